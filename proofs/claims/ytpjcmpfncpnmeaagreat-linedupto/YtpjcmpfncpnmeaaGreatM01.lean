import Derived.RunT
import Derived.DyingOn
import Derived.Test.YtpjcmpfncpnmeaaGreatM00
set_option linter.all false
set_option maxHeartbeats 1000000
namespace Go.Ren
section
variable{G:Gs}{p p':Program}{Z:Pi}(F:Fit G p p')(R:Rn G Z)
omit F R in
theorem DF(n):SR p p' Z (λ_ _=>True) (askRoom n) (askRoom n):=by exact eA (H2 (m:=.noRoom)) (aO trivial)
theorem DG{e cs}(h:cs.map (bC Z)=cs):SR p p' Z (λa a'=>a'=bX Z a/\Z.gh a.block=none) (newRow e cs) (newRow e cs):=by have:=qj (p:=p) (p':=p') (Z:=Z) e cs;rwa [h]at this
theorem Ct{t e:TypeId}(F:Fit G p p')(a:t<p.types.size)(h:p.underlying t=some (.slice e)):e<p.types.size:=by have:=Dt F a h;simpa[zS]using this
theorem vd(v):SR p p' Z (λa b=>b=a) (asInt v) (asInt (bC Z v)):=by refine aL (ql v) ?_;rintro _ x rfl;exact aO rfl
include F R
theorem gU{α b β c Q}(e){f:α->Sem β}{f':b->Sem c}(a:abh e=false:=by rfl):SR p p' Z Q (runtimePanic e>>=f) (runtimePanic e>>=f'):=aL (Q:=λ_ _=>False) (bK F e a) (λ_ _ h=>h.elim)
theorem H5{t:TypeId}(k:t<p.types.size)(l c):SR p p' Z (VR Z) (Instr.makeSlice t l c) (Instr.makeSlice t (bC Z l) (bC Z c)):=by refine aL (aT F t) ?_;rintro _ d ⟨rfl,h⟩;cases d with
 |slice e=>
   have j:=Ct F k h;refine aL (vd l) ?_;rintro _ l rfl;refine aL (vd c) ?_;rintro _ c rfl;refine aL (fQ F e) ?_;rintro _ i ⟨rfl,_⟩;refine eA ?_ ?_;.refine eA (gU F R _) (eA (gU F R _) ?_);refine aL gY ?_;rintro _ n rfl;exact gU F R _
   .refine aL (DF _) ?_;intro _ _ _;refine aL (dS F e) ?_;rintro _ n rfl;refine eA ?_ ?_;.refine aL (Q:=λa b=>b=a/\a.map (bC Z)=a) (aO ⟨rfl,S8⟩) ?_;rintro _ z ⟨rfl,f⟩;refine aL (Q:=λa b=>b=bX Z a/\Z.gh a.block=none) (DG (sK f _)) ?_;rintro a _ ⟨rfl,g⟩;exact aO (by simp[VR,fP g])
    .refine aL (fY F j) ?_;rintro _ z ⟨rfl,f⟩;refine aL (Q:=λa b=>b=a/\a.map (bC Z)=a) (aO ⟨rfl,by rw[<-lW,f]⟩) ?_;rintro _ z ⟨rfl,f⟩;refine aL (Q:=λa b=>b=bX Z a/\Z.gh a.block=none) (DG (sK f _)) ?_;rintro a _ ⟨rfl,g⟩;exact aO (by simp[VR,fP g])
 |_=>exact aN rfl
omit R
theorem Fu{t:TypeId}(k:t<p.types.size)(n c):SR p p' Z (VR Z) (Instr.buildSlice t n c) (Instr.buildSlice t n (c.map λ(i,x)=>(i,bC Z x))):=by refine aL (aT F t) ?_;rintro _ d ⟨rfl,h⟩;cases d with
 |slice e=>
   have j:=Ct F k h;refine aL (dS F e) ?_;rintro _ s rfl;refine eA (aN rfl) ?_;refine eA ?_ ?_;.refine aL (Q:=λa b=>b=a/\a.map (bC Z)=a) (aO ⟨rfl,S8⟩) ?_;rintro _ z ⟨rfl,f⟩;have:=yX (Z:=Z) (λi=>some (i*s,s)) c.toList ((Array.range (n*s)).map λx=>z[x%z.size]!);rw[sK f]at this;dsimp only;rw[sj,this];cases Instr.fill (λi=>some (i*s,s)) ((Array.range (n*s)).map λx=>z[x%z.size]!) c.toList with
    |none=>exact aN rfl
    |some cs=>refine aL (qj e cs) ?_;rintro a _ ⟨rfl,g⟩;exact aO (by simp[VR,fP g])
   .refine aL (fY F j) ?_;rintro _ z ⟨rfl,f⟩;refine aL (Q:=λa b=>b=a/\a.map (bC Z)=a) (aO ⟨rfl,by rw[<-lW,f]⟩) ?_;rintro _ z ⟨rfl,f⟩;have:=yX (Z:=Z) (λi=>some (i*s,s)) c.toList ((Array.range (n*s)).map λx=>z[x%z.size]!);rw[sK f]at this;dsimp only;rw[sj,this];cases Instr.fill (λi=>some (i*s,s)) ((Array.range (n*s)).map λx=>z[x%z.size]!) c.toList with
    |none=>exact aN rfl
    |some cs=>refine aL (qj e cs) ?_;rintro a _ ⟨rfl,g⟩;exact aO (by simp[VR,fP g])
 |_=>exact aN rfl
omit F in
theorem Kc(x):SR p p' Z (λa b=>b=a/\∀q l c,x=.slice q l c->a<=l) (Builtin.lenOf x) (Builtin.lenOf (bC Z x)):=by cases x with
 |slice a l c=>rw[bN];exact aO ⟨rfl,λq f d e=>by cases e;exact L9⟩
 |string s=>rw[bV];exact aO ⟨rfl,λq f d e=>by cases e⟩
 |_=>exact aN rfl
omit F in
theorem rM(s n x)(d:∀q l c,x=.slice q l c->n<=l):SR p p' Z (λa b=>b=a.map (bC Z)/\(n=0->a=#[])) (Builtin.firstCells s n x) (Builtin.firstCells s n (bC Z x)):=by cases x with
 |slice a l c=>cases a with
   |none=>rw[bN];exact aO S8
   |some a=>
     rw[bN];by_cases h0:n=0;.subst h0;show SR p p' Z _ (loadCells a (0*s)) (loadCells _ (0*s));rw[Ui];exact aO S8
     .refine(xh a _ l c λh _=>?_).mono λ_ _ h=>⟨h,λh=>absurd h h0⟩;have:=d _ _ _ rfl;rw[show n=0 by omega,Ui]
 |string s=>rw[bV];refine aO ⟨by simp[Uf],λh=>?_⟩;subst h;simp
 |_=>exact aN rfl
theorem Zm(f t args):SR p p' Z (VR Z) (Builtin.copy_ f t args) (Builtin.copy_ f t (args.map (bC Z))):=by unfold Builtin.copy_;simp;cases f[0]? with
 |none=>exact aN rfl
 |some t=>cases args[0]? with
   |none=>exact aN rfl
   |some d=>cases args[1]? with
     |none=>exact aN rfl
     |some s=>refine aL (aT F t) ?_;rintro _ u ⟨rfl,_⟩;cases u with
       |slice e=>cases d with
         |slice b l c=>rw[bN];refine aL (Kc s) ?_;rintro _ n ⟨rfl,j⟩;refine aL (dS F e) ?_;rintro _ z rfl;refine aL (rM z _ s λq k g e=>bT (Nat.min_le_left _ _) (j q k g e)) ?_;rintro cs _ ⟨rfl,i⟩;cases b with
           |none=>exact aO (by simp[VR,goInt])
           |some a=>refine aL (Q:=λ_ _=>True) (by have:=u6 (p:=p) (p':=p') (Z:=Z) a cs.toList 0 l c (λh _=>by rw[i (by rw[h];exact Nat.min_zero _)]);simpa[Addr.add]using this) ?_;intro _ _ _;exact aO (by simp[VR,goInt])
         |_=>exact aN rfl
       |_=>exact aN rfl
omit F in
theorem Ke(s l n:Nat)(b:Option Addr)(x:Value)(w:World)(es:Array Event):∃a,(Builtin.mayShare s l n b x).runT p w es=(.ok a w,es):=by
 have hold:∀(a:Addr) (m:Nat) {γ:Type} (f:Bool->Sem γ),(∀t,∃y,(f t).runT p w es=(.ok y w,es))->∃y,(Builtin.holdsCells a m>>=f).runT p w es=(.ok y w,es):=λa m γ f hf=>by show∃y,(Sem.shape a.block _).runT p w es=_;simp only[Sem.runT];cases w.shape? a.block with
  |none=>exact hf _
  |some z=>exact hf _
 have fro:∀(a:Addr) {γ:Type} (f:Bool->Sem γ),(∀t,∃y,(f t).runT p w es=(.ok y w,es))->∃y,(frozen a>>=f).runT p w es=(.ok y w,es):=λa γ f hf=>by show∃y,(Sem.frozen a _).runT p w es=_;simp only[Sem.runT];exact hf _
 have last:∀t:Bool,∃y,(if(!t)=true then pure true else match x with|.slice (some c) _ _=>do let h<-Builtin.holdsCells c (n*s);pure (!h||b.any (·.block==c.block))|_=>pure false:Sem Bool).runT p w es=(.ok y w,es):=λt=>by
  split;.exact⟨_,rfl⟩
  .split;.exact hold _ _ _ λt=>⟨_,rfl⟩
   .exact⟨_,rfl⟩
 unfold Builtin.mayShare;cases b with
 |none=>exact last true
 |some a=>refine hold a _ _ λt=>?_;refine fro _ _ λt'=>?_;exact last _
end
section
variable{G:Gs}{p p':Program}{Z:Pi}(F:Fit G p p')(R:Rn G Z)
theorem o5{z}(h:z.map (bC Z)=z)(n):(Builtin.zeroCells z n).map (bC Z)=Builtin.zeroCells z n:=sK h _
include F R
theorem RU(j t args)(h:∀s,j[0]?=some s->s<p.types.size):SR p p' Z (VR Z) (Builtin.append_ j t args) (Builtin.append_ j t (args.map (bC Z))):=by unfold Builtin.append_;simp only[kW];cases E:j[0]? with
 |none=>exact aN rfl
 |some st=>have G:=h st E;cases args[0]? with
   |none=>exact aN rfl
   |some s=>cases args[1]? with
     |none=>exact aN rfl
     |some x=>simp only[iN];refine aL (aT F st) ?_;rintro _ u ⟨rfl,H⟩;cases u with
       |slice e=>have o:=Ct F G H;cases s with
         |slice b sl d=>
           rw[bN];refine aL (dS F e) ?_;rintro _ size rfl;have M:∀n,SR p p' Z (λa b=>b=a.map (bC Z)) (do let z<-zeroValue e;pure (Builtin.zeroCells z.cells n)) (do let z<-zeroValue e;pure (Builtin.zeroCells z.cells n)):=λn=>by refine aL (fY F o) ?_;rintro _ z ⟨rfl,f⟩;exact aO (o5 (by rw[<-lW,f]) n).symm
           have fin:∀old new g cap,SR p p' Z (VR Z) (do let z<-zeroValue e;let a<-newRow e (old++new++Builtin.zeroCells z.cells (cap -g));pure (.slice (some a) g cap)) (do let z<-zeroValue e;let a<-newRow e (old.map (bC Z)++new.map (bC Z)++Builtin.zeroCells z.cells (cap -g));pure (.slice (some a) g cap)):=λold new g cap=>by refine aL (fY F o) ?_;rintro _ z ⟨rfl,f⟩;refine aL (Q:=λa b=>b=bX Z a/\Z.gh a.block=none) (by rw[<-o5 (Z:=Z) (show z.cells.map (bC Z)=z.cells by rw[<-lW,f]),<-Uj,<-Uj];rw[o5 (Z:=Z) (show z.cells.map (bC Z)=z.cells by rw[<-lW,f])];exact qj _ _) ?_;rintro a _ ⟨rfl,B⟩;exact aO (by simp[VR,fP B])
           have K:SR p p' Z (λa b=>b=a.map (bC Z)/\(sl=0->a=#[])) (Builtin.firstCells size sl (.slice b sl d)) (Builtin.firstCells size sl (.slice (Jr Z b sl d) sl d)):=by
            have:=rM (p:=p) (p':=p') (Z:=Z) size sl (.slice b sl d) λq l c e=>by cases e;exact L9
            rwa [bN]at this
           have put:∀(a:Addr) (new:Array Value),(sl=0->d=0->new.toList=[])->SR p p' Z (λ_ _=>True) (storeCells (a.add (sl*size)) new.toList) (storeCells ((ym Z sl d a).add (sl*size)) (new.map (bC Z)).toList):=λa new f=>by have:=u6 (p:=p) (p':=p') (Z:=Z) a new.toList (sl*size) sl d f;rwa [<-sj]at this
           cases j[1]?;case' none=>refine aL (Q:=λa b=>b=a) (aO rfl) ?_
           case' some L=>refine aL (aT F L) ?_;rintro _ u ⟨rfl,_⟩;refine aL (Q:=λa b=>b=a) (aO rfl) ?_
           all_goals rintro _ y rfl;refine eA ?_ ?_
           all_goals by_cases I:∃r,x=.chan r
           all_goals first
            | (obtain⟨r,rfl⟩:=I
               exact aN rfl)
            |skip
           all_goals by_cases v:∃q l c,x=.slice q l c
           all_goals first
            | (obtain⟨q,l,c,rfl⟩:=v
               exact aN rfl)
            | (refine aL (vd x) ?_
               rintro _ l rfl;refine eA (gU F R _) ?_;refine aL (fQ F e) ?_;rintro _ i ⟨rfl,_⟩;refine eA (aL gY (by rintro _ n rfl;exact gU F R _)) ?_;refine aL (Q:=λa b=>b=a/\∀q l c,x=.slice q l c->a<=l) (aO ⟨rfl,λq l c e=>absurd ⟨q,l,c,e⟩ v⟩) ?_)
            |refine aL (Kc x) ?_
           all_goals
            rintro _ n ⟨rfl,C⟩;have k:SR p p' Z (λa b=>b=a.map (bC Z)/\(n=0->a=#[])) (if(!y)=true then Builtin.firstCells size n x else if n*size=0 then pure #[]else do let z<-zeroValue e;pure (Builtin.zeroCells z.cells n)) (if(!y)=true then Builtin.firstCells size n (bC Z x)else if n*size=0 then pure #[]else do let z<-zeroValue e;pure (Builtin.zeroCells z.cells n)):=by
             refine eA (rM _ _ _ C) ?_;by_cases h0:n*size=0;.rw[bM h0];exact aO S8
             .rw[aX h0];exact(M _).mono λ_ _ h=>⟨h,λh=>absurd (by rw[h,Ui]) h0⟩
            refine Zl (λP=>?_) (λ_=>?_)
            .refine aL k ?_;rintro new _ ⟨rfl,D⟩;have same:∀a,ym Z (sl+n) d a=ym Z sl d a:=λa=>by
              unfold ym;by_cases f:sl=0/\d=0;.rw[bM f,bM O9]
              .rw[aX f];by_cases J:sl+n=0/\d=0;.exact absurd O9 f
               .rw[aX J]
             cases b with
             |none=>exact aO (by simp[VR])
             |some a=>refine aL (put a new λN O=>by rw[D O9]) ?_;intro _ _ _;exact aO (by simp[VR,same])
            .refine aL (fQ F e) ?_;rintro _ i ⟨rfl,_⟩;refine eA (gU F R _) ?_;refine aL (fQ F e) ?_;rintro _ i ⟨rfl,_⟩;refine eA ?_ ?_
             .refine aL (Q:=λ_ _=>False) (eA (bK F _) ?_) (λ_ _ h=>h.elim);refine SR.qh (dW.then (λm=>?_) λw es=>?_)
              .intro w es;cases m;.exact⟨_,w,_,rfl,rfl⟩
               .exact⟨_,w,es,rfl,rfl⟩
              .obtain⟨a,A⟩:=Ke (p:=p) size sl n b x w es;exact⟨a,w,es,A⟩
             .refine aL gY ?_;rintro _ cap rfl;refine aL (fQ F e) ?_;rintro _ i ⟨rfl,_⟩;refine aL (DF _) ?_;intro _ _ _;refine aL K ?_;rintro old _ ⟨rfl,-⟩;refine aL k ?_;rintro new _ ⟨rfl,-⟩;exact fin old new _ _
         |_=>exact aN rfl
       |_=>exact aN rfl
end
theorem DI{α β:Type}(g:α->β)(f:α->α)(f':β->β)(h:∀x,g (f x)=f' (g x))(a:Array α)(i):(a.modify i f).map g=(a.map g).modify i f':=by grind
section
variable{G:Gs}{p p':Program}{Z:Pi}(F:Fit G p p')(R:Rn G Z)
include F R
omit R in
theorem lK(e):∀n k t v,uu p k t=true->SR p p' Z (λ_ _=>True) (Instr.checkKey e n t v) (Instr.checkKey e n t (bC Z v))
 |0,_,_,_,_=>aN rfl
 |_+1,0,_,_,h=>by cases h
 |n+1,k+1,t,v,a=>by have c:=lK e n k;refine aL (aT F t) ?_;rintro _ u ⟨rfl,i⟩;simp[uu,i]at a;replace a:=a.2;cases u with
   |interface ms=>cases a
   |array l el=>
     cases v<;>first|exact aN rfl|skip
     rename_i cs;simp only[dB];refine aL (z7 l _ λf b=>?_) (λ_ _ _=>aO trivial);refine aL (dS F el) ?_;rintro _ m rfl;refine aL (kY F el cs _) ?_;rintro v _ rfl;refine aL (c el v a) ?_;intro _ _ _;exact aO rfl
   |struct d=>
     cases v<;>first|exact aN rfl|skip
     rename_i cs;simp only[dB];refine aL (z6 d _ λf g b=>?_) (λ_ _ _=>aO trivial);refine eA ?_ (aO rfl);refine aL (kY F f.type cs _) ?_;rintro v _ rfl;refine aL (c f.type v (AW.1 a f g)) ?_;intro _ _ _;exact aO rfl
   |_=>exact aO trivial
omit F R in
theorem jI{t k e}(h:yN p t=true)(a:p.underlying t=some (.map k e)):uu p 5 k=true:=by simpa[yN,a]using h
def RV(Z:Pi):Option (Nat×Value)->Option (Nat×Value):=Option.map λ(i,v)=>(i,bC Z v)
theorem xt{n}(t)(c:uu p n t=true)(k):∀es i,SR p p' Z (λa b=>b=RV Z a) (Instr.findAsking t k es i) (Instr.findAsking t (bC Z k) (es.map (mB Z)) i)
 |[],_=>aO rfl
 |e::es,i=>by refine aL (J9 F R t k e.key c) ?_;rintro _ b rfl;exact eA (aO rfl) (xt t c k es (i+1))
omit F R in
theorem Gh(Z r d b):Instr.sameNow d (ot Z r) b=none/\Instr.sameNow d b (ot Z r)=none:=by obtain h|⟨_,h⟩|⟨_,_,_,h⟩|⟨_,h⟩|⟨_,h⟩|⟨_,_,_,h⟩:=fL Z r<;>rw[h]<;>constructor<;>cases d<;>cases b<;>rfl
omit F R in
theorem Gi(r d b):Instr.sameNow d (.chan r) b=none/\Instr.sameNow d b (.chan r)=none:=by constructor<;>cases d<;>cases b<;>rfl
omit F R in
theorem Kf(d a b):Instr.sameNow d (bC Z a) (bC Z b)=Instr.sameNow d a b:=by
 by_cases c:∃r,a=.chan r;.obtain⟨r,rfl⟩:=c;rw[cJ,(Gh Z r d _).1,(Gi r d b).1]
 by_cases e:∃r,b=.chan r;.obtain⟨r,rfl⟩:=e;rw[cJ,(Gh Z r d _).2,(Gi r d a).2]
 cases d<;>cases a<;>first|rfl|exact absurd ⟨_,rfl⟩ c|(cases b<;>first|exact absurd ⟨_,rfl⟩ e|simp[cQ,bV,dX,bG,cY,cG,bN,dQ,Instr.sameNow])
omit F R in
theorem Bo(d k):∀es i,Instr.findNow d (bC Z k) (es.map (mB Z)) i=(Instr.findNow d k es i).map (RV Z)
 |[],_=>rfl
 |e::es,i=>by simp[Instr.findNow];have:Instr.sameNow d (bC Z k) (mB Z e).key=Instr.sameNow d k e.key:=Kf d k e.key;rw[this];cases Instr.sameNow d k e.key with
   |none=>rfl
   |some b=>cases b with
     |true=>rfl
     |false=>exact Bo d k es (i+1)
theorem qp{n}(t)(c:uu p n t=true)(k es):SR p p' Z (λa b=>b=RV Z a) (Instr.findKey t k es) (Instr.findKey t (bC Z k) (es.map (mB Z))):=by refine aL (aT F t) ?_;rintro _ u ⟨rfl,_⟩;rw[Bo];cases Instr.findNow u k es 0 with
 |none=>exact xt F R t c k es 0
 |some r=>exact aO rfl
omit R in
theorem map_lt{t k e:TypeId}(a:t<p.types.size)(h:p.underlying t=some (.map k e)):k<p.types.size/\e<p.types.size:=by have:=Dt F a h;simpa[zS]using this
theorem RX{t:TypeId}(j:t<p.types.size)(d:yN p t=true)(x k ok):SR p p' Z (VR Z) (Instr.lookup t x k ok) (Instr.lookup t (bC Z x) (bC Z k) ok):=by refine aL (aT F t) ?_;rintro _ u ⟨rfl,c⟩;cases u with
 |map i e=>
   have h:=map_lt F j c;have g:∀es:Array MapEntry,(es.map (mB Z)).isEmpty=es.isEmpty:=λes=>by simp[Array.isEmpty]
   cases x with
   |map r=>cases r with
     |none=>simp only[dQ];refine aL (Q:=λa b=>b=a.map (mB Z)) (aO S8) ?_;rintro es _ rfl;rw[g,sj];refine aL (lK F _ _ 5 _ _ (jI d c)) ?_;intro _ _ _;refine aL (qp F R i (jI d c) k es.toList) ?_;rintro r _ rfl;cases r with
       |none=>refine aL (fY F h.2) ?_;rintro _ z ⟨rfl,f⟩;refine aL (Q:=λa b=>b=(bC Z a.1,a.2)) (aO (by rw[f])) ?_;rintro⟨v,b⟩ _ rfl;refine aO ?_;cases ok<;>simp[VR]
       |some r=>refine aL (Q:=λa b=>b=(bC Z a.1,a.2)) (aO rfl) ?_;rintro⟨v,b⟩ _ rfl;refine aO ?_;cases ok<;>simp[VR]
     |some r=>
       simp only[dQ];refine aL gX ?_;rintro o _ rfl;cases o<;>first|exact aN rfl|skip
       refine aL (Q:=λa b=>b=a.map (mB Z)) (aO rfl) ?_;rintro es _ rfl;rw[g,sj];refine aL (lK F _ _ 5 _ _ (jI d c)) ?_;intro _ _ _;refine aL (qp F R i (jI d c) k es.toList) ?_;rintro r _ rfl;cases r with
       |none=>refine aL (fY F h.2) ?_;rintro _ z ⟨rfl,f⟩;refine aL (Q:=λa b=>b=(bC Z a.1,a.2)) (aO (by rw[f])) ?_;rintro⟨v,b⟩ _ rfl;refine aO ?_;cases ok<;>simp[VR]
       |some r=>refine aL (Q:=λa b=>b=(bC Z a.1,a.2)) (aO rfl) ?_;rintro⟨v,b⟩ _ rfl;refine aO ?_;cases ok<;>simp[VR]
   |_=>exact aN rfl
 |_=>exact aN rfl
omit F R in
theorem VC{f:Value->Value->Bool}(d:∀x y,f x y=true->x=y):∀(a b:List Value),a.length=b.length->((a.zip b).all λ(x,y)=>f x y)=true->a=b
 |[],[],_,_=>rfl
 |x::a,y::b,c,h=>by simp only[List.zip_cons_cons,iY,dJ]at h;rw[d x y h.1,VC d a b (by simpa using c) h.2]
 |[],_::_,c,_=>by simp at c
 |_::_,[],c,_=>by simp at c
omit F R in
theorem Kg{x y:ByteArray}(h:(x==y)=true):x=y:=by obtain⟨x⟩:=x;obtain⟨y⟩:=y;have h:(x==y)=true:=h;rw[eq_of_beq h]
omit F R in
theorem Bp:∀n a b,Instr.sameBits n a b=true->a=b:=by intro n;induction n with
 |zero=>intro a b h;cases a<;>cases b<;>first|(simp_all[Instr.sameBits];done)|exact congrArg Value.string (Kg h)
 |succ n c=>intro a b h;cases a with
   |iface t v=>cases b with
     |iface u w=>simp only[Instr.sameBits,dJ,uM]at h;rw[h.1,c v w h.2]
     |_=>simp[Instr.sameBits]at h
   |agg x=>cases b with
     |agg y=>simp only[Instr.sameBits,dJ,uM]at h;have:=VC (f:=Instr.sameBits n) (λx y e=>c x y e) x.toList y.toList (by simpa using h.1) h.2;rw[Array.toList_inj.1 this]
     |_=>simp[Instr.sameBits]at h
   |_=>cases b<;>first|(simp_all[Instr.sameBits];done)|exact congrArg Value.string (Kg h)
omit F in
theorem H6(j:G.strict=true):∀n a b,Instr.sameBits n (bC Z a) (bC Z b)=Instr.sameBits n a b:=by
 have g:∀a b:Option Addr,(a.map (bX Z)==b.map (bX Z))=(a==b):=λa b=>by cases a<;>cases b<;>first|rfl|exact addr_eq R _ _
 have d:∀a b:Option Nat,(a.map Z.f==b.map Z.f)=(a==b):=λa b=>by
  have hi:∀x y,(Z x==Z y)=(x==y):=λx y=>by
   by_cases h:x=y;.simp[h]
   .rw[beq_eq_false_iff_ne.mpr h,beq_eq_false_iff_ne.mpr (λe=>h (R.inj _ _ e))]
  cases a<;>cases b<;>first|rfl|exact hi _ _
 have c:∀r,ot Z r=.chan r:=λr=>by cases r with
  |none=>rfl
  |some k=>show Z.s k=_;rw[R.sub,(G.id j).1]
 intro n;induction n with
 |zero=>intro a b;cases a<;>cases b<;>simp only[cQ,bV,dX,bG,cY,cG,bN,dQ,cJ,dK,cT,cS,cD,dB,dI,c,Instr.sameBits,g,d]
 |succ n i=>intro a b;cases a<;>cases b<;>simp only[cQ,bV,dX,bG,cY,cG,bN,dQ,cJ,dK,cT,cS,cD,dB,dI,c,Instr.sameBits,g,d,i];rename_i x y;rw[Jd,Jd];congr 1;rw[sj,sj,List.zip_map,List.all_map];congr 1;funext ⟨u,v⟩;exact i u v
omit F in
theorem B6(c:G.strict=true)(a b):SR p p' Z (VR Z) (Instr.keyThatStays a b) (Instr.keyThatStays (bC Z a) (bC Z b)):=by unfold Instr.keyThatStays;rw[H6 R c];refine eA (aO rfl) ?_;refine aL gY ?_;rintro _ n rfl;refine aO ?_;split<;>rfl
theorem H7(d:G.strict=true)(t)(a:yN p t=true)(m k v):SR p p' Z (λ_ _=>True) (Instr.mapUpdate t m k v) (Instr.mapUpdate t (bC Z m) (bC Z k) (bC Z v)):=by
 refine aL (aT F t) ?_;rintro _ u ⟨rfl,b⟩;cases u<;>first|exact aN rfl|skip
 rename_i g e;cases m<;>first|exact aN rfl|skip
 rename_i r;cases r with
 |none=>simp;exact bK F _
 |some r=>
   simp;refine aL gX ?_;rintro o _ rfl;cases o<;>first|exact aN rfl|skip
   rename_i es c;refine aL (lK F _ _ 5 _ _ (jI a b)) ?_;intro _ _ _;simp;refine aL (qp F R g (jI a b) k es.toList) ?_;rintro f _ rfl;cases f with
   |none=>have:=gI (p:=p) (p':=p') (Z:=Z) (r:=r) (o:=.map (es.push {key:=k,val:=v,born:=c}) (c+1)) rfl;simpa[dO,mB,RV]using this
   |some f=>
     obtain⟨i,x⟩:=f;refine aL (Q:=VR Z) ?_ ?_;.have:=B6 (p:=p) (p':=p') R d (((es[i]?).map (·.key)).getD k) k;cases h:es[i]? with
      |none=>simpa[h]using this
      |some y=>simpa[h,mB]using this
     .rintro key _ rfl;have:=gI (p:=p) (p':=p') (Z:=Z) (r:=r) (o:=.map (es.modify i λe=>{e with key:=key,val:=v}) c) rfl;have h:dO Z (.map (es.modify i λe=>{e with key:=key,val:=v}) c)=.map ((es.map (mB Z)).modify i λe=>{e with key:=bC Z key,val:=bC Z v}) c:=by simp[dO];exact DI (mB Z) (λe=>{e with key:=key,val:=v}) (λe=>{e with key:=bC Z key,val:=bC Z v}) (λx=>rfl) es i
      rwa [h]at this
end
theorem RY{α β:Type}(f:α->β):∀(l:List α) (i:Nat),(l.eraseIdx i).map f=(l.map f).eraseIdx i
 |[],_=>rfl
 |_::_,0=>rfl
 |a::l,i+1=>by simp[RY f l i]
section
variable{G:Gs}{p p':Program}{Z:Pi}(F:Fit G p p')(R:Rn G Z)
include F R
theorem RZ(b t args)(a:(b[0]?).all (yN p)=true):SR p p' Z (VR Z) (Builtin.delete_ b t args) (Builtin.delete_ b t (args.map (bC Z))):=by
 unfold Builtin.delete_;simp;cases g:b[0]?<;>first|exact aN rfl|skip
 rw[g]at a;cases args[0]?<;>first|exact aN rfl|skip
 cases args[1]?<;>first|exact aN rfl|skip
 rename_i t m k;refine aL (aT F t) ?_;rintro _ u ⟨rfl,d⟩;cases u<;>first|exact aN rfl|skip
 rename_i j e;cases m<;>first|exact aN rfl|skip
 rename_i r;cases r with
 |none=>simp;exact aL (lK F _ _ 5 _ _ (jI a d)) (λ_ _ _=>aO (by simp[VR]))
 |some r=>
   simp;refine aL gX ?_;rintro o _ rfl;cases o<;>first|exact aN rfl|skip
   rename_i es c;refine aL (Q:=λ_ _=>True) (by
    have:(es.map (mB Z)).isEmpty=es.isEmpty:=by simp[Array.isEmpty]
    rw[this];exact lK F _ _ 5 _ _ (jI a d)) ?_
   intro _ _ _;simp;refine aL (qp F R j (jI a d) k es.toList) ?_;rintro f _ rfl;cases f with
   |none=>have:=gI (p:=p) (p':=p') (Z:=Z) (r:=r) (o:=.map es c) rfl;exact aL this (λ_ _ _=>aO (by simp[VR]))
   |some f=>
     obtain⟨i,x⟩:=f;have:=gI (p:=p) (p':=p') (Z:=Z) (r:=r) (o:=.map (es.eraseIdxIfInBounds i) c) rfl;have h:(es.eraseIdxIfInBounds i).map (mB Z)=(es.map (mB Z)).eraseIdxIfInBounds i:=by grind
     simp[dO,h]at this;exact aL this (λ_ _ _=>aO (by simp[VR]))
omit R in
theorem VD(t x):SR p p' Z (VR Z) (Instr.range t x) (Instr.range t (bC Z x)):=by
 refine aL (aT F t) ?_;rintro _ u ⟨rfl,e⟩;have fin:∀o,cI p o=true->SR p p' Z (VR Z) (newObj o>>=λr=>pure (.pointer (some ⟨r,0,none⟩))) (newObj (dO Z o)>>=λr=>pure (.pointer (some ⟨r,0,none⟩))):=λo d=>by refine aL (p5 d) ?_;rintro r _ rfl;exact aO (by simp[VR])
 cases u with
 |string=>
   cases x<;>first|exact aN rfl|skip
   simp;exact fin (.stringIter _ 0) rfl
 |map a b=>
   cases x<;>first|exact aN rfl|skip
   rename_i r;cases r with
   |none=>simp;exact fin (.mapIter none 0 #[] 0) rfl
   |some r=>
     simp;refine aL gX ?_;rintro o _ rfl;cases o<;>first|exact aN rfl|skip
     rename_i es c;exact fin (.mapIter (some r) c #[] c) rfl
 |_=>exact aN rfl
omit F R in
theorem ve(f:Nat->Bool)(es:Array MapEntry):(es.map (mB Z)).filter (λe=>f e.born)=(es.filter (λe=>f e.born)).map (mB Z):=by rw[Array.filter_map];rfl
omit F R in
theorem VE(f:Nat->Bool)(es:Array MapEntry):(es.map (mB Z)).all (λe=>f e.born)=es.all (λe=>f e.born):=by rw[Array.all_map];rfl
omit F R in
theorem Zn(i s t):SR p p' Z (VR Z) (Instr.next i s t) (Instr.next (bC Z i) s t):=by
 cases i<;>first|exact aN rfl|skip
 rename_i a;cases a with
 |none=>exact aN rfl
 |some a=>obtain⟨r,off,sp⟩:=a;cases off with
   |succ n=>exact aN rfl
   |zero=>simp;refine aL gX ?_;rintro o _ rfl;cases o with
     |stringIter b pos=>cases s with
       |false=>exact aN rfl
       |true=>refine eA ?_ (aO (by simp[VR]));have:=gI (p:=p) (p':=p') (Z:=Z) (r:=r) (o:=.stringIter b (pos+(Utf8.decode b pos).2)) rfl;exact aL this (λ_ _ _=>aO (by simp[VR,goInt]))
     |mapIter m since seen last=>cases s with
       |true=>cases m<;>exact aN rfl
       |false=>cases m with
         |none=>exact aO (by simp[VR])
         |some m=>
           refine aL gX ?_;rintro o _ rfl;cases o<;>first|exact aN rfl|skip
           rename_i es c;dsimp[dO];have f:=VE (Z:=Z) (λn=>decide (n>=last)) es;have g:(es.map (mB Z)).isEmpty=es.isEmpty:=by simp[Array.isEmpty]
           rw[f,g];refine eA (aN rfl) ?_;have h:=ve (Z:=Z) (λn=>!seen.contains n) es;rw[h];have j:=ve (Z:=Z) (λn=>decide (n<since)) (es.filter λe=>!seen.contains e.born);have k:=ve (Z:=Z) (λn=>decide (n>=since)) (es.filter λe=>!seen.contains e.born);rw[j,k];generalize(es.filter λe=>!seen.contains e.born).filter (λe=>decide (e.born<since))=old;generalize(es.filter λe=>!seen.contains e.born).filter (λe=>decide (e.born>=since))=new;have l:((if(old.map (mB Z)).isEmpty=true then#[none]else#[])++Array.map some (old.map (mB Z)++new.map (mB Z)))=((if old.isEmpty=true then#[none]else#[])++Array.map some (old++new)).map (Option.map (mB Z)):=by
            have:(old.map (mB Z)).isEmpty=old.isEmpty:=by simp[Array.isEmpty]
            rw[this];split<;>simp[Uf]
           rw[l];generalize((if old.isEmpty=true then#[none]else#[])++Array.map some (old++new))=d;rw[Jd];refine aL gY ?_;rintro _ n rfl;rw[kW];cases d[n]? with
           |none=>exact aN rfl
           |some e=>cases e with
             |none=>exact aO (by simp[VR])
             |some e=>have:=gI (p:=p) (p':=p') (Z:=Z) (r:=r) (o:=.mapIter (some m) since (seen.push e.born) c) rfl;exact aL this (λ_ _ _=>aO (by simp[VR,mB]))
     |_=>exact aN rfl
omit R in
theorem Nb(t x):SR p p' Z (VR Z) (Instr.makeMap t x) (Instr.makeMap t (x.map (bC Z))):=by
 have fin:SR p p' Z (VR Z) (newObj (.map #[] 0)>>=λr=>pure (.map (some r))) (newObj (.map #[] 0)>>=λr=>pure (.map (some r))):=by refine aL (Q:=λr a=>a=Z r) (by have:=p5 (p:=p) (p':=p') (Z:=Z) (o:=.map #[] 0) rfl;simpa[dO]using this) ?_;rintro r _ rfl;exact aO (by simp[VR])
 cases x with
 |none=>exact fin
 |some x=>
   refine aL (aT F t) ?_;rintro _ u ⟨rfl,b⟩;cases u<;>first|exact aN rfl|skip
   refine aL (vd x) ?_;rintro _ n rfl;exact fin
omit F R in
theorem Ad(f:Value->Value->Sem Value)(h:∀a b,SR p p' Z (VR Z) (f a b) (f (bC Z a) (bC Z b))):∀(l:List Value) (a:Value),SR p p' Z (VR Z) (l.foldlM f a) ((l.map (bC Z)).foldlM f (bC Z a))
 |[],a=>by simp;exact aO rfl
 |b::l,a=>by refine aL (h a b) ?_;rintro v _ rfl;exact Ad f h l v
omit F R in
theorem Zo(a b):SR p p' Z (VR Z) (Builtin.min2 a b) (Builtin.min2 (bC Z a) (bC Z b)):=by cases a with
 |int k x=>cases b with
   |int k' y=>simp;exact aO (by simp[VR])
   |pointer a=>cases a<;>exact aN rfl
   |_=>exact aN rfl
 |float k x=>cases b with
   |float k' y=>
     simp[Builtin.min2];split;.refine aL gY ?_;rintro _ n rfl;exact aO (by simp[VR])
     all_goals exact aO (by simp[VR])
   |pointer a=>cases a<;>exact aN rfl
   |_=>exact aN rfl
 |string x=>cases b with
   |string y=>simp;refine aL ((rL (Z:=Z) .leq x y).val) ?_;rintro v _ rfl;refine aL (zU v) ?_;rintro _ b rfl;exact aO (by simp[VR])
   |pointer a=>cases a<;>exact aN rfl
   |_=>exact aN rfl
 |pointer a=>cases a<;>cases b<;>first|exact aN rfl|(rename_i c;cases c<;>exact aN rfl)
 |_=>cases b<;>first|exact aN rfl|(rename_i c;cases c<;>exact aN rfl)
omit F R in
theorem Zp(a b):SR p p' Z (VR Z) (Builtin.max2 a b) (Builtin.max2 (bC Z a) (bC Z b)):=by cases a with
 |int k x=>cases b with
   |int k' y=>simp;exact aO (by simp[VR])
   |pointer a=>cases a<;>exact aN rfl
   |_=>exact aN rfl
 |float k x=>cases b with
   |float k' y=>
     simp[Builtin.max2];split;.refine aL gY ?_;rintro _ n rfl;exact aO (by simp[VR])
     all_goals exact aO (by simp[VR])
   |pointer a=>cases a<;>exact aN rfl
   |_=>exact aN rfl
 |string x=>cases b with
   |string y=>simp;refine aL ((rL (Z:=Z) .geq x y).val) ?_;rintro v _ rfl;refine aL (zU v) ?_;rintro _ b rfl;exact aO (by simp[VR])
   |pointer a=>cases a<;>exact aN rfl
   |_=>exact aN rfl
 |pointer a=>cases a<;>cases b<;>first|exact aN rfl|(rename_i c;cases c<;>exact aN rfl)
 |_=>cases b<;>first|exact aN rfl|(rename_i c;cases c<;>exact aN rfl)
omit F R in
theorem ab7(a t args):SR p p' Z (VR Z) (Builtin.min_ a t args) (Builtin.min_ a t (args.map (bC Z))):=by unfold Builtin.min_;rw[sj];cases args.toList with
 |nil=>exact aN rfl
 |cons x l=>exact Ad _ Zo l x
omit F R in
theorem ab8(a t args):SR p p' Z (VR Z) (Builtin.max_ a t args) (Builtin.max_ a t (args.map (bC Z))):=by unfold Builtin.max_;rw[sj];cases args.toList with
 |nil=>exact aN rfl
 |cons x l=>exact Ad _ Zp l x
end
section
variable{G:Gs}{p p':Program}{Z:Pi}(F:Fit G p p')(R:Rn G Z)
section
omit F R
theorem VF(i):SR p p' Z (VR Z) (Instr.entry i) (Instr.entry (bC Z i)):=by
 cases i<;>first|exact aN rfl|skip
 rename_i a;cases a with
 |none=>exact aN rfl
 |some a=>obtain⟨r,off,sp⟩:=a;cases off with
   |succ n=>exact aN rfl
   |zero=>
     simp;refine aL gX ?_;rintro o _ rfl;cases o<;>first|exact aN rfl|skip
     rename_i m since seen last;cases m with
     |none=>exact aN rfl
     |some m=>dsimp[dO];cases seen.back? with
       |none=>exact aN rfl
       |some b=>
         refine aL gX ?_;rintro o _ rfl;cases o<;>first|exact aN rfl|skip
         rename_i es c;dsimp[dO];split;.exact aN rfl
         .have:(es.map (mB Z)).find? (λe=>e.born==b)=(es.find? (λe=>e.born==b)).map (mB Z):=by rw[Array.find?_map];rfl
          rw[this];cases es.find? (λe=>e.born==b)with
          |none=>exact aN rfl
          |some e=>exact aO (by simp[VR,mB])
theorem yY:∀n a acc,SR p p' Z (λx c=>c=x) (loadBytes a acc n) (loadBytes (bX Z a) acc n)
 |0,a,acc=>aO rfl
 |n+1,a,acc=>by refine aL Cs ?_;rintro v _ rfl;cases v with
   |int k b=>rw[cQ];cases k with
     |u8=>have:=yY n (a.add 1) (acc.push b.toNat.toUInt8);exact this
     |_=>exact aN rfl
   |_=>exact aN rfl
end
include F
theorem Fv(d):∀t u,sameLayout p' d t u=sameLayout p d t u:=by induction d with
 |zero=>intro t u;rfl
 |succ d a=>intro t u;simp[sameLayout,F.under,Vv F,nZ F,a]
theorem VG(fits:TypeId->Bool)(d):∀e c o n,rowAt p' fits d e c o n=rowAt p fits d e c o n:=by induction d with
 |zero=>intro e c o n;rfl
 |succ d a=>intro e c o n;simp[rowAt,F.under,F.cellsOf,nZ F,a]
theorem R4(d):∀e c o u n,liesAt p' d e c o u n=liesAt p d e c o u n:=by induction d with
 |zero=>intro e c o u n;rfl
 |succ d a=>intro e c o u n;simp[liesAt,F.under,F.depth,Fv F,VG F,a]
theorem DJ(a u n):SR p p' Z (λx b=>b=x) (variablesAt a u n) (variablesAt (bX Z a) u n):=by refine iG ?_;refine aL nX ?_;rintro _ s rfl;cases s with
 |none=>exact aO rfl
 |some s=>obtain⟨e,c⟩:=s;exact aO (by simp[F.depth,F.cellsOf,R4 F])
theorem ab9(a t args)(b:(a[0]?).all (okL p)=true):SR p p' Z (VR Z) (Builtin.cap_ a t args) (Builtin.cap_ a t (args.map (bC Z))):=by unfold Builtin.cap_;rw[kW];cases f:a[0]? with
 |none=>exact aN rfl
 |some t=>rw[f,OZ]at b;cases args[0]? with
   |none=>exact aN rfl
   |some x=>refine aL (aT F t) ?_;rintro _ d ⟨rfl,c⟩;cases d with
     |array n e=>exact aO (by simp[VR,goInt])
     |pointer e=>refine aL (aT F e) ?_;rintro _ d ⟨rfl,_⟩;cases d<;>first|exact aN rfl|exact aO (by simp[VR,goInt])
     |slice e=>cases x<;>first|exact aN rfl|(rw[bN];exact aO (by simp[VR,goInt]))
     |chan k e=>simp[okL,c]at b
     |_=>exact aN rfl
theorem VH(b t args)(h:∀s,b[0]?=some s->s<p.types.size):SR p p' Z (VR Z) (Builtin.clear_ b t args) (Builtin.clear_ b t (args.map (bC Z))):=by unfold Builtin.clear_;rw[kW];cases i:b[0]? with
 |none=>exact aN rfl
 |some t=>have g:=h t i;cases args[0]? with
   |none=>exact aN rfl
   |some x=>refine aL (aT F t) ?_;rintro _ d ⟨rfl,f⟩;have fin:SR p p' Z (VR Z) (Pure.pure (.tuple #[]):Sem Value) (Pure.pure (.tuple #[])):=aO (by simp[VR]);cases x with
     |map r=>cases r with
       |none=>rw[dQ];cases d<;>exact fin
       |some r=>rw[dQ,iN];cases d;all_goals
          refine aL gX ?_;rintro o _ rfl;cases o<;>first|exact aN rfl|skip
          rename_i es c;have:=gI (p:=p) (p':=p') (Z:=Z) (r:=r) (o:=.map #[] c) rfl;exact aL (Q:=λ_ _=>True) (by simpa[dO]using this) (λ_ _ _=>fin)
     |slice a n c=>rw[bN];cases a with
       |none=>cases d<;>exact fin
       |some a=>cases n with
         |zero=>cases d<;>exact fin
         |succ n=>cases d with
           |slice e=>
             refine aL (fY F (Ct F g f)) ?_;rintro _ z ⟨rfl,j⟩;have k:z.cells.map (bC Z)=z.cells:=by rw[<-lW,j]
             have:=oZ (p:=p) (p':=p') (Z:=Z) a (Builtin.zeroCells z.cells (n+1)).toList 0;rw[<-sj,o5 k]at this;exact aL this (λ_ _ _=>fin)
           |_=>exact aN rfl
     |_=>cases d<;>exact aN rfl
include R in
theorem Ca(c t args):SR p p' Z (VR Z) (Builtin.unsafeString_ c t args) (Builtin.unsafeString_ c t (args.map (bC Z))):=by
 have main:∀(a:Option Addr) (l:Value),SR p p' Z (VR Z) (Builtin.unsafeString_ c t #[.pointer a,l]) (Builtin.unsafeString_ c t #[.pointer (a.map (bX Z)),bC Z l]):=λa l=>by refine aL (Q:=λa b=>b=a) (vd l) ?_;rintro _ n rfl;cases c[0]? with
  |none=>exact aN rfl
  |some pt=>
    dsimp only;split;.exact gU F R _
    .split;.exact aN rfl
     .cases a with
      |none=>refine eA (aO (by simp[VR])) (bK F _)
      |some a=>refine eA (aO (by simp[VR])) ?_;refine aL (Ge F pt) ?_;rintro _ e rfl;refine aL (DJ F a e _) ?_;rintro _ b rfl;refine eA ?_ (aN rfl);refine aL (yY _ a _) ?_;rintro _ s rfl;refine aL Gd ?_;intro _ _ _;exact aO (by simp[VR])
 obtain⟨l⟩:=args;match l with
 |[]=>exact aN rfl
 |[x]=>cases x<;>exact aN rfl
 |[.pointer a,y]=>have:=main a y;simpa using this
 |x::y::z::l=>cases x<;>exact aN rfl
 |[.bool _,_]|[.int ..,_]|[.float ..,_]|[.complex ..,_]|[.string _,_]|[.slice ..,_]|[.map _,_]|[.chan _,_]|[.func ..,_]|[.nilFunc,_]|[.iface ..,_]|[.nilIface,_]|[.agg _,_]|[.tuple _,_]=>exact aN rfl
end
def VI(Z:Pi):Place->Place
 |.val v=>.val (bC Z v)
 |.var a=>.var (bX Z a)
section
variable{G:Gs}{p p':Program}{Z:Pi}(F:Fit G p p')(R:Rn G Z)
include F
theorem xO(t x):SR p p' Z (VR Z) (x.get t) ((VI Z x).get t):=by cases x with
 |val v=>exact aO rfl
 |var a=>exact tz F t a
include R
theorem Ae:∀l t x,SR p p' Z (λa b=>b=(a.1,VI Z a.2)) (follow l t x) (follow l t (VI Z x))
 |[],t,x=>aO rfl
 |s::l,t,x=>by
   have c:=Ae l;refine aL (aT F s.struct) ?_;rintro _ u ⟨rfl,-⟩;cases u<;>first|exact aN rfl|skip
   rename_i d;dsimp only;cases d[s.index]? with
   |none=>exact aN rfl
   |some f=>
     refine eA ?_ ?_;.refine aL (xO F t x) ?_;rintro v _ rfl;refine aL (zV F R v) ?_;rintro a _ rfl;refine aL (rK F a f) ?_;rintro b _ rfl;exact c f.type (.var b)
     .cases x with
      |var a=>refine aL (rK F a f) ?_;rintro b _ rfl;exact c f.type (.var b)
      |val v=>cases v with
        |agg cs=>simp[VI];refine aL (kY F f.type cs f.offset) ?_;rintro v _ rfl;exact c f.type (.val v)
        |_=>exact aN rfl
theorem Nc(t v n):SR p p' Z (VR Z) (Builtin.ssaWrapNilChk_ #[t] t #[v,strVal "",strVal n]) (Builtin.ssaWrapNilChk_ #[t] t #[bC Z v,strVal "",strVal n]):=by cases v with
 |pointer a=>cases a with
   |some a=>rw[bG];exact aO (show Value.pointer (some (bX Z a))=bC Z (.pointer (some a))by simp)
   |none=>
     rw[bG];refine aL gY ?_;rintro _ n rfl;refine eA (gU F R _) ?_;refine aL (aT F t) ?_;rintro _ u ⟨rfl,-⟩;cases u<;>first|exact aN rfl|skip
     refine aL (fQ F _) ?_;rintro _ i ⟨rfl,-⟩;obtain⟨desc,_,_,_,_,_,_,_,_,_⟩:=i;cases desc<;>first|exact aN rfl|skip
     dsimp only;split
     .split;.exact bK F _
      .exact aN rfl
     .exact aN rfl
 |_=>exact aN rfl
theorem xu(t x b n):SR p p' Z (VR Z) (receiverAt t x b n) (receiverAt t (VI Z x) b n):=by
 refine aL (aT F t) ?_;rintro _ u ⟨rfl,_⟩;by_cases c:∃e,u=.pointer e;.obtain⟨e,rfl⟩:=c;cases b with
  |true=>cases x<;>exact xO F t _
  |false=>
    have tail:∀v,SR p p' Z (VR Z) (asAddr v>>=λa=>loadVar e a) (asAddr (bC Z v)>>=λa=>loadVar e a):=λv=>by refine aL (zV F R v) ?_;rintro a _ rfl;exact tz F e a
    cases n with
    |none=>
      cases x<;>
      .refine aL (xO F t _) ?_;rintro v _ rfl;exact aL (Q:=VR Z) (aO rfl) (by rintro v _ rfl;exact tail v)
    |some n=>
      cases x<;>
      .refine aL (xO F t _) ?_;rintro v _ rfl;refine aL (Nc F R t v n) ?_;rintro v _ rfl;exact tail v
 .cases b with
  |true=>cases x with
    |var a=>cases u<;>first|exact aO (by simp[VR])|exact absurd ⟨_,rfl⟩ c
    |val v=>cases u<;>first|exact aN rfl|exact absurd ⟨_,rfl⟩ c
  |false=>cases x<;>cases u<;>first|exact xO F t (.val _)|exact xO F t (.var _)|exact absurd ⟨_,rfl⟩ c
theorem DK(t v path b):SR p p' Z (VR Z) (receiverVia t v path b) (receiverVia t (bC Z v) path b):=by refine aL (Ae F R path.toList t (.val v)) ?_;rintro⟨t,x⟩ _ rfl;exact xu F R t x b none
theorem Gj:∀n t v s,SR p p' Z (λa b=>b=(a.1,bC Z a.2)) (method n t v s) (method n t (bC Z v) s)
 |0,_,_,_=>aN rfl
 |n+1,t,v,s=>by
   refine aL (fQ F _) ?_;rintro _ i ⟨rfl,_⟩;dsimp only;split
   .rename_i m _;refine aL (Ae F R m.path.toList t (.val v)) ?_;rintro⟨t,x⟩ _ rfl;split;.refine aL (xO F t x) ?_;rintro v _ rfl;cases v with
     |iface c d=>simp;exact Gj n c d s
     |nilIface=>simp;exact bK F _
     |_=>exact aN rfl
    .refine aL (xu F R t x _ _) ?_;rintro v _ rfl;exact aO rfl
   .exact aN rfl
omit R in
theorem vg:∀l t x,SR p p' Z (λa b=>b=a.map λc=>(c.1,c.2.map (bC Z))) (followBlind l t x) (followBlind l t (x.map (bC Z)))
 |[],t,x=>aO rfl
 |s::l,t,x=>by
   have d:=vg l;refine aL (aT F s.struct) ?_;rintro _ u ⟨rfl,-⟩;cases u<;>first|exact aN rfl|skip
   rename_i e;dsimp only;cases e[s.index]? with
   |none=>exact aN rfl
   |some f=>cases s.deref with
     |true=>cases x with
       |none=>exact aO rfl
       |some v=>cases v with
         |pointer a=>cases a with
           |none=>simp;exact aO rfl
           |some a=>simp;exact d f.type none
         |_=>exact aN rfl
     |false=>cases x with
       |none=>exact d f.type none
       |some v=>cases v with
         |agg cs=>simp;refine aL (kY F f.type cs f.offset) ?_;rintro v _ rfl;exact d f.type (some v)
         |_=>exact aN rfl
omit R in
theorem Bq:∀n t v s,SR p p' Z (λa b=>b=a) (nilAhead n t v s) (nilAhead n t (bC Z v) s)
 |0,_,_,_=>aO rfl
 |n+1,t,v,s=>by
   refine aL (fQ F _) ?_;rintro _ i ⟨rfl,_⟩;split;.rename_i m _;refine aL (vg F m.path.toList t (some v)) ?_;rintro r _ rfl;cases r with
    |error r=>exact aO rfl
    |ok r=>obtain⟨t,x⟩:=r;simp[Except.map];cases m.func with
      |none=>cases x with
        |none=>exact aO rfl
        |some v=>cases v with
          |iface c d=>simp;exact Bq n c d s
          |nilIface=>simp;exact aO rfl
          |_=>exact aN rfl
      |some f=>obtain⟨f,b⟩:=f;cases b with
        |true=>exact aO rfl
        |false=>
          refine aL (aT F t) ?_;rintro _ u ⟨rfl,_⟩;cases u<;>first|exact aO rfl|skip
          cases x with
          |none=>exact aO rfl
          |some v=>cases v with
            |pointer a=>cases a<;>(simp;exact aO rfl)
            |chan r=>rw[iN,cJ];obtain h|⟨_,h⟩|⟨_,_,_,h⟩|⟨_,h⟩|⟨_,h⟩|⟨_,_,_,h⟩:=fL Z r<;>rw[h]<;>exact aO rfl
            |_=>simp;exact aO rfl
   .exact aN rfl
end
def rN(Z:Pi):Next->Next
 |.value v=>.value (bC Z v)
 |.enter f a=>.enter f (a.map (bC Z))
 |.round l f t a b=>.round (Z l) f (t.map (bC Z)) a b
 |.defer d=>.defer (mG Z d)
 |n=>n
def okN(p:Program):Next->Bool
 |.value _|.skip|.enter ..|.recover=>true
 |.round _ f _ a b=>eG p a&&eG p b&&xI p f
 |.defer d=>okD p d
 |_=>false
abbrev NR(p:Program)(Z:Pi)(n n':Next):Prop:=n'=rN Z n/\okN p n=true
def kT(G:Gs)(p p':Program):Prop:=∀Z,Rn G Z->∀f args,SR p p' Z (NR p Z) (callFunc f args) (callFunc f (args.map (bC Z)))
section
variable{G:Gs}{p p':Program}{Z:Pi}(F:Fit G p p')(R:Rn G Z)
section
omit F R
theorem oO(l):SR p p' Z (λa b=>b=Rw Z a/\eG p a.assign=true/\eG p a.body=true/\a.pending.all (eG p)=true/\xI p a.fn=true) (Instr.getLoop l) (Instr.getLoop (Z l)):=by
 refine aL xN ?_;rintro o _ ⟨rfl,h⟩;cases o<;>first|exact aN rfl|skip
 simp[cI]at h;exact aO ⟨rfl,h.1.1.1,h.1.1.2,h.1.2,h.2⟩
theorem H8(f t c){a b}(d:eG p a=true)(e:eG p b=true)(i:xI p f=true)(l):SR p p' Z (λx y=>y=(Z x.1,x.2.map (mG Z))/\x.2.all (okD p)=true) (Instr.enterLoop f t c a b l) (Instr.enterLoop f (t.map (bC Z)) c a b (l.map Z.f)):=by
 have tail:∀(r:Nat) (ds:List Deferred),ds.all (okD p)=true->SR p p' Z (λx y=>y=(Z x.1,x.2.map (mG Z))/\x.2.all (okD p)=true) (newObj (.loop {state:=.ready,pending:=none,fn:=f,tmps:=t,params:=c,assign:=a,body:=b,defers:=r})>>=λx=>pure (x,ds))
  (newObj (.loop {state:=.ready,pending:=none,fn:=f,tmps:=t.map (bC Z),params:=c,assign:=a,body:=b,defers:=Z r})>>=λx=>pure (x,ds.map (mG Z))):=λr ds g=>by
  refine aL (Q:=λx y=>y=Z x) ?_ ?_;.exact p5 (o:=.loop {state:=.ready,pending:=none,fn:=f,tmps:=t,params:=c,assign:=a,body:=b,defers:=r}) (by simp[cI,d,e,i])
  .rintro x _ rfl;exact aO ⟨rfl,g⟩
 cases l with
 |none=>refine aL (Q:=λx y=>y=Z x) (by have:=p5 (p:=p) (p':=p') (Z:=Z) (o:=.deferred (some [])) rfl;simpa[dO]using this) ?_;rintro r _ rfl;refine aL (Q:=λx y=>y=(Z x.1,x.2.map (mG Z))/\x.2.all (okD p)=true) (aO ⟨by simp[mG,BV],rfl⟩) ?_;rintro⟨r,ds⟩ _ ⟨rfl,h⟩;exact tail r ds h
 |some l=>refine aL (oO l) ?_;rintro r _ ⟨rfl,-⟩;refine aL (Q:=λx y=>y=(Z x.1,x.2.map (mG Z))/\x.2.all (okD p)=true) (aO ⟨rfl,rfl⟩) ?_;rintro⟨r,ds⟩ _ ⟨rfl,h⟩;exact tail r ds h
theorem VJ(l:List (Tmp×Value)):∀t:Array Value,(l.foldl (λt (i,a)=>t.setIfInBounds i a) t).map (bC Z)=(l.map λ(i,a)=>(i,bC Z a)).foldl (λt (i,a)=>t.setIfInBounds i a) (t.map (bC Z)):=by induction l with
 |nil=>intro t;rfl
 |cons x l b=>intro t;simp only[FK,qM,b];rw[Jc]
theorem VK(l args):SR p p' Z (NR p Z) (Instr.yield l args) (Instr.yield (Z l) (args.map (bC Z))):=by
 refine aL (oO l) ?_;rintro r _ ⟨rfl,b,c,e,d⟩;have a:(args.map (bC Z)).size≠(Rw Z r).params.size↔args.size≠r.params.size:=by simp[Rw]
 simp only[a];refine eA (aN rfl) ?_;refine aO ⟨?_,by simp[okN,b,c,d]⟩;simp only[rN,Rw,Uk,wP,sf];rw[<-Ug,<-Ug,VJ];congr 1;simp[List.zip_map_right]
theorem VL{α β}{Q:α->β->Prop}(s):SR p p' Z Q (throw s) (throw s):=SR.halt rfl
theorem q7(l j)(d:j.all (eG p)=true):SR p p' Z (VR Z) (Instr.endRound l j) (Instr.endRound (Z l) j):=by refine aL (oO l) ?_;rintro r _ ⟨rfl,a,b,e,c⟩;refine aL (Q:=λ_ _=>True) (gI (o:=.loop {r with state:=if j.isNone then .ready else .done,pending:=j}) (by simp[cI,a,b,c,d])) ?_;intro _ _ _;exact aO (by simp[VR])
theorem Cb(l d)(h:okD p d=true):SR p p' Z (λ_ _=>True) (Instr.deferInRound l d) (Instr.deferInRound (Z l) (mG Z d)):=by
 refine aL (oO l) ?_;rintro r _ ⟨rfl,-⟩;refine aL xN ?_;rintro o _ ⟨rfl,a⟩;cases o<;>first|exact aN rfl|skip
 rename_i ds;cases ds with
 |none=>exact VL _
 |some ds=>simp only[cI,OZ]at a;exact gI (o:=.deferred (some (d::ds))) (by simp[cI,h,a])
theorem Cc(b):SR p p' Z (λx y=>y=x.map (mG Z)/\x.all (okD p)=true) (Instr.takeDeferred b) (Instr.takeDeferred (Z b)):=by
 refine aL xN ?_;rintro o _ ⟨rfl,a⟩;cases o<;>first|exact aN rfl|skip
 rename_i ds;cases ds with
 |none=>exact aN rfl
 |some ds=>refine aL (Q:=λ_ _=>True) (gI (o:=.deferred none) rfl) ?_;intro _ _ _;exact aO ⟨rfl,a⟩
end
include F R
theorem Fw(l):SR p p' Z (λ_ _=>True) (Instr.beginRound l) (Instr.beginRound (Z l)):=by refine aL (oO l) ?_;rintro r _ ⟨rfl,a,b,d,c⟩;refine aL (Q:=λ_ _=>True) (gI (o:=.loop {r with state:=.busy}) (by simp[cI,a,b,c,d])) ?_;intro _ _ _;have:(Rw Z r).state=r.state:=rfl;rw[this];cases r.state with
 |ready=>exact aO trivial
 |_=>exact bK F _
theorem Nf(l):SR p p' Z (λx y=>y=x/\x.all (eG p)=true) (Instr.endLoop l) (Instr.endLoop (Z l)):=by refine aL (oO l) ?_;rintro r _ ⟨rfl,b,c,a,d⟩;refine eA (gU F R _) ?_;refine aL (Q:=λ_ _=>True) (gI (o:=.loop {r with state:=.exhausted}) (by simp[cI,b,c,d,a])) ?_;intro _ _ _;exact aO ⟨rfl,a⟩
theorem Ng{a b}(h:okB p a b=true)(t cs args):SR p p' Z (NR p Z) (builtin b a t cs args) (builtin b a t cs (args.map (bC Z))):=by
 have v:∀{s s':Sem Value},SR p p' Z (VR Z) s s'->SR p p' Z (NR p Z) (do pure (Next.value (<-s))) (do pure (Next.value (<-s'))):=λh=>by refine aL h ?_;rintro v _ rfl;exact aO ⟨rfl,rfl⟩
 cases b with
 |append=>exact v (RU F R a t args λs c=>by simpa[okB,c,MR]using h)
 |clear=>exact v (VH F a t args λs c=>by simpa[okB,c,MR]using h)
 |cap=>exact v (ab9 F a t args h)
 |unsafeString=>exact v (Ca F R a t args)
 |copy=>exact v (Zm F a t args)
 |delete=>exact v (RZ F R a t args h)
 |len=>exact v (ab6 F a t args h)
 |max=>exact v (ab8 a t args)
 |min=>exact v (ab7 a t args)
 |panic=>
   refine v ?_;have:(args.map (bC Z)).getD 0 .nilIface=bC Z (args.getD 0 .nilIface):=by rw[OQ,OQ,kW];cases args[0]?<;>simp
   rw[this];exact J5 F R _
 |recover=>exact aO ⟨rfl,rfl⟩
 |_=>exact absurd h (by simp[okB])
variable(C:kT G p p')
include C
theorem rP(v s args):SR p p' Z (NR p Z) (callMethod v s args) (callMethod (bC Z v) s (args.map (bC Z))):=by unfold callMethod;cases v with
 |iface t v=>simp;refine iG ?_;rw[F.types];refine aL (Gj F R _ t v s) ?_;rintro⟨f,x⟩ _ rfl;have:=C Z R f (#[x]++args);simpa using this
 |nilIface=>simp;exact bK F _
 |_=>exact aN rfl
theorem Af{t args}(h:okD p {target:=t,args:=args}=true):SR p p' Z (NR p Z) (invoke t args) (invoke (BV Z t) (args.map (bC Z))):=by unfold invoke;cases t with
 |nil=>exact bK F _
 |builtin b d t cs=>exact Ng F R h t cs args
 |collected r=>exact aN rfl
 |coroexit c=>exact absurd h (by simp[okD])
 |fn f cap=>cases f with
   |func f=>have:=C Z R f (args++cap);simpa[BV,qa]using this
   |method n=>simp[BV,qa];cases a:args[0]? with
     |none=>exact aN rfl
     |some x=>have:=rP F R C x n (args.extract 1 args.size);simpa using this
   |methodOf t n=>simp;cases a:args[0]? with
     |none=>exact aN rfl
     |some x=>refine aL (aT F t) ?_;rintro _ u ⟨rfl,-⟩;cases u with
       |interface ms=>have:=rP F R C x n (args.extract 1 args.size);simpa using this
       |_=>have:=rP F R C (.iface t x) n (args.extract 1 args.size);simpa using this
   |via t path f b=>simp;cases a:args[0]? with
     |none=>exact aN rfl
     |some x=>refine aL (DK F R t x path b) ?_;rintro v _ rfl;have:=C Z R f (#[v]++args.extract 1 args.size);simpa using this
   |yield l=>exact VK l args
omit C F R in
theorem DL{ρ rE}(b:∀x,qW p x=true->rE x=bC Z (ρ x)){a:Array Operand}(h:a.all (qW p)=true):a.map rE=(a.map ρ).map (bC Z):=by grind
omit C F R in
theorem DN(v args):SR p p' Z (λd d'=>d'=mG Z d/\okD p d=true) (Deferred.ofValue v args) (Deferred.ofValue (bC Z v) (args.map (bC Z))):=by cases v with
 |func f a b=>rw[dK];exact aO ⟨by simp[mG,BV],rfl⟩
 |nilFunc=>rw[cT];exact aO ⟨by simp[mG,BV],rfl⟩
 |_=>exact aN rfl
omit C F R in
theorem xP{ρ rE}(g:∀x,qW p x=true->rE x=bC Z (ρ x)){c}(h:MS p c=true)(t):SR p p' Z (λd d'=>d'=mG Z d/\okD p d=true) (resolve ρ c t) (resolve rE c t):=by unfold resolve;simp only[MS,dJ]at h;have a:=DL g h.1;cases e:c.callee with
 |builtin b=>rw[e]at h;rw[a];exact aO ⟨rfl,h.2⟩
 |invoke r n=>rw[e]at h;dsimp only;rw[a,g r h.2];exact aO ⟨by simp[mG,BV,qa],rfl⟩
 |value f=>rw[e]at h;dsimp only;rw[a,g f h.2];exact DN _ _
omit C F R in
theorem Cu{ρ rE}(b:∀x,qW p x=true->rE x=bC Z (ρ x)){a:Option Operand}(h:a.all (qW p)=true):a.map rE=(a.map ρ).map (bC Z):=by cases a with
 |none=>rfl
 |some a=>simp;exact b a (by simpa using h)
omit C F R in
theorem Gk{ρ rE:Operand->Value}(c:∀x,qW p x=true->rE x=bC Z (ρ x)){a:Array (Nat×Operand)}(h:(a.all λ(_,x)=>qW p x)=true):(a.map λ(i,x)=>(i,rE x))=(a.map λ(i,x)=>(i,ρ x)).map λ(i,x)=>(i,bC Z x):=by rw[Array.map_map];refine Array.map_congr_left λx b=>?_;obtain⟨i,hi,rfl⟩:=Array.mem_iff_getElem.mp b;simp at h;simp;rw[c _ (h i hi)]
def adq:Op->Bool
 |.mapUpdate ..=>true
 |_=>false
theorem R5{ρ rE}(e:∀x,qW p x=true->rE x=bC Z (ρ x)){o}(h:Ry p o.op=true)(q:adq o.op=true->G.strict=true)(A:ρ (.const .nilIface)=.nilIface)(B:∀x,qW p x=true->nw Z (ρ x)):SR p p' Z (NR p Z) (execOp ρ o) (execOp rE o):=by
 have v:∀{s s':Sem Value},SR p p' Z (VR Z) s s'->SR p p' Z (NR p Z) (do pure (Next.value (<-s))) (do pure (Next.value (<-s'))):=λh=>by refine aL h ?_;rintro v _ rfl;exact aO ⟨rfl,rfl⟩
 have u:∀{s s':Sem Unit},SR p p' Z (λ_ _=>True) s s'->SR p p' Z (NR p Z) (do s;pure Next.skip) (do s';pure Next.skip):=λh=>by refine aL h ?_;intro _ _ _;exact aO ⟨rfl,rfl⟩
 unfold execOp;cases D:o.op<;>rw[D]at h q<;>simp only[Ry,Bool.and_eq_true,Bool.false_eq_true]at h<;>dsimp only;case move x=>rw[e x h];exact aO ⟨rfl,rfl⟩
 case assign x=>rw[e x h];exact aO ⟨rfl,rfl⟩
 case pick a b c=>rw[e a h.1.1,e b h.1.2,e c h.2];refine aL (zU _) ?_;rintro _ t rfl;refine aO ⟨?_,rfl⟩;cases t<;>rfl
 case alloc t=>exact v (Vo F (by simpa[MR]using h))
 case box t x=>rw[e x h];exact v (ab4 t _)
 case build t E=>rw[Gk e h.2];exact v (VA F (by simpa[MR]using h.1) _)
 case buildSlice t n E=>rw[Gk e h.2];exact v (Fu F (by simpa[MR]using h.1) _ _)
 case load t x=>rw[e x h];exact v (RG F t _)
 case store t a b=>rw[e a h.1,e b h.2];exact u (M0 F t _ _)
 case nilCheck x=>rw[e x h];cases ρ x with
  |pointer a=>cases a with
    |none=>simp;exact bK F _
    |some a=>simp;exact aO ⟨by simp[rN],rfl⟩
  |nilIface=>simp;exact bK F _
  |nilFunc=>simp;exact bK F _
  |func f a b=>cases f with
    |method n=>simp only[dK,qa,kW];cases I:a[0]? with
      |none=>exact aO ⟨by simp[rN,qa],rfl⟩
      |some y=>simp only[iN];cases y with
        |nilIface=>simp;exact bK F _
        |iface t w=>simp only[cS];refine iG ?_;rw[F.types];refine aL (Bq F _ t w n) ?_;rintro _ r rfl;refine eA (aN rfl) ?_;exact aO ⟨by simp[rN,qa],rfl⟩
        |chan r=>rw[cJ];obtain h|⟨_,h⟩|⟨_,_,_,h⟩|⟨_,h⟩|⟨_,h⟩|⟨_,_,_,h⟩:=fL Z r<;>rw[h]<;>exact aO ⟨by simp[rN,qa],rfl⟩
        |_=>simp;exact aO ⟨by simp[rN,qa],rfl⟩
    |_=>simp;exact aO ⟨by simp[rN,qa],rfl⟩
  |chan r=>rw[cJ];obtain h|⟨_,h⟩|⟨_,_,_,h⟩|⟨_,h⟩|⟨_,h⟩|⟨_,_,_,h⟩:=fL Z r<;>rw[h]<;>exact aO ⟨by simp[rN,h],rfl⟩
  |_=>simp only[dX,cQ,cY,cG,bV,bN,dQ,cS,dB,dI];exact aO ⟨by simp[rN],rfl⟩
 case binOp op t a b s=>
  rw[e a h.1.1,e b h.1.2];refine v ?_;refine aL (M7 F op t a b _ _) ?_;intro _ _ _;exact Vx F R op t _ _ h.2 λj=>by
   cases b<;>first|(cases j;done)|skip
   rename_i c;cases c<;>first|(cases j;done)|exact A
 case unOp op t x=>rw[e x h];exact v (Vs op _)
 case convert s d x=>rw[e x h.2];exact v (Na F s d _ h.1)
 case makeInterface t x=>rw[e x h];exact v (zY F t _)
 case makeFunc f a b=>rw[DL e h.1.2,DL e h.2];refine v ?_;refine aO ?_;simp only[VR,dK];cases f<;>first|rfl|exact absurd h.1.1 S8
 case makeMap t r=>rw[Cu e h];exact v (Nb F t _)
 case makeSlice t a b=>rw[e a h.1.2,e b h.2];exact v (H5 F R (by simpa[MR]using h.1.1) _ _)
 case slice t x l hi m=>rw[e x h.1.1.1,Cu e h.1.1.2,Cu e h.1.2,Cu e h.2];exact v (M4 F R t _ (B x h.1.1.1) _ _ _)
 case fieldAddr t x i=>rw[e x h];exact v (M3 F t _ i)
 case field t x i=>rw[e x h];exact v (Vz F t _ i)
 case indexAddr t a b=>rw[e a h.1,e b h.2];exact v (M5 F R t _ _)
 case index t a b=>rw[e a h.1,e b h.2];exact v (Vq F R t _ _)
 case lookup t a b k=>rw[e a h.1.1.2,e b h.1.2];exact v (RX F R (by simpa[MR]using h.1.1.1) h.2 _ _ k)
 case mapUpdate t a b c=>rw[e a h.1.1.1,e b h.1.1.2,e c h.1.2];exact u (H7 F R (q rfl) t h.2 _ _ _)
 case range t x=>rw[e x h];exact v (VD F t _)
 case next x s=>rw[e x h];exact v (Zn _ s _)
 case typeAssert x H z k=>rw[e x h.2];exact v (Fp F R _ H (by simpa[MR]using h.1) k)
 case entry x=>rw[e x h];exact v (VF _)
 case extract x i=>rw[e x h];exact v (M6 _ i)
 case call c=>refine aL (xP e h _) ?_;rintro⟨t,z⟩ _ ⟨rfl,g⟩;exact Af F R C g
 case defer c=>refine aL (xP e h _) ?_;rintro d _ ⟨rfl,g⟩;exact aO ⟨rfl,g⟩
 case panic x=>rw[e x h];exact v (J5 F R _)
end
def mH(Z:Pi):Item->Item
 |.inRangeFunc l=>.inRangeFunc (Z l)
 |.endRangeFunc l=>.endRangeFunc (Z l)
 |.call d w r s=>.call (mG Z d) w r (s.map (bC Z))
 |.extern r a=>.extern r (a.map (bC Z))
 |i=>i
def Br(Z:Pi)(e:PanicEntry):PanicEntry:={e with v:=bC Z e.v}
def sL(Z:Pi):FrameMode->FrameMode
 |.panicking c=>.panicking (c.map (Br Z))
 |m=>m
def cU(Z:Pi)(fr:Frame):Frame:={fr with tmps:=fr.tmps.map (bC Z),todo:=fr.todo.map (mH Z),defers:=fr.defers.map (mG Z),mode:=sL Z fr.mode,roundOf:=fr.roundOf.map Z.f}
def Bu(p:Program):Item->Bool
 |.code c|.inLoop c|.inScope c=>eG p c
 |.inRegion ops _=>ops.all λo=>Ry p o.op
 |.call ..|.extern ..=>false
 |_=>true
def Js:FrameMode->Bool
 |.panicking c=>c.all (!·.goexit)
 |_=>true
def mW(p:Program)(fr:Frame):Bool:=fr.todo.all (Bu p)&&fr.defers.all (okD p)&&xI p fr.fn&&fr.kind !=.report&&fr.kind !=.early&&Js fr.mode
def gV(fr:Frame):List Frame->Prop
 |[]=>fr.kind=.normal
 |c::cs=>gV c cs
def gV.kind{fr fr'}:∀{cs:List Frame},gV fr cs->fr'.kind=fr.kind->gV fr' cs
 |[],h,e=>e.trans h
 |_::_,h,_=>h
def Kh:=@gV.kind
structure OkG(p:Program)(g:Goroutine):Prop where
 fr:mW p g.frame=true
 cs:g.callers.all (mW p)=true
 dy:g.dying=none
 of:g.offers=none
 st:g.status=.running
 bt:gV g.frame g.callers
section
variable{p:Program}{Z:Pi}
def dU{fr}:mW p fr=true↔fr.todo.all (Bu p)=true/\fr.defers.all (okD p)=true/\xI p fr.fn=true/\fr.kind≠.report/\fr.kind≠.early/\Js fr.mode=true:=by simp[mW,and_assoc]
def Ki(fr x)(h:qW p x=true):(cU Z fr).eval x=bC Z (fr.eval x):=by cases x with
 |tmp t=>simp[Frame.eval,cU];cases fr.tmps[t]?<;>simp
 |const v=>exact(Dr Z v h).symm
 |global g=>cases h
 |func f=>simp[Frame.eval,qa]
def mX(fr v):(cU Z fr).finish (bC Z v)=cU Z (fr.finish v):=by obtain⟨fn,tmps,todo,defers,mode,kind,ro⟩:=fr;cases todo with
 |nil=>rfl
 |cons i k=>cases i with
   |inRegion ops l=>cases l with
     |nil=>rfl
     |cons i l=>simp[Frame.finish,cU,mH];cases(ops[i]?).bind (·.dst)with
       |none=>rfl
       |some d=>simp[Jc]
   |call d w r s=>simp[Frame.finish,cU,mH]
   |extern r a=>simp[Frame.finish,cU,mH]
   |_=>rfl
def oP{fr}(h:mW p fr=true)(v):mW p (fr.finish v)=true:=by rw[dU]at h|-;obtain⟨fn,tmps,todo,defers,mode,kind,ro⟩:=fr;cases todo with
 |nil=>exact h
 |cons i k=>cases i with
   |inRegion ops l=>cases l<;>exact h
   |call d w r s=>exact absurd h.1 (by simp[Bu])
   |extern r a=>exact absurd h.1 (by simp[Bu])
   |inRangeFunc l=>exact h
   |beginRound=>exact⟨(by have:=h.1;simp only[iY,dJ]at this;exact this.2),h.2⟩
   |_=>exact h
def wm(fr a):(cU Z fr).raise (a.map (Br Z))=cU Z (fr.raise a):=by obtain⟨fn,tmps,todo,defers,mode,kind,ro⟩:=fr;cases mode<;>simp[Frame.raise,cU,sL]
def yZ{fr}(h:mW p fr=true)(i)(g:i.all (!·.goexit)=true):mW p (fr.raise i)=true:=by rw[dU]at h|-;obtain⟨fn,tmps,todo,defers,mode,kind,ro⟩:=fr;obtain⟨a,b,d,e,f,j⟩:=h;cases mode with
 |panicking c=>exact⟨a,b,d,e,f,by simp only[Frame.raise,Js,Ul,dJ];exact⟨g,j⟩⟩
 |_=>exact⟨a,b,d,e,f,g⟩
def lL(fr:Frame)(v):(fr.finish v).kind=fr.kind:=by obtain⟨fn,tmps,todo,defers,mode,kind,ro⟩:=fr;cases todo with
 |nil=>rfl
 |cons i k=>cases i with
   |inRegion ops l=>cases l<;>rfl
   |_=>rfl
def tC(fr:Frame)(a):(fr.raise a).kind=fr.kind:=by obtain⟨fn,tmps,todo,defers,mode,kind,ro⟩:=fr;cases mode<;>rfl
def tD(id):∀k,exitTo id (k.map (mH Z))=(exitTo id k).map (·.map (mH Z))
 |[]=>rfl
 |i::k=>by cases i<;>simp[mH,exitTo,tD id k];split<;>simp
def Gl(id):∀k k',k.all (Bu p)=true->exitTo id k=some k'->k'.all (Bu p)=true
 |[],_,_,h=>by cases h
 |i::k,k',a,h=>by
   simp only[iY,dJ]at a;have b:=Gl id k k' a.2;cases i<;>simp[exitTo]at h<;>first|exact b h|skip
   split at h;.simp_all
   .exact b h
def tE(l):∀k,gotoIn l (k.map (mH Z))=(gotoIn l k).map (·.map (mH Z))
 |[]=>rfl
 |i::k=>by cases i<;>simp[mH,gotoIn,tE l k];split<;>simp[mH]
def tF(l):∀c d,eG p c=true->findLabel c l=some d->eG p d=true
 |.seq a b,d,e,h=>by simp[eG]at e;simp[findLabel]at h;cases f:findLabel a l with
   |some r=>rw[f]at h;cases h;simp[eG];exact⟨tF l a r e.1 f,e.2⟩
   |none=>rw[f]at h;exact tF l b d e.2 h
 |.label n,d,_,h=>by
   simp only[findLabel]at h;split at h;.cases h;rfl
   .cases h
 |.skip,_,_,h|.region ..,_,_,h|.cond ..,_,_,h|.block ..,_,_,h|.loop ..,_,_,h|.rangeFunc ..,_,_,h|.exit ..,_,_,h|.scope ..,_,_,h|.goto ..,_,_,h|.ret,_,_,h|.refuse ..,_,_,h=>by simp[findLabel]at h
def Gm(l):∀k k',k.all (Bu p)=true->gotoIn l k=some k'->k'.all (Bu p)=true
 |[],_,_,h=>by cases h
 |i::k,k',a,h=>by
   simp only[iY,dJ]at a;have b:=Gm l k k' a.2;cases i<;>simp[gotoIn]at h<;>first|exact b h|skip
   split at h;.rename_i c r d;cases h;simp only[iY,dJ];exact⟨tF l _ _ a.1 d,a.1,a.2⟩
   .exact b h
def Kj(ops t):yielded ops (t.map (bC Z))=yielded ops t:=by funext j;simp[yielded];cases(ops[j]?).bind (·.dst)with
 |none=>rfl
 |some d=>simp;cases t[d]? with
   |none=>rfl
   |some v=>cases v with
     |chan r=>rw[iN,cJ];obtain h|⟨_,h⟩|⟨_,_,_,h⟩|⟨_,h⟩|⟨_,h⟩|⟨_,_,_,h⟩:=fL Z r<;>rw[h]
     |_=>simp
def rQ(tl):∀cs fr,gV fr cs->tryRecover fr (cs++tl)=(tryRecover fr cs).map λx=>(x.1,x.2++tl)
 |[],fr,h=>by obtain⟨fn,tmps,todo,defers,mode,kind,ro⟩:=fr;subst h;cases tl<;>rfl
 |c::cs,fr,h=>by have a:=rQ tl cs c h;obtain⟨fn,tmps,todo,defers,mode,kind,ro⟩:=fr;cases kind with
   |deferred=>simp[tryRecover];split<;>rfl
   |wrapped=>simp[tryRecover,a];cases tryRecover c cs<;>rfl
   |_=>rfl
def oa:∀cs fr v a,gV fr cs->tryRecover fr cs=some (v,a)->gV fr a
 |[],fr,v,a,_,h=>by obtain⟨fn,tmps,todo,defers,mode,kind,ro⟩:=fr;cases kind<;>cases h
 |c::cs,fr,v,a,f,h=>by have j:=oa cs c;obtain⟨fn,tmps,todo,defers,mode,kind,ro⟩:=fr;cases kind with
   |deferred=>obtain⟨i,n,o,g,l,k,m⟩:=c;cases l with
     |panicking b=>cases b with
       |nil=>cases h
       |cons e b=>obtain⟨v,r,x⟩:=e;cases r<;>cases x<;>simp[tryRecover]at h;obtain⟨_,rfl⟩:=h;exact Kh (fr:={fn:=i,tmps:=n,todo:=o,defers:=g,mode:=.panicking ({v:=v,recovered:=false}::b),kind:=k,roundOf:=m}) (cs:=cs) f rfl
     |_=>cases h
   |wrapped=>simp only[tryRecover]at h;cases d:tryRecover c cs with
     |none=>rw[d]at h;cases h
     |some r=>obtain⟨p,r⟩:=r;rw[d]at h;cases h;exact j p r f d
   |_=>cases h
abbrev aeo(Z:Pi)(x:Value×List Frame):Value×List Frame:=(bC Z x.1,x.2.map (cU Z))
def xQ(Z):∀cs fr,gV fr cs->gV (cU Z fr) (cs.map (cU Z))
 |[],_,h=>h
 |c::cs,_,h=>xQ Z cs c h
def vh:∀cs fr,tryRecover (cU Z fr) (cs.map (cU Z))=(tryRecover fr cs).map (aeo Z)
 |[],fr=>by obtain⟨fn,tmps,todo,defers,mode,kind,ro⟩:=fr;cases kind<;>rfl
 |c::cs,fr=>by have b:=vh cs c;obtain⟨fn,tmps,todo,defers,mode,kind,ro⟩:=fr;cases kind with
   |deferred=>obtain⟨g,j,k,f,d,h,i⟩:=c;cases d with
     |panicking a=>cases a with
       |nil=>rfl
       |cons e a=>obtain⟨v,r,x⟩:=e;cases r<;>cases x<;>rfl
     |_=>rfl
   |wrapped=>simp[tryRecover,cU]at b|-;rw[b];cases tryRecover c cs<;>rfl
   |_=>rfl
def tG:∀cs fr v b,cs.all (mW p)=true->tryRecover fr cs=some (v,b)->b.all (mW p)=true
 |[],fr,v,b,_,h=>by obtain⟨fn,tmps,todo,defers,mode,kind,ro⟩:=fr;cases kind<;>cases h
 |c::cs,fr,v,b,a,h=>by have n:=tG cs c;simp only[iY,dJ]at a;obtain⟨fn,tmps,todo,defers,mode,kind,ro⟩:=fr;cases kind with
   |deferred=>obtain⟨t,y,z,s,o,u,w⟩:=c;cases o with
     |panicking f=>cases f with
       |nil=>cases h
       |cons e f=>obtain⟨v,r,x⟩:=e;cases r<;>cases x<;>simp[tryRecover]at h;obtain⟨_,rfl⟩:=h;simp only[iY,dJ];refine⟨?_,a.2⟩;have h0:=a.1;rw[dU]at h0|-;obtain⟨g,i,j,k,l,m⟩:=h0;exact⟨g,i,j,k,l,by simpa[Js]using m⟩
     |_=>cases h
   |wrapped=>simp only[tryRecover]at h;cases d:tryRecover c cs with
     |none=>rw[d]at h;cases h
     |some r=>obtain⟨q,r⟩:=r;rw[d]at h;cases h;simp only[iY,dJ];exact⟨a.1,n q r a.2 d⟩
   |_=>cases h
end
def bZ(p:Program)(f:FuncId)(args:Array Value)(k:CallKind)(cs:List Frame):Goroutine:={frame:=Frame.enter p f args k,callers:=cs,status:=.running,dying:=none}
structure Cv(X:FuncId->Prop)(p p':Program):Prop where
 sort:∀f:FuncId,(p'.funcs[f]?).map (λx:Func=>(x.results,x.norace))=(p.funcs[f]?).map (λx:Func=>(x.results,x.norace))
 same:∀f:FuncId,¬X f->∀args k,Frame.enter p' f args k=Frame.enter p f args k
 dry:∀todo,NoEnter p todo
 ok:∀f:FuncId,¬X f->(p.funcs[f]?).all (λfn:Func=>fn.body.all (eG p))=true/\xI p f=true
def pO(tl:List Frame)(Z:Pi)(g:Goroutine):Goroutine:={g with frame:=cU Z g.frame,callers:=g.callers.map (cU Z)++tl}
def DR(X:FuncId->Prop)(p p':Program)(tl:List Frame)(G:Gs)(U:Nat->Option Nat)(wL Kl:Goroutine):Prop:=(OkG p wL/\eO G U λZ=>Kl=pO tl Z wL)\/
 ∃f args k cs args' cs',X f/\(k=.normal\/k=.deferred)/\cs.all (mW p)=true/\gV (Frame.enter p f args k) cs/\wL=bZ p f args k cs/\Kl=bZ p' f args' k cs'/\eO G U λZ=>args'=args.map (bC Z)/\cs'=cs.map (cU Z)++tl
def Fx(n:Int):GStep->Prop
 |.go _ w _|.comm _ _ _ _ w _|.spawn _ _ w _|.count _ w _|.timer _ _ w _|.alone _ _ w _|.newcoro _ _ _ w _|.coroswitch _ _ _ w _|.collect _ w _|.watch _ w _|.ended _ w _=>n<w.drawn
def Km(L:Mh)(s s':GStep):Prop:=Fx L.lim s/\Fx (L.lim+L.MW) s'
def bL{n s es}(h:Fx n s):Fx n (s.after es):=by cases s<;>exact h
def A9(tl:List Frame)(v:Value)(w:World)(es:Array Event):GStep:=match tl with
 |[]=>.ended (.done v) w es
 |c::r=>.go {frame:=c.finish v,callers:=r,status:=.running,dying:=none} w es
def Ko(tl v w es a):(A9 tl v w a).after es=A9 tl v w (es++a):=by cases tl<;>rfl
def iK(X:FuncId->Prop)(p p':Program)(tl:List Frame)(L:Mh)(G:Gs)(U:Nat->Option Nat)(W:World)(s s':GStep):Prop:=match s with
 |.go wL w₁ es=>Km L s s'\/wL.dyingOn p\/∃Kl W₁ ES eF,s'=.go Kl W₁ ES/\Ext U eF/\eV G eF w₁.heap.size W₁.heap.size/\WE p L G eF w₁ W₁/\Fr U eF W W₁/\DR X p p' tl G eF wL Kl/\oI G eF es ES
 |.ended (.done v) w₁ es=>Km L s s'\/∃v' W₁ ES eF,s'=A9 tl v' W₁ ES/\Ext U eF/\eV G eF w₁.heap.size W₁.heap.size/\WE p L G eF w₁ W₁/\Fr U eF W W₁/\(eO G eF λZ=>v'=bC Z v)/\oI G eF es ES
 |.ended _ _ _=>True
 |_=>Km L s s'
section
variable{X:FuncId->Prop}{p p':Program}{tl:List Frame}{L:Mh}{G:Gs}
def oI.nil(U:Nat->Option Nat):oI G U #[] #[]:=⟨λZ _ _=>by simp,λe a=>absurd a S8⟩
def Gn:=@oI.nil
def oI.append{U a A b B}(h:oI G U a A)(d:oI G U b B):oI G U (a++b) (A++B):=⟨λZ r c=>by show A++B=(a++b).map (zQ Z);rw[h.all Z r c,d.all Z r c,Uj],λe f=>(Array.mem_append.1 f).elim (h.quiet e) (d.quiet e)⟩
def oI.ext{U b a A}(h:oI G U a A)(e:Ext U b):oI G b a A:=⟨h.all.ext e,h.quiet⟩
def iK.after{U b W W₁ s s' es ES}(h:iK X p p' tl L G b W₁ s s')(e:Ext U b)(f:Fr U b W W₁)(ev:oI G b es ES):iK X p p' tl L G U W (s.after es) (s'.after ES):=by cases s with
 |go g w n=>
   obtain h|h|⟨q,mE,m,l,rfl,a,c,d,i,j,k⟩:=h;.exact .inl ⟨bL h.1,bL h.2⟩
   .exact .inr (.inl h)
   .exact .inr<|.inr ⟨q,mE,_,l,rfl,e.trans a,c,d,f.trans a i,j,(ev.ext a).append k⟩
 |ended o w n=>cases o with
   |done v=>
     obtain h|⟨r,mE,m,l,rfl,a,c,d,i,j,k⟩:=h;.exact .inl ⟨bL h.1,bL h.2⟩
     exact .inr ⟨r,mE,_,l,Ko _ _ _ _ _,e.trans a,c,d,f.trans a i,j,(ev.ext a).append k⟩
   |_=>trivial
 |_=>exact⟨bL h.1,bL h.2⟩
def sM:=@iK.after
def iK.goE{U w W g g'}(ok:eV G U w.heap.size W.heap.size)(wr:WE p L G U w W)(h:DR X p p' tl G U g g'):iK X p p' tl L G U W (.go g w) (.go g' W):=.inr<|.inr ⟨g',W,#[],U,rfl,oH _,ok,wr,JW _ _,h,Gn U⟩
def Bv:=@iK.goE
def iK.go{U w W g g'}(ok:eV G U w.heap.size W.heap.size)(wr:WR p L G U w W)(h:DR X p p' tl G U g g'):iK X p p' tl L G U W (.go g w) (.go g' W):=.inr<|.inr ⟨g',W,#[],U,rfl,oH _,ok,wr.we,JW _ _,h,Gn U⟩
def uw:=@iK.go
def Fy(Z l f):xL Z l=.mark (.extern f)↔l=.mark (.extern f):=by cases l<;>simp[xL];rename_i m;cases m<;>simp[JU]
def VM(K:Cv X p p')(Z fn es):seen p' fn (es.map (zQ Z))=(seen p fn es).map (zQ Z):=by
 have g:∀f:FuncId,(p'.funcs[f]?).any (λx:Func=>x.norace)=(p.funcs[f]?).any (λx:Func=>x.norace):=λf=>by have:=K.sort f;cases h:p'.funcs[f]?<;>cases c:p.funcs[f]?<;>rw[h,c]at this<;>simp_all
 simp only[seen,g];rw[Array.foldl_map];let R:Bool×Array Event->Bool×Array Event:=λx=>(x.1,x.2.map (zQ Z));show _=(R (Array.foldl _ _ es)).2;have h0:((p.funcs[fn]?).any (λx:Func=>x.norace),(#[]:Array Event))=R ((p.funcs[fn]?).any (λx:Func=>x.norace),#[]):=by simp[R]
 refine congrArg Prod.snd (Eq.trans (congrArg (λz=>Array.foldl _ z es) h0) (Array.foldl_hom R ?_));rintro⟨q,kept⟩ e;by_cases a:∃f,e.loc=.mark (.extern f)
 .obtain⟨f,b⟩:=a;have d:(zQ Z e).loc=.mark (.extern f):=by show xL Z e.loc=_;rw[b];rfl
  simp only[R,b,d]
 .have j:∀f,e.loc≠.mark (.extern f):=λf h=>a ⟨f,h⟩;have k:∀f,(zQ Z e).loc≠.mark (.extern f):=λf h=>a ⟨f,(Fy Z _ f).1 h⟩;have i:(zQ Z e).sync=e.sync:=rfl;dsimp only[R];rw[i];split;.simp_all
  .cases l:(q&&!e.sync)<;>simp
def VN(p fn es):∀e∈Go.seen p fn es,e∈es:=by
 unfold Go.seen;dsimp only;refine Array.foldl_induction (motive:=λ_ (x:Bool×Array Event)=>∀e∈x.2,e∈es) S8 ?_;rintro i ⟨q,kept⟩ b e a;split at a;.simp_all
 .grind
def oI.seen{U es ES}(K:Cv X p p')(h:oI G U es ES)(fn):oI G U (Go.seen p fn es) (Go.seen p' fn ES):=⟨λZ r c=>by show Go.seen p' fn ES=_;rw[h.all Z r c,VM K],λe a=>h.quiet e (VN p fn es e a)⟩
def sD(Z f args k):cU Z (Frame.enter p f args k)=Frame.enter p f (args.map (bC Z)) k:=by simp[Frame.enter,cU,mH,sL]
def uU(K:Cv X p p'){f}(h:¬X f)(args){k}(g:k=.normal\/k=.deferred):mW p (Frame.enter p f args k)=true:=by
 rw[dU];obtain⟨a,d⟩:=K.ok f h;refine⟨?_,rfl,d,?_⟩;.simp[Frame.enter];cases e:p.funcs[f]? with
  |none=>rfl
  |some fn=>rw[e]at a;simp at a;cases b:fn.body with
    |none=>simp[Bu,eG,b]
    |some c=>rw[b]at a;simpa[Bu,b]using a
 .obtain rfl|rfl:=g<;>simp[Frame.enter,Js]
def DR.enter(K:Cv X p p'){U args a cs b}(f){k}(i:k=.normal\/k=.deferred)(h:cs.all (mW p)=true)(g:gV (Frame.enter p f args k) cs)(e:eO G U λZ=>a=args.map (bC Z)/\b=cs.map (cU Z)++tl):DR X p p' tl G U (bZ p f args k cs) (bZ p' f a k b):=by
 by_cases d:X f;.exact .inr ⟨f,args,k,cs,a,b,d,i,h,g,rfl,rfl,e⟩
 .refine .inl ⟨⟨uU K d args i,h,rfl,rfl,rfl,g⟩,λZ r c=>?_⟩;obtain⟨j,l⟩:=e Z r c;simp[bZ,pO,sD,K.same f d,j,l]
end
section
variable{X:FuncId->Prop}{p p':Program}{tl:List Frame}{L:Mh}{G:Gs}{U:Nat->Option Nat}{w W:World}
def VO{α β Q}{s:Sem α}{s':Sem β}(ok:eV G U w W)(wr:WR p L G U w W)(a:eO G U λZ=>SR p p' Z (Q Z) s s'):Out p L G U W Q (s.runT p w #[]) (s'.runT p' W #[]):=qY s s' U w W #[] #[] ok wr (Gn U) a
def fZ{n:Int}{p main fr cs dy v}(h:n<w.drawn):Fx n (doReturn p main fr cs dy v w):=by
 unfold doReturn;repeat' split
 all_goals first|exact h|trivial|(simp_all;done)
def all_cons{e c r}(ok:eV G U w W)(h:eO G U λZ=>e=(c::r).map (cU Z)++tl):∃a b,e=a::b/\(eO G U λZ=>a=cU Z c)/\eO G U λZ=>b=r.map (cU Z)++tl:=by
 obtain⟨Z,i,g⟩:=ok.one;have h0:=h Z i g;refine⟨cU Z c,r.map (cU Z)++tl,by rw[h0];rfl,λf b a=>?_,λf b a=>?_⟩<;>
 .have d:=h f b a;rw[h0]at d;simp only[qM,FL,yr]at d;first|exact d.1|exact d.2
def pq{fr fr'}(ok:eV G U w W)(h:eO G U λZ=>fr'=cU Z fr):fr'.fn=fr.fn/\fr'.kind=fr.kind:=by obtain⟨Z,b,a⟩:=ok.one;rw[h Z b a];exact⟨rfl,rfl⟩
def lift(F:Fit G p p'):p'.inits=p.inits/\p'.follows=p.follows:=by
 constructor;.exact F.inits
 .funext d;simp[Tables.follows,F.follow]
def VP(Z)(b:List PanicEntry):(b.map (Br Z)).dropWhile (!·.goexit)=(b.dropWhile (!·.goexit)).map (Br Z):=by induction b with
 |nil=>rfl
 |cons a b c=>
   simp[List.dropWhile_cons];have:(Br Z a).goexit=a.goexit:=rfl;rw[this];cases a.goexit;.simp_all
   .simp
def lX(F:Fit G p p'){main main' fr fr' cs d v f}(ok:eV G U w W)(wr:WR p L G U w W)(J:mW p fr=true)(g:cs.all (mW p)=true)(i:gV fr cs)(H:eO G U λZ=>fr'=cU Z fr)(n:eO G U λZ=>d=cs.map (cU Z)++tl)(o:eO G U λZ=>f=bC Z v)(K:cs=[]->main=true/\(tl=[]->main'=true)):iK X p p' tl L G U W (doReturn p main fr cs none v w) (doReturn p' main' fr' d none f W):=by
 obtain⟨O,k2⟩:=pq ok H;have k:=(dU.1 J).2.2;cases cs with
 |cons c r=>
   obtain⟨u,P,rfl,q,s⟩:=all_cons ok n;simp only[iY,dJ]at g;have fin:iK X p p' tl L G U W (.go {frame:=c.finish v,callers:=r,status:=.running,dying:=none} w) (.go {frame:=u.finish f,callers:=P,status:=.running,dying:=none} W):=uw ok wr (.inl ⟨⟨oP g.1 v,g.2,rfl,rfl,rfl,Kh (fr:=c) (cs:=r) i (lL c v)⟩,λZ b a=>by rw[o Z b a,q Z b a,s Z b a,mX];rfl⟩)
   simp[doReturn,k2];cases t:fr.kind with
   |normal=>exact fin
   |wrapped=>exact fin
   |early=>exact absurd t k.2.2.1
   |report=>exact absurd t k.2.1
   |deferred=>
     refine iK.go ok wr (.inl ⟨⟨?_,g.2,rfl,rfl,rfl,gV.kind (fr:=c) (cs:=r) i (by dsimp only;split<;>(try split)<;>rfl)⟩,λZ b a=>?_⟩)
     .have j:=g.1;rw[dU]at j|-;obtain⟨fn,tmps,todo,defers,mode,kind,ro⟩:=c;dsimp only;split
      .obtain⟨A,B,C,D,E,m⟩:=j;split;.trivial
       .refine⟨A,B,C,D,E,?_⟩;simp only[Js,iY,dJ]at m|-;exact AV.2 λx N=>AV.1 m.2 x ((List.dropWhile_sublist _).subset N)
      .exact j
     .rw[q Z b a,s Z b a];obtain⟨fn,tmps,todo,defers,mode,kind,ro⟩:=c;cases mode with
      |panicking h=>cases h with
        |nil=>rfl
        |cons e h=>obtain⟨x,Q,R⟩:=e;cases Q with
          |false=>rfl
          |true=>have I:=VP Z h;simp[cU,sL,qM,Br,I];cases h.dropWhile (!·.goexit)<;>rfl
      |_=>rfl
 |nil=>
   have:d=tl:=by obtain⟨Z,b,a⟩:=ok.one;rw[n Z b a];rfl
   subst this;have hi:p.inits.idxOf? fr.fn=none:=by simpa[xI]using k.1
   obtain⟨rfl,M⟩:=K rfl;have l:fr.kind=.normal:=i;have y:doReturn p true fr [] none v w=.ended (.done v) w:=by simp only[doReturn,hi,l];rfl
   have z:doReturn p' main' fr' d none f W=A9 d f W #[]:=by cases d with
    |nil=>obtain rfl:=M rfl;simp only[doReturn,O,k2,(lift F).1,hi,l,A9];rfl
    |cons c r=>simp[doReturn,k2,l,A9]
   rw[y,z];exact .inr ⟨f,W,#[],U,rfl,oH _,ok,wr.we,JW _ _,o,Gn U⟩
end
section
variable{X:FuncId->Prop}{p p':Program}{tl:List Frame}{L:Mh}{G:Gs}{U:Nat->Option Nat}{w W:World}
def xR{a v}(ok:eV G U w W)(h:eO G U λZ=>a=HY Z (.panic v)):∃d,a=.panic d/\eO G U λZ=>d=bC Z v:=by obtain⟨Z,c,b⟩:=ok.one;refine⟨bC Z v,h Z c b,λg f e=>?_⟩;have:=h g f e;rw[h Z c b]at this;simpa[HY]using this
def DR.of{g g'}(h:OkG p g)(a:eO G U λZ=>g'=pO tl Z g):DR X p p' tl G U g g':=.inl ⟨h,a⟩
def gZ{α β:Type}{f:Pi->α->β}{a b}(ok:eV G U w W)(h:eO G U λZ=>b=f Z a):∃Z,b=f Z a:=by obtain⟨Z,d,c⟩:=ok.one;exact⟨Z,h Z d c⟩
def DT{p}(fr m w){es s'}:iK X p p' tl L G U W ((endThrow fr m w).after es) s':=.inr (.inl ⟨.inl rfl,_,rfl,rfl,NoEnter.nil p⟩)
def Kq{α p}(s:Sem α)(w):w.drawn<=(cV (s.run p w)).drawn:=by rw[<-Jb p s w #[]];exact qi s w #[]
def Ag{n:Int}{p fr cs dy m}(h:n<w.drawn):Fx n (endFatal p fr cs dy m w):=by unfold endFatal;dsimp only;split;all_goals rename_i heq;have:=bT (Kq (p:=p) _ w) (oz (congrArg (λx=>(cV x).drawn) heq));exact CL h (FN.2 this)
def R6{n:Int}{p fr cs dy g}(h:n<w.drawn):Fx n (early p fr cs dy g w):=by
 have a:∀r,(choose (.early g)).run p w=r->n<(cV r).drawn:=λr b=>b▸CL h (FN.2 (Kq _ w));unfold early;dsimp only;repeat' split
 all_goals first|exact h|(rename_i heq;exact a _ heq)|(rename_i heq _ _ _ _;exact a _ heq)|(rename_i heq _;exact a _ heq)|(rename_i heq _ _;exact a _ heq)|(rename_i heq _ _ _;exact a _ heq)
def Ah{n:Int}{p fr cs dy s}(a:n<(cV (s.runT p w #[]).1).drawn):Fx n (stepG.apply p true fr cs dy s w):=by unfold stepG.apply;generalize s.runT p w #[]=r at a|-;obtain⟨r,es⟩:=r;refine bL ?_;cases r with
 |ok n w₁=>cases n<;>(try dsimp only)<;>(repeat' split)<;>first|exact a|trivial
 |halt x w₁=>
   cases x<;>first|exact a|exact Ag a|skip
   rename_i u;cases u<;>first|exact a|exact R6 a
def DU{n:Int}{p fr cs dy s}(h:n<w.drawn):Fx n (stepG.apply p true fr cs dy s w):=Ah (CL h (FN.2 (qi s w #[])))
def iK.bind{s s'}(h:Km L s s'\/(iK X p p' tl L G U W s s')):iK X p p' tl L G U W s s':=by
 obtain h|h:=h;.cases s with
  |go g w es=>exact .inl h
  |ended o w es=>cases o<;>first|exact .inl h|trivial
  |_=>exact h
 .exact h
def vo:=@iK.bind
def DV(F:Fit G p p')(K:Cv X p p'){main:Bool}{fr fr' cs J s s'}(ok:eV G U w W)(A:mW p fr=true)(H:cs.all (mW p)=true)(D:gV fr cs)(Q:eO G U λZ=>fr'=cU Z fr)(aa:eO G U λZ=>J=cs.map (cU Z)++tl)(R:ow p L G U W (NR p) (s.runT p w #[]) (s'.runT p' W #[])):iK X p p' tl L G U W (stepG.apply p true fr cs none s w) (stepG.apply p' true fr' J none s' W):=by
 by_cases O:uE L (cV (s.runT p w #[]).1) (cV (s'.runT p' W #[]).1);.exact vo (.inl ⟨Ah O.1,Ah O.2⟩)
 obtain⟨a5,k2⟩:=pq ok Q;have V:=(dU.1 A);have a0:(fr.kind==.early)=false:=by simpa using V.2.2.2.2.1
 unfold stepG.apply;simp only[wR,a5,k2,a0,uf,wT];generalize s.runT p w #[]=r at R O|-;generalize s'.runT p' W #[]=a8 at R O|-;obtain⟨r,es⟩:=r;cases r with
 |ok n w₁=>
   obtain ab|⟨a6,W₁,ES,z,rfl,e,y,I,T,N⟩:=R;.trivial
   have μ:oI G z es ES:=N.1;have B:eO G z λZ=>a6=rN Z n:=λZ r c=>(N.2 Z r c).1;have M:okN p n=true:=by obtain⟨Z,r,c⟩:=y.one;exact(N.2 Z r c).2
   have C:=Q.ext e;have E:=aa.ext e;refine sM ?_ e T (μ.seen K fr.fn);cases n with
   |value v=>obtain⟨Z,rfl⟩:=gZ y B;refine Bv y I (.of ⟨oP A v,H,rfl,rfl,rfl,D.kind (lL fr v)⟩ λg q j=>?_);have:=B g q j;simp only[rN,Next.value.injEq]at this;rw[this,C g q j,E g q j,mX];rfl
   |skip=>obtain⟨Z,rfl⟩:=gZ y B;refine Bv y I (.of ⟨oP A undef,H,rfl,rfl,rfl,D.kind (lL fr undef)⟩ λg q j=>?_);have:=mX (Z:=g) fr undef;rw[zR]at this;rw[C g q j,E g q j,this];rfl
   |enter f args=>
     obtain⟨Z,rfl⟩:=gZ y B;have a2:∀g,Rn G g->Cp z g->args.map (bC Z)=args.map (bC g):=λg q j=>by have:=B g q j;simpa[rN]using this
     have go:∀kd ao:CallKind,kd=.normal->ao=.normal->iK X p p' tl L G z W₁ (.go {frame:=Frame.enter p f args kd,callers:=fr::cs,status:=.running,dying:=none} w₁) (.go {frame:=Frame.enter p' f (args.map (bC Z)) ao,callers:=fr'::J,status:=.running,dying:=none} W₁):=by rintro _ _ rfl rfl;exact Bv y I (DR.enter K f (.inl rfl) (by simp only[iY,dJ];exact⟨A,H⟩) D λg q j=>⟨a2 g q j,by rw[C g q j,E g q j];rfl⟩)
     refine go _ _ ?_ ?_
     .have:=V.1;split;.rename_i h;rw[h]at this;simp[Bu]at this
      .rfl
     .have:=V.1;obtain⟨Z,q,j⟩:=ok.one;rw[Q Z q j];simp only[cU];cases a3:fr.todo with
      |nil=>rfl
      |cons i k=>rw[a3]at this;cases i<;>first|rfl|simp[Bu]at this
   |round l f t a b=>
     obtain⟨Z,rfl⟩:=gZ y B;simp only[okN,dJ]at M;refine Bv y I (.of ⟨?_,by simp only[iY,dJ];exact⟨A,H⟩,rfl,rfl,rfl,D⟩ λg q j=>?_);.rw[dU];refine⟨?_,rfl,M.2,by simp[Frame.round],by simp[Frame.round],rfl⟩;simp[Frame.round,Bu,M.1.1,M.1.2]
     .have:=B g q j;simp only[rN,Uk,wP,sf]at this;rw[C g q j,E g q j,this.1,this.2];rfl
   |defer d=>obtain⟨Z,rfl⟩:=gZ y B;refine Bv y I (.of ⟨oP (by rw[dU]at A|-;exact⟨A.1,by simp only[iY,dJ];exact⟨M,A.2.1⟩,A.2.2⟩) undef,H,rfl,rfl,rfl,D.kind (lL _ undef)⟩ λg q j=>?_);have af:=B g q j;simp only[rN,Next.defer.injEq]at af;have:=mX (Z:=g) {fr with defers:=d::fr.defers} undef;rw[zR]at this;rw[C g q j,E g q j,af];simp only[pO];rw[<-this];rfl
   |recover=>
     obtain⟨Z,rfl⟩:=gZ y B;have fin:∀(o o':Option (Value×List Frame)),(∀v c,o=some (v,c)->c.all (mW p)=true/\gV fr c)->(eO G z λZ=>o'=o.map λx=>(bC Z x.1,x.2.map (cU Z)++tl))->iK X p p' tl L G z W₁ (match o with|some (v,callers)=>GStep.go {frame:=fr.finish v,callers,status:=.running,dying:=none} w₁|none=>.go {frame:=fr.finish .nilIface,callers:=cs,status:=.running,dying:=none} w₁) (match o' with|some (v,callers)=>GStep.go {frame:=fr'.finish v,callers,status:=.running,dying:=none} W₁|none=>.go {frame:=fr'.finish .nilIface,callers:=J,status:=.running,dying:=none} W₁):=λo o' ag ah=>by
      obtain⟨Z,rfl⟩:=gZ y ah;cases o with
      |none=>refine Bv y I (.of ⟨oP A _,H,rfl,rfl,rfl,D.kind (lL fr _)⟩ λg q j=>?_);have:=mX (Z:=g) fr .nilIface;rw[cD]at this;rw[C g q j,E g q j,this];rfl
      |some x=>obtain⟨v,c⟩:=x;refine Bv y I (.of ⟨oP A v,(ag v c rfl).1,rfl,rfl,rfl,(ag v c rfl).2.kind (lL fr v)⟩ λg q j=>?_);have:=ah g q j;simp only[iN,oC,FO]at this;rw[this.1,this.2,C g q j,mX];rfl
     obtain⟨π,ak,ae⟩:=y.one;have aj:eO G z λZ=>fr'.roundOf=fr.roundOf.map Z.f:=λg q j=>by rw[C g q j];rfl
     have ay:p'.follows .rangeFuncRecover=p.follows .rangeFuncRecover:=by rw[(lift F).2]
     have ai:eO G z λZ=>tryRecover fr' J=(tryRecover fr cs).map λx=>(bC Z x.1,x.2.map (cU Z)++tl):=λg q j=>by rw[C g q j,E g q j,rQ tl _ _ (xQ g cs fr D),vh,Option.map_map];rfl
     cases P:fr.roundOf with
     |none=>
       have Y:fr'.roundOf=none:=by rw[aj π ak ae,P];rfl
       simp only[rN,Y];exact fin _ _ (λv c h=>⟨tG cs fr v c H h,oa cs fr v c D h⟩) ai
     |some l=>
       have Y:fr'.roundOf=some (π l):=by rw[aj π ak ae,P];rfl
       simp only[rN,Y,ay,F.fol,wR];exact fin _ _ (λv c h=>⟨tG cs fr v c H h,oa cs fr v c D h⟩) ai
   |_=>exact absurd M (by simp[okN])
 |halt h w₁=>
   obtain ab|P|⟨az,ar,W₁,ES,z,rfl,e,y,I,T,N⟩:=R;.exact absurd ab O
   .cases h<;>first|(cases P;done)|skip
    .rename_i u;cases u<;>first|(cases P;done)|trivial
    .trivial
   .have μ:oI G z es ES:=N.1;have B:eO G z λZ=>ar=HY Z h:=λZ r c=>(N.2 Z r c);have C:=Q.ext e;have E:=aa.ext e;have a7:∀(c S:List PanicEntry),c.all (!·.goexit)=true->(eO G z λZ=>S=c.map (Br Z))->iK X p p' tl L G z W₁ (.go {frame:=fr.raise c,callers:=cs,status:=.running,dying:=none} w₁) (.go {frame:=fr'.raise S,callers:=J,status:=.running,dying:=none} W₁):=λc S av au=>Bv y I (.of ⟨yZ A c av,H,rfl,rfl,rfl,D.kind (tC fr c)⟩ λg q j=>by rw[au g q j,C g q j,E g q j,wm];rfl)
    cases h with
    |panic v=>obtain⟨a9,rfl,a4⟩:=xR y B;refine sM ?_ e T (μ.seen K fr.fn);exact a7 _ _ rfl λg q j=>by rw[a4 g q j];rfl
    |throw m=>exact DT fr m w₁
    |_=>cases az
def wq(F:Fit G p p')(K:Cv X p p'){main:Bool}{fr fr' cs a s s'}(ok:eV G U w W)(wr:WR p L G U w W)(f:mW p fr=true)(e:cs.all (mW p)=true)(d:gV fr cs)(b:eO G U λZ=>fr'=cU Z fr)(c:eO G U λZ=>a=cs.map (cU Z)++tl)(g:eO G U λZ=>SR p p' Z (NR p Z) s s'):iK X p p' tl L G U W (stepG.apply p true fr cs none s w) (stepG.apply p' true fr' a none s' W):=by
 exact DV (main:=main) F K ok f e d b c (VO ok wr g).we
end
section
variable{X:FuncId->Prop}{p p':Program}{tl:List Frame}{L:Mh}{G:Gs}{U:Nat->Option Nat}{w W:World}
def iK.unless{c}[Decidable c]{u x w es t s'}(h:¬c->iK X p p' tl L G U W t s'):iK X p p' tl L G U W (if c then .ended (.unsupported u x) w es else t) s':=by
 by_cases a:c;.rw[bM a];trivial
 .simp_all
def iK.Zq{c}[Decidable c]{s y a}(h:¬c)(k:iK X p p' tl L G U W s a):iK X p p' tl L G U W s (if c then y else a):=by rwa [aX h]
def abj:=@iK.Zq
def H9(F:Fit G p p')(C:kT G p p')(K:Cv X p p'){fr fr' cs q d d'}(ok:eV G U w W)(wr:WR p L G U w W)(E:mW p fr=true)(y:cs.all (mW p)=true)(u:gV fr cs)(ai:okD p d=true)(O:eO G U λZ=>fr'=cU Z fr)(aa:eO G U λZ=>q=cs.map (cU Z)++tl)(R:eO G U λZ=>d'=mG Z d):iK X p p' tl L G U W (callDeferred p fr cs none d w) (callDeferred p' fr' q none d' W):=by
 have au:eO G U λZ=>SR p p' Z (NR p Z) (invoke d.target d.args) (invoke d'.target d'.args):=λZ g i=>by rw[R Z g i];exact Af F g C ai
 have P:=VO ok wr au;obtain⟨ay,k2⟩:=pq ok O;have a4:=(dU.1 E);unfold callDeferred;refine iK.unless λar=>abj ?_ ?_;.intro h;apply ar;revert h;obtain⟨Z,g,i⟩:=ok.one;rw[R Z g i,O Z g i];simp only[mG,cU];cases d.target<;>cases fr.mode<;>simp[BV,sL]
 .
  have ab:∀{o:Nat->Option Nat} {es ES:Array Event},oI G o es ES->oI G o (Go.seen p fr.fn es) (Go.seen p' fr'.fn ES):=λh=>by rw[ay];exact h.seen K fr.fn
  by_cases H:uE L (cV ((invoke d.target d.args).runT p w #[]).1) (cV ((invoke d'.target d'.args).runT p' W #[]).1)
  .obtain⟨f1,f2⟩:=H;refine vo (.inl ⟨?_,?_⟩);.generalize(invoke d.target d.args).runT p w #[]=r at f1|-;obtain⟨r,es⟩:=r;refine bL ?_;cases r with
    |ok n w₁=>cases n<;>(try dsimp only)<;>(repeat' split)<;>first|exact f1|trivial|(cases‹Result.ok _ _=Result.ok _ _›<;>first|exact f1|trivial)
    |halt h w₁=>cases h<;>first|exact f1|exact Ag f1
   .generalize(invoke d'.target d'.args).runT p' W #[]=r at f2|-;obtain⟨r,es⟩:=r;refine bL ?_;cases r with
    |ok n w₁=>cases n<;>(try dsimp only)<;>(repeat' split)<;>first|exact f2|trivial|(cases‹Result.ok _ _=Result.ok _ _›<;>first|exact f2|trivial)
    |halt h w₁=>cases h<;>first|exact f2|exact Ag f2
  generalize(invoke d.target d.args).runT p w #[]=r at P H|-;generalize(invoke d'.target d'.args).runT p' W #[]=a6 at P H|-;obtain⟨r,es⟩:=r;cases r with
  |ok n w₁=>
    obtain S|⟨az,W₁,ES,o,rfl,e,k,M,Q,D⟩:=P;.exact absurd S H
    have V:oI G o es ES:=D.1;have z:eO G o λZ=>az=rN Z n:=λZ r c=>(D.2 Z r c).1;have I:okN p n=true:=by obtain⟨Z,r,c⟩:=k.one;exact(D.2 Z r c).2
    have B:=O.ext e;have s:=aa.ext e;have stay:∀(c A:List Frame),c.all (mW p)=true->gV fr c->(eO G o λZ=>A=c.map (cU Z)++tl)->iK X p p' tl L G o W₁ (.go {frame:=fr,callers:=c,status:=.running,dying:=none} w₁) (.go {frame:=fr',callers:=A,status:=.running,dying:=none} W₁):=λc A ag af T=>uw k M (.of ⟨E,ag,rfl,rfl,rfl,af⟩ λj g i=>by rw[B j g i,T j g i];rfl)
    refine sM ?_ e Q (ab V);cases n with
    |value v=>obtain⟨Z,rfl⟩:=gZ k z;exact stay cs q y u s
    |skip=>obtain⟨Z,rfl⟩:=gZ k z;exact stay cs q y u s
    |defer d=>obtain⟨Z,rfl⟩:=gZ k z;exact stay cs q y u s
    |enter f args=>obtain⟨Z,rfl⟩:=gZ k z;exact uw k M (DR.enter K f (.inr rfl) (by simp only[iY,dJ];exact⟨E,y⟩) u λj g i=>⟨by have:=z j g i;simpa[rN]using this,by rw[B j g i,s j g i];rfl⟩)
    |round l f t a b=>
      obtain⟨Z,rfl⟩:=gZ k z;simp only[okN,dJ]at I;refine uw k M (.of ⟨?_,by simp only[iY,dJ];exact⟨E,y⟩,rfl,rfl,rfl,u⟩ λj g i=>?_);.rw[dU];refine⟨?_,rfl,I.2,by simp[Frame.round],by simp[Frame.round],rfl⟩;simp[Frame.round,Bu,I.1.1,I.1.2]
      .have:=z j g i;simp only[rN,Uk,wP,sf]at this;rw[B j g i,s j g i,this.1,this.2];rfl
    |recover=>
      obtain⟨Z,rfl⟩:=gZ k z;have Y:eO G o λZ=>tryRecover fr' q=(tryRecover fr cs).map λx=>(bC Z x.1,x.2.map (cU Z)++tl):=λj g i=>by rw[B j g i,s j g i,rQ tl _ _ (xQ j cs fr u),vh,Option.map_map];rfl
      have ao:eO G o λZ=>fr'.mode=sL Z fr.mode:=λj g i=>by rw[B j g i];rfl
      obtain⟨N,π,μ⟩:=k.one;dsimp only[rN];rw[ao N π μ];cases a5:fr.mode with
      |returning=>cases J:tryRecover fr cs with
        |none=>
          have:tryRecover fr' q=none:=by rw[Y N π μ,J];rfl
          rw[this];exact stay cs q y u s
        |some x=>
          obtain⟨v,c⟩:=x;have h0:tryRecover fr' q=some (bC N v,c.map (cU N)++tl):=by rw[Y N π μ,J];rfl
          rw[h0];refine stay c _ (tG cs fr v c y J) (oa cs fr v c u J) λj g i=>?_;have:=Y j g i;rw[h0,J]at this;simp only[iN,oC,FO]at this;exact this.2
      |run=>exact stay cs q y u s
      |panicking a2=>exact stay cs q y u s
    |_=>exact absurd I (by simp[okN])
  |halt h w₁=>
    obtain S|ak|⟨aj,ae,W₁,ES,o,rfl,e,k,M,Q,D⟩:=P;.exact absurd S H
    .cases h<;>first|(cases ak;done)|trivial
    .have V:oI G o es ES:=D.1;have z:eO G o λZ=>ae=HY Z h:=λZ r c=>(D.2 Z r c);have B:=O.ext e;have s:=aa.ext e;have a3:=R.ext e;have a0:∀(c A:List PanicEntry),c.all (!·.goexit)=true->(eO G o λZ=>A=c.map (Br Z))->iK X p p' tl L G o W₁ (.go {frame:=fr.raise c,callers:=cs,status:=.running,dying:=none} w₁) (.go {frame:=fr'.raise A,callers:=q,status:=.running,dying:=none} W₁):=λc A ah T=>uw k M (.of ⟨yZ E c ah,y,rfl,rfl,rfl,u.kind (tC fr c)⟩ λj g i=>by rw[T j g i,B j g i,s j g i,wm];rfl)
     cases h with
     |panic v=>obtain⟨a7,rfl,av⟩:=xR k z;refine sM ?_ e Q (ab V);exact a0 _ _ rfl λj g i=>by rw[av j g i];rfl
     |throw m=>exact DT fr m w₁
     |_=>cases aj
end
section
variable{X:FuncId->Prop}{p p':Program}{tl:List Frame}{L:Mh}{G:Gs}{U:Nat->Option Nat}{w W:World}
def PT{Z}{γ:Type}(f f':γ->Sem Value):∀l:List γ,(∀a∈l,SR p p' Z (VR Z) (f a) (f' a))->SR p p' Z (λa b=>b=a.map (bC Z)) (l.mapM f) (l.mapM f')
 |[],_=>by simp;exact aO rfl
 |a::l,h=>by simp;refine aL (h a S8) ?_;rintro v _ rfl;refine aL (PT f f' l λb c=>h b (by simp[c])) ?_;rintro d _ rfl;exact aO rfl
def Nh(F:Fit G p p'){Z}(R:Rn G Z){fn c}(h:c.results=fn.results)(t):SR p p' Z (VR Z) (results fn t) (results c (t.map (bC Z))):=by
 unfold results;rw[h];have d:∀i,(t.map (bC Z)).getD i undef=bC Z (t.getD i undef):=λi=>by simp;cases t[i]?<;>simp
 refine aL (Q:=λa b=>b=a.map (bC Z)) ?_ ?_
 .rw[Uh,Uh];refine aL (PT _ _ fn.results.toList λa _=>?_) ?_;.cases a with
   |tmp i=>exact aO (d i)
   |cell a ty=>dsimp only;rw[d];refine aL (zV F R _) ?_;rintro x _ rfl;exact tz F ty x
  .rintro e _ rfl;exact aO S8
 .rintro e _ rfl;refine aO ?_;by_cases f:e.size=1;.simp_all
  .simp[VR,f]
def Ni{ds fr fr' d}(ok:eV G U w W)(c:eO G U λZ=>fr'=cU Z fr)(e:fr.defers=d::ds):∃d' b,fr'.defers=d'::b/\(eO G U λZ=>d'=mG Z d)/\eO G U λZ=>b=ds.map (mG Z):=by
 obtain⟨Z,i,h⟩:=ok.one;have h0:=c Z i h;refine⟨mG Z d,ds.map (mG Z),by rw[h0];simp[cU,e],λg f a=>?_,λg f a=>?_⟩<;>
 .have:=congrArg Frame.defers ((c g f a).symm.trans h0);simp only[cU,e,qM,yr]at this;first|exact this.1.symm|exact this.2.symm
def DW(F:Fit G p p')(C:kT G p p')(K:Cv X p p'){main main' fr fr' cs J}(ak:cs=[]->main=true/\(tl=[]->main'=true))(ok:eV G U w W)(wr:WR p L G U w W)(ab:mW p fr=true)(s:cs.all (mW p)=true)(j:gV fr cs)(g:eO G U λZ=>fr'=cU Z fr)(E:eO G U λZ=>J=cs.map (cU Z)++tl):iK X p p' tl L G U W (unwind p main fr cs none w) (unwind p' main' fr' J none W):=by
 obtain⟨ar,k2⟩:=pq ok g;have u:=dU.1 ab;have bb:∀{A:Nat->Option Nat} {es ES:Array Event},oI G A es ES->oI G A (Go.seen p fr.fn es) (Go.seen p' fr'.fn ES):=λh=>by rw[ar];exact h.seen K fr.fn
 cases B:fr.defers with
 |cons d ds=>
   obtain⟨d',ag,Q,N,O⟩:=Ni ok g B;have π:okD p d=true/\ds.all (okD p)=true:=by have:=u.2.1;rw[B]at this;simpa using this
   by_cases Y:∃b,d.target=.collected b
   .obtain⟨b,j⟩:=Y;obtain⟨t,μ⟩:=d;simp only at j;subst j;obtain⟨m,S,P⟩:=ok.one;have ay:=N m S P;subst ay;have I:eO G U λZ=>SR p p' Z (λx y=>y=x.map (mG Z)/\x.all (okD p)=true) (Instr.takeDeferred b) (Instr.takeDeferred (m b)):=λZ a f=>by
     have:m b=Z b:=by have:=congrArg Deferred.target (N Z a f);simpa[mG,BV]using this
     rw[this];exact Cc b
    have v:=VO ok wr I;unfold unwind;rw[B,Q];dsimp only[mG,BV];by_cases o:uE L (cV ((Instr.takeDeferred b).runT p w #[]).1) (cV ((Instr.takeDeferred (m b)).runT p' W #[]).1)
    .obtain⟨f1,f2⟩:=o;refine vo (.inl ⟨?_,?_⟩);.generalize(Instr.takeDeferred b).runT p w #[]=r at f1|-;obtain⟨r,es⟩:=r;cases r<;>exact bL f1
     .generalize(Instr.takeDeferred (m b)).runT p' W #[]=r at f2|-;obtain⟨r,es⟩:=r;cases r<;>exact bL f2
    generalize(Instr.takeDeferred b).runT p w #[]=r at v o|-;generalize(Instr.takeDeferred (m b)).runT p' W #[]=av at v o|-;obtain⟨r,es⟩:=r;cases r with
    |ok n w₁=>
      obtain ah|⟨au,W₁,ES,A,rfl,e,T,af,V,D⟩:=v;.trivial
      have aa:oI G A es ES:=D.1;have a7:eO G A λZ=>au=n.map (mG Z):=λZ r c=>(D.2 Z r c).1;have a8:n.all (okD p)=true:=by obtain⟨Z,r,c⟩:=T.one;exact(D.2 Z r c).2
      have az:=g.ext e;have a0:=E.ext e;have a2:=O.ext e;refine sM ?_ e V (bb aa);refine uw T af (.of ⟨?_,s,rfl,rfl,rfl,j.kind rfl⟩ λl a f=>?_);.rw[dU];exact⟨u.1,by simp only[Ul,dJ];exact⟨a8,π.2⟩,u.2.2⟩
      .rw[az l a f,a0 l a f,a2 l a f,a7 l a f,<-sw];rfl
    |halt h w₁=>trivial
   .have I:=H9 (fr:={fr with defers:=ds}) (fr':={fr' with defers:=ag}) (d:=d) (d':=d') F C K ok wr (by rw[dU];exact⟨u.1,π.2,u.2.2⟩) s (j.kind rfl) π.1 (λZ a f=>by rw[g Z a f,O Z a f];rfl) E N;have bc:unwind p main fr cs none w=callDeferred p {fr with defers:=ds} cs none d w:=by unfold unwind;rw[B];obtain⟨t,μ⟩:=d;cases t<;>first|rfl|exact absurd ⟨_,rfl⟩ Y
    have bd:unwind p' main' fr' J none W=callDeferred p' {fr' with defers:=ag} J none d' W:=by
     unfold unwind;rw[Q];have:¬∃b,d'.target=.collected b:=by rintro⟨b,j⟩;obtain⟨Z,a,f⟩:=ok.one;rw[N Z a f]at j;obtain⟨t,μ⟩:=d;cases t<;>first|exact Y ⟨_,rfl⟩|simp[mG,BV]at j
     obtain⟨t,μ⟩:=d';cases t<;>first|rfl|exact absurd ⟨_,rfl⟩ this
    rw[bc,bd];exact I
 |nil=>
   have Q:fr'.defers=[]:=by obtain⟨Z,a,f⟩:=ok.one;rw[g Z a f];simp[cU,B]
   unfold unwind;rw[B,Q];dsimp only;have aj:eO G U λZ=>fr'.mode=sL Z fr.mode:=λl a f=>by rw[g l a f];rfl
   obtain⟨m,S,P⟩:=ok.one;have H:=aj m S P;cases R:fr.mode with
   |run=>trivial
   |panicking q=>
     rw[R]at H;rw[H];have hgo:q.all (!·.goexit)=true:=by have:=u.2.2.2.2.2;rw[R]at this;exact this
     dsimp only[sL];refine iK.unless λ_=>abj ?_ ?_
     .have a4:Frame.catches p' fr'=false:=by
       have a9:fr'.todo=fr.todo.map (mH m):=by rw[g m S P];rfl
       have ao:=u.1;unfold Frame.catches;rw[a9];cases ba:fr.todo with
       |nil=>split<;>simp_all
       |cons i k=>rw[ba]at ao;cases i<;>first|(simp[Bu]at ao;done)|(cases p'.funcs[fr'.fn]?<;>rfl)
      simp[a4]
     .cases cs with
      |cons c r=>obtain⟨bf,av,rfl,O,a3⟩:=all_cons ok E;simp only[iY,dJ]at s;refine uw ok wr (.of ⟨yZ s.1 q hgo,s.2,rfl,rfl,rfl,Kh (fr:=c) (cs:=r) j (tC c q)⟩ λl a f=>?_);have ae:=aj l a f;rw[R,H]at ae;simp only[sL,FrameMode.panicking.injEq]at ae;rw[ae,O l a f,a3 l a f,wm];rfl
      |nil=>
        dsimp only;have a6:¬q.head?.any (·.goexit)=true:=by cases q with
         |nil=>simp
         |cons e q=>simp only[iY,dJ,Bool.not_eq_true']at hgo;simp[hgo.1]
        rw[aX a6];cases(reportChain q false).run p w with
        |ok t w=>exact .inr (.inl ⟨.inl rfl,_,rfl,rfl,K.dry t⟩)
        |halt h w=>cases h<;>trivial
   |returning=>rw[R]at H;rw[H];dsimp only[sL];have z:=K.sort fr.fn;rw[ar];cases ai:p.funcs[fr.fn]? with
     |none=>
       have:p'.funcs[fr.fn]?=none:=by rw[ai]at z;simpa using z
       rw[this];refine lX F ok wr ab s j g E (λZ a f=>?_) ak;rw[g Z a f];simp only[cU,OQ,kW];cases fr.tmps[0]?<;>simp
     |some fn=>
       rw[ai]at z;obtain⟨M,a5,z⟩:=I8.1 z;rw[a5];simp only[FO]at z;dsimp only;have I:eO G U λZ=>SR p p' Z (VR Z) (results fn fr.tmps) (results M fr'.tmps):=λZ a f=>by
        have:fr'.tmps=fr.tmps.map (bC Z):=by rw[g Z a f];rfl
        rw[this];exact Nh F a z.1 _
       have v:=VO ok wr I;by_cases o:uE L (cV ((results fn fr.tmps).runT p w #[]).1) (cV ((results M fr'.tmps).runT p' W #[]).1)
       .obtain⟨f1,f2⟩:=o;refine vo (.inl ⟨?_,?_⟩);.generalize(results fn fr.tmps).runT p w #[]=r at f1|-;obtain⟨r,es⟩:=r;cases r<;>first|exact bL (fZ f1)|exact bL f1|(rename_i h _;cases h<;>exact bL f1)
        .generalize(results M fr'.tmps).runT p' W #[]=r at f2|-;obtain⟨r,es⟩:=r;cases r<;>first|exact bL (fZ f2)|exact bL f2|(rename_i h _;cases h<;>exact bL f2)
       generalize(results fn fr.tmps).runT p w #[]=r at v o|-;generalize(results M fr'.tmps).runT p' W #[]=av at v o|-;obtain⟨r,es⟩:=r;cases r with
       |ok n w₁=>
         obtain ah|⟨au,W₁,ES,A,rfl,e,T,af,V,D⟩:=v;.exact absurd ah o
         have aa:oI G A es ES:=D.1;refine sM ?_ e V (aa.seen K fr.fn);exact lX F T af ab s j (g.ext e) (E.ext e) (λZ r c=>(D.2 Z r c)) ak
       |halt h w₁=>cases h<;>trivial
end
section
variable{p p':Program}{L:Mh}{G:Gs}{α β γ δ:Type}
def ow.r9{U W Q}{r:Result α×Array Event}{a:Result β×Array Event}(h:uE L (cV r.1) (cV a.1)):ow p L G U W Q r a:=by obtain⟨r,es⟩:=r;cases r<;>exact .inl h
def ow.weaken{U q W W₁ Q}{r:Result α×Array Event}{s:Result β×Array Event}(e:Ext U q)(f:Fr U q W W₁)(h:ow p L G q W₁ Q r s):ow p L G U W Q r s:=by
 match r with
 |(.ok a w₁,t)=>
   obtain n|⟨b,g,d,o,i,c,j,k,l,m⟩:=h;.exact .inl n
   .exact .inr ⟨b,g,d,o,i,e.trans c,j,k,f.trans c l,m⟩
 |(.halt x w₁,t)=>
   obtain n|h|⟨u,b,g,d,o,i,c,j,k,l,m⟩:=h;.exact .inl n
   .exact .inr (.inl h)
   .exact .inr<|.inr ⟨u,b,g,d,o,i,e.trans c,j,k,f.trans c l,m⟩
def Kr{n:Int}{s}{f:α->Sem γ}{w es}(h:n<(cV (s.runT p w es).1).drawn):n<(cV ((s>>=f).runT p w es).1).drawn:=by rw[oN];generalize s.runT p w es=r at h;obtain⟨r,b⟩:=r;cases r with
 |ok a w₁=>exact CL h (FN.2 (qi (f a) w₁ b))
 |halt x w₁=>exact h
def ow.bind{Q Q' U w W es ES s s'}{f:α->Sem γ}{f':β->Sem δ}(h:Out p L G U W Q (s.runT p w es) (s'.runT p' W ES))(k:∀a b w₁ W₁ g d c,Ext U c->eV G c w₁.heap.size W₁.heap.size->WR p L G c w₁ W₁->oI G c g d->(eO G c λZ=>Q Z a b)->ow p L G c W₁ Q' ((f a).runT p w₁ g) ((f' b).runT p' W₁ d)):
 ow p L G U W Q' ((s>>=f).runT p w es) ((s'>>=f').runT p' W ES):=by
 by_cases i:uE L (cV (s.runT p w es).1) (cV (s'.runT p' W ES).1);.exact ow.r9 ⟨Kr i.1,Kr i.2⟩
 rw[oN,oN];generalize s.runT p w es=r at h i|-;generalize s'.runT p' W ES=u at h i|-;obtain⟨r,g⟩:=r;cases r with
 |ok a w₁=>
   obtain q|⟨b,W₁,d,c,rfl,e,n,o,j,l,m⟩:=h;.trivial
   .exact ow.weaken e j (k a b w₁ W₁ g d c e n o l m)
 |halt x w₁=>
   obtain q|h|⟨t,b,W₁,d,c,rfl,e,n,o,j,l,m⟩:=h;.trivial
   .exact .inr (.inl h)
   .exact .inr<|.inr ⟨t,b,W₁,d,c,rfl,e,n,o.we,j,l,m⟩
def PU:=@ow.bind
def ow.lost{Q:Pi->α->β->Prop}{U W w₁ a h b}(e:xf h=true):ow p L G U W Q (.halt h w₁,a) b:=.inr (.inl e)
def VQ:=@ow.lost
def ow.loose(A:G.strict=false){Q U w W es ES}{s:Sem α}{s':Sem β}(ok:eV G U w.heap.size W.heap.size)(v:∀b c,U b=some c->∃o o',w.heap[b]?=some o/\W.heap[c]?=some o'/\cI p o=true/\eO G U λZ=>o'=dO Z o)(z:W.os=w.os)(B:w.tape=L.tp)(ev:oI G U es ES)
 (n:(cV (s.runT p w es).1).drawn=w.drawn)(t:eO G U λZ=>SR p p' Z (Q Z) s s'):ow p L G U W Q (s.runT p w es) (s'.runT p' W ES):=by
 have wr:WR p ⟨w.drawn,(W.drawn:Int) -w.drawn,L.tp⟩ G U w W:=⟨v,λi q hi=>by simp only at hi;omega,z,by simp only;omega,B⟩;have h:=qY s s' U w W es ES ok wr ev t;have we:∀{e:Nat->Option Nat} {w₁ W₁:World},WR p ⟨w.drawn,(W.drawn:Int) -w.drawn,L.tp⟩ G e w₁ W₁->WE p L G e w₁ W₁:=λx=>⟨x.obj,x.os,λy=>(by rw[A]at y;cases y),x.tp⟩;generalize s.runT p w es=r at h n|-;obtain⟨r,C⟩:=r;cases r with
 |ok a w₁=>
   obtain m|⟨b,W₁,f,e,d,g,j,k,l⟩:=h;.have d:=m.1;simp[cV]at n;simp at d;omega
   .exact .inr ⟨b,W₁,f,e,d,g,j,we k,l⟩
 |halt x w₁=>
   obtain m|h|⟨u,b,W₁,f,e,d,g,j,k,l⟩:=h;.have d:=m.1;simp[cV]at n;simp at d;omega
   .exact .inr (.inl h)
   .exact .inr<|.inr ⟨u,b,W₁,f,e,d,g,j,we k,l⟩
def tH(r o w es):(cV ((setObj r o).runT p w es).1).drawn=w.drawn:=by
 show(cV ((Sem.setObj r o (.pure ())).runT p w es).1).drawn=w.drawn;simp[Sem.runT];repeat' split
 all_goals rfl
end
section
variable{p p':Program}{L:Mh}{G:Gs}{U:Nat->Option Nat}{w W:World}{es ES:Array Event}
def Zr(n):Fr U U W {W with drawn:=W.drawn+n}:=⟨L9,λ_ _ _=>rfl,λc (a:(W:Nat)<=c) (b:c<(W:Nat))=>by omega,λ_ _ h _=>h,rfl,rfl,O0 _ _,rfl⟩
def VS(B:G.strict=false){a k a' k'}(ok:eV G U w W)(wr:WR p L G U w W)(ev:oI G U es ES)(o:eO G U fun Z=>a'=bC Z a)(m:eO G U fun Z=>k'=bC Z k){r t}{f f':Value->Obj}(A:∀x j,(eO G U fun Z=>j=bC Z x)->eO G U fun Z=>t=Z r/\f' j=dO Z (f x)/\cI p (f x)=true):
 ow p L G U W (fun _ _ _=>True) ((Instr.keyThatStays a k>>=fun x=>setObj r (f x)).runT p w es) ((Instr.keyThatStays a' k'>>=fun x=>setObj t (f' x)).runT p' W ES):=by
 have last:∀(x j:Value) (n s:Nat),(eO G U fun Z=>j=bC Z x)->ow p L G U W (fun _ _ _=>True) ((setObj r (f x)).runT p {w with drawn:=w.drawn+n} es) ((setObj t (f' j)).runT p' {W with drawn:=W.drawn+s} ES):=fun x j n s C=>by refine ow.weaken (oH _) (Zr s) (ow.loose B (w:={w with drawn:=w.drawn+n}) ok wr.obj wr.os wr.tp ev (tH _ _ _ _) fun Z h d=>?_);obtain⟨l,i,y⟩:=A x j C Z h d;rw[l,i];exact gI y
 have run:∀(q:Program) (b c:Value) (g:Value->Sem Unit) (v:World) (e:Array Event),(Instr.keyThatStays b c>>=g).runT q v e=if Instr.sameBits 10000 b c then(g c).runT q v e else(g (if(Question.extern "map.whichKeyStays" 2).cut (v.tape v.drawn (.extern "map.whichKeyStays" 2))=0 then c else b)).runT q {v with drawn:=v.drawn+1} e:=fun q b c g v e=>by
  unfold Instr.keyThatStays;split;.rfl
  .trivial
 rw[run,run];by_cases l:Instr.sameBits 10000 a k=true
 .have e:=Bp _ _ _ l;rw[bM l];by_cases i:Instr.sameBits 10000 a' k'=true;.rw[bM i];exact last k k' 0 0 m
  .rw[aX i];refine last k _ 0 1 fun Z h d=>?_;have u:a'=k':=by rw[o Z h d,m Z h d,e]
   rw[u,ite_self];exact m Z h d
 .rw[aX l];by_cases i:Instr.sameBits 10000 a' k'=true
  .have e:=Bp _ _ _ i;rw[bM i];refine last _ k' 1 0 fun Z h d=>?_;split;.exact m Z h d
   .rw[<-e];exact o Z h d
  .rw[aX i];by_cases z:w.drawn<L.lim
   .have h0:=wr.tape 0 (.extern "map.whichKeyStays" 2) z;simp only[FJ]at h0;rw[h0];refine last _ _ 1 1 fun Z h d=>?_;split;.exact m Z h d
    .exact o Z h d
   .have D:=wr.MW;refine ow.r9 ⟨?_,?_⟩;.rw[tH];simp only;omega
    .rw[tH];simp only;omega
def Fz(F:Fit G p p')(ao:G.strict=false)(t)(K:yN p t=true){m k v O k' B}(ok:eV G U w W)(wr:WR p L G U w W)(ev:oI G U es ES)(n:eO G U λZ=>O=bC Z m)(d:eO G U λZ=>k'=bC Z k)(g:eO G U λZ=>B=bC Z v):
 ow p L G U W (λ_ _ _=>True) ((Instr.mapUpdate t m k v).runT p w es) ((Instr.mapUpdate t O k' B).runT p' W ES):=by
 unfold Instr.mapUpdate;refine PU (qY _ _ U w W es ES ok wr ev λZ a b=>aT F t) ?_;intro u ay w₁ W₁ H E C ex z R I j;obtain⟨q,y,s⟩:=z.one;obtain⟨rfl,N⟩:=j q y s;replace n:=n.ext ex;replace d:=d.ext ex;replace g:=g.ext ex;cases ay<;>first|exact VQ rfl|skip
 rename_i au e;dsimp only;cases m<;>first|exact VQ rfl|skip
 rename_i r;cases r with
 |none=>have:=n q y s;subst this;simp only[dQ,Jf];exact(qY _ _ C w₁ W₁ H E z R I λZ a b=>bK F _).we
 |some r=>
   have:=n q y s;subst this;simp only[dQ,iN];have M:eO G C λZ=>q r=Z r:=λZ a b=>by simpa using n Z a b
   refine PU (Q:=λZ o o'=>o'=dO Z o) (qY _ _ C w₁ W₁ H E z R I λZ a b=>by rw[M Z a b];exact gX) ?_;intro o o' a2 mE aa μ T ex P az af j;cases o<;>first|exact VQ rfl|skip
   rename_i ms c;obtain⟨D,aj,ah⟩:=P.one;have:=j D aj ah;subst this;have h:eO G T λZ=>ms.map (mB D)=ms.map (mB Z):=λZ a b=>by simpa[dO]using j Z a b
   have l:=M.ext ex;replace d:=d.ext ex;replace g:=g.ext ex;simp only[dO];refine PU (qY _ _ T a2 mE aa μ P az af λZ a b=>by rw[d Z a b];exact lK F _ _ 5 _ _ (jI K N)) ?_;intro _ _ a3 Y ab V a5 ex av a0 ag _;replace h:=h.ext ex;replace l:=l.ext ex;replace d:=d.ext ex;replace g:=g.ext ex;refine PU (Q:=λZ f f'=>f'=RV Z f) (qY _ _ a5 a3 Y ab V av a0 ag λZ a b=>by rw[h Z a b,d Z a b,sj];exact qp F a au (jI K N) k ms.toList) ?_;intro f f' a4 π ae X a6 ex A S J j;replace h:=h.ext ex;replace l:=l.ext ex;replace d:=d.ext ex;replace g:=g.ext ex;obtain⟨a7,ak,ai⟩:=A.one;have:=j a7 ak ai;subst this;cases f with
   |none=>refine(qY _ _ a6 a4 π ae X A S J λZ a b=>?_).we;have:=gI (p:=p) (p':=p') (Z:=Z) (r:=r) (o:=.map (ms.push {key:=k,val:=v,born:=c}) (c+1)) rfl;simpa[dO,mB,RV,h Z a b,l Z a b,d Z a b,g Z a b]using this
   |some f=>
     obtain⟨i,x⟩:=f;refine VS ao A S J (λZ a b=>?_) d (f:=λx=>.map (ms.modify i λe=>{e with key:=x,val:=v}) c) (f':=λx=>.map ((ms.map (mB D)).modify i λe=>{e with key:=x,val:=B}) c) (λx a8 ar Z a b=>⟨l Z a b,?_,rfl⟩);.rw[h Z a b,d Z a b,kW];cases ms[i]?<;>rfl
     .simp only[dO,Obj.map.injEq,sf];rw[h Z a b,g Z a b,ar Z a b];exact(DI (mB Z) (λe=>{e with key:=x,val:=v}) (λe=>{e with key:=bC Z x,val:=bC Z v}) (λx=>rfl) ms i).symm
def ow.skip{r:Sem Unit}{g:Sem Unit}(h:ow p L G U W (λ_ _ _=>True) (r.runT p w es) (g.runT p' W ES)):ow p L G U W (NR p) ((do r;pure Next.skip).runT p w es) ((do g;pure Next.skip).runT p' W ES):=by rw[oN,oN];generalize r.runT p w es=x at h|-;generalize g.runT p' W ES=c at h|-;obtain⟨x,q⟩:=x;cases x with
 |ok a w₁=>
   obtain d|⟨b,W₁,e,i,rfl,f,k,l,m,n,-⟩:=h;.refine .inl ⟨d.1,?_⟩;have:=d.2;obtain⟨c,j⟩:=c;cases c<;>exact this
   .exact .inr ⟨.skip,W₁,e,i,rfl,f,k,l,m,n,λZ _ _=>⟨rfl,rfl⟩⟩
 |halt y w₁=>
   obtain d|h|⟨o,b,W₁,e,i,rfl,f⟩:=h;.refine .inl ⟨d.1,?_⟩;have:=d.2;obtain⟨c,j⟩:=c;cases c<;>exact this
   .exact .inr (.inl h)
   .exact .inr<|.inr ⟨o,b,W₁,e,i,rfl,f⟩
end
end Go.Ren
