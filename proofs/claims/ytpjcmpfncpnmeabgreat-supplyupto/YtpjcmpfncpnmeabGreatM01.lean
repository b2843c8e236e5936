import Derived.RunT
import Derived.DyingOn
import Derived.Test.YtpjcmpfncpnmeabGreatM00
set_option linter.all false
set_option maxHeartbeats 1000000
namespace Go.Ren
section
variable{G:Gs}{p p':Program}{Z:Pi}(F:Fit G p p')(R:Rn G Z)
omit F R in
theorem EE(n):SR p p' Z (λ_ _=>True) (askRoom n) (askRoom n):=by exact eP (I7 (m:=.noRoom)) (aN trivial)
theorem EF{e cs}(h:cs.map (bB Z)=cs):SR p p' Z (λa a'=>a'=cC Z a/\Z.gh a.block=none) (newRow e cs) (newRow e cs):=by have:=qA (p:=p) (p':=p') (Z:=Z) e cs;rwa [h]at this
theorem Dw{t e:TypeId}(F:Fit G p p')(a:t<p.types.size)(h:p.underlying t=some (.slice e)):e<p.types.size:=by have:=Ev F a h;simpa[AV]using this
theorem wj(v):SR p p' Z (λa b=>b=a) (asInt v) (asInt (bB Z v)):=by refine aK (qB v) ?_;rintro _ x rfl;exact aN rfl
include F R
theorem gX{α b β c Q}(e){f:α->Sem β}{f':b->Sem c}(a:ade e=false:=by rfl):SR p p' Z Q (runtimePanic e>>=f) (runtimePanic e>>=f'):=aK (Q:=λ_ _=>False) (bK F e a) (λ_ _ h=>h.elim)
theorem Ja{t:TypeId}(k:t<p.types.size)(l c):SR p p' Z (VR Z) (Instr.makeSlice t l c) (Instr.makeSlice t (bB Z l) (bB Z c)):=by refine aK (aR F t) ?_;rintro _ d ⟨rfl,h⟩;cases d with
 |slice e=>
   have j:=Dw F k h;refine aK (wj l) ?_;rintro _ l rfl;refine aK (wj c) ?_;rintro _ c rfl;refine aK (fV F e) ?_;rintro _ i ⟨rfl,_⟩;refine eP ?_ ?_;.refine eP (gX F R _) (eP (gX F R _) ?_);refine aK iF ?_;rintro _ n rfl;exact gX F R _
   .refine aK (EE _) ?_;intro _ _ _;refine aK (dZ F e) ?_;rintro _ n rfl;refine eP ?_ ?_;.refine aK (Q:=λa b=>b=a/\a.map (bB Z)=a) (aN ⟨rfl,S8⟩) ?_;rintro _ z ⟨rfl,f⟩;refine aK (Q:=λa b=>b=cC Z a/\Z.gh a.block=none) (EF (tA f _)) ?_;rintro a _ ⟨rfl,g⟩;exact aN (by simp[VR,fT g])
    .refine aK (fY F j) ?_;rintro _ z ⟨rfl,f⟩;refine aK (Q:=λa b=>b=a/\a.map (bB Z)=a) (aN ⟨rfl,by rw[<-lY,f]⟩) ?_;rintro _ z ⟨rfl,f⟩;refine aK (Q:=λa b=>b=cC Z a/\Z.gh a.block=none) (EF (tA f _)) ?_;rintro a _ ⟨rfl,g⟩;exact aN (by simp[VR,fT g])
 |_=>exact aM rfl
omit R
theorem Gl{t:TypeId}(k:t<p.types.size)(n c):SR p p' Z (VR Z) (Instr.buildSlice t n c) (Instr.buildSlice t n (c.map λ(i,x)=>(i,bB Z x))):=by refine aK (aR F t) ?_;rintro _ d ⟨rfl,h⟩;cases d with
 |slice e=>
   have j:=Dw F k h;refine aK (dZ F e) ?_;rintro _ s rfl;refine eP (aM rfl) ?_;refine eP ?_ ?_;.refine aK (Q:=λa b=>b=a/\a.map (bB Z)=a) (aN ⟨rfl,S8⟩) ?_;rintro _ z ⟨rfl,f⟩;have:=zO (Z:=Z) (λi=>some (i*s,s)) c.toList ((Array.range (n*s)).map λx=>z[x%z.size]!);rw[tA f]at this;dsimp only;rw[sQ,this];cases Instr.fill (λi=>some (i*s,s)) ((Array.range (n*s)).map λx=>z[x%z.size]!) c.toList with
    |none=>exact aM rfl
    |some cs=>refine aK (qA e cs) ?_;rintro a _ ⟨rfl,g⟩;exact aN (by simp[VR,fT g])
   .refine aK (fY F j) ?_;rintro _ z ⟨rfl,f⟩;refine aK (Q:=λa b=>b=a/\a.map (bB Z)=a) (aN ⟨rfl,by rw[<-lY,f]⟩) ?_;rintro _ z ⟨rfl,f⟩;have:=zO (Z:=Z) (λi=>some (i*s,s)) c.toList ((Array.range (n*s)).map λx=>z[x%z.size]!);rw[tA f]at this;dsimp only;rw[sQ,this];cases Instr.fill (λi=>some (i*s,s)) ((Array.range (n*s)).map λx=>z[x%z.size]!) c.toList with
    |none=>exact aM rfl
    |some cs=>refine aK (qA e cs) ?_;rintro a _ ⟨rfl,g⟩;exact aN (by simp[VR,fT g])
 |_=>exact aM rfl
omit F in
theorem Lq(x):SR p p' Z (λa b=>b=a/\∀q l c,x=.slice q l c->a<=l) (Builtin.lenOf x) (Builtin.lenOf (bB Z x)):=by cases x with
 |slice a l c=>rw[bQ];exact aN ⟨rfl,λq f d e=>by cases e;exact L9⟩
 |string s=>rw[cA];exact aN ⟨rfl,λq f d e=>by cases e⟩
 |_=>exact aM rfl
omit F in
theorem r7(s n x)(d:∀q l c,x=.slice q l c->n<=l):SR p p' Z (λa b=>b=a.map (bB Z)/\(n=0->a=#[])) (Builtin.firstCells s n x) (Builtin.firstCells s n (bB Z x)):=by cases x with
 |slice a l c=>cases a with
   |none=>rw[bQ];exact aN S8
   |some a=>
     rw[bQ];by_cases h0:n=0;.subst h0;show SR p p' Z _ (loadCells a (0*s)) (loadCells _ (0*s));rw[VD];exact aN S8
     .refine(xY a _ l c λh _=>?_).mono λ_ _ h=>⟨h,λh=>absurd h h0⟩;have:=d _ _ _ rfl;rw[show n=0 by omega,VD]
 |string s=>rw[cA];refine aN ⟨by simp[Qw],λh=>?_⟩;subst h;simp
 |_=>exact aM rfl
theorem aa5(f t args):SR p p' Z (VR Z) (Builtin.copy_ f t args) (Builtin.copy_ f t (args.map (bB Z))):=by unfold Builtin.copy_;simp;cases f[0]? with
 |none=>exact aM rfl
 |some t=>cases args[0]? with
   |none=>exact aM rfl
   |some d=>cases args[1]? with
     |none=>exact aM rfl
     |some s=>refine aK (aR F t) ?_;rintro _ u ⟨rfl,_⟩;cases u with
       |slice e=>cases d with
         |slice b l c=>rw[bQ];refine aK (Lq s) ?_;rintro _ n ⟨rfl,j⟩;refine aK (dZ F e) ?_;rintro _ z rfl;refine aK (r7 z _ s λq k g e=>bI (Nat.min_le_left _ _) (j q k g e)) ?_;rintro cs _ ⟨rfl,i⟩;cases b with
           |none=>exact aN (by simp[VR,goInt])
           |some a=>refine aK (Q:=λ_ _=>True) (by have:=vZ (p:=p) (p':=p') (Z:=Z) a cs.toList 0 l c (λh _=>by rw[i (by rw[h];exact Nat.min_zero _)]);simpa[Addr.add]using this) ?_;intro _ _ _;exact aN (by simp[VR,goInt])
         |_=>exact aM rfl
       |_=>exact aM rfl
omit F in
omit F in
theorem Lr(s l n:Nat)(b:Option Addr)(x:Value)(w:World)(es:Array Event):∃a,(Builtin.mayShare s l n b x).runT p w es=(.ok a w,es):=by
 have hold:∀(a:Addr) (m:Nat) {γ:Type} (f:Bool->Sem γ),(∀t,∃y,(f t).runT p w es=(.ok y w,es))->∃y,(Builtin.holdsCells a m>>=f).runT p w es=(.ok y w,es):=λa m γ f hf=>by show∃y,(Sem.shape a.block _).runT p w es=_;simp only[Sem.runT];cases w.shape? a.block with
  |none=>exact hf _
  |some z=>exact hf _
 have fro:∀(a:Addr) {γ:Type} (f:Bool->Sem γ),(∀t,∃y,(f t).runT p w es=(.ok y w,es))->∃y,(frozen a>>=f).runT p w es=(.ok y w,es):=λa γ f hf=>by show∃y,(Sem.frozen a _).runT p w es=_;simp only[Sem.runT];exact hf _
 have last:∀t:Bool,∃y,(if(!t)=true then pure true else match x with|.slice (some c) _ _=>do let h<-Builtin.holdsCells c (n*s);pure (!h||b.any (·.block==c.block))|_=>pure false:Sem Bool).runT p w es=(.ok y w,es):=λt=>by
  split;.exact⟨_,rfl⟩
  .split;.exact hold _ _ _ λt=>⟨_,rfl⟩
   .exact⟨_,rfl⟩
 unfold Builtin.mayShare;cases b with
 |none=>exact last true
 |some a=>refine hold a _ _ λt=>?_;refine fro _ _ λt'=>?_;exact last _
end
section
variable{G:Gs}{p p':Program}{Z:Pi}(F:Fit G p p')(R:Rn G Z)
theorem pn{z}(h:z.map (bB Z)=z)(n):(Builtin.zeroCells z n).map (bB Z)=Builtin.zeroCells z n:=tA h _
include F R
theorem Tp(j t args)(h:∀s,j[0]?=some s->s<p.types.size):SR p p' Z (VR Z) (Builtin.append_ j t args) (Builtin.append_ j t (args.map (bB Z))):=by unfold Builtin.append_;simp only[kT];cases E:j[0]? with
 |none=>exact aM rfl
 |some st=>have G:=h st E;cases args[0]? with
   |none=>exact aM rfl
   |some s=>cases args[1]? with
     |none=>exact aM rfl
     |some x=>simp only[dY];refine aK (aR F st) ?_;rintro _ u ⟨rfl,H⟩;cases u with
       |slice e=>have o:=Dw F G H;cases s with
         |slice b sl d=>
           rw[bQ];refine aK (dZ F e) ?_;rintro _ size rfl;have M:∀n,SR p p' Z (λa b=>b=a.map (bB Z)) (do let z<-zeroValue e;pure (Builtin.zeroCells z.cells n)) (do let z<-zeroValue e;pure (Builtin.zeroCells z.cells n)):=λn=>by refine aK (fY F o) ?_;rintro _ z ⟨rfl,f⟩;exact aN (pn (by rw[<-lY,f]) n).symm
           have fin:∀old new g cap,SR p p' Z (VR Z) (do let z<-zeroValue e;let a<-newRow e (old++new++Builtin.zeroCells z.cells (cap -g));pure (.slice (some a) g cap)) (do let z<-zeroValue e;let a<-newRow e (old.map (bB Z)++new.map (bB Z)++Builtin.zeroCells z.cells (cap -g));pure (.slice (some a) g cap)):=λold new g cap=>by refine aK (fY F o) ?_;rintro _ z ⟨rfl,f⟩;refine aK (Q:=λa b=>b=cC Z a/\Z.gh a.block=none) (by rw[<-pn (Z:=Z) (show z.cells.map (bB Z)=z.cells by rw[<-lY,f]),<-VE,<-VE];rw[pn (Z:=Z) (show z.cells.map (bB Z)=z.cells by rw[<-lY,f])];exact qA _ _) ?_;rintro a _ ⟨rfl,B⟩;exact aN (by simp[VR,fT B])
           have K:SR p p' Z (λa b=>b=a.map (bB Z)/\(sl=0->a=#[])) (Builtin.firstCells size sl (.slice b sl d)) (Builtin.firstCells size sl (.slice (KG Z b sl d) sl d)):=by
            have:=r7 (p:=p) (p':=p') (Z:=Z) size sl (.slice b sl d) λq l c e=>by cases e;exact L9
            rwa [bQ]at this
           have put:∀(a:Addr) (new:Array Value),(sl=0->d=0->new.toList=[])->SR p p' Z (λ_ _=>True) (storeCells (a.add (sl*size)) new.toList) (storeCells ((za Z sl d a).add (sl*size)) (new.map (bB Z)).toList):=λa new f=>by have:=vZ (p:=p) (p':=p') (Z:=Z) a new.toList (sl*size) sl d f;rwa [<-sQ]at this
           cases j[1]?;case' none=>refine aK (Q:=λa b=>b=a) (aN rfl) ?_
           case' some L=>refine aK (aR F L) ?_;rintro _ u ⟨rfl,_⟩;refine aK (Q:=λa b=>b=a) (aN rfl) ?_
           all_goals rintro _ y rfl;refine eP ?_ ?_
           all_goals by_cases I:∃r,x=.chan r
           all_goals first
            | (obtain⟨r,rfl⟩:=I
               exact aM rfl)
            |skip
           all_goals by_cases v:∃q l c,x=.slice q l c
           all_goals first
            | (obtain⟨q,l,c,rfl⟩:=v
               exact aM rfl)
            | (refine aK (wj x) ?_
               rintro _ l rfl;refine eP (gX F R _) ?_;refine aK (fV F e) ?_;rintro _ i ⟨rfl,_⟩;refine eP (aK iF (by rintro _ n rfl;exact gX F R _)) ?_;refine aK (Q:=λa b=>b=a/\∀q l c,x=.slice q l c->a<=l) (aN ⟨rfl,λq l c e=>absurd ⟨q,l,c,e⟩ v⟩) ?_)
            |refine aK (Lq x) ?_
           all_goals
            rintro _ n ⟨rfl,C⟩;have k:SR p p' Z (λa b=>b=a.map (bB Z)/\(n=0->a=#[])) (if(!y)=true then Builtin.firstCells size n x else if n*size=0 then pure #[]else do let z<-zeroValue e;pure (Builtin.zeroCells z.cells n)) (if(!y)=true then Builtin.firstCells size n (bB Z x)else if n*size=0 then pure #[]else do let z<-zeroValue e;pure (Builtin.zeroCells z.cells n)):=by
             refine eP (r7 _ _ _ C) ?_;by_cases h0:n*size=0;.rw[bE h0];exact aN S8
             .rw[aS h0];exact(M _).mono λ_ _ h=>⟨h,λh=>absurd (by rw[h,VD]) h0⟩
            refine aa4 (λP=>?_) (λ_=>?_)
            .refine aK k ?_;rintro new _ ⟨rfl,D⟩;have same:∀a,za Z (sl+n) d a=za Z sl d a:=λa=>by
              unfold za;by_cases f:sl=0/\d=0;.rw[bE f,bE O9]
              .rw[aS f];by_cases J:sl+n=0/\d=0;.exact absurd O9 f
               .rw[aS J]
             cases b with
             |none=>exact aN (by simp[VR])
             |some a=>refine aK (put a new λN O=>by rw[D O9]) ?_;intro _ _ _;exact aN (by simp[VR,same])
            .refine aK (fV F e) ?_;rintro _ i ⟨rfl,_⟩;refine eP (gX F R _) ?_;refine aK (fV F e) ?_;rintro _ i ⟨rfl,_⟩;refine eP ?_ ?_
             .refine aK (Q:=λ_ _=>False) (eP (bK F _) ?_) (λ_ _ h=>h.elim);refine SR.qy (eF.then (λm=>?_) λw es=>?_)
              .intro w es;cases m;.exact⟨_,w,_,rfl,rfl⟩
               .exact⟨_,w,es,rfl,rfl⟩
              .have⟨a,A⟩:=Lr (p:=p) size sl n b x w es;exact⟨a,w,es,A⟩
             .refine aK iF ?_;rintro _ cap rfl;refine aK (fV F e) ?_;rintro _ i ⟨rfl,_⟩;refine aK (EE _) ?_;intro _ _ _;refine aK K ?_;rintro old _ ⟨rfl,-⟩;refine aK k ?_;rintro new _ ⟨rfl,-⟩;exact fin old new _ _
         |_=>exact aM rfl
       |_=>exact aM rfl
end
theorem EG{α β:Type}(g:α->β)(f:α->α)(f':β->β)(h:∀x,g (f x)=f' (g x))(a:Array α)(i):(a.modify i f).map g=(a.map g).modify i f':=by grind
section
variable{G:Gs}{p p':Program}{Z:Pi}(F:Fit G p p')(R:Rn G Z)
include F R
omit R in
theorem lH(e):∀n k t v,uZ p k t=true->SR p p' Z (λ_ _=>True) (Instr.checkKey e n t v) (Instr.checkKey e n t (bB Z v))
 |0,_,_,_,_=>aM rfl
 |_+1,0,_,_,h=>by cases h
 |n+1,k+1,t,v,a=>by have c:=lH e n k;refine aK (aR F t) ?_;rintro _ u ⟨rfl,i⟩;simp[uZ,i]at a;replace a:=a.2;cases u with
   |interface ms=>cases a
   |array l el=>
     cases v<;>first|exact aM rfl|skip
     rename_i cs;simp only[dD];refine aK (A5 l _ λf b=>?_) (λ_ _ _=>aN trivial);refine aK (dZ F el) ?_;rintro _ m rfl;refine aK (kV F el cs _) ?_;rintro v _ rfl;refine aK (c el v a) ?_;intro _ _ _;exact aN rfl
   |struct d=>
     cases v<;>first|exact aM rfl|skip
     rename_i cs;simp only[dD];refine aK (A4 d _ λf g b=>?_) (λ_ _ _=>aN trivial);refine eP ?_ (aN rfl);refine aK (kV F f.type cs _) ?_;rintro v _ rfl;refine aK (c f.type v (zg.1 a f g)) ?_;intro _ _ _;exact aN rfl
   |_=>exact aN trivial
omit F R in
theorem jO{t k e}(h:zF p t=true)(a:p.underlying t=some (.map k e)):uZ p 5 k=true:=by simpa[zF,a]using h
def Tq(Z:Pi):Option (Nat×Value)->Option (Nat×Value):=Option.map λ(i,v)=>(i,bB Z v)
theorem x9{n}(t)(c:uZ p n t=true)(k):∀es i,SR p p' Z (λa b=>b=Tq Z a) (Instr.findAsking t k es i) (Instr.findAsking t (bB Z k) (es.map (mK Z)) i)
 |[],_=>aN rfl
 |e::es,i=>by refine aK (Lj F R t k e.key c) ?_;rintro _ b rfl;exact eP (aN rfl) (x9 t c k es (i+1))
omit F R in
theorem Hl(Z r d b):Instr.sameNow d (oG Z r) b=none/\Instr.sameNow d b (oG Z r)=none:=by obtain h|⟨_,h⟩|⟨_,_,_,h⟩|⟨_,h⟩|⟨_,h⟩|⟨_,_,_,h⟩:=fO Z r<;>rw[h]<;>constructor<;>cases d<;>cases b<;>rfl
omit F R in
theorem Hm(r d b):Instr.sameNow d (.chan r) b=none/\Instr.sameNow d b (.chan r)=none:=by constructor<;>cases d<;>cases b<;>rfl
omit F R in
theorem Ls(d a b):Instr.sameNow d (bB Z a) (bB Z b)=Instr.sameNow d a b:=by
 by_cases c:∃r,a=.chan r;.obtain⟨r,rfl⟩:=c;rw[cL,(Hl Z r d _).1,(Hm r d b).1]
 by_cases e:∃r,b=.chan r;.obtain⟨r,rfl⟩:=e;rw[cL,(Hl Z r d _).2,(Hm r d a).2]
 cases d<;>cases a<;>first|rfl|exact absurd ⟨_,rfl⟩ c|(cases b<;>first|exact absurd ⟨_,rfl⟩ e|simp[cR,cA,eG,bH,dC,cJ,bQ,dV,Instr.sameNow])
omit F R in
theorem Cz(d k):∀es i,Instr.findNow d (bB Z k) (es.map (mK Z)) i=(Instr.findNow d k es i).map (Tq Z)
 |[],_=>rfl
 |e::es,i=>by simp[Instr.findNow];have:Instr.sameNow d (bB Z k) (mK Z e).key=Instr.sameNow d k e.key:=Ls d k e.key;rw[this];cases Instr.sameNow d k e.key with
   |none=>rfl
   |some b=>cases b with
     |true=>rfl
     |false=>exact Cz d k es (i+1)
theorem qE{n}(t)(c:uZ p n t=true)(k es):SR p p' Z (λa b=>b=Tq Z a) (Instr.findKey t k es) (Instr.findKey t (bB Z k) (es.map (mK Z))):=by refine aK (aR F t) ?_;rintro _ u ⟨rfl,_⟩;rw[Cz];cases Instr.findNow u k es 0 with
 |none=>exact x9 F R t c k es 0
 |some r=>exact aN rfl
omit R in
theorem map_lt{t k e:TypeId}(a:t<p.types.size)(h:p.underlying t=some (.map k e)):k<p.types.size/\e<p.types.size:=by have:=Ev F a h;simpa[AV]using this
theorem Tt{t:TypeId}(j:t<p.types.size)(d:zF p t=true)(x k ok):SR p p' Z (VR Z) (Instr.lookup t x k ok) (Instr.lookup t (bB Z x) (bB Z k) ok):=by refine aK (aR F t) ?_;rintro _ u ⟨rfl,c⟩;cases u with
 |map i e=>
   have h:=map_lt F j c;have g:∀es:Array MapEntry,(es.map (mK Z)).isEmpty=es.isEmpty:=λes=>by simp[Array.isEmpty]
   cases x with
   |map r=>cases r with
     |none=>simp only[dV];refine aK (Q:=λa b=>b=a.map (mK Z)) (aN S8) ?_;rintro es _ rfl;rw[g,sQ];refine aK (lH F _ _ 5 _ _ (jO d c)) ?_;intro _ _ _;refine aK (qE F R i (jO d c) k es.toList) ?_;rintro r _ rfl;cases r with
       |none=>refine aK (fY F h.2) ?_;rintro _ z ⟨rfl,f⟩;refine aK (Q:=λa b=>b=(bB Z a.1,a.2)) (aN (by rw[f])) ?_;rintro⟨v,b⟩ _ rfl;refine aN ?_;cases ok<;>simp[VR]
       |some r=>refine aK (Q:=λa b=>b=(bB Z a.1,a.2)) (aN rfl) ?_;rintro⟨v,b⟩ _ rfl;refine aN ?_;cases ok<;>simp[VR]
     |some r=>
       simp only[dV];refine aK iE ?_;rintro o _ rfl;cases o<;>first|exact aM rfl|skip
       refine aK (Q:=λa b=>b=a.map (mK Z)) (aN rfl) ?_;rintro es _ rfl;rw[g,sQ];refine aK (lH F _ _ 5 _ _ (jO d c)) ?_;intro _ _ _;refine aK (qE F R i (jO d c) k es.toList) ?_;rintro r _ rfl;cases r with
       |none=>refine aK (fY F h.2) ?_;rintro _ z ⟨rfl,f⟩;refine aK (Q:=λa b=>b=(bB Z a.1,a.2)) (aN (by rw[f])) ?_;rintro⟨v,b⟩ _ rfl;refine aN ?_;cases ok<;>simp[VR]
       |some r=>refine aK (Q:=λa b=>b=(bB Z a.1,a.2)) (aN rfl) ?_;rintro⟨v,b⟩ _ rfl;refine aN ?_;cases ok<;>simp[VR]
   |_=>exact aM rfl
 |_=>exact aM rfl
omit F R in
theorem Xy{f:Value->Value->Bool}(d:∀x y,f x y=true->x=y):∀(a b:List Value),a.length=b.length->((a.zip b).all λ(x,y)=>f x y)=true->a=b
 |[],[],_,_=>rfl
 |x::a,y::b,c,h=>by simp only[List.zip_cons_cons,jG,dK]at h;rw[d x y h.1,Xy d a b (by simpa using c) h.2]
 |[],_::_,c,_=>by simp at c
 |_::_,[],c,_=>by simp at c
omit F R in
theorem Lt{x y:ByteArray}(h:(x==y)=true):x=y:=by have⟨x⟩:=x;have⟨y⟩:=y;have h:(x==y)=true:=h;rw[eq_of_beq h]
omit F R in
omit F R in
theorem CB:∀n a b,Instr.sameBits n a b=true->a=b:=by intro n;induction n with
 |zero=>intro a b h;cases a<;>cases b<;>first|(simp_all[Instr.sameBits];done)|exact congrArg Value.string (Lt h)
 |succ n c=>intro a b h;cases a with
   |iface t v=>cases b with
     |iface u w=>simp only[Instr.sameBits,dK,uQ]at h;rw[h.1,c v w h.2]
     |_=>simp[Instr.sameBits]at h
   |agg x=>cases b with
     |agg y=>simp only[Instr.sameBits,dK,uQ]at h;have:=Xy (f:=Instr.sameBits n) (λx y e=>c x y e) x.toList y.toList (by simpa using h.1) h.2;rw[Array.toList_inj.1 this]
     |_=>simp[Instr.sameBits]at h
   |_=>cases b<;>first|(simp_all[Instr.sameBits];done)|exact congrArg Value.string (Lt h)
omit F in
theorem Jb(j:G.strict=true):∀n a b,Instr.sameBits n (bB Z a) (bB Z b)=Instr.sameBits n a b:=by
 have g:∀a b:Option Addr,(a.map (cC Z)==b.map (cC Z))=(a==b):=λa b=>by cases a<;>cases b<;>first|rfl|exact addr_eq R _ _
 have d:∀a b:Option Nat,(a.map Z.f==b.map Z.f)=(a==b):=λa b=>by
  have hi:∀x y,(Z x==Z y)=(x==y):=λx y=>by
   by_cases h:x=y;.simp[h]
   .rw[beq_eq_false_iff_ne.mpr h,beq_eq_false_iff_ne.mpr (λe=>h (R.inj _ _ e))]
  cases a<;>cases b<;>first|rfl|exact hi _ _
 have c:∀r,oG Z r=.chan r:=λr=>by cases r with
  |none=>rfl
  |some k=>show Z.s k=_;rw[R.sub,(G.id j).1]
 intro n;induction n with
 |zero=>intro a b;cases a<;>cases b<;>simp only[cR,cA,eG,bH,dC,cJ,bQ,dV,cL,dM,cU,cT,cH,dD,dL,c,Instr.sameBits,g,d]
 |succ n i=>intro a b;cases a<;>cases b<;>simp only[cR,cA,eG,bH,dC,cJ,bQ,dV,cL,dM,cU,cT,cH,dD,dL,c,Instr.sameBits,g,d,i];rename_i x y;rw[Ke,Ke];congr 1;rw[sQ,sQ,List.zip_map,List.all_map];congr 1;funext ⟨u,v⟩;exact i u v
omit F in
theorem Dh(c:G.strict=true)(a b):SR p p' Z (VR Z) (Instr.keyThatStays a b) (Instr.keyThatStays (bB Z a) (bB Z b)):=by unfold Instr.keyThatStays;rw[Jb R c];refine eP (aN rfl) ?_;refine aK iF ?_;rintro _ n rfl;refine aN ?_;split<;>rfl
theorem Jc(d:G.strict=true)(t)(a:zF p t=true)(m k v):SR p p' Z (λ_ _=>True) (Instr.mapUpdate t m k v) (Instr.mapUpdate t (bB Z m) (bB Z k) (bB Z v)):=by
 refine aK (aR F t) ?_;rintro _ u ⟨rfl,b⟩;cases u<;>first|exact aM rfl|skip
 rename_i g e;cases m<;>first|exact aM rfl|skip
 rename_i r;cases r with
 |none=>simp;exact bK F _
 |some r=>
   simp;refine aK iE ?_;rintro o _ rfl;cases o<;>first|exact aM rfl|skip
   rename_i es c;refine aK (lH F _ _ 5 _ _ (jO a b)) ?_;intro _ _ _;simp;refine aK (qE F R g (jO a b) k es.toList) ?_;rintro f _ rfl;cases f with
   |none=>have:=gK (p:=p) (p':=p') (Z:=Z) (r:=r) (o:=.map (es.push {key:=k,val:=v,born:=c}) (c+1)) rfl;simpa[dS,mK,Tq]using this
   |some f=>
     have⟨i,x⟩:=f;refine aK (Q:=VR Z) ?_ ?_;.have:=Dh (p:=p) (p':=p') R d (((es[i]?).map (·.key)).getD k) k;cases h:es[i]? with
      |none=>simpa[h]using this
      |some y=>simpa[h,mK]using this
     .rintro key _ rfl;have:=gK (p:=p) (p':=p') (Z:=Z) (r:=r) (o:=.map (es.modify i λe=>{e with key:=key,val:=v}) c) rfl;have h:dS Z (.map (es.modify i λe=>{e with key:=key,val:=v}) c)=.map ((es.map (mK Z)).modify i λe=>{e with key:=bB Z key,val:=bB Z v}) c:=by simp[dS];exact EG (mK Z) (λe=>{e with key:=key,val:=v}) (λe=>{e with key:=bB Z key,val:=bB Z v}) (λx=>rfl) es i
      rwa [h]at this
end
section
variable{G:Gs}{p p':Program}{Z:Pi}(F:Fit G p p')(R:Rn G Z)
include F R
theorem Tu(b t args)(a:(b[0]?).all (zF p)=true):SR p p' Z (VR Z) (Builtin.delete_ b t args) (Builtin.delete_ b t (args.map (bB Z))):=by
 unfold Builtin.delete_;simp;cases g:b[0]?<;>first|exact aM rfl|skip
 rw[g]at a;cases args[0]?<;>first|exact aM rfl|skip
 cases args[1]?<;>first|exact aM rfl|skip
 rename_i t m k;refine aK (aR F t) ?_;rintro _ u ⟨rfl,d⟩;cases u<;>first|exact aM rfl|skip
 rename_i j e;cases m<;>first|exact aM rfl|skip
 rename_i r;cases r with
 |none=>simp;exact aK (lH F _ _ 5 _ _ (jO a d)) (λ_ _ _=>aN (by simp[VR]))
 |some r=>
   simp;refine aK iE ?_;rintro o _ rfl;cases o<;>first|exact aM rfl|skip
   rename_i es c;refine aK (Q:=λ_ _=>True) (by
    have:(es.map (mK Z)).isEmpty=es.isEmpty:=by simp[Array.isEmpty]
    rw[this];exact lH F _ _ 5 _ _ (jO a d)) ?_
   intro _ _ _;simp;refine aK (qE F R j (jO a d) k es.toList) ?_;rintro f _ rfl;cases f with
   |none=>have:=gK (p:=p) (p':=p') (Z:=Z) (r:=r) (o:=.map es c) rfl;exact aK this (λ_ _ _=>aN (by simp[VR]))
   |some f=>
     have⟨i,x⟩:=f;have:=gK (p:=p) (p':=p') (Z:=Z) (r:=r) (o:=.map (es.eraseIdxIfInBounds i) c) rfl;have h:(es.eraseIdxIfInBounds i).map (mK Z)=(es.map (mK Z)).eraseIdxIfInBounds i:=by grind
     simp[dS,h]at this;exact aK this (λ_ _ _=>aN (by simp[VR]))
omit R in
theorem Xz(t x):SR p p' Z (VR Z) (Instr.range t x) (Instr.range t (bB Z x)):=by
 refine aK (aR F t) ?_;rintro _ u ⟨rfl,e⟩;have fin:∀o,cK p o=true->SR p p' Z (VR Z) (newObj o>>=λr=>pure (.pointer (some ⟨r,0,none⟩))) (newObj (dS Z o)>>=λr=>pure (.pointer (some ⟨r,0,none⟩))):=λo d=>by refine aK (qi d) ?_;rintro r _ rfl;exact aN (by simp[VR])
 cases u with
 |string=>
   cases x<;>first|exact aM rfl|skip
   simp;exact fin (.stringIter _ 0) rfl
 |map a b=>
   cases x<;>first|exact aM rfl|skip
   rename_i r;cases r with
   |none=>simp;exact fin (.mapIter none 0 #[] 0) rfl
   |some r=>
     simp;refine aK iE ?_;rintro o _ rfl;cases o<;>first|exact aM rfl|skip
     rename_i es c;exact fin (.mapIter (some r) c #[] c) rfl
 |_=>exact aM rfl
omit F R in
theorem wm(f:Nat->Bool)(es:Array MapEntry):(es.map (mK Z)).filter (λe=>f e.born)=(es.filter (λe=>f e.born)).map (mK Z):=by rw[Array.filter_map];rfl
omit F R in
theorem XA(f:Nat->Bool)(es:Array MapEntry):(es.map (mK Z)).all (λe=>f e.born)=es.all (λe=>f e.born):=by rw[Array.all_map];rfl
omit F R in
theorem aa6(i s t):SR p p' Z (VR Z) (Instr.next i s t) (Instr.next (bB Z i) s t):=by
 cases i<;>first|exact aM rfl|skip
 rename_i a;cases a with
 |none=>exact aM rfl
 |some a=>have⟨r,off,sp⟩:=a;cases off with
   |succ n=>exact aM rfl
   |zero=>simp;refine aK iE ?_;rintro o _ rfl;cases o with
     |stringIter b pos=>cases s with
       |false=>exact aM rfl
       |true=>refine eP ?_ (aN (by simp[VR]));have:=gK (p:=p) (p':=p') (Z:=Z) (r:=r) (o:=.stringIter b (pos+(Utf8.decode b pos).2)) rfl;exact aK this (λ_ _ _=>aN (by simp[VR,goInt]))
     |mapIter m since seen last=>cases s with
       |true=>cases m<;>exact aM rfl
       |false=>cases m with
         |none=>exact aN (by simp[VR])
         |some m=>
           refine aK iE ?_;rintro o _ rfl;cases o<;>first|exact aM rfl|skip
           rename_i es c;dsimp[dS];have f:=XA (Z:=Z) (λn=>decide (n>=last)) es;have g:(es.map (mK Z)).isEmpty=es.isEmpty:=by simp[Array.isEmpty]
           rw[f,g];refine eP (aM rfl) ?_;have h:=wm (Z:=Z) (λn=>!seen.contains n) es;rw[h];have j:=wm (Z:=Z) (λn=>decide (n<since)) (es.filter λe=>!seen.contains e.born);have k:=wm (Z:=Z) (λn=>decide (n>=since)) (es.filter λe=>!seen.contains e.born);rw[j,k];generalize(es.filter λe=>!seen.contains e.born).filter (λe=>decide (e.born<since))=old,(es.filter λe=>!seen.contains e.born).filter (λe=>decide (e.born>=since))=new;have l:((if(old.map (mK Z)).isEmpty=true then#[none]else#[])++Array.map some (old.map (mK Z)++new.map (mK Z)))=((if old.isEmpty=true then#[none]else#[])++Array.map some (old++new)).map (Option.map (mK Z)):=by
            have:(old.map (mK Z)).isEmpty=old.isEmpty:=by simp[Array.isEmpty]
            rw[this];split<;>simp[Qw]
           rw[l];generalize((if old.isEmpty=true then#[none]else#[])++Array.map some (old++new))=d;rw[Ke];refine aK iF ?_;rintro _ n rfl;rw[kT];cases d[n]? with
           |none=>exact aM rfl
           |some e=>cases e with
             |none=>exact aN (by simp[VR])
             |some e=>have:=gK (p:=p) (p':=p') (Z:=Z) (r:=r) (o:=.mapIter (some m) since (seen.push e.born) c) rfl;exact aK this (λ_ _ _=>aN (by simp[VR,mK]))
     |_=>exact aM rfl
omit R in
theorem OC(t x):SR p p' Z (VR Z) (Instr.makeMap t x) (Instr.makeMap t (x.map (bB Z))):=by
 have fin:SR p p' Z (VR Z) (newObj (.map #[] 0)>>=λr=>pure (.map (some r))) (newObj (.map #[] 0)>>=λr=>pure (.map (some r))):=by refine aK (Q:=λr a=>a=Z r) (by have:=qi (p:=p) (p':=p') (Z:=Z) (o:=.map #[] 0) rfl;simpa[dS]using this) ?_;rintro r _ rfl;exact aN (by simp[VR])
 cases x with
 |none=>exact fin
 |some x=>
   refine aK (aR F t) ?_;rintro _ u ⟨rfl,b⟩;cases u<;>first|exact aM rfl|skip
   refine aK (wj x) ?_;rintro _ n rfl;exact fin
omit F R in
theorem A9(f:Value->Value->Sem Value)(h:∀a b,SR p p' Z (VR Z) (f a b) (f (bB Z a) (bB Z b))):∀(l:List Value) (a:Value),SR p p' Z (VR Z) (l.foldlM f a) ((l.map (bB Z)).foldlM f (bB Z a))
 |[],a=>by simp;exact aN rfl
 |b::l,a=>by refine aK (h a b) ?_;rintro v _ rfl;exact A9 f h l v
omit F R in
theorem aa7(a b):SR p p' Z (VR Z) (Builtin.min2 a b) (Builtin.min2 (bB Z a) (bB Z b)):=by cases a with
 |int k x=>cases b with
   |int k' y=>simp;exact aN (by simp[VR])
   |pointer a=>cases a<;>exact aM rfl
   |_=>exact aM rfl
 |float k x=>cases b with
   |float k' y=>
     simp[Builtin.min2];split;.refine aK iF ?_;rintro _ n rfl;exact aN (by simp[VR])
     all_goals exact aN (by simp[VR])
   |pointer a=>cases a<;>exact aM rfl
   |_=>exact aM rfl
 |string x=>cases b with
   |string y=>simp;refine aK ((rZ (Z:=Z) .leq x y).val) ?_;rintro v _ rfl;refine aK (AX v) ?_;rintro _ b rfl;exact aN (by simp[VR])
   |pointer a=>cases a<;>exact aM rfl
   |_=>exact aM rfl
 |pointer a=>cases a<;>cases b<;>first|exact aM rfl|(rename_i c;cases c<;>exact aM rfl)
 |_=>cases b<;>first|exact aM rfl|(rename_i c;cases c<;>exact aM rfl)
omit F R in
theorem aa8(a b):SR p p' Z (VR Z) (Builtin.max2 a b) (Builtin.max2 (bB Z a) (bB Z b)):=by cases a with
 |int k x=>cases b with
   |int k' y=>simp;exact aN (by simp[VR])
   |pointer a=>cases a<;>exact aM rfl
   |_=>exact aM rfl
 |float k x=>cases b with
   |float k' y=>
     simp[Builtin.max2];split;.refine aK iF ?_;rintro _ n rfl;exact aN (by simp[VR])
     all_goals exact aN (by simp[VR])
   |pointer a=>cases a<;>exact aM rfl
   |_=>exact aM rfl
 |string x=>cases b with
   |string y=>simp;refine aK ((rZ (Z:=Z) .geq x y).val) ?_;rintro v _ rfl;refine aK (AX v) ?_;rintro _ b rfl;exact aN (by simp[VR])
   |pointer a=>cases a<;>exact aM rfl
   |_=>exact aM rfl
 |pointer a=>cases a<;>cases b<;>first|exact aM rfl|(rename_i c;cases c<;>exact aM rfl)
 |_=>cases b<;>first|exact aM rfl|(rename_i c;cases c<;>exact aM rfl)
omit F R in
theorem ad7(a t args):SR p p' Z (VR Z) (Builtin.min_ a t args) (Builtin.min_ a t (args.map (bB Z))):=by unfold Builtin.min_;rw[sQ];cases args.toList with
 |nil=>exact aM rfl
 |cons x l=>exact A9 _ aa7 l x
omit F R in
theorem ad8(a t args):SR p p' Z (VR Z) (Builtin.max_ a t args) (Builtin.max_ a t (args.map (bB Z))):=by unfold Builtin.max_;rw[sQ];cases args.toList with
 |nil=>exact aM rfl
 |cons x l=>exact A9 _ aa8 l x
end
section
variable{G:Gs}{p p':Program}{Z:Pi}(F:Fit G p p')(R:Rn G Z)
section
omit F R
theorem XB(i):SR p p' Z (VR Z) (Instr.entry i) (Instr.entry (bB Z i)):=by
 cases i<;>first|exact aM rfl|skip
 rename_i a;cases a with
 |none=>exact aM rfl
 |some a=>have⟨r,off,sp⟩:=a;cases off with
   |succ n=>exact aM rfl
   |zero=>
     simp;refine aK iE ?_;rintro o _ rfl;cases o<;>first|exact aM rfl|skip
     rename_i m since seen last;cases m with
     |none=>exact aM rfl
     |some m=>dsimp[dS];cases seen.back? with
       |none=>exact aM rfl
       |some b=>
         refine aK iE ?_;rintro o _ rfl;cases o<;>first|exact aM rfl|skip
         rename_i es c;dsimp[dS];split;.exact aM rfl
         .have:(es.map (mK Z)).find? (λe=>e.born==b)=(es.find? (λe=>e.born==b)).map (mK Z):=by rw[Array.find?_map];rfl
          rw[this];cases es.find? (λe=>e.born==b)with
          |none=>exact aM rfl
          |some e=>exact aN (by simp[VR,mK])
theorem zP:∀n a acc,SR p p' Z (λx c=>c=x) (loadBytes a acc n) (loadBytes (cC Z a) acc n)
 |0,a,acc=>aN rfl
 |n+1,a,acc=>by refine aK Dv ?_;rintro v _ rfl;cases v with
   |int k b=>rw[cR];cases k with
     |u8=>have:=zP n (a.add 1) (acc.push b.toNat.toUInt8);exact this
     |_=>exact aM rfl
   |_=>exact aM rfl
end
include F
theorem Gm(d):∀t u,sameLayout p' d t u=sameLayout p d t u:=by induction d with
 |zero=>intro t u;rfl
 |succ d a=>intro t u;simp[sameLayout,F.under,Xr F,oa F,a]
theorem XC(fits:TypeId->Bool)(d):∀e c o n,rowAt p' fits d e c o n=rowAt p fits d e c o n:=by induction d with
 |zero=>intro e c o n;rfl
 |succ d a=>intro e c o n;simp[rowAt,F.under,F.cellsOf,oa F,a]
theorem Tv(d):∀e c o u n,liesAt p' d e c o u n=liesAt p d e c o u n:=by induction d with
 |zero=>intro e c o u n;rfl
 |succ d a=>intro e c o u n;simp[liesAt,F.under,F.depth,Gm F,XC F,a]
theorem EH(a u n):SR p p' Z (λx b=>b=x) (variablesAt a u n) (variablesAt (cC Z a) u n):=by refine iK ?_;refine aK nZ ?_;rintro _ s rfl;cases s with
 |none=>exact aN rfl
 |some s=>obtain⟨e,c⟩:=s;exact aN (by simp[F.depth,F.cellsOf,Tv F])
theorem ad9(a t args)(b:(a[0]?).all (okL p)=true):SR p p' Z (VR Z) (Builtin.cap_ a t args) (Builtin.cap_ a t (args.map (bB Z))):=by unfold Builtin.cap_;rw[kT];cases f:a[0]? with
 |none=>exact aM rfl
 |some t=>rw[f,Qx]at b;cases args[0]? with
   |none=>exact aM rfl
   |some x=>refine aK (aR F t) ?_;rintro _ d ⟨rfl,c⟩;cases d with
     |array n e=>exact aN (by simp[VR,goInt])
     |pointer e=>refine aK (aR F e) ?_;rintro _ d ⟨rfl,_⟩;cases d<;>first|exact aM rfl|exact aN (by simp[VR,goInt])
     |slice e=>cases x<;>first|exact aM rfl|(rw[bQ];exact aN (by simp[VR,goInt]))
     |chan k e=>simp[okL,c]at b
     |_=>exact aM rfl
theorem XD(b t args)(h:∀s,b[0]?=some s->s<p.types.size):SR p p' Z (VR Z) (Builtin.clear_ b t args) (Builtin.clear_ b t (args.map (bB Z))):=by unfold Builtin.clear_;rw[kT];cases i:b[0]? with
 |none=>exact aM rfl
 |some t=>have g:=h t i;cases args[0]? with
   |none=>exact aM rfl
   |some x=>refine aK (aR F t) ?_;rintro _ d ⟨rfl,f⟩;have fin:SR p p' Z (VR Z) (Pure.pure (.tuple #[]):Sem Value) (Pure.pure (.tuple #[])):=aN (by simp[VR]);cases x with
     |map r=>cases r with
       |none=>rw[dV];cases d<;>exact fin
       |some r=>rw[dV,dY];cases d;all_goals
          refine aK iE ?_;rintro o _ rfl;cases o<;>first|exact aM rfl|skip
          rename_i es c;have:=gK (p:=p) (p':=p') (Z:=Z) (r:=r) (o:=.map #[] c) rfl;exact aK (Q:=λ_ _=>True) (by simpa[dS]using this) (λ_ _ _=>fin)
     |slice a n c=>rw[bQ];cases a with
       |none=>cases d<;>exact fin
       |some a=>cases n with
         |zero=>cases d<;>exact fin
         |succ n=>cases d with
           |slice e=>
             refine aK (fY F (Dw F g f)) ?_;rintro _ z ⟨rfl,j⟩;have k:z.cells.map (bB Z)=z.cells:=by rw[<-lY,j]
             have:=pk (p:=p) (p':=p') (Z:=Z) a (Builtin.zeroCells z.cells (n+1)).toList 0;rw[<-sQ,pn k]at this;exact aK this (λ_ _ _=>fin)
           |_=>exact aM rfl
     |_=>cases d<;>exact aM rfl
include R in
theorem Di(c t args):SR p p' Z (VR Z) (Builtin.unsafeString_ c t args) (Builtin.unsafeString_ c t (args.map (bB Z))):=by
 have main:∀(a:Option Addr) (l:Value),SR p p' Z (VR Z) (Builtin.unsafeString_ c t #[.pointer a,l]) (Builtin.unsafeString_ c t #[.pointer (a.map (cC Z)),bB Z l]):=λa l=>by refine aK (Q:=λa b=>b=a) (wj l) ?_;rintro _ n rfl;cases c[0]? with
  |none=>exact aM rfl
  |some pt=>
    dsimp only;split;.exact gX F R _
    .split;.exact aM rfl
     .cases a with
      |none=>refine eP (aN (by simp[VR])) (bK F _)
      |some a=>refine eP (aN (by simp[VR])) ?_;refine aK (Hi F pt) ?_;rintro _ e rfl;refine aK (EH F a e _) ?_;rintro _ b rfl;refine eP ?_ (aM rfl);refine aK (zP _ a _) ?_;rintro _ s rfl;refine aK Hh ?_;intro _ _ _;exact aN (by simp[VR])
 have⟨l⟩:=args;match l with
 |[]=>exact aM rfl
 |[x]=>cases x<;>exact aM rfl
 |[.pointer a,y]=>have:=main a y;simpa using this
 |x::y::z::l=>cases x<;>exact aM rfl
 |[.bool _,_]|[.int ..,_]|[.float ..,_]|[.complex ..,_]|[.string _,_]|[.slice ..,_]|[.map _,_]|[.chan _,_]|[.func ..,_]|[.nilFunc,_]|[.iface ..,_]|[.nilIface,_]|[.agg _,_]|[.tuple _,_]=>exact aM rfl
end
def XE(Z:Pi):Place->Place
 |.val v=>.val (bB Z v)
 |.var a=>.var (cC Z a)
section
variable{G:Gs}{p p':Program}{Z:Pi}(F:Fit G p p')(R:Rn G Z)
include F
theorem yx(t x):SR p p' Z (VR Z) (x.get t) ((XE Z x).get t):=by cases x with
 |val v=>exact aN rfl
 |var a=>exact tZ F t a
include R
theorem Ba:∀l t x,SR p p' Z (λa b=>b=(a.1,XE Z a.2)) (follow l t x) (follow l t (XE Z x))
 |[],t,x=>aN rfl
 |s::l,t,x=>by
   have c:=Ba l;refine aK (aR F s.struct) ?_;rintro _ u ⟨rfl,-⟩;cases u<;>first|exact aM rfl|skip
   rename_i d;dsimp only;cases d[s.index]? with
   |none=>exact aM rfl
   |some f=>
     refine eP ?_ ?_;.refine aK (yx F t x) ?_;rintro v _ rfl;refine aK (AY F R v) ?_;rintro a _ rfl;refine aK (rY F a f) ?_;rintro b _ rfl;exact c f.type (.var b)
     .cases x with
      |var a=>refine aK (rY F a f) ?_;rintro b _ rfl;exact c f.type (.var b)
      |val v=>cases v with
        |agg cs=>simp[XE];refine aK (kV F f.type cs f.offset) ?_;rintro v _ rfl;exact c f.type (.val v)
        |_=>exact aM rfl
theorem OD(t v n):SR p p' Z (VR Z) (Builtin.ssaWrapNilChk_ #[t] t #[v,strVal "",strVal n]) (Builtin.ssaWrapNilChk_ #[t] t #[bB Z v,strVal "",strVal n]):=by cases v with
 |pointer a=>cases a with
   |some a=>rw[bH];exact aN (show Value.pointer (some (cC Z a))=bB Z (.pointer (some a))by simp)
   |none=>
     rw[bH];refine aK iF ?_;rintro _ n rfl;refine eP (gX F R _) ?_;refine aK (aR F t) ?_;rintro _ u ⟨rfl,-⟩;cases u<;>first|exact aM rfl|skip
     refine aK (fV F _) ?_;rintro _ i ⟨rfl,-⟩;have⟨desc,_,_,_,_,_,_,_,_,_⟩:=i;cases desc<;>first|exact aM rfl|skip
     dsimp only;split
     .split;.exact bK F _
      .exact aM rfl
     .exact aM rfl
 |_=>exact aM rfl
theorem ya(t x b n):SR p p' Z (VR Z) (receiverAt t x b n) (receiverAt t (XE Z x) b n):=by
 refine aK (aR F t) ?_;rintro _ u ⟨rfl,_⟩;by_cases c:∃e,u=.pointer e;.obtain⟨e,rfl⟩:=c;cases b with
  |true=>cases x<;>exact yx F t _
  |false=>
    have tail:∀v,SR p p' Z (VR Z) (asAddr v>>=λa=>loadVar e a) (asAddr (bB Z v)>>=λa=>loadVar e a):=λv=>by refine aK (AY F R v) ?_;rintro a _ rfl;exact tZ F e a
    cases n with
    |none=>
      cases x<;>
      .refine aK (yx F t _) ?_;rintro v _ rfl;exact aK (Q:=VR Z) (aN rfl) (by rintro v _ rfl;exact tail v)
    |some n=>
      cases x<;>
      .refine aK (yx F t _) ?_;rintro v _ rfl;refine aK (OD F R t v n) ?_;rintro v _ rfl;exact tail v
 .cases b with
  |true=>cases x with
    |var a=>cases u<;>first|exact aN (by simp[VR])|exact absurd ⟨_,rfl⟩ c
    |val v=>cases u<;>first|exact aM rfl|exact absurd ⟨_,rfl⟩ c
  |false=>cases x<;>cases u<;>first|exact yx F t (.val _)|exact yx F t (.var _)|exact absurd ⟨_,rfl⟩ c
theorem EI(t v path b):SR p p' Z (VR Z) (receiverVia t v path b) (receiverVia t (bB Z v) path b):=by refine aK (Ba F R path.toList t (.val v)) ?_;rintro⟨t,x⟩ _ rfl;exact ya F R t x b none
theorem Hn:∀n t v s,SR p p' Z (λa b=>b=(a.1,bB Z a.2)) (method n t v s) (method n t (bB Z v) s)
 |0,_,_,_=>aM rfl
 |n+1,t,v,s=>by
   refine aK (fV F _) ?_;rintro _ i ⟨rfl,_⟩;dsimp only;split
   .rename_i m _;refine aK (Ba F R m.path.toList t (.val v)) ?_;rintro⟨t,x⟩ _ rfl;split;.refine aK (yx F t x) ?_;rintro v _ rfl;cases v with
     |iface c d=>simp;exact Hn n c d s
     |nilIface=>simp;exact bK F _
     |_=>exact aM rfl
    .refine aK (ya F R t x _ _) ?_;rintro v _ rfl;exact aN rfl
   .exact aM rfl
omit R in
theorem wq:∀l t x,SR p p' Z (λa b=>b=a.map λc=>(c.1,c.2.map (bB Z))) (followBlind l t x) (followBlind l t (x.map (bB Z)))
 |[],t,x=>aN rfl
 |s::l,t,x=>by
   have d:=wq l;refine aK (aR F s.struct) ?_;rintro _ u ⟨rfl,-⟩;cases u<;>first|exact aM rfl|skip
   rename_i e;dsimp only;cases e[s.index]? with
   |none=>exact aM rfl
   |some f=>cases s.deref with
     |true=>cases x with
       |none=>exact aN rfl
       |some v=>cases v with
         |pointer a=>cases a with
           |none=>simp;exact aN rfl
           |some a=>simp;exact d f.type none
         |_=>exact aM rfl
     |false=>cases x with
       |none=>exact d f.type none
       |some v=>cases v with
         |agg cs=>simp;refine aK (kV F f.type cs f.offset) ?_;rintro v _ rfl;exact d f.type (some v)
         |_=>exact aM rfl
omit R in
theorem CC:∀n t v s,SR p p' Z (λa b=>b=a) (nilAhead n t v s) (nilAhead n t (bB Z v) s)
 |0,_,_,_=>aN rfl
 |n+1,t,v,s=>by
   refine aK (fV F _) ?_;rintro _ i ⟨rfl,_⟩;split;.rename_i m _;refine aK (wq F m.path.toList t (some v)) ?_;rintro r _ rfl;cases r with
    |error r=>exact aN rfl
    |ok r=>have⟨t,x⟩:=r;simp[Except.map];cases m.func with
      |none=>cases x with
        |none=>exact aN rfl
        |some v=>cases v with
          |iface c d=>simp;exact CC n c d s
          |nilIface=>simp;exact aN rfl
          |_=>exact aM rfl
      |some f=>have⟨f,b⟩:=f;cases b with
        |true=>exact aN rfl
        |false=>
          refine aK (aR F t) ?_;rintro _ u ⟨rfl,_⟩;cases u<;>first|exact aN rfl|skip
          cases x with
          |none=>exact aN rfl
          |some v=>cases v with
            |pointer a=>cases a<;>(simp;exact aN rfl)
            |chan r=>rw[dY,cL];obtain h|⟨_,h⟩|⟨_,_,_,h⟩|⟨_,h⟩|⟨_,h⟩|⟨_,_,_,h⟩:=fO Z r<;>rw[h]<;>exact aN rfl
            |_=>simp;exact aN rfl
   .exact aM rfl
end
def r8(Z:Pi):Next->Next
 |.value v=>.value (bB Z v)
 |.enter f a=>.enter f (a.map (bB Z))
 |.round l f t a b=>.round (Z l) f (t.map (bB Z)) a b
 |.defer d=>.defer (mP Z d)
 |n=>n
def okN(p:Program):Next->Bool
 |.value _|.skip|.enter ..|.recover=>true
 |.round _ f _ a b=>eV p a&&eV p b&&yr p f
 |.defer d=>okD p d
 |_=>false
abbrev NR(p:Program)(Z:Pi)(n n':Next):Prop:=n'=r8 Z n/\okN p n=true
def kQ(G:Gs)(p p':Program):Prop:=∀Z,Rn G Z->∀f args,SR p p' Z (NR p Z) (callFunc f args) (callFunc f (args.map (bB Z)))
section
variable{G:Gs}{p p':Program}{Z:Pi}(F:Fit G p p')(R:Rn G Z)
section
omit F R
theorem oY(l):SR p p' Z (λa b=>b=Ta Z a/\eV p a.assign=true/\eV p a.body=true/\a.pending.all (eV p)=true/\yr p a.fn=true) (Instr.getLoop l) (Instr.getLoop (Z l)):=by
 refine aK yw ?_;rintro o _ ⟨rfl,h⟩;cases o<;>first|exact aM rfl|skip
 simp[cK]at h;exact aN ⟨rfl,h.1.1.1,h.1.1.2,h.1.2,h.2⟩
theorem Jd(f t c){a b}(d:eV p a=true)(e:eV p b=true)(i:yr p f=true)(l):SR p p' Z (λx y=>y=(Z x.1,x.2.map (mP Z))/\x.2.all (okD p)=true) (Instr.enterLoop f t c a b l) (Instr.enterLoop f (t.map (bB Z)) c a b (l.map Z.f)):=by
 have tail:∀(r:Nat) (ds:List Deferred),ds.all (okD p)=true->SR p p' Z (λx y=>y=(Z x.1,x.2.map (mP Z))/\x.2.all (okD p)=true) (newObj (.loop {state:=.ready,pending:=none,fn:=f,tmps:=t,params:=c,assign:=a,body:=b,defers:=r})>>=λx=>pure (x,ds))
  (newObj (.loop {state:=.ready,pending:=none,fn:=f,tmps:=t.map (bB Z),params:=c,assign:=a,body:=b,defers:=Z r})>>=λx=>pure (x,ds.map (mP Z))):=λr ds g=>by
  refine aK (Q:=λx y=>y=Z x) ?_ ?_;.exact qi (o:=.loop {state:=.ready,pending:=none,fn:=f,tmps:=t,params:=c,assign:=a,body:=b,defers:=r}) (by simp[cK,d,e,i])
  .rintro x _ rfl;exact aN ⟨rfl,g⟩
 cases l with
 |none=>refine aK (Q:=λx y=>y=Z x) (by have:=qi (p:=p) (p':=p') (Z:=Z) (o:=.deferred (some [])) rfl;simpa[dS]using this) ?_;rintro r _ rfl;refine aK (Q:=λx y=>y=(Z x.1,x.2.map (mP Z))/\x.2.all (okD p)=true) (aN ⟨by simp[mP,Dc],rfl⟩) ?_;rintro⟨r,ds⟩ _ ⟨rfl,h⟩;exact tail r ds h
 |some l=>refine aK (oY l) ?_;rintro r _ ⟨rfl,-⟩;refine aK (Q:=λx y=>y=(Z x.1,x.2.map (mP Z))/\x.2.all (okD p)=true) (aN ⟨rfl,rfl⟩) ?_;rintro⟨r,ds⟩ _ ⟨rfl,h⟩;exact tail r ds h
theorem XF(l:List (Tmp×Value)):∀t:Array Value,(l.foldl (λt (i,a)=>t.setIfInBounds i a) t).map (bB Z)=(l.map λ(i,a)=>(i,bB Z a)).foldl (λt (i,a)=>t.setIfInBounds i a) (t.map (bB Z)):=by induction l with
 |nil=>intro t;rfl
 |cons x l b=>intro t;simp only[Kh,lC,b];rw[Kb]
theorem XG(l args):SR p p' Z (NR p Z) (Instr.yield l args) (Instr.yield (Z l) (args.map (bB Z))):=by
 refine aK (oY l) ?_;rintro r _ ⟨rfl,b,c,e,d⟩;have a:(args.map (bB Z)).size≠(Ta Z r).params.size↔args.size≠r.params.size:=by simp[Ta]
 simp only[a];refine eP (aM rfl) ?_;refine aN ⟨?_,by simp[okN,b,c,d]⟩;simp only[r8,Ta,VF,vL,rC];rw[<-VA,<-VA,XF];congr 1;simp[List.zip_map_right]
theorem XH{α β}{Q:α->β->Prop}(s):SR p p' Z Q (throw s) (throw s):=SR.halt rfl
theorem rM(l j)(d:j.all (eV p)=true):SR p p' Z (VR Z) (Instr.endRound l j) (Instr.endRound (Z l) j):=by refine aK (oY l) ?_;rintro r _ ⟨rfl,a,b,e,c⟩;refine aK (Q:=λ_ _=>True) (gK (o:=.loop {r with state:=if j.isNone then .ready else .done,pending:=j}) (by simp[cK,a,b,c,d])) ?_;intro _ _ _;exact aN (by simp[VR])
theorem Dj(l d)(h:okD p d=true):SR p p' Z (λ_ _=>True) (Instr.deferInRound l d) (Instr.deferInRound (Z l) (mP Z d)):=by
 refine aK (oY l) ?_;rintro r _ ⟨rfl,-⟩;refine aK yw ?_;rintro o _ ⟨rfl,a⟩;cases o<;>first|exact aM rfl|skip
 rename_i ds;cases ds with
 |none=>exact XH _
 |some ds=>simp only[cK,Qx]at a;exact gK (o:=.deferred (some (d::ds))) (by simp[cK,h,a])
theorem Dk(b):SR p p' Z (λx y=>y=x.map (mP Z)/\x.all (okD p)=true) (Instr.takeDeferred b) (Instr.takeDeferred (Z b)):=by
 refine aK yw ?_;rintro o _ ⟨rfl,a⟩;cases o<;>first|exact aM rfl|skip
 rename_i ds;cases ds with
 |none=>exact aM rfl
 |some ds=>refine aK (Q:=λ_ _=>True) (gK (o:=.deferred none) rfl) ?_;intro _ _ _;exact aN ⟨rfl,a⟩
end
include F R
theorem Gn(l):SR p p' Z (λ_ _=>True) (Instr.beginRound l) (Instr.beginRound (Z l)):=by refine aK (oY l) ?_;rintro r _ ⟨rfl,a,b,d,c⟩;refine aK (Q:=λ_ _=>True) (gK (o:=.loop {r with state:=.busy}) (by simp[cK,a,b,c,d])) ?_;intro _ _ _;have:(Ta Z r).state=r.state:=rfl;rw[this];cases r.state with
 |ready=>exact aN trivial
 |_=>exact bK F _
theorem OE(l):SR p p' Z (λx y=>y=x/\x.all (eV p)=true) (Instr.endLoop l) (Instr.endLoop (Z l)):=by refine aK (oY l) ?_;rintro r _ ⟨rfl,b,c,a,d⟩;refine eP (gX F R _) ?_;refine aK (Q:=λ_ _=>True) (gK (o:=.loop {r with state:=.exhausted}) (by simp[cK,b,c,d,a])) ?_;intro _ _ _;exact aN ⟨rfl,a⟩
theorem OG{a b}(h:okB p a b=true)(t cs args):SR p p' Z (NR p Z) (builtin b a t cs args) (builtin b a t cs (args.map (bB Z))):=by
 have v:∀{s s':Sem Value},SR p p' Z (VR Z) s s'->SR p p' Z (NR p Z) (do pure (Next.value (<-s))) (do pure (Next.value (<-s'))):=λh=>by refine aK h ?_;rintro v _ rfl;exact aN ⟨rfl,rfl⟩
 cases b with
 |append=>exact v (Tp F R a t args λs c=>by simpa[okB,c,Oe]using h)
 |clear=>exact v (XD F a t args λs c=>by simpa[okB,c,Oe]using h)
 |cap=>exact v (ad9 F a t args h)
 |unsafeString=>exact v (Di F R a t args)
 |copy=>exact v (aa5 F a t args)
 |delete=>exact v (Tu F R a t args h)
 |len=>exact v (ad6 F a t args h)
 |max=>exact v (ad8 a t args)
 |min=>exact v (ad7 a t args)
 |panic=>
   refine v ?_;have:(args.map (bB Z)).getD 0 .nilIface=bB Z (args.getD 0 .nilIface):=by rw[GM,GM,kT];cases args[0]?<;>simp
   rw[this];exact Lf F R _
 |recover=>exact aN ⟨rfl,rfl⟩
 |_=>exact absurd h (by simp[okB])
variable(C:kQ G p p')
include C
theorem r9(v s args):SR p p' Z (NR p Z) (callMethod v s args) (callMethod (bB Z v) s (args.map (bB Z))):=by unfold callMethod;cases v with
 |iface t v=>simp;refine iK ?_;rw[F.types];refine aK (Hn F R _ t v s) ?_;rintro⟨f,x⟩ _ rfl;have:=C Z R f (#[x]++args);simpa using this
 |nilIface=>simp;exact bK F _
 |_=>exact aM rfl
theorem Bb{t args}(h:okD p {target:=t,args:=args}=true):SR p p' Z (NR p Z) (invoke t args) (invoke (Dc Z t) (args.map (bB Z))):=by unfold invoke;cases t with
 |nil=>exact bK F _
 |builtin b d t cs=>exact OG F R h t cs args
 |collected r=>exact aM rfl
 |coroexit c=>exact absurd h (by simp[okD])
 |fn f cap=>cases f with
   |func f=>have:=C Z R f (args++cap);simpa[Dc,qs]using this
   |method n=>simp[Dc,qs];cases a:args[0]? with
     |none=>exact aM rfl
     |some x=>have:=r9 F R C x n (args.extract 1 args.size);simpa using this
   |methodOf t n=>simp;cases a:args[0]? with
     |none=>exact aM rfl
     |some x=>refine aK (aR F t) ?_;rintro _ u ⟨rfl,-⟩;cases u with
       |interface ms=>have:=r9 F R C x n (args.extract 1 args.size);simpa using this
       |_=>have:=r9 F R C (.iface t x) n (args.extract 1 args.size);simpa using this
   |via t path f b=>simp;cases a:args[0]? with
     |none=>exact aM rfl
     |some x=>refine aK (EI F R t x path b) ?_;rintro v _ rfl;have:=C Z R f (#[v]++args.extract 1 args.size);simpa using this
   |yield l=>exact XG l args
omit C F R in
theorem EJ{ρ rU}(b:∀x,rI p x=true->rU x=bB Z (ρ x)){a:Array Operand}(h:a.all (rI p)=true):a.map rU=(a.map ρ).map (bB Z):=by grind
omit C F R in
theorem EK(v args):SR p p' Z (λd d'=>d'=mP Z d/\okD p d=true) (Deferred.ofValue v args) (Deferred.ofValue (bB Z v) (args.map (bB Z))):=by cases v with
 |func f a b=>rw[dM];exact aN ⟨by simp[mP,Dc],rfl⟩
 |nilFunc=>rw[cU];exact aN ⟨by simp[mP,Dc],rfl⟩
 |_=>exact aM rfl
omit C F R in
theorem yz{ρ rU}(g:∀x,rI p x=true->rU x=bB Z (ρ x)){c}(h:Og p c=true)(t):SR p p' Z (λd d'=>d'=mP Z d/\okD p d=true) (resolve ρ c t) (resolve rU c t):=by unfold resolve;simp only[Og,dK]at h;have a:=EJ g h.1;cases e:c.callee with
 |builtin b=>rw[e]at h;rw[a];exact aN ⟨rfl,h.2⟩
 |invoke r n=>rw[e]at h;dsimp only;rw[a,g r h.2];exact aN ⟨by simp[mP,Dc,qs],rfl⟩
 |value f=>rw[e]at h;dsimp only;rw[a,g f h.2];exact EK _ _
omit C F R in
theorem Dx{ρ rU}(b:∀x,rI p x=true->rU x=bB Z (ρ x)){a:Option Operand}(h:a.all (rI p)=true):a.map rU=(a.map ρ).map (bB Z):=by cases a with
 |none=>rfl
 |some a=>simp;exact b a (by simpa using h)
omit C F R in
theorem Ho{ρ rU:Operand->Value}(c:∀x,rI p x=true->rU x=bB Z (ρ x)){a:Array (Nat×Operand)}(h:(a.all λ(_,x)=>rI p x)=true):(a.map λ(i,x)=>(i,rU x))=(a.map λ(i,x)=>(i,ρ x)).map λ(i,x)=>(i,bB Z x):=by rw[Array.map_map];refine Array.map_congr_left λx b=>?_;obtain⟨i,hi,rfl⟩:=Array.mem_iff_getElem.mp b;simp at h;simp;rw[c _ (h i hi)]
def afr:Op->Bool
 |.mapUpdate ..=>true
 |_=>false
theorem Tx{ρ rU}(e:∀x,rI p x=true->rU x=bB Z (ρ x)){o}(h:Tc p o.op=true)(q:afr o.op=true->G.strict=true)(A:ρ (.const .nilIface)=.nilIface)(B:∀x,rI p x=true->nw Z (ρ x)):SR p p' Z (NR p Z) (execOp ρ o) (execOp rU o):=by
 have v:∀{s s':Sem Value},SR p p' Z (VR Z) s s'->SR p p' Z (NR p Z) (do pure (Next.value (<-s))) (do pure (Next.value (<-s'))):=λh=>by refine aK h ?_;rintro v _ rfl;exact aN ⟨rfl,rfl⟩
 have u:∀{s s':Sem Unit},SR p p' Z (λ_ _=>True) s s'->SR p p' Z (NR p Z) (do s;pure Next.skip) (do s';pure Next.skip):=λh=>by refine aK h ?_;intro _ _ _;exact aN ⟨rfl,rfl⟩
 unfold execOp;cases D:o.op<;>rw[D]at h q<;>simp only[Tc,Bool.and_eq_true,Bool.false_eq_true]at h<;>dsimp only;case move x=>rw[e x h];exact aN ⟨rfl,rfl⟩
 case assign x=>rw[e x h];exact aN ⟨rfl,rfl⟩
 case pick a b c=>rw[e a h.1.1,e b h.1.2,e c h.2];refine aK (AX _) ?_;rintro _ t rfl;refine aN ⟨?_,rfl⟩;cases t<;>rfl
 case alloc t=>exact v (Xj F (by simpa[Oe]using h))
 case box t x=>rw[e x h];exact v (ad4 t _)
 case build t E=>rw[Ho e h.2];exact v (Xx F (by simpa[Oe]using h.1) _)
 case buildSlice t n E=>rw[Ho e h.2];exact v (Gl F (by simpa[Oe]using h.1) _ _)
 case load t x=>rw[e x h];exact v (Ti F t _)
 case store t a b=>rw[e a h.1,e b h.2];exact u (Oq F t _ _)
 case nilCheck x=>rw[e x h];cases ρ x with
  |pointer a=>cases a with
    |none=>simp;exact bK F _
    |some a=>simp;exact aN ⟨by simp[r8],rfl⟩
  |nilIface=>simp;exact bK F _
  |nilFunc=>simp;exact bK F _
  |func f a b=>cases f with
    |method n=>simp only[dM,qs,kT];cases I:a[0]? with
      |none=>exact aN ⟨by simp[r8,qs],rfl⟩
      |some y=>simp only[dY];cases y with
        |nilIface=>simp;exact bK F _
        |iface t w=>simp only[cT];refine iK ?_;rw[F.types];refine aK (CC F _ t w n) ?_;rintro _ r rfl;refine eP (aM rfl) ?_;exact aN ⟨by simp[r8,qs],rfl⟩
        |chan r=>rw[cL];obtain h|⟨_,h⟩|⟨_,_,_,h⟩|⟨_,h⟩|⟨_,h⟩|⟨_,_,_,h⟩:=fO Z r<;>rw[h]<;>exact aN ⟨by simp[r8,qs],rfl⟩
        |_=>simp;exact aN ⟨by simp[r8,qs],rfl⟩
    |_=>simp;exact aN ⟨by simp[r8,qs],rfl⟩
  |chan r=>rw[cL];obtain h|⟨_,h⟩|⟨_,_,_,h⟩|⟨_,h⟩|⟨_,h⟩|⟨_,_,_,h⟩:=fO Z r<;>rw[h]<;>exact aN ⟨by simp[r8,h],rfl⟩
  |_=>simp only[eG,cR,dC,cJ,cA,bQ,dV,cT,dD,dL];exact aN ⟨by simp[r8],rfl⟩
 case binOp op t a b s=>
  rw[e a h.1.1,e b h.1.2];refine v ?_;refine aK (Ox F op t a b _ _) ?_;intro _ _ _;exact Xu F R op t _ _ h.2 λj=>by
   cases b<;>first|(cases j;done)|skip
   rename_i c;cases c<;>first|(cases j;done)|exact A
 case unOp op t x=>rw[e x h];exact v (Xn op _)
 case convert s d x=>rw[e x h.2];exact v (OB F s d _ h.1)
 case makeInterface t x=>rw[e x h];exact v (A2 F t _)
 case makeFunc f a b=>rw[EJ e h.1.2,EJ e h.2];refine v ?_;refine aN ?_;simp only[VR,dM];cases f<;>first|rfl|exact absurd h.1.1 S8
 case makeMap t r=>rw[Dx e h];exact v (OC F t _)
 case makeSlice t a b=>rw[e a h.1.2,e b h.2];exact v (Ja F R (by simpa[Oe]using h.1.1) _ _)
 case slice t x l hi m=>rw[e x h.1.1.1,Dx e h.1.1.2,Dx e h.1.2,Dx e h.2];exact v (Ou F R t _ (B x h.1.1.1) _ _ _)
 case fieldAddr t x i=>rw[e x h];exact v (Ot F t _ i)
 case field t x i=>rw[e x h];exact v (Xw F t _ i)
 case indexAddr t a b=>rw[e a h.1,e b h.2];exact v (Ov F R t _ _)
 case index t a b=>rw[e a h.1,e b h.2];exact v (Xl F R t _ _)
 case lookup t a b k=>rw[e a h.1.1.2,e b h.1.2];exact v (Tt F R (by simpa[Oe]using h.1.1.1) h.2 _ _ k)
 case mapUpdate t a b c=>rw[e a h.1.1.1,e b h.1.1.2,e c h.1.2];exact u (Jc F R (q rfl) t h.2 _ _ _)
 case range t x=>rw[e x h];exact v (Xz F t _)
 case next x s=>rw[e x h];exact v (aa6 _ s _)
 case typeAssert x H z k=>rw[e x h.2];exact v (Gi F R _ H (by simpa[Oe]using h.1) k)
 case entry x=>rw[e x h];exact v (XB _)
 case extract x i=>rw[e x h];exact v (Ow _ i)
 case call c=>refine aK (yz e h _) ?_;rintro⟨t,z⟩ _ ⟨rfl,g⟩;exact Bb F R C g
 case defer c=>refine aK (yz e h _) ?_;rintro d _ ⟨rfl,g⟩;exact aN ⟨rfl,g⟩
 case panic x=>rw[e x h];exact v (Lf F R _)
end
def mQ(Z:Pi):Item->Item
 |.inRangeFunc l=>.inRangeFunc (Z l)
 |.endRangeFunc l=>.endRangeFunc (Z l)
 |.call d w r s=>.call (mP Z d) w r (s.map (bB Z))
 |.extern r a=>.extern r (a.map (bB Z))
 |i=>i
def CE(Z:Pi)(e:PanicEntry):PanicEntry:={e with v:=bB Z e.v}
def tB(Z:Pi):FrameMode->FrameMode
 |.panicking c=>.panicking (c.map (CE Z))
 |m=>m
def cV(Z:Pi)(fr:Frame):Frame:={fr with tmps:=fr.tmps.map (bB Z),todo:=fr.todo.map (mQ Z),defers:=fr.defers.map (mP Z),mode:=tB Z fr.mode,roundOf:=fr.roundOf.map Z.f}
def CF(p:Program):Item->Bool
 |.code c|.inLoop c|.inScope c=>eV p c
 |.inRegion ops _=>ops.all λo=>Tc p o.op
 |.call ..|.extern ..=>false
 |_=>true
def KH:FrameMode->Bool
 |.panicking c=>c.all (!·.goexit)
 |_=>true
def np(p:Program)(fr:Frame):Bool:=fr.todo.all (CF p)&&fr.defers.all (okD p)&&yr p fr.fn&&fr.kind !=.report&&fr.kind !=.early&&KH fr.mode
def gY(fr:Frame):List Frame->Prop
 |[]=>fr.kind=.normal
 |c::cs=>gY c cs
def gY.kind{fr fr'}:∀{cs:List Frame},gY fr cs->fr'.kind=fr.kind->gY fr' cs
 |[],h,e=>e.trans h
 |_::_,h,_=>h
def Lu:=@gY.kind
structure OkG(p:Program)(g:Goroutine):Prop where
 fr:np p g.frame=true
 cs:g.callers.all (np p)=true
 dy:g.dying=none
 of:g.offers=none
 st:g.status=.running
 bt:gY g.frame g.callers
section
variable{p:Program}{Z:Pi}
def eB{fr}:np p fr=true↔fr.todo.all (CF p)=true/\fr.defers.all (okD p)=true/\yr p fr.fn=true/\fr.kind≠.report/\fr.kind≠.early/\KH fr.mode=true:=by simp[np,and_assoc]
def Lv(fr x)(h:rI p x=true):(cV Z fr).eval x=bB Z (fr.eval x):=by cases x with
 |tmp t=>simp[Frame.eval,cV];cases fr.tmps[t]?<;>simp
 |const v=>exact(Et Z v h).symm
 |global g=>cases h
 |func f=>simp[Frame.eval,qs]
def nu(fr v):(cV Z fr).finish (bB Z v)=cV Z (fr.finish v):=by have⟨fn,tmps,todo,defers,mode,kind,ro⟩:=fr;cases todo with
 |nil=>rfl
 |cons i k=>cases i with
   |inRegion ops l=>cases l with
     |nil=>rfl
     |cons i l=>simp[Frame.finish,cV,mQ];cases(ops[i]?).bind (·.dst)with
       |none=>rfl
       |some d=>simp[Kb]
   |call d w r s=>simp[Frame.finish,cV,mQ]
   |extern r a=>simp[Frame.finish,cV,mQ]
   |_=>rfl
def oZ{fr}(h:np p fr=true)(v):np p (fr.finish v)=true:=by rw[eB]at h|-;have⟨fn,tmps,todo,defers,mode,kind,ro⟩:=fr;cases todo with
 |nil=>exact h
 |cons i k=>cases i with
   |inRegion ops l=>cases l<;>exact h
   |call d w r s=>exact absurd h.1 (by simp[CF])
   |extern r a=>exact absurd h.1 (by simp[CF])
   |inRangeFunc l=>exact h
   |beginRound=>exact⟨(by have:=h.1;simp only[jG,dK]at this;exact this.2),h.2⟩
   |_=>exact h
def xd(fr a):(cV Z fr).raise (a.map (CE Z))=cV Z (fr.raise a):=by have⟨fn,tmps,todo,defers,mode,kind,ro⟩:=fr;cases mode<;>simp[Frame.raise,cV,tB]
def zQ{fr}(h:np p fr=true)(i)(g:i.all (!·.goexit)=true):np p (fr.raise i)=true:=by rw[eB]at h|-;have⟨fn,tmps,todo,defers,mode,kind,ro⟩:=fr;have⟨a,b,d,e,f,j⟩:=h;cases mode with
 |panicking c=>exact⟨a,b,d,e,f,by simp only[Frame.raise,KH,VG,dK];exact⟨g,j⟩⟩
 |_=>exact⟨a,b,d,e,f,g⟩
def lI(fr:Frame)(v):(fr.finish v).kind=fr.kind:=by have⟨fn,tmps,todo,defers,mode,kind,ro⟩:=fr;cases todo with
 |nil=>rfl
 |cons i k=>cases i with
   |inRegion ops l=>cases l<;>rfl
   |_=>rfl
def uf(fr:Frame)(a):(fr.raise a).kind=fr.kind:=by have⟨fn,tmps,todo,defers,mode,kind,ro⟩:=fr;cases mode<;>rfl
def ug(id):∀k,exitTo id (k.map (mQ Z))=(exitTo id k).map (·.map (mQ Z))
 |[]=>rfl
 |i::k=>by cases i<;>simp[mQ,exitTo,ug id k];split<;>simp
def Hp(id):∀k k',k.all (CF p)=true->exitTo id k=some k'->k'.all (CF p)=true
 |[],_,_,h=>by cases h
 |i::k,k',a,h=>by
   simp only[jG,dK]at a;have b:=Hp id k k' a.2;cases i<;>simp[exitTo]at h<;>first|exact b h|skip
   split at h;.simp_all
   .exact b h
def uh(l):∀k,gotoIn l (k.map (mQ Z))=(gotoIn l k).map (·.map (mQ Z))
 |[]=>rfl
 |i::k=>by cases i<;>simp[mQ,gotoIn,uh l k];split<;>simp[mQ]
def ui(l):∀c d,eV p c=true->findLabel c l=some d->eV p d=true
 |.seq a b,d,e,h=>by simp[eV]at e;simp[findLabel]at h;cases f:findLabel a l with
   |some r=>rw[f]at h;cases h;simp[eV];exact⟨ui l a r e.1 f,e.2⟩
   |none=>rw[f]at h;exact ui l b d e.2 h
 |.label n,d,_,h=>by
   simp only[findLabel]at h;split at h;.cases h;rfl
   .cases h
 |.skip,_,_,h|.region ..,_,_,h|.cond ..,_,_,h|.block ..,_,_,h|.loop ..,_,_,h|.rangeFunc ..,_,_,h|.exit ..,_,_,h|.scope ..,_,_,h|.goto ..,_,_,h|.ret,_,_,h|.refuse ..,_,_,h=>by simp[findLabel]at h
def Hq(l):∀k k',k.all (CF p)=true->gotoIn l k=some k'->k'.all (CF p)=true
 |[],_,_,h=>by cases h
 |i::k,k',a,h=>by
   simp only[jG,dK]at a;have b:=Hq l k k' a.2;cases i<;>simp[gotoIn]at h<;>first|exact b h|skip
   split at h;.rename_i c r d;cases h;simp only[jG,dK];exact⟨ui l _ _ a.1 d,a.1,a.2⟩
   .exact b h
def Lx(ops t):yielded ops (t.map (bB Z))=yielded ops t:=by funext j;simp[yielded];cases(ops[j]?).bind (·.dst)with
 |none=>rfl
 |some d=>simp;cases t[d]? with
   |none=>rfl
   |some v=>cases v with
     |chan r=>rw[dY,cL];obtain h|⟨_,h⟩|⟨_,_,_,h⟩|⟨_,h⟩|⟨_,h⟩|⟨_,_,_,h⟩:=fO Z r<;>rw[h]
     |_=>simp
def se(tl):∀cs fr,gY fr cs->tryRecover fr (cs++tl)=(tryRecover fr cs).map λx=>(x.1,x.2++tl)
 |[],fr,h=>by have⟨fn,tmps,todo,defers,mode,kind,ro⟩:=fr;subst h;cases tl<;>rfl
 |c::cs,fr,h=>by have a:=se tl cs c h;have⟨fn,tmps,todo,defers,mode,kind,ro⟩:=fr;cases kind with
   |deferred=>simp[tryRecover];split<;>rfl
   |wrapped=>simp[tryRecover,a];cases tryRecover c cs<;>rfl
   |_=>rfl
def og:∀cs fr v a,gY fr cs->tryRecover fr cs=some (v,a)->gY fr a
 |[],fr,v,a,_,h=>by have⟨fn,tmps,todo,defers,mode,kind,ro⟩:=fr;cases kind<;>cases h
 |c::cs,fr,v,a,f,h=>by have j:=og cs c;have⟨fn,tmps,todo,defers,mode,kind,ro⟩:=fr;cases kind with
   |deferred=>have⟨i,n,o,g,l,k,m⟩:=c;cases l with
     |panicking b=>cases b with
       |nil=>cases h
       |cons e b=>have⟨v,r,x⟩:=e;cases r<;>cases x<;>simp[tryRecover]at h;obtain⟨_,rfl⟩:=h;exact Lu (fr:={fn:=i,tmps:=n,todo:=o,defers:=g,mode:=.panicking ({v:=v,recovered:=false}::b),kind:=k,roundOf:=m}) (cs:=cs) f rfl
     |_=>cases h
   |wrapped=>simp only[tryRecover]at h;cases d:tryRecover c cs with
     |none=>rw[d]at h;cases h
     |some r=>have⟨p,r⟩:=r;rw[d]at h;cases h;exact j p r f d
   |_=>cases h
abbrev agv(Z:Pi)(x:Value×List Frame):Value×List Frame:=(bB Z x.1,x.2.map (cV Z))
def yA(Z):∀cs fr,gY fr cs->gY (cV Z fr) (cs.map (cV Z))
 |[],_,h=>h
 |c::cs,_,h=>yA Z cs c h
def wu:∀cs fr,tryRecover (cV Z fr) (cs.map (cV Z))=(tryRecover fr cs).map (agv Z)
 |[],fr=>by have⟨fn,tmps,todo,defers,mode,kind,ro⟩:=fr;cases kind<;>rfl
 |c::cs,fr=>by have b:=wu cs c;have⟨fn,tmps,todo,defers,mode,kind,ro⟩:=fr;cases kind with
   |deferred=>have⟨g,j,k,f,d,h,i⟩:=c;cases d with
     |panicking a=>cases a with
       |nil=>rfl
       |cons e a=>have⟨v,r,x⟩:=e;cases r<;>cases x<;>rfl
     |_=>rfl
   |wrapped=>simp[tryRecover,cV]at b|-;rw[b];cases tryRecover c cs<;>rfl
   |_=>rfl
def uj:∀cs fr v b,cs.all (np p)=true->tryRecover fr cs=some (v,b)->b.all (np p)=true
 |[],fr,v,b,_,h=>by have⟨fn,tmps,todo,defers,mode,kind,ro⟩:=fr;cases kind<;>cases h
 |c::cs,fr,v,b,a,h=>by have n:=uj cs c;simp only[jG,dK]at a;have⟨fn,tmps,todo,defers,mode,kind,ro⟩:=fr;cases kind with
   |deferred=>have⟨t,y,z,s,o,u,w⟩:=c;cases o with
     |panicking f=>cases f with
       |nil=>cases h
       |cons e f=>have⟨v,r,x⟩:=e;cases r<;>cases x<;>simp[tryRecover]at h;obtain⟨_,rfl⟩:=h;simp only[jG,dK];refine⟨?_,a.2⟩;have h0:=a.1;rw[eB]at h0|-;have⟨g,i,j,k,l,m⟩:=h0;exact⟨g,i,j,k,l,by simpa[KH]using m⟩
     |_=>cases h
   |wrapped=>simp only[tryRecover]at h;cases d:tryRecover c cs with
     |none=>rw[d]at h;cases h
     |some r=>have⟨q,r⟩:=r;rw[d]at h;cases h;simp only[jG,dK];exact⟨a.1,n q r a.2 d⟩
   |_=>cases h
end
def cG(p:Program)(f:FuncId)(args:Array Value)(k:CallKind)(cs:List Frame):Goroutine:={frame:=Frame.enter p f args k,callers:=cs,status:=.running,dying:=none}
structure Dy(X:FuncId->Prop)(p p':Program):Prop where
 sort:∀f:FuncId,(p'.funcs[f]?).map (λx:Func=>(x.results,x.norace))=(p.funcs[f]?).map (λx:Func=>(x.results,x.norace))
 same:∀f:FuncId,¬X f->∀args k,Frame.enter p' f args k=Frame.enter p f args k
 dry:∀todo,NoEnter p todo
 ok:∀f:FuncId,¬X f->(p.funcs[f]?).all (λfn:Func=>fn.body.all (eV p))=true/\yr p f=true
def pY(tl:List Frame)(Z:Pi)(g:Goroutine):Goroutine:={g with frame:=cV Z g.frame,callers:=g.callers.map (cV Z)++tl}
def EL(X:FuncId->Prop)(p p':Program)(tl:List Frame)(G:Gs)(U:Nat->Option Nat)(g1 g2:Goroutine):Prop:=(OkG p g1/\eZ G U λZ=>g2=pY tl Z g1)\/
 ∃f args k cs args' cs',X f/\(k=.normal\/k=.deferred)/\cs.all (np p)=true/\gY (Frame.enter p f args k) cs/\g1=cG p f args k cs/\g2=cG p' f args' k cs'/\eZ G U λZ=>args'=args.map (bB Z)/\cs'=cs.map (cV Z)++tl
def Gp(n:Int):GStep->Prop
 |.go _ w _|.comm _ _ _ _ w _|.spawn _ _ w _|.count _ w _|.timer _ _ w _|.alone _ _ w _|.newcoro _ _ _ w _|.coroswitch _ _ _ w _|.collect _ w _|.watch _ w _|.ended _ w _=>n<w.drawn
def Lz(L:NM)(s s':GStep):Prop:=Gp L.lim s/\Gp (L.lim+L.Ol) s'
def bM{n s es}(h:Gp n s):Gp n (s.after es):=by cases s<;>exact h
def Cl(tl:List Frame)(v:Value)(w:World)(es:Array Event):GStep:=match tl with
 |[]=>.ended (.done v) w es
 |c::r=>.go {frame:=c.finish v,callers:=r,status:=.running,dying:=none} w es
def LA(tl v w es a):(Cl tl v w a).after es=Cl tl v w (es++a):=by cases tl<;>rfl
def iP(X:FuncId->Prop)(p p':Program)(tl:List Frame)(L:NM)(G:Gs)(U:Nat->Option Nat)(W:World)(s s':GStep):Prop:=match s with
 |.go g1 w1 es=>Lz L s s'\/g1.dyingOn p\/∃g2 W1 ES ry,s'=.go g2 W1 ES/\Ext U ry/\fF G ry w1.heap.size W1.heap.size/\WE p L G ry w1 W1/\Fr U ry W W1/\EL X p p' tl G ry g1 g2/\rW G ry es ES
 |.ended (.done v) w1 es=>Lz L s s'\/∃v' W1 ES ry,s'=Cl tl v' W1 ES/\Ext U ry/\fF G ry w1.heap.size W1.heap.size/\WE p L G ry w1 W1/\Fr U ry W W1/\(eZ G ry λZ=>v'=bB Z v)/\rW G ry es ES
 |.ended _ _ _=>True
 |_=>Lz L s s'
section
variable{X:FuncId→Prop}{p p':Program}{tl:List Frame}{L:NM}{G:Gs}
def rW.nil(U:Nat->Option Nat):rW G U #[] #[]:=⟨λZ _ _=>by simp,λe a=>absurd a S8⟩
def Hr:=@rW.nil
def rW.append{U a A b B}(h:rW G U a A)(d:rW G U b B):rW G U (a++b) (A++B):=⟨λZ r c=>by show A++B=(a++b).map (AR Z);rw[h.all Z r c,d.all Z r c,VE],λe f=>(Array.mem_append.1 f).elim (h.quiet e) (d.quiet e)⟩
def rW.ext{U b a A}(h:rW G U a A)(e:Ext U b):rW G b a A:=⟨h.all.ext e,h.quiet⟩
def iP.after{U b W W1 s s' es ES}(h:iP X p p' tl L G b W1 s s')(e:Ext U b)(f:Fr U b W W1)(ev:rW G b es ES):iP X p p' tl L G U W (s.after es) (s'.after ES):=by cases s with
 |go g w n=>
   obtain h|h|⟨q,W2,m,l,rfl,a,c,d,i,j,k⟩:=h;.exact .inl ⟨bM h.1,bM h.2⟩
   .exact .inr (.inl h)
   .exact .inr<|.inr ⟨q,W2,_,l,rfl,e.trans a,c,d,f.trans a i,j,(ev.ext a).append k⟩
 |ended o w n=>cases o with
   |done v=>
     obtain h|⟨r,W2,m,l,rfl,a,c,d,i,j,k⟩:=h;.exact .inl ⟨bM h.1,bM h.2⟩
     exact .inr ⟨r,W2,_,l,LA _ _ _ _ _,e.trans a,c,d,f.trans a i,j,(ev.ext a).append k⟩
   |_=>trivial
 |_=>exact⟨bM h.1,bM h.2⟩
def tC:=@iP.after
def iP.goE{U w W g g'}(ok:fF G U w.heap.size W.heap.size)(wr:WE p L G U w W)(h:EL X p p' tl G U g g'):iP X p p' tl L G U W (.go g w) (.go g' W):=.inr<|.inr ⟨g',W,#[],U,rfl,oQ _,ok,wr,KZ _ _,h,Hr U⟩
def CG:=@iP.goE
def iP.go{U w W g g'}(ok:fF G U w.heap.size W.heap.size)(wr:WR p L G U w W)(h:EL X p p' tl G U g g'):iP X p p' tl L G U W (.go g w) (.go g' W):=.inr<|.inr ⟨g',W,#[],U,rfl,oQ _,ok,wr.we,KZ _ _,h,Hr U⟩
def u7:=@iP.go
def Gq(Z l f):yt Z l=.mark (.extern f)↔l=.mark (.extern f):=by cases l<;>simp[yt];rename_i m;cases m<;>simp[KX]
def XI(K:Dy X p p')(Z fn es):seen p' fn (es.map (AR Z))=(seen p fn es).map (AR Z):=by
 have g:∀f:FuncId,(p'.funcs[f]?).any (λx:Func=>x.norace)=(p.funcs[f]?).any (λx:Func=>x.norace):=λf=>by have:=K.sort f;cases h:p'.funcs[f]?<;>cases c:p.funcs[f]?<;>rw[h,c]at this<;>simp_all
 simp only[seen,g];rw[Array.foldl_map];let R:Bool×Array Event->Bool×Array Event:=λx=>(x.1,x.2.map (AR Z));show _=(R (Array.foldl _ _ es)).2;have h0:((p.funcs[fn]?).any (λx:Func=>x.norace),(#[]:Array Event))=R ((p.funcs[fn]?).any (λx:Func=>x.norace),#[]):=by simp[R]
 refine congrArg Prod.snd (Eq.trans (congrArg (λz=>Array.foldl _ z es) h0) (Array.foldl_hom R ?_));rintro⟨q,kept⟩ e;by_cases a:∃f,e.loc=.mark (.extern f)
 .have⟨f,b⟩:=a;have d:(AR Z e).loc=.mark (.extern f):=by show yt Z e.loc=_;rw[b];rfl
  simp only[R,b,d]
 .have j:∀f,e.loc≠.mark (.extern f):=λf h=>a ⟨f,h⟩;have k:∀f,(AR Z e).loc≠.mark (.extern f):=λf h=>a ⟨f,(Gq Z _ f).1 h⟩;have i:(AR Z e).sync=e.sync:=rfl;dsimp only[R];rw[i];split;.simp_all
  .cases l:(q&&!e.sync)<;>simp
def XK(p fn es):∀e∈Go.seen p fn es,e∈es:=by
 unfold Go.seen;dsimp only;refine Array.foldl_induction (motive:=λ_ (x:Bool×Array Event)=>∀e∈x.2,e∈es) S8 ?_;rintro i ⟨q,kept⟩ b e a;split at a;.simp_all
 .grind
def rW.seen{U es ES}(K:Dy X p p')(h:rW G U es ES)(fn):rW G U (Go.seen p fn es) (Go.seen p' fn ES):=⟨λZ r c=>by show Go.seen p' fn ES=_;rw[h.all Z r c,XI K],λe a=>h.quiet e (XK p fn es e a)⟩
def s7(Z f args k):cV Z (Frame.enter p f args k)=Frame.enter p f (args.map (bB Z)) k:=by simp[Frame.enter,cV,mQ,tB]
def vV(K:Dy X p p'){f}(h:¬X f)(args){k}(g:k=.normal\/k=.deferred):np p (Frame.enter p f args k)=true:=by
 rw[eB];have⟨a,d⟩:=K.ok f h;refine⟨?_,rfl,d,?_⟩;.simp[Frame.enter];cases e:p.funcs[f]? with
  |none=>rfl
  |some fn=>rw[e]at a;simp at a;cases b:fn.body with
    |none=>simp[CF,eV,b]
    |some c=>rw[b]at a;simpa[CF,b]using a
 .obtain rfl|rfl:=g<;>simp[Frame.enter,KH]
def EL.enter(K:Dy X p p'){U args a cs b}(f){k}(i:k=.normal\/k=.deferred)(h:cs.all (np p)=true)(g:gY (Frame.enter p f args k) cs)(e:eZ G U λZ=>a=args.map (bB Z)/\b=cs.map (cV Z)++tl):EL X p p' tl G U (cG p f args k cs) (cG p' f a k b):=by
 by_cases d:X f;.exact .inr ⟨f,args,k,cs,a,b,d,i,h,g,rfl,rfl,e⟩
 .refine .inl ⟨⟨vV K d args i,h,rfl,rfl,rfl,g⟩,λZ r c=>?_⟩;have⟨j,l⟩:=e Z r c;simp[cG,pY,s7,K.same f d,j,l]
end
section
variable{X:FuncId→Prop}{p p':Program}{tl:List Frame}{L:NM}{G:Gs}{U:Nat→Option Nat}{w W:World}
def XL{α β Q}{s:Sem α}{s':Sem β}(ok:fF G U w W)(wr:WR p L G U w W)(a:eZ G U λZ=>SR p p' Z (Q Z) s s'):Out p L G U W Q (s.runT p w #[]) (s'.runT p' W #[]):=rK s s' U w W #[] #[] ok wr (Hr U) a
def fZ{n:Int}{p main fr cs dy v}(h:n<w.drawn):Gp n (doReturn p main fr cs dy v w):=by
 unfold doReturn;repeat' split
 all_goals first|exact h|trivial|(simp_all;done)
def all_cons{e c r}(ok:fF G U w W)(h:eZ G U λZ=>e=(c::r).map (cV Z)++tl):∃a b,e=a::b/\(eZ G U λZ=>a=cV Z c)/\eZ G U λZ=>b=r.map (cV Z)++tl:=by
 have⟨Z,i,g⟩:=ok.one;have h0:=h Z i g;refine⟨cV Z c,r.map (cV Z)++tl,by rw[h0];rfl,λf b a=>?_,λf b a=>?_⟩<;>
 .have d:=h f b a;rw[h0]at d;simp only[lC,DU,vM]at d;first|exact d.1|exact d.2
def pF{fr fr'}(ok:fF G U w W)(h:eZ G U λZ=>fr'=cV Z fr):fr'.fn=fr.fn/\fr'.kind=fr.kind:=by have⟨Z,b,a⟩:=ok.one;rw[h Z b a];exact⟨rfl,rfl⟩
def lift(F:Fit G p p'):p'.inits=p.inits/\p'.follows=p.follows:=by
 constructor;.exact F.inits
 .funext d;simp[Tables.follows,F.follow]
def XM(Z)(b:List PanicEntry):(b.map (CE Z)).dropWhile (!·.goexit)=(b.dropWhile (!·.goexit)).map (CE Z):=by induction b with
 |nil=>rfl
 |cons a b c=>
   simp[List.dropWhile_cons];have:(CE Z a).goexit=a.goexit:=rfl;rw[this];cases a.goexit;.simp_all
   .simp
def lZ(F:Fit G p p'){main main' fr fr' cs d v f}(ok:fF G U w W)(wr:WR p L G U w W)(J:np p fr=true)(g:cs.all (np p)=true)(i:gY fr cs)(H:eZ G U λZ=>fr'=cV Z fr)(n:eZ G U λZ=>d=cs.map (cV Z)++tl)(o:eZ G U λZ=>f=bB Z v)(K:cs=[]->main=true/\(tl=[]->main'=true)):iP X p p' tl L G U W (doReturn p main fr cs none v w) (doReturn p' main' fr' d none f W):=by
 have⟨O,k2⟩:=pF ok H;have k:=(eB.1 J).2.2;cases cs with
 |cons c r=>
   obtain⟨u,P,rfl,q,s⟩:=all_cons ok n;simp only[jG,dK]at g;have fin:iP X p p' tl L G U W (.go {frame:=c.finish v,callers:=r,status:=.running,dying:=none} w) (.go {frame:=u.finish f,callers:=P,status:=.running,dying:=none} W):=u7 ok wr (.inl ⟨⟨oZ g.1 v,g.2,rfl,rfl,rfl,Lu (fr:=c) (cs:=r) i (lI c v)⟩,λZ b a=>by rw[o Z b a,q Z b a,s Z b a,nu];rfl⟩)
   simp[doReturn,k2];cases t:fr.kind with
   |normal=>exact fin
   |wrapped=>exact fin
   |early=>exact absurd t k.2.2.1
   |report=>exact absurd t k.2.1
   |deferred=>
     refine iP.go ok wr (.inl ⟨⟨?_,g.2,rfl,rfl,rfl,gY.kind (fr:=c) (cs:=r) i (by dsimp only;split<;>(try split)<;>rfl)⟩,λZ b a=>?_⟩)
     .have j:=g.1;rw[eB]at j|-;have⟨fn,tmps,todo,defers,mode,kind,ro⟩:=c;dsimp only;split
      .have⟨A,B,C,D,E,m⟩:=j;split;.trivial
       .refine⟨A,B,C,D,E,?_⟩;simp only[KH,jG,dK]at m|-;exact ze.2 λx N=>ze.1 m.2 x ((List.dropWhile_sublist _).subset N)
      .exact j
     .rw[q Z b a,s Z b a];have⟨fn,tmps,todo,defers,mode,kind,ro⟩:=c;cases mode with
      |panicking h=>cases h with
        |nil=>rfl
        |cons e h=>have⟨x,Q,R⟩:=e;cases Q with
          |false=>rfl
          |true=>have I:=XM Z h;simp[cV,tB,lC,CE,I];cases h.dropWhile (!·.goexit)<;>rfl
      |_=>rfl
 |nil=>
   have:d=tl:=by obtain⟨Z,b,a⟩:=ok.one;rw[n Z b a];rfl
   subst this;have hi:p.inits.idxOf? fr.fn=none:=by simpa[yr]using k.1
   obtain⟨rfl,M⟩:=K rfl;have l:fr.kind=.normal:=i;have y:doReturn p true fr [] none v w=.ended (.done v) w:=by simp only[doReturn,hi,l];rfl
   have z:doReturn p' main' fr' d none f W=Cl d f W #[]:=by cases d with
    |nil=>obtain rfl:=M rfl;simp only[doReturn,O,k2,(lift F).1,hi,l,Cl];rfl
    |cons c r=>simp[doReturn,k2,l,Cl]
   rw[y,z];exact .inr ⟨f,W,#[],U,rfl,oQ _,ok,wr.we,KZ _ _,o,Hr U⟩
end
section
variable{X:FuncId→Prop}{p p':Program}{tl:List Frame}{L:NM}{G:Gs}{U:Nat→Option Nat}{w W:World}
def yB{a v}(ok:fF G U w W)(h:eZ G U λZ=>a=I4 Z (.panic v)):∃d,a=.panic d/\eZ G U λZ=>d=bB Z v:=by have⟨Z,c,b⟩:=ok.one;refine⟨bB Z v,h Z c b,λg f e=>?_⟩;have:=h g f e;rw[h Z c b]at this;simpa[I4]using this
def EL.of{g g'}(h:OkG p g)(a:eZ G U λZ=>g'=pY tl Z g):EL X p p' tl G U g g':=.inl ⟨h,a⟩
def iG{α β:Type}{f:Pi->α->β}{a b}(ok:fF G U w W)(h:eZ G U λZ=>b=f Z a):∃Z,b=f Z a:=by have⟨Z,d,c⟩:=ok.one;exact⟨Z,h Z d c⟩
def EM{p}(fr m w){es s'}:iP X p p' tl L G U W ((endThrow fr m w).after es) s':=.inr (.inl ⟨.inl rfl,_,rfl,rfl,NoEnter.nil p⟩)
def LC{α p}(s:Sem α)(w):w.drawn<=(cX (s.run p w)).drawn:=by rw[<-Ka p s w #[]];exact qz s w #[]
def Bc{n:Int}{p fr cs dy m}(h:n<w.drawn):Gp n (endFatal p fr cs dy m w):=by unfold endFatal;dsimp only;split;all_goals rename_i heq;have:=bI (LC (p:=p) _ w) (nO (congrArg (λx=>(cX x).drawn) heq));exact DV h (GP.2 this)
def Ty{n:Int}{p fr cs dy g}(h:n<w.drawn):Gp n (early p fr cs dy g w):=by
 have a:∀r,(choose (.early g)).run p w=r->n<(cX r).drawn:=λr b=>b▸DV h (GP.2 (LC _ w));unfold early;dsimp only;repeat' split
 all_goals first|exact h|(rename_i heq;exact a _ heq)|(rename_i heq _ _ _ _;exact a _ heq)|(rename_i heq _;exact a _ heq)|(rename_i heq _ _;exact a _ heq)|(rename_i heq _ _ _;exact a _ heq)
def Be{n:Int}{p fr cs dy s}(a:n<(cX (s.runT p w #[]).1).drawn):Gp n (stepG.apply p true fr cs dy s w):=by unfold stepG.apply;generalize s.runT p w #[]=r at a|-;have⟨r,es⟩:=r;refine bM ?_;cases r with
 |ok n w1=>cases n<;>(try dsimp only)<;>(repeat' split)<;>first|exact a|trivial
 |halt x w1=>
   cases x<;>first|exact a|exact Bc a|skip
   rename_i u;cases u<;>first|exact a|exact Ty a
def EN{n:Int}{p fr cs dy s}(h:n<w.drawn):Gp n (stepG.apply p true fr cs dy s w):=Be (DV h (GP.2 (qz s w #[])))
def iP.bind{s s'}(h:Lz L s s'\/(iP X p p' tl L G U W s s')):iP X p p' tl L G U W s s':=by
 obtain h|h:=h;.cases s with
  |go g w es=>exact .inl h
  |ended o w es=>cases o<;>first|exact .inl h|trivial
  |_=>exact h
 .exact h
def wy:=@iP.bind
def EO(F:Fit G p p')(K:Dy X p p'){main:Bool}{fr fr' cs J s s'}(ok:fF G U w W)(A:np p fr=true)(H:cs.all (np p)=true)(D:gY fr cs)(Q:eZ G U λZ=>fr'=cV Z fr)(aa:eZ G U λZ=>J=cs.map (cV Z)++tl)(R:oH p L G U W (NR p) (s.runT p w #[]) (s'.runT p' W #[])):iP X p p' tl L G U W (stepG.apply p true fr cs none s w) (stepG.apply p' true fr' J none s' W):=by
 by_cases O:vA L (cX (s.runT p w #[]).1) (cX (s'.runT p' W #[]).1);.exact wy (.inl ⟨Be O.1,Be O.2⟩)
 have⟨a5,k2⟩:=pF ok Q;have V:=(eB.1 A);have a0:(fr.kind==.early)=false:=by simpa using V.2.2.2.2.1
 unfold stepG.apply;simp only[vN,a5,k2,a0,vO,zh];generalize s.runT p w #[]=r,s'.runT p' W #[]=a8 at R O|-;have⟨r,es⟩:=r;cases r with
 |ok n w1=>
   obtain ab|⟨a6,W1,ES,z,rfl,e,y,I,T,N⟩:=R;.trivial
   have μ:=N.1;have B:eZ G z λZ=>a6=r8 Z n:=λZ r c=>(N.2 Z r c).1;have M:okN p n=true:=by obtain⟨Z,r,c⟩:=y.one;exact(N.2 Z r c).2
   have C:=Q.ext e;have E:=aa.ext e;refine tC ?_ e T (μ.seen K fr.fn);cases n with
   |value v=>obtain⟨Z,rfl⟩:=iG y B;refine CG y I (.of ⟨oZ A v,H,rfl,rfl,rfl,D.kind (lI fr v)⟩ λg q j=>?_);have:=B g q j;simp only[r8,Next.value.injEq]at this;rw[this,C g q j,E g q j,nu];rfl
   |skip=>obtain⟨Z,rfl⟩:=iG y B;refine CG y I (.of ⟨oZ A undef,H,rfl,rfl,rfl,D.kind (lI fr undef)⟩ λg q j=>?_);have:=nu (Z:=g) fr undef;rw[AU]at this;rw[C g q j,E g q j,this];rfl
   |enter f args=>
     obtain⟨Z,rfl⟩:=iG y B;have a2:∀g,Rn G g->Cp z g->args.map (bB Z)=args.map (bB g):=λg q j=>by have:=B g q j;simpa[r8]using this
     have go:∀kd ao:CallKind,kd=.normal->ao=.normal->iP X p p' tl L G z W1 (.go {frame:=Frame.enter p f args kd,callers:=fr::cs,status:=.running,dying:=none} w1) (.go {frame:=Frame.enter p' f (args.map (bB Z)) ao,callers:=fr'::J,status:=.running,dying:=none} W1):=by rintro _ _ rfl rfl;exact CG y I (EL.enter K f (.inl rfl) (by simp only[jG,dK];exact⟨A,H⟩) D λg q j=>⟨a2 g q j,by rw[C g q j,E g q j];rfl⟩)
     refine go _ _ ?_ ?_
     .have:=V.1;split;.rename_i h;rw[h]at this;simp[CF]at this
      .rfl
     .have:=V.1;have⟨Z,q,j⟩:=ok.one;rw[Q Z q j];simp only[cV];cases a3:fr.todo with
      |nil=>rfl
      |cons i k=>rw[a3]at this;cases i<;>first|rfl|simp[CF]at this
   |round l f t a b=>
     obtain⟨Z,rfl⟩:=iG y B;simp only[okN,dK]at M;refine CG y I (.of ⟨?_,by simp only[jG,dK];exact⟨A,H⟩,rfl,rfl,rfl,D⟩ λg q j=>?_);.rw[eB];refine⟨?_,rfl,M.2,by simp[Frame.round],by simp[Frame.round],rfl⟩;simp[Frame.round,CF,M.1.1,M.1.2]
     .have:=B g q j;simp only[r8,VF,vL,rC]at this;rw[C g q j,E g q j,this.1,this.2];rfl
   |defer d=>obtain⟨Z,rfl⟩:=iG y B;refine CG y I (.of ⟨oZ (by rw[eB]at A|-;exact⟨A.1,by simp only[jG,dK];exact⟨M,A.2.1⟩,A.2.2⟩) undef,H,rfl,rfl,rfl,D.kind (lI _ undef)⟩ λg q j=>?_);have af:=B g q j;simp only[r8,Next.defer.injEq]at af;have:=nu (Z:=g) {fr with defers:=d::fr.defers} undef;rw[AU]at this;rw[C g q j,E g q j,af];simp only[pY];rw[<-this];rfl
   |recover=>
     obtain⟨Z,rfl⟩:=iG y B;have fin:∀(o o':Option (Value×List Frame)),(∀v c,o=some (v,c)->c.all (np p)=true/\gY fr c)->(eZ G z λZ=>o'=o.map λx=>(bB Z x.1,x.2.map (cV Z)++tl))->iP X p p' tl L G z W1 (match o with|some (v,callers)=>GStep.go {frame:=fr.finish v,callers,status:=.running,dying:=none} w1|none=>.go {frame:=fr.finish .nilIface,callers:=cs,status:=.running,dying:=none} w1) (match o' with|some (v,callers)=>GStep.go {frame:=fr'.finish v,callers,status:=.running,dying:=none} W1|none=>.go {frame:=fr'.finish .nilIface,callers:=J,status:=.running,dying:=none} W1):=λo o' ag ah=>by
      obtain⟨Z,rfl⟩:=iG y ah;cases o with
      |none=>refine CG y I (.of ⟨oZ A _,H,rfl,rfl,rfl,D.kind (lI fr _)⟩ λg q j=>?_);have:=nu (Z:=g) fr .nilIface;rw[cH]at this;rw[C g q j,E g q j,this];rfl
      |some x=>have⟨v,c⟩:=x;refine CG y I (.of ⟨oZ A v,(ag v c rfl).1,rfl,rfl,rfl,(ag v c rfl).2.kind (lI fr v)⟩ λg q j=>?_);have:=ah g q j;simp only[dY,gQ,Ki]at this;rw[this.1,this.2,C g q j,nu];rfl
     have⟨π,ak,ae⟩:=y.one;have aj:eZ G z λZ=>fr'.roundOf=fr.roundOf.map Z.f:=λg q j=>by rw[C g q j];rfl
     have ay:p'.follows .rangeFuncRecover=p.follows .rangeFuncRecover:=by rw[(lift F).2]
     have ai:eZ G z λZ=>tryRecover fr' J=(tryRecover fr cs).map λx=>(bB Z x.1,x.2.map (cV Z)++tl):=λg q j=>by rw[C g q j,E g q j,se tl _ _ (yA g cs fr D),wu,Option.map_map];rfl
     cases P:fr.roundOf with
     |none=>
       have Y:fr'.roundOf=none:=by rw[aj π ak ae,P];rfl
       simp only[r8,Y];exact fin _ _ (λv c h=>⟨uj cs fr v c H h,og cs fr v c D h⟩) ai
     |some l=>
       have Y:fr'.roundOf=some (π l):=by rw[aj π ak ae,P];rfl
       simp only[r8,Y,ay,F.fol,vN];exact fin _ _ (λv c h=>⟨uj cs fr v c H h,og cs fr v c D h⟩) ai
   |_=>exact absurd M (by simp[okN])
 |halt h w1=>
   obtain ab|P|⟨az,ar,W1,ES,z,rfl,e,y,I,T,N⟩:=R;.exact absurd ab O
   .cases h<;>first|(cases P;done)|skip
    .rename_i u;cases u<;>first|(cases P;done)|trivial
    .trivial
   .have μ:=N.1;have B:eZ G z λZ=>ar=I4 Z h:=λZ r c=>(N.2 Z r c);have C:=Q.ext e;have E:=aa.ext e;have a7:∀(c S:List PanicEntry),c.all (!·.goexit)=true->(eZ G z λZ=>S=c.map (CE Z))->iP X p p' tl L G z W1 (.go {frame:=fr.raise c,callers:=cs,status:=.running,dying:=none} w1) (.go {frame:=fr'.raise S,callers:=J,status:=.running,dying:=none} W1):=λc S av au=>CG y I (.of ⟨zQ A c av,H,rfl,rfl,rfl,D.kind (uf fr c)⟩ λg q j=>by rw[au g q j,C g q j,E g q j,xd];rfl)
    cases h with
    |panic v=>obtain⟨a9,rfl,a4⟩:=yB y B;refine tC ?_ e T (μ.seen K fr.fn);exact a7 _ _ rfl λg q j=>by rw[a4 g q j];rfl
    |throw m=>exact EM fr m w1
    |_=>cases az
def xe(F:Fit G p p')(K:Dy X p p'){main:Bool}{fr fr' cs a s s'}(ok:fF G U w W)(wr:WR p L G U w W)(f:np p fr=true)(e:cs.all (np p)=true)(d:gY fr cs)(b:eZ G U λZ=>fr'=cV Z fr)(c:eZ G U λZ=>a=cs.map (cV Z)++tl)(g:eZ G U λZ=>SR p p' Z (NR p Z) s s'):iP X p p' tl L G U W (stepG.apply p true fr cs none s w) (stepG.apply p' true fr' a none s' W):=by
 exact EO (main:=main) F K ok f e d b c (XL ok wr g).we
end
section
variable{X:FuncId→Prop}{p p':Program}{tl:List Frame}{L:NM}{G:Gs}{U:Nat→Option Nat}{w W:World}
def iP.unless{c}[Decidable c]{u x w es t s'}(h:¬c->iP X p p' tl L G U W t s'):iP X p p' tl L G U W (if c then .ended (.unsupported u x) w es else t) s':=by
 by_cases a:c;.rw[bE a];trivial
 .simp_all
def iP.aa9{c}[Decidable c]{s y a}(h:¬c)(k:iP X p p' tl L G U W s a):iP X p p' tl L G U W s (if c then y else a):=by rwa [aS h]
def adf:=@iP.aa9
def Je(F:Fit G p p')(C:kQ G p p')(K:Dy X p p'){fr fr' cs q d d'}(ok:fF G U w W)(wr:WR p L G U w W)(E:np p fr=true)(y:cs.all (np p)=true)(u:gY fr cs)(ai:okD p d=true)(O:eZ G U λZ=>fr'=cV Z fr)(aa:eZ G U λZ=>q=cs.map (cV Z)++tl)(R:eZ G U λZ=>d'=mP Z d):iP X p p' tl L G U W (callDeferred p fr cs none d w) (callDeferred p' fr' q none d' W):=by
 have au:eZ G U λZ=>SR p p' Z (NR p Z) (invoke d.target d.args) (invoke d'.target d'.args):=λZ g i=>by rw[R Z g i];exact Bb F g C ai
 have P:=XL ok wr au;have⟨ay,k2⟩:=pF ok O;have a4:=(eB.1 E);unfold callDeferred;refine iP.unless λar=>adf ?_ ?_;.intro h;apply ar;revert h;have⟨Z,g,i⟩:=ok.one;rw[R Z g i,O Z g i];simp only[mP,cV];cases d.target<;>cases fr.mode<;>simp[Dc,tB]
 .
  have ab:∀{o:Nat->Option Nat} {es ES:Array Event},rW G o es ES->rW G o (Go.seen p fr.fn es) (Go.seen p' fr'.fn ES):=λh=>by rw[ay];exact h.seen K fr.fn
  by_cases H:vA L (cX ((invoke d.target d.args).runT p w #[]).1) (cX ((invoke d'.target d'.args).runT p' W #[]).1)
  .have⟨f1,f2⟩:=H;refine wy (.inl ⟨?_,?_⟩);.generalize(invoke d.target d.args).runT p w #[]=r at f1|-;have⟨r,es⟩:=r;refine bM ?_;cases r with
    |ok n w1=>cases n<;>(try dsimp only)<;>(repeat' split)<;>first|exact f1|trivial|(cases‹Result.ok _ _=Result.ok _ _›<;>first|exact f1|trivial)
    |halt h w1=>cases h<;>first|exact f1|exact Bc f1
   .generalize(invoke d'.target d'.args).runT p' W #[]=r at f2|-;have⟨r,es⟩:=r;refine bM ?_;cases r with
    |ok n w1=>cases n<;>(try dsimp only)<;>(repeat' split)<;>first|exact f2|trivial|(cases‹Result.ok _ _=Result.ok _ _›<;>first|exact f2|trivial)
    |halt h w1=>cases h<;>first|exact f2|exact Bc f2
  generalize(invoke d.target d.args).runT p w #[]=r,(invoke d'.target d'.args).runT p' W #[]=a6 at P H|-;have⟨r,es⟩:=r;cases r with
  |ok n w1=>
    obtain S|⟨az,W1,ES,o,rfl,e,k,M,Q,D⟩:=P;.exact absurd S H
    have V:=D.1;have z:eZ G o λZ=>az=r8 Z n:=λZ r c=>(D.2 Z r c).1;have I:okN p n=true:=by obtain⟨Z,r,c⟩:=k.one;exact(D.2 Z r c).2
    have B:=O.ext e;have s:=aa.ext e;have stay:∀(c A:List Frame),c.all (np p)=true->gY fr c->(eZ G o λZ=>A=c.map (cV Z)++tl)->iP X p p' tl L G o W1 (.go {frame:=fr,callers:=c,status:=.running,dying:=none} w1) (.go {frame:=fr',callers:=A,status:=.running,dying:=none} W1):=λc A ag af T=>u7 k M (.of ⟨E,ag,rfl,rfl,rfl,af⟩ λj g i=>by rw[B j g i,T j g i];rfl)
    refine tC ?_ e Q (ab V);cases n with
    |value v=>obtain⟨Z,rfl⟩:=iG k z;exact stay cs q y u s
    |skip=>obtain⟨Z,rfl⟩:=iG k z;exact stay cs q y u s
    |defer d=>obtain⟨Z,rfl⟩:=iG k z;exact stay cs q y u s
    |enter f args=>obtain⟨Z,rfl⟩:=iG k z;exact u7 k M (EL.enter K f (.inr rfl) (by simp only[jG,dK];exact⟨E,y⟩) u λj g i=>⟨by have:=z j g i;simpa[r8]using this,by rw[B j g i,s j g i];rfl⟩)
    |round l f t a b=>
      obtain⟨Z,rfl⟩:=iG k z;simp only[okN,dK]at I;refine u7 k M (.of ⟨?_,by simp only[jG,dK];exact⟨E,y⟩,rfl,rfl,rfl,u⟩ λj g i=>?_);.rw[eB];refine⟨?_,rfl,I.2,by simp[Frame.round],by simp[Frame.round],rfl⟩;simp[Frame.round,CF,I.1.1,I.1.2]
      .have:=z j g i;simp only[r8,VF,vL,rC]at this;rw[B j g i,s j g i,this.1,this.2];rfl
    |recover=>
      obtain⟨Z,rfl⟩:=iG k z;have Y:eZ G o λZ=>tryRecover fr' q=(tryRecover fr cs).map λx=>(bB Z x.1,x.2.map (cV Z)++tl):=λj g i=>by rw[B j g i,s j g i,se tl _ _ (yA j cs fr u),wu,Option.map_map];rfl
      have ao:eZ G o λZ=>fr'.mode=tB Z fr.mode:=λj g i=>by rw[B j g i];rfl
      have⟨N,π,μ⟩:=k.one;dsimp only[r8];rw[ao N π μ];cases a5:fr.mode with
      |returning=>cases J:tryRecover fr cs with
        |none=>
          have:tryRecover fr' q=none:=by rw[Y N π μ,J];rfl
          rw[this];exact stay cs q y u s
        |some x=>
          have⟨v,c⟩:=x;have h0:tryRecover fr' q=some (bB N v,c.map (cV N)++tl):=by rw[Y N π μ,J];rfl
          rw[h0];refine stay c _ (uj cs fr v c y J) (og cs fr v c u J) λj g i=>?_;have:=Y j g i;rw[h0,J]at this;simp only[dY,gQ,Ki]at this;exact this.2
      |run=>exact stay cs q y u s
      |panicking a2=>exact stay cs q y u s
    |_=>exact absurd I (by simp[okN])
  |halt h w1=>
    obtain S|ak|⟨aj,ae,W1,ES,o,rfl,e,k,M,Q,D⟩:=P;.exact absurd S H
    .cases h<;>first|(cases ak;done)|trivial
    .have V:=D.1;have z:eZ G o λZ=>ae=I4 Z h:=λZ r c=>(D.2 Z r c);have B:=O.ext e;have s:=aa.ext e;have a3:=R.ext e;have a0:∀(c A:List PanicEntry),c.all (!·.goexit)=true->(eZ G o λZ=>A=c.map (CE Z))->iP X p p' tl L G o W1 (.go {frame:=fr.raise c,callers:=cs,status:=.running,dying:=none} w1) (.go {frame:=fr'.raise A,callers:=q,status:=.running,dying:=none} W1):=λc A ah T=>u7 k M (.of ⟨zQ E c ah,y,rfl,rfl,rfl,u.kind (uf fr c)⟩ λj g i=>by rw[T j g i,B j g i,s j g i,xd];rfl)
     cases h with
     |panic v=>obtain⟨a7,rfl,av⟩:=yB k z;refine tC ?_ e Q (ab V);exact a0 _ _ rfl λj g i=>by rw[av j g i];rfl
     |throw m=>exact EM fr m w1
     |_=>cases aj
end
section
variable{X:FuncId→Prop}{p p':Program}{tl:List Frame}{L:NM}{G:Gs}{U:Nat→Option Nat}{w W:World}
def Rc{Z}{γ:Type}(f f':γ->Sem Value):∀l:List γ,(∀a∈l,SR p p' Z (VR Z) (f a) (f' a))->SR p p' Z (λa b=>b=a.map (bB Z)) (l.mapM f) (l.mapM f')
 |[],_=>by simp;exact aN rfl
 |a::l,h=>by simp;refine aK (h a S8) ?_;rintro v _ rfl;refine aK (Rc f f' l λb c=>h b (by simp[c])) ?_;rintro d _ rfl;exact aN rfl
def OH(F:Fit G p p'){Z}(R:Rn G Z){fn c}(h:c.results=fn.results)(t):SR p p' Z (VR Z) (results fn t) (results c (t.map (bB Z))):=by
 unfold results;rw[h];have d:∀i,(t.map (bB Z)).getD i undef=bB Z (t.getD i undef):=λi=>by simp;cases t[i]?<;>simp
 refine aK (Q:=λa b=>b=a.map (bB Z)) ?_ ?_
 .rw[VC,VC];refine aK (Rc _ _ fn.results.toList λa _=>?_) ?_;.cases a with
   |tmp i=>exact aN (d i)
   |cell a ty=>dsimp only;rw[d];refine aK (AY F R _) ?_;rintro x _ rfl;exact tZ F ty x
  .rintro e _ rfl;exact aN S8
 .rintro e _ rfl;refine aN ?_;by_cases f:e.size=1;.simp_all
  .simp[VR,f]
def OI{ds fr fr' d}(ok:fF G U w W)(c:eZ G U λZ=>fr'=cV Z fr)(e:fr.defers=d::ds):∃d' b,fr'.defers=d'::b/\(eZ G U λZ=>d'=mP Z d)/\eZ G U λZ=>b=ds.map (mP Z):=by
 have⟨Z,i,h⟩:=ok.one;have h0:=c Z i h;refine⟨mP Z d,ds.map (mP Z),by rw[h0];simp[cV,e],λg f a=>?_,λg f a=>?_⟩<;>
 .have:=congrArg Frame.defers ((c g f a).symm.trans h0);simp only[cV,e,lC,vM]at this;first|exact this.1.symm|exact this.2.symm
def EP(F:Fit G p p')(C:kQ G p p')(K:Dy X p p'){main main' fr fr' cs J}(ak:cs=[]->main=true/\(tl=[]->main'=true))(ok:fF G U w W)(wr:WR p L G U w W)(ab:np p fr=true)(s:cs.all (np p)=true)(j:gY fr cs)(g:eZ G U λZ=>fr'=cV Z fr)(E:eZ G U λZ=>J=cs.map (cV Z)++tl):iP X p p' tl L G U W (unwind p main fr cs none w) (unwind p' main' fr' J none W):=by
 have⟨ar,k2⟩:=pF ok g;have u:=eB.1 ab;have bb:∀{A:Nat->Option Nat} {es ES:Array Event},rW G A es ES->rW G A (Go.seen p fr.fn es) (Go.seen p' fr'.fn ES):=λh=>by rw[ar];exact h.seen K fr.fn
 cases B:fr.defers with
 |cons d ds=>
   have⟨d',ag,Q,N,O⟩:=OI ok g B;have π:okD p d=true/\ds.all (okD p)=true:=by have:=u.2.1;rw[B]at this;simpa using this
   by_cases Y:∃b,d.target=.collected b
   .have⟨b,j⟩:=Y;have⟨t,μ⟩:=d;simp only at j;subst j;have⟨m,S,P⟩:=ok.one;have ay:=N m S P;subst ay;have I:eZ G U λZ=>SR p p' Z (λx y=>y=x.map (mP Z)/\x.all (okD p)=true) (Instr.takeDeferred b) (Instr.takeDeferred (m b)):=λZ a f=>by
     have:m b=Z b:=by have:=congrArg Deferred.target (N Z a f);simpa[mP,Dc]using this
     rw[this];exact Dk b
    have v:=XL ok wr I;unfold unwind;rw[B,Q];dsimp only[mP,Dc];by_cases o:vA L (cX ((Instr.takeDeferred b).runT p w #[]).1) (cX ((Instr.takeDeferred (m b)).runT p' W #[]).1)
    .have⟨f1,f2⟩:=o;refine wy (.inl ⟨?_,?_⟩);.generalize(Instr.takeDeferred b).runT p w #[]=r at f1|-;have⟨r,es⟩:=r;cases r<;>exact bM f1
     .generalize(Instr.takeDeferred (m b)).runT p' W #[]=r at f2|-;have⟨r,es⟩:=r;cases r<;>exact bM f2
    generalize(Instr.takeDeferred b).runT p w #[]=r,(Instr.takeDeferred (m b)).runT p' W #[]=av at v o|-;have⟨r,es⟩:=r;cases r with
    |ok n w1=>
      obtain ah|⟨au,W1,ES,A,rfl,e,T,af,V,D⟩:=v;.trivial
      have aa:=D.1;have a7:eZ G A λZ=>au=n.map (mP Z):=λZ r c=>(D.2 Z r c).1;have a8:n.all (okD p)=true:=by obtain⟨Z,r,c⟩:=T.one;exact(D.2 Z r c).2
      have az:=g.ext e;have a0:=E.ext e;have a2:=O.ext e;refine tC ?_ e V (bb aa);refine u7 T af (.of ⟨?_,s,rfl,rfl,rfl,j.kind rfl⟩ λl a f=>?_);.rw[eB];exact⟨u.1,by simp only[VG,dK];exact⟨a8,π.2⟩,u.2.2⟩
      .rw[az l a f,a0 l a f,a2 l a f,a7 l a f,<-nT];rfl
    |halt h w1=>trivial
   .have I:=Je (fr:={fr with defers:=ds}) (fr':={fr' with defers:=ag}) (d:=d) (d':=d') F C K ok wr (by rw[eB];exact⟨u.1,π.2,u.2.2⟩) s (j.kind rfl) π.1 (λZ a f=>by rw[g Z a f,O Z a f];rfl) E N;have bc:unwind p main fr cs none w=callDeferred p {fr with defers:=ds} cs none d w:=by unfold unwind;rw[B];have⟨t,μ⟩:=d;cases t<;>first|rfl|exact absurd ⟨_,rfl⟩ Y
    have bd:unwind p' main' fr' J none W=callDeferred p' {fr' with defers:=ag} J none d' W:=by
     unfold unwind;rw[Q];have:¬∃b,d'.target=.collected b:=by rintro⟨b,j⟩;have⟨Z,a,f⟩:=ok.one;rw[N Z a f]at j;have⟨t,μ⟩:=d;cases t<;>first|exact Y ⟨_,rfl⟩|simp[mP,Dc]at j
     have⟨t,μ⟩:=d';cases t<;>first|rfl|exact absurd ⟨_,rfl⟩ this
    rw[bc,bd];exact I
 |nil=>
   have Q:fr'.defers=[]:=by have⟨Z,a,f⟩:=ok.one;rw[g Z a f];simp[cV,B]
   unfold unwind;rw[B,Q];dsimp only;have aj:eZ G U λZ=>fr'.mode=tB Z fr.mode:=λl a f=>by rw[g l a f];rfl
   have⟨m,S,P⟩:=ok.one;have H:=aj m S P;cases R:fr.mode with
   |run=>trivial
   |panicking q=>
     rw[R]at H;rw[H];have hgo:q.all (!·.goexit)=true:=by have:=u.2.2.2.2.2;rw[R]at this;exact this
     dsimp only[tB];refine iP.unless λ_=>adf ?_ ?_
     .have a4:Frame.catches p' fr'=false:=by
       have a9:fr'.todo=fr.todo.map (mQ m):=by rw[g m S P];rfl
       have ao:=u.1;unfold Frame.catches;rw[a9];cases ba:fr.todo with
       |nil=>split<;>simp_all
       |cons i k=>rw[ba]at ao;cases i<;>first|(simp[CF]at ao;done)|(cases p'.funcs[fr'.fn]?<;>rfl)
      simp[a4]
     .cases cs with
      |cons c r=>obtain⟨bf,av,rfl,O,a3⟩:=all_cons ok E;simp only[jG,dK]at s;refine u7 ok wr (.of ⟨zQ s.1 q hgo,s.2,rfl,rfl,rfl,Lu (fr:=c) (cs:=r) j (uf c q)⟩ λl a f=>?_);have ae:=aj l a f;rw[R,H]at ae;simp only[tB,FrameMode.panicking.injEq]at ae;rw[ae,O l a f,a3 l a f,xd];rfl
      |nil=>
        dsimp only;have a6:¬q.head?.any (·.goexit)=true:=by cases q with
         |nil=>simp
         |cons e q=>simp only[jG,dK,Bool.not_eq_true']at hgo;simp[hgo.1]
        rw[aS a6];cases(reportChain q false).run p w with
        |ok t w=>exact .inr (.inl ⟨.inl rfl,_,rfl,rfl,K.dry t⟩)
        |halt h w=>cases h<;>trivial
   |returning=>rw[R]at H;rw[H];dsimp only[tB];have z:=K.sort fr.fn;rw[ar];cases ai:p.funcs[fr.fn]? with
     |none=>
       have:p'.funcs[fr.fn]?=none:=by rw[ai]at z;simpa using z
       rw[this];refine lZ F ok wr ab s j g E (λZ a f=>?_) ak;rw[g Z a f];simp only[cV,GM,kT];cases fr.tmps[0]?<;>simp
     |some fn=>
       rw[ai]at z;have⟨M,a5,z⟩:=GN.1 z;rw[a5];simp only[Ki]at z;dsimp only;have I:eZ G U λZ=>SR p p' Z (VR Z) (results fn fr.tmps) (results M fr'.tmps):=λZ a f=>by
        have:fr'.tmps=fr.tmps.map (bB Z):=by rw[g Z a f];rfl
        rw[this];exact OH F a z.1 _
       have v:=XL ok wr I;by_cases o:vA L (cX ((results fn fr.tmps).runT p w #[]).1) (cX ((results M fr'.tmps).runT p' W #[]).1)
       .have⟨f1,f2⟩:=o;refine wy (.inl ⟨?_,?_⟩);.generalize(results fn fr.tmps).runT p w #[]=r at f1|-;have⟨r,es⟩:=r;cases r<;>first|exact bM (fZ f1)|exact bM f1|(rename_i h _;cases h<;>exact bM f1)
        .generalize(results M fr'.tmps).runT p' W #[]=r at f2|-;have⟨r,es⟩:=r;cases r<;>first|exact bM (fZ f2)|exact bM f2|(rename_i h _;cases h<;>exact bM f2)
       generalize(results fn fr.tmps).runT p w #[]=r,(results M fr'.tmps).runT p' W #[]=av at v o|-;have⟨r,es⟩:=r;cases r with
       |ok n w1=>
         obtain ah|⟨au,W1,ES,A,rfl,e,T,af,V,D⟩:=v;.exact absurd ah o
         have aa:=D.1;refine tC ?_ e V (aa.seen K fr.fn);exact lZ F T af ab s j (g.ext e) (E.ext e) (λZ r c=>(D.2 Z r c)) ak
       |halt h w1=>cases h<;>trivial
end
section
variable{p p':Program}{L:NM}{G:Gs}{α β γ δ:Type}
def oH.sM{U W Q}{r:Result α×Array Event}{a:Result β×Array Event}(h:vA L (cX r.1) (cX a.1)):oH p L G U W Q r a:=by have⟨r,es⟩:=r;cases r<;>exact .inl h
def oH.weaken{U q W W1 Q}{r:Result α×Array Event}{s:Result β×Array Event}(e:Ext U q)(f:Fr U q W W1)(h:oH p L G q W1 Q r s):oH p L G U W Q r s:=by
 match r with
 |(.ok a w1,t)=>
   obtain n|⟨b,g,d,o,i,c,j,k,l,m⟩:=h;.exact .inl n
   .exact .inr ⟨b,g,d,o,i,e.trans c,j,k,f.trans c l,m⟩
 |(.halt x w1,t)=>
   obtain n|h|⟨u,b,g,d,o,i,c,j,k,l,m⟩:=h;.exact .inl n
   .exact .inr (.inl h)
   .exact .inr<|.inr ⟨u,b,g,d,o,i,e.trans c,j,k,f.trans c l,m⟩
def LD{n:Int}{s}{f:α->Sem γ}{w es}(h:n<(cX (s.runT p w es).1).drawn):n<(cX ((s>>=f).runT p w es).1).drawn:=by rw[oX];generalize s.runT p w es=r at h;have⟨r,b⟩:=r;cases r with
 |ok a w1=>exact DV h (GP.2 (qz (f a) w1 b))
 |halt x w1=>exact h
def oH.bind{Q Q' U w W es ES s s'}{f:α->Sem γ}{f':β->Sem δ}(h:Out p L G U W Q (s.runT p w es) (s'.runT p' W ES))(k:∀a b w1 W1 g d c,Ext U c->fF G c w1.heap.size W1.heap.size->WR p L G c w1 W1->rW G c g d->(eZ G c λZ=>Q Z a b)->oH p L G c W1 Q' ((f a).runT p w1 g) ((f' b).runT p' W1 d)):
 oH p L G U W Q' ((s>>=f).runT p w es) ((s'>>=f').runT p' W ES):=by
 by_cases i:vA L (cX (s.runT p w es).1) (cX (s'.runT p' W ES).1);.exact oH.sM ⟨LD i.1,LD i.2⟩
 rw[oX,oX];generalize s.runT p w es=r,s'.runT p' W ES=u at h i|-;have⟨r,g⟩:=r;cases r with
 |ok a w1=>
   obtain q|⟨b,W1,d,c,rfl,e,n,o,j,l,m⟩:=h;.trivial
   .exact oH.weaken e j (k a b w1 W1 g d c e n o l m)
 |halt x w1=>
   obtain q|h|⟨t,b,W1,d,c,rfl,e,n,o,j,l,m⟩:=h;.trivial
   .exact .inr (.inl h)
   .exact .inr<|.inr ⟨t,b,W1,d,c,rfl,e,n,o.we,j,l,m⟩
def Re:=@oH.bind
def oH.lost{Q:Pi->α->β->Prop}{U W w1 a h b}(e:xW h=true):oH p L G U W Q (.halt h w1,a) b:=.inr (.inl e)
def XN:=@oH.lost
def oH.loose(A:G.strict=false){Q U w W es ES}{s:Sem α}{s':Sem β}(ok:fF G U w.heap.size W.heap.size)(v:∀b c,U b=some c->∃o o',w.heap[b]?=some o/\W.heap[c]?=some o'/\cK p o=true/\eZ G U λZ=>o'=dS Z o)(z:W.os=w.os)(B:w.tape=L.tp)(ev:rW G U es ES)
 (n:(cX (s.runT p w es).1).drawn=w.drawn)(t:eZ G U λZ=>SR p p' Z (Q Z) s s'):oH p L G U W Q (s.runT p w es) (s'.runT p' W ES):=by
 have wr:WR p ⟨w.drawn,(W.drawn:Int) -w.drawn,L.tp⟩ G U w W:=⟨v,λi q hi=>by simp only at hi;omega,z,by simp only;omega,B⟩;have h:=rK s s' U w W es ES ok wr ev t;have we:∀{e:Nat->Option Nat} {w1 W1:World},WR p ⟨w.drawn,(W.drawn:Int) -w.drawn,L.tp⟩ G e w1 W1->WE p L G e w1 W1:=λx=>⟨x.obj,x.os,λy=>(by rw[A]at y;cases y),x.tp⟩;generalize s.runT p w es=r at h n|-;have⟨r,C⟩:=r;cases r with
 |ok a w1=>
   obtain m|⟨b,W1,f,e,d,g,j,k,l⟩:=h;.have d:=m.1;simp[cX]at n;simp at d;omega
   .exact .inr ⟨b,W1,f,e,d,g,j,we k,l⟩
 |halt x w1=>
   obtain m|h|⟨u,b,W1,f,e,d,g,j,k,l⟩:=h;.have d:=m.1;simp[cX]at n;simp at d;omega
   .exact .inr (.inl h)
   .exact .inr<|.inr ⟨u,b,W1,f,e,d,g,j,we k,l⟩
def uk(r o w es):(cX ((setObj r o).runT p w es).1).drawn=w.drawn:=by
 show(cX ((Sem.setObj r o (.pure ())).runT p w es).1).drawn=w.drawn;simp[Sem.runT];repeat' split
 all_goals rfl
end
section
variable{p p':Program}{L:NM}{G:Gs}{U:Nat→Option Nat}{w W:World}{es ES:Array Event}
def aba(n):Fr U U W {W with drawn:=W.drawn+n}:=⟨L9,λ_ _ _=>rfl,λc (a:(W:Nat)<=c) (b:c<(W:Nat))=>by omega,λ_ _ h _=>h,rfl,rfl,Qy _ _,rfl⟩
def XO(B:G.strict=false){a k a' k'}(ok:fF G U w W)(wr:WR p L G U w W)(ev:rW G U es ES)(o:eZ G U fun Z=>a'=bB Z a)(m:eZ G U fun Z=>k'=bB Z k){r t}{f f':Value->Obj}(A:∀x j,(eZ G U fun Z=>j=bB Z x)->eZ G U fun Z=>t=Z r/\f' j=dS Z (f x)/\cK p (f x)=true):
 oH p L G U W (fun _ _ _=>True) ((Instr.keyThatStays a k>>=fun x=>setObj r (f x)).runT p w es) ((Instr.keyThatStays a' k'>>=fun x=>setObj t (f' x)).runT p' W ES):=by
 have last:∀(x j:Value) (n s:Nat),(eZ G U fun Z=>j=bB Z x)->oH p L G U W (fun _ _ _=>True) ((setObj r (f x)).runT p {w with drawn:=w.drawn+n} es) ((setObj t (f' j)).runT p' {W with drawn:=W.drawn+s} ES):=fun x j n s C=>by refine oH.weaken (oQ _) (aba s) (oH.loose B (w:={w with drawn:=w.drawn+n}) ok wr.obj wr.os wr.tp ev (uk _ _ _ _) fun Z h d=>?_);have⟨l,i,y⟩:=A x j C Z h d;rw[l,i];exact gK y
 have run:∀(q:Program) (b c:Value) (g:Value->Sem Unit) (v:World) (e:Array Event),(Instr.keyThatStays b c>>=g).runT q v e=if Instr.sameBits 10000 b c then(g c).runT q v e else(g (if(Question.extern "map.whichKeyStays" 2).cut (v.tape v.drawn (.extern "map.whichKeyStays" 2))=0 then c else b)).runT q {v with drawn:=v.drawn+1} e:=fun q b c g v e=>by
  unfold Instr.keyThatStays;split;.rfl
  .trivial
 rw[run,run];by_cases l:Instr.sameBits 10000 a k=true
 .have e:=CB _ _ _ l;rw[bE l];by_cases i:Instr.sameBits 10000 a' k'=true;.rw[bE i];exact last k k' 0 0 m
  .rw[aS i];refine last k _ 0 1 fun Z h d=>?_;have u:a'=k':=by rw[o Z h d,m Z h d,e]
   rw[u,ite_self];exact m Z h d
 .rw[aS l];by_cases i:Instr.sameBits 10000 a' k'=true
  .have e:=CB _ _ _ i;rw[bE i];refine last _ k' 1 0 fun Z h d=>?_;split;.exact m Z h d
   .rw[<-e];exact o Z h d
  .rw[aS i];by_cases z:w.drawn<L.lim
   .have h0:=wr.tape 0 (.extern "map.whichKeyStays" 2) z;simp only[DT]at h0;rw[h0];refine last _ _ 1 1 fun Z h d=>?_;split;.exact m Z h d
    .exact o Z h d
   .have D:=wr.Ol;refine oH.sM ⟨?_,?_⟩;.rw[uk];simp only;omega
    .rw[uk];simp only;omega
def Gr(F:Fit G p p')(ao:G.strict=false)(t)(K:zF p t=true){m k v O k' B}(ok:fF G U w W)(wr:WR p L G U w W)(ev:rW G U es ES)(n:eZ G U λZ=>O=bB Z m)(d:eZ G U λZ=>k'=bB Z k)(g:eZ G U λZ=>B=bB Z v):
 oH p L G U W (λ_ _ _=>True) ((Instr.mapUpdate t m k v).runT p w es) ((Instr.mapUpdate t O k' B).runT p' W ES):=by
 unfold Instr.mapUpdate;refine Re (rK _ _ U w W es ES ok wr ev λZ a b=>aR F t) ?_;intro u ay w1 W1 H E C ex z R I j;have⟨q,y,s⟩:=z.one;obtain⟨rfl,N⟩:=j q y s;replace n:=n.ext ex;replace d:=d.ext ex;replace g:=g.ext ex;cases ay<;>first|exact XN rfl|skip
 rename_i au e;dsimp only;cases m<;>first|exact XN rfl|skip
 rename_i r;cases r with
 |none=>have:=n q y s;subst this;simp only[dV,Kg];exact(rK _ _ C w1 W1 H E z R I λZ a b=>bK F _).we
 |some r=>
   have:=n q y s;subst this;simp only[dV,dY];have M:eZ G C λZ=>q r=Z r:=λZ a b=>by simpa using n Z a b
   refine Re (Q:=λZ o o'=>o'=dS Z o) (rK _ _ C w1 W1 H E z R I λZ a b=>by rw[M Z a b];exact iE) ?_;intro o o' a2 W2 aa μ T ex P az af j;cases o<;>first|exact XN rfl|skip
   rename_i ms c;have⟨D,aj,ah⟩:=P.one;have:=j D aj ah;subst this;have h:eZ G T λZ=>ms.map (mK D)=ms.map (mK Z):=λZ a b=>by simpa[dS]using j Z a b
   have l:=M.ext ex;replace d:=d.ext ex;replace g:=g.ext ex;simp only[dS];refine Re (rK _ _ T a2 W2 aa μ P az af λZ a b=>by rw[d Z a b];exact lH F _ _ 5 _ _ (jO K N)) ?_;intro _ _ a3 Y ab V a5 ex av a0 ag _;replace h:=h.ext ex;replace l:=l.ext ex;replace d:=d.ext ex;replace g:=g.ext ex;refine Re (Q:=λZ f f'=>f'=Tq Z f) (rK _ _ a5 a3 Y ab V av a0 ag λZ a b=>by rw[h Z a b,d Z a b,sQ];exact qE F a au (jO K N) k ms.toList) ?_;intro f f' a4 π ae X a6 ex A S J j;replace h:=h.ext ex;replace l:=l.ext ex;replace d:=d.ext ex;replace g:=g.ext ex;have⟨a7,ak,ai⟩:=A.one;have:=j a7 ak ai;subst this;cases f with
   |none=>refine(rK _ _ a6 a4 π ae X A S J λZ a b=>?_).we;have:=gK (p:=p) (p':=p') (Z:=Z) (r:=r) (o:=.map (ms.push {key:=k,val:=v,born:=c}) (c+1)) rfl;simpa[dS,mK,Tq,h Z a b,l Z a b,d Z a b,g Z a b]using this
   |some f=>
     have⟨i,x⟩:=f;refine XO ao A S J (λZ a b=>?_) d (f:=λx=>.map (ms.modify i λe=>{e with key:=x,val:=v}) c) (f':=λx=>.map ((ms.map (mK D)).modify i λe=>{e with key:=x,val:=B}) c) (λx a8 ar Z a b=>⟨l Z a b,?_,rfl⟩);.rw[h Z a b,d Z a b,kT];cases ms[i]?<;>rfl
     .simp only[dS,Obj.map.injEq,rC];rw[h Z a b,g Z a b,ar Z a b];exact(EG (mK Z) (λe=>{e with key:=x,val:=v}) (λe=>{e with key:=bB Z x,val:=bB Z v}) (λx=>rfl) ms i).symm
def oH.skip{r:Sem Unit}{g:Sem Unit}(h:oH p L G U W (λ_ _ _=>True) (r.runT p w es) (g.runT p' W ES)):oH p L G U W (NR p) ((do r;pure Next.skip).runT p w es) ((do g;pure Next.skip).runT p' W ES):=by rw[oX,oX];generalize r.runT p w es=x,g.runT p' W ES=c at h|-;have⟨x,q⟩:=x;cases x with
 |ok a w1=>
   obtain d|⟨b,W1,e,i,rfl,f,k,l,m,n,-⟩:=h;.refine .inl ⟨d.1,?_⟩;have:=d.2;have⟨c,j⟩:=c;cases c<;>exact this
   .exact .inr ⟨.skip,W1,e,i,rfl,f,k,l,m,n,λZ _ _=>⟨rfl,rfl⟩⟩
 |halt y w1=>
   obtain d|h|⟨o,b,W1,e,i,rfl,f⟩:=h;.refine .inl ⟨d.1,?_⟩;have:=d.2;have⟨c,j⟩:=c;cases c<;>exact this
   .exact .inr (.inl h)
   .exact .inr<|.inr ⟨o,b,W1,e,i,rfl,f⟩
end
end Go.Ren
