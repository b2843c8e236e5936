import Derived.RunT
import Derived.DyingOn
import Derived.Test.YtpjcmpfncpnmeabGreatM00
set_option linter.all false
set_option maxHeartbeats 1000000
namespace Go.Ren
section
variable{G:Gs}{p p':Program}{Z:Pi}(F:Fit G p p')(R:Rn G Z)
omit F R in
theorem EO(n):SR p p' Z (λ_ _=>True) (askRoom n) (askRoom n):=by exact eN (Jl (m:=.noRoom)) (aN trivial)
theorem EP{e cs}(h:cs.map (bB Z)=cs):SR p p' Z (λa a'=>a'=cC Z a/\Z.gh a.block=none) (newRow e cs) (newRow e cs):=by have:=qB (p:=p) (p':=p') (Z:=Z) e cs;rwa [h]at this
theorem Dz{t e:TypeId}(F:Fit G p p')(a:t<p.types.size)(h:p.underlying t=some (.slice e)):e<p.types.size:=by have:=EF F a h;simpa[AQ]using this
theorem vV(v):SR p p' Z (λa b=>b=a) (asInt v) (asInt (bB Z v)):=by refine aK (qC v) ?_;rintro _ x rfl;exact aN rfl
include F R
theorem gT{α b β c Q}(e){f:α->Sem β}{f':b->Sem c}(a:ady e=false:=by rfl):SR p p' Z Q (runtimePanic e>>=f) (runtimePanic e>>=f'):=aK (Q:=λ_ _=>False) (bK F e a) (λ_ _ h=>h.elim)
theorem Jo{t:TypeId}(k:t<p.types.size)(l c):SR p p' Z (VR Z) (Instr.makeSlice t l c) (Instr.makeSlice t (bB Z l) (bB Z c)):=by refine aK (aR F t) ?_;rintro _ d ⟨rfl,h⟩;cases d with
 |slice e=>
   have j:=Dz F k h;refine aK (vV l) ?_;rintro _ l rfl;refine aK (vV c) ?_;rintro _ c rfl;refine aK (fS F e) ?_;rintro _ i ⟨rfl,_⟩;refine eN ?_ ?_;.refine eN (gT F R _) (eN (gT F R _) ?_);refine aK iA ?_;rintro _ n rfl;exact gT F R _
   .refine aK (EO _) ?_;intro _ _ _;refine aK (dZ F e) ?_;rintro _ n rfl;refine eN ?_ ?_;.refine aK (Q:=λa b=>b=a/\a.map (bB Z)=a) (aN ⟨rfl,S8⟩) ?_;rintro _ z ⟨rfl,f⟩;refine aK (Q:=λa b=>b=cC Z a/\Z.gh a.block=none) (EP (tA f _)) ?_;rintro a _ ⟨rfl,g⟩;exact aN (by simp[VR,fE g])
    .refine aK (fW F j) ?_;rintro _ z ⟨rfl,f⟩;refine aK (Q:=λa b=>b=a/\a.map (bB Z)=a) (aN ⟨rfl,by rw[<-mB,f]⟩) ?_;rintro _ z ⟨rfl,f⟩;refine aK (Q:=λa b=>b=cC Z a/\Z.gh a.block=none) (EP (tA f _)) ?_;rintro a _ ⟨rfl,g⟩;exact aN (by simp[VR,fE g])
 |_=>exact aM rfl
omit R
theorem GG{t:TypeId}(k:t<p.types.size)(n c):SR p p' Z (VR Z) (Instr.buildSlice t n c) (Instr.buildSlice t n (c.map λ(i,x)=>(i,bB Z x))):=by refine aK (aR F t) ?_;rintro _ d ⟨rfl,h⟩;cases d with
 |slice e=>
   have j:=Dz F k h;refine aK (dZ F e) ?_;rintro _ s rfl;refine eN (aM rfl) ?_;refine eN ?_ ?_;.refine aK (Q:=λa b=>b=a/\a.map (bB Z)=a) (aN ⟨rfl,S8⟩) ?_;rintro _ z ⟨rfl,f⟩;have:=zL (Z:=Z) (λi=>some (i*s,s)) c.toList ((Array.range (n*s)).map λx=>z[x%z.size]!);rw[tA f]at this;dsimp only;rw[rG,this];cases Instr.fill (λi=>some (i*s,s)) ((Array.range (n*s)).map λx=>z[x%z.size]!) c.toList with
    |none=>exact aM rfl
    |some cs=>refine aK (qB e cs) ?_;rintro a _ ⟨rfl,g⟩;exact aN (by simp[VR,fE g])
   .refine aK (fW F j) ?_;rintro _ z ⟨rfl,f⟩;refine aK (Q:=λa b=>b=a/\a.map (bB Z)=a) (aN ⟨rfl,by rw[<-mB,f]⟩) ?_;rintro _ z ⟨rfl,f⟩;have:=zL (Z:=Z) (λi=>some (i*s,s)) c.toList ((Array.range (n*s)).map λx=>z[x%z.size]!);rw[tA f]at this;dsimp only;rw[rG,this];cases Instr.fill (λi=>some (i*s,s)) ((Array.range (n*s)).map λx=>z[x%z.size]!) c.toList with
    |none=>exact aM rfl
    |some cs=>refine aK (qB e cs) ?_;rintro a _ ⟨rfl,g⟩;exact aN (by simp[VR,fE g])
 |_=>exact aM rfl
omit F in
theorem LR(x):SR p p' Z (λa b=>b=a/\∀q l c,x=.slice q l c->a<=l) (Builtin.lenOf x) (Builtin.lenOf (bB Z x)):=by cases x with
 |slice a l c=>rw[bQ];exact aN ⟨rfl,λq f d e=>by cases e;exact L9⟩
 |string s=>rw[cB];exact aN ⟨rfl,λq f d e=>by cases e⟩
 |_=>exact aM rfl
omit F in
theorem sj(s n x)(d:∀q l c,x=.slice q l c->n<=l):SR p p' Z (λa b=>b=a.map (bB Z)/\(n=0->a=#[])) (Builtin.firstCells s n x) (Builtin.firstCells s n (bB Z x)):=by cases x with
 |slice a l c=>cases a with
   |none=>rw[bQ];exact aN S8
   |some a=>
     rw[bQ];by_cases h0:n=0;.subst h0;show SR p p' Z _ (loadCells a (0*s)) (loadCells _ (0*s));rw[V5];exact aN S8
     .refine(xU a _ l c λh _=>?_).mono λ_ _ h=>⟨h,λh=>absurd h h0⟩;have:=d _ _ _ rfl;rw[show n=0 by omega,V5]
 |string s=>rw[cB];refine aN ⟨by simp[QP],λh=>?_⟩;subst h;simp
 |_=>exact aM rfl
theorem abq(f t args):SR p p' Z (VR Z) (Builtin.copy_ f t args) (Builtin.copy_ f t (args.map (bB Z))):=by unfold Builtin.copy_;simp;cases f[0]? with
 |none=>exact aM rfl
 |some t=>cases args[0]? with
   |none=>exact aM rfl
   |some d=>cases args[1]? with
     |none=>exact aM rfl
     |some s=>refine aK (aR F t) ?_;rintro _ u ⟨rfl,_⟩;cases u with
       |slice e=>cases d with
         |slice b l c=>rw[bQ];refine aK (LR s) ?_;rintro _ n ⟨rfl,j⟩;refine aK (dZ F e) ?_;rintro _ z rfl;refine aK (sj z _ s λq k g e=>bI (Nat.min_le_left _ _) (j q k g e)) ?_;rintro cs _ ⟨rfl,i⟩;cases b with
           |none=>exact aN (by simp[VR,goInt])
           |some a=>refine aK (Q:=λ_ _=>True) (by have:=vS (p:=p) (p':=p') (Z:=Z) a cs.toList 0 l c (λh _=>by rw[i (by rw[h];exact Nat.min_zero _)]);simpa[Addr.add]using this) ?_;intro _ _ _;exact aN (by simp[VR,goInt])
         |_=>exact aM rfl
       |_=>exact aM rfl
omit F in
omit F in
theorem LS(s l n:Nat)(b:Option Addr)(x:Value)(w:World)(es:Array Event):∃a,(Builtin.mayShare s l n b x).runT p w es=(.ok a w,es):=by
 have hold:∀(a:Addr) (m:Nat) {γ:Type} (f:Bool->Sem γ),(∀t,∃y,(f t).runT p w es=(.ok y w,es))->∃y,(Builtin.holdsCells a m>>=f).runT p w es=(.ok y w,es):=λa m γ f hf=>by show∃y,(Sem.shape a.block _).runT p w es=_;simp only[Sem.runT];cases w.shape? a.block with
  |none=>exact hf _
  |some z=>exact hf _
 have fro:∀(a:Addr) {γ:Type} (f:Bool->Sem γ),(∀t,∃y,(f t).runT p w es=(.ok y w,es))->∃y,(frozen a>>=f).runT p w es=(.ok y w,es):=λa γ f hf=>by show∃y,(Sem.frozen a _).runT p w es=_;simp only[Sem.runT];exact hf _
 have last:∀t:Bool,∃y,(if(!t)=true then pure true else match x with|.slice (some c) _ _=>do let h<-Builtin.holdsCells c (n*s);pure (!h||b.any (·.block==c.block))|_=>pure false:Sem Bool).runT p w es=(.ok y w,es):=λt=>by
  split;.exact⟨_,rfl⟩
  .split;.exact hold _ _ _ λt=>⟨_,rfl⟩
   .exact⟨_,rfl⟩
 unfold Builtin.mayShare;cases b with
 |none=>exact last true
 |some a=>refine hold a _ _ λt=>?_;refine fro _ _ λt'=>?_;exact last _
end
section
variable{G:Gs}{p p':Program}{Z:Pi}(F:Fit G p p')(R:Rn G Z)
theorem py{z}(h:z.map (bB Z)=z)(n):(Builtin.zeroCells z n).map (bB Z)=Builtin.zeroCells z n:=tA h _
include F R
theorem TV(j t args)(h:∀s,j[0]?=some s->s<p.types.size):SR p p' Z (VR Z) (Builtin.append_ j t args) (Builtin.append_ j t (args.map (bB Z))):=by unfold Builtin.append_;simp only[kW];cases E:j[0]? with
 |none=>exact aM rfl
 |some st=>have G:=h st E;cases args[0]? with
   |none=>exact aM rfl
   |some s=>cases args[1]? with
     |none=>exact aM rfl
     |some x=>simp only[dY];refine aK (aR F st) ?_;rintro _ u ⟨rfl,H⟩;cases u with
       |slice e=>have o:=Dz F G H;cases s with
         |slice b sl d=>
           rw[bQ];refine aK (dZ F e) ?_;rintro _ size rfl;have M:∀n,SR p p' Z (λa b=>b=a.map (bB Z)) (do let z<-zeroValue e;pure (Builtin.zeroCells z.cells n)) (do let z<-zeroValue e;pure (Builtin.zeroCells z.cells n)):=λn=>by refine aK (fW F o) ?_;rintro _ z ⟨rfl,f⟩;exact aN (py (by rw[<-mB,f]) n).symm
           have fin:∀old new g cap,SR p p' Z (VR Z) (do let z<-zeroValue e;let a<-newRow e (old++new++Builtin.zeroCells z.cells (cap -g));pure (.slice (some a) g cap)) (do let z<-zeroValue e;let a<-newRow e (old.map (bB Z)++new.map (bB Z)++Builtin.zeroCells z.cells (cap -g));pure (.slice (some a) g cap)):=λold new g cap=>by refine aK (fW F o) ?_;rintro _ z ⟨rfl,f⟩;refine aK (Q:=λa b=>b=cC Z a/\Z.gh a.block=none) (by rw[<-py (Z:=Z) (show z.cells.map (bB Z)=z.cells by rw[<-mB,f]),<-V6,<-V6];rw[py (Z:=Z) (show z.cells.map (bB Z)=z.cells by rw[<-mB,f])];exact qB _ _) ?_;rintro a _ ⟨rfl,B⟩;exact aN (by simp[VR,fE B])
           have K:SR p p' Z (λa b=>b=a.map (bB Z)/\(sl=0->a=#[])) (Builtin.firstCells size sl (.slice b sl d)) (Builtin.firstCells size sl (.slice (La Z b sl d) sl d)):=by
            have:=sj (p:=p) (p':=p') (Z:=Z) size sl (.slice b sl d) λq l c e=>by cases e;exact L9
            rwa [bQ]at this
           have put:∀(a:Addr) (new:Array Value),(sl=0->d=0->new.toList=[])->SR p p' Z (λ_ _=>True) (storeCells (a.add (sl*size)) new.toList) (storeCells ((yZ Z sl d a).add (sl*size)) (new.map (bB Z)).toList):=λa new f=>by have:=vS (p:=p) (p':=p') (Z:=Z) a new.toList (sl*size) sl d f;rwa [<-rG]at this
           cases j[1]?;case' none=>refine aK (Q:=λa b=>b=a) (aN rfl) ?_
           case' some L=>refine aK (aR F L) ?_;rintro _ u ⟨rfl,_⟩;refine aK (Q:=λa b=>b=a) (aN rfl) ?_
           all_goals rintro _ y rfl;refine eN ?_ ?_
           all_goals by_cases I:∃r,x=.chan r
           all_goals first
            | (obtain⟨r,rfl⟩:=I
               exact aM rfl)
            |skip
           all_goals by_cases v:∃q l c,x=.slice q l c
           all_goals first
            | (obtain⟨q,l,c,rfl⟩:=v
               exact aM rfl)
            | (refine aK (vV x) ?_
               rintro _ l rfl;refine eN (gT F R _) ?_;refine aK (fS F e) ?_;rintro _ i ⟨rfl,_⟩;refine eN (aK iA (by rintro _ n rfl;exact gT F R _)) ?_;refine aK (Q:=λa b=>b=a/\∀q l c,x=.slice q l c->a<=l) (aN ⟨rfl,λq l c e=>absurd ⟨q,l,c,e⟩ v⟩) ?_)
            |refine aK (LR x) ?_
           all_goals
            rintro _ n ⟨rfl,C⟩;have k:SR p p' Z (λa b=>b=a.map (bB Z)/\(n=0->a=#[])) (if(!y)=true then Builtin.firstCells size n x else if n*size=0 then pure #[]else do let z<-zeroValue e;pure (Builtin.zeroCells z.cells n)) (if(!y)=true then Builtin.firstCells size n (bB Z x)else if n*size=0 then pure #[]else do let z<-zeroValue e;pure (Builtin.zeroCells z.cells n)):=by
             refine eN (sj _ _ _ C) ?_;by_cases h0:n*size=0;.rw[bD h0];exact aN S8
             .rw[aT h0];exact(M _).mono λ_ _ h=>⟨h,λh=>absurd (by rw[h,V5]) h0⟩
            refine abp (λP=>?_) (λ_=>?_)
            .refine aK k ?_;rintro new _ ⟨rfl,D⟩;have same:∀a,yZ Z (sl+n) d a=yZ Z sl d a:=λa=>by
              unfold yZ;by_cases f:sl=0/\d=0;.rw[bD f,bD O9]
              .rw[aT f];by_cases J:sl+n=0/\d=0;.exact absurd O9 f
               .rw[aT J]
             cases b with
             |none=>exact aN (by simp[VR])
             |some a=>refine aK (put a new λN O=>by rw[D O9]) ?_;intro _ _ _;exact aN (by simp[VR,same])
            .refine aK (fS F e) ?_;rintro _ i ⟨rfl,_⟩;refine eN (gT F R _) ?_;refine aK (fS F e) ?_;rintro _ i ⟨rfl,_⟩;refine eN ?_ ?_
             .refine aK (Q:=λ_ _=>False) (eN (bK F _) ?_) (λ_ _ h=>h.elim);refine SR.qz (eF.then (λm=>?_) λw es=>?_)
              .intro w es;cases m;.exact⟨_,w,_,rfl,rfl⟩
               .exact⟨_,w,es,rfl,rfl⟩
              .have⟨a,A⟩:=LS (p:=p) size sl n b x w es;exact⟨a,w,es,A⟩
             .refine aK iA ?_;rintro _ cap rfl;refine aK (fS F e) ?_;rintro _ i ⟨rfl,_⟩;refine aK (EO _) ?_;intro _ _ _;refine aK K ?_;rintro old _ ⟨rfl,-⟩;refine aK k ?_;rintro new _ ⟨rfl,-⟩;exact fin old new _ _
         |_=>exact aM rfl
       |_=>exact aM rfl
end
theorem ER{α β:Type}(g:α->β)(f:α->α)(f':β->β)(h:∀x,g (f x)=f' (g x))(a:Array α)(i):(a.modify i f).map g=(a.map g).modify i f':=by grind
section
variable{G:Gs}{p p':Program}{Z:Pi}(F:Fit G p p')(R:Rn G Z)
include F R
omit R in
theorem lJ(e):∀n k t v,u9 p k t=true->SR p p' Z (λ_ _=>True) (Instr.checkKey e n t v) (Instr.checkKey e n t (bB Z v))
 |0,_,_,_,_=>aM rfl
 |_+1,0,_,_,h=>by cases h
 |n+1,k+1,t,v,a=>by have c:=lJ e n k;refine aK (aR F t) ?_;rintro _ u ⟨rfl,i⟩;simp[u9,i]at a;replace a:=a.2;cases u with
   |interface ms=>cases a
   |array l el=>
     cases v<;>first|exact aM rfl|skip
     rename_i cs;simp only[dB];refine aK (A2 l _ λf b=>?_) (λ_ _ _=>aN trivial);refine aK (dZ F el) ?_;rintro _ m rfl;refine aK (kZ F el cs _) ?_;rintro v _ rfl;refine aK (c el v a) ?_;intro _ _ _;exact aN rfl
   |struct d=>
     cases v<;>first|exact aM rfl|skip
     rename_i cs;simp only[dB];refine aK (A0 d _ λf g b=>?_) (λ_ _ _=>aN trivial);refine eN ?_ (aN rfl);refine aK (kZ F f.type cs _) ?_;rintro v _ rfl;refine aK (c f.type v (y8.1 a f g)) ?_;intro _ _ _;exact aN rfl
   |_=>exact aN trivial
omit F R in
theorem jL{t k e}(h:zC p t=true)(a:p.underlying t=some (.map k e)):u9 p 5 k=true:=by simpa[zC,a]using h
def TW(Z:Pi):Option (Nat×Value)->Option (Nat×Value):=Option.map λ(i,v)=>(i,bB Z v)
theorem xZ{n}(t)(c:u9 p n t=true)(k):∀es i,SR p p' Z (λa b=>b=TW Z a) (Instr.findAsking t k es i) (Instr.findAsking t (bB Z k) (es.map (mK Z)) i)
 |[],_=>aN rfl
 |e::es,i=>by refine aK (LO F R t k e.key c) ?_;rintro _ b rfl;exact eN (aN rfl) (xZ t c k es (i+1))
omit F R in
theorem Hz(Z r d b):Instr.sameNow d (oz Z r) b=none/\Instr.sameNow d b (oz Z r)=none:=by obtain h|⟨_,h⟩|⟨_,_,_,h⟩|⟨_,h⟩|⟨_,h⟩|⟨_,_,_,h⟩:=fO Z r<;>rw[h]<;>constructor<;>cases d<;>cases b<;>rfl
omit F R in
theorem HA(r d b):Instr.sameNow d (.chan r) b=none/\Instr.sameNow d b (.chan r)=none:=by constructor<;>cases d<;>cases b<;>rfl
omit F R in
theorem LU(d a b):Instr.sameNow d (bB Z a) (bB Z b)=Instr.sameNow d a b:=by
 by_cases c:∃r,a=.chan r;.obtain⟨r,rfl⟩:=c;rw[cL,(Hz Z r d _).1,(HA r d b).1]
 by_cases e:∃r,b=.chan r;.obtain⟨r,rfl⟩:=e;rw[cL,(Hz Z r d _).2,(HA r d a).2]
 cases d<;>cases a<;>first|rfl|exact absurd ⟨_,rfl⟩ c|(cases b<;>first|exact absurd ⟨_,rfl⟩ e|simp[cN,cB,eG,bF,dC,cK,bQ,dW,Instr.sameNow])
omit F R in
theorem Cx(d k):∀es i,Instr.findNow d (bB Z k) (es.map (mK Z)) i=(Instr.findNow d k es i).map (TW Z)
 |[],_=>rfl
 |e::es,i=>by simp[Instr.findNow];have:Instr.sameNow d (bB Z k) (mK Z e).key=Instr.sameNow d k e.key:=LU d k e.key;rw[this];cases Instr.sameNow d k e.key with
   |none=>rfl
   |some b=>cases b with
     |true=>rfl
     |false=>exact Cx d k es (i+1)
theorem qF{n}(t)(c:u9 p n t=true)(k es):SR p p' Z (λa b=>b=TW Z a) (Instr.findKey t k es) (Instr.findKey t (bB Z k) (es.map (mK Z))):=by refine aK (aR F t) ?_;rintro _ u ⟨rfl,_⟩;rw[Cx];cases Instr.findNow u k es 0 with
 |none=>exact xZ F R t c k es 0
 |some r=>exact aN rfl
omit R in
theorem map_lt{t k e:TypeId}(a:t<p.types.size)(h:p.underlying t=some (.map k e)):k<p.types.size/\e<p.types.size:=by have:=EF F a h;simpa[AQ]using this
theorem TX{t:TypeId}(j:t<p.types.size)(d:zC p t=true)(x k ok):SR p p' Z (VR Z) (Instr.lookup t x k ok) (Instr.lookup t (bB Z x) (bB Z k) ok):=by refine aK (aR F t) ?_;rintro _ u ⟨rfl,c⟩;cases u with
 |map i e=>
   have h:=map_lt F j c;have g:∀es:Array MapEntry,(es.map (mK Z)).isEmpty=es.isEmpty:=λes=>by simp[Array.isEmpty]
   cases x with
   |map r=>cases r with
     |none=>simp only[dW];refine aK (Q:=λa b=>b=a.map (mK Z)) (aN S8) ?_;rintro es _ rfl;rw[g,rG];refine aK (lJ F _ _ 5 _ _ (jL d c)) ?_;intro _ _ _;refine aK (qF F R i (jL d c) k es.toList) ?_;rintro r _ rfl;cases r with
       |none=>refine aK (fW F h.2) ?_;rintro _ z ⟨rfl,f⟩;refine aK (Q:=λa b=>b=(bB Z a.1,a.2)) (aN (by rw[f])) ?_;rintro⟨v,b⟩ _ rfl;refine aN ?_;cases ok<;>simp[VR]
       |some r=>refine aK (Q:=λa b=>b=(bB Z a.1,a.2)) (aN rfl) ?_;rintro⟨v,b⟩ _ rfl;refine aN ?_;cases ok<;>simp[VR]
     |some r=>
       simp only[dW];refine aK gZ ?_;rintro o _ rfl;cases o<;>first|exact aM rfl|skip
       refine aK (Q:=λa b=>b=a.map (mK Z)) (aN rfl) ?_;rintro es _ rfl;rw[g,rG];refine aK (lJ F _ _ 5 _ _ (jL d c)) ?_;intro _ _ _;refine aK (qF F R i (jL d c) k es.toList) ?_;rintro r _ rfl;cases r with
       |none=>refine aK (fW F h.2) ?_;rintro _ z ⟨rfl,f⟩;refine aK (Q:=λa b=>b=(bB Z a.1,a.2)) (aN (by rw[f])) ?_;rintro⟨v,b⟩ _ rfl;refine aN ?_;cases ok<;>simp[VR]
       |some r=>refine aK (Q:=λa b=>b=(bB Z a.1,a.2)) (aN rfl) ?_;rintro⟨v,b⟩ _ rfl;refine aN ?_;cases ok<;>simp[VR]
   |_=>exact aM rfl
 |_=>exact aM rfl
omit F R in
theorem X9{f:Value->Value->Bool}(d:∀x y,f x y=true->x=y):∀(a b:List Value),a.length=b.length->((a.zip b).all λ(x,y)=>f x y)=true->a=b
 |[],[],_,_=>rfl
 |x::a,y::b,c,h=>by simp only[List.zip_cons_cons,jD,dJ]at h;rw[d x y h.1,X9 d a b (by simpa using c) h.2]
 |[],_::_,c,_=>by simp at c
 |_::_,[],c,_=>by simp at c
omit F R in
theorem LV{x y:ByteArray}(h:(x==y)=true):x=y:=by have⟨x⟩:=x;have⟨y⟩:=y;have h:(x==y)=true:=h;rw[eq_of_beq h]
omit F R in
omit F R in
theorem Cy:∀n a b,Instr.sameBits n a b=true->a=b:=by intro n;induction n with
 |zero=>intro a b h;cases a<;>cases b<;>first|(simp_all[Instr.sameBits];done)|exact congrArg Value.string (LV h)
 |succ n c=>intro a b h;cases a with
   |iface t v=>cases b with
     |iface u w=>simp only[Instr.sameBits,dJ,uQ]at h;rw[h.1,c v w h.2]
     |_=>simp[Instr.sameBits]at h
   |agg x=>cases b with
     |agg y=>simp only[Instr.sameBits,dJ,uQ]at h;have:=X9 (f:=Instr.sameBits n) (λx y e=>c x y e) x.toList y.toList (by simpa using h.1) h.2;rw[Array.toList_inj.1 this]
     |_=>simp[Instr.sameBits]at h
   |_=>cases b<;>first|(simp_all[Instr.sameBits];done)|exact congrArg Value.string (LV h)
omit F in
theorem Jp(j:G.strict=true):∀n a b,Instr.sameBits n (bB Z a) (bB Z b)=Instr.sameBits n a b:=by
 have g:∀a b:Option Addr,(a.map (cC Z)==b.map (cC Z))=(a==b):=λa b=>by cases a<;>cases b<;>first|rfl|exact addr_eq R _ _
 have d:∀a b:Option Nat,(a.map Z.f==b.map Z.f)=(a==b):=λa b=>by
  have hi:∀x y,(Z x==Z y)=(x==y):=λx y=>by
   by_cases h:x=y;.simp[h]
   .rw[beq_eq_false_iff_ne.mpr h,beq_eq_false_iff_ne.mpr (λe=>h (R.inj _ _ e))]
  cases a<;>cases b<;>first|rfl|exact hi _ _
 have c:∀r,oz Z r=.chan r:=λr=>by cases r with
  |none=>rfl
  |some k=>show Z.s k=_;rw[R.sub,(G.id j).1]
 intro n;induction n with
 |zero=>intro a b;cases a<;>cases b<;>simp only[cN,cB,eG,bF,dC,cK,bQ,dW,cL,dO,cR,cQ,cG,dB,dL,c,Instr.sameBits,g,d]
 |succ n i=>intro a b;cases a<;>cases b<;>simp only[cN,cB,eG,bF,dC,cK,bQ,dW,cL,dO,cR,cQ,cG,dB,dL,c,Instr.sameBits,g,d,i];rename_i x y;rw[G5,G5];congr 1;rw[rG,rG,List.zip_map,List.all_map];congr 1;funext ⟨u,v⟩;exact i u v
omit F in
theorem Df(c:G.strict=true)(a b):SR p p' Z (VR Z) (Instr.keyThatStays a b) (Instr.keyThatStays (bB Z a) (bB Z b)):=by unfold Instr.keyThatStays;rw[Jp R c];refine eN (aN rfl) ?_;refine aK iA ?_;rintro _ n rfl;refine aN ?_;split<;>rfl
theorem Jq(d:G.strict=true)(t)(a:zC p t=true)(m k v):SR p p' Z (λ_ _=>True) (Instr.mapUpdate t m k v) (Instr.mapUpdate t (bB Z m) (bB Z k) (bB Z v)):=by
 refine aK (aR F t) ?_;rintro _ u ⟨rfl,b⟩;cases u<;>first|exact aM rfl|skip
 rename_i g e;cases m<;>first|exact aM rfl|skip
 rename_i r;cases r with
 |none=>simp;exact bK F _
 |some r=>
   simp;refine aK gZ ?_;rintro o _ rfl;cases o<;>first|exact aM rfl|skip
   rename_i es c;refine aK (lJ F _ _ 5 _ _ (jL a b)) ?_;intro _ _ _;simp;refine aK (qF F R g (jL a b) k es.toList) ?_;rintro f _ rfl;cases f with
   |none=>have:=gI (p:=p) (p':=p') (Z:=Z) (r:=r) (o:=.map (es.push {key:=k,val:=v,born:=c}) (c+1)) rfl;simpa[dK,mK,TW]using this
   |some f=>
     have⟨i,x⟩:=f;refine aK (Q:=VR Z) ?_ ?_;.have:=Df (p:=p) (p':=p') R d (((es[i]?).map (·.key)).getD k) k;cases h:es[i]? with
      |none=>simpa[h]using this
      |some y=>simpa[h,mK]using this
     .rintro key _ rfl;have:=gI (p:=p) (p':=p') (Z:=Z) (r:=r) (o:=.map (es.modify i λe=>{e with key:=key,val:=v}) c) rfl;have h:dK Z (.map (es.modify i λe=>{e with key:=key,val:=v}) c)=.map ((es.map (mK Z)).modify i λe=>{e with key:=bB Z key,val:=bB Z v}) c:=by simp[dK];exact ER (mK Z) (λe=>{e with key:=key,val:=v}) (λe=>{e with key:=bB Z key,val:=bB Z v}) (λx=>rfl) es i
      rwa [h]at this
end
section
variable{G:Gs}{p p':Program}{Z:Pi}(F:Fit G p p')(R:Rn G Z)
include F R
theorem TY(b t args)(a:(b[0]?).all (zC p)=true):SR p p' Z (VR Z) (Builtin.delete_ b t args) (Builtin.delete_ b t (args.map (bB Z))):=by
 unfold Builtin.delete_;simp;cases g:b[0]?<;>first|exact aM rfl|skip
 rw[g]at a;cases args[0]?<;>first|exact aM rfl|skip
 cases args[1]?<;>first|exact aM rfl|skip
 rename_i t m k;refine aK (aR F t) ?_;rintro _ u ⟨rfl,d⟩;cases u<;>first|exact aM rfl|skip
 rename_i j e;cases m<;>first|exact aM rfl|skip
 rename_i r;cases r with
 |none=>simp;exact aK (lJ F _ _ 5 _ _ (jL a d)) (λ_ _ _=>aN (by simp[VR]))
 |some r=>
   simp;refine aK gZ ?_;rintro o _ rfl;cases o<;>first|exact aM rfl|skip
   rename_i es c;refine aK (Q:=λ_ _=>True) (by
    have:(es.map (mK Z)).isEmpty=es.isEmpty:=by simp[Array.isEmpty]
    rw[this];exact lJ F _ _ 5 _ _ (jL a d)) ?_
   intro _ _ _;simp;refine aK (qF F R j (jL a d) k es.toList) ?_;rintro f _ rfl;cases f with
   |none=>have:=gI (p:=p) (p':=p') (Z:=Z) (r:=r) (o:=.map es c) rfl;exact aK this (λ_ _ _=>aN (by simp[VR]))
   |some f=>
     have⟨i,x⟩:=f;have:=gI (p:=p) (p':=p') (Z:=Z) (r:=r) (o:=.map (es.eraseIdxIfInBounds i) c) rfl;have h:(es.eraseIdxIfInBounds i).map (mK Z)=(es.map (mK Z)).eraseIdxIfInBounds i:=by grind
     simp[dK,h]at this;exact aK this (λ_ _ _=>aN (by simp[VR]))
omit R in
theorem Ya(t x):SR p p' Z (VR Z) (Instr.range t x) (Instr.range t (bB Z x)):=by
 refine aK (aR F t) ?_;rintro _ u ⟨rfl,e⟩;have fin:∀o,cJ p o=true->SR p p' Z (VR Z) (newObj o>>=λr=>pure (.pointer (some ⟨r,0,none⟩))) (newObj (dK Z o)>>=λr=>pure (.pointer (some ⟨r,0,none⟩))):=λo d=>by refine aK (qj d) ?_;rintro r _ rfl;exact aN (by simp[VR])
 cases u with
 |string=>
   cases x<;>first|exact aM rfl|skip
   simp;exact fin (.stringIter _ 0) rfl
 |map a b=>
   cases x<;>first|exact aM rfl|skip
   rename_i r;cases r with
   |none=>simp;exact fin (.mapIter none 0 #[] 0) rfl
   |some r=>
     simp;refine aK gZ ?_;rintro o _ rfl;cases o<;>first|exact aM rfl|skip
     rename_i es c;exact fin (.mapIter (some r) c #[] c) rfl
 |_=>exact aM rfl
omit F R in
theorem vW(f:Nat->Bool)(es:Array MapEntry):(es.map (mK Z)).filter (λe=>f e.born)=(es.filter (λe=>f e.born)).map (mK Z):=by rw[Array.filter_map];rfl
omit F R in
theorem Yc(f:Nat->Bool)(es:Array MapEntry):(es.map (mK Z)).all (λe=>f e.born)=es.all (λe=>f e.born):=by rw[Array.all_map];rfl
omit F R in
theorem abr(i s t):SR p p' Z (VR Z) (Instr.next i s t) (Instr.next (bB Z i) s t):=by
 cases i<;>first|exact aM rfl|skip
 rename_i a;cases a with
 |none=>exact aM rfl
 |some a=>have⟨r,off,sp⟩:=a;cases off with
   |succ n=>exact aM rfl
   |zero=>simp;refine aK gZ ?_;rintro o _ rfl;cases o with
     |stringIter b pos=>cases s with
       |false=>exact aM rfl
       |true=>refine eN ?_ (aN (by simp[VR]));have:=gI (p:=p) (p':=p') (Z:=Z) (r:=r) (o:=.stringIter b (pos+(Utf8.decode b pos).2)) rfl;exact aK this (λ_ _ _=>aN (by simp[VR,goInt]))
     |mapIter m since seen last=>cases s with
       |true=>cases m<;>exact aM rfl
       |false=>cases m with
         |none=>exact aN (by simp[VR])
         |some m=>
           refine aK gZ ?_;rintro o _ rfl;cases o<;>first|exact aM rfl|skip
           rename_i es c;dsimp[dK];have f:=Yc (Z:=Z) (λn=>decide (n>=last)) es;have g:(es.map (mK Z)).isEmpty=es.isEmpty:=by simp[Array.isEmpty]
           rw[f,g];refine eN (aM rfl) ?_;have h:=vW (Z:=Z) (λn=>!seen.contains n) es;rw[h];have j:=vW (Z:=Z) (λn=>decide (n<since)) (es.filter λe=>!seen.contains e.born);have k:=vW (Z:=Z) (λn=>decide (n>=since)) (es.filter λe=>!seen.contains e.born);rw[j,k];generalize(es.filter λe=>!seen.contains e.born).filter (λe=>decide (e.born<since))=old,(es.filter λe=>!seen.contains e.born).filter (λe=>decide (e.born>=since))=new;have l:((if(old.map (mK Z)).isEmpty=true then#[none]else#[])++Array.map some (old.map (mK Z)++new.map (mK Z)))=((if old.isEmpty=true then#[none]else#[])++Array.map some (old++new)).map (Option.map (mK Z)):=by
            have:(old.map (mK Z)).isEmpty=old.isEmpty:=by simp[Array.isEmpty]
            rw[this];split<;>simp[QP]
           rw[l];generalize((if old.isEmpty=true then#[none]else#[])++Array.map some (old++new))=d;rw[G5];refine aK iA ?_;rintro _ n rfl;rw[kW];cases d[n]? with
           |none=>exact aM rfl
           |some e=>cases e with
             |none=>exact aN (by simp[VR])
             |some e=>have:=gI (p:=p) (p':=p') (Z:=Z) (r:=r) (o:=.mapIter (some m) since (seen.push e.born) c) rfl;exact aK this (λ_ _ _=>aN (by simp[VR,mK]))
     |_=>exact aM rfl
omit R in
theorem O6(t x):SR p p' Z (VR Z) (Instr.makeMap t x) (Instr.makeMap t (x.map (bB Z))):=by
 have fin:SR p p' Z (VR Z) (newObj (.map #[] 0)>>=λr=>pure (.map (some r))) (newObj (.map #[] 0)>>=λr=>pure (.map (some r))):=by refine aK (Q:=λr a=>a=Z r) (by have:=qj (p:=p) (p':=p') (Z:=Z) (o:=.map #[] 0) rfl;simpa[dK]using this) ?_;rintro r _ rfl;exact aN (by simp[VR])
 cases x with
 |none=>exact fin
 |some x=>
   refine aK (aR F t) ?_;rintro _ u ⟨rfl,b⟩;cases u<;>first|exact aM rfl|skip
   refine aK (vV x) ?_;rintro _ n rfl;exact fin
omit F R in
theorem A6(f:Value->Value->Sem Value)(h:∀a b,SR p p' Z (VR Z) (f a b) (f (bB Z a) (bB Z b))):∀(l:List Value) (a:Value),SR p p' Z (VR Z) (l.foldlM f a) ((l.map (bB Z)).foldlM f (bB Z a))
 |[],a=>by simp;exact aN rfl
 |b::l,a=>by refine aK (h a b) ?_;rintro v _ rfl;exact A6 f h l v
omit F R in
theorem abt(a b):SR p p' Z (VR Z) (Builtin.min2 a b) (Builtin.min2 (bB Z a) (bB Z b)):=by cases a with
 |int k x=>cases b with
   |int k' y=>simp;exact aN (by simp[VR])
   |pointer a=>cases a<;>exact aM rfl
   |_=>exact aM rfl
 |float k x=>cases b with
   |float k' y=>
     simp[Builtin.min2];split;.refine aK iA ?_;rintro _ n rfl;exact aN (by simp[VR])
     all_goals exact aN (by simp[VR])
   |pointer a=>cases a<;>exact aM rfl
   |_=>exact aM rfl
 |string x=>cases b with
   |string y=>simp;refine aK ((sf (Z:=Z) .leq x y).val) ?_;rintro v _ rfl;refine aK (AU v) ?_;rintro _ b rfl;exact aN (by simp[VR])
   |pointer a=>cases a<;>exact aM rfl
   |_=>exact aM rfl
 |pointer a=>cases a<;>cases b<;>first|exact aM rfl|(rename_i c;cases c<;>exact aM rfl)
 |_=>cases b<;>first|exact aM rfl|(rename_i c;cases c<;>exact aM rfl)
omit F R in
theorem abu(a b):SR p p' Z (VR Z) (Builtin.max2 a b) (Builtin.max2 (bB Z a) (bB Z b)):=by cases a with
 |int k x=>cases b with
   |int k' y=>simp;exact aN (by simp[VR])
   |pointer a=>cases a<;>exact aM rfl
   |_=>exact aM rfl
 |float k x=>cases b with
   |float k' y=>
     simp[Builtin.max2];split;.refine aK iA ?_;rintro _ n rfl;exact aN (by simp[VR])
     all_goals exact aN (by simp[VR])
   |pointer a=>cases a<;>exact aM rfl
   |_=>exact aM rfl
 |string x=>cases b with
   |string y=>simp;refine aK ((sf (Z:=Z) .geq x y).val) ?_;rintro v _ rfl;refine aK (AU v) ?_;rintro _ b rfl;exact aN (by simp[VR])
   |pointer a=>cases a<;>exact aM rfl
   |_=>exact aM rfl
 |pointer a=>cases a<;>cases b<;>first|exact aM rfl|(rename_i c;cases c<;>exact aM rfl)
 |_=>cases b<;>first|exact aM rfl|(rename_i c;cases c<;>exact aM rfl)
omit F R in
theorem aep(a t args):SR p p' Z (VR Z) (Builtin.min_ a t args) (Builtin.min_ a t (args.map (bB Z))):=by unfold Builtin.min_;rw[rG];cases args.toList with
 |nil=>exact aM rfl
 |cons x l=>exact A6 _ abt l x
omit F R in
theorem aeq(a t args):SR p p' Z (VR Z) (Builtin.max_ a t args) (Builtin.max_ a t (args.map (bB Z))):=by unfold Builtin.max_;rw[rG];cases args.toList with
 |nil=>exact aM rfl
 |cons x l=>exact A6 _ abu l x
end
section
variable{G:Gs}{p p':Program}{Z:Pi}(F:Fit G p p')(R:Rn G Z)
section
omit F R
theorem Yd(i):SR p p' Z (VR Z) (Instr.entry i) (Instr.entry (bB Z i)):=by
 cases i<;>first|exact aM rfl|skip
 rename_i a;cases a with
 |none=>exact aM rfl
 |some a=>have⟨r,off,sp⟩:=a;cases off with
   |succ n=>exact aM rfl
   |zero=>
     simp;refine aK gZ ?_;rintro o _ rfl;cases o<;>first|exact aM rfl|skip
     rename_i m since seen last;cases m with
     |none=>exact aM rfl
     |some m=>dsimp[dK];cases seen.back? with
       |none=>exact aM rfl
       |some b=>
         refine aK gZ ?_;rintro o _ rfl;cases o<;>first|exact aM rfl|skip
         rename_i es c;dsimp[dK];split;.exact aM rfl
         .have:(es.map (mK Z)).find? (λe=>e.born==b)=(es.find? (λe=>e.born==b)).map (mK Z):=by rw[Array.find?_map];rfl
          rw[this];cases es.find? (λe=>e.born==b)with
          |none=>exact aM rfl
          |some e=>exact aN (by simp[VR,mK])
theorem zM:∀n a acc,SR p p' Z (λx c=>c=x) (loadBytes a acc n) (loadBytes (cC Z a) acc n)
 |0,a,acc=>aN rfl
 |n+1,a,acc=>by refine aK Dy ?_;rintro v _ rfl;cases v with
   |int k b=>rw[cN];cases k with
     |u8=>have:=zM n (a.add 1) (acc.push b.toNat.toUInt8);exact this
     |_=>exact aM rfl
   |_=>exact aM rfl
end
include F
theorem GH(d):∀t u,sameLayout p' d t u=sameLayout p d t u:=by induction d with
 |zero=>intro t u;rfl
 |succ d a=>intro t u;simp[sameLayout,F.under,XZ F,nX F,a]
theorem Ye(fits:TypeId->Bool)(d):∀e c o n,rowAt p' fits d e c o n=rowAt p fits d e c o n:=by induction d with
 |zero=>intro e c o n;rfl
 |succ d a=>intro e c o n;simp[rowAt,F.under,F.cellsOf,nX F,a]
theorem TZ(d):∀e c o u n,liesAt p' d e c o u n=liesAt p d e c o u n:=by induction d with
 |zero=>intro e c o u n;rfl
 |succ d a=>intro e c o u n;simp[liesAt,F.under,F.depth,GH F,Ye F,a]
theorem ET(a u n):SR p p' Z (λx b=>b=x) (variablesAt a u n) (variablesAt (cC Z a) u n):=by refine iE ?_;refine aK nV ?_;rintro _ s rfl;cases s with
 |none=>exact aN rfl
 |some s=>obtain⟨e,c⟩:=s;exact aN (by simp[F.depth,F.cellsOf,TZ F])
theorem aer(a t args)(b:(a[0]?).all (okL p)=true):SR p p' Z (VR Z) (Builtin.cap_ a t args) (Builtin.cap_ a t (args.map (bB Z))):=by unfold Builtin.cap_;rw[kW];cases f:a[0]? with
 |none=>exact aM rfl
 |some t=>rw[f,QQ]at b;cases args[0]? with
   |none=>exact aM rfl
   |some x=>refine aK (aR F t) ?_;rintro _ d ⟨rfl,c⟩;cases d with
     |array n e=>exact aN (by simp[VR,goInt])
     |pointer e=>refine aK (aR F e) ?_;rintro _ d ⟨rfl,_⟩;cases d<;>first|exact aM rfl|exact aN (by simp[VR,goInt])
     |slice e=>cases x<;>first|exact aM rfl|(rw[bQ];exact aN (by simp[VR,goInt]))
     |chan k e=>simp[okL,c]at b
     |_=>exact aM rfl
theorem Yf(b t args)(h:∀s,b[0]?=some s->s<p.types.size):SR p p' Z (VR Z) (Builtin.clear_ b t args) (Builtin.clear_ b t (args.map (bB Z))):=by unfold Builtin.clear_;rw[kW];cases i:b[0]? with
 |none=>exact aM rfl
 |some t=>have g:=h t i;cases args[0]? with
   |none=>exact aM rfl
   |some x=>refine aK (aR F t) ?_;rintro _ d ⟨rfl,f⟩;have fin:SR p p' Z (VR Z) (Pure.pure (.tuple #[]):Sem Value) (Pure.pure (.tuple #[])):=aN (by simp[VR]);cases x with
     |map r=>cases r with
       |none=>rw[dW];cases d<;>exact fin
       |some r=>rw[dW,dY];cases d;all_goals
          refine aK gZ ?_;rintro o _ rfl;cases o<;>first|exact aM rfl|skip
          rename_i es c;have:=gI (p:=p) (p':=p') (Z:=Z) (r:=r) (o:=.map #[] c) rfl;exact aK (Q:=λ_ _=>True) (by simpa[dK]using this) (λ_ _ _=>fin)
     |slice a n c=>rw[bQ];cases a with
       |none=>cases d<;>exact fin
       |some a=>cases n with
         |zero=>cases d<;>exact fin
         |succ n=>cases d with
           |slice e=>
             refine aK (fW F (Dz F g f)) ?_;rintro _ z ⟨rfl,j⟩;have k:z.cells.map (bB Z)=z.cells:=by rw[<-mB,j]
             have:=px (p:=p) (p':=p') (Z:=Z) a (Builtin.zeroCells z.cells (n+1)).toList 0;rw[<-rG,py k]at this;exact aK this (λ_ _ _=>fin)
           |_=>exact aM rfl
     |_=>cases d<;>exact aM rfl
include R in
theorem Dg(c t args):SR p p' Z (VR Z) (Builtin.unsafeString_ c t args) (Builtin.unsafeString_ c t (args.map (bB Z))):=by
 have main:∀(a:Option Addr) (l:Value),SR p p' Z (VR Z) (Builtin.unsafeString_ c t #[.pointer a,l]) (Builtin.unsafeString_ c t #[.pointer (a.map (cC Z)),bB Z l]):=λa l=>by refine aK (Q:=λa b=>b=a) (vV l) ?_;rintro _ n rfl;cases c[0]? with
  |none=>exact aM rfl
  |some pt=>
    dsimp only;split;.exact gT F R _
    .split;.exact aM rfl
     .cases a with
      |none=>refine eN (aN (by simp[VR])) (bK F _)
      |some a=>refine eN (aN (by simp[VR])) ?_;refine aK (Hw F pt) ?_;rintro _ e rfl;refine aK (ET F a e _) ?_;rintro _ b rfl;refine eN ?_ (aM rfl);refine aK (zM _ a _) ?_;rintro _ s rfl;refine aK Hv ?_;intro _ _ _;exact aN (by simp[VR])
 have⟨l⟩:=args;match l with
 |[]=>exact aM rfl
 |[x]=>cases x<;>exact aM rfl
 |[.pointer a,y]=>have:=main a y;simpa using this
 |x::y::z::l=>cases x<;>exact aM rfl
 |[.bool _,_]|[.int ..,_]|[.float ..,_]|[.complex ..,_]|[.string _,_]|[.slice ..,_]|[.map _,_]|[.chan _,_]|[.func ..,_]|[.nilFunc,_]|[.iface ..,_]|[.nilIface,_]|[.agg _,_]|[.tuple _,_]=>exact aM rfl
end
def Yg(Z:Pi):Place->Place
 |.val v=>.val (bB Z v)
 |.var a=>.var (cC Z a)
section
variable{G:Gs}{p p':Program}{Z:Pi}(F:Fit G p p')(R:Rn G Z)
include F
theorem yt(t x):SR p p' Z (VR Z) (x.get t) ((Yg Z x).get t):=by cases x with
 |val v=>exact aN rfl
 |var a=>exact tY F t a
include R
theorem A7:∀l t x,SR p p' Z (λa b=>b=(a.1,Yg Z a.2)) (follow l t x) (follow l t (Yg Z x))
 |[],t,x=>aN rfl
 |s::l,t,x=>by
   have c:=A7 l;refine aK (aR F s.struct) ?_;rintro _ u ⟨rfl,-⟩;cases u<;>first|exact aM rfl|skip
   rename_i d;dsimp only;cases d[s.index]? with
   |none=>exact aM rfl
   |some f=>
     refine eN ?_ ?_;.refine aK (yt F t x) ?_;rintro v _ rfl;refine aK (AV F R v) ?_;rintro a _ rfl;refine aK (se F a f) ?_;rintro b _ rfl;exact c f.type (.var b)
     .cases x with
      |var a=>refine aK (se F a f) ?_;rintro b _ rfl;exact c f.type (.var b)
      |val v=>cases v with
        |agg cs=>simp[Yg];refine aK (kZ F f.type cs f.offset) ?_;rintro v _ rfl;exact c f.type (.val v)
        |_=>exact aM rfl
theorem O7(t v n):SR p p' Z (VR Z) (Builtin.ssaWrapNilChk_ #[t] t #[v,strVal "",strVal n]) (Builtin.ssaWrapNilChk_ #[t] t #[bB Z v,strVal "",strVal n]):=by cases v with
 |pointer a=>cases a with
   |some a=>rw[bF];exact aN (show Value.pointer (some (cC Z a))=bB Z (.pointer (some a))by simp)
   |none=>
     rw[bF];refine aK iA ?_;rintro _ n rfl;refine eN (gT F R _) ?_;refine aK (aR F t) ?_;rintro _ u ⟨rfl,-⟩;cases u<;>first|exact aM rfl|skip
     refine aK (fS F _) ?_;rintro _ i ⟨rfl,-⟩;have⟨desc,_,_,_,_,_,_,_,_,_⟩:=i;cases desc<;>first|exact aM rfl|skip
     dsimp only;split
     .split;.exact bK F _
      .exact aM rfl
     .exact aM rfl
 |_=>exact aM rfl
theorem x6(t x b n):SR p p' Z (VR Z) (receiverAt t x b n) (receiverAt t (Yg Z x) b n):=by
 refine aK (aR F t) ?_;rintro _ u ⟨rfl,_⟩;by_cases c:∃e,u=.pointer e;.obtain⟨e,rfl⟩:=c;cases b with
  |true=>cases x<;>exact yt F t _
  |false=>
    have tail:∀v,SR p p' Z (VR Z) (asAddr v>>=λa=>loadVar e a) (asAddr (bB Z v)>>=λa=>loadVar e a):=λv=>by refine aK (AV F R v) ?_;rintro a _ rfl;exact tY F e a
    cases n with
    |none=>
      cases x<;>
      .refine aK (yt F t _) ?_;rintro v _ rfl;exact aK (Q:=VR Z) (aN rfl) (by rintro v _ rfl;exact tail v)
    |some n=>
      cases x<;>
      .refine aK (yt F t _) ?_;rintro v _ rfl;refine aK (O7 F R t v n) ?_;rintro v _ rfl;exact tail v
 .cases b with
  |true=>cases x with
    |var a=>cases u<;>first|exact aN (by simp[VR])|exact absurd ⟨_,rfl⟩ c
    |val v=>cases u<;>first|exact aM rfl|exact absurd ⟨_,rfl⟩ c
  |false=>cases x<;>cases u<;>first|exact yt F t (.val _)|exact yt F t (.var _)|exact absurd ⟨_,rfl⟩ c
theorem EU(t v path b):SR p p' Z (VR Z) (receiverVia t v path b) (receiverVia t (bB Z v) path b):=by refine aK (A7 F R path.toList t (.val v)) ?_;rintro⟨t,x⟩ _ rfl;exact x6 F R t x b none
theorem HB:∀n t v s,SR p p' Z (λa b=>b=(a.1,bB Z a.2)) (method n t v s) (method n t (bB Z v) s)
 |0,_,_,_=>aM rfl
 |n+1,t,v,s=>by
   refine aK (fS F _) ?_;rintro _ i ⟨rfl,_⟩;dsimp only;split
   .rename_i m _;refine aK (A7 F R m.path.toList t (.val v)) ?_;rintro⟨t,x⟩ _ rfl;split;.refine aK (yt F t x) ?_;rintro v _ rfl;cases v with
     |iface c d=>simp;exact HB n c d s
     |nilIface=>simp;exact bK F _
     |_=>exact aM rfl
    .refine aK (x6 F R t x _ _) ?_;rintro v _ rfl;exact aN rfl
   .exact aM rfl
omit R in
theorem vX:∀l t x,SR p p' Z (λa b=>b=a.map λc=>(c.1,c.2.map (bB Z))) (followBlind l t x) (followBlind l t (x.map (bB Z)))
 |[],t,x=>aN rfl
 |s::l,t,x=>by
   have d:=vX l;refine aK (aR F s.struct) ?_;rintro _ u ⟨rfl,-⟩;cases u<;>first|exact aM rfl|skip
   rename_i e;dsimp only;cases e[s.index]? with
   |none=>exact aM rfl
   |some f=>cases s.deref with
     |true=>cases x with
       |none=>exact aN rfl
       |some v=>cases v with
         |pointer a=>cases a with
           |none=>simp;exact aN rfl
           |some a=>simp;exact d f.type none
         |_=>exact aM rfl
     |false=>cases x with
       |none=>exact d f.type none
       |some v=>cases v with
         |agg cs=>simp;refine aK (kZ F f.type cs f.offset) ?_;rintro v _ rfl;exact d f.type (some v)
         |_=>exact aM rfl
omit R in
theorem Cz:∀n t v s,SR p p' Z (λa b=>b=a) (nilAhead n t v s) (nilAhead n t (bB Z v) s)
 |0,_,_,_=>aN rfl
 |n+1,t,v,s=>by
   refine aK (fS F _) ?_;rintro _ i ⟨rfl,_⟩;split;.rename_i m _;refine aK (vX F m.path.toList t (some v)) ?_;rintro r _ rfl;cases r with
    |error r=>exact aN rfl
    |ok r=>have⟨t,x⟩:=r;simp[Except.map];cases m.func with
      |none=>cases x with
        |none=>exact aN rfl
        |some v=>cases v with
          |iface c d=>simp;exact Cz n c d s
          |nilIface=>simp;exact aN rfl
          |_=>exact aM rfl
      |some f=>have⟨f,b⟩:=f;cases b with
        |true=>exact aN rfl
        |false=>
          refine aK (aR F t) ?_;rintro _ u ⟨rfl,_⟩;cases u<;>first|exact aN rfl|skip
          cases x with
          |none=>exact aN rfl
          |some v=>cases v with
            |pointer a=>cases a<;>(simp;exact aN rfl)
            |chan r=>rw[dY,cL];obtain h|⟨_,h⟩|⟨_,_,_,h⟩|⟨_,h⟩|⟨_,h⟩|⟨_,_,_,h⟩:=fO Z r<;>rw[h]<;>exact aN rfl
            |_=>simp;exact aN rfl
   .exact aM rfl
end
def sw(Z:Pi):Next->Next
 |.value v=>.value (bB Z v)
 |.enter f a=>.enter f (a.map (bB Z))
 |.round l f t a b=>.round (Z l) f (t.map (bB Z)) a b
 |.defer d=>.defer (mI Z d)
 |n=>n
def okN(p:Program):Next->Bool
 |.value _|.skip|.enter ..|.recover=>true
 |.round _ f _ a b=>eU p a&&eU p b&&xu p f
 |.defer d=>okD p d
 |_=>false
abbrev NR(p:Program)(Z:Pi)(n n':Next):Prop:=n'=sw Z n/\okN p n=true
def jJ(G:Gs)(p p':Program):Prop:=∀Z,Rn G Z->∀f args,SR p p' Z (NR p Z) (callFunc f args) (callFunc f (args.map (bB Z)))
section
variable{G:Gs}{p p':Program}{Z:Pi}(F:Fit G p p')(R:Rn G Z)
section
omit F R
theorem o7(l):SR p p' Z (λa b=>b=TJ Z a/\eU p a.assign=true/\eU p a.body=true/\a.pending.all (eU p)=true/\xu p a.fn=true) (Instr.getLoop l) (Instr.getLoop (Z l)):=by
 refine aK yr ?_;rintro o _ ⟨rfl,h⟩;cases o<;>first|exact aM rfl|skip
 simp[cJ]at h;exact aN ⟨rfl,h.1.1.1,h.1.1.2,h.1.2,h.2⟩
theorem Jr(f t c){a b}(d:eU p a=true)(e:eU p b=true)(i:xu p f=true)(l):SR p p' Z (λx y=>y=(Z x.1,x.2.map (mI Z))/\x.2.all (okD p)=true) (Instr.enterLoop f t c a b l) (Instr.enterLoop f (t.map (bB Z)) c a b (l.map Z.f)):=by
 have tail:∀(r:Nat) (ds:List Deferred),ds.all (okD p)=true->SR p p' Z (λx y=>y=(Z x.1,x.2.map (mI Z))/\x.2.all (okD p)=true) (newObj (.loop {state:=.ready,pending:=none,fn:=f,tmps:=t,params:=c,assign:=a,body:=b,defers:=r})>>=λx=>pure (x,ds))
  (newObj (.loop {state:=.ready,pending:=none,fn:=f,tmps:=t.map (bB Z),params:=c,assign:=a,body:=b,defers:=Z r})>>=λx=>pure (x,ds.map (mI Z))):=λr ds g=>by
  refine aK (Q:=λx y=>y=Z x) ?_ ?_;.exact qj (o:=.loop {state:=.ready,pending:=none,fn:=f,tmps:=t,params:=c,assign:=a,body:=b,defers:=r}) (by simp[cJ,d,e,i])
  .rintro x _ rfl;exact aN ⟨rfl,g⟩
 cases l with
 |none=>refine aK (Q:=λx y=>y=Z x) (by have:=qj (p:=p) (p':=p') (Z:=Z) (o:=.deferred (some [])) rfl;simpa[dK]using this) ?_;rintro r _ rfl;refine aK (Q:=λx y=>y=(Z x.1,x.2.map (mI Z))/\x.2.all (okD p)=true) (aN ⟨by simp[mI,Da],rfl⟩) ?_;rintro⟨r,ds⟩ _ ⟨rfl,h⟩;exact tail r ds h
 |some l=>refine aK (o7 l) ?_;rintro r _ ⟨rfl,-⟩;refine aK (Q:=λx y=>y=(Z x.1,x.2.map (mI Z))/\x.2.all (okD p)=true) (aN ⟨rfl,rfl⟩) ?_;rintro⟨r,ds⟩ _ ⟨rfl,h⟩;exact tail r ds h
theorem Yh(l:List (Tmp×Value)):∀t:Array Value,(l.foldl (λt (i,a)=>t.setIfInBounds i a) t).map (bB Z)=(l.map λ(i,a)=>(i,bB Z a)).foldl (λt (i,a)=>t.setIfInBounds i a) (t.map (bB Z)):=by induction l with
 |nil=>intro t;rfl
 |cons x l b=>intro t;simp only[Ks,kV,b];rw[Km]
theorem Yi(l args):SR p p' Z (NR p Z) (Instr.yield l args) (Instr.yield (Z l) (args.map (bB Z))):=by
 refine aK (o7 l) ?_;rintro r _ ⟨rfl,b,c,e,d⟩;have a:(args.map (bB Z)).size≠(TJ Z r).params.size↔args.size≠r.params.size:=by simp[TJ]
 simp only[a];refine eN (aM rfl) ?_;refine aN ⟨?_,by simp[okN,b,c,d]⟩;simp only[sw,TJ,V7,za,sX];rw[<-V4,<-V4,Yh];congr 1;simp[List.zip_map_right]
theorem Yj{α β}{Q:α->β->Prop}(s):SR p p' Z Q (throw s) (throw s):=SR.halt rfl
theorem rP(l j)(d:j.all (eU p)=true):SR p p' Z (VR Z) (Instr.endRound l j) (Instr.endRound (Z l) j):=by refine aK (o7 l) ?_;rintro r _ ⟨rfl,a,b,e,c⟩;refine aK (Q:=λ_ _=>True) (gI (o:=.loop {r with state:=if j.isNone then .ready else .done,pending:=j}) (by simp[cJ,a,b,c,d])) ?_;intro _ _ _;exact aN (by simp[VR])
theorem Dh(l d)(h:okD p d=true):SR p p' Z (λ_ _=>True) (Instr.deferInRound l d) (Instr.deferInRound (Z l) (mI Z d)):=by
 refine aK (o7 l) ?_;rintro r _ ⟨rfl,-⟩;refine aK yr ?_;rintro o _ ⟨rfl,a⟩;cases o<;>first|exact aM rfl|skip
 rename_i ds;cases ds with
 |none=>exact Yj _
 |some ds=>simp only[cJ,QQ]at a;exact gI (o:=.deferred (some (d::ds))) (by simp[cJ,h,a])
theorem Di(b):SR p p' Z (λx y=>y=x.map (mI Z)/\x.all (okD p)=true) (Instr.takeDeferred b) (Instr.takeDeferred (Z b)):=by
 refine aK yr ?_;rintro o _ ⟨rfl,a⟩;cases o<;>first|exact aM rfl|skip
 rename_i ds;cases ds with
 |none=>exact aM rfl
 |some ds=>refine aK (Q:=λ_ _=>True) (gI (o:=.deferred none) rfl) ?_;intro _ _ _;exact aN ⟨rfl,a⟩
end
include F R
theorem GI(l):SR p p' Z (λ_ _=>True) (Instr.beginRound l) (Instr.beginRound (Z l)):=by refine aK (o7 l) ?_;rintro r _ ⟨rfl,a,b,d,c⟩;refine aK (Q:=λ_ _=>True) (gI (o:=.loop {r with state:=.busy}) (by simp[cJ,a,b,c,d])) ?_;intro _ _ _;have:(TJ Z r).state=r.state:=rfl;rw[this];cases r.state with
 |ready=>exact aN trivial
 |_=>exact bK F _
theorem O8(l):SR p p' Z (λx y=>y=x/\x.all (eU p)=true) (Instr.endLoop l) (Instr.endLoop (Z l)):=by refine aK (o7 l) ?_;rintro r _ ⟨rfl,b,c,a,d⟩;refine eN (gT F R _) ?_;refine aK (Q:=λ_ _=>True) (gI (o:=.loop {r with state:=.exhausted}) (by simp[cJ,b,c,d,a])) ?_;intro _ _ _;exact aN ⟨rfl,a⟩
theorem Pb{a b}(h:okB p a b=true)(t cs args):SR p p' Z (NR p Z) (builtin b a t cs args) (builtin b a t cs (args.map (bB Z))):=by
 have v:∀{s s':Sem Value},SR p p' Z (VR Z) s s'->SR p p' Z (NR p Z) (do pure (Next.value (<-s))) (do pure (Next.value (<-s'))):=λh=>by refine aK h ?_;rintro v _ rfl;exact aN ⟨rfl,rfl⟩
 cases b with
 |append=>exact v (TV F R a t args λs c=>by simpa[okB,c,OM]using h)
 |clear=>exact v (Yf F a t args λs c=>by simpa[okB,c,OM]using h)
 |cap=>exact v (aer F a t args h)
 |unsafeString=>exact v (Dg F R a t args)
 |copy=>exact v (abq F a t args)
 |delete=>exact v (TY F R a t args h)
 |len=>exact v (aeo F a t args h)
 |max=>exact v (aeq a t args)
 |min=>exact v (aep a t args)
 |panic=>
   refine v ?_;have:(args.map (bB Z)).getD 0 .nilIface=bB Z (args.getD 0 .nilIface):=by rw[G1,G1,kW];cases args[0]?<;>simp
   rw[this];exact LJ F R _
 |recover=>exact aN ⟨rfl,rfl⟩
 |_=>exact absurd h (by simp[okB])
variable(C:jJ G p p')
include C
theorem sx(v s args):SR p p' Z (NR p Z) (callMethod v s args) (callMethod (bB Z v) s (args.map (bB Z))):=by unfold callMethod;cases v with
 |iface t v=>simp;refine iE ?_;rw[F.types];refine aK (HB F R _ t v s) ?_;rintro⟨f,x⟩ _ rfl;have:=C Z R f (#[x]++args);simpa using this
 |nilIface=>simp;exact bK F _
 |_=>exact aM rfl
theorem A8{t args}(h:okD p {target:=t,args:=args}=true):SR p p' Z (NR p Z) (invoke t args) (invoke (Da Z t) (args.map (bB Z))):=by unfold invoke;cases t with
 |nil=>exact bK F _
 |builtin b d t cs=>exact Pb F R h t cs args
 |collected r=>exact aM rfl
 |coroexit c=>exact absurd h (by simp[okD])
 |fn f cap=>cases f with
   |func f=>have:=C Z R f (args++cap);simpa[Da,qs]using this
   |method n=>simp[Da,qs];cases a:args[0]? with
     |none=>exact aM rfl
     |some x=>have:=sx F R C x n (args.extract 1 args.size);simpa using this
   |methodOf t n=>simp;cases a:args[0]? with
     |none=>exact aM rfl
     |some x=>refine aK (aR F t) ?_;rintro _ u ⟨rfl,-⟩;cases u with
       |interface ms=>have:=sx F R C x n (args.extract 1 args.size);simpa using this
       |_=>have:=sx F R C (.iface t x) n (args.extract 1 args.size);simpa using this
   |via t path f b=>simp;cases a:args[0]? with
     |none=>exact aM rfl
     |some x=>refine aK (EU F R t x path b) ?_;rintro v _ rfl;have:=C Z R f (#[v]++args.extract 1 args.size);simpa using this
   |yield l=>exact Yi l args
omit C F R in
theorem EW{ρ r7}(b:∀x,rL p x=true->r7 x=bB Z (ρ x)){a:Array Operand}(h:a.all (rL p)=true):a.map r7=(a.map ρ).map (bB Z):=by grind
omit C F R in
theorem EX(v args):SR p p' Z (λd d'=>d'=mI Z d/\okD p d=true) (Deferred.ofValue v args) (Deferred.ofValue (bB Z v) (args.map (bB Z))):=by cases v with
 |func f a b=>rw[dO];exact aN ⟨by simp[mI,Da],rfl⟩
 |nilFunc=>rw[cR];exact aN ⟨by simp[mI,Da],rfl⟩
 |_=>exact aM rfl
omit C F R in
theorem yu{ρ r7}(g:∀x,rL p x=true->r7 x=bB Z (ρ x)){c}(h:OO p c=true)(t):SR p p' Z (λd d'=>d'=mI Z d/\okD p d=true) (resolve ρ c t) (resolve r7 c t):=by unfold resolve;simp only[OO,dJ]at h;have a:=EW g h.1;cases e:c.callee with
 |builtin b=>rw[e]at h;rw[a];exact aN ⟨rfl,h.2⟩
 |invoke r n=>rw[e]at h;dsimp only;rw[a,g r h.2];exact aN ⟨by simp[mI,Da,qs],rfl⟩
 |value f=>rw[e]at h;dsimp only;rw[a,g f h.2];exact EX _ _
omit C F R in
theorem DC{ρ r7}(b:∀x,rL p x=true->r7 x=bB Z (ρ x)){a:Option Operand}(h:a.all (rL p)=true):a.map r7=(a.map ρ).map (bB Z):=by cases a with
 |none=>rfl
 |some a=>simp;exact b a (by simpa using h)
omit C F R in
theorem HE{ρ r7:Operand->Value}(c:∀x,rL p x=true->r7 x=bB Z (ρ x)){a:Array (Nat×Operand)}(h:(a.all λ(_,x)=>rL p x)=true):(a.map λ(i,x)=>(i,r7 x))=(a.map λ(i,x)=>(i,ρ x)).map λ(i,x)=>(i,bB Z x):=by rw[Array.map_map];refine Array.map_congr_left λx b=>?_;obtain⟨i,hi,rfl⟩:=Array.mem_iff_getElem.mp b;simp at h;simp;rw[c _ (h i hi)]
def afO:Op->Bool
 |.mapUpdate ..=>true
 |_=>false
theorem T3{ρ r7}(e:∀x,rL p x=true->r7 x=bB Z (ρ x)){o}(h:TL p o.op=true)(q:afO o.op=true->G.strict=true)(A:ρ (.const .nilIface)=.nilIface)(B:∀x,rL p x=true->nw Z (ρ x)):SR p p' Z (NR p Z) (execOp ρ o) (execOp r7 o):=by
 have v:∀{s s':Sem Value},SR p p' Z (VR Z) s s'->SR p p' Z (NR p Z) (do pure (Next.value (<-s))) (do pure (Next.value (<-s'))):=λh=>by refine aK h ?_;rintro v _ rfl;exact aN ⟨rfl,rfl⟩
 have u:∀{s s':Sem Unit},SR p p' Z (λ_ _=>True) s s'->SR p p' Z (NR p Z) (do s;pure Next.skip) (do s';pure Next.skip):=λh=>by refine aK h ?_;intro _ _ _;exact aN ⟨rfl,rfl⟩
 unfold execOp;cases D:o.op<;>rw[D]at h q<;>simp only[TL,Bool.and_eq_true,Bool.false_eq_true]at h<;>dsimp only;case move x=>rw[e x h];exact aN ⟨rfl,rfl⟩
 case assign x=>rw[e x h];exact aN ⟨rfl,rfl⟩
 case pick a b c=>rw[e a h.1.1,e b h.1.2,e c h.2];refine aK (AU _) ?_;rintro _ t rfl;refine aN ⟨?_,rfl⟩;cases t<;>rfl
 case alloc t=>exact v (XR F (by simpa[OM]using h))
 case box t x=>rw[e x h];exact v (aem t _)
 case build t E=>rw[HE e h.2];exact v (X8 F (by simpa[OM]using h.1) _)
 case buildSlice t n E=>rw[HE e h.2];exact v (GG F (by simpa[OM]using h.1) _ _)
 case load t x=>rw[e x h];exact v (TR F t _)
 case store t a b=>rw[e a h.1,e b h.2];exact u (OV F t _ _)
 case nilCheck x=>rw[e x h];cases ρ x with
  |pointer a=>cases a with
    |none=>simp;exact bK F _
    |some a=>simp;exact aN ⟨by simp[sw],rfl⟩
  |nilIface=>simp;exact bK F _
  |nilFunc=>simp;exact bK F _
  |func f a b=>cases f with
    |method n=>simp only[dO,qs,kW];cases I:a[0]? with
      |none=>exact aN ⟨by simp[sw,qs],rfl⟩
      |some y=>simp only[dY];cases y with
        |nilIface=>simp;exact bK F _
        |iface t w=>simp only[cQ];refine iE ?_;rw[F.types];refine aK (Cz F _ t w n) ?_;rintro _ r rfl;refine eN (aM rfl) ?_;exact aN ⟨by simp[sw,qs],rfl⟩
        |chan r=>rw[cL];obtain h|⟨_,h⟩|⟨_,_,_,h⟩|⟨_,h⟩|⟨_,h⟩|⟨_,_,_,h⟩:=fO Z r<;>rw[h]<;>exact aN ⟨by simp[sw,qs],rfl⟩
        |_=>simp;exact aN ⟨by simp[sw,qs],rfl⟩
    |_=>simp;exact aN ⟨by simp[sw,qs],rfl⟩
  |chan r=>rw[cL];obtain h|⟨_,h⟩|⟨_,_,_,h⟩|⟨_,h⟩|⟨_,h⟩|⟨_,_,_,h⟩:=fO Z r<;>rw[h]<;>exact aN ⟨by simp[sw,h],rfl⟩
  |_=>simp only[eG,cN,dC,cK,cB,bQ,dW,cQ,dB,dL];exact aN ⟨by simp[sw],rfl⟩
 case binOp op t a b s=>
  rw[e a h.1.1,e b h.1.2];refine v ?_;refine aK (O0 F op t a b _ _) ?_;intro _ _ _;exact X4 F R op t _ _ h.2 λj=>by
   cases b<;>first|(cases j;done)|skip
   rename_i c;cases c<;>first|(cases j;done)|exact A
 case unOp op t x=>rw[e x h];exact v (XW op _)
 case convert s d x=>rw[e x h.2];exact v (O5 F s d _ h.1)
 case makeInterface t x=>rw[e x h];exact v (AY F t _)
 case makeFunc f a b=>rw[EW e h.1.2,EW e h.2];refine v ?_;refine aN ?_;simp only[VR,dO];cases f<;>first|rfl|exact absurd h.1.1 S8
 case makeMap t r=>rw[DC e h];exact v (O6 F t _)
 case makeSlice t a b=>rw[e a h.1.2,e b h.2];exact v (Jo F R (by simpa[OM]using h.1.1) _ _)
 case slice t x l hi m=>rw[e x h.1.1.1,DC e h.1.1.2,DC e h.1.2,DC e h.2];exact v (OX F R t _ (B x h.1.1.1) _ _ _)
 case fieldAddr t x i=>rw[e x h];exact v (OW F t _ i)
 case field t x i=>rw[e x h];exact v (X7 F t _ i)
 case indexAddr t a b=>rw[e a h.1,e b h.2];exact v (OY F R t _ _)
 case index t a b=>rw[e a h.1,e b h.2];exact v (XT F R t _ _)
 case lookup t a b k=>rw[e a h.1.1.2,e b h.1.2];exact v (TX F R (by simpa[OM]using h.1.1.1) h.2 _ _ k)
 case mapUpdate t a b c=>rw[e a h.1.1.1,e b h.1.1.2,e c h.1.2];exact u (Jq F R (q rfl) t h.2 _ _ _)
 case range t x=>rw[e x h];exact v (Ya F t _)
 case next x s=>rw[e x h];exact v (abr _ s _)
 case typeAssert x H z k=>rw[e x h.2];exact v (GC F R _ H (by simpa[OM]using h.1) k)
 case entry x=>rw[e x h];exact v (Yd _)
 case extract x i=>rw[e x h];exact v (OZ _ i)
 case call c=>refine aK (yu e h _) ?_;rintro⟨t,z⟩ _ ⟨rfl,g⟩;exact A8 F R C g
 case defer c=>refine aK (yu e h _) ?_;rintro d _ ⟨rfl,g⟩;exact aN ⟨rfl,g⟩
 case panic x=>rw[e x h];exact v (LJ F R _)
end
def mP(Z:Pi):Item->Item
 |.inRangeFunc l=>.inRangeFunc (Z l)
 |.endRangeFunc l=>.endRangeFunc (Z l)
 |.call d w r s=>.call (mI Z d) w r (s.map (bB Z))
 |.extern r a=>.extern r (a.map (bB Z))
 |i=>i
def CB(Z:Pi)(e:PanicEntry):PanicEntry:={e with v:=bB Z e.v}
def rH(Z:Pi):FrameMode->FrameMode
 |.panicking c=>.panicking (c.map (CB Z))
 |m=>m
def cS(Z:Pi)(fr:Frame):Frame:={fr with tmps:=fr.tmps.map (bB Z),todo:=fr.todo.map (mP Z),defers:=fr.defers.map (mI Z),mode:=rH Z fr.mode,roundOf:=fr.roundOf.map Z.f}
def CC(p:Program):Item->Bool
 |.code c|.inLoop c|.inScope c=>eU p c
 |.inRegion ops _=>ops.all λo=>TL p o.op
 |.call ..|.extern ..=>false
 |_=>true
def Lb:FrameMode->Bool
 |.panicking c=>c.all (!·.goexit)
 |_=>true
def nj(p:Program)(fr:Frame):Bool:=fr.todo.all (CC p)&&fr.defers.all (okD p)&&xu p fr.fn&&fr.kind !=.report&&fr.kind !=.early&&Lb fr.mode
def gU(fr:Frame):List Frame->Prop
 |[]=>fr.kind=.normal
 |c::cs=>gU c cs
def gU.kind{fr fr'}:∀{cs:List Frame},gU fr cs->fr'.kind=fr.kind->gU fr' cs
 |[],h,e=>e.trans h
 |_::_,h,_=>h
def LW:=@gU.kind
structure OkG(p:Program)(g:Goroutine):Prop where
 fr:nj p g.frame=true
 cs:g.callers.all (nj p)=true
 dy:g.dying=none
 of:g.offers=none
 st:g.status=.running
 bt:gU g.frame g.callers
section
variable{p:Program}{Z:Pi}
def eB{fr}:nj p fr=true↔fr.todo.all (CC p)=true/\fr.defers.all (okD p)=true/\xu p fr.fn=true/\fr.kind≠.report/\fr.kind≠.early/\Lb fr.mode=true:=by simp[nj,and_assoc]
def LX(fr x)(h:rL p x=true):(cS Z fr).eval x=bB Z (fr.eval x):=by cases x with
 |tmp t=>simp[Frame.eval,cS];cases fr.tmps[t]?<;>simp
 |const v=>exact(ED Z v h).symm
 |global g=>cases h
 |func f=>simp[Frame.eval,qs]
def nk(fr v):(cS Z fr).finish (bB Z v)=cS Z (fr.finish v):=by have⟨fn,tmps,todo,defers,mode,kind,ro⟩:=fr;cases todo with
 |nil=>rfl
 |cons i k=>cases i with
   |inRegion ops l=>cases l with
     |nil=>rfl
     |cons i l=>simp[Frame.finish,cS,mP];cases(ops[i]?).bind (·.dst)with
       |none=>rfl
       |some d=>simp[Km]
   |call d w r s=>simp[Frame.finish,cS,mP]
   |extern r a=>simp[Frame.finish,cS,mP]
   |_=>rfl
def o8{fr}(h:nj p fr=true)(v):nj p (fr.finish v)=true:=by rw[eB]at h|-;have⟨fn,tmps,todo,defers,mode,kind,ro⟩:=fr;cases todo with
 |nil=>exact h
 |cons i k=>cases i with
   |inRegion ops l=>cases l<;>exact h
   |call d w r s=>exact absurd h.1 (by simp[CC])
   |extern r a=>exact absurd h.1 (by simp[CC])
   |inRangeFunc l=>exact h
   |beginRound=>exact⟨(by have:=h.1;simp only[jD,dJ]at this;exact this.2),h.2⟩
   |_=>exact h
def wX(fr a):(cS Z fr).raise (a.map (CB Z))=cS Z (fr.raise a):=by have⟨fn,tmps,todo,defers,mode,kind,ro⟩:=fr;cases mode<;>simp[Frame.raise,cS,rH]
def zN{fr}(h:nj p fr=true)(i)(g:i.all (!·.goexit)=true):nj p (fr.raise i)=true:=by rw[eB]at h|-;have⟨fn,tmps,todo,defers,mode,kind,ro⟩:=fr;have⟨a,b,d,e,f,j⟩:=h;cases mode with
 |panicking c=>exact⟨a,b,d,e,f,by simp only[Frame.raise,Lb,V8,dJ];exact⟨g,j⟩⟩
 |_=>exact⟨a,b,d,e,f,g⟩
def lK(fr:Frame)(v):(fr.finish v).kind=fr.kind:=by have⟨fn,tmps,todo,defers,mode,kind,ro⟩:=fr;cases todo with
 |nil=>rfl
 |cons i k=>cases i with
   |inRegion ops l=>cases l<;>rfl
   |_=>rfl
def ub(fr:Frame)(a):(fr.raise a).kind=fr.kind:=by have⟨fn,tmps,todo,defers,mode,kind,ro⟩:=fr;cases mode<;>rfl
def uf(id):∀k,exitTo id (k.map (mP Z))=(exitTo id k).map (·.map (mP Z))
 |[]=>rfl
 |i::k=>by cases i<;>simp[mP,exitTo,uf id k];split<;>simp
def HF(id):∀k k',k.all (CC p)=true->exitTo id k=some k'->k'.all (CC p)=true
 |[],_,_,h=>by cases h
 |i::k,k',a,h=>by
   simp only[jD,dJ]at a;have b:=HF id k k' a.2;cases i<;>simp[exitTo]at h<;>first|exact b h|skip
   split at h;.simp_all
   .exact b h
def ug(l):∀k,gotoIn l (k.map (mP Z))=(gotoIn l k).map (·.map (mP Z))
 |[]=>rfl
 |i::k=>by cases i<;>simp[mP,gotoIn,ug l k];split<;>simp[mP]
def uh(l):∀c d,eU p c=true->findLabel c l=some d->eU p d=true
 |.seq a b,d,e,h=>by simp[eU]at e;simp[findLabel]at h;cases f:findLabel a l with
   |some r=>rw[f]at h;cases h;simp[eU];exact⟨uh l a r e.1 f,e.2⟩
   |none=>rw[f]at h;exact uh l b d e.2 h
 |.label n,d,_,h=>by
   simp only[findLabel]at h;split at h;.cases h;rfl
   .cases h
 |.skip,_,_,h|.region ..,_,_,h|.cond ..,_,_,h|.block ..,_,_,h|.loop ..,_,_,h|.rangeFunc ..,_,_,h|.exit ..,_,_,h|.scope ..,_,_,h|.goto ..,_,_,h|.ret,_,_,h|.refuse ..,_,_,h=>by simp[findLabel]at h
def HI(l):∀k k',k.all (CC p)=true->gotoIn l k=some k'->k'.all (CC p)=true
 |[],_,_,h=>by cases h
 |i::k,k',a,h=>by
   simp only[jD,dJ]at a;have b:=HI l k k' a.2;cases i<;>simp[gotoIn]at h<;>first|exact b h|skip
   split at h;.rename_i c r d;cases h;simp only[jD,dJ];exact⟨uh l _ _ a.1 d,a.1,a.2⟩
   .exact b h
def LY(ops t):yielded ops (t.map (bB Z))=yielded ops t:=by funext j;simp[yielded];cases(ops[j]?).bind (·.dst)with
 |none=>rfl
 |some d=>simp;cases t[d]? with
   |none=>rfl
   |some v=>cases v with
     |chan r=>rw[dY,cL];obtain h|⟨_,h⟩|⟨_,_,_,h⟩|⟨_,h⟩|⟨_,h⟩|⟨_,_,_,h⟩:=fO Z r<;>rw[h]
     |_=>simp
def sy(tl):∀cs fr,gU fr cs->tryRecover fr (cs++tl)=(tryRecover fr cs).map λx=>(x.1,x.2++tl)
 |[],fr,h=>by have⟨fn,tmps,todo,defers,mode,kind,ro⟩:=fr;subst h;cases tl<;>rfl
 |c::cs,fr,h=>by have a:=sy tl cs c h;have⟨fn,tmps,todo,defers,mode,kind,ro⟩:=fr;cases kind with
   |deferred=>simp[tryRecover];split<;>rfl
   |wrapped=>simp[tryRecover,a];cases tryRecover c cs<;>rfl
   |_=>rfl
def nZ:∀cs fr v a,gU fr cs->tryRecover fr cs=some (v,a)->gU fr a
 |[],fr,v,a,_,h=>by have⟨fn,tmps,todo,defers,mode,kind,ro⟩:=fr;cases kind<;>cases h
 |c::cs,fr,v,a,f,h=>by have j:=nZ cs c;have⟨fn,tmps,todo,defers,mode,kind,ro⟩:=fr;cases kind with
   |deferred=>have⟨i,n,o,g,l,k,m⟩:=c;cases l with
     |panicking b=>cases b with
       |nil=>cases h
       |cons e b=>have⟨v,r,x⟩:=e;cases r<;>cases x<;>simp[tryRecover]at h;obtain⟨_,rfl⟩:=h;exact LW (fr:={fn:=i,tmps:=n,todo:=o,defers:=g,mode:=.panicking ({v:=v,recovered:=false}::b),kind:=k,roundOf:=m}) (cs:=cs) f rfl
     |_=>cases h
   |wrapped=>simp only[tryRecover]at h;cases d:tryRecover c cs with
     |none=>rw[d]at h;cases h
     |some r=>have⟨p,r⟩:=r;rw[d]at h;cases h;exact j p r f d
   |_=>cases h
abbrev agR(Z:Pi)(x:Value×List Frame):Value×List Frame:=(bB Z x.1,x.2.map (cS Z))
def yw(Z):∀cs fr,gU fr cs->gU (cS Z fr) (cs.map (cS Z))
 |[],_,h=>h
 |c::cs,_,h=>yw Z cs c h
def vY:∀cs fr,tryRecover (cS Z fr) (cs.map (cS Z))=(tryRecover fr cs).map (agR Z)
 |[],fr=>by have⟨fn,tmps,todo,defers,mode,kind,ro⟩:=fr;cases kind<;>rfl
 |c::cs,fr=>by have b:=vY cs c;have⟨fn,tmps,todo,defers,mode,kind,ro⟩:=fr;cases kind with
   |deferred=>have⟨g,j,k,f,d,h,i⟩:=c;cases d with
     |panicking a=>cases a with
       |nil=>rfl
       |cons e a=>have⟨v,r,x⟩:=e;cases r<;>cases x<;>rfl
     |_=>rfl
   |wrapped=>simp[tryRecover,cS]at b|-;rw[b];cases tryRecover c cs<;>rfl
   |_=>rfl
def ui:∀cs fr v b,cs.all (nj p)=true->tryRecover fr cs=some (v,b)->b.all (nj p)=true
 |[],fr,v,b,_,h=>by have⟨fn,tmps,todo,defers,mode,kind,ro⟩:=fr;cases kind<;>cases h
 |c::cs,fr,v,b,a,h=>by have n:=ui cs c;simp only[jD,dJ]at a;have⟨fn,tmps,todo,defers,mode,kind,ro⟩:=fr;cases kind with
   |deferred=>have⟨t,y,z,s,o,u,w⟩:=c;cases o with
     |panicking f=>cases f with
       |nil=>cases h
       |cons e f=>have⟨v,r,x⟩:=e;cases r<;>cases x<;>simp[tryRecover]at h;obtain⟨_,rfl⟩:=h;simp only[jD,dJ];refine⟨?_,a.2⟩;have h0:=a.1;rw[eB]at h0|-;have⟨g,i,j,k,l,m⟩:=h0;exact⟨g,i,j,k,l,by simpa[Lb]using m⟩
     |_=>cases h
   |wrapped=>simp only[tryRecover]at h;cases d:tryRecover c cs with
     |none=>rw[d]at h;cases h
     |some r=>have⟨q,r⟩:=r;rw[d]at h;cases h;simp only[jD,dJ];exact⟨a.1,n q r a.2 d⟩
   |_=>cases h
end
def cA(p:Program)(f:FuncId)(args:Array Value)(k:CallKind)(cs:List Frame):Goroutine:={frame:=Frame.enter p f args k,callers:=cs,status:=.running,dying:=none}
structure BZ(X:FuncId->Prop)(p p':Program):Prop where
 sort:∀f:FuncId,(p'.funcs[f]?).map (λx:Func=>(x.results,x.norace))=(p.funcs[f]?).map (λx:Func=>(x.results,x.norace))
 same:∀f:FuncId,¬X f->∀args k,Frame.enter p' f args k=Frame.enter p f args k
 dry:∀todo,NoEnter p todo
 ok:∀f:FuncId,¬X f->(p.funcs[f]?).all (λfn:Func=>fn.body.all (eU p))=true/\xu p f=true
def oN(tl:List Frame)(Z:Pi)(g:Goroutine):Goroutine:={g with frame:=cS Z g.frame,callers:=g.callers.map (cS Z)++tl}
def EY(X:FuncId->Prop)(p p':Program)(tl:List Frame)(G:Gs)(U:Nat->Option Nat)(g1 g2:Goroutine):Prop:=(OkG p g1/\eQ G U λZ=>g2=oN tl Z g1)\/
 ∃f args k cs args' cs',X f/\(k=.normal\/k=.deferred)/\cs.all (nj p)=true/\gU (Frame.enter p f args k) cs/\g1=cA p f args k cs/\g2=cA p' f args' k cs'/\eQ G U λZ=>args'=args.map (bB Z)/\cs'=cs.map (cS Z)++tl
def GJ(n:Int):GStep->Prop
 |.go _ w _|.comm _ _ _ _ w _|.spawn _ _ w _|.count _ w _|.timer _ _ w _|.alone _ _ w _|.newcoro _ _ _ w _|.coroswitch _ _ _ w _|.collect _ w _|.watch _ w _|.ended _ w _=>n<w.drawn
def I1(L:KM)(s s':GStep):Prop:=GJ L.lim s/\GJ (L.lim+L.KN) s'
def bN{n s es}(h:GJ n s):GJ n (s.after es):=by cases s<;>exact h
def Cg(tl:List Frame)(v:Value)(w:World)(es:Array Event):GStep:=match tl with
 |[]=>.ended (.done v) w es
 |c::r=>.go {frame:=c.finish v,callers:=r,status:=.running,dying:=none} w es
def LZ(tl v w es a):(Cg tl v w a).after es=Cg tl v w (es++a):=by cases tl<;>rfl
def iI(X:FuncId->Prop)(p p':Program)(tl:List Frame)(L:KM)(G:Gs)(U:Nat->Option Nat)(W:World)(s s':GStep):Prop:=match s with
 |.go g1 w1 es=>I1 L s s'\/g1.dyingOn p\/∃g2 W1 ES rA,s'=.go g2 W1 ES/\Ext U rA/\eX G rA w1.heap.size W1.heap.size/\WE p L G rA w1 W1/\Fr U rA W W1/\EY X p p' tl G rA g1 g2/\r9 G rA es ES
 |.ended (.done v) w1 es=>I1 L s s'\/∃v' W1 ES rA,s'=Cg tl v' W1 ES/\Ext U rA/\eX G rA w1.heap.size W1.heap.size/\WE p L G rA w1 W1/\Fr U rA W W1/\(eQ G rA λZ=>v'=bB Z v)/\r9 G rA es ES
 |.ended _ _ _=>True
 |_=>I1 L s s'
section
variable{X:FuncId→Prop}{p p':Program}{tl:List Frame}{L:KM}{G:Gs}
def r9.nil(U:Nat->Option Nat):r9 G U #[] #[]:=⟨λZ _ _=>by simp,λe a=>absurd a S8⟩
def HJ:=@r9.nil
def r9.append{U a A b B}(h:r9 G U a A)(d:r9 G U b B):r9 G U (a++b) (A++B):=⟨λZ r c=>by show A++B=(a++b).map (AO Z);rw[h.all Z r c,d.all Z r c,V6],λe f=>(Array.mem_append.1 f).elim (h.quiet e) (d.quiet e)⟩
def r9.ext{U b a A}(h:r9 G U a A)(e:Ext U b):r9 G b a A:=⟨h.all.ext e,h.quiet⟩
def iI.after{U b W W1 s s' es ES}(h:iI X p p' tl L G b W1 s s')(e:Ext U b)(f:Fr U b W W1)(ev:r9 G b es ES):iI X p p' tl L G U W (s.after es) (s'.after ES):=by cases s with
 |go g w n=>
   obtain h|h|⟨q,W2,m,l,rfl,a,c,d,i,j,k⟩:=h;.exact .inl ⟨bN h.1,bN h.2⟩
   .exact .inr (.inl h)
   .exact .inr<|.inr ⟨q,W2,_,l,rfl,e.trans a,c,d,f.trans a i,j,(ev.ext a).append k⟩
 |ended o w n=>cases o with
   |done v=>
     obtain h|⟨r,W2,m,l,rfl,a,c,d,i,j,k⟩:=h;.exact .inl ⟨bN h.1,bN h.2⟩
     exact .inr ⟨r,W2,_,l,LZ _ _ _ _ _,e.trans a,c,d,f.trans a i,j,(ev.ext a).append k⟩
   |_=>trivial
 |_=>exact⟨bN h.1,bN h.2⟩
def tB:=@iI.after
def iI.goE{U w W g g'}(ok:eX G U w.heap.size W.heap.size)(wr:WE p L G U w W)(h:EY X p p' tl G U g g'):iI X p p' tl L G U W (.go g w) (.go g' W):=.inr<|.inr ⟨g',W,#[],U,rfl,nD _,ok,wr,He _ _,h,HJ U⟩
def CE:=@iI.goE
def iI.go{U w W g g'}(ok:eX G U w.heap.size W.heap.size)(wr:WR p L G U w W)(h:EY X p p' tl G U g g'):iI X p p' tl L G U W (.go g w) (.go g' W):=.inr<|.inr ⟨g',W,#[],U,rfl,nD _,ok,wr.we,He _ _,h,HJ U⟩
def ve:=@iI.go
def GK(Z l f):yo Z l=.mark (.extern f)↔l=.mark (.extern f):=by cases l<;>simp[yo];rename_i m;cases m<;>simp[Lu]
def Yl(K:BZ X p p')(Z fn es):seen p' fn (es.map (AO Z))=(seen p fn es).map (AO Z):=by
 have g:∀f:FuncId,(p'.funcs[f]?).any (λx:Func=>x.norace)=(p.funcs[f]?).any (λx:Func=>x.norace):=λf=>by have:=K.sort f;cases h:p'.funcs[f]?<;>cases c:p.funcs[f]?<;>rw[h,c]at this<;>simp_all
 simp only[seen,g];rw[Array.foldl_map];let R:Bool×Array Event->Bool×Array Event:=λx=>(x.1,x.2.map (AO Z));show _=(R (Array.foldl _ _ es)).2;have h0:((p.funcs[fn]?).any (λx:Func=>x.norace),(#[]:Array Event))=R ((p.funcs[fn]?).any (λx:Func=>x.norace),#[]):=by simp[R]
 refine congrArg Prod.snd (Eq.trans (congrArg (λz=>Array.foldl _ z es) h0) (Array.foldl_hom R ?_));rintro⟨q,kept⟩ e;by_cases a:∃f,e.loc=.mark (.extern f)
 .have⟨f,b⟩:=a;have d:(AO Z e).loc=.mark (.extern f):=by show yo Z e.loc=_;rw[b];rfl
  simp only[R,b,d]
 .have j:∀f,e.loc≠.mark (.extern f):=λf h=>a ⟨f,h⟩;have k:∀f,(AO Z e).loc≠.mark (.extern f):=λf h=>a ⟨f,(GK Z _ f).1 h⟩;have i:(AO Z e).sync=e.sync:=rfl;dsimp only[R];rw[i];split;.simp_all
  .cases l:(q&&!e.sync)<;>simp
def Ym(p fn es):∀e∈Go.seen p fn es,e∈es:=by
 unfold Go.seen;dsimp only;refine Array.foldl_induction (motive:=λ_ (x:Bool×Array Event)=>∀e∈x.2,e∈es) S8 ?_;rintro i ⟨q,kept⟩ b e a;split at a;.simp_all
 .grind
def r9.seen{U es ES}(K:BZ X p p')(h:r9 G U es ES)(fn):r9 G U (Go.seen p fn es) (Go.seen p' fn ES):=⟨λZ r c=>by show Go.seen p' fn ES=_;rw[h.all Z r c,Yl K],λe a=>h.quiet e (Ym p fn es e a)⟩
def qh(Z f args k):cS Z (Frame.enter p f args k)=Frame.enter p f (args.map (bB Z)) k:=by simp[Frame.enter,cS,mP,rH]
def s6(K:BZ X p p'){f}(h:¬X f)(args){k}(g:k=.normal\/k=.deferred):nj p (Frame.enter p f args k)=true:=by
 rw[eB];have⟨a,d⟩:=K.ok f h;refine⟨?_,rfl,d,?_⟩;.simp[Frame.enter];cases e:p.funcs[f]? with
  |none=>rfl
  |some fn=>rw[e]at a;simp at a;cases b:fn.body with
    |none=>simp[CC,eU,b]
    |some c=>rw[b]at a;simpa[CC,b]using a
 .obtain rfl|rfl:=g<;>simp[Frame.enter,Lb]
def EY.enter(K:BZ X p p'){U args a cs b}(f){k}(i:k=.normal\/k=.deferred)(h:cs.all (nj p)=true)(g:gU (Frame.enter p f args k) cs)(e:eQ G U λZ=>a=args.map (bB Z)/\b=cs.map (cS Z)++tl):EY X p p' tl G U (cA p f args k cs) (cA p' f a k b):=by
 by_cases d:X f;.exact .inr ⟨f,args,k,cs,a,b,d,i,h,g,rfl,rfl,e⟩
 .refine .inl ⟨⟨s6 K d args i,h,rfl,rfl,rfl,g⟩,λZ r c=>?_⟩;have⟨j,l⟩:=e Z r c;simp[cA,oN,qh,K.same f d,j,l]
end
section
variable{X:FuncId→Prop}{p p':Program}{tl:List Frame}{L:KM}{G:Gs}{U:Nat→Option Nat}{w W:World}
def VP{α β Q}{s:Sem α}{s':Sem β}(ok:eX G U w W)(wr:WR p L G U w W)(a:eQ G U λZ=>SR p p' Z (Q Z) s s'):Out p L G U W Q (s.runT p w #[]) (s'.runT p' W #[]):=rN s s' U w W #[] #[] ok wr (HJ U) a
def fX{n:Int}{p main fr cs dy v}(h:n<w.drawn):GJ n (doReturn p main fr cs dy v w):=by
 unfold doReturn;repeat' split
 all_goals first|exact h|trivial|(simp_all;done)
def all_cons{e c r}(ok:eX G U w W)(h:eQ G U λZ=>e=(c::r).map (cS Z)++tl):∃a b,e=a::b/\(eQ G U λZ=>a=cS Z c)/\eQ G U λZ=>b=r.map (cS Z)++tl:=by
 have⟨Z,i,g⟩:=ok.one;have h0:=h Z i g;refine⟨cS Z c,r.map (cS Z)++tl,by rw[h0];rfl,λf b a=>?_,λf b a=>?_⟩<;>
 .have d:=h f b a;rw[h0]at d;simp only[kV,D3,zb]at d;first|exact d.1|exact d.2
def pH{fr fr'}(ok:eX G U w W)(h:eQ G U λZ=>fr'=cS Z fr):fr'.fn=fr.fn/\fr'.kind=fr.kind:=by have⟨Z,b,a⟩:=ok.one;rw[h Z b a];exact⟨rfl,rfl⟩
def lift(F:Fit G p p'):p'.inits=p.inits/\p'.follows=p.follows:=by
 constructor;.exact F.inits
 .funext d;simp[Tables.follows,F.follow]
def Yn(Z)(b:List PanicEntry):(b.map (CB Z)).dropWhile (!·.goexit)=(b.dropWhile (!·.goexit)).map (CB Z):=by induction b with
 |nil=>rfl
 |cons a b c=>
   simp[List.dropWhile_cons];have:(CB Z a).goexit=a.goexit:=rfl;rw[this];cases a.goexit;.simp_all
   .simp
def mC(F:Fit G p p'){main main' fr fr' cs d v f}(ok:eX G U w W)(wr:WR p L G U w W)(J:nj p fr=true)(g:cs.all (nj p)=true)(i:gU fr cs)(H:eQ G U λZ=>fr'=cS Z fr)(n:eQ G U λZ=>d=cs.map (cS Z)++tl)(o:eQ G U λZ=>f=bB Z v)(K:cs=[]->main=true/\(tl=[]->main'=true)):iI X p p' tl L G U W (doReturn p main fr cs none v w) (doReturn p' main' fr' d none f W):=by
 have⟨O,k2⟩:=pH ok H;have k:=(eB.1 J).2.2;cases cs with
 |cons c r=>
   obtain⟨u,P,rfl,q,s⟩:=all_cons ok n;simp only[jD,dJ]at g;have fin:iI X p p' tl L G U W (.go {frame:=c.finish v,callers:=r,status:=.running,dying:=none} w) (.go {frame:=u.finish f,callers:=P,status:=.running,dying:=none} W):=ve ok wr (.inl ⟨⟨o8 g.1 v,g.2,rfl,rfl,rfl,LW (fr:=c) (cs:=r) i (lK c v)⟩,λZ b a=>by rw[o Z b a,q Z b a,s Z b a,nk];rfl⟩)
   simp[doReturn,k2];cases t:fr.kind with
   |normal=>exact fin
   |wrapped=>exact fin
   |early=>exact absurd t k.2.2.1
   |report=>exact absurd t k.2.1
   |deferred=>
     refine iI.go ok wr (.inl ⟨⟨?_,g.2,rfl,rfl,rfl,gU.kind (fr:=c) (cs:=r) i (by dsimp only;split<;>(try split)<;>rfl)⟩,λZ b a=>?_⟩)
     .have j:=g.1;rw[eB]at j|-;have⟨fn,tmps,todo,defers,mode,kind,ro⟩:=c;dsimp only;split
      .have⟨A,B,C,D,E,m⟩:=j;split;.trivial
       .refine⟨A,B,C,D,E,?_⟩;simp only[Lb,jD,dJ]at m|-;exact xE.2 λx N=>xE.1 m.2 x ((List.dropWhile_sublist _).subset N)
      .exact j
     .rw[q Z b a,s Z b a];have⟨fn,tmps,todo,defers,mode,kind,ro⟩:=c;cases mode with
      |panicking h=>cases h with
        |nil=>rfl
        |cons e h=>have⟨x,Q,R⟩:=e;cases Q with
          |false=>rfl
          |true=>have I:=Yn Z h;simp[cS,rH,kV,CB,I];cases h.dropWhile (!·.goexit)<;>rfl
      |_=>rfl
 |nil=>
   have:d=tl:=by obtain⟨Z,b,a⟩:=ok.one;rw[n Z b a];rfl
   subst this;have hi:p.inits.idxOf? fr.fn=none:=by simpa[xu]using k.1
   obtain⟨rfl,M⟩:=K rfl;have l:fr.kind=.normal:=i;have y:doReturn p true fr [] none v w=.ended (.done v) w:=by simp only[doReturn,hi,l];rfl
   have z:doReturn p' main' fr' d none f W=Cg d f W #[]:=by cases d with
    |nil=>obtain rfl:=M rfl;simp only[doReturn,O,k2,(lift F).1,hi,l,Cg];rfl
    |cons c r=>simp[doReturn,k2,l,Cg]
   rw[y,z];exact .inr ⟨f,W,#[],U,rfl,nD _,ok,wr.we,He _ _,o,HJ U⟩
end
section
variable{X:FuncId→Prop}{p p':Program}{tl:List Frame}{L:KM}{G:Gs}{U:Nat→Option Nat}{w W:World}
def yx{a v}(ok:eX G U w W)(h:eQ G U λZ=>a=Ji Z (.panic v)):∃d,a=.panic d/\eQ G U λZ=>d=bB Z v:=by have⟨Z,c,b⟩:=ok.one;refine⟨bB Z v,h Z c b,λg f e=>?_⟩;have:=h g f e;rw[h Z c b]at this;simpa[Ji]using this
def EY.of{g g'}(h:OkG p g)(a:eQ G U λZ=>g'=oN tl Z g):EY X p p' tl G U g g':=.inl ⟨h,a⟩
def iB{α β:Type}{f:Pi->α->β}{a b}(ok:eX G U w W)(h:eQ G U λZ=>b=f Z a):∃Z,b=f Z a:=by have⟨Z,d,c⟩:=ok.one;exact⟨Z,h Z d c⟩
def EZ{p}(fr m w){es s'}:iI X p p' tl L G U W ((endThrow fr m w).after es) s':=.inr (.inl ⟨.inl rfl,_,rfl,rfl,NoEnter.nil p⟩)
def L3{α p}(s:Sem α)(w):w.drawn<=(cV (s.run p w)).drawn:=by rw[<-DW p s w #[]];exact qA s w #[]
def A9{n:Int}{p fr cs dy m}(h:n<w.drawn):GJ n (endFatal p fr cs dy m w):=by unfold endFatal;dsimp only;split;all_goals rename_i heq;have:=bI (L3 (p:=p) _ w) (nL (congrArg (λx=>(cV x).drawn) heq));exact D4 h (G6.2 this)
def T4{n:Int}{p fr cs dy g}(h:n<w.drawn):GJ n (early p fr cs dy g w):=by
 have a:∀r,(choose (.early g)).run p w=r->n<(cV r).drawn:=λr b=>b▸D4 h (G6.2 (L3 _ w));unfold early;dsimp only;repeat' split
 all_goals first|exact h|(rename_i heq;exact a _ heq)|(rename_i heq _ _ _ _;exact a _ heq)|(rename_i heq _;exact a _ heq)|(rename_i heq _ _;exact a _ heq)|(rename_i heq _ _ _;exact a _ heq)
def Ba{n:Int}{p fr cs dy s}(a:n<(cV (s.runT p w #[]).1).drawn):GJ n (stepG.apply p true fr cs dy s w):=by unfold stepG.apply;generalize s.runT p w #[]=r at a|-;have⟨r,es⟩:=r;refine bN ?_;cases r with
 |ok n w1=>cases n<;>(try dsimp only)<;>(repeat' split)<;>first|exact a|trivial
 |halt x w1=>
   cases x<;>first|exact a|exact A9 a|skip
   rename_i u;cases u<;>first|exact a|exact T4 a
def E0{n:Int}{p fr cs dy s}(h:n<w.drawn):GJ n (stepG.apply p true fr cs dy s w):=Ba (D4 h (G6.2 (qA s w #[])))
def iI.bind{s s'}(h:I1 L s s'\/(iI X p p' tl L G U W s s')):iI X p p' tl L G U W s s':=by
 obtain h|h:=h;.cases s with
  |go g w es=>exact .inl h
  |ended o w es=>cases o<;>first|exact .inl h|trivial
  |_=>exact h
 .exact h
def vZ:=@iI.bind
def E1(F:Fit G p p')(K:BZ X p p'){main:Bool}{fr fr' cs J s s'}(ok:eX G U w W)(A:nj p fr=true)(H:cs.all (nj p)=true)(D:gU fr cs)(Q:eQ G U λZ=>fr'=cS Z fr)(aa:eQ G U λZ=>J=cs.map (cS Z)++tl)(R:oC p L G U W (NR p) (s.runT p w #[]) (s'.runT p' W #[])):iI X p p' tl L G U W (stepG.apply p true fr cs none s w) (stepG.apply p' true fr' J none s' W):=by
 by_cases O:vA L (cV (s.runT p w #[]).1) (cV (s'.runT p' W #[]).1);.exact vZ (.inl ⟨Ba O.1,Ba O.2⟩)
 have⟨a5,k2⟩:=pH ok Q;have V:=(eB.1 A);have a0:(fr.kind==.early)=false:=by simpa using V.2.2.2.2.1
 unfold stepG.apply;simp only[vG,a5,k2,a0,vH,ze];generalize s.runT p w #[]=r,s'.runT p' W #[]=a8 at R O|-;have⟨r,es⟩:=r;cases r with
 |ok n w1=>
   obtain ab|⟨a6,W1,ES,z,rfl,e,y,I,T,N⟩:=R;.trivial
   have μ:=N.1;have B:eQ G z λZ=>a6=sw Z n:=λZ r c=>(N.2 Z r c).1;have M:okN p n=true:=by obtain⟨Z,r,c⟩:=y.one;exact(N.2 Z r c).2
   have C:=Q.ext e;have E:=aa.ext e;refine tB ?_ e T (μ.seen K fr.fn);cases n with
   |value v=>obtain⟨Z,rfl⟩:=iB y B;refine CE y I (.of ⟨o8 A v,H,rfl,rfl,rfl,D.kind (lK fr v)⟩ λg q j=>?_);have:=B g q j;simp only[sw,Next.value.injEq]at this;rw[this,C g q j,E g q j,nk];rfl
   |skip=>obtain⟨Z,rfl⟩:=iB y B;refine CE y I (.of ⟨o8 A undef,H,rfl,rfl,rfl,D.kind (lK fr undef)⟩ λg q j=>?_);have:=nk (Z:=g) fr undef;rw[AP]at this;rw[C g q j,E g q j,this];rfl
   |enter f args=>
     obtain⟨Z,rfl⟩:=iB y B;have a2:∀g,Rn G g->Cp z g->args.map (bB Z)=args.map (bB g):=λg q j=>by have:=B g q j;simpa[sw]using this
     have go:∀kd ao:CallKind,kd=.normal->ao=.normal->iI X p p' tl L G z W1 (.go {frame:=Frame.enter p f args kd,callers:=fr::cs,status:=.running,dying:=none} w1) (.go {frame:=Frame.enter p' f (args.map (bB Z)) ao,callers:=fr'::J,status:=.running,dying:=none} W1):=by rintro _ _ rfl rfl;exact CE y I (EY.enter K f (.inl rfl) (by simp only[jD,dJ];exact⟨A,H⟩) D λg q j=>⟨a2 g q j,by rw[C g q j,E g q j];rfl⟩)
     refine go _ _ ?_ ?_
     .have:=V.1;split;.rename_i h;rw[h]at this;simp[CC]at this
      .rfl
     .have:=V.1;have⟨Z,q,j⟩:=ok.one;rw[Q Z q j];simp only[cS];cases a3:fr.todo with
      |nil=>rfl
      |cons i k=>rw[a3]at this;cases i<;>first|rfl|simp[CC]at this
   |round l f t a b=>
     obtain⟨Z,rfl⟩:=iB y B;simp only[okN,dJ]at M;refine CE y I (.of ⟨?_,by simp only[jD,dJ];exact⟨A,H⟩,rfl,rfl,rfl,D⟩ λg q j=>?_);.rw[eB];refine⟨?_,rfl,M.2,by simp[Frame.round],by simp[Frame.round],rfl⟩;simp[Frame.round,CC,M.1.1,M.1.2]
     .have:=B g q j;simp only[sw,V7,za,sX]at this;rw[C g q j,E g q j,this.1,this.2];rfl
   |defer d=>obtain⟨Z,rfl⟩:=iB y B;refine CE y I (.of ⟨o8 (by rw[eB]at A|-;exact⟨A.1,by simp only[jD,dJ];exact⟨M,A.2.1⟩,A.2.2⟩) undef,H,rfl,rfl,rfl,D.kind (lK _ undef)⟩ λg q j=>?_);have af:=B g q j;simp only[sw,Next.defer.injEq]at af;have:=nk (Z:=g) {fr with defers:=d::fr.defers} undef;rw[AP]at this;rw[C g q j,E g q j,af];simp only[oN];rw[<-this];rfl
   |recover=>
     obtain⟨Z,rfl⟩:=iB y B;have fin:∀(o o':Option (Value×List Frame)),(∀v c,o=some (v,c)->c.all (nj p)=true/\gU fr c)->(eQ G z λZ=>o'=o.map λx=>(bB Z x.1,x.2.map (cS Z)++tl))->iI X p p' tl L G z W1 (match o with|some (v,callers)=>GStep.go {frame:=fr.finish v,callers,status:=.running,dying:=none} w1|none=>.go {frame:=fr.finish .nilIface,callers:=cs,status:=.running,dying:=none} w1) (match o' with|some (v,callers)=>GStep.go {frame:=fr'.finish v,callers,status:=.running,dying:=none} W1|none=>.go {frame:=fr'.finish .nilIface,callers:=J,status:=.running,dying:=none} W1):=λo o' ag ah=>by
      obtain⟨Z,rfl⟩:=iB y ah;cases o with
      |none=>refine CE y I (.of ⟨o8 A _,H,rfl,rfl,rfl,D.kind (lK fr _)⟩ λg q j=>?_);have:=nk (Z:=g) fr .nilIface;rw[cG]at this;rw[C g q j,E g q j,this];rfl
      |some x=>have⟨v,c⟩:=x;refine CE y I (.of ⟨o8 A v,(ag v c rfl).1,rfl,rfl,rfl,(ag v c rfl).2.kind (lK fr v)⟩ λg q j=>?_);have:=ah g q j;simp only[dY,gW,Kt]at this;rw[this.1,this.2,C g q j,nk];rfl
     have⟨π,ak,ae⟩:=y.one;have aj:eQ G z λZ=>fr'.roundOf=fr.roundOf.map Z.f:=λg q j=>by rw[C g q j];rfl
     have ay:p'.follows .rangeFuncRecover=p.follows .rangeFuncRecover:=by rw[(lift F).2]
     have ai:eQ G z λZ=>tryRecover fr' J=(tryRecover fr cs).map λx=>(bB Z x.1,x.2.map (cS Z)++tl):=λg q j=>by rw[C g q j,E g q j,sy tl _ _ (yw g cs fr D),vY,Option.map_map];rfl
     cases P:fr.roundOf with
     |none=>
       have Y:fr'.roundOf=none:=by rw[aj π ak ae,P];rfl
       simp only[sw,Y];exact fin _ _ (λv c h=>⟨ui cs fr v c H h,nZ cs fr v c D h⟩) ai
     |some l=>
       have Y:fr'.roundOf=some (π l):=by rw[aj π ak ae,P];rfl
       simp only[sw,Y,ay,F.fol,vG];exact fin _ _ (λv c h=>⟨ui cs fr v c H h,nZ cs fr v c D h⟩) ai
   |_=>exact absurd M (by simp[okN])
 |halt h w1=>
   obtain ab|P|⟨az,ar,W1,ES,z,rfl,e,y,I,T,N⟩:=R;.exact absurd ab O
   .cases h<;>first|(cases P;done)|skip
    .rename_i u;cases u<;>first|(cases P;done)|trivial
    .trivial
   .have μ:=N.1;have B:eQ G z λZ=>ar=Ji Z h:=λZ r c=>(N.2 Z r c);have C:=Q.ext e;have E:=aa.ext e;have a7:∀(c S:List PanicEntry),c.all (!·.goexit)=true->(eQ G z λZ=>S=c.map (CB Z))->iI X p p' tl L G z W1 (.go {frame:=fr.raise c,callers:=cs,status:=.running,dying:=none} w1) (.go {frame:=fr'.raise S,callers:=J,status:=.running,dying:=none} W1):=λc S av au=>CE y I (.of ⟨zN A c av,H,rfl,rfl,rfl,D.kind (ub fr c)⟩ λg q j=>by rw[au g q j,C g q j,E g q j,wX];rfl)
    cases h with
    |panic v=>obtain⟨a9,rfl,a4⟩:=yx y B;refine tB ?_ e T (μ.seen K fr.fn);exact a7 _ _ rfl λg q j=>by rw[a4 g q j];rfl
    |throw m=>exact EZ fr m w1
    |_=>cases az
def wY(F:Fit G p p')(K:BZ X p p'){main:Bool}{fr fr' cs a s s'}(ok:eX G U w W)(wr:WR p L G U w W)(f:nj p fr=true)(e:cs.all (nj p)=true)(d:gU fr cs)(b:eQ G U λZ=>fr'=cS Z fr)(c:eQ G U λZ=>a=cs.map (cS Z)++tl)(g:eQ G U λZ=>SR p p' Z (NR p Z) s s'):iI X p p' tl L G U W (stepG.apply p true fr cs none s w) (stepG.apply p' true fr' a none s' W):=by
 exact E1 (main:=main) F K ok f e d b c (VP ok wr g).we
end
section
variable{X:FuncId→Prop}{p p':Program}{tl:List Frame}{L:KM}{G:Gs}{U:Nat→Option Nat}{w W:World}
def iI.unless{c}[Decidable c]{u x w es t s'}(h:¬c->iI X p p' tl L G U W t s'):iI X p p' tl L G U W (if c then .ended (.unsupported u x) w es else t) s':=by
 by_cases a:c;.rw[bD a];trivial
 .simp_all
def iI.abv{c}[Decidable c]{s y a}(h:¬c)(k:iI X p p' tl L G U W s a):iI X p p' tl L G U W s (if c then y else a):=by rwa [aT h]
def adz:=@iI.abv
def Js(F:Fit G p p')(C:jJ G p p')(K:BZ X p p'){fr fr' cs q d d'}(ok:eX G U w W)(wr:WR p L G U w W)(E:nj p fr=true)(y:cs.all (nj p)=true)(u:gU fr cs)(ai:okD p d=true)(O:eQ G U λZ=>fr'=cS Z fr)(aa:eQ G U λZ=>q=cs.map (cS Z)++tl)(R:eQ G U λZ=>d'=mI Z d):iI X p p' tl L G U W (callDeferred p fr cs none d w) (callDeferred p' fr' q none d' W):=by
 have au:eQ G U λZ=>SR p p' Z (NR p Z) (invoke d.target d.args) (invoke d'.target d'.args):=λZ g i=>by rw[R Z g i];exact A8 F g C ai
 have P:=VP ok wr au;have⟨ay,k2⟩:=pH ok O;have a4:=(eB.1 E);unfold callDeferred;refine iI.unless λar=>adz ?_ ?_;.intro h;apply ar;revert h;have⟨Z,g,i⟩:=ok.one;rw[R Z g i,O Z g i];simp only[mI,cS];cases d.target<;>cases fr.mode<;>simp[Da,rH]
 .
  have ab:∀{o:Nat->Option Nat} {es ES:Array Event},r9 G o es ES->r9 G o (Go.seen p fr.fn es) (Go.seen p' fr'.fn ES):=λh=>by rw[ay];exact h.seen K fr.fn
  by_cases H:vA L (cV ((invoke d.target d.args).runT p w #[]).1) (cV ((invoke d'.target d'.args).runT p' W #[]).1)
  .have⟨f1,f2⟩:=H;refine vZ (.inl ⟨?_,?_⟩);.generalize(invoke d.target d.args).runT p w #[]=r at f1|-;have⟨r,es⟩:=r;refine bN ?_;cases r with
    |ok n w1=>cases n<;>(try dsimp only)<;>(repeat' split)<;>first|exact f1|trivial|(cases‹Result.ok _ _=Result.ok _ _›<;>first|exact f1|trivial)
    |halt h w1=>cases h<;>first|exact f1|exact A9 f1
   .generalize(invoke d'.target d'.args).runT p' W #[]=r at f2|-;have⟨r,es⟩:=r;refine bN ?_;cases r with
    |ok n w1=>cases n<;>(try dsimp only)<;>(repeat' split)<;>first|exact f2|trivial|(cases‹Result.ok _ _=Result.ok _ _›<;>first|exact f2|trivial)
    |halt h w1=>cases h<;>first|exact f2|exact A9 f2
  generalize(invoke d.target d.args).runT p w #[]=r,(invoke d'.target d'.args).runT p' W #[]=a6 at P H|-;have⟨r,es⟩:=r;cases r with
  |ok n w1=>
    obtain S|⟨az,W1,ES,o,rfl,e,k,M,Q,D⟩:=P;.exact absurd S H
    have V:=D.1;have z:eQ G o λZ=>az=sw Z n:=λZ r c=>(D.2 Z r c).1;have I:okN p n=true:=by obtain⟨Z,r,c⟩:=k.one;exact(D.2 Z r c).2
    have B:=O.ext e;have s:=aa.ext e;have stay:∀(c A:List Frame),c.all (nj p)=true->gU fr c->(eQ G o λZ=>A=c.map (cS Z)++tl)->iI X p p' tl L G o W1 (.go {frame:=fr,callers:=c,status:=.running,dying:=none} w1) (.go {frame:=fr',callers:=A,status:=.running,dying:=none} W1):=λc A ag af T=>ve k M (.of ⟨E,ag,rfl,rfl,rfl,af⟩ λj g i=>by rw[B j g i,T j g i];rfl)
    refine tB ?_ e Q (ab V);cases n with
    |value v=>obtain⟨Z,rfl⟩:=iB k z;exact stay cs q y u s
    |skip=>obtain⟨Z,rfl⟩:=iB k z;exact stay cs q y u s
    |defer d=>obtain⟨Z,rfl⟩:=iB k z;exact stay cs q y u s
    |enter f args=>obtain⟨Z,rfl⟩:=iB k z;exact ve k M (EY.enter K f (.inr rfl) (by simp only[jD,dJ];exact⟨E,y⟩) u λj g i=>⟨by have:=z j g i;simpa[sw]using this,by rw[B j g i,s j g i];rfl⟩)
    |round l f t a b=>
      obtain⟨Z,rfl⟩:=iB k z;simp only[okN,dJ]at I;refine ve k M (.of ⟨?_,by simp only[jD,dJ];exact⟨E,y⟩,rfl,rfl,rfl,u⟩ λj g i=>?_);.rw[eB];refine⟨?_,rfl,I.2,by simp[Frame.round],by simp[Frame.round],rfl⟩;simp[Frame.round,CC,I.1.1,I.1.2]
      .have:=z j g i;simp only[sw,V7,za,sX]at this;rw[B j g i,s j g i,this.1,this.2];rfl
    |recover=>
      obtain⟨Z,rfl⟩:=iB k z;have Y:eQ G o λZ=>tryRecover fr' q=(tryRecover fr cs).map λx=>(bB Z x.1,x.2.map (cS Z)++tl):=λj g i=>by rw[B j g i,s j g i,sy tl _ _ (yw j cs fr u),vY,Option.map_map];rfl
      have ao:eQ G o λZ=>fr'.mode=rH Z fr.mode:=λj g i=>by rw[B j g i];rfl
      have⟨N,π,μ⟩:=k.one;dsimp only[sw];rw[ao N π μ];cases a5:fr.mode with
      |returning=>cases J:tryRecover fr cs with
        |none=>
          have:tryRecover fr' q=none:=by rw[Y N π μ,J];rfl
          rw[this];exact stay cs q y u s
        |some x=>
          have⟨v,c⟩:=x;have h0:tryRecover fr' q=some (bB N v,c.map (cS N)++tl):=by rw[Y N π μ,J];rfl
          rw[h0];refine stay c _ (ui cs fr v c y J) (nZ cs fr v c u J) λj g i=>?_;have:=Y j g i;rw[h0,J]at this;simp only[dY,gW,Kt]at this;exact this.2
      |run=>exact stay cs q y u s
      |panicking a2=>exact stay cs q y u s
    |_=>exact absurd I (by simp[okN])
  |halt h w1=>
    obtain S|ak|⟨aj,ae,W1,ES,o,rfl,e,k,M,Q,D⟩:=P;.exact absurd S H
    .cases h<;>first|(cases ak;done)|trivial
    .have V:=D.1;have z:eQ G o λZ=>ae=Ji Z h:=λZ r c=>(D.2 Z r c);have B:=O.ext e;have s:=aa.ext e;have a3:=R.ext e;have a0:∀(c A:List PanicEntry),c.all (!·.goexit)=true->(eQ G o λZ=>A=c.map (CB Z))->iI X p p' tl L G o W1 (.go {frame:=fr.raise c,callers:=cs,status:=.running,dying:=none} w1) (.go {frame:=fr'.raise A,callers:=q,status:=.running,dying:=none} W1):=λc A ah T=>ve k M (.of ⟨zN E c ah,y,rfl,rfl,rfl,u.kind (ub fr c)⟩ λj g i=>by rw[T j g i,B j g i,s j g i,wX];rfl)
     cases h with
     |panic v=>obtain⟨a7,rfl,av⟩:=yx k z;refine tB ?_ e Q (ab V);exact a0 _ _ rfl λj g i=>by rw[av j g i];rfl
     |throw m=>exact EZ fr m w1
     |_=>cases aj
end
section
variable{X:FuncId→Prop}{p p':Program}{tl:List Frame}{L:KM}{G:Gs}{U:Nat→Option Nat}{w W:World}
def RG{Z}{γ:Type}(f f':γ->Sem Value):∀l:List γ,(∀a∈l,SR p p' Z (VR Z) (f a) (f' a))->SR p p' Z (λa b=>b=a.map (bB Z)) (l.mapM f) (l.mapM f')
 |[],_=>by simp;exact aN rfl
 |a::l,h=>by simp;refine aK (h a S8) ?_;rintro v _ rfl;refine aK (RG f f' l λb c=>h b (by simp[c])) ?_;rintro d _ rfl;exact aN rfl
def Eb(F:Fit G p p'){Z}(R:Rn G Z){fn c}(h:c.results=fn.results)(t):SR p p' Z (VR Z) (results fn t) (results c (t.map (bB Z))):=by
 unfold results;rw[h];have d:∀i,(t.map (bB Z)).getD i undef=bB Z (t.getD i undef):=λi=>by simp;cases t[i]?<;>simp
 refine aK (Q:=λa b=>b=a.map (bB Z)) ?_ ?_
 .rw[QC,QC];refine aK (RG _ _ fn.results.toList λa _=>?_) ?_;.cases a with
   |tmp i=>exact aN (d i)
   |cell a ty=>dsimp only;rw[d];refine aK (AV F R _) ?_;rintro x _ rfl;exact tY F ty x
  .rintro e _ rfl;exact aN S8
 .rintro e _ rfl;refine aN ?_;by_cases f:e.size=1;.simp_all
  .simp[VR,f]
def Pd{ds fr fr' d}(ok:eX G U w W)(c:eQ G U λZ=>fr'=cS Z fr)(e:fr.defers=d::ds):∃d' b,fr'.defers=d'::b/\(eQ G U λZ=>d'=mI Z d)/\eQ G U λZ=>b=ds.map (mI Z):=by
 have⟨Z,i,h⟩:=ok.one;have h0:=c Z i h;refine⟨mI Z d,ds.map (mI Z),by rw[h0];simp[cS,e],λg f a=>?_,λg f a=>?_⟩<;>
 .have:=congrArg Frame.defers ((c g f a).symm.trans h0);simp only[cS,e,kV,zb]at this;first|exact this.1.symm|exact this.2.symm
def E2(F:Fit G p p')(C:jJ G p p')(K:BZ X p p'){main main' fr fr' cs J}(ak:cs=[]->main=true/\(tl=[]->main'=true))(ok:eX G U w W)(wr:WR p L G U w W)(ab:nj p fr=true)(s:cs.all (nj p)=true)(j:gU fr cs)(g:eQ G U λZ=>fr'=cS Z fr)(E:eQ G U λZ=>J=cs.map (cS Z)++tl):iI X p p' tl L G U W (unwind p main fr cs none w) (unwind p' main' fr' J none W):=by
 have⟨ar,k2⟩:=pH ok g;have u:=eB.1 ab;have bb:∀{A:Nat->Option Nat} {es ES:Array Event},r9 G A es ES->r9 G A (Go.seen p fr.fn es) (Go.seen p' fr'.fn ES):=λh=>by rw[ar];exact h.seen K fr.fn
 cases B:fr.defers with
 |cons d ds=>
   have⟨d',ag,Q,N,O⟩:=Pd ok g B;have π:okD p d=true/\ds.all (okD p)=true:=by have:=u.2.1;rw[B]at this;simpa using this
   by_cases Y:∃b,d.target=.collected b
   .have⟨b,j⟩:=Y;have⟨t,μ⟩:=d;simp only at j;subst j;have⟨m,S,P⟩:=ok.one;have ay:=N m S P;subst ay;have I:eQ G U λZ=>SR p p' Z (λx y=>y=x.map (mI Z)/\x.all (okD p)=true) (Instr.takeDeferred b) (Instr.takeDeferred (m b)):=λZ a f=>by
     have:m b=Z b:=by have:=congrArg Deferred.target (N Z a f);simpa[mI,Da]using this
     rw[this];exact Di b
    have v:=VP ok wr I;unfold unwind;rw[B,Q];dsimp only[mI,Da];by_cases o:vA L (cV ((Instr.takeDeferred b).runT p w #[]).1) (cV ((Instr.takeDeferred (m b)).runT p' W #[]).1)
    .have⟨f1,f2⟩:=o;refine vZ (.inl ⟨?_,?_⟩);.generalize(Instr.takeDeferred b).runT p w #[]=r at f1|-;have⟨r,es⟩:=r;cases r<;>exact bN f1
     .generalize(Instr.takeDeferred (m b)).runT p' W #[]=r at f2|-;have⟨r,es⟩:=r;cases r<;>exact bN f2
    generalize(Instr.takeDeferred b).runT p w #[]=r,(Instr.takeDeferred (m b)).runT p' W #[]=av at v o|-;have⟨r,es⟩:=r;cases r with
    |ok n w1=>
      obtain ah|⟨au,W1,ES,A,rfl,e,T,af,V,D⟩:=v;.trivial
      have aa:=D.1;have a7:eQ G A λZ=>au=n.map (mI Z):=λZ r c=>(D.2 Z r c).1;have a8:n.all (okD p)=true:=by obtain⟨Z,r,c⟩:=T.one;exact(D.2 Z r c).2
      have az:=g.ext e;have a0:=E.ext e;have a2:=O.ext e;refine tB ?_ e V (bb aa);refine ve T af (.of ⟨?_,s,rfl,rfl,rfl,j.kind rfl⟩ λl a f=>?_);.rw[eB];exact⟨u.1,by simp only[V8,dJ];exact⟨a8,π.2⟩,u.2.2⟩
      .rw[az l a f,a0 l a f,a2 l a f,a7 l a f,<-nP];rfl
    |halt h w1=>trivial
   .have I:=Js (fr:={fr with defers:=ds}) (fr':={fr' with defers:=ag}) (d:=d) (d':=d') F C K ok wr (by rw[eB];exact⟨u.1,π.2,u.2.2⟩) s (j.kind rfl) π.1 (λZ a f=>by rw[g Z a f,O Z a f];rfl) E N;have bc:unwind p main fr cs none w=callDeferred p {fr with defers:=ds} cs none d w:=by unfold unwind;rw[B];have⟨t,μ⟩:=d;cases t<;>first|rfl|exact absurd ⟨_,rfl⟩ Y
    have bd:unwind p' main' fr' J none W=callDeferred p' {fr' with defers:=ag} J none d' W:=by
     unfold unwind;rw[Q];have:¬∃b,d'.target=.collected b:=by rintro⟨b,j⟩;have⟨Z,a,f⟩:=ok.one;rw[N Z a f]at j;have⟨t,μ⟩:=d;cases t<;>first|exact Y ⟨_,rfl⟩|simp[mI,Da]at j
     have⟨t,μ⟩:=d';cases t<;>first|rfl|exact absurd ⟨_,rfl⟩ this
    rw[bc,bd];exact I
 |nil=>
   have Q:fr'.defers=[]:=by have⟨Z,a,f⟩:=ok.one;rw[g Z a f];simp[cS,B]
   unfold unwind;rw[B,Q];dsimp only;have aj:eQ G U λZ=>fr'.mode=rH Z fr.mode:=λl a f=>by rw[g l a f];rfl
   have⟨m,S,P⟩:=ok.one;have H:=aj m S P;cases R:fr.mode with
   |run=>trivial
   |panicking q=>
     rw[R]at H;rw[H];have hgo:q.all (!·.goexit)=true:=by have:=u.2.2.2.2.2;rw[R]at this;exact this
     dsimp only[rH];refine iI.unless λ_=>adz ?_ ?_
     .have a4:Frame.catches p' fr'=false:=by
       have a9:fr'.todo=fr.todo.map (mP m):=by rw[g m S P];rfl
       have ao:=u.1;unfold Frame.catches;rw[a9];cases ba:fr.todo with
       |nil=>split<;>simp_all
       |cons i k=>rw[ba]at ao;cases i<;>first|(simp[CC]at ao;done)|(cases p'.funcs[fr'.fn]?<;>rfl)
      simp[a4]
     .cases cs with
      |cons c r=>obtain⟨bf,av,rfl,O,a3⟩:=all_cons ok E;simp only[jD,dJ]at s;refine ve ok wr (.of ⟨zN s.1 q hgo,s.2,rfl,rfl,rfl,LW (fr:=c) (cs:=r) j (ub c q)⟩ λl a f=>?_);have ae:=aj l a f;rw[R,H]at ae;simp only[rH,FrameMode.panicking.injEq]at ae;rw[ae,O l a f,a3 l a f,wX];rfl
      |nil=>
        dsimp only;have a6:¬q.head?.any (·.goexit)=true:=by cases q with
         |nil=>simp
         |cons e q=>simp only[jD,dJ,Bool.not_eq_true']at hgo;simp[hgo.1]
        rw[aT a6];cases(reportChain q false).run p w with
        |ok t w=>exact .inr (.inl ⟨.inl rfl,_,rfl,rfl,K.dry t⟩)
        |halt h w=>cases h<;>trivial
   |returning=>rw[R]at H;rw[H];dsimp only[rH];have z:=K.sort fr.fn;rw[ar];cases ai:p.funcs[fr.fn]? with
     |none=>
       have:p'.funcs[fr.fn]?=none:=by rw[ai]at z;simpa using z
       rw[this];refine mC F ok wr ab s j g E (λZ a f=>?_) ak;rw[g Z a f];simp only[cS,G1,kW];cases fr.tmps[0]?<;>simp
     |some fn=>
       rw[ai]at z;have⟨M,a5,z⟩:=G3.1 z;rw[a5];simp only[Kt]at z;dsimp only;have I:eQ G U λZ=>SR p p' Z (VR Z) (results fn fr.tmps) (results M fr'.tmps):=λZ a f=>by
        have:fr'.tmps=fr.tmps.map (bB Z):=by rw[g Z a f];rfl
        rw[this];exact Eb F a z.1 _
       have v:=VP ok wr I;by_cases o:vA L (cV ((results fn fr.tmps).runT p w #[]).1) (cV ((results M fr'.tmps).runT p' W #[]).1)
       .have⟨f1,f2⟩:=o;refine vZ (.inl ⟨?_,?_⟩);.generalize(results fn fr.tmps).runT p w #[]=r at f1|-;have⟨r,es⟩:=r;cases r<;>first|exact bN (fX f1)|exact bN f1|(rename_i h _;cases h<;>exact bN f1)
        .generalize(results M fr'.tmps).runT p' W #[]=r at f2|-;have⟨r,es⟩:=r;cases r<;>first|exact bN (fX f2)|exact bN f2|(rename_i h _;cases h<;>exact bN f2)
       generalize(results fn fr.tmps).runT p w #[]=r,(results M fr'.tmps).runT p' W #[]=av at v o|-;have⟨r,es⟩:=r;cases r with
       |ok n w1=>
         obtain ah|⟨au,W1,ES,A,rfl,e,T,af,V,D⟩:=v;.exact absurd ah o
         have aa:=D.1;refine tB ?_ e V (aa.seen K fr.fn);exact mC F T af ab s j (g.ext e) (E.ext e) (λZ r c=>(D.2 Z r c)) ak
       |halt h w1=>cases h<;>trivial
end
section
variable{p p':Program}{L:KM}{G:Gs}{α β γ δ:Type}
def oC.sP{U W Q}{r:Result α×Array Event}{a:Result β×Array Event}(h:vA L (cV r.1) (cV a.1)):oC p L G U W Q r a:=by have⟨r,es⟩:=r;cases r<;>exact .inl h
def oC.weaken{U q W W1 Q}{r:Result α×Array Event}{s:Result β×Array Event}(e:Ext U q)(f:Fr U q W W1)(h:oC p L G q W1 Q r s):oC p L G U W Q r s:=by
 match r with
 |(.ok a w1,t)=>
   obtain n|⟨b,g,d,o,i,c,j,k,l,m⟩:=h;.exact .inl n
   .exact .inr ⟨b,g,d,o,i,e.trans c,j,k,f.trans c l,m⟩
 |(.halt x w1,t)=>
   obtain n|h|⟨u,b,g,d,o,i,c,j,k,l,m⟩:=h;.exact .inl n
   .exact .inr (.inl h)
   .exact .inr<|.inr ⟨u,b,g,d,o,i,e.trans c,j,k,f.trans c l,m⟩
def L4{n:Int}{s}{f:α->Sem γ}{w es}(h:n<(cV (s.runT p w es).1).drawn):n<(cV ((s>>=f).runT p w es).1).drawn:=by rw[oZ];generalize s.runT p w es=r at h;have⟨r,b⟩:=r;cases r with
 |ok a w1=>exact D4 h (G6.2 (qA (f a) w1 b))
 |halt x w1=>exact h
def oC.bind{Q Q' U w W es ES s s'}{f:α->Sem γ}{f':β->Sem δ}(h:Out p L G U W Q (s.runT p w es) (s'.runT p' W ES))(k:∀a b w1 W1 g d c,Ext U c->eX G c w1.heap.size W1.heap.size->WR p L G c w1 W1->r9 G c g d->(eQ G c λZ=>Q Z a b)->oC p L G c W1 Q' ((f a).runT p w1 g) ((f' b).runT p' W1 d)):
 oC p L G U W Q' ((s>>=f).runT p w es) ((s'>>=f').runT p' W ES):=by
 by_cases i:vA L (cV (s.runT p w es).1) (cV (s'.runT p' W ES).1);.exact oC.sP ⟨L4 i.1,L4 i.2⟩
 rw[oZ,oZ];generalize s.runT p w es=r,s'.runT p' W ES=u at h i|-;have⟨r,g⟩:=r;cases r with
 |ok a w1=>
   obtain q|⟨b,W1,d,c,rfl,e,n,o,j,l,m⟩:=h;.trivial
   .exact oC.weaken e j (k a b w1 W1 g d c e n o l m)
 |halt x w1=>
   obtain q|h|⟨t,b,W1,d,c,rfl,e,n,o,j,l,m⟩:=h;.trivial
   .exact .inr (.inl h)
   .exact .inr<|.inr ⟨t,b,W1,d,c,rfl,e,n,o.we,j,l,m⟩
def RJ:=@oC.bind
def oC.lost{Q:Pi->α->β->Prop}{U W w1 a h b}(e:xR h=true):oC p L G U W Q (.halt h w1,a) b:=.inr (.inl e)
def Yo:=@oC.lost
def oC.loose(A:G.strict=false){Q U w W es ES}{s:Sem α}{s':Sem β}(ok:eX G U w.heap.size W.heap.size)(v:∀b c,U b=some c->∃o o',w.heap[b]?=some o/\W.heap[c]?=some o'/\cJ p o=true/\eQ G U λZ=>o'=dK Z o)(z:W.os=w.os)(B:w.tape=L.tp)(ev:r9 G U es ES)
 (n:(cV (s.runT p w es).1).drawn=w.drawn)(t:eQ G U λZ=>SR p p' Z (Q Z) s s'):oC p L G U W Q (s.runT p w es) (s'.runT p' W ES):=by
 have wr:WR p ⟨w.drawn,(W.drawn:Int) -w.drawn,L.tp⟩ G U w W:=⟨v,λi q hi=>by simp only at hi;omega,z,by simp only;omega,B⟩;have h:=rN s s' U w W es ES ok wr ev t;have we:∀{e:Nat->Option Nat} {w1 W1:World},WR p ⟨w.drawn,(W.drawn:Int) -w.drawn,L.tp⟩ G e w1 W1->WE p L G e w1 W1:=λx=>⟨x.obj,x.os,λy=>(by rw[A]at y;cases y),x.tp⟩;generalize s.runT p w es=r at h n|-;have⟨r,C⟩:=r;cases r with
 |ok a w1=>
   obtain m|⟨b,W1,f,e,d,g,j,k,l⟩:=h;.have d:=m.1;simp[cV]at n;simp at d;omega
   .exact .inr ⟨b,W1,f,e,d,g,j,we k,l⟩
 |halt x w1=>
   obtain m|h|⟨u,b,W1,f,e,d,g,j,k,l⟩:=h;.have d:=m.1;simp[cV]at n;simp at d;omega
   .exact .inr (.inl h)
   .exact .inr<|.inr ⟨u,b,W1,f,e,d,g,j,we k,l⟩
def uj(r o w es):(cV ((setObj r o).runT p w es).1).drawn=w.drawn:=by
 show(cV ((Sem.setObj r o (.pure ())).runT p w es).1).drawn=w.drawn;simp[Sem.runT];repeat' split
 all_goals rfl
end
section
variable{p p':Program}{L:KM}{G:Gs}{U:Nat→Option Nat}{w W:World}{es ES:Array Event}
def abw(n):Fr U U W {W with drawn:=W.drawn+n}:=⟨L9,λ_ _ _=>rfl,λc (a:(W:Nat)<=c) (b:c<(W:Nat))=>by omega,λ_ _ h _=>h,rfl,rfl,QR _ _,rfl⟩
def Yp(B:G.strict=false){a k a' k'}(ok:eX G U w W)(wr:WR p L G U w W)(ev:r9 G U es ES)(o:eQ G U fun Z=>a'=bB Z a)(m:eQ G U fun Z=>k'=bB Z k){r t}{f f':Value->Obj}(A:∀x j,(eQ G U fun Z=>j=bB Z x)->eQ G U fun Z=>t=Z r/\f' j=dK Z (f x)/\cJ p (f x)=true):
 oC p L G U W (fun _ _ _=>True) ((Instr.keyThatStays a k>>=fun x=>setObj r (f x)).runT p w es) ((Instr.keyThatStays a' k'>>=fun x=>setObj t (f' x)).runT p' W ES):=by
 have last:∀(x j:Value) (n s:Nat),(eQ G U fun Z=>j=bB Z x)->oC p L G U W (fun _ _ _=>True) ((setObj r (f x)).runT p {w with drawn:=w.drawn+n} es) ((setObj t (f' j)).runT p' {W with drawn:=W.drawn+s} ES):=fun x j n s C=>by refine oC.weaken (nD _) (abw s) (oC.loose B (w:={w with drawn:=w.drawn+n}) ok wr.obj wr.os wr.tp ev (uj _ _ _ _) fun Z h d=>?_);have⟨l,i,y⟩:=A x j C Z h d;rw[l,i];exact gI y
 have run:∀(q:Program) (b c:Value) (g:Value->Sem Unit) (v:World) (e:Array Event),(Instr.keyThatStays b c>>=g).runT q v e=if Instr.sameBits 10000 b c then(g c).runT q v e else(g (if(Question.extern "map.whichKeyStays" 2).cut (v.tape v.drawn (.extern "map.whichKeyStays" 2))=0 then c else b)).runT q {v with drawn:=v.drawn+1} e:=fun q b c g v e=>by
  unfold Instr.keyThatStays;split;.rfl
  .trivial
 rw[run,run];by_cases l:Instr.sameBits 10000 a k=true
 .have e:=Cy _ _ _ l;rw[bD l];by_cases i:Instr.sameBits 10000 a' k'=true;.rw[bD i];exact last k k' 0 0 m
  .rw[aT i];refine last k _ 0 1 fun Z h d=>?_;have u:a'=k':=by rw[o Z h d,m Z h d,e]
   rw[u,ite_self];exact m Z h d
 .rw[aT l];by_cases i:Instr.sameBits 10000 a' k'=true
  .have e:=Cy _ _ _ i;rw[bD i];refine last _ k' 1 0 fun Z h d=>?_;split;.exact m Z h d
   .rw[<-e];exact o Z h d
  .rw[aT i];by_cases z:w.drawn<L.lim
   .have h0:=wr.tape 0 (.extern "map.whichKeyStays" 2) z;simp only[DZ]at h0;rw[h0];refine last _ _ 1 1 fun Z h d=>?_;split;.exact m Z h d
    .exact o Z h d
   .have D:=wr.KN;refine oC.sP ⟨?_,?_⟩;.rw[uj];simp only;omega
    .rw[uj];simp only;omega
def GL(F:Fit G p p')(ao:G.strict=false)(t)(K:zC p t=true){m k v O k' B}(ok:eX G U w W)(wr:WR p L G U w W)(ev:r9 G U es ES)(n:eQ G U λZ=>O=bB Z m)(d:eQ G U λZ=>k'=bB Z k)(g:eQ G U λZ=>B=bB Z v):
 oC p L G U W (λ_ _ _=>True) ((Instr.mapUpdate t m k v).runT p w es) ((Instr.mapUpdate t O k' B).runT p' W ES):=by
 unfold Instr.mapUpdate;refine RJ (rN _ _ U w W es ES ok wr ev λZ a b=>aR F t) ?_;intro u ay w1 W1 H E C ex z R I j;have⟨q,y,s⟩:=z.one;obtain⟨rfl,N⟩:=j q y s;replace n:=n.ext ex;replace d:=d.ext ex;replace g:=g.ext ex;cases ay<;>first|exact Yo rfl|skip
 rename_i au e;dsimp only;cases m<;>first|exact Yo rfl|skip
 rename_i r;cases r with
 |none=>have:=n q y s;subst this;simp only[dW,Kr];exact(rN _ _ C w1 W1 H E z R I λZ a b=>bK F _).we
 |some r=>
   have:=n q y s;subst this;simp only[dW,dY];have M:eQ G C λZ=>q r=Z r:=λZ a b=>by simpa using n Z a b
   refine RJ (Q:=λZ o o'=>o'=dK Z o) (rN _ _ C w1 W1 H E z R I λZ a b=>by rw[M Z a b];exact gZ) ?_;intro o o' a2 W2 aa μ T ex P az af j;cases o<;>first|exact Yo rfl|skip
   rename_i ms c;have⟨D,aj,ah⟩:=P.one;have:=j D aj ah;subst this;have h:eQ G T λZ=>ms.map (mK D)=ms.map (mK Z):=λZ a b=>by simpa[dK]using j Z a b
   have l:=M.ext ex;replace d:=d.ext ex;replace g:=g.ext ex;simp only[dK];refine RJ (rN _ _ T a2 W2 aa μ P az af λZ a b=>by rw[d Z a b];exact lJ F _ _ 5 _ _ (jL K N)) ?_;intro _ _ a3 Y ab V a5 ex av a0 ag _;replace h:=h.ext ex;replace l:=l.ext ex;replace d:=d.ext ex;replace g:=g.ext ex;refine RJ (Q:=λZ f f'=>f'=TW Z f) (rN _ _ a5 a3 Y ab V av a0 ag λZ a b=>by rw[h Z a b,d Z a b,rG];exact qF F a au (jL K N) k ms.toList) ?_;intro f f' a4 π ae X a6 ex A S J j;replace h:=h.ext ex;replace l:=l.ext ex;replace d:=d.ext ex;replace g:=g.ext ex;have⟨a7,ak,ai⟩:=A.one;have:=j a7 ak ai;subst this;cases f with
   |none=>refine(rN _ _ a6 a4 π ae X A S J λZ a b=>?_).we;have:=gI (p:=p) (p':=p') (Z:=Z) (r:=r) (o:=.map (ms.push {key:=k,val:=v,born:=c}) (c+1)) rfl;simpa[dK,mK,TW,h Z a b,l Z a b,d Z a b,g Z a b]using this
   |some f=>
     have⟨i,x⟩:=f;refine Yp ao A S J (λZ a b=>?_) d (f:=λx=>.map (ms.modify i λe=>{e with key:=x,val:=v}) c) (f':=λx=>.map ((ms.map (mK D)).modify i λe=>{e with key:=x,val:=B}) c) (λx a8 ar Z a b=>⟨l Z a b,?_,rfl⟩);.rw[h Z a b,d Z a b,kW];cases ms[i]?<;>rfl
     .simp only[dK,Obj.map.injEq,sX];rw[h Z a b,g Z a b,ar Z a b];exact(ER (mK Z) (λe=>{e with key:=x,val:=v}) (λe=>{e with key:=bB Z x,val:=bB Z v}) (λx=>rfl) ms i).symm
def oC.skip{r:Sem Unit}{g:Sem Unit}(h:oC p L G U W (λ_ _ _=>True) (r.runT p w es) (g.runT p' W ES)):oC p L G U W (NR p) ((do r;pure Next.skip).runT p w es) ((do g;pure Next.skip).runT p' W ES):=by rw[oZ,oZ];generalize r.runT p w es=x,g.runT p' W ES=c at h|-;have⟨x,q⟩:=x;cases x with
 |ok a w1=>
   obtain d|⟨b,W1,e,i,rfl,f,k,l,m,n,-⟩:=h;.refine .inl ⟨d.1,?_⟩;have:=d.2;have⟨c,j⟩:=c;cases c<;>exact this
   .exact .inr ⟨.skip,W1,e,i,rfl,f,k,l,m,n,λZ _ _=>⟨rfl,rfl⟩⟩
 |halt y w1=>
   obtain d|h|⟨o,b,W1,e,i,rfl,f⟩:=h;.refine .inl ⟨d.1,?_⟩;have:=d.2;have⟨c,j⟩:=c;cases c<;>exact this
   .exact .inr (.inl h)
   .exact .inr<|.inr ⟨o,b,W1,e,i,rfl,f⟩
end
end Go.Ren
