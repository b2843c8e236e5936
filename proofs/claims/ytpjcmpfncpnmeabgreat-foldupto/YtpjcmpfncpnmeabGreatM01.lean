import Derived.RunT
import Derived.DyingOn
import Derived.Test.YtpjcmpfncpnmeabGreatM00
set_option linter.all false
set_option maxHeartbeats 1000000
namespace Go.Ren
section
variable{G:Gs}{p p':Program}{Z:Pi}(F:Fit G p p')(R:Rn G Z)
omit F R in
theorem EM(n):SR p p' Z (λ_ _=>True) (askRoom n) (askRoom n):=by exact eU (Jh (m:=.noRoom)) (aM trivial)
theorem EN{e cs}(h:cs.map (bC Z)=cs):SR p p' Z (λa a'=>a'=cE Z a/\Z.gh a.block=none) (newRow e cs) (newRow e cs):=by have:=qE (p:=p) (p':=p') (Z:=Z) e cs;rwa [h]at this
theorem DC{t e:TypeId}(F:Fit G p p')(a:t<p.types.size)(h:p.underlying t=some (.slice e)):e<p.types.size:=by have:=ED F a h;simpa[A2]using this
theorem vX(v):SR p p' Z (λa b=>b=a) (asInt v) (asInt (bC Z v)):=by refine aK (qF v) ?_;rintro _ x rfl;exact aM rfl
include F R
theorem iB{α b β c Q}(e){f:α->Sem β}{f':b->Sem c}(a:adz e=false:=by rfl):SR p p' Z Q (runtimePanic e>>=f) (runtimePanic e>>=f'):=aK (Q:=λ_ _=>False) (bM F e a) (λ_ _ h=>h.elim)
theorem Jk{t:TypeId}(k:t<p.types.size)(l c):SR p p' Z (VR Z) (Instr.makeSlice t l c) (Instr.makeSlice t (bC Z l) (bC Z c)):=by refine aK (aR F t) ?_;rintro _ d ⟨rfl,h⟩;cases d with
 |slice e=>
   have j:=DC F k h;refine aK (vX l) ?_;rintro _ l rfl;refine aK (vX c) ?_;rintro _ c rfl;refine aK (fX F e) ?_;rintro _ i ⟨rfl,_⟩;refine eU ?_ ?_;.refine eU (iB F R _) (eU (iB F R _) ?_);refine aK iJ ?_;rintro _ n rfl;exact iB F R _
   .refine aK (EM _) ?_;intro _ _ _;refine aK (eB F e) ?_;rintro _ n rfl;refine eU ?_ ?_;.refine aK (Q:=λa b=>b=a/\a.map (bC Z)=a) (aM ⟨rfl,S8⟩) ?_;rintro _ z ⟨rfl,f⟩;refine aK (Q:=λa b=>b=cE Z a/\Z.gh a.block=none) (EN (tB f _)) ?_;rintro a _ ⟨rfl,g⟩;exact aM (by simp[VR,fV g])
    .refine aK (gI F j) ?_;rintro _ z ⟨rfl,f⟩;refine aK (Q:=λa b=>b=a/\a.map (bC Z)=a) (aM ⟨rfl,by rw[<-mC,f]⟩) ?_;rintro _ z ⟨rfl,f⟩;refine aK (Q:=λa b=>b=cE Z a/\Z.gh a.block=none) (EN (tB f _)) ?_;rintro a _ ⟨rfl,g⟩;exact aM (by simp[VR,fV g])
 |_=>exact aL rfl
omit R
theorem GD{t:TypeId}(k:t<p.types.size)(n c):SR p p' Z (VR Z) (Instr.buildSlice t n c) (Instr.buildSlice t n (c.map λ(i,x)=>(i,bC Z x))):=by refine aK (aR F t) ?_;rintro _ d ⟨rfl,h⟩;cases d with
 |slice e=>
   have j:=DC F k h;refine aK (eB F e) ?_;rintro _ s rfl;refine eU (aL rfl) ?_;refine eU ?_ ?_;.refine aK (Q:=λa b=>b=a/\a.map (bC Z)=a) (aM ⟨rfl,S8⟩) ?_;rintro _ z ⟨rfl,f⟩;have:=zX (Z:=Z) (λi=>some (i*s,s)) c.toList ((Array.range (n*s)).map λx=>z[x%z.size]!);rw[tB f]at this;dsimp only;rw[sX,this];cases Instr.fill (λi=>some (i*s,s)) ((Array.range (n*s)).map λx=>z[x%z.size]!) c.toList with
    |none=>exact aL rfl
    |some cs=>refine aK (qE e cs) ?_;rintro a _ ⟨rfl,g⟩;exact aM (by simp[VR,fV g])
   .refine aK (gI F j) ?_;rintro _ z ⟨rfl,f⟩;refine aK (Q:=λa b=>b=a/\a.map (bC Z)=a) (aM ⟨rfl,by rw[<-mC,f]⟩) ?_;rintro _ z ⟨rfl,f⟩;have:=zX (Z:=Z) (λi=>some (i*s,s)) c.toList ((Array.range (n*s)).map λx=>z[x%z.size]!);rw[tB f]at this;dsimp only;rw[sX,this];cases Instr.fill (λi=>some (i*s,s)) ((Array.range (n*s)).map λx=>z[x%z.size]!) c.toList with
    |none=>exact aL rfl
    |some cs=>refine aK (qE e cs) ?_;rintro a _ ⟨rfl,g⟩;exact aM (by simp[VR,fV g])
 |_=>exact aL rfl
omit F in
theorem LQ(x):SR p p' Z (λa b=>b=a/\∀q l c,x=.slice q l c->a<=l) (Builtin.lenOf x) (Builtin.lenOf (bC Z x)):=by cases x with
 |slice a l c=>rw[bT];exact aM ⟨rfl,λq f d e=>by cases e;exact L9⟩
 |string s=>rw[cD];exact aM ⟨rfl,λq f d e=>by cases e⟩
 |_=>exact aL rfl
omit F in
theorem sw(s n x)(d:∀q l c,x=.slice q l c->n<=l):SR p p' Z (λa b=>b=a.map (bC Z)/\(n=0->a=#[])) (Builtin.firstCells s n x) (Builtin.firstCells s n (bC Z x)):=by cases x with
 |slice a l c=>cases a with
   |none=>rw[bT];exact aM S8
   |some a=>
     rw[bT];by_cases h0:n=0;.subst h0;show SR p p' Z _ (loadCells a (0*s)) (loadCells _ (0*s));rw[VU];exact aM S8
     .refine(x7 a _ l c λh _=>?_).mono λ_ _ h=>⟨h,λh=>absurd h h0⟩;have:=d _ _ _ rfl;rw[show n=0 by omega,VU]
 |string s=>rw[cD];refine aM ⟨by simp[QJ],λh=>?_⟩;subst h;simp
 |_=>exact aL rfl
theorem abo(f t args):SR p p' Z (VR Z) (Builtin.copy_ f t args) (Builtin.copy_ f t (args.map (bC Z))):=by unfold Builtin.copy_;simp;cases f[0]? with
 |none=>exact aL rfl
 |some t=>cases args[0]? with
   |none=>exact aL rfl
   |some d=>cases args[1]? with
     |none=>exact aL rfl
     |some s=>refine aK (aR F t) ?_;rintro _ u ⟨rfl,_⟩;cases u with
       |slice e=>cases d with
         |slice b l c=>rw[bT];refine aK (LQ s) ?_;rintro _ n ⟨rfl,j⟩;refine aK (eB F e) ?_;rintro _ z rfl;refine aK (sw z _ s λq k g e=>bL (Nat.min_le_left _ _) (j q k g e)) ?_;rintro cs _ ⟨rfl,i⟩;cases b with
           |none=>exact aM (by simp[VR,goInt])
           |some a=>refine aK (Q:=λ_ _=>True) (by have:=vU (p:=p) (p':=p') (Z:=Z) a cs.toList 0 l c (λh _=>by rw[i (by rw[h];exact Nat.min_zero _)]);simpa[Addr.add]using this) ?_;intro _ _ _;exact aM (by simp[VR,goInt])
         |_=>exact aL rfl
       |_=>exact aL rfl
omit F in
omit F in
theorem LR(s l n:Nat)(b:Option Addr)(x:Value)(w:World)(es:Array Event):∃a,(Builtin.mayShare s l n b x).runT p w es=(.ok a w,es):=by
 have hold:∀(a:Addr) (m:Nat) {γ:Type} (f:Bool->Sem γ),(∀t,∃y,(f t).runT p w es=(.ok y w,es))->∃y,(Builtin.holdsCells a m>>=f).runT p w es=(.ok y w,es):=λa m γ f hf=>by show∃y,(Sem.shape a.block _).runT p w es=_;simp only[Sem.runT];cases w.shape? a.block with
  |none=>exact hf _
  |some z=>exact hf _
 have fro:∀(a:Addr) {γ:Type} (f:Bool->Sem γ),(∀t,∃y,(f t).runT p w es=(.ok y w,es))->∃y,(frozen a>>=f).runT p w es=(.ok y w,es):=λa γ f hf=>by show∃y,(Sem.frozen a _).runT p w es=_;simp only[Sem.runT];exact hf _
 have last:∀t:Bool,∃y,(if(!t)=true then pure true else match x with|.slice (some c) _ _=>do let h<-Builtin.holdsCells c (n*s);pure (!h||b.any (·.block==c.block))|_=>pure false:Sem Bool).runT p w es=(.ok y w,es):=λt=>by
  split;.exact⟨_,rfl⟩
  .split;.exact hold _ _ _ λt=>⟨_,rfl⟩
   .exact⟨_,rfl⟩
 unfold Builtin.mayShare;cases b with
 |none=>exact last true
 |some a=>refine hold a _ _ λt=>?_;refine fro _ _ λt'=>?_;exact last _
end
section
variable{G:Gs}{p p':Program}{Z:Pi}(F:Fit G p p')(R:Rn G Z)
theorem pz{z}(h:z.map (bC Z)=z)(n):(Builtin.zeroCells z n).map (bC Z)=Builtin.zeroCells z n:=tB h _
include F R
theorem TL(j t args)(h:∀s,j[0]?=some s->s<p.types.size):SR p p' Z (VR Z) (Builtin.append_ j t args) (Builtin.append_ j t (args.map (bC Z))):=by unfold Builtin.append_;simp only[kZ];cases E:j[0]? with
 |none=>exact aL rfl
 |some st=>have G:=h st E;cases args[0]? with
   |none=>exact aL rfl
   |some s=>cases args[1]? with
     |none=>exact aL rfl
     |some x=>simp only[dM];refine aK (aR F st) ?_;rintro _ u ⟨rfl,H⟩;cases u with
       |slice e=>have o:=DC F G H;cases s with
         |slice b sl d=>
           rw[bT];refine aK (eB F e) ?_;rintro _ size rfl;have M:∀n,SR p p' Z (λa b=>b=a.map (bC Z)) (do let z<-zeroValue e;pure (Builtin.zeroCells z.cells n)) (do let z<-zeroValue e;pure (Builtin.zeroCells z.cells n)):=λn=>by refine aK (gI F o) ?_;rintro _ z ⟨rfl,f⟩;exact aM (pz (by rw[<-mC,f]) n).symm
           have fin:∀old new g cap,SR p p' Z (VR Z) (do let z<-zeroValue e;let a<-newRow e (old++new++Builtin.zeroCells z.cells (cap -g));pure (.slice (some a) g cap)) (do let z<-zeroValue e;let a<-newRow e (old.map (bC Z)++new.map (bC Z)++Builtin.zeroCells z.cells (cap -g));pure (.slice (some a) g cap)):=λold new g cap=>by refine aK (gI F o) ?_;rintro _ z ⟨rfl,f⟩;refine aK (Q:=λa b=>b=cE Z a/\Z.gh a.block=none) (by rw[<-pz (Z:=Z) (show z.cells.map (bC Z)=z.cells by rw[<-mC,f]),<-VV,<-VV];rw[pz (Z:=Z) (show z.cells.map (bC Z)=z.cells by rw[<-mC,f])];exact qE _ _) ?_;rintro a _ ⟨rfl,B⟩;exact aM (by simp[VR,fV B])
           have K:SR p p' Z (λa b=>b=a.map (bC Z)/\(sl=0->a=#[])) (Builtin.firstCells size sl (.slice b sl d)) (Builtin.firstCells size sl (.slice (KT Z b sl d) sl d)):=by
            have:=sw (p:=p) (p':=p') (Z:=Z) size sl (.slice b sl d) λq l c e=>by cases e;exact L9
            rwa [bT]at this
           have put:∀(a:Addr) (new:Array Value),(sl=0->d=0->new.toList=[])->SR p p' Z (λ_ _=>True) (storeCells (a.add (sl*size)) new.toList) (storeCells ((zk Z sl d a).add (sl*size)) (new.map (bC Z)).toList):=λa new f=>by have:=vU (p:=p) (p':=p') (Z:=Z) a new.toList (sl*size) sl d f;rwa [<-sX]at this
           cases j[1]?;case' none=>refine aK (Q:=λa b=>b=a) (aM rfl) ?_
           case' some L=>refine aK (aR F L) ?_;rintro _ u ⟨rfl,_⟩;refine aK (Q:=λa b=>b=a) (aM rfl) ?_
           all_goals rintro _ y rfl;refine eU ?_ ?_
           all_goals by_cases I:∃r,x=.chan r
           all_goals first
            | (obtain⟨r,rfl⟩:=I
               exact aL rfl)
            |skip
           all_goals by_cases v:∃q l c,x=.slice q l c
           all_goals first
            | (obtain⟨q,l,c,rfl⟩:=v
               exact aL rfl)
            | (refine aK (vX x) ?_
               rintro _ l rfl;refine eU (iB F R _) ?_;refine aK (fX F e) ?_;rintro _ i ⟨rfl,_⟩;refine eU (aK iJ (by rintro _ n rfl;exact iB F R _)) ?_;refine aK (Q:=λa b=>b=a/\∀q l c,x=.slice q l c->a<=l) (aM ⟨rfl,λq l c e=>absurd ⟨q,l,c,e⟩ v⟩) ?_)
            |refine aK (LQ x) ?_
           all_goals
            rintro _ n ⟨rfl,C⟩;have k:SR p p' Z (λa b=>b=a.map (bC Z)/\(n=0->a=#[])) (if(!y)=true then Builtin.firstCells size n x else if n*size=0 then pure #[]else do let z<-zeroValue e;pure (Builtin.zeroCells z.cells n)) (if(!y)=true then Builtin.firstCells size n (bC Z x)else if n*size=0 then pure #[]else do let z<-zeroValue e;pure (Builtin.zeroCells z.cells n)):=by
             refine eU (sw _ _ _ C) ?_;by_cases h0:n*size=0;.rw[bF h0];exact aM S8
             .rw[aS h0];exact(M _).mono λ_ _ h=>⟨h,λh=>absurd (by rw[h,VU]) h0⟩
            refine abn (λP=>?_) (λ_=>?_)
            .refine aK k ?_;rintro new _ ⟨rfl,D⟩;have same:∀a,zk Z (sl+n) d a=zk Z sl d a:=λa=>by
              unfold zk;by_cases f:sl=0/\d=0;.rw[bF f,bF O9]
              .rw[aS f];by_cases J:sl+n=0/\d=0;.exact absurd O9 f
               .rw[aS J]
             cases b with
             |none=>exact aM (by simp[VR])
             |some a=>refine aK (put a new λN O=>by rw[D O9]) ?_;intro _ _ _;exact aM (by simp[VR,same])
            .refine aK (fX F e) ?_;rintro _ i ⟨rfl,_⟩;refine eU (iB F R _) ?_;refine aK (fX F e) ?_;rintro _ i ⟨rfl,_⟩;refine eU ?_ ?_
             .refine aK (Q:=λ_ _=>False) (eU (bM F _) ?_) (λ_ _ h=>h.elim);refine SR.qC (eJ.then (λm=>?_) λw es=>?_)
              .intro w es;cases m;.exact⟨_,w,_,rfl,rfl⟩
               .exact⟨_,w,es,rfl,rfl⟩
              .have⟨a,A⟩:=LR (p:=p) size sl n b x w es;exact⟨a,w,es,A⟩
             .refine aK iJ ?_;rintro _ cap rfl;refine aK (fX F e) ?_;rintro _ i ⟨rfl,_⟩;refine aK (EM _) ?_;intro _ _ _;refine aK K ?_;rintro old _ ⟨rfl,-⟩;refine aK k ?_;rintro new _ ⟨rfl,-⟩;exact fin old new _ _
         |_=>exact aL rfl
       |_=>exact aL rfl
end
theorem EO{α β:Type}(g:α->β)(f:α->α)(f':β->β)(h:∀x,g (f x)=f' (g x))(a:Array α)(i):(a.modify i f).map g=(a.map g).modify i f':=by grind
section
variable{G:Gs}{p p':Program}{Z:Pi}(F:Fit G p p')(R:Rn G Z)
include F R
omit R in
theorem lL(e):∀n k t v,u7 p k t=true->SR p p' Z (λ_ _=>True) (Instr.checkKey e n t v) (Instr.checkKey e n t (bC Z v))
 |0,_,_,_,_=>aL rfl
 |_+1,0,_,_,h=>by cases h
 |n+1,k+1,t,v,a=>by have c:=lL e n k;refine aK (aR F t) ?_;rintro _ u ⟨rfl,i⟩;simp[u7,i]at a;replace a:=a.2;cases u with
   |interface ms=>cases a
   |array l el=>
     cases v<;>first|exact aL rfl|skip
     rename_i cs;simp only[dK];refine aK (Bb l _ λf b=>?_) (λ_ _ _=>aM trivial);refine aK (eB F el) ?_;rintro _ m rfl;refine aK (lC F el cs _) ?_;rintro v _ rfl;refine aK (c el v a) ?_;intro _ _ _;exact aM rfl
   |struct d=>
     cases v<;>first|exact aL rfl|skip
     rename_i cs;simp only[dK];refine aK (Ba d _ λf g b=>?_) (λ_ _ _=>aM trivial);refine eU ?_ (aM rfl);refine aK (lC F f.type cs _) ?_;rintro v _ rfl;refine aK (c f.type v (zn.1 a f g)) ?_;intro _ _ _;exact aM rfl
   |_=>exact aM trivial
omit F R in
theorem jW{t k e}(h:zO p t=true)(a:p.underlying t=some (.map k e)):u7 p 5 k=true:=by simpa[zO,a]using h
def TM(Z:Pi):Option (Nat×Value)->Option (Nat×Value):=Option.map λ(i,v)=>(i,bC Z v)
theorem yf{n}(t)(c:u7 p n t=true)(k):∀es i,SR p p' Z (λa b=>b=TM Z a) (Instr.findAsking t k es i) (Instr.findAsking t (bC Z k) (es.map (mM Z)) i)
 |[],_=>aM rfl
 |e::es,i=>by refine aK (LN F R t k e.key c) ?_;rintro _ b rfl;exact eU (aM rfl) (yf t c k es (i+1))
omit F R in
theorem Hx(Z r d b):Instr.sameNow d (oI Z r) b=none/\Instr.sameNow d b (oI Z r)=none:=by obtain h|⟨_,h⟩|⟨_,_,_,h⟩|⟨_,h⟩|⟨_,h⟩|⟨_,_,_,h⟩:=fT Z r<;>rw[h]<;>constructor<;>cases d<;>cases b<;>rfl
omit F R in
theorem Hy(r d b):Instr.sameNow d (.chan r) b=none/\Instr.sameNow d b (.chan r)=none:=by constructor<;>cases d<;>cases b<;>rfl
omit F R in
theorem LS(d a b):Instr.sameNow d (bC Z a) (bC Z b)=Instr.sameNow d a b:=by
 by_cases c:∃r,a=.chan r;.obtain⟨r,rfl⟩:=c;rw[cO,(Hx Z r d _).1,(Hy r d b).1]
 by_cases e:∃r,b=.chan r;.obtain⟨r,rfl⟩:=e;rw[cO,(Hx Z r d _).2,(Hy r d a).2]
 cases d<;>cases a<;>first|rfl|exact absurd ⟨_,rfl⟩ c|(cases b<;>first|exact absurd ⟨_,rfl⟩ e|simp[cU,cD,eK,bK,dH,cM,bT,dY,Instr.sameNow])
omit F R in
theorem CB(d k):∀es i,Instr.findNow d (bC Z k) (es.map (mM Z)) i=(Instr.findNow d k es i).map (TM Z)
 |[],_=>rfl
 |e::es,i=>by simp[Instr.findNow];have:Instr.sameNow d (bC Z k) (mM Z e).key=Instr.sameNow d k e.key:=LS d k e.key;rw[this];cases Instr.sameNow d k e.key with
   |none=>rfl
   |some b=>cases b with
     |true=>rfl
     |false=>exact CB d k es (i+1)
theorem qI{n}(t)(c:u7 p n t=true)(k es):SR p p' Z (λa b=>b=TM Z a) (Instr.findKey t k es) (Instr.findKey t (bC Z k) (es.map (mM Z))):=by refine aK (aR F t) ?_;rintro _ u ⟨rfl,_⟩;rw[CB];cases Instr.findNow u k es 0 with
 |none=>exact yf F R t c k es 0
 |some r=>exact aM rfl
omit R in
theorem map_lt{t k e:TypeId}(a:t<p.types.size)(h:p.underlying t=some (.map k e)):k<p.types.size/\e<p.types.size:=by have:=ED F a h;simpa[A2]using this
theorem TN{t:TypeId}(j:t<p.types.size)(d:zO p t=true)(x k ok):SR p p' Z (VR Z) (Instr.lookup t x k ok) (Instr.lookup t (bC Z x) (bC Z k) ok):=by refine aK (aR F t) ?_;rintro _ u ⟨rfl,c⟩;cases u with
 |map i e=>
   have h:=map_lt F j c;have g:∀es:Array MapEntry,(es.map (mM Z)).isEmpty=es.isEmpty:=λes=>by simp[Array.isEmpty]
   cases x with
   |map r=>cases r with
     |none=>simp only[dY];refine aK (Q:=λa b=>b=a.map (mM Z)) (aM S8) ?_;rintro es _ rfl;rw[g,sX];refine aK (lL F _ _ 5 _ _ (jW d c)) ?_;intro _ _ _;refine aK (qI F R i (jW d c) k es.toList) ?_;rintro r _ rfl;cases r with
       |none=>refine aK (gI F h.2) ?_;rintro _ z ⟨rfl,f⟩;refine aK (Q:=λa b=>b=(bC Z a.1,a.2)) (aM (by rw[f])) ?_;rintro⟨v,b⟩ _ rfl;refine aM ?_;cases ok<;>simp[VR]
       |some r=>refine aK (Q:=λa b=>b=(bC Z a.1,a.2)) (aM rfl) ?_;rintro⟨v,b⟩ _ rfl;refine aM ?_;cases ok<;>simp[VR]
     |some r=>
       simp only[dY];refine aK iI ?_;rintro o _ rfl;cases o<;>first|exact aL rfl|skip
       refine aK (Q:=λa b=>b=a.map (mM Z)) (aM rfl) ?_;rintro es _ rfl;rw[g,sX];refine aK (lL F _ _ 5 _ _ (jW d c)) ?_;intro _ _ _;refine aK (qI F R i (jW d c) k es.toList) ?_;rintro r _ rfl;cases r with
       |none=>refine aK (gI F h.2) ?_;rintro _ z ⟨rfl,f⟩;refine aK (Q:=λa b=>b=(bC Z a.1,a.2)) (aM (by rw[f])) ?_;rintro⟨v,b⟩ _ rfl;refine aM ?_;cases ok<;>simp[VR]
       |some r=>refine aK (Q:=λa b=>b=(bC Z a.1,a.2)) (aM rfl) ?_;rintro⟨v,b⟩ _ rfl;refine aM ?_;cases ok<;>simp[VR]
   |_=>exact aL rfl
 |_=>exact aL rfl
omit F R in
theorem XV{f:Value->Value->Bool}(d:∀x y,f x y=true->x=y):∀(a b:List Value),a.length=b.length->((a.zip b).all λ(x,y)=>f x y)=true->a=b
 |[],[],_,_=>rfl
 |x::a,y::b,c,h=>by simp only[List.zip_cons_cons,jN,dP]at h;rw[d x y h.1,XV d a b (by simpa using c) h.2]
 |[],_::_,c,_=>by simp at c
 |_::_,[],c,_=>by simp at c
omit F R in
theorem LU{x y:ByteArray}(h:(x==y)=true):x=y:=by have⟨x⟩:=x;have⟨y⟩:=y;have h:(x==y)=true:=h;rw[eq_of_beq h]
omit F R in
omit F R in
theorem CC:∀n a b,Instr.sameBits n a b=true->a=b:=by intro n;induction n with
 |zero=>intro a b h;cases a<;>cases b<;>first|(simp_all[Instr.sameBits];done)|exact congrArg Value.string (LU h)
 |succ n c=>intro a b h;cases a with
   |iface t v=>cases b with
     |iface u w=>simp only[Instr.sameBits,dP,uR]at h;rw[h.1,c v w h.2]
     |_=>simp[Instr.sameBits]at h
   |agg x=>cases b with
     |agg y=>simp only[Instr.sameBits,dP,uR]at h;have:=XV (f:=Instr.sameBits n) (λx y e=>c x y e) x.toList y.toList (by simpa using h.1) h.2;rw[Array.toList_inj.1 this]
     |_=>simp[Instr.sameBits]at h
   |_=>cases b<;>first|(simp_all[Instr.sameBits];done)|exact congrArg Value.string (LU h)
omit F in
theorem Jl(j:G.strict=true):∀n a b,Instr.sameBits n (bC Z a) (bC Z b)=Instr.sameBits n a b:=by
 have g:∀a b:Option Addr,(a.map (cE Z)==b.map (cE Z))=(a==b):=λa b=>by cases a<;>cases b<;>first|rfl|exact addr_eq R _ _
 have d:∀a b:Option Nat,(a.map Z.f==b.map Z.f)=(a==b):=λa b=>by
  have hi:∀x y,(Z x==Z y)=(x==y):=λx y=>by
   by_cases h:x=y;.simp[h]
   .rw[beq_eq_false_iff_ne.mpr h,beq_eq_false_iff_ne.mpr (λe=>h (R.inj _ _ e))]
  cases a<;>cases b<;>first|rfl|exact hi _ _
 have c:∀r,oI Z r=.chan r:=λr=>by cases r with
  |none=>rfl
  |some k=>show Z.s k=_;rw[R.sub,(G.id j).1]
 intro n;induction n with
 |zero=>intro a b;cases a<;>cases b<;>simp only[cU,cD,eK,bK,dH,cM,bT,dY,cO,dR,cW,cV,cJ,dK,dQ,c,Instr.sameBits,g,d]
 |succ n i=>intro a b;cases a<;>cases b<;>simp only[cU,cD,eK,bK,dH,cM,bT,dY,cO,dR,cW,cV,cJ,dK,dQ,c,Instr.sameBits,g,d,i];rename_i x y;rw[Ks,Ks];congr 1;rw[sX,sX,List.zip_map,List.all_map];congr 1;funext ⟨u,v⟩;exact i u v
omit F in
theorem Dh(c:G.strict=true)(a b):SR p p' Z (VR Z) (Instr.keyThatStays a b) (Instr.keyThatStays (bC Z a) (bC Z b)):=by unfold Instr.keyThatStays;rw[Jl R c];refine eU (aM rfl) ?_;refine aK iJ ?_;rintro _ n rfl;refine aM ?_;split<;>rfl
theorem Jm(d:G.strict=true)(t)(a:zO p t=true)(m k v):SR p p' Z (λ_ _=>True) (Instr.mapUpdate t m k v) (Instr.mapUpdate t (bC Z m) (bC Z k) (bC Z v)):=by
 refine aK (aR F t) ?_;rintro _ u ⟨rfl,b⟩;cases u<;>first|exact aL rfl|skip
 rename_i g e;cases m<;>first|exact aL rfl|skip
 rename_i r;cases r with
 |none=>simp;exact bM F _
 |some r=>
   simp;refine aK iI ?_;rintro o _ rfl;cases o<;>first|exact aL rfl|skip
   rename_i es c;refine aK (lL F _ _ 5 _ _ (jW a b)) ?_;intro _ _ _;simp;refine aK (qI F R g (jW a b) k es.toList) ?_;rintro f _ rfl;cases f with
   |none=>have:=gT (p:=p) (p':=p') (Z:=Z) (r:=r) (o:=.map (es.push {key:=k,val:=v,born:=c}) (c+1)) rfl;simpa[dW,mM,TM]using this
   |some f=>
     have⟨i,x⟩:=f;refine aK (Q:=VR Z) ?_ ?_;.have:=Dh (p:=p) (p':=p') R d (((es[i]?).map (·.key)).getD k) k;cases h:es[i]? with
      |none=>simpa[h]using this
      |some y=>simpa[h,mM]using this
     .rintro key _ rfl;have:=gT (p:=p) (p':=p') (Z:=Z) (r:=r) (o:=.map (es.modify i λe=>{e with key:=key,val:=v}) c) rfl;have h:dW Z (.map (es.modify i λe=>{e with key:=key,val:=v}) c)=.map ((es.map (mM Z)).modify i λe=>{e with key:=bC Z key,val:=bC Z v}) c:=by simp[dW];exact EO (mM Z) (λe=>{e with key:=key,val:=v}) (λe=>{e with key:=bC Z key,val:=bC Z v}) (λx=>rfl) es i
      rwa [h]at this
end
section
variable{G:Gs}{p p':Program}{Z:Pi}(F:Fit G p p')(R:Rn G Z)
include F R
theorem TP(b t args)(a:(b[0]?).all (zO p)=true):SR p p' Z (VR Z) (Builtin.delete_ b t args) (Builtin.delete_ b t (args.map (bC Z))):=by
 unfold Builtin.delete_;simp;cases g:b[0]?<;>first|exact aL rfl|skip
 rw[g]at a;cases args[0]?<;>first|exact aL rfl|skip
 cases args[1]?<;>first|exact aL rfl|skip
 rename_i t m k;refine aK (aR F t) ?_;rintro _ u ⟨rfl,d⟩;cases u<;>first|exact aL rfl|skip
 rename_i j e;cases m<;>first|exact aL rfl|skip
 rename_i r;cases r with
 |none=>simp;exact aK (lL F _ _ 5 _ _ (jW a d)) (λ_ _ _=>aM (by simp[VR]))
 |some r=>
   simp;refine aK iI ?_;rintro o _ rfl;cases o<;>first|exact aL rfl|skip
   rename_i es c;refine aK (Q:=λ_ _=>True) (by
    have:(es.map (mM Z)).isEmpty=es.isEmpty:=by simp[Array.isEmpty]
    rw[this];exact lL F _ _ 5 _ _ (jW a d)) ?_
   intro _ _ _;simp;refine aK (qI F R j (jW a d) k es.toList) ?_;rintro f _ rfl;cases f with
   |none=>have:=gT (p:=p) (p':=p') (Z:=Z) (r:=r) (o:=.map es c) rfl;exact aK this (λ_ _ _=>aM (by simp[VR]))
   |some f=>
     have⟨i,x⟩:=f;have:=gT (p:=p) (p':=p') (Z:=Z) (r:=r) (o:=.map (es.eraseIdxIfInBounds i) c) rfl;have h:(es.eraseIdxIfInBounds i).map (mM Z)=(es.map (mM Z)).eraseIdxIfInBounds i:=by grind
     simp[dW,h]at this;exact aK this (λ_ _ _=>aM (by simp[VR]))
omit R in
theorem XW(t x):SR p p' Z (VR Z) (Instr.range t x) (Instr.range t (bC Z x)):=by
 refine aK (aR F t) ?_;rintro _ u ⟨rfl,e⟩;have fin:∀o,cN p o=true->SR p p' Z (VR Z) (newObj o>>=λr=>pure (.pointer (some ⟨r,0,none⟩))) (newObj (dW Z o)>>=λr=>pure (.pointer (some ⟨r,0,none⟩))):=λo d=>by refine aK (qm d) ?_;rintro r _ rfl;exact aM (by simp[VR])
 cases u with
 |string=>
   cases x<;>first|exact aL rfl|skip
   simp;exact fin (.stringIter _ 0) rfl
 |map a b=>
   cases x<;>first|exact aL rfl|skip
   rename_i r;cases r with
   |none=>simp;exact fin (.mapIter none 0 #[] 0) rfl
   |some r=>
     simp;refine aK iI ?_;rintro o _ rfl;cases o<;>first|exact aL rfl|skip
     rename_i es c;exact fin (.mapIter (some r) c #[] c) rfl
 |_=>exact aL rfl
omit F R in
theorem vY(f:Nat->Bool)(es:Array MapEntry):(es.map (mM Z)).filter (λe=>f e.born)=(es.filter (λe=>f e.born)).map (mM Z):=by rw[Array.filter_map];rfl
omit F R in
theorem XX(f:Nat->Bool)(es:Array MapEntry):(es.map (mM Z)).all (λe=>f e.born)=es.all (λe=>f e.born):=by rw[Array.all_map];rfl
omit F R in
theorem abp(i s t):SR p p' Z (VR Z) (Instr.next i s t) (Instr.next (bC Z i) s t):=by
 cases i<;>first|exact aL rfl|skip
 rename_i a;cases a with
 |none=>exact aL rfl
 |some a=>have⟨r,off,sp⟩:=a;cases off with
   |succ n=>exact aL rfl
   |zero=>simp;refine aK iI ?_;rintro o _ rfl;cases o with
     |stringIter b pos=>cases s with
       |false=>exact aL rfl
       |true=>refine eU ?_ (aM (by simp[VR]));have:=gT (p:=p) (p':=p') (Z:=Z) (r:=r) (o:=.stringIter b (pos+(Utf8.decode b pos).2)) rfl;exact aK this (λ_ _ _=>aM (by simp[VR,goInt]))
     |mapIter m since seen last=>cases s with
       |true=>cases m<;>exact aL rfl
       |false=>cases m with
         |none=>exact aM (by simp[VR])
         |some m=>
           refine aK iI ?_;rintro o _ rfl;cases o<;>first|exact aL rfl|skip
           rename_i es c;dsimp[dW];have f:=XX (Z:=Z) (λn=>decide (n>=last)) es;have g:(es.map (mM Z)).isEmpty=es.isEmpty:=by simp[Array.isEmpty]
           rw[f,g];refine eU (aL rfl) ?_;have h:=vY (Z:=Z) (λn=>!seen.contains n) es;rw[h];have j:=vY (Z:=Z) (λn=>decide (n<since)) (es.filter λe=>!seen.contains e.born);have k:=vY (Z:=Z) (λn=>decide (n>=since)) (es.filter λe=>!seen.contains e.born);rw[j,k];generalize(es.filter λe=>!seen.contains e.born).filter (λe=>decide (e.born<since))=old,(es.filter λe=>!seen.contains e.born).filter (λe=>decide (e.born>=since))=new;have l:((if(old.map (mM Z)).isEmpty=true then#[none]else#[])++Array.map some (old.map (mM Z)++new.map (mM Z)))=((if old.isEmpty=true then#[none]else#[])++Array.map some (old++new)).map (Option.map (mM Z)):=by
            have:(old.map (mM Z)).isEmpty=old.isEmpty:=by simp[Array.isEmpty]
            rw[this];split<;>simp[QJ]
           rw[l];generalize((if old.isEmpty=true then#[none]else#[])++Array.map some (old++new))=d;rw[Ks];refine aK iJ ?_;rintro _ n rfl;rw[kZ];cases d[n]? with
           |none=>exact aL rfl
           |some e=>cases e with
             |none=>exact aM (by simp[VR])
             |some e=>have:=gT (p:=p) (p':=p') (Z:=Z) (r:=r) (o:=.mapIter (some m) since (seen.push e.born) c) rfl;exact aK this (λ_ _ _=>aM (by simp[VR,mM]))
     |_=>exact aL rfl
omit R in
theorem O7(t x):SR p p' Z (VR Z) (Instr.makeMap t x) (Instr.makeMap t (x.map (bC Z))):=by
 have fin:SR p p' Z (VR Z) (newObj (.map #[] 0)>>=λr=>pure (.map (some r))) (newObj (.map #[] 0)>>=λr=>pure (.map (some r))):=by refine aK (Q:=λr a=>a=Z r) (by have:=qm (p:=p) (p':=p') (Z:=Z) (o:=.map #[] 0) rfl;simpa[dW]using this) ?_;rintro r _ rfl;exact aM (by simp[VR])
 cases x with
 |none=>exact fin
 |some x=>
   refine aK (aR F t) ?_;rintro _ u ⟨rfl,b⟩;cases u<;>first|exact aL rfl|skip
   refine aK (vX x) ?_;rintro _ n rfl;exact fin
omit F R in
theorem Bg(f:Value->Value->Sem Value)(h:∀a b,SR p p' Z (VR Z) (f a b) (f (bC Z a) (bC Z b))):∀(l:List Value) (a:Value),SR p p' Z (VR Z) (l.foldlM f a) ((l.map (bC Z)).foldlM f (bC Z a))
 |[],a=>by simp;exact aM rfl
 |b::l,a=>by refine aK (h a b) ?_;rintro v _ rfl;exact Bg f h l v
omit F R in
theorem abq(a b):SR p p' Z (VR Z) (Builtin.min2 a b) (Builtin.min2 (bC Z a) (bC Z b)):=by cases a with
 |int k x=>cases b with
   |int k' y=>simp;exact aM (by simp[VR])
   |pointer a=>cases a<;>exact aL rfl
   |_=>exact aL rfl
 |float k x=>cases b with
   |float k' y=>
     simp[Builtin.min2];split;.refine aK iJ ?_;rintro _ n rfl;exact aM (by simp[VR])
     all_goals exact aM (by simp[VR])
   |pointer a=>cases a<;>exact aL rfl
   |_=>exact aL rfl
 |string x=>cases b with
   |string y=>simp;refine aK ((sj (Z:=Z) .leq x y).val) ?_;rintro v _ rfl;refine aK (A4 v) ?_;rintro _ b rfl;exact aM (by simp[VR])
   |pointer a=>cases a<;>exact aL rfl
   |_=>exact aL rfl
 |pointer a=>cases a<;>cases b<;>first|exact aL rfl|(rename_i c;cases c<;>exact aL rfl)
 |_=>cases b<;>first|exact aL rfl|(rename_i c;cases c<;>exact aL rfl)
omit F R in
theorem abr(a b):SR p p' Z (VR Z) (Builtin.max2 a b) (Builtin.max2 (bC Z a) (bC Z b)):=by cases a with
 |int k x=>cases b with
   |int k' y=>simp;exact aM (by simp[VR])
   |pointer a=>cases a<;>exact aL rfl
   |_=>exact aL rfl
 |float k x=>cases b with
   |float k' y=>
     simp[Builtin.max2];split;.refine aK iJ ?_;rintro _ n rfl;exact aM (by simp[VR])
     all_goals exact aM (by simp[VR])
   |pointer a=>cases a<;>exact aL rfl
   |_=>exact aL rfl
 |string x=>cases b with
   |string y=>simp;refine aK ((sj (Z:=Z) .geq x y).val) ?_;rintro v _ rfl;refine aK (A4 v) ?_;rintro _ b rfl;exact aM (by simp[VR])
   |pointer a=>cases a<;>exact aL rfl
   |_=>exact aL rfl
 |pointer a=>cases a<;>cases b<;>first|exact aL rfl|(rename_i c;cases c<;>exact aL rfl)
 |_=>cases b<;>first|exact aL rfl|(rename_i c;cases c<;>exact aL rfl)
omit F R in
theorem aep(a t args):SR p p' Z (VR Z) (Builtin.min_ a t args) (Builtin.min_ a t (args.map (bC Z))):=by unfold Builtin.min_;rw[sX];cases args.toList with
 |nil=>exact aL rfl
 |cons x l=>exact Bg _ abq l x
omit F R in
theorem aeq(a t args):SR p p' Z (VR Z) (Builtin.max_ a t args) (Builtin.max_ a t (args.map (bC Z))):=by unfold Builtin.max_;rw[sX];cases args.toList with
 |nil=>exact aL rfl
 |cons x l=>exact Bg _ abr l x
end
section
variable{G:Gs}{p p':Program}{Z:Pi}(F:Fit G p p')(R:Rn G Z)
section
omit F R
theorem XY(i):SR p p' Z (VR Z) (Instr.entry i) (Instr.entry (bC Z i)):=by
 cases i<;>first|exact aL rfl|skip
 rename_i a;cases a with
 |none=>exact aL rfl
 |some a=>have⟨r,off,sp⟩:=a;cases off with
   |succ n=>exact aL rfl
   |zero=>
     simp;refine aK iI ?_;rintro o _ rfl;cases o<;>first|exact aL rfl|skip
     rename_i m since seen last;cases m with
     |none=>exact aL rfl
     |some m=>dsimp[dW];cases seen.back? with
       |none=>exact aL rfl
       |some b=>
         refine aK iI ?_;rintro o _ rfl;cases o<;>first|exact aL rfl|skip
         rename_i es c;dsimp[dW];split;.exact aL rfl
         .have:(es.map (mM Z)).find? (λe=>e.born==b)=(es.find? (λe=>e.born==b)).map (mM Z):=by rw[Array.find?_map];rfl
          rw[this];cases es.find? (λe=>e.born==b)with
          |none=>exact aL rfl
          |some e=>exact aM (by simp[VR,mM])
theorem zY:∀n a acc,SR p p' Z (λx c=>c=x) (loadBytes a acc n) (loadBytes (cE Z a) acc n)
 |0,a,acc=>aM rfl
 |n+1,a,acc=>by refine aK Dz ?_;rintro v _ rfl;cases v with
   |int k b=>rw[cU];cases k with
     |u8=>have:=zY n (a.add 1) (acc.push b.toNat.toUInt8);exact this
     |_=>exact aL rfl
   |_=>exact aL rfl
end
include F
theorem GF(d):∀t u,sameLayout p' d t u=sameLayout p d t u:=by induction d with
 |zero=>intro t u;rfl
 |succ d a=>intro t u;simp[sameLayout,F.under,XP F,oh F,a]
theorem XZ(fits:TypeId->Bool)(d):∀e c o n,rowAt p' fits d e c o n=rowAt p fits d e c o n:=by induction d with
 |zero=>intro e c o n;rfl
 |succ d a=>intro e c o n;simp[rowAt,F.under,F.cellsOf,oh F,a]
theorem TQ(d):∀e c o u n,liesAt p' d e c o u n=liesAt p d e c o u n:=by induction d with
 |zero=>intro e c o u n;rfl
 |succ d a=>intro e c o u n;simp[liesAt,F.under,F.depth,GF F,XZ F,a]
theorem EP(a u n):SR p p' Z (λx b=>b=x) (variablesAt a u n) (variablesAt (cE Z a) u n):=by refine iO ?_;refine aK od ?_;rintro _ s rfl;cases s with
 |none=>exact aM rfl
 |some s=>obtain⟨e,c⟩:=s;exact aM (by simp[F.depth,F.cellsOf,TQ F])
theorem aer(a t args)(b:(a[0]?).all (okL p)=true):SR p p' Z (VR Z) (Builtin.cap_ a t args) (Builtin.cap_ a t (args.map (bC Z))):=by unfold Builtin.cap_;rw[kZ];cases f:a[0]? with
 |none=>exact aL rfl
 |some t=>rw[f,QK]at b;cases args[0]? with
   |none=>exact aL rfl
   |some x=>refine aK (aR F t) ?_;rintro _ d ⟨rfl,c⟩;cases d with
     |array n e=>exact aM (by simp[VR,goInt])
     |pointer e=>refine aK (aR F e) ?_;rintro _ d ⟨rfl,_⟩;cases d<;>first|exact aL rfl|exact aM (by simp[VR,goInt])
     |slice e=>cases x<;>first|exact aL rfl|(rw[bT];exact aM (by simp[VR,goInt]))
     |chan k e=>simp[okL,c]at b
     |_=>exact aL rfl
theorem X3(b t args)(h:∀s,b[0]?=some s->s<p.types.size):SR p p' Z (VR Z) (Builtin.clear_ b t args) (Builtin.clear_ b t (args.map (bC Z))):=by unfold Builtin.clear_;rw[kZ];cases i:b[0]? with
 |none=>exact aL rfl
 |some t=>have g:=h t i;cases args[0]? with
   |none=>exact aL rfl
   |some x=>refine aK (aR F t) ?_;rintro _ d ⟨rfl,f⟩;have fin:SR p p' Z (VR Z) (Pure.pure (.tuple #[]):Sem Value) (Pure.pure (.tuple #[])):=aM (by simp[VR]);cases x with
     |map r=>cases r with
       |none=>rw[dY];cases d<;>exact fin
       |some r=>rw[dY,dM];cases d;all_goals
          refine aK iI ?_;rintro o _ rfl;cases o<;>first|exact aL rfl|skip
          rename_i es c;have:=gT (p:=p) (p':=p') (Z:=Z) (r:=r) (o:=.map #[] c) rfl;exact aK (Q:=λ_ _=>True) (by simpa[dW]using this) (λ_ _ _=>fin)
     |slice a n c=>rw[bT];cases a with
       |none=>cases d<;>exact fin
       |some a=>cases n with
         |zero=>cases d<;>exact fin
         |succ n=>cases d with
           |slice e=>
             refine aK (gI F (DC F g f)) ?_;rintro _ z ⟨rfl,j⟩;have k:z.cells.map (bC Z)=z.cells:=by rw[<-mC,j]
             have:=py (p:=p) (p':=p') (Z:=Z) a (Builtin.zeroCells z.cells (n+1)).toList 0;rw[<-sX,pz k]at this;exact aK this (λ_ _ _=>fin)
           |_=>exact aL rfl
     |_=>cases d<;>exact aL rfl
include R in
theorem Di(c t args):SR p p' Z (VR Z) (Builtin.unsafeString_ c t args) (Builtin.unsafeString_ c t (args.map (bC Z))):=by
 have main:∀(a:Option Addr) (l:Value),SR p p' Z (VR Z) (Builtin.unsafeString_ c t #[.pointer a,l]) (Builtin.unsafeString_ c t #[.pointer (a.map (cE Z)),bC Z l]):=λa l=>by refine aK (Q:=λa b=>b=a) (vX l) ?_;rintro _ n rfl;cases c[0]? with
  |none=>exact aL rfl
  |some pt=>
    dsimp only;split;.exact iB F R _
    .split;.exact aL rfl
     .cases a with
      |none=>refine eU (aM (by simp[VR])) (bM F _)
      |some a=>refine eU (aM (by simp[VR])) ?_;refine aK (Hu F pt) ?_;rintro _ e rfl;refine aK (EP F a e _) ?_;rintro _ b rfl;refine eU ?_ (aL rfl);refine aK (zY _ a _) ?_;rintro _ s rfl;refine aK Ht ?_;intro _ _ _;exact aM (by simp[VR])
 have⟨l⟩:=args;match l with
 |[]=>exact aL rfl
 |[x]=>cases x<;>exact aL rfl
 |[.pointer a,y]=>have:=main a y;simpa using this
 |x::y::z::l=>cases x<;>exact aL rfl
 |[.bool _,_]|[.int ..,_]|[.float ..,_]|[.complex ..,_]|[.string _,_]|[.slice ..,_]|[.map _,_]|[.chan _,_]|[.func ..,_]|[.nilFunc,_]|[.iface ..,_]|[.nilIface,_]|[.agg _,_]|[.tuple _,_]=>exact aL rfl
end
def X4(Z:Pi):Place->Place
 |.val v=>.val (bC Z v)
 |.var a=>.var (cE Z a)
section
variable{G:Gs}{p p':Program}{Z:Pi}(F:Fit G p p')(R:Rn G Z)
include F
theorem yG(t x):SR p p' Z (VR Z) (x.get t) ((X4 Z x).get t):=by cases x with
 |val v=>exact aM rfl
 |var a=>exact ug F t a
include R
theorem Bh:∀l t x,SR p p' Z (λa b=>b=(a.1,X4 Z a.2)) (follow l t x) (follow l t (X4 Z x))
 |[],t,x=>aM rfl
 |s::l,t,x=>by
   have c:=Bh l;refine aK (aR F s.struct) ?_;rintro _ u ⟨rfl,-⟩;cases u<;>first|exact aL rfl|skip
   rename_i d;dsimp only;cases d[s.index]? with
   |none=>exact aL rfl
   |some f=>
     refine eU ?_ ?_;.refine aK (yG F t x) ?_;rintro v _ rfl;refine aK (A5 F R v) ?_;rintro a _ rfl;refine aK (sf F a f) ?_;rintro b _ rfl;exact c f.type (.var b)
     .cases x with
      |var a=>refine aK (sf F a f) ?_;rintro b _ rfl;exact c f.type (.var b)
      |val v=>cases v with
        |agg cs=>simp[X4];refine aK (lC F f.type cs f.offset) ?_;rintro v _ rfl;exact c f.type (.val v)
        |_=>exact aL rfl
theorem O8(t v n):SR p p' Z (VR Z) (Builtin.ssaWrapNilChk_ #[t] t #[v,strVal "",strVal n]) (Builtin.ssaWrapNilChk_ #[t] t #[bC Z v,strVal "",strVal n]):=by cases v with
 |pointer a=>cases a with
   |some a=>rw[bK];exact aM (show Value.pointer (some (cE Z a))=bC Z (.pointer (some a))by simp)
   |none=>
     rw[bK];refine aK iJ ?_;rintro _ n rfl;refine eU (iB F R _) ?_;refine aK (aR F t) ?_;rintro _ u ⟨rfl,-⟩;cases u<;>first|exact aL rfl|skip
     refine aK (fX F _) ?_;rintro _ i ⟨rfl,-⟩;have⟨desc,_,_,_,_,_,_,_,_,_⟩:=i;cases desc<;>first|exact aL rfl|skip
     dsimp only;split
     .split;.exact bM F _
      .exact aL rfl
     .exact aL rfl
 |_=>exact aL rfl
theorem yg(t x b n):SR p p' Z (VR Z) (receiverAt t x b n) (receiverAt t (X4 Z x) b n):=by
 refine aK (aR F t) ?_;rintro _ u ⟨rfl,_⟩;by_cases c:∃e,u=.pointer e;.obtain⟨e,rfl⟩:=c;cases b with
  |true=>cases x<;>exact yG F t _
  |false=>
    have tail:∀v,SR p p' Z (VR Z) (asAddr v>>=λa=>loadVar e a) (asAddr (bC Z v)>>=λa=>loadVar e a):=λv=>by refine aK (A5 F R v) ?_;rintro a _ rfl;exact ug F e a
    cases n with
    |none=>
      cases x<;>
      .refine aK (yG F t _) ?_;rintro v _ rfl;exact aK (Q:=VR Z) (aM rfl) (by rintro v _ rfl;exact tail v)
    |some n=>
      cases x<;>
      .refine aK (yG F t _) ?_;rintro v _ rfl;refine aK (O8 F R t v n) ?_;rintro v _ rfl;exact tail v
 .cases b with
  |true=>cases x with
    |var a=>cases u<;>first|exact aM (by simp[VR])|exact absurd ⟨_,rfl⟩ c
    |val v=>cases u<;>first|exact aL rfl|exact absurd ⟨_,rfl⟩ c
  |false=>cases x<;>cases u<;>first|exact yG F t (.val _)|exact yG F t (.var _)|exact absurd ⟨_,rfl⟩ c
theorem ER(t v path b):SR p p' Z (VR Z) (receiverVia t v path b) (receiverVia t (bC Z v) path b):=by refine aK (Bh F R path.toList t (.val v)) ?_;rintro⟨t,x⟩ _ rfl;exact yg F R t x b none
theorem Hz:∀n t v s,SR p p' Z (λa b=>b=(a.1,bC Z a.2)) (method n t v s) (method n t (bC Z v) s)
 |0,_,_,_=>aL rfl
 |n+1,t,v,s=>by
   refine aK (fX F _) ?_;rintro _ i ⟨rfl,_⟩;dsimp only;split
   .rename_i m _;refine aK (Bh F R m.path.toList t (.val v)) ?_;rintro⟨t,x⟩ _ rfl;split;.refine aK (yG F t x) ?_;rintro v _ rfl;cases v with
     |iface c d=>simp;exact Hz n c d s
     |nilIface=>simp;exact bM F _
     |_=>exact aL rfl
    .refine aK (yg F R t x _ _) ?_;rintro v _ rfl;exact aM rfl
   .exact aL rfl
omit R in
theorem vZ:∀l t x,SR p p' Z (λa b=>b=a.map λc=>(c.1,c.2.map (bC Z))) (followBlind l t x) (followBlind l t (x.map (bC Z)))
 |[],t,x=>aM rfl
 |s::l,t,x=>by
   have d:=vZ l;refine aK (aR F s.struct) ?_;rintro _ u ⟨rfl,-⟩;cases u<;>first|exact aL rfl|skip
   rename_i e;dsimp only;cases e[s.index]? with
   |none=>exact aL rfl
   |some f=>cases s.deref with
     |true=>cases x with
       |none=>exact aM rfl
       |some v=>cases v with
         |pointer a=>cases a with
           |none=>simp;exact aM rfl
           |some a=>simp;exact d f.type none
         |_=>exact aL rfl
     |false=>cases x with
       |none=>exact d f.type none
       |some v=>cases v with
         |agg cs=>simp;refine aK (lC F f.type cs f.offset) ?_;rintro v _ rfl;exact d f.type (some v)
         |_=>exact aL rfl
omit R in
theorem CE:∀n t v s,SR p p' Z (λa b=>b=a) (nilAhead n t v s) (nilAhead n t (bC Z v) s)
 |0,_,_,_=>aM rfl
 |n+1,t,v,s=>by
   refine aK (fX F _) ?_;rintro _ i ⟨rfl,_⟩;split;.rename_i m _;refine aK (vZ F m.path.toList t (some v)) ?_;rintro r _ rfl;cases r with
    |error r=>exact aM rfl
    |ok r=>have⟨t,x⟩:=r;simp[Except.map];cases m.func with
      |none=>cases x with
        |none=>exact aM rfl
        |some v=>cases v with
          |iface c d=>simp;exact CE n c d s
          |nilIface=>simp;exact aM rfl
          |_=>exact aL rfl
      |some f=>have⟨f,b⟩:=f;cases b with
        |true=>exact aM rfl
        |false=>
          refine aK (aR F t) ?_;rintro _ u ⟨rfl,_⟩;cases u<;>first|exact aM rfl|skip
          cases x with
          |none=>exact aM rfl
          |some v=>cases v with
            |pointer a=>cases a<;>(simp;exact aM rfl)
            |chan r=>rw[dM,cO];obtain h|⟨_,h⟩|⟨_,_,_,h⟩|⟨_,h⟩|⟨_,h⟩|⟨_,_,_,h⟩:=fT Z r<;>rw[h]<;>exact aM rfl
            |_=>simp;exact aM rfl
   .exact aL rfl
end
def sx(Z:Pi):Next->Next
 |.value v=>.value (bC Z v)
 |.enter f a=>.enter f (a.map (bC Z))
 |.round l f t a b=>.round (Z l) f (t.map (bC Z)) a b
 |.defer d=>.defer (mS Z d)
 |n=>n
def okN(p:Program):Next->Bool
 |.value _|.skip|.enter ..|.recover=>true
 |.round _ f _ a b=>eX p a&&eX p b&&yA p f
 |.defer d=>okD p d
 |_=>false
abbrev NR(p:Program)(Z:Pi)(n n':Next):Prop:=n'=sx Z n/\okN p n=true
def kV(G:Gs)(p p':Program):Prop:=∀Z,Rn G Z->∀f args,SR p p' Z (NR p Z) (callFunc f args) (callFunc f (args.map (bC Z)))
section
variable{G:Gs}{p p':Program}{Z:Pi}(F:Fit G p p')(R:Rn G Z)
section
omit F R
theorem o9(l):SR p p' Z (λa b=>b=Ty Z a/\eX p a.assign=true/\eX p a.body=true/\a.pending.all (eX p)=true/\yA p a.fn=true) (Instr.getLoop l) (Instr.getLoop (Z l)):=by
 refine aK yF ?_;rintro o _ ⟨rfl,h⟩;cases o<;>first|exact aL rfl|skip
 simp[cN]at h;exact aM ⟨rfl,h.1.1.1,h.1.1.2,h.1.2,h.2⟩
theorem Jn(f t c){a b}(d:eX p a=true)(e:eX p b=true)(i:yA p f=true)(l):SR p p' Z (λx y=>y=(Z x.1,x.2.map (mS Z))/\x.2.all (okD p)=true) (Instr.enterLoop f t c a b l) (Instr.enterLoop f (t.map (bC Z)) c a b (l.map Z.f)):=by
 have tail:∀(r:Nat) (ds:List Deferred),ds.all (okD p)=true->SR p p' Z (λx y=>y=(Z x.1,x.2.map (mS Z))/\x.2.all (okD p)=true) (newObj (.loop {state:=.ready,pending:=none,fn:=f,tmps:=t,params:=c,assign:=a,body:=b,defers:=r})>>=λx=>pure (x,ds))
  (newObj (.loop {state:=.ready,pending:=none,fn:=f,tmps:=t.map (bC Z),params:=c,assign:=a,body:=b,defers:=Z r})>>=λx=>pure (x,ds.map (mS Z))):=λr ds g=>by
  refine aK (Q:=λx y=>y=Z x) ?_ ?_;.exact qm (o:=.loop {state:=.ready,pending:=none,fn:=f,tmps:=t,params:=c,assign:=a,body:=b,defers:=r}) (by simp[cN,d,e,i])
  .rintro x _ rfl;exact aM ⟨rfl,g⟩
 cases l with
 |none=>refine aK (Q:=λx y=>y=Z x) (by have:=qm (p:=p) (p':=p') (Z:=Z) (o:=.deferred (some [])) rfl;simpa[dW]using this) ?_;rintro r _ rfl;refine aK (Q:=λx y=>y=(Z x.1,x.2.map (mS Z))/\x.2.all (okD p)=true) (aM ⟨by simp[mS,Dc],rfl⟩) ?_;rintro⟨r,ds⟩ _ ⟨rfl,h⟩;exact tail r ds h
 |some l=>refine aK (o9 l) ?_;rintro r _ ⟨rfl,-⟩;refine aK (Q:=λx y=>y=(Z x.1,x.2.map (mS Z))/\x.2.all (okD p)=true) (aM ⟨rfl,rfl⟩) ?_;rintro⟨r,ds⟩ _ ⟨rfl,h⟩;exact tail r ds h
theorem X5(l:List (Tmp×Value)):∀t:Array Value,(l.foldl (λt (i,a)=>t.setIfInBounds i a) t).map (bC Z)=(l.map λ(i,a)=>(i,bC Z a)).foldl (λt (i,a)=>t.setIfInBounds i a) (t.map (bC Z)):=by induction l with
 |nil=>intro t;rfl
 |cons x l b=>intro t;simp only[Kv,kY,b];rw[Kr]
theorem X6(l args):SR p p' Z (NR p Z) (Instr.yield l args) (Instr.yield (Z l) (args.map (bC Z))):=by
 refine aK (o9 l) ?_;rintro r _ ⟨rfl,b,c,e,d⟩;have a:(args.map (bC Z)).size≠(Ty Z r).params.size↔args.size≠r.params.size:=by simp[Ty]
 simp only[a];refine eU (aL rfl) ?_;refine aM ⟨?_,by simp[okN,b,c,d]⟩;simp only[sx,Ty,VW,zo,sW];rw[<-VS,<-VS,X5];congr 1;simp[List.zip_map_right]
theorem X7{α β}{Q:α->β->Prop}(s):SR p p' Z Q (throw s) (throw s):=SR.halt rfl
theorem rR(l j)(d:j.all (eX p)=true):SR p p' Z (VR Z) (Instr.endRound l j) (Instr.endRound (Z l) j):=by refine aK (o9 l) ?_;rintro r _ ⟨rfl,a,b,e,c⟩;refine aK (Q:=λ_ _=>True) (gT (o:=.loop {r with state:=if j.isNone then .ready else .done,pending:=j}) (by simp[cN,a,b,c,d])) ?_;intro _ _ _;exact aM (by simp[VR])
theorem Dj(l d)(h:okD p d=true):SR p p' Z (λ_ _=>True) (Instr.deferInRound l d) (Instr.deferInRound (Z l) (mS Z d)):=by
 refine aK (o9 l) ?_;rintro r _ ⟨rfl,-⟩;refine aK yF ?_;rintro o _ ⟨rfl,a⟩;cases o<;>first|exact aL rfl|skip
 rename_i ds;cases ds with
 |none=>exact X7 _
 |some ds=>simp only[cN,QK]at a;exact gT (o:=.deferred (some (d::ds))) (by simp[cN,h,a])
theorem Dk(b):SR p p' Z (λx y=>y=x.map (mS Z)/\x.all (okD p)=true) (Instr.takeDeferred b) (Instr.takeDeferred (Z b)):=by
 refine aK yF ?_;rintro o _ ⟨rfl,a⟩;cases o<;>first|exact aL rfl|skip
 rename_i ds;cases ds with
 |none=>exact aL rfl
 |some ds=>refine aK (Q:=λ_ _=>True) (gT (o:=.deferred none) rfl) ?_;intro _ _ _;exact aM ⟨rfl,a⟩
end
include F R
theorem GG(l):SR p p' Z (λ_ _=>True) (Instr.beginRound l) (Instr.beginRound (Z l)):=by refine aK (o9 l) ?_;rintro r _ ⟨rfl,a,b,d,c⟩;refine aK (Q:=λ_ _=>True) (gT (o:=.loop {r with state:=.busy}) (by simp[cN,a,b,c,d])) ?_;intro _ _ _;have:(Ty Z r).state=r.state:=rfl;rw[this];cases r.state with
 |ready=>exact aM trivial
 |_=>exact bM F _
theorem Pb(l):SR p p' Z (λx y=>y=x/\x.all (eX p)=true) (Instr.endLoop l) (Instr.endLoop (Z l)):=by refine aK (o9 l) ?_;rintro r _ ⟨rfl,b,c,a,d⟩;refine eU (iB F R _) ?_;refine aK (Q:=λ_ _=>True) (gT (o:=.loop {r with state:=.exhausted}) (by simp[cN,b,c,d,a])) ?_;intro _ _ _;exact aM ⟨rfl,a⟩
theorem Pd{a b}(h:okB p a b=true)(t cs args):SR p p' Z (NR p Z) (builtin b a t cs args) (builtin b a t cs (args.map (bC Z))):=by
 have v:∀{s s':Sem Value},SR p p' Z (VR Z) s s'->SR p p' Z (NR p Z) (do pure (Next.value (<-s))) (do pure (Next.value (<-s'))):=λh=>by refine aK h ?_;rintro v _ rfl;exact aM ⟨rfl,rfl⟩
 cases b with
 |append=>exact v (TL F R a t args λs c=>by simpa[okB,c,OM]using h)
 |clear=>exact v (X3 F a t args λs c=>by simpa[okB,c,OM]using h)
 |cap=>exact v (aer F a t args h)
 |unsafeString=>exact v (Di F R a t args)
 |copy=>exact v (abo F a t args)
 |delete=>exact v (TP F R a t args h)
 |len=>exact v (aeo F a t args h)
 |max=>exact v (aeq a t args)
 |min=>exact v (aep a t args)
 |panic=>
   refine v ?_;have:(args.map (bC Z)).getD 0 .nilIface=bC Z (args.getD 0 .nilIface):=by rw[G0,G0,kZ];cases args[0]?<;>simp
   rw[this];exact LJ F R _
 |recover=>exact aM ⟨rfl,rfl⟩
 |_=>exact absurd h (by simp[okB])
variable(C:kV G p p')
include C
theorem sy(v s args):SR p p' Z (NR p Z) (callMethod v s args) (callMethod (bC Z v) s (args.map (bC Z))):=by unfold callMethod;cases v with
 |iface t v=>simp;refine iO ?_;rw[F.types];refine aK (Hz F R _ t v s) ?_;rintro⟨f,x⟩ _ rfl;have:=C Z R f (#[x]++args);simpa using this
 |nilIface=>simp;exact bM F _
 |_=>exact aL rfl
theorem Bi{t args}(h:okD p {target:=t,args:=args}=true):SR p p' Z (NR p Z) (invoke t args) (invoke (Dc Z t) (args.map (bC Z))):=by unfold invoke;cases t with
 |nil=>exact bM F _
 |builtin b d t cs=>exact Pd F R h t cs args
 |collected r=>exact aL rfl
 |coroexit c=>exact absurd h (by simp[okD])
 |fn f cap=>cases f with
   |func f=>have:=C Z R f (args++cap);simpa[Dc,qw]using this
   |method n=>simp[Dc,qw];cases a:args[0]? with
     |none=>exact aL rfl
     |some x=>have:=sy F R C x n (args.extract 1 args.size);simpa using this
   |methodOf t n=>simp;cases a:args[0]? with
     |none=>exact aL rfl
     |some x=>refine aK (aR F t) ?_;rintro _ u ⟨rfl,-⟩;cases u with
       |interface ms=>have:=sy F R C x n (args.extract 1 args.size);simpa using this
       |_=>have:=sy F R C (.iface t x) n (args.extract 1 args.size);simpa using this
   |via t path f b=>simp;cases a:args[0]? with
     |none=>exact aL rfl
     |some x=>refine aK (ER F R t x path b) ?_;rintro v _ rfl;have:=C Z R f (#[v]++args.extract 1 args.size);simpa using this
   |yield l=>exact X6 l args
omit C F R in
theorem ET{ρ r8}(b:∀x,rN p x=true->r8 x=bC Z (ρ x)){a:Array Operand}(h:a.all (rN p)=true):a.map r8=(a.map ρ).map (bC Z):=by grind
omit C F R in
theorem EU(v args):SR p p' Z (λd d'=>d'=mS Z d/\okD p d=true) (Deferred.ofValue v args) (Deferred.ofValue (bC Z v) (args.map (bC Z))):=by cases v with
 |func f a b=>rw[dR];exact aM ⟨by simp[mS,Dc],rfl⟩
 |nilFunc=>rw[cW];exact aM ⟨by simp[mS,Dc],rfl⟩
 |_=>exact aL rfl
omit C F R in
theorem yH{ρ r8}(g:∀x,rN p x=true->r8 x=bC Z (ρ x)){c}(h:OO p c=true)(t):SR p p' Z (λd d'=>d'=mS Z d/\okD p d=true) (resolve ρ c t) (resolve r8 c t):=by unfold resolve;simp only[OO,dP]at h;have a:=ET g h.1;cases e:c.callee with
 |builtin b=>rw[e]at h;rw[a];exact aM ⟨rfl,h.2⟩
 |invoke r n=>rw[e]at h;dsimp only;rw[a,g r h.2];exact aM ⟨by simp[mS,Dc,qw],rfl⟩
 |value f=>rw[e]at h;dsimp only;rw[a,g f h.2];exact EU _ _
omit C F R in
theorem DD{ρ r8}(b:∀x,rN p x=true->r8 x=bC Z (ρ x)){a:Option Operand}(h:a.all (rN p)=true):a.map r8=(a.map ρ).map (bC Z):=by cases a with
 |none=>rfl
 |some a=>simp;exact b a (by simpa using h)
omit C F R in
theorem HA{ρ r8:Operand->Value}(c:∀x,rN p x=true->r8 x=bC Z (ρ x)){a:Array (Nat×Operand)}(h:(a.all λ(_,x)=>rN p x)=true):(a.map λ(i,x)=>(i,r8 x))=(a.map λ(i,x)=>(i,ρ x)).map λ(i,x)=>(i,bC Z x):=by rw[Array.map_map];refine Array.map_congr_left λx b=>?_;obtain⟨i,hi,rfl⟩:=Array.mem_iff_getElem.mp b;simp at h;simp;rw[c _ (h i hi)]
def afM:Op->Bool
 |.mapUpdate ..=>true
 |_=>false
theorem TR{ρ r8}(e:∀x,rN p x=true->r8 x=bC Z (ρ x)){o}(h:TB p o.op=true)(q:afM o.op=true->G.strict=true)(A:ρ (.const .nilIface)=.nilIface)(B:∀x,rN p x=true->nw Z (ρ x)):SR p p' Z (NR p Z) (execOp ρ o) (execOp r8 o):=by
 have v:∀{s s':Sem Value},SR p p' Z (VR Z) s s'->SR p p' Z (NR p Z) (do pure (Next.value (<-s))) (do pure (Next.value (<-s'))):=λh=>by refine aK h ?_;rintro v _ rfl;exact aM ⟨rfl,rfl⟩
 have u:∀{s s':Sem Unit},SR p p' Z (λ_ _=>True) s s'->SR p p' Z (NR p Z) (do s;pure Next.skip) (do s';pure Next.skip):=λh=>by refine aK h ?_;intro _ _ _;exact aM ⟨rfl,rfl⟩
 unfold execOp;cases D:o.op<;>rw[D]at h q<;>simp only[TB,Bool.and_eq_true,Bool.false_eq_true]at h<;>dsimp only;case move x=>rw[e x h];exact aM ⟨rfl,rfl⟩
 case assign x=>rw[e x h];exact aM ⟨rfl,rfl⟩
 case pick a b c=>rw[e a h.1.1,e b h.1.2,e c h.2];refine aK (A4 _) ?_;rintro _ t rfl;refine aM ⟨?_,rfl⟩;cases t<;>rfl
 case alloc t=>exact v (XH F (by simpa[OM]using h))
 case box t x=>rw[e x h];exact v (aem t _)
 case build t E=>rw[HA e h.2];exact v (XU F (by simpa[OM]using h.1) _)
 case buildSlice t n E=>rw[HA e h.2];exact v (GD F (by simpa[OM]using h.1) _ _)
 case load t x=>rw[e x h];exact v (TG F t _)
 case store t a b=>rw[e a h.1,e b h.2];exact u (OW F t _ _)
 case nilCheck x=>rw[e x h];cases ρ x with
  |pointer a=>cases a with
    |none=>simp;exact bM F _
    |some a=>simp;exact aM ⟨by simp[sx],rfl⟩
  |nilIface=>simp;exact bM F _
  |nilFunc=>simp;exact bM F _
  |func f a b=>cases f with
    |method n=>simp only[dR,qw,kZ];cases I:a[0]? with
      |none=>exact aM ⟨by simp[sx,qw],rfl⟩
      |some y=>simp only[dM];cases y with
        |nilIface=>simp;exact bM F _
        |iface t w=>simp only[cV];refine iO ?_;rw[F.types];refine aK (CE F _ t w n) ?_;rintro _ r rfl;refine eU (aL rfl) ?_;exact aM ⟨by simp[sx,qw],rfl⟩
        |chan r=>rw[cO];obtain h|⟨_,h⟩|⟨_,_,_,h⟩|⟨_,h⟩|⟨_,h⟩|⟨_,_,_,h⟩:=fT Z r<;>rw[h]<;>exact aM ⟨by simp[sx,qw],rfl⟩
        |_=>simp;exact aM ⟨by simp[sx,qw],rfl⟩
    |_=>simp;exact aM ⟨by simp[sx,qw],rfl⟩
  |chan r=>rw[cO];obtain h|⟨_,h⟩|⟨_,_,_,h⟩|⟨_,h⟩|⟨_,h⟩|⟨_,_,_,h⟩:=fT Z r<;>rw[h]<;>exact aM ⟨by simp[sx,h],rfl⟩
  |_=>simp only[eK,cU,dH,cM,cD,bT,dY,cV,dK,dQ];exact aM ⟨by simp[sx],rfl⟩
 case binOp op t a b s=>
  rw[e a h.1.1,e b h.1.2];refine v ?_;refine aK (O3 F op t a b _ _) ?_;intro _ _ _;exact XR F R op t _ _ h.2 λj=>by
   cases b<;>first|(cases j;done)|skip
   rename_i c;cases c<;>first|(cases j;done)|exact A
 case unOp op t x=>rw[e x h];exact v (XM op _)
 case convert s d x=>rw[e x h.2];exact v (O6 F s d _ h.1)
 case makeInterface t x=>rw[e x h];exact v (A8 F t _)
 case makeFunc f a b=>rw[ET e h.1.2,ET e h.2];refine v ?_;refine aM ?_;simp only[VR,dR];cases f<;>first|rfl|exact absurd h.1.1 S8
 case makeMap t r=>rw[DD e h];exact v (O7 F t _)
 case makeSlice t a b=>rw[e a h.1.2,e b h.2];exact v (Jk F R (by simpa[OM]using h.1.1) _ _)
 case slice t x l hi m=>rw[e x h.1.1.1,DD e h.1.1.2,DD e h.1.2,DD e h.2];exact v (OY F R t _ (B x h.1.1.1) _ _ _)
 case fieldAddr t x i=>rw[e x h];exact v (OX F t _ i)
 case field t x i=>rw[e x h];exact v (XT F t _ i)
 case indexAddr t a b=>rw[e a h.1,e b h.2];exact v (OZ F R t _ _)
 case index t a b=>rw[e a h.1,e b h.2];exact v (XK F R t _ _)
 case lookup t a b k=>rw[e a h.1.1.2,e b h.1.2];exact v (TN F R (by simpa[OM]using h.1.1.1) h.2 _ _ k)
 case mapUpdate t a b c=>rw[e a h.1.1.1,e b h.1.1.2,e c h.1.2];exact u (Jm F R (q rfl) t h.2 _ _ _)
 case range t x=>rw[e x h];exact v (XW F t _)
 case next x s=>rw[e x h];exact v (abp _ s _)
 case typeAssert x H z k=>rw[e x h.2];exact v (Gz F R _ H (by simpa[OM]using h.1) k)
 case entry x=>rw[e x h];exact v (XY _)
 case extract x i=>rw[e x h];exact v (O0 _ i)
 case call c=>refine aK (yH e h _) ?_;rintro⟨t,z⟩ _ ⟨rfl,g⟩;exact Bi F R C g
 case defer c=>refine aK (yH e h _) ?_;rintro d _ ⟨rfl,g⟩;exact aM ⟨rfl,g⟩
 case panic x=>rw[e x h];exact v (LJ F R _)
end
def mU(Z:Pi):Item->Item
 |.inRangeFunc l=>.inRangeFunc (Z l)
 |.endRangeFunc l=>.endRangeFunc (Z l)
 |.call d w r s=>.call (mS Z d) w r (s.map (bC Z))
 |.extern r a=>.extern r (a.map (bC Z))
 |i=>i
def CF(Z:Pi)(e:PanicEntry):PanicEntry:={e with v:=bC Z e.v}
def tC(Z:Pi):FrameMode->FrameMode
 |.panicking c=>.panicking (c.map (CF Z))
 |m=>m
def cX(Z:Pi)(fr:Frame):Frame:={fr with tmps:=fr.tmps.map (bC Z),todo:=fr.todo.map (mU Z),defers:=fr.defers.map (mS Z),mode:=tC Z fr.mode,roundOf:=fr.roundOf.map Z.f}
def CG(p:Program):Item->Bool
 |.code c|.inLoop c|.inScope c=>eX p c
 |.inRegion ops _=>ops.all λo=>TB p o.op
 |.call ..|.extern ..=>false
 |_=>true
def KU:FrameMode->Bool
 |.panicking c=>c.all (!·.goexit)
 |_=>true
def nu(p:Program)(fr:Frame):Bool:=fr.todo.all (CG p)&&fr.defers.all (okD p)&&yA p fr.fn&&fr.kind !=.report&&fr.kind !=.early&&KU fr.mode
def iC(fr:Frame):List Frame->Prop
 |[]=>fr.kind=.normal
 |c::cs=>iC c cs
def iC.kind{fr fr'}:∀{cs:List Frame},iC fr cs->fr'.kind=fr.kind->iC fr' cs
 |[],h,e=>e.trans h
 |_::_,h,_=>h
def LV:=@iC.kind
structure OkG(p:Program)(g:Goroutine):Prop where
 fr:nu p g.frame=true
 cs:g.callers.all (nu p)=true
 dy:g.dying=none
 of:g.offers=none
 st:g.status=.running
 bt:iC g.frame g.callers
section
variable{p:Program}{Z:Pi}
def eH{fr}:nu p fr=true↔fr.todo.all (CG p)=true/\fr.defers.all (okD p)=true/\yA p fr.fn=true/\fr.kind≠.report/\fr.kind≠.early/\KU fr.mode=true:=by simp[nu,and_assoc]
def LW(fr x)(h:rN p x=true):(cX Z fr).eval x=bC Z (fr.eval x):=by cases x with
 |tmp t=>simp[Frame.eval,cX];cases fr.tmps[t]?<;>simp
 |const v=>exact(EB Z v h).symm
 |global g=>cases h
 |func f=>simp[Frame.eval,qw]
def ny(fr v):(cX Z fr).finish (bC Z v)=cX Z (fr.finish v):=by have⟨fn,tmps,todo,defers,mode,kind,ro⟩:=fr;cases todo with
 |nil=>rfl
 |cons i k=>cases i with
   |inRegion ops l=>cases l with
     |nil=>rfl
     |cons i l=>simp[Frame.finish,cX,mU];cases(ops[i]?).bind (·.dst)with
       |none=>rfl
       |some d=>simp[Kr]
   |call d w r s=>simp[Frame.finish,cX,mU]
   |extern r a=>simp[Frame.finish,cX,mU]
   |_=>rfl
def pd{fr}(h:nu p fr=true)(v):nu p (fr.finish v)=true:=by rw[eH]at h|-;have⟨fn,tmps,todo,defers,mode,kind,ro⟩:=fr;cases todo with
 |nil=>exact h
 |cons i k=>cases i with
   |inRegion ops l=>cases l<;>exact h
   |call d w r s=>exact absurd h.1 (by simp[CG])
   |extern r a=>exact absurd h.1 (by simp[CG])
   |inRangeFunc l=>exact h
   |beginRound=>exact⟨(by have:=h.1;simp only[jN,dP]at this;exact this.2),h.2⟩
   |_=>exact h
def xd(fr a):(cX Z fr).raise (a.map (CF Z))=cX Z (fr.raise a):=by have⟨fn,tmps,todo,defers,mode,kind,ro⟩:=fr;cases mode<;>simp[Frame.raise,cX,tC]
def zZ{fr}(h:nu p fr=true)(i)(g:i.all (!·.goexit)=true):nu p (fr.raise i)=true:=by rw[eH]at h|-;have⟨fn,tmps,todo,defers,mode,kind,ro⟩:=fr;have⟨a,b,d,e,f,j⟩:=h;cases mode with
 |panicking c=>exact⟨a,b,d,e,f,by simp only[Frame.raise,KU,VX,dP];exact⟨g,j⟩⟩
 |_=>exact⟨a,b,d,e,f,g⟩
def lM(fr:Frame)(v):(fr.finish v).kind=fr.kind:=by have⟨fn,tmps,todo,defers,mode,kind,ro⟩:=fr;cases todo with
 |nil=>rfl
 |cons i k=>cases i with
   |inRegion ops l=>cases l<;>rfl
   |_=>rfl
def uj(fr:Frame)(a):(fr.raise a).kind=fr.kind:=by have⟨fn,tmps,todo,defers,mode,kind,ro⟩:=fr;cases mode<;>rfl
def uk(id):∀k,exitTo id (k.map (mU Z))=(exitTo id k).map (·.map (mU Z))
 |[]=>rfl
 |i::k=>by cases i<;>simp[mU,exitTo,uk id k];split<;>simp
def HB(id):∀k k',k.all (CG p)=true->exitTo id k=some k'->k'.all (CG p)=true
 |[],_,_,h=>by cases h
 |i::k,k',a,h=>by
   simp only[jN,dP]at a;have b:=HB id k k' a.2;cases i<;>simp[exitTo]at h<;>first|exact b h|skip
   split at h;.simp_all
   .exact b h
def um(l):∀k,gotoIn l (k.map (mU Z))=(gotoIn l k).map (·.map (mU Z))
 |[]=>rfl
 |i::k=>by cases i<;>simp[mU,gotoIn,um l k];split<;>simp[mU]
def uo(l):∀c d,eX p c=true->findLabel c l=some d->eX p d=true
 |.seq a b,d,e,h=>by simp[eX]at e;simp[findLabel]at h;cases f:findLabel a l with
   |some r=>rw[f]at h;cases h;simp[eX];exact⟨uo l a r e.1 f,e.2⟩
   |none=>rw[f]at h;exact uo l b d e.2 h
 |.label n,d,_,h=>by
   simp only[findLabel]at h;split at h;.cases h;rfl
   .cases h
 |.skip,_,_,h|.region ..,_,_,h|.cond ..,_,_,h|.block ..,_,_,h|.loop ..,_,_,h|.rangeFunc ..,_,_,h|.exit ..,_,_,h|.scope ..,_,_,h|.goto ..,_,_,h|.ret,_,_,h|.refuse ..,_,_,h=>by simp[findLabel]at h
def HE(l):∀k k',k.all (CG p)=true->gotoIn l k=some k'->k'.all (CG p)=true
 |[],_,_,h=>by cases h
 |i::k,k',a,h=>by
   simp only[jN,dP]at a;have b:=HE l k k' a.2;cases i<;>simp[gotoIn]at h<;>first|exact b h|skip
   split at h;.rename_i c r d;cases h;simp only[jN,dP];exact⟨uo l _ _ a.1 d,a.1,a.2⟩
   .exact b h
def LX(ops t):yielded ops (t.map (bC Z))=yielded ops t:=by funext j;simp[yielded];cases(ops[j]?).bind (·.dst)with
 |none=>rfl
 |some d=>simp;cases t[d]? with
   |none=>rfl
   |some v=>cases v with
     |chan r=>rw[dM,cO];obtain h|⟨_,h⟩|⟨_,_,_,h⟩|⟨_,h⟩|⟨_,h⟩|⟨_,_,_,h⟩:=fT Z r<;>rw[h]
     |_=>simp
def sB(tl):∀cs fr,iC fr cs->tryRecover fr (cs++tl)=(tryRecover fr cs).map λx=>(x.1,x.2++tl)
 |[],fr,h=>by have⟨fn,tmps,todo,defers,mode,kind,ro⟩:=fr;subst h;cases tl<;>rfl
 |c::cs,fr,h=>by have a:=sB tl cs c h;have⟨fn,tmps,todo,defers,mode,kind,ro⟩:=fr;cases kind with
   |deferred=>simp[tryRecover];split<;>rfl
   |wrapped=>simp[tryRecover,a];cases tryRecover c cs<;>rfl
   |_=>rfl
def oq:∀cs fr v a,iC fr cs->tryRecover fr cs=some (v,a)->iC fr a
 |[],fr,v,a,_,h=>by have⟨fn,tmps,todo,defers,mode,kind,ro⟩:=fr;cases kind<;>cases h
 |c::cs,fr,v,a,f,h=>by have j:=oq cs c;have⟨fn,tmps,todo,defers,mode,kind,ro⟩:=fr;cases kind with
   |deferred=>have⟨i,n,o,g,l,k,m⟩:=c;cases l with
     |panicking b=>cases b with
       |nil=>cases h
       |cons e b=>have⟨v,r,x⟩:=e;cases r<;>cases x<;>simp[tryRecover]at h;obtain⟨_,rfl⟩:=h;exact LV (fr:={fn:=i,tmps:=n,todo:=o,defers:=g,mode:=.panicking ({v:=v,recovered:=false}::b),kind:=k,roundOf:=m}) (cs:=cs) f rfl
     |_=>cases h
   |wrapped=>simp only[tryRecover]at h;cases d:tryRecover c cs with
     |none=>rw[d]at h;cases h
     |some r=>have⟨p,r⟩:=r;rw[d]at h;cases h;exact j p r f d
   |_=>cases h
abbrev agS(Z:Pi)(x:Value×List Frame):Value×List Frame:=(bC Z x.1,x.2.map (cX Z))
def yI(Z):∀cs fr,iC fr cs->iC (cX Z fr) (cs.map (cX Z))
 |[],_,h=>h
 |c::cs,_,h=>yI Z cs c h
def wa:∀cs fr,tryRecover (cX Z fr) (cs.map (cX Z))=(tryRecover fr cs).map (agS Z)
 |[],fr=>by have⟨fn,tmps,todo,defers,mode,kind,ro⟩:=fr;cases kind<;>rfl
 |c::cs,fr=>by have b:=wa cs c;have⟨fn,tmps,todo,defers,mode,kind,ro⟩:=fr;cases kind with
   |deferred=>have⟨g,j,k,f,d,h,i⟩:=c;cases d with
     |panicking a=>cases a with
       |nil=>rfl
       |cons e a=>have⟨v,r,x⟩:=e;cases r<;>cases x<;>rfl
     |_=>rfl
   |wrapped=>simp[tryRecover,cX]at b|-;rw[b];cases tryRecover c cs<;>rfl
   |_=>rfl
def uq:∀cs fr v b,cs.all (nu p)=true->tryRecover fr cs=some (v,b)->b.all (nu p)=true
 |[],fr,v,b,_,h=>by have⟨fn,tmps,todo,defers,mode,kind,ro⟩:=fr;cases kind<;>cases h
 |c::cs,fr,v,b,a,h=>by have n:=uq cs c;simp only[jN,dP]at a;have⟨fn,tmps,todo,defers,mode,kind,ro⟩:=fr;cases kind with
   |deferred=>have⟨t,y,z,s,o,u,w⟩:=c;cases o with
     |panicking f=>cases f with
       |nil=>cases h
       |cons e f=>have⟨v,r,x⟩:=e;cases r<;>cases x<;>simp[tryRecover]at h;obtain⟨_,rfl⟩:=h;simp only[jN,dP];refine⟨?_,a.2⟩;have h0:=a.1;rw[eH]at h0|-;have⟨g,i,j,k,l,m⟩:=h0;exact⟨g,i,j,k,l,by simpa[KU]using m⟩
     |_=>cases h
   |wrapped=>simp only[tryRecover]at h;cases d:tryRecover c cs with
     |none=>rw[d]at h;cases h
     |some r=>have⟨q,r⟩:=r;rw[d]at h;cases h;simp only[jN,dP];exact⟨a.1,n q r a.2 d⟩
   |_=>cases h
end
def cG(p:Program)(f:FuncId)(args:Array Value)(k:CallKind)(cs:List Frame):Goroutine:={frame:=Frame.enter p f args k,callers:=cs,status:=.running,dying:=none}
structure DF(X:FuncId->Prop)(p p':Program):Prop where
 sort:∀f:FuncId,(p'.funcs[f]?).map (λx:Func=>(x.results,x.norace))=(p.funcs[f]?).map (λx:Func=>(x.results,x.norace))
 same:∀f:FuncId,¬X f->∀args k,Frame.enter p' f args k=Frame.enter p f args k
 dry:∀todo,NoEnter p todo
 ok:∀f:FuncId,¬X f->(p.funcs[f]?).all (λfn:Func=>fn.body.all (eX p))=true/\yA p f=true
def pZ(tl:List Frame)(Z:Pi)(g:Goroutine):Goroutine:={g with frame:=cX Z g.frame,callers:=g.callers.map (cX Z)++tl}
def EW(X:FuncId->Prop)(p p':Program)(tl:List Frame)(G:Gs)(U:Nat->Option Nat)(g1 g2:Goroutine):Prop:=(OkG p g1/\eZ G U λZ=>g2=pZ tl Z g1)\/
 ∃f args k cs args' cs',X f/\(k=.normal\/k=.deferred)/\cs.all (nu p)=true/\iC (Frame.enter p f args k) cs/\g1=cG p f args k cs/\g2=cG p' f args' k cs'/\eZ G U λZ=>args'=args.map (bC Z)/\cs'=cs.map (cX Z)++tl
def GH(n:Int):GStep->Prop
 |.go _ w _|.comm _ _ _ _ w _|.spawn _ _ w _|.count _ w _|.timer _ _ w _|.alone _ _ w _|.newcoro _ _ _ w _|.coroswitch _ _ _ w _|.collect _ w _|.watch _ w _|.ended _ w _=>n<w.drawn
def LY(L:N4)(s s':GStep):Prop:=GH L.lim s/\GH (L.lim+L.OT) s'
def bP{n s es}(h:GH n s):GH n (s.after es):=by cases s<;>exact h
def Cm(tl:List Frame)(v:Value)(w:World)(es:Array Event):GStep:=match tl with
 |[]=>.ended (.done v) w es
 |c::r=>.go {frame:=c.finish v,callers:=r,status:=.running,dying:=none} w es
def LZ(tl v w es a):(Cm tl v w a).after es=Cm tl v w (es++a):=by cases tl<;>rfl
def iV(X:FuncId->Prop)(p p':Program)(tl:List Frame)(L:N4)(G:Gs)(U:Nat->Option Nat)(W:World)(s s':GStep):Prop:=match s with
 |.go g1 w1 es=>LY L s s'\/g1.dyingOn p\/∃g2 W1 ES rE,s'=.go g2 W1 ES/\Ext U rE/\fE G rE w1.heap.size W1.heap.size/\WE p L G rE w1 W1/\Fr U rE W W1/\EW X p p' tl G rE g1 g2/\se G rE es ES
 |.ended (.done v) w1 es=>LY L s s'\/∃v' W1 ES rE,s'=Cm tl v' W1 ES/\Ext U rE/\fE G rE w1.heap.size W1.heap.size/\WE p L G rE w1 W1/\Fr U rE W W1/\(eZ G rE λZ=>v'=bC Z v)/\se G rE es ES
 |.ended _ _ _=>True
 |_=>LY L s s'
section
variable{X:FuncId→Prop}{p p':Program}{tl:List Frame}{L:N4}{G:Gs}
def se.nil(U:Nat->Option Nat):se G U #[] #[]:=⟨λZ _ _=>by simp,λe a=>absurd a S8⟩
def HF:=@se.nil
def se.append{U a A b B}(h:se G U a A)(d:se G U b B):se G U (a++b) (A++B):=⟨λZ r c=>by show A++B=(a++b).map (AZ Z);rw[h.all Z r c,d.all Z r c,VV],λe f=>(Array.mem_append.1 f).elim (h.quiet e) (d.quiet e)⟩
def se.ext{U b a A}(h:se G U a A)(e:Ext U b):se G b a A:=⟨h.all.ext e,h.quiet⟩
def iV.after{U b W W1 s s' es ES}(h:iV X p p' tl L G b W1 s s')(e:Ext U b)(f:Fr U b W W1)(ev:se G b es ES):iV X p p' tl L G U W (s.after es) (s'.after ES):=by cases s with
 |go g w n=>
   obtain h|h|⟨q,W2,m,l,rfl,a,c,d,i,j,k⟩:=h;.exact .inl ⟨bP h.1,bP h.2⟩
   .exact .inr (.inl h)
   .exact .inr<|.inr ⟨q,W2,_,l,rfl,e.trans a,c,d,f.trans a i,j,(ev.ext a).append k⟩
 |ended o w n=>cases o with
   |done v=>
     obtain h|⟨r,W2,m,l,rfl,a,c,d,i,j,k⟩:=h;.exact .inl ⟨bP h.1,bP h.2⟩
     exact .inr ⟨r,W2,_,l,LZ _ _ _ _ _,e.trans a,c,d,f.trans a i,j,(ev.ext a).append k⟩
   |_=>trivial
 |_=>exact⟨bP h.1,bP h.2⟩
def tD:=@iV.after
def iV.goE{U w W g g'}(ok:fE G U w.heap.size W.heap.size)(wr:WE p L G U w W)(h:EW X p p' tl G U g g'):iV X p p' tl L G U W (.go g w) (.go g' W):=.inr<|.inr ⟨g',W,#[],U,rfl,oY _,ok,wr,Lv _ _,h,HF U⟩
def CH:=@iV.goE
def iV.go{U w W g g'}(ok:fE G U w.heap.size W.heap.size)(wr:WR p L G U w W)(h:EW X p p' tl G U g g'):iV X p p' tl L G U W (.go g w) (.go g' W):=.inr<|.inr ⟨g',W,#[],U,rfl,oY _,ok,wr.we,Lv _ _,h,HF U⟩
def vd:=@iV.go
def GI(Z l f):yD Z l=.mark (.extern f)↔l=.mark (.extern f):=by cases l<;>simp[yD];rename_i m;cases m<;>simp[Lt]
def X8(K:DF X p p')(Z fn es):seen p' fn (es.map (AZ Z))=(seen p fn es).map (AZ Z):=by
 have g:∀f:FuncId,(p'.funcs[f]?).any (λx:Func=>x.norace)=(p.funcs[f]?).any (λx:Func=>x.norace):=λf=>by have:=K.sort f;cases h:p'.funcs[f]?<;>cases c:p.funcs[f]?<;>rw[h,c]at this<;>simp_all
 simp only[seen,g];rw[Array.foldl_map];let R:Bool×Array Event->Bool×Array Event:=λx=>(x.1,x.2.map (AZ Z));show _=(R (Array.foldl _ _ es)).2;have h0:((p.funcs[fn]?).any (λx:Func=>x.norace),(#[]:Array Event))=R ((p.funcs[fn]?).any (λx:Func=>x.norace),#[]):=by simp[R]
 refine congrArg Prod.snd (Eq.trans (congrArg (λz=>Array.foldl _ z es) h0) (Array.foldl_hom R ?_));rintro⟨q,kept⟩ e;by_cases a:∃f,e.loc=.mark (.extern f)
 .have⟨f,b⟩:=a;have d:(AZ Z e).loc=.mark (.extern f):=by show yD Z e.loc=_;rw[b];rfl
  simp only[R,b,d]
 .have j:∀f,e.loc≠.mark (.extern f):=λf h=>a ⟨f,h⟩;have k:∀f,(AZ Z e).loc≠.mark (.extern f):=λf h=>a ⟨f,(GI Z _ f).1 h⟩;have i:(AZ Z e).sync=e.sync:=rfl;dsimp only[R];rw[i];split;.simp_all
  .cases l:(q&&!e.sync)<;>simp
def X9(p fn es):∀e∈Go.seen p fn es,e∈es:=by
 unfold Go.seen;dsimp only;refine Array.foldl_induction (motive:=λ_ (x:Bool×Array Event)=>∀e∈x.2,e∈es) S8 ?_;rintro i ⟨q,kept⟩ b e a;split at a;.simp_all
 .grind
def se.seen{U es ES}(K:DF X p p')(h:se G U es ES)(fn):se G U (Go.seen p fn es) (Go.seen p' fn ES):=⟨λZ r c=>by show Go.seen p' fn ES=_;rw[h.all Z r c,X8 K],λe a=>h.quiet e (X9 p fn es e a)⟩
def s9(Z f args k):cX Z (Frame.enter p f args k)=Frame.enter p f (args.map (bC Z)) k:=by simp[Frame.enter,cX,mU,tC]
def vP(K:DF X p p'){f}(h:¬X f)(args){k}(g:k=.normal\/k=.deferred):nu p (Frame.enter p f args k)=true:=by
 rw[eH];have⟨a,d⟩:=K.ok f h;refine⟨?_,rfl,d,?_⟩;.simp[Frame.enter];cases e:p.funcs[f]? with
  |none=>rfl
  |some fn=>rw[e]at a;simp at a;cases b:fn.body with
    |none=>simp[CG,eX,b]
    |some c=>rw[b]at a;simpa[CG,b]using a
 .obtain rfl|rfl:=g<;>simp[Frame.enter,KU]
def EW.enter(K:DF X p p'){U args a cs b}(f){k}(i:k=.normal\/k=.deferred)(h:cs.all (nu p)=true)(g:iC (Frame.enter p f args k) cs)(e:eZ G U λZ=>a=args.map (bC Z)/\b=cs.map (cX Z)++tl):EW X p p' tl G U (cG p f args k cs) (cG p' f a k b):=by
 by_cases d:X f;.exact .inr ⟨f,args,k,cs,a,b,d,i,h,g,rfl,rfl,e⟩
 .refine .inl ⟨⟨vP K d args i,h,rfl,rfl,rfl,g⟩,λZ r c=>?_⟩;have⟨j,l⟩:=e Z r c;simp[cG,pZ,s9,K.same f d,j,l]
end
section
variable{X:FuncId→Prop}{p p':Program}{tl:List Frame}{L:N4}{G:Gs}{U:Nat→Option Nat}{w W:World}
def Ya{α β Q}{s:Sem α}{s':Sem β}(ok:fE G U w W)(wr:WR p L G U w W)(a:eZ G U λZ=>SR p p' Z (Q Z) s s'):Out p L G U W Q (s.runT p w #[]) (s'.runT p' W #[]):=rP s s' U w W #[] #[] ok wr (HF U) a
def gJ{n:Int}{p main fr cs dy v}(h:n<w.drawn):GH n (doReturn p main fr cs dy v w):=by
 unfold doReturn;repeat' split
 all_goals first|exact h|trivial|(simp_all;done)
def all_cons{e c r}(ok:fE G U w W)(h:eZ G U λZ=>e=(c::r).map (cX Z)++tl):∃a b,e=a::b/\(eZ G U λZ=>a=cX Z c)/\eZ G U λZ=>b=r.map (cX Z)++tl:=by
 have⟨Z,i,g⟩:=ok.one;have h0:=h Z i g;refine⟨cX Z c,r.map (cX Z)++tl,by rw[h0];rfl,λf b a=>?_,λf b a=>?_⟩<;>
 .have d:=h f b a;rw[h0]at d;simp only[kY,DZ,zq]at d;first|exact d.1|exact d.2
def pJ{fr fr'}(ok:fE G U w W)(h:eZ G U λZ=>fr'=cX Z fr):fr'.fn=fr.fn/\fr'.kind=fr.kind:=by have⟨Z,b,a⟩:=ok.one;rw[h Z b a];exact⟨rfl,rfl⟩
def lift(F:Fit G p p'):p'.inits=p.inits/\p'.follows=p.follows:=by
 constructor;.exact F.inits
 .funext d;simp[Tables.follows,F.follow]
def Yc(Z)(b:List PanicEntry):(b.map (CF Z)).dropWhile (!·.goexit)=(b.dropWhile (!·.goexit)).map (CF Z):=by induction b with
 |nil=>rfl
 |cons a b c=>
   simp[List.dropWhile_cons];have:(CF Z a).goexit=a.goexit:=rfl;rw[this];cases a.goexit;.simp_all
   .simp
def mD(F:Fit G p p'){main main' fr fr' cs d v f}(ok:fE G U w W)(wr:WR p L G U w W)(J:nu p fr=true)(g:cs.all (nu p)=true)(i:iC fr cs)(H:eZ G U λZ=>fr'=cX Z fr)(n:eZ G U λZ=>d=cs.map (cX Z)++tl)(o:eZ G U λZ=>f=bC Z v)(K:cs=[]->main=true/\(tl=[]->main'=true)):iV X p p' tl L G U W (doReturn p main fr cs none v w) (doReturn p' main' fr' d none f W):=by
 have⟨O,k2⟩:=pJ ok H;have k:=(eH.1 J).2.2;cases cs with
 |cons c r=>
   obtain⟨u,P,rfl,q,s⟩:=all_cons ok n;simp only[jN,dP]at g;have fin:iV X p p' tl L G U W (.go {frame:=c.finish v,callers:=r,status:=.running,dying:=none} w) (.go {frame:=u.finish f,callers:=P,status:=.running,dying:=none} W):=vd ok wr (.inl ⟨⟨pd g.1 v,g.2,rfl,rfl,rfl,LV (fr:=c) (cs:=r) i (lM c v)⟩,λZ b a=>by rw[o Z b a,q Z b a,s Z b a,ny];rfl⟩)
   simp[doReturn,k2];cases t:fr.kind with
   |normal=>exact fin
   |wrapped=>exact fin
   |early=>exact absurd t k.2.2.1
   |report=>exact absurd t k.2.1
   |deferred=>
     refine iV.go ok wr (.inl ⟨⟨?_,g.2,rfl,rfl,rfl,iC.kind (fr:=c) (cs:=r) i (by dsimp only;split<;>(try split)<;>rfl)⟩,λZ b a=>?_⟩)
     .have j:=g.1;rw[eH]at j|-;have⟨fn,tmps,todo,defers,mode,kind,ro⟩:=c;dsimp only;split
      .have⟨A,B,C,D,E,m⟩:=j;split;.trivial
       .refine⟨A,B,C,D,E,?_⟩;simp only[KU,jN,dP]at m|-;exact xN.2 λx N=>xN.1 m.2 x ((List.dropWhile_sublist _).subset N)
      .exact j
     .rw[q Z b a,s Z b a];have⟨fn,tmps,todo,defers,mode,kind,ro⟩:=c;cases mode with
      |panicking h=>cases h with
        |nil=>rfl
        |cons e h=>have⟨x,Q,R⟩:=e;cases Q with
          |false=>rfl
          |true=>have I:=Yc Z h;simp[cX,tC,kY,CF,I];cases h.dropWhile (!·.goexit)<;>rfl
      |_=>rfl
 |nil=>
   have:d=tl:=by obtain⟨Z,b,a⟩:=ok.one;rw[n Z b a];rfl
   subst this;have hi:p.inits.idxOf? fr.fn=none:=by simpa[yA]using k.1
   obtain⟨rfl,M⟩:=K rfl;have l:fr.kind=.normal:=i;have y:doReturn p true fr [] none v w=.ended (.done v) w:=by simp only[doReturn,hi,l];rfl
   have z:doReturn p' main' fr' d none f W=Cm d f W #[]:=by cases d with
    |nil=>obtain rfl:=M rfl;simp only[doReturn,O,k2,(lift F).1,hi,l,Cm];rfl
    |cons c r=>simp[doReturn,k2,l,Cm]
   rw[y,z];exact .inr ⟨f,W,#[],U,rfl,oY _,ok,wr.we,Lv _ _,o,HF U⟩
end
section
variable{X:FuncId→Prop}{p p':Program}{tl:List Frame}{L:N4}{G:Gs}{U:Nat→Option Nat}{w W:World}
def yJ{a v}(ok:fE G U w W)(h:eZ G U λZ=>a=Je Z (.panic v)):∃d,a=.panic d/\eZ G U λZ=>d=bC Z v:=by have⟨Z,c,b⟩:=ok.one;refine⟨bC Z v,h Z c b,λg f e=>?_⟩;have:=h g f e;rw[h Z c b]at this;simpa[Je]using this
def EW.of{g g'}(h:OkG p g)(a:eZ G U λZ=>g'=pZ tl Z g):EW X p p' tl G U g g':=.inl ⟨h,a⟩
def iK{α β:Type}{f:Pi->α->β}{a b}(ok:fE G U w W)(h:eZ G U λZ=>b=f Z a):∃Z,b=f Z a:=by have⟨Z,d,c⟩:=ok.one;exact⟨Z,h Z d c⟩
def EX{p}(fr m w){es s'}:iV X p p' tl L G U W ((endThrow fr m w).after es) s':=.inr (.inl ⟨.inl rfl,_,rfl,rfl,NoEnter.nil p⟩)
def L3{α p}(s:Sem α)(w):w.drawn<=(cZ (s.run p w)).drawn:=by rw[<-Kq p s w #[]];exact qD s w #[]
def Bj{n:Int}{p fr cs dy m}(h:n<w.drawn):GH n (endFatal p fr cs dy m w):=by unfold endFatal;dsimp only;split;all_goals rename_i heq;have:=bL (L3 (p:=p) _ w) (nS (congrArg (λx=>(cZ x).drawn) heq));exact D2 h (G5.2 this)
def TS{n:Int}{p fr cs dy g}(h:n<w.drawn):GH n (early p fr cs dy g w):=by
 have a:∀r,(choose (.early g)).run p w=r->n<(cZ r).drawn:=λr b=>b▸D2 h (G5.2 (L3 _ w));unfold early;dsimp only;repeat' split
 all_goals first|exact h|(rename_i heq;exact a _ heq)|(rename_i heq _ _ _ _;exact a _ heq)|(rename_i heq _;exact a _ heq)|(rename_i heq _ _;exact a _ heq)|(rename_i heq _ _ _;exact a _ heq)
def Bl{n:Int}{p fr cs dy s}(a:n<(cZ (s.runT p w #[]).1).drawn):GH n (stepG.apply p true fr cs dy s w):=by unfold stepG.apply;generalize s.runT p w #[]=r at a|-;have⟨r,es⟩:=r;refine bP ?_;cases r with
 |ok n w1=>cases n<;>(try dsimp only)<;>(repeat' split)<;>first|exact a|trivial
 |halt x w1=>
   cases x<;>first|exact a|exact Bj a|skip
   rename_i u;cases u<;>first|exact a|exact TS a
def EY{n:Int}{p fr cs dy s}(h:n<w.drawn):GH n (stepG.apply p true fr cs dy s w):=Bl (D2 h (G5.2 (qD s w #[])))
def iV.bind{s s'}(h:LY L s s'\/(iV X p p' tl L G U W s s')):iV X p p' tl L G U W s s':=by
 obtain h|h:=h;.cases s with
  |go g w es=>exact .inl h
  |ended o w es=>cases o<;>first|exact .inl h|trivial
  |_=>exact h
 .exact h
def wh:=@iV.bind
def EZ(F:Fit G p p')(K:DF X p p'){main:Bool}{fr fr' cs J s s'}(ok:fE G U w W)(A:nu p fr=true)(H:cs.all (nu p)=true)(D:iC fr cs)(Q:eZ G U λZ=>fr'=cX Z fr)(aa:eZ G U λZ=>J=cs.map (cX Z)++tl)(R:oJ p L G U W (NR p) (s.runT p w #[]) (s'.runT p' W #[])):iV X p p' tl L G U W (stepG.apply p true fr cs none s w) (stepG.apply p' true fr' J none s' W):=by
 by_cases O:vz L (cZ (s.runT p w #[]).1) (cZ (s'.runT p' W #[]).1);.exact wh (.inl ⟨Bl O.1,Bl O.2⟩)
 have⟨a5,k2⟩:=pJ ok Q;have V:=(eH.1 A);have a0:(fr.kind==.early)=false:=by simpa using V.2.2.2.2.1
 unfold stepG.apply;simp only[uT,a5,k2,a0,vI,zr];generalize s.runT p w #[]=r,s'.runT p' W #[]=a8 at R O|-;have⟨r,es⟩:=r;cases r with
 |ok n w1=>
   obtain ab|⟨a6,W1,ES,z,rfl,e,y,I,T,N⟩:=R;.trivial
   have μ:=N.1;have B:eZ G z λZ=>a6=sx Z n:=λZ r c=>(N.2 Z r c).1;have M:okN p n=true:=by obtain⟨Z,r,c⟩:=y.one;exact(N.2 Z r c).2
   have C:=Q.ext e;have E:=aa.ext e;refine tD ?_ e T (μ.seen K fr.fn);cases n with
   |value v=>obtain⟨Z,rfl⟩:=iK y B;refine CH y I (.of ⟨pd A v,H,rfl,rfl,rfl,D.kind (lM fr v)⟩ λg q j=>?_);have:=B g q j;simp only[sx,Next.value.injEq]at this;rw[this,C g q j,E g q j,ny];rfl
   |skip=>obtain⟨Z,rfl⟩:=iK y B;refine CH y I (.of ⟨pd A undef,H,rfl,rfl,rfl,D.kind (lM fr undef)⟩ λg q j=>?_);have:=ny (Z:=g) fr undef;rw[A0]at this;rw[C g q j,E g q j,this];rfl
   |enter f args=>
     obtain⟨Z,rfl⟩:=iK y B;have a2:∀g,Rn G g->Cp z g->args.map (bC Z)=args.map (bC g):=λg q j=>by have:=B g q j;simpa[sx]using this
     have go:∀kd ao:CallKind,kd=.normal->ao=.normal->iV X p p' tl L G z W1 (.go {frame:=Frame.enter p f args kd,callers:=fr::cs,status:=.running,dying:=none} w1) (.go {frame:=Frame.enter p' f (args.map (bC Z)) ao,callers:=fr'::J,status:=.running,dying:=none} W1):=by rintro _ _ rfl rfl;exact CH y I (EW.enter K f (.inl rfl) (by simp only[jN,dP];exact⟨A,H⟩) D λg q j=>⟨a2 g q j,by rw[C g q j,E g q j];rfl⟩)
     refine go _ _ ?_ ?_
     .have:=V.1;split;.rename_i h;rw[h]at this;simp[CG]at this
      .rfl
     .have:=V.1;have⟨Z,q,j⟩:=ok.one;rw[Q Z q j];simp only[cX];cases a3:fr.todo with
      |nil=>rfl
      |cons i k=>rw[a3]at this;cases i<;>first|rfl|simp[CG]at this
   |round l f t a b=>
     obtain⟨Z,rfl⟩:=iK y B;simp only[okN,dP]at M;refine CH y I (.of ⟨?_,by simp only[jN,dP];exact⟨A,H⟩,rfl,rfl,rfl,D⟩ λg q j=>?_);.rw[eH];refine⟨?_,rfl,M.2,by simp[Frame.round],by simp[Frame.round],rfl⟩;simp[Frame.round,CG,M.1.1,M.1.2]
     .have:=B g q j;simp only[sx,VW,zo,sW]at this;rw[C g q j,E g q j,this.1,this.2];rfl
   |defer d=>obtain⟨Z,rfl⟩:=iK y B;refine CH y I (.of ⟨pd (by rw[eH]at A|-;exact⟨A.1,by simp only[jN,dP];exact⟨M,A.2.1⟩,A.2.2⟩) undef,H,rfl,rfl,rfl,D.kind (lM _ undef)⟩ λg q j=>?_);have af:=B g q j;simp only[sx,Next.defer.injEq]at af;have:=ny (Z:=g) {fr with defers:=d::fr.defers} undef;rw[A0]at this;rw[C g q j,E g q j,af];simp only[pZ];rw[<-this];rfl
   |recover=>
     obtain⟨Z,rfl⟩:=iK y B;have fin:∀(o o':Option (Value×List Frame)),(∀v c,o=some (v,c)->c.all (nu p)=true/\iC fr c)->(eZ G z λZ=>o'=o.map λx=>(bC Z x.1,x.2.map (cX Z)++tl))->iV X p p' tl L G z W1 (match o with|some (v,callers)=>GStep.go {frame:=fr.finish v,callers,status:=.running,dying:=none} w1|none=>.go {frame:=fr.finish .nilIface,callers:=cs,status:=.running,dying:=none} w1) (match o' with|some (v,callers)=>GStep.go {frame:=fr'.finish v,callers,status:=.running,dying:=none} W1|none=>.go {frame:=fr'.finish .nilIface,callers:=J,status:=.running,dying:=none} W1):=λo o' ag ah=>by
      obtain⟨Z,rfl⟩:=iK y ah;cases o with
      |none=>refine CH y I (.of ⟨pd A _,H,rfl,rfl,rfl,D.kind (lM fr _)⟩ λg q j=>?_);have:=ny (Z:=g) fr .nilIface;rw[cJ]at this;rw[C g q j,E g q j,this];rfl
      |some x=>have⟨v,c⟩:=x;refine CH y I (.of ⟨pd A v,(ag v c rfl).1,rfl,rfl,rfl,(ag v c rfl).2.kind (lM fr v)⟩ λg q j=>?_);have:=ah g q j;simp only[dM,gA,Kw]at this;rw[this.1,this.2,C g q j,ny];rfl
     have⟨π,ak,ae⟩:=y.one;have aj:eZ G z λZ=>fr'.roundOf=fr.roundOf.map Z.f:=λg q j=>by rw[C g q j];rfl
     have ay:p'.follows .rangeFuncRecover=p.follows .rangeFuncRecover:=by rw[(lift F).2]
     have ai:eZ G z λZ=>tryRecover fr' J=(tryRecover fr cs).map λx=>(bC Z x.1,x.2.map (cX Z)++tl):=λg q j=>by rw[C g q j,E g q j,sB tl _ _ (yI g cs fr D),wa,Option.map_map];rfl
     cases P:fr.roundOf with
     |none=>
       have Y:fr'.roundOf=none:=by rw[aj π ak ae,P];rfl
       simp only[sx,Y];exact fin _ _ (λv c h=>⟨uq cs fr v c H h,oq cs fr v c D h⟩) ai
     |some l=>
       have Y:fr'.roundOf=some (π l):=by rw[aj π ak ae,P];rfl
       simp only[sx,Y,ay,F.fol,uT];exact fin _ _ (λv c h=>⟨uq cs fr v c H h,oq cs fr v c D h⟩) ai
   |_=>exact absurd M (by simp[okN])
 |halt h w1=>
   obtain ab|P|⟨az,ar,W1,ES,z,rfl,e,y,I,T,N⟩:=R;.exact absurd ab O
   .cases h<;>first|(cases P;done)|skip
    .rename_i u;cases u<;>first|(cases P;done)|trivial
    .trivial
   .have μ:=N.1;have B:eZ G z λZ=>ar=Je Z h:=λZ r c=>(N.2 Z r c);have C:=Q.ext e;have E:=aa.ext e;have a7:∀(c S:List PanicEntry),c.all (!·.goexit)=true->(eZ G z λZ=>S=c.map (CF Z))->iV X p p' tl L G z W1 (.go {frame:=fr.raise c,callers:=cs,status:=.running,dying:=none} w1) (.go {frame:=fr'.raise S,callers:=J,status:=.running,dying:=none} W1):=λc S av au=>CH y I (.of ⟨zZ A c av,H,rfl,rfl,rfl,D.kind (uj fr c)⟩ λg q j=>by rw[au g q j,C g q j,E g q j,xd];rfl)
    cases h with
    |panic v=>obtain⟨a9,rfl,a4⟩:=yJ y B;refine tD ?_ e T (μ.seen K fr.fn);exact a7 _ _ rfl λg q j=>by rw[a4 g q j];rfl
    |throw m=>exact EX fr m w1
    |_=>cases az
def xe(F:Fit G p p')(K:DF X p p'){main:Bool}{fr fr' cs a s s'}(ok:fE G U w W)(wr:WR p L G U w W)(f:nu p fr=true)(e:cs.all (nu p)=true)(d:iC fr cs)(b:eZ G U λZ=>fr'=cX Z fr)(c:eZ G U λZ=>a=cs.map (cX Z)++tl)(g:eZ G U λZ=>SR p p' Z (NR p Z) s s'):iV X p p' tl L G U W (stepG.apply p true fr cs none s w) (stepG.apply p' true fr' a none s' W):=by
 exact EZ (main:=main) F K ok f e d b c (Ya ok wr g).we
end
section
variable{X:FuncId→Prop}{p p':Program}{tl:List Frame}{L:N4}{G:Gs}{U:Nat→Option Nat}{w W:World}
def iV.unless{c}[Decidable c]{u x w es t s'}(h:¬c->iV X p p' tl L G U W t s'):iV X p p' tl L G U W (if c then .ended (.unsupported u x) w es else t) s':=by
 by_cases a:c;.rw[bF a];trivial
 .simp_all
def iV.abt{c}[Decidable c]{s y a}(h:¬c)(k:iV X p p' tl L G U W s a):iV X p p' tl L G U W s (if c then y else a):=by rwa [aS h]
def adA:=@iV.abt
def Jo(F:Fit G p p')(C:kV G p p')(K:DF X p p'){fr fr' cs q d d'}(ok:fE G U w W)(wr:WR p L G U w W)(E:nu p fr=true)(y:cs.all (nu p)=true)(u:iC fr cs)(ai:okD p d=true)(O:eZ G U λZ=>fr'=cX Z fr)(aa:eZ G U λZ=>q=cs.map (cX Z)++tl)(R:eZ G U λZ=>d'=mS Z d):iV X p p' tl L G U W (callDeferred p fr cs none d w) (callDeferred p' fr' q none d' W):=by
 have au:eZ G U λZ=>SR p p' Z (NR p Z) (invoke d.target d.args) (invoke d'.target d'.args):=λZ g i=>by rw[R Z g i];exact Bi F g C ai
 have P:=Ya ok wr au;have⟨ay,k2⟩:=pJ ok O;have a4:=(eH.1 E);unfold callDeferred;refine iV.unless λar=>adA ?_ ?_;.intro h;apply ar;revert h;have⟨Z,g,i⟩:=ok.one;rw[R Z g i,O Z g i];simp only[mS,cX];cases d.target<;>cases fr.mode<;>simp[Dc,tC]
 .
  have ab:∀{o:Nat->Option Nat} {es ES:Array Event},se G o es ES->se G o (Go.seen p fr.fn es) (Go.seen p' fr'.fn ES):=λh=>by rw[ay];exact h.seen K fr.fn
  by_cases H:vz L (cZ ((invoke d.target d.args).runT p w #[]).1) (cZ ((invoke d'.target d'.args).runT p' W #[]).1)
  .have⟨f1,f2⟩:=H;refine wh (.inl ⟨?_,?_⟩);.generalize(invoke d.target d.args).runT p w #[]=r at f1|-;have⟨r,es⟩:=r;refine bP ?_;cases r with
    |ok n w1=>cases n<;>(try dsimp only)<;>(repeat' split)<;>first|exact f1|trivial|(cases‹Result.ok _ _=Result.ok _ _›<;>first|exact f1|trivial)
    |halt h w1=>cases h<;>first|exact f1|exact Bj f1
   .generalize(invoke d'.target d'.args).runT p' W #[]=r at f2|-;have⟨r,es⟩:=r;refine bP ?_;cases r with
    |ok n w1=>cases n<;>(try dsimp only)<;>(repeat' split)<;>first|exact f2|trivial|(cases‹Result.ok _ _=Result.ok _ _›<;>first|exact f2|trivial)
    |halt h w1=>cases h<;>first|exact f2|exact Bj f2
  generalize(invoke d.target d.args).runT p w #[]=r,(invoke d'.target d'.args).runT p' W #[]=a6 at P H|-;have⟨r,es⟩:=r;cases r with
  |ok n w1=>
    obtain S|⟨az,W1,ES,o,rfl,e,k,M,Q,D⟩:=P;.exact absurd S H
    have V:=D.1;have z:eZ G o λZ=>az=sx Z n:=λZ r c=>(D.2 Z r c).1;have I:okN p n=true:=by obtain⟨Z,r,c⟩:=k.one;exact(D.2 Z r c).2
    have B:=O.ext e;have s:=aa.ext e;have stay:∀(c A:List Frame),c.all (nu p)=true->iC fr c->(eZ G o λZ=>A=c.map (cX Z)++tl)->iV X p p' tl L G o W1 (.go {frame:=fr,callers:=c,status:=.running,dying:=none} w1) (.go {frame:=fr',callers:=A,status:=.running,dying:=none} W1):=λc A ag af T=>vd k M (.of ⟨E,ag,rfl,rfl,rfl,af⟩ λj g i=>by rw[B j g i,T j g i];rfl)
    refine tD ?_ e Q (ab V);cases n with
    |value v=>obtain⟨Z,rfl⟩:=iK k z;exact stay cs q y u s
    |skip=>obtain⟨Z,rfl⟩:=iK k z;exact stay cs q y u s
    |defer d=>obtain⟨Z,rfl⟩:=iK k z;exact stay cs q y u s
    |enter f args=>obtain⟨Z,rfl⟩:=iK k z;exact vd k M (EW.enter K f (.inr rfl) (by simp only[jN,dP];exact⟨E,y⟩) u λj g i=>⟨by have:=z j g i;simpa[sx]using this,by rw[B j g i,s j g i];rfl⟩)
    |round l f t a b=>
      obtain⟨Z,rfl⟩:=iK k z;simp only[okN,dP]at I;refine vd k M (.of ⟨?_,by simp only[jN,dP];exact⟨E,y⟩,rfl,rfl,rfl,u⟩ λj g i=>?_);.rw[eH];refine⟨?_,rfl,I.2,by simp[Frame.round],by simp[Frame.round],rfl⟩;simp[Frame.round,CG,I.1.1,I.1.2]
      .have:=z j g i;simp only[sx,VW,zo,sW]at this;rw[B j g i,s j g i,this.1,this.2];rfl
    |recover=>
      obtain⟨Z,rfl⟩:=iK k z;have Y:eZ G o λZ=>tryRecover fr' q=(tryRecover fr cs).map λx=>(bC Z x.1,x.2.map (cX Z)++tl):=λj g i=>by rw[B j g i,s j g i,sB tl _ _ (yI j cs fr u),wa,Option.map_map];rfl
      have ao:eZ G o λZ=>fr'.mode=tC Z fr.mode:=λj g i=>by rw[B j g i];rfl
      have⟨N,π,μ⟩:=k.one;dsimp only[sx];rw[ao N π μ];cases a5:fr.mode with
      |returning=>cases J:tryRecover fr cs with
        |none=>
          have:tryRecover fr' q=none:=by rw[Y N π μ,J];rfl
          rw[this];exact stay cs q y u s
        |some x=>
          have⟨v,c⟩:=x;have h0:tryRecover fr' q=some (bC N v,c.map (cX N)++tl):=by rw[Y N π μ,J];rfl
          rw[h0];refine stay c _ (uq cs fr v c y J) (oq cs fr v c u J) λj g i=>?_;have:=Y j g i;rw[h0,J]at this;simp only[dM,gA,Kw]at this;exact this.2
      |run=>exact stay cs q y u s
      |panicking a2=>exact stay cs q y u s
    |_=>exact absurd I (by simp[okN])
  |halt h w1=>
    obtain S|ak|⟨aj,ae,W1,ES,o,rfl,e,k,M,Q,D⟩:=P;.exact absurd S H
    .cases h<;>first|(cases ak;done)|trivial
    .have V:=D.1;have z:eZ G o λZ=>ae=Je Z h:=λZ r c=>(D.2 Z r c);have B:=O.ext e;have s:=aa.ext e;have a3:=R.ext e;have a0:∀(c A:List PanicEntry),c.all (!·.goexit)=true->(eZ G o λZ=>A=c.map (CF Z))->iV X p p' tl L G o W1 (.go {frame:=fr.raise c,callers:=cs,status:=.running,dying:=none} w1) (.go {frame:=fr'.raise A,callers:=q,status:=.running,dying:=none} W1):=λc A ah T=>vd k M (.of ⟨zZ E c ah,y,rfl,rfl,rfl,u.kind (uj fr c)⟩ λj g i=>by rw[T j g i,B j g i,s j g i,xd];rfl)
     cases h with
     |panic v=>obtain⟨a7,rfl,av⟩:=yJ k z;refine tD ?_ e Q (ab V);exact a0 _ _ rfl λj g i=>by rw[av j g i];rfl
     |throw m=>exact EX fr m w1
     |_=>cases aj
end
section
variable{X:FuncId→Prop}{p p':Program}{tl:List Frame}{L:N4}{G:Gs}{U:Nat→Option Nat}{w W:World}
def Rv{Z}{γ:Type}(f f':γ->Sem Value):∀l:List γ,(∀a∈l,SR p p' Z (VR Z) (f a) (f' a))->SR p p' Z (λa b=>b=a.map (bC Z)) (l.mapM f) (l.mapM f')
 |[],_=>by simp;exact aM rfl
 |a::l,h=>by simp;refine aK (h a S8) ?_;rintro v _ rfl;refine aK (Rv f f' l λb c=>h b (by simp[c])) ?_;rintro d _ rfl;exact aM rfl
def Pe(F:Fit G p p'){Z}(R:Rn G Z){fn c}(h:c.results=fn.results)(t):SR p p' Z (VR Z) (results fn t) (results c (t.map (bC Z))):=by
 unfold results;rw[h];have d:∀i,(t.map (bC Z)).getD i undef=bC Z (t.getD i undef):=λi=>by simp;cases t[i]?<;>simp
 refine aK (Q:=λa b=>b=a.map (bC Z)) ?_ ?_
 .rw[VT,VT];refine aK (Rv _ _ fn.results.toList λa _=>?_) ?_;.cases a with
   |tmp i=>exact aM (d i)
   |cell a ty=>dsimp only;rw[d];refine aK (A5 F R _) ?_;rintro x _ rfl;exact ug F ty x
  .rintro e _ rfl;exact aM S8
 .rintro e _ rfl;refine aM ?_;by_cases f:e.size=1;.simp_all
  .simp[VR,f]
def Pf{ds fr fr' d}(ok:fE G U w W)(c:eZ G U λZ=>fr'=cX Z fr)(e:fr.defers=d::ds):∃d' b,fr'.defers=d'::b/\(eZ G U λZ=>d'=mS Z d)/\eZ G U λZ=>b=ds.map (mS Z):=by
 have⟨Z,i,h⟩:=ok.one;have h0:=c Z i h;refine⟨mS Z d,ds.map (mS Z),by rw[h0];simp[cX,e],λg f a=>?_,λg f a=>?_⟩<;>
 .have:=congrArg Frame.defers ((c g f a).symm.trans h0);simp only[cX,e,kY,zq]at this;first|exact this.1.symm|exact this.2.symm
def E0(F:Fit G p p')(C:kV G p p')(K:DF X p p'){main main' fr fr' cs J}(ak:cs=[]->main=true/\(tl=[]->main'=true))(ok:fE G U w W)(wr:WR p L G U w W)(ab:nu p fr=true)(s:cs.all (nu p)=true)(j:iC fr cs)(g:eZ G U λZ=>fr'=cX Z fr)(E:eZ G U λZ=>J=cs.map (cX Z)++tl):iV X p p' tl L G U W (unwind p main fr cs none w) (unwind p' main' fr' J none W):=by
 have⟨ar,k2⟩:=pJ ok g;have u:=eH.1 ab;have bb:∀{A:Nat->Option Nat} {es ES:Array Event},se G A es ES->se G A (Go.seen p fr.fn es) (Go.seen p' fr'.fn ES):=λh=>by rw[ar];exact h.seen K fr.fn
 cases B:fr.defers with
 |cons d ds=>
   have⟨d',ag,Q,N,O⟩:=Pf ok g B;have π:okD p d=true/\ds.all (okD p)=true:=by have:=u.2.1;rw[B]at this;simpa using this
   by_cases Y:∃b,d.target=.collected b
   .have⟨b,j⟩:=Y;have⟨t,μ⟩:=d;simp only at j;subst j;have⟨m,S,P⟩:=ok.one;have ay:=N m S P;subst ay;have I:eZ G U λZ=>SR p p' Z (λx y=>y=x.map (mS Z)/\x.all (okD p)=true) (Instr.takeDeferred b) (Instr.takeDeferred (m b)):=λZ a f=>by
     have:m b=Z b:=by have:=congrArg Deferred.target (N Z a f);simpa[mS,Dc]using this
     rw[this];exact Dk b
    have v:=Ya ok wr I;unfold unwind;rw[B,Q];dsimp only[mS,Dc];by_cases o:vz L (cZ ((Instr.takeDeferred b).runT p w #[]).1) (cZ ((Instr.takeDeferred (m b)).runT p' W #[]).1)
    .have⟨f1,f2⟩:=o;refine wh (.inl ⟨?_,?_⟩);.generalize(Instr.takeDeferred b).runT p w #[]=r at f1|-;have⟨r,es⟩:=r;cases r<;>exact bP f1
     .generalize(Instr.takeDeferred (m b)).runT p' W #[]=r at f2|-;have⟨r,es⟩:=r;cases r<;>exact bP f2
    generalize(Instr.takeDeferred b).runT p w #[]=r,(Instr.takeDeferred (m b)).runT p' W #[]=av at v o|-;have⟨r,es⟩:=r;cases r with
    |ok n w1=>
      obtain ah|⟨au,W1,ES,A,rfl,e,T,af,V,D⟩:=v;.trivial
      have aa:=D.1;have a7:eZ G A λZ=>au=n.map (mS Z):=λZ r c=>(D.2 Z r c).1;have a8:n.all (okD p)=true:=by obtain⟨Z,r,c⟩:=T.one;exact(D.2 Z r c).2
      have az:=g.ext e;have a0:=E.ext e;have a2:=O.ext e;refine tD ?_ e V (bb aa);refine vd T af (.of ⟨?_,s,rfl,rfl,rfl,j.kind rfl⟩ λl a f=>?_);.rw[eH];exact⟨u.1,by simp only[VX,dP];exact⟨a8,π.2⟩,u.2.2⟩
      .rw[az l a f,a0 l a f,a2 l a f,a7 l a f,<-nG];rfl
    |halt h w1=>trivial
   .have I:=Jo (fr:={fr with defers:=ds}) (fr':={fr' with defers:=ag}) (d:=d) (d':=d') F C K ok wr (by rw[eH];exact⟨u.1,π.2,u.2.2⟩) s (j.kind rfl) π.1 (λZ a f=>by rw[g Z a f,O Z a f];rfl) E N;have bc:unwind p main fr cs none w=callDeferred p {fr with defers:=ds} cs none d w:=by unfold unwind;rw[B];have⟨t,μ⟩:=d;cases t<;>first|rfl|exact absurd ⟨_,rfl⟩ Y
    have bd:unwind p' main' fr' J none W=callDeferred p' {fr' with defers:=ag} J none d' W:=by
     unfold unwind;rw[Q];have:¬∃b,d'.target=.collected b:=by rintro⟨b,j⟩;have⟨Z,a,f⟩:=ok.one;rw[N Z a f]at j;have⟨t,μ⟩:=d;cases t<;>first|exact Y ⟨_,rfl⟩|simp[mS,Dc]at j
     have⟨t,μ⟩:=d';cases t<;>first|rfl|exact absurd ⟨_,rfl⟩ this
    rw[bc,bd];exact I
 |nil=>
   have Q:fr'.defers=[]:=by have⟨Z,a,f⟩:=ok.one;rw[g Z a f];simp[cX,B]
   unfold unwind;rw[B,Q];dsimp only;have aj:eZ G U λZ=>fr'.mode=tC Z fr.mode:=λl a f=>by rw[g l a f];rfl
   have⟨m,S,P⟩:=ok.one;have H:=aj m S P;cases R:fr.mode with
   |run=>trivial
   |panicking q=>
     rw[R]at H;rw[H];have hgo:q.all (!·.goexit)=true:=by have:=u.2.2.2.2.2;rw[R]at this;exact this
     dsimp only[tC];refine iV.unless λ_=>adA ?_ ?_
     .have a4:Frame.catches p' fr'=false:=by
       have a9:fr'.todo=fr.todo.map (mU m):=by rw[g m S P];rfl
       have ao:=u.1;unfold Frame.catches;rw[a9];cases ba:fr.todo with
       |nil=>split<;>simp_all
       |cons i k=>rw[ba]at ao;cases i<;>first|(simp[CG]at ao;done)|(cases p'.funcs[fr'.fn]?<;>rfl)
      simp[a4]
     .cases cs with
      |cons c r=>obtain⟨bf,av,rfl,O,a3⟩:=all_cons ok E;simp only[jN,dP]at s;refine vd ok wr (.of ⟨zZ s.1 q hgo,s.2,rfl,rfl,rfl,LV (fr:=c) (cs:=r) j (uj c q)⟩ λl a f=>?_);have ae:=aj l a f;rw[R,H]at ae;simp only[tC,FrameMode.panicking.injEq]at ae;rw[ae,O l a f,a3 l a f,xd];rfl
      |nil=>
        dsimp only;have a6:¬q.head?.any (·.goexit)=true:=by cases q with
         |nil=>simp
         |cons e q=>simp only[jN,dP,Bool.not_eq_true']at hgo;simp[hgo.1]
        rw[aS a6];cases(reportChain q false).run p w with
        |ok t w=>exact .inr (.inl ⟨.inl rfl,_,rfl,rfl,K.dry t⟩)
        |halt h w=>cases h<;>trivial
   |returning=>rw[R]at H;rw[H];dsimp only[tC];have z:=K.sort fr.fn;rw[ar];cases ai:p.funcs[fr.fn]? with
     |none=>
       have:p'.funcs[fr.fn]?=none:=by rw[ai]at z;simpa using z
       rw[this];refine mD F ok wr ab s j g E (λZ a f=>?_) ak;rw[g Z a f];simp only[cX,G0,kZ];cases fr.tmps[0]?<;>simp
     |some fn=>
       rw[ai]at z;have⟨M,a5,z⟩:=G1.1 z;rw[a5];simp only[Kw]at z;dsimp only;have I:eZ G U λZ=>SR p p' Z (VR Z) (results fn fr.tmps) (results M fr'.tmps):=λZ a f=>by
        have:fr'.tmps=fr.tmps.map (bC Z):=by rw[g Z a f];rfl
        rw[this];exact Pe F a z.1 _
       have v:=Ya ok wr I;by_cases o:vz L (cZ ((results fn fr.tmps).runT p w #[]).1) (cZ ((results M fr'.tmps).runT p' W #[]).1)
       .have⟨f1,f2⟩:=o;refine wh (.inl ⟨?_,?_⟩);.generalize(results fn fr.tmps).runT p w #[]=r at f1|-;have⟨r,es⟩:=r;cases r<;>first|exact bP (gJ f1)|exact bP f1|(rename_i h _;cases h<;>exact bP f1)
        .generalize(results M fr'.tmps).runT p' W #[]=r at f2|-;have⟨r,es⟩:=r;cases r<;>first|exact bP (gJ f2)|exact bP f2|(rename_i h _;cases h<;>exact bP f2)
       generalize(results fn fr.tmps).runT p w #[]=r,(results M fr'.tmps).runT p' W #[]=av at v o|-;have⟨r,es⟩:=r;cases r with
       |ok n w1=>
         obtain ah|⟨au,W1,ES,A,rfl,e,T,af,V,D⟩:=v;.exact absurd ah o
         have aa:=D.1;refine tD ?_ e V (aa.seen K fr.fn);exact mD F T af ab s j (g.ext e) (E.ext e) (λZ r c=>(D.2 Z r c)) ak
       |halt h w1=>cases h<;>trivial
end
section
variable{p p':Program}{L:N4}{G:Gs}{α β γ δ:Type}
def oJ.sQ{U W Q}{r:Result α×Array Event}{a:Result β×Array Event}(h:vz L (cZ r.1) (cZ a.1)):oJ p L G U W Q r a:=by have⟨r,es⟩:=r;cases r<;>exact .inl h
def oJ.weaken{U q W W1 Q}{r:Result α×Array Event}{s:Result β×Array Event}(e:Ext U q)(f:Fr U q W W1)(h:oJ p L G q W1 Q r s):oJ p L G U W Q r s:=by
 match r with
 |(.ok a w1,t)=>
   obtain n|⟨b,g,d,o,i,c,j,k,l,m⟩:=h;.exact .inl n
   .exact .inr ⟨b,g,d,o,i,e.trans c,j,k,f.trans c l,m⟩
 |(.halt x w1,t)=>
   obtain n|h|⟨u,b,g,d,o,i,c,j,k,l,m⟩:=h;.exact .inl n
   .exact .inr (.inl h)
   .exact .inr<|.inr ⟨u,b,g,d,o,i,e.trans c,j,k,f.trans c l,m⟩
def L4{n:Int}{s}{f:α->Sem γ}{w es}(h:n<(cZ (s.runT p w es).1).drawn):n<(cZ ((s>>=f).runT p w es).1).drawn:=by rw[o8];generalize s.runT p w es=r at h;have⟨r,b⟩:=r;cases r with
 |ok a w1=>exact D2 h (G5.2 (qD (f a) w1 b))
 |halt x w1=>exact h
def oJ.bind{Q Q' U w W es ES s s'}{f:α->Sem γ}{f':β->Sem δ}(h:Out p L G U W Q (s.runT p w es) (s'.runT p' W ES))(k:∀a b w1 W1 g d c,Ext U c->fE G c w1.heap.size W1.heap.size->WR p L G c w1 W1->se G c g d->(eZ G c λZ=>Q Z a b)->oJ p L G c W1 Q' ((f a).runT p w1 g) ((f' b).runT p' W1 d)):
 oJ p L G U W Q' ((s>>=f).runT p w es) ((s'>>=f').runT p' W ES):=by
 by_cases i:vz L (cZ (s.runT p w es).1) (cZ (s'.runT p' W ES).1);.exact oJ.sQ ⟨L4 i.1,L4 i.2⟩
 rw[o8,o8];generalize s.runT p w es=r,s'.runT p' W ES=u at h i|-;have⟨r,g⟩:=r;cases r with
 |ok a w1=>
   obtain q|⟨b,W1,d,c,rfl,e,n,o,j,l,m⟩:=h;.trivial
   .exact oJ.weaken e j (k a b w1 W1 g d c e n o l m)
 |halt x w1=>
   obtain q|h|⟨t,b,W1,d,c,rfl,e,n,o,j,l,m⟩:=h;.trivial
   .exact .inr (.inl h)
   .exact .inr<|.inr ⟨t,b,W1,d,c,rfl,e,n,o.we,j,l,m⟩
def Rw:=@oJ.bind
def oJ.lost{Q:Pi->α->β->Prop}{U W w1 a h b}(e:x5 h=true):oJ p L G U W Q (.halt h w1,a) b:=.inr (.inl e)
def Yd:=@oJ.lost
def oJ.loose(A:G.strict=false){Q U w W es ES}{s:Sem α}{s':Sem β}(ok:fE G U w.heap.size W.heap.size)(v:∀b c,U b=some c->∃o o',w.heap[b]?=some o/\W.heap[c]?=some o'/\cN p o=true/\eZ G U λZ=>o'=dW Z o)(z:W.os=w.os)(B:w.tape=L.tp)(ev:se G U es ES)
 (n:(cZ (s.runT p w es).1).drawn=w.drawn)(t:eZ G U λZ=>SR p p' Z (Q Z) s s'):oJ p L G U W Q (s.runT p w es) (s'.runT p' W ES):=by
 have wr:WR p ⟨w.drawn,(W.drawn:Int) -w.drawn,L.tp⟩ G U w W:=⟨v,λi q hi=>by simp only at hi;omega,z,by simp only;omega,B⟩;have h:=rP s s' U w W es ES ok wr ev t;have we:∀{e:Nat->Option Nat} {w1 W1:World},WR p ⟨w.drawn,(W.drawn:Int) -w.drawn,L.tp⟩ G e w1 W1->WE p L G e w1 W1:=λx=>⟨x.obj,x.os,λy=>(by rw[A]at y;cases y),x.tp⟩;generalize s.runT p w es=r at h n|-;have⟨r,C⟩:=r;cases r with
 |ok a w1=>
   obtain m|⟨b,W1,f,e,d,g,j,k,l⟩:=h;.have d:=m.1;simp[cZ]at n;simp at d;omega
   .exact .inr ⟨b,W1,f,e,d,g,j,we k,l⟩
 |halt x w1=>
   obtain m|h|⟨u,b,W1,f,e,d,g,j,k,l⟩:=h;.have d:=m.1;simp[cZ]at n;simp at d;omega
   .exact .inr (.inl h)
   .exact .inr<|.inr ⟨u,b,W1,f,e,d,g,j,we k,l⟩
def uu(r o w es):(cZ ((setObj r o).runT p w es).1).drawn=w.drawn:=by
 show(cZ ((Sem.setObj r o (.pure ())).runT p w es).1).drawn=w.drawn;simp[Sem.runT];repeat' split
 all_goals rfl
end
section
variable{p p':Program}{L:N4}{G:Gs}{U:Nat→Option Nat}{w W:World}{es ES:Array Event}
def abu(n):Fr U U W {W with drawn:=W.drawn+n}:=⟨L9,λ_ _ _=>rfl,λc (a:(W:Nat)<=c) (b:c<(W:Nat))=>by omega,λ_ _ h _=>h,rfl,rfl,QL _ _,rfl⟩
def Ye(B:G.strict=false){a k a' k'}(ok:fE G U w W)(wr:WR p L G U w W)(ev:se G U es ES)(o:eZ G U fun Z=>a'=bC Z a)(m:eZ G U fun Z=>k'=bC Z k){r t}{f f':Value->Obj}(A:∀x j,(eZ G U fun Z=>j=bC Z x)->eZ G U fun Z=>t=Z r/\f' j=dW Z (f x)/\cN p (f x)=true):
 oJ p L G U W (fun _ _ _=>True) ((Instr.keyThatStays a k>>=fun x=>setObj r (f x)).runT p w es) ((Instr.keyThatStays a' k'>>=fun x=>setObj t (f' x)).runT p' W ES):=by
 have last:∀(x j:Value) (n s:Nat),(eZ G U fun Z=>j=bC Z x)->oJ p L G U W (fun _ _ _=>True) ((setObj r (f x)).runT p {w with drawn:=w.drawn+n} es) ((setObj t (f' j)).runT p' {W with drawn:=W.drawn+s} ES):=fun x j n s C=>by refine oJ.weaken (oY _) (abu s) (oJ.loose B (w:={w with drawn:=w.drawn+n}) ok wr.obj wr.os wr.tp ev (uu _ _ _ _) fun Z h d=>?_);have⟨l,i,y⟩:=A x j C Z h d;rw[l,i];exact gT y
 have run:∀(q:Program) (b c:Value) (g:Value->Sem Unit) (v:World) (e:Array Event),(Instr.keyThatStays b c>>=g).runT q v e=if Instr.sameBits 10000 b c then(g c).runT q v e else(g (if(Question.extern "map.whichKeyStays" 2).cut (v.tape v.drawn (.extern "map.whichKeyStays" 2))=0 then c else b)).runT q {v with drawn:=v.drawn+1} e:=fun q b c g v e=>by
  unfold Instr.keyThatStays;split;.rfl
  .trivial
 rw[run,run];by_cases l:Instr.sameBits 10000 a k=true
 .have e:=CC _ _ _ l;rw[bF l];by_cases i:Instr.sameBits 10000 a' k'=true;.rw[bF i];exact last k k' 0 0 m
  .rw[aS i];refine last k _ 0 1 fun Z h d=>?_;have u:a'=k':=by rw[o Z h d,m Z h d,e]
   rw[u,ite_self];exact m Z h d
 .rw[aS l];by_cases i:Instr.sameBits 10000 a' k'=true
  .have e:=CC _ _ _ i;rw[bF i];refine last _ k' 1 0 fun Z h d=>?_;split;.exact m Z h d
   .rw[<-e];exact o Z h d
  .rw[aS i];by_cases z:w.drawn<L.lim
   .have h0:=wr.tape 0 (.extern "map.whichKeyStays" 2) z;simp only[DW]at h0;rw[h0];refine last _ _ 1 1 fun Z h d=>?_;split;.exact m Z h d
    .exact o Z h d
   .have D:=wr.OT;refine oJ.sQ ⟨?_,?_⟩;.rw[uu];simp only;omega
    .rw[uu];simp only;omega
def GJ(F:Fit G p p')(ao:G.strict=false)(t)(K:zO p t=true){m k v O k' B}(ok:fE G U w W)(wr:WR p L G U w W)(ev:se G U es ES)(n:eZ G U λZ=>O=bC Z m)(d:eZ G U λZ=>k'=bC Z k)(g:eZ G U λZ=>B=bC Z v):
 oJ p L G U W (λ_ _ _=>True) ((Instr.mapUpdate t m k v).runT p w es) ((Instr.mapUpdate t O k' B).runT p' W ES):=by
 unfold Instr.mapUpdate;refine Rw (rP _ _ U w W es ES ok wr ev λZ a b=>aR F t) ?_;intro u ay w1 W1 H E C ex z R I j;have⟨q,y,s⟩:=z.one;obtain⟨rfl,N⟩:=j q y s;replace n:=n.ext ex;replace d:=d.ext ex;replace g:=g.ext ex;cases ay<;>first|exact Yd rfl|skip
 rename_i au e;dsimp only;cases m<;>first|exact Yd rfl|skip
 rename_i r;cases r with
 |none=>have:=n q y s;subst this;simp only[dY,Ku];exact(rP _ _ C w1 W1 H E z R I λZ a b=>bM F _).we
 |some r=>
   have:=n q y s;subst this;simp only[dY,dM];have M:eZ G C λZ=>q r=Z r:=λZ a b=>by simpa using n Z a b
   refine Rw (Q:=λZ o o'=>o'=dW Z o) (rP _ _ C w1 W1 H E z R I λZ a b=>by rw[M Z a b];exact iI) ?_;intro o o' a2 W2 aa μ T ex P az af j;cases o<;>first|exact Yd rfl|skip
   rename_i ms c;have⟨D,aj,ah⟩:=P.one;have:=j D aj ah;subst this;have h:eZ G T λZ=>ms.map (mM D)=ms.map (mM Z):=λZ a b=>by simpa[dW]using j Z a b
   have l:=M.ext ex;replace d:=d.ext ex;replace g:=g.ext ex;simp only[dW];refine Rw (rP _ _ T a2 W2 aa μ P az af λZ a b=>by rw[d Z a b];exact lL F _ _ 5 _ _ (jW K N)) ?_;intro _ _ a3 Y ab V a5 ex av a0 ag _;replace h:=h.ext ex;replace l:=l.ext ex;replace d:=d.ext ex;replace g:=g.ext ex;refine Rw (Q:=λZ f f'=>f'=TM Z f) (rP _ _ a5 a3 Y ab V av a0 ag λZ a b=>by rw[h Z a b,d Z a b,sX];exact qI F a au (jW K N) k ms.toList) ?_;intro f f' a4 π ae X a6 ex A S J j;replace h:=h.ext ex;replace l:=l.ext ex;replace d:=d.ext ex;replace g:=g.ext ex;have⟨a7,ak,ai⟩:=A.one;have:=j a7 ak ai;subst this;cases f with
   |none=>refine(rP _ _ a6 a4 π ae X A S J λZ a b=>?_).we;have:=gT (p:=p) (p':=p') (Z:=Z) (r:=r) (o:=.map (ms.push {key:=k,val:=v,born:=c}) (c+1)) rfl;simpa[dW,mM,TM,h Z a b,l Z a b,d Z a b,g Z a b]using this
   |some f=>
     have⟨i,x⟩:=f;refine Ye ao A S J (λZ a b=>?_) d (f:=λx=>.map (ms.modify i λe=>{e with key:=x,val:=v}) c) (f':=λx=>.map ((ms.map (mM D)).modify i λe=>{e with key:=x,val:=B}) c) (λx a8 ar Z a b=>⟨l Z a b,?_,rfl⟩);.rw[h Z a b,d Z a b,kZ];cases ms[i]?<;>rfl
     .simp only[dW,Obj.map.injEq,sW];rw[h Z a b,g Z a b,ar Z a b];exact(EO (mM Z) (λe=>{e with key:=x,val:=v}) (λe=>{e with key:=bC Z x,val:=bC Z v}) (λx=>rfl) ms i).symm
def oJ.skip{r:Sem Unit}{g:Sem Unit}(h:oJ p L G U W (λ_ _ _=>True) (r.runT p w es) (g.runT p' W ES)):oJ p L G U W (NR p) ((do r;pure Next.skip).runT p w es) ((do g;pure Next.skip).runT p' W ES):=by rw[o8,o8];generalize r.runT p w es=x,g.runT p' W ES=c at h|-;have⟨x,q⟩:=x;cases x with
 |ok a w1=>
   obtain d|⟨b,W1,e,i,rfl,f,k,l,m,n,-⟩:=h;.refine .inl ⟨d.1,?_⟩;have:=d.2;have⟨c,j⟩:=c;cases c<;>exact this
   .exact .inr ⟨.skip,W1,e,i,rfl,f,k,l,m,n,λZ _ _=>⟨rfl,rfl⟩⟩
 |halt y w1=>
   obtain d|h|⟨o,b,W1,e,i,rfl,f⟩:=h;.refine .inl ⟨d.1,?_⟩;have:=d.2;have⟨c,j⟩:=c;cases c<;>exact this
   .exact .inr (.inl h)
   .exact .inr<|.inr ⟨o,b,W1,e,i,rfl,f⟩
end
end Go.Ren
