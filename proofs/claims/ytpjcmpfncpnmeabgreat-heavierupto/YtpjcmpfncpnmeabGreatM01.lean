import Derived.RunT
import Derived.DyingOn
import Derived.Test.YtpjcmpfncpnmeabGreatM00
set_option linter.all false
set_option maxHeartbeats 1000000
namespace Go.Ren
section
variable{G:Gs}{p p':Program}{Z:Pi}(F:Fit G p p')(R:Rn G Z)
omit F R in
theorem Et(n):SR p p' Z (λ_ _=>True) (askRoom n) (askRoom n):=by exact eQ (IQ (m:=.noRoom)) (aN trivial)
theorem Eu{e cs}(h:cs.map (bB Z)=cs):SR p p' Z (λa a'=>a'=cA Z a/\Z.gh a.block=none) (newRow e cs) (newRow e cs):=by have:=qy (p:=p) (p':=p') (Z:=Z) e cs;rwa [h]at this
theorem Dh{t e:TypeId}(F:Fit G p p')(a:t<p.types.size)(h:p.underlying t=some (.slice e)):e<p.types.size:=by have:=Ej F a h;simpa[AK]using this
theorem vZ(v):SR p p' Z (λa b=>b=a) (asInt v) (asInt (bB Z v)):=by refine aK (qz v) ?_;rintro _ x rfl;exact aN rfl
include F R
theorem gX{α b β c Q}(e){f:α->Sem β}{f':b->Sem c}(a:acJ e=false:=by rfl):SR p p' Z Q (runtimePanic e>>=f) (runtimePanic e>>=f'):=aK (Q:=λ_ _=>False) (bI F e a) (λ_ _ h=>h.elim)
theorem IW{t:TypeId}(k:t<p.types.size)(l c):SR p p' Z (VR Z) (Instr.makeSlice t l c) (Instr.makeSlice t (bB Z l) (bB Z c)):=by refine aK (aR F t) ?_;rintro _ d ⟨rfl,h⟩;cases d with
 |slice e=>
   have j:=Dh F k h;refine aK (vZ l) ?_;rintro _ l rfl;refine aK (vZ c) ?_;rintro _ c rfl;refine aK (fV F e) ?_;rintro _ i ⟨rfl,_⟩;refine eQ ?_ ?_;.refine eQ (gX F R _) (eQ (gX F R _) ?_);refine aK iE ?_;rintro _ n rfl;exact gX F R _
   .refine aK (Et _) ?_;intro _ _ _;refine aK (eA F e) ?_;rintro _ n rfl;refine eQ ?_ ?_;.refine aK (Q:=λa b=>b=a/\a.map (bB Z)=a) (aN ⟨rfl,S8⟩) ?_;rintro _ z ⟨rfl,f⟩;refine aK (Q:=λa b=>b=cA Z a/\Z.gh a.block=none) (Eu (tB f _)) ?_;rintro a _ ⟨rfl,g⟩;exact aN (by simp[VR,fU g])
    .refine aK (fZ F j) ?_;rintro _ z ⟨rfl,f⟩;refine aK (Q:=λa b=>b=a/\a.map (bB Z)=a) (aN ⟨rfl,by rw[<-lY,f]⟩) ?_;rintro _ z ⟨rfl,f⟩;refine aK (Q:=λa b=>b=cA Z a/\Z.gh a.block=none) (Eu (tB f _)) ?_;rintro a _ ⟨rfl,g⟩;exact aN (by simp[VR,fU g])
 |_=>exact aM rfl
omit R
theorem Gb{t:TypeId}(k:t<p.types.size)(n c):SR p p' Z (VR Z) (Instr.buildSlice t n c) (Instr.buildSlice t n (c.map λ(i,x)=>(i,bB Z x))):=by refine aK (aR F t) ?_;rintro _ d ⟨rfl,h⟩;cases d with
 |slice e=>
   have j:=Dh F k h;refine aK (eA F e) ?_;rintro _ s rfl;refine eQ (aM rfl) ?_;refine eQ ?_ ?_;.refine aK (Q:=λa b=>b=a/\a.map (bB Z)=a) (aN ⟨rfl,S8⟩) ?_;rintro _ z ⟨rfl,f⟩;have:=zM (Z:=Z) (λi=>some (i*s,s)) c.toList ((Array.range (n*s)).map λx=>z[x%z.size]!);rw[tB f]at this;dsimp only;rw[sX,this];cases Instr.fill (λi=>some (i*s,s)) ((Array.range (n*s)).map λx=>z[x%z.size]!) c.toList with
    |none=>exact aM rfl
    |some cs=>refine aK (qy e cs) ?_;rintro a _ ⟨rfl,g⟩;exact aN (by simp[VR,fU g])
   .refine aK (fZ F j) ?_;rintro _ z ⟨rfl,f⟩;refine aK (Q:=λa b=>b=a/\a.map (bB Z)=a) (aN ⟨rfl,by rw[<-lY,f]⟩) ?_;rintro _ z ⟨rfl,f⟩;have:=zM (Z:=Z) (λi=>some (i*s,s)) c.toList ((Array.range (n*s)).map λx=>z[x%z.size]!);rw[tB f]at this;dsimp only;rw[sX,this];cases Instr.fill (λi=>some (i*s,s)) ((Array.range (n*s)).map λx=>z[x%z.size]!) c.toList with
    |none=>exact aM rfl
    |some cs=>refine aK (qy e cs) ?_;rintro a _ ⟨rfl,g⟩;exact aN (by simp[VR,fU g])
 |_=>exact aM rfl
omit F in
theorem Lm(x):SR p p' Z (λa b=>b=a/\∀q l c,x=.slice q l c->a<=l) (Builtin.lenOf x) (Builtin.lenOf (bB Z x)):=by cases x with
 |slice a l c=>rw[bQ];exact aN ⟨rfl,λq f d e=>by cases e;exact L9⟩
 |string s=>rw[bZ];exact aN ⟨rfl,λq f d e=>by cases e⟩
 |_=>exact aM rfl
omit F in
theorem se(s n x)(d:∀q l c,x=.slice q l c->n<=l):SR p p' Z (λa b=>b=a.map (bB Z)/\(n=0->a=#[])) (Builtin.firstCells s n x) (Builtin.firstCells s n (bB Z x)):=by cases x with
 |slice a l c=>cases a with
   |none=>rw[bQ];exact aN S8
   |some a=>
     rw[bQ];by_cases h0:n=0;.subst h0;show SR p p' Z _ (loadCells a (0*s)) (loadCells _ (0*s));rw[Vd];exact aN S8
     .refine(x4 a _ l c λh _=>?_).mono λ_ _ h=>⟨h,λh=>absurd h h0⟩;have:=d _ _ _ rfl;rw[show n=0 by omega,Vd]
 |string s=>rw[bZ];refine aN ⟨by simp[Qi],λh=>?_⟩;subst h;simp
 |_=>exact aM rfl
theorem aaA(f t args):SR p p' Z (VR Z) (Builtin.copy_ f t args) (Builtin.copy_ f t (args.map (bB Z))):=by unfold Builtin.copy_;simp;cases f[0]? with
 |none=>exact aM rfl
 |some t=>cases args[0]? with
   |none=>exact aM rfl
   |some d=>cases args[1]? with
     |none=>exact aM rfl
     |some s=>refine aK (aR F t) ?_;rintro _ u ⟨rfl,_⟩;cases u with
       |slice e=>cases d with
         |slice b l c=>rw[bQ];refine aK (Lm s) ?_;rintro _ n ⟨rfl,j⟩;refine aK (eA F e) ?_;rintro _ z rfl;refine aK (se z _ s λq k g e=>bJ (Nat.min_le_left _ _) (j q k g e)) ?_;rintro cs _ ⟨rfl,i⟩;cases b with
           |none=>exact aN (by simp[VR,goInt])
           |some a=>refine aK (Q:=λ_ _=>True) (by have:=vW (p:=p) (p':=p') (Z:=Z) a cs.toList 0 l c (λh _=>by rw[i (by rw[h];exact Nat.min_zero _)]);simpa[Addr.add]using this) ?_;intro _ _ _;exact aN (by simp[VR,goInt])
         |_=>exact aM rfl
       |_=>exact aM rfl
omit F in
omit F in
theorem Lp(s l n:Nat)(b:Option Addr)(x:Value)(w:World)(es:Array Event):∃a,(Builtin.mayShare s l n b x).runT p w es=(.ok a w,es):=by
 have hold:∀(a:Addr) (m:Nat) {γ:Type} (f:Bool->Sem γ),(∀t,∃y,(f t).runT p w es=(.ok y w,es))->∃y,(Builtin.holdsCells a m>>=f).runT p w es=(.ok y w,es):=λa m γ f hf=>by show∃y,(Sem.shape a.block _).runT p w es=_;simp only[Sem.runT];cases w.shape? a.block with
  |none=>exact hf _
  |some z=>exact hf _
 have fro:∀(a:Addr) {γ:Type} (f:Bool->Sem γ),(∀t,∃y,(f t).runT p w es=(.ok y w,es))->∃y,(frozen a>>=f).runT p w es=(.ok y w,es):=λa γ f hf=>by show∃y,(Sem.frozen a _).runT p w es=_;simp only[Sem.runT];exact hf _
 have last:∀t:Bool,∃y,(if(!t)=true then pure true else match x with|.slice (some c) _ _=>do let h<-Builtin.holdsCells c (n*s);pure (!h||b.any (·.block==c.block))|_=>pure false:Sem Bool).runT p w es=(.ok y w,es):=λt=>by
  split;.exact⟨_,rfl⟩
  .split;.exact hold _ _ _ λt=>⟨_,rfl⟩
   .exact⟨_,rfl⟩
 unfold Builtin.mayShare;cases b with
 |none=>exact last true
 |some a=>refine hold a _ _ λt=>?_;refine fro _ _ λt'=>?_;exact last _
end
section
variable{G:Gs}{p p':Program}{Z:Pi}(F:Fit G p p')(R:Rn G Z)
theorem pk{z}(h:z.map (bB Z)=z)(n):(Builtin.zeroCells z n).map (bB Z)=Builtin.zeroCells z n:=tB h _
include F R
theorem SY(j t args)(h:∀s,j[0]?=some s->s<p.types.size):SR p p' Z (VR Z) (Builtin.append_ j t args) (Builtin.append_ j t (args.map (bB Z))):=by unfold Builtin.append_;simp only[kU];cases E:j[0]? with
 |none=>exact aM rfl
 |some st=>have G:=h st E;cases args[0]? with
   |none=>exact aM rfl
   |some s=>cases args[1]? with
     |none=>exact aM rfl
     |some x=>simp only[dW];refine aK (aR F st) ?_;rintro _ u ⟨rfl,H⟩;cases u with
       |slice e=>have o:=Dh F G H;cases s with
         |slice b sl d=>
           rw[bQ];refine aK (eA F e) ?_;rintro _ size rfl;have M:∀n,SR p p' Z (λa b=>b=a.map (bB Z)) (do let z<-zeroValue e;pure (Builtin.zeroCells z.cells n)) (do let z<-zeroValue e;pure (Builtin.zeroCells z.cells n)):=λn=>by refine aK (fZ F o) ?_;rintro _ z ⟨rfl,f⟩;exact aN (pk (by rw[<-lY,f]) n).symm
           have fin:∀old new g cap,SR p p' Z (VR Z) (do let z<-zeroValue e;let a<-newRow e (old++new++Builtin.zeroCells z.cells (cap -g));pure (.slice (some a) g cap)) (do let z<-zeroValue e;let a<-newRow e (old.map (bB Z)++new.map (bB Z)++Builtin.zeroCells z.cells (cap -g));pure (.slice (some a) g cap)):=λold new g cap=>by refine aK (fZ F o) ?_;rintro _ z ⟨rfl,f⟩;refine aK (Q:=λa b=>b=cA Z a/\Z.gh a.block=none) (by rw[<-pk (Z:=Z) (show z.cells.map (bB Z)=z.cells by rw[<-lY,f]),<-Ve,<-Ve];rw[pk (Z:=Z) (show z.cells.map (bB Z)=z.cells by rw[<-lY,f])];exact qy _ _) ?_;rintro a _ ⟨rfl,B⟩;exact aN (by simp[VR,fU B])
           have K:SR p p' Z (λa b=>b=a.map (bB Z)/\(sl=0->a=#[])) (Builtin.firstCells size sl (.slice b sl d)) (Builtin.firstCells size sl (.slice (Km Z b sl d) sl d)):=by
            have:=se (p:=p) (p':=p') (Z:=Z) size sl (.slice b sl d) λq l c e=>by cases e;exact L9
            rwa [bQ]at this
           have put:∀(a:Addr) (new:Array Value),(sl=0->d=0->new.toList=[])->SR p p' Z (λ_ _=>True) (storeCells (a.add (sl*size)) new.toList) (storeCells ((y7 Z sl d a).add (sl*size)) (new.map (bB Z)).toList):=λa new f=>by have:=vW (p:=p) (p':=p') (Z:=Z) a new.toList (sl*size) sl d f;rwa [<-sX]at this
           cases j[1]?;case' none=>refine aK (Q:=λa b=>b=a) (aN rfl) ?_
           case' some L=>refine aK (aR F L) ?_;rintro _ u ⟨rfl,_⟩;refine aK (Q:=λa b=>b=a) (aN rfl) ?_
           all_goals rintro _ y rfl;refine eQ ?_ ?_
           all_goals by_cases I:∃r,x=.chan r
           all_goals first
            | (obtain⟨r,rfl⟩:=I
               exact aM rfl)
            |skip
           all_goals by_cases v:∃q l c,x=.slice q l c
           all_goals first
            | (obtain⟨q,l,c,rfl⟩:=v
               exact aM rfl)
            | (refine aK (vZ x) ?_
               rintro _ l rfl;refine eQ (gX F R _) ?_;refine aK (fV F e) ?_;rintro _ i ⟨rfl,_⟩;refine eQ (aK iE (by rintro _ n rfl;exact gX F R _)) ?_;refine aK (Q:=λa b=>b=a/\∀q l c,x=.slice q l c->a<=l) (aN ⟨rfl,λq l c e=>absurd ⟨q,l,c,e⟩ v⟩) ?_)
            |refine aK (Lm x) ?_
           all_goals
            rintro _ n ⟨rfl,C⟩;have k:SR p p' Z (λa b=>b=a.map (bB Z)/\(n=0->a=#[])) (if(!y)=true then Builtin.firstCells size n x else if n*size=0 then pure #[]else do let z<-zeroValue e;pure (Builtin.zeroCells z.cells n)) (if(!y)=true then Builtin.firstCells size n (bB Z x)else if n*size=0 then pure #[]else do let z<-zeroValue e;pure (Builtin.zeroCells z.cells n)):=by
             refine eQ (se _ _ _ C) ?_;by_cases h0:n*size=0;.rw[bE h0];exact aN S8
             .rw[aU h0];exact(M _).mono λ_ _ h=>⟨h,λh=>absurd (by rw[h,Vd]) h0⟩
            refine aaz (λP=>?_) (λ_=>?_)
            .refine aK k ?_;rintro new _ ⟨rfl,D⟩;have same:∀a,y7 Z (sl+n) d a=y7 Z sl d a:=λa=>by
              unfold y7;by_cases f:sl=0/\d=0;.rw[bE f,bE O9]
              .rw[aU f];by_cases J:sl+n=0/\d=0;.exact absurd O9 f
               .rw[aU J]
             cases b with
             |none=>exact aN (by simp[VR])
             |some a=>refine aK (put a new λN O=>by rw[D O9]) ?_;intro _ _ _;exact aN (by simp[VR,same])
            .refine aK (fV F e) ?_;rintro _ i ⟨rfl,_⟩;refine eQ (gX F R _) ?_;refine aK (fV F e) ?_;rintro _ i ⟨rfl,_⟩;refine eQ ?_ ?_
             .refine aK (Q:=λ_ _=>False) (eQ (bI F _) ?_) (λ_ _ h=>h.elim);refine SR.qw (eH.then (λm=>?_) λw es=>?_)
              .intro w es;cases m;.exact⟨_,w,_,rfl,rfl⟩
               .exact⟨_,w,es,rfl,rfl⟩
              .have⟨a,A⟩:=Lp (p:=p) size sl n b x w es;exact⟨a,w,es,A⟩
             .refine aK iE ?_;rintro _ cap rfl;refine aK (fV F e) ?_;rintro _ i ⟨rfl,_⟩;refine aK (Et _) ?_;intro _ _ _;refine aK K ?_;rintro old _ ⟨rfl,-⟩;refine aK k ?_;rintro new _ ⟨rfl,-⟩;exact fin old new _ _
         |_=>exact aM rfl
       |_=>exact aM rfl
end
theorem Ev{α β:Type}(g:α->β)(f:α->α)(f':β->β)(h:∀x,g (f x)=f' (g x))(a:Array α)(i):(a.modify i f).map g=(a.map g).modify i f':=by grind
section
variable{G:Gs}{p p':Program}{Z:Pi}(F:Fit G p p')(R:Rn G Z)
include F R
omit R in
theorem lJ(e):∀n k t v,u7 p k t=true->SR p p' Z (λ_ _=>True) (Instr.checkKey e n t v) (Instr.checkKey e n t (bB Z v))
 |0,_,_,_,_=>aM rfl
 |_+1,0,_,_,h=>by cases h
 |n+1,k+1,t,v,a=>by have c:=lJ e n k;refine aK (aR F t) ?_;rintro _ u ⟨rfl,i⟩;simp[u7,i]at a;replace a:=a.2;cases u with
   |interface ms=>cases a
   |array l el=>
     cases v<;>first|exact aM rfl|skip
     rename_i cs;simp only[dJ];refine aK (AX l _ λf b=>?_) (λ_ _ _=>aN trivial);refine aK (eA F el) ?_;rintro _ m rfl;refine aK (kX F el cs _) ?_;rintro v _ rfl;refine aK (c el v a) ?_;intro _ _ _;exact aN rfl
   |struct d=>
     cases v<;>first|exact aM rfl|skip
     rename_i cs;simp only[dJ];refine aK (AW d _ λf g b=>?_) (λ_ _ _=>aN trivial);refine eQ ?_ (aN rfl);refine aK (kX F f.type cs _) ?_;rintro v _ rfl;refine aK (c f.type v (zb.1 a f g)) ?_;intro _ _ _;exact aN rfl
   |_=>exact aN trivial
omit F R in
theorem jP{t k e}(h:zD p t=true)(a:p.underlying t=some (.map k e)):u7 p 5 k=true:=by simpa[zD,a]using h
def SZ(Z:Pi):Option (Nat×Value)->Option (Nat×Value):=Option.map λ(i,v)=>(i,bB Z v)
theorem x9{n}(t)(c:u7 p n t=true)(k):∀es i,SR p p' Z (λa b=>b=SZ Z a) (Instr.findAsking t k es i) (Instr.findAsking t (bB Z k) (es.map (mJ Z)) i)
 |[],_=>aN rfl
 |e::es,i=>by refine aK (Lh F R t k e.key c) ?_;rintro _ b rfl;exact eQ (aN rfl) (x9 t c k es (i+1))
omit F R in
theorem G5(Z r d b):Instr.sameNow d (oz Z r) b=none/\Instr.sameNow d b (oz Z r)=none:=by obtain h|⟨_,h⟩|⟨_,_,_,h⟩|⟨_,h⟩|⟨_,h⟩|⟨_,_,_,h⟩:=fQ Z r<;>rw[h]<;>constructor<;>cases d<;>cases b<;>rfl
omit F R in
theorem G6(r d b):Instr.sameNow d (.chan r) b=none/\Instr.sameNow d b (.chan r)=none:=by constructor<;>cases d<;>cases b<;>rfl
omit F R in
theorem Lq(d a b):Instr.sameNow d (bB Z a) (bB Z b)=Instr.sameNow d a b:=by
 by_cases c:∃r,a=.chan r;.obtain⟨r,rfl⟩:=c;rw[cM,(G5 Z r d _).1,(G6 r d b).1]
 by_cases e:∃r,b=.chan r;.obtain⟨r,rfl⟩:=e;rw[cM,(G5 Z r d _).2,(G6 r d a).2]
 cases d<;>cases a<;>first|rfl|exact absurd ⟨_,rfl⟩ c|(cases b<;>first|exact absurd ⟨_,rfl⟩ e|simp[cS,bZ,eI,bH,dH,cK,bQ,dY,Instr.sameNow])
omit F R in
theorem Ci(d k):∀es i,Instr.findNow d (bB Z k) (es.map (mJ Z)) i=(Instr.findNow d k es i).map (SZ Z)
 |[],_=>rfl
 |e::es,i=>by simp[Instr.findNow];have:Instr.sameNow d (bB Z k) (mJ Z e).key=Instr.sameNow d k e.key:=Lq d k e.key;rw[this];cases Instr.sameNow d k e.key with
   |none=>rfl
   |some b=>cases b with
     |true=>rfl
     |false=>exact Ci d k es (i+1)
theorem qC{n}(t)(c:u7 p n t=true)(k es):SR p p' Z (λa b=>b=SZ Z a) (Instr.findKey t k es) (Instr.findKey t (bB Z k) (es.map (mJ Z))):=by refine aK (aR F t) ?_;rintro _ u ⟨rfl,_⟩;rw[Ci];cases Instr.findNow u k es 0 with
 |none=>exact x9 F R t c k es 0
 |some r=>exact aN rfl
omit R in
theorem map_lt{t k e:TypeId}(a:t<p.types.size)(h:p.underlying t=some (.map k e)):k<p.types.size/\e<p.types.size:=by have:=Ej F a h;simpa[AK]using this
theorem S3{t:TypeId}(j:t<p.types.size)(d:zD p t=true)(x k ok):SR p p' Z (VR Z) (Instr.lookup t x k ok) (Instr.lookup t (bB Z x) (bB Z k) ok):=by refine aK (aR F t) ?_;rintro _ u ⟨rfl,c⟩;cases u with
 |map i e=>
   have h:=map_lt F j c;have g:∀es:Array MapEntry,(es.map (mJ Z)).isEmpty=es.isEmpty:=λes=>by simp[Array.isEmpty]
   cases x with
   |map r=>cases r with
     |none=>simp only[dY];refine aK (Q:=λa b=>b=a.map (mJ Z)) (aN S8) ?_;rintro es _ rfl;rw[g,sX];refine aK (lJ F _ _ 5 _ _ (jP d c)) ?_;intro _ _ _;refine aK (qC F R i (jP d c) k es.toList) ?_;rintro r _ rfl;cases r with
       |none=>refine aK (fZ F h.2) ?_;rintro _ z ⟨rfl,f⟩;refine aK (Q:=λa b=>b=(bB Z a.1,a.2)) (aN (by rw[f])) ?_;rintro⟨v,b⟩ _ rfl;refine aN ?_;cases ok<;>simp[VR]
       |some r=>refine aK (Q:=λa b=>b=(bB Z a.1,a.2)) (aN rfl) ?_;rintro⟨v,b⟩ _ rfl;refine aN ?_;cases ok<;>simp[VR]
     |some r=>
       simp only[dY];refine aK iD ?_;rintro o _ rfl;cases o<;>first|exact aM rfl|skip
       refine aK (Q:=λa b=>b=a.map (mJ Z)) (aN rfl) ?_;rintro es _ rfl;rw[g,sX];refine aK (lJ F _ _ 5 _ _ (jP d c)) ?_;intro _ _ _;refine aK (qC F R i (jP d c) k es.toList) ?_;rintro r _ rfl;cases r with
       |none=>refine aK (fZ F h.2) ?_;rintro _ z ⟨rfl,f⟩;refine aK (Q:=λa b=>b=(bB Z a.1,a.2)) (aN (by rw[f])) ?_;rintro⟨v,b⟩ _ rfl;refine aN ?_;cases ok<;>simp[VR]
       |some r=>refine aK (Q:=λa b=>b=(bB Z a.1,a.2)) (aN rfl) ?_;rintro⟨v,b⟩ _ rfl;refine aN ?_;cases ok<;>simp[VR]
   |_=>exact aM rfl
 |_=>exact aM rfl
omit F R in
theorem WX{f:Value->Value->Bool}(d:∀x y,f x y=true->x=y):∀(a b:List Value),a.length=b.length->((a.zip b).all λ(x,y)=>f x y)=true->a=b
 |[],[],_,_=>rfl
 |x::a,y::b,c,h=>by simp only[List.zip_cons_cons,jG,dO]at h;rw[d x y h.1,WX d a b (by simpa using c) h.2]
 |[],_::_,c,_=>by simp at c
 |_::_,[],c,_=>by simp at c
omit F R in
theorem Lr{x y:ByteArray}(h:(x==y)=true):x=y:=by have⟨x⟩:=x;have⟨y⟩:=y;have h:(x==y)=true:=h;rw[eq_of_beq h]
omit F R in
omit F R in
theorem Cj:∀n a b,Instr.sameBits n a b=true->a=b:=by intro n;induction n with
 |zero=>intro a b h;cases a<;>cases b<;>first|(simp_all[Instr.sameBits];done)|exact congrArg Value.string (Lr h)
 |succ n c=>intro a b h;cases a with
   |iface t v=>cases b with
     |iface u w=>simp only[Instr.sameBits,dO,uP]at h;rw[h.1,c v w h.2]
     |_=>simp[Instr.sameBits]at h
   |agg x=>cases b with
     |agg y=>simp only[Instr.sameBits,dO,uP]at h;have:=WX (f:=Instr.sameBits n) (λx y e=>c x y e) x.toList y.toList (by simpa using h.1) h.2;rw[Array.toList_inj.1 this]
     |_=>simp[Instr.sameBits]at h
   |_=>cases b<;>first|(simp_all[Instr.sameBits];done)|exact congrArg Value.string (Lr h)
omit F in
theorem IX(j:G.strict=true):∀n a b,Instr.sameBits n (bB Z a) (bB Z b)=Instr.sameBits n a b:=by
 have g:∀a b:Option Addr,(a.map (cA Z)==b.map (cA Z))=(a==b):=λa b=>by cases a<;>cases b<;>first|rfl|exact addr_eq R _ _
 have d:∀a b:Option Nat,(a.map Z.f==b.map Z.f)=(a==b):=λa b=>by
  have hi:∀x y,(Z x==Z y)=(x==y):=λx y=>by
   by_cases h:x=y;.simp[h]
   .rw[beq_eq_false_iff_ne.mpr h,beq_eq_false_iff_ne.mpr (λe=>h (R.inj _ _ e))]
  cases a<;>cases b<;>first|rfl|exact hi _ _
 have c:∀r,oz Z r=.chan r:=λr=>by cases r with
  |none=>rfl
  |some k=>show Z.s k=_;rw[R.sub,(G.id j).1]
 intro n;induction n with
 |zero=>intro a b;cases a<;>cases b<;>simp only[cS,bZ,eI,bH,dH,cK,bQ,dY,cM,dQ,cU,cT,cI,dJ,dP,c,Instr.sameBits,g,d]
 |succ n i=>intro a b;cases a<;>cases b<;>simp only[cS,bZ,eI,bH,dH,cK,bQ,dY,cM,dQ,cU,cT,cI,dJ,dP,c,Instr.sameBits,g,d,i];rename_i x y;rw[JY,JY];congr 1;rw[sX,sX,List.zip_map,List.all_map];congr 1;funext ⟨u,v⟩;exact i u v
omit F in
theorem CY(c:G.strict=true)(a b):SR p p' Z (VR Z) (Instr.keyThatStays a b) (Instr.keyThatStays (bB Z a) (bB Z b)):=by unfold Instr.keyThatStays;rw[IX R c];refine eQ (aN rfl) ?_;refine aK iE ?_;rintro _ n rfl;refine aN ?_;split<;>rfl
theorem IY(d:G.strict=true)(t)(a:zD p t=true)(m k v):SR p p' Z (λ_ _=>True) (Instr.mapUpdate t m k v) (Instr.mapUpdate t (bB Z m) (bB Z k) (bB Z v)):=by
 refine aK (aR F t) ?_;rintro _ u ⟨rfl,b⟩;cases u<;>first|exact aM rfl|skip
 rename_i g e;cases m<;>first|exact aM rfl|skip
 rename_i r;cases r with
 |none=>simp;exact bI F _
 |some r=>
   simp;refine aK iD ?_;rintro o _ rfl;cases o<;>first|exact aM rfl|skip
   rename_i es c;refine aK (lJ F _ _ 5 _ _ (jP a b)) ?_;intro _ _ _;simp;refine aK (qC F R g (jP a b) k es.toList) ?_;rintro f _ rfl;cases f with
   |none=>have:=gM (p:=p) (p':=p') (Z:=Z) (r:=r) (o:=.map (es.push {key:=k,val:=v,born:=c}) (c+1)) rfl;simpa[dV,mJ,SZ]using this
   |some f=>
     have⟨i,x⟩:=f;refine aK (Q:=VR Z) ?_ ?_;.have:=CY (p:=p) (p':=p') R d (((es[i]?).map (·.key)).getD k) k;cases h:es[i]? with
      |none=>simpa[h]using this
      |some y=>simpa[h,mJ]using this
     .rintro key _ rfl;have:=gM (p:=p) (p':=p') (Z:=Z) (r:=r) (o:=.map (es.modify i λe=>{e with key:=key,val:=v}) c) rfl;have h:dV Z (.map (es.modify i λe=>{e with key:=key,val:=v}) c)=.map ((es.map (mJ Z)).modify i λe=>{e with key:=bB Z key,val:=bB Z v}) c:=by simp[dV];exact Ev (mJ Z) (λe=>{e with key:=key,val:=v}) (λe=>{e with key:=bB Z key,val:=bB Z v}) (λx=>rfl) es i
      rwa [h]at this
end
section
variable{G:Gs}{p p':Program}{Z:Pi}(F:Fit G p p')(R:Rn G Z)
include F R
theorem S4(b t args)(a:(b[0]?).all (zD p)=true):SR p p' Z (VR Z) (Builtin.delete_ b t args) (Builtin.delete_ b t (args.map (bB Z))):=by
 unfold Builtin.delete_;simp;cases g:b[0]?<;>first|exact aM rfl|skip
 rw[g]at a;cases args[0]?<;>first|exact aM rfl|skip
 cases args[1]?<;>first|exact aM rfl|skip
 rename_i t m k;refine aK (aR F t) ?_;rintro _ u ⟨rfl,d⟩;cases u<;>first|exact aM rfl|skip
 rename_i j e;cases m<;>first|exact aM rfl|skip
 rename_i r;cases r with
 |none=>simp;exact aK (lJ F _ _ 5 _ _ (jP a d)) (λ_ _ _=>aN (by simp[VR]))
 |some r=>
   simp;refine aK iD ?_;rintro o _ rfl;cases o<;>first|exact aM rfl|skip
   rename_i es c;refine aK (Q:=λ_ _=>True) (by
    have:(es.map (mJ Z)).isEmpty=es.isEmpty:=by simp[Array.isEmpty]
    rw[this];exact lJ F _ _ 5 _ _ (jP a d)) ?_
   intro _ _ _;simp;refine aK (qC F R j (jP a d) k es.toList) ?_;rintro f _ rfl;cases f with
   |none=>have:=gM (p:=p) (p':=p') (Z:=Z) (r:=r) (o:=.map es c) rfl;exact aK this (λ_ _ _=>aN (by simp[VR]))
   |some f=>
     have⟨i,x⟩:=f;have:=gM (p:=p) (p':=p') (Z:=Z) (r:=r) (o:=.map (es.eraseIdxIfInBounds i) c) rfl;have h:(es.eraseIdxIfInBounds i).map (mJ Z)=(es.map (mJ Z)).eraseIdxIfInBounds i:=by grind
     simp[dV,h]at this;exact aK this (λ_ _ _=>aN (by simp[VR]))
omit R in
theorem WY(t x):SR p p' Z (VR Z) (Instr.range t x) (Instr.range t (bB Z x)):=by
 refine aK (aR F t) ?_;rintro _ u ⟨rfl,e⟩;have fin:∀o,cL p o=true->SR p p' Z (VR Z) (newObj o>>=λr=>pure (.pointer (some ⟨r,0,none⟩))) (newObj (dV Z o)>>=λr=>pure (.pointer (some ⟨r,0,none⟩))):=λo d=>by refine aK (qf d) ?_;rintro r _ rfl;exact aN (by simp[VR])
 cases u with
 |string=>
   cases x<;>first|exact aM rfl|skip
   simp;exact fin (.stringIter _ 0) rfl
 |map a b=>
   cases x<;>first|exact aM rfl|skip
   rename_i r;cases r with
   |none=>simp;exact fin (.mapIter none 0 #[] 0) rfl
   |some r=>
     simp;refine aK iD ?_;rintro o _ rfl;cases o<;>first|exact aM rfl|skip
     rename_i es c;exact fin (.mapIter (some r) c #[] c) rfl
 |_=>exact aM rfl
omit F R in
theorem wa(f:Nat->Bool)(es:Array MapEntry):(es.map (mJ Z)).filter (λe=>f e.born)=(es.filter (λe=>f e.born)).map (mJ Z):=by rw[Array.filter_map];rfl
omit F R in
theorem WZ(f:Nat->Bool)(es:Array MapEntry):(es.map (mJ Z)).all (λe=>f e.born)=es.all (λe=>f e.born):=by rw[Array.all_map];rfl
omit F R in
theorem aaB(i s t):SR p p' Z (VR Z) (Instr.next i s t) (Instr.next (bB Z i) s t):=by
 cases i<;>first|exact aM rfl|skip
 rename_i a;cases a with
 |none=>exact aM rfl
 |some a=>have⟨r,off,sp⟩:=a;cases off with
   |succ n=>exact aM rfl
   |zero=>simp;refine aK iD ?_;rintro o _ rfl;cases o with
     |stringIter b pos=>cases s with
       |false=>exact aM rfl
       |true=>refine eQ ?_ (aN (by simp[VR]));have:=gM (p:=p) (p':=p') (Z:=Z) (r:=r) (o:=.stringIter b (pos+(Utf8.decode b pos).2)) rfl;exact aK this (λ_ _ _=>aN (by simp[VR,goInt]))
     |mapIter m since seen last=>cases s with
       |true=>cases m<;>exact aM rfl
       |false=>cases m with
         |none=>exact aN (by simp[VR])
         |some m=>
           refine aK iD ?_;rintro o _ rfl;cases o<;>first|exact aM rfl|skip
           rename_i es c;dsimp[dV];have f:=WZ (Z:=Z) (λn=>decide (n>=last)) es;have g:(es.map (mJ Z)).isEmpty=es.isEmpty:=by simp[Array.isEmpty]
           rw[f,g];refine eQ (aM rfl) ?_;have h:=wa (Z:=Z) (λn=>!seen.contains n) es;rw[h];have j:=wa (Z:=Z) (λn=>decide (n<since)) (es.filter λe=>!seen.contains e.born);have k:=wa (Z:=Z) (λn=>decide (n>=since)) (es.filter λe=>!seen.contains e.born);rw[j,k];generalize(es.filter λe=>!seen.contains e.born).filter (λe=>decide (e.born<since))=old,(es.filter λe=>!seen.contains e.born).filter (λe=>decide (e.born>=since))=new;have l:((if(old.map (mJ Z)).isEmpty=true then#[none]else#[])++Array.map some (old.map (mJ Z)++new.map (mJ Z)))=((if old.isEmpty=true then#[none]else#[])++Array.map some (old++new)).map (Option.map (mJ Z)):=by
            have:(old.map (mJ Z)).isEmpty=old.isEmpty:=by simp[Array.isEmpty]
            rw[this];split<;>simp[Qi]
           rw[l];generalize((if old.isEmpty=true then#[none]else#[])++Array.map some (old++new))=d;rw[JY];refine aK iE ?_;rintro _ n rfl;rw[kU];cases d[n]? with
           |none=>exact aM rfl
           |some e=>cases e with
             |none=>exact aN (by simp[VR])
             |some e=>have:=gM (p:=p) (p':=p') (Z:=Z) (r:=r) (o:=.mapIter (some m) since (seen.push e.born) c) rfl;exact aK this (λ_ _ _=>aN (by simp[VR,mJ]))
     |_=>exact aM rfl
omit R in
theorem Oy(t x):SR p p' Z (VR Z) (Instr.makeMap t x) (Instr.makeMap t (x.map (bB Z))):=by
 have fin:SR p p' Z (VR Z) (newObj (.map #[] 0)>>=λr=>pure (.map (some r))) (newObj (.map #[] 0)>>=λr=>pure (.map (some r))):=by refine aK (Q:=λr a=>a=Z r) (by have:=qf (p:=p) (p':=p') (Z:=Z) (o:=.map #[] 0) rfl;simpa[dV]using this) ?_;rintro r _ rfl;exact aN (by simp[VR])
 cases x with
 |none=>exact fin
 |some x=>
   refine aK (aR F t) ?_;rintro _ u ⟨rfl,b⟩;cases u<;>first|exact aM rfl|skip
   refine aK (vZ x) ?_;rintro _ n rfl;exact fin
omit F R in
theorem A2(f:Value->Value->Sem Value)(h:∀a b,SR p p' Z (VR Z) (f a b) (f (bB Z a) (bB Z b))):∀(l:List Value) (a:Value),SR p p' Z (VR Z) (l.foldlM f a) ((l.map (bB Z)).foldlM f (bB Z a))
 |[],a=>by simp;exact aN rfl
 |b::l,a=>by refine aK (h a b) ?_;rintro v _ rfl;exact A2 f h l v
omit F R in
theorem aaC(a b):SR p p' Z (VR Z) (Builtin.min2 a b) (Builtin.min2 (bB Z a) (bB Z b)):=by cases a with
 |int k x=>cases b with
   |int k' y=>simp;exact aN (by simp[VR])
   |pointer a=>cases a<;>exact aM rfl
   |_=>exact aM rfl
 |float k x=>cases b with
   |float k' y=>
     simp[Builtin.min2];split;.refine aK iE ?_;rintro _ n rfl;exact aN (by simp[VR])
     all_goals exact aN (by simp[VR])
   |pointer a=>cases a<;>exact aM rfl
   |_=>exact aM rfl
 |string x=>cases b with
   |string y=>simp;refine aK ((r9 (Z:=Z) .leq x y).val) ?_;rintro v _ rfl;refine aK (AO v) ?_;rintro _ b rfl;exact aN (by simp[VR])
   |pointer a=>cases a<;>exact aM rfl
   |_=>exact aM rfl
 |pointer a=>cases a<;>cases b<;>first|exact aM rfl|(rename_i c;cases c<;>exact aM rfl)
 |_=>cases b<;>first|exact aM rfl|(rename_i c;cases c<;>exact aM rfl)
omit F R in
theorem aaD(a b):SR p p' Z (VR Z) (Builtin.max2 a b) (Builtin.max2 (bB Z a) (bB Z b)):=by cases a with
 |int k x=>cases b with
   |int k' y=>simp;exact aN (by simp[VR])
   |pointer a=>cases a<;>exact aM rfl
   |_=>exact aM rfl
 |float k x=>cases b with
   |float k' y=>
     simp[Builtin.max2];split;.refine aK iE ?_;rintro _ n rfl;exact aN (by simp[VR])
     all_goals exact aN (by simp[VR])
   |pointer a=>cases a<;>exact aM rfl
   |_=>exact aM rfl
 |string x=>cases b with
   |string y=>simp;refine aK ((r9 (Z:=Z) .geq x y).val) ?_;rintro v _ rfl;refine aK (AO v) ?_;rintro _ b rfl;exact aN (by simp[VR])
   |pointer a=>cases a<;>exact aM rfl
   |_=>exact aM rfl
 |pointer a=>cases a<;>cases b<;>first|exact aM rfl|(rename_i c;cases c<;>exact aM rfl)
 |_=>cases b<;>first|exact aM rfl|(rename_i c;cases c<;>exact aM rfl)
omit F R in
theorem ady(a t args):SR p p' Z (VR Z) (Builtin.min_ a t args) (Builtin.min_ a t (args.map (bB Z))):=by unfold Builtin.min_;rw[sX];cases args.toList with
 |nil=>exact aM rfl
 |cons x l=>exact A2 _ aaC l x
omit F R in
theorem adz(a t args):SR p p' Z (VR Z) (Builtin.max_ a t args) (Builtin.max_ a t (args.map (bB Z))):=by unfold Builtin.max_;rw[sX];cases args.toList with
 |nil=>exact aM rfl
 |cons x l=>exact A2 _ aaD l x
end
section
variable{G:Gs}{p p':Program}{Z:Pi}(F:Fit G p p')(R:Rn G Z)
section
omit F R
theorem Xa(i):SR p p' Z (VR Z) (Instr.entry i) (Instr.entry (bB Z i)):=by
 cases i<;>first|exact aM rfl|skip
 rename_i a;cases a with
 |none=>exact aM rfl
 |some a=>have⟨r,off,sp⟩:=a;cases off with
   |succ n=>exact aM rfl
   |zero=>
     simp;refine aK iD ?_;rintro o _ rfl;cases o<;>first|exact aM rfl|skip
     rename_i m since seen last;cases m with
     |none=>exact aM rfl
     |some m=>dsimp[dV];cases seen.back? with
       |none=>exact aM rfl
       |some b=>
         refine aK iD ?_;rintro o _ rfl;cases o<;>first|exact aM rfl|skip
         rename_i es c;dsimp[dV];split;.exact aM rfl
         .have:(es.map (mJ Z)).find? (λe=>e.born==b)=(es.find? (λe=>e.born==b)).map (mJ Z):=by rw[Array.find?_map];rfl
          rw[this];cases es.find? (λe=>e.born==b)with
          |none=>exact aM rfl
          |some e=>exact aN (by simp[VR,mJ])
theorem zN:∀n a acc,SR p p' Z (λx c=>c=x) (loadBytes a acc n) (loadBytes (cA Z a) acc n)
 |0,a,acc=>aN rfl
 |n+1,a,acc=>by refine aK Dg ?_;rintro v _ rfl;cases v with
   |int k b=>rw[cS];cases k with
     |u8=>have:=zN n (a.add 1) (acc.push b.toNat.toUInt8);exact this
     |_=>exact aM rfl
   |_=>exact aM rfl
end
include F
theorem Gc(d):∀t u,sameLayout p' d t u=sameLayout p d t u:=by induction d with
 |zero=>intro t u;rfl
 |succ d a=>intro t u;simp[sameLayout,F.under,WQ F,nX F,a]
theorem Xb(fits:TypeId->Bool)(d):∀e c o n,rowAt p' fits d e c o n=rowAt p fits d e c o n:=by induction d with
 |zero=>intro e c o n;rfl
 |succ d a=>intro e c o n;simp[rowAt,F.under,F.cellsOf,nX F,a]
theorem S5(d):∀e c o u n,liesAt p' d e c o u n=liesAt p d e c o u n:=by induction d with
 |zero=>intro e c o u n;rfl
 |succ d a=>intro e c o u n;simp[liesAt,F.under,F.depth,Gc F,Xb F,a]
theorem Ew(a u n):SR p p' Z (λx b=>b=x) (variablesAt a u n) (variablesAt (cA Z a) u n):=by refine iI ?_;refine aK nV ?_;rintro _ s rfl;cases s with
 |none=>exact aN rfl
 |some s=>obtain⟨e,c⟩:=s;exact aN (by simp[F.depth,F.cellsOf,S5 F])
theorem adA(a t args)(b:(a[0]?).all (okL p)=true):SR p p' Z (VR Z) (Builtin.cap_ a t args) (Builtin.cap_ a t (args.map (bB Z))):=by unfold Builtin.cap_;rw[kU];cases f:a[0]? with
 |none=>exact aM rfl
 |some t=>rw[f,Qj]at b;cases args[0]? with
   |none=>exact aM rfl
   |some x=>refine aK (aR F t) ?_;rintro _ d ⟨rfl,c⟩;cases d with
     |array n e=>exact aN (by simp[VR,goInt])
     |pointer e=>refine aK (aR F e) ?_;rintro _ d ⟨rfl,_⟩;cases d<;>first|exact aM rfl|exact aN (by simp[VR,goInt])
     |slice e=>cases x<;>first|exact aM rfl|(rw[bQ];exact aN (by simp[VR,goInt]))
     |chan k e=>simp[okL,c]at b
     |_=>exact aM rfl
theorem Xd(b t args)(h:∀s,b[0]?=some s->s<p.types.size):SR p p' Z (VR Z) (Builtin.clear_ b t args) (Builtin.clear_ b t (args.map (bB Z))):=by unfold Builtin.clear_;rw[kU];cases i:b[0]? with
 |none=>exact aM rfl
 |some t=>have g:=h t i;cases args[0]? with
   |none=>exact aM rfl
   |some x=>refine aK (aR F t) ?_;rintro _ d ⟨rfl,f⟩;have fin:SR p p' Z (VR Z) (Pure.pure (.tuple #[]):Sem Value) (Pure.pure (.tuple #[])):=aN (by simp[VR]);cases x with
     |map r=>cases r with
       |none=>rw[dY];cases d<;>exact fin
       |some r=>rw[dY,dW];cases d;all_goals
          refine aK iD ?_;rintro o _ rfl;cases o<;>first|exact aM rfl|skip
          rename_i es c;have:=gM (p:=p) (p':=p') (Z:=Z) (r:=r) (o:=.map #[] c) rfl;exact aK (Q:=λ_ _=>True) (by simpa[dV]using this) (λ_ _ _=>fin)
     |slice a n c=>rw[bQ];cases a with
       |none=>cases d<;>exact fin
       |some a=>cases n with
         |zero=>cases d<;>exact fin
         |succ n=>cases d with
           |slice e=>
             refine aK (fZ F (Dh F g f)) ?_;rintro _ z ⟨rfl,j⟩;have k:z.cells.map (bB Z)=z.cells:=by rw[<-lY,j]
             have:=pj (p:=p) (p':=p') (Z:=Z) a (Builtin.zeroCells z.cells (n+1)).toList 0;rw[<-sX,pk k]at this;exact aK this (λ_ _ _=>fin)
           |_=>exact aM rfl
     |_=>cases d<;>exact aM rfl
include R in
theorem CZ(c t args):SR p p' Z (VR Z) (Builtin.unsafeString_ c t args) (Builtin.unsafeString_ c t (args.map (bB Z))):=by
 have main:∀(a:Option Addr) (l:Value),SR p p' Z (VR Z) (Builtin.unsafeString_ c t #[.pointer a,l]) (Builtin.unsafeString_ c t #[.pointer (a.map (cA Z)),bB Z l]):=λa l=>by refine aK (Q:=λa b=>b=a) (vZ l) ?_;rintro _ n rfl;cases c[0]? with
  |none=>exact aM rfl
  |some pt=>
    dsimp only;split;.exact gX F R _
    .split;.exact aM rfl
     .cases a with
      |none=>refine eQ (aN (by simp[VR])) (bI F _)
      |some a=>refine eQ (aN (by simp[VR])) ?_;refine aK (G0 F pt) ?_;rintro _ e rfl;refine aK (Ew F a e _) ?_;rintro _ b rfl;refine eQ ?_ (aM rfl);refine aK (zN _ a _) ?_;rintro _ s rfl;refine aK GZ ?_;intro _ _ _;exact aN (by simp[VR])
 have⟨l⟩:=args;match l with
 |[]=>exact aM rfl
 |[x]=>cases x<;>exact aM rfl
 |[.pointer a,y]=>have:=main a y;simpa using this
 |x::y::z::l=>cases x<;>exact aM rfl
 |[.bool _,_]|[.int ..,_]|[.float ..,_]|[.complex ..,_]|[.string _,_]|[.slice ..,_]|[.map _,_]|[.chan _,_]|[.func ..,_]|[.nilFunc,_]|[.iface ..,_]|[.nilIface,_]|[.agg _,_]|[.tuple _,_]=>exact aM rfl
end
def Xe(Z:Pi):Place->Place
 |.val v=>.val (bB Z v)
 |.var a=>.var (cA Z a)
section
variable{G:Gs}{p p':Program}{Z:Pi}(F:Fit G p p')(R:Rn G Z)
include F
theorem yz(t x):SR p p' Z (VR Z) (x.get t) ((Xe Z x).get t):=by cases x with
 |val v=>exact aN rfl
 |var a=>exact ub F t a
include R
theorem A3:∀l t x,SR p p' Z (λa b=>b=(a.1,Xe Z a.2)) (follow l t x) (follow l t (Xe Z x))
 |[],t,x=>aN rfl
 |s::l,t,x=>by
   have c:=A3 l;refine aK (aR F s.struct) ?_;rintro _ u ⟨rfl,-⟩;cases u<;>first|exact aM rfl|skip
   rename_i d;dsimp only;cases d[s.index]? with
   |none=>exact aM rfl
   |some f=>
     refine eQ ?_ ?_;.refine aK (yz F t x) ?_;rintro v _ rfl;refine aK (AP F R v) ?_;rintro a _ rfl;refine aK (r8 F a f) ?_;rintro b _ rfl;exact c f.type (.var b)
     .cases x with
      |var a=>refine aK (r8 F a f) ?_;rintro b _ rfl;exact c f.type (.var b)
      |val v=>cases v with
        |agg cs=>simp[Xe];refine aK (kX F f.type cs f.offset) ?_;rintro v _ rfl;exact c f.type (.val v)
        |_=>exact aM rfl
theorem Oz(t v n):SR p p' Z (VR Z) (Builtin.ssaWrapNilChk_ #[t] t #[v,strVal "",strVal n]) (Builtin.ssaWrapNilChk_ #[t] t #[bB Z v,strVal "",strVal n]):=by cases v with
 |pointer a=>cases a with
   |some a=>rw[bH];exact aN (show Value.pointer (some (cA Z a))=bB Z (.pointer (some a))by simp)
   |none=>
     rw[bH];refine aK iE ?_;rintro _ n rfl;refine eQ (gX F R _) ?_;refine aK (aR F t) ?_;rintro _ u ⟨rfl,-⟩;cases u<;>first|exact aM rfl|skip
     refine aK (fV F _) ?_;rintro _ i ⟨rfl,-⟩;have⟨desc,_,_,_,_,_,_,_,_,_⟩:=i;cases desc<;>first|exact aM rfl|skip
     dsimp only;split
     .split;.exact bI F _
      .exact aM rfl
     .exact aM rfl
 |_=>exact aM rfl
theorem ya(t x b n):SR p p' Z (VR Z) (receiverAt t x b n) (receiverAt t (Xe Z x) b n):=by
 refine aK (aR F t) ?_;rintro _ u ⟨rfl,_⟩;by_cases c:∃e,u=.pointer e;.obtain⟨e,rfl⟩:=c;cases b with
  |true=>cases x<;>exact yz F t _
  |false=>
    have tail:∀v,SR p p' Z (VR Z) (asAddr v>>=λa=>loadVar e a) (asAddr (bB Z v)>>=λa=>loadVar e a):=λv=>by refine aK (AP F R v) ?_;rintro a _ rfl;exact ub F e a
    cases n with
    |none=>
      cases x<;>
      .refine aK (yz F t _) ?_;rintro v _ rfl;exact aK (Q:=VR Z) (aN rfl) (by rintro v _ rfl;exact tail v)
    |some n=>
      cases x<;>
      .refine aK (yz F t _) ?_;rintro v _ rfl;refine aK (Oz F R t v n) ?_;rintro v _ rfl;exact tail v
 .cases b with
  |true=>cases x with
    |var a=>cases u<;>first|exact aN (by simp[VR])|exact absurd ⟨_,rfl⟩ c
    |val v=>cases u<;>first|exact aM rfl|exact absurd ⟨_,rfl⟩ c
  |false=>cases x<;>cases u<;>first|exact yz F t (.val _)|exact yz F t (.var _)|exact absurd ⟨_,rfl⟩ c
theorem Ex(t v path b):SR p p' Z (VR Z) (receiverVia t v path b) (receiverVia t (bB Z v) path b):=by refine aK (A3 F R path.toList t (.val v)) ?_;rintro⟨t,x⟩ _ rfl;exact ya F R t x b none
theorem G7:∀n t v s,SR p p' Z (λa b=>b=(a.1,bB Z a.2)) (method n t v s) (method n t (bB Z v) s)
 |0,_,_,_=>aM rfl
 |n+1,t,v,s=>by
   refine aK (fV F _) ?_;rintro _ i ⟨rfl,_⟩;dsimp only;split
   .rename_i m _;refine aK (A3 F R m.path.toList t (.val v)) ?_;rintro⟨t,x⟩ _ rfl;split;.refine aK (yz F t x) ?_;rintro v _ rfl;cases v with
     |iface c d=>simp;exact G7 n c d s
     |nilIface=>simp;exact bI F _
     |_=>exact aM rfl
    .refine aK (ya F R t x _ _) ?_;rintro v _ rfl;exact aN rfl
   .exact aM rfl
omit R in
theorem wh:∀l t x,SR p p' Z (λa b=>b=a.map λc=>(c.1,c.2.map (bB Z))) (followBlind l t x) (followBlind l t (x.map (bB Z)))
 |[],t,x=>aN rfl
 |s::l,t,x=>by
   have d:=wh l;refine aK (aR F s.struct) ?_;rintro _ u ⟨rfl,-⟩;cases u<;>first|exact aM rfl|skip
   rename_i e;dsimp only;cases e[s.index]? with
   |none=>exact aM rfl
   |some f=>cases s.deref with
     |true=>cases x with
       |none=>exact aN rfl
       |some v=>cases v with
         |pointer a=>cases a with
           |none=>simp;exact aN rfl
           |some a=>simp;exact d f.type none
         |_=>exact aM rfl
     |false=>cases x with
       |none=>exact d f.type none
       |some v=>cases v with
         |agg cs=>simp;refine aK (kX F f.type cs f.offset) ?_;rintro v _ rfl;exact d f.type (some v)
         |_=>exact aM rfl
omit R in
theorem Cl:∀n t v s,SR p p' Z (λa b=>b=a) (nilAhead n t v s) (nilAhead n t (bB Z v) s)
 |0,_,_,_=>aN rfl
 |n+1,t,v,s=>by
   refine aK (fV F _) ?_;rintro _ i ⟨rfl,_⟩;split;.rename_i m _;refine aK (wh F m.path.toList t (some v)) ?_;rintro r _ rfl;cases r with
    |error r=>exact aN rfl
    |ok r=>have⟨t,x⟩:=r;simp[Except.map];cases m.func with
      |none=>cases x with
        |none=>exact aN rfl
        |some v=>cases v with
          |iface c d=>simp;exact Cl n c d s
          |nilIface=>simp;exact aN rfl
          |_=>exact aM rfl
      |some f=>have⟨f,b⟩:=f;cases b with
        |true=>exact aN rfl
        |false=>
          refine aK (aR F t) ?_;rintro _ u ⟨rfl,_⟩;cases u<;>first|exact aN rfl|skip
          cases x with
          |none=>exact aN rfl
          |some v=>cases v with
            |pointer a=>cases a<;>(simp;exact aN rfl)
            |chan r=>rw[dW,cM];obtain h|⟨_,h⟩|⟨_,_,_,h⟩|⟨_,h⟩|⟨_,h⟩|⟨_,_,_,h⟩:=fQ Z r<;>rw[h]<;>exact aN rfl
            |_=>simp;exact aN rfl
   .exact aM rfl
end
def sf(Z:Pi):Next->Next
 |.value v=>.value (bB Z v)
 |.enter f a=>.enter f (a.map (bB Z))
 |.round l f t a b=>.round (Z l) f (t.map (bB Z)) a b
 |.defer d=>.defer (mO Z d)
 |n=>n
def okN(p:Program):Next->Bool
 |.value _|.skip|.enter ..|.recover=>true
 |.round _ f _ a b=>eW p a&&eW p b&&yq p f
 |.defer d=>okD p d
 |_=>false
abbrev NR(p:Program)(Z:Pi)(n n':Next):Prop:=n'=sf Z n/\okN p n=true
def kS(G:Gs)(p p':Program):Prop:=∀Z,Rn G Z->∀f args,SR p p' Z (NR p Z) (callFunc f args) (callFunc f (args.map (bB Z)))
section
variable{G:Gs}{p p':Program}{Z:Pi}(F:Fit G p p')(R:Rn G Z)
section
omit F R
theorem oZ(l):SR p p' Z (λa b=>b=SJ Z a/\eW p a.assign=true/\eW p a.body=true/\a.pending.all (eW p)=true/\yq p a.fn=true) (Instr.getLoop l) (Instr.getLoop (Z l)):=by
 refine aK yx ?_;rintro o _ ⟨rfl,h⟩;cases o<;>first|exact aM rfl|skip
 simp[cL]at h;exact aN ⟨rfl,h.1.1.1,h.1.1.2,h.1.2,h.2⟩
theorem IZ(f t c){a b}(d:eW p a=true)(e:eW p b=true)(i:yq p f=true)(l):SR p p' Z (λx y=>y=(Z x.1,x.2.map (mO Z))/\x.2.all (okD p)=true) (Instr.enterLoop f t c a b l) (Instr.enterLoop f (t.map (bB Z)) c a b (l.map Z.f)):=by
 have tail:∀(r:Nat) (ds:List Deferred),ds.all (okD p)=true->SR p p' Z (λx y=>y=(Z x.1,x.2.map (mO Z))/\x.2.all (okD p)=true) (newObj (.loop {state:=.ready,pending:=none,fn:=f,tmps:=t,params:=c,assign:=a,body:=b,defers:=r})>>=λx=>pure (x,ds))
  (newObj (.loop {state:=.ready,pending:=none,fn:=f,tmps:=t.map (bB Z),params:=c,assign:=a,body:=b,defers:=Z r})>>=λx=>pure (x,ds.map (mO Z))):=λr ds g=>by
  refine aK (Q:=λx y=>y=Z x) ?_ ?_;.exact qf (o:=.loop {state:=.ready,pending:=none,fn:=f,tmps:=t,params:=c,assign:=a,body:=b,defers:=r}) (by simp[cL,d,e,i])
  .rintro x _ rfl;exact aN ⟨rfl,g⟩
 cases l with
 |none=>refine aK (Q:=λx y=>y=Z x) (by have:=qf (p:=p) (p':=p') (Z:=Z) (o:=.deferred (some [])) rfl;simpa[dV]using this) ?_;rintro r _ rfl;refine aK (Q:=λx y=>y=(Z x.1,x.2.map (mO Z))/\x.2.all (okD p)=true) (aN ⟨by simp[mO,CU],rfl⟩) ?_;rintro⟨r,ds⟩ _ ⟨rfl,h⟩;exact tail r ds h
 |some l=>refine aK (oZ l) ?_;rintro r _ ⟨rfl,-⟩;refine aK (Q:=λx y=>y=(Z x.1,x.2.map (mO Z))/\x.2.all (okD p)=true) (aN ⟨rfl,rfl⟩) ?_;rintro⟨r,ds⟩ _ ⟨rfl,h⟩;exact tail r ds h
theorem Xf(l:List (Tmp×Value)):∀t:Array Value,(l.foldl (λt (i,a)=>t.setIfInBounds i a) t).map (bB Z)=(l.map λ(i,a)=>(i,bB Z a)).foldl (λt (i,a)=>t.setIfInBounds i a) (t.map (bB Z)):=by induction l with
 |nil=>intro t;rfl
 |cons x l b=>intro t;simp only[J1,lD,b];rw[JW]
theorem Xg(l args):SR p p' Z (NR p Z) (Instr.yield l args) (Instr.yield (Z l) (args.map (bB Z))):=by
 refine aK (oZ l) ?_;rintro r _ ⟨rfl,b,c,e,d⟩;have a:(args.map (bB Z)).size≠(SJ Z r).params.size↔args.size≠r.params.size:=by simp[SJ]
 simp only[a];refine eQ (aM rfl) ?_;refine aN ⟨?_,by simp[okN,b,c,d]⟩;simp only[sf,SJ,Vf,ze,sQ];rw[<-Va,<-Va,Xf];congr 1;simp[List.zip_map_right]
theorem Xh{α β}{Q:α->β->Prop}(s):SR p p' Z Q (throw s) (throw s):=SR.halt rfl
theorem rO(l j)(d:j.all (eW p)=true):SR p p' Z (VR Z) (Instr.endRound l j) (Instr.endRound (Z l) j):=by refine aK (oZ l) ?_;rintro r _ ⟨rfl,a,b,e,c⟩;refine aK (Q:=λ_ _=>True) (gM (o:=.loop {r with state:=if j.isNone then .ready else .done,pending:=j}) (by simp[cL,a,b,c,d])) ?_;intro _ _ _;exact aN (by simp[VR])
theorem C0(l d)(h:okD p d=true):SR p p' Z (λ_ _=>True) (Instr.deferInRound l d) (Instr.deferInRound (Z l) (mO Z d)):=by
 refine aK (oZ l) ?_;rintro r _ ⟨rfl,-⟩;refine aK yx ?_;rintro o _ ⟨rfl,a⟩;cases o<;>first|exact aM rfl|skip
 rename_i ds;cases ds with
 |none=>exact Xh _
 |some ds=>simp only[cL,Qj]at a;exact gM (o:=.deferred (some (d::ds))) (by simp[cL,h,a])
theorem C2(b):SR p p' Z (λx y=>y=x.map (mO Z)/\x.all (okD p)=true) (Instr.takeDeferred b) (Instr.takeDeferred (Z b)):=by
 refine aK yx ?_;rintro o _ ⟨rfl,a⟩;cases o<;>first|exact aM rfl|skip
 rename_i ds;cases ds with
 |none=>exact aM rfl
 |some ds=>refine aK (Q:=λ_ _=>True) (gM (o:=.deferred none) rfl) ?_;intro _ _ _;exact aN ⟨rfl,a⟩
end
include F R
theorem Gd(l):SR p p' Z (λ_ _=>True) (Instr.beginRound l) (Instr.beginRound (Z l)):=by refine aK (oZ l) ?_;rintro r _ ⟨rfl,a,b,d,c⟩;refine aK (Q:=λ_ _=>True) (gM (o:=.loop {r with state:=.busy}) (by simp[cL,a,b,c,d])) ?_;intro _ _ _;have:(SJ Z r).state=r.state:=rfl;rw[this];cases r.state with
 |ready=>exact aN trivial
 |_=>exact bI F _
theorem OB(l):SR p p' Z (λx y=>y=x/\x.all (eW p)=true) (Instr.endLoop l) (Instr.endLoop (Z l)):=by refine aK (oZ l) ?_;rintro r _ ⟨rfl,b,c,a,d⟩;refine eQ (gX F R _) ?_;refine aK (Q:=λ_ _=>True) (gM (o:=.loop {r with state:=.exhausted}) (by simp[cL,b,c,d,a])) ?_;intro _ _ _;exact aN ⟨rfl,a⟩
theorem OC{a b}(h:okB p a b=true)(t cs args):SR p p' Z (NR p Z) (builtin b a t cs args) (builtin b a t cs (args.map (bB Z))):=by
 have v:∀{s s':Sem Value},SR p p' Z (VR Z) s s'->SR p p' Z (NR p Z) (do pure (Next.value (<-s))) (do pure (Next.value (<-s'))):=λh=>by refine aK h ?_;rintro v _ rfl;exact aN ⟨rfl,rfl⟩
 cases b with
 |append=>exact v (SY F R a t args λs c=>by simpa[okB,c,Ob]using h)
 |clear=>exact v (Xd F a t args λs c=>by simpa[okB,c,Ob]using h)
 |cap=>exact v (adA F a t args h)
 |unsafeString=>exact v (CZ F R a t args)
 |copy=>exact v (aaA F a t args)
 |delete=>exact v (S4 F R a t args h)
 |len=>exact v (adx F a t args h)
 |max=>exact v (adz a t args)
 |min=>exact v (ady a t args)
 |panic=>
   refine v ?_;have:(args.map (bB Z)).getD 0 .nilIface=bB Z (args.getD 0 .nilIface):=by rw[Gw,Gw,kU];cases args[0]?<;>simp
   rw[this];exact Ld F R _
 |recover=>exact aN ⟨rfl,rfl⟩
 |_=>exact absurd h (by simp[okB])
variable(C:kS G p p')
include C
theorem sj(v s args):SR p p' Z (NR p Z) (callMethod v s args) (callMethod (bB Z v) s (args.map (bB Z))):=by unfold callMethod;cases v with
 |iface t v=>simp;refine iI ?_;rw[F.types];refine aK (G7 F R _ t v s) ?_;rintro⟨f,x⟩ _ rfl;have:=C Z R f (#[x]++args);simpa using this
 |nilIface=>simp;exact bI F _
 |_=>exact aM rfl
theorem A4{t args}(h:okD p {target:=t,args:=args}=true):SR p p' Z (NR p Z) (invoke t args) (invoke (CU Z t) (args.map (bB Z))):=by unfold invoke;cases t with
 |nil=>exact bI F _
 |builtin b d t cs=>exact OC F R h t cs args
 |collected r=>exact aM rfl
 |coroexit c=>exact absurd h (by simp[okD])
 |fn f cap=>cases f with
   |func f=>have:=C Z R f (args++cap);simpa[CU,qm]using this
   |method n=>simp[CU,qm];cases a:args[0]? with
     |none=>exact aM rfl
     |some x=>have:=sj F R C x n (args.extract 1 args.size);simpa using this
   |methodOf t n=>simp;cases a:args[0]? with
     |none=>exact aM rfl
     |some x=>refine aK (aR F t) ?_;rintro _ u ⟨rfl,-⟩;cases u with
       |interface ms=>have:=sj F R C x n (args.extract 1 args.size);simpa using this
       |_=>have:=sj F R C (.iface t x) n (args.extract 1 args.size);simpa using this
   |via t path f b=>simp;cases a:args[0]? with
     |none=>exact aM rfl
     |some x=>refine aK (Ex F R t x path b) ?_;rintro v _ rfl;have:=C Z R f (#[v]++args.extract 1 args.size);simpa using this
   |yield l=>exact Xg l args
omit C F R in
theorem Ey{ρ rX}(b:∀x,rK p x=true->rX x=bB Z (ρ x)){a:Array Operand}(h:a.all (rK p)=true):a.map rX=(a.map ρ).map (bB Z):=by grind
omit C F R in
theorem Ez(v args):SR p p' Z (λd d'=>d'=mO Z d/\okD p d=true) (Deferred.ofValue v args) (Deferred.ofValue (bB Z v) (args.map (bB Z))):=by cases v with
 |func f a b=>rw[dQ];exact aN ⟨by simp[mO,CU],rfl⟩
 |nilFunc=>rw[cU];exact aN ⟨by simp[mO,CU],rfl⟩
 |_=>exact aM rfl
omit C F R in
theorem yA{ρ rX}(g:∀x,rK p x=true->rX x=bB Z (ρ x)){c}(h:Oc p c=true)(t):SR p p' Z (λd d'=>d'=mO Z d/\okD p d=true) (resolve ρ c t) (resolve rX c t):=by unfold resolve;simp only[Oc,dO]at h;have a:=Ey g h.1;cases e:c.callee with
 |builtin b=>rw[e]at h;rw[a];exact aN ⟨rfl,h.2⟩
 |invoke r n=>rw[e]at h;dsimp only;rw[a,g r h.2];exact aN ⟨by simp[mO,CU,qm],rfl⟩
 |value f=>rw[e]at h;dsimp only;rw[a,g f h.2];exact Ez _ _
omit C F R in
theorem Di{ρ rX}(b:∀x,rK p x=true->rX x=bB Z (ρ x)){a:Option Operand}(h:a.all (rK p)=true):a.map rX=(a.map ρ).map (bB Z):=by cases a with
 |none=>rfl
 |some a=>simp;exact b a (by simpa using h)
omit C F R in
theorem G8{ρ rX:Operand->Value}(c:∀x,rK p x=true->rX x=bB Z (ρ x)){a:Array (Nat×Operand)}(h:(a.all λ(_,x)=>rK p x)=true):(a.map λ(i,x)=>(i,rX x))=(a.map λ(i,x)=>(i,ρ x)).map λ(i,x)=>(i,bB Z x):=by rw[Array.map_map];refine Array.map_congr_left λx b=>?_;obtain⟨i,hi,rfl⟩:=Array.mem_iff_getElem.mp b;simp at h;simp;rw[c _ (h i hi)]
def aeS:Op->Bool
 |.mapUpdate ..=>true
 |_=>false
theorem S6{ρ rX}(e:∀x,rK p x=true->rX x=bB Z (ρ x)){o}(h:SL p o.op=true)(q:aeS o.op=true->G.strict=true)(A:ρ (.const .nilIface)=.nilIface)(B:∀x,rK p x=true->nw Z (ρ x)):SR p p' Z (NR p Z) (execOp ρ o) (execOp rX o):=by
 have v:∀{s s':Sem Value},SR p p' Z (VR Z) s s'->SR p p' Z (NR p Z) (do pure (Next.value (<-s))) (do pure (Next.value (<-s'))):=λh=>by refine aK h ?_;rintro v _ rfl;exact aN ⟨rfl,rfl⟩
 have u:∀{s s':Sem Unit},SR p p' Z (λ_ _=>True) s s'->SR p p' Z (NR p Z) (do s;pure Next.skip) (do s';pure Next.skip):=λh=>by refine aK h ?_;intro _ _ _;exact aN ⟨rfl,rfl⟩
 unfold execOp;cases D:o.op<;>rw[D]at h q<;>simp only[SL,Bool.and_eq_true,Bool.false_eq_true]at h<;>dsimp only;case move x=>rw[e x h];exact aN ⟨rfl,rfl⟩
 case assign x=>rw[e x h];exact aN ⟨rfl,rfl⟩
 case pick a b c=>rw[e a h.1.1,e b h.1.2,e c h.2];refine aK (AO _) ?_;rintro _ t rfl;refine aN ⟨?_,rfl⟩;cases t<;>rfl
 case alloc t=>exact v (WH F (by simpa[Ob]using h))
 case box t x=>rw[e x h];exact v (adv t _)
 case build t E=>rw[G8 e h.2];exact v (WW F (by simpa[Ob]using h.1) _)
 case buildSlice t n E=>rw[G8 e h.2];exact v (Gb F (by simpa[Ob]using h.1) _ _)
 case load t x=>rw[e x h];exact v (SS F t _)
 case store t a b=>rw[e a h.1,e b h.2];exact u (Ol F t _ _)
 case nilCheck x=>rw[e x h];cases ρ x with
  |pointer a=>cases a with
    |none=>simp;exact bI F _
    |some a=>simp;exact aN ⟨by simp[sf],rfl⟩
  |nilIface=>simp;exact bI F _
  |nilFunc=>simp;exact bI F _
  |func f a b=>cases f with
    |method n=>simp only[dQ,qm,kU];cases I:a[0]? with
      |none=>exact aN ⟨by simp[sf,qm],rfl⟩
      |some y=>simp only[dW];cases y with
        |nilIface=>simp;exact bI F _
        |iface t w=>simp only[cT];refine iI ?_;rw[F.types];refine aK (Cl F _ t w n) ?_;rintro _ r rfl;refine eQ (aM rfl) ?_;exact aN ⟨by simp[sf,qm],rfl⟩
        |chan r=>rw[cM];obtain h|⟨_,h⟩|⟨_,_,_,h⟩|⟨_,h⟩|⟨_,h⟩|⟨_,_,_,h⟩:=fQ Z r<;>rw[h]<;>exact aN ⟨by simp[sf,qm],rfl⟩
        |_=>simp;exact aN ⟨by simp[sf,qm],rfl⟩
    |_=>simp;exact aN ⟨by simp[sf,qm],rfl⟩
  |chan r=>rw[cM];obtain h|⟨_,h⟩|⟨_,_,_,h⟩|⟨_,h⟩|⟨_,h⟩|⟨_,_,_,h⟩:=fQ Z r<;>rw[h]<;>exact aN ⟨by simp[sf,h],rfl⟩
  |_=>simp only[eI,cS,dH,cK,bZ,bQ,dY,cT,dJ,dP];exact aN ⟨by simp[sf],rfl⟩
 case binOp op t a b s=>
  rw[e a h.1.1,e b h.1.2];refine v ?_;refine aK (Ou F op t a b _ _) ?_;intro _ _ _;exact WT F R op t _ _ h.2 λj=>by
   cases b<;>first|(cases j;done)|skip
   rename_i c;cases c<;>first|(cases j;done)|exact A
 case unOp op t x=>rw[e x h];exact v (WM op _)
 case convert s d x=>rw[e x h.2];exact v (Ox F s d _ h.1)
 case makeInterface t x=>rw[e x h];exact v (AU F t _)
 case makeFunc f a b=>rw[Ey e h.1.2,Ey e h.2];refine v ?_;refine aN ?_;simp only[VR,dQ];cases f<;>first|rfl|exact absurd h.1.1 S8
 case makeMap t r=>rw[Di e h];exact v (Oy F t _)
 case makeSlice t a b=>rw[e a h.1.2,e b h.2];exact v (IW F R (by simpa[Ob]using h.1.1) _ _)
 case slice t x l hi m=>rw[e x h.1.1.1,Di e h.1.1.2,Di e h.1.2,Di e h.2];exact v (Oo F R t _ (B x h.1.1.1) _ _ _)
 case fieldAddr t x i=>rw[e x h];exact v (Om F t _ i)
 case field t x i=>rw[e x h];exact v (WV F t _ i)
 case indexAddr t a b=>rw[e a h.1,e b h.2];exact v (Oq F R t _ _)
 case index t a b=>rw[e a h.1,e b h.2];exact v (WJ F R t _ _)
 case lookup t a b k=>rw[e a h.1.1.2,e b h.1.2];exact v (S3 F R (by simpa[Ob]using h.1.1.1) h.2 _ _ k)
 case mapUpdate t a b c=>rw[e a h.1.1.1,e b h.1.1.2,e c h.1.2];exact u (IY F R (q rfl) t h.2 _ _ _)
 case range t x=>rw[e x h];exact v (WY F t _)
 case next x s=>rw[e x h];exact v (aaB _ s _)
 case typeAssert x H z k=>rw[e x h.2];exact v (F8 F R _ H (by simpa[Ob]using h.1) k)
 case entry x=>rw[e x h];exact v (Xa _)
 case extract x i=>rw[e x h];exact v (Ot _ i)
 case call c=>refine aK (yA e h _) ?_;rintro⟨t,z⟩ _ ⟨rfl,g⟩;exact A4 F R C g
 case defer c=>refine aK (yA e h _) ?_;rintro d _ ⟨rfl,g⟩;exact aN ⟨rfl,g⟩
 case panic x=>rw[e x h];exact v (Ld F R _)
end
def mP(Z:Pi):Item->Item
 |.inRangeFunc l=>.inRangeFunc (Z l)
 |.endRangeFunc l=>.endRangeFunc (Z l)
 |.call d w r s=>.call (mO Z d) w r (s.map (bB Z))
 |.extern r a=>.extern r (a.map (bB Z))
 |i=>i
def Cm(Z:Pi)(e:PanicEntry):PanicEntry:={e with v:=bB Z e.v}
def tC(Z:Pi):FrameMode->FrameMode
 |.panicking c=>.panicking (c.map (Cm Z))
 |m=>m
def cV(Z:Pi)(fr:Frame):Frame:={fr with tmps:=fr.tmps.map (bB Z),todo:=fr.todo.map (mP Z),defers:=fr.defers.map (mO Z),mode:=tC Z fr.mode,roundOf:=fr.roundOf.map Z.f}
def Cn(p:Program):Item->Bool
 |.code c|.inLoop c|.inScope c=>eW p c
 |.inRegion ops _=>ops.all λo=>SL p o.op
 |.call ..|.extern ..=>false
 |_=>true
def Ko:FrameMode->Bool
 |.panicking c=>c.all (!·.goexit)
 |_=>true
def na(p:Program)(fr:Frame):Bool:=fr.todo.all (Cn p)&&fr.defers.all (okD p)&&yq p fr.fn&&fr.kind !=.report&&fr.kind !=.early&&Ko fr.mode
def gY(fr:Frame):List Frame->Prop
 |[]=>fr.kind=.normal
 |c::cs=>gY c cs
def gY.kind{fr fr'}:∀{cs:List Frame},gY fr cs->fr'.kind=fr.kind->gY fr' cs
 |[],h,e=>e.trans h
 |_::_,h,_=>h
def Ls:=@gY.kind
structure OkG(p:Program)(g:Goroutine):Prop where
 fr:na p g.frame=true
 cs:g.callers.all (na p)=true
 dy:g.dying=none
 of:g.offers=none
 st:g.status=.running
 bt:gY g.frame g.callers
section
variable{p:Program}{Z:Pi}
def eF{fr}:na p fr=true↔fr.todo.all (Cn p)=true/\fr.defers.all (okD p)=true/\yq p fr.fn=true/\fr.kind≠.report/\fr.kind≠.early/\Ko fr.mode=true:=by simp[na,and_assoc]
def Lt(fr x)(h:rK p x=true):(cV Z fr).eval x=bB Z (fr.eval x):=by cases x with
 |tmp t=>simp[Frame.eval,cV];cases fr.tmps[t]?<;>simp
 |const v=>exact(Eh Z v h).symm
 |global g=>cases h
 |func f=>simp[Frame.eval,qm]
def ng(fr v):(cV Z fr).finish (bB Z v)=cV Z (fr.finish v):=by have⟨fn,tmps,todo,defers,mode,kind,ro⟩:=fr;cases todo with
 |nil=>rfl
 |cons i k=>cases i with
   |inRegion ops l=>cases l with
     |nil=>rfl
     |cons i l=>simp[Frame.finish,cV,mP];cases(ops[i]?).bind (·.dst)with
       |none=>rfl
       |some d=>simp[JW]
   |call d w r s=>simp[Frame.finish,cV,mP]
   |extern r a=>simp[Frame.finish,cV,mP]
   |_=>rfl
def o5{fr}(h:na p fr=true)(v):na p (fr.finish v)=true:=by rw[eF]at h|-;have⟨fn,tmps,todo,defers,mode,kind,ro⟩:=fr;cases todo with
 |nil=>exact h
 |cons i k=>cases i with
   |inRegion ops l=>cases l<;>exact h
   |call d w r s=>exact absurd h.1 (by simp[Cn])
   |extern r a=>exact absurd h.1 (by simp[Cn])
   |inRangeFunc l=>exact h
   |beginRound=>exact⟨(by have:=h.1;simp only[jG,dO]at this;exact this.2),h.2⟩
   |_=>exact h
def xa(fr a):(cV Z fr).raise (a.map (Cm Z))=cV Z (fr.raise a):=by have⟨fn,tmps,todo,defers,mode,kind,ro⟩:=fr;cases mode<;>simp[Frame.raise,cV,tC]
def zO{fr}(h:na p fr=true)(i)(g:i.all (!·.goexit)=true):na p (fr.raise i)=true:=by rw[eF]at h|-;have⟨fn,tmps,todo,defers,mode,kind,ro⟩:=fr;have⟨a,b,d,e,f,j⟩:=h;cases mode with
 |panicking c=>exact⟨a,b,d,e,f,by simp only[Frame.raise,Ko,Vg,dO];exact⟨g,j⟩⟩
 |_=>exact⟨a,b,d,e,f,g⟩
def lK(fr:Frame)(v):(fr.finish v).kind=fr.kind:=by have⟨fn,tmps,todo,defers,mode,kind,ro⟩:=fr;cases todo with
 |nil=>rfl
 |cons i k=>cases i with
   |inRegion ops l=>cases l<;>rfl
   |_=>rfl
def uh(fr:Frame)(a):(fr.raise a).kind=fr.kind:=by have⟨fn,tmps,todo,defers,mode,kind,ro⟩:=fr;cases mode<;>rfl
def ui(id):∀k,exitTo id (k.map (mP Z))=(exitTo id k).map (·.map (mP Z))
 |[]=>rfl
 |i::k=>by cases i<;>simp[mP,exitTo,ui id k];split<;>simp
def Ha(id):∀k k',k.all (Cn p)=true->exitTo id k=some k'->k'.all (Cn p)=true
 |[],_,_,h=>by cases h
 |i::k,k',a,h=>by
   simp only[jG,dO]at a;have b:=Ha id k k' a.2;cases i<;>simp[exitTo]at h<;>first|exact b h|skip
   split at h;.simp_all
   .exact b h
def uj(l):∀k,gotoIn l (k.map (mP Z))=(gotoIn l k).map (·.map (mP Z))
 |[]=>rfl
 |i::k=>by cases i<;>simp[mP,gotoIn,uj l k];split<;>simp[mP]
def uk(l):∀c d,eW p c=true->findLabel c l=some d->eW p d=true
 |.seq a b,d,e,h=>by simp[eW]at e;simp[findLabel]at h;cases f:findLabel a l with
   |some r=>rw[f]at h;cases h;simp[eW];exact⟨uk l a r e.1 f,e.2⟩
   |none=>rw[f]at h;exact uk l b d e.2 h
 |.label n,d,_,h=>by
   simp only[findLabel]at h;split at h;.cases h;rfl
   .cases h
 |.skip,_,_,h|.region ..,_,_,h|.cond ..,_,_,h|.block ..,_,_,h|.loop ..,_,_,h|.rangeFunc ..,_,_,h|.exit ..,_,_,h|.scope ..,_,_,h|.goto ..,_,_,h|.ret,_,_,h|.refuse ..,_,_,h=>by simp[findLabel]at h
def Hb(l):∀k k',k.all (Cn p)=true->gotoIn l k=some k'->k'.all (Cn p)=true
 |[],_,_,h=>by cases h
 |i::k,k',a,h=>by
   simp only[jG,dO]at a;have b:=Hb l k k' a.2;cases i<;>simp[gotoIn]at h<;>first|exact b h|skip
   split at h;.rename_i c r d;cases h;simp only[jG,dO];exact⟨uk l _ _ a.1 d,a.1,a.2⟩
   .exact b h
def Lu(ops t):yielded ops (t.map (bB Z))=yielded ops t:=by funext j;simp[yielded];cases(ops[j]?).bind (·.dst)with
 |none=>rfl
 |some d=>simp;cases t[d]? with
   |none=>rfl
   |some v=>cases v with
     |chan r=>rw[dW,cM];obtain h|⟨_,h⟩|⟨_,_,_,h⟩|⟨_,h⟩|⟨_,h⟩|⟨_,_,_,h⟩:=fQ Z r<;>rw[h]
     |_=>simp
def sw(tl):∀cs fr,gY fr cs->tryRecover fr (cs++tl)=(tryRecover fr cs).map λx=>(x.1,x.2++tl)
 |[],fr,h=>by have⟨fn,tmps,todo,defers,mode,kind,ro⟩:=fr;subst h;cases tl<;>rfl
 |c::cs,fr,h=>by have a:=sw tl cs c h;have⟨fn,tmps,todo,defers,mode,kind,ro⟩:=fr;cases kind with
   |deferred=>simp[tryRecover];split<;>rfl
   |wrapped=>simp[tryRecover,a];cases tryRecover c cs<;>rfl
   |_=>rfl
def nZ:∀cs fr v a,gY fr cs->tryRecover fr cs=some (v,a)->gY fr a
 |[],fr,v,a,_,h=>by have⟨fn,tmps,todo,defers,mode,kind,ro⟩:=fr;cases kind<;>cases h
 |c::cs,fr,v,a,f,h=>by have j:=nZ cs c;have⟨fn,tmps,todo,defers,mode,kind,ro⟩:=fr;cases kind with
   |deferred=>have⟨i,n,o,g,l,k,m⟩:=c;cases l with
     |panicking b=>cases b with
       |nil=>cases h
       |cons e b=>have⟨v,r,x⟩:=e;cases r<;>cases x<;>simp[tryRecover]at h;obtain⟨_,rfl⟩:=h;exact Ls (fr:={fn:=i,tmps:=n,todo:=o,defers:=g,mode:=.panicking ({v:=v,recovered:=false}::b),kind:=k,roundOf:=m}) (cs:=cs) f rfl
     |_=>cases h
   |wrapped=>simp only[tryRecover]at h;cases d:tryRecover c cs with
     |none=>rw[d]at h;cases h
     |some r=>have⟨p,r⟩:=r;rw[d]at h;cases h;exact j p r f d
   |_=>cases h
abbrev afW(Z:Pi)(x:Value×List Frame):Value×List Frame:=(bB Z x.1,x.2.map (cV Z))
def yB(Z):∀cs fr,gY fr cs->gY (cV Z fr) (cs.map (cV Z))
 |[],_,h=>h
 |c::cs,_,h=>yB Z cs c h
def wj:∀cs fr,tryRecover (cV Z fr) (cs.map (cV Z))=(tryRecover fr cs).map (afW Z)
 |[],fr=>by have⟨fn,tmps,todo,defers,mode,kind,ro⟩:=fr;cases kind<;>rfl
 |c::cs,fr=>by have b:=wj cs c;have⟨fn,tmps,todo,defers,mode,kind,ro⟩:=fr;cases kind with
   |deferred=>have⟨g,j,k,f,d,h,i⟩:=c;cases d with
     |panicking a=>cases a with
       |nil=>rfl
       |cons e a=>have⟨v,r,x⟩:=e;cases r<;>cases x<;>rfl
     |_=>rfl
   |wrapped=>simp[tryRecover,cV]at b|-;rw[b];cases tryRecover c cs<;>rfl
   |_=>rfl
def um:∀cs fr v b,cs.all (na p)=true->tryRecover fr cs=some (v,b)->b.all (na p)=true
 |[],fr,v,b,_,h=>by have⟨fn,tmps,todo,defers,mode,kind,ro⟩:=fr;cases kind<;>cases h
 |c::cs,fr,v,b,a,h=>by have n:=um cs c;simp only[jG,dO]at a;have⟨fn,tmps,todo,defers,mode,kind,ro⟩:=fr;cases kind with
   |deferred=>have⟨t,y,z,s,o,u,w⟩:=c;cases o with
     |panicking f=>cases f with
       |nil=>cases h
       |cons e f=>have⟨v,r,x⟩:=e;cases r<;>cases x<;>simp[tryRecover]at h;obtain⟨_,rfl⟩:=h;simp only[jG,dO];refine⟨?_,a.2⟩;have h0:=a.1;rw[eF]at h0|-;have⟨g,i,j,k,l,m⟩:=h0;exact⟨g,i,j,k,l,by simpa[Ko]using m⟩
     |_=>cases h
   |wrapped=>simp only[tryRecover]at h;cases d:tryRecover c cs with
     |none=>rw[d]at h;cases h
     |some r=>have⟨q,r⟩:=r;rw[d]at h;cases h;simp only[jG,dO];exact⟨a.1,n q r a.2 d⟩
   |_=>cases h
end
def cD(p:Program)(f:FuncId)(args:Array Value)(k:CallKind)(cs:List Frame):Goroutine:={frame:=Frame.enter p f args k,callers:=cs,status:=.running,dying:=none}
structure Dj(X:FuncId->Prop)(p p':Program):Prop where
 sort:∀f:FuncId,(p'.funcs[f]?).map (λx:Func=>(x.results,x.norace))=(p.funcs[f]?).map (λx:Func=>(x.results,x.norace))
 same:∀f:FuncId,¬X f->∀args k,Frame.enter p' f args k=Frame.enter p f args k
 dry:∀todo,NoEnter p todo
 ok:∀f:FuncId,¬X f->(p.funcs[f]?).all (λfn:Func=>fn.body.all (eW p))=true/\yq p f=true
def pU(tl:List Frame)(Z:Pi)(g:Goroutine):Goroutine:={g with frame:=cV Z g.frame,callers:=g.callers.map (cV Z)++tl}
def EA(X:FuncId->Prop)(p p':Program)(tl:List Frame)(G:Gs)(U:Nat->Option Nat)(g1 g2:Goroutine):Prop:=(OkG p g1/\eX G U λZ=>g2=pU tl Z g1)\/
 ∃f args k cs args' cs',X f/\(k=.normal\/k=.deferred)/\cs.all (na p)=true/\gY (Frame.enter p f args k) cs/\g1=cD p f args k cs/\g2=cD p' f args' k cs'/\eX G U λZ=>args'=args.map (bB Z)/\cs'=cs.map (cV Z)++tl
def Ge(n:Int):GStep->Prop
 |.go _ w _|.comm _ _ _ _ w _|.spawn _ _ w _|.count _ w _|.timer _ _ w _|.alone _ _ w _|.newcoro _ _ _ w _|.coroswitch _ _ _ w _|.collect _ w _|.watch _ w _|.ended _ w _=>n<w.drawn
def Lx(L:Nz)(s s':GStep):Prop:=Ge L.lim s/\Ge (L.lim+L.Oh) s'
def bM{n s es}(h:Ge n s):Ge n (s.after es):=by cases s<;>exact h
def BU(tl:List Frame)(v:Value)(w:World)(es:Array Event):GStep:=match tl with
 |[]=>.ended (.done v) w es
 |c::r=>.go {frame:=c.finish v,callers:=r,status:=.running,dying:=none} w es
def Lz(tl v w es a):(BU tl v w a).after es=BU tl v w (es++a):=by cases tl<;>rfl
def iL(X:FuncId->Prop)(p p':Program)(tl:List Frame)(L:Nz)(G:Gs)(U:Nat->Option Nat)(W:World)(s s':GStep):Prop:=match s with
 |.go g1 w1 es=>Lx L s s'\/g1.dyingOn p\/∃g2 W1 ES μ1,s'=.go g2 W1 ES/\Ext U μ1/\fC G μ1 w1.heap.size W1.heap.size/\WE p L G μ1 w1 W1/\Fr U μ1 W W1/\EA X p p' tl G μ1 g1 g2/\r7 G μ1 es ES
 |.ended (.done v) w1 es=>Lx L s s'\/∃v' W1 ES μ1,s'=BU tl v' W1 ES/\Ext U μ1/\fC G μ1 w1.heap.size W1.heap.size/\WE p L G μ1 w1 W1/\Fr U μ1 W W1/\(eX G μ1 λZ=>v'=bB Z v)/\r7 G μ1 es ES
 |.ended _ _ _=>True
 |_=>Lx L s s'
section
variable{X:FuncId→Prop}{p p':Program}{tl:List Frame}{L:Nz}{G:Gs}
def r7.nil(U:Nat->Option Nat):r7 G U #[] #[]:=⟨λZ _ _=>by simp,λe a=>absurd a S8⟩
def Hc:=@r7.nil
def r7.append{U a A b B}(h:r7 G U a A)(d:r7 G U b B):r7 G U (a++b) (A++B):=⟨λZ r c=>by show A++B=(a++b).map (AH Z);rw[h.all Z r c,d.all Z r c,Ve],λe f=>(Array.mem_append.1 f).elim (h.quiet e) (d.quiet e)⟩
def r7.ext{U b a A}(h:r7 G U a A)(e:Ext U b):r7 G b a A:=⟨h.all.ext e,h.quiet⟩
def iL.after{U b W W1 s s' es ES}(h:iL X p p' tl L G b W1 s s')(e:Ext U b)(f:Fr U b W W1)(ev:r7 G b es ES):iL X p p' tl L G U W (s.after es) (s'.after ES):=by cases s with
 |go g w n=>
   obtain h|h|⟨q,W2,m,l,rfl,a,c,d,i,j,k⟩:=h;.exact .inl ⟨bM h.1,bM h.2⟩
   .exact .inr (.inl h)
   .exact .inr<|.inr ⟨q,W2,_,l,rfl,e.trans a,c,d,f.trans a i,j,(ev.ext a).append k⟩
 |ended o w n=>cases o with
   |done v=>
     obtain h|⟨r,W2,m,l,rfl,a,c,d,i,j,k⟩:=h;.exact .inl ⟨bM h.1,bM h.2⟩
     exact .inr ⟨r,W2,_,l,Lz _ _ _ _ _,e.trans a,c,d,f.trans a i,j,(ev.ext a).append k⟩
   |_=>trivial
 |_=>exact⟨bM h.1,bM h.2⟩
def tD:=@iL.after
def iL.goE{U w W g g'}(ok:fC G U w.heap.size W.heap.size)(wr:WE p L G U w W)(h:EA X p p' tl G U g g'):iL X p p' tl L G U W (.go g w) (.go g' W):=.inr<|.inr ⟨g',W,#[],U,rfl,oU _,ok,wr,KX _ _,h,Hc U⟩
def Co:=@iL.goE
def iL.go{U w W g g'}(ok:fC G U w.heap.size W.heap.size)(wr:WR p L G U w W)(h:EA X p p' tl G U g g'):iL X p p' tl L G U W (.go g w) (.go g' W):=.inr<|.inr ⟨g',W,#[],U,rfl,oU _,ok,wr.we,KX _ _,h,Hc U⟩
def vd:=@iL.go
def Gf(Z l f):yu Z l=.mark (.extern f)↔l=.mark (.extern f):=by cases l<;>simp[yu];rename_i m;cases m<;>simp[KU]
def Xi(K:Dj X p p')(Z fn es):seen p' fn (es.map (AH Z))=(seen p fn es).map (AH Z):=by
 have g:∀f:FuncId,(p'.funcs[f]?).any (λx:Func=>x.norace)=(p.funcs[f]?).any (λx:Func=>x.norace):=λf=>by have:=K.sort f;cases h:p'.funcs[f]?<;>cases c:p.funcs[f]?<;>rw[h,c]at this<;>simp_all
 simp only[seen,g];rw[Array.foldl_map];let R:Bool×Array Event->Bool×Array Event:=λx=>(x.1,x.2.map (AH Z));show _=(R (Array.foldl _ _ es)).2;have h0:((p.funcs[fn]?).any (λx:Func=>x.norace),(#[]:Array Event))=R ((p.funcs[fn]?).any (λx:Func=>x.norace),#[]):=by simp[R]
 refine congrArg Prod.snd (Eq.trans (congrArg (λz=>Array.foldl _ z es) h0) (Array.foldl_hom R ?_));rintro⟨q,kept⟩ e;by_cases a:∃f,e.loc=.mark (.extern f)
 .have⟨f,b⟩:=a;have d:(AH Z e).loc=.mark (.extern f):=by show yu Z e.loc=_;rw[b];rfl
  simp only[R,b,d]
 .have j:∀f,e.loc≠.mark (.extern f):=λf h=>a ⟨f,h⟩;have k:∀f,(AH Z e).loc≠.mark (.extern f):=λf h=>a ⟨f,(Gf Z _ f).1 h⟩;have i:(AH Z e).sync=e.sync:=rfl;dsimp only[R];rw[i];split;.simp_all
  .cases l:(q&&!e.sync)<;>simp
def Xj(p fn es):∀e∈Go.seen p fn es,e∈es:=by
 unfold Go.seen;dsimp only;refine Array.foldl_induction (motive:=λ_ (x:Bool×Array Event)=>∀e∈x.2,e∈es) S8 ?_;rintro i ⟨q,kept⟩ b e a;split at a;.simp_all
 .grind
def r7.seen{U es ES}(K:Dj X p p')(h:r7 G U es ES)(fn):r7 G U (Go.seen p fn es) (Go.seen p' fn ES):=⟨λZ r c=>by show Go.seen p' fn ES=_;rw[h.all Z r c,Xi K],λe a=>h.quiet e (Xj p fn es e a)⟩
def s9(Z f args k):cV Z (Frame.enter p f args k)=Frame.enter p f (args.map (bB Z)) k:=by simp[Frame.enter,cV,mP,tC]
def vO(K:Dj X p p'){f}(h:¬X f)(args){k}(g:k=.normal\/k=.deferred):na p (Frame.enter p f args k)=true:=by
 rw[eF];have⟨a,d⟩:=K.ok f h;refine⟨?_,rfl,d,?_⟩;.simp[Frame.enter];cases e:p.funcs[f]? with
  |none=>rfl
  |some fn=>rw[e]at a;simp at a;cases b:fn.body with
    |none=>simp[Cn,eW,b]
    |some c=>rw[b]at a;simpa[Cn,b]using a
 .obtain rfl|rfl:=g<;>simp[Frame.enter,Ko]
def EA.enter(K:Dj X p p'){U args a cs b}(f){k}(i:k=.normal\/k=.deferred)(h:cs.all (na p)=true)(g:gY (Frame.enter p f args k) cs)(e:eX G U λZ=>a=args.map (bB Z)/\b=cs.map (cV Z)++tl):EA X p p' tl G U (cD p f args k cs) (cD p' f a k b):=by
 by_cases d:X f;.exact .inr ⟨f,args,k,cs,a,b,d,i,h,g,rfl,rfl,e⟩
 .refine .inl ⟨⟨vO K d args i,h,rfl,rfl,rfl,g⟩,λZ r c=>?_⟩;have⟨j,l⟩:=e Z r c;simp[cD,pU,s9,K.same f d,j,l]
end
section
variable{X:FuncId→Prop}{p p':Program}{tl:List Frame}{L:Nz}{G:Gs}{U:Nat→Option Nat}{w W:World}
def Xk{α β Q}{s:Sem α}{s':Sem β}(ok:fC G U w W)(wr:WR p L G U w W)(a:eX G U λZ=>SR p p' Z (Q Z) s s'):Out p L G U W Q (s.runT p w #[]) (s'.runT p' W #[]):=rM s s' U w W #[] #[] ok wr (Hc U) a
def gA{n:Int}{p main fr cs dy v}(h:n<w.drawn):Ge n (doReturn p main fr cs dy v w):=by
 unfold doReturn;repeat' split
 all_goals first|exact h|trivial|(simp_all;done)
def all_cons{e c r}(ok:fC G U w W)(h:eX G U λZ=>e=(c::r).map (cV Z)++tl):∃a b,e=a::b/\(eX G U λZ=>a=cV Z c)/\eX G U λZ=>b=r.map (cV Z)++tl:=by
 have⟨Z,i,g⟩:=ok.one;have h0:=h Z i g;refine⟨cV Z c,r.map (cV Z)++tl,by rw[h0];rfl,λf b a=>?_,λf b a=>?_⟩<;>
 .have d:=h f b a;rw[h0]at d;simp only[lD,Dy,zf]at d;first|exact d.1|exact d.2
def pE{fr fr'}(ok:fC G U w W)(h:eX G U λZ=>fr'=cV Z fr):fr'.fn=fr.fn/\fr'.kind=fr.kind:=by have⟨Z,b,a⟩:=ok.one;rw[h Z b a];exact⟨rfl,rfl⟩
def lift(F:Fit G p p'):p'.inits=p.inits/\p'.follows=p.follows:=by
 constructor;.exact F.inits
 .funext d;simp[Tables.follows,F.follow]
def Xl(Z)(b:List PanicEntry):(b.map (Cm Z)).dropWhile (!·.goexit)=(b.dropWhile (!·.goexit)).map (Cm Z):=by induction b with
 |nil=>rfl
 |cons a b c=>
   simp[List.dropWhile_cons];have:(Cm Z a).goexit=a.goexit:=rfl;rw[this];cases a.goexit;.simp_all
   .simp
def lZ(F:Fit G p p'){main main' fr fr' cs d v f}(ok:fC G U w W)(wr:WR p L G U w W)(J:na p fr=true)(g:cs.all (na p)=true)(i:gY fr cs)(H:eX G U λZ=>fr'=cV Z fr)(n:eX G U λZ=>d=cs.map (cV Z)++tl)(o:eX G U λZ=>f=bB Z v)(K:cs=[]->main=true/\(tl=[]->main'=true)):iL X p p' tl L G U W (doReturn p main fr cs none v w) (doReturn p' main' fr' d none f W):=by
 have⟨O,k2⟩:=pE ok H;have k:=(eF.1 J).2.2;cases cs with
 |cons c r=>
   obtain⟨u,P,rfl,q,s⟩:=all_cons ok n;simp only[jG,dO]at g;have fin:iL X p p' tl L G U W (.go {frame:=c.finish v,callers:=r,status:=.running,dying:=none} w) (.go {frame:=u.finish f,callers:=P,status:=.running,dying:=none} W):=vd ok wr (.inl ⟨⟨o5 g.1 v,g.2,rfl,rfl,rfl,Ls (fr:=c) (cs:=r) i (lK c v)⟩,λZ b a=>by rw[o Z b a,q Z b a,s Z b a,ng];rfl⟩)
   simp[doReturn,k2];cases t:fr.kind with
   |normal=>exact fin
   |wrapped=>exact fin
   |early=>exact absurd t k.2.2.1
   |report=>exact absurd t k.2.1
   |deferred=>
     refine iL.go ok wr (.inl ⟨⟨?_,g.2,rfl,rfl,rfl,gY.kind (fr:=c) (cs:=r) i (by dsimp only;split<;>(try split)<;>rfl)⟩,λZ b a=>?_⟩)
     .have j:=g.1;rw[eF]at j|-;have⟨fn,tmps,todo,defers,mode,kind,ro⟩:=c;dsimp only;split
      .have⟨A,B,C,D,E,m⟩:=j;split;.trivial
       .refine⟨A,B,C,D,E,?_⟩;simp only[Ko,jG,dO]at m|-;exact y9.2 λx N=>y9.1 m.2 x ((List.dropWhile_sublist _).subset N)
      .exact j
     .rw[q Z b a,s Z b a];have⟨fn,tmps,todo,defers,mode,kind,ro⟩:=c;cases mode with
      |panicking h=>cases h with
        |nil=>rfl
        |cons e h=>have⟨x,Q,R⟩:=e;cases Q with
          |false=>rfl
          |true=>have I:=Xl Z h;simp[cV,tC,lD,Cm,I];cases h.dropWhile (!·.goexit)<;>rfl
      |_=>rfl
 |nil=>
   have:d=tl:=by obtain⟨Z,b,a⟩:=ok.one;rw[n Z b a];rfl
   subst this;have hi:p.inits.idxOf? fr.fn=none:=by simpa[yq]using k.1
   obtain⟨rfl,M⟩:=K rfl;have l:fr.kind=.normal:=i;have y:doReturn p true fr [] none v w=.ended (.done v) w:=by simp only[doReturn,hi,l];rfl
   have z:doReturn p' main' fr' d none f W=BU d f W #[]:=by cases d with
    |nil=>obtain rfl:=M rfl;simp only[doReturn,O,k2,(lift F).1,hi,l,BU];rfl
    |cons c r=>simp[doReturn,k2,l,BU]
   rw[y,z];exact .inr ⟨f,W,#[],U,rfl,oU _,ok,wr.we,KX _ _,o,Hc U⟩
end
section
variable{X:FuncId→Prop}{p p':Program}{tl:List Frame}{L:Nz}{G:Gs}{U:Nat→Option Nat}{w W:World}
def yC{a v}(ok:fC G U w W)(h:eX G U λZ=>a=IL Z (.panic v)):∃d,a=.panic d/\eX G U λZ=>d=bB Z v:=by have⟨Z,c,b⟩:=ok.one;refine⟨bB Z v,h Z c b,λg f e=>?_⟩;have:=h g f e;rw[h Z c b]at this;simpa[IL]using this
def EA.of{g g'}(h:OkG p g)(a:eX G U λZ=>g'=pU tl Z g):EA X p p' tl G U g g':=.inl ⟨h,a⟩
def iF{α β:Type}{f:Pi->α->β}{a b}(ok:fC G U w W)(h:eX G U λZ=>b=f Z a):∃Z,b=f Z a:=by have⟨Z,d,c⟩:=ok.one;exact⟨Z,h Z d c⟩
def EB{p}(fr m w){es s'}:iL X p p' tl L G U W ((endThrow fr m w).after es) s':=.inr (.inl ⟨.inl rfl,_,rfl,rfl,NoEnter.nil p⟩)
def LA{α p}(s:Sem α)(w):w.drawn<=(cY (s.run p w)).drawn:=by rw[<-JV p s w #[]];exact qx s w #[]
def A5{n:Int}{p fr cs dy m}(h:n<w.drawn):Ge n (endFatal p fr cs dy m w):=by unfold endFatal;dsimp only;split;all_goals rename_i heq;have:=bJ (LA (p:=p) _ w) (nL (congrArg (λx=>(cY x).drawn) heq));exact Dz h (Gy.2 this)
def S9{n:Int}{p fr cs dy g}(h:n<w.drawn):Ge n (early p fr cs dy g w):=by
 have a:∀r,(choose (.early g)).run p w=r->n<(cY r).drawn:=λr b=>b▸Dz h (Gy.2 (LA _ w));unfold early;dsimp only;repeat' split
 all_goals first|exact h|(rename_i heq;exact a _ heq)|(rename_i heq _ _ _ _;exact a _ heq)|(rename_i heq _;exact a _ heq)|(rename_i heq _ _;exact a _ heq)|(rename_i heq _ _ _;exact a _ heq)
def A6{n:Int}{p fr cs dy s}(a:n<(cY (s.runT p w #[]).1).drawn):Ge n (stepG.apply p true fr cs dy s w):=by unfold stepG.apply;generalize s.runT p w #[]=r at a|-;have⟨r,es⟩:=r;refine bM ?_;cases r with
 |ok n w1=>cases n<;>(try dsimp only)<;>(repeat' split)<;>first|exact a|trivial
 |halt x w1=>
   cases x<;>first|exact a|exact A5 a|skip
   rename_i u;cases u<;>first|exact a|exact S9 a
def EC{n:Int}{p fr cs dy s}(h:n<w.drawn):Ge n (stepG.apply p true fr cs dy s w):=A6 (Dz h (Gy.2 (qx s w #[])))
def iL.bind{s s'}(h:Lx L s s'\/(iL X p p' tl L G U W s s')):iL X p p' tl L G U W s s':=by
 obtain h|h:=h;.cases s with
  |go g w es=>exact .inl h
  |ended o w es=>cases o<;>first|exact .inl h|trivial
  |_=>exact h
 .exact h
def wm:=@iL.bind
def ED(F:Fit G p p')(K:Dj X p p'){main:Bool}{fr fr' cs J s s'}(ok:fC G U w W)(A:na p fr=true)(H:cs.all (na p)=true)(D:gY fr cs)(Q:eX G U λZ=>fr'=cV Z fr)(aa:eX G U λZ=>J=cs.map (cV Z)++tl)(R:oC p L G U W (NR p) (s.runT p w #[]) (s'.runT p' W #[])):iL X p p' tl L G U W (stepG.apply p true fr cs none s w) (stepG.apply p' true fr' J none s' W):=by
 by_cases O:vz L (cY (s.runT p w #[]).1) (cY (s'.runT p' W #[]).1);.exact wm (.inl ⟨A6 O.1,A6 O.2⟩)
 have⟨a5,k2⟩:=pE ok Q;have V:=(eF.1 A);have a0:(fr.kind==.early)=false:=by simpa using V.2.2.2.2.1
 unfold stepG.apply;simp only[vH,a5,k2,a0,vI,zg];generalize s.runT p w #[]=r,s'.runT p' W #[]=a8 at R O|-;have⟨r,es⟩:=r;cases r with
 |ok n w1=>
   obtain ab|⟨a6,W1,ES,z,rfl,e,y,I,T,N⟩:=R;.trivial
   have μ:=N.1;have B:eX G z λZ=>a6=sf Z n:=λZ r c=>(N.2 Z r c).1;have M:okN p n=true:=by obtain⟨Z,r,c⟩:=y.one;exact(N.2 Z r c).2
   have C:=Q.ext e;have E:=aa.ext e;refine tD ?_ e T (μ.seen K fr.fn);cases n with
   |value v=>obtain⟨Z,rfl⟩:=iF y B;refine Co y I (.of ⟨o5 A v,H,rfl,rfl,rfl,D.kind (lK fr v)⟩ λg q j=>?_);have:=B g q j;simp only[sf,Next.value.injEq]at this;rw[this,C g q j,E g q j,ng];rfl
   |skip=>obtain⟨Z,rfl⟩:=iF y B;refine Co y I (.of ⟨o5 A undef,H,rfl,rfl,rfl,D.kind (lK fr undef)⟩ λg q j=>?_);have:=ng (Z:=g) fr undef;rw[AJ]at this;rw[C g q j,E g q j,this];rfl
   |enter f args=>
     obtain⟨Z,rfl⟩:=iF y B;have a2:∀g,Rn G g->Cp z g->args.map (bB Z)=args.map (bB g):=λg q j=>by have:=B g q j;simpa[sf]using this
     have go:∀kd ao:CallKind,kd=.normal->ao=.normal->iL X p p' tl L G z W1 (.go {frame:=Frame.enter p f args kd,callers:=fr::cs,status:=.running,dying:=none} w1) (.go {frame:=Frame.enter p' f (args.map (bB Z)) ao,callers:=fr'::J,status:=.running,dying:=none} W1):=by rintro _ _ rfl rfl;exact Co y I (EA.enter K f (.inl rfl) (by simp only[jG,dO];exact⟨A,H⟩) D λg q j=>⟨a2 g q j,by rw[C g q j,E g q j];rfl⟩)
     refine go _ _ ?_ ?_
     .have:=V.1;split;.rename_i h;rw[h]at this;simp[Cn]at this
      .rfl
     .have:=V.1;have⟨Z,q,j⟩:=ok.one;rw[Q Z q j];simp only[cV];cases a3:fr.todo with
      |nil=>rfl
      |cons i k=>rw[a3]at this;cases i<;>first|rfl|simp[Cn]at this
   |round l f t a b=>
     obtain⟨Z,rfl⟩:=iF y B;simp only[okN,dO]at M;refine Co y I (.of ⟨?_,by simp only[jG,dO];exact⟨A,H⟩,rfl,rfl,rfl,D⟩ λg q j=>?_);.rw[eF];refine⟨?_,rfl,M.2,by simp[Frame.round],by simp[Frame.round],rfl⟩;simp[Frame.round,Cn,M.1.1,M.1.2]
     .have:=B g q j;simp only[sf,Vf,ze,sQ]at this;rw[C g q j,E g q j,this.1,this.2];rfl
   |defer d=>obtain⟨Z,rfl⟩:=iF y B;refine Co y I (.of ⟨o5 (by rw[eF]at A|-;exact⟨A.1,by simp only[jG,dO];exact⟨M,A.2.1⟩,A.2.2⟩) undef,H,rfl,rfl,rfl,D.kind (lK _ undef)⟩ λg q j=>?_);have af:=B g q j;simp only[sf,Next.defer.injEq]at af;have:=ng (Z:=g) {fr with defers:=d::fr.defers} undef;rw[AJ]at this;rw[C g q j,E g q j,af];simp only[pU];rw[<-this];rfl
   |recover=>
     obtain⟨Z,rfl⟩:=iF y B;have fin:∀(o o':Option (Value×List Frame)),(∀v c,o=some (v,c)->c.all (na p)=true/\gY fr c)->(eX G z λZ=>o'=o.map λx=>(bB Z x.1,x.2.map (cV Z)++tl))->iL X p p' tl L G z W1 (match o with|some (v,callers)=>GStep.go {frame:=fr.finish v,callers,status:=.running,dying:=none} w1|none=>.go {frame:=fr.finish .nilIface,callers:=cs,status:=.running,dying:=none} w1) (match o' with|some (v,callers)=>GStep.go {frame:=fr'.finish v,callers,status:=.running,dying:=none} W1|none=>.go {frame:=fr'.finish .nilIface,callers:=J,status:=.running,dying:=none} W1):=λo o' ag ah=>by
      obtain⟨Z,rfl⟩:=iF y ah;cases o with
      |none=>refine Co y I (.of ⟨o5 A _,H,rfl,rfl,rfl,D.kind (lK fr _)⟩ λg q j=>?_);have:=ng (Z:=g) fr .nilIface;rw[cI]at this;rw[C g q j,E g q j,this];rfl
      |some x=>have⟨v,c⟩:=x;refine Co y I (.of ⟨o5 A v,(ag v c rfl).1,rfl,rfl,rfl,(ag v c rfl).2.kind (lK fr v)⟩ λg q j=>?_);have:=ah g q j;simp only[dW,gT,J2]at this;rw[this.1,this.2,C g q j,ng];rfl
     have⟨π,ak,ae⟩:=y.one;have aj:eX G z λZ=>fr'.roundOf=fr.roundOf.map Z.f:=λg q j=>by rw[C g q j];rfl
     have ay:p'.follows .rangeFuncRecover=p.follows .rangeFuncRecover:=by rw[(lift F).2]
     have ai:eX G z λZ=>tryRecover fr' J=(tryRecover fr cs).map λx=>(bB Z x.1,x.2.map (cV Z)++tl):=λg q j=>by rw[C g q j,E g q j,sw tl _ _ (yB g cs fr D),wj,Option.map_map];rfl
     cases P:fr.roundOf with
     |none=>
       have Y:fr'.roundOf=none:=by rw[aj π ak ae,P];rfl
       simp only[sf,Y];exact fin _ _ (λv c h=>⟨um cs fr v c H h,nZ cs fr v c D h⟩) ai
     |some l=>
       have Y:fr'.roundOf=some (π l):=by rw[aj π ak ae,P];rfl
       simp only[sf,Y,ay,F.fol,vH];exact fin _ _ (λv c h=>⟨um cs fr v c H h,nZ cs fr v c D h⟩) ai
   |_=>exact absurd M (by simp[okN])
 |halt h w1=>
   obtain ab|P|⟨az,ar,W1,ES,z,rfl,e,y,I,T,N⟩:=R;.exact absurd ab O
   .cases h<;>first|(cases P;done)|skip
    .rename_i u;cases u<;>first|(cases P;done)|trivial
    .trivial
   .have μ:=N.1;have B:eX G z λZ=>ar=IL Z h:=λZ r c=>(N.2 Z r c);have C:=Q.ext e;have E:=aa.ext e;have a7:∀(c S:List PanicEntry),c.all (!·.goexit)=true->(eX G z λZ=>S=c.map (Cm Z))->iL X p p' tl L G z W1 (.go {frame:=fr.raise c,callers:=cs,status:=.running,dying:=none} w1) (.go {frame:=fr'.raise S,callers:=J,status:=.running,dying:=none} W1):=λc S av au=>Co y I (.of ⟨zO A c av,H,rfl,rfl,rfl,D.kind (uh fr c)⟩ λg q j=>by rw[au g q j,C g q j,E g q j,xa];rfl)
    cases h with
    |panic v=>obtain⟨a9,rfl,a4⟩:=yC y B;refine tD ?_ e T (μ.seen K fr.fn);exact a7 _ _ rfl λg q j=>by rw[a4 g q j];rfl
    |throw m=>exact EB fr m w1
    |_=>cases az
def xb(F:Fit G p p')(K:Dj X p p'){main:Bool}{fr fr' cs a s s'}(ok:fC G U w W)(wr:WR p L G U w W)(f:na p fr=true)(e:cs.all (na p)=true)(d:gY fr cs)(b:eX G U λZ=>fr'=cV Z fr)(c:eX G U λZ=>a=cs.map (cV Z)++tl)(g:eX G U λZ=>SR p p' Z (NR p Z) s s'):iL X p p' tl L G U W (stepG.apply p true fr cs none s w) (stepG.apply p' true fr' a none s' W):=by
 exact ED (main:=main) F K ok f e d b c (Xk ok wr g).we
end
section
variable{X:FuncId→Prop}{p p':Program}{tl:List Frame}{L:Nz}{G:Gs}{U:Nat→Option Nat}{w W:World}
def iL.unless{c}[Decidable c]{u x w es t s'}(h:¬c->iL X p p' tl L G U W t s'):iL X p p' tl L G U W (if c then .ended (.unsupported u x) w es else t) s':=by
 by_cases a:c;.rw[bE a];trivial
 .simp_all
def iL.aaE{c}[Decidable c]{s y a}(h:¬c)(k:iL X p p' tl L G U W s a):iL X p p' tl L G U W s (if c then y else a):=by rwa [aU h]
def acK:=@iL.aaE
def I0(F:Fit G p p')(C:kS G p p')(K:Dj X p p'){fr fr' cs q d d'}(ok:fC G U w W)(wr:WR p L G U w W)(E:na p fr=true)(y:cs.all (na p)=true)(u:gY fr cs)(ai:okD p d=true)(O:eX G U λZ=>fr'=cV Z fr)(aa:eX G U λZ=>q=cs.map (cV Z)++tl)(R:eX G U λZ=>d'=mO Z d):iL X p p' tl L G U W (callDeferred p fr cs none d w) (callDeferred p' fr' q none d' W):=by
 have au:eX G U λZ=>SR p p' Z (NR p Z) (invoke d.target d.args) (invoke d'.target d'.args):=λZ g i=>by rw[R Z g i];exact A4 F g C ai
 have P:=Xk ok wr au;have⟨ay,k2⟩:=pE ok O;have a4:=(eF.1 E);unfold callDeferred;refine iL.unless λar=>acK ?_ ?_;.intro h;apply ar;revert h;have⟨Z,g,i⟩:=ok.one;rw[R Z g i,O Z g i];simp only[mO,cV];cases d.target<;>cases fr.mode<;>simp[CU,tC]
 .
  have ab:∀{o:Nat->Option Nat} {es ES:Array Event},r7 G o es ES->r7 G o (Go.seen p fr.fn es) (Go.seen p' fr'.fn ES):=λh=>by rw[ay];exact h.seen K fr.fn
  by_cases H:vz L (cY ((invoke d.target d.args).runT p w #[]).1) (cY ((invoke d'.target d'.args).runT p' W #[]).1)
  .have⟨f1,f2⟩:=H;refine wm (.inl ⟨?_,?_⟩);.generalize(invoke d.target d.args).runT p w #[]=r at f1|-;have⟨r,es⟩:=r;refine bM ?_;cases r with
    |ok n w1=>cases n<;>(try dsimp only)<;>(repeat' split)<;>first|exact f1|trivial|(cases‹Result.ok _ _=Result.ok _ _›<;>first|exact f1|trivial)
    |halt h w1=>cases h<;>first|exact f1|exact A5 f1
   .generalize(invoke d'.target d'.args).runT p' W #[]=r at f2|-;have⟨r,es⟩:=r;refine bM ?_;cases r with
    |ok n w1=>cases n<;>(try dsimp only)<;>(repeat' split)<;>first|exact f2|trivial|(cases‹Result.ok _ _=Result.ok _ _›<;>first|exact f2|trivial)
    |halt h w1=>cases h<;>first|exact f2|exact A5 f2
  generalize(invoke d.target d.args).runT p w #[]=r,(invoke d'.target d'.args).runT p' W #[]=a6 at P H|-;have⟨r,es⟩:=r;cases r with
  |ok n w1=>
    obtain S|⟨az,W1,ES,o,rfl,e,k,M,Q,D⟩:=P;.exact absurd S H
    have V:=D.1;have z:eX G o λZ=>az=sf Z n:=λZ r c=>(D.2 Z r c).1;have I:okN p n=true:=by obtain⟨Z,r,c⟩:=k.one;exact(D.2 Z r c).2
    have B:=O.ext e;have s:=aa.ext e;have stay:∀(c A:List Frame),c.all (na p)=true->gY fr c->(eX G o λZ=>A=c.map (cV Z)++tl)->iL X p p' tl L G o W1 (.go {frame:=fr,callers:=c,status:=.running,dying:=none} w1) (.go {frame:=fr',callers:=A,status:=.running,dying:=none} W1):=λc A ag af T=>vd k M (.of ⟨E,ag,rfl,rfl,rfl,af⟩ λj g i=>by rw[B j g i,T j g i];rfl)
    refine tD ?_ e Q (ab V);cases n with
    |value v=>obtain⟨Z,rfl⟩:=iF k z;exact stay cs q y u s
    |skip=>obtain⟨Z,rfl⟩:=iF k z;exact stay cs q y u s
    |defer d=>obtain⟨Z,rfl⟩:=iF k z;exact stay cs q y u s
    |enter f args=>obtain⟨Z,rfl⟩:=iF k z;exact vd k M (EA.enter K f (.inr rfl) (by simp only[jG,dO];exact⟨E,y⟩) u λj g i=>⟨by have:=z j g i;simpa[sf]using this,by rw[B j g i,s j g i];rfl⟩)
    |round l f t a b=>
      obtain⟨Z,rfl⟩:=iF k z;simp only[okN,dO]at I;refine vd k M (.of ⟨?_,by simp only[jG,dO];exact⟨E,y⟩,rfl,rfl,rfl,u⟩ λj g i=>?_);.rw[eF];refine⟨?_,rfl,I.2,by simp[Frame.round],by simp[Frame.round],rfl⟩;simp[Frame.round,Cn,I.1.1,I.1.2]
      .have:=z j g i;simp only[sf,Vf,ze,sQ]at this;rw[B j g i,s j g i,this.1,this.2];rfl
    |recover=>
      obtain⟨Z,rfl⟩:=iF k z;have Y:eX G o λZ=>tryRecover fr' q=(tryRecover fr cs).map λx=>(bB Z x.1,x.2.map (cV Z)++tl):=λj g i=>by rw[B j g i,s j g i,sw tl _ _ (yB j cs fr u),wj,Option.map_map];rfl
      have ao:eX G o λZ=>fr'.mode=tC Z fr.mode:=λj g i=>by rw[B j g i];rfl
      have⟨N,π,μ⟩:=k.one;dsimp only[sf];rw[ao N π μ];cases a5:fr.mode with
      |returning=>cases J:tryRecover fr cs with
        |none=>
          have:tryRecover fr' q=none:=by rw[Y N π μ,J];rfl
          rw[this];exact stay cs q y u s
        |some x=>
          have⟨v,c⟩:=x;have h0:tryRecover fr' q=some (bB N v,c.map (cV N)++tl):=by rw[Y N π μ,J];rfl
          rw[h0];refine stay c _ (um cs fr v c y J) (nZ cs fr v c u J) λj g i=>?_;have:=Y j g i;rw[h0,J]at this;simp only[dW,gT,J2]at this;exact this.2
      |run=>exact stay cs q y u s
      |panicking a2=>exact stay cs q y u s
    |_=>exact absurd I (by simp[okN])
  |halt h w1=>
    obtain S|ak|⟨aj,ae,W1,ES,o,rfl,e,k,M,Q,D⟩:=P;.exact absurd S H
    .cases h<;>first|(cases ak;done)|trivial
    .have V:=D.1;have z:eX G o λZ=>ae=IL Z h:=λZ r c=>(D.2 Z r c);have B:=O.ext e;have s:=aa.ext e;have a3:=R.ext e;have a0:∀(c A:List PanicEntry),c.all (!·.goexit)=true->(eX G o λZ=>A=c.map (Cm Z))->iL X p p' tl L G o W1 (.go {frame:=fr.raise c,callers:=cs,status:=.running,dying:=none} w1) (.go {frame:=fr'.raise A,callers:=q,status:=.running,dying:=none} W1):=λc A ah T=>vd k M (.of ⟨zO E c ah,y,rfl,rfl,rfl,u.kind (uh fr c)⟩ λj g i=>by rw[T j g i,B j g i,s j g i,xa];rfl)
     cases h with
     |panic v=>obtain⟨a7,rfl,av⟩:=yC k z;refine tD ?_ e Q (ab V);exact a0 _ _ rfl λj g i=>by rw[av j g i];rfl
     |throw m=>exact EB fr m w1
     |_=>cases aj
end
section
variable{X:FuncId→Prop}{p p':Program}{tl:List Frame}{L:Nz}{G:Gs}{U:Nat→Option Nat}{w W:World}
def QX{Z}{γ:Type}(f f':γ->Sem Value):∀l:List γ,(∀a∈l,SR p p' Z (VR Z) (f a) (f' a))->SR p p' Z (λa b=>b=a.map (bB Z)) (l.mapM f) (l.mapM f')
 |[],_=>by simp;exact aN rfl
 |a::l,h=>by simp;refine aK (h a S8) ?_;rintro v _ rfl;refine aK (QX f f' l λb c=>h b (by simp[c])) ?_;rintro d _ rfl;exact aN rfl
def OD(F:Fit G p p'){Z}(R:Rn G Z){fn c}(h:c.results=fn.results)(t):SR p p' Z (VR Z) (results fn t) (results c (t.map (bB Z))):=by
 unfold results;rw[h];have d:∀i,(t.map (bB Z)).getD i undef=bB Z (t.getD i undef):=λi=>by simp;cases t[i]?<;>simp
 refine aK (Q:=λa b=>b=a.map (bB Z)) ?_ ?_
 .rw[Vb,Vb];refine aK (QX _ _ fn.results.toList λa _=>?_) ?_;.cases a with
   |tmp i=>exact aN (d i)
   |cell a ty=>dsimp only;rw[d];refine aK (AP F R _) ?_;rintro x _ rfl;exact ub F ty x
  .rintro e _ rfl;exact aN S8
 .rintro e _ rfl;refine aN ?_;by_cases f:e.size=1;.simp_all
  .simp[VR,f]
def OE{ds fr fr' d}(ok:fC G U w W)(c:eX G U λZ=>fr'=cV Z fr)(e:fr.defers=d::ds):∃d' b,fr'.defers=d'::b/\(eX G U λZ=>d'=mO Z d)/\eX G U λZ=>b=ds.map (mO Z):=by
 have⟨Z,i,h⟩:=ok.one;have h0:=c Z i h;refine⟨mO Z d,ds.map (mO Z),by rw[h0];simp[cV,e],λg f a=>?_,λg f a=>?_⟩<;>
 .have:=congrArg Frame.defers ((c g f a).symm.trans h0);simp only[cV,e,lD,zf]at this;first|exact this.1.symm|exact this.2.symm
def EE(F:Fit G p p')(C:kS G p p')(K:Dj X p p'){main main' fr fr' cs J}(ak:cs=[]->main=true/\(tl=[]->main'=true))(ok:fC G U w W)(wr:WR p L G U w W)(ab:na p fr=true)(s:cs.all (na p)=true)(j:gY fr cs)(g:eX G U λZ=>fr'=cV Z fr)(E:eX G U λZ=>J=cs.map (cV Z)++tl):iL X p p' tl L G U W (unwind p main fr cs none w) (unwind p' main' fr' J none W):=by
 have⟨ar,k2⟩:=pE ok g;have u:=eF.1 ab;have bb:∀{A:Nat->Option Nat} {es ES:Array Event},r7 G A es ES->r7 G A (Go.seen p fr.fn es) (Go.seen p' fr'.fn ES):=λh=>by rw[ar];exact h.seen K fr.fn
 cases B:fr.defers with
 |cons d ds=>
   have⟨d',ag,Q,N,O⟩:=OE ok g B;have π:okD p d=true/\ds.all (okD p)=true:=by have:=u.2.1;rw[B]at this;simpa using this
   by_cases Y:∃b,d.target=.collected b
   .have⟨b,j⟩:=Y;have⟨t,μ⟩:=d;simp only at j;subst j;have⟨m,S,P⟩:=ok.one;have ay:=N m S P;subst ay;have I:eX G U λZ=>SR p p' Z (λx y=>y=x.map (mO Z)/\x.all (okD p)=true) (Instr.takeDeferred b) (Instr.takeDeferred (m b)):=λZ a f=>by
     have:m b=Z b:=by have:=congrArg Deferred.target (N Z a f);simpa[mO,CU]using this
     rw[this];exact C2 b
    have v:=Xk ok wr I;unfold unwind;rw[B,Q];dsimp only[mO,CU];by_cases o:vz L (cY ((Instr.takeDeferred b).runT p w #[]).1) (cY ((Instr.takeDeferred (m b)).runT p' W #[]).1)
    .have⟨f1,f2⟩:=o;refine wm (.inl ⟨?_,?_⟩);.generalize(Instr.takeDeferred b).runT p w #[]=r at f1|-;have⟨r,es⟩:=r;cases r<;>exact bM f1
     .generalize(Instr.takeDeferred (m b)).runT p' W #[]=r at f2|-;have⟨r,es⟩:=r;cases r<;>exact bM f2
    generalize(Instr.takeDeferred b).runT p w #[]=r,(Instr.takeDeferred (m b)).runT p' W #[]=av at v o|-;have⟨r,es⟩:=r;cases r with
    |ok n w1=>
      obtain ah|⟨au,W1,ES,A,rfl,e,T,af,V,D⟩:=v;.trivial
      have aa:=D.1;have a7:eX G A λZ=>au=n.map (mO Z):=λZ r c=>(D.2 Z r c).1;have a8:n.all (okD p)=true:=by obtain⟨Z,r,c⟩:=T.one;exact(D.2 Z r c).2
      have az:=g.ext e;have a0:=E.ext e;have a2:=O.ext e;refine tD ?_ e V (bb aa);refine vd T af (.of ⟨?_,s,rfl,rfl,rfl,j.kind rfl⟩ λl a f=>?_);.rw[eF];exact⟨u.1,by simp only[Vg,dO];exact⟨a8,π.2⟩,u.2.2⟩
      .rw[az l a f,a0 l a f,a2 l a f,a7 l a f,<-oK];rfl
    |halt h w1=>trivial
   .have I:=I0 (fr:={fr with defers:=ds}) (fr':={fr' with defers:=ag}) (d:=d) (d':=d') F C K ok wr (by rw[eF];exact⟨u.1,π.2,u.2.2⟩) s (j.kind rfl) π.1 (λZ a f=>by rw[g Z a f,O Z a f];rfl) E N;have bc:unwind p main fr cs none w=callDeferred p {fr with defers:=ds} cs none d w:=by unfold unwind;rw[B];have⟨t,μ⟩:=d;cases t<;>first|rfl|exact absurd ⟨_,rfl⟩ Y
    have bd:unwind p' main' fr' J none W=callDeferred p' {fr' with defers:=ag} J none d' W:=by
     unfold unwind;rw[Q];have:¬∃b,d'.target=.collected b:=by rintro⟨b,j⟩;have⟨Z,a,f⟩:=ok.one;rw[N Z a f]at j;have⟨t,μ⟩:=d;cases t<;>first|exact Y ⟨_,rfl⟩|simp[mO,CU]at j
     have⟨t,μ⟩:=d';cases t<;>first|rfl|exact absurd ⟨_,rfl⟩ this
    rw[bc,bd];exact I
 |nil=>
   have Q:fr'.defers=[]:=by have⟨Z,a,f⟩:=ok.one;rw[g Z a f];simp[cV,B]
   unfold unwind;rw[B,Q];dsimp only;have aj:eX G U λZ=>fr'.mode=tC Z fr.mode:=λl a f=>by rw[g l a f];rfl
   have⟨m,S,P⟩:=ok.one;have H:=aj m S P;cases R:fr.mode with
   |run=>trivial
   |panicking q=>
     rw[R]at H;rw[H];have hgo:q.all (!·.goexit)=true:=by have:=u.2.2.2.2.2;rw[R]at this;exact this
     dsimp only[tC];refine iL.unless λ_=>acK ?_ ?_
     .have a4:Frame.catches p' fr'=false:=by
       have a9:fr'.todo=fr.todo.map (mP m):=by rw[g m S P];rfl
       have ao:=u.1;unfold Frame.catches;rw[a9];cases ba:fr.todo with
       |nil=>split<;>simp_all
       |cons i k=>rw[ba]at ao;cases i<;>first|(simp[Cn]at ao;done)|(cases p'.funcs[fr'.fn]?<;>rfl)
      simp[a4]
     .cases cs with
      |cons c r=>obtain⟨bf,av,rfl,O,a3⟩:=all_cons ok E;simp only[jG,dO]at s;refine vd ok wr (.of ⟨zO s.1 q hgo,s.2,rfl,rfl,rfl,Ls (fr:=c) (cs:=r) j (uh c q)⟩ λl a f=>?_);have ae:=aj l a f;rw[R,H]at ae;simp only[tC,FrameMode.panicking.injEq]at ae;rw[ae,O l a f,a3 l a f,xa];rfl
      |nil=>
        dsimp only;have a6:¬q.head?.any (·.goexit)=true:=by cases q with
         |nil=>simp
         |cons e q=>simp only[jG,dO,Bool.not_eq_true']at hgo;simp[hgo.1]
        rw[aU a6];cases(reportChain q false).run p w with
        |ok t w=>exact .inr (.inl ⟨.inl rfl,_,rfl,rfl,K.dry t⟩)
        |halt h w=>cases h<;>trivial
   |returning=>rw[R]at H;rw[H];dsimp only[tC];have z:=K.sort fr.fn;rw[ar];cases ai:p.funcs[fr.fn]? with
     |none=>
       have:p'.funcs[fr.fn]?=none:=by rw[ai]at z;simpa using z
       rw[this];refine lZ F ok wr ab s j g E (λZ a f=>?_) ak;rw[g Z a f];simp only[cV,Gw,kU];cases fr.tmps[0]?<;>simp
     |some fn=>
       rw[ai]at z;have⟨M,a5,z⟩:=Gx.1 z;rw[a5];simp only[J2]at z;dsimp only;have I:eX G U λZ=>SR p p' Z (VR Z) (results fn fr.tmps) (results M fr'.tmps):=λZ a f=>by
        have:fr'.tmps=fr.tmps.map (bB Z):=by rw[g Z a f];rfl
        rw[this];exact OD F a z.1 _
       have v:=Xk ok wr I;by_cases o:vz L (cY ((results fn fr.tmps).runT p w #[]).1) (cY ((results M fr'.tmps).runT p' W #[]).1)
       .have⟨f1,f2⟩:=o;refine wm (.inl ⟨?_,?_⟩);.generalize(results fn fr.tmps).runT p w #[]=r at f1|-;have⟨r,es⟩:=r;cases r<;>first|exact bM (gA f1)|exact bM f1|(rename_i h _;cases h<;>exact bM f1)
        .generalize(results M fr'.tmps).runT p' W #[]=r at f2|-;have⟨r,es⟩:=r;cases r<;>first|exact bM (gA f2)|exact bM f2|(rename_i h _;cases h<;>exact bM f2)
       generalize(results fn fr.tmps).runT p w #[]=r,(results M fr'.tmps).runT p' W #[]=av at v o|-;have⟨r,es⟩:=r;cases r with
       |ok n w1=>
         obtain ah|⟨au,W1,ES,A,rfl,e,T,af,V,D⟩:=v;.exact absurd ah o
         have aa:=D.1;refine tD ?_ e V (aa.seen K fr.fn);exact lZ F T af ab s j (g.ext e) (E.ext e) (λZ r c=>(D.2 Z r c)) ak
       |halt h w1=>cases h<;>trivial
end
section
variable{p p':Program}{L:Nz}{G:Gs}{α β γ δ:Type}
def oC.sN{U W Q}{r:Result α×Array Event}{a:Result β×Array Event}(h:vz L (cY r.1) (cY a.1)):oC p L G U W Q r a:=by have⟨r,es⟩:=r;cases r<;>exact .inl h
def oC.weaken{U q W W1 Q}{r:Result α×Array Event}{s:Result β×Array Event}(e:Ext U q)(f:Fr U q W W1)(h:oC p L G q W1 Q r s):oC p L G U W Q r s:=by
 match r with
 |(.ok a w1,t)=>
   obtain n|⟨b,g,d,o,i,c,j,k,l,m⟩:=h;.exact .inl n
   .exact .inr ⟨b,g,d,o,i,e.trans c,j,k,f.trans c l,m⟩
 |(.halt x w1,t)=>
   obtain n|h|⟨u,b,g,d,o,i,c,j,k,l,m⟩:=h;.exact .inl n
   .exact .inr (.inl h)
   .exact .inr<|.inr ⟨u,b,g,d,o,i,e.trans c,j,k,f.trans c l,m⟩
def LC{n:Int}{s}{f:α->Sem γ}{w es}(h:n<(cY (s.runT p w es).1).drawn):n<(cY ((s>>=f).runT p w es).1).drawn:=by rw[oY];generalize s.runT p w es=r at h;have⟨r,b⟩:=r;cases r with
 |ok a w1=>exact Dz h (Gy.2 (qx (f a) w1 b))
 |halt x w1=>exact h
def oC.bind{Q Q' U w W es ES s s'}{f:α->Sem γ}{f':β->Sem δ}(h:Out p L G U W Q (s.runT p w es) (s'.runT p' W ES))(k:∀a b w1 W1 g d c,Ext U c->fC G c w1.heap.size W1.heap.size->WR p L G c w1 W1->r7 G c g d->(eX G c λZ=>Q Z a b)->oC p L G c W1 Q' ((f a).runT p w1 g) ((f' b).runT p' W1 d)):
 oC p L G U W Q' ((s>>=f).runT p w es) ((s'>>=f').runT p' W ES):=by
 by_cases i:vz L (cY (s.runT p w es).1) (cY (s'.runT p' W ES).1);.exact oC.sN ⟨LC i.1,LC i.2⟩
 rw[oY,oY];generalize s.runT p w es=r,s'.runT p' W ES=u at h i|-;have⟨r,g⟩:=r;cases r with
 |ok a w1=>
   obtain q|⟨b,W1,d,c,rfl,e,n,o,j,l,m⟩:=h;.trivial
   .exact oC.weaken e j (k a b w1 W1 g d c e n o l m)
 |halt x w1=>
   obtain q|h|⟨t,b,W1,d,c,rfl,e,n,o,j,l,m⟩:=h;.trivial
   .exact .inr (.inl h)
   .exact .inr<|.inr ⟨t,b,W1,d,c,rfl,e,n,o.we,j,l,m⟩
def QY:=@oC.bind
def oC.lost{Q:Pi->α->β->Prop}{U W w1 a h b}(e:xY h=true):oC p L G U W Q (.halt h w1,a) b:=.inr (.inl e)
def Xm:=@oC.lost
def oC.loose(A:G.strict=false){Q U w W es ES}{s:Sem α}{s':Sem β}(ok:fC G U w.heap.size W.heap.size)(v:∀b c,U b=some c->∃o o',w.heap[b]?=some o/\W.heap[c]?=some o'/\cL p o=true/\eX G U λZ=>o'=dV Z o)(z:W.os=w.os)(B:w.tape=L.tp)(ev:r7 G U es ES)
 (n:(cY (s.runT p w es).1).drawn=w.drawn)(t:eX G U λZ=>SR p p' Z (Q Z) s s'):oC p L G U W Q (s.runT p w es) (s'.runT p' W ES):=by
 have wr:WR p ⟨w.drawn,(W.drawn:Int) -w.drawn,L.tp⟩ G U w W:=⟨v,λi q hi=>by simp only at hi;omega,z,by simp only;omega,B⟩;have h:=rM s s' U w W es ES ok wr ev t;have we:∀{e:Nat->Option Nat} {w1 W1:World},WR p ⟨w.drawn,(W.drawn:Int) -w.drawn,L.tp⟩ G e w1 W1->WE p L G e w1 W1:=λx=>⟨x.obj,x.os,λy=>(by rw[A]at y;cases y),x.tp⟩;generalize s.runT p w es=r at h n|-;have⟨r,C⟩:=r;cases r with
 |ok a w1=>
   obtain m|⟨b,W1,f,e,d,g,j,k,l⟩:=h;.have d:=m.1;simp[cY]at n;simp at d;omega
   .exact .inr ⟨b,W1,f,e,d,g,j,we k,l⟩
 |halt x w1=>
   obtain m|h|⟨u,b,W1,f,e,d,g,j,k,l⟩:=h;.have d:=m.1;simp[cY]at n;simp at d;omega
   .exact .inr (.inl h)
   .exact .inr<|.inr ⟨u,b,W1,f,e,d,g,j,we k,l⟩
def uo(r o w es):(cY ((setObj r o).runT p w es).1).drawn=w.drawn:=by
 show(cY ((Sem.setObj r o (.pure ())).runT p w es).1).drawn=w.drawn;simp[Sem.runT];repeat' split
 all_goals rfl
end
section
variable{p p':Program}{L:Nz}{G:Gs}{U:Nat→Option Nat}{w W:World}{es ES:Array Event}
def aaF(n):Fr U U W {W with drawn:=W.drawn+n}:=⟨L9,λ_ _ _=>rfl,λc (a:(W:Nat)<=c) (b:c<(W:Nat))=>by omega,λ_ _ h _=>h,rfl,rfl,Qk _ _,rfl⟩
def Xn(B:G.strict=false){a k a' k'}(ok:fC G U w W)(wr:WR p L G U w W)(ev:r7 G U es ES)(o:eX G U fun Z=>a'=bB Z a)(m:eX G U fun Z=>k'=bB Z k){r t}{f f':Value->Obj}(A:∀x j,(eX G U fun Z=>j=bB Z x)->eX G U fun Z=>t=Z r/\f' j=dV Z (f x)/\cL p (f x)=true):
 oC p L G U W (fun _ _ _=>True) ((Instr.keyThatStays a k>>=fun x=>setObj r (f x)).runT p w es) ((Instr.keyThatStays a' k'>>=fun x=>setObj t (f' x)).runT p' W ES):=by
 have last:∀(x j:Value) (n s:Nat),(eX G U fun Z=>j=bB Z x)->oC p L G U W (fun _ _ _=>True) ((setObj r (f x)).runT p {w with drawn:=w.drawn+n} es) ((setObj t (f' j)).runT p' {W with drawn:=W.drawn+s} ES):=fun x j n s C=>by refine oC.weaken (oU _) (aaF s) (oC.loose B (w:={w with drawn:=w.drawn+n}) ok wr.obj wr.os wr.tp ev (uo _ _ _ _) fun Z h d=>?_);have⟨l,i,y⟩:=A x j C Z h d;rw[l,i];exact gM y
 have run:∀(q:Program) (b c:Value) (g:Value->Sem Unit) (v:World) (e:Array Event),(Instr.keyThatStays b c>>=g).runT q v e=if Instr.sameBits 10000 b c then(g c).runT q v e else(g (if(Question.extern "map.whichKeyStays" 2).cut (v.tape v.drawn (.extern "map.whichKeyStays" 2))=0 then c else b)).runT q {v with drawn:=v.drawn+1} e:=fun q b c g v e=>by
  unfold Instr.keyThatStays;split;.rfl
  .trivial
 rw[run,run];by_cases l:Instr.sameBits 10000 a k=true
 .have e:=Cj _ _ _ l;rw[bE l];by_cases i:Instr.sameBits 10000 a' k'=true;.rw[bE i];exact last k k' 0 0 m
  .rw[aU i];refine last k _ 0 1 fun Z h d=>?_;have u:a'=k':=by rw[o Z h d,m Z h d,e]
   rw[u,ite_self];exact m Z h d
 .rw[aU l];by_cases i:Instr.sameBits 10000 a' k'=true
  .have e:=Cj _ _ _ i;rw[bE i];refine last _ k' 1 0 fun Z h d=>?_;split;.exact m Z h d
   .rw[<-e];exact o Z h d
  .rw[aU i];by_cases z:w.drawn<L.lim
   .have h0:=wr.tape 0 (.extern "map.whichKeyStays" 2) z;simp only[Dw]at h0;rw[h0];refine last _ _ 1 1 fun Z h d=>?_;split;.exact m Z h d
    .exact o Z h d
   .have D:=wr.Oh;refine oC.sN ⟨?_,?_⟩;.rw[uo];simp only;omega
    .rw[uo];simp only;omega
def Gg(F:Fit G p p')(ao:G.strict=false)(t)(K:zD p t=true){m k v O k' B}(ok:fC G U w W)(wr:WR p L G U w W)(ev:r7 G U es ES)(n:eX G U λZ=>O=bB Z m)(d:eX G U λZ=>k'=bB Z k)(g:eX G U λZ=>B=bB Z v):
 oC p L G U W (λ_ _ _=>True) ((Instr.mapUpdate t m k v).runT p w es) ((Instr.mapUpdate t O k' B).runT p' W ES):=by
 unfold Instr.mapUpdate;refine QY (rM _ _ U w W es ES ok wr ev λZ a b=>aR F t) ?_;intro u ay w1 W1 H E C ex z R I j;have⟨q,y,s⟩:=z.one;obtain⟨rfl,N⟩:=j q y s;replace n:=n.ext ex;replace d:=d.ext ex;replace g:=g.ext ex;cases ay<;>first|exact Xm rfl|skip
 rename_i au e;dsimp only;cases m<;>first|exact Xm rfl|skip
 rename_i r;cases r with
 |none=>have:=n q y s;subst this;simp only[dY,J0];exact(rM _ _ C w1 W1 H E z R I λZ a b=>bI F _).we
 |some r=>
   have:=n q y s;subst this;simp only[dY,dW];have M:eX G C λZ=>q r=Z r:=λZ a b=>by simpa using n Z a b
   refine QY (Q:=λZ o o'=>o'=dV Z o) (rM _ _ C w1 W1 H E z R I λZ a b=>by rw[M Z a b];exact iD) ?_;intro o o' a2 W2 aa μ T ex P az af j;cases o<;>first|exact Xm rfl|skip
   rename_i ms c;have⟨D,aj,ah⟩:=P.one;have:=j D aj ah;subst this;have h:eX G T λZ=>ms.map (mJ D)=ms.map (mJ Z):=λZ a b=>by simpa[dV]using j Z a b
   have l:=M.ext ex;replace d:=d.ext ex;replace g:=g.ext ex;simp only[dV];refine QY (rM _ _ T a2 W2 aa μ P az af λZ a b=>by rw[d Z a b];exact lJ F _ _ 5 _ _ (jP K N)) ?_;intro _ _ a3 Y ab V a5 ex av a0 ag _;replace h:=h.ext ex;replace l:=l.ext ex;replace d:=d.ext ex;replace g:=g.ext ex;refine QY (Q:=λZ f f'=>f'=SZ Z f) (rM _ _ a5 a3 Y ab V av a0 ag λZ a b=>by rw[h Z a b,d Z a b,sX];exact qC F a au (jP K N) k ms.toList) ?_;intro f f' a4 π ae X a6 ex A S J j;replace h:=h.ext ex;replace l:=l.ext ex;replace d:=d.ext ex;replace g:=g.ext ex;have⟨a7,ak,ai⟩:=A.one;have:=j a7 ak ai;subst this;cases f with
   |none=>refine(rM _ _ a6 a4 π ae X A S J λZ a b=>?_).we;have:=gM (p:=p) (p':=p') (Z:=Z) (r:=r) (o:=.map (ms.push {key:=k,val:=v,born:=c}) (c+1)) rfl;simpa[dV,mJ,SZ,h Z a b,l Z a b,d Z a b,g Z a b]using this
   |some f=>
     have⟨i,x⟩:=f;refine Xn ao A S J (λZ a b=>?_) d (f:=λx=>.map (ms.modify i λe=>{e with key:=x,val:=v}) c) (f':=λx=>.map ((ms.map (mJ D)).modify i λe=>{e with key:=x,val:=B}) c) (λx a8 ar Z a b=>⟨l Z a b,?_,rfl⟩);.rw[h Z a b,d Z a b,kU];cases ms[i]?<;>rfl
     .simp only[dV,Obj.map.injEq,sQ];rw[h Z a b,g Z a b,ar Z a b];exact(Ev (mJ Z) (λe=>{e with key:=x,val:=v}) (λe=>{e with key:=bB Z x,val:=bB Z v}) (λx=>rfl) ms i).symm
def oC.skip{r:Sem Unit}{g:Sem Unit}(h:oC p L G U W (λ_ _ _=>True) (r.runT p w es) (g.runT p' W ES)):oC p L G U W (NR p) ((do r;pure Next.skip).runT p w es) ((do g;pure Next.skip).runT p' W ES):=by rw[oY,oY];generalize r.runT p w es=x,g.runT p' W ES=c at h|-;have⟨x,q⟩:=x;cases x with
 |ok a w1=>
   obtain d|⟨b,W1,e,i,rfl,f,k,l,m,n,-⟩:=h;.refine .inl ⟨d.1,?_⟩;have:=d.2;have⟨c,j⟩:=c;cases c<;>exact this
   .exact .inr ⟨.skip,W1,e,i,rfl,f,k,l,m,n,λZ _ _=>⟨rfl,rfl⟩⟩
 |halt y w1=>
   obtain d|h|⟨o,b,W1,e,i,rfl,f⟩:=h;.refine .inl ⟨d.1,?_⟩;have:=d.2;have⟨c,j⟩:=c;cases c<;>exact this
   .exact .inr (.inl h)
   .exact .inr<|.inr ⟨o,b,W1,e,i,rfl,f⟩
end
end Go.Ren
