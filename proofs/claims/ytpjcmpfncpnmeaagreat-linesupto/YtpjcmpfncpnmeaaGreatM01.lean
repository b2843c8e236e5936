import Derived.Laws.Sem
import Derived.RunT
import Derived.DyingOn
import Derived.Test.YtpjcmpfncpnmeaaGreatM00
set_option linter.all false
set_option maxHeartbeats 4000000
namespace Go.Ren
section
variable{G:Gs}{p p':Program}{Z:Pi}(F:Fit G p p')(R:Rn G Z)
include F
omit F in
theorem DV(d t x y)(a:x≠.nilIface)(b:∀c,x≠.agg c):Op.eqGuardIn (d+1) t x y=(underlying t>>=λ_=>Pure.pure false):=by unfold Op.eqGuardIn;congr 1;funext u;cases x<;>first|exact absurd rfl a|exact absurd rfl (b _)|(cases u<;>rfl)
omit F in
theorem DW(d t x y)(a:y≠.nilIface)(b:∀c,y≠.agg c):Op.eqGuardIn (d+1) t x y=(underlying t>>=λ_=>Pure.pure false):=by unfold Op.eqGuardIn;congr 1;funext u;cases y<;>first|exact absurd rfl a|exact absurd rfl (b _)|(cases u<;>cases x<;>rfl)
theorem uN:∀d t x y,SR p p' Z (λx l=>l=x) (Op.eqGuardIn d t x y) (Op.eqGuardIn d t (aV Z x)<|aV Z y)
 |0,_,_,_=>aO rfl
 |d+1,t,x,y=>by have j:=uN d;by_cases a:∃r,x=.chan r;obtain⟨r,rfl⟩:=a;rw[aV,DV d t (.chan r) y S8 S8,DV d t (oQ Z r) _ (yK Z r)<|FW Z r];exact bH (kQ F t) λ_ _ _=>aQ rfl;by_cases c:∃r,y=.chan r;obtain⟨r,rfl⟩:=c;rw[aV,DW d t x (.chan r) S8 S8,DW d t _ (oQ Z r) (yK Z r)<|FW Z r];exact bH (kQ F t) λ_ _ _=>aQ rfl;unfold Op.eqGuardIn;refine cV F λu _=>?_;cases u with
   |interface M=>cases x<;>first|exact absurd ⟨_,rfl⟩ a|(cases y<;>first|exact absurd ⟨_,rfl⟩ c|(simp only[aV];exact aQ rfl))
   |struct k=>cases x with
     |agg h=>cases y with
       |agg i=>simp only[aV];refine bH (Cx k _ λf _ b=>?_) ?_;split;refine aW (kZ F f.type h f.offset) λv=>aW (kZ F f.type i f.offset) λg=>aW (j f.type v g) λe=>?_;split<;>exact aQ rfl;exact aQ rfl;rintro _ r rfl;split<;>exact aQ rfl
       |_=>first|exact absurd ⟨_,rfl⟩ c|(simp only[aV];exact aQ rfl)
     |_=>first|exact absurd ⟨_,rfl⟩ a|(simp only[aV];exact aQ rfl)
   |array n e=>cases x with
     |agg h=>cases y with
       |agg i=>simp only[aV];refine aW (dW F e) λm=>bH (Cy n _ λf b=>?_) ?_;refine aW (kZ F e h _) λv=>aW (kZ F e i _) λg=>aW (j e v g) λe=>?_;split<;>exact aQ rfl;rintro _ r rfl;split<;>exact aQ rfl
       |_=>first|exact absurd ⟨_,rfl⟩ c|(simp only[aV];exact aQ rfl)
     |_=>first|exact absurd ⟨_,rfl⟩ a|(simp only[aV];exact aQ rfl)
   |_=>exact aQ rfl
theorem RQ(o t x y a b):SR p p' Z (λ_ _=>True) (eqGuard o t x y a b) (eqGuard o t x y (aV Z a)<|aV Z b):=by
 unfold eqGuard;refine eT (aQ trivial) ?_;by_cases c:∃r,a=.chan r;obtain⟨r,rfl⟩:=c;rw[aV];obtain h|⟨_,h⟩|⟨_,_,_,h⟩|⟨_,h⟩|⟨_,h⟩|⟨_,_,_,h⟩:=fU Z r<;>rw[h]<;>exact aQ trivial;by_cases d:∃r,b=.chan r;obtain⟨r,rfl⟩:=d;rw[aV];obtain h|⟨_,h⟩|⟨_,_,_,h⟩|⟨_,h⟩|⟨_,h⟩|⟨_,_,_,h⟩:=fU Z r<;>rw[h]<;>cases a<;>first|exact absurd ⟨_,rfl⟩ c|(simp[aV];exact aQ trivial)
 cases a with
 |nilIface=>cases b with
   |nilIface=>simp[aV];refine eT (aQ trivial) ?_;refine aW (by have:=uN F (Z:=Z) Op.maxDepth t .nilIface .nilIface;simpa only[aV]using this) λe=>?_;split;exact aO rfl;exact aQ trivial
   |_=>first|exact absurd ⟨_,rfl⟩ d|(simp[aV];exact aQ trivial)
 |agg f=>cases b with
   |agg g=>simp[aV];refine ju ?_;refine ju ?_;rw[F.depth,wQ F];split;exact aQ trivial;refine aW (by have:=uN F (Z:=Z) Op.maxDepth t (.agg f) (.agg g);simpa only[aV]using this) λe=>?_;split;exact aO rfl;exact aQ trivial
   |_=>first|exact absurd ⟨_,rfl⟩ d|(simp[aV];exact aQ trivial)
 |_=>first|exact absurd ⟨_,rfl⟩ c|(simp[aV];exact aQ trivial)
theorem IJ(d):∀t b,cellOfByte p' d t b=cellOfByte p d t b:=by induction d with
 |zero=>intro t b;rfl
 |succ d a=>intro t b;simp[cellOfByte,F.under,F.bytesOf,F.cellsOf,a]
theorem Gd(d e c o b):cellAtBytes p' d e c o b=cellAtBytes p d e c o b:=by simp[cellAtBytes,F.bytesOf,F.cellsOf,yM F,IJ F]
theorem yQ(c t a y):SR p p' Z (λv d=>d=aV Z v/\∃a,v=.pointer a) (Builtin.unsafeAdd_ c t #[.pointer a,y]) (Builtin.unsafeAdd_ c t #[.pointer (a.map<|cL Z),aV Z y]):=by
 unfold Builtin.unsafeAdd_;dsimp only;refine bH (Q:=λa b=>b=a) (bH (qP y)<|by rintro _ n rfl;exact aQ rfl) ?_;rintro _ n rfl;split;cases a<;>try exact aO rfl
 rename_i a;refine aW (JG a.block) λv=>?_;cases v<;>try exact aO rfl
 exact aQ ⟨S8,_,rfl⟩;split;exact aO rfl;cases a<;>try exact aO rfl
 rename_i a;refine aW nI λs=>?_;cases s<;>try exact aO rfl
 rename_i s;refine ju ?_;simp[F.depth,F.cellsOf,Gd F];split;exact aQ ⟨by simp[cL],_,rfl⟩;exact aO rfl
theorem uO(b t a y):SR p p' Z (VR Z) (Builtin.unsafeAdd_ b t #[.pointer a,y]) (Builtin.unsafeAdd_ b t #[.pointer (a.map<|cL Z),aV Z y]):=(yQ F b t a y).mono λ_ _ h=>h.1
theorem Ey(t a y):SR p p' Z (VR Z) (movedPointer t (.pointer a) y) (movedPointer t (.pointer (a.map<|cL Z))<|aV Z y):=by
 obtain _|a:=a;exact uO F #[] t none y;refine aW (DT a.block) λv=>?_;cases v<;>try exact aO rfl
 exact uO F #[] t (some a) y
theorem Ge(t a y):SR p p' Z (VR Z) (movedNumber t (.pointer a) y) (movedNumber t (.pointer (a.map<|cL Z))<|aV Z y):=by refine cV F λd _=>?_;refine eT (aO rfl) ?_;obtain _|a:=a;exact uO F #[] t none y;refine aW (iA a) λ⟨b,l⟩=>bH (yQ F #[] t (some b) y) ?_;rintro v _⟨rfl,c,rfl⟩;obtain _|c:=c;rw[aV];exact dG;rw[aV];exact Oj c l
include R
theorem A0(a b):SR p p' Z (λx c=>c=x) (Op.twoPlaces a b) (Op.twoPlaces (cL Z a)<|cL Z b):=by refine ju ?_;rw[F.none];simp;exact aO rfl
theorem RR(k a b):SR p p' Z (VR Z) (Op.addrSub k a b) (Op.addrSub k (cL Z a)<|cL Z b):=aW (A0 F R a b) λx=>dG
theorem RV(o a b):SR p p' Z (VR Z) (Op.addrCmp o a b) (Op.addrCmp o (cL Z a)<|cL Z b):=by refine aW (A0 F R a b) λx=>?_;cases o<;>first|exact dG|exact aO rfl
omit R in
theorem Gf(k a n):SR p p' Z (VR Z) (Op.addrMod k a n) (Op.addrMod k (cL Z a) n):=by
 refine aW nI λs=>?_;cases s<;>try exact aO rfl
 rename_i s;refine jx (fY F s.1) λi _=>?_;dsimp only;split;exact aO rfl;exact aW (Ct F a) λx=>dG
theorem Ot{n}(t x y)(h:vO p n t=true):SR p p' Z (λx a=>a=x) (Op.equal t x y) (Op.equal t (aV Z x)<|aV Z y):=Gc F R _ n t x y h
theorem JH{b}(t x y)(h:XS p t b=true)(d:b=true->y=.nilIface):SR p p' Z (λx g=>g=x) (Op.equal t x y) (Op.equal t (aV Z x)<|aV Z y):=by
 unfold XS at h;rw[Jc,fx]at h;obtain h|⟨c,a⟩:=h;exact Ot F R t x y h;have f:=d c;subst f;refine cV F λu e=>?_;rw[e]at a;cases u<;>first|(cases a;done)|skip
 cases x<;>first|exact aO rfl|(simp;exact aQ rfl)
end
section
variable{G:Gs}{p p':Program}{Z:Pi}(F:Fit G p p')(R:Rn G Z)
include F R
omit F R in
theorem Vr(r a t y):binOp .eql t (oQ a r) y=(do let e<-Op.equal t (oQ a r) y;pure e)/\binOp .neq t (oQ a r) y=(do let e<-Op.equal t (oQ a r) y;pure<|.bool !e):=by obtain h|⟨_,h⟩|⟨_,_,_,h⟩|⟨_,h⟩|⟨_,h⟩|⟨_,_,_,h⟩:=fU a r<;>rw[h]<;>constructor<;>cases y<;>first|rfl|(rename_i b;cases b<;>rfl)
omit F R in
theorem Vs(r a t x):binOp .eql t x (oQ a r)=(do let e<-Op.equal t x (oQ a r);pure e)/\binOp .neq t x (oQ a r)=(do let e<-Op.equal t x (oQ a r);pure<|.bool !e):=by obtain h|⟨_,h⟩|⟨_,_,_,h⟩|⟨_,h⟩|⟨_,h⟩|⟨_,_,_,h⟩:=fU a r<;>rw[h]<;>constructor<;>cases x<;>first|rfl|(rename_i b;cases b<;>rfl)
omit F R in
theorem Ou(r t x):binOp .eql t x (.chan r)=(do let e<-Op.equal t x (.chan r);pure e)/\binOp .neq t x (.chan r)=(do let e<-Op.equal t x (.chan r);pure<|.bool !e):=by constructor<;>cases x<;>first|rfl|(rename_i b;cases b<;>rfl)
theorem abK{j}(op t x y)(f:(match op with|.eql|.neq=>XS p t j|_=>true)=true)(o:j=true->y=.nilIface):SR p p' Z (VR Z) (binOp op t x y) (binOp op t (aV Z x)<|aV Z y):=by
 have eql:XS p t j=true->SR p p' Z (VR Z) (do let e<-Op.equal t x y;pure e) (do let e<-Op.equal t (aV Z x) (aV Z y);pure e):=λf=>aW (JH F R t x y f o) λe=>dG;have neq:XS p t j=true->SR p p' Z (VR Z) (do let e<-Op.equal t x y;pure<|.bool !e) (do let e<-Op.equal t (aV Z x) (aV Z y);pure<|.bool !e):=λf=>aW (JH F R t x y f o) λe=>dG;by_cases g:∃r,x=.chan r;obtain⟨r,rfl⟩:=g;rw[aV]at eql neq|-;cases op with
 |eql=>rw[(Vr r Z t _).1];exact eql f
 |neq=>rw[(Vr r Z t _).2];exact neq f
 |_=>cases y<;>first|exact aO rfl|(rename_i b;cases b<;>exact aO rfl)
 by_cases h:∃r,y=.chan r;.obtain⟨r,rfl⟩:=h;rw[aV]at eql neq|-;cases op with
  |eql=>rw[(Ou r t x).1,(Vs r Z t _).1];exact eql f
  |neq=>rw[(Ou r t x).2,(Vs r Z t _).2];exact neq f
  |_=>cases x<;>first|exact aO rfl|(rename_i b;cases b<;>exact aO rfl)
 have mv:=λa y=>Ge F (Z:=Z) t a y;cases x<;>(try exact absurd ⟨_,rfl⟩ g)<;>cases y<;>(try exact absurd ⟨_,rfl⟩ h)<;>clear g h<;>simp[aV]at eql neq|-;case int.int=>unfold binOp;cases op<;>dsimp only<;>first
   |exact abE F R _ _ _ _ _
   |(refine eT (aO rfl) ?_;first|exact(yO _ _ _ _).val|exact X3 F R _ _ _ _|exact(AY _ _ _ _).val|exact(Oo _ _ _).val)
 case float.float=>unfold binOp;cases op<;>dsimp only<;>(refine eT (SR.lost rfl) ?_;first|exact(vP _ _ _ _).val|exact(yN _ _ _ _).val)
 case complex.complex=>unfold binOp;cases op<;>dsimp only<;>(refine eT (SR.lost rfl) ?_;exact(Ga _ _ _ _ _ _).val)
 case string.string=>unfold binOp;cases op<;>exact(yP _ _ _).val
 case int.pointer k a b=>have m:=mv b<|.int k a;rw[aV]at m;cases b<;>simp[dK,Fg]at*<;>cases op<;>first
   |exact aO rfl|exact eql f|exact neq f|exact m
   |exact aW (iA _) λx=>Gf F _ _ _
 case pointer.int a k n=>
  have m:SR p p' Z (VR Z) (do if(<-underlying t) matches .unsafePointer then movedPointer t (.pointer a) (.int k n)else movedNumber t (.pointer a) (.int k n)) (do if(<-underlying t) matches .unsafePointer then movedPointer t (.pointer (a.map<|cL Z)) (.int k n)else movedNumber t (.pointer (a.map<|cL Z)) (.int k n)):=by refine cV F λd _=>?_;have l:=(λa y=>Ey F (Z:=Z) t a y) a<|.int k n;have i:=mv a<|.int k n;rw[aV]at l i;exact eT l i
  have q:=mv a (.int k<|-n);rw[aV]at q;cases a<;>cases op<;>first
   |exact aO rfl|exact eql f|exact neq f|exact m|exact q
   |exact aW (iA _) λx=>Gf F _ _ _
 case pointer.pointer a b=>cases a<;>cases b<;>cases op<;>first
   |exact aO rfl|exact eql f|exact neq f
   |(refine aW (iA _) λx=>aW (iA _) λy=>?_;first|exact RR F R _ _ _|exact RV F R _ _ _)
 all_goals(try cases‹Option Addr›)<;>(try cases‹Option Addr›)<;>cases op<;>first|exact aO rfl|exact eql f|exact neq f
omit F R in
theorem Ez(s b k):jJ Z (λv=>aV Z v=v) (Conv.floatToInt s b k):=by unfold Conv.floatToInt;split;exact tW (.ret S8)<|gZ Om λ_ _=>.ret S8;exact gZ Om λ_ _=>.ret S8
omit F R in
theorem Cz(x:Value):SR p p' Z (VR Z) (Conv.bytesToString x) (Conv.bytesToString<|aV Z x):=by
 unfold Conv.bytesToString;cases x<;>try exact aO rfl
 rename_i a l c;obtain _|a:=a;rw[aV];exact dG;rw[aV,oK];refine aW (yL a l l c λh _=>h) λV=>bH (Q:=λa b=>b=a) ?_ ?_;rw[<-Us,<-Us,tM];generalize V.toList=l,ByteArray.empty=A;induction l generalizing A with
 |nil=>exact aQ rfl
 |cons v l i=>
   simp only[gJ,List.forIn_cons];cases v<;>try exact aO rfl
   rename_i k n;rw[aV];cases k<;>first|exact aO rfl|exact i _
 rintro _ s rfl;exact dG
omit F R in
theorem CB(a):SR p p' Z (λ_ _=>True) (markStringish a) (markStringish<|cL Z a):=by refine aW nI λs=>?_;obtain _|s:=s;exact aQ trivial;exact JC (a:={block:=a.block,off:=s.2})
omit F R in
theorem CC(e s):SR p p' Z (VR Z) (Conv.stringToBytes e s) (Conv.stringToBytes e s):=by refine aW jz λn=>bH (Q:=λa b=>b=cL Z a/\Z.gh a.block=none) ?_ ?_;have:=qO (p:=p) (p':=p') (Z:=Z) e<|(s.data.map λb=>.int .u8 b.toNat)++Array.replicate (n -s.size) (.int .u8 0);simpa[Ut]using this;rintro a _⟨rfl,c⟩;exact bH (CB a) λ_ _ _=>aQ (by simp[VR,eZ c])
omit F R in
theorem Vt{d}(h:aia d=true):d=some (.int .u8):=by obtain _|d:=d;cases h;cases d<;>first|(cases h;done)|(rename_i k;cases k<;>first|(cases h;done)|rfl)
omit R in
theorem RX(s d x)(h:Rs p s d=true):SR p p' Z (VR Z) (convert s d x) (convert s d<|aV Z x):=by refine cV F λm j=>?_;refine cV F λg i=>?_;simp[Rs,j,i]at h;cases m with
 |int k=>cases g with
   |int K=>cases x with
     |int a n=>rw[aV];exact dG
     |float a n=>rw[aV];exact(Ez _ _ _).val
     |pointer a=>cases a<;>exact aO rfl
     |_=>exact aO rfl
   |_=>cases h
 |string=>cases g with
   |slice e=>cases x with
     |string a=>rw[aV];refine cV F λu b=>?_;cases(Vt h)▸b;exact CC _ _
     |slice a _ _=>cases a<;>exact aO rfl
     |_=>exact aO rfl
   |_=>cases h
 |slice e=>cases g with
   |string=>have f:=Vt h;cases x with
     |int a n=>rw[aV];exact dG
     |string a=>rw[aV];exact dG
     |slice a l c=>rw[aV];refine cV F λu b=>?_;cases f▸b;have:=Cz (p:=p) (p':=p') (Z:=Z) (a,l,c);rwa [aV]at this
     |chan r=>rw[aV];obtain h|⟨_,h⟩|⟨_,_,_,h⟩|⟨_,h⟩|⟨_,h⟩|⟨_,_,_,h⟩:=fU Z r<;>rw[h]<;>(refine cV F λu b=>?_;cases f▸b;exact aO rfl)
     |_=>simp;refine cV F λu b=>?_;cases f▸b;exact aO rfl
   |_=>cases h
 |_=>cases h
omit R in
theorem aif(a t A)(b:(a[0]?).all (okL p)=true):SR p p' Z (VR Z) (Builtin.len_ a t A) (Builtin.len_ a t (A.map<|aV Z)):=by
 unfold Builtin.len_;rw[kW];cases f:a[0]?<;>try exact aO rfl
 rename_i t;rw[f,Uu]at b;cases A[0]?<;>try exact aO rfl
 rename_i x;refine cV F λd c=>?_;cases d with
 |string=>cases x<;>first|exact aO rfl|(rw[aV];exact dG)
 |array n e=>exact dG
 |pointer e=>refine cV F λd _=>?_;cases d<;>first|exact aO rfl|exact dG
 |slice e=>cases x<;>first|exact aO rfl|(rw[aV];exact dG)
 |map k e=>
   cases x<;>try exact aO rfl
   rename_i r;obtain _|r:=r;rw[aV];exact dG;rw[aV,dK];refine aW iW λo=>?_;cases o<;>first|exact aO rfl|exact dG
 |chan k e=>simp[okL,c]at b
 |_=>exact aO rfl
end
section
variable{G:Gs}{p p':Program}{Z:Pi}(F:Fit G p p')(R:Rn G Z)
theorem tX{z:Array Value}(h:z.map (aV Z)=z)(n):((Array.range n).map λi=>z[i%z.size]!).map (aV Z)=(Array.range n).map (λi=>z[i%z.size]!):=by rw[Array.map_map];refine Array.map_congr_left λi _=>?_;simp;by_cases a:i%z.size<z.size;grind;rw[getElem!_neg z _ a];exact(by simp:aV Z (.bool default)=.bool default)
include F
omit F in
theorem abL(x):SR p p' Z (λa b=>b=a.map (aV Z)) (asAgg x) (asAgg<|aV Z x):=by
 cases x<;>try exact aO rfl
 rename_i c;rw[aV];exact aQ rfl
theorem abM(t x i):SR p p' Z (VR Z) (Instr.field t x i) (Instr.field t (aV Z x) i):=by refine cV F λd _=>?_;cases d with
 |struct a=>dsimp only;rcases a[i]? with _|f;exact aO rfl;exact aW (abL x) λc=>kZ F _ _ _
 |_=>exact aO rfl
omit F in
theorem A2(p:Nat->Option (Nat×Nat)):∀(b:List (Nat×Value))(d:Array Value),Instr.fill p (d.map<|aV Z) (b.map λ(i,v)=>(i,aV Z v))=(Instr.fill p d b).map (·.map<|aV Z)
 |[],d=>rfl
 |(i,v)::r,d=>by
   simp only[gJ,Instr.fill];obtain _|O:=p i;rfl;have⟨o,s⟩:=O;simp only[lQ,Je];split;rfl;rw[<-A2 p r];congr 1;have:∀(l:List (Value×Nat))(C:Array Value),(l.map λx=>(aV Z x.1,x.2)).foldl (λC(x:Value×Nat)=>C.setIfInBounds (o+x.2) x.1) (C.map<|aV Z)=(l.foldl (λC(x:Value×Nat)=>C.setIfInBounds (o+x.2) x.1) C).map (aV Z):=by intro l;induction l with
    |nil=>intro C;rfl
    |cons x l c=>intro C;simp;rw[<-c,Nn]
   have a:=this v.cells.zipIdx.toList d;simp only[<-aag]at a|-;rw[<-a];congr 1;simp[List.zipIdx_map]
theorem abN{t:TypeId}(h:t<p.types.size)(c):SR p p' Z (VR Z) (Instr.build t c) (Instr.build t<|c.map λ(i,x)=>(i,aV Z x)):=by
 refine jx (iI F h) λz j=>?_;have k:z.cells.map (aV Z)=z.cells:=by rw[<-lQ,j]
 refine cV F λd _=>?_;have K:∀(P:Nat->Option (Nat×Nat))(M:String),SR p p' Z (VR Z) (match Instr.fill P z.cells c.toList with|some C=>pure (.agg C)|_=>stuck M) (match Instr.fill P z.cells (c.map λ(i,x)=>(i,aV Z x)).toList with|some C=>pure (.agg C)|_=>stuck M):=λP M=>by
  have:=A2 (Z:=Z) P c.toList z.cells;rw[k]at this;rw[tM,this];cases Instr.fill P z.cells c.toList<;>try exact aO rfl
  rename_i o;exact dG
 cases d with
 |struct g=>
   refine bH (Q:=λa b=>b=a) ?_ ?_;have:∀l:Array Field,SR p p' Z (λa b=>b=a) (l.mapM λf=>do pure (f.offset,<-sizeOf f.type)) (l.mapM λf=>do pure (f.offset,<-sizeOf f.type)):=λl=>by rw[Ue];refine Vo (Q:=λa b=>b=a) (f:=λ(l:List (Nat×Nat))=>Sem.pure l.toArray) (f':=λ(l:List (Nat×Nat))=>Sem.pure l.toArray) ?_ (by rintro _ l rfl;exact SR.pure rfl);induction l.toList with
    |nil=>simp;exact aQ rfl
    |cons f l m=>rw[List.mapM_cons];refine bH (Q:=λa b=>b=a) (bH (dW F f.type)<|by rintro _ n rfl;exact aQ rfl) ?_;rintro _ x rfl;exact aW m λy=>aQ rfl
   exact this g;rintro _ q rfl;exact K _ _
 |array n e=>exact aW (dW F e) λn=>K _ _
 |_=>exact aO rfl
end
section
variable{G:Gs}{p p':Program}{Z:Pi}(F:Fit G p p')(R:Rn G Z)
omit F R in
theorem Gg(n):SR p p' Z (λ_ _=>True) (askRoom n) (askRoom n):=eT (LX (m:=.noRoom))<|aQ trivial
theorem Gh{e c}(h:c.map (aV Z)=c):SR p p' Z (λa A=>A=cL Z a/\Z.gh a.block=none) (newRow e c) (newRow e c):=by have:=qO (p:=p) (p':=p') (Z:=Z) e c;rwa [h]at this
theorem EP{t e:TypeId}(F:Fit G p p')(a:t<p.types.size)(h:p.underlying t=some (.slice e)):e<p.types.size:=by have:=F6 F a h;simpa[Co]using this
theorem wR(v):SR p p' Z (λa b=>b=a) (asInt v) (asInt<|aV Z v):=aW (qP v) λx=>aQ rfl
include F R
theorem iJ{g b i c Q}(e){f:g->Sem i}{d:b->Sem c}(a:aho e=false:=by rfl):SR p p' Z Q (runtimePanic e>>=f) (runtimePanic e>>=d):=bH (Q:=λ_ _=>False) (bV F e a) λ_ _ h=>h.elim
theorem L3{t:TypeId}(k:t<p.types.size)(l c):SR p p' Z (VR Z) (Instr.makeSlice t l c) (Instr.makeSlice t (aV Z l)<|aV Z c):=by
 refine cV F λd h=>?_;cases d<;>try exact aO rfl
 rename_i e;refine aW (wR l) λl=>aW (wR c) λc=>jx (fY F e) λi _=>?_;refine eT ?_ ?_;refine eT (iJ F R _)<|eT (iJ F R _) ?_;refine aW jz λn=>?_;exact iJ F R _;refine bH (Gg _) ?_;intro _ _ _;refine aW (dW F e) λn=>?_;refine eT ?_ ?_;refine bH (Q:=λa b=>b=a/\a.map (aV Z)=a) (aQ ⟨rfl,S8⟩) λ_ z⟨rfl,f⟩=>?_;refine bH (Q:=λa b=>b=cL Z a/\Z.gh a.block=none) (Gh<|tX f _) ?_;rintro a _⟨rfl,g⟩;exact aQ (by simp[VR,eZ g]);refine jx (iI F<|EP F k h) λz f=>bH (Q:=λa b=>b=a/\a.map (aV Z)=a) (aQ ⟨rfl,by rw[<-lQ,f]⟩) λ_ z⟨rfl,f⟩=>?_;refine bH (Q:=λa b=>b=cL Z a/\Z.gh a.block=none) (Gh<|tX f _) ?_;rintro a _⟨rfl,g⟩;exact aQ (by simp[VR,eZ g])
omit R
theorem IK{t:TypeId}(k:t<p.types.size)(n c):SR p p' Z (VR Z) (Instr.buildSlice t n c) (Instr.buildSlice t n<|c.map λ(i,x)=>(i,aV Z x)):=by
 refine cV F λd h=>?_;cases d<;>try exact aO rfl
 rename_i e;refine aW (dW F e) λs=>?_;refine eT (aO rfl) ?_;refine eT ?_ ?_;refine bH (Q:=λa b=>b=a/\a.map (aV Z)=a) (aQ ⟨rfl,S8⟩) λ_ z⟨rfl,f⟩=>?_;have:=A2 (Z:=Z) (λi=>some (i*s,s)) c.toList<|(Array.range<|n*s).map λx=>z[x%z.size]!;rw[tX f]at this;dsimp only;rw[tM,this];cases Instr.fill (λi=>some (i*s,s)) ((Array.range<|n*s).map λx=>z[x%z.size]!) c.toList<;>try exact aO rfl
 rename_i C;exact jx (qO e C) λa g=>aQ (by simp[VR,eZ g]);refine jx (iI F<|EP F k h) λz f=>bH (Q:=λa b=>b=a/\a.map (aV Z)=a) (aQ ⟨rfl,by rw[<-lQ,f]⟩) λ_ z⟨rfl,f⟩=>?_;have:=A2 (Z:=Z) (λi=>some (i*s,s)) c.toList<|(Array.range<|n*s).map λx=>z[x%z.size]!;rw[tX f]at this;dsimp only;rw[tM,this];cases Instr.fill (λi=>some (i*s,s)) ((Array.range<|n*s).map λx=>z[x%z.size]!) c.toList<;>try exact aO rfl
 rename_i C;exact jx (qO e C) λa g=>aQ (by simp[VR,eZ g])
omit F in
theorem Ov(x):SR p p' Z (λa b=>b=a/\∀q l c,x=.slice q l c->a<=l) (Builtin.lenOf x) (Builtin.lenOf<|aV Z x):=by cases x with
 |slice a l c=>rw[aV];exact aQ ⟨rfl,λq f d e=>by cases e;exact L9⟩
 |string s=>rw[aV];exact aQ ⟨rfl,λq f d e=>by cases e⟩
 |_=>exact aO rfl
omit F in
theorem sN(s n x)(d:∀q l c,x=.slice q l c->n<=l):SR p p' Z (λa b=>b=a.map (aV Z)/\(n=0->a=#[])) (Builtin.firstCells s n x) (Builtin.firstCells s n<|aV Z x):=by cases x with
 |slice a l c=>obtain _|a:=a;rw[aV];exact aQ S8;rw[aV];by_cases H:n=0;subst H;show SR p p' Z _ (loadCells a<|0*s) (loadCells _<|0*s);rw[Uv];exact aQ S8;refine(yL a _ l c λh _=>?_).mono λ_ _ h=>⟨h,λh=>absurd h H⟩;have:=d _ _ _ rfl;rw[show n=0 by omega,Uv]
 |string s=>rw[aV];refine aQ ⟨by simp[Ut],λh=>?_⟩;subst h;simp
 |_=>exact aO rfl
theorem afb(f t A):SR p p' Z (VR Z) (Builtin.copy_ f t A) (Builtin.copy_ f t (A.map<|aV Z)):=by unfold Builtin.copy_;simp;rcases f[0]? with _|t;exact aO rfl;rcases A[0]? with _|d;exact aO rfl;rcases A[1]? with _|s;exact aO rfl;refine cV F λu _=>?_;cases u with
 |slice e=>cases d with
   |slice b l c=>rw[aV];refine bH (Ov s) λ_ n⟨rfl,j⟩=>?_;refine aW (dW F e) λz=>?_;refine bH (sN z _ s λq k g e=>cA (Nat.min_le_left _ _)<|j q k g e) ?_;rintro C _⟨rfl,i⟩;obtain _|a:=b;exact dG;refine bH (Q:=λ_ _=>True) (by have:=wO (p:=p) (p':=p') (Z:=Z) a C.toList 0 l c (λh _=>by rw[i<|by rw[h];exact Nat.min_zero _]);simpa[Addr.add]using this) ?_;intro _ _ _;exact dG
   |_=>exact aO rfl
 |_=>exact aO rfl
omit F in
omit F in
theorem Ow(s l n:Nat)(b:Option Addr)(x:Value)(w:World)(e:Array Event):∃a,(Builtin.mayShare s l n b x).runT p w e=(.ok a w,e):=by
 have g:∀(a:Addr)(m:Nat){d:Type}(f:Bool->Sem d),(∀t,∃y,(f t).runT p w e=(.ok y w,e))->∃y,(Builtin.holdsCells a m>>=f).runT p w e=(.ok y w,e):=λa m d f H=>by show∃y,(Sem.shape a.block _).runT p w e=_;simp only[Sem.runT];rcases w.shape? a.block with _|z;exact H _;exact H _
 have F:∀(a:Addr){d:Type}(f:Bool->Sem d),(∀t,∃y,(f t).runT p w e=(.ok y w,e))->∃y,(frozen a>>=f).runT p w e=(.ok y w,e):=λa d f H=>by show∃y,(Sem.frozen a _).runT p w e=_;simp only[Sem.runT];exact H _
 have L:∀t,∃y,(if(!t)=true then pure true else match x with|.slice (some c) _ _=>do let h<-Builtin.holdsCells c (n*s);pure (!h||b.any (·.block==c.block))|_=>pure false:Sem Bool).runT p w e=(.ok y w,e):=λt=>by split;exact⟨_,rfl⟩;split;exact g _ _ _ λt=>⟨_,rfl⟩;exact⟨_,rfl⟩
 unfold Builtin.mayShare;obtain _|a:=b;exact L true;exact g a _ _ λt=>F _ _ λT=>L _
end
section
variable{G:Gs}{p p':Program}{Z:Pi}(F:Fit G p p')(R:Rn G Z)
theorem pC{z}(h:z.map (aV Z)=z)(n):(Builtin.zeroCells z n).map (aV Z)=Builtin.zeroCells z n:=tX h _
include F R
theorem X4(j t U)(h:∀s,j[0]?=some s->s<p.types.size):SR p p' Z (VR Z) (Builtin.append_ j t U) (Builtin.append_ j t (U.map<|aV Z)):=by
 unfold Builtin.append_;simp only[kW];cases E:j[0]?<;>try exact aO rfl
 rename_i π;cases U[0]?<;>try exact aO rfl
 rename_i s;cases U[1]?<;>try exact aO rfl
 rename_i x;simp only[dK];refine cV F λu H=>?_;cases u<;>try exact aO rfl
 rename_i e;have o:=EP F (h π E) H;cases s<;>try exact aO rfl
 rename_i b S d;rw[aV];refine aW (dW F e) λO=>?_;have M:∀n,SR p p' Z (λa b=>b=a.map (aV Z)) (do let z<-zeroValue e;pure<|Builtin.zeroCells z.cells n) (do let z<-zeroValue e;pure<|Builtin.zeroCells z.cells n):=λn=>jx (iI F o) λz f=>aQ (pC (by rw[<-lQ,f]) n).symm
 have X:∀T G g P,SR p p' Z (VR Z) (do let z<-zeroValue e;let a<-newRow e (T++G++Builtin.zeroCells z.cells (P -g));pure (some a,g,P)) (do let z<-zeroValue e;let a<-newRow e (T.map (aV Z)++G.map (aV Z)++Builtin.zeroCells z.cells (P -g));pure (some a,g,P)):=λT G g P=>by refine jx (iI F o) λz f=>bH (Q:=λa b=>b=cL Z a/\Z.gh a.block=none) (by rw[<-pC (Z:=Z) (show z.cells.map (aV Z)=z.cells by rw[<-lQ,f]),<-aah,<-aah];rw[pC (Z:=Z)<|show z.cells.map (aV Z)=z.cells by rw[<-lQ,f]];exact qO _ _) ?_;rintro a _⟨rfl,B⟩;exact aQ (by simp[VR,eZ B])
 have K:SR p p' Z (λa b=>b=a.map (aV Z)/\(S=0->a=#[])) (Builtin.firstCells O S (b,S,d)) (Builtin.firstCells O S (Rc Z b S d,S,d)):=by
  have:=sN (p:=p) (p':=p') (Z:=Z) O S (b,S,d) λq l c e=>by cases e;exact L9
  rwa [aV]at this
 have put:∀(a:Addr)(G:Array Value),(S=0->d=0->G.toList=[])->SR p p' Z (λ_ _=>True) (storeCells (a.add<|S*O) G.toList) (storeCells ((zX Z S d a).add<|S*O) (G.map<|aV Z).toList):=λa G f=>by have:=wO (p:=p) (p':=p') (Z:=Z) a G.toList (S*O) S d f;rwa [<-tM]at this
 cases j[1]?;case' none=>refine bH (Q:=λa b=>b=a) (aQ rfl) ?_
 case' some L=>refine cV F λu _=>?_;refine bH (Q:=λa b=>b=a) (aQ rfl) ?_
 all_goals rintro _ y rfl;refine eT ?_ ?_
 all_goals by_cases I:∃r,x=.chan r
 all_goals first
  | (obtain⟨r,rfl⟩:=I
     exact aO rfl)
  |skip
 all_goals by_cases v:∃q l c,x=.slice q l c
 all_goals first
  | (obtain⟨q,l,c,rfl⟩:=v
     exact aO rfl)
  | (refine aW (wR x) λl=>?_
     refine eT (iJ F R _) ?_;refine jx (fY F e) λi _=>?_;refine eT (bH jz<|by rintro _ n rfl;exact iJ F R _) ?_;refine bH (Q:=λa b=>b=a/\∀q l c,x=.slice q l c->a<=l) (aQ ⟨rfl,λq l c e=>absurd ⟨q,l,c,e⟩ v⟩) ?_)
  |refine bH (Ov x) ?_
 all_goals
  rintro _ n⟨rfl,C⟩;have k:SR p p' Z (λa b=>b=a.map (aV Z)/\(n=0->a=#[])) (if(!y)=true then Builtin.firstCells O n x else if n*O=0 then pure #[]else do let z<-zeroValue e;pure<|Builtin.zeroCells z.cells n) (if(!y)=true then Builtin.firstCells O n (aV Z x)else if n*O=0 then pure #[]else do let z<-zeroValue e;pure<|Builtin.zeroCells z.cells n):=by refine eT (sN _ _ _ C) ?_;by_cases W:n*O=0;rw[aN W];exact aQ S8;rw[aJ W];exact(M _).mono λ_ _ h=>⟨h,λh=>absurd (by rw[h,Uv]) W⟩
  refine afa (λab=>?_) λ_=>?_;refine jx k λG D=>?_;have Y:∀a,zX Z (S+n) d a=zX Z S d a:=λa=>by unfold zX;by_cases f:S=0/\d=0;rw[aN f,aN O9];rw[aJ f];by_cases J:S+n=0/\d=0;exact absurd O9 f;rw[aJ J]
  obtain _|a:=b;exact dG;exact bH (put a G λN aa=>by rw[D O9]) λ_ _ _=>aQ (by simp[VR,Y]);refine jx (fY F e) λi _=>?_;refine eT (iJ F R _) ?_;refine jx (fY F e) λi _=>?_;refine eT ?_ ?_;refine bH (Q:=λ_ _=>False) (eT (bV F _) ?_) λ_ _ h=>h.elim;refine SR.IE<|qM.then (λm=>?_) λw V=>?_;intro w V;cases m;exact⟨_,w,_,rfl,rfl⟩;exact⟨_,w,V,rfl,rfl⟩;have⟨a,A⟩:=Ow (p:=p) O S n b x w V;exact⟨a,w,V,A⟩;exact aW jz λP=>jx (fY F e) λi _=>bH (Gg _) λ_ _ _=>jx K λT _=>jx k λG _=>X T G _ _
end
theorem Gi{b c:Type}(g:b->c)(f:b->b)(F:c->c)(h:∀x,g (f x)=F (g x))(a:Array b)(i):(a.modify i f).map g=(a.map g).modify i F:=by grind
section
variable{G:Gs}{p p':Program}{Z:Pi}(F:Fit G p p')(R:Rn G Z)
include F R
omit R in
theorem mY(e):∀n k t v,vO p k t=true->SR p p' Z (λ_ _=>True) (Instr.checkKey e n t v) (Instr.checkKey e n t<|aV Z v)
 |0,_,_,_,_=>aO rfl
 |_+1,0,_,_,h=>by cases h
 |n+1,k+1,t,v,a=>by have c:=mY e n k;refine cV F λu i=>?_;simp[vO,i]at a;have a:=a.2;cases u with
   |interface M=>cases a
   |array l E=>
     cases v<;>try exact aO rfl
     rename_i C;simp only[aV];refine bH (Cy l _ λf b=>?_) λ_ _ _=>aQ trivial;refine aW (dW F E) λm=>aW (kZ F E C _) λv=>bH (c E v a) ?_;intro _ _ _;exact aQ rfl
   |struct d=>
     cases v<;>try exact aO rfl
     rename_i C;simp only[aV];refine bH (Cx d _ λf g b=>?_) λ_ _ _=>aQ trivial;refine eT ?_<|aQ rfl;refine aW (kZ F f.type C _) λv=>bH (c f.type v<|Ac.1 a f g) ?_;intro _ _ _;exact aQ rfl
   |_=>exact aQ trivial
omit F R in
theorem lR{t k e}(h:AP p t=true)(a:p.underlying t=some (.map k e)):vO p 5 k=true:=by simpa[AP,a]using h
def X5(a:Pi):Option (Nat×Value)->Option (Nat×Value):=Option.map λ(i,v)=>(i,aV a v)
theorem yR{n}(t)(c:vO p n t=true)(k):∀E i,SR p p' Z (λa b=>b=X5 Z a) (Instr.findAsking t k E i) (Instr.findAsking t (aV Z k) (E.map<|mz Z) i)
 |[],_=>aQ rfl
 |e::E,i=>by refine aW (Ot F R t k e.key c) λb=>?_;exact eT (aQ rfl) (yR t c k E<|i+1)
omit F R in
theorem JI(a r d b):Instr.sameNow d (oQ a r) b=none/\Instr.sameNow d b (oQ a r)=none:=by obtain h|⟨_,h⟩|⟨_,_,_,h⟩|⟨_,h⟩|⟨_,h⟩|⟨_,_,_,h⟩:=fU a r<;>rw[h]<;>constructor<;>cases d<;>cases b<;>rfl
omit F R in
theorem JJ(r d b):Instr.sameNow d (.chan r) b=none/\Instr.sameNow d b (.chan r)=none:=by constructor<;>cases d<;>cases b<;>rfl
omit F R in
theorem Ox(d a b):Instr.sameNow d (aV Z a) (aV Z b)=Instr.sameNow d a b:=by by_cases c:∃r,a=.chan r;obtain⟨r,rfl⟩:=c;rw[aV,(JI Z r d _).1,(JJ r d b).1];by_cases e:∃r,b=.chan r;obtain⟨r,rfl⟩:=e;rw[aV,(JI Z r d _).2,(JJ r d a).2];cases d<;>cases a<;>first|rfl|exact absurd ⟨_,rfl⟩ c|(cases b<;>first|exact absurd ⟨_,rfl⟩ e|simp[aV,Instr.sameNow])
omit F R in
theorem DX(d k):∀E i,Instr.findNow d (aV Z k) (E.map<|mz Z) i=(Instr.findNow d k E i).map (X5 Z)
 |[],_=>rfl
 |e::E,i=>by simp[Instr.findNow];have:Instr.sameNow d (aV Z k) (mz Z e).key=Instr.sameNow d k e.key:=Ox d k e.key;rw[this];obtain _|b:=Instr.sameNow d k e.key;rfl;cases b with
   |true=>rfl
   |false=>exact DX d k E<|i+1
theorem uP{n}(t)(c:vO p n t=true)(k e):SR p p' Z (λa b=>b=X5 Z a) (Instr.findKey t k e) (Instr.findKey t (aV Z k) (e.map<|mz Z)):=by refine cV F λu _=>?_;rw[DX];obtain _|r:=Instr.findNow u k e 0;exact yR F R t c k e 0;exact aQ rfl
omit R in
theorem map_lt{t k e:TypeId}(a:t<p.types.size)(h:p.underlying t=some (.map k e)):k<p.types.size/\e<p.types.size:=by have:=F6 F a h;simpa[Co]using this
theorem X6{t:TypeId}(j:t<p.types.size)(d:AP p t=true)(x k):SR p p' Z (VR Z) (Instr.lookup t x k false) (Instr.lookup t (aV Z x) (aV Z k) false):=by
 refine cV F λu c=>?_;cases u<;>try exact aO rfl
 cases x<;>try exact aO rfl
 rename_i i e r;cases r<;>simp only[aV];case' some r=>refine aW iW λo=>?_;cases o<;>try exact aO rfl
 all_goals
  refine aW (g:=Array.map<|mz Z) (aQ<|by first|rfl|simp) λE=>?_;have g:(E.map<|mz Z).isEmpty=E.isEmpty:=by simp[Array.isEmpty]
  rw[tM,g];refine bH (mY F _ _ 5 _ _<|lR d c) λ_ _ _=>aW (uP F R i (lR d c) k E.toList) λr=>?_;cases r with
  |none=>refine jx (iI F (map_lt F j c).2) λz f=>?_;exact aW (g:=λa=>(aV Z a.1,a.2)) (aQ<|by rw[f]) λ_=>dG
  |some r=>exact aW (g:=λa=>(aV Z a.1,a.2)) (aQ rfl) λ_=>dG
omit F R in
theorem abO{f:Value->Value->Bool}(d:∀x y,f x y=true->x=y):∀(a b:List Value),a=b.length->((a.zip b).all λ(x,y)=>f x y)=true->a=b
 |[],[],_,_=>rfl
 |x::a,y::b,c,h=>by simp only[List.zip_cons_cons,nC,fx]at h;rw[d x y h.1,abO d a b (by simpa using c) h.2]
 |[],_::_,c,_=>by simp at c
 |_::_,[],c,_=>by simp at c
omit F R in
theorem Oy{x y:ByteArray}(h:(x==y)=true):x=y:=by have⟨x⟩:=x;have⟨y⟩:=y;have h:(x==y)=true:=h;rw[eq_of_beq h]
omit F R in
omit F R in
theorem DY:∀n a b,Instr.sameBits n a b=true->a=b:=by intro n;induction n with
 |zero=>intro a b h;cases a<;>cases b<;>first|(simp_all[Instr.sameBits];done)|exact congrArg Value.string (Oy h)
 |succ n c=>intro a b h;cases a with
   |iface t v=>cases b with
     |iface u w=>simp only[Instr.sameBits,fx,Aa]at h;rw[h.1,c v w h.2]
     |_=>simp[Instr.sameBits]at h
   |agg x=>cases b with
     |agg y=>simp only[Instr.sameBits,fx,Aa]at h;have:=abO (f:=Instr.sameBits n) (λx y e=>c x y e) x.toList y.toList (by simpa using h.1) h.2;rw[Array.toList_inj.1 this]
     |_=>simp[Instr.sameBits]at h
   |_=>cases b<;>first|(simp_all[Instr.sameBits];done)|exact congrArg Value.string (Oy h)
omit F in
theorem L4(j:G.strict=true):∀n a b,Instr.sameBits n (aV Z a) (aV Z b)=Instr.sameBits n a b:=by
 have g:∀a b:Option Addr,(a.map (cL Z)==b.map (cL Z))=(a==b):=λa b=>by cases a<;>cases b<;>first|rfl|exact addr_eq R _ _
 have d:∀a b:Option Nat,(a.map Z.f==b.map Z.f)=(a==b):=λa b=>by
  have H:∀x y,(Z x==Z y)=(x==y):=λx y=>by by_cases h:x=y;simp[h];rw[beq_eq_false_iff_ne.mpr h,beq_eq_false_iff_ne.mpr λe=>h<|R.inj _ _ e]
  cases a<;>cases b<;>first|rfl|exact H _ _
 have c:∀r,oQ Z r=.chan r:=λr=>by obtain _|k:=r;rfl;show Z.s k=_;rw[R.sub,(G.id j).1]
 intro n;induction n with
 |zero=>intro a b;cases a<;>cases b<;>simp only[aV,c,Instr.sameBits,g,d]
 |succ n i=>intro a b;cases a<;>cases b<;>simp only[aV,c,Instr.sameBits,g,d,i];rename_i x y;rw[Je,Je];congr 1;rw[tM,tM,List.zip_map,List.all_map];congr 1;funext ⟨u,v⟩;exact i u v
omit F in
theorem EA(c:G.strict=true)(a b):SR p p' Z (VR Z) (Instr.keyThatStays a b) (Instr.keyThatStays (aV Z a)<|aV Z b):=by unfold Instr.keyThatStays;rw[L4 R c];refine eT (aQ rfl) ?_;refine aW jz λn=>?_;refine aQ ?_;split<;>rfl
theorem L5(d:G.strict=true)(t)(a:AP p t=true)(m k v):SR p p' Z (λ_ _=>True) (Instr.mapUpdate t m k v) (Instr.mapUpdate t (aV Z m) (aV Z k)<|aV Z v):=by
 refine cV F λu b=>?_;cases u<;>try exact aO rfl
 rename_i g e;cases m<;>try exact aO rfl
 rename_i r;obtain _|r:=r;simp;exact bV F _;simp;refine aW iW λo=>?_;cases o<;>try exact aO rfl
 rename_i E c;refine bH (mY F _ _ 5 _ _<|lR a b) ?_;intro _ _ _;simp;refine aW (uP F R g (lR a b) k E.toList) λf=>?_;cases f with
 |none=>have:=iX (p:=p) (p':=p') (Z:=Z) (r:=r) (o:=.map (E.push {key:=k,val:=v,born:=c})<|c+1) rfl;simpa[iG,mz,X5]using this
 |some f=>
   have⟨i,x⟩:=f;refine bH (Q:=VR Z) ?_ ?_;have:=EA (p:=p) (p':=p') R d (((E[i]?).map (·.key)).getD k) k;rcases h:E[i]? with _|y;simpa[h]using this;simpa[h,mz]using this;rintro K _ rfl;have:=iX (p:=p) (p':=p') (Z:=Z) (r:=r) (o:=.map (E.modify i λe=>{e with key:=K,val:=v}) c) rfl;have h:iG Z (.map (E.modify i λe=>{e with key:=K,val:=v}) c)=.map ((E.map<|mz Z).modify i λe=>{e with key:=aV Z K,val:=aV Z v}) c:=by simp[iG];exact Gi (mz Z) (λe=>{e with key:=K,val:=v}) (λe=>{e with key:=aV Z K,val:=aV Z v}) (λx=>rfl) E i
   rwa [h]at this
end
section
variable{G:Gs}{p p':Program}{Z:Pi}(F:Fit G p p')(R:Rn G Z)
include F R
theorem X7(b t A)(a:(b[0]?).all (AP p)=true):SR p p' Z (VR Z) (Builtin.delete_ b t A) (Builtin.delete_ b t (A.map<|aV Z)):=by
 unfold Builtin.delete_;simp;cases g:b[0]?<;>try exact aO rfl
 rw[g]at a;cases A[0]?<;>try exact aO rfl
 cases A[1]?<;>try exact aO rfl
 rename_i t m k;refine cV F λu d=>?_;cases u<;>try exact aO rfl
 rename_i j e;cases m<;>try exact aO rfl
 rename_i r;cases r with
 |none=>simp;exact bH (mY F _ _ 5 _ _<|lR a d) λ_ _ _=>dG
 |some r=>
   simp;refine aW iW λo=>?_;cases o<;>try exact aO rfl
   rename_i E c;refine bH (Q:=λ_ _=>True) (by
    have:(E.map<|mz Z).isEmpty=E.isEmpty:=by simp[Array.isEmpty]
    rw[this];exact mY F _ _ 5 _ _<|lR a d) ?_
   intro _ _ _;simp;refine aW (uP F R j (lR a d) k E.toList) λf=>?_;cases f with
   |none=>have:=iX (p:=p) (p':=p') (Z:=Z) (r:=r) (o:=.map E c) rfl;exact bH this λ_ _ _=>dG
   |some f=>
     have⟨i,x⟩:=f;have:=iX (p:=p) (p':=p') (Z:=Z) (r:=r) (o:=.map (E.eraseIdxIfInBounds i) c) rfl;have h:(E.eraseIdxIfInBounds i).map (mz Z)=(E.map<|mz Z).eraseIdxIfInBounds i:=by grind
     simp[iG,h]at this;exact bH this λ_ _ _=>dG
omit R in
theorem abP(t x):SR p p' Z (VR Z) (Instr.range t x) (Instr.range t<|aV Z x):=by
 refine cV F λu e=>?_;have f:∀o,dY p o=true->SR p p' Z (VR Z) (newObj o>>=λr=>pure (r,0)) (newObj (iG Z o)>>=λr=>pure (r,0)):=λo d=>aW (qG d) λr=>dG
 cases u with
 |string=>
   cases x<;>try exact aO rfl
   simp;exact f (.stringIter _ 0) rfl
 |map a b=>
   cases x<;>try exact aO rfl
   rename_i r;cases r with
   |none=>simp;exact f (.mapIter none 0 #[] 0) rfl
   |some r=>
     simp;refine aW iW λo=>?_;cases o<;>try exact aO rfl
     rename_i E c;exact f (.mapIter (some r) c #[] c) rfl
 |_=>exact aO rfl
omit F R in
theorem wS(f:Nat->Bool)(E:Array MapEntry):(E.map<|mz Z).filter (λe=>f e.born)=(E.filter λe=>f e.born).map (mz Z):=by rw[Array.filter_map];rfl
omit F R in
theorem abQ(f:Nat->Bool)(E:Array MapEntry):(E.map<|mz Z).all (λe=>f e.born)=E.all (λe=>f e.born):=by rw[Array.all_map];rfl
omit F R in
theorem afc(i t):SR p p' Z (VR Z) (Instr.next i false t) (Instr.next (aV Z i) false t):=by
 cases i<;>try exact aO rfl
 rename_i a;cases a<;>try exact aO rfl
 rename_i a;have⟨r,b,f⟩:=a;cases b<;>try exact aO rfl
 simp;refine aW iW λo=>?_;cases o<;>try exact aO rfl
 rename_i m S s L;obtain _|m:=m;exact dG;refine aW iW λo=>?_;cases o<;>try exact aO rfl
 rename_i E c;dsimp[iG];have g:(E.map<|mz Z).isEmpty=E.isEmpty:=by simp[Array.isEmpty]
 rw[(abQ (Z:=Z) (λn=>decide (n>=L)) E),g];refine eT (aO rfl) ?_;rw[(wS (Z:=Z) (λn=>!s.contains n) E)];rw[(wS (Z:=Z) (λn=>decide (n<S))<|E.filter λe=>!s.contains e.born),(wS (Z:=Z) (λn=>decide (n>=S))<|E.filter λe=>!s.contains e.born)];generalize(E.filter λe=>!s.contains e.born).filter (λe=>decide (e.born<S))=O,(E.filter λe=>!s.contains e.born).filter (λe=>decide (e.born>=S))=N;have l:((if(O.map<|mz Z).isEmpty=true then#[none]else#[])++Array.map some (O.map (mz Z)++N.map (mz Z)))=((if O.isEmpty=true then#[none]else#[])++Array.map some (O++N)).map (Option.map<|mz Z):=by
  have:(O.map<|mz Z).isEmpty=O.isEmpty:=by simp[Array.isEmpty]
  rw[this];split<;>simp[Ut]
 rw[l];generalize((if O.isEmpty=true then#[none]else#[])++Array.map some (O++N))=d;rw[Je];refine aW jz λn=>?_;rw[kW];cases d[n]?<;>try exact aO rfl
 rename_i e;obtain _|e:=e;exact dG;have:=iX (p:=p) (p':=p') (Z:=Z) (r:=r) (o:=.mapIter (some m) S (s.push e.born) c) rfl;exact bH this λ_ _ _=>aQ<|by simp[VR,mz]
omit R in
theorem RY(t x):SR p p' Z (VR Z) (Instr.makeMap t x) (Instr.makeMap t (x.map<|aV Z)):=by
 have f:SR p p' Z (VR Z) (newObj (.map #[] 0)>>=λr=>pure (.map<|some r)) (newObj (.map #[] 0)>>=λr=>pure (.map<|some r)):=by refine bH (Q:=λr a=>a=Z r) (by have:=qG (p:=p) (p':=p') (Z:=Z) (o:=.map #[] 0) rfl;simpa[iG]using this) ?_;rintro r _ rfl;exact dG
 obtain _|x:=x;exact f;refine cV F λu b=>?_;cases u<;>try exact aO rfl
 exact aW (wR x) λn=>f
omit F R in
theorem JK(f:Value->Value->Sem Value)(h:∀a b,SR p p' Z (VR Z) (f a b) (f (aV Z a)<|aV Z b)):∀(l:List Value)(a:Value),SR p p' Z (VR Z) (l.foldlM f a) ((l.map<|aV Z).foldlM f<|aV Z a)
 |[],a=>by simp;exact aQ rfl
 |b::l,a=>aW (h a b) λv=>JK f h l v
omit F R in
theorem afd(a b):SR p p' Z (VR Z) (Builtin.min2 a b) (Builtin.min2 (aV Z a)<|aV Z b):=by
 cases a<;>cases b;case int.int=>simp;exact dG
 case float.float=>simp[Builtin.min2];split;exact aW jz λn=>dG;all_goals exact dG
 case string.string x y=>simp;exact aW ((yP (Z:=Z) .leq x y).val) λv=>aW (JE v) λb=>dG
 all_goals first|exact aO rfl|(cases‹Option Addr›<;>first|exact aO rfl|(cases‹Option Addr›<;>exact aO rfl))
omit F R in
theorem aih(a t A):SR p p' Z (VR Z) (Builtin.min_ a t A) (Builtin.min_ a t (A.map<|aV Z)):=by
 unfold Builtin.min_;rw[tM];cases A.toList<;>try exact aO rfl
 rename_i x l;exact JK _ afd l x
end
section
variable{G:Gs}{p p':Program}{Z:Pi}(F:Fit G p p')(R:Rn G Z)
section
omit F R
theorem abR(i):SR p p' Z (VR Z) (Instr.entry i) (Instr.entry<|aV Z i):=by
 cases i<;>try exact aO rfl
 rename_i a;cases a with
 |none=>exact aO rfl
 |some a=>have⟨r,O,d⟩:=a;cases O with
   |succ n=>exact aO rfl
   |zero=>
     simp;refine aW iW λo=>?_;cases o<;>try exact aO rfl
     rename_i m S s l;cases m with
     |none=>exact aO rfl
     |some m=>dsimp[iG];cases s.back? with
       |none=>exact aO rfl
       |some b=>
         refine aW iW λo=>?_;cases o<;>try exact aO rfl
         rename_i E c;dsimp[iG];split;exact aO rfl;have:(E.map<|mz Z).find? (λe=>e.born==b)=(E.find? λe=>e.born==b).map (mz Z):=by rw[Array.find?_map];rfl
         rw[this];cases E.find? (λe=>e.born==b)with
         |none=>exact aO rfl
         |some e=>exact aQ (by simp[VR,mz])
theorem A3:∀n a A,SR p p' Z (λx c=>c=x) (loadBytes a A n) (loadBytes (cL Z a) A n)
 |0,a,A=>aQ rfl
 |n+1,a,A=>by refine aW EO λv=>?_;cases v with
   |int k b=>rw[aV];cases k with
     |u8=>have:=A3 n (a.add 1)<|A.push b.toNat.toUInt8;exact this
     |_=>exact aO rfl
   |_=>exact aO rfl
end
include F
theorem IL(d):∀t u,sameLayout p' d t u=sameLayout p d t u:=by induction d with
 |zero=>intro t u;rfl
 |succ d a=>intro t u;simp[sameLayout,F.under,abI F,nK F,a]
theorem abS(f:TypeId->Bool)(d):∀e c o n,rowAt p' f d e c o n=rowAt p f d e c o n:=by induction d with
 |zero=>intro e c o n;rfl
 |succ d a=>intro e c o n;simp[rowAt,F.under,F.cellsOf,nK F,a]
theorem X8(d):∀e c o u n,liesAt p' d e c o u n=liesAt p d e c o u n:=by induction d with
 |zero=>intro e c o u n;rfl
 |succ d a=>intro e c o u n;simp[liesAt,F.under,F.depth,IL F,abS F,a]
theorem Gj(a u n):SR p p' Z (λx b=>b=x) (variablesAt a u n) (variablesAt (cL Z a) u n):=by refine ju ?_;refine aW nI λs=>?_;obtain _|s:=s;exact aQ rfl;have⟨e,c⟩:=s;exact aQ (by simp[F.depth,F.cellsOf,X8 F])
theorem aii(a t A)(b:(a[0]?).all (okL p)=true):SR p p' Z (VR Z) (Builtin.cap_ a t A) (Builtin.cap_ a t (A.map<|aV Z)):=by unfold Builtin.cap_;rw[kW];rcases f:a[0]? with _|t;exact aO rfl;rw[f,Uu]at b;rcases A[0]? with _|x;exact aO rfl;refine cV F λd c=>?_;cases d with
 |array n e=>exact dG
 |pointer e=>refine cV F λd _=>?_;cases d<;>first|exact aO rfl|exact dG
 |slice e=>cases x<;>first|exact aO rfl|(rw[aV];exact dG)
 |chan k e=>simp[okL,c]at b
 |_=>exact aO rfl
theorem abT(b t A)(h:∀s,b[0]?=some s->s<p.types.size):SR p p' Z (VR Z) (Builtin.clear_ b t A) (Builtin.clear_ b t (A.map<|aV Z)):=by unfold Builtin.clear_;rw[kW];rcases i:b[0]? with _|t;exact aO rfl;rcases A[0]? with _|x;exact aO rfl;refine cV F λd f=>?_;have g:SR p p' Z (VR Z) (Pure.pure (.tuple #[]):Sem Value) (Pure.pure<|.tuple #[]):=dG;cases x with
 |map r=>obtain _|r:=r;rw[aV];cases d<;>exact g;rw[aV,dK];cases d;all_goals
    refine aW iW λo=>?_;cases o<;>try exact aO rfl
    rename_i E c;have:=iX (p:=p) (p':=p') (Z:=Z) (r:=r) (o:=.map #[] c) rfl;exact bH (Q:=λ_ _=>True) (by simpa[iG]using this) λ_ _ _=>g
 |slice a n c=>rw[aV];obtain _|a:=a;cases d<;>exact g;obtain _|n:=n;cases d<;>exact g;cases d with
   |slice e=>refine bH (iI F<|EP F (h t i) f) λ_ z⟨rfl,j⟩=>?_;have:=pA (p:=p) (p':=p') (Z:=Z) a (Builtin.zeroCells z.cells<|n+1).toList 0;rw[<-tM,pC<|by rw[<-lQ,j]]at this;exact bH this λ_ _ _=>g
   |_=>exact aO rfl
 |_=>cases d<;>exact aO rfl
include R in
theorem EB(c t A):SR p p' Z (VR Z) (Builtin.unsafeString_ c t A) (Builtin.unsafeString_ c t (A.map<|aV Z)):=by
 have m:∀a l,SR p p' Z (VR Z) (Builtin.unsafeString_ c t #[.pointer a,l]) (Builtin.unsafeString_ c t #[.pointer (a.map<|cL Z),aV Z l]):=λa l=>by refine bH (Q:=λa b=>b=a) (wR l) ?_;rintro _ n rfl;rcases c[0]? with _|P;exact aO rfl;dsimp only;split;exact iJ F R _;split;exact aO rfl;cases a with
  |none=>refine eT (dG)<|bV F _
  |some a=>refine eT (dG) ?_;refine aW (JD F P) λe=>?_;refine aW (Gj F a e _) λb=>?_;refine eT ?_<|aO rfl;refine aW (A3 _ a _) λs=>?_;refine bH JC ?_;intro _ _ _;exact dG
 have⟨l⟩:=A;match l with
 |[]=>exact aO rfl
 |[x]=>cases x<;>exact aO rfl
 |[.pointer a,y]=>have:=m a y;simpa using this
 |x::y::z::l=>cases x<;>exact aO rfl
 |[.bool _,_]|[.int ..,_]|[.float ..,_]|[.complex ..,_]|[.string _,_]|[.slice ..,_]|[.map _,_]|[.chan _,_]|[.func ..,_]|[.nilFunc,_]|[.iface ..,_]|[.nilIface,_]|[.agg _,_]|[.tuple _,_]=>exact aO rfl
end
def abU(b:Pi):Place->Place
 |.val v=>.val<|aV b v
 |.var a=>.var<|cL b a
section
variable{G:Gs}{p p':Program}{Z:Pi}(F:Fit G p p')(R:Rn G Z)
include F
theorem zk(t x):SR p p' Z (VR Z) (x.get t) ((abU Z x).get t):=by cases x with
 |val v=>exact aQ rfl
 |var a=>exact uM F t a
include R
theorem CE:∀l t x,SR p p' Z (λa b=>b=(a.1,abU Z a.2)) (follow l t x) (follow l t<|abU Z x)
 |[],t,x=>aQ rfl
 |s::l,t,x=>by
   have c:=CE l;refine bH (kQ F s.struct) ?_;rintro _ u⟨rfl,-⟩;cases u<;>try exact aO rfl
   rename_i d;dsimp only;rcases d[s.index]? with _|f;exact aO rfl;refine eT ?_ ?_;exact aW (zk F t x) λv=>aW (Cr F R v) λa=>aW (sM F a f) λb=>c f.type<|.var b;cases x with
   |var a=>exact aW (sM F a f) λb=>c f.type<|.var b
   |val v=>cases v with
     |agg C=>simp[abU];exact aW (kZ F f.type C f.offset) λv=>c f.type<|.val v
     |_=>exact aO rfl
theorem RZ(t v n):SR p p' Z (VR Z) (Builtin.ssaWrapNilChk_ #[t] t #[v,strVal "",strVal n]) (Builtin.ssaWrapNilChk_ #[t] t #[aV Z v,strVal "",strVal n]):=by
 cases v<;>try exact aO rfl
 rename_i a;cases a with
 |some a=>rw[aV];exact aQ<|show Value.pointer (some<|cL Z a)=aV Z (.pointer<|some a)by simp
 |none=>
   rw[aV];refine aW jz fun n=>?_;refine eT (iJ F R _) ?_;refine cV F fun u _=>?_;cases u<;>try exact aO rfl
   refine jx (fY F _) fun i _=>?_;have⟨d,_,_,_,_,_,_,_,_,_⟩:=i;cases d<;>try exact aO rfl
   dsimp only;split;split;exact bV F _;exact aO rfl;exact aO rfl
theorem yS(t x b n):SR p p' Z (VR Z) (receiverAt t x b n) (receiverAt t (abU Z x) b n):=by
 refine cV F λu _=>?_;by_cases c:∃e,u=.pointer e;obtain⟨e,rfl⟩:=c;cases b with
 |true=>cases x<;>exact zk F t _
 |false=>
   have T:∀v,SR p p' Z (VR Z) (asAddr v>>=λa=>loadVar e a) (asAddr (aV Z v)>>=λa=>loadVar e a):=λv=>aW (Cr F R v) λa=>uM F e a
   cases n with
   |none=>cases x<;>
     exact aW (zk F t _) λv=>bH (Q:=VR Z) (aQ rfl) (by rintro v _ rfl;exact T v)
   |some n=>cases x<;>
     exact aW (zk F t _) λv=>aW (RZ F R t v n) λv=>T v
 cases b with
 |true=>cases x with
   |var a=>cases u<;>first|exact dG|exact absurd ⟨_,rfl⟩ c
   |val v=>cases u<;>first|exact aO rfl|exact absurd ⟨_,rfl⟩ c
 |false=>cases x<;>cases u<;>first|exact zk F t (.val _)|exact zk F t (.var _)|exact absurd ⟨_,rfl⟩ c
theorem Gk(t v path b):SR p p' Z (VR Z) (receiverVia t v path b) (receiverVia t (aV Z v) path b):=aW (CE F R path.toList t<|.val v) λ⟨t,x⟩=>yS F R t x b none
theorem JL:∀n t v s,SR p p' Z (λa b=>b=(a.1,aV Z a.2)) (method n t v s) (method n t (aV Z v) s)
 |0,_,_,_=>aO rfl
 |n+1,t,v,s=>by
   refine jx (fY F _) λi _=>?_;dsimp only;split;rename_i m _;refine aW (CE F R m.path.toList t<|.val v) λ⟨t,x⟩=>?_;split;refine aW (zk F t x) λv=>?_;cases v with
   |iface c d=>simp;exact JL n c d s
   |nilIface=>simp;exact bV F _
   |_=>exact aO rfl
   exact aW (yS F R t x _ _) λv=>aQ rfl;exact aO rfl
omit R in
theorem wT:∀l t x,SR p p' Z (λa b=>b=a.map λc=>(c.1,c.2.map<|aV Z)) (followBlind l t x) (followBlind l t (x.map<|aV Z))
 |[],t,x=>aQ rfl
 |s::l,t,x=>by
   have d:=wT l;refine bH (kQ F s.struct) ?_;rintro _ u⟨rfl,-⟩;cases u<;>try exact aO rfl
   rename_i e;dsimp only;rcases e[s.index]? with _|f;exact aO rfl;cases s.deref with
   |true=>obtain _|v:=x;exact aQ rfl;cases v with
     |pointer a=>obtain _|a:=a;simp;exact aQ rfl;simp;exact d f.type none
     |_=>exact aO rfl
   |false=>obtain _|v:=x;exact d f.type none;cases v with
     |agg C=>simp;exact aW (kZ F f.type C f.offset) λv=>d f.type<|some v
     |_=>exact aO rfl
omit R in
theorem DZ:∀n t v s,SR p p' Z (λa b=>b=a) (nilAhead n t v s) (nilAhead n t (aV Z v) s)
 |0,_,_,_=>aQ rfl
 |n+1,t,v,s=>by
   refine jx (fY F _) λi _=>?_;split;rename_i m _;refine aW (wT F m.path.toList t<|some v) λr=>?_;cases r with
   |error r=>exact aQ rfl
   |ok r=>have⟨t,x⟩:=r;simp[Except.map];cases m.func with
     |none=>obtain _|v:=x;exact aQ rfl;cases v with
       |iface c d=>simp;exact DZ n c d s
       |nilIface=>simp;exact aQ rfl
       |_=>exact aO rfl
     |some f=>have⟨f,b⟩:=f;cases b with
       |true=>exact aQ rfl
       |false=>
         refine cV F λu _=>?_;cases u<;>first|exact aQ rfl|skip
         obtain _|v:=x;exact aQ rfl;cases v with
         |pointer a=>cases a<;>(simp;exact aQ rfl)
         |chan r=>rw[dK,aV];obtain h|⟨_,h⟩|⟨_,_,_,h⟩|⟨_,h⟩|⟨_,h⟩|⟨_,_,_,h⟩:=fU Z r<;>rw[h]<;>exact aQ rfl
         |_=>simp;exact aQ rfl
   exact aO rfl
end
def sO(c:Pi):Next->Next
 |.value v=>.value<|aV c v
 |.enter f a=>.enter f (a.map<|aV c)
 |.round l f t a b=>.round (c l) f (t.map<|aV c) a b
 |.defer d=>.defer<|mI c d
 |n=>n
def okN(p:Program):Next->Bool
 |.value _|.skip|.enter ..|.recover=>true
 |.round _ f _ a b=>eA p a&&eA p b&&yt p f
 |.defer d=>okD p d
 |_=>false
abbrev NR(p:Program)(a:Pi)(n N:Next):Prop:=N=sO a n/\okN p n=true
def jU(G:Gs)(p P:Program):Prop:=∀a,Rn G a->∀f A,SR p P a (NR p a) (callFunc f A) (callFunc f (A.map<|aV a))
section
variable{G:Gs}{p p':Program}{Z:Pi}(F:Fit G p p')(R:Rn G Z)
section
omit F R
theorem oX(l):SR p p' Z (λa b=>b=XQ Z a/\eA p a.assign=true/\eA p a.body=true/\a.pending.all (eA p)=true/\yt p a.fn=true) (Instr.getLoop l) (Instr.getLoop<|Z l):=by
 refine jx zj λo h=>?_;cases o<;>try exact aO rfl
 simp[dY]at h;exact aQ ⟨rfl,h.1.1.1,h.1.1.2,h.1.2,h.2⟩
theorem L6(f t c){a b}(d:eA p a=true)(e:eA p b=true)(i:yt p f=true)(l):SR p p' Z (λx y=>y=(Z x.1,x.2.map<|mI Z)/\x.2.all (okD p)=true) (Instr.enterLoop f t c a b l) (Instr.enterLoop f (t.map<|aV Z) c a b<|l.map Z.f):=by
 have T:∀r(D:List Deferred),D.all (okD p)=true->SR p p' Z (λx y=>y=(Z x.1,x.2.map<|mI Z)/\x.2.all (okD p)=true) (newObj (.loop {state:=.ready,pending:=none,fn:=f,tmps:=t,params:=c,assign:=a,body:=b,defers:=r})>>=λx=>pure (x,D))
  (newObj (.loop {state:=.ready,pending:=none,fn:=f,tmps:=t.map<|aV Z,params:=c,assign:=a,body:=b,defers:=Z r})>>=λx=>pure (x,D.map<|mI Z)):=λr D g=>by
  refine bH (Q:=λx y=>y=Z x) ?_ ?_;exact qG (o:=.loop {state:=.ready,pending:=none,fn:=f,tmps:=t,params:=c,assign:=a,body:=b,defers:=r}) (by simp[dY,d,e,i]);rintro x _ rfl;exact aQ ⟨rfl,g⟩
 cases l with
 |none=>refine bH (Q:=λx y=>y=Z x) (by have:=qG (p:=p) (p':=p') (Z:=Z) (o:=.deferred<|some []) rfl;simpa[iG]using this) ?_;rintro r _ rfl;refine bH (Q:=λx y=>y=(Z x.1,x.2.map<|mI Z)/\x.2.all (okD p)=true) (aQ ⟨by simp[mI,FT],rfl⟩) ?_;rintro⟨r,D⟩ _ ⟨rfl,h⟩;exact T r D h
 |some l=>refine jx (oX l) λr _=>bH (Q:=λx y=>y=(Z x.1,x.2.map<|mI Z)/\x.2.all (okD p)=true) (aQ ⟨rfl,rfl⟩) ?_;rintro⟨r,D⟩ _ ⟨rfl,h⟩;exact T r D h
theorem abV(l:List (Tmp×Value)):∀t:Array Value,(l.foldl (λt(i,a)=>t.setIfInBounds i a) t).map (aV Z)=(l.map λ(i,a)=>(i,aV Z a)).foldl (λt(i,a)=>t.setIfInBounds i a) (t.map<|aV Z):=by induction l with
 |nil=>intro t;rfl
 |cons x l b=>intro t;simp only[List.foldl_cons,gJ,b];rw[Nn]
theorem abW(l A):SR p p' Z (NR p Z) (Instr.yield l A) (Instr.yield (Z l) (A.map<|aV Z)):=by
 refine bH (oX l) ?_;rintro r _⟨rfl,b,c,e,d⟩;have a:(A.map<|aV Z).size≠(XQ Z r).params.size↔A.size≠r.params.size:=by simp[XQ]
 simp only[a];refine eT (aO rfl) ?_;refine aQ ⟨?_,by simp[okN,b,c,d]⟩;simp only[sO,XQ,aai,Af,vI];rw[<-aag,<-aag,abV];congr 1;simp[List.zip_map_right]
theorem abX{a b}{Q:a->b->Prop}(s):SR p p' Z Q (throw s) (throw s):=SR.halt rfl
theorem Oz(l j)(d:j.all (eA p)=true):SR p p' Z (VR Z) (Instr.endRound l j) (Instr.endRound (Z l) j):=by refine bH (oX l) ?_;rintro r _⟨rfl,a,b,e,c⟩;exact bH (Q:=λ_ _=>True) (iX (o:=.loop {r with state:=if j.isNone then .ready else .done,pending:=j})<|by simp[dY,a,b,c,d]) λ_ _ _=>dG
theorem EC(l d)(h:okD p d=true):SR p p' Z (λ_ _=>True) (Instr.deferInRound l d) (Instr.deferInRound (Z l)<|mI Z d):=by
 refine jx (oX l) λr _=>jx zj λo a=>?_;cases o<;>try exact aO rfl
 rename_i D;obtain _|D:=D;exact abX _;simp only[dY,Uu]at a;exact iX (o:=.deferred<|some (d::D)) (by simp[dY,h,a])
theorem ED(b):SR p p' Z (λx y=>y=x.map (mI Z)/\x.all (okD p)=true) (Instr.takeDeferred b) (Instr.takeDeferred<|Z b):=by
 refine jx zj λo a=>?_;cases o<;>try exact aO rfl
 rename_i d;cases d<;>try exact aO rfl
 rename_i d;exact bH (Q:=λ_ _=>True) (iX (o:=.deferred none) rfl) λ_ _ _=>aQ ⟨rfl,a⟩
end
include F R
theorem IM(l):SR p p' Z (λ_ _=>True) (Instr.beginRound l) (Instr.beginRound<|Z l):=by refine bH (oX l) ?_;rintro r _⟨rfl,a,b,d,c⟩;refine bH (Q:=λ_ _=>True) (iX (o:=.loop {r with state:=.busy})<|by simp[dY,a,b,c,d]) λ_ _ _=>?_;have:(XQ Z r).state=r.state:=rfl;rw[this];cases r.state with
 |ready=>exact aQ trivial
 |_=>exact bV F _
theorem R7(l):SR p p' Z (λx y=>y=x/\x.all (eA p)=true) (Instr.endLoop l) (Instr.endLoop<|Z l):=by refine bH (oX l) ?_;rintro r _⟨rfl,b,c,a,d⟩;exact eT (iJ F R _)<|bH (Q:=λ_ _=>True) (iX (o:=.loop {r with state:=.exhausted})<|by simp[dY,b,c,d,a]) λ_ _ _=>aQ ⟨rfl,a⟩
theorem Sa{a b}(h:okB p a b=true)(t C A):SR p p' Z (NR p Z) (builtin b a t C A) (builtin b a t C (A.map<|aV Z)):=by
 have v:∀{s S:Sem Value},SR p p' Z (VR Z) s S->SR p p' Z (NR p Z) (do pure (Next.value<|<-s)) (do pure (Next.value<|<-S)):=λh=>aW h λv=>aQ ⟨rfl,rfl⟩
 cases b with
 |append=>exact v<|X4 F R a t A λs c=>by simpa[okB,c,Rt]using h
 |clear=>exact v<|abT F a t A λs c=>by simpa[okB,c,Rt]using h
 |cap=>exact v<|aii F a t A h
 |unsafeString=>exact v<|EB F R a t A
 |copy=>exact v<|afb F a t A
 |delete=>exact v<|X7 F R a t A h
 |len=>exact v<|aif F a t A h
 |min=>exact v<|aih a t A
 |panic=>
   refine v ?_;have:(A.map<|aV Z).getD 0 .nilIface=aV Z (A.getD 0 .nilIface):=by rw[I8,I8,kW];cases A[0]?<;>simp
   rw[this];exact Ol F R _
 |recover=>exact aQ ⟨rfl,rfl⟩
 |_=>exact absurd h (by simp[okB])
variable(C:jU G p p')
include C
theorem sP(v s a):SR p p' Z (NR p Z) (callMethod v s a) (callMethod (aV Z v) s (a.map<|aV Z)):=by unfold callMethod;cases v with
 |iface t v=>simp;refine ju ?_;rw[F.types];refine aW (JL F R _ t v s) λ⟨f,x⟩=>?_;have:=C Z R f<|#[x]++a;simpa using this
 |nilIface=>simp;exact bV F _
 |_=>exact aO rfl
theorem CF{t args}(h:okD p {target:=t,args:=args}=true):SR p p' Z (NR p Z) (invoke t args) (invoke (FT Z t) (args.map<|aV Z)):=by unfold invoke;cases t with
 |nil=>exact bV F _
 |builtin b d t g=>exact Sa F R h t g args
 |collected r=>exact aO rfl
 |coroexit c=>exact absurd h (by simp[okD])
 |fn f e=>cases f with
   |func f=>have:=C Z R f<|args++e;simpa[FT,tG]using this
   |method n=>
     simp[FT,tG];cases a:args[0]?<;>try exact aO rfl
     rename_i x;have:=sP F R C x n<|args.extract 1 args.size;simpa using this
   |methodOf t n=>
     simp;cases a:args[0]?<;>try exact aO rfl
     rename_i x;refine cV F λu _=>?_;cases u with
     |interface m=>have:=sP F R C x n (args.extract 1 args.size);simpa using this
     |_=>have:=sP F R C (.iface t x) n (args.extract 1 args.size);simpa using this
   |via t path f b=>
     simp;cases a:args[0]?<;>try exact aO rfl
     rename_i x;refine aW (Gk F R t x path b) λv=>?_;have:=C Z R f<|#[v]++args.extract 1 args.size;simpa using this
   |yield l=>exact abW l args
omit C F R in
theorem Gl{c d}(b:∀x,rU p x=true->d x=aV Z (c x)){a:Array Operand}(h:a.all (rU p)=true):a.map d=(a.map c).map (aV Z):=by grind
omit C F R in
theorem Gm(v A):SR p p' Z (λd D=>D=mI Z d/\okD p d=true) (Deferred.ofValue v A) (Deferred.ofValue (aV Z v) (A.map<|aV Z)):=by cases v with
 |func f a b=>rw[aV];exact aQ ⟨by simp[mI,FT],rfl⟩
 |nilFunc=>rw[aV];exact aQ ⟨by simp[mI,FT],rfl⟩
 |_=>exact aO rfl
omit C F R in
theorem zl{i j}(g:∀x,rU p x=true->j x=aV Z (i x)){c}(h:Ru p c=true)(t):SR p p' Z (λd D=>D=mI Z d/\okD p d=true) (resolve i c t) (resolve j c t):=by unfold resolve;simp only[Ru,fx]at h;have a:=Gl g h.1;cases e:c.callee with
 |builtin b=>rw[e]at h;rw[a];exact aQ ⟨rfl,h.2⟩
 |invoke r n=>rw[e]at h;cases h.2
 |value f=>rw[e]at h;dsimp only;rw[a,g f h.2];exact Gm _ _
omit C F R in
theorem ER{c d}(b:∀x,rU p x=true->d x=aV Z (c x)){a:Option Operand}(h:a.all (rU p)=true):a.map d=(a.map c).map (aV Z):=by obtain _|a:=a;rfl;simp;exact b a (by simpa using h)
omit C F R in
theorem JM{d e:Operand->Value}(c:∀x,rU p x=true->e x=aV Z (d x)){a:Array (Nat×Operand)}(h:(a.all λ(_,x)=>rU p x)=true):(a.map λ(i,x)=>(i,e x))=(a.map λ(i,x)=>(i,d x)).map λ(i,x)=>(i,aV Z x):=by rw[Array.map_map];refine Array.map_congr_left λx b=>?_;obtain⟨i,H,rfl⟩:=Array.mem_iff_getElem.mp b;simp at h;simp;rw[c _<|h i H]
def ajH:Op->Bool
 |.mapUpdate ..=>true
 |_=>false
theorem X9{J K}(e:∀x,rU p x=true->K x=aV Z (J x)){o}(h:Od p o.op=true)(q:ajH o.op=true->G.strict=true)(A:J (.const .nilIface)=.nilIface)(B:∀x,rU p x=true->nw Z (J x)):SR p p' Z (NR p Z) (execOp J o) (execOp K o):=by
 have v:∀{s S:Sem Value},SR p p' Z (VR Z) s S->SR p p' Z (NR p Z) (do pure (Next.value<|<-s)) (do pure (Next.value<|<-S)):=λh=>aW h λv=>aQ ⟨rfl,rfl⟩
 have u:∀{s S:Sem Unit},SR p p' Z (λ_ _=>True) s S->SR p p' Z (NR p Z) (do s;pure Next.skip) (do S;pure Next.skip):=λh=>bH h λ_ _ _=>aQ ⟨rfl,rfl⟩
 unfold execOp;cases D:o.op<;>rw[D]at h q<;>simp only[Od,Bool.and_eq_true,Bool.false_eq_true]at h<;>dsimp only;case move x=>rw[e x h];exact aQ ⟨rfl,rfl⟩
 case assign x=>rw[e x h];exact aQ ⟨rfl,rfl⟩
 case pick a b c=>rw[e a h.1.1,e b h.1.2,e c h.2];refine aW (JE _) λt=>?_;refine aQ ⟨?_,rfl⟩;cases t<;>rfl
 case alloc t=>exact v (abB F<|by simpa[Rt]using h)
 case box t x=>rw[e x h];exact v<|aid t _
 case build t E=>rw[JM e h.2];exact v<|abN F (by simpa[Rt]using h.1) _
 case buildSlice t n E=>rw[JM e h.2];exact v<|IK F (by simpa[Rt]using h.1) _ _
 case load t x=>rw[e x h];exact v<|XX F t _
 case store t a b=>rw[e a h.1,e b h.2];exact u<|RD F t _ _
 case nilCheck x=>rw[e x h];cases J x with
  |pointer a=>obtain _|a:=a;simp;exact bV F _;simp;exact aQ ⟨by simp[sO],rfl⟩
  |nilIface=>simp;exact bV F _
  |nilFunc=>simp;exact bV F _
  |func f a b=>cases f with
    |method n=>simp only[aV,tG,kW];rcases I:a[0]? with _|y;exact aQ ⟨by simp[sO,tG],rfl⟩;simp only[dK];cases y with
      |nilIface=>simp;exact bV F _
      |iface t w=>simp only[aV];refine ju ?_;rw[F.types];exact aW (DZ F _ t w n) λr=>eT (aO rfl)<|aQ ⟨by simp[sO,tG],rfl⟩
      |chan r=>rw[aV];obtain h|⟨_,h⟩|⟨_,_,_,h⟩|⟨_,h⟩|⟨_,h⟩|⟨_,_,_,h⟩:=fU Z r<;>rw[h]<;>exact aQ ⟨by simp[sO,tG],rfl⟩
      |_=>simp;exact aQ ⟨by simp[sO,tG],rfl⟩
    |_=>simp;exact aQ ⟨by simp[sO,tG],rfl⟩
  |chan r=>rw[aV];obtain h|⟨_,h⟩|⟨_,_,_,h⟩|⟨_,h⟩|⟨_,h⟩|⟨_,_,_,h⟩:=fU Z r<;>rw[h]<;>exact aQ ⟨by simp[sO,h],rfl⟩
  |_=>simp only[aV];exact aQ ⟨by simp[sO],rfl⟩
 case binOp O t a b s=>
  rw[e a h.1.1,e b h.1.2];refine v ?_;refine bH (RQ F O t a b _ _) λ_ _ _=>?_;exact abK F R O t _ _ h.2 λj=>by
   cases b<;>first|(cases j;done)|skip
   rename_i c;cases c<;>first|(cases j;done)|exact A
 case unOp O t x=>rw[e x h];exact v<|abF O _
 case convert s d x=>rw[e x h.2];exact v<|RX F s d _ h.1
 case makeInterface t x=>rw[e x h];exact v<|Cu F t _
 case makeFunc f a b=>rw[Gl e h.1.2,Gl e h.2];refine v ?_;refine aQ ?_;simp only[VR,aV];cases f<;>first|rfl|exact absurd h.1.1 S8
 case makeMap t r=>rw[ER e h];exact v<|RY F t _
 case makeSlice t a b=>rw[e a h.1.2,e b h.2];exact v<|L3 F R (by simpa[Rt]using h.1.1) _ _
 case slice t x l L m=>rw[e x h.1.1.1,ER e h.1.1.2,ER e h.1.2,ER e h.2];exact v<|RL F R t _ (B x h.1.1.1) _ _ _
 case fieldAddr t x i=>rw[e x h];exact v<|RJ F t _ i
 case field t x i=>rw[e x h];exact v<|abM F t _ i
 case indexAddr t a b=>rw[e a h.1,e b h.2];exact v<|RO F R t _ _
 case index t a b=>rw[e a h.1,e b h.2];exact v<|abD F R t _ _
 case lookup t a b k=>cases k<;>simp only[Od,fx,tK]at h;rw[e a h.1.1.2,e b h.1.2];exact v<|X6 F R (by simpa[Rt]using h.1.1.1) h.2 _ _
 case mapUpdate t a b c=>rw[e a h.1.1.1,e b h.1.1.2,e c h.1.2];exact u<|L5 F R (q rfl) t h.2 _ _ _
 case range t x=>rw[e x h];exact v<|abP F t _
 case next x s=>cases s<;>simp only[Od,tK]at h;rw[e x h];exact v<|afc _ _
 case typeAssert x H z k=>rw[e x h.2];exact v<|IH F R _ H (by simpa[Rt]using h.1) k
 case entry x=>rw[e x h];exact v<|abR _
 case extract x i=>rw[e x h];exact v<|RP _ i
 case call c=>exact jx (zl e h _) λ⟨t,z⟩g=>CF F R C g
 case defer c=>exact jx (zl e h _) λd g=>aQ ⟨rfl,g⟩
 case panic x=>rw[e x h];exact v<|Ol F R _
end
def nL(b:Pi):Item->Item
 |.inRangeFunc l=>.inRangeFunc<|b l
 |.endRangeFunc l=>.endRangeFunc<|b l
 |.call d w r s=>.call (mI b d) w r (s.map<|aV b)
 |.extern r a=>.extern r (a.map<|aV b)
 |i=>i
def D2(a:Pi)(e:PanicEntry):PanicEntry:={e with v:=aV a e.v}
def rQ(a:Pi):FrameMode->FrameMode
 |.panicking c=>.panicking (c.map<|D2 a)
 |m=>m
def cU(a:Pi)(f:Frame):Frame:={f with tmps:=f.tmps.map<|aV a,todo:=f.todo.map<|nL a,defers:=f.defers.map<|mI a,mode:=rQ a f.mode,roundOf:=f.roundOf.map a.f}
def A4(p:Program):Item->Bool
 |.code c|.inLoop c=>eA p c
 |.inScope _=>false
 |.inRegion O _=>O.all λo=>Od p o.op
 |.call ..|.extern ..=>false
 |_=>true
def NP:FrameMode->Bool
 |.panicking c=>c.all (!·.goexit)
 |_=>true
def mL(p:Program)(f:Frame):Bool:=f.todo.all (A4 p)&&f.defers.all (okD p)&&yt p f.fn&&f.kind !=.report&&f.kind !=.early&&NP f.mode
def iK(fr:Frame):List Frame->Prop
 |[]=>fr.kind=.normal
 |c::C=>iK c C
theorem iK.kind{fr f}:∀{c:List Frame},iK fr c->f.kind=fr.kind->iK f c
 |[],h,e=>e.trans h
 |_::_,h,_=>h
def OA:=@iK.kind
structure OkG(p:Program)(g:Goroutine):Prop where
 fr:mL p g.frame=true
 cs:g.callers.all (mL p)=true
 dy:g.dying=none
 of:g.offers=none
 st:g.status=.running
 bt:iK g.frame g.callers
section
variable{p:Program}{Z:Pi}
theorem eN{f}:mL p f=true↔f.todo.all (A4 p)=true/\f.defers.all (okD p)=true/\yt p f.fn=true/\f.kind≠.report/\f.kind≠.early/\NP f.mode=true:=by simp[mL,and_assoc]
def OB(F x)(h:rU p x=true):(cU Z F).eval x=aV Z (F.eval x):=by cases x with
 |tmp t=>simp[Frame.eval,cU];cases F.tmps[t]?<;>simp
 |const v=>exact(F4 Z v h).symm
 |global g=>cases h
 |func f=>simp[Frame.eval,tG]
def mM(f v):(cU Z f).finish (aV Z v)=cU Z (f.finish v):=by have⟨F,T,t,D,m,K,R⟩:=f;obtain _|⟨i,k⟩:=t;rfl;cases i with
 |inRegion o l=>obtain _|⟨i,l⟩:=l;rfl;simp[Frame.finish,cU,nL];rcases(o[i]?).bind (·.dst)with _|d;rfl;simp[Nn]
 |call d w r s=>simp[Frame.finish,cU,nL]
 |extern r a=>simp[Frame.finish,cU,nL]
 |_=>rfl
def oY{fr}(h:mL p fr=true)(v):mL p (fr.finish v)=true:=by rw[eN]at h|-;have⟨f,T,t,D,m,K,R⟩:=fr;obtain _|⟨i,k⟩:=t;exact h;cases i with
 |inRegion o l=>cases l<;>exact h
 |call d w r s=>exact absurd h.1 (by simp[A4])
 |extern r a=>exact absurd h.1 (by simp[A4])
 |inRangeFunc l=>exact h
 |beginRound=>exact⟨(by have:=h.1;simp only[nC,fx]at this;exact this.2),h.2⟩
 |_=>exact h
def xP(f a):(cU Z f).raise (a.map<|D2 Z)=cU Z (f.raise a):=by have⟨F,t,T,d,m,k,r⟩:=f;cases m<;>simp[Frame.raise,cU,rQ]
def A5{fr}(h:mL p fr=true)(i)(g:i.all (!·.goexit)=true):mL p (fr.raise i)=true:=by rw[eN]at h|-;have⟨F,t,T,D,m,k,r⟩:=fr;have⟨a,b,d,e,f,j⟩:=h;cases m with
 |panicking c=>exact⟨a,b,d,e,f,by simp only[Frame.raise,NP,Ux,fx];exact⟨g,j⟩⟩
 |_=>exact⟨a,b,d,e,f,g⟩
def lI(f:Frame)(v):(f.finish v).kind=f.kind:=by have⟨F,T,t,d,m,K,r⟩:=f;obtain _|⟨i,k⟩:=t;rfl;cases i with
 |inRegion o l=>cases l<;>rfl
 |_=>rfl
def uQ(f:Frame)(a):(f.raise a).kind=f.kind:=by have⟨F,t,T,d,m,k,r⟩:=f;cases m<;>rfl
def uR(id):∀k,exitTo id (k.map<|nL Z)=(exitTo id k).map (·.map<|nL Z)
 |[]=>rfl
 |i::k=>by cases i<;>simp[nL,exitTo,uR id k];split<;>simp
def JN(id):∀k K,k.all (A4 p)=true->exitTo id k=some K->K.all (A4 p)=true
 |[],_,_,h=>by cases h
 |i::k,K,a,h=>by
   simp only[nC,fx]at a;have b:=JN id k K a.2;cases i<;>simp[exitTo]at h<;>first|exact b h|skip
   split at h;simp_all;exact b h
def OC(o t):yielded o (t.map<|aV Z)=yielded o t:=by funext j;simp[yielded];rcases(o[j]?).bind (·.dst)with _|d;rfl;simp;rcases t[d]? with _|v;rfl;cases v with
 |chan r=>rw[dK,aV];obtain h|⟨_,h⟩|⟨_,_,_,h⟩|⟨_,h⟩|⟨_,h⟩|⟨_,_,_,h⟩:=fU Z r<;>rw[h]
 |_=>simp
def sQ(t):∀C f,iK f C->tryRecover f (C++t)=(tryRecover f C).map λx=>(x.1,x.2++t)
 |[],f,h=>by have⟨F,T,a,d,m,k,r⟩:=f;subst h;cases t<;>rfl
 |c::C,f,h=>by have⟨F,T,a,d,m,k,r⟩:=f;cases k with
   |deferred=>simp[tryRecover];split<;>rfl
   |wrapped=>simp[tryRecover,(sQ t C c h)];cases tryRecover c C<;>rfl
   |_=>rfl
def nM:∀C F v a,iK F C->tryRecover F C=some (v,a)->iK F a
 |[],F,v,a,_,h=>by have⟨j,t,T,D,M,K,R⟩:=F;cases K<;>cases h
 |c::C,F,v,a,f,h=>by have⟨j,t,T,D,M,K,R⟩:=F;cases K with
   |deferred=>have⟨i,n,o,g,l,k,m⟩:=c;cases l with
     |panicking b=>obtain _|⟨e,b⟩:=b;cases h;have⟨v,r,x⟩:=e;cases r<;>cases x<;>simp[tryRecover]at h;obtain⟨_,rfl⟩:=h;exact OA (fr:={fn:=i,tmps:=n,todo:=o,defers:=g,mode:=.panicking ({v:=v,recovered:=false}::b),kind:=k,roundOf:=m}) (c:=C) f rfl
     |_=>cases h
   |wrapped=>simp only[tryRecover]at h;rcases d:tryRecover c C with _|r;cases d▸h;have⟨p,r⟩:=r;cases d▸h;exact(nM C c) p r f d
   |_=>cases h
abbrev akJ(a:Pi)(x:Value×List Frame):Value×List Frame:=(aV a x.1,x.2.map<|cU a)
def zm(a):∀C f,iK f C->iK (cU a f) (C.map<|cU a)
 |[],_,h=>h
 |c::C,_,h=>zm a C c h
def wU:∀C F,tryRecover (cU Z F) (C.map<|cU Z)=(tryRecover F C).map (akJ Z)
 |[],F=>by have⟨l,t,T,D,m,K,R⟩:=F;cases K<;>rfl
 |c::C,F=>by have b:=wU C c;have⟨l,t,T,D,m,K,R⟩:=F;cases K with
   |deferred=>have⟨g,j,k,f,d,h,i⟩:=c;cases d with
     |panicking a=>obtain _|⟨e,a⟩:=a;rfl;have⟨v,r,x⟩:=e;cases r<;>cases x<;>rfl
     |_=>rfl
   |wrapped=>simp[tryRecover,cU]at b|-;rw[b];cases tryRecover c C<;>rfl
   |_=>rfl
def uS:∀C F v b,C.all (mL p)=true->tryRecover F C=some (v,b)->b.all (mL p)=true
 |[],F,v,b,_,h=>by have⟨n,T,A,D,M,K,R⟩:=F;cases K<;>cases h
 |c::C,F,v,b,a,h=>by simp only[nC,fx]at a;have⟨n,T,A,D,M,K,R⟩:=F;cases K with
   |deferred=>have⟨t,y,z,s,o,u,w⟩:=c;cases o with
     |panicking f=>obtain _|⟨e,f⟩:=f;cases h;have⟨v,r,x⟩:=e;cases r<;>cases x<;>simp[tryRecover]at h;obtain⟨_,rfl⟩:=h;simp only[nC,fx];refine⟨?_,a.2⟩;have H:=a.1;rw[eN]at H|-;have⟨g,i,j,k,l,m⟩:=H;exact⟨g,i,j,k,l,by simpa[NP]using m⟩
     |_=>cases h
   |wrapped=>simp only[tryRecover]at h;rcases d:tryRecover c C with _|r;cases d▸h;have⟨q,r⟩:=r;cases d▸h;simp only[nC,fx];exact⟨a.1,(uS C c) q r a.2 d⟩
   |_=>cases h
end
def cF(p:Program)(f:FuncId)(a:Array Value)(k:CallKind)(c:List Frame):Goroutine:={frame:=Frame.enter p f a k,callers:=c,status:=.running,dying:=none}
structure Dz(X:FuncId->Prop)(p p':Program):Prop where
 sort:∀f:FuncId,(p'.funcs[f]?).map (λx:Func=>(x.results,x.norace))=(p.funcs[f]?).map (λx:Func=>(x.results,x.norace))
 same:∀f:FuncId,¬X f->∀args k,Frame.enter p' f args k=Frame.enter p f args k
 dry:∀todo,NoEnter p todo
 ok:∀f:FuncId,¬X f->(p.funcs[f]?).all (λfn:Func=>fn.body.all<|eA p)=true/\yt p f=true
def oH(t:List Frame)(a:Pi)(g:Goroutine):Goroutine:={g with frame:=cU a g.frame,callers:=g.callers.map (cU a)++t}
def Gn(X:FuncId->Prop)(p P:Program)(t:List Frame)(G:Gs)(e:Nat->Option Nat)(g d:Goroutine):Prop:=(OkG p g/\gN G e λa=>d=oH t a g)\/
 ∃f A k c b C,X f/\(k=.normal\/k=.deferred)/\c.all (mL p)=true/\iK (Frame.enter p f A k) c/\g=cF p f A k c/\d=cF P f b k C/\gN G e λa=>b=A.map (aV a)/\C=c.map (cU a)++t
def IP(n:Int):GStep->Prop
 |.go _ w _|.comm _ _ _ _ w _|.spawn _ _ w _|.count _ w _|.timer _ _ w _|.alone _ _ w _|.newcoro _ _ _ w _|.coroswitch _ _ _ w _|.collect _ w _|.watch _ w _|.ended _ w _=>n<w.drawn
def Lz(L:M5)(s S:GStep):Prop:=IP L.lim s/\IP (L.lim+L.NI) S
def cT{n s e}(h:IP n s):IP n (s.after e):=by cases s<;>exact h
def DJ(t:List Frame)(v:Value)(w:World)(e:Array Event):GStep:=match t with
 |[]=>.ended (.done v) w e
 |c::r=>.go {frame:=c.finish v,callers:=r,status:=.running,dying:=none} w e
def OD(t v w e a):(DJ t v w a).after e=DJ t v w (e++a):=by cases t<;>rfl
def ji(X:FuncId->Prop)(p P:Program)(t:List Frame)(L:M5)(G:Gs)(c:Nat->Option Nat)(W:World)(s S:GStep):Prop:=match s with
 |.go g b e=>Lz L s S\/g.dyingOn p\/∃d w E a,S=.go d w E/\Ext c a/\fT G a b.heap.size w.heap.size/\WE p L G a b w/\Fr c a W w/\Gn X p P t G a g d/\wz G a e E
 |.ended (.done v) b e=>Lz L s S\/∃V w E a,S=DJ t V w E/\Ext c a/\fT G a b.heap.size w.heap.size/\WE p L G a b w/\Fr c a W w/\(gN G a λf=>V=aV f v)/\wz G a e E
 |.ended _ _ _=>True
 |_=>Lz L s S
section
variable{X:FuncId→Prop}{p p':Program}{tl:List Frame}{L:M5}{G:Gs}
def wz.nil(b:Nat->Option Nat):wz G b #[] #[]:=⟨λc _ _=>by simp,λe a=>absurd a S8⟩
def JO:=@wz.nil
def wz.append{g a A b B}(h:wz G g a A)(d:wz G g b B):wz G g (a++b) (A++B):=⟨λi r c=>by show A++B=(a++b).map (Cm i);rw[h.all i r c,d.all i r c,aah],λe f=>(Array.mem_append.1 f).elim (h.quiet e)<|d.quiet e⟩
def wz.ext{c b a A}(h:wz G c a A)(e:Ext c b):wz G b a A:=⟨h.all.ext e,h.quiet⟩
def ji.after{u b W x s S y E}(h:ji X p p' tl L G b x s S)(e:Ext u b)(f:Fr u b W x)(z:wz G b y E):ji X p p' tl L G u W (s.after y) (S.after E):=by cases s with
 |go g w n=>obtain h|h|⟨q,t,m,l,rfl,a,c,d,i,j,k⟩:=h;exact .inl ⟨cT h.1,cT h.2⟩;exact .inr<|.inl h;exact .inr<|.inr ⟨q,t,_,l,rfl,e.trans a,c,d,f.trans a i,j,(z.ext a).append k⟩
 |ended o w n=>cases o with
   |done v=>obtain h|⟨r,t,m,l,rfl,a,c,d,i,j,k⟩:=h;exact .inl ⟨cT h.1,cT h.2⟩;exact .inr ⟨r,t,_,l,OD _ _ _ _ _,e.trans a,c,d,f.trans a i,j,(z.ext a).append k⟩
   |_=>trivial
 |_=>exact⟨cT h.1,cT h.2⟩
def yT:=@ji.after
def ji.goE{a w W g b}(o:fT G a w.heap.size W.heap.size)(c:WE p L G a w W)(h:Gn X p p' tl G a g b):ji X p p' tl L G a W (.go g w) (.go b W):=.inr<|.inr ⟨b,W,#[],a,rfl,oG _,o,c,Jp _ _,h,JO a⟩
def D3:=@ji.goE
def ji.go{a w W g b}(o:fT G a w.heap.size W.heap.size)(c:WR p L G a w W)(h:Gn X p p' tl G a g b):ji X p p' tl L G a W (.go g w) (.go b W):=.inr<|.inr ⟨b,W,#[],a,rfl,oG _,o,c.we,Jp _ _,h,JO a⟩
def vQ:=@ji.go
def IQ(a l f):zh a l=.mark (.extern f)↔l=.mark (.extern f):=by cases l<;>simp[zh];rename_i m;cases m<;>simp[XR]
def abY(K:Dz X p p')(m F E):seen p' F (E.map<|Cm m)=(seen p F E).map (Cm m):=by
 have g:∀f:FuncId,(p'.funcs[f]?).any (λx:Func=>x.norace)=(p.funcs[f]?).any (λx:Func=>x.norace):=λf=>by have:=K.sort f;cases h:p'.funcs[f]?<;>cases c:p.funcs[f]?<;>rw[h,c]at this<;>simp_all
 simp only[seen,g];rw[Array.foldl_map];let R:Bool×Array Event->Bool×Array Event:=λx=>(x.1,x.2.map<|Cm m);show _=(R<|Array.foldl _ _ E).2;refine congrArg Prod.snd (Eq.trans (congrArg (λz=>Array.foldl _ z E)<|by simp[R])<|Array.foldl_hom R ?_);rintro⟨q,n⟩ e;by_cases a:∃f,e.loc=.mark (.extern f);have⟨f,b⟩:=a;have d:(Cm m e).loc=.mark (.extern f):=by show zh m e.loc=_;rw[b];rfl
 simp only[R,b,d];have j:∀f,e.loc≠.mark (.extern f):=λf h=>a ⟨f,h⟩;have k:∀f,(Cm m e).loc≠.mark (.extern f):=λf h=>a ⟨f,(IQ m _ f).1 h⟩;have i:(Cm m e).sync=e.sync:=rfl;dsimp only[R];rw[i];split;simp_all;cases l:(q&&!e.sync)<;>simp
def abZ(p f E):∀e∈Go.seen p f E,e∈E:=by unfold Go.seen;dsimp only;refine Array.foldl_induction (motive:=λ_(x:Bool×Array Event)=>∀e∈x.2,e∈E) S8 λi⟨q,k⟩b e a=>?_;split at a;simp_all;grind
def wz.seen{d b E}(K:Dz X p p')(h:wz G d b E)(f):wz G d (Go.seen p f b) (Go.seen p' f E):=⟨λg r c=>by show Go.seen p' f E=_;rw[h.all g r c,abY K],λe a=>h.quiet e<|abZ p f b e a⟩
def qE(b f a k):cU b (Frame.enter p f a k)=Frame.enter p f (a.map<|aV b) k:=by simp[Frame.enter,cU,nL,rQ]
def tO(K:Dz X p p'){f}(h:¬X f)(A){k}(g:k=.normal\/k=.deferred):mL p (Frame.enter p f A k)=true:=by rw[eN];have⟨a,d⟩:=K.ok f h;refine⟨?_,rfl,d,?_⟩;simp[Frame.enter];rcases e:p.funcs[f]? with _|F;rfl;rw[e]at a;simp at a;rcases b:F.body with _|c;simp[A4,eA,b];rw[b]at a;simpa[A4,b]using a;obtain rfl|rfl:=g<;>simp[Frame.enter,NP]
def Gn.enter(K:Dz X p p'){n A a C b}(f){k}(i:k=.normal\/k=.deferred)(h:C.all (mL p)=true)(g:iK (Frame.enter p f A k) C)(e:gN G n λm=>a=A.map (aV m)/\b=C.map (cU m)++tl):Gn X p p' tl G n (cF p f A k C) (cF p' f a k b):=by
 by_cases d:X f;exact .inr ⟨f,A,k,C,a,b,d,i,h,g,rfl,rfl,e⟩;refine .inl ⟨⟨tO K d A i,h,rfl,rfl,rfl,g⟩,λm r c=>?_⟩;have⟨j,l⟩:=e m r c;simp[cF,oH,qE,K.same f d,j,l]
end
section
variable{X:FuncId→Prop}{p p':Program}{tl:List Frame}{L:M5}{G:Gs}{μ:Nat→Option Nat}{w W:World}
def sim{d e Q}{s:Sem d}{s':Sem e}(o:fT G μ w W)(c:WR p L G μ w W)(a:gN G μ λb=>SR p p' b (Q b) s s'):Out p L G μ W Q (s.runT p w #[]) (s'.runT p' W #[]):=rV s s' μ w W #[] #[] o c (JO μ) a
def qy{n:Int}{p m f c d v}(h:n<w.drawn):IP n (doReturn p m f c d v w):=by
 unfold doReturn;repeat' split
 all_goals first|exact h|trivial|(simp_all;done)
def all_cons{e c r}(o:fT G μ w W)(h:gN G μ λj=>e=(c::r).map (cU j)++tl):∃a b,e=a::b/\(gN G μ λj=>a=cU j c)/\gN G μ λj=>b=r.map (cU j)++tl:=by
 have⟨j,i,g⟩:=o.one;have H:=h j i g;refine⟨cU j c,r.map (cU j)++tl,by rw[H];rfl,λf b a=>?_,λf b a=>?_⟩<;>
 .have d:=h f b a;rw[H]at d;simp only[gJ,vK,Ae]at d;first|exact d.1|exact d.2
def pU{f F}(o:fT G μ w W)(h:gN G μ λc=>F=cU c f):F.fn=f.fn/\F.kind=f.kind:=by have⟨c,b,a⟩:=o.one;rw[h c b a];exact⟨rfl,rfl⟩
def lift(F:Fit G p p'):p'.inits=p.inits/\p'.follows=p.follows:=by constructor;exact F.inits;funext d;simp[Tables.follows,F.follow]
def ab0(d)(b:List PanicEntry):(b.map<|D2 d).dropWhile (!·.goexit)=(b.dropWhile (!·.goexit)).map (D2 d):=by induction b with
 |nil=>rfl
 |cons a b c=>simp[List.dropWhile_cons];have:(D2 d a).goexit=a.goexit:=rfl;rw[this];cases a.goexit;simp_all;simp
def uT(F:Fit G p p'){V R fr z cs d v f}(y:fT G μ w W)(S:WR p L G μ w W)(J:mL p fr=true)(g:cs.all (mL p)=true)(i:iK fr cs)(H:gN G μ λu=>z=cU u fr)(n:gN G μ λu=>d=cs.map (cU u)++tl)(o:gN G μ λu=>f=aV u v)(K:cs=[]->V=true/\(tl=[]->R=true)):ji X p p' tl L G μ W (doReturn p V fr cs none v w) (doReturn p' R z d none f W):=by
 have⟨O,I⟩:=pU y H;have k:=(eN.1 J).2.2;cases cs with
 |cons c r=>
   obtain⟨ad,P,rfl,q,s⟩:=all_cons y n;simp only[nC,fx]at g;have T:ji X p p' tl L G μ W (.go {frame:=c.finish v,callers:=r,status:=.running,dying:=none} w) (.go {frame:=ad.finish f,callers:=P,status:=.running,dying:=none} W):=vQ y S<|.inl ⟨⟨oY g.1 v,g.2,rfl,rfl,rfl,OA (fr:=c) (c:=r) i<|lI c v⟩,λu b a=>by rw[o u b a,q u b a,s u b a,mM];rfl⟩
   simp[doReturn,I];cases t:fr.kind with
   |normal=>exact T
   |wrapped=>exact T
   |early=>exact absurd t k.2.2.1
   |report=>exact absurd t k.2.1
   |deferred=>refine ji.go y S<|.inl ⟨⟨?_,g.2,rfl,rfl,rfl,iK.kind (fr:=c) (c:=r) i<|by dsimp only;split<;>(try split)<;>rfl⟩,λu b a=>?_⟩;have j:=g.1;rw[eN]at j|-;have⟨fn,ab,ac,π,Y,aa,ro⟩:=c;dsimp only;split;have⟨A,B,C,D,E,m⟩:=j;split;trivial;refine⟨A,B,C,D,E,?_⟩;simp only[NP,nC,fx]at m|-;exact Dn.2 λx N=>Dn.1 m.2 x<|(List.dropWhile_sublist _).subset N;exact j;rw[q u b a,s u b a];have⟨fn,ab,ac,π,Y,aa,ro⟩:=c;cases Y with
     |panicking h=>obtain _|⟨e,h⟩:=h;rfl;have⟨x,Q,ag⟩:=e;cases Q with
       |false=>rfl
       |true=>simp[cU,rQ,gJ,D2,(ab0 u h)];cases h.dropWhile (!·.goexit)<;>rfl
     |_=>rfl
 |nil=>
   have:d=tl:=by have⟨u,b,a⟩:=y.one;rw[n u b a];rfl
   subst this;have U:p.inits.idxOf? fr.fn=none:=by simpa[yt]using k.1
   obtain⟨rfl,M⟩:=K rfl;have l:fr.kind=.normal:=i;have ae:doReturn p true fr [] none v w=.ended (.done v) w:=by simp only[doReturn,U,l];rfl
   have af:doReturn p' R z d none f W=DJ d f W #[]:=by cases d with
    |nil=>obtain rfl:=M rfl;simp only[doReturn,O,I,(lift F).1,U,l,DJ];rfl
    |cons c r=>simp[doReturn,I,l,DJ]
   rw[ae,af];exact .inr ⟨f,W,#[],μ,rfl,oG _,y,S.we,Jp _ _,o,JO μ⟩
end
section
variable{X:FuncId→Prop}{p p':Program}{tl:List Frame}{L:M5}{G:Gs}{μ:Nat→Option Nat}{w W:World}
def zn{a v}(o:fT G μ w W)(h:gN G μ λi=>a=abx i (.panic v)):∃d,a=.panic d/\gN G μ λi=>d=aV i v:=by have⟨i,c,b⟩:=o.one;refine⟨aV i v,h i c b,λg f e=>?_⟩;have:=h g f e;rw[h i c b]at this;simpa[abx]using this
def Gn.of{g b}(h:OkG p g)(a:gN G μ λc=>b=oH tl c g):Gn X p p' tl G μ g b:=.inl ⟨h,a⟩
def iY{g i:Type}{f:Pi->g->i}{a b}(o:fT G μ w W)(h:gN G μ λe=>b=f e a):∃e,b=f e a:=have⟨e,d,c⟩:=o.one;⟨e,h e d c⟩
def Gp{p}(f m w){e s}:ji X p p' tl L G μ W ((endThrow f m w).after e) s:=.inr<|.inl ⟨.inl rfl,_,rfl,rfl,NoEnter.nil p⟩
def OE{a p}(s:Sem a)(w):w.drawn<=(jg<|s.run p w).drawn:=by rw[<-Fe p s w #[]];exact qN s w #[]
def CG{n:Int}{p f c d m}(h:n<w.drawn):IP n (endFatal p f c d m w):=by unfold endFatal;dsimp only;split;all_goals rename_i H;have:=cA (OE (p:=p) _ w) (pK<|congrArg (λx=>(jg x).drawn) H);exact Dq h<|Fh.2 this
def Ya{n:Int}{p f c d g}(h:n<w.drawn):IP n (early p f c d g w):=by
 have a:=λr(b:(choose<|.early g).run p w=r)=>b▸Dq h (Fh.2<|OE _ w);unfold early;dsimp only;repeat' split
 all_goals first|exact h|(rename_i H;exact a _ H)|(rename_i H _ _ _ _;exact a _ H)|(rename_i H _;exact a _ H)|(rename_i H _ _;exact a _ H)|(rename_i H _ _ _;exact a _ H)
def CH{n:Int}{p f c d s}(a:n<(jg (s.runT p w #[]).1).drawn):IP n (stepG.apply p true f c d s w):=by unfold stepG.apply;generalize s.runT p w #[]=r at a|-;have⟨r,e⟩:=r;refine cT ?_;cases r with
 |ok n W=>cases n<;>(try dsimp only)<;>(repeat' split)<;>first|exact a|trivial
 |halt x W=>
   cases x<;>first|exact a|exact CG a|skip
   rename_i u;cases u<;>first|exact a|exact Ya a
def Gq{n:Int}{p f c d s}(h:n<w.drawn):IP n (stepG.apply p true f c d s w):=CH<|Dq h (Fh.2<|qN s w #[])
def ji.bind{s S}(h:Lz L s S\/(ji X p p' tl L G μ W s S)):ji X p p' tl L G μ W s S:=by
 obtain h|h:=h;cases s with
 |go g w e=>exact .inl h
 |ended o w e=>cases o<;>first|exact .inl h|trivial
 |_=>exact h
 exact h
def A6:=@ji.bind
def Gr(F:Fit G p p')(K:Dz X p p'){main:Bool}{b i d J s t}(ok:fT G μ w W)(A:mL p b=true)(H:d.all (mL p)=true)(D:iK b d)(Q:gN G μ λa=>i=cU a b)(U:gN G μ λa=>J=d.map (cU a)++tl)(R:od p L G μ W (NR p) (s.runT p w #[]) (t.runT p' W #[])):ji X p p' tl L G μ W (stepG.apply p true b d none s w) (stepG.apply p' true i J none t W):=by
 by_cases O:Ry L (jg (s.runT p w #[]).1) (jg (t.runT p' W #[]).1);exact A6<|.inl ⟨CH O.1,CH O.2⟩;have⟨a5,k2⟩:=pU ok Q;have V:=(eN.1 A);have a0:(b.kind==.early)=false:=by simpa using V.2.2.2.2.1
 unfold stepG.apply;simp only[yB,a5,k2,a0,tK,vJ];generalize s.runT p w #[]=r,t.runT p' W #[]=a8 at R O|-;have⟨r,es⟩:=r;cases r with
 |ok n l=>obtain ab|⟨a6,k,ES,z,rfl,e,y,I,T,N⟩:=R;trivial;have B:gN G z λa=>a6=sO a n:=λa r c=>(N.2 a r c).1;have M:okN p n=true:=have⟨a,r,c⟩:=y.one;(N.2 a r c).2;have C:=Q.ext e;have E:=U.ext e;refine yT ?_ e T<|N.1.seen K b.fn;cases n with
   |value v=>obtain⟨a,rfl⟩:=iY y B;refine D3 y I<|.of ⟨oY A v,H,rfl,rfl,rfl,D.kind<|lI b v⟩ λg q j=>?_;have:=B g q j;simp only[sO,Next.value.injEq]at this;rw[this,C g q j,E g q j,mM];rfl
   |skip=>obtain⟨a,rfl⟩:=iY y B;refine D3 y I<|.of ⟨oY A undef,H,rfl,rfl,rfl,D.kind<|lI b undef⟩ λg q j=>?_;have:=mM (Z:=g) b undef;rw[Cn]at this;rw[C g q j,E g q j,this];rfl
   |enter f m=>
     obtain⟨a,rfl⟩:=iY y B;have a2:∀g,Rn G g->Cp z g->m.map (aV a)=m.map (aV g):=λg q j=>by have:=B g q j;simpa[sO]using this
     have go:∀kd ao:CallKind,kd=.normal->ao=.normal->ji X p p' tl L G z k (.go {frame:=Frame.enter p f m kd,callers:=b::d,status:=.running,dying:=none} l) (.go {frame:=Frame.enter p' f (m.map<|aV a) ao,callers:=i::J,status:=.running,dying:=none} k):=by rintro _ _ rfl rfl;exact D3 y I<|Gn.enter K f (.inl rfl) (by simp only[nC,fx];exact⟨A,H⟩) D λg q j=>⟨a2 g q j,by rw[C g q j,E g q j];rfl⟩
     refine go _ _ ?_ ?_;have:=V.1;split;rename_i h;rw[h]at this;simp[A4]at this;rfl;have:=V.1;have⟨a,q,j⟩:=ok.one;rw[Q a q j];simp only[cU];rcases a3:b.todo with _|⟨am,ax⟩;rfl;rw[a3]at this;cases am<;>first|rfl|simp[A4]at this
   |round ad f a1 aq aw=>obtain⟨a,rfl⟩:=iY y B;simp only[okN,fx]at M;refine D3 y I<|.of ⟨?_,by simp only[nC,fx];exact⟨A,H⟩,rfl,rfl,rfl,D⟩ λg q j=>?_;rw[eN];refine⟨?_,rfl,M.2,by simp[Frame.round],by simp[Frame.round],rfl⟩;simp[Frame.round,A4,M.1.1,M.1.2];have:=B g q j;simp only[sO,aai,Af,vI]at this;rw[C g q j,E g q j,this.1,this.2];rfl
   |defer al=>obtain⟨a,rfl⟩:=iY y B;refine D3 y I<|.of ⟨oY (by rw[eN]at A|-;exact⟨A.1,by simp only[nC,fx];exact⟨M,A.2.1⟩,A.2.2⟩) undef,H,rfl,rfl,rfl,D.kind<|lI _ undef⟩ λg q j=>?_;have af:=B g q j;simp only[sO,Next.defer.injEq]at af;have:=mM (Z:=g) {b with defers:=al::b.defers} undef;rw[Cn]at this;rw[C g q j,E g q j,af];simp only[oH];rw[<-this];rfl
   |recover=>
     obtain⟨a,rfl⟩:=iY y B;have ac:∀(o u:Option (Value×List Frame)),(∀v c,o=some (v,c)->c.all (mL p)=true/\iK b c)->(gN G z λa=>u=o.map λx=>(aV a x.1,x.2.map (cU a)++tl))->ji X p p' tl L G z k (match o with|some (v,callers)=>GStep.go {frame:=b.finish v,callers,status:=.running,dying:=none} l|none=>.go {frame:=b.finish .nilIface,callers:=d,status:=.running,dying:=none} l) (match u with|some (v,callers)=>GStep.go {frame:=i.finish v,callers,status:=.running,dying:=none} k|none=>.go {frame:=i.finish .nilIface,callers:=J,status:=.running,dying:=none} k):=λo u ag ah=>by
      obtain⟨a,rfl⟩:=iY y ah;cases o with
      |none=>refine D3 y I<|.of ⟨oY A _,H,rfl,rfl,rfl,D.kind<|lI b _⟩ λg q j=>?_;have:=mM (Z:=g) b .nilIface;rw[aV]at this;rw[C g q j,E g q j,this];rfl
      |some x=>have⟨v,c⟩:=x;refine D3 y I<|.of ⟨oY A v,(ag v c rfl).1,rfl,rfl,rfl,(ag v c rfl).2.kind<|lI b v⟩ λg q j=>?_;have:=ah g q j;simp only[dK,gV,wE]at this;rw[this.1,this.2,C g q j,mM];rfl
     have⟨π,ak,ae⟩:=y.one;have aj:gN G z λa=>i.roundOf=b.roundOf.map a.f:=λg q j=>by rw[C g q j];rfl
     have ay:p'.follows .rangeFuncRecover=p.follows .rangeFuncRecover:=by rw[(lift F).2]
     have ai:gN G z λa=>tryRecover i J=(tryRecover b d).map λx=>(aV a x.1,x.2.map (cU a)++tl):=λg q j=>by rw[C g q j,E g q j,sQ tl _ _<|zm g d b D,wU,Option.map_map];rfl
     cases P:b.roundOf with
     |none=>
       have Y:i.roundOf=none:=by rw[aj π ak ae,P];rfl
       simp only[sO,Y];exact ac _ _ (λv c h=>⟨uS d b v c H h,nM d b v c D h⟩) ai
     |some ad=>
       have Y:i.roundOf=some (π ad):=by rw[aj π ak ae,P];rfl
       simp only[sO,Y,ay,F.fol,yB];exact ac _ _ (λv c h=>⟨uS d b v c H h,nM d b v c D h⟩) ai
   |_=>exact absurd M (by simp[okN])
 |halt h l=>
   obtain ab|P|⟨az,ar,k,ES,z,rfl,e,y,I,T,N⟩:=R;exact absurd ab O;cases h<;>first|(cases P;done)|skip
   rename_i ap;cases ap<;>first|(cases P;done)|trivial
   trivial;have a7:∀(c S:List PanicEntry),c.all (!·.goexit)=true->(gN G z λa=>S=c.map (D2 a))->ji X p p' tl L G z k (.go {frame:=b.raise c,callers:=d,status:=.running,dying:=none} l) (.go {frame:=i.raise S,callers:=J,status:=.running,dying:=none} k):=λc S av au=>D3 y I (.of ⟨A5 A c av,H,rfl,rfl,rfl,D.kind<|uQ b c⟩ λg q j=>by rw[au g q j,(Q.ext e) g q j,(U.ext e) g q j,xP];rfl)
   cases h with
   |panic v=>obtain⟨a9,rfl,a4⟩:=zn y λa r c=>(N.2 a r c);refine yT ?_ e T<|N.1.seen K b.fn;exact a7 _ _ rfl λg q j=>by rw[a4 g q j];rfl
   |throw an=>exact Gp b an l
   |_=>cases az
def xQ(F:Fit G p p')(K:Dz X p p'){main:Bool}{i j C a s S}(o:fT G μ w W)(k:WR p L G μ w W)(f:mL p i=true)(e:C.all (mL p)=true)(d:iK i C)(b:gN G μ λh=>j=cU h i)(c:gN G μ λh=>a=C.map (cU h)++tl)(g:gN G μ λh=>SR p p' h (NR p h) s S):ji X p p' tl L G μ W (stepG.apply p true i C none s w) (stepG.apply p' true j a none S W):=by
 exact Gr (main:=main) F K o f e d b c (sim o k g).we
end
end Go.Ren
