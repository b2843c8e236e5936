import Derived.Lib.QuietBelow
import Derived.Deep.RegionWith
import Derived.Laws.CopyRow
import Derived.Deep.RegionHeld3
import Derived.Recover
import Derived.Lib.ConvBytes
import Derived.Laws.BitsAllLaws
import Derived.Test.YtpjcmpfncpnmeabGreatM03
set_option linter.all false
set_option maxHeartbeats 1000000
set_option maxRecDepth 100000
namespace Go.Proofs.aH
open Go.RowKit
section
variable[Go.Proofs.VB]
def aI.mixed:Vp.follows .mixedOrders=true:=K8
def Fg:=@aI.mixed
def aeP(bare:Bool)(s:ByteArray):ByteArray:=if bare then⟨#[]⟩else s
def Vj(bare s)(h:s.size<=32):(aeP bare s).size<=32:=by
 cases bare;.exact h
 .show(ByteArray.mk #[]).size<=32;exact eX _
def Ae(bare:Bool)(x:jV):List UInt8:=fQ x.tx++be x.idx 1++(be (aeP bare x.key).size 1++fQ (aeP bare x.key))
def qT(bare:Bool)(tag:Int)(ins:List jV)(outs:List fL):List UInt8:=be tag 2++be ins.length 1++ins.flatMap (Ae bare)++be outs.length 1++outs.flatMap fL.bytes
def Jr(bare x)(h:x.Small):(Ae bare x).length<=42:=by have⟨b,_,a,_⟩:=h;have:=Vj bare x.key a;simp[Ae,bS,eY];omega
def eU.abz(s t:eU):Prop:=s.tag=t.tag/\s.ins=t.ins/\s.outs=t.outs
def DG(l m:List eU):Prop:=l.length=m.length/\∀(i:Nat) (s t:eU),l[i]?=some s->m[i]?=some t->s.abz t
end
section
def aam:=@Below.heap_alloc
variable[Go.Proofs.VB]
def Row(w:World)(g:Nat)(t:TypeId)(cs:List Value):Prop:=w.heap[g]?=some (.cells cs.toArray t (0,0))
def Row.lt{w g t cs}(h:Row w g t cs):g<w:=(eA.1 h).1
def Row.keep{w w' g B t cs}(h:Row w g t cs)(a:Below B w w')(b:g<B):Row w' g t cs:=(a.block g b).trans h
def Row.cell{w g t cs}(h:Row w g t cs)(j):w.cell? ⟨g,j,none⟩=cs[j]?:=by simp only[World.cell?,show w.heap[g]?=some (.cells cs.toArray t (0,0))from h];simp
def NF:=@Row.cell
def Row.r{w g t cs x}(h:Row w g t cs)(k)(e:cs[k]?=some x:=by rfl):w.cell? ⟨g,k,none⟩=some x:=(h.cell k).trans e
def Row.frozen{w g t cs}(h:Row w g t cs)(j):w.frozen? ⟨g,j,none⟩=false:=by simp only[World.frozen?,show w.heap[g]?=some (.cells cs.toArray t (0,0))from h];simp
def aai:=@Row.frozen
def Row.set{w g t cs}(h:Row w g t cs)(j v):Row (w.setCell (g,j) v) g t (cs.set j v):=by unfold Row;rw[setCell_eq_setRow w g j cs.toArray t (0,0) v h,setRow_heap w g _ _ t (0,0) h];simp
def Row.new(w:World)(cs t):Row (w.alloc (.cells cs.toArray t)) w t cs:=uT w _
def aX:=@Row.new
def Row.alloc{w g t cs}(h:Row w g t cs)(o):Row (w.alloc o) g t cs:=(aam w o g h.lt).trans h
def Row.three{w g t cs}(h:Row w g t cs)(n)(a:n+3<=cs.length):(∃u,w.cell? (g,n)=some u)/\(∃u,w.cell? (g,n+1)=some u)/\(∃u,w.cell? (g,n+2)=some u)/\
 w.frozen? (g,n)=false/\w.frozen? (g,n+1)=false/\w.frozen? (g,n+2)=false:=by
 refine⟨?_,?_,?_,h.frozen _,h.frozen _,h.frozen _⟩<;>rw[h.cell]<;>exact⟨_,bO O9⟩
def Row.two{w g t cs}(h:Row w g t cs)(n)(a:n+2<=cs.length):(∃u,w.cell? (g,n)=some u)/\(∃u,w.cell? (g,n+1)=some u)/\
 w.frozen? (g,n)=false/\w.frozen? (g,n+1)=false:=by
 refine⟨?_,?_,h.frozen _,h.frozen _⟩<;>rw[h.cell]<;>exact⟨_,bO O9⟩
def Vk{a b:World}(c:a.heap=b.heap)(d:a.tape=b.tape)(e:a.drawn=b.drawn)(f:a.os=b.os)(g:a.output=b.output):a=b:=by cases a;cases b;simp_all
def Qe(w:World)(a b t):(w.alloc (.cells a t)).setRow w b=w.alloc (.cells b t):=by
 refine Vk ?_ rfl rfl rfl rfl;apply y9;intro i;by_cases hi:i=(w:Nat);.subst hi;rw[setRow_heap _ _ a b t (0,0) (uT w _),uT]
 .rw[setRow_other _ _ _ _ hi];by_cases c:i<(w:Nat);.rw[aam w _ i c,aam w _ i c]
  .rw[J4 (by simp;omega),J4 (by simp;omega)]
def jV.cells(x:jV):List Value:=[.string x.tx,.int .i64 x.idx,.string x.key]
def fL.cells(x:fL):List Value:=[.int .i64 x.val,.string x.lock]
def mZ(l:List jV):List Value:=l.flatMap jV.cells
def lO(l:List fL):List Value:=l.flatMap fL.cells
def rQ(l):(mZ l).length=l.length*3:=by induction l with
 |nil=>rfl
 |cons x l a=>simp only[mZ,uU,bW]at*;simp only[jV.cells,fG,jW];omega
def Az(l):(lO l).length=l.length*2:=by induction l with
 |nil=>rfl
 |cons x l a=>simp only[lO,uU,bW]at*;simp only[fL.cells,fG,jW];omega
def wN:∀l i x,l[i]?=some x->(mZ l)[i*3]?=some x.tx/\(mZ l)[i*3+1]?=some (.int .i64 x.idx)/\(mZ l)[i*3+2]?=some (.string x.key)
 |[],i,x,h=>by simp at h
 |y::l,0,x,h=>by simp at h;subst h;exact⟨rfl,rfl,rfl⟩
 |y::l,i+1,x,h=>by have:=wN l i x (by simpa using h);have e:mZ (y::l)=y.cells++mZ l:=rfl;rw[e];simp[show(i+1)*3=3+i*3 from by omega,show 3+i*3+1=3+(i*3+1)from by omega,show 3+i*3+2=3+(i*3+2)from by omega];have a:y.cells.length=3:=rfl;rw[dU O9,dU O9,dU O9];simpa[a]using this
def xx:∀l i x,l[i]?=some x->(lO l)[i*2]?=some x.val/\(lO l)[i*2+1]?=some (.string x.lock)
 |[],i,x,h=>by simp at h
 |y::l,0,x,h=>by simp at h;subst h;exact⟨rfl,rfl⟩
 |y::l,i+1,x,h=>by have:=xx l i x (by simpa using h);have e:lO (y::l)=y.cells++lO l:=rfl;rw[e];simp[show(i+1)*2=2+i*2 from by omega,show 2+i*2+1=2+(i*2+1)from by omega];have a:y.cells.length=2:=rfl;rw[dU O9,dU O9];simpa[a]using this
def yL{α:Type}{l m:List α}{i:Nat}{x}(h:l[i]?=some x):(l++m)[i]?=some x:=by grind
def H7{w g t l rest c}(h:Row w g t (mZ l++rest))(b:l.length<=140737488355328):wL w (.slice g l.length c) l:=⟨⟨_,_,rfl,λ_=>⟨g,0,rfl,λi x d=>by
   have⟨e,f,a⟩:=wN l i x d;refine⟨?_,?_,?_⟩<;>rw[h.cell,iV];.grind
   .grind
   .exact yL a⟩⟩,b⟩
def FI{w g t l rest c}(h:Row w g t (lO l++rest))(b:l.length<=140737488355328):qQ w (.slice g l.length c) l:=⟨⟨_,_,rfl,λ_=>⟨g,0,rfl,λi x d=>by
   have⟨e,a⟩:=xx l i x d;refine⟨?_,?_⟩<;>rw[h.cell,iV];.grind
   .exact yL a⟩⟩,b⟩
end
section
def agM:=@Array.length_toList
def agN:=@size_madeCells
variable[Go.Proofs.VB]
def aI.aeQ:(Vp.info? 133).map (λi=>(i.zero,i.size,i.bytes))=some (some (.agg #[aB,aA,aB]),3,40):=K8
def adA:=@aI.aeQ
def aI.acA:(Vp.info? 69).map (λi=>(i.zero,i.size,i.bytes))=some (some (.agg #[aA,aB]),2,24):=K8
def adB:=@aI.acA
def aI.aeR:(Vp.info? 73).map (λi=>(i.zero,i.size,i.bytes))=some (some (.agg #[aA,(),()]),3,56):=K8
def Y8:=@aI.aeR
def H6(n:Nat):List Value:=(madeCells #[aB,aA,aB] (n*3)).toList
def Vr(n:Nat):List Value:=(madeCells #[aA,aB] (n*2)).toList
def mdT(n:Nat):List Value:=(madeCells #[aA,.slice none 0 0,.slice none 0 0] (n*3)).toList
def RL(n):(H6 n).length=n*3:=by unfold H6;rw[Array.length_toList,size_madeCells]
def acz(n):(Vr n).length=n*2:=by unfold Vr;rw[Array.length_toList,size_madeCells]
def acw(n):(mdT n).length=n*3:=by unfold mdT;rw[Array.length_toList,size_madeCells]
def Row.aO{w g t cs}(h:Row w g t cs)(a v)(b:g≠a.block):Row (w.setCell a v) g t cs:=(Below.heap_setCell w a v g b).trans h
def Fp{B a w}(h:Below B a w)(g c d e v1 v2 v3)(b:B<=g):Below B a (((w.setCell ⟨g,c,none⟩ v1).setCell ⟨g,d,none⟩ v2).setCell ⟨g,e,none⟩ v3):=
 ((h.setCell (p:=(g,c)) b v1).setCell (p:=(g,d)) b v2).setCell (p:=(g,e)) b v3
def Bo{w w':World}{r}(h:w.grownBy w' r)(g)(a:r=some g\/w<=g)(o v):w.grownBy (w'.setCell ⟨g,o,none⟩ v) r:=by
 refine⟨h.os,h.tape,h.output,?_,λk b c=>?_⟩;.simp;exact h.size
 .rw[Below.heap_setCell w' (g,o) v k (by
   show k≠g;obtain rfl|a:=a;.simp_all
   .omega)]
  exact h.block k b c
end
open Tryz
section
variable[Go.Proofs.VB]
structure St where
 steps:Nat
 l:List Int
inductive xH(α:Type) where
 |ok (a:α) (s:St)
 |bad (e:Int) (steps:Nat)
def Dn(x:Int):Value:=.int .u64 x
def tE(id:ByteArray)(h:Int)(s:St)(abp:List Int):List Value:=[.string id,.int .u64 h,.int .i64 s.steps]++((s.l.reverse++abp).map Dn++[.int .i64 s.l.length])
structure iI(w:World)(b:Nat)(id:ByteArray)(h:Int)(s:St):Prop where
 row:∃abp:List Int,Row w b 279 (tE id h s abp)/\s.l.length+abp.length=16
 xE:∀x∈s.l,0<=x/\x<18446744073709551616
 steps:s.steps<=40
 Bi:0<=h/\h<18446744073709551616
def Mc(e:Int):List PanicEntry:=[{v:=.iface 45 (.int .i64 e),recovered:=false}]
def aU{α:Type}(P:α->Value)(w:World)(b:Nat)(id:ByteArray)(h:Int)(r:xH α)(e:Ending)(w':World):Prop:=w.grownBy w' (some b)/\match r with
 |.ok a s=>e=.returned (P a)/\iI w' b id h s
 |.bad k n=>e=.panicked (Mc k)/\∃s,s.steps=n/\iI w' b id h s
def jY(_:Unit):Value:=.tuple #[]
def Jl(w:World)(n r):w.grownBy (w.drewN n) r:=⟨rfl,rfl,rfl,L9,λ_ _ _=>rfl⟩
def iI.n{w b id h s}(a:iI w b id h s)(n):iI (w.drewN n) b id h s:=⟨a.row,a.xE,a.steps,a.Bi⟩
def wE(s:St):xH Unit:=if s.steps=40 then .bad 4 40 else .ok () ⟨s.steps+1,s.l⟩
def qM(x:Int)(s:St):xH Unit:=if s.l.length=16 then .bad 3 s.steps else .ok () ⟨s.steps,x::s.l⟩
def kW(s:St):xH Int:=match s.l with
 |[]=>.bad 3 s.steps
 |x::l=>.ok x ⟨s.steps,l⟩
def qo(w:World)(b o v):w.grownBy (w.setCell ⟨b,o,none⟩ v) (some b):=Bo (aZ w _) b (.inl rfl) o v
def fI{w w':World}{r}(h:w.grownBy w' r):w.grownBy w'.drew r:=⟨h.os,h.tape,h.output,h.size,h.block⟩
def uB(id h s a)(b:s.l.length+a.length=16):(tE id h s a)[19]?=some (.int .i64 s.l.length):=by unfold tE;rw[dU S8,dU (by simp;omega)];simp;rw[show 19 -(0+1+1+1) -(s.l.length+a.length)=0 from by omega];rfl
def HT(id h n x l a):(tE id h ⟨n,x::l⟩ a)[3+l.length]?=some (.int .u64 x):=by unfold tE;rw[dU S8,mG S8];simp[Dn]
def Pd(id h n y l a):(tE id h ⟨n,l⟩ (y::a))[3+l.length]?=some (.int .u64 y):=by unfold tE;rw[dU S8,mG S8];simp[Dn]
def abq(x y n m l a k k2)(b:k=l.length)(c:k2=l.length+1+a.length):(((l++(y::a)).map Dn++[n]).set k (.int .u64 x)).set k2 m=((l++[x])++a).map Dn++[m]:=by
 subst b c;simp[Dn,Vz,Nat.add_comm 1]
def TY(id h n x y l a)(b:l.length+(a.length+1)=16):((tE id h ⟨n,l⟩ (y::a)).set (3+l.length) (.int .u64 x)).set 19 ↑((l.length:Int)+1)=tE id h ⟨n,x::l⟩ a:=by
 unfold tE;rw[uR _ _ S8,uR _ _ S8,abq x y _ _ l.reverse a _ _ S8 (by simp;omega)];simp
def Pe(id h n x l a)(b:l.length+1+a.length=16):(tE id h ⟨n,x::l⟩ a).set 19 (l.length:Int)=tE id h ⟨n,l⟩ (x::a):=by
 unfold tE;rw[uR _ _ S8,uR _ _ (by simp;omega)];simp only[fG,jW,fC,bW,zj];rw[show 19 -(0+1+1+1) -(l.length+1+a.length)=0 from by omega];simp
def Bl(w b id h s)(a:iI w b id h s):Cv 194 #[.pointer b] w (aU jY w b id h (wE s)):=by
 have⟨f,d,e⟩:=a.row;have c2:=d.cell 2;have i:=d.frozen 2;have g:=a.steps;replace c2:w.cell? (b,2)=some ↑s.steps:=c2;by_cases c:s.steps=40;.go_enter fA func194,ntmps194;go_wp2;refine⟨rfl,aZ _ _,?_⟩;unfold wE;rw[bE c];exact⟨rfl,s,c,a⟩
 .go_enter fA func194,ntmps194;go_wp2;go_end0;unfold wE;rw[aS c];refine⟨qo _ _ _ _,rfl,⟨f,?_,e⟩,a.xE,?_,a.Bi⟩;.exact d.set 2 ↑((s.steps:Int)+1)
  .grind
def mV(w b id h x s)(d:iI w b id h s)(m:0<=x/\x<18446744073709551616):Cv 195 #[.pointer b,.int .u64 x] w (aU jY w b id h (qM x s)):=by
 have⟨e,a,c⟩:=d.row;have c2:=(a.cell 19).trans (uB id h s e c);have p:=a.frozen 19;by_cases f:s.l.length=16
 .have k:((s.l.length:Int)==16)=true:=by rw[f];rfl
  go_enter fA func195,ntmps195;go_wp2;refine⟨rfl,aZ _ _,?_⟩;unfold qM;rw[bE f];exact⟨rfl,s,rfl,d⟩
 .have k:((s.l.length:Int)==16)=false:=by simpa using(by omega:¬(s.l.length:Int)=16)
  have o:0<=(s.l.length:Int)/\(s.l.length:Int)<16:=O9;have q:=a.frozen (3+s.l.length);have⟨n,l⟩:=s;cases e with
  |nil=>exact absurd c f
  |cons y e=>
    have c3:=(a.cell (3+l.length)).trans (Pd id h n y l e);go_enter fA func195,ntmps195;go_wp2;go_region;have i:=a.set (3+l.length) (.int .u64 x);have c4:=i.cell 19;rw[sV O9,uB _ _ _ _ c]at c4;go_wp2;go_end0;unfold qM;rw[aS f];refine⟨fI ((qo _ _ _ _).trans (qo _ _ _ _)),rfl,⟨e,?_,by simp only[fG]at c|-;omega⟩,?_,d.steps,d.Bi⟩;.have j:=i.set 19 ↑((l.length:Int)+1);rw[TY _ _ _ _ _ _ _ c]at j;exact j
    .intro z g;obtain rfl|g:=iL.1 g;.exact m
     .exact d.xE z g
def kP(w b id h s)(a:iI w b id h s):Cv 201 #[.pointer b] w (aU Dn w b id h (kW s)):=by
 have⟨e,c,d⟩:=a.row;have c2:=(c.cell 19).trans (uB id h s e d);have j:=c.frozen 19;have⟨n,l⟩:=s;cases l with
 |nil=>go_enter fA func201,ntmps201;go_wp2;exact⟨rfl,aZ _ _,rfl,_,rfl,a⟩
 |cons x l=>have i:=(c.cell (3+l.length)).trans (HT id h n x l e);simp at d;go_enter fA func201,ntmps201;go_wp2;go_region;go_wp2;go_ret;refine⟨fI (qo _ _ _ _),rfl,⟨x::e,?_,by simp;omega⟩,λz g=>a.xE z (VP _ g),a.steps,a.Bi⟩;have f:=c.set 19 ↑(l.length:Int);rw[Pe _ _ _ _ _ _ d]at f;exact f
def abo(s:St):xH Unit:=match s.l with
 |[]=>.bad 7 s.steps
 |x::l=>if x=0 then .bad 7 s.steps else .ok () ⟨s.steps,x::l⟩
def Yx(w b id h s)(a:iI w b id h s):Cv 180 #[.pointer b] w (aU jY w b id h (abo s)):=by
 have⟨f,c,e⟩:=a.row;have c2:=(c.cell 19).trans (uB id h s f e);have m:=c.frozen 19;have⟨n,l⟩:=s;cases l with
 |nil=>replace c2:=c2;go_enter fA func180,ntmps180;go_wp2;go_quiet (fail);go_wp2;exact⟨rfl,Jl w _ _,rfl,_,rfl,a.n nq⟩
 |cons x l=>
   have j:=(c.cell (3+l.length)).trans (HT id h n x l f);replace c2:=c2;simp only[fG]at e;have g:(((l.length:Int)+1)==0)=false:=by simpa using(by omega:¬(l.length:Int)+1=0)
   have i:0<=(l.length:Int)/\(l.length:Int)<16:=O9;by_cases d:x=0;.subst d;go_enter fA func180,ntmps180;go_wp2;go_quiet (fail);go_wp2;exact⟨rfl,Jl w _ _,rfl,_,rfl,a.n nq⟩
   .have k:(x==0)=false:=by simpa using d
    go_enter fA func180,ntmps180;go_wp2;go_quiet (fail);go_wp2;go_end0;unfold abo;simp only[aS d];exact⟨Jl w _ _,rfl,a.n nq⟩
def ot(b:Bool):Int:=if b then 1 else 0
def Bj(a w):Cv 203 #[.bool a] w λe w'=>e=.returned (.int .u64 (ot a))/\w'=w:=by
 cases a;.go_enter fA func203,ntmps203;go_wp2;go_ret;exact⟨rfl,rfl⟩
 .go_enter fA func203,ntmps203;go_wp2;go_ret;exact⟨rfl,rfl⟩
structure RS where
 l:List UInt8
 bad:Bool
def rB(w:World)(rb:Nat)(r:RS):Prop:=Row w rb 188 [.string (mk r.l),.bool r.bad]
structure vE(w w':World)(rb:Nat)(r:RS):Prop where
 at_:rB w' rb r
 grown:w.grownBy w' (some rb)
def vE.trans{a b c rb r s}(h:vE a b rb r)(k:vE b c rb s):vE a c rb s:=⟨k.at_,h.grown.trans k.grown⟩
def vE.below{a b c rb r}(h:vE a b rb r)(d:Below b b c):vE a c rb r:=⟨Row.keep h.at_ d (Row.lt h.at_),h.grown.trans ⟨d.os,d.tape,d.output,d.size,λk e _=>d.block k e⟩⟩
def RS.take(r:RS)(n:Nat):List UInt8×RS:=if r.bad||decide (r.l.length<n)then([],⟨r.l,true⟩)else(r.l.take n,⟨r.l.drop n,false⟩)
def JM(l n):(mk l).extract 0 n=mk (l.take n):=by apply ByteArray.ext;simp[mk]
def JN(l n):(mk l).extract n l.length=mk (l.drop n):=by apply ByteArray.ext;simp[mk];exact QG S8
def JO{w rb r}(h:rB w rb r)(s j v)(e:[Value.string (mk r.l),Value.bool r.bad].set j v=[↑(mk s.l),.bool s.bad]):vE w (w.setCell (rb,j) v) rb s:=by
 refine⟨?_,?_⟩;.have:=Row.set h j v;rw[e]at this;exact this
 .refine⟨rfl,rfl,rfl,?_,λk _ a=>?_⟩;.simp
  .exact Below.heap_setCell w (rb,j) v k (by show k≠rb;intro e;exact a (by rw[e]))
def ND(rb r)(n:Nat)(w)(a:rB w rb r)(f:n<=1000):Cv 142 #[.pointer rb,n] w λe w'=>e=.returned (mk (r.take n).1)/\vE w w' rb (r.take n).2:=by
 have h0:w.cell? (rb,0)=some ↑(mk r.l):=NF a 0;have d:w.cell? (rb,1)=some (.bool r.bad):=NF a 1;have f0:=aai a 0;have f1:=aai a 1;have g:=dF r.l;cases b:r.bad;case true=>
  rw[b]at d;go_enter fA func142,ntmps142;go_wp2;go_ret;have e:r.take n=([],⟨r.l,true⟩):=by simp[RS.take,b]
  rw[e];exact⟨rfl,JO a _ 1 _ rfl⟩
 rw[b]at d;by_cases c:(mk r.l).size<n
 .go_enter fA func142,ntmps142;go_wp2;go_ret;have e:r.take n=([],⟨r.l,true⟩):=by rw[dF]at c;simp[RS.take,c]
  rw[e];exact⟨rfl,JO a _ 1 _ rfl⟩
 .go_enter fA func142,ntmps142;go_wp2;go_ret;have e:r.take n=(r.l.take n,⟨r.l.drop n,false⟩):=by rw[dF]at c;simp[RS.take,b,c]
  rw[e];refine⟨congrArg (λs=>Ending.returned (.string s)) (JM r.l n),?_⟩;rw[JN];exact JO a _ 0 _ (by simp[b])
def Vd(n:Nat):List Value:=(madeCells #[.int .u8 0] (n*1)).toList
def SA(n):(Vd n).length=n:=by unfold Vd;rw[Array.length_toList,size_madeCells];omega
def af5(n:Nat)(h:n<=1000000)(w):(Instr.makeSlice 127 (n:Int) (n:Int)).run Vp w=.ok (.slice (w:Nat) n n) (w.alloc (.cells (Vd n).toArray 5)):=by have⟨d,hi,a,b,c⟩:=info_parts HP;have:=vI (P:=Vp) w 127 5 d _ aI.underlying127 hi a .i64 .i64 (n:Int) (n:Int) O9 (mH _) (by rw[c];omega) O9;rw[this,b];simp[Vd,Value.cells]
def af6(w:World)(l ty):(Builtin.copy_ #[127,9] ty #[.slice (w:Nat) l.length l.length,(mk l)]).run Vp (w.alloc (.cells (Vd l.length).toArray 5))=.ok l.length (w.alloc (.cells (bv l).toArray 5)):=by
 have⟨i,hi,f,d,g⟩:=info_parts HP;have a:=run_storeCells_at Vp w 0 5 (bv l) 0 (Vd l.length).toArray (w.alloc (.cells (Vd l.length).toArray 5)) (uT w _) (by simp[qj,SA]) (E8 l);simp at a;rw[Qe,show(Vd l.length).drop (bv l).length=[]from by rw[List.drop_eq_nil_iff,SA,qj];exact L9,nE]at a;have b:(Builtin.firstCells 1 l.length (mk l)).run Vp (w.alloc (.cells (Vd l.length).toArray 5))=.ok (bv l).toArray (w.alloc (.cells (Vd l.length).toArray 5)):=by have h:=Go.Lib.run_firstCells_string (P:=Vp) (w.alloc (.cells (Vd l.length).toArray 5)) 1 (mk l);exact h
 have c:(Builtin.lenOf (mk l)).run Vp (w.alloc (.cells (Vd l.length).toArray 5))=.ok l.length (w.alloc (.cells (Vd l.length).toArray 5)):=by simp[Builtin.lenOf,dF]
 have e:Nat.min l.length l.length=l.length:=Nat.min_self _;simp[Builtin.copy_,typeInfo,hi,d,c,b,a,goInt]
def aI.aaj:Vp.cellsOf 5=1:=K8
def JP(w g n){B a}(h:Below B a w)(b:B<=g):Below B a (w.freeze (g,0) n):=by
 unfold World.freeze;split;.exact h
 .refine h.trans ⟨rfl,rfl,rfl,S8,λk c=>?_⟩;simp only[Kc];rw[aS (by show¬g=k;omega)]
def Ve(l w)(c:l.length<=1000000):Cv 158 #[(mk l)] w λe w'=>e=.returned (mk l)/\Below w w w':=by
 have i:=dF l;by_cases h0:l=[];.subst h0;go_enter fA func158,ntmps158;go_wp2;go_ret;exact⟨rfl,B0⟩
 .have d:0<l.length:=by
   obtain _|⟨a,l⟩:=l;.simp_all
   .simp
  have g:=af5 l.length c;have f:=af6 w l;have h:=Go.Lib.run_unsafeString_row (P:=Vp) (w.alloc (.cells (bv l).toArray 5)) 268 3 9 5 aI.underlying268 aI.aaj ↑w l.length (by simp only[World.shape?,uT];simp[qj]) l h0 L9 O9 (λj x b=>by
     have e:(((w:Nat),0):Addr).add j=((w:Nat),j):=by unfold Addr.add;split<;>simp_all
     rw[e];simp[bv,b])
  go_enter fA func158,ntmps158;go_wp2;go_ret;exact⟨rfl,JP _ _ _ (B0.alloc L9 _) L9⟩
def Qf(l w)(b:l.length<=1000000):Cv 141 #[(mk l)] w λe w'=>e=.returned (mk l)/\Below w w w':=by
 go_enter fA func141,ntmps141;go_wp2;refine(Ve l w b).m1 λw' a=>?_;go_wp2;go_ret;exact⟨rfl,a⟩
def take_len(r:RS)(n):(r.take n).1.length<=n:=by
 unfold RS.take;split;.simp
 .simp_all
def F8(rb r)(n:Nat)(w)(d:rB w rb r)(c:n<=1000):Cv 119 #[.pointer rb,n] w λe w'=>e=.returned (mk (r.take n).1)/\vE w w' rb (r.take n).2:=by
 go_enter fA func119,ntmps119;go_wp2;refine(ND rb r n w d c).m1 λw1 a=>?_;go_wp2;refine(Qf (r.take n).1 w1 (by have:=take_len r n;omega)).m1 λw2 b=>?_;go_wp2;go_ret;exact⟨rfl,a.below b⟩
def gB(t:List UInt8):Int:=t.foldl (λn c=>n*256+(c.toNat:Int)) 0
def Fe(t c):gB (t++[c])=gB t*256+(c.toNat:Int):=by simp[gB]
def ID:∀(t:List UInt8) (a:Int),0<=a->0<=t.foldl (λn c=>n*256+(c.toNat:Int)) a/\t.foldl (λn c=>n*256+(c.toNat:Int)) a<(a+1)*256^t.length
 |[],a,h=>by simp;omega
 |c::t,a,h=>by have f:=c.toNat_lt;have⟨b,d⟩:=ID t (a*256+(c.toNat:Int)) O9;refine⟨b,DV d ?_⟩;rw[fG,Int.pow_succ];have e:(0:Int)<256^t.length:=Int.pow_pos D9;rw[show(a+1)*(256^t.length*256)=(a+1)*256*256^t.length from by rw[Int.mul_assoc,Int.mul_comm 256]];exact Int.mul_le_mul_of_nonneg_right O9 (VL e)
def Fb(t):0<=gB t/\gB t<256^t.length:=by have:=ID t 0 O9;simpa[gB]using this
def NI(t)(h:t.length<=4):0<=gB t/\gB t<4294967296:=by have⟨a,b⟩:=Fb t;refine⟨a,DV b ?_⟩;have c:t.length=0\/t.length=1\/t.length=2\/t.length=3\/t.length=4:=O9;obtain e|e|e|e|e:=c<;>rw[e]<;>decide
def acx(w t):∃c w',(convert 9 127 (mk t)).run Vp w=.ok (.slice (w:Nat) t.length c) w'/\Below w w w'/\∀j (a:j<t.length),w'.cell? ((w:Nat),j)=some (.int .u8 (t[j].toNat:Int)):=by
 have h:=Go.Lib.run_convert_string_bytes (P:=Vp) w 9 127 5 (mk t) aI.underlying9 aI.underlying127 aI.underlying5;refine⟨_,_,h,?_,λj a=>?_⟩;.refine⟨rfl,rfl,rfl,by rw[Go.Lib.bytesWorld_size];omega,λk b=>Go.Lib.bytesWorld_at_old w _ _ k b⟩
 .rw[Go.Lib.bytesWorld_cell _ _ _ _ (by rw[dF];exact a)];simp[mk,a]
def acy(a)(b:Nat)(h0:0<=a)(e:a<4294967296)(c:b<256):bits .or .i64 (a*256) (b:Int)=a*256+(b:Int):=by obtain⟨n,rfl⟩:=Cb h0;have d:n*256<18446744073709551616:=O9;have f:=nat_join8 (n*256) b O9 c;show IntKind.i64.wrap ((BitVec.ofInt 64 ((n:Int)*256)|||BitVec.ofInt 64 (b:Int)).toNat:Int)=_;rw[BitVec.toNat_or,show((n:Int)*256)=((n*256:Nat):Int)from by simp,ofInt_u64 (n*256) d,ofInt_u64 b O9,vH];omega
def RS.fail(r:RS):RS:=⟨r.l,true⟩
def RS.number(r:RS)(width:Nat)(lo hi:Int):Int×RS:=let t:=r.take width;let n:=gB t.1;if p9 n lo hi then(if t.2.bad then(0,t.2)else(n,t.2))else(0,t.2.fail)
def kE(rb r)(width:Nat)(lo hi w)(p:rB w rb r)(y:width<=4):Cv 120 #[.pointer rb,width,.int .i64 lo,.int .i64 hi] w λe w'=>e=.returned ((r.number width lo hi).1)/\vE w w' rb (r.number width lo hi).2:=by
 go_enter fA func120,ntmps120;go_wp2;refine(ND rb r width w p O9).m1 λw1 h=>?_;have s:=take_len r width;have H:Hid (r.number width lo hi=if p9 (gB (r.take width).1) lo hi then(if(r.take width).2.bad then(0,(r.take width).2)else(gB (r.take width).1,(r.take width).2))else(0,(r.take width).2.fail)):=rfl;generalize(r.take width).1=t at s H|-;generalize(r.take width).2=r1 at h H|-;have A:=dF t;have⟨c,w2,v,m,f⟩:=acx w1 t;have a:=h.below m;replace f:=aL f;go_wp2;go_loop [9,17] (λn i=>∃k,k<=t.length/\i=k/\n=(gB (t.take k))) (λ_ i=>t.length -(intOf i).toNat);exact⟨0,eX _,rfl,rfl⟩;case round=>
  obtain⟨k,x,rfl,rfl⟩:=hrel;have d:=NI (t.take k) (by simp;omega);by_cases j:k<t.length
  .have u:=f.out k j;have l:t.take (k+1)=t.take k++[t[k]]:=by rw[vR j]
   have q:Hid (gB (t.take (k+1))=gB (t.take k)*256+(t[k].toNat:Int)):=by unfold Hid;rw[l];exact Fe _ _
   clear l;have z:=t[k].toNat_lt;go_wp2;go_round;exact⟨k+1,O9,by go_num,by rw[q.out,acy _ _ d.1 d.2 O9]⟩;simp[intOf];omega
  .have o:k=t.length:=O9;subst o;rw[iB]at d|-;have c1:w2.cell? (rb,1)=some (.bool r1.bad):=NF a.at_ 1;have f1:=aai a.at_ 1;go_wp2;refine(gN _ _ _ _).m0 ?_;cases g:p9 (gB t) lo hi
   .go_wp2;go_ret;have e:r.number width lo hi=(0,r1.fail):=by rw[H.out,g];rfl
    rw[e];exact⟨rfl,a.trans (JO a.at_ r1.fail 1 _ rfl)⟩
   .cases b:r1.bad
    .rw[b]at c1;go_wp2;go_ret;have e:r.number width lo hi=(gB t,r1):=by rw[H.out,g,b];rfl
     rw[e];exact⟨rfl,a⟩
    .rw[b]at c1;go_wp2;go_ret;have e:r.number width lo hi=(0,r1):=by rw[H.out,g,b];rfl
     rw[e];exact⟨rfl,a⟩
def RS.code(r:RS):List UInt8×RS:=let n:=r.number 1 0 32;n.2.take n.1.toNat
def xB(r:RS)(width lo hi)(h0:0<=hi)(a:0<=lo):0<=(r.number width lo hi).1/\(r.number width lo hi).1<=hi:=by
 unfold RS.number;dsimp only;split
 .rename_i h;simp[p9]at h;split;.omega
  .omega
 .omega
def NH(rb r w)(g:rB w rb r):Cv 159 #[.pointer rb] w λe w'=>e=.returned (mk r.code.1)/\vE w w' rb r.code.2:=by
 go_enter fA func159,ntmps159;go_wp2;refine(kE rb r 1 0 32 w g O9).m1 λw1 a=>?_;have d:=xB r 1 0 32 O9 O9;have⟨n,f⟩:=Cb d.1;have c:Hid (r.code=(r.number 1 0 32).2.take n):=by unfold Hid RS.code;dsimp only;rw[f];rfl
 generalize(r.number 1 0 32).2=r1 at a c|-;go_wp2;refine(F8 rb r1 n w1 a.at_ O9).m1 λw2 b=>?_;rw[<-c.out]at b|-;go_wp2;go_ret;exact⟨rfl,a.trans b⟩
def pG(s)(j:Nat)(i)(hi:i=(j:Int))(a:j<s.length)(W):(Instr.index 9 (mk s) i).run Vp W=.ok (.int .u8 ((s.getD j 0).toNat:Int)) W:=by
 subst hi;have h0:(0:Int)<=(j:Int):=O9;have b:(mk s)[j]?=some (s.getD j 0):=by
  have c:j<(mk s).size:=by rw[dF];exact a
  rw[getElem?_pos (mk s) j c];simp[a];rfl
 simp[Instr.index,asIntOf,b]
def vE.row{w w' rb r}(h:vE w w' rb r){g t cs}(a:Row w g t cs)(b:g≠rb):Row w' g t cs:=(h.grown.block g a.lt (by simpa using b)).trans a
def rB.alloc{w rb r}(h:rB w rb r)(o):rB (w.alloc o) rb r:=Row.alloc h o
def rB.lt{w rb r}(h:rB w rb r):rb<w:=Row.lt h
def rB.aO{w rb r}(h:rB w rb r)(a v)(b:rb≠a.block):rB (w.setCell a v) rb r:=(Below.heap_setCell w a v rb b).trans h
def bC{a w:World}{r}(h:a.grownBy w r)(p v)(d:↑a<=p.block):a.grownBy (w.setCell p v) r:=by
 refine⟨h.os,h.tape,h.output,?_,λk b c=>?_⟩;.simp;exact h.size
 .rw[Below.heap_setCell w p v k O9];exact h.block k b c
def cD{a w:World}{r}(h:a.grownBy w r)(o):a.grownBy (w.alloc o) r:=h.trans (Wa w o r)
def yK(r:RS):jV×RS:=let a:=r.take 8;let b:=a.2.number 1 0 255;let c:=b.2.code;(⟨mk a.1,b.1,mk c.1⟩,c.2)
def rP(r:RS):fL×RS:=let b:=r.number 4 0 4294967295;let c:=b.2.code;(⟨b.1,mk c.1⟩,c.2)
def aal(rb r w)(n:rB w rb r):Cv 143 #[.pointer rb] w λe w'=>e=.returned (.agg #[(yK r).1.tx,(yK r).1.idx,(yK r).1.key])/\vE w w' rb (yK r).2:=by
 have y:=n.lt;go_enter fA func143,ntmps143;go_wp2;refine(F8 rb r 8 _ ((n.alloc _).alloc _) O9).m1 λw1 j=>?_;have b:=j.row ((aX w [aB,aA,aB] 133).alloc _) O9;have a:Row w1 ((w:Nat)+1) 133 [aB,aA,aB]:=by have:=j.row (aX (w.alloc (.cells #[aB,aA,aB] 133)) [aB,aA,aB] 133) (by simp only[bJ];omega);simpa only[bJ]using this
 have c:=(cD (cD (aZ w _) _) _).trans j.grown;have g:=j.at_;clear j;have H:Hid (yK r=(⟨mk (r.take 8).1,((r.take 8).2.number 1 0 255).1,mk ((r.take 8).2.number 1 0 255).2.code.1⟩,((r.take 8).2.number 1 0 255).2.code.2)):=rfl;generalize(r.take 8).1=f at H|-;generalize(r.take 8).2=r1 at H g|-;have c0:=a.r 0;have f0:=a.frozen 0;go_wp2;clear c0 f0;replace b:=b.aO ((w:Nat)+1,0) (mk f) (by show(w:Nat)≠(w:Nat)+1;omega);replace a:=a.set 0 (mk f);replace g:=g.aO ((w:Nat)+1,0) (mk f) (by show rb≠(w:Nat)+1;omega);replace c:=bC c ((w:Nat)+1,0) (mk f) (by show(w:Nat)<=(w:Nat)+1;omega);generalize w1.setCell ⟨(w:Nat)+1,0,none⟩ (mk f)=w2 at b a g c|-;refine(kE rb r1 1 0 255 _ g O9).m1 λw3 k=>?_;replace b:=k.row b O9;replace a:=k.row a O9;replace c:=c.trans k.grown;have h:=k.at_;clear k g;generalize(r1.number 1 0 255).1=d at H|-;generalize(r1.number 1 0 255).2=r2 at H h|-;have c0:=a.r 1;have f0:=a.frozen 1;go_wp2;clear c0 f0;replace b:=b.aO ((w:Nat)+1,1) d (by show(w:Nat)≠(w:Nat)+1;omega);replace a:=a.set 1 d;replace h:=h.aO ((w:Nat)+1,1) d (by show rb≠(w:Nat)+1;omega);replace c:=bC c ((w:Nat)+1,1) d (by show(w:Nat)<=(w:Nat)+1;omega);generalize w3.setCell ⟨(w:Nat)+1,1,none⟩ d=w4 at b a h c|-;refine(NH rb r2 _ h).m1 λi l=>?_;replace b:=l.row b O9;replace a:=l.row a O9;replace c:=c.trans l.grown;have m:=l.at_;clear l h;generalize r2.code.1=s at H|-;generalize r2.code.2=r3 at H m|-;have o:=b.r 0;have p:=b.r 1;have q:=b.r 2;have t:=b.frozen 0;have u:=b.frozen 1;have x:=b.frozen 2;have c0:i.cell? ((w:Nat)+1,0)=some (mk f):=a.cell 0;have c1:i.cell? ((w:Nat)+1,1)=some d:=a.cell 1;have c2:=a.r 2;have f2:=a.frozen 2;go_wp2;rw[H.out];refine nG (v:=.agg #[(mk f),d,(mk s)]) (by simp[results,results143,go_sem,o,p,q]) rfl ⟨rfl,?_,?_⟩
 .refine(((m.aO _ _ ?_).aO _ _ ?_).aO _ _ ?_).aO _ _ ?_;.show rb≠(w:Nat)+1;omega
  all_goals(show rb≠(w:Nat);omega)
 .refine bC (bC (bC (bC c _ _ ?_) _ _ ?_) _ _ ?_) _ _ ?_;.show(w:Nat)<=(w:Nat)+1;omega
  all_goals exact L9
def Vh(rb r w)(k:rB w rb r):Cv 144 #[.pointer rb] w λe w'=>e=.returned (.agg #[(rP r).1.val,(rP r).1.lock])/\vE w w' rb (rP r).2:=by
 have q:=k.lt;go_enter fA func144,ntmps144;go_wp2;refine(kE rb r 4 0 4294967295 _ ((k.alloc _).alloc _) O9).m1 λw1 g=>?_;have b:=g.row ((aX w [aA,aB] 69).alloc _) O9;have a:Row w1 ((w:Nat)+1) 69 [aA,aB]:=by have:=g.row (aX (w.alloc (.cells #[aA,aB] 69)) [aA,aB] 69) (by simp only[bJ];omega);simpa only[bJ]using this
 have f:=(cD (cD (aZ w _) _) _).trans g.grown;have d:=g.at_;clear g;have H:Hid (rP r=(⟨(r.number 4 0 4294967295).1,mk (r.number 4 0 4294967295).2.code.1⟩,(r.number 4 0 4294967295).2.code.2)):=rfl;generalize(r.number 4 0 4294967295).1=c at H|-;generalize(r.number 4 0 4294967295).2=r2 at H d|-;have c0:=a.r 0;have f0:=a.frozen 0;go_wp2;clear c0 f0;replace b:=b.aO ((w:Nat)+1,0) c (by show(w:Nat)≠(w:Nat)+1;omega);replace a:=a.set 0 c;replace d:=d.aO ((w:Nat)+1,0) c (by show rb≠(w:Nat)+1;omega);replace f:=bC f ((w:Nat)+1,0) c (by show(w:Nat)<=(w:Nat)+1;omega);generalize w1.setCell ⟨(w:Nat)+1,0,none⟩ c=w4 at b a d f|-;refine(NH rb r2 _ d).m1 λi h=>?_;replace b:=h.row b O9;replace a:=h.row a O9;replace f:=f.trans h.grown;have j:=h.at_;clear h d;generalize r2.code.1=n at H|-;generalize r2.code.2=r3 at H j|-;have l:=b.r 0;have m:=b.r 1;have o:=b.frozen 0;have p:=b.frozen 1;have c0:i.cell? ((w:Nat)+1,0)=some c:=a.cell 0;have c1:=a.r 1;have f1:=a.frozen 1;go_wp2;rw[H.out];refine nG (v:=.agg #[c,(mk n)]) (by simp[results,results144,go_sem,l,m]) rfl ⟨rfl,?_,?_⟩
 .refine((j.aO _ _ ?_).aO _ _ ?_).aO _ _ ?_;.grind
  all_goals(show rb≠(w:Nat);omega)
 .refine bC (bC (bC f _ _ ?_) _ _ ?_) _ _ ?_;.simp
  all_goals exact L9
def kY:Nat->RS->List jV×RS
 |0,r=>([],r)
 |n+1,r=>((kY n r).1++[(yK (kY n r).2).1],(yK (kY n r).2).2)
def jD:Nat->RS->List fL×RS
 |0,r=>([],r)
 |n+1,r=>((jD n r).1++[(rP (jD n r).2).1],(rP (jD n r).2).2)
def IE(n r):(kY n r).1.length=n:=by induction n with
 |zero=>rfl
 |succ n a=>simp[kY,a]
def Ga(n r):(jD n r).1.length=n:=by induction n with
 |zero=>rfl
 |succ n a=>simp[jD,a]
structure yc where
 tag:Int
 ins:List jV
 outs:List fL
def Bw(r:RS)(first:Bool):yc×RS:=let a:=r.number 2 0 65535;let b:=a.2.number 1 (Uc first) (NN first);let c:=kY b.1.toNat b.2;let d:=c.2.number 1 1 8;let e:=jD d.1.toNat d.2;(⟨a.1,c.1,e.1⟩,e.2)
def YP(n:Nat)(h:n<=1000)(w):(Instr.makeSlice 71 (n:Int) (n:Int)).run Vp w=.ok (.slice (w:Nat) n n) (w.alloc (.cells (H6 n).toArray 133)):=by have⟨d,hi,a,b,c⟩:=info_parts adA;have:=vI (P:=Vp) w 71 133 d _ aI.underlying71 hi a .i64 .i64 (n:Int) (n:Int) O9 (mH _) (by rw[c];omega) O9;rw[this,b];simp[H6,Value.cells]
def aeO(n:Nat)(h:n<=1000)(w):(Instr.makeSlice 70 (n:Int) (n:Int)).run Vp w=.ok (.slice (w:Nat) n n) (w.alloc (.cells (Vr n).toArray 69)):=by have⟨d,hi,a,b,c⟩:=info_parts adB;have:=vI (P:=Vp) w 70 69 d _ aI.underlying70 hi a .i64 .i64 (n:Int) (n:Int) O9 (mH _) (by rw[c];omega) O9;rw[this,b];simp[Vr,Value.cells]
def aeN(n:Nat)(h:n<=1000)(w):(Instr.makeSlice 74 (n:Int) (n:Int)).run Vp w=.ok (.slice (w:Nat) n n) (w.alloc (.cells (mdT n).toArray 73)):=by have⟨d,hi,a,b,c⟩:=info_parts Y8;have:=vI (P:=Vp) w 74 73 d _ aI.underlying74 hi a .i64 .i64 (n:Int) (n:Int) O9 (mH _) (by rw[c];omega) O9;rw[this,b];simp[mdT,Value.cells]
def BA(l d)(a b c:Value)(n)(f:l.length=n)(e:3<=d.length):(((l++d).set n a).set (n+1) b).set (n+2) c=l++[a,b,c]++d.drop 3:=by match d,e with
 |x::y::z::d,_=>subst f;simp[show l.length+1 -l.length=1 from by omega]
def Vi(l d)(a b:Value)(n)(e:l.length=n)(c:2<=d.length):((l++d).set n a).set (n+1) b=l++[a,b]++d.drop 2:=by match d,c with
 |x::y::d,_=>subst e;simp[show l.length+1 -l.length=1 from by omega]
def uP{w w':World}{r}(h:w.drew.grownBy w' r):w.grownBy w' r:=⟨h.os,h.tape,h.output,h.size,h.block⟩
def BB(l x):mZ (l++[x])=mZ l++[.string x.tx,.int .i64 x.idx,.string x.key]:=by simp[mZ,jV.cells]
def F7(l x):lO (l++[x])=lO l++[.int .i64 x.val,.string x.lock]:=by simp[lO,fL.cells]
structure af7(a w:World)(v:Value)(t:yc)(gi go:Nat):Prop where
 val:v=.agg #[.int .i64 t.tag,.slice (some ⟨gi,0,none⟩) t.ins.length t.ins.length,.slice (some ⟨go,0,none⟩) t.outs.length t.outs.length]
 lt:a.heap.size<=gi
 ne:gi<go
 ins:Row w gi 133 (mZ t.ins)
 outs:Row w go 69 (lO t.outs)
def aak(rb r first w)(O:rB w rb r):Cv 121 #[.pointer rb,.bool first] w λe w'=>∃v gi go,e=.returned v/\af7 w w' v (Bw r first).1 gi go/\vE w w' rb (Bw r first).2:=by
 have a4:=O.lt;go_enter fA func121,ntmps121;go_wp2_with (go_at_call 132;refine(mY _ _).mono ?_;rintro e w' ⟨rfl,rfl⟩);refine(kE rb r 2 0 65535 _ ((O.alloc _).alloc _) O9).m1 λw1 F=>?_;have c:=F.row ((aX w [aA,(),()] 73).alloc _) O9;have a:Row w1 ((w:Nat)+1) 73 [aA,(),()]:=by have:=F.row (aX (w.alloc (.cells #[aA,(),()] 73)) [aA,(),()] 73) (by simp only[bJ];omega);simpa only[bJ]using this
 have d:=(cD (cD (aZ w _) _) _).trans F.grown;have z:=F.at_;have H:Hid (∀b,b=(r.number 2 0 65535).2.number 1 (Uc first) (NN first)->Bw r first=(⟨(r.number 2 0 65535).1,(kY b.1.toNat b.2).1,(jD ((kY b.1.toNat b.2).2.number 1 1 8).1.toNat ((kY b.1.toNat b.2).2.number 1 1 8).2).1⟩,(jD ((kY b.1.toNat b.2).2.number 1 1 8).1.toNat ((kY b.1.toNat b.2).2.number 1 1 8).2).2)):=by intro b S;subst S;rfl
 generalize(r.number 2 0 65535).1=tag at H|-;generalize(r.number 2 0 65535).2=r1 at H z|-;have c0:=a.r 0;have f0:=a.frozen 0;go_wp2;replace c:=c.aO ((w:Nat)+1,0) ↑tag (by show(w:Nat)≠(w:Nat)+1;omega);replace a:=a.set 0 ↑tag;replace z:=z.aO ((w:Nat)+1,0) ↑tag (by show rb≠(w:Nat)+1;omega);replace d:=bC d ((w:Nat)+1,0) ↑tag (by show(w:Nat)<=(w:Nat)+1;omega);generalize w1.setCell ⟨(w:Nat)+1,0,none⟩ ↑tag=w2 at c a z d|-;refine(kE rb r1 1 (Uc first) (NN first) _ z O9).m1 λw3 G=>?_;replace c:=G.row c O9;replace a:=G.row a O9;replace d:=d.trans G.grown;have A:=G.at_;have D:=xB r1 1 (Uc first) (NN first) (by cases first<;>decide) (by cases first<;>decide);have⟨n,N⟩:=Cb D.1;have ay:NN first<=8:=by cases first<;>decide
 replace H:=H.out _ rfl;rw[N]at D H;rw[N];rw[vJ]at H;generalize(r1.number 1 (Uc first) (NN first)).2=r2 at H A|-;replace H:=aL H;have a6:n<=8:=O9;have ab:=YP n O9;have c1:=a.r 1;have f1:=a.frozen 1;have Y:=a.lt;go_wp2;have L:(w3.setCell ((w:Nat)+1,1) (.slice w3.heap.size n n)).heap.size=(w3:Nat):=by simp only[World.setCell,xM]
 replace c:=(c.aO ((w:Nat)+1,1) (.slice w3.heap.size n n) (by show(w:Nat)≠(w:Nat)+1;omega)).alloc (.cells (H6 n).toArray 133);replace a:=(a.set 1 (.slice w3.heap.size n n)).alloc (.cells (H6 n).toArray 133);replace A:=(A.aO ((w:Nat)+1,1) (.slice w3.heap.size n n) (by show rb≠(w:Nat)+1;omega)).alloc (.cells (H6 n).toArray 133);replace d:=cD (bC d ((w:Nat)+1,1) (.slice w3.heap.size n n) (by show(w:Nat)<=(w:Nat)+1;omega)) (.cells (H6 n).toArray 133);have RI:=aX (w3.setCell ((w:Nat)+1,1) (.slice w3.heap.size n n)) (H6 n) 133;rw[L]at RI;generalize(w3.setCell ⟨(w:Nat)+1,1,none⟩ (.slice w3.heap.size n n)).alloc (.cells (H6 n).toArray 133)=X at c a A d RI|-;generalize(w3:Nat)=gi at Y RI a|-;go_loopw [27] (λi wr=>∃(k:Nat) (rest:List Value),k<=n/\i=↑k/\Row wr gi 133 (mZ (kY k r2).1++rest)/\rest.length=(n -k)*3/\rB wr rb (kY k r2).2/\Row wr ↑w 73 [aA,(),()]/\Row wr ((w:Nat)+1) 73 [tag,.slice gi n n,()]/\w.grownBy wr (some rb)) (λi _=>n -(intOf i).toNat);exact⟨0,H6 n,eX _,rfl,RI,by rw[RL];rfl,A,c,a,d⟩;case round=>
  obtain⟨k,rest,a2,rfl,RI,h,s,c,a,d⟩:=hrel;replace h:=aL h;by_cases a3:k<n
  .have u:Hid (kY (k+1) r2=((kY k r2).1++[(yK (kY k r2).2).1],(yK (kY k r2).2).2)):=rfl;have p:=IE k r2;generalize(kY k r2).1=I at RI u p;generalize(kY k r2).2=t at s u;replace p:=aL p;have t1:=a.r 1;have V:(0:Int)<=(k:Int):=O9;have W:(k:Int)<(n:Int):=O9;have ae:(w:Nat)+1≠gi:=O9;have af:gi≠(w:Nat)+1:=O9;go_wp2;go_region_held3 (λw'=>w'.cell? ((w:Nat)+1,1)=some (.slice gi n n)) (first|go_keep|exact(g.row (show Row wr.drew ((w:Nat)+1) _ _ from a) O9).cell 1) ((go_at_call 143;refine(aal rb t _ (by exact s)).mono ?_;rintro e w' ⟨rfl,g⟩;obtain⟨⟨ai,ak⟩,⟨aj,ao⟩,⟨a8,a9⟩,f0,f1,f2⟩:=(g.row (show Row wr.drew gi _ _ from RI) O9).three (k*3) (by have:=h.out;have:=p.out;rw[bW,rQ];omega)))
   replace c:=g.row (show Row wr.drew ↑w _ _ from c) O9;replace a:=g.row (show Row wr.drew ((w:Nat)+1) _ _ from a) O9;replace RI:=g.row (show Row wr.drew gi _ _ from RI) O9;replace d:=d.trans (uP g.grown);have o:=g.at_;generalize(yK t).1=x at u|-;generalize(yK t).2=ah at u o;replace c:=((c.aO (gi,k*3) ↑x.tx (by show(w:Nat)≠gi;omega)).aO (gi,k*3+1) ↑x.idx (by show(w:Nat)≠gi;omega)).aO (gi,k*3+2) ↑x.key (by show(w:Nat)≠gi;omega);replace a:=((a.aO (gi,k*3) ↑x.tx (by show(w:Nat)+1≠gi;omega)).aO (gi,k*3+1) ↑x.idx (by show(w:Nat)+1≠gi;omega)).aO (gi,k*3+2) ↑x.key (by show(w:Nat)+1≠gi;omega);replace o:=((o.aO (gi,k*3) ↑x.tx (by show rb≠gi;omega)).aO (gi,k*3+1) ↑x.idx (by show rb≠gi;omega)).aO (gi,k*3+2) ↑x.key (by show rb≠gi;omega);replace d:=bC (bC (bC d (gi,k*3) ↑x.tx (by show(w:Nat)<=gi;omega)) (gi,k*3+1) ↑x.idx (by show(w:Nat)<=gi;omega)) (gi,k*3+2) ↑x.key (by show(w:Nat)<=gi;omega);replace RI:=((RI.set (k*3) ↑x.tx).set (k*3+1) ↑x.idx).set (k*3+2) ↑x.key;rw[BA _ _ _ _ _ _ (by rw[rQ,p.out]) (by have:=h.out;omega),<-BB]at RI;generalize((w'.setCell ⟨gi,k*3,none⟩ ↑x.tx).setCell ⟨gi,k*3+1,none⟩ ↑x.idx).setCell ⟨gi,k*3+2,none⟩ ↑x.key=E at c a o d RI|-;go_wp2;go_roundw;exact⟨k+1,rest.drop 3,O9,by go_num,by rw[u.out];exact RI,by rw[Cc,h.out];omega,by rw[u.out];exact o,c,a,d⟩;simp[intOf];omega
  .have μ:k=n:=O9;subst μ;have K:rest=[]:=nP (by rw[h.out];omega);subst K;rw[nE]at RI;have p:=IE k r2;generalize(kY k r2).1=I at RI H p;generalize(kY k r2).2=r3 at s H;replace p:=aL p;go_wp2;refine(kE rb r3 1 1 8 _ s O9).m1 λw4 C=>?_;replace c:=C.row c O9;replace a:=C.row a O9;replace RI:=C.row RI O9;replace d:=d.trans C.grown;have B:=C.at_;have D:=xB r3 1 1 8 O9 O9;have⟨m,J⟩:=Cb D.1;rw[J]at D;replace H:=H.out;rw[J,vJ]at H;rw[J];generalize(r3.number 1 1 8).2=l at H B|-;replace H:=aL H;have a5:m<=8:=O9;have ab:=aeO m O9;have c1:=a.r 2;have f1:=a.frozen 2;have π:=RI.lt;have aa:(w:Nat)+1<(w4:Nat):=O9;go_wp2;have L:(w4.setCell ((w:Nat)+1,2) (.slice w4.heap.size m m)).heap.size=(w4:Nat):=by simp only[World.setCell,xM]
   replace c:=(c.aO ((w:Nat)+1,2) (.slice w4.heap.size m m) (by show(w:Nat)≠(w:Nat)+1;omega)).alloc (.cells (Vr m).toArray 69);replace RI:=(RI.aO ((w:Nat)+1,2) (.slice w4.heap.size m m) (by show gi≠(w:Nat)+1;omega)).alloc (.cells (Vr m).toArray 69);replace a:=(a.set 2 (.slice w4.heap.size m m)).alloc (.cells (Vr m).toArray 69);replace B:=(B.aO ((w:Nat)+1,2) (.slice w4.heap.size m m) (by show rb≠(w:Nat)+1;omega)).alloc (.cells (Vr m).toArray 69);replace d:=cD (bC d ((w:Nat)+1,2) (.slice w4.heap.size m m) (by show(w:Nat)<=(w:Nat)+1;omega)) (.cells (Vr m).toArray 69);have f:=aX (w4.setCell ((w:Nat)+1,2) (.slice w4.heap.size m m)) (Vr m) 69;rw[L]at f;generalize(w4.setCell ⟨(w:Nat)+1,2,none⟩ (.slice w4.heap.size m m)).alloc (.cells (Vr m).toArray 69)=X at c a B d RI f|-;generalize(w4:Nat)=go at π aa f a|-;go_loopw [44] (λi wr=>∃(j:Nat) (rest:List Value),j<=m/\i=↑j/\Row wr go 69 (lO (jD j l).1++rest)/\rest.length=(m -j)*2/\rB wr rb (jD j l).2/\Row wr ↑w 73 [aA,(),()]/\Row wr ((w:Nat)+1) 73 [tag,.slice gi k k,.slice go m m]/\Row wr gi 133 (mZ I)/\w.grownBy wr (some rb)) (λi _=>m -(intOf i).toNat);exact⟨0,Vr m,eX _,rfl,f,by rw[acz];rfl,B,c,a,RI,d⟩;case round=>
    obtain⟨j,rest,az,rfl,f,h,s,c,a,RI,d⟩:=hrel;replace h:=aL h;by_cases a0:j<m
    .have y:Hid (jD (j+1) l=((jD j l).1++[(rP (jD j l).2).1],(rP (jD j l).2).2)):=rfl;have q:=Ga j l;generalize(jD j l).1=M at f y q;generalize(jD j l).2=t at s y;replace q:=aL q;have t1:=a.r 2;have V:(0:Int)<=(j:Int):=O9;have W:(j:Int)<(m:Int):=O9;have ae:(w:Nat)+1≠go:=O9;have af:go≠(w:Nat)+1:=O9;go_wp2;go_region_held3 (λw'=>w'.cell? ((w:Nat)+1,2)=some (.slice go m m)) (first|go_keep|exact(g.row (show Row wr.drew ((w:Nat)+1) _ _ from a) O9).cell 2) ((go_at_call 144;refine(Vh rb t _ (by exact s)).mono ?_;rintro e w' ⟨rfl,g⟩;obtain⟨⟨ai,ak⟩,⟨aj,ao⟩,f0,f1⟩:=(g.row (show Row wr.drew go _ _ from f) O9).two (j*2) (by have:=h.out;have:=q.out;rw[bW,Az];omega)))
     replace c:=g.row (show Row wr.drew ↑w _ _ from c) O9;replace a:=g.row (show Row wr.drew ((w:Nat)+1) _ _ from a) O9;replace RI:=g.row (show Row wr.drew gi _ _ from RI) O9;replace f:=g.row (show Row wr.drew go _ _ from f) O9;replace d:=d.trans (uP g.grown);have o:=g.at_;generalize(rP t).1=x at y|-;generalize(rP t).2=ah at y o;replace c:=(c.aO (go,j*2) ↑x.val (by show(w:Nat)≠go;omega)).aO (go,j*2+1) ↑x.lock (by show(w:Nat)≠go;omega);replace a:=(a.aO (go,j*2) ↑x.val (by show(w:Nat)+1≠go;omega)).aO (go,j*2+1) ↑x.lock (by show(w:Nat)+1≠go;omega);replace RI:=(RI.aO (go,j*2) ↑x.val (by show gi≠go;omega)).aO (go,j*2+1) ↑x.lock (by show gi≠go;omega);replace o:=(o.aO (go,j*2) ↑x.val (by show rb≠go;omega)).aO (go,j*2+1) ↑x.lock (by show rb≠go;omega);replace d:=bC (bC d (go,j*2) ↑x.val (by show(w:Nat)<=go;omega)) (go,j*2+1) ↑x.lock (by show(w:Nat)<=go;omega);replace f:=(f.set (j*2) ↑x.val).set (j*2+1) ↑x.lock;rw[Vi _ _ _ _ _ (by rw[Az,q.out]) (by have:=h.out;omega),<-F7]at f;generalize(w'.setCell ⟨go,j*2,none⟩ ↑x.val).setCell ⟨go,j*2+1,none⟩ ↑x.lock=E at c a o d RI f|-;go_wp2;go_roundw;exact⟨j+1,rest.drop 2,O9,by go_num,by rw[y.out];exact f,by rw[Cc,h.out];omega,by rw[y.out];exact o,c,a,RI,d⟩;simp[intOf];omega
    .have T:j=m:=O9;subst T;have K:rest=[]:=nP (by rw[h.out];omega);subst K;rw[nE]at f;have q:=Ga j l;replace H:=H.out;generalize(jD j l).1=M at f H q;generalize(jD j l).2=a7 at s H;change Hid _ at H q;have P:=c.r 0;have Q:=c.r 1;have R:=c.r 2;have ar:=c.frozen 0;have au:=c.frozen 1;have av:=c.frozen 2;have c0:=a.r 0;have c1:=a.r 1;have c2:=a.r 2;go_wp2;rw[H.out];have ag:(Value.agg #[tag,.slice gi k k,.slice go j j])=.agg #[tag,.slice gi I.length I.length,.slice go M.length M.length]:=by rw[p.out,q.out]
     refine nG (v:=.agg #[tag,.slice gi k k,.slice go j j]) (by simp[results,results121,go_sem,P,Q,R]) rfl ⟨_,gi,go,rfl,⟨ag,O9,O9,?_,?_⟩,?_,?_⟩;.refine((RI.aO _ _ ?_).aO _ _ ?_).aO _ _ ?_;all_goals(show gi≠(w:Nat);omega)
     .refine((f.aO _ _ ?_).aO _ _ ?_).aO _ _ ?_;all_goals(show go≠(w:Nat);omega)
     .refine((s.aO _ _ ?_).aO _ _ ?_).aO _ _ ?_;all_goals(show rb≠(w:Nat);omega)
     .refine bC (bC (bC d _ _ ?_) _ _ ?_) _ _ ?_;all_goals exact L9
end
section
def F9:=@Below.heap_setCell
variable[Go.Proofs.VB]
def nL:Nat->RS->List yc×RS
 |0,r=>([],r)
 |n+1,r=>((nL n r).1++[(Bw (nL n r).2 ((n:Int)==0)).1],(Bw (nL n r).2 ((n:Int)==0)).2)
def Vf(n r):(nL n r).1.length=n:=by induction n with
 |zero=>rfl
 |succ n a=>simp[nL,a]
structure o9 where
 parent:List UInt8
 bits:Int
 bT:Int
 cS:List yc
def jA(r:RS):o9×RS:=let a:=r.take 8;let b:=a.2.number 1 0 8;let c:=b.2.number 2 0 65535;let d:=c.2.number 1 1 8;let e:=nL d.1.toNat d.2;(⟨a.1,b.1,c.1,e.1⟩,e.2)
structure uL where
 t:yc
 gi:Nat
 go:Nat
def uL.cells(p:uL):List Value:=[.int .i64 p.t.tag,.slice (some ⟨p.gi,0,none⟩) p.t.ins.length p.t.ins.length,.slice (some ⟨p.go,0,none⟩) p.t.outs.length p.t.outs.length]
def yQ(l:List uL):List Value:=l.flatMap uL.cells
def C8(l):(yQ l).length=l.length*3:=by induction l with
 |nil=>rfl
 |cons x l a=>simp only[yQ,uU,bW]at*;simp only[uL.cells,fG,jW];omega
def Vg(l p):yQ (l++[p])=yQ l++[.int .i64 p.t.tag,.slice (some ⟨p.gi,0,none⟩) p.t.ins.length p.t.ins.length,.slice (some ⟨p.go,0,none⟩) p.t.outs.length p.t.outs.length]:=by simp[yQ,uL.cells]
structure nB(w:World)(g:Nat)(l:List uL):Prop where
 rows:∀(i:Nat) (p:uL),l[i]?=some p->g<p.gi/\p.gi<p.go/\Row w p.gi 133 (mZ p.t.ins)/\Row w p.go 69 (lO p.t.outs)
 asc:∀(i j:Nat) (p q:uL),i<j->l[i]?=some p->l[j]?=some q->p.go<q.gi
def nB.nil(w g):nB w g []:=⟨λi p h=>by simp at h,λi j p q _ h=>by simp at h⟩
def nB.kept{w w' g l}(h:nB w g l)(e:∀b,g<b->b<w->w'.heap[b]?=w.heap[b]?):nB w' g l:=⟨λi p j=>by have⟨a,f,c,d⟩:=h.rows i p j;exact⟨a,f,(e _ a c.lt).trans c,(e _ O9 d.lt).trans d⟩,h.asc⟩
def nB.snoc{w g B l p}(h:nB w g l)(o:∀(i:Nat) (q:uL),l[i]?=some q->q.go<B)(n:g<B)(e:B<=p.gi)(f:p.gi<p.go)(k:Row w p.gi 133 (mZ p.t.ins))(m:Row w p.go 69 (lO p.t.outs)):nB w g (l++[p]):=by
 refine⟨λi q a=>?_,λi j q s c a b=>?_⟩
 .by_cases hi:i<l.length;.rw[mG hi]at a;exact h.rows i q a
  .grind
 .by_cases d:j<l.length;.rw[mG d]at b;rw[mG O9]at a;exact h.asc i j q s c a b
  .grind
def NG(rb r w)(R:rB w rb r):Cv 88 #[.pointer rb] w λe w'=>∃gt l,e=.returned (.agg #[(mk (jA r).1.parent),(jA r).1.bits,(jA r).1.bT,.slice (some ⟨gt,0,none⟩) l.length l.length])/\l.map uL.t=(jA r).1.cS/\w<=gt/\Row w' gt 73 (yQ l)/\nB w' gt l/\vE w w' rb (jA r).2:=by
 have a5:=R.lt;go_enter fA func88,ntmps88;go_wp2;refine(F8 rb r 8 _ ((R.alloc _).alloc _) O9).m1 λw1 F=>?_;have f:=F.row ((aX w [aB,aA,aA,()] 76).alloc _) O9;have a:Row w1 ((w:Nat)+1) 76 [aB,aA,aA,()]:=by have:=F.row (aX (w.alloc (.cells #[aB,aA,aA,()] 76)) [aB,aA,aA,()] 76) (by simp only[bJ];omega);simpa only[bJ]using this
 have g:=(cD (cD (aZ w _) _) _).trans F.grown;have j:=F.at_;have H:Hid (∀b,b=(r.take 8).2.number 1 0 8->∀c,c=b.2.number 2 0 65535->∀d,d=c.2.number 1 1 8->jA r=(⟨(r.take 8).1,b.1,c.1,(nL d.1.toNat d.2).1⟩,(nL d.1.toNat d.2).2)):=by intro b K c ab d ae;subst K ab ae;rfl
 generalize(r.take 8).1=y at H|-;generalize(r.take 8).2=r1 at H j|-;have c0:=a.r 0;have f0:=a.frozen 0;go_wp2;replace f:=f.aO ((w:Nat)+1,0) (mk y) (by show(w:Nat)≠(w:Nat)+1;omega);replace a:=a.set 0 (mk y);replace j:=j.aO ((w:Nat)+1,0) (mk y) (by show rb≠(w:Nat)+1;omega);replace g:=bC g ((w:Nat)+1,0) (mk y) (by show(w:Nat)<=(w:Nat)+1;omega);generalize w1.setCell ⟨(w:Nat)+1,0,none⟩ (mk y)=w2 at f a j g|-;refine(kE rb r1 1 0 8 _ j O9).m1 λw3 G=>?_;replace f:=G.row f O9;replace a:=G.row a O9;replace g:=g.trans G.grown;replace j:=G.at_;replace H:=aL (H.out _ rfl);generalize(r1.number 1 0 8).1=bits at H|-;generalize(r1.number 1 0 8).2=r2 at H j|-;have c0:=a.r 1;have f0:=a.frozen 1;go_wp2;replace f:=f.aO ((w:Nat)+1,1) bits (by show(w:Nat)≠(w:Nat)+1;omega);replace a:=a.set 1 bits;replace j:=j.aO ((w:Nat)+1,1) bits (by show rb≠(w:Nat)+1;omega);replace g:=bC g ((w:Nat)+1,1) bits (by show(w:Nat)<=(w:Nat)+1;omega);generalize w3.setCell ⟨(w:Nat)+1,1,none⟩ bits=w4 at f a j g|-;refine(kE rb r2 2 0 65535 _ j O9).m1 λV s=>?_;replace f:=s.row f O9;replace a:=s.row a O9;replace g:=g.trans s.grown;replace j:=s.at_;replace H:=aL (H.out _ rfl);generalize(r2.number 2 0 65535).1=bT at H|-;generalize(r2.number 2 0 65535).2=r3 at H j|-;have c0:=a.r 2;have f0:=a.frozen 2;go_wp2;replace f:=f.aO ((w:Nat)+1,2) bT (by show(w:Nat)≠(w:Nat)+1;omega);replace a:=a.set 2 bT;replace j:=j.aO ((w:Nat)+1,2) bT (by show rb≠(w:Nat)+1;omega);replace g:=bC g ((w:Nat)+1,2) bT (by show(w:Nat)<=(w:Nat)+1;omega);generalize V.setCell ⟨(w:Nat)+1,2,none⟩ bT=bg at f a j g|-;refine(kE rb r3 1 1 8 _ j O9).m1 λo I=>?_;replace f:=I.row f O9;replace a:=I.row a O9;replace g:=g.trans I.grown;replace j:=I.at_;have Q:=xB r3 1 1 8 O9 O9;have⟨n,M⟩:=Cb Q.1;replace H:=H.out _ rfl;rw[M]at Q;rw[M,vJ]at H;rw[M];generalize(r3.number 1 1 8).2=z at H j|-;replace H:=aL H;have a7:n<=8:=O9;have a6:=aeN n O9;have c1:o.cell? ((w:Nat)+1,3)=some ():=a.cell 3;have f1:=a.frozen 3;have ai:=a.lt;go_wp2;have ar:(o.setCell ((w:Nat)+1,3) (.slice o.heap.size n n)).heap.size=(o:Nat):=by simp only[World.setCell,xM]
 replace f:=(f.aO ((w:Nat)+1,3) (.slice o.heap.size n n) (by show(w:Nat)≠(w:Nat)+1;omega)).alloc (.cells (mdT n).toArray 73);replace a:=(a.set 3 (.slice o.heap.size n n)).alloc (.cells (mdT n).toArray 73);replace j:=(j.aO ((w:Nat)+1,3) (.slice o.heap.size n n) (by show rb≠(w:Nat)+1;omega)).alloc (.cells (mdT n).toArray 73);replace g:=cD (bC g ((w:Nat)+1,3) (.slice o.heap.size n n) (by show(w:Nat)<=(w:Nat)+1;omega)) (.cells (mdT n).toArray 73);have m:=aX (o.setCell ((w:Nat)+1,3) (.slice o.heap.size n n)) (mdT n) 73;rw[ar]at m;generalize(o.setCell ⟨(w:Nat)+1,3,none⟩ (.slice o.heap.size n n)).alloc (.cells (mdT n).toArray 73)=X at f a j g m|-;generalize(o:Nat)=gt at ai m a|-;go_loopw [21] (λi wr=>∃k l rest,k<=n/\i=k/\l.map uL.t=(nL k z).1/\Row wr gt 73 (yQ l++rest)/\rest.length=(n -k)*3/\nB wr gt l/\rB wr rb (nL k z).2/\Row wr w 76 [aB,aA,aA,()]/\Row wr ((w:Nat)+1) 76 [(mk y),bits,bT,.slice gt n n]/\w.grownBy wr (some rb)) (λi _=>n -(intOf i).toNat);exact⟨0,[],mdT n,eX _,rfl,rfl,m,by rw[acw];rfl,nB.nil _ _,j,f,a,g⟩;case round=>
  obtain⟨k,l,rest,a0,rfl,A,m,C,u,J,f,a,g⟩:=hrel;replace C:=aL C;have N:Hid (l.length=k):=by unfold Hid;have:=congrArg List.length A;rw[Vf]at this;simpa using this
  replace A:=aL A;by_cases a4:k<n
  .have B:Hid (nL (k+1) z=((nL k z).1++[(Bw (nL k z).2 ((k:Int)==0)).1],(Bw (nL k z).2 ((k:Int)==0)).2)):=rfl;generalize(nL k z).1=μ at A B;generalize(nL k z).2=P at J B;have t1:=a.r 3;have a2:(0:Int)<=(k:Int):=O9;have a3:(k:Int)<(n:Int):=O9;have a8:(w:Nat)+1≠gt:=O9;have a9:gt≠(w:Nat)+1:=O9;go_wp2;go_region_held3 (λw'=>w'.cell? ((w:Nat)+1,3)=some (.slice gt n n)) (first|go_keep|exact(s.row (show Row wr.drew ((w:Nat)+1) _ _ from a) O9).cell 3) ((go_at_call 121;refine(aak rb P _ _ (by exact J)).mono ?_;rintro e w' ⟨v,gi,go,rfl,⟨O,af,hgo,S,T⟩,s⟩;subst O;obtain⟨⟨bc,bj⟩,⟨bd,bk⟩,⟨bf,bm⟩,f0,f1,f2⟩:=(s.row (show Row wr.drew gt _ _ from m) O9).three (k*3) (by have:=C.out;have:=N.out;rw[bW,C8];omega)))
   have ag:(wr:Nat)<=gi:=af;have aW:=m.lt;have ak:∀(i:Nat) (q:uL),l[i]?=some q->q.go<(wr:Nat):=λi q h=>(u.rows i q h).2.2.2.lt;replace u:=u.kept (w':=w') λb K L=>(uP s.grown).block b L (by simp;omega);replace f:=s.row (show Row wr.drew ↑w _ _ from f) O9;replace a:=s.row (show Row wr.drew ((w:Nat)+1) _ _ from a) O9;replace m:=s.row (show Row wr.drew gt _ _ from m) O9;replace g:=g.trans (uP s.grown);have D:=s.at_;generalize(Bw P ((k:Int)==0)).1=x at B S T|-;generalize(Bw P ((k:Int)==0)).2=bb at B D;replace u:=u.snoc (p:=⟨x,gi,go⟩) ak aW ag hgo S T;have aj:Hid ((l++[(⟨x,gi,go⟩:uL)]).map uL.t=μ++[x]):=by unfold Hid;rw[List.map_append,A.out];rfl
   replace f:=((f.aO (gt,k*3) ↑x.tag (by show(w:Nat)≠gt;omega)).aO (gt,k*3+1) (.slice gi x.ins.length x.ins.length) (by show(w:Nat)≠gt;omega)).aO (gt,k*3+2) (.slice go x.outs.length x.outs.length) (by show(w:Nat)≠gt;omega);replace a:=((a.aO (gt,k*3) ↑x.tag (by show(w:Nat)+1≠gt;omega)).aO (gt,k*3+1) (.slice gi x.ins.length x.ins.length) (by show(w:Nat)+1≠gt;omega)).aO (gt,k*3+2) (.slice go x.outs.length x.outs.length) (by show(w:Nat)+1≠gt;omega);replace D:=((D.aO (gt,k*3) ↑x.tag (by show rb≠gt;omega)).aO (gt,k*3+1) (.slice gi x.ins.length x.ins.length) (by show rb≠gt;omega)).aO (gt,k*3+2) (.slice go x.outs.length x.outs.length) (by show rb≠gt;omega);replace g:=bC (bC (bC g (gt,k*3) ↑x.tag (by show(w:Nat)<=gt;omega)) (gt,k*3+1) (.slice gi x.ins.length x.ins.length) (by show(w:Nat)<=gt;omega)) (gt,k*3+2) (.slice go x.outs.length x.outs.length) (by show(w:Nat)<=gt;omega);replace m:=((m.set (k*3) ↑x.tag).set (k*3+1) (.slice gi x.ins.length x.ins.length)).set (k*3+2) (.slice go x.outs.length x.outs.length);rw[BA _ _ _ _ _ _ (by rw[C8,N.out]) (by have:=C.out;omega),<-Vg l ⟨x,gi,go⟩]at m;replace u:=u.kept (w':=((w'.setCell (gt,k*3) ↑x.tag).setCell (gt,k*3+1) (.slice gi x.ins.length x.ins.length)).setCell (gt,k*3+2) (.slice go x.outs.length x.outs.length)) λb K L=>(F9 _ _ _ b (by show b≠gt;omega)).trans ((F9 _ _ _ b (by show b≠gt;omega)).trans (F9 _ _ _ b (by show b≠gt;omega)));generalize((w'.setCell ⟨gt,k*3,none⟩ ↑x.tag).setCell ⟨gt,k*3+1,none⟩ (.slice gi x.ins.length x.ins.length)).setCell ⟨gt,k*3+2,none⟩ (.slice go x.outs.length x.outs.length)=E at f a D g m u|-;go_wp2;go_roundw;exact⟨k+1,l++[⟨x,gi,go⟩],rest.drop 3,O9,by go_num,by rw[B.out];exact aj.out,m,by rw[Cc,C.out];omega,u,by rw[B.out];exact D,f,a,g⟩;simp[intOf];omega
  .have ah:k=n:=O9;subst ah;have ao:rest=[]:=nP (by rw[C.out];omega);subst ao;rw[nE]at m;replace H:=H.out;generalize(nL k z).1=μ at A H;generalize(nL k z).2=ba at J H;replace H:=aL H;have aW:=m.lt;have W:=f.r 0;have Y:=f.r 1;have π:=f.r 2;have aa:=f.r 3;have au:=f.frozen 0;have av:=f.frozen 1;have ay:=f.frozen 2;have az:=f.frozen 3;have c0:=a.r 0;have c1:=a.r 1;have c2:=a.r 2;have c3:=a.r 3;go_wp2;rw[H.out];have O:(Value.agg #[↑(mk y),bits,bT,.slice gt k k])=.agg #[↑(mk y),bits,bT,.slice gt l.length l.length]:=by rw[N.out]
   refine nG (v:=.agg #[↑(mk y),bits,bT,.slice gt k k]) (by simp[results,results88,go_sem,W,Y,π,aa]) rfl ⟨gt,l,by rw[O],A.out,O9,?_,?_,?_,?_⟩;.refine(((m.aO _ _ ?_).aO _ _ ?_).aO _ _ ?_).aO _ _ ?_;all_goals(show gt≠(w:Nat);omega)
   .refine u.kept λb K L=>?_;refine(F9 _ _ _ b ?_).trans ((F9 _ _ _ b ?_).trans ((F9 _ _ _ b ?_).trans (F9 _ _ _ b ?_)));all_goals(show b≠(w:Nat);omega)
   .refine(((J.aO _ _ ?_).aO _ _ ?_).aO _ _ ?_).aO _ _ ?_;all_goals(show rb≠(w:Nat);omega)
   .refine bC (bC (bC (bC g _ _ ?_) _ _ ?_) _ _ ?_) _ _ ?_;all_goals exact L9
end
section
def agL:=@wpList_append_own_at
variable[Go.Proofs.VB]
def BH(B:Nat)(w:World)(v:Value)(l:List jV):Prop:=w.ownsRow B 133 3 v l.length (mZ l)
def Dq(B:Nat)(w:World)(v:Value)(l:List fL):Prop:=w.ownsRow B 69 2 v l.length (lO l)
def eU.cells(d:eU):List Value:=[.int .i64 d.tag,d.iv,d.ov]
def vC(l:List eU):List Value:=l.flatMap eU.cells
def PK(B:Nat)(w:World)(v:Value)(l:List eU):Prop:=w.ownsRow B 73 3 v l.length (vC l)
def Vb(l d):vC (l++[d])=vC l++[.int .i64 d.tag,d.iv,d.ov]:=by simp[vC,eU.cells]
def bR(w:World)(p v):w.grownBy (w.setCell p v) (some p.block):=by refine⟨rfl,rfl,rfl,?_,λk _ a=>Below.heap_setCell w p v k (by intro e;exact a (by rw[e]))⟩;simp only[World.setCell,xM];exact L9
def fR{B}{w w':World}{e size n g v a}(h:w.ownsRow B e size v n a)(b:w.grownBy w' (some g))(d:g<B):w'.ownsRow B e size v n a:=h.kept b (by cases c:v.ownBlock with
  |none=>exact .inl rfl
  |some k=>have:=(h.lt k c).1;right;intro e;cases e;omega)
def xq{B}{w w':World}{e size n}{v u:Value}{a}(h:w.ownsRow B e size v n a)(b:w.grownBy w' u.ownBlock)(c:∀k,v.ownBlock=some k->u.ownBlock≠some k):w'.ownsRow B e size v n a:=h.kept b (by cases d:v.ownBlock with
  |none=>exact .inl rfl
  |some k=>right;intro e;exact c k d e.symm)
def Ur{w w' g t cs}{u:Value}(h:Row w g t cs)(a:w.grownBy w' u.ownBlock)(b:∀k,u.ownBlock=some k->g≠k):Row w' g t cs:=(a.block g h.lt (λe=>b g e.symm rfl)).trans h
def xp{a w w':World}{r}{u:Value}(h:a.grownBy w r)(b:w.grownBy w' u.ownBlock)(c:∀k,u.ownBlock=some k->a<=k):a.grownBy w' r:=⟨b.os.trans h.os,b.tape.trans h.tape,b.output.trans h.output,bI h.size b.size,λi hi d=>(b.block i (eO hi h.size) (λe=>by have:=c i e.symm;omega)).trans (h.block i hi d)⟩
def add0(g j):((g,0):Addr).add j=⟨g,j,none⟩:=by unfold Addr.add;split<;>simp_all
def acu{B w v l}(h:BH B w v l)(k:l.length<=140737488355328):wL w v l:=by
 refine⟨?_,k⟩;have a:=λg (e:v.ownBlock=some g)=>uS h e;obtain⟨rfl,n⟩|⟨g,cap,cur,rfl,_,_,_,_,_,_⟩:=h.2;.simp_all
 .refine⟨some (g,0),cap,rfl,λ_=>⟨g,0,rfl,λi x m=>?_⟩⟩;have⟨h0,f,j⟩:=wN l i x m;have b:=a g rfl _ _ h0;have c:=a g rfl _ _ f;have d:=a g rfl _ _ j;rw[add0]at b c d;refine⟨?_,?_,?_⟩<;>simp<;>assumption
def acv{B w v l}(h:Dq B w v l)(f:l.length<=140737488355328):qQ w v l:=by
 refine⟨?_,f⟩;have a:=λg (e:v.ownBlock=some g)=>uS h e;obtain⟨rfl,k⟩|⟨g,cap,cur,rfl,_,_,_,_,_,_⟩:=h.2;.simp_all
 .refine⟨some (g,0),cap,rfl,λ_=>⟨g,0,rfl,λi x j=>?_⟩⟩;have⟨h0,d⟩:=xx l i x j;have b:=a g rfl _ _ h0;have c:=a g rfl _ _ d;rw[add0]at b c;refine⟨?_,?_⟩<;>simp<;>assumption
def Af:∀l i x,l[i]?=some x->(vC l)[i*3]?=some x.tag/\(vC l)[i*3+1]?=some x.iv/\(vC l)[i*3+2]?=some x.ov
 |[],i,x,h=>by simp at h
 |y::l,0,x,h=>by simp at h;subst h;simp[vC,eU.cells]
 |y::l,i+1,x,h=>by have:=Af l i x (by simpa using h);have e:vC (y::l)=y.cells++vC l:=rfl;have a:y.cells.length=3:=rfl;rw[e,dU (by rw[a];omega),dU (by rw[a];omega),dU (by rw[a];omega),a,show(i+1)*3 -3=i*3 from by omega,show(i+1)*3+1 -3=i*3+1 from by omega,show(i+1)*3+2 -3=i*3+2 from by omega];exact this
structure cY(B:Nat)(w:World)(v:Value)(l:List eU):Prop where
 own:PK B w v l
 ins:∀d∈l,BH B w d.iv d.ins/\∀k,d.iv.ownBlock=some k->v.ownBlock≠some k
 outs:∀d∈l,Dq B w d.ov d.outs/\∀k,d.ov.ownBlock=some k->v.ownBlock≠some k
def cY.nil(B w):cY B w () []:=⟨mN _ _ _ _,λd a=>by simp at a,λd a=>by simp at a⟩
def cY.kept{B w w' v l g}(h:cY B w v l)(b:w.grownBy w' (some g))(c:g<B):cY B w' v l:=⟨fR h.own b c,λd a=>⟨fR (h.ins d a).1 b c,(h.ins d a).2⟩,λd a=>⟨fR (h.outs d a).1 b c,(h.outs d a).2⟩⟩
def cY.snoc{B B1 w w' v f l d}(h:cY B w v l)(C:B<=B1)(s:PK B w' f (l++[d]))(p:w.grownBy w' v.ownBlock)(q:f.ownBlock=v.ownBlock\/f.ownBlock=some ↑w)(t:∀k,v.ownBlock=some k->k<B1)(hi:BH B1 w d.iv d.ins)(b:Dq B1 w d.ov d.outs):cY B w' f (l++[d]):=by
 have key:∀{e:TypeId} {size n:Nat} {u:Value} {c:List Value},w.ownsRow B e size u n c->(∀k,u.ownBlock=some k->v.ownBlock≠some k)->w'.ownsRow B e size u n c/\∀k,u.ownBlock=some k->f.ownBlock≠some k:=by
  intro e size n u c b r;refine⟨xq b p r,λk j e=>?_⟩;obtain i|i:=q;.simp_all
  .have:=(b.lt k j).2;rw[i]at e;cases e;omega
 have low:∀{e:TypeId} {size n:Nat} {u:Value} {c:List Value},w.ownsRow B1 e size u n c->w.ownsRow B e size u n c:=by
  intro e size n u c b;refine⟨b.1,?_⟩;obtain h0|⟨g,cap,cur,m,y,o⟩:=b.2;.simp_all
  .exact .inr ⟨g,cap,cur,m,O9,o⟩
 have sM:∀{e:TypeId} {size n:Nat} {u:Value} {c:List Value},w.ownsRow B1 e size u n c->∀k,u.ownBlock=some k->v.ownBlock≠some k:=by intro e size n u c b k j i;have z:=(b.lt k j).1;have A:=t k i;omega
 refine⟨s,λx a=>?_,λx a=>?_⟩
 .obtain a|a:=nC.1 a;.exact key (h.ins x a).1 (h.ins x a).2
  .simp at a;subst a;exact key (low hi) (sM hi)
 .obtain a|a:=nC.1 a;.exact key (h.outs x a).1 (h.outs x a).2
  .simp at a;subst a;exact key (low b) (sM b)
def cY.adp{B w v l}(h:cY B w v l)(o:l.length<=1000)(hi:∀d∈l,d.ins.length<=1000/\d.outs.length<=1000):ye w v l:=by
 refine⟨?_,O9⟩;have b:=λg (e:v.ownBlock=some g)=>uS h.own e;obtain⟨rfl,p⟩|⟨g,cap,cur,rfl,_,_,_,_,_,_⟩:=h.own.2;.simp_all
 .refine⟨some (g,0),cap,rfl,λ_=>⟨g,0,rfl,λi x c=>?_⟩⟩;have a:=cQ c;have⟨h0,m,n⟩:=Af l i x c;have f:=b g rfl _ _ h0;have j:=b g rfl _ _ m;have k:=b g rfl _ _ n;rw[add0]at f j k;refine⟨?_,?_,?_,acu (h.ins x a).1 (by have:=hi x a;omega),acv (h.outs x a).1 (by have:=hi x a;omega)⟩<;>simp<;>assumption
def F6{w:World}{g a b c}(h0:w.cell? (g,0)=some a)(e:w.cell? (g,1)=some b)(f:w.cell? (g,2)=some c):∀j u,[a,b,c][j]?=some u->w.cell? ((⟨g,0,none⟩:Addr).add j)=some u:=by intro j u d;match j,d with
 |0,d=>simp at d;subst d;simpa[Addr.add]using h0
 |1,d=>simp at d;subst d;simpa[Addr.add]using e
 |2,d=>simp at d;subst d;simpa[Addr.add]using f
 |j+3,d=>simp at d
def Qd{w:World}{g a b}(h0:w.cell? (g,0)=some a)(d:w.cell? (g,1)=some b):∀j u,[a,b][j]?=some u->w.cell? ((⟨g,0,none⟩:Addr).add j)=some u:=by intro j u c;match j,c with
 |0,c=>simp at c;subst c;simpa[Addr.add]using h0
 |1,c=>simp at c;subst c;simpa[Addr.add]using d
 |j+2,c=>simp at c
def Jv{B w ops rest o a Q}(m:o.guard=none)(s x)(n:o.op=.call {callee:=.builtin .append,args:=#[s,x],argTypes:=#[71,71]})(v)(l)(q:a.eval s=v)(p:BH B w v l)
 (d)(g)(r:a.eval x=.slice g 1 1)(c:Row w g 133 d.cells)(hlen:l.length<=1000000)(k:B<=w)
 (h:∀b w',BH B w' b (l++[d])->w.grownBy w' v.ownBlock->(b.ownBlock=v.ownBlock\/b.ownBlock=some ↑w)->wpList Vp ops Q rest (a.put o.dst b) w'):wpList Vp ops Q (o::rest) a w:=by
 have⟨A,hi,t,y,z⟩:=info_parts adA;refine wpList_append_own_at _ m s x 71 n B 133 A _ 3 40 aI.underlying71 hi t y z rfl D9 v l.length (mZ l) q p ⟨g,0,none⟩ 1 1 d.cells r rfl (F6 (c.cell 0) (c.cell 1) (c.cell 2)) ?_ (by unfold maxLen;omega) O9 k ?_;.intro u e;simp[jV.cells]at e;obtain rfl|rfl|rfl:=e<;>rfl
 .intro b w' f i _ j;refine h b w' ?_ i j;unfold BH;rw[BB,bW];exact f
def Aj{B w ops rest o a Q}(m:o.guard=none)(s x)(n:o.op=.call {callee:=.builtin .append,args:=#[s,x],argTypes:=#[70,70]})(v)(l)(q:a.eval s=v)(p:Dq B w v l)
 (d)(g)(r:a.eval x=.slice g 1 1)(c:Row w g 69 d.cells)(hlen:l.length<=1000000)(k:B<=w)
 (h:∀b w',Dq B w' b (l++[d])->w.grownBy w' v.ownBlock->(b.ownBlock=v.ownBlock\/b.ownBlock=some ↑w)->wpList Vp ops Q rest (a.put o.dst b) w'):wpList Vp ops Q (o::rest) a w:=by
 have⟨A,hi,t,y,z⟩:=info_parts adB;refine wpList_append_own_at _ m s x 70 n B 69 A _ 2 24 aI.underlying70 hi t y z rfl D9 v l.length (lO l) q p ⟨g,0,none⟩ 1 1 d.cells r rfl (Qd (c.cell 0) (c.cell 1)) ?_ (by unfold maxLen;omega) O9 k ?_;.intro u e;simp[fL.cells]at e;obtain rfl|rfl:=e<;>rfl
 .intro b w' f i _ j;refine h b w' ?_ i j;unfold Dq;rw[F7,bW];exact f
def Ju{B w ops rest o a Q}(p:o.guard=none)(s x)(q:o.op=.call {callee:=.builtin .append,args:=#[s,x],argTypes:=#[74,74]})(v)(l)(t:a.eval s=v)(r:PK B w v l)
 (d)(g)(y:a.eval x=.slice g 1 1)(c:Row w g 73 d.cells)(f:d.iv.oneCell'=true)(i:d.ov.oneCell'=true)(hlen:l.length<=1000000)(n:B<=w)
 (h:∀b w',PK B w' b (l++[d])->w.grownBy w' v.ownBlock->(b.ownBlock=v.ownBlock\/b.ownBlock=some ↑w)->wpList Vp ops Q rest (a.put o.dst b) w'):wpList Vp ops Q (o::rest) a w:=by
 have⟨D,hi,z,A,C⟩:=info_parts Y8;refine wpList_append_own_at _ p s x 74 q B 73 D _ 3 56 aI.underlying74 hi z A C rfl D9 v l.length (vC l) t r ⟨g,0,none⟩ 1 1 d.cells y rfl (F6 (c.cell 0) (c.cell 1) (c.cell 2)) ?_ (by unfold maxLen;omega) O9 n ?_
 .intro u e;simp[eU.cells]at e;obtain rfl|rfl|rfl:=e;.rfl
  .exact f
  .exact i
 .intro b w' j k _ m;refine h b w' ?_ k m;unfold PK;rw[Vb,bW];exact j
end
section
variable[Go.Proofs.VB]
def uG{B}{w:World}{e size n v a}(h:w.ownsRow B e size v n a)(p u)(b:∀k,v.ownBlock=some k->k≠p.block):(w.setCell p u).ownsRow B e size v n a:=h.kept (bR w p u) (by cases c:v.ownBlock with
  |none=>exact .inl rfl
  |some k=>right;intro e;exact b k c (by simpa using e))
def cO{B}{w:World}{e size n v a}(h:w.ownsRow B e size v n a)(m)(b:n=m+1):∃g cap,v=.slice (some ⟨g,0,none⟩) (m+1) cap:=by
 obtain⟨_,h0⟩|⟨g,cap,cur,c,_⟩:=h.2;.omega
 .simp_all
def eU.m(d:eU):yc:=⟨d.tag,d.ins,d.outs⟩
def mS(s:List UInt8):Option o9:=if(jA ⟨s,false⟩).2.bad||!(jA ⟨s,false⟩).2.l.isEmpty then none else some (jA ⟨s,false⟩).1
structure M5(a w:World)(v:Value)(b:o9)(gt:Nat)(ps:List uL):Prop where
 val:v=.agg #[.string (mk b.parent),.int .i64 b.bits,.int .i64 b.bT,.slice (some ⟨gt,0,none⟩) ps.length ps.length]
 cS:ps.map uL.t=b.cS
 lt:a.heap.size<=gt
 row:Row w gt 73 (yQ ps)
 rows:nB w gt ps
def lL:Value:=.agg #[aB,aA,aA,.slice none 0 0]
def aau(l):(mk l).toList.isEmpty=l.isEmpty:=by rw[ByteArray.toList_eq];simp[mk]
def yY{a w1:World}{B:Nat}(hb:Below B a w1)(hB:B≤w1.heap.size)(v0 v1 v2 v3:Value)(o:Obj):Below B a (((((w1.setCell ⟨B,0,none⟩ v0).setCell ⟨B,1,none⟩ v1).setCell ⟨B,2,none⟩ v2).setCell ⟨B,3,none⟩ v3).alloc o):=by
  refine Below.alloc ((((hb.setCell (p:=⟨B,0,none⟩) (rD _) v0).setCell (p:=⟨B,1,none⟩) (rD _) v1).setCell (p:=⟨B,2,none⟩) (rD _) v2).setCell (p:=⟨B,3,none⟩) (rD _) v3) ?_ o;simpa only[World.setCell,xM]using hB
def Gd{w1 B g t cs}(h:Row w1 g t cs)(a:g≠B)(v0 v1 v2 v3 o):Row (((((w1.setCell (B,0) v0).setCell (B,1) v1).setCell (B,2) v2).setCell (B,3) v3).alloc o) g t cs:=
 ((((h.aO ⟨B,0,none⟩ v0 a).aO ⟨B,1,none⟩ v1 a).aO ⟨B,2,none⟩ v2 a).aO ⟨B,3,none⟩ v3 a).alloc o
def NJ{w1 B g l}(h:nB w1 g l)(f:B<=g)(v0 v1 v2 v3 o):nB (((((w1.setCell (B,0) v0).setCell (B,1) v1).setCell (B,2) v2).setCell (B,3) v3).alloc o) g l:=
 ⟨λi p e=>by have⟨a,b,c,d⟩:=h.rows i p e;exact⟨a,b,Gd c O9 _ _ _ _ _,Gd d O9 _ _ _ _ _⟩,h.asc⟩
def wM(s w):Cv 59 #[(mk s)] w λe w'=>Below w w w'/\((mS s=none/\e=.returned (.tuple #[lL,aG]))\/∃b v gt f,mS s=some b/\e=.returned (.tuple #[v,aA])/\M5 w w' v b gt f):=by
 have d:Hid (mS s=if(jA ⟨s,false⟩).2.bad||!(jA ⟨s,false⟩).2.l.isEmpty then none else some (jA ⟨s,false⟩).1):=rfl;go_enter fA func59,ntmps59;go_wp2;have z:rB ((w.alloc (.cells #[aB,aA,aA,()] 76)).alloc (.cells #[(mk s),aF] 188)) ((w:Nat)+1) ⟨s,false⟩:=by have:=aX (w.alloc (.cells #[aB,aA,aA,()] 76)) [(mk s),aF] 188;rw[bJ]at this;exact this
 refine(NG ((w:Nat)+1) ⟨s,false⟩ _ z).mono ?_;rintro e w1 ⟨gt,f,rfl,x,aW,y,C,p⟩;simp only[bJ]at aW;have a:=p.row ((aX w [aB,aA,aA,()] 76).alloc (.cells #[(mk s),aF] 188)) O9;have q:Below w w w1:=by have A:Below w w ((w.alloc (.cells #[aB,aA,aA,()] 76)).alloc (.cells #[(mk s),aF] 188)):=(B0.alloc L9 _).alloc (by simp only[bJ];omega) _;exact A.grown p.grown (by simp only[bJ];omega) (λk B=>by simp at B;omega)
 have g:=p.at_;generalize(jA ⟨s,false⟩).1=b at d x|-;generalize(jA ⟨s,false⟩).2=r1 at d g;have⟨l1,t⟩:=r1;have c0:w1.cell? ((w:Nat)+1,0)=some (mk l1):=NF g 0;have c1:w1.cell? ((w:Nat)+1,1)=some (.bool t):=NF g 1;have H:=Row.lt g;have j:=a.r 0;have m:=a.r 1;have n:=a.r 2;have o:w1.cell? ((w:Nat),3)=some ():=a.cell 3;have D:=a.frozen 0;have E:=a.frozen 1;have F:=a.frozen 2;have G:=a.frozen 3;have r:(w:Nat)<(w1:Nat):=O9;have u:=aau l1;cases t;case true=>go_wp2;have c:mS s=none:=d.out;exact nG (v:=.tuple #[lL,aG]) (by simp[results,results59,go_sem,j,m,n,o,lL,r]) rfl ⟨yY q O9 _ _ _ _ _,.inl ⟨c,rfl⟩⟩
 case false=>
  cases i:l1.isEmpty
  .rw[i]at u;go_wp2;have c:mS s=none:=by have h:=d.out;rw[i]at h;exact h
   exact nG (v:=.tuple #[lL,aG]) (by simp[results,results59,go_sem,j,m,n,o,lL,r]) rfl ⟨yY q O9 _ _ _ _ _,.inl ⟨c,rfl⟩⟩
  .rw[i]at u;go_wp2;have c:mS s=some b:=by have h:=d.out;rw[i]at h;exact h
   exact nG (v:=.tuple #[.agg #[(mk b.parent),b.bits,b.bT,.slice gt f.length f.length],aA]) (by simp[results,results59,go_sem,j,m,n,o,r]) rfl ⟨yY q O9 _ _ _ _ _,.inr ⟨b,_,gt,f,c,rfl,rfl,x,O9,Gd y O9 _ _ _ _ _,NJ C O9 _ _ _ _ _⟩⟩
def H5{s t:eU}(h:s.abz t)(first):s.fits first=t.fits first:=by have⟨a,b,c⟩:=h;simp[eU.fits,a,b,c]
def Po{s t:eU}(h:s.abz t):s.bytes=t.bytes:=by have⟨a,b,c⟩:=h;simp[eU.bytes,a,b,c]
def My{α:Type}{f:eU->α}(b:∀s t,s.abz t->f s=f t){l m}(h:DG l m):l.map f=m.map f:=by
 apply kI;intro i;simp;by_cases hi:i<l.length
 .have a:i<m.length:=by have:=h.1;omega
  rw[bO hi,bO a];simp;rw[b _ _ (h.2 i _ _ (bO hi) (bO a))]
 .rw[pC O9,pC (by have:=h.1;omega)]
def E7{l m}(h:DG l m)(p bits bT):dG p bits bT l=dG p bits bT m:=by
 have e:∀x:List eU,x.zipIdx.all (λq=>q.1.fits ((q.2:Int)==0))=(x.map (λt=>(t.fits true,t.fits false))).zipIdx.all (λq=>if((q.2:Int)==0)then q.1.1 else q.1.2):=by intro x;rw[List.zipIdx_map,List.all_map];congr 1;funext q;simp only[Function.comp,Prod.map,id];cases((q.2:Int)==0)<;>rfl
 simp[dG,h.1,e];rw[My (f:=λt=>(t.fits true,t.fits false)) (λs t a=>by rw[H5 a,H5 a]) h]
def Dm{l m}(h:DG l m)(p bits bT):fW p bits bT l=fW p bits bT m:=by
 have e:l.flatMap eU.bytes=m.flatMap eU.bytes:=by rw[QF,QF,My (λs t a=>Po a) h]
 simp[fW,h.1,e]
def yc.d(t:yc):eU:=⟨t.tag,.slice none 0 0,t.ins,.slice none 0 0,t.outs⟩
def mR(b:o9):Bool:=dG (mk b.parent) b.bits b.bT (b.cS.map yc.d)
def uw(b:o9):List UInt8:=fW (mk b.parent) b.bits b.bT (b.cS.map yc.d)
def aeb(ds b)(h:ds.map eU.m=b):DG ds (b.map yc.d):=by subst h;refine⟨S8,λi s t c a=>?_⟩;rw[pA,cW,c]at a;simp at a;subst a;exact⟨rfl,rfl,rfl⟩
def cY.keep{B w w' v l}(h:cY B w v l)(a:Below w w w'):cY B w' v l:=by
 have key:∀{e:TypeId} {size n:Nat} {u:Value} {c:List Value},w.ownsRow B e size u n c->w'.ownsRow B e size u n c:=λg=>g.kept (row:=none) ⟨a.os,a.tape,a.output,a.size,λk f _=>a.block k f⟩ (by cases Value.ownBlock _<;>simp)
 exact⟨key h.own,λd b=>⟨key (h.ins d b).1,(h.ins d b).2⟩,λd b=>⟨key (h.outs d b).1,(h.outs d b).2⟩⟩
def vg(h:Int)(c:UInt8):Int:=IntKind.u64.wrap (bits .xor .u64 h (c.toNat:Int)*1099511628211)
def hN(l:List UInt8):Int:=l.foldl vg 14695981039346656037
def abB(a b:Nat)(c:a<18446744073709551616)(d:b<18446744073709551616):bits .xor .u64 (a:Int) (b:Int)=((a^^^b:Nat):Int):=by have e:=Nat.xor_lt_two_pow (n:=64) c d;show IntKind.u64.wrap ((BitVec.ofInt 64 (a:Int)^^^BitVec.ofInt 64 (b:Int)).toNat:Int)=_;rw[BitVec.toNat_xor,ofInt_u64 a c,ofInt_u64 b d,IntKind.wrap_u64];omega
def YN(h c):0<=vg h c/\vg h c<18446744073709551616:=by unfold vg;rw[IntKind.wrap_u64];omega
def E6(l):0<=hN l/\hN l<18446744073709551616:=by
 have:∀(l:List UInt8) (a:Int),0<=a/\a<18446744073709551616->0<=l.foldl vg a/\l.foldl vg a<18446744073709551616:=by intro l;induction l with
  |nil=>intro a h;exact h
  |cons c l b=>intro a _;exact b _ (YN a c)
 exact this l _ O9
def Ru(l c):hN (l++[c])=vg (hN l) c:=by simp[hN]
def rO(l w)(n:l.length<=1000000):Cv 102 #[(mk l)] w λe w'=>e=.returned (.int .u64 (hN l))/\w'=w:=by
 have o:=dF l;go_enter fA func102,ntmps102;go_wp2;go_loop [3,7] (λh i=>∃k:Nat,k<=l.length/\i=↑k/\h=.int .u64 (hN (l.take k))) (λ_ i=>l.length -(intOf i).toNat);exact⟨0,eX _,rfl,rfl⟩;case round=>
  obtain⟨k,j,rfl,rfl⟩:=hrel;by_cases a:k<l.length
  .have d:=pG l k (k:Int) rfl a;have f:l.take (k+1)=l.take k++[l[k]]:=by rw[vR a]
   have b:Hid (hN (l.take (k+1))=vg (hN (l.take k)) (l.getD k 0)):=by unfold Hid;rw[f,Ru];simp[a]
   have g:=(l.getD k 0).toNat_lt;generalize l.getD k 0=c at d b g;go_wp2;go_round;exact⟨k+1,O9,by go_num,by rw[b.out];rfl⟩;simp[intOf];omega
  .have m:k=l.length:=O9;go_wp2;go_ret;exact⟨rfl,rfl⟩
def Px(n):∀m k,k<m->(be n m)[k]?=some (byteOf (n/2^(8*(m -1 -k))%256))
 |m+1,0,_=>by simp[be]
 |m+1,k+1,h=>by have:=Px n m k O9;simp only[be,py,this];rw[show m+1 -1 -(k+1)=m -1 -k from by omega]
def Py(n k y rest)(b:k<8):(bv ((be n 8).take k)++(y::rest)).set k (.int .u8 (n/2^(56 -8*k)%256))=bv ((be n 8).take (k+1))++rest:=by
 have a:=Px n 8 k b;have c:(bv ((be n 8).take k)).length=k:=by rw[qj,iU,bS];omega
 rw[uR _ _ O9,c,zl,a,show 8*(8 -1 -k)=56 -8*k from by omega];have d:((byteOf (n/2^(56 -8*k)%256)).toNat:Int)=n/2^(56 -8*k)%256:=dX _ (QB _ O9) (QC _ O9);simp[bv,d]
def pS(n w)(_h0:0<=n)(_h1:n<18446744073709551616):Cv 122 #[.int .u64 n] w λe w'=>e=.returned (mk (be n 8))/\Below w w w':=by
 go_enter fA func122,ntmps122;go_wp2;go_loopw [5] (λi wr=>∃(k:Nat) (rest:List Value),k<=8/\i=k/\Row wr w 243 (bv ((be n 8).take k)++rest)/\rest.length=8 -k/\Below w w wr) (λi _=>8 -(intOf i).toNat);exact⟨0,[.int .u8 0,.int .u8 0,.int .u8 0,.int .u8 0,.int .u8 0,.int .u8 0,.int .u8 0,.int .u8 0],eX _,rfl,aX w _ _,rfl,B0.alloc L9 _⟩;case round=>
  obtain⟨k,rest,p,rfl,R,a,d⟩:=hrel;by_cases l:k<8;.match rest,a with
   |[],a=>simp at a;omega
   |y::rest,a=>
     have h:(bv ((be n 8).take k)).length=k:=by rw[qj,iU,bS];omega
     have c0:wr.cell? ((w:Nat),k)=some y:=by rw[R.cell,dU O9,h,sO];rfl
     have f0:=R.frozen k;have c:=R.set k (.int .u8 (n/2^(56 -8*k)%256));rw[Py n k y rest l]at c;replace a:=aL a;go_wp2;go_roundw;exact⟨k+1,rest,O9,by go_num,c,by have:=a.out;simp only[fG]at this;omega,d.setCell L9 _⟩;simp[intOf];omega
  .have m:rest=[]:=nP O9;subst m;rw[nE,QG (by rw[bS];omega)]at R;have f:=bS n 8;generalize b:be n 8=q at R f;replace b:=aL b;have o:(convert 127 9 (.slice w.heap.size 8 8)).run Vp wr=.ok (mk q) wr:=by have:=run_convert_bytes_back (P:=Vp) wr 127 9 5 ((w:Nat),0) 8 q aI.underlying127 aI.underlying5 aI.underlying9 (λj g=>by rw[add0,R.cell];simp[bv,g]);rw[f]at this;exact this
   go_wp2;go_ret;exact⟨by rw[b.out];rfl,d⟩
def Ac(l w)(d:l.length<=1000000):Cv 89 #[(mk l)] w λe w'=>e=.returned (.string (mk (be (hN l) 8)))/\Below w w w':=by
 have b:=E6 l;go_enter fA func89,ntmps89;go_wp2;refine(rO l _ d).m0 ?_;go_wp2;refine(pS (hN l) _ b.1 b.2).m1 λw2 c=>?_;generalize a:mk (be (hN l) 8)=q;replace a:=aL a;go_wp2;go_ret;exact⟨by rw[a.out];rfl,c⟩
end
def cM{B w w'}(h:Below B w w'):Below B w w'.drew:=⟨h.os,h.tape,h.output,h.size,h.block⟩
def Zg{w w' r C}(h:w.grownBy w' r)(b:C<=↑w)(a:∀k,r=some k->C<=k):Below C w w':=⟨h.os,h.tape,h.output,h.size,λi hi=>h.block i O9 (λe=>by have:=a i e.symm;omega)⟩
structure Ic(p:Prop):Prop where
 out:p
end Go.Proofs.aH
