import Derived.Lib.QuietBelow
import Derived.Deep.RegionWith
import Derived.Laws.CopyRow
import Derived.Deep.RegionHeld3
import Derived.Recover
import Derived.Lib.ConvBytes
import Derived.Laws.BitsAllLaws
import Derived.Test.YtpjcmpfncpnmeabGreatM03
set_option linter.all false
set_option maxHeartbeats 1000000
set_option maxRecDepth 100000
namespace Go.Proofs.aH
open Go.RowKit
section
variable[Go.Proofs.VB]
def aI.mixed:Vp.follows .mixedOrders=true:=K8
def Fw:=@aI.mixed
def ae9(bare:Bool)(s:ByteArray):ByteArray:=if bare then⟨#[]⟩else s
def VA(bare s)(h:s.size<=32):(ae9 bare s).size<=32:=by
 cases bare;.exact h
 .show(ByteArray.mk #[]).size<=32;exact fQ _
def Am(bare:Bool)(x:kC):List UInt8:=fI x.tx++be x.idx 1++(be (ae9 bare x.key).size 1++fI (ae9 bare x.key))
def rf(bare:Bool)(tag:Int)(ins:List kC)(outs:List fM):List UInt8:=be tag 2++be ins.length 1++ins.flatMap (Am bare)++be outs.length 1++outs.flatMap fM.bytes
def JG(bare x)(h:x.Small):(Am bare x).length<=42:=by have⟨b,_,a,_⟩:=h;have:=VA bare x.key a;simp[Am,bV,fZ];omega
def eP.YC(s t:eP):Prop:=s.tag=t.tag/\s.ins=t.ins/\s.outs=t.outs
def DL(l m:List eP):Prop:=l.length=m.length/\∀(i:Nat) (s t:eP),l[i]?=some s->m[i]?=some t->s.YC t
end
section
def aaH:=@Below.heap_alloc
variable[Go.Proofs.VB]
def Row(w:World)(g:Nat)(t:TypeId)(cs:List Value):Prop:=w.heap[g]?=some (.cells cs.toArray t (0,0))
def Row.lt{w g t cs}(h:Row w g t cs):g<w:=(eG.1 h).1
def Row.keep{w w' g B t cs}(h:Row w g t cs)(a:Below B w w')(b:g<B):Row w' g t cs:=(a.block g b).trans h
def Row.cell{w g t cs}(h:Row w g t cs)(j):w.cell? ⟨g,j,none⟩=cs[j]?:=by simp only[World.cell?,show w.heap[g]?=some (.cells cs.toArray t (0,0))from h];simp
def NU:=@Row.cell
def Row.r{w g t cs x}(h:Row w g t cs)(k)(e:cs[k]?=some x:=by rfl):w.cell? ⟨g,k,none⟩=some x:=(h.cell k).trans e
def Row.frozen{w g t cs}(h:Row w g t cs)(j):w.frozen? ⟨g,j,none⟩=false:=by simp only[World.frozen?,show w.heap[g]?=some (.cells cs.toArray t (0,0))from h];simp
def aaD:=@Row.frozen
def Row.set{w g t cs}(h:Row w g t cs)(j v):Row (w.setCell (g,j) v) g t (cs.set j v):=by unfold Row;rw[setCell_eq_setRow w g j cs.toArray t (0,0) v h,setRow_heap w g _ _ t (0,0) h];simp
def Row.new(w:World)(cs t):Row (w.alloc (.cells cs.toArray t)) w t cs:=uV w _
def aW:=@Row.new
def Row.alloc{w g t cs}(h:Row w g t cs)(o):Row (w.alloc o) g t cs:=(aaH w o g h.lt).trans h
def Row.three{w g t cs}(h:Row w g t cs)(n)(a:n+3<=cs.length):(∃u,w.cell? (g,n)=some u)/\(∃u,w.cell? (g,n+1)=some u)/\(∃u,w.cell? (g,n+2)=some u)/\
 w.frozen? (g,n)=false/\w.frozen? (g,n+1)=false/\w.frozen? (g,n+2)=false:=by
 refine⟨?_,?_,?_,h.frozen _,h.frozen _,h.frozen _⟩<;>rw[h.cell]<;>exact⟨_,bR O9⟩
def Row.two{w g t cs}(h:Row w g t cs)(n)(a:n+2<=cs.length):(∃u,w.cell? (g,n)=some u)/\(∃u,w.cell? (g,n+1)=some u)/\
 w.frozen? (g,n)=false/\w.frozen? (g,n+1)=false:=by
 refine⟨?_,?_,h.frozen _,h.frozen _⟩<;>rw[h.cell]<;>exact⟨_,bR O9⟩
def VC{a b:World}(c:a.heap=b.heap)(d:a.tape=b.tape)(e:a.drawn=b.drawn)(f:a.os=b.os)(g:a.output=b.output):a=b:=by cases a;cases b;simp_all
def Qu(w:World)(a b t):(w.alloc (.cells a t)).setRow w b=w.alloc (.cells b t):=by
 refine VC ?_ rfl rfl rfl rfl;apply zj;intro i;by_cases hi:i=(w:Nat);.subst hi;rw[setRow_heap _ _ a b t (0,0) (uV w _),uV]
 .rw[setRow_other _ _ _ _ hi];by_cases c:i<(w:Nat);.rw[aaH w _ i c,aaH w _ i c]
  .rw[Kh (by simp;omega),Kh (by simp;omega)]
def kC.cells(x:kC):List Value:=[.string x.tx,.int .i64 x.idx,.string x.key]
def fM.cells(x:fM):List Value:=[.int .i64 x.val,.string x.lock]
def na(l:List kC):List Value:=l.flatMap kC.cells
def lT(l:List fM):List Value:=l.flatMap fM.cells
def rX(l):(na l).length=l.length*3:=by induction l with
 |nil=>rfl
 |cons x l a=>simp only[na,D5,bY]at*;simp only[kC.cells,fR,kE];omega
def AL(l):(lT l).length=l.length*2:=by induction l with
 |nil=>rfl
 |cons x l a=>simp only[lT,D5,bY]at*;simp only[fM.cells,fR,kE];omega
def wN:∀l i x,l[i]?=some x->(na l)[i*3]?=some x.tx/\(na l)[i*3+1]?=some (.int .i64 x.idx)/\(na l)[i*3+2]?=some (.string x.key)
 |[],i,x,h=>by simp at h
 |y::l,0,x,h=>by simp at h;subst h;exact⟨rfl,rfl,rfl⟩
 |y::l,i+1,x,h=>by have:=wN l i x (by simpa using h);have e:na (y::l)=y.cells++na l:=rfl;rw[e];simp[show(i+1)*3=3+i*3 from by omega,show 3+i*3+1=3+(i*3+1)from by omega,show 3+i*3+2=3+(i*3+2)from by omega];have a:y.cells.length=3:=rfl;rw[eA O9,eA O9,eA O9];simpa[a]using this
def xy:∀l i x,l[i]?=some x->(lT l)[i*2]?=some x.val/\(lT l)[i*2+1]?=some (.string x.lock)
 |[],i,x,h=>by simp at h
 |y::l,0,x,h=>by simp at h;subst h;exact⟨rfl,rfl⟩
 |y::l,i+1,x,h=>by have:=xy l i x (by simpa using h);have e:lT (y::l)=y.cells++lT l:=rfl;rw[e];simp[show(i+1)*2=2+i*2 from by omega,show 2+i*2+1=2+(i*2+1)from by omega];have a:y.cells.length=2:=rfl;rw[eA O9,eA O9];simpa[a]using this
def yS{α:Type}{l m:List α}{i:Nat}{x}(h:l[i]?=some x):(l++m)[i]?=some x:=by grind
def Ip{w g t l rest c}(h:Row w g t (na l++rest))(b:l.length<=140737488355328):wH w (.slice g l.length c) l:=⟨⟨_,_,rfl,λ_=>⟨g,0,rfl,λi x d=>by
   have⟨e,f,a⟩:=wN l i x d;refine⟨?_,?_,?_⟩<;>rw[h.cell,jA];.grind
   .grind
   .exact yS a⟩⟩,b⟩
def FY{w g t l rest c}(h:Row w g t (lT l++rest))(b:l.length<=140737488355328):qV w (.slice g l.length c) l:=⟨⟨_,_,rfl,λ_=>⟨g,0,rfl,λi x d=>by
   have⟨e,a⟩:=xy l i x d;refine⟨?_,?_⟩<;>rw[h.cell,jA];.grind
   .exact yS a⟩⟩,b⟩
end
section
def ag8:=@Array.length_toList
def ag9:=@size_madeCells
variable[Go.Proofs.VB]
def aI.afa:(Vp.info? 133).map (λi=>(i.zero,i.size,i.bytes))=some (some (.agg #[aB,aA,aB]),3,40):=K8
def adS:=@aI.afa
def aI.acV:(Vp.info? 69).map (λi=>(i.zero,i.size,i.bytes))=some (some (.agg #[aA,aB]),2,24):=K8
def adT:=@aI.acV
def aI.afb:(Vp.info? 73).map (λi=>(i.zero,i.size,i.bytes))=some (some (.agg #[aA,(),()]),3,56):=K8
def ZB:=@aI.afb
def Io(n:Nat):List Value:=(madeCells #[aB,aA,aB] (n*3)).toList
def VH(n:Nat):List Value:=(madeCells #[aA,aB] (n*2)).toList
def mdT(n:Nat):List Value:=(madeCells #[aA,.slice none 0 0,.slice none 0 0] (n*3)).toList
def Sb(n):(Io n).length=n*3:=by unfold Io;rw[Array.length_toList,size_madeCells]
def acU(n):(VH n).length=n*2:=by unfold VH;rw[Array.length_toList,size_madeCells]
def acR(n):(mdT n).length=n*3:=by unfold mdT;rw[Array.length_toList,size_madeCells]
def Row.aP{w g t cs}(h:Row w g t cs)(a v)(b:g≠a.block):Row (w.setCell a v) g t cs:=(Below.heap_setCell w a v g b).trans h
def FJ{B a w}(h:Below B a w)(g c d e v1 v2 v3)(b:B<=g):Below B a (((w.setCell ⟨g,c,none⟩ v1).setCell ⟨g,d,none⟩ v2).setCell ⟨g,e,none⟩ v3):=
 ((h.setCell (p:=(g,c)) b v1).setCell (p:=(g,d)) b v2).setCell (p:=(g,e)) b v3
def Bw{w w':World}{r}(h:w.grownBy w' r)(g)(a:r=some g\/w<=g)(o v):w.grownBy (w'.setCell ⟨g,o,none⟩ v) r:=by
 refine⟨h.os,h.tape,h.output,?_,λk b c=>?_⟩;.simp;exact h.size
 .rw[Below.heap_setCell w' (g,o) v k (by
   show k≠g;obtain rfl|a:=a;.simp_all
   .omega)]
  exact h.block k b c
end
open Tryz
section
variable[Go.Proofs.VB]
structure St where
 steps:Nat
 l:List Int
inductive xG(α:Type) where
 |ok (a:α) (s:St)
 |bad (e:Int) (steps:Nat)
def Dn(x:Int):Value:=.int .u64 x
def tG(id:ByteArray)(h:Int)(s:St)(abI:List Int):List Value:=[.string id,.int .u64 h,.int .i64 s.steps]++((s.l.reverse++abI).map Dn++[.int .i64 s.l.length])
structure iM(w:World)(b:Nat)(id:ByteArray)(h:Int)(s:St):Prop where
 row:∃abI:List Int,Row w b 279 (tG id h s abI)/\s.l.length+abI.length=16
 yB:∀x∈s.l,0<=x/\x<18446744073709551616
 steps:s.steps<=40
 Br:0<=h/\h<18446744073709551616
def Mo(e:Int):List PanicEntry:=[{v:=.iface 45 (.int .i64 e),recovered:=false}]
def aT{α:Type}(P:α->Value)(w:World)(b:Nat)(id:ByteArray)(h:Int)(r:xG α)(e:Ending)(w':World):Prop:=w.grownBy w' (some b)/\match r with
 |.ok a s=>e=.returned (P a)/\iM w' b id h s
 |.bad k n=>e=.panicked (Mo k)/\∃s,s.steps=n/\iM w' b id h s
def kG(_:Unit):Value:=.tuple #[]
def Ju(w:World)(n r):w.grownBy (w.drewN n) r:=⟨rfl,rfl,rfl,L9,λ_ _ _=>rfl⟩
def iM.n{w b id h s}(a:iM w b id h s)(n):iM (w.drewN n) b id h s:=⟨a.row,a.yB,a.steps,a.Br⟩
def wz(s:St):xG Unit:=if s.steps=40 then .bad 4 40 else .ok () ⟨s.steps+1,s.l⟩
def qQ(x:Int)(s:St):xG Unit:=if s.l.length=16 then .bad 3 s.steps else .ok () ⟨s.steps,x::s.l⟩
def lD(s:St):xG Int:=match s.l with
 |[]=>.bad 3 s.steps
 |x::l=>.ok x ⟨s.steps,l⟩
def qq(w:World)(b o v):w.grownBy (w.setCell ⟨b,o,none⟩ v) (some b):=Bw (aZ w _) b (.inl rfl) o v
def fH{w w':World}{r}(h:w.grownBy w' r):w.grownBy w'.drew r:=⟨h.os,h.tape,h.output,h.size,h.block⟩
def uD(id h s a)(b:s.l.length+a.length=16):(tG id h s a)[19]?=some (.int .i64 s.l.length):=by unfold tG;rw[eA S8,eA (by simp;omega)];simp;rw[show 19 -(0+1+1+1) -(s.l.length+a.length)=0 from by omega];rfl
def H7(id h n x l a):(tG id h ⟨n,x::l⟩ a)[3+l.length]?=some (.int .u64 x):=by unfold tG;rw[eA S8,mQ S8];simp[Dn]
def Pz(id h n y l a):(tG id h ⟨n,l⟩ (y::a))[3+l.length]?=some (.int .u64 y):=by unfold tG;rw[eA S8,mQ S8];simp[Dn]
def abJ(x y n m l a k k2)(b:k=l.length)(c:k2=l.length+1+a.length):(((l++(y::a)).map Dn++[n]).set k (.int .u64 x)).set k2 m=((l++[x])++a).map Dn++[m]:=by
 subst b c;simp[Dn,VQ,Nat.add_comm 1]
def Ug(id h n x y l a)(b:l.length+(a.length+1)=16):((tG id h ⟨n,l⟩ (y::a)).set (3+l.length) (.int .u64 x)).set 19 ↑((l.length:Int)+1)=tG id h ⟨n,x::l⟩ a:=by
 unfold tG;rw[uU _ _ S8,uU _ _ S8,abJ x y _ _ l.reverse a _ _ S8 (by simp;omega)];simp
def PC(id h n x l a)(b:l.length+1+a.length=16):(tG id h ⟨n,x::l⟩ a).set 19 (l.length:Int)=tG id h ⟨n,l⟩ (x::a):=by
 unfold tG;rw[uU _ _ S8,uU _ _ (by simp;omega)];simp only[fR,kE,eY,bY,zw];rw[show 19 -(0+1+1+1) -(l.length+1+a.length)=0 from by omega];simp
def Bv(w b id h s)(a:iM w b id h s):Cv 194 #[.pointer b] w (aT kG w b id h (wz s)):=by
 have⟨f,d,e⟩:=a.row;have c2:=d.cell 2;have i:=d.frozen 2;have g:=a.steps;replace c2:w.cell? (b,2)=some ↑s.steps:=c2;by_cases c:s.steps=40;.go_enter fA func194,ntmps194;go_wp2;refine⟨rfl,aZ _ _,?_⟩;unfold wz;rw[bF c];exact⟨rfl,s,c,a⟩
 .go_enter fA func194,ntmps194;go_wp2;go_end0;unfold wz;rw[aS c];refine⟨qq _ _ _ _,rfl,⟨f,?_,e⟩,a.yB,?_,a.Br⟩;.exact d.set 2 ↑((s.steps:Int)+1)
  .grind
def mW(w b id h x s)(d:iM w b id h s)(m:0<=x/\x<18446744073709551616):Cv 195 #[.pointer b,.int .u64 x] w (aT kG w b id h (qQ x s)):=by
 have⟨e,a,c⟩:=d.row;have c2:=(a.cell 19).trans (uD id h s e c);have p:=a.frozen 19;by_cases f:s.l.length=16
 .have k:((s.l.length:Int)==16)=true:=by rw[f];rfl
  go_enter fA func195,ntmps195;go_wp2;refine⟨rfl,aZ _ _,?_⟩;unfold qQ;rw[bF f];exact⟨rfl,s,rfl,d⟩
 .have k:((s.l.length:Int)==16)=false:=by simpa using(by omega:¬(s.l.length:Int)=16)
  have o:0<=(s.l.length:Int)/\(s.l.length:Int)<16:=O9;have q:=a.frozen (3+s.l.length);have⟨n,l⟩:=s;cases e with
  |nil=>exact absurd c f
  |cons y e=>
    have c3:=(a.cell (3+l.length)).trans (Pz id h n y l e);go_enter fA func195,ntmps195;go_wp2;go_region;have i:=a.set (3+l.length) (.int .u64 x);have c4:=i.cell 19;rw[s5 O9,uD _ _ _ _ c]at c4;go_wp2;go_end0;unfold qQ;rw[aS f];refine⟨fH ((qq _ _ _ _).trans (qq _ _ _ _)),rfl,⟨e,?_,by simp only[fR]at c|-;omega⟩,?_,d.steps,d.Br⟩;.have j:=i.set 19 ↑((l.length:Int)+1);rw[Ug _ _ _ _ _ _ _ c]at j;exact j
    .intro z g;obtain rfl|g:=iY.1 g;.exact m
     .exact d.yB z g
def kU(w b id h s)(a:iM w b id h s):Cv 201 #[.pointer b] w (aT Dn w b id h (lD s)):=by
 have⟨e,c,d⟩:=a.row;have c2:=(c.cell 19).trans (uD id h s e d);have j:=c.frozen 19;have⟨n,l⟩:=s;cases l with
 |nil=>go_enter fA func201,ntmps201;go_wp2;exact⟨rfl,aZ _ _,rfl,_,rfl,a⟩
 |cons x l=>have i:=(c.cell (3+l.length)).trans (H7 id h n x l e);simp at d;go_enter fA func201,ntmps201;go_wp2;go_region;go_wp2;go_ret;refine⟨fH (qq _ _ _ _),rfl,⟨x::e,?_,by simp;omega⟩,λz g=>a.yB z (V6 _ g),a.steps,a.Br⟩;have f:=c.set 19 ↑(l.length:Int);rw[PC _ _ _ _ _ _ d]at f;exact f
def abH(s:St):xG Unit:=match s.l with
 |[]=>.bad 7 s.steps
 |x::l=>if x=0 then .bad 7 s.steps else .ok () ⟨s.steps,x::l⟩
def YP(w b id h s)(a:iM w b id h s):Cv 180 #[.pointer b] w (aT kG w b id h (abH s)):=by
 have⟨f,c,e⟩:=a.row;have c2:=(c.cell 19).trans (uD id h s f e);have m:=c.frozen 19;have⟨n,l⟩:=s;cases l with
 |nil=>replace c2:=c2;go_enter fA func180,ntmps180;go_wp2;go_quiet (fail);go_wp2;exact⟨rfl,Ju w _ _,rfl,_,rfl,a.n nq⟩
 |cons x l=>
   have j:=(c.cell (3+l.length)).trans (H7 id h n x l f);replace c2:=c2;simp only[fR]at e;have g:(((l.length:Int)+1)==0)=false:=by simpa using(by omega:¬(l.length:Int)+1=0)
   have i:0<=(l.length:Int)/\(l.length:Int)<16:=O9;by_cases d:x=0;.subst d;go_enter fA func180,ntmps180;go_wp2;go_quiet (fail);go_wp2;exact⟨rfl,Ju w _ _,rfl,_,rfl,a.n nq⟩
   .have k:(x==0)=false:=by simpa using d
    go_enter fA func180,ntmps180;go_wp2;go_quiet (fail);go_wp2;go_end0;unfold abH;simp only[aS d];exact⟨Ju w _ _,rfl,a.n nq⟩
def ow(b:Bool):Int:=if b then 1 else 0
def Bu(a w):Cv 203 #[.bool a] w λe w'=>e=.returned (.int .u64 (ow a))/\w'=w:=by
 cases a;.go_enter fA func203,ntmps203;go_wp2;go_ret;exact⟨rfl,rfl⟩
 .go_enter fA func203,ntmps203;go_wp2;go_ret;exact⟨rfl,rfl⟩
structure RS where
 l:List UInt8
 bad:Bool
def rH(w:World)(rb:Nat)(r:RS):Prop:=Row w rb 188 [.string (mk r.l),.bool r.bad]
structure vC(w w':World)(rb:Nat)(r:RS):Prop where
 at_:rH w' rb r
 grown:w.grownBy w' (some rb)
def vC.trans{a b c rb r s}(h:vC a b rb r)(k:vC b c rb s):vC a c rb s:=⟨k.at_,h.grown.trans k.grown⟩
def vC.below{a b c rb r}(h:vC a b rb r)(d:Below b b c):vC a c rb r:=⟨Row.keep h.at_ d (Row.lt h.at_),h.grown.trans ⟨d.os,d.tape,d.output,d.size,λk e _=>d.block k e⟩⟩
def RS.take(r:RS)(n:Nat):List UInt8×RS:=if r.bad||decide (r.l.length<n)then([],⟨r.l,true⟩)else(r.l.take n,⟨r.l.drop n,false⟩)
def J1(l n):(mk l).extract 0 n=mk (l.take n):=by apply ByteArray.ext;simp[mk]
def J2(l n):(mk l).extract n l.length=mk (l.drop n):=by apply ByteArray.ext;simp[mk];exact QS S8
def J3{w rb r}(h:rH w rb r)(s j v)(e:[Value.string (mk r.l),Value.bool r.bad].set j v=[↑(mk s.l),.bool s.bad]):vC w (w.setCell (rb,j) v) rb s:=by
 refine⟨?_,?_⟩;.have:=Row.set h j v;rw[e]at this;exact this
 .refine⟨rfl,rfl,rfl,?_,λk _ a=>?_⟩;.simp
  .exact Below.heap_setCell w (rb,j) v k (by show k≠rb;intro e;exact a (by rw[e]))
def NT(rb r)(n:Nat)(w)(a:rH w rb r)(f:n<=1000):Cv 142 #[.pointer rb,n] w λe w'=>e=.returned (mk (r.take n).1)/\vC w w' rb (r.take n).2:=by
 have h0:w.cell? (rb,0)=some ↑(mk r.l):=NU a 0;have d:w.cell? (rb,1)=some (.bool r.bad):=NU a 1;have f0:=aaD a 0;have f1:=aaD a 1;have g:=dL r.l;cases b:r.bad;case true=>
  rw[b]at d;go_enter fA func142,ntmps142;go_wp2;go_ret;have e:r.take n=([],⟨r.l,true⟩):=by simp[RS.take,b]
  rw[e];exact⟨rfl,J3 a _ 1 _ rfl⟩
 rw[b]at d;by_cases c:(mk r.l).size<n
 .go_enter fA func142,ntmps142;go_wp2;go_ret;have e:r.take n=([],⟨r.l,true⟩):=by rw[dL]at c;simp[RS.take,c]
  rw[e];exact⟨rfl,J3 a _ 1 _ rfl⟩
 .go_enter fA func142,ntmps142;go_wp2;go_ret;have e:r.take n=(r.l.take n,⟨r.l.drop n,false⟩):=by rw[dL]at c;simp[RS.take,b,c]
  rw[e];refine⟨congrArg (λs=>Ending.returned (.string s)) (J1 r.l n),?_⟩;rw[J2];exact J3 a _ 0 _ (by simp[b])
def Vu(n:Nat):List Value:=(madeCells #[.int .u8 0] (n*1)).toList
def SQ(n):(Vu n).length=n:=by unfold Vu;rw[Array.length_toList,size_madeCells];omega
def agr(n:Nat)(h:n<=1000000)(w):(Instr.makeSlice 127 (n:Int) (n:Int)).run Vp w=.ok (.slice (w:Nat) n n) (w.alloc (.cells (Vu n).toArray 5)):=by have⟨d,hi,a,b,c⟩:=info_parts H4;have:=xO (P:=Vp) w 127 5 d _ aI.underlying127 hi a .i64 .i64 (n:Int) (n:Int) O9 (nE _) (by rw[c];omega) O9;rw[this,b];simp[Vu,Value.cells]
def ags(w:World)(l ty):(Builtin.copy_ #[127,9] ty #[.slice (w:Nat) l.length l.length,(mk l)]).run Vp (w.alloc (.cells (Vu l.length).toArray 5))=.ok l.length (w.alloc (.cells (bv l).toArray 5)):=by
 have⟨i,hi,f,d,g⟩:=info_parts H4;have a:=run_storeCells_at Vp w 0 5 (bv l) 0 (Vu l.length).toArray (w.alloc (.cells (Vu l.length).toArray 5)) (uV w _) (by simp[qo,SQ]) (Fp l);simp at a;rw[Qu,show(Vu l.length).drop (bv l).length=[]from by rw[List.drop_eq_nil_iff,SQ,qo];exact L9,oO]at a;have b:(Builtin.firstCells 1 l.length (mk l)).run Vp (w.alloc (.cells (Vu l.length).toArray 5))=.ok (bv l).toArray (w.alloc (.cells (Vu l.length).toArray 5)):=by have h:=Go.Lib.run_firstCells_string (P:=Vp) (w.alloc (.cells (Vu l.length).toArray 5)) 1 (mk l);exact h
 have c:(Builtin.lenOf (mk l)).run Vp (w.alloc (.cells (Vu l.length).toArray 5))=.ok l.length (w.alloc (.cells (Vu l.length).toArray 5)):=by simp[Builtin.lenOf,dL]
 have e:Nat.min l.length l.length=l.length:=Nat.min_self _;simp[Builtin.copy_,typeInfo,hi,d,c,b,a,goInt]
def aI.aaE:Vp.cellsOf 5=1:=K8
def J4(w g n){B a}(h:Below B a w)(b:B<=g):Below B a (w.freeze (g,0) n):=by
 unfold World.freeze;split;.exact h
 .refine h.trans ⟨rfl,rfl,rfl,S8,λk c=>?_⟩;simp only[G3];rw[aS (by show¬g=k;omega)]
def Vv(l w)(c:l.length<=1000000):Cv 158 #[(mk l)] w λe w'=>e=.returned (mk l)/\Below w w w':=by
 have i:=dL l;by_cases h0:l=[];.subst h0;go_enter fA func158,ntmps158;go_wp2;go_ret;exact⟨rfl,B0⟩
 .have d:0<l.length:=by
   obtain _|⟨a,l⟩:=l;.simp_all
   .simp
  have g:=agr l.length c;have f:=ags w l;have h:=Go.Lib.run_unsafeString_row (P:=Vp) (w.alloc (.cells (bv l).toArray 5)) 268 3 9 5 aI.underlying268 aI.aaE ↑w l.length (by simp only[World.shape?,uV];simp[qo]) l h0 L9 O9 (λj x b=>by
     have e:(((w:Nat),0):Addr).add j=((w:Nat),j):=by unfold Addr.add;split<;>simp_all
     rw[e];simp[bv,b])
  go_enter fA func158,ntmps158;go_wp2;go_ret;exact⟨rfl,J4 _ _ _ (B0.alloc L9 _) L9⟩
def Qv(l w)(b:l.length<=1000000):Cv 141 #[(mk l)] w λe w'=>e=.returned (mk l)/\Below w w w':=by
 go_enter fA func141,ntmps141;go_wp2;refine(Vv l w b).m1 λw' a=>?_;go_wp2;go_ret;exact⟨rfl,a⟩
def take_len(r:RS)(n):(r.take n).1.length<=n:=by
 unfold RS.take;split;.simp
 .simp_all
def Gm(rb r)(n:Nat)(w)(d:rH w rb r)(c:n<=1000):Cv 119 #[.pointer rb,n] w λe w'=>e=.returned (mk (r.take n).1)/\vC w w' rb (r.take n).2:=by
 go_enter fA func119,ntmps119;go_wp2;refine(NT rb r n w d c).m1 λw1 a=>?_;go_wp2;refine(Qv (r.take n).1 w1 (by have:=take_len r n;omega)).m1 λw2 b=>?_;go_wp2;go_ret;exact⟨rfl,a.below b⟩
def gL(t:List UInt8):Int:=t.foldl (λn c=>n*256+(c.toNat:Int)) 0
def Fu(t c):gL (t++[c])=gL t*256+(c.toNat:Int):=by simp[gL]
def IV:∀(t:List UInt8) (a:Int),0<=a->0<=t.foldl (λn c=>n*256+(c.toNat:Int)) a/\t.foldl (λn c=>n*256+(c.toNat:Int)) a<(a+1)*256^t.length
 |[],a,h=>by simp;omega
 |c::t,a,h=>by have f:=c.toNat_lt;have⟨b,d⟩:=IV t (a*256+(c.toNat:Int)) O9;refine⟨b,D2 d ?_⟩;rw[fR,Int.pow_succ];have e:(0:Int)<256^t.length:=Int.pow_pos D9;rw[show(a+1)*(256^t.length*256)=(a+1)*256*256^t.length from by rw[Int.mul_assoc,Int.mul_comm 256]];exact Int.mul_le_mul_of_nonneg_right O9 (V2 e)
def Fs(t):0<=gL t/\gL t<256^t.length:=by have:=IV t 0 O9;simpa[gL]using this
def NY(t)(h:t.length<=4):0<=gL t/\gL t<4294967296:=by have⟨a,b⟩:=Fs t;refine⟨a,D2 b ?_⟩;have c:t.length=0\/t.length=1\/t.length=2\/t.length=3\/t.length=4:=O9;obtain e|e|e|e|e:=c<;>rw[e]<;>decide
def acS(w t):∃c w',(convert 9 127 (mk t)).run Vp w=.ok (.slice (w:Nat) t.length c) w'/\Below w w w'/\∀j (a:j<t.length),w'.cell? ((w:Nat),j)=some (.int .u8 (t[j].toNat:Int)):=by
 have h:=Go.Lib.run_convert_string_bytes (P:=Vp) w 9 127 5 (mk t) aI.underlying9 aI.underlying127 aI.underlying5;refine⟨_,_,h,?_,λj a=>?_⟩;.refine⟨rfl,rfl,rfl,by rw[Go.Lib.bytesWorld_size];omega,λk b=>Go.Lib.bytesWorld_at_old w _ _ k b⟩
 .rw[Go.Lib.bytesWorld_cell _ _ _ _ (by rw[dL];exact a)];simp[mk,a]
def acT(a)(b:Nat)(h0:0<=a)(e:a<4294967296)(c:b<256):bits .or .i64 (a*256) (b:Int)=a*256+(b:Int):=by obtain⟨n,rfl⟩:=Cb h0;have d:n*256<18446744073709551616:=O9;have f:=nat_join8 (n*256) b O9 c;show IntKind.i64.wrap ((BitVec.ofInt 64 ((n:Int)*256)|||BitVec.ofInt 64 (b:Int)).toNat:Int)=_;rw[BitVec.toNat_or,show((n:Int)*256)=((n*256:Nat):Int)from by simp,ofInt_u64 (n*256) d,ofInt_u64 b O9,vG];omega
def RS.fail(r:RS):RS:=⟨r.l,true⟩
def RS.number(r:RS)(width:Nat)(lo hi:Int):Int×RS:=let t:=r.take width;let n:=gL t.1;if qa n lo hi then(if t.2.bad then(0,t.2)else(n,t.2))else(0,t.2.fail)
def kK(rb r)(width:Nat)(lo hi w)(p:rH w rb r)(y:width<=4):Cv 120 #[.pointer rb,width,.int .i64 lo,.int .i64 hi] w λe w'=>e=.returned ((r.number width lo hi).1)/\vC w w' rb (r.number width lo hi).2:=by
 go_enter fA func120,ntmps120;go_wp2;refine(NT rb r width w p O9).m1 λw1 h=>?_;have s:=take_len r width;have H:Hid (r.number width lo hi=if qa (gL (r.take width).1) lo hi then(if(r.take width).2.bad then(0,(r.take width).2)else(gL (r.take width).1,(r.take width).2))else(0,(r.take width).2.fail)):=rfl;generalize(r.take width).1=t at s H|-;generalize(r.take width).2=r1 at h H|-;have A:=dL t;have⟨c,w2,v,m,f⟩:=acS w1 t;have a:=h.below m;replace f:=aN f;go_wp2;go_loop [9,17] (λn i=>∃k,k<=t.length/\i=k/\n=(gL (t.take k))) (λ_ i=>t.length -(intOf i).toNat);exact⟨0,fQ _,rfl,rfl⟩;case round=>
  obtain⟨k,x,rfl,rfl⟩:=hrel;have d:=NY (t.take k) (by simp;omega);by_cases j:k<t.length
  .have u:=f.out k j;have l:t.take (k+1)=t.take k++[t[k]]:=by rw[xP j]
   have q:Hid (gL (t.take (k+1))=gL (t.take k)*256+(t[k].toNat:Int)):=by unfold Hid;rw[l];exact Fu _ _
   clear l;have z:=t[k].toNat_lt;go_wp2;go_round;exact⟨k+1,O9,by go_num,by rw[q.out,acT _ _ d.1 d.2 O9]⟩;simp[intOf];omega
  .have o:k=t.length:=O9;subst o;rw[iR]at d|-;have c1:w2.cell? (rb,1)=some (.bool r1.bad):=NU a.at_ 1;have f1:=aaD a.at_ 1;go_wp2;refine(gW _ _ _ _).m0 ?_;cases g:qa (gL t) lo hi
   .go_wp2;go_ret;have e:r.number width lo hi=(0,r1.fail):=by rw[H.out,g];rfl
    rw[e];exact⟨rfl,a.trans (J3 a.at_ r1.fail 1 _ rfl)⟩
   .cases b:r1.bad
    .rw[b]at c1;go_wp2;go_ret;have e:r.number width lo hi=(gL t,r1):=by rw[H.out,g,b];rfl
     rw[e];exact⟨rfl,a⟩
    .rw[b]at c1;go_wp2;go_ret;have e:r.number width lo hi=(0,r1):=by rw[H.out,g,b];rfl
     rw[e];exact⟨rfl,a⟩
def RS.code(r:RS):List UInt8×RS:=let n:=r.number 1 0 32;n.2.take n.1.toNat
def xB(r:RS)(width lo hi)(h0:0<=hi)(a:0<=lo):0<=(r.number width lo hi).1/\(r.number width lo hi).1<=hi:=by
 unfold RS.number;dsimp only;split
 .rename_i h;simp[qa]at h;split;.omega
  .omega
 .omega
def NW(rb r w)(g:rH w rb r):Cv 159 #[.pointer rb] w λe w'=>e=.returned (mk r.code.1)/\vC w w' rb r.code.2:=by
 go_enter fA func159,ntmps159;go_wp2;refine(kK rb r 1 0 32 w g O9).m1 λw1 a=>?_;have d:=xB r 1 0 32 O9 O9;have⟨n,f⟩:=Cb d.1;have c:Hid (r.code=(r.number 1 0 32).2.take n):=by unfold Hid RS.code;dsimp only;rw[f];rfl
 generalize(r.number 1 0 32).2=r1 at a c|-;go_wp2;refine(Gm rb r1 n w1 a.at_ O9).m1 λw2 b=>?_;rw[<-c.out]at b|-;go_wp2;go_ret;exact⟨rfl,a.trans b⟩
def pK(s)(j:Nat)(i)(hi:i=(j:Int))(a:j<s.length)(W):(Instr.index 9 (mk s) i).run Vp W=.ok (.int .u8 ((s.getD j 0).toNat:Int)) W:=by
 subst hi;have h0:(0:Int)<=(j:Int):=O9;have b:(mk s)[j]?=some (s.getD j 0):=by
  have c:j<(mk s).size:=by rw[dL];exact a
  rw[getElem?_pos (mk s) j c];simp[a];rfl
 simp[Instr.index,asIntOf,b]
def vC.row{w w' rb r}(h:vC w w' rb r){g t cs}(a:Row w g t cs)(b:g≠rb):Row w' g t cs:=(h.grown.block g a.lt (by simpa using b)).trans a
def rH.alloc{w rb r}(h:rH w rb r)(o):rH (w.alloc o) rb r:=Row.alloc h o
def rH.lt{w rb r}(h:rH w rb r):rb<w:=Row.lt h
def rH.aP{w rb r}(h:rH w rb r)(a v)(b:rb≠a.block):rH (w.setCell a v) rb r:=(Below.heap_setCell w a v rb b).trans h
def bE{a w:World}{r}(h:a.grownBy w r)(p v)(d:↑a<=p.block):a.grownBy (w.setCell p v) r:=by
 refine⟨h.os,h.tape,h.output,?_,λk b c=>?_⟩;.simp;exact h.size
 .rw[Below.heap_setCell w p v k O9];exact h.block k b c
def cF{a w:World}{r}(h:a.grownBy w r)(o):a.grownBy (w.alloc o) r:=h.trans (Wu w o r)
def yR(r:RS):kC×RS:=let a:=r.take 8;let b:=a.2.number 1 0 255;let c:=b.2.code;(⟨mk a.1,b.1,mk c.1⟩,c.2)
def rW(r:RS):fM×RS:=let b:=r.number 4 0 4294967295;let c:=b.2.code;(⟨b.1,mk c.1⟩,c.2)
def aaG(rb r w)(n:rH w rb r):Cv 143 #[.pointer rb] w λe w'=>e=.returned (.agg #[(yR r).1.tx,(yR r).1.idx,(yR r).1.key])/\vC w w' rb (yR r).2:=by
 have y:=n.lt;go_enter fA func143,ntmps143;go_wp2;refine(Gm rb r 8 _ ((n.alloc _).alloc _) O9).m1 λw1 j=>?_;have b:=j.row ((aW w [aB,aA,aB] 133).alloc _) O9;have a:Row w1 ((w:Nat)+1) 133 [aB,aA,aB]:=by have:=j.row (aW (w.alloc (.cells #[aB,aA,aB] 133)) [aB,aA,aB] 133) (by simp only[bO];omega);simpa only[bO]using this
 have c:=(cF (cF (aZ w _) _) _).trans j.grown;have g:=j.at_;clear j;have H:Hid (yR r=(⟨mk (r.take 8).1,((r.take 8).2.number 1 0 255).1,mk ((r.take 8).2.number 1 0 255).2.code.1⟩,((r.take 8).2.number 1 0 255).2.code.2)):=rfl;generalize(r.take 8).1=f at H|-;generalize(r.take 8).2=r1 at H g|-;have c0:=a.r 0;have f0:=a.frozen 0;go_wp2;clear c0 f0;replace b:=b.aP ((w:Nat)+1,0) (mk f) (by show(w:Nat)≠(w:Nat)+1;omega);replace a:=a.set 0 (mk f);replace g:=g.aP ((w:Nat)+1,0) (mk f) (by show rb≠(w:Nat)+1;omega);replace c:=bE c ((w:Nat)+1,0) (mk f) (by show(w:Nat)<=(w:Nat)+1;omega);generalize w1.setCell ⟨(w:Nat)+1,0,none⟩ (mk f)=w2 at b a g c|-;refine(kK rb r1 1 0 255 _ g O9).m1 λw3 k=>?_;replace b:=k.row b O9;replace a:=k.row a O9;replace c:=c.trans k.grown;have h:=k.at_;clear k g;generalize(r1.number 1 0 255).1=d at H|-;generalize(r1.number 1 0 255).2=r2 at H h|-;have c0:=a.r 1;have f0:=a.frozen 1;go_wp2;clear c0 f0;replace b:=b.aP ((w:Nat)+1,1) d (by show(w:Nat)≠(w:Nat)+1;omega);replace a:=a.set 1 d;replace h:=h.aP ((w:Nat)+1,1) d (by show rb≠(w:Nat)+1;omega);replace c:=bE c ((w:Nat)+1,1) d (by show(w:Nat)<=(w:Nat)+1;omega);generalize w3.setCell ⟨(w:Nat)+1,1,none⟩ d=w4 at b a h c|-;refine(NW rb r2 _ h).m1 λi l=>?_;replace b:=l.row b O9;replace a:=l.row a O9;replace c:=c.trans l.grown;have m:=l.at_;clear l h;generalize r2.code.1=s at H|-;generalize r2.code.2=r3 at H m|-;have o:=b.r 0;have p:=b.r 1;have q:=b.r 2;have t:=b.frozen 0;have u:=b.frozen 1;have x:=b.frozen 2;have c0:i.cell? ((w:Nat)+1,0)=some (mk f):=a.cell 0;have c1:i.cell? ((w:Nat)+1,1)=some d:=a.cell 1;have c2:=a.r 2;have f2:=a.frozen 2;go_wp2;rw[H.out];refine nJ (v:=.agg #[(mk f),d,(mk s)]) (by simp[results,results143,go_sem,o,p,q]) rfl ⟨rfl,?_,?_⟩
 .refine(((m.aP _ _ ?_).aP _ _ ?_).aP _ _ ?_).aP _ _ ?_;.show rb≠(w:Nat)+1;omega
  all_goals(show rb≠(w:Nat);omega)
 .refine bE (bE (bE (bE c _ _ ?_) _ _ ?_) _ _ ?_) _ _ ?_;.show(w:Nat)<=(w:Nat)+1;omega
  all_goals exact L9
def Vy(rb r w)(k:rH w rb r):Cv 144 #[.pointer rb] w λe w'=>e=.returned (.agg #[(rW r).1.val,(rW r).1.lock])/\vC w w' rb (rW r).2:=by
 have q:=k.lt;go_enter fA func144,ntmps144;go_wp2;refine(kK rb r 4 0 4294967295 _ ((k.alloc _).alloc _) O9).m1 λw1 g=>?_;have b:=g.row ((aW w [aA,aB] 69).alloc _) O9;have a:Row w1 ((w:Nat)+1) 69 [aA,aB]:=by have:=g.row (aW (w.alloc (.cells #[aA,aB] 69)) [aA,aB] 69) (by simp only[bO];omega);simpa only[bO]using this
 have f:=(cF (cF (aZ w _) _) _).trans g.grown;have d:=g.at_;clear g;have H:Hid (rW r=(⟨(r.number 4 0 4294967295).1,mk (r.number 4 0 4294967295).2.code.1⟩,(r.number 4 0 4294967295).2.code.2)):=rfl;generalize(r.number 4 0 4294967295).1=c at H|-;generalize(r.number 4 0 4294967295).2=r2 at H d|-;have c0:=a.r 0;have f0:=a.frozen 0;go_wp2;clear c0 f0;replace b:=b.aP ((w:Nat)+1,0) c (by show(w:Nat)≠(w:Nat)+1;omega);replace a:=a.set 0 c;replace d:=d.aP ((w:Nat)+1,0) c (by show rb≠(w:Nat)+1;omega);replace f:=bE f ((w:Nat)+1,0) c (by show(w:Nat)<=(w:Nat)+1;omega);generalize w1.setCell ⟨(w:Nat)+1,0,none⟩ c=w4 at b a d f|-;refine(NW rb r2 _ d).m1 λi h=>?_;replace b:=h.row b O9;replace a:=h.row a O9;replace f:=f.trans h.grown;have j:=h.at_;clear h d;generalize r2.code.1=n at H|-;generalize r2.code.2=r3 at H j|-;have l:=b.r 0;have m:=b.r 1;have o:=b.frozen 0;have p:=b.frozen 1;have c0:i.cell? ((w:Nat)+1,0)=some c:=a.cell 0;have c1:=a.r 1;have f1:=a.frozen 1;go_wp2;rw[H.out];refine nJ (v:=.agg #[c,(mk n)]) (by simp[results,results144,go_sem,l,m]) rfl ⟨rfl,?_,?_⟩
 .refine((j.aP _ _ ?_).aP _ _ ?_).aP _ _ ?_;.grind
  all_goals(show rb≠(w:Nat);omega)
 .refine bE (bE (bE f _ _ ?_) _ _ ?_) _ _ ?_;.simp
  all_goals exact L9
def lF:Nat->RS->List kC×RS
 |0,r=>([],r)
 |n+1,r=>((lF n r).1++[(yR (lF n r).2).1],(yR (lF n r).2).2)
def jJ:Nat->RS->List fM×RS
 |0,r=>([],r)
 |n+1,r=>((jJ n r).1++[(rW (jJ n r).2).1],(rW (jJ n r).2).2)
def IW(n r):(lF n r).1.length=n:=by induction n with
 |zero=>rfl
 |succ n a=>simp[lF,a]
def Gp(n r):(jJ n r).1.length=n:=by induction n with
 |zero=>rfl
 |succ n a=>simp[jJ,a]
structure yh where
 tag:Int
 ins:List kC
 outs:List fM
def BA(r:RS)(first:Bool):yh×RS:=let a:=r.number 2 0 65535;let b:=a.2.number 1 (Uq first) (N7 first);let c:=lF b.1.toNat b.2;let d:=c.2.number 1 1 8;let e:=jJ d.1.toNat d.2;(⟨a.1,c.1,e.1⟩,e.2)
def Zk(n:Nat)(h:n<=1000)(w):(Instr.makeSlice 71 (n:Int) (n:Int)).run Vp w=.ok (.slice (w:Nat) n n) (w.alloc (.cells (Io n).toArray 133)):=by have⟨d,hi,a,b,c⟩:=info_parts adS;have:=xO (P:=Vp) w 71 133 d _ aI.underlying71 hi a .i64 .i64 (n:Int) (n:Int) O9 (nE _) (by rw[c];omega) O9;rw[this,b];simp[Io,Value.cells]
def ae8(n:Nat)(h:n<=1000)(w):(Instr.makeSlice 70 (n:Int) (n:Int)).run Vp w=.ok (.slice (w:Nat) n n) (w.alloc (.cells (VH n).toArray 69)):=by have⟨d,hi,a,b,c⟩:=info_parts adT;have:=xO (P:=Vp) w 70 69 d _ aI.underlying70 hi a .i64 .i64 (n:Int) (n:Int) O9 (nE _) (by rw[c];omega) O9;rw[this,b];simp[VH,Value.cells]
def ae7(n:Nat)(h:n<=1000)(w):(Instr.makeSlice 74 (n:Int) (n:Int)).run Vp w=.ok (.slice (w:Nat) n n) (w.alloc (.cells (mdT n).toArray 73)):=by have⟨d,hi,a,b,c⟩:=info_parts ZB;have:=xO (P:=Vp) w 74 73 d _ aI.underlying74 hi a .i64 .i64 (n:Int) (n:Int) O9 (nE _) (by rw[c];omega) O9;rw[this,b];simp[mdT,Value.cells]
def BF(l d)(a b c:Value)(n)(f:l.length=n)(e:3<=d.length):(((l++d).set n a).set (n+1) b).set (n+2) c=l++[a,b,c]++d.drop 3:=by match d,e with
 |x::y::z::d,_=>subst f;simp[show l.length+1 -l.length=1 from by omega]
def Vz(l d)(a b:Value)(n)(e:l.length=n)(c:2<=d.length):((l++d).set n a).set (n+1) b=l++[a,b]++d.drop 2:=by match d,c with
 |x::y::d,_=>subst e;simp[show l.length+1 -l.length=1 from by omega]
def uQ{w w':World}{r}(h:w.drew.grownBy w' r):w.grownBy w' r:=⟨h.os,h.tape,h.output,h.size,h.block⟩
def BG(l x):na (l++[x])=na l++[.string x.tx,.int .i64 x.idx,.string x.key]:=by simp[na,kC.cells]
def Gl(l x):lT (l++[x])=lT l++[.int .i64 x.val,.string x.lock]:=by simp[lT,fM.cells]
structure agt(a w:World)(v:Value)(t:yh)(gi go:Nat):Prop where
 val:v=.agg #[.int .i64 t.tag,.slice (some ⟨gi,0,none⟩) t.ins.length t.ins.length,.slice (some ⟨go,0,none⟩) t.outs.length t.outs.length]
 lt:a.heap.size<=gi
 ne:gi<go
 ins:Row w gi 133 (na t.ins)
 outs:Row w go 69 (lT t.outs)
def aaF(rb r first w)(O:rH w rb r):Cv 121 #[.pointer rb,.bool first] w λe w'=>∃v gi go,e=.returned v/\agt w w' v (BA r first).1 gi go/\vC w w' rb (BA r first).2:=by
 have a4:=O.lt;go_enter fA func121,ntmps121;go_wp2_with (go_at_call 132;refine(mZ _ _).mono ?_;rintro e w' ⟨rfl,rfl⟩);refine(kK rb r 2 0 65535 _ ((O.alloc _).alloc _) O9).m1 λw1 F=>?_;have c:=F.row ((aW w [aA,(),()] 73).alloc _) O9;have a:Row w1 ((w:Nat)+1) 73 [aA,(),()]:=by have:=F.row (aW (w.alloc (.cells #[aA,(),()] 73)) [aA,(),()] 73) (by simp only[bO];omega);simpa only[bO]using this
 have d:=(cF (cF (aZ w _) _) _).trans F.grown;have z:=F.at_;have H:Hid (∀b,b=(r.number 2 0 65535).2.number 1 (Uq first) (N7 first)->BA r first=(⟨(r.number 2 0 65535).1,(lF b.1.toNat b.2).1,(jJ ((lF b.1.toNat b.2).2.number 1 1 8).1.toNat ((lF b.1.toNat b.2).2.number 1 1 8).2).1⟩,(jJ ((lF b.1.toNat b.2).2.number 1 1 8).1.toNat ((lF b.1.toNat b.2).2.number 1 1 8).2).2)):=by intro b S;subst S;rfl
 generalize(r.number 2 0 65535).1=tag at H|-;generalize(r.number 2 0 65535).2=r1 at H z|-;have c0:=a.r 0;have f0:=a.frozen 0;go_wp2;replace c:=c.aP ((w:Nat)+1,0) ↑tag (by show(w:Nat)≠(w:Nat)+1;omega);replace a:=a.set 0 ↑tag;replace z:=z.aP ((w:Nat)+1,0) ↑tag (by show rb≠(w:Nat)+1;omega);replace d:=bE d ((w:Nat)+1,0) ↑tag (by show(w:Nat)<=(w:Nat)+1;omega);generalize w1.setCell ⟨(w:Nat)+1,0,none⟩ ↑tag=w2 at c a z d|-;refine(kK rb r1 1 (Uq first) (N7 first) _ z O9).m1 λw3 G=>?_;replace c:=G.row c O9;replace a:=G.row a O9;replace d:=d.trans G.grown;have A:=G.at_;have D:=xB r1 1 (Uq first) (N7 first) (by cases first<;>decide) (by cases first<;>decide);have⟨n,N⟩:=Cb D.1;have ay:N7 first<=8:=by cases first<;>decide
 replace H:=H.out _ rfl;rw[N]at D H;rw[N];rw[vH]at H;generalize(r1.number 1 (Uq first) (N7 first)).2=r2 at H A|-;replace H:=aN H;have a6:n<=8:=O9;have ab:=Zk n O9;have c1:=a.r 1;have f1:=a.frozen 1;have Y:=a.lt;go_wp2;have L:(w3.setCell ((w:Nat)+1,1) (.slice w3.heap.size n n)).heap.size=(w3:Nat):=by simp only[World.setCell,xQ]
 replace c:=(c.aP ((w:Nat)+1,1) (.slice w3.heap.size n n) (by show(w:Nat)≠(w:Nat)+1;omega)).alloc (.cells (Io n).toArray 133);replace a:=(a.set 1 (.slice w3.heap.size n n)).alloc (.cells (Io n).toArray 133);replace A:=(A.aP ((w:Nat)+1,1) (.slice w3.heap.size n n) (by show rb≠(w:Nat)+1;omega)).alloc (.cells (Io n).toArray 133);replace d:=cF (bE d ((w:Nat)+1,1) (.slice w3.heap.size n n) (by show(w:Nat)<=(w:Nat)+1;omega)) (.cells (Io n).toArray 133);have RI:=aW (w3.setCell ((w:Nat)+1,1) (.slice w3.heap.size n n)) (Io n) 133;rw[L]at RI;generalize(w3.setCell ⟨(w:Nat)+1,1,none⟩ (.slice w3.heap.size n n)).alloc (.cells (Io n).toArray 133)=X at c a A d RI|-;generalize(w3:Nat)=gi at Y RI a|-;go_loopw [27] (λi wr=>∃(k:Nat) (rest:List Value),k<=n/\i=↑k/\Row wr gi 133 (na (lF k r2).1++rest)/\rest.length=(n -k)*3/\rH wr rb (lF k r2).2/\Row wr ↑w 73 [aA,(),()]/\Row wr ((w:Nat)+1) 73 [tag,.slice gi n n,()]/\w.grownBy wr (some rb)) (λi _=>n -(intOf i).toNat);exact⟨0,Io n,fQ _,rfl,RI,by rw[Sb];rfl,A,c,a,d⟩;case round=>
  obtain⟨k,rest,a2,rfl,RI,h,s,c,a,d⟩:=hrel;replace h:=aN h;by_cases a3:k<n
  .have u:Hid (lF (k+1) r2=((lF k r2).1++[(yR (lF k r2).2).1],(yR (lF k r2).2).2)):=rfl;have p:=IW k r2;generalize(lF k r2).1=I at RI u p;generalize(lF k r2).2=t at s u;replace p:=aN p;have t1:=a.r 1;have V:(0:Int)<=(k:Int):=O9;have W:(k:Int)<(n:Int):=O9;have ae:(w:Nat)+1≠gi:=O9;have af:gi≠(w:Nat)+1:=O9;go_wp2;go_region_held3 (λw'=>w'.cell? ((w:Nat)+1,1)=some (.slice gi n n)) (first|go_keep|exact(g.row (show Row wr.drew ((w:Nat)+1) _ _ from a) O9).cell 1) ((go_at_call 143;refine(aaG rb t _ (by exact s)).mono ?_;rintro e w' ⟨rfl,g⟩;obtain⟨⟨ai,ak⟩,⟨aj,ao⟩,⟨a8,a9⟩,f0,f1,f2⟩:=(g.row (show Row wr.drew gi _ _ from RI) O9).three (k*3) (by have:=h.out;have:=p.out;rw[bY,rX];omega)))
   replace c:=g.row (show Row wr.drew ↑w _ _ from c) O9;replace a:=g.row (show Row wr.drew ((w:Nat)+1) _ _ from a) O9;replace RI:=g.row (show Row wr.drew gi _ _ from RI) O9;replace d:=d.trans (uQ g.grown);have o:=g.at_;generalize(yR t).1=x at u|-;generalize(yR t).2=ah at u o;replace c:=((c.aP (gi,k*3) ↑x.tx (by show(w:Nat)≠gi;omega)).aP (gi,k*3+1) ↑x.idx (by show(w:Nat)≠gi;omega)).aP (gi,k*3+2) ↑x.key (by show(w:Nat)≠gi;omega);replace a:=((a.aP (gi,k*3) ↑x.tx (by show(w:Nat)+1≠gi;omega)).aP (gi,k*3+1) ↑x.idx (by show(w:Nat)+1≠gi;omega)).aP (gi,k*3+2) ↑x.key (by show(w:Nat)+1≠gi;omega);replace o:=((o.aP (gi,k*3) ↑x.tx (by show rb≠gi;omega)).aP (gi,k*3+1) ↑x.idx (by show rb≠gi;omega)).aP (gi,k*3+2) ↑x.key (by show rb≠gi;omega);replace d:=bE (bE (bE d (gi,k*3) ↑x.tx (by show(w:Nat)<=gi;omega)) (gi,k*3+1) ↑x.idx (by show(w:Nat)<=gi;omega)) (gi,k*3+2) ↑x.key (by show(w:Nat)<=gi;omega);replace RI:=((RI.set (k*3) ↑x.tx).set (k*3+1) ↑x.idx).set (k*3+2) ↑x.key;rw[BF _ _ _ _ _ _ (by rw[rX,p.out]) (by have:=h.out;omega),<-BG]at RI;generalize((w'.setCell ⟨gi,k*3,none⟩ ↑x.tx).setCell ⟨gi,k*3+1,none⟩ ↑x.idx).setCell ⟨gi,k*3+2,none⟩ ↑x.key=E at c a o d RI|-;go_wp2;go_roundw;exact⟨k+1,rest.drop 3,O9,by go_num,by rw[u.out];exact RI,by rw[Cc,h.out];omega,by rw[u.out];exact o,c,a,d⟩;simp[intOf];omega
  .have μ:k=n:=O9;subst μ;have K:rest=[]:=oL (by rw[h.out];omega);subst K;rw[oO]at RI;have p:=IW k r2;generalize(lF k r2).1=I at RI H p;generalize(lF k r2).2=r3 at s H;replace p:=aN p;go_wp2;refine(kK rb r3 1 1 8 _ s O9).m1 λw4 C=>?_;replace c:=C.row c O9;replace a:=C.row a O9;replace RI:=C.row RI O9;replace d:=d.trans C.grown;have B:=C.at_;have D:=xB r3 1 1 8 O9 O9;have⟨m,J⟩:=Cb D.1;rw[J]at D;replace H:=H.out;rw[J,vH]at H;rw[J];generalize(r3.number 1 1 8).2=l at H B|-;replace H:=aN H;have a5:m<=8:=O9;have ab:=ae8 m O9;have c1:=a.r 2;have f1:=a.frozen 2;have π:=RI.lt;have aa:(w:Nat)+1<(w4:Nat):=O9;go_wp2;have L:(w4.setCell ((w:Nat)+1,2) (.slice w4.heap.size m m)).heap.size=(w4:Nat):=by simp only[World.setCell,xQ]
   replace c:=(c.aP ((w:Nat)+1,2) (.slice w4.heap.size m m) (by show(w:Nat)≠(w:Nat)+1;omega)).alloc (.cells (VH m).toArray 69);replace RI:=(RI.aP ((w:Nat)+1,2) (.slice w4.heap.size m m) (by show gi≠(w:Nat)+1;omega)).alloc (.cells (VH m).toArray 69);replace a:=(a.set 2 (.slice w4.heap.size m m)).alloc (.cells (VH m).toArray 69);replace B:=(B.aP ((w:Nat)+1,2) (.slice w4.heap.size m m) (by show rb≠(w:Nat)+1;omega)).alloc (.cells (VH m).toArray 69);replace d:=cF (bE d ((w:Nat)+1,2) (.slice w4.heap.size m m) (by show(w:Nat)<=(w:Nat)+1;omega)) (.cells (VH m).toArray 69);have f:=aW (w4.setCell ((w:Nat)+1,2) (.slice w4.heap.size m m)) (VH m) 69;rw[L]at f;generalize(w4.setCell ⟨(w:Nat)+1,2,none⟩ (.slice w4.heap.size m m)).alloc (.cells (VH m).toArray 69)=X at c a B d RI f|-;generalize(w4:Nat)=go at π aa f a|-;go_loopw [44] (λi wr=>∃(j:Nat) (rest:List Value),j<=m/\i=↑j/\Row wr go 69 (lT (jJ j l).1++rest)/\rest.length=(m -j)*2/\rH wr rb (jJ j l).2/\Row wr ↑w 73 [aA,(),()]/\Row wr ((w:Nat)+1) 73 [tag,.slice gi k k,.slice go m m]/\Row wr gi 133 (na I)/\w.grownBy wr (some rb)) (λi _=>m -(intOf i).toNat);exact⟨0,VH m,fQ _,rfl,f,by rw[acU];rfl,B,c,a,RI,d⟩;case round=>
    obtain⟨j,rest,az,rfl,f,h,s,c,a,RI,d⟩:=hrel;replace h:=aN h;by_cases a0:j<m
    .have y:Hid (jJ (j+1) l=((jJ j l).1++[(rW (jJ j l).2).1],(rW (jJ j l).2).2)):=rfl;have q:=Gp j l;generalize(jJ j l).1=M at f y q;generalize(jJ j l).2=t at s y;replace q:=aN q;have t1:=a.r 2;have V:(0:Int)<=(j:Int):=O9;have W:(j:Int)<(m:Int):=O9;have ae:(w:Nat)+1≠go:=O9;have af:go≠(w:Nat)+1:=O9;go_wp2;go_region_held3 (λw'=>w'.cell? ((w:Nat)+1,2)=some (.slice go m m)) (first|go_keep|exact(g.row (show Row wr.drew ((w:Nat)+1) _ _ from a) O9).cell 2) ((go_at_call 144;refine(Vy rb t _ (by exact s)).mono ?_;rintro e w' ⟨rfl,g⟩;obtain⟨⟨ai,ak⟩,⟨aj,ao⟩,f0,f1⟩:=(g.row (show Row wr.drew go _ _ from f) O9).two (j*2) (by have:=h.out;have:=q.out;rw[bY,AL];omega)))
     replace c:=g.row (show Row wr.drew ↑w _ _ from c) O9;replace a:=g.row (show Row wr.drew ((w:Nat)+1) _ _ from a) O9;replace RI:=g.row (show Row wr.drew gi _ _ from RI) O9;replace f:=g.row (show Row wr.drew go _ _ from f) O9;replace d:=d.trans (uQ g.grown);have o:=g.at_;generalize(rW t).1=x at y|-;generalize(rW t).2=ah at y o;replace c:=(c.aP (go,j*2) ↑x.val (by show(w:Nat)≠go;omega)).aP (go,j*2+1) ↑x.lock (by show(w:Nat)≠go;omega);replace a:=(a.aP (go,j*2) ↑x.val (by show(w:Nat)+1≠go;omega)).aP (go,j*2+1) ↑x.lock (by show(w:Nat)+1≠go;omega);replace RI:=(RI.aP (go,j*2) ↑x.val (by show gi≠go;omega)).aP (go,j*2+1) ↑x.lock (by show gi≠go;omega);replace o:=(o.aP (go,j*2) ↑x.val (by show rb≠go;omega)).aP (go,j*2+1) ↑x.lock (by show rb≠go;omega);replace d:=bE (bE d (go,j*2) ↑x.val (by show(w:Nat)<=go;omega)) (go,j*2+1) ↑x.lock (by show(w:Nat)<=go;omega);replace f:=(f.set (j*2) ↑x.val).set (j*2+1) ↑x.lock;rw[Vz _ _ _ _ _ (by rw[AL,q.out]) (by have:=h.out;omega),<-Gl]at f;generalize(w'.setCell ⟨go,j*2,none⟩ ↑x.val).setCell ⟨go,j*2+1,none⟩ ↑x.lock=E at c a o d RI f|-;go_wp2;go_roundw;exact⟨j+1,rest.drop 2,O9,by go_num,by rw[y.out];exact f,by rw[Cc,h.out];omega,by rw[y.out];exact o,c,a,RI,d⟩;simp[intOf];omega
    .have T:j=m:=O9;subst T;have K:rest=[]:=oL (by rw[h.out];omega);subst K;rw[oO]at f;have q:=Gp j l;replace H:=H.out;generalize(jJ j l).1=M at f H q;generalize(jJ j l).2=a7 at s H;change Hid _ at H q;have P:=c.r 0;have Q:=c.r 1;have R:=c.r 2;have ar:=c.frozen 0;have au:=c.frozen 1;have av:=c.frozen 2;have c0:=a.r 0;have c1:=a.r 1;have c2:=a.r 2;go_wp2;rw[H.out];have ag:(Value.agg #[tag,.slice gi k k,.slice go j j])=.agg #[tag,.slice gi I.length I.length,.slice go M.length M.length]:=by rw[p.out,q.out]
     refine nJ (v:=.agg #[tag,.slice gi k k,.slice go j j]) (by simp[results,results121,go_sem,P,Q,R]) rfl ⟨_,gi,go,rfl,⟨ag,O9,O9,?_,?_⟩,?_,?_⟩;.refine((RI.aP _ _ ?_).aP _ _ ?_).aP _ _ ?_;all_goals(show gi≠(w:Nat);omega)
     .refine((f.aP _ _ ?_).aP _ _ ?_).aP _ _ ?_;all_goals(show go≠(w:Nat);omega)
     .refine((s.aP _ _ ?_).aP _ _ ?_).aP _ _ ?_;all_goals(show rb≠(w:Nat);omega)
     .refine bE (bE (bE d _ _ ?_) _ _ ?_) _ _ ?_;all_goals exact L9
end
section
def Gn:=@Below.heap_setCell
variable[Go.Proofs.VB]
def nP:Nat->RS->List yh×RS
 |0,r=>([],r)
 |n+1,r=>((nP n r).1++[(BA (nP n r).2 ((n:Int)==0)).1],(BA (nP n r).2 ((n:Int)==0)).2)
def Vw(n r):(nP n r).1.length=n:=by induction n with
 |zero=>rfl
 |succ n a=>simp[nP,a]
structure jK where
 parent:List UInt8
 bits:Int
 bZ:Int
 cI:List yh
def jD(r:RS):jK×RS:=let a:=r.take 8;let b:=a.2.number 1 0 8;let c:=b.2.number 2 0 65535;let d:=c.2.number 1 1 8;let e:=nP d.1.toNat d.2;(⟨a.1,b.1,c.1,e.1⟩,e.2)
structure uN where
 t:yh
 gi:Nat
 go:Nat
def uN.cells(p:uN):List Value:=[.int .i64 p.t.tag,.slice (some ⟨p.gi,0,none⟩) p.t.ins.length p.t.ins.length,.slice (some ⟨p.go,0,none⟩) p.t.outs.length p.t.outs.length]
def y7(l:List uN):List Value:=l.flatMap uN.cells
def C9(l):(y7 l).length=l.length*3:=by induction l with
 |nil=>rfl
 |cons x l a=>simp only[y7,D5,bY]at*;simp only[uN.cells,fR,kE];omega
def Vx(l p):y7 (l++[p])=y7 l++[.int .i64 p.t.tag,.slice (some ⟨p.gi,0,none⟩) p.t.ins.length p.t.ins.length,.slice (some ⟨p.go,0,none⟩) p.t.outs.length p.t.outs.length]:=by simp[y7,uN.cells]
structure nB(w:World)(g:Nat)(l:List uN):Prop where
 rows:∀(i:Nat) (p:uN),l[i]?=some p->g<p.gi/\p.gi<p.go/\Row w p.gi 133 (na p.t.ins)/\Row w p.go 69 (lT p.t.outs)
 asc:∀(i j:Nat) (p q:uN),i<j->l[i]?=some p->l[j]?=some q->p.go<q.gi
def nB.nil(w g):nB w g []:=⟨λi p h=>by simp at h,λi j p q _ h=>by simp at h⟩
def nB.kept{w w' g l}(h:nB w g l)(e:∀b,g<b->b<w->w'.heap[b]?=w.heap[b]?):nB w' g l:=⟨λi p j=>by have⟨a,f,c,d⟩:=h.rows i p j;exact⟨a,f,(e _ a c.lt).trans c,(e _ O9 d.lt).trans d⟩,h.asc⟩
def nB.snoc{w g B l p}(h:nB w g l)(o:∀(i:Nat) (q:uN),l[i]?=some q->q.go<B)(n:g<B)(e:B<=p.gi)(f:p.gi<p.go)(k:Row w p.gi 133 (na p.t.ins))(m:Row w p.go 69 (lT p.t.outs)):nB w g (l++[p]):=by
 refine⟨λi q a=>?_,λi j q s c a b=>?_⟩
 .by_cases hi:i<l.length;.rw[mQ hi]at a;exact h.rows i q a
  .grind
 .by_cases d:j<l.length;.rw[mQ d]at b;rw[mQ O9]at a;exact h.asc i j q s c a b
  .grind
def NV(rb r w)(R:rH w rb r):Cv 88 #[.pointer rb] w λe w'=>∃gt l,e=.returned (.agg #[(mk (jD r).1.parent),(jD r).1.bits,(jD r).1.bZ,.slice (some ⟨gt,0,none⟩) l.length l.length])/\l.map uN.t=(jD r).1.cI/\w<=gt/\Row w' gt 73 (y7 l)/\nB w' gt l/\vC w w' rb (jD r).2:=by
 have a5:=R.lt;go_enter fA func88,ntmps88;go_wp2;refine(Gm rb r 8 _ ((R.alloc _).alloc _) O9).m1 λw1 F=>?_;have f:=F.row ((aW w [aB,aA,aA,()] 76).alloc _) O9;have a:Row w1 ((w:Nat)+1) 76 [aB,aA,aA,()]:=by have:=F.row (aW (w.alloc (.cells #[aB,aA,aA,()] 76)) [aB,aA,aA,()] 76) (by simp only[bO];omega);simpa only[bO]using this
 have g:=(cF (cF (aZ w _) _) _).trans F.grown;have j:=F.at_;have H:Hid (∀b,b=(r.take 8).2.number 1 0 8->∀c,c=b.2.number 2 0 65535->∀d,d=c.2.number 1 1 8->jD r=(⟨(r.take 8).1,b.1,c.1,(nP d.1.toNat d.2).1⟩,(nP d.1.toNat d.2).2)):=by intro b K c ab d ae;subst K ab ae;rfl
 generalize(r.take 8).1=y at H|-;generalize(r.take 8).2=r1 at H j|-;have c0:=a.r 0;have f0:=a.frozen 0;go_wp2;replace f:=f.aP ((w:Nat)+1,0) (mk y) (by show(w:Nat)≠(w:Nat)+1;omega);replace a:=a.set 0 (mk y);replace j:=j.aP ((w:Nat)+1,0) (mk y) (by show rb≠(w:Nat)+1;omega);replace g:=bE g ((w:Nat)+1,0) (mk y) (by show(w:Nat)<=(w:Nat)+1;omega);generalize w1.setCell ⟨(w:Nat)+1,0,none⟩ (mk y)=w2 at f a j g|-;refine(kK rb r1 1 0 8 _ j O9).m1 λw3 G=>?_;replace f:=G.row f O9;replace a:=G.row a O9;replace g:=g.trans G.grown;replace j:=G.at_;replace H:=aN (H.out _ rfl);generalize(r1.number 1 0 8).1=bits at H|-;generalize(r1.number 1 0 8).2=r2 at H j|-;have c0:=a.r 1;have f0:=a.frozen 1;go_wp2;replace f:=f.aP ((w:Nat)+1,1) bits (by show(w:Nat)≠(w:Nat)+1;omega);replace a:=a.set 1 bits;replace j:=j.aP ((w:Nat)+1,1) bits (by show rb≠(w:Nat)+1;omega);replace g:=bE g ((w:Nat)+1,1) bits (by show(w:Nat)<=(w:Nat)+1;omega);generalize w3.setCell ⟨(w:Nat)+1,1,none⟩ bits=w4 at f a j g|-;refine(kK rb r2 2 0 65535 _ j O9).m1 λV s=>?_;replace f:=s.row f O9;replace a:=s.row a O9;replace g:=g.trans s.grown;replace j:=s.at_;replace H:=aN (H.out _ rfl);generalize(r2.number 2 0 65535).1=bZ at H|-;generalize(r2.number 2 0 65535).2=r3 at H j|-;have c0:=a.r 2;have f0:=a.frozen 2;go_wp2;replace f:=f.aP ((w:Nat)+1,2) bZ (by show(w:Nat)≠(w:Nat)+1;omega);replace a:=a.set 2 bZ;replace j:=j.aP ((w:Nat)+1,2) bZ (by show rb≠(w:Nat)+1;omega);replace g:=bE g ((w:Nat)+1,2) bZ (by show(w:Nat)<=(w:Nat)+1;omega);generalize V.setCell ⟨(w:Nat)+1,2,none⟩ bZ=bg at f a j g|-;refine(kK rb r3 1 1 8 _ j O9).m1 λo I=>?_;replace f:=I.row f O9;replace a:=I.row a O9;replace g:=g.trans I.grown;replace j:=I.at_;have Q:=xB r3 1 1 8 O9 O9;have⟨n,M⟩:=Cb Q.1;replace H:=H.out _ rfl;rw[M]at Q;rw[M,vH]at H;rw[M];generalize(r3.number 1 1 8).2=z at H j|-;replace H:=aN H;have a7:n<=8:=O9;have a6:=ae7 n O9;have c1:o.cell? ((w:Nat)+1,3)=some ():=a.cell 3;have f1:=a.frozen 3;have ai:=a.lt;go_wp2;have ar:(o.setCell ((w:Nat)+1,3) (.slice o.heap.size n n)).heap.size=(o:Nat):=by simp only[World.setCell,xQ]
 replace f:=(f.aP ((w:Nat)+1,3) (.slice o.heap.size n n) (by show(w:Nat)≠(w:Nat)+1;omega)).alloc (.cells (mdT n).toArray 73);replace a:=(a.set 3 (.slice o.heap.size n n)).alloc (.cells (mdT n).toArray 73);replace j:=(j.aP ((w:Nat)+1,3) (.slice o.heap.size n n) (by show rb≠(w:Nat)+1;omega)).alloc (.cells (mdT n).toArray 73);replace g:=cF (bE g ((w:Nat)+1,3) (.slice o.heap.size n n) (by show(w:Nat)<=(w:Nat)+1;omega)) (.cells (mdT n).toArray 73);have m:=aW (o.setCell ((w:Nat)+1,3) (.slice o.heap.size n n)) (mdT n) 73;rw[ar]at m;generalize(o.setCell ⟨(w:Nat)+1,3,none⟩ (.slice o.heap.size n n)).alloc (.cells (mdT n).toArray 73)=X at f a j g m|-;generalize(o:Nat)=gt at ai m a|-;go_loopw [21] (λi wr=>∃k l rest,k<=n/\i=k/\l.map uN.t=(nP k z).1/\Row wr gt 73 (y7 l++rest)/\rest.length=(n -k)*3/\nB wr gt l/\rH wr rb (nP k z).2/\Row wr w 76 [aB,aA,aA,()]/\Row wr ((w:Nat)+1) 76 [(mk y),bits,bZ,.slice gt n n]/\w.grownBy wr (some rb)) (λi _=>n -(intOf i).toNat);exact⟨0,[],mdT n,fQ _,rfl,rfl,m,by rw[acR];rfl,nB.nil _ _,j,f,a,g⟩;case round=>
  obtain⟨k,l,rest,a0,rfl,A,m,C,u,J,f,a,g⟩:=hrel;replace C:=aN C;have N:Hid (l.length=k):=by unfold Hid;have:=congrArg List.length A;rw[Vw]at this;simpa using this
  replace A:=aN A;by_cases a4:k<n
  .have B:Hid (nP (k+1) z=((nP k z).1++[(BA (nP k z).2 ((k:Int)==0)).1],(BA (nP k z).2 ((k:Int)==0)).2)):=rfl;generalize(nP k z).1=μ at A B;generalize(nP k z).2=P at J B;have t1:=a.r 3;have a2:(0:Int)<=(k:Int):=O9;have a3:(k:Int)<(n:Int):=O9;have a8:(w:Nat)+1≠gt:=O9;have a9:gt≠(w:Nat)+1:=O9;go_wp2;go_region_held3 (λw'=>w'.cell? ((w:Nat)+1,3)=some (.slice gt n n)) (first|go_keep|exact(s.row (show Row wr.drew ((w:Nat)+1) _ _ from a) O9).cell 3) ((go_at_call 121;refine(aaF rb P _ _ (by exact J)).mono ?_;rintro e w' ⟨v,gi,go,rfl,⟨O,af,hgo,S,T⟩,s⟩;subst O;obtain⟨⟨bc,bj⟩,⟨bd,bk⟩,⟨bf,bm⟩,f0,f1,f2⟩:=(s.row (show Row wr.drew gt _ _ from m) O9).three (k*3) (by have:=C.out;have:=N.out;rw[bY,C9];omega)))
   have ag:(wr:Nat)<=gi:=af;have aU:=m.lt;have ak:∀(i:Nat) (q:uN),l[i]?=some q->q.go<(wr:Nat):=λi q h=>(u.rows i q h).2.2.2.lt;replace u:=u.kept (w':=w') λb K L=>(uQ s.grown).block b L (by simp;omega);replace f:=s.row (show Row wr.drew ↑w _ _ from f) O9;replace a:=s.row (show Row wr.drew ((w:Nat)+1) _ _ from a) O9;replace m:=s.row (show Row wr.drew gt _ _ from m) O9;replace g:=g.trans (uQ s.grown);have D:=s.at_;generalize(BA P ((k:Int)==0)).1=x at B S T|-;generalize(BA P ((k:Int)==0)).2=bb at B D;replace u:=u.snoc (p:=⟨x,gi,go⟩) ak aU ag hgo S T;have aj:Hid ((l++[(⟨x,gi,go⟩:uN)]).map uN.t=μ++[x]):=by unfold Hid;rw[List.map_append,A.out];rfl
   replace f:=((f.aP (gt,k*3) ↑x.tag (by show(w:Nat)≠gt;omega)).aP (gt,k*3+1) (.slice gi x.ins.length x.ins.length) (by show(w:Nat)≠gt;omega)).aP (gt,k*3+2) (.slice go x.outs.length x.outs.length) (by show(w:Nat)≠gt;omega);replace a:=((a.aP (gt,k*3) ↑x.tag (by show(w:Nat)+1≠gt;omega)).aP (gt,k*3+1) (.slice gi x.ins.length x.ins.length) (by show(w:Nat)+1≠gt;omega)).aP (gt,k*3+2) (.slice go x.outs.length x.outs.length) (by show(w:Nat)+1≠gt;omega);replace D:=((D.aP (gt,k*3) ↑x.tag (by show rb≠gt;omega)).aP (gt,k*3+1) (.slice gi x.ins.length x.ins.length) (by show rb≠gt;omega)).aP (gt,k*3+2) (.slice go x.outs.length x.outs.length) (by show rb≠gt;omega);replace g:=bE (bE (bE g (gt,k*3) ↑x.tag (by show(w:Nat)<=gt;omega)) (gt,k*3+1) (.slice gi x.ins.length x.ins.length) (by show(w:Nat)<=gt;omega)) (gt,k*3+2) (.slice go x.outs.length x.outs.length) (by show(w:Nat)<=gt;omega);replace m:=((m.set (k*3) ↑x.tag).set (k*3+1) (.slice gi x.ins.length x.ins.length)).set (k*3+2) (.slice go x.outs.length x.outs.length);rw[BF _ _ _ _ _ _ (by rw[C9,N.out]) (by have:=C.out;omega),<-Vx l ⟨x,gi,go⟩]at m;replace u:=u.kept (w':=((w'.setCell (gt,k*3) ↑x.tag).setCell (gt,k*3+1) (.slice gi x.ins.length x.ins.length)).setCell (gt,k*3+2) (.slice go x.outs.length x.outs.length)) λb K L=>(Gn _ _ _ b (by show b≠gt;omega)).trans ((Gn _ _ _ b (by show b≠gt;omega)).trans (Gn _ _ _ b (by show b≠gt;omega)));generalize((w'.setCell ⟨gt,k*3,none⟩ ↑x.tag).setCell ⟨gt,k*3+1,none⟩ (.slice gi x.ins.length x.ins.length)).setCell ⟨gt,k*3+2,none⟩ (.slice go x.outs.length x.outs.length)=E at f a D g m u|-;go_wp2;go_roundw;exact⟨k+1,l++[⟨x,gi,go⟩],rest.drop 3,O9,by go_num,by rw[B.out];exact aj.out,m,by rw[Cc,C.out];omega,u,by rw[B.out];exact D,f,a,g⟩;simp[intOf];omega
  .have ah:k=n:=O9;subst ah;have ao:rest=[]:=oL (by rw[C.out];omega);subst ao;rw[oO]at m;replace H:=H.out;generalize(nP k z).1=μ at A H;generalize(nP k z).2=ba at J H;replace H:=aN H;have aU:=m.lt;have W:=f.r 0;have Y:=f.r 1;have π:=f.r 2;have aa:=f.r 3;have au:=f.frozen 0;have av:=f.frozen 1;have ay:=f.frozen 2;have az:=f.frozen 3;have c0:=a.r 0;have c1:=a.r 1;have c2:=a.r 2;have c3:=a.r 3;go_wp2;rw[H.out];have O:(Value.agg #[↑(mk y),bits,bZ,.slice gt k k])=.agg #[↑(mk y),bits,bZ,.slice gt l.length l.length]:=by rw[N.out]
   refine nJ (v:=.agg #[↑(mk y),bits,bZ,.slice gt k k]) (by simp[results,results88,go_sem,W,Y,π,aa]) rfl ⟨gt,l,by rw[O],A.out,O9,?_,?_,?_,?_⟩;.refine(((m.aP _ _ ?_).aP _ _ ?_).aP _ _ ?_).aP _ _ ?_;all_goals(show gt≠(w:Nat);omega)
   .refine u.kept λb K L=>?_;refine(Gn _ _ _ b ?_).trans ((Gn _ _ _ b ?_).trans ((Gn _ _ _ b ?_).trans (Gn _ _ _ b ?_)));all_goals(show b≠(w:Nat);omega)
   .refine(((J.aP _ _ ?_).aP _ _ ?_).aP _ _ ?_).aP _ _ ?_;all_goals(show rb≠(w:Nat);omega)
   .refine bE (bE (bE (bE g _ _ ?_) _ _ ?_) _ _ ?_) _ _ ?_;all_goals exact L9
end
section
def ag7:=@wpList_append_own_at
variable[Go.Proofs.VB]
def BK(B:Nat)(w:World)(v:Value)(l:List kC):Prop:=w.ownsRow B 133 3 v l.length (na l)
def Dt(B:Nat)(w:World)(v:Value)(l:List fM):Prop:=w.ownsRow B 69 2 v l.length (lT l)
def eP.cells(d:eP):List Value:=[.int .i64 d.tag,d.iv,d.ov]
def vB(l:List eP):List Value:=l.flatMap eP.cells
def P9(B:Nat)(w:World)(v:Value)(l:List eP):Prop:=w.ownsRow B 73 3 v l.length (vB l)
def Vt(l d):vB (l++[d])=vB l++[.int .i64 d.tag,d.iv,d.ov]:=by simp[vB,eP.cells]
def bU(w:World)(p v):w.grownBy (w.setCell p v) (some p.block):=by refine⟨rfl,rfl,rfl,?_,λk _ a=>Below.heap_setCell w p v k (by intro e;exact a (by rw[e]))⟩;simp only[World.setCell,xQ];exact L9
def fU{B}{w w':World}{e size n g v a}(h:w.ownsRow B e size v n a)(b:w.grownBy w' (some g))(d:g<B):w'.ownsRow B e size v n a:=h.kept b (by cases c:v.ownBlock with
  |none=>exact .inl rfl
  |some k=>have:=(h.lt k c).1;right;intro e;cases e;omega)
def xt{B}{w w':World}{e size n}{v u:Value}{a}(h:w.ownsRow B e size v n a)(b:w.grownBy w' u.ownBlock)(c:∀k,v.ownBlock=some k->u.ownBlock≠some k):w'.ownsRow B e size v n a:=h.kept b (by cases d:v.ownBlock with
  |none=>exact .inl rfl
  |some k=>right;intro e;exact c k d e.symm)
def UI{w w' g t cs}{u:Value}(h:Row w g t cs)(a:w.grownBy w' u.ownBlock)(b:∀k,u.ownBlock=some k->g≠k):Row w' g t cs:=(a.block g h.lt (λe=>b g e.symm rfl)).trans h
def xq{a w w':World}{r}{u:Value}(h:a.grownBy w r)(b:w.grownBy w' u.ownBlock)(c:∀k,u.ownBlock=some k->a<=k):a.grownBy w' r:=⟨b.os.trans h.os,b.tape.trans h.tape,b.output.trans h.output,bL h.size b.size,λi hi d=>(b.block i (eQ hi h.size) (λe=>by have:=c i e.symm;omega)).trans (h.block i hi d)⟩
def add0(g j):((g,0):Addr).add j=⟨g,j,none⟩:=by unfold Addr.add;split<;>simp_all
def acP{B w v l}(h:BK B w v l)(k:l.length<=140737488355328):wH w v l:=by
 refine⟨?_,k⟩;have a:=λg (e:v.ownBlock=some g)=>sY h e;obtain⟨rfl,n⟩|⟨g,cap,cur,rfl,_,_,_,_,_,_⟩:=h.2;.simp_all
 .refine⟨some (g,0),cap,rfl,λ_=>⟨g,0,rfl,λi x m=>?_⟩⟩;have⟨h0,f,j⟩:=wN l i x m;have b:=a g rfl _ _ h0;have c:=a g rfl _ _ f;have d:=a g rfl _ _ j;rw[add0]at b c d;refine⟨?_,?_,?_⟩<;>simp<;>assumption
def acQ{B w v l}(h:Dt B w v l)(f:l.length<=140737488355328):qV w v l:=by
 refine⟨?_,f⟩;have a:=λg (e:v.ownBlock=some g)=>sY h e;obtain⟨rfl,k⟩|⟨g,cap,cur,rfl,_,_,_,_,_,_⟩:=h.2;.simp_all
 .refine⟨some (g,0),cap,rfl,λ_=>⟨g,0,rfl,λi x j=>?_⟩⟩;have⟨h0,d⟩:=xy l i x j;have b:=a g rfl _ _ h0;have c:=a g rfl _ _ d;rw[add0]at b c;refine⟨?_,?_⟩<;>simp<;>assumption
def Ao:∀l i x,l[i]?=some x->(vB l)[i*3]?=some x.tag/\(vB l)[i*3+1]?=some x.iv/\(vB l)[i*3+2]?=some x.ov
 |[],i,x,h=>by simp at h
 |y::l,0,x,h=>by simp at h;subst h;simp[vB,eP.cells]
 |y::l,i+1,x,h=>by have:=Ao l i x (by simpa using h);have e:vB (y::l)=y.cells++vB l:=rfl;have a:y.cells.length=3:=rfl;rw[e,eA (by rw[a];omega),eA (by rw[a];omega),eA (by rw[a];omega),a,show(i+1)*3 -3=i*3 from by omega,show(i+1)*3+1 -3=i*3+1 from by omega,show(i+1)*3+2 -3=i*3+2 from by omega];exact this
structure dD(B:Nat)(w:World)(v:Value)(l:List eP):Prop where
 own:P9 B w v l
 ins:∀d∈l,BK B w d.iv d.ins/\∀k,d.iv.ownBlock=some k->v.ownBlock≠some k
 outs:∀d∈l,Dt B w d.ov d.outs/\∀k,d.ov.ownBlock=some k->v.ownBlock≠some k
def dD.nil(B w):dD B w () []:=⟨nI _ _ _ _,λd a=>by simp at a,λd a=>by simp at a⟩
def dD.kept{B w w' v l g}(h:dD B w v l)(b:w.grownBy w' (some g))(c:g<B):dD B w' v l:=⟨fU h.own b c,λd a=>⟨fU (h.ins d a).1 b c,(h.ins d a).2⟩,λd a=>⟨fU (h.outs d a).1 b c,(h.outs d a).2⟩⟩
def dD.snoc{B B1 w w' v f l d}(h:dD B w v l)(C:B<=B1)(s:P9 B w' f (l++[d]))(p:w.grownBy w' v.ownBlock)(q:f.ownBlock=v.ownBlock\/f.ownBlock=some ↑w)(t:∀k,v.ownBlock=some k->k<B1)(hi:BK B1 w d.iv d.ins)(b:Dt B1 w d.ov d.outs):dD B w' f (l++[d]):=by
 have key:∀{e:TypeId} {size n:Nat} {u:Value} {c:List Value},w.ownsRow B e size u n c->(∀k,u.ownBlock=some k->v.ownBlock≠some k)->w'.ownsRow B e size u n c/\∀k,u.ownBlock=some k->f.ownBlock≠some k:=by
  intro e size n u c b r;refine⟨xt b p r,λk j e=>?_⟩;obtain i|i:=q;.simp_all
  .have:=(b.lt k j).2;rw[i]at e;cases e;omega
 have low:∀{e:TypeId} {size n:Nat} {u:Value} {c:List Value},w.ownsRow B1 e size u n c->w.ownsRow B e size u n c:=by
  intro e size n u c b;refine⟨b.1,?_⟩;obtain h0|⟨g,cap,cur,m,y,o⟩:=b.2;.simp_all
  .exact .inr ⟨g,cap,cur,m,O9,o⟩
 have sQ:∀{e:TypeId} {size n:Nat} {u:Value} {c:List Value},w.ownsRow B1 e size u n c->∀k,u.ownBlock=some k->v.ownBlock≠some k:=by intro e size n u c b k j i;have z:=(b.lt k j).1;have A:=t k i;omega
 refine⟨s,λx a=>?_,λx a=>?_⟩
 .obtain a|a:=mP.1 a;.exact key (h.ins x a).1 (h.ins x a).2
  .simp at a;subst a;exact key (low hi) (sQ hi)
 .obtain a|a:=mP.1 a;.exact key (h.outs x a).1 (h.outs x a).2
  .simp at a;subst a;exact key (low b) (sQ b)
def dD.adH{B w v l}(h:dD B w v l)(o:l.length<=1000)(hi:∀d∈l,d.ins.length<=1000/\d.outs.length<=1000):yi w v l:=by
 refine⟨?_,O9⟩;have b:=λg (e:v.ownBlock=some g)=>sY h.own e;obtain⟨rfl,p⟩|⟨g,cap,cur,rfl,_,_,_,_,_,_⟩:=h.own.2;.simp_all
 .refine⟨some (g,0),cap,rfl,λ_=>⟨g,0,rfl,λi x c=>?_⟩⟩;have a:=cS c;have⟨h0,m,n⟩:=Ao l i x c;have f:=b g rfl _ _ h0;have j:=b g rfl _ _ m;have k:=b g rfl _ _ n;rw[add0]at f j k;refine⟨?_,?_,?_,acP (h.ins x a).1 (by have:=hi x a;omega),acQ (h.outs x a).1 (by have:=hi x a;omega)⟩<;>simp<;>assumption
def Gk{w:World}{g a b c}(h0:w.cell? (g,0)=some a)(e:w.cell? (g,1)=some b)(f:w.cell? (g,2)=some c):∀j u,[a,b,c][j]?=some u->w.cell? ((⟨g,0,none⟩:Addr).add j)=some u:=by intro j u d;match j,d with
 |0,d=>simp at d;subst d;simpa[Addr.add]using h0
 |1,d=>simp at d;subst d;simpa[Addr.add]using e
 |2,d=>simp at d;subst d;simpa[Addr.add]using f
 |j+3,d=>simp at d
def Qt{w:World}{g a b}(h0:w.cell? (g,0)=some a)(d:w.cell? (g,1)=some b):∀j u,[a,b][j]?=some u->w.cell? ((⟨g,0,none⟩:Addr).add j)=some u:=by intro j u c;match j,c with
 |0,c=>simp at c;subst c;simpa[Addr.add]using h0
 |1,c=>simp at c;subst c;simpa[Addr.add]using d
 |j+2,c=>simp at c
def JL{B w ops rest o a Q}(m:o.guard=none)(s x)(n:o.op=.call {callee:=.builtin .append,args:=#[s,x],argTypes:=#[71,71]})(v)(l)(q:a.eval s=v)(p:BK B w v l)
 (d)(g)(r:a.eval x=.slice g 1 1)(c:Row w g 133 d.cells)(hlen:l.length<=1000000)(k:B<=w)
 (h:∀b w',BK B w' b (l++[d])->w.grownBy w' v.ownBlock->(b.ownBlock=v.ownBlock\/b.ownBlock=some ↑w)->wpList Vp ops Q rest (a.put o.dst b) w'):wpList Vp ops Q (o::rest) a w:=by
 have⟨A,hi,t,y,z⟩:=info_parts adS;refine wpList_append_own_at _ m s x 71 n B 133 A _ 3 40 aI.underlying71 hi t y z rfl D9 v l.length (na l) q p ⟨g,0,none⟩ 1 1 d.cells r rfl (Gk (c.cell 0) (c.cell 1) (c.cell 2)) ?_ (by unfold maxLen;omega) O9 k ?_;.intro u e;simp[kC.cells]at e;obtain rfl|rfl|rfl:=e<;>rfl
 .intro b w' f i _ j;refine h b w' ?_ i j;unfold BK;rw[BG,bY];exact f
def Av{B w ops rest o a Q}(m:o.guard=none)(s x)(n:o.op=.call {callee:=.builtin .append,args:=#[s,x],argTypes:=#[70,70]})(v)(l)(q:a.eval s=v)(p:Dt B w v l)
 (d)(g)(r:a.eval x=.slice g 1 1)(c:Row w g 69 d.cells)(hlen:l.length<=1000000)(k:B<=w)
 (h:∀b w',Dt B w' b (l++[d])->w.grownBy w' v.ownBlock->(b.ownBlock=v.ownBlock\/b.ownBlock=some ↑w)->wpList Vp ops Q rest (a.put o.dst b) w'):wpList Vp ops Q (o::rest) a w:=by
 have⟨A,hi,t,y,z⟩:=info_parts adT;refine wpList_append_own_at _ m s x 70 n B 69 A _ 2 24 aI.underlying70 hi t y z rfl D9 v l.length (lT l) q p ⟨g,0,none⟩ 1 1 d.cells r rfl (Qt (c.cell 0) (c.cell 1)) ?_ (by unfold maxLen;omega) O9 k ?_;.intro u e;simp[fM.cells]at e;obtain rfl|rfl:=e<;>rfl
 .intro b w' f i _ j;refine h b w' ?_ i j;unfold Dt;rw[Gl,bY];exact f
def JK{B w ops rest o a Q}(p:o.guard=none)(s x)(q:o.op=.call {callee:=.builtin .append,args:=#[s,x],argTypes:=#[74,74]})(v)(l)(t:a.eval s=v)(r:P9 B w v l)
 (d)(g)(y:a.eval x=.slice g 1 1)(c:Row w g 73 d.cells)(f:d.iv.oneCell'=true)(i:d.ov.oneCell'=true)(hlen:l.length<=1000000)(n:B<=w)
 (h:∀b w',P9 B w' b (l++[d])->w.grownBy w' v.ownBlock->(b.ownBlock=v.ownBlock\/b.ownBlock=some ↑w)->wpList Vp ops Q rest (a.put o.dst b) w'):wpList Vp ops Q (o::rest) a w:=by
 have⟨D,hi,z,A,C⟩:=info_parts ZB;refine wpList_append_own_at _ p s x 74 q B 73 D _ 3 56 aI.underlying74 hi z A C rfl D9 v l.length (vB l) t r ⟨g,0,none⟩ 1 1 d.cells y rfl (Gk (c.cell 0) (c.cell 1) (c.cell 2)) ?_ (by unfold maxLen;omega) O9 n ?_
 .intro u e;simp[eP.cells]at e;obtain rfl|rfl|rfl:=e;.rfl
  .exact f
  .exact i
 .intro b w' j k _ m;refine h b w' ?_ k m;unfold P9;rw[Vt,bY];exact j
end
section
variable[Go.Proofs.VB]
def uI{B}{w:World}{e size n v a}(h:w.ownsRow B e size v n a)(p u)(b:∀k,v.ownBlock=some k->k≠p.block):(w.setCell p u).ownsRow B e size v n a:=h.kept (bU w p u) (by cases c:v.ownBlock with
  |none=>exact .inl rfl
  |some k=>right;intro e;exact b k c (by simpa using e))
def cT{B}{w:World}{e size n v a}(h:w.ownsRow B e size v n a)(m)(b:n=m+1):∃g cap,v=.slice (some ⟨g,0,none⟩) (m+1) cap:=by
 obtain⟨_,h0⟩|⟨g,cap,cur,c,_⟩:=h.2;.omega
 .simp_all
def eP.m(d:eP):yh:=⟨d.tag,d.ins,d.outs⟩
def kB(s:List UInt8):Option jK:=if(jD ⟨s,false⟩).2.bad||!(jD ⟨s,false⟩).2.l.isEmpty then none else some (jD ⟨s,false⟩).1
structure Ni(a w:World)(v:Value)(b:jK)(gt:Nat)(ps:List uN):Prop where
 val:v=.agg #[.string (mk b.parent),.int .i64 b.bits,.int .i64 b.bZ,.slice (some ⟨gt,0,none⟩) ps.length ps.length]
 cI:ps.map uN.t=b.cI
 lt:a.heap.size<=gt
 row:Row w gt 73 (y7 ps)
 rows:nB w gt ps
def lQ:Value:=.agg #[aB,aA,aA,.slice none 0 0]
def aaM(l):(mk l).toList.isEmpty=l.isEmpty:=by rw[ByteArray.toList_eq];simp[mk]
def zf{a w1:World}{B:Nat}(hb:Below B a w1)(hB:B≤w1.heap.size)(v0 v1 v2 v3:Value)(o:Obj):Below B a (((((w1.setCell ⟨B,0,none⟩ v0).setCell ⟨B,1,none⟩ v1).setCell ⟨B,2,none⟩ v2).setCell ⟨B,3,none⟩ v3).alloc o):=by
  refine Below.alloc ((((hb.setCell (p:=⟨B,0,none⟩) (qz _) v0).setCell (p:=⟨B,1,none⟩) (qz _) v1).setCell (p:=⟨B,2,none⟩) (qz _) v2).setCell (p:=⟨B,3,none⟩) (qz _) v3) ?_ o;simpa only[World.setCell,xQ]using hB
def Gt{w1 B g t cs}(h:Row w1 g t cs)(a:g≠B)(v0 v1 v2 v3 o):Row (((((w1.setCell (B,0) v0).setCell (B,1) v1).setCell (B,2) v2).setCell (B,3) v3).alloc o) g t cs:=
 ((((h.aP ⟨B,0,none⟩ v0 a).aP ⟨B,1,none⟩ v1 a).aP ⟨B,2,none⟩ v2 a).aP ⟨B,3,none⟩ v3 a).alloc o
def NZ{w1 B g l}(h:nB w1 g l)(f:B<=g)(v0 v1 v2 v3 o):nB (((((w1.setCell (B,0) v0).setCell (B,1) v1).setCell (B,2) v2).setCell (B,3) v3).alloc o) g l:=
 ⟨λi p e=>by have⟨a,b,c,d⟩:=h.rows i p e;exact⟨a,b,Gt c O9 _ _ _ _ _,Gt d O9 _ _ _ _ _⟩,h.asc⟩
def wM(s w):Cv 59 #[(mk s)] w λe w'=>Below w w w'/\((kB s=none/\e=.returned (.tuple #[lQ,aG]))\/∃b v gt f,kB s=some b/\e=.returned (.tuple #[v,aA])/\Ni w w' v b gt f):=by
 have d:Hid (kB s=if(jD ⟨s,false⟩).2.bad||!(jD ⟨s,false⟩).2.l.isEmpty then none else some (jD ⟨s,false⟩).1):=rfl;go_enter fA func59,ntmps59;go_wp2;have z:rH ((w.alloc (.cells #[aB,aA,aA,()] 76)).alloc (.cells #[(mk s),aF] 188)) ((w:Nat)+1) ⟨s,false⟩:=by have:=aW (w.alloc (.cells #[aB,aA,aA,()] 76)) [(mk s),aF] 188;rw[bO]at this;exact this
 refine(NV ((w:Nat)+1) ⟨s,false⟩ _ z).mono ?_;rintro e w1 ⟨gt,f,rfl,x,aU,y,C,p⟩;simp only[bO]at aU;have a:=p.row ((aW w [aB,aA,aA,()] 76).alloc (.cells #[(mk s),aF] 188)) O9;have q:Below w w w1:=by have A:Below w w ((w.alloc (.cells #[aB,aA,aA,()] 76)).alloc (.cells #[(mk s),aF] 188)):=(B0.alloc L9 _).alloc (by simp only[bO];omega) _;exact A.grown p.grown (by simp only[bO];omega) (λk B=>by simp at B;omega)
 have g:=p.at_;generalize(jD ⟨s,false⟩).1=b at d x|-;generalize(jD ⟨s,false⟩).2=r1 at d g;have⟨l1,t⟩:=r1;have c0:w1.cell? ((w:Nat)+1,0)=some (mk l1):=NU g 0;have c1:w1.cell? ((w:Nat)+1,1)=some (.bool t):=NU g 1;have H:=Row.lt g;have j:=a.r 0;have m:=a.r 1;have n:=a.r 2;have o:w1.cell? ((w:Nat),3)=some ():=a.cell 3;have D:=a.frozen 0;have E:=a.frozen 1;have F:=a.frozen 2;have G:=a.frozen 3;have r:(w:Nat)<(w1:Nat):=O9;have u:=aaM l1;cases t;case true=>go_wp2;have c:kB s=none:=d.out;exact nJ (v:=.tuple #[lQ,aG]) (by simp[results,results59,go_sem,j,m,n,o,lQ,r]) rfl ⟨zf q O9 _ _ _ _ _,.inl ⟨c,rfl⟩⟩
 case false=>
  cases i:l1.isEmpty
  .rw[i]at u;go_wp2;have c:kB s=none:=by have h:=d.out;rw[i]at h;exact h
   exact nJ (v:=.tuple #[lQ,aG]) (by simp[results,results59,go_sem,j,m,n,o,lQ,r]) rfl ⟨zf q O9 _ _ _ _ _,.inl ⟨c,rfl⟩⟩
  .rw[i]at u;go_wp2;have c:kB s=some b:=by have h:=d.out;rw[i]at h;exact h
   exact nJ (v:=.tuple #[.agg #[(mk b.parent),b.bits,b.bZ,.slice gt f.length f.length],aA]) (by simp[results,results59,go_sem,j,m,n,o,r]) rfl ⟨zf q O9 _ _ _ _ _,.inr ⟨b,_,gt,f,c,rfl,rfl,x,O9,Gt y O9 _ _ _ _ _,NZ C O9 _ _ _ _ _⟩⟩
def Ie{s t:eP}(h:s.YC t)(first):s.fits first=t.fits first:=by have⟨a,b,c⟩:=h;simp[eP.fits,a,b,c]
def PL{s t:eP}(h:s.YC t):s.bytes=t.bytes:=by have⟨a,b,c⟩:=h;simp[eP.bytes,a,b,c]
def MI{α:Type}{f:eP->α}(b:∀s t,s.YC t->f s=f t){l m}(h:DL l m):l.map f=m.map f:=by
 apply kF;intro i;simp;by_cases hi:i<l.length
 .have a:i<m.length:=by have:=h.1;omega
  rw[bR hi,bR a];simp;rw[b _ _ (h.2 i _ _ (bR hi) (bR a))]
 .rw[nK O9,nK (by have:=h.1;omega)]
def Fh{l m}(h:DL l m)(p bits bZ):dN p bits bZ l=dN p bits bZ m:=by
 have e:∀x:List eP,x.zipIdx.all (λq=>q.1.fits ((q.2:Int)==0))=(x.map (λt=>(t.fits true,t.fits false))).zipIdx.all (λq=>if((q.2:Int)==0)then q.1.1 else q.1.2):=by intro x;rw[List.zipIdx_map,List.all_map];congr 1;funext q;simp only[Function.comp,Prod.map,id];cases((q.2:Int)==0)<;>rfl
 simp[dN,h.1,e];rw[MI (f:=λt=>(t.fits true,t.fits false)) (λs t a=>by rw[Ie a,Ie a]) h]
def Dm{l m}(h:DL l m)(p bits bZ):fY p bits bZ l=fY p bits bZ m:=by
 have e:l.flatMap eP.bytes=m.flatMap eP.bytes:=by rw[G7,G7,MI (λs t a=>PL a) h]
 simp[fY,h.1,e]
def yh.d(t:yh):eP:=⟨t.tag,.slice none 0 0,t.ins,.slice none 0 0,t.outs⟩
def mJ(b:jK):Bool:=dN (mk b.parent) b.bits b.bZ (b.cI.map yh.d)
def uz(b:jK):List UInt8:=fY (mk b.parent) b.bits b.bZ (b.cI.map yh.d)
def aet(ds b)(h:ds.map eP.m=b):DL ds (b.map yh.d):=by subst h;refine⟨S8,λi s t c a=>?_⟩;rw[pG,cL,c]at a;simp at a;subst a;exact⟨rfl,rfl,rfl⟩
def dD.keep{B w w' v l}(h:dD B w v l)(a:Below w w w'):dD B w' v l:=by
 have key:∀{e:TypeId} {size n:Nat} {u:Value} {c:List Value},w.ownsRow B e size u n c->w'.ownsRow B e size u n c:=λg=>g.kept (row:=none) ⟨a.os,a.tape,a.output,a.size,λk f _=>a.block k f⟩ (by cases Value.ownBlock _<;>simp)
 exact⟨key h.own,λd b=>⟨key (h.ins d b).1,(h.ins d b).2⟩,λd b=>⟨key (h.outs d b).1,(h.outs d b).2⟩⟩
def vh(h:Int)(c:UInt8):Int:=IntKind.u64.wrap (bits .xor .u64 h (c.toNat:Int)*1099511628211)
def hN(l:List UInt8):Int:=l.foldl vh 14695981039346656037
def abX(a b:Nat)(c:a<18446744073709551616)(d:b<18446744073709551616):bits .xor .u64 (a:Int) (b:Int)=((a^^^b:Nat):Int):=by have e:=Nat.xor_lt_two_pow (n:=64) c d;show IntKind.u64.wrap ((BitVec.ofInt 64 (a:Int)^^^BitVec.ofInt 64 (b:Int)).toNat:Int)=_;rw[BitVec.toNat_xor,ofInt_u64 a c,ofInt_u64 b d,IntKind.wrap_u64];omega
def Zi(h c):0<=vh h c/\vh h c<18446744073709551616:=by unfold vh;rw[IntKind.wrap_u64];omega
def Fg(l):0<=hN l/\hN l<18446744073709551616:=by
 have:∀(l:List UInt8) (a:Int),0<=a/\a<18446744073709551616->0<=l.foldl vh a/\l.foldl vh a<18446744073709551616:=by intro l;induction l with
  |nil=>intro a h;exact h
  |cons c l b=>intro a _;exact b _ (Zi a c)
 exact this l _ O9
def RP(l c):hN (l++[c])=vh (hN l) c:=by simp[hN]
def rU(l w)(n:l.length<=1000000):Cv 102 #[(mk l)] w λe w'=>e=.returned (.int .u64 (hN l))/\w'=w:=by
 have o:=dL l;go_enter fA func102,ntmps102;go_wp2;go_loop [3,7] (λh i=>∃k:Nat,k<=l.length/\i=↑k/\h=.int .u64 (hN (l.take k))) (λ_ i=>l.length -(intOf i).toNat);exact⟨0,fQ _,rfl,rfl⟩;case round=>
  obtain⟨k,j,rfl,rfl⟩:=hrel;by_cases a:k<l.length
  .have d:=pK l k (k:Int) rfl a;have f:l.take (k+1)=l.take k++[l[k]]:=by rw[xP a]
   have b:Hid (hN (l.take (k+1))=vh (hN (l.take k)) (l.getD k 0)):=by unfold Hid;rw[f,RP];simp[a]
   have g:=(l.getD k 0).toNat_lt;generalize l.getD k 0=c at d b g;go_wp2;go_round;exact⟨k+1,O9,by go_num,by rw[b.out];rfl⟩;simp[intOf];omega
  .have m:k=l.length:=O9;go_wp2;go_ret;exact⟨rfl,rfl⟩
def PX(n):∀m k,k<m->(be n m)[k]?=some (byteOf (n/2^(8*(m -1 -k))%256))
 |m+1,0,_=>by simp[be]
 |m+1,k+1,h=>by have:=PX n m k O9;simp only[be,pE,this];rw[show m+1 -1 -(k+1)=m -1 -k from by omega]
def PY(n k y rest)(b:k<8):(bv ((be n 8).take k)++(y::rest)).set k (.int .u8 (n/2^(56 -8*k)%256))=bv ((be n 8).take (k+1))++rest:=by
 have a:=PX n 8 k b;have c:(bv ((be n 8).take k)).length=k:=by rw[qo,jO,bV];omega
 rw[uU _ _ O9,c,D7,a,show 8*(8 -1 -k)=56 -8*k from by omega];have d:((byteOf (n/2^(56 -8*k)%256)).toNat:Int)=n/2^(56 -8*k)%256:=dZ _ (QN _ O9) (QO _ O9);simp[bv,d]
def pT(n w)(_h0:0<=n)(_h1:n<18446744073709551616):Cv 122 #[.int .u64 n] w λe w'=>e=.returned (mk (be n 8))/\Below w w w':=by
 go_enter fA func122,ntmps122;go_wp2;go_loopw [5] (λi wr=>∃(k:Nat) (rest:List Value),k<=8/\i=k/\Row wr w 243 (bv ((be n 8).take k)++rest)/\rest.length=8 -k/\Below w w wr) (λi _=>8 -(intOf i).toNat);exact⟨0,[.int .u8 0,.int .u8 0,.int .u8 0,.int .u8 0,.int .u8 0,.int .u8 0,.int .u8 0,.int .u8 0],fQ _,rfl,aW w _ _,rfl,B0.alloc L9 _⟩;case round=>
  obtain⟨k,rest,p,rfl,R,a,d⟩:=hrel;by_cases l:k<8;.match rest,a with
   |[],a=>simp at a;omega
   |y::rest,a=>
     have h:(bv ((be n 8).take k)).length=k:=by rw[qo,jO,bV];omega
     have c0:wr.cell? ((w:Nat),k)=some y:=by rw[R.cell,eA O9,h,rI];rfl
     have f0:=R.frozen k;have c:=R.set k (.int .u8 (n/2^(56 -8*k)%256));rw[PY n k y rest l]at c;replace a:=aN a;go_wp2;go_roundw;exact⟨k+1,rest,O9,by go_num,c,by have:=a.out;simp only[fR]at this;omega,d.setCell L9 _⟩;simp[intOf];omega
  .have m:rest=[]:=oL O9;subst m;rw[oO,QS (by rw[bV];omega)]at R;have f:=bV n 8;generalize b:be n 8=q at R f;replace b:=aN b;have o:(convert 127 9 (.slice w.heap.size 8 8)).run Vp wr=.ok (mk q) wr:=by have:=run_convert_bytes_back (P:=Vp) wr 127 9 5 ((w:Nat),0) 8 q aI.underlying127 aI.underlying5 aI.underlying9 (λj g=>by rw[add0,R.cell];simp[bv,g]);rw[f]at this;exact this
   go_wp2;go_ret;exact⟨by rw[b.out];rfl,d⟩
def Ak(l w)(d:l.length<=1000000):Cv 89 #[(mk l)] w λe w'=>e=.returned (.string (mk (be (hN l) 8)))/\Below w w w':=by
 have b:=Fg l;go_enter fA func89,ntmps89;go_wp2;refine(rU l _ d).m0 ?_;go_wp2;refine(pT (hN l) _ b.1 b.2).m1 λw2 c=>?_;generalize a:mk (be (hN l) 8)=q;replace a:=aN a;go_wp2;go_ret;exact⟨by rw[a.out];rfl,c⟩
end
def dB{B w w'}(h:Below B w w'):Below B w w'.drew:=⟨h.os,h.tape,h.output,h.size,h.block⟩
def ZG{w w' r C}(h:w.grownBy w' r)(b:C<=↑w)(a:∀k,r=some k->C<=k):Below C w w':=⟨h.os,h.tape,h.output,h.size,λi hi=>h.block i O9 (λe=>by have:=a i e.symm;omega)⟩
structure Iw(p:Prop):Prop where
 out:p
end Go.Proofs.aH
