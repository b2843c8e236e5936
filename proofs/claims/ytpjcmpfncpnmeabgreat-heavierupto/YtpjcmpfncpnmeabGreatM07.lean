import Derived.Lib.QuietBelow
import Derived.Deep.RegionWith
import Derived.Laws.CopyRow
import Derived.Deep.RegionHeld3
import Derived.Recover
import Derived.Lib.ConvBytes
import Derived.Laws.BitsAllLaws
import Derived.Test.YtpjcmpfncpnmeabGreatM03
set_option linter.all false
set_option maxHeartbeats 1000000
set_option maxRecDepth 100000
namespace Go.Proofs.aH
open Go.RowKit
section
variable[Go.Proofs.VB]
def aI.mixed:Vp.follows .mixedOrders=true:=K8
def E1:=@aI.mixed
def aef(bare:Bool)(s:ByteArray):ByteArray:=if bare then⟨#[]⟩else s
def UT(bare s)(h:s.size<=32):(aef bare s).size<=32:=by
 cases bare;.exact h
 .show(ByteArray.mk #[]).size<=32;exact fE _
def Aa(bare:Bool)(x:jX):List UInt8:=fH x.tx++be x.idx 1++(be (aef bare x.key).size 1++fH (aef bare x.key))
def qW(bare:Bool)(tag:Int)(ins:List jX)(outs:List fL):List UInt8:=be tag 2++be ins.length 1++ins.flatMap (Aa bare)++be outs.length 1++outs.flatMap fL.bytes
def Jf(bare x)(h:x.Small):(Aa bare x).length<=42:=by have⟨b,_,a,_⟩:=h;have:=UT bare x.key a;simp[Aa,bS,gF];omega
def eO.aa1(s t:eO):Prop:=s.tag=t.tag/\s.ins=t.ins/\s.outs=t.outs
def Dp(l m:List eO):Prop:=l.length=m.length/\∀(i:Nat) (s t:eO),l[i]?=some s->m[i]?=some t->s.aa1 t
end
section
def ZP:=@Below.heap_alloc
variable[Go.Proofs.VB]
def Row(w:World)(g:Nat)(t:TypeId)(cs:List Value):Prop:=w.heap[g]?=some (.cells cs.toArray t (0,0))
def Row.lt{w g t cs}(h:Row w g t cs):g<w:=(eB.1 h).1
def Row.keep{w w' g B t cs}(h:Row w g t cs)(a:Below B w w')(b:g<B):Row w' g t cs:=(a.block g b).trans h
def Row.cell{w g t cs}(h:Row w g t cs)(j):w.cell? ⟨g,j,none⟩=cs[j]?:=by simp only[World.cell?,show w.heap[g]?=some (.cells cs.toArray t (0,0))from h];simp
def Nr:=@Row.cell
def Row.r{w g t cs x}(h:Row w g t cs)(k)(e:cs[k]?=some x:=by rfl):w.cell? ⟨g,k,none⟩=some x:=(h.cell k).trans e
def Row.frozen{w g t cs}(h:Row w g t cs)(j):w.frozen? ⟨g,j,none⟩=false:=by simp only[World.frozen?,show w.heap[g]?=some (.cells cs.toArray t (0,0))from h];simp
def ZK:=@Row.frozen
def Row.set{w g t cs}(h:Row w g t cs)(j v):Row (w.setCell (g,j) v) g t (cs.set j v):=by unfold Row;rw[setCell_eq_setRow w g j cs.toArray t (0,0) v h,setRow_heap w g _ _ t (0,0) h];simp
def Row.new(w:World)(cs t):Row (w.alloc (.cells cs.toArray t)) w t cs:=uU w _
def aW:=@Row.new
def Row.alloc{w g t cs}(h:Row w g t cs)(o):Row (w.alloc o) g t cs:=(ZP w o g h.lt).trans h
def Row.three{w g t cs}(h:Row w g t cs)(n)(a:n+3<=cs.length):(∃u,w.cell? (g,n)=some u)/\(∃u,w.cell? (g,n+1)=some u)/\(∃u,w.cell? (g,n+2)=some u)/\
 w.frozen? (g,n)=false/\w.frozen? (g,n+1)=false/\w.frozen? (g,n+2)=false:=by
 refine⟨?_,?_,?_,h.frozen _,h.frozen _,h.frozen _⟩<;>rw[h.cell]<;>exact⟨_,bP O9⟩
def Row.two{w g t cs}(h:Row w g t cs)(n)(a:n+2<=cs.length):(∃u,w.cell? (g,n)=some u)/\(∃u,w.cell? (g,n+1)=some u)/\
 w.frozen? (g,n)=false/\w.frozen? (g,n+1)=false:=by
 refine⟨?_,?_,h.frozen _,h.frozen _⟩<;>rw[h.cell]<;>exact⟨_,bP O9⟩
def UU{a b:World}(c:a.heap=b.heap)(d:a.tape=b.tape)(e:a.drawn=b.drawn)(f:a.os=b.os)(g:a.output=b.output):a=b:=by cases a;cases b;simp_all
def PX(w:World)(a b t):(w.alloc (.cells a t)).setRow w b=w.alloc (.cells b t):=by
 refine UU ?_ rfl rfl rfl rfl;apply y5;intro i;by_cases hi:i=(w:Nat);.subst hi;rw[setRow_heap _ _ a b t (0,0) (uU w _),uU]
 .rw[setRow_other _ _ _ _ hi];by_cases c:i<(w:Nat);.rw[ZP w _ i c,ZP w _ i c]
  .rw[JN (by simp;omega),JN (by simp;omega)]
def jX.cells(x:jX):List Value:=[.string x.tx,.int .i64 x.idx,.string x.key]
def fL.cells(x:fL):List Value:=[.int .i64 x.val,.string x.lock]
def mW(l:List jX):List Value:=l.flatMap jX.cells
def lQ(l:List fL):List Value:=l.flatMap fL.cells
def rS(l):(mW l).length=l.length*3:=by induction l with
 |nil=>rfl
 |cons x l a=>simp only[mW,DF,bW]at*;simp only[jX.cells,fF,jZ];omega
def Au(l):(lQ l).length=l.length*2:=by induction l with
 |nil=>rfl
 |cons x l a=>simp only[lQ,DF,bW]at*;simp only[fL.cells,fF,jZ];omega
def wN:∀l i x,l[i]?=some x->(mW l)[i*3]?=some x.tx/\(mW l)[i*3+1]?=some (.int .i64 x.idx)/\(mW l)[i*3+2]?=some (.string x.key)
 |[],i,x,h=>by simp at h
 |y::l,0,x,h=>by simp at h;subst h;exact⟨rfl,rfl,rfl⟩
 |y::l,i+1,x,h=>by have:=wN l i x (by simpa using h);have e:mW (y::l)=y.cells++mW l:=rfl;rw[e];simp[show(i+1)*3=3+i*3 from by omega,show 3+i*3+1=3+(i*3+1)from by omega,show 3+i*3+2=3+(i*3+2)from by omega];have a:y.cells.length=3:=rfl;rw[eD O9,eD O9,eD O9];simpa[a]using this
def xt:∀l i x,l[i]?=some x->(lQ l)[i*2]?=some x.val/\(lQ l)[i*2+1]?=some (.string x.lock)
 |[],i,x,h=>by simp at h
 |y::l,0,x,h=>by simp at h;subst h;exact⟨rfl,rfl⟩
 |y::l,i+1,x,h=>by have:=xt l i x (by simpa using h);have e:lQ (y::l)=y.cells++lQ l:=rfl;rw[e];simp[show(i+1)*2=2+i*2 from by omega,show 2+i*2+1=2+(i*2+1)from by omega];have a:y.cells.length=2:=rfl;rw[eD O9,eD O9];simpa[a]using this
def yK{α:Type}{l m:List α}{i:Nat}{x}(h:l[i]?=some x):(l++m)[i]?=some x:=by grind
def HQ{w g t l rest c}(h:Row w g t (mW l++rest))(b:l.length<=140737488355328):wI w (.slice g l.length c) l:=⟨⟨_,_,rfl,λ_=>⟨g,0,rfl,λi x d=>by
   have⟨e,f,a⟩:=wN l i x d;refine⟨?_,?_,?_⟩<;>rw[h.cell,iR];.grind
   .grind
   .exact yK a⟩⟩,b⟩
def Fs{w g t l rest c}(h:Row w g t (lQ l++rest))(b:l.length<=140737488355328):qQ w (.slice g l.length c) l:=⟨⟨_,_,rfl,λ_=>⟨g,0,rfl,λi x d=>by
   have⟨e,a⟩:=xt l i x d;refine⟨?_,?_⟩<;>rw[h.cell,iR];.grind
   .exact yK a⟩⟩,b⟩
end
section
def aga:=@Array.length_toList
def agb:=@size_madeCells
variable[Go.Proofs.VB]
def aI.aeg:(Vp.info? 133).map (λi=>(i.zero,i.size,i.bytes))=some (some (.agg #[aB,aA,aB]),3,40):=K8
def ac0:=@aI.aeg
def aI.ab2:(Vp.info? 69).map (λi=>(i.zero,i.size,i.bytes))=some (some (.agg #[aA,aB]),2,24):=K8
def ac1:=@aI.ab2
def aI.aeh:(Vp.info? 73).map (λi=>(i.zero,i.size,i.bytes))=some (some (.agg #[aA,(),()]),3,56):=K8
def YB:=@aI.aeh
def HP(n:Nat):List Value:=(madeCells #[aB,aA,aB] (n*3)).toList
def U0(n:Nat):List Value:=(madeCells #[aA,aB] (n*2)).toList
def ZM(n:Nat):List Value:=(madeCells #[aA,.slice none 0 0,.slice none 0 0] (n*3)).toList
def Rq(n):(HP n).length=n*3:=by unfold HP;rw[Array.length_toList,size_madeCells]
def ab1(n):(U0 n).length=n*2:=by unfold U0;rw[Array.length_toList,size_madeCells]
def abY(n):(ZM n).length=n*3:=by unfold ZM;rw[Array.length_toList,size_madeCells]
def Row.aP{w g t cs}(h:Row w g t cs)(a v)(b:g≠a.block):Row (w.setCell a v) g t cs:=(Below.heap_setCell w a v g b).trans h
def E8{B a w}(h:Below B a w)(g c d e v1 v2 v3)(b:B<=g):Below B a (((w.setCell ⟨g,c,none⟩ v1).setCell ⟨g,d,none⟩ v2).setCell ⟨g,e,none⟩ v3):=
 ((h.setCell (p:=(g,c)) b v1).setCell (p:=(g,d)) b v2).setCell (p:=(g,e)) b v3
def Be{w w':World}{r}(h:w.grownBy w' r)(g)(a:r=some g\/w<=g)(o v):w.grownBy (w'.setCell ⟨g,o,none⟩ v) r:=by
 refine⟨h.os,h.tape,h.output,?_,λk b c=>?_⟩;.simp;exact h.size
 .rw[Below.heap_setCell w' (g,o) v k (by
   show k≠g;obtain rfl|a:=a;.simp_all
   .omega)]
  exact h.block k b c
end
section
variable[Go.Proofs.VB]
structure St where
 steps:Nat
 l:List Int
inductive xE(α:Type) where
 |ok (a:α) (s:St)
 |bad (e:Int) (steps:Nat)
def C5(x:Int):Value:=.int .u64 x
def tF(id:ByteArray)(h:Int)(s:St)(aaT:List Int):List Value:=[.string id,.int .u64 h,.int .i64 s.steps]++((s.l.reverse++aaT).map C5++[.int .i64 s.l.length])
structure iH(w:World)(b:Nat)(id:ByteArray)(h:Int)(s:St):Prop where
 row:∃aaT:List Int,Row w b 279 (tF id h s aaT)/\s.l.length+aaT.length=16
 yr:∀x∈s.l,0<=x/\x<18446744073709551616
 steps:s.steps<=40
 Ba:0<=h/\h<18446744073709551616
def LW(e:Int):List PanicEntry:=[{v:=.iface 45 (.int .i64 e),recovered:=false}]
def aT{α:Type}(P:α->Value)(w:World)(b:Nat)(id:ByteArray)(h:Int)(r:xE α)(e:Ending)(w':World):Prop:=w.grownBy w' (some b)/\match r with
 |.ok a s=>e=.returned (P a)/\iH w' b id h s
 |.bad k n=>e=.panicked (LW k)/\∃s,s.steps=n/\iH w' b id h s
def kA(_:Unit):Value:=.tuple #[]
def I6(w:World)(n r):w.grownBy (w.drewN n) r:=⟨rfl,rfl,rfl,L9,λ_ _ _=>rfl⟩
def iH.n{w b id h s}(a:iH w b id h s)(n):iH (w.drewN n) b id h s:=⟨a.row,a.yr,a.steps,a.Ba⟩
def wA(s:St):xE Unit:=if s.steps=40 then .bad 4 40 else .ok () ⟨s.steps+1,s.l⟩
def qK(x:Int)(s:St):xE Unit:=if s.l.length=16 then .bad 3 s.steps else .ok () ⟨s.steps,x::s.l⟩
def kY(s:St):xE Int:=match s.l with
 |[]=>.bad 3 s.steps
 |x::l=>.ok x ⟨s.steps,l⟩
def qi(w:World)(b o v):w.grownBy (w.setCell ⟨b,o,none⟩ v) (some b):=Be (aZ w _) b (.inl rfl) o v
def fG{w w':World}{r}(h:w.grownBy w' r):w.grownBy w'.drew r:=⟨h.os,h.tape,h.output,h.size,h.block⟩
def uB(id h s a)(b:s.l.length+a.length=16):(tF id h s a)[19]?=some (.int .i64 s.l.length):=by unfold tF;rw[eD S8,eD (by simp;omega)];simp;rw[show 19 -(0+1+1+1) -(s.l.length+a.length)=0 from by omega];rfl
def Hv(id h n x l a):(tF id h ⟨n,x::l⟩ a)[3+l.length]?=some (.int .u64 x):=by unfold tF;rw[eD S8,mM S8];simp[C5]
def OX(id h n y l a):(tF id h ⟨n,l⟩ (y::a))[3+l.length]?=some (.int .u64 y):=by unfold tF;rw[eD S8,mM S8];simp[C5]
def aaU(x y n m l a k k2)(b:k=l.length)(c:k2=l.length+1+a.length):(((l++(y::a)).map C5++[n]).set k (.int .u64 x)).set k2 m=((l++[x])++a).map C5++[m]:=by
 subst b c;simp[C5,U9,Nat.add_comm 1]
def TC(id h n x y l a)(b:l.length+(a.length+1)=16):((tF id h ⟨n,l⟩ (y::a)).set (3+l.length) (.int .u64 x)).set 19 ↑((l.length:Int)+1)=tF id h ⟨n,x::l⟩ a:=by
 unfold tF;rw[uS _ _ S8,uS _ _ S8,aaU x y _ _ l.reverse a _ _ S8 (by simp;omega)];simp
def OY(id h n x l a)(b:l.length+1+a.length=16):(tF id h ⟨n,x::l⟩ a).set 19 (l.length:Int)=tF id h ⟨n,l⟩ (x::a):=by
 unfold tF;rw[uS _ _ S8,uS _ _ (by simp;omega)];simp only[fF,jZ,fN,bW,zk];rw[show 19 -(0+1+1+1) -(l.length+1+a.length)=0 from by omega];simp
def Bc(w b id h s)(a:iH w b id h s):Calls Vp 194 #[.pointer b] w (aT kA w b id h (wA s)):=by
 have⟨f,d,e⟩:=a.row;have c2:=d.cell 2;have i:=d.frozen 2;have g:=a.steps;replace c2:w.cell? (b,2)=some ↑s.steps:=c2;by_cases c:s.steps=40;.go_enter fA Tryz.func194,Tryz.ntmps194;go_wp2;refine⟨rfl,aZ _ _,?_⟩;unfold wA;rw[bE c];exact⟨rfl,s,c,a⟩
 .go_enter fA Tryz.func194,Tryz.ntmps194;go_wp2;go_end0;unfold wA;rw[aU c];refine⟨qi _ _ _ _,rfl,⟨f,?_,e⟩,a.yr,?_,a.Ba⟩;.exact d.set 2 ↑((s.steps:Int)+1)
  .grind
def mR(w b id h x s)(d:iH w b id h s)(m:0<=x/\x<18446744073709551616):Calls Vp 195 #[.pointer b,.int .u64 x] w (aT kA w b id h (qK x s)):=by
 have⟨e,a,c⟩:=d.row;have c2:=(a.cell 19).trans (uB id h s e c);have p:=a.frozen 19;by_cases f:s.l.length=16
 .have k:((s.l.length:Int)==16)=true:=by rw[f];rfl
  go_enter fA Tryz.func195,Tryz.ntmps195;go_wp2;refine⟨rfl,aZ _ _,?_⟩;unfold qK;rw[bE f];exact⟨rfl,s,rfl,d⟩
 .have k:((s.l.length:Int)==16)=false:=by simpa using(by omega:¬(s.l.length:Int)=16)
  have o:0<=(s.l.length:Int)/\(s.l.length:Int)<16:=O9;have q:=a.frozen (3+s.l.length);have⟨n,l⟩:=s;cases e with
  |nil=>exact absurd c f
  |cons y e=>
    have c3:=(a.cell (3+l.length)).trans (OX id h n y l e);go_enter fA Tryz.func195,Tryz.ntmps195;go_wp2;go_region;have i:=a.set (3+l.length) (.int .u64 x);have c4:=i.cell 19;rw[sY O9,uB _ _ _ _ c]at c4;go_wp2;go_end0;unfold qK;rw[aU f];refine⟨fG ((qi _ _ _ _).trans (qi _ _ _ _)),rfl,⟨e,?_,by simp only[fF]at c|-;omega⟩,?_,d.steps,d.Ba⟩;.have j:=i.set 19 ↑((l.length:Int)+1);rw[TC _ _ _ _ _ _ _ c]at j;exact j
    .intro z g;obtain rfl|g:=iP.1 g;.exact m
     .exact d.yr z g
def kR(w b id h s)(a:iH w b id h s):Calls Vp 201 #[.pointer b] w (aT C5 w b id h (kY s)):=by
 have⟨e,c,d⟩:=a.row;have c2:=(c.cell 19).trans (uB id h s e d);have j:=c.frozen 19;have⟨n,l⟩:=s;cases l with
 |nil=>go_enter fA Tryz.func201,Tryz.ntmps201;go_wp2;exact⟨rfl,aZ _ _,rfl,_,rfl,a⟩
 |cons x l=>have i:=(c.cell (3+l.length)).trans (Hv id h n x l e);simp at d;go_enter fA Tryz.func201,Tryz.ntmps201;go_wp2;go_region;go_wp2;go_ret;refine⟨fG (qi _ _ _ _),rfl,⟨x::e,?_,by simp;omega⟩,λz g=>a.yr z (Vm _ g),a.steps,a.Ba⟩;have f:=c.set 19 ↑(l.length:Int);rw[OY _ _ _ _ _ _ d]at f;exact f
def aaS(s:St):xE Unit:=match s.l with
 |[]=>.bad 7 s.steps
 |x::l=>if x=0 then .bad 7 s.steps else .ok () ⟨s.steps,x::l⟩
def XW(w b id h s)(a:iH w b id h s):Calls Vp 180 #[.pointer b] w (aT kA w b id h (aaS s)):=by
 have⟨f,c,e⟩:=a.row;have c2:=(c.cell 19).trans (uB id h s f e);have m:=c.frozen 19;have⟨n,l⟩:=s;cases l with
 |nil=>replace c2:=c2;go_enter fA Tryz.func180,Tryz.ntmps180;go_wp2;go_quiet (fail);go_wp2;exact⟨rfl,I6 w _ _,rfl,_,rfl,a.n nq⟩
 |cons x l=>
   have j:=(c.cell (3+l.length)).trans (Hv id h n x l f);replace c2:=c2;simp only[fF]at e;have g:(((l.length:Int)+1)==0)=false:=by simpa using(by omega:¬(l.length:Int)+1=0)
   have i:0<=(l.length:Int)/\(l.length:Int)<16:=O9;by_cases d:x=0;.subst d;go_enter fA Tryz.func180,Tryz.ntmps180;go_wp2;go_quiet (fail);go_wp2;exact⟨rfl,I6 w _ _,rfl,_,rfl,a.n nq⟩
   .have k:(x==0)=false:=by simpa using d
    go_enter fA Tryz.func180,Tryz.ntmps180;go_wp2;go_quiet (fail);go_wp2;go_end0;unfold aaS;simp only[aU d];exact⟨I6 w _ _,rfl,a.n nq⟩
def oa(b:Bool):Int:=if b then 1 else 0
def Bb(a w):Calls Vp 203 #[.bool a] w λe w'=>e=.returned (.int .u64 (oa a))/\w'=w:=by
 cases a;.go_enter fA Tryz.func203,Tryz.ntmps203;go_wp2;go_ret;exact⟨rfl,rfl⟩
 .go_enter fA Tryz.func203,Tryz.ntmps203;go_wp2;go_ret;exact⟨rfl,rfl⟩
structure RS where
 l:List UInt8
 bad:Bool
def rE(w:World)(rb:Nat)(r:RS):Prop:=Row w rb 188 [.string (mk r.l),.bool r.bad]
structure vC(w w':World)(rb:Nat)(r:RS):Prop where
 at_:rE w' rb r
 grown:w.grownBy w' (some rb)
def vC.trans{a b c rb r s}(h:vC a b rb r)(k:vC b c rb s):vC a c rb s:=⟨k.at_,h.grown.trans k.grown⟩
def vC.below{a b c rb r}(h:vC a b rb r)(d:Below b b c):vC a c rb r:=⟨Row.keep h.at_ d (Row.lt h.at_),h.grown.trans ⟨d.os,d.tape,d.output,d.size,λk e _=>d.block k e⟩⟩
def RS.take(r:RS)(n:Nat):List UInt8×RS:=if r.bad||decide (r.l.length<n)then([],⟨r.l,true⟩)else(r.l.take n,⟨r.l.drop n,false⟩)
def Jw(l n):(mk l).extract 0 n=mk (l.take n):=by apply ByteArray.ext;simp[mk]
def Jx(l n):(mk l).extract n l.length=mk (l.drop n):=by apply ByteArray.ext;simp[mk];exact Qq S8
def Jy{w rb r}(h:rE w rb r)(s j v)(e:[Value.string (mk r.l),Value.bool r.bad].set j v=[↑(mk s.l),.bool s.bad]):vC w (w.setCell (rb,j) v) rb s:=by
 refine⟨?_,?_⟩;.have:=Row.set h j v;rw[e]at this;exact this
 .refine⟨rfl,rfl,rfl,?_,λk _ a=>?_⟩;.simp
  .exact Below.heap_setCell w (rb,j) v k (by show k≠rb;intro e;exact a (by rw[e]))
def Nq(rb r)(n:Nat)(w)(a:rE w rb r)(f:n<=1000):Calls Vp 142 #[.pointer rb,n] w λe w'=>e=.returned (mk (r.take n).1)/\vC w w' rb (r.take n).2:=by
 have h0:w.cell? (rb,0)=some ↑(mk r.l):=Nr a 0;have d:w.cell? (rb,1)=some (.bool r.bad):=Nr a 1;have f0:=ZK a 0;have f1:=ZK a 1;have g:=dK r.l;cases b:r.bad;case true=>
  rw[b]at d;go_enter fA Tryz.func142,Tryz.ntmps142;go_wp2;go_ret;have e:r.take n=([],⟨r.l,true⟩):=by simp[RS.take,b]
  rw[e];exact⟨rfl,Jy a _ 1 _ rfl⟩
 rw[b]at d;by_cases c:(mk r.l).size<n
 .go_enter fA Tryz.func142,Tryz.ntmps142;go_wp2;go_ret;have e:r.take n=([],⟨r.l,true⟩):=by rw[dK]at c;simp[RS.take,c]
  rw[e];exact⟨rfl,Jy a _ 1 _ rfl⟩
 .go_enter fA Tryz.func142,Tryz.ntmps142;go_wp2;go_ret;have e:r.take n=(r.l.take n,⟨r.l.drop n,false⟩):=by rw[dK]at c;simp[RS.take,b,c]
  rw[e];refine⟨congrArg (λs=>Ending.returned (.string s)) (Jw r.l n),?_⟩;rw[Jx];exact Jy a _ 0 _ (by simp[b])
def UL(n:Nat):List Value:=(madeCells #[.int .u8 0] (n*1)).toList
def Sa(n):(UL n).length=n:=by unfold UL;rw[Array.length_toList,size_madeCells];omega
def afu(n:Nat)(h:n<=1000000)(w):(Instr.makeSlice 127 (n:Int) (n:Int)).run Vp w=.ok (.slice (w:Nat) n n) (w.alloc (.cells (UL n).toArray 5)):=by have⟨d,hi,a,b,c⟩:=info_parts Hs;have:=xM (P:=Vp) w 127 5 d _ aI.underlying127 hi a .i64 .i64 (n:Int) (n:Int) O9 (nA _) (by rw[c];omega) O9;rw[this,b];simp[UL,Value.cells]
def afv(w:World)(l ty):(Builtin.copy_ #[127,9] ty #[.slice (w:Nat) l.length l.length,(mk l)]).run Vp (w.alloc (.cells (UL l.length).toArray 5))=.ok l.length (w.alloc (.cells (bv l).toArray 5)):=by
 have⟨i,hi,f,d,g⟩:=info_parts Hs;have a:=run_storeCells_at Vp w 0 5 (bv l) 0 (UL l.length).toArray (w.alloc (.cells (UL l.length).toArray 5)) (uU w _) (by simp[qg,Sa]) (EW l);simp at a;rw[PX,show(UL l.length).drop (bv l).length=[]from by rw[List.drop_eq_nil_iff,Sa,qg];exact L9,oM]at a;have b:(Builtin.firstCells 1 l.length (mk l)).run Vp (w.alloc (.cells (UL l.length).toArray 5))=.ok (bv l).toArray (w.alloc (.cells (UL l.length).toArray 5)):=by have h:=Go.Lib.run_firstCells_string (P:=Vp) (w.alloc (.cells (UL l.length).toArray 5)) 1 (mk l);exact h
 have c:(Builtin.lenOf (mk l)).run Vp (w.alloc (.cells (UL l.length).toArray 5))=.ok l.length (w.alloc (.cells (UL l.length).toArray 5)):=by simp[Builtin.lenOf,dK]
 have e:Nat.min l.length l.length=l.length:=Nat.min_self _;simp[Builtin.copy_,typeInfo,hi,d,c,b,a,goInt]
def aI.ZL:Vp.cellsOf 5=1:=K8
def Jz(w g n){B a}(h:Below B a w)(b:B<=g):Below B a (w.freeze (g,0) n):=by
 unfold World.freeze;split;.exact h
 .refine h.trans ⟨rfl,rfl,rfl,S8,λk c=>?_⟩;simp only[JX];rw[aU (by show¬g=k;omega)]
def UM(l w)(c:l.length<=1000000):Calls Vp 158 #[(mk l)] w λe w'=>e=.returned (mk l)/\Below w w w':=by
 have i:=dK l;by_cases h0:l=[];.subst h0;go_enter fA Tryz.func158,Tryz.ntmps158;go_wp2;go_ret;exact⟨rfl,B0⟩
 .have d:0<l.length:=by
   obtain _|⟨a,l⟩:=l;.simp_all
   .simp
  have g:=afu l.length c;have f:=afv w l;have h:=Go.Lib.run_unsafeString_row (P:=Vp) (w.alloc (.cells (bv l).toArray 5)) 268 3 9 5 aI.underlying268 aI.ZL ↑w l.length (by simp only[World.shape?,uU];simp[qg]) l h0 L9 O9 (λj x b=>by
     have e:(((w:Nat),0):Addr).add j=((w:Nat),j):=by unfold Addr.add;split<;>simp_all
     rw[e];simp[bv,b])
  go_enter fA Tryz.func158,Tryz.ntmps158;go_wp2;go_ret;exact⟨rfl,Jz _ _ _ (B0.alloc L9 _) L9⟩
def PY(l w)(b:l.length<=1000000):Calls Vp 141 #[(mk l)] w λe w'=>e=.returned (mk l)/\Below w w w':=by
 go_enter fA Tryz.func141,Tryz.ntmps141;go_wp2;refine(UM l w b).m1 λw' a=>?_;go_wp2;go_ret;exact⟨rfl,a⟩
def take_len(r:RS)(n):(r.take n).1.length<=n:=by
 unfold RS.take;split;.simp
 .simp_all
def FV(rb r)(n:Nat)(w)(d:rE w rb r)(c:n<=1000):Calls Vp 119 #[.pointer rb,n] w λe w'=>e=.returned (mk (r.take n).1)/\vC w w' rb (r.take n).2:=by
 go_enter fA Tryz.func119,Tryz.ntmps119;go_wp2;refine(Nq rb r n w d c).m1 λw1 a=>?_;go_wp2;refine(PY (r.take n).1 w1 (by have:=take_len r n;omega)).m1 λw2 b=>?_;go_wp2;go_ret;exact⟨rfl,a.below b⟩
def gD(t:List UInt8):Int:=t.foldl (λn c=>n*256+(c.toNat:Int)) 0
def EZ(t c):gD (t++[c])=gD t*256+(c.toNat:Int):=by simp[gD]
def Il:∀(t:List UInt8) (a:Int),0<=a->0<=t.foldl (λn c=>n*256+(c.toNat:Int)) a/\t.foldl (λn c=>n*256+(c.toNat:Int)) a<(a+1)*256^t.length
 |[],a,h=>by simp;omega
 |c::t,a,h=>by have f:=c.toNat_lt;have⟨b,d⟩:=Il t (a*256+(c.toNat:Int)) O9;refine⟨b,Dz d ?_⟩;rw[fF,Int.pow_succ];have e:(0:Int)<256^t.length:=Int.pow_pos D9;rw[show(a+1)*(256^t.length*256)=(a+1)*256*256^t.length from by rw[Int.mul_assoc,Int.mul_comm 256]];exact Int.mul_le_mul_of_nonneg_right O9 (Vk e)
def EY(t):0<=gD t/\gD t<256^t.length:=by have:=Il t 0 O9;simpa[gD]using this
def Nu(t)(h:t.length<=4):0<=gD t/\gD t<4294967296:=by have⟨a,b⟩:=EY t;refine⟨a,Dz b ?_⟩;have c:t.length=0\/t.length=1\/t.length=2\/t.length=3\/t.length=4:=O9;obtain e|e|e|e|e:=c<;>rw[e]<;>decide
def abZ(w t):∃c w',(convert 9 127 (mk t)).run Vp w=.ok (.slice (w:Nat) t.length c) w'/\Below w w w'/\∀j (a:j<t.length),w'.cell? ((w:Nat),j)=some (.int .u8 (t[j].toNat:Int)):=by
 have h:=Go.Lib.run_convert_string_bytes (P:=Vp) w 9 127 5 (mk t) aI.underlying9 aI.underlying127 aI.underlying5;refine⟨_,_,h,?_,λj a=>?_⟩;.refine⟨rfl,rfl,rfl,by rw[Go.Lib.bytesWorld_size];omega,λk b=>Go.Lib.bytesWorld_at_old w _ _ k b⟩
 .rw[Go.Lib.bytesWorld_cell _ _ _ _ (by rw[dK];exact a)];simp[mk,a]
def ab0(a)(b:Nat)(h0:0<=a)(e:a<4294967296)(c:b<256):bits .or .i64 (a*256) (b:Int)=a*256+(b:Int):=by obtain⟨n,rfl⟩:=BK h0;have d:n*256<18446744073709551616:=O9;have f:=nat_join8 (n*256) b O9 c;show IntKind.i64.wrap ((BitVec.ofInt 64 ((n:Int)*256)|||BitVec.ofInt 64 (b:Int)).toNat:Int)=_;rw[BitVec.toNat_or,show((n:Int)*256)=((n*256:Nat):Int)from by simp,ofInt_u64 (n*256) d,ofInt_u64 b O9,uQ];omega
def RS.fail(r:RS):RS:=⟨r.l,true⟩
def RS.number(r:RS)(width:Nat)(lo hi:Int):Int×RS:=let t:=r.take width;let n:=gD t.1;if p5 n lo hi then(if t.2.bad then(0,t.2)else(n,t.2))else(0,t.2.fail)
def kF(rb r)(width:Nat)(lo hi w)(p:rE w rb r)(y:width<=4):Calls Vp 120 #[.pointer rb,width,.int .i64 lo,.int .i64 hi] w λe w'=>e=.returned ((r.number width lo hi).1)/\vC w w' rb (r.number width lo hi).2:=by
 go_enter fA Tryz.func120,Tryz.ntmps120;go_wp2;refine(Nq rb r width w p O9).m1 λw1 h=>?_;have s:=take_len r width;have H:Hid (r.number width lo hi=if p5 (gD (r.take width).1) lo hi then(if(r.take width).2.bad then(0,(r.take width).2)else(gD (r.take width).1,(r.take width).2))else(0,(r.take width).2.fail)):=rfl;generalize(r.take width).1=t at s H|-;generalize(r.take width).2=r1 at h H|-;have A:=dK t;have⟨c,w2,v,m,f⟩:=abZ w1 t;have a:=h.below m;replace f:=aL f;go_wp2;go_loop [9,17] (λn i=>∃k,k<=t.length/\i=k/\n=(gD (t.take k))) (λ_ i=>t.length -(intOf i).toNat);case atStart=>exact⟨0,fE _,rfl,rfl⟩
 case round=>
  obtain⟨k,x,rfl,rfl⟩:=hrel;have d:=Nu (t.take k) (by simp;omega);by_cases j:k<t.length
  .have u:=f.out k j;have l:t.take (k+1)=t.take k++[t[k]]:=by rw[xN j]
   have q:Hid (gD (t.take (k+1))=gD (t.take k)*256+(t[k].toNat:Int)):=by unfold Hid;rw[l];exact EZ _ _
   clear l;have z:=t[k].toNat_lt;go_wp2;go_round;case rel=>exact⟨k+1,O9,by go_num,by rw[q.out,ab0 _ _ d.1 d.2 O9]⟩
   case measure=>simp[intOf];omega
  .have o:k=t.length:=O9;subst o;rw[jM]at d|-;have c1:w2.cell? (rb,1)=some (.bool r1.bad):=Nr a.at_ 1;have f1:=ZK a.at_ 1;go_wp2;refine(gS _ _ _ _).m0 ?_;cases g:p5 (gD t) lo hi
   .go_wp2;go_ret;have e:r.number width lo hi=(0,r1.fail):=by rw[H.out,g];rfl
    rw[e];exact⟨rfl,a.trans (Jy a.at_ r1.fail 1 _ rfl)⟩
   .cases b:r1.bad
    .rw[b]at c1;go_wp2;go_ret;have e:r.number width lo hi=(gD t,r1):=by rw[H.out,g,b];rfl
     rw[e];exact⟨rfl,a⟩
    .rw[b]at c1;go_wp2;go_ret;have e:r.number width lo hi=(0,r1):=by rw[H.out,g,b];rfl
     rw[e];exact⟨rfl,a⟩
def RS.code(r:RS):List UInt8×RS:=let n:=r.number 1 0 32;n.2.take n.1.toNat
def xz(r:RS)(width lo hi)(h0:0<=hi)(a:0<=lo):0<=(r.number width lo hi).1/\(r.number width lo hi).1<=hi:=by
 unfold RS.number;dsimp only;split
 .rename_i h;simp[p5]at h;split;.omega
  .omega
 .omega
def Nt(rb r w)(g:rE w rb r):Calls Vp 159 #[.pointer rb] w λe w'=>e=.returned (mk r.code.1)/\vC w w' rb r.code.2:=by
 go_enter fA Tryz.func159,Tryz.ntmps159;go_wp2;refine(kF rb r 1 0 32 w g O9).m1 λw1 a=>?_;have d:=xz r 1 0 32 O9 O9;have⟨n,f⟩:=BK d.1;have c:Hid (r.code=(r.number 1 0 32).2.take n):=by unfold Hid RS.code;dsimp only;rw[f];rfl
 generalize(r.number 1 0 32).2=r1 at a c|-;go_wp2;refine(FV rb r1 n w1 a.at_ O9).m1 λw2 b=>?_;rw[<-c.out]at b|-;go_wp2;go_ret;exact⟨rfl,a.trans b⟩
def pF(s)(j:Nat)(i)(hi:i=(j:Int))(a:j<s.length)(W):(Instr.index 9 (mk s) i).run Vp W=.ok (.int .u8 ((s.getD j 0).toNat:Int)) W:=by
 subst hi;have h0:(0:Int)<=(j:Int):=O9;have b:(mk s)[j]?=some (s.getD j 0):=by
  have c:j<(mk s).size:=by rw[dK];exact a
  rw[getElem?_pos (mk s) j c];simp[a];rfl
 simp[Instr.index,asIntOf,b]
def vC.row{w w' rb r}(h:vC w w' rb r){g t cs}(a:Row w g t cs)(b:g≠rb):Row w' g t cs:=(h.grown.block g a.lt (by simpa using b)).trans a
def rE.alloc{w rb r}(h:rE w rb r)(o):rE (w.alloc o) rb r:=Row.alloc h o
def rE.lt{w rb r}(h:rE w rb r):rb<w:=Row.lt h
def rE.aP{w rb r}(h:rE w rb r)(a v)(b:rb≠a.block):rE (w.setCell a v) rb r:=(Below.heap_setCell w a v rb b).trans h
def bC{a w:World}{r}(h:a.grownBy w r)(p v)(d:↑a<=p.block):a.grownBy (w.setCell p v) r:=by
 refine⟨h.os,h.tape,h.output,?_,λk b c=>?_⟩;.simp;exact h.size
 .rw[Below.heap_setCell w p v k O9];exact h.block k b c
def cC{a w:World}{r}(h:a.grownBy w r)(o):a.grownBy (w.alloc o) r:=h.trans (VK w o r)
def yJ(r:RS):jX×RS:=let a:=r.take 8;let b:=a.2.number 1 0 255;let c:=b.2.code;(⟨mk a.1,b.1,mk c.1⟩,c.2)
def rR(r:RS):fL×RS:=let b:=r.number 4 0 4294967295;let c:=b.2.code;(⟨b.1,mk c.1⟩,c.2)
def ZO(rb r w)(n:rE w rb r):Calls Vp 143 #[.pointer rb] w λe w'=>e=.returned (.agg #[(yJ r).1.tx,(yJ r).1.idx,(yJ r).1.key])/\vC w w' rb (yJ r).2:=by
 have y:=n.lt;go_enter fA Tryz.func143,Tryz.ntmps143;go_wp2;refine(FV rb r 8 _ ((n.alloc _).alloc _) O9).m1 λw1 j=>?_;have b:=j.row ((aW w [aB,aA,aB] 133).alloc _) O9;have a:Row w1 ((w:Nat)+1) 133 [aB,aA,aB]:=by have:=j.row (aW (w.alloc (.cells #[aB,aA,aB] 133)) [aB,aA,aB] 133) (by simp only[bL];omega);simpa only[bL]using this
 have c:=(cC (cC (aZ w _) _) _).trans j.grown;have g:=j.at_;clear j;have H:Hid (yJ r=(⟨mk (r.take 8).1,((r.take 8).2.number 1 0 255).1,mk ((r.take 8).2.number 1 0 255).2.code.1⟩,((r.take 8).2.number 1 0 255).2.code.2)):=rfl;generalize(r.take 8).1=f at H|-;generalize(r.take 8).2=r1 at H g|-;have c0:=a.r 0;have f0:=a.frozen 0;go_wp2;clear c0 f0;replace b:=b.aP ((w:Nat)+1,0) (mk f) (by show(w:Nat)≠(w:Nat)+1;omega);replace a:=a.set 0 (mk f);replace g:=g.aP ((w:Nat)+1,0) (mk f) (by show rb≠(w:Nat)+1;omega);replace c:=bC c ((w:Nat)+1,0) (mk f) (by show(w:Nat)<=(w:Nat)+1;omega);generalize w1.setCell ⟨(w:Nat)+1,0,none⟩ (mk f)=w2 at b a g c|-;refine(kF rb r1 1 0 255 _ g O9).m1 λw3 k=>?_;replace b:=k.row b O9;replace a:=k.row a O9;replace c:=c.trans k.grown;have h:=k.at_;clear k g;generalize(r1.number 1 0 255).1=d at H|-;generalize(r1.number 1 0 255).2=r2 at H h|-;have c0:=a.r 1;have f0:=a.frozen 1;go_wp2;clear c0 f0;replace b:=b.aP ((w:Nat)+1,1) d (by show(w:Nat)≠(w:Nat)+1;omega);replace a:=a.set 1 d;replace h:=h.aP ((w:Nat)+1,1) d (by show rb≠(w:Nat)+1;omega);replace c:=bC c ((w:Nat)+1,1) d (by show(w:Nat)<=(w:Nat)+1;omega);generalize w3.setCell ⟨(w:Nat)+1,1,none⟩ d=w4 at b a h c|-;refine(Nt rb r2 _ h).m1 λi l=>?_;replace b:=l.row b O9;replace a:=l.row a O9;replace c:=c.trans l.grown;have m:=l.at_;clear l h;generalize r2.code.1=s at H|-;generalize r2.code.2=r3 at H m|-;have o:=b.r 0;have p:=b.r 1;have q:=b.r 2;have t:=b.frozen 0;have u:=b.frozen 1;have x:=b.frozen 2;have c0:i.cell? ((w:Nat)+1,0)=some (mk f):=a.cell 0;have c1:i.cell? ((w:Nat)+1,1)=some d:=a.cell 1;have c2:=a.r 2;have f2:=a.frozen 2;go_wp2;rw[H.out];refine nC (v:=.agg #[(mk f),d,(mk s)]) (by simp[results,Tryz.results143,go_sem,o,p,q]) rfl ⟨rfl,?_,?_⟩
 .refine(((m.aP _ _ ?_).aP _ _ ?_).aP _ _ ?_).aP _ _ ?_;.show rb≠(w:Nat)+1;omega
  all_goals(show rb≠(w:Nat);omega)
 .refine bC (bC (bC (bC c _ _ ?_) _ _ ?_) _ _ ?_) _ _ ?_;.show(w:Nat)<=(w:Nat)+1;omega
  all_goals exact L9
def UQ(rb r w)(k:rE w rb r):Calls Vp 144 #[.pointer rb] w λe w'=>e=.returned (.agg #[(rR r).1.val,(rR r).1.lock])/\vC w w' rb (rR r).2:=by
 have q:=k.lt;go_enter fA Tryz.func144,Tryz.ntmps144;go_wp2;refine(kF rb r 4 0 4294967295 _ ((k.alloc _).alloc _) O9).m1 λw1 g=>?_;have b:=g.row ((aW w [aA,aB] 69).alloc _) O9;have a:Row w1 ((w:Nat)+1) 69 [aA,aB]:=by have:=g.row (aW (w.alloc (.cells #[aA,aB] 69)) [aA,aB] 69) (by simp only[bL];omega);simpa only[bL]using this
 have f:=(cC (cC (aZ w _) _) _).trans g.grown;have d:=g.at_;clear g;have H:Hid (rR r=(⟨(r.number 4 0 4294967295).1,mk (r.number 4 0 4294967295).2.code.1⟩,(r.number 4 0 4294967295).2.code.2)):=rfl;generalize(r.number 4 0 4294967295).1=c at H|-;generalize(r.number 4 0 4294967295).2=r2 at H d|-;have c0:=a.r 0;have f0:=a.frozen 0;go_wp2;clear c0 f0;replace b:=b.aP ((w:Nat)+1,0) c (by show(w:Nat)≠(w:Nat)+1;omega);replace a:=a.set 0 c;replace d:=d.aP ((w:Nat)+1,0) c (by show rb≠(w:Nat)+1;omega);replace f:=bC f ((w:Nat)+1,0) c (by show(w:Nat)<=(w:Nat)+1;omega);generalize w1.setCell ⟨(w:Nat)+1,0,none⟩ c=w4 at b a d f|-;refine(Nt rb r2 _ d).m1 λi h=>?_;replace b:=h.row b O9;replace a:=h.row a O9;replace f:=f.trans h.grown;have j:=h.at_;clear h d;generalize r2.code.1=n at H|-;generalize r2.code.2=r3 at H j|-;have l:=b.r 0;have m:=b.r 1;have o:=b.frozen 0;have p:=b.frozen 1;have c0:i.cell? ((w:Nat)+1,0)=some c:=a.cell 0;have c1:=a.r 1;have f1:=a.frozen 1;go_wp2;rw[H.out];refine nC (v:=.agg #[c,(mk n)]) (by simp[results,Tryz.results144,go_sem,l,m]) rfl ⟨rfl,?_,?_⟩
 .refine((j.aP _ _ ?_).aP _ _ ?_).aP _ _ ?_;.grind
  all_goals(show rb≠(w:Nat);omega)
 .refine bC (bC (bC f _ _ ?_) _ _ ?_) _ _ ?_;.simp
  all_goals exact L9
def kZ:Nat->RS->List jX×RS
 |0,r=>([],r)
 |n+1,r=>((kZ n r).1++[(yJ (kZ n r).2).1],(yJ (kZ n r).2).2)
def jB:Nat->RS->List fL×RS
 |0,r=>([],r)
 |n+1,r=>((jB n r).1++[(rR (jB n r).2).1],(rR (jB n r).2).2)
def Im(n r):(kZ n r).1.length=n:=by induction n with
 |zero=>rfl
 |succ n a=>simp[kZ,a]
def FX(n r):(jB n r).1.length=n:=by induction n with
 |zero=>rfl
 |succ n a=>simp[jB,a]
structure yb where
 tag:Int
 ins:List jX
 outs:List fL
def Bh(r:RS)(first:Bool):yb×RS:=let a:=r.number 2 0 65535;let b:=a.2.number 1 (TM first) (NA first);let c:=kZ b.1.toNat b.2;let d:=c.2.number 1 1 8;let e:=jB d.1.toNat d.2;(⟨a.1,c.1,e.1⟩,e.2)
def Yi(n:Nat)(h:n<=1000)(w):(Instr.makeSlice 71 (n:Int) (n:Int)).run Vp w=.ok (.slice (w:Nat) n n) (w.alloc (.cells (HP n).toArray 133)):=by have⟨d,hi,a,b,c⟩:=info_parts ac0;have:=xM (P:=Vp) w 71 133 d _ aI.underlying71 hi a .i64 .i64 (n:Int) (n:Int) O9 (nA _) (by rw[c];omega) O9;rw[this,b];simp[HP,Value.cells]
def aee(n:Nat)(h:n<=1000)(w):(Instr.makeSlice 70 (n:Int) (n:Int)).run Vp w=.ok (.slice (w:Nat) n n) (w.alloc (.cells (U0 n).toArray 69)):=by have⟨d,hi,a,b,c⟩:=info_parts ac1;have:=xM (P:=Vp) w 70 69 d _ aI.underlying70 hi a .i64 .i64 (n:Int) (n:Int) O9 (nA _) (by rw[c];omega) O9;rw[this,b];simp[U0,Value.cells]
def aed(n:Nat)(h:n<=1000)(w):(Instr.makeSlice 74 (n:Int) (n:Int)).run Vp w=.ok (.slice (w:Nat) n n) (w.alloc (.cells (ZM n).toArray 73)):=by have⟨d,hi,a,b,c⟩:=info_parts YB;have:=xM (P:=Vp) w 74 73 d _ aI.underlying74 hi a .i64 .i64 (n:Int) (n:Int) O9 (nA _) (by rw[c];omega) O9;rw[this,b];simp[ZM,Value.cells]
def Bo(l d)(a b c:Value)(n)(f:l.length=n)(e:3<=d.length):(((l++d).set n a).set (n+1) b).set (n+2) c=l++[a,b,c]++d.drop 3:=by match d,e with
 |x::y::z::d,_=>subst f;simp[show l.length+1 -l.length=1 from by omega]
def UR(l d)(a b:Value)(n)(e:l.length=n)(c:2<=d.length):((l++d).set n a).set (n+1) b=l++[a,b]++d.drop 2:=by match d,c with
 |x::y::d,_=>subst e;simp[show l.length+1 -l.length=1 from by omega]
def uO{w w':World}{r}(h:w.drew.grownBy w' r):w.grownBy w' r:=⟨h.os,h.tape,h.output,h.size,h.block⟩
def Bp(l x):mW (l++[x])=mW l++[.string x.tx,.int .i64 x.idx,.string x.key]:=by simp[mW,jX.cells]
def FU(l x):lQ (l++[x])=lQ l++[.int .i64 x.val,.string x.lock]:=by simp[lQ,fL.cells]
structure afw(a w:World)(v:Value)(t:yb)(gi go:Nat):Prop where
 val:v=.agg #[.int .i64 t.tag,.slice (some ⟨gi,0,none⟩) t.ins.length t.ins.length,.slice (some ⟨go,0,none⟩) t.outs.length t.outs.length]
 lt:a.heap.size<=gi
 ne:gi<go
 ins:Row w gi 133 (mW t.ins)
 outs:Row w go 69 (lQ t.outs)
def ZN(rb r first w)(O:rE w rb r):Calls Vp 121 #[.pointer rb,.bool first] w λe w'=>∃v gi go,e=.returned v/\afw w w' v (Bh r first).1 gi go/\vC w w' rb (Bh r first).2:=by
 have a4:=O.lt;go_enter fA Tryz.func121,Tryz.ntmps121;go_wp2_with (go_at_call 132;refine(mV _ _).mono ?_;rintro e w' ⟨rfl,rfl⟩);refine(kF rb r 2 0 65535 _ ((O.alloc _).alloc _) O9).m1 λw1 F=>?_;have c:=F.row ((aW w [aA,(),()] 73).alloc _) O9;have a:Row w1 ((w:Nat)+1) 73 [aA,(),()]:=by have:=F.row (aW (w.alloc (.cells #[aA,(),()] 73)) [aA,(),()] 73) (by simp only[bL];omega);simpa only[bL]using this
 have d:=(cC (cC (aZ w _) _) _).trans F.grown;have z:=F.at_;have H:Hid (∀b,b=(r.number 2 0 65535).2.number 1 (TM first) (NA first)->Bh r first=(⟨(r.number 2 0 65535).1,(kZ b.1.toNat b.2).1,(jB ((kZ b.1.toNat b.2).2.number 1 1 8).1.toNat ((kZ b.1.toNat b.2).2.number 1 1 8).2).1⟩,(jB ((kZ b.1.toNat b.2).2.number 1 1 8).1.toNat ((kZ b.1.toNat b.2).2.number 1 1 8).2).2)):=by intro b S;subst S;rfl
 generalize(r.number 2 0 65535).1=tag at H|-;generalize(r.number 2 0 65535).2=r1 at H z|-;have c0:=a.r 0;have f0:=a.frozen 0;go_wp2;replace c:=c.aP ((w:Nat)+1,0) ↑tag (by show(w:Nat)≠(w:Nat)+1;omega);replace a:=a.set 0 ↑tag;replace z:=z.aP ((w:Nat)+1,0) ↑tag (by show rb≠(w:Nat)+1;omega);replace d:=bC d ((w:Nat)+1,0) ↑tag (by show(w:Nat)<=(w:Nat)+1;omega);generalize w1.setCell ⟨(w:Nat)+1,0,none⟩ ↑tag=w2 at c a z d|-;refine(kF rb r1 1 (TM first) (NA first) _ z O9).m1 λw3 G=>?_;replace c:=G.row c O9;replace a:=G.row a O9;replace d:=d.trans G.grown;have A:=G.at_;have D:=xz r1 1 (TM first) (NA first) (by cases first<;>decide) (by cases first<;>decide);have⟨n,N⟩:=BK D.1;have ay:NA first<=8:=by cases first<;>decide
 replace H:=H.out _ rfl;rw[N]at D H;rw[N];rw[vF]at H;generalize(r1.number 1 (TM first) (NA first)).2=r2 at H A|-;replace H:=aL H;have a6:n<=8:=O9;have ab:=Yi n O9;have c1:=a.r 1;have f1:=a.frozen 1;have Y:=a.lt;go_wp2;have L:(w3.setCell ((w:Nat)+1,1) (.slice w3.heap.size n n)).heap.size=(w3:Nat):=by simp only[World.setCell,xO]
 replace c:=(c.aP ((w:Nat)+1,1) (.slice w3.heap.size n n) (by show(w:Nat)≠(w:Nat)+1;omega)).alloc (.cells (HP n).toArray 133);replace a:=(a.set 1 (.slice w3.heap.size n n)).alloc (.cells (HP n).toArray 133);replace A:=(A.aP ((w:Nat)+1,1) (.slice w3.heap.size n n) (by show rb≠(w:Nat)+1;omega)).alloc (.cells (HP n).toArray 133);replace d:=cC (bC d ((w:Nat)+1,1) (.slice w3.heap.size n n) (by show(w:Nat)<=(w:Nat)+1;omega)) (.cells (HP n).toArray 133);have RI:=aW (w3.setCell ((w:Nat)+1,1) (.slice w3.heap.size n n)) (HP n) 133;rw[L]at RI;generalize(w3.setCell ⟨(w:Nat)+1,1,none⟩ (.slice w3.heap.size n n)).alloc (.cells (HP n).toArray 133)=X at c a A d RI|-;generalize(w3:Nat)=gi at Y RI a|-;go_loopw [27] (λi wr=>∃(k:Nat) (rest:List Value),k<=n/\i=↑k/\Row wr gi 133 (mW (kZ k r2).1++rest)/\rest.length=(n -k)*3/\rE wr rb (kZ k r2).2/\Row wr ↑w 73 [aA,(),()]/\Row wr ((w:Nat)+1) 73 [tag,.slice gi n n,()]/\w.grownBy wr (some rb)) (λi _=>n -(intOf i).toNat);case atStart=>exact⟨0,HP n,fE _,rfl,RI,by rw[Rq];rfl,A,c,a,d⟩
 case round=>
  obtain⟨k,rest,a2,rfl,RI,h,s,c,a,d⟩:=hrel;replace h:=aL h;by_cases a3:k<n
  .have u:Hid (kZ (k+1) r2=((kZ k r2).1++[(yJ (kZ k r2).2).1],(yJ (kZ k r2).2).2)):=rfl;have p:=Im k r2;generalize(kZ k r2).1=I at RI u p;generalize(kZ k r2).2=t at s u;replace p:=aL p;have t1:=a.r 1;have V:(0:Int)<=(k:Int):=O9;have W:(k:Int)<(n:Int):=O9;have ae:(w:Nat)+1≠gi:=O9;have af:gi≠(w:Nat)+1:=O9;go_wp2;go_region_held3 (λw'=>w'.cell? ((w:Nat)+1,1)=some (.slice gi n n)) (first|go_keep|exact(g.row (show Row wr.drew ((w:Nat)+1) _ _ from a) O9).cell 1) ((go_at_call 143;refine(ZO rb t _ (by exact s)).mono ?_;rintro e w' ⟨rfl,g⟩;obtain⟨⟨ai,ak⟩,⟨aj,ao⟩,⟨a8,a9⟩,f0,f1,f2⟩:=(g.row (show Row wr.drew gi _ _ from RI) O9).three (k*3) (by have:=h.out;have:=p.out;rw[bW,rS];omega)))
   replace c:=g.row (show Row wr.drew ↑w _ _ from c) O9;replace a:=g.row (show Row wr.drew ((w:Nat)+1) _ _ from a) O9;replace RI:=g.row (show Row wr.drew gi _ _ from RI) O9;replace d:=d.trans (uO g.grown);have o:=g.at_;generalize(yJ t).1=x at u|-;generalize(yJ t).2=ah at u o;replace c:=((c.aP (gi,k*3) ↑x.tx (by show(w:Nat)≠gi;omega)).aP (gi,k*3+1) ↑x.idx (by show(w:Nat)≠gi;omega)).aP (gi,k*3+2) ↑x.key (by show(w:Nat)≠gi;omega);replace a:=((a.aP (gi,k*3) ↑x.tx (by show(w:Nat)+1≠gi;omega)).aP (gi,k*3+1) ↑x.idx (by show(w:Nat)+1≠gi;omega)).aP (gi,k*3+2) ↑x.key (by show(w:Nat)+1≠gi;omega);replace o:=((o.aP (gi,k*3) ↑x.tx (by show rb≠gi;omega)).aP (gi,k*3+1) ↑x.idx (by show rb≠gi;omega)).aP (gi,k*3+2) ↑x.key (by show rb≠gi;omega);replace d:=bC (bC (bC d (gi,k*3) ↑x.tx (by show(w:Nat)<=gi;omega)) (gi,k*3+1) ↑x.idx (by show(w:Nat)<=gi;omega)) (gi,k*3+2) ↑x.key (by show(w:Nat)<=gi;omega);replace RI:=((RI.set (k*3) ↑x.tx).set (k*3+1) ↑x.idx).set (k*3+2) ↑x.key;rw[Bo _ _ _ _ _ _ (by rw[rS,p.out]) (by have:=h.out;omega),<-Bp]at RI;generalize((w'.setCell ⟨gi,k*3,none⟩ ↑x.tx).setCell ⟨gi,k*3+1,none⟩ ↑x.idx).setCell ⟨gi,k*3+2,none⟩ ↑x.key=E at c a o d RI|-;go_wp2;go_roundw;case rel=>exact⟨k+1,rest.drop 3,O9,by go_num,by rw[u.out];exact RI,by rw[BL,h.out];omega,by rw[u.out];exact o,c,a,d⟩
   case measure=>simp[intOf];omega
  .have μ:k=n:=O9;subst μ;have K:rest=[]:=oG (by rw[h.out];omega);subst K;rw[oM]at RI;have p:=Im k r2;generalize(kZ k r2).1=I at RI H p;generalize(kZ k r2).2=r3 at s H;replace p:=aL p;go_wp2;refine(kF rb r3 1 1 8 _ s O9).m1 λw4 C=>?_;replace c:=C.row c O9;replace a:=C.row a O9;replace RI:=C.row RI O9;replace d:=d.trans C.grown;have B:=C.at_;have D:=xz r3 1 1 8 O9 O9;have⟨m,J⟩:=BK D.1;rw[J]at D;replace H:=H.out;rw[J,vF]at H;rw[J];generalize(r3.number 1 1 8).2=l at H B|-;replace H:=aL H;have a5:m<=8:=O9;have ab:=aee m O9;have c1:=a.r 2;have f1:=a.frozen 2;have π:=RI.lt;have aa:(w:Nat)+1<(w4:Nat):=O9;go_wp2;have L:(w4.setCell ((w:Nat)+1,2) (.slice w4.heap.size m m)).heap.size=(w4:Nat):=by simp only[World.setCell,xO]
   replace c:=(c.aP ((w:Nat)+1,2) (.slice w4.heap.size m m) (by show(w:Nat)≠(w:Nat)+1;omega)).alloc (.cells (U0 m).toArray 69);replace RI:=(RI.aP ((w:Nat)+1,2) (.slice w4.heap.size m m) (by show gi≠(w:Nat)+1;omega)).alloc (.cells (U0 m).toArray 69);replace a:=(a.set 2 (.slice w4.heap.size m m)).alloc (.cells (U0 m).toArray 69);replace B:=(B.aP ((w:Nat)+1,2) (.slice w4.heap.size m m) (by show rb≠(w:Nat)+1;omega)).alloc (.cells (U0 m).toArray 69);replace d:=cC (bC d ((w:Nat)+1,2) (.slice w4.heap.size m m) (by show(w:Nat)<=(w:Nat)+1;omega)) (.cells (U0 m).toArray 69);have f:=aW (w4.setCell ((w:Nat)+1,2) (.slice w4.heap.size m m)) (U0 m) 69;rw[L]at f;generalize(w4.setCell ⟨(w:Nat)+1,2,none⟩ (.slice w4.heap.size m m)).alloc (.cells (U0 m).toArray 69)=X at c a B d RI f|-;generalize(w4:Nat)=go at π aa f a|-;go_loopw [44] (λi wr=>∃(j:Nat) (rest:List Value),j<=m/\i=↑j/\Row wr go 69 (lQ (jB j l).1++rest)/\rest.length=(m -j)*2/\rE wr rb (jB j l).2/\Row wr ↑w 73 [aA,(),()]/\Row wr ((w:Nat)+1) 73 [tag,.slice gi k k,.slice go m m]/\Row wr gi 133 (mW I)/\w.grownBy wr (some rb)) (λi _=>m -(intOf i).toNat);case atStart=>exact⟨0,U0 m,fE _,rfl,f,by rw[ab1];rfl,B,c,a,RI,d⟩
   case round=>
    obtain⟨j,rest,az,rfl,f,h,s,c,a,RI,d⟩:=hrel;replace h:=aL h;by_cases a0:j<m
    .have y:Hid (jB (j+1) l=((jB j l).1++[(rR (jB j l).2).1],(rR (jB j l).2).2)):=rfl;have q:=FX j l;generalize(jB j l).1=M at f y q;generalize(jB j l).2=t at s y;replace q:=aL q;have t1:=a.r 2;have V:(0:Int)<=(j:Int):=O9;have W:(j:Int)<(m:Int):=O9;have ae:(w:Nat)+1≠go:=O9;have af:go≠(w:Nat)+1:=O9;go_wp2;go_region_held3 (λw'=>w'.cell? ((w:Nat)+1,2)=some (.slice go m m)) (first|go_keep|exact(g.row (show Row wr.drew ((w:Nat)+1) _ _ from a) O9).cell 2) ((go_at_call 144;refine(UQ rb t _ (by exact s)).mono ?_;rintro e w' ⟨rfl,g⟩;obtain⟨⟨ai,ak⟩,⟨aj,ao⟩,f0,f1⟩:=(g.row (show Row wr.drew go _ _ from f) O9).two (j*2) (by have:=h.out;have:=q.out;rw[bW,Au];omega)))
     replace c:=g.row (show Row wr.drew ↑w _ _ from c) O9;replace a:=g.row (show Row wr.drew ((w:Nat)+1) _ _ from a) O9;replace RI:=g.row (show Row wr.drew gi _ _ from RI) O9;replace f:=g.row (show Row wr.drew go _ _ from f) O9;replace d:=d.trans (uO g.grown);have o:=g.at_;generalize(rR t).1=x at y|-;generalize(rR t).2=ah at y o;replace c:=(c.aP (go,j*2) ↑x.val (by show(w:Nat)≠go;omega)).aP (go,j*2+1) ↑x.lock (by show(w:Nat)≠go;omega);replace a:=(a.aP (go,j*2) ↑x.val (by show(w:Nat)+1≠go;omega)).aP (go,j*2+1) ↑x.lock (by show(w:Nat)+1≠go;omega);replace RI:=(RI.aP (go,j*2) ↑x.val (by show gi≠go;omega)).aP (go,j*2+1) ↑x.lock (by show gi≠go;omega);replace o:=(o.aP (go,j*2) ↑x.val (by show rb≠go;omega)).aP (go,j*2+1) ↑x.lock (by show rb≠go;omega);replace d:=bC (bC d (go,j*2) ↑x.val (by show(w:Nat)<=go;omega)) (go,j*2+1) ↑x.lock (by show(w:Nat)<=go;omega);replace f:=(f.set (j*2) ↑x.val).set (j*2+1) ↑x.lock;rw[UR _ _ _ _ _ (by rw[Au,q.out]) (by have:=h.out;omega),<-FU]at f;generalize(w'.setCell ⟨go,j*2,none⟩ ↑x.val).setCell ⟨go,j*2+1,none⟩ ↑x.lock=E at c a o d RI f|-;go_wp2;go_roundw;case rel=>exact⟨j+1,rest.drop 2,O9,by go_num,by rw[y.out];exact f,by rw[BL,h.out];omega,by rw[y.out];exact o,c,a,RI,d⟩
     case measure=>simp[intOf];omega
    .have T:j=m:=O9;subst T;have K:rest=[]:=oG (by rw[h.out];omega);subst K;rw[oM]at f;have q:=FX j l;replace H:=H.out;generalize(jB j l).1=M at f H q;generalize(jB j l).2=a7 at s H;change Hid _ at H q;have P:=c.r 0;have Q:=c.r 1;have R:=c.r 2;have ar:=c.frozen 0;have au:=c.frozen 1;have av:=c.frozen 2;have c0:=a.r 0;have c1:=a.r 1;have c2:=a.r 2;go_wp2;rw[H.out];have ag:(Value.agg #[tag,.slice gi k k,.slice go j j])=.agg #[tag,.slice gi I.length I.length,.slice go M.length M.length]:=by rw[p.out,q.out]
     refine nC (v:=.agg #[tag,.slice gi k k,.slice go j j]) (by simp[results,Tryz.results121,go_sem,P,Q,R]) rfl ⟨_,gi,go,rfl,⟨ag,O9,O9,?_,?_⟩,?_,?_⟩;.refine((RI.aP _ _ ?_).aP _ _ ?_).aP _ _ ?_;all_goals(show gi≠(w:Nat);omega)
     .refine((f.aP _ _ ?_).aP _ _ ?_).aP _ _ ?_;all_goals(show go≠(w:Nat);omega)
     .refine((s.aP _ _ ?_).aP _ _ ?_).aP _ _ ?_;all_goals(show rb≠(w:Nat);omega)
     .refine bC (bC (bC d _ _ ?_) _ _ ?_) _ _ ?_;all_goals exact L9
end
section
def FW:=@Below.heap_setCell
variable[Go.Proofs.VB]
def nI:Nat->RS->List yb×RS
 |0,r=>([],r)
 |n+1,r=>((nI n r).1++[(Bh (nI n r).2 ((n:Int)==0)).1],(Bh (nI n r).2 ((n:Int)==0)).2)
def UN(n r):(nI n r).1.length=n:=by induction n with
 |zero=>rfl
 |succ n a=>simp[nI,a]
structure np where
 parent:List UInt8
 bits:Int
 bT:Int
 cX:List yb
def iW(r:RS):np×RS:=let a:=r.take 8;let b:=a.2.number 1 0 8;let c:=b.2.number 2 0 65535;let d:=c.2.number 1 1 8;let e:=nI d.1.toNat d.2;(⟨a.1,b.1,c.1,e.1⟩,e.2)
structure uK where
 t:yb
 gi:Nat
 go:Nat
def uK.cells(p:uK):List Value:=[.int .i64 p.t.tag,.slice (some ⟨p.gi,0,none⟩) p.t.ins.length p.t.ins.length,.slice (some ⟨p.go,0,none⟩) p.t.outs.length p.t.outs.length]
def yQ(l:List uK):List Value:=l.flatMap uK.cells
def CQ(l):(yQ l).length=l.length*3:=by induction l with
 |nil=>rfl
 |cons x l a=>simp only[yQ,DF,bW]at*;simp only[uK.cells,fF,jZ];omega
def UO(l p):yQ (l++[p])=yQ l++[.int .i64 p.t.tag,.slice (some ⟨p.gi,0,none⟩) p.t.ins.length p.t.ins.length,.slice (some ⟨p.go,0,none⟩) p.t.outs.length p.t.outs.length]:=by simp[yQ,uK.cells]
structure nu(w:World)(g:Nat)(l:List uK):Prop where
 rows:∀(i:Nat) (p:uK),l[i]?=some p->g<p.gi/\p.gi<p.go/\Row w p.gi 133 (mW p.t.ins)/\Row w p.go 69 (lQ p.t.outs)
 asc:∀(i j:Nat) (p q:uK),i<j->l[i]?=some p->l[j]?=some q->p.go<q.gi
def nu.nil(w g):nu w g []:=⟨λi p h=>by simp at h,λi j p q _ h=>by simp at h⟩
def nu.kept{w w' g l}(h:nu w g l)(e:∀b,g<b->b<w->w'.heap[b]?=w.heap[b]?):nu w' g l:=⟨λi p j=>by have⟨a,f,c,d⟩:=h.rows i p j;exact⟨a,f,(e _ a c.lt).trans c,(e _ O9 d.lt).trans d⟩,h.asc⟩
def nu.snoc{w g B l p}(h:nu w g l)(o:∀(i:Nat) (q:uK),l[i]?=some q->q.go<B)(n:g<B)(e:B<=p.gi)(f:p.gi<p.go)(k:Row w p.gi 133 (mW p.t.ins))(m:Row w p.go 69 (lQ p.t.outs)):nu w g (l++[p]):=by
 refine⟨λi q a=>?_,λi j q s c a b=>?_⟩
 .by_cases hi:i<l.length;.rw[mM hi]at a;exact h.rows i q a
  .grind
 .by_cases d:j<l.length;.rw[mM d]at b;rw[mM O9]at a;exact h.asc i j q s c a b
  .grind
def Ns(rb r w)(R:rE w rb r):Calls Vp 88 #[.pointer rb] w λe w'=>∃gt l,e=.returned (.agg #[(mk (iW r).1.parent),(iW r).1.bits,(iW r).1.bT,.slice (some ⟨gt,0,none⟩) l.length l.length])/\l.map uK.t=(iW r).1.cX/\w<=gt/\Row w' gt 73 (yQ l)/\nu w' gt l/\vC w w' rb (iW r).2:=by
 have a5:=R.lt;go_enter fA Tryz.func88,Tryz.ntmps88;go_wp2;refine(FV rb r 8 _ ((R.alloc _).alloc _) O9).m1 λw1 F=>?_;have f:=F.row ((aW w [aB,aA,aA,()] 76).alloc _) O9;have a:Row w1 ((w:Nat)+1) 76 [aB,aA,aA,()]:=by have:=F.row (aW (w.alloc (.cells #[aB,aA,aA,()] 76)) [aB,aA,aA,()] 76) (by simp only[bL];omega);simpa only[bL]using this
 have g:=(cC (cC (aZ w _) _) _).trans F.grown;have j:=F.at_;have H:Hid (∀b,b=(r.take 8).2.number 1 0 8->∀c,c=b.2.number 2 0 65535->∀d,d=c.2.number 1 1 8->iW r=(⟨(r.take 8).1,b.1,c.1,(nI d.1.toNat d.2).1⟩,(nI d.1.toNat d.2).2)):=by intro b K c ab d ae;subst K ab ae;rfl
 generalize(r.take 8).1=y at H|-;generalize(r.take 8).2=r1 at H j|-;have c0:=a.r 0;have f0:=a.frozen 0;go_wp2;replace f:=f.aP ((w:Nat)+1,0) (mk y) (by show(w:Nat)≠(w:Nat)+1;omega);replace a:=a.set 0 (mk y);replace j:=j.aP ((w:Nat)+1,0) (mk y) (by show rb≠(w:Nat)+1;omega);replace g:=bC g ((w:Nat)+1,0) (mk y) (by show(w:Nat)<=(w:Nat)+1;omega);generalize w1.setCell ⟨(w:Nat)+1,0,none⟩ (mk y)=w2 at f a j g|-;refine(kF rb r1 1 0 8 _ j O9).m1 λw3 G=>?_;replace f:=G.row f O9;replace a:=G.row a O9;replace g:=g.trans G.grown;replace j:=G.at_;replace H:=aL (H.out _ rfl);generalize(r1.number 1 0 8).1=bits at H|-;generalize(r1.number 1 0 8).2=r2 at H j|-;have c0:=a.r 1;have f0:=a.frozen 1;go_wp2;replace f:=f.aP ((w:Nat)+1,1) bits (by show(w:Nat)≠(w:Nat)+1;omega);replace a:=a.set 1 bits;replace j:=j.aP ((w:Nat)+1,1) bits (by show rb≠(w:Nat)+1;omega);replace g:=bC g ((w:Nat)+1,1) bits (by show(w:Nat)<=(w:Nat)+1;omega);generalize w3.setCell ⟨(w:Nat)+1,1,none⟩ bits=w4 at f a j g|-;refine(kF rb r2 2 0 65535 _ j O9).m1 λV s=>?_;replace f:=s.row f O9;replace a:=s.row a O9;replace g:=g.trans s.grown;replace j:=s.at_;replace H:=aL (H.out _ rfl);generalize(r2.number 2 0 65535).1=bT at H|-;generalize(r2.number 2 0 65535).2=r3 at H j|-;have c0:=a.r 2;have f0:=a.frozen 2;go_wp2;replace f:=f.aP ((w:Nat)+1,2) bT (by show(w:Nat)≠(w:Nat)+1;omega);replace a:=a.set 2 bT;replace j:=j.aP ((w:Nat)+1,2) bT (by show rb≠(w:Nat)+1;omega);replace g:=bC g ((w:Nat)+1,2) bT (by show(w:Nat)<=(w:Nat)+1;omega);generalize V.setCell ⟨(w:Nat)+1,2,none⟩ bT=bg at f a j g|-;refine(kF rb r3 1 1 8 _ j O9).m1 λo I=>?_;replace f:=I.row f O9;replace a:=I.row a O9;replace g:=g.trans I.grown;replace j:=I.at_;have Q:=xz r3 1 1 8 O9 O9;have⟨n,M⟩:=BK Q.1;replace H:=H.out _ rfl;rw[M]at Q;rw[M,vF]at H;rw[M];generalize(r3.number 1 1 8).2=z at H j|-;replace H:=aL H;have a7:n<=8:=O9;have a6:=aed n O9;have c1:o.cell? ((w:Nat)+1,3)=some ():=a.cell 3;have f1:=a.frozen 3;have ai:=a.lt;go_wp2;have ar:(o.setCell ((w:Nat)+1,3) (.slice o.heap.size n n)).heap.size=(o:Nat):=by simp only[World.setCell,xO]
 replace f:=(f.aP ((w:Nat)+1,3) (.slice o.heap.size n n) (by show(w:Nat)≠(w:Nat)+1;omega)).alloc (.cells (ZM n).toArray 73);replace a:=(a.set 3 (.slice o.heap.size n n)).alloc (.cells (ZM n).toArray 73);replace j:=(j.aP ((w:Nat)+1,3) (.slice o.heap.size n n) (by show rb≠(w:Nat)+1;omega)).alloc (.cells (ZM n).toArray 73);replace g:=cC (bC g ((w:Nat)+1,3) (.slice o.heap.size n n) (by show(w:Nat)<=(w:Nat)+1;omega)) (.cells (ZM n).toArray 73);have m:=aW (o.setCell ((w:Nat)+1,3) (.slice o.heap.size n n)) (ZM n) 73;rw[ar]at m;generalize(o.setCell ⟨(w:Nat)+1,3,none⟩ (.slice o.heap.size n n)).alloc (.cells (ZM n).toArray 73)=X at f a j g m|-;generalize(o:Nat)=gt at ai m a|-;go_loopw [21] (λi wr=>∃k l rest,k<=n/\i=k/\l.map uK.t=(nI k z).1/\Row wr gt 73 (yQ l++rest)/\rest.length=(n -k)*3/\nu wr gt l/\rE wr rb (nI k z).2/\Row wr w 76 [aB,aA,aA,()]/\Row wr ((w:Nat)+1) 76 [(mk y),bits,bT,.slice gt n n]/\w.grownBy wr (some rb)) (λi _=>n -(intOf i).toNat);case atStart=>exact⟨0,[],ZM n,fE _,rfl,rfl,m,by rw[abY];rfl,nu.nil _ _,j,f,a,g⟩
 case round=>
  obtain⟨k,l,rest,a0,rfl,A,m,C,u,J,f,a,g⟩:=hrel;replace C:=aL C;have N:Hid (l.length=k):=by unfold Hid;have:=congrArg List.length A;rw[UN]at this;simpa using this
  replace A:=aL A;by_cases a4:k<n
  .have B:Hid (nI (k+1) z=((nI k z).1++[(Bh (nI k z).2 ((k:Int)==0)).1],(Bh (nI k z).2 ((k:Int)==0)).2)):=rfl;generalize(nI k z).1=μ at A B;generalize(nI k z).2=P at J B;have t1:=a.r 3;have a2:(0:Int)<=(k:Int):=O9;have a3:(k:Int)<(n:Int):=O9;have a8:(w:Nat)+1≠gt:=O9;have a9:gt≠(w:Nat)+1:=O9;go_wp2;go_region_held3 (λw'=>w'.cell? ((w:Nat)+1,3)=some (.slice gt n n)) (first|go_keep|exact(s.row (show Row wr.drew ((w:Nat)+1) _ _ from a) O9).cell 3) ((go_at_call 121;refine(ZN rb P _ _ (by exact J)).mono ?_;rintro e w' ⟨v,gi,go,rfl,⟨O,af,hgo,S,T⟩,s⟩;subst O;obtain⟨⟨bc,bj⟩,⟨bd,bk⟩,⟨bf,bm⟩,f0,f1,f2⟩:=(s.row (show Row wr.drew gt _ _ from m) O9).three (k*3) (by have:=C.out;have:=N.out;rw[bW,CQ];omega)))
   have ag:(wr:Nat)<=gi:=af;have aX:=m.lt;have ak:∀(i:Nat) (q:uK),l[i]?=some q->q.go<(wr:Nat):=λi q h=>(u.rows i q h).2.2.2.lt;replace u:=u.kept (w':=w') λb K L=>(uO s.grown).block b L (by simp;omega);replace f:=s.row (show Row wr.drew ↑w _ _ from f) O9;replace a:=s.row (show Row wr.drew ((w:Nat)+1) _ _ from a) O9;replace m:=s.row (show Row wr.drew gt _ _ from m) O9;replace g:=g.trans (uO s.grown);have D:=s.at_;generalize(Bh P ((k:Int)==0)).1=x at B S T|-;generalize(Bh P ((k:Int)==0)).2=bb at B D;replace u:=u.snoc (p:=⟨x,gi,go⟩) ak aX ag hgo S T;have aj:Hid ((l++[(⟨x,gi,go⟩:uK)]).map uK.t=μ++[x]):=by unfold Hid;rw[List.map_append,A.out];rfl
   replace f:=((f.aP (gt,k*3) ↑x.tag (by show(w:Nat)≠gt;omega)).aP (gt,k*3+1) (.slice gi x.ins.length x.ins.length) (by show(w:Nat)≠gt;omega)).aP (gt,k*3+2) (.slice go x.outs.length x.outs.length) (by show(w:Nat)≠gt;omega);replace a:=((a.aP (gt,k*3) ↑x.tag (by show(w:Nat)+1≠gt;omega)).aP (gt,k*3+1) (.slice gi x.ins.length x.ins.length) (by show(w:Nat)+1≠gt;omega)).aP (gt,k*3+2) (.slice go x.outs.length x.outs.length) (by show(w:Nat)+1≠gt;omega);replace D:=((D.aP (gt,k*3) ↑x.tag (by show rb≠gt;omega)).aP (gt,k*3+1) (.slice gi x.ins.length x.ins.length) (by show rb≠gt;omega)).aP (gt,k*3+2) (.slice go x.outs.length x.outs.length) (by show rb≠gt;omega);replace g:=bC (bC (bC g (gt,k*3) ↑x.tag (by show(w:Nat)<=gt;omega)) (gt,k*3+1) (.slice gi x.ins.length x.ins.length) (by show(w:Nat)<=gt;omega)) (gt,k*3+2) (.slice go x.outs.length x.outs.length) (by show(w:Nat)<=gt;omega);replace m:=((m.set (k*3) ↑x.tag).set (k*3+1) (.slice gi x.ins.length x.ins.length)).set (k*3+2) (.slice go x.outs.length x.outs.length);rw[Bo _ _ _ _ _ _ (by rw[CQ,N.out]) (by have:=C.out;omega),<-UO l ⟨x,gi,go⟩]at m;replace u:=u.kept (w':=((w'.setCell (gt,k*3) ↑x.tag).setCell (gt,k*3+1) (.slice gi x.ins.length x.ins.length)).setCell (gt,k*3+2) (.slice go x.outs.length x.outs.length)) λb K L=>(FW _ _ _ b (by show b≠gt;omega)).trans ((FW _ _ _ b (by show b≠gt;omega)).trans (FW _ _ _ b (by show b≠gt;omega)));generalize((w'.setCell ⟨gt,k*3,none⟩ ↑x.tag).setCell ⟨gt,k*3+1,none⟩ (.slice gi x.ins.length x.ins.length)).setCell ⟨gt,k*3+2,none⟩ (.slice go x.outs.length x.outs.length)=E at f a D g m u|-;go_wp2;go_roundw;case rel=>exact⟨k+1,l++[⟨x,gi,go⟩],rest.drop 3,O9,by go_num,by rw[B.out];exact aj.out,m,by rw[BL,C.out];omega,u,by rw[B.out];exact D,f,a,g⟩
   case measure=>simp[intOf];omega
  .have ah:k=n:=O9;subst ah;have ao:rest=[]:=oG (by rw[C.out];omega);subst ao;rw[oM]at m;replace H:=H.out;generalize(nI k z).1=μ at A H;generalize(nI k z).2=ba at J H;replace H:=aL H;have aX:=m.lt;have W:=f.r 0;have Y:=f.r 1;have π:=f.r 2;have aa:=f.r 3;have au:=f.frozen 0;have av:=f.frozen 1;have ay:=f.frozen 2;have az:=f.frozen 3;have c0:=a.r 0;have c1:=a.r 1;have c2:=a.r 2;have c3:=a.r 3;go_wp2;rw[H.out];have O:(Value.agg #[↑(mk y),bits,bT,.slice gt k k])=.agg #[↑(mk y),bits,bT,.slice gt l.length l.length]:=by rw[N.out]
   refine nC (v:=.agg #[↑(mk y),bits,bT,.slice gt k k]) (by simp[results,Tryz.results88,go_sem,W,Y,π,aa]) rfl ⟨gt,l,by rw[O],A.out,O9,?_,?_,?_,?_⟩;.refine(((m.aP _ _ ?_).aP _ _ ?_).aP _ _ ?_).aP _ _ ?_;all_goals(show gt≠(w:Nat);omega)
   .refine u.kept λb K L=>?_;refine(FW _ _ _ b ?_).trans ((FW _ _ _ b ?_).trans ((FW _ _ _ b ?_).trans (FW _ _ _ b ?_)));all_goals(show b≠(w:Nat);omega)
   .refine(((J.aP _ _ ?_).aP _ _ ?_).aP _ _ ?_).aP _ _ ?_;all_goals(show rb≠(w:Nat);omega)
   .refine bC (bC (bC (bC g _ _ ?_) _ _ ?_) _ _ ?_) _ _ ?_;all_goals exact L9
end
section
def af9:=@wpList_append_own_at
variable[Go.Proofs.VB]
def Bv(B:Nat)(w:World)(v:Value)(l:List jX):Prop:=w.ownsRow B 133 3 v l.length (mW l)
def C9(B:Nat)(w:World)(v:Value)(l:List fL):Prop:=w.ownsRow B 69 2 v l.length (lQ l)
def eO.cells(d:eO):List Value:=[.int .i64 d.tag,d.iv,d.ov]
def vB(l:List eO):List Value:=l.flatMap eO.cells
def Pw(B:Nat)(w:World)(v:Value)(l:List eO):Prop:=w.ownsRow B 73 3 v l.length (vB l)
def UK(l d):vB (l++[d])=vB l++[.int .i64 d.tag,d.iv,d.ov]:=by simp[vB,eO.cells]
def bO(w:World)(p v):w.grownBy (w.setCell p v) (some p.block):=by refine⟨rfl,rfl,rfl,?_,λk _ a=>Below.heap_setCell w p v k (by intro e;exact a (by rw[e]))⟩;simp only[World.setCell,xO];exact L9
def fS{B}{w w':World}{e size n g v a}(h:w.ownsRow B e size v n a)(b:w.grownBy w' (some g))(d:g<B):w'.ownsRow B e size v n a:=h.kept b (by cases c:v.ownBlock with
  |none=>exact .inl rfl
  |some k=>have:=(h.lt k c).1;right;intro e;cases e;omega)
def xn{B}{w w':World}{e size n}{v u:Value}{a}(h:w.ownsRow B e size v n a)(b:w.grownBy w' u.ownBlock)(c:∀k,v.ownBlock=some k->u.ownBlock≠some k):w'.ownsRow B e size v n a:=h.kept b (by cases d:v.ownBlock with
  |none=>exact .inl rfl
  |some k=>right;intro e;exact c k d e.symm)
def T5{w w' g t cs}{u:Value}(h:Row w g t cs)(a:w.grownBy w' u.ownBlock)(b:∀k,u.ownBlock=some k->g≠k):Row w' g t cs:=(a.block g h.lt (λe=>b g e.symm rfl)).trans h
def xk{a w w':World}{r}{u:Value}(h:a.grownBy w r)(b:w.grownBy w' u.ownBlock)(c:∀k,u.ownBlock=some k->a<=k):a.grownBy w' r:=⟨b.os.trans h.os,b.tape.trans h.tape,b.output.trans h.output,bJ h.size b.size,λi hi d=>(b.block i (eP hi h.size) (λe=>by have:=c i e.symm;omega)).trans (h.block i hi d)⟩
def add0(g j):((g,0):Addr).add j=⟨g,j,none⟩:=by unfold Addr.add;split<;>simp_all
def abW{B w v l}(h:Bv B w v l)(k:l.length<=140737488355328):wI w v l:=by
 refine⟨?_,k⟩;have a:=λg (e:v.ownBlock=some g)=>uT h e;obtain⟨rfl,n⟩|⟨g,cap,cur,rfl,_,_,_,_,_,_⟩:=h.2;.simp_all
 .refine⟨some (g,0),cap,rfl,λ_=>⟨g,0,rfl,λi x m=>?_⟩⟩;have⟨h0,f,j⟩:=wN l i x m;have b:=a g rfl _ _ h0;have c:=a g rfl _ _ f;have d:=a g rfl _ _ j;rw[add0]at b c d;refine⟨?_,?_,?_⟩<;>simp<;>assumption
def abX{B w v l}(h:C9 B w v l)(f:l.length<=140737488355328):qQ w v l:=by
 refine⟨?_,f⟩;have a:=λg (e:v.ownBlock=some g)=>uT h e;obtain⟨rfl,k⟩|⟨g,cap,cur,rfl,_,_,_,_,_,_⟩:=h.2;.simp_all
 .refine⟨some (g,0),cap,rfl,λ_=>⟨g,0,rfl,λi x j=>?_⟩⟩;have⟨h0,d⟩:=xt l i x j;have b:=a g rfl _ _ h0;have c:=a g rfl _ _ d;rw[add0]at b c;refine⟨?_,?_⟩<;>simp<;>assumption
def Ac:∀l i x,l[i]?=some x->(vB l)[i*3]?=some x.tag/\(vB l)[i*3+1]?=some x.iv/\(vB l)[i*3+2]?=some x.ov
 |[],i,x,h=>by simp at h
 |y::l,0,x,h=>by simp at h;subst h;simp[vB,eO.cells]
 |y::l,i+1,x,h=>by have:=Ac l i x (by simpa using h);have e:vB (y::l)=y.cells++vB l:=rfl;have a:y.cells.length=3:=rfl;rw[e,eD (by rw[a];omega),eD (by rw[a];omega),eD (by rw[a];omega),a,show(i+1)*3 -3=i*3 from by omega,show(i+1)*3+1 -3=i*3+1 from by omega,show(i+1)*3+2 -3=i*3+2 from by omega];exact this
structure dA(B:Nat)(w:World)(v:Value)(l:List eO):Prop where
 own:Pw B w v l
 ins:∀d∈l,Bv B w d.iv d.ins/\∀k,d.iv.ownBlock=some k->v.ownBlock≠some k
 outs:∀d∈l,C9 B w d.ov d.outs/\∀k,d.ov.ownBlock=some k->v.ownBlock≠some k
def dA.nil(B w):dA B w () []:=⟨nB _ _ _ _,λd a=>by simp at a,λd a=>by simp at a⟩
def dA.kept{B w w' v l g}(h:dA B w v l)(b:w.grownBy w' (some g))(c:g<B):dA B w' v l:=⟨fS h.own b c,λd a=>⟨fS (h.ins d a).1 b c,(h.ins d a).2⟩,λd a=>⟨fS (h.outs d a).1 b c,(h.outs d a).2⟩⟩
def dA.snoc{B B1 w w' v f l d}(h:dA B w v l)(C:B<=B1)(s:Pw B w' f (l++[d]))(p:w.grownBy w' v.ownBlock)(q:f.ownBlock=v.ownBlock\/f.ownBlock=some ↑w)(t:∀k,v.ownBlock=some k->k<B1)(hi:Bv B1 w d.iv d.ins)(b:C9 B1 w d.ov d.outs):dA B w' f (l++[d]):=by
 have key:∀{e:TypeId} {size n:Nat} {u:Value} {c:List Value},w.ownsRow B e size u n c->(∀k,u.ownBlock=some k->v.ownBlock≠some k)->w'.ownsRow B e size u n c/\∀k,u.ownBlock=some k->f.ownBlock≠some k:=by
  intro e size n u c b r;refine⟨xn b p r,λk j e=>?_⟩;obtain i|i:=q;.simp_all
  .have:=(b.lt k j).2;rw[i]at e;cases e;omega
 have low:∀{e:TypeId} {size n:Nat} {u:Value} {c:List Value},w.ownsRow B1 e size u n c->w.ownsRow B e size u n c:=by
  intro e size n u c b;refine⟨b.1,?_⟩;obtain h0|⟨g,cap,cur,m,y,o⟩:=b.2;.simp_all
  .exact .inr ⟨g,cap,cur,m,O9,o⟩
 have sN:∀{e:TypeId} {size n:Nat} {u:Value} {c:List Value},w.ownsRow B1 e size u n c->∀k,u.ownBlock=some k->v.ownBlock≠some k:=by intro e size n u c b k j i;have z:=(b.lt k j).1;have A:=t k i;omega
 refine⟨s,λx a=>?_,λx a=>?_⟩
 .obtain a|a:=nz.1 a;.exact key (h.ins x a).1 (h.ins x a).2
  .simp at a;subst a;exact key (low hi) (sN hi)
 .obtain a|a:=nz.1 a;.exact key (h.outs x a).1 (h.outs x a).2
  .simp at a;subst a;exact key (low b) (sN b)
def dA.acP{B w v l}(h:dA B w v l)(o:l.length<=1000)(hi:∀d∈l,d.ins.length<=1000/\d.outs.length<=1000):yc w v l:=by
 refine⟨?_,O9⟩;have b:=λg (e:v.ownBlock=some g)=>uT h.own e;obtain⟨rfl,p⟩|⟨g,cap,cur,rfl,_,_,_,_,_,_⟩:=h.own.2;.simp_all
 .refine⟨some (g,0),cap,rfl,λ_=>⟨g,0,rfl,λi x c=>?_⟩⟩;have a:=cW c;have⟨h0,m,n⟩:=Ac l i x c;have f:=b g rfl _ _ h0;have j:=b g rfl _ _ m;have k:=b g rfl _ _ n;rw[add0]at f j k;refine⟨?_,?_,?_,abW (h.ins x a).1 (by have:=hi x a;omega),abX (h.outs x a).1 (by have:=hi x a;omega)⟩<;>simp<;>assumption
def FT{w:World}{g a b c}(h0:w.cell? (g,0)=some a)(e:w.cell? (g,1)=some b)(f:w.cell? (g,2)=some c):∀j u,[a,b,c][j]?=some u->w.cell? ((⟨g,0,none⟩:Addr).add j)=some u:=by intro j u d;match j,d with
 |0,d=>simp at d;subst d;simpa[Addr.add]using h0
 |1,d=>simp at d;subst d;simpa[Addr.add]using e
 |2,d=>simp at d;subst d;simpa[Addr.add]using f
 |j+3,d=>simp at d
def PW{w:World}{g a b}(h0:w.cell? (g,0)=some a)(d:w.cell? (g,1)=some b):∀j u,[a,b][j]?=some u->w.cell? ((⟨g,0,none⟩:Addr).add j)=some u:=by intro j u c;match j,c with
 |0,c=>simp at c;subst c;simpa[Addr.add]using h0
 |1,c=>simp at c;subst c;simpa[Addr.add]using d
 |j+2,c=>simp at c
def Jk{B w ops rest o a Q}(m:o.guard=none)(s x)(n:o.op=.call {callee:=.builtin .append,args:=#[s,x],argTypes:=#[71,71]})(v)(l)(q:a.eval s=v)(p:Bv B w v l)
 (d)(g)(r:a.eval x=.slice g 1 1)(c:Row w g 133 d.cells)(hlen:l.length<=1000000)(k:B<=w)
 (h:∀b w',Bv B w' b (l++[d])->w.grownBy w' v.ownBlock->(b.ownBlock=v.ownBlock\/b.ownBlock=some ↑w)->wpList Vp ops Q rest (a.put o.dst b) w'):wpList Vp ops Q (o::rest) a w:=by
 have⟨A,hi,t,y,z⟩:=info_parts ac0;refine wpList_append_own_at _ m s x 71 n B 133 A _ 3 40 aI.underlying71 hi t y z rfl D9 v l.length (mW l) q p ⟨g,0,none⟩ 1 1 d.cells r rfl (FT (c.cell 0) (c.cell 1) (c.cell 2)) ?_ (by unfold maxLen;omega) O9 k ?_;.intro u e;simp[jX.cells]at e;obtain rfl|rfl|rfl:=e<;>rfl
 .intro b w' f i _ j;refine h b w' ?_ i j;unfold Bv;rw[Bp,bW];exact f
def Ag{B w ops rest o a Q}(m:o.guard=none)(s x)(n:o.op=.call {callee:=.builtin .append,args:=#[s,x],argTypes:=#[70,70]})(v)(l)(q:a.eval s=v)(p:C9 B w v l)
 (d)(g)(r:a.eval x=.slice g 1 1)(c:Row w g 69 d.cells)(hlen:l.length<=1000000)(k:B<=w)
 (h:∀b w',C9 B w' b (l++[d])->w.grownBy w' v.ownBlock->(b.ownBlock=v.ownBlock\/b.ownBlock=some ↑w)->wpList Vp ops Q rest (a.put o.dst b) w'):wpList Vp ops Q (o::rest) a w:=by
 have⟨A,hi,t,y,z⟩:=info_parts ac1;refine wpList_append_own_at _ m s x 70 n B 69 A _ 2 24 aI.underlying70 hi t y z rfl D9 v l.length (lQ l) q p ⟨g,0,none⟩ 1 1 d.cells r rfl (PW (c.cell 0) (c.cell 1)) ?_ (by unfold maxLen;omega) O9 k ?_;.intro u e;simp[fL.cells]at e;obtain rfl|rfl:=e<;>rfl
 .intro b w' f i _ j;refine h b w' ?_ i j;unfold C9;rw[FU,bW];exact f
def Jj{B w ops rest o a Q}(p:o.guard=none)(s x)(q:o.op=.call {callee:=.builtin .append,args:=#[s,x],argTypes:=#[74,74]})(v)(l)(t:a.eval s=v)(r:Pw B w v l)
 (d)(g)(y:a.eval x=.slice g 1 1)(c:Row w g 73 d.cells)(f:d.iv.oneCell'=true)(i:d.ov.oneCell'=true)(hlen:l.length<=1000000)(n:B<=w)
 (h:∀b w',Pw B w' b (l++[d])->w.grownBy w' v.ownBlock->(b.ownBlock=v.ownBlock\/b.ownBlock=some ↑w)->wpList Vp ops Q rest (a.put o.dst b) w'):wpList Vp ops Q (o::rest) a w:=by
 have⟨D,hi,z,A,C⟩:=info_parts YB;refine wpList_append_own_at _ p s x 74 q B 73 D _ 3 56 aI.underlying74 hi z A C rfl D9 v l.length (vB l) t r ⟨g,0,none⟩ 1 1 d.cells y rfl (FT (c.cell 0) (c.cell 1) (c.cell 2)) ?_ (by unfold maxLen;omega) O9 n ?_
 .intro u e;simp[eO.cells]at e;obtain rfl|rfl|rfl:=e;.rfl
  .exact f
  .exact i
 .intro b w' j k _ m;refine h b w' ?_ k m;unfold Pw;rw[UK,bW];exact j
end
section
variable[Go.Proofs.VB]
def uF{B}{w:World}{e size n v a}(h:w.ownsRow B e size v n a)(p u)(b:∀k,v.ownBlock=some k->k≠p.block):(w.setCell p u).ownsRow B e size v n a:=h.kept (bO w p u) (by cases c:v.ownBlock with
  |none=>exact .inl rfl
  |some k=>right;intro e;exact b k c (by simpa using e))
def cQ{B}{w:World}{e size n v a}(h:w.ownsRow B e size v n a)(m)(b:n=m+1):∃g cap,v=.slice (some ⟨g,0,none⟩) (m+1) cap:=by
 obtain⟨_,h0⟩|⟨g,cap,cur,c,_⟩:=h.2;.omega
 .simp_all
def eO.m(d:eO):yb:=⟨d.tag,d.ins,d.outs⟩
def lC(s:List UInt8):Option np:=if(iW ⟨s,false⟩).2.bad||!(iW ⟨s,false⟩).2.l.isEmpty then none else some (iW ⟨s,false⟩).1
structure MP(a w:World)(v:Value)(b:np)(gt:Nat)(ps:List uK):Prop where
 val:v=.agg #[.string (mk b.parent),.int .i64 b.bits,.int .i64 b.bT,.slice (some ⟨gt,0,none⟩) ps.length ps.length]
 cX:ps.map uK.t=b.cX
 lt:a.heap.size<=gt
 row:Row w gt 73 (yQ ps)
 rows:nu w gt ps
def lM:Value:=.agg #[aB,aA,aA,.slice none 0 0]
def ZV(l):(mk l).toList.isEmpty=l.isEmpty:=by rw[ByteArray.toList_eq];simp[mk]
def yV{a w1:World}{B:Nat}(hb:Below B a w1)(hB:B≤w1.heap.size)(v0 v1 v2 v3:Value)(o:Obj):Below B a (((((w1.setCell ⟨B,0,none⟩ v0).setCell ⟨B,1,none⟩ v1).setCell ⟨B,2,none⟩ v2).setCell ⟨B,3,none⟩ v3).alloc o):=by
  refine Below.alloc ((((hb.setCell (p:=⟨B,0,none⟩) (sW _) v0).setCell (p:=⟨B,1,none⟩) (sW _) v1).setCell (p:=⟨B,2,none⟩) (sW _) v2).setCell (p:=⟨B,3,none⟩) (sW _) v3) ?_ o;simpa only[World.setCell,xO]using hB
def F3{w1 B g t cs}(h:Row w1 g t cs)(a:g≠B)(v0 v1 v2 v3 o):Row (((((w1.setCell (B,0) v0).setCell (B,1) v1).setCell (B,2) v2).setCell (B,3) v3).alloc o) g t cs:=
 ((((h.aP ⟨B,0,none⟩ v0 a).aP ⟨B,1,none⟩ v1 a).aP ⟨B,2,none⟩ v2 a).aP ⟨B,3,none⟩ v3 a).alloc o
def Nv{w1 B g l}(h:nu w1 g l)(f:B<=g)(v0 v1 v2 v3 o):nu (((((w1.setCell (B,0) v0).setCell (B,1) v1).setCell (B,2) v2).setCell (B,3) v3).alloc o) g l:=
 ⟨λi p e=>by have⟨a,b,c,d⟩:=h.rows i p e;exact⟨a,b,F3 c O9 _ _ _ _ _,F3 d O9 _ _ _ _ _⟩,h.asc⟩
def wL(s w):Calls Vp 59 #[(mk s)] w λe w'=>Below w w w'/\((lC s=none/\e=.returned (.tuple #[lM,aG]))\/∃b v gt f,lC s=some b/\e=.returned (.tuple #[v,aA])/\MP w w' v b gt f):=by
 have d:Hid (lC s=if(iW ⟨s,false⟩).2.bad||!(iW ⟨s,false⟩).2.l.isEmpty then none else some (iW ⟨s,false⟩).1):=rfl;go_enter fA Tryz.func59,Tryz.ntmps59;go_wp2;have z:rE ((w.alloc (.cells #[aB,aA,aA,()] 76)).alloc (.cells #[(mk s),aF] 188)) ((w:Nat)+1) ⟨s,false⟩:=by have:=aW (w.alloc (.cells #[aB,aA,aA,()] 76)) [(mk s),aF] 188;rw[bL]at this;exact this
 refine(Ns ((w:Nat)+1) ⟨s,false⟩ _ z).mono ?_;rintro e w1 ⟨gt,f,rfl,x,aX,y,C,p⟩;simp only[bL]at aX;have a:=p.row ((aW w [aB,aA,aA,()] 76).alloc (.cells #[(mk s),aF] 188)) O9;have q:Below w w w1:=by have A:Below w w ((w.alloc (.cells #[aB,aA,aA,()] 76)).alloc (.cells #[(mk s),aF] 188)):=(B0.alloc L9 _).alloc (by simp only[bL];omega) _;exact A.grown p.grown (by simp only[bL];omega) (λk B=>by simp at B;omega)
 have g:=p.at_;generalize(iW ⟨s,false⟩).1=b at d x|-;generalize(iW ⟨s,false⟩).2=r1 at d g;have⟨l1,t⟩:=r1;have c0:w1.cell? ((w:Nat)+1,0)=some (mk l1):=Nr g 0;have c1:w1.cell? ((w:Nat)+1,1)=some (.bool t):=Nr g 1;have H:=Row.lt g;have j:=a.r 0;have m:=a.r 1;have n:=a.r 2;have o:w1.cell? ((w:Nat),3)=some ():=a.cell 3;have D:=a.frozen 0;have E:=a.frozen 1;have F:=a.frozen 2;have G:=a.frozen 3;have r:(w:Nat)<(w1:Nat):=O9;have u:=ZV l1;cases t;case true=>go_wp2;have c:lC s=none:=d.out;exact nC (v:=.tuple #[lM,aG]) (by simp[results,Tryz.results59,go_sem,j,m,n,o,lM,r]) rfl ⟨yV q O9 _ _ _ _ _,.inl ⟨c,rfl⟩⟩
 case false=>
  cases i:l1.isEmpty
  .rw[i]at u;go_wp2;have c:lC s=none:=by have h:=d.out;rw[i]at h;exact h
   exact nC (v:=.tuple #[lM,aG]) (by simp[results,Tryz.results59,go_sem,j,m,n,o,lM,r]) rfl ⟨yV q O9 _ _ _ _ _,.inl ⟨c,rfl⟩⟩
  .rw[i]at u;go_wp2;have c:lC s=some b:=by have h:=d.out;rw[i]at h;exact h
   exact nC (v:=.tuple #[.agg #[(mk b.parent),b.bits,b.bT,.slice gt f.length f.length],aA]) (by simp[results,Tryz.results59,go_sem,j,m,n,o,r]) rfl ⟨yV q O9 _ _ _ _ _,.inr ⟨b,_,gt,f,c,rfl,rfl,x,O9,F3 y O9 _ _ _ _ _,Nv C O9 _ _ _ _ _⟩⟩
def HE{s t:eO}(h:s.aa1 t)(first):s.fits first=t.fits first:=by have⟨a,b,c⟩:=h;simp[eO.fits,a,b,c]
def O7{s t:eO}(h:s.aa1 t):s.bytes=t.bytes:=by have⟨a,b,c⟩:=h;simp[eO.bytes,a,b,c]
def Mj{α:Type}{f:eO->α}(b:∀s t,s.aa1 t->f s=f t){l m}(h:Dp l m):l.map f=m.map f:=by
 apply kI;intro i;simp;by_cases hi:i<l.length
 .have a:i<m.length:=by have:=h.1;omega
  rw[bP hi,bP a];simp;rw[b _ _ (h.2 i _ _ (bP hi) (bP a))]
 .rw[pA O9,pA (by have:=h.1;omega)]
def EU{l m}(h:Dp l m)(p bits bT):dL p bits bT l=dL p bits bT m:=by
 have e:∀x:List eO,x.zipIdx.all (λq=>q.1.fits ((q.2:Int)==0))=(x.map (λt=>(t.fits true,t.fits false))).zipIdx.all (λq=>if((q.2:Int)==0)then q.1.1 else q.1.2):=by intro x;rw[List.zipIdx_map,List.all_map];congr 1;funext q;simp only[Function.comp,Prod.map,id];cases((q.2:Int)==0)<;>rfl
 simp[dL,h.1,e];rw[Mj (f:=λt=>(t.fits true,t.fits false)) (λs t a=>by rw[HE a,HE a]) h]
def C4{l m}(h:Dp l m)(p bits bT):fW p bits bT l=fW p bits bT m:=by
 have e:l.flatMap eO.bytes=m.flatMap eO.bytes:=by rw[Qp,Qp,Mj (λs t a=>O7 a) h]
 simp[fW,h.1,e]
def yb.d(t:yb):eO:=⟨t.tag,.slice none 0 0,t.ins,.slice none 0 0,t.outs⟩
def mG(b:np):Bool:=dL (mk b.parent) b.bits b.bT (b.cX.map yb.d)
def uw(b:np):List UInt8:=fW (mk b.parent) b.bits b.bT (b.cX.map yb.d)
def adC(ds b)(h:ds.map eO.m=b):Dp ds (b.map yb.d):=by subst h;refine⟨S8,λi s t c a=>?_⟩;rw[pz,cP,c]at a;simp at a;subst a;exact⟨rfl,rfl,rfl⟩
def dA.keep{B w w' v l}(h:dA B w v l)(a:Below w w w'):dA B w' v l:=by
 have key:∀{e:TypeId} {size n:Nat} {u:Value} {c:List Value},w.ownsRow B e size u n c->w'.ownsRow B e size u n c:=λg=>g.kept (row:=none) ⟨a.os,a.tape,a.output,a.size,λk f _=>a.block k f⟩ (by cases Value.ownBlock _<;>simp)
 exact⟨key h.own,λd b=>⟨key (h.ins d b).1,(h.ins d b).2⟩,λd b=>⟨key (h.outs d b).1,(h.outs d b).2⟩⟩
def vh(h:Int)(c:UInt8):Int:=IntKind.u64.wrap (bits .xor .u64 h (c.toNat:Int)*1099511628211)
def hN(l:List UInt8):Int:=l.foldl vh 14695981039346656037
def aa3(a b:Nat)(c:a<18446744073709551616)(d:b<18446744073709551616):bits .xor .u64 (a:Int) (b:Int)=((a^^^b:Nat):Int):=by have e:=Nat.xor_lt_two_pow (n:=64) c d;show IntKind.u64.wrap ((BitVec.ofInt 64 (a:Int)^^^BitVec.ofInt 64 (b:Int)).toNat:Int)=_;rw[BitVec.toNat_xor,ofInt_u64 a c,ofInt_u64 b d,IntKind.wrap_u64];omega
def Yc(h c):0<=vh h c/\vh h c<18446744073709551616:=by unfold vh;rw[IntKind.wrap_u64];omega
def ET(l):0<=hN l/\hN l<18446744073709551616:=by
 have:∀(l:List UInt8) (a:Int),0<=a/\a<18446744073709551616->0<=l.foldl vh a/\l.foldl vh a<18446744073709551616:=by intro l;induction l with
  |nil=>intro a h;exact h
  |cons c l b=>intro a _;exact b _ (Yc a c)
 exact this l _ O9
def Rc(l c):hN (l++[c])=vh (hN l) c:=by simp[hN]
def rQ(l w)(n:l.length<=1000000):Calls Vp 102 #[(mk l)] w λe w'=>e=.returned (.int .u64 (hN l))/\w'=w:=by
 have o:=dK l;go_enter fA Tryz.func102,Tryz.ntmps102;go_wp2;go_loop [3,7] (λh i=>∃k:Nat,k<=l.length/\i=↑k/\h=.int .u64 (hN (l.take k))) (λ_ i=>l.length -(intOf i).toNat);case atStart=>exact⟨0,fE _,rfl,rfl⟩
 case round=>
  obtain⟨k,j,rfl,rfl⟩:=hrel;by_cases a:k<l.length
  .have d:=pF l k (k:Int) rfl a;have f:l.take (k+1)=l.take k++[l[k]]:=by rw[xN a]
   have b:Hid (hN (l.take (k+1))=vh (hN (l.take k)) (l.getD k 0)):=by unfold Hid;rw[f,Rc];simp[a]
   have g:=(l.getD k 0).toNat_lt;generalize l.getD k 0=c at d b g;go_wp2;go_round;case rel=>exact⟨k+1,O9,by go_num,by rw[b.out];rfl⟩
   case measure=>simp[intOf];omega
  .have m:k=l.length:=O9;go_wp2;go_ret;exact⟨rfl,rfl⟩
def Ph(n):∀m k,k<m->(be n m)[k]?=some (byteOf (n/2^(8*(m -1 -k))%256))
 |m+1,0,_=>by simp[be]
 |m+1,k+1,h=>by have:=Ph n m k O9;simp only[be,px,this];rw[show m+1 -1 -(k+1)=m -1 -k from by omega]
def Pj(n k y rest)(b:k<8):(bv ((be n 8).take k)++(y::rest)).set k (.int .u8 (n/2^(56 -8*k)%256))=bv ((be n 8).take (k+1))++rest:=by
 have a:=Ph n 8 k b;have c:(bv ((be n 8).take k)).length=k:=by rw[qg,jH,bS];omega
 rw[uS _ _ O9,c,DI,a,show 8*(8 -1 -k)=56 -8*k from by omega];have d:((byteOf (n/2^(56 -8*k)%256)).toNat:Int)=n/2^(56 -8*k)%256:=dZ _ (Qm _ O9) (Qn _ O9);simp[bv,d]
def pO(n w)(_h0:0<=n)(_h1:n<18446744073709551616):Calls Vp 122 #[.int .u64 n] w λe w'=>e=.returned (mk (be n 8))/\Below w w w':=by
 go_enter fA Tryz.func122,Tryz.ntmps122;go_wp2;go_loopw [5] (λi wr=>∃(k:Nat) (rest:List Value),k<=8/\i=k/\Row wr w 243 (bv ((be n 8).take k)++rest)/\rest.length=8 -k/\Below w w wr) (λi _=>8 -(intOf i).toNat);case atStart=>exact⟨0,[.int .u8 0,.int .u8 0,.int .u8 0,.int .u8 0,.int .u8 0,.int .u8 0,.int .u8 0,.int .u8 0],fE _,rfl,aW w _ _,rfl,B0.alloc L9 _⟩
 case round=>
  obtain⟨k,rest,p,rfl,R,a,d⟩:=hrel;by_cases l:k<8;.match rest,a with
   |[],a=>simp at a;omega
   |y::rest,a=>
     have h:(bv ((be n 8).take k)).length=k:=by rw[qg,jH,bS];omega
     have c0:wr.cell? ((w:Nat),k)=some y:=by rw[R.cell,eD O9,h,sP];rfl
     have f0:=R.frozen k;have c:=R.set k (.int .u8 (n/2^(56 -8*k)%256));rw[Pj n k y rest l]at c;replace a:=aL a;go_wp2;go_roundw;case rel=>exact⟨k+1,rest,O9,by go_num,c,by have:=a.out;simp only[fF]at this;omega,d.setCell L9 _⟩
     case measure=>simp[intOf];omega
  .have m:rest=[]:=oG O9;subst m;rw[oM,Qq (by rw[bS];omega)]at R;have f:=bS n 8;generalize b:be n 8=q at R f;replace b:=aL b;have o:(convert 127 9 (.slice w.heap.size 8 8)).run Vp wr=.ok (mk q) wr:=by have:=run_convert_bytes_back (P:=Vp) wr 127 9 5 ((w:Nat),0) 8 q aI.underlying127 aI.underlying5 aI.underlying9 (λj g=>by rw[add0,R.cell];simp[bv,g]);rw[f]at this;exact this
   go_wp2;go_ret;exact⟨by rw[b.out];rfl,d⟩
def z7(l w)(d:l.length<=1000000):Calls Vp 89 #[(mk l)] w λe w'=>e=.returned (.string (mk (be (hN l) 8)))/\Below w w w':=by
 have b:=ET l;go_enter fA Tryz.func89,Tryz.ntmps89;go_wp2;refine(rQ l _ d).m0 ?_;go_wp2;refine(pO (hN l) _ b.1 b.2).m1 λw2 c=>?_;generalize a:mk (be (hN l) 8)=q;replace a:=aL a;go_wp2;go_ret;exact⟨by rw[a.out];rfl,c⟩
end
def cZ{B w w'}(h:Below B w w'):Below B w w'.drew:=⟨h.os,h.tape,h.output,h.size,h.block⟩
def YG{w w' r C}(h:w.grownBy w' r)(b:C<=↑w)(a:∀k,r=some k->C<=k):Below C w w':=⟨h.os,h.tape,h.output,h.size,λi hi=>h.block i O9 (λe=>by have:=a i e.symm;omega)⟩
structure HY(p:Prop):Prop where
 out:p
end Go.Proofs.aH
