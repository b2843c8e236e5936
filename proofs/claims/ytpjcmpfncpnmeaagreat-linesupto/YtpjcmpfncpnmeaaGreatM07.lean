import Derived.Lib.QuietBelow
import Derived.Deep.RegionWith
import Derived.Laws.CopyRow
import Derived.Lib.ConvBytes
import Derived.Laws.BitsAllLaws
import Derived.Deep.RegionHeld3
import Derived.Test.YtpjcmpfncpnmeaaGreatM03
set_option linter.all false
set_option maxHeartbeats 1000000
set_option maxRecDepth 100000
namespace Go.Proofs.aH
open Go.RowKit
section
variable[Go.Proofs.VB]
def aI.mixed:Vp.follows .mixedOrders=true:=K8
def nO:=@aI.mixed
def My(b:Bool)(s:ByteArray):ByteArray:=if b then⟨#[]⟩else s
def Kr(b s)(h:s.size<=32):(My b s).size<=32:=by cases b;exact h;show(ByteArray.mk #[]).size<=32;exact cH _
def gU(b:Bool)(x:jB):List UInt8:=gL x.tx++be x.idx 1++(be (My b x.key).size 1++gL (My b x.key))
def kJ(b:Bool)(t:Int)(i:List jB)(o:List dD):List UInt8:=be t 2++be i.length 1++i.flatMap (gU b)++be o.length 1++o.flatMap dD.bytes
def Bx(B x)(h:x.Small):(gU B x).length<=42:=by have⟨b,_,a,_⟩:=h;have:=Kr B x.key a;simp[gU,bI,dF];omega
def vZ{P:Program}{w:World}{o C a}{R:Act->World->Prop}(h:∀b,Below w.heap.size w b->R a b):wpQuiet P o C (λc=>∀W,(∃p:Regrown,W=Go.Sort.grow (redrawn w p.d) p.os)->R c W) [] a:=λ_⟨p,e⟩=>e▸h _ (below_regrown w p.d p.os)
def ku.acj(s t:ku):Prop:=s.tag=t.tag/\s.ins=t.ins/\s.outs=t.outs
def EZ(l m:List ku):Prop:=l.length=m.length/\∀(i:Nat)(s t:ku),l[i]?=some s->m[i]?=some t->s.acj t
end
section
def aeb:=@Below.heap_alloc
variable[Go.Proofs.VB]
def Row(w:World)(g:Nat)(t:TypeId)(c:List Value):Prop:=w.heap[g]?=some (.cells c.toArray t (0,0))
theorem Row.lt{w g t c}(h:Row w g t c):g<w:=(eD.1 h).1
def yX:=@Row.lt
def Row.keep{w W g B t c}(h:Row w g t c)(a:Below B w W)(b:g<B):Row W g t c:=(a.block g b).trans h
def PK:=@Row.keep
theorem Row.cell{w g t c}(h:Row w g t c)(j):w.cell? ⟨g,j,none⟩=c[j]?:=by simp only[World.cell?,show w.heap[g]?=some (.cells c.toArray t (0,0))from h];simp
def pZ:=@Row.cell
theorem Row.r{w g t c x}(h:Row w g t c)(k)(e:c[k]?=some x:=by rfl):w.cell? ⟨g,k,none⟩=some x:=(h.cell k).trans e
def Row.p2{w g t a b l}(h:Row w g t (a::b::l)):w.cell? (g,0)=some a/\w.cell? (g,1)=some b:=⟨h.r 0,h.r 1⟩
def Row.p3{w g t a b c l}(h:Row w g t (a::b::c::l)):w.cell? (g,0)=some a/\w.cell? (g,1)=some b/\w.cell? (g,2)=some c:=⟨h.r 0,h.r 1,h.r 2⟩
def Row.p4{w g t a b c d l}(h:Row w g t (a::b::c::d::l)):w.cell? (g,0)=some a/\w.cell? (g,1)=some b/\w.cell? (g,2)=some c/\w.cell? (g,3)=some d:=⟨h.r 0,h.r 1,h.r 2,h.r 3⟩
def Row.p5{w g t a b c d e l}(h:Row w g t (a::b::c::d::e::l)):w.cell? (g,0)=some a/\w.cell? (g,1)=some b/\w.cell? (g,2)=some c/\w.cell? (g,3)=some d/\w.cell? (g,4)=some e:=⟨h.r 0,h.r 1,h.r 2,h.r 3,h.r 4⟩
def Row.p6{w g t a b c d e f l}(h:Row w g t (a::b::c::d::e::f::l)):w.cell? (g,0)=some a/\w.cell? (g,1)=some b/\w.cell? (g,2)=some c/\w.cell? (g,3)=some d/\w.cell? (g,4)=some e/\w.cell? (g,5)=some f:=⟨h.r 0,h.r 1,h.r 2,h.r 3,h.r 4,h.r 5⟩
def Row.p10{w g t a b c d e f i j k m l}(h:Row w g t (a::b::c::d::e::f::i::j::k::m::l)):w.cell? (g,0)=some a/\w.cell? (g,1)=some b/\w.cell? (g,2)=some c/\w.cell? (g,3)=some d/\w.cell? (g,4)=some e/\w.cell? (g,5)=some f/\w.cell? (g,6)=some i/\w.cell? (g,7)=some j/\w.cell? (g,8)=some k/\w.cell? (g,9)=some m:=⟨h.r 0,h.r 1,h.r 2,h.r 3,h.r 4,h.r 5,h.r 6,h.r 7,h.r 8,h.r 9⟩
def Row.frozen{w g t c}(h:Row w g t c)(j):w.frozen? ⟨g,j,none⟩=false:=by simp only[World.frozen?,show w.heap[g]?=some (.cells c.toArray t (0,0))from h];simp
def Kv:=@Row.frozen
def Row.set{w g t c}(h:Row w g t c)(j v):Row (w.setCell (g,j) v) g t (c.set j v):=by unfold Row;rw[setCell_eq_setRow w g j c.toArray t (0,0) v h,setRow_heap w g _ _ t (0,0) h];simp
def Row.new(w:World)(c t):Row (w.alloc<|.cells c.toArray t) w t c:=wF w _
def aX:=@Row.new
def Row.alloc{w g t cs}(h:Row w g t cs)(o):Row (w.alloc o) g t cs:=(aeb w o g h.lt).trans h
def Row.three{w g t c}(h:Row w g t c)(n)(a:n+3<=c.length):(∃u,w.cell? (g,n)=some u)/\(∃u,w.cell? (g,n+1)=some u)/\(∃u,w.cell? (g,n+2)=some u)/\
 w.frozen? (g,n)=false/\w.frozen? (g,n+1)=false/\w.frozen? (g,n+2)=false:=by
 refine⟨?_,?_,?_,h.frozen _,h.frozen _,h.frozen _⟩<;>rw[h.cell]<;>exact⟨_,aY O9⟩
def Row.two{w g t c}(h:Row w g t c)(n)(a:n+2<=c.length):(∃u,w.cell? (g,n)=some u)/\(∃u,w.cell? (g,n+1)=some u)/\
 w.frozen? (g,n)=false/\w.frozen? (g,n+1)=false:=by
 refine⟨?_,?_,h.frozen _,h.frozen _⟩<;>rw[h.cell]<;>exact⟨_,aY O9⟩
def ZI{a b:World}(c:a.heap=b.heap)(d:a.tape=b.tape)(e:a.drawn=b.drawn)(f:a.os=b.os)(g:a.output=b.output):a=b:=by cases a;cases b;simp_all
def HV(w:World)(a b t):(w.alloc<|.cells a t).setRow w b=w.alloc (.cells b t):=by refine ZI ?_ rfl rfl rfl rfl;apply zW;intro i;by_cases h:i=(w:Nat);subst h;rw[setRow_heap _ _ a b t (0,0)<|wF w _,wF];rw[setRow_other _ _ _ _ h];by_cases c:i<(w:Nat);rw[aeb w _ i c,aeb w _ i c];rw[Nh (by simp;omega),Nh<|by simp;omega]
def jB.cells(x:jB):List Value:=[.string x.tx,.int .i64 x.idx,.string x.key]
def dD.cells(x:dD):List Value:=[.int .i64 x.val,.string x.lock]
def og(l:List jB):List Value:=l.flatMap jB.cells
def kv(l:List dD):List Value:=l.flatMap dD.cells
def sw(l):(og l)=l.length*3:=by induction l with
 |nil=>rfl
 |cons x l a=>simp only[og,yD,cB]at*;simp only[jB.cells,cQ,pN];omega
def BQ(l):(kv l)=l.length*2:=by induction l with
 |nil=>rfl
 |cons x l a=>simp only[kv,yD,cB]at*;simp only[dD.cells,cQ,pN];omega
def BJ:∀l i x,l[i]?=some x->(og l)[i*3]?=some x.tx/\(og l)[i*3+1]?=some (.int .i64 x.idx)/\(og l)[i*3+2]?=some (.string x.key)
 |[],i,x,h=>by simp at h
 |y::l,0,x,h=>by simp at h;subst h;exact⟨rfl,rfl,rfl⟩
 |y::l,i+1,x,h=>by have:=BJ l i x (by simpa using h);have e:og (y::l)=y.cells++og l:=rfl;rw[e];simp[show(i+1)*3=3+i*3 from by omega,show 3+i*3+1=3+(i*3+1)from by omega,show 3+i*3+2=3+(i*3+2)from by omega];have a:y.cells.length=3:=rfl;rw[cZ O9,cZ O9,cZ O9];simpa[a]using this
def yg:∀l i x,l[i]?=some x->(kv l)[i*2]?=some x.val/\(kv l)[i*2+1]?=some (.string x.lock)
 |[],i,x,h=>by simp at h
 |y::l,0,x,h=>by simp at h;subst h;exact⟨rfl,rfl⟩
 |y::l,i+1,x,h=>by have:=yg l i x (by simpa using h);have e:kv (y::l)=y.cells++kv l:=rfl;rw[e];simp[show(i+1)*2=2+i*2 from by omega,show 2+i*2+1=2+(i*2+1)from by omega];have a:y.cells.length=2:=rfl;rw[cZ O9,cZ O9];simpa[a]using this
def vd{a:Type}{l m:List a}{i:Nat}{x}(h:l[i]?=some x):(l++m)[i]?=some x:=by grind
def Ki{w g t l rest c}(h:Row w g t (og l++rest))(b:l.length<=140737488355328):uk w (.slice g l c) l:=⟨⟨_,_,rfl,λ_=>⟨g,0,rfl,λi x d=>by have⟨e,f,a⟩:=BJ l i x d;refine⟨?_,?_,?_⟩<;>rw[h.cell,mj];grind;grind;exact vd a⟩⟩,b⟩
def Hr{w g t l rest c}(h:Row w g t (kv l++rest))(b:l.length<=140737488355328):mg w (.slice g l c) l:=⟨⟨_,_,rfl,λ_=>⟨g,0,rfl,λi x d=>by have⟨e,a⟩:=yg l i x d;refine⟨?_,?_⟩<;>rw[h.cell,mj];grind;exact vd a⟩⟩,b⟩
end
open Tryz
section
variable[Go.Proofs.VB]
structure RS where
 l:List UInt8
 bad:Bool
def uB(w:World)(R:Nat)(r:RS):Prop:=Row w R 224 [.string<|mk r.l,r.bad]
structure vB(w w':World)(rb:Nat)(r:RS):Prop where
 at_:uB w' rb r
 grown:w.grownBy w' (some rb)
def vB.trans{a b c R r s}(h:vB a b R r)(k:vB b c R s):vB a c R s:=⟨k.at_,h.grown.trans k.grown⟩
def vB.below{a b c R r}(h:vB a b R r)(d:Below b b c):vB a c R r:=⟨PK h.at_ d<|yX h.at_,h.grown.trans ⟨d.os,d.tape,d.output,d.size,λk e _=>d.block k e⟩⟩
def RS.take(r:RS)(n:Nat):List UInt8×RS:=if r.bad||decide (r.l.length<n)then([],⟨r.l,true⟩)else(r.l.take n,⟨r.l.drop n,false⟩)
def MS(l n):(mk l).extract 0 n=mk (l.take n):=by apply UM;simp[mk]
def MT(l n):(mk l).extract n l=mk (l.drop n):=by apply UM;simp[mk];exact Dv S8
def MU{w R r}(h:uB w R r)(s j v)(e:[Value.string<|mk r.l,Value.bool r.bad].set j v=[↑(mk s.l),s.bad]):vB w (w.setCell (R,j) v) R s:=by refine⟨?_,?_⟩;have:=Row.set h j v;rw[e]at this;exact this;refine⟨rfl,rfl,rfl,?_,λk _ a=>?_⟩;simp;exact Below.heap_setCell w (R,j) v k (show k≠R fromλe=>a<|by rw[e])
def Qj(R r)(n:Nat)(w)(a:uB w R r)(f:n<=1000):Cv 192 #[.pointer R,n] w λe W=>e=.returned (mk (r.take n).1)/\vB w W R (r.take n).2:=by
 have H:=pZ a 0;have d:=pZ a 1;have F:=Kv a 0;have h:=Kv a 1;have g:=cD r.l;cases b:r.bad;case true=>
  rw[b]at d;go_enter fA func192,ntmps192;go_wp2;go_ret;have e:r.take n=([],⟨r.l,true⟩):=by simp[RS.take,b]
  rw[e];exact⟨rfl,MU a _ 1 _ rfl⟩
 rw[b]at d;by_cases c:(mk r.l).size<n
 .go_enter fA func192,ntmps192;go_wp2;go_ret;have e:r.take n=([],⟨r.l,true⟩):=by rw[cD]at c;simp[RS.take,c]
  rw[e];exact⟨rfl,MU a _ 1 _ rfl⟩
 go_enter fA func192,ntmps192;go_wp2;go_ret;have e:r.take n=(r.l.take n,⟨r.l.drop n,false⟩):=by rw[cD]at c;simp[RS.take,b,c]
 rw[e];refine⟨congrArg (λs=>Ending.returned<|.string s)<|MS r.l n,?_⟩;rw[MT];exact MU a _ 0 _ (by simp[b])
def Zz(n:Nat):List Value:=(madeCells #[.int .u8 0] (n*1)).toList
def WO(n):(Zz n)=n:=by unfold Zz;rw[Array.length_toList,size_madeCells];omega
def akk(n:Nat)(h:n<=1000000)(w):(Instr.makeSlice 158 (n:Int) (n:Int)).run Vp w=.ok (.slice (w:Nat) n n) (w.alloc<|.cells (Zz n).toArray 5):=by have⟨d,H,a,b,c⟩:=info_parts OU;have:=wC (P:=Vp) w 158 5 d _ aI.underlying158 H a .i64 .i64 (n:Int) (n:Int) O9 (lC _) (by rw[c];omega) O9;rw[this,b];simp[Zz,Value.cells]
def akl(w:World)(l t):(Builtin.copy_ #[158,9] t #[.slice (w:Nat) l.length l.length,(mk l)]).run Vp (w.alloc<|.cells (Zz l).toArray 5)=.ok l (w.alloc<|.cells (bv l).toArray 5):=by
 have⟨i,H,f,d,g⟩:=info_parts OU;have a:=aaz Vp w 0 5 (bv l) 0 (Zz l).toArray (w.alloc<|.cells (Zz l).toArray 5) (wF w _) (by simp[qH,WO])<|GK l;simp at a;rw[HV,show(Zz l.length).drop (bv l).length=[]from by rw[List.drop_eq_nil_iff,WO,qH];exact L9,kY]at a;have b:(Builtin.firstCells 1 l<|mk l).run Vp (w.alloc<|.cells (Zz l).toArray 5)=.ok (bv l).toArray (w.alloc<|.cells (Zz l).toArray 5):=(Go.Lib.run_firstCells_string (P:=Vp) (w.alloc<|.cells (Zz l).toArray 5) 1<|mk l)
 have c:(Builtin.lenOf<|mk l).run Vp (w.alloc<|.cells (Zz l).toArray 5)=.ok l (w.alloc<|.cells (Zz l).toArray 5):=by simp[Builtin.lenOf,cD]
 simp[Builtin.copy_,typeInfo,H,d,c,b,a,goInt]
def aI.ad4:Vp.cellsOf 5=1:=K8
def MV(w g n){B a}(h:Below B a w)(b:B<=g):Below B a (w.freeze (g,0) n):=by unfold World.freeze;split;exact h;refine h.trans ⟨rfl,rfl,rfl,S8,λk c=>?_⟩;simp only[Jd];rw[aJ<|by show¬g=k;omega]
def ZA(l w)(c:l.length<=1000000):Cv 214 #[(mk l)] w λe W=>e=.returned (mk l)/\Below w w W:=by
 have i:=cD l;by_cases H:l=[];.subst H;go_enter fA func214,ntmps214;go_wp2;go_ret;exact⟨rfl,B0⟩
 have d:0<l.length:=by obtain _|⟨a,l⟩:=l;simp_all;simp
 have g:=akk l c;have f:=akl w l;have h:=Go.Lib.run_unsafeString_row (P:=Vp) (w.alloc<|.cells (bv l).toArray 5) 329 3 9 5 aI.underlying329 aI.ad4 ↑w l (by simp only[World.shape?,wF];simp[qH]) l H L9 O9 (λj x b=>by
    have e:(((w:Nat),0):Addr).add j=((w:Nat),j):=by unfold Addr.add;split<;>simp_all
    rw[e];simp[bv,b])
 go_enter fA func214,ntmps214;go_wp2;go_ret;exact⟨rfl,MV _ _ _ (B0.alloc L9 _) L9⟩
def TM(l w)(b:l.length<=1000000):Cv 191 #[(mk l)] w λe W=>e=.returned (mk l)/\Below w w W:=by
 go_enter fA func191,ntmps191;go_wp2;refine(ZA l w b).m1 λW a=>?_;go_wp2;go_ret;exact⟨rfl,a⟩
def take_len(r:RS)(n):(r.take n).1.length<=n:=by unfold RS.take;split;simp;simp_all
def HX(R r)(n:Nat)(w)(d:uB w R r)(c:n<=1000):Cv 155 #[.pointer R,n] w λe W=>e=.returned (mk (r.take n).1)/\vB w W R (r.take n).2:=by
 go_enter fA func155,ntmps155;go_wp2;refine(Qj R r n w d c).m1 λf a=>?_;go_wp2;refine(TM (r.take n).1 f<|by have:=take_len r n;omega).m1 λg b=>?_;go_wp2;go_ret;exact⟨rfl,a.below b⟩
def dV(t:List UInt8):Int:=t.foldl (λn c=>n*256+(c.toNat:Int)) 0
def qX(t c):dV (t++[c])=dV t*256+(c.toNat:Int):=by simp[dV]
def KY:∀(t:List UInt8)(a:Int),0<=a->0<=t.foldl (λn c=>n*256+(c.toNat:Int)) a/\t.foldl (λn c=>n*256+(c.toNat:Int)) a<(a+1)*256^t.length
 |[],a,h=>by simp;omega
 |c::t,a,h=>by have f:=c.toNat_lt;have⟨b,d⟩:=KY t (a*256+(c.toNat:Int)) O9;refine⟨b,Dq d ?_⟩;rw[cQ,Int.pow_succ];have e:(0:Int)<256^t.length:=UL D9;rw[show(a+1)*(256^t.length*256)=(a+1)*256*256^t.length from by rw[Int.mul_assoc,Int.mul_comm 256]];exact Int.mul_le_mul_of_nonneg_right O9<|UK e
def GM(t):0<=dV t/\dV t<256^t.length:=by have:=KY t 0 O9;simpa[dV]using this
def Qm(t)(h:t.length<=4):0<=dV t/\dV t<4294967296:=by have⟨a,b⟩:=GM t;refine⟨a,Dq b ?_⟩;have c:t.length=0\/t.length=1\/t.length=2\/t.length=3\/t.length=4:=O9;obtain e|e|e|e|e:=c<;>rw[e]<;>decide
def agh(w t):∃c W,(convert 9 158<|mk t).run Vp w=.ok (.slice (w:Nat) t c) W/\Below w w W/\∀j(a:j<t.length),W.cell? ((w:Nat),j)=some (.int .u8 (t[j].toNat:Int)):=by
 refine⟨_,_,(Go.Lib.run_convert_string_bytes (P:=Vp) w 9 158 5 (mk t) aI.underlying9 aI.underlying158 aI.underlying5),?_,λj a=>?_⟩;refine⟨rfl,rfl,rfl,by rw[Go.Lib.bytesWorld_size];omega,λk b=>Go.Lib.bytesWorld_at_old w _ _ k b⟩;rw[Go.Lib.bytesWorld_cell _ _ _ _<|by rw[cD];exact a];simp[mk,a]
def agi(a)(b:Nat)(h:0<=a)(e:a<4294967296)(c:b<256):bits .or .i64 (a*256) (b:Int)=a*256+(b:Int):=by obtain⟨n,rfl⟩:=rL h;have d:n*256<18446744073709551616:=O9;have f:=nat_join8 (n*256) b O9 c;show IntKind.i64.wrap ((BitVec.ofInt 64 ((n:Int)*256)|||BitVec.ofInt 64 (b:Int)).toNat:Int)=_;rw[BitVec.toNat_or,show((n:Int)*256)=((n*256:Nat):Int)from by simp,ofInt_u64 (n*256) d,ofInt_u64 b O9,jP];omega
def RS.fail(r:RS):RS:=⟨r.l,true⟩
def RS.number(r:RS)(w:Nat)(l h:Int):Int×RS:=let t:=r.take w;let n:=dV t.1;if pV n l h then(if t.2.bad then(0,t.2)else(n,t.2))else(0,t.2.fail)
def HZ(C r)(W:Nat)(L B w)(p:uB w C r)(y:W<=4):Cv 156 #[.pointer C,W,.int .i64 L,.int .i64 B] w λe E=>e=.returned ((r.number W L B).1)/\vB w E C (r.number W L B).2:=by
 go_enter fA func156,ntmps156;go_wp2;refine(Qj C r W w p O9).m1 λF h=>?_;have s:=take_len r W;have H:Hid (r.number W L B=if pV (dV (r.take W).1) L B then(if(r.take W).2.bad then(0,(r.take W).2)else(dV (r.take W).1,(r.take W).2))else(0,(r.take W).2.fail)):=rfl;generalize(r.take W).1=t at s H|-;generalize(r.take W).2=R at h H|-;have⟨c,I,v,m,f⟩:=agh F t;have a:=h.below m;go_wp2;go_loop [9,17] (λn i=>∃k,k<=t.length/\i=k/\n=(dV<|t.take k)) (λ_ i=>t -(intOf i).toNat);exact⟨0,cH _,rfl,rfl⟩;case round=>
  obtain⟨k,x,rfl,rfl⟩:=hrel;have d:=Qm (t.take k) (by simp;omega);by_cases j:k<t
  .have u:=(aK f).out k j;have l:t.take (k+1)=t.take k++[t[k]]:=by rw[rN j]
   have q:Hid (dV (t.take<|k+1)=dV (t.take k)*256+(t[k].toNat:Int)):=by unfold Hid;rw[l];exact qX _ _
   clear l;have z:=t[k].toNat_lt;go_wp2;go_round;exact⟨k+1,O9,by go_num,by rw[q.out,agi _ _ d.1 d.2 O9]⟩;simp[intOf];omega
  have o:k=t:=O9;subst o;rw[gQ]at d|-;have D:=pZ a.at_ 1;have G:=Kv a.at_ 1;go_wp2;refine(SV _ _ _ _).m0 ?_;cases g:pV (dV t) L B
  .go_wp2;go_ret;have e:r.number W L B=(0,R.fail):=by rw[H.out,g];rfl
   rw[e];exact⟨rfl,a.trans<|MU a.at_ R.fail 1 _ rfl⟩
  cases b:R.bad
  .rw[b]at D;go_wp2;go_ret;have e:r.number W L B=(dV t,R):=by rw[H.out,g,b];rfl
   rw[e];exact⟨rfl,a⟩
  rw[b]at D;go_wp2;go_ret;have e:r.number W L B=(0,R):=by rw[H.out,g,b];rfl
  rw[e];exact⟨rfl,a⟩
def RS.code(r:RS):List UInt8×RS:=let n:=r.number 1 0 32;n.2.take n.1.toNat
def ym(r:RS)(w l H)(b:0<=H)(a:0<=l):0<=(r.number w l H).1/\(r.number w l H).1<=H:=by unfold RS.number;dsimp only;split;rename_i h;simp[pV]at h;split;omega;omega;omega
def Ql(R r w)(g:uB w R r):Cv 215 #[.pointer R] w λe W=>e=.returned (mk r.code.1)/\vB w W R r.code.2:=by
 go_enter fA func215,ntmps215;go_wp2;refine(HZ R r 1 0 32 w g O9).m1 λi a=>?_;have d:=ym r 1 0 32 O9 O9;have⟨n,f⟩:=rL d.1;have c:Hid (r.code=(r.number 1 0 32).2.take n):=by unfold Hid RS.code;dsimp only;rw[f];rfl
 generalize(r.number 1 0 32).2=h at a c|-;go_wp2;refine(HX R h n i a.at_ O9).m1 λj b=>?_;rw[<-c.out]at b|-;go_wp2;go_ret;exact⟨rfl,a.trans b⟩
end
section
def ak2:=@Array.length_toList
def ak3:=@size_madeCells
variable[Go.Proofs.VB]
def aI.ai1:(Vp.info? 139).map (λi=>(i.zero,i.size,i.bytes))=some (some<|.agg #[aB,aA,aB],3,40):=K8
def ahI:=@aI.ai1
def aI.agp:(Vp.info? 86).map (λi=>(i.zero,i.size,i.bytes))=some (some<|.agg #[aA,aB],2,24):=K8
def ahJ:=@aI.agp
def aI.ai2:(Vp.info? 90).map (λi=>(i.zero,i.size,i.bytes))=some (some<|.agg #[aA,(),()],3,56):=K8
def ahK:=@aI.ai2
def V2(n:Nat):List Value:=(madeCells #[aB,aA,aB] (n*3)).toList
def mdO(n:Nat):List Value:=(madeCells #[aA,aB] (n*2)).toList
def mdT(n:Nat):List Value:=(madeCells #[aA,.slice none 0 0,.slice none 0 0] (n*3)).toList
def V3(n):(V2 n)=n*3:=by unfold V2;rw[Array.length_toList,size_madeCells]
def agj(n):(mdO n)=n*2:=by unfold mdO;rw[Array.length_toList,size_madeCells]
def agf(n):(mdT n)=n*3:=by unfold mdT;rw[Array.length_toList,size_madeCells]
def Row.bF{w g t c}(h:Row w g t c)(a v)(b:g≠a.block):Row (w.setCell a v) g t c:=(Below.heap_setCell w a v g b).trans h
def G5{B a w}(h:Below B a w)(g c d e v V f)(b:B<=g):Below B a (((w.setCell ⟨g,c,none⟩ v).setCell ⟨g,d,none⟩ V).setCell ⟨g,e,none⟩ f):=
 ((h.setCell (p:=(g,c)) b v).setCell (p:=(g,d)) b V).setCell (p:=(g,e)) b f
def CL{w W:World}{r}(h:w.grownBy W r)(g)(a:r=some g\/w<=g)(o v):w.grownBy (W.setCell ⟨g,o,none⟩ v) r:=by
 refine⟨h.os,h.tape,h.output,?_,λk b c=>?_⟩;simp;exact h.size;rw[Below.heap_setCell W (g,o) v k (by show k≠g;obtain rfl|a:=a;simp_all;omega)]
 exact h.block k b c
end
section
variable[Go.Proofs.VB]
def vB.row{w W R r}(h:vB w W R r){g t c}(a:Row w g t c)(b:g≠R):Row W g t c:=(h.grown.block g a.lt<|by simpa using b).trans a
def uB.alloc{w R r}(h:uB w R r)(o):uB (w.alloc o) R r:=Row.alloc h o
theorem uB.lt{w R r}(h:uB w R r):R<w:=yX h
def uB.bF{w R r}(h:uB w R r)(a v)(b:R≠a.block):uB (w.setCell a v) R r:=(Below.heap_setCell w a v R b).trans h
def Ky{a w:World}{r}(h:a.grownBy w r)(p v)(d:↑a<=p.block):a.grownBy (w.setCell p v) r:=by refine⟨h.os,h.tape,h.output,?_,λk b c=>?_⟩;simp;exact h.size;rw[Below.heap_setCell w p v k O9];exact h.block k b c
def iQ{a w:World}{r}(h:a.grownBy w r)(o):a.grownBy (w.alloc o) r:=h.trans<|aaB w o r
structure Hd(w x:World)(rb:Nat)(R:TypeId×List Value)(L:List (Nat×TypeId×List Value)):Prop where
 g:w.grownBy x (some rb)
 a:Row x rb R.1 R.2
 h:∀(i:Nat)b t cs,L[i]?=some (b,t,cs)->Row x b t cs/\w.heap.size<=b/\b≠rb
 p:∀(i j:Nat)a b,L[i]?=some a->L[j]?=some b->i≠j->a.1≠b.1
def rdC(r:RS):TypeId×List Value:=(224,[.string<|mk r.l,r.bad])
def Hd.of{w R r}(h:uB w R r):Hd w w R (rdC r) []:=⟨bT _ _,h,λi b t c e=>by simp at e,λi j a b e=>by simp at e⟩
def Hd.row{w x r R L}(h:Hd w x r R L)(i:Nat){b t c}(e:L[i]?=some (b,t,c):=by rfl):Row x b t c:=(h.h i b t c e).1
theorem Hd.r{w x r R L}(h:Hd w x r R L)(i j:Nat){b t c v}(e:L[i]?=some (b,t,c):=by rfl)(f:c[j]?=some v:=by rfl):x.cell? ⟨b,j,none⟩=some v:=(h.row i e).r j f
def Hd.f{w x r R L}(h:Hd w x r R L)(i j:Nat){b t c}(e:L[i]?=some (b,t,c):=by rfl):x.frozen? ⟨b,j,none⟩=false:=(h.row i e).frozen j
def Hd.rd{w x y r R s L}(h:Hd w x r R L)(k:vB x y r s):Hd w y r (rdC s) L:=⟨h.g.trans k.grown,k.at_,λi b t c e=>⟨k.row (h.h i b t c e).1 (h.h i b t c e).2.2,(h.h i b t c e).2⟩,h.p⟩
def Hd.set{w x r R L}(h:Hd w x r R L)(i j:Nat)(v){b t C}(e:L[i]?=some (b,t,C):=by rfl):Hd w (x.setCell (b,j) v) r R (L.set i (b,t,C.set j v)):=by
 have⟨k,l,n⟩:=h.h i b t C e;have o:=(bK.1 e).1;refine⟨Ky h.g _ v l,h.a.bF _ v<|gP n,λq c u D f=>?_,λq m a c f d N=>?_⟩;by_cases H:i=q;subst H;rw[Aq o]at f;cases f;exact⟨k.set j v,l,n⟩;rw[ot H]at f;exact⟨(h.h q c u D f).1.bF _ v (h.p q i _ _ f e<|gP H),(h.h q c u D f).2⟩;have g:∀(q:Nat)a,(L.set i (b,t,C.set j v))[q]?=some a->∃A,L[q]?=some A/\A.1=a.1:=λq a f=>by by_cases H:i=q;subst H;rw[Aq o]at f;cases f;exact⟨_,e,rfl⟩;rw[ot H]at f;exact⟨_,f,rfl⟩
 have⟨A,F,y⟩:=g q a f;have⟨z,p,s⟩:=g m c d;rw[<-y,<-s];exact h.p q m _ _ F p N
def Hd.new{w x r R L}(h:Hd w x r R L)(c t n)(e:x.heap.size=n:=by simp[cR,World.setCell]):Hd w (x.alloc<|.cells c.toArray t) r R (L++[(n,t,c)]):=by
 subst e;have A:∀(i:Nat)b,(L++[(x.heap.size,t,c)])[i]?=some b->L[i]?=some b\/(i=L/\b=(x.heap.size,t,c)):=λi b f=>by by_cases q:i<L;rw[ko q]at f;exact .inl f;rw[cZ<|by omega]at f;rcases z:i -L with _|m;rw[z]at f;simp at f;exact .inr ⟨by omega,f.symm⟩;rw[z]at f;simp at f
 refine⟨iQ h.g _,h.a.alloc _,λi b u d f=>?_,λi j a b f k N=>?_⟩;obtain f|⟨_,f⟩:=A _ _ f;exact⟨(h.h _ _ _ _ f).1.alloc _,(h.h _ _ _ _ f).2⟩;cases f;exact⟨aX x c t,h.g.size,by have:=h.a.lt;omega⟩;obtain f|⟨F,f⟩:=A _ _ f<;>obtain k|⟨K,k⟩:=A _ _ k;exact h.p _ _ _ _ f k N;subst k;have:=(h.h i a.1 a.2.1 a.2.2 f).1.lt;show a.1≠x.heap.size;omega;subst f;have:=(h.h j b.1 b.2.1 b.2.2 k).1.lt;show x.heap.size≠b.1;omega;omega
def Hd.num{w x R r L}(h:Hd w x R (rdC r) L)(n:Nat)(l H:Int)(y:n<=4){Q}(k:∀z,Hd w z R (rdC (r.number n l H).2) L->Q (.returned<|.int .i64 (r.number n l H).1) z):Calls Vp 156 #[.pointer R,n,l,H] x Q:=(HZ R r n l H x h.a y).m1 λz F=>k z<|h.rd F
def Hd.drew{w x r R L}(h:Hd w x r R L):Hd w x.drew r R L:=⟨⟨h.g.os,h.g.tape,h.g.output,h.g.size,h.g.block⟩,h.a,h.h,h.p⟩
def zz(r:RS):jB×RS:=let a:=r.take 8;let b:=a.2.number 1 0 255;let c:=b.2.code;(⟨mk a.1,b.1,mk c.1⟩,c.2)
def sj(r:RS):dD×RS:=let b:=r.number 4 0 4294967295;let c:=b.2.code;(⟨b.1,mk c.1⟩,c.2)
def ad6(R r w)(n:uB w R r):Cv 193 #[.pointer R] w λe W=>e=.returned (.agg #[(zz r).1.tx,(zz r).1.idx,(zz r).1.key])/\vB w W R (zz r).2:=by
 go_enter fA func193,ntmps193;go_wp2;have h:=((Hd.of n).new [aB,aA,aB] 139 w).new [aB,aA,aB] 139<|(w:Nat)+1;refine(HX R r 8 _ h.a O9).m1 λg j=>?_;have h:=h.rd j;clear j;have H:Hid (zz r=(⟨mk (r.take 8).1,((r.take 8).2.number 1 0 255).1,mk ((r.take 8).2.number 1 0 255).2.code.1⟩,((r.take 8).2.number 1 0 255).2.code.2)):=rfl;generalize(r.take 8).1=f at H|-;generalize(r.take 8).2=b at H h|-;have c:=h.r 1 0;have F:=h.f 1 0;go_wp2;have h:=h.set 1 0<|mk f;generalize g.setCell _ _=A at h|-;refine h.num 1 0 255 O9 λk h=>?_;generalize(b.number 1 0 255).1=d at H|-;generalize(b.number 1 0 255).2=a at H h|-;have c:=h.r 1 1;have F:=h.f 1 1;go_wp2;have h:=h.set 1 1 d;generalize k.setCell _ _=B at h|-;refine(Ql R a _ h.a).m1 λi l=>?_;have h:=h.rd l;clear l c F;generalize a.code.1=s at H|-;generalize a.code.2=z at H h|-;have o:=h.r 0 0;have p:=h.r 0 1;have q:=h.r 0 2;have t:=h.f 0 0;have u:=h.f 0 1;have x:=h.f 0 2;have c:=h.r 1 0;have C:=h.r 1 1;have m:=h.r 1 2;have f2:=h.f 1 2;go_wp2;rw[H.out];have h:=(((h.set 1 2<|mk s).set 0 0<|mk f).set 0 1 d).set 0 2<|mk s;exact cY (v:=.agg #[(mk f),d,(mk s)]) (by simp[results,results193,go_sem,o,p,q]) rfl ⟨rfl,h.a,h.g⟩
def ZE(R r w)(k:uB w R r):Cv 194 #[.pointer R] w λe W=>e=.returned (.agg #[(sj r).1.val,(sj r).1.lock])/\vB w W R (sj r).2:=by
 go_enter fA func194,ntmps194;go_wp2;have h:=((Hd.of k).new [aA,aB] 86 w).new [aA,aB] 86<|(w:Nat)+1;refine h.num 4 0 4294967295 O9 λb h=>?_;have H:Hid (sj r=(⟨(r.number 4 0 4294967295).1,mk (r.number 4 0 4294967295).2.code.1⟩,(r.number 4 0 4294967295).2.code.2)):=rfl;generalize(r.number 4 0 4294967295).1=c at H|-;generalize(r.number 4 0 4294967295).2=a at H h|-;have C:=h.r 1 0;have f:=h.f 1 0;go_wp2;have h:=h.set 1 0 c;generalize b.setCell _ _=j at h|-;refine(Ql R a _ h.a).m1 λi l=>?_;have h:=h.rd l;clear l C f;generalize a.code.1=n at H|-;generalize a.code.2=g at H h|-;have l:=h.r 0 0;have m:=h.r 0 1;have o:=h.f 0 0;have p:=h.f 0 1;have C:=h.r 1 0;have d:=h.r 1 1;have F:=h.f 1 1;go_wp2;rw[H.out];have h:=((h.set 1 1<|mk n).set 0 0 c).set 0 1<|mk n;exact cY (v:=.agg #[c,(mk n)]) (by simp[results,results194,go_sem,l,m]) rfl ⟨rfl,h.a,h.g⟩
def lq:Nat->RS->List jB×RS
 |0,r=>([],r)
 |n+1,r=>((lq n r).1++[(zz (lq n r).2).1],(zz (lq n r).2).2)
def jK:Nat->RS->List dD×RS
 |0,r=>([],r)
 |n+1,r=>((jK n r).1++[(sj (jK n r).2).1],(sj (jK n r).2).2)
def KZ(n r):(lq n r).1.length=n:=by induction n with
 |zero=>rfl
 |succ n a=>simp[lq,a]
def H2(n r):(jK n r).1.length=n:=by induction n with
 |zero=>rfl
 |succ n a=>simp[jK,a]
structure Iz where
 tag:Int
 ins:List jB
 outs:List dD
def CP(r:RS)(first:Bool):Iz×RS:=let a:=r.number 2 0 65535;let b:=a.2.number 1 (SD first)<|M6 first;let c:=lq b.1.toNat b.2;let d:=c.2.number 1 1 8;let e:=jK d.1.toNat d.2;(⟨a.1,c.1,e.1⟩,e.2)
def acQ(n:Nat)(h:n<=1000)(w):(Instr.makeSlice 88 (n:Int) (n:Int)).run Vp w=.ok (.slice (w:Nat) n n) (w.alloc<|.cells (V2 n).toArray 139):=by have⟨d,H,a,b,c⟩:=info_parts ahI;have:=wC (P:=Vp) w 88 139 d _ aI.underlying88 H a .i64 .i64 (n:Int) (n:Int) O9 (lC _) (by rw[c];omega) O9;rw[this,b];simp[V2,Value.cells]
def aiZ(n:Nat)(h:n<=1000)(w):(Instr.makeSlice 87 (n:Int) (n:Int)).run Vp w=.ok (.slice (w:Nat) n n) (w.alloc<|.cells (mdO n).toArray 86):=by have⟨d,H,a,b,c⟩:=info_parts ahJ;have:=wC (P:=Vp) w 87 86 d _ aI.underlying87 H a .i64 .i64 (n:Int) (n:Int) O9 (lC _) (by rw[c];omega) O9;rw[this,b];simp[mdO,Value.cells]
def aiY(n:Nat)(h:n<=1000)(w):(Instr.makeSlice 91 (n:Int) (n:Int)).run Vp w=.ok (.slice (w:Nat) n n) (w.alloc<|.cells (mdT n).toArray 90):=by have⟨d,H,a,b,c⟩:=info_parts ahK;have:=wC (P:=Vp) w 91 90 d _ aI.underlying91 H a .i64 .i64 (n:Int) (n:Int) O9 (lC _) (by rw[c];omega) O9;rw[this,b];simp[mdT,Value.cells]
def CR(l d)(a b c:Value)(n)(f:l.length=n)(e:3<=d.length):(((l++d).set n a).set (n+1) b).set (n+2) c=l++[a,b,c]++d.drop 3:=by match d,e with
 |x::y::z::d,_=>subst f;simp[show l.length+1 -l.length=1 from by omega]
def ZF(l d)(a b:Value)(n)(e:l.length=n)(c:2<=d.length):((l++d).set n a).set (n+1) b=l++[a,b]++d.drop 2:=by match d,c with
 |x::y::d,_=>subst e;simp[show l.length+1 -l.length=1 from by omega]
def vo{w W:World}{r}(h:w.drew.grownBy W r):w.grownBy W r:=⟨h.os,h.tape,h.output,h.size,h.block⟩
def CS(l x):og (l++[x])=og l++[.string x.tx,.int .i64 x.idx,.string x.key]:=by simp[og,jB.cells]
def HT(l x):kv (l++[x])=kv l++[.int .i64 x.val,.string x.lock]:=by simp[kv,dD.cells]
structure akm(a w:World)(v:Value)(t:Iz)(gi go:Nat):Prop where
 val:v=.agg #[.int .i64 t.tag,(gi,t.ins,t.ins.length),(go,t.outs,t.outs.length)]
 lt:a.heap.size<=gi
 ne:gi<go
 ins:Row w gi 139 (og t.ins)
 outs:Row w go 86 (kv t.outs)
def ad5(f r first w)(O:uB w f r):Cv 157 #[.pointer f,.bool first] w λal d=>∃v G a,al=.returned v/\akm w d v (CP r first).1 G a/\vB w d f (CP r first).2:=by
 go_enter fA func157,ntmps157;go_wp2_with (go_at_call 187;refine(IX _ _).m0 ?_);have h:=((Hd.of O).new [aA,(),()] 90 w).new [aA,(),()] 90<|(w:Nat)+1;refine h.num 2 0 65535 O9 λw1 h=>?_;have H:Hid (∀b,b=(r.number 2 0 65535).2.number 1 (SD first) (M6 first)->CP r first=(⟨(r.number 2 0 65535).1,(lq b.1.toNat b.2).1,(jK ((lq b.1.toNat b.2).2.number 1 1 8).1.toNat ((lq b.1.toNat b.2).2.number 1 1 8).2).1⟩,(jK ((lq b.1.toNat b.2).2.number 1 1 8).1.toNat ((lq b.1.toNat b.2).2.number 1 1 8).2).2)):=by intro b S;subst S;rfl
 generalize(r.number 2 0 65535).1=o at H|-;generalize(r.number 2 0 65535).2=Y at H h|-;have c0:=h.r 1 0;have L:=h.f 1 0;go_wp2;have h:=h.set 1 0 o;generalize w1.setCell _ _=w2 at h|-;refine h.num 1 (SD first) (M6 first) O9 λA h=>?_;have D:=ym Y 1 (SD first) (M6 first) (by cases first<;>decide) (by cases first<;>decide);have⟨n,N⟩:=rL D.1;have ay:M6 first<=8:=by cases first<;>decide
 have H:=H.out _ rfl;rw[N]at D H;rw[N];rw[oq]at H;generalize(Y.number 1 (SD first)<|M6 first).2=c at H h|-;have H:=aK H;have ab:=acQ n O9;have C:=h.r 1 1;have F:=h.f 1 1;have ac:=(h.row 1).lt;go_wp2;have h:=(h.set 1 1<|.slice A.heap.size n n).new (V2 n) 139 A.heap.size;generalize(A.setCell _ _).alloc _=X at h|-;generalize A.heap.size=G at ac h|-;go_loopw [27] (λi B=>∃(k:Nat)(e:List Value),k<=n/\i=↑k/\e=(n -k)*3/\Hd w B f (rdC (lq k c).2) [(w,90,[↑aA,(),()]),((w:Nat)+1,90,[o,.slice G n n,()]),(G,139,og (lq k c).1++e)]) (λi _=>n -(intOf i).toNat);exact⟨0,V2 n,cH _,rfl,by rw[V3];rfl,h⟩;case round=>
  obtain⟨k,e,a2,rfl,z,h⟩:=hrel;have z:=aK z;by_cases a3:k<n
  .have u:Hid (lq (k+1) c=((lq k c).1++[(zz (lq k c).2).1],(zz (lq k c).2).2)):=rfl;have p:=KZ k c;generalize(lq k c).1=I at h u p;generalize(lq k c).2=t at h u;have p:=aK p;have t1:=h.r 1 1;have V:(0:Int)<=k:=O9;have W:(k:Int)<n:=O9;have ae:(w:Nat)+1≠G:=O9;have af:G≠(w:Nat)+1:=O9;go_wp2;go_region_held3 (λd=>d.cell? ((w:Nat)+1,1)=some (.slice G n n)) (first|go_keep|exact K.r 1 1) ((go_at_call 193;refine(ad6 f t _<|by exact h.a).m1 λd g=>?_;have K:=h.drew.rd g;obtain⟨⟨ai,ak⟩,⟨aj,ao⟩,⟨a8,a9⟩,L,F,f2⟩:=(K.row 2).three (k*3)<|by have:=z.out;have:=p.out;rw[cB,sw];omega))
   generalize(zz t).1=x at u|-;generalize(zz t).2=ah at u K;have K:=((K.set 2 (k*3) x.tx).set 2 (k*3+1) x.idx).set 2 (k*3+2) x.key;generalize((d.setCell _ _).setCell _ _).setCell _ _=E at K|-;go_wp2;go_roundw;exact⟨k+1,e.drop 3,O9,by go_num,by rw[rM,z.out];omega,by rw[u.out];show Hd _ _ _ _ [_,_,(_,_,og (I++[x])++_)];rw[CS,<-CR _ _ _ _ _ (k*3) (by rw[sw,p.out]) (by have:=z.out;omega)];exact K⟩;simp[intOf];omega
  have U:k=n:=O9;subst U;have K:=lW (by rw[z.out];omega);subst K;rw[kY]at h;have p:=KZ k c;generalize(lq k c).1=I at h H p;generalize(lq k c).2=π at h H;go_wp2;refine h.num 1 1 8 O9 λs h=>?_;have D:=ym π 1 1 8 O9 O9;have⟨m,J⟩:=rL D.1;rw[J]at D;have H:=H.out;rw[J,oq]at H;rw[J];generalize(π.number 1 1 8).2=l at H h|-;have H:=aK H;have ab:=aiZ m O9;have C:=h.r 1 2;have F:=h.f 1 2;have ad:=(h.row 2).lt;have aa:(w:Nat)+1<(s:Nat):=O9;go_wp2;have h:=(h.set 1 2<|.slice s.heap.size m m).new (mdO m) 86 s.heap.size;generalize(s.setCell _ _).alloc _=X at h|-;generalize s.heap.size=a at ad aa h|-;go_loopw [44] (λi B=>∃(j:Nat)(e:List Value),j<=m/\i=↑j/\e=(m -j)*2/\Hd w B f (rdC (jK j l).2) [(w,90,[↑aA,(),()]),((w:Nat)+1,90,[o,.slice G k k,.slice a m m]),(G,139,og I),(a,86,kv (jK j l).1++e)]) (λi _=>m -(intOf i).toNat);exact⟨0,mdO m,cH _,rfl,by rw[agj];rfl,h⟩;case round=>
   obtain⟨j,e,az,rfl,z,h⟩:=hrel;have z:=aK z;by_cases a0:j<m
   .have y:Hid (jK (j+1) l=((jK j l).1++[(sj (jK j l).2).1],(sj (jK j l).2).2)):=rfl;have q:=H2 j l;generalize(jK j l).1=M at h y q;generalize(jK j l).2=t at h y;have q:=aK q;have t1:=h.r 1 2;have V:(0:Int)<=j:=O9;have W:(j:Int)<m:=O9;have ae:(w:Nat)+1≠a:=O9;have af:a≠(w:Nat)+1:=O9;go_wp2;go_region_held3 (λd=>d.cell? ((w:Nat)+1,2)=some (.slice a m m)) (first|go_keep|exact K.r 1 2) ((go_at_call 194;refine(ZE f t _<|by exact h.a).m1 λd g=>?_;have K:=h.drew.rd g;obtain⟨⟨ai,ak⟩,⟨aj,ao⟩,L,F⟩:=(K.row 3).two (j*2)<|by have:=z.out;have:=q.out;rw[cB,BQ];omega))
    generalize(sj t).1=x at y|-;generalize(sj t).2=ah at y K;have K:=(K.set 3 (j*2) x.val).set 3 (j*2+1) x.lock;generalize(d.setCell _ _).setCell _ _=E at K|-;go_wp2;go_roundw;exact⟨j+1,e.drop 2,O9,by go_num,by rw[rM,z.out];omega,by rw[y.out];show Hd _ _ _ _ [_,_,_,(_,_,kv (M++[x])++_)];rw[HT,<-ZF _ _ _ _ (j*2) (by rw[BQ,q.out]) (by have:=z.out;omega)];exact K⟩;simp[intOf];omega
   have T:j=m:=O9;subst T;have K:=lW (by rw[z.out];omega);subst K;rw[kY]at h;have q:=H2 j l;have H:=H.out;generalize(jK j l).1=M at h H q;generalize(jK j l).2=a7 at h H;change Hid _ at H q;have P:=h.r 0 0;have Q:=h.r 0 1;have R:=h.r 0 2;have ar:=h.f 0 0;have au:=h.f 0 1;have av:=h.f 0 2;have c0:=h.r 1 0;have C:=h.r 1 1;have c2:=h.r 1 2;go_wp2;rw[H.out];have ag:(Value.agg #[o,.slice G k k,.slice a j j])=.agg #[o,.slice G I I,.slice a M M]:=by rw[(aK p).out,q.out]
   have h:=((h.set 0 0 o).set 0 1<|.slice G k k).set 0 2<|.slice a j j;exact cY (v:=.agg #[o,.slice G k k,.slice a j j]) (by simp[results,results157,go_sem,P,Q,R]) rfl ⟨_,G,a,rfl,⟨ag,O9,O9,h.row 2,h.row 3⟩,h.a,h.g⟩
end
section
def HY:=@Below.heap_setCell
variable[Go.Proofs.VB]
def nj:Nat->RS->List Iz×RS
 |0,r=>([],r)
 |n+1,r=>((nj n r).1++[(CP (nj n r).2<|(n:Int)==0).1],(CP (nj n r).2<|(n:Int)==0).2)
def ZB(n r):(nj n r).1.length=n:=by induction n with
 |zero=>rfl
 |succ n a=>simp[nj,a]
structure jL where
 parent:List UInt8
 bits:Int
 fX:Int
 eO:List Iz
def iL(r:RS):jL×RS:=let a:=r.take 8;let b:=a.2.number 1 0 8;let c:=b.2.number 2 0 65535;let d:=c.2.number 1 1 8;let e:=nj d.1.toNat d.2;(⟨a.1,b.1,c.1,e.1⟩,e.2)
structure vt where
 t:Iz
 gi:Nat
 go:Nat
def vt.cells(p:vt):List Value:=[.int .i64 p.t.tag,(p.gi,p.t.ins,p.t.ins.length),(p.go,p.t.outs,p.t.outs.length)]
def zF(l:List vt):List Value:=l.flatMap vt.cells
def Ep(l):(zF l)=l.length*3:=by induction l with
 |nil=>rfl
 |cons x l a=>simp only[zF,yD,cB]at*;simp only[vt.cells,cQ,pN];omega
def ZC(l p):zF (l++[p])=zF l++[.int .i64 p.t.tag,.slice (some ⟨p.gi,0,none⟩) p.t.ins p.t.ins,.slice (some ⟨p.go,0,none⟩) p.t.outs p.t.outs]:=by simp[zF,vt.cells]
structure mS(w:World)(g:Nat)(l:List vt):Prop where
 rows:∀(i:Nat)(p:vt),l[i]?=some p->g<p.gi/\p.gi<p.go/\Row w p.gi 139 (og p.t.ins)/\Row w p.go 86 (kv p.t.outs)
 asc:∀(i j:Nat)(p q:vt),i<j->l[i]?=some p->l[j]?=some q->p.go<q.gi
def mS.nil(w g):mS w g []:=⟨λi p h=>by simp at h,λi j p q _ h=>by simp at h⟩
def mS.kept{w w' g l}(h:mS w g l)(e:∀b,g<b->b<w->w'.heap[b]?=w.heap[b]?):mS w' g l:=⟨λi p j=>have⟨a,f,c,d⟩:=h.rows i p j;⟨a,f,(e _ a c.lt).trans c,(e _ O9 d.lt).trans d⟩,h.asc⟩
def mS.snoc{w g B l p}(h:mS w g l)(o:∀(i:Nat)(q:vt),l[i]?=some q->q.go<B)(n:g<B)(e:B<=p.gi)(f:p.gi<p.go)(k:Row w p.gi 139 (og p.t.ins))(m:Row w p.go 86 (kv p.t.outs)):mS w g (l++[p]):=by refine⟨λi q a=>?_,λi j q s c a b=>?_⟩;by_cases H:i<l;rw[ko H]at a;exact h.rows i q a;grind;by_cases d:j<l;rw[ko d]at b;rw[ko O9]at a;exact h.asc i j q s c a b;grind
def Qk(m r w)(R:uB w m r):Cv 116 #[.pointer m] w λe a=>∃g l,e=.returned (.agg #[(mk (iL r).1.parent),(iL r).1.bits,(iL r).1.fX,.slice (some ⟨g,0,none⟩) l.length l.length])/\l.map vt.t=(iL r).1.eO/\w<=g/\Row a g 90 (zF l)/\mS a g l/\vB w a m (iL r).2:=by
 have a5:=R.lt;go_enter fA func116,ntmps116;go_wp2;have h:=((Hd.of R).new [aB,aA,aA,()] 93 w).new [aB,aA,aA,()] 93<|(w:Nat)+1;refine(HX m r 8 _ h.a O9).m1 λw1 F=>?_;have h:=h.rd F;have H:Hid (∀b,b=(r.take 8).2.number 1 0 8->∀c,c=b.2.number 2 0 65535->∀d,d=c.2.number 1 1 8->iL r=(⟨(r.take 8).1,b.1,c.1,(nj d.1.toNat d.2).1⟩,(nj d.1.toNat d.2).2)):=by intro b K c ab d ae;subst K ab ae;rfl
 clear F;generalize(r.take 8).1=y at H|-;generalize(r.take 8).2=J at H h|-;have D:=h.r 1 0;have E:=h.f 1 0;go_wp2;have h:=h.set 1 0<|mk y;generalize w1.setCell _ _=w2 at h|-;refine h.num 1 0 8 O9 λw3 h=>?_;have H:=aK<|H.out _ rfl;generalize(J.number 1 0 8).1=f at H|-;generalize(J.number 1 0 8).2=X at H h|-;have D:=h.r 1 1;have E:=h.f 1 1;go_wp2;have h:=h.set 1 1 f;generalize w3.setCell _ _=w4 at h|-;refine h.num 2 0 65535 O9 λV h=>?_;have H:=aK<|H.out _ rfl;generalize(X.number 2 0 65535).1=j at H|-;generalize(X.number 2 0 65535).2=Y at H h|-;have D:=h.r 1 2;have E:=h.f 1 2;go_wp2;have h:=h.set 1 2 j;generalize V.setCell _ _=bg at h|-;refine h.num 1 1 8 O9 λo h=>?_;have Q:=ym Y 1 1 8 O9 O9;have⟨n,M⟩:=rL Q.1;have H:=H.out _ rfl;rw[M]at Q;rw[M,oq]at H;rw[M];generalize(Y.number 1 1 8).2=z at H h|-;have H:=aK H;have a7:n<=8:=O9;have a6:=aiY n O9;have c1:=h.r 1 3;have f1:=h.f 1 3;have ai:=(h.row 1).lt;go_wp2;have h:=(h.set 1 3<|.slice o.heap.size n n).new (mdT n) 90 o.heap.size;generalize(o.setCell _ _).alloc _=ap at h|-;generalize o.heap.size=g at ai h|-;go_loopw [21] (λi π=>∃k l v,k<=n/\i=k/\l.map vt.t=(nj k z).1/\v.length=(n -k)*3/\mS π g l/\Hd w π m (rdC (nj k z).2) [(w,93,[↑aB,↑aA,↑aA,()]),((w:Nat)+1,93,[(mk y),f,j,.slice g n n]),(g,90,zF l++v)]) (λi _=>n -(intOf i).toNat);exact⟨0,[],mdT n,cH _,rfl,rfl,by rw[agf];rfl,mS.nil _ _,h⟩;case round=>
  obtain⟨k,l,v,a0,rfl,A,C,u,h⟩:=hrel;have C:=aK C;have N:Hid (l=k):=by unfold Hid;have:=congrArg List.length A;rw[ZB]at this;simpa using this
  have A:=aK A;by_cases a4:k<n
  .have B:Hid (nj (k+1) z=((nj k z).1++[(CP (nj k z).2<|(k:Int)==0).1],(CP (nj k z).2<|(k:Int)==0).2)):=rfl;generalize(nj k z).1=U at A B;generalize(nj k z).2=P at h B;have t1:=h.r 1 3;have a2:(0:Int)<=k:=O9;have a3:(k:Int)<n:=O9;have a8:(w:Nat)+1≠g:=O9;have a9:g≠(w:Nat)+1:=O9;go_wp2;go_region_held3 (λa=>a.cell? ((w:Nat)+1,3)=some (.slice g n n)) (first|go_keep|exact K.r 1 3) ((go_at_call 157;refine(ad5 m P _ _<|by exact h.a).mono ?_;rintro e a⟨am,G,t,rfl,⟨O,af,al,S,T⟩,s⟩;subst O;have K:=h.drew.rd s;obtain⟨⟨bc,bj⟩,⟨bd,bk⟩,⟨bf,bm⟩,E,f1,f2⟩:=(K.row 2).three (k*3)<|by have:=C.out;have:=N.out;rw[cB,Ep];omega))
   have ag:=af;have I:=(h.row 2).lt;have ak:=λi(q:vt)(h:l[i]?=some q)=>(u.rows i q h).2.2.2.lt;have u:=u.kept (w':=a) λb K L=>(vo s.grown).block b L (by simp;omega);generalize(CP P<|(k:Int)==0).1=x at B S T|-;generalize(CP P<|(k:Int)==0).2=bb at B K;have u:=u.snoc (p:=⟨x,G,t⟩) ak I ag al S T;have aj:Hid ((l++[(⟨x,G,t⟩:vt)]).map vt.t=U++[x]):=by unfold Hid;rw[List.map_append,A.out];rfl
   have K:=((K.set 2 (k*3) x.tag).set 2 (k*3+1)<|.slice G x.ins.length x.ins.length).set 2 (k*3+2)<|.slice t x.outs.length x.outs.length;have u:=u.kept (w':=((a.setCell (g,k*3) x.tag).setCell (g,k*3+1)<|.slice G x.ins.length x.ins.length).setCell (g,k*3+2)<|.slice t x.outs.length x.outs.length) λb K L=>(HY _ _ _ b<|by show b≠g;omega).trans<|(HY _ _ _ b<|by show b≠g;omega).trans (HY _ _ _ b<|by show b≠g;omega);generalize((a.setCell _ _).setCell _ _).setCell _ _=an at K u|-;go_wp2;go_roundw;exact⟨k+1,l++[⟨x,G,t⟩],v.drop 3,O9,by go_num,B.out▸aj.out,by rw[rM,C.out];omega,u,by rw[B.out,ZC,<-CR _ _ _ _ _ (k*3) (by rw[Ep,N.out]) (by have:=C.out;omega)];exact K⟩;simp[intOf];omega
  have ah:k=n:=O9;subst ah;have ao:=lW (by rw[C.out];omega);subst ao;rw[kY]at h;have H:=H.out;generalize(nj k z).1=U at A H;generalize(nj k z).2=ba at h H;have H:=aK H;have I:=(h.row 2).lt;have W:=h.r 0 0;have ac:=h.r 0 1;have ad:=h.r 0 2;have aa:=h.r 0 3;have au:=h.f 0 0;have av:=h.f 0 1;have ay:=h.f 0 2;have az:=h.f 0 3;have D:=h.r 1 0;have c1:=h.r 1 1;have c2:=h.r 1 2;have c3:=h.r 1 3;go_wp2;rw[H.out];have O:(Value.agg #[↑(mk y),f,j,.slice g k k])=.agg #[↑(mk y),f,j,.slice g l.length l.length]:=by rw[N.out]
  have h:=(((h.set 0 0<|mk y).set 0 1 f).set 0 2 j).set 0 3<|.slice g k k;refine cY (v:=.agg #[↑(mk y),f,j,.slice g k k]) (by simp[results,results116,go_sem,W,ac,ad,aa]) rfl ⟨g,l,by rw[O],A.out,O9,h.row 2,u.kept λb K L=>?_,h.a,h.g⟩;refine(HY _ _ _ b ?_).trans<|(HY _ _ _ b ?_).trans ((HY _ _ _ b ?_).trans<|HY _ _ _ b ?_);all_goals(show b≠(w:Nat);omega)
end
section
def ak1:=@wpList_append_own_at
variable[Go.Proofs.VB]
def Hn(B:Nat)(w:World)(v:Value)(l:List jB):Prop:=w.ownsRow B 139 3 v l.length<|og l
def IZ(B:Nat)(w:World)(v:Value)(l:List dD):Prop:=w.ownsRow B 86 2 v l.length<|kv l
def ku.cells(d:ku):List Value:=[.int .i64 d.tag,d.iv,d.ov]
def wu(l:List ku):List Value:=l.flatMap ku.cells
def ad3(B:Nat)(w:World)(v:Value)(l:List ku):Prop:=w.ownsRow B 90 3 v l.length<|wu l
def Zy(l d):wu (l++[d])=wu l++[.int .i64 d.tag,d.iv,d.ov]:=by simp[wu,ku.cells]
def cI(w:World)(p v):w.grownBy (w.setCell p v) (some p.block):=by refine⟨rfl,rfl,rfl,?_,λk _ a=>Below.heap_setCell w p v k λe=>a<|by rw[e]⟩;simp only[World.setCell,Fj];exact L9
def nW{B}{w W:World}{e s n g v a}(h:w.ownsRow B e s v n a)(b:w.grownBy W (some g))(d:g<B):W.ownsRow B e s v n a:=h.kept b (by rcases c:v.ownBlock with _|k;exact .inl rfl;have:=(h.lt k c).1;right;intro e;cases e;omega)
def qK{B}{w W:World}{e s n}{v u:Value}{a}(h:w.ownsRow B e s v n a)(b:w.grownBy W u.ownBlock)(c:∀k,v.ownBlock=some k->u.ownBlock≠some k):W.ownsRow B e s v n a:=h.kept b (by rcases d:v.ownBlock with _|k;exact .inl rfl;right;intro e;exact c k d e.symm)
def xW{w W g t c}{u:Value}(h:Row w g t c)(a:w.grownBy W u.ownBlock)(b:∀k,u.ownBlock=some k->g≠k):Row W g t c:=(a.block g h.lt λe=>b g e.symm rfl).trans h
def YU{a w W:World}{r}{u:Value}(h:a.grownBy w r)(b:w.grownBy W u.ownBlock)(c:∀k,u.ownBlock=some k->a<=k):a.grownBy W r:=⟨b.os.trans h.os,b.tape.trans h.tape,b.output.trans h.output,cA h.size b.size,λi H d=>(b.block i (fI H h.size) λe=>by have:=c i e.symm;omega).trans<|h.block i H d⟩
def add0(g j):((g,0):Addr).add j=⟨g,j,none⟩:=by unfold Addr.add;split<;>simp_all
def agd{B w v l}(h:Hn B w v l)(k:l.length<=140737488355328):uk w v l:=by refine⟨?_,k⟩;have a:=λg(e:v.ownBlock=some g)=>Aj h e;obtain⟨rfl,n⟩|⟨g,C,o,rfl,_,_,_,_,_,_⟩:=h.2;simp_all;refine⟨some (g,0),C,rfl,λ_=>⟨g,0,rfl,λi x m=>?_⟩⟩;have⟨H,f,j⟩:=BJ l i x m;have b:=a g rfl _ _ H;have c:=a g rfl _ _ f;have d:=a g rfl _ _ j;rw[add0]at b c d;refine⟨?_,?_,?_⟩<;>simp<;>assumption
def age{B w v l}(h:IZ B w v l)(f:l.length<=140737488355328):mg w v l:=by refine⟨?_,f⟩;have a:=λg(e:v.ownBlock=some g)=>Aj h e;obtain⟨rfl,k⟩|⟨g,C,m,rfl,_,_,_,_,_,_⟩:=h.2;simp_all;refine⟨some (g,0),C,rfl,λ_=>⟨g,0,rfl,λi x j=>?_⟩⟩;have⟨H,d⟩:=yg l i x j;have b:=a g rfl _ _ H;have c:=a g rfl _ _ d;rw[add0]at b c;refine⟨?_,?_⟩<;>simp<;>assumption
def Hq:∀l i x,l[i]?=some x->(wu l)[i*3]?=some x.tag/\(wu l)[i*3+1]?=some x.iv/\(wu l)[i*3+2]?=some x.ov
 |[],i,x,h=>by simp at h
 |y::l,0,x,h=>by simp at h;subst h;simp[wu,ku.cells]
 |y::l,i+1,x,h=>by have:=Hq l i x (by simpa using h);have e:wu (y::l)=y.cells++wu l:=rfl;have a:y.cells.length=3:=rfl;rw[e,cZ (by rw[a];omega),cZ (by rw[a];omega),cZ (by rw[a];omega),a,show(i+1)*3 -3=i*3 from by omega,show(i+1)*3+1 -3=i*3+1 from by omega,show(i+1)*3+2 -3=i*3+2 from by omega];exact this
structure fG(B:Nat)(w:World)(v:Value)(l:List ku):Prop where
 own:ad3 B w v l
 ins:∀d∈l,Hn B w d.iv d.ins/\∀k,d.iv.ownBlock=some k->v.ownBlock≠some k
 outs:∀d∈l,IZ B w d.ov d.outs/\∀k,d.ov.ownBlock=some k->v.ownBlock≠some k
def fG.nil(B w):fG B w () []:=⟨mV _ _ _ _,λd a=>by simp at a,λd a=>by simp at a⟩
def fG.kept{B w w' v l g}(h:fG B w v l)(b:w.grownBy w' (some g))(c:g<B):fG B w' v l:=⟨nW h.own b c,λd a=>⟨nW (h.ins d a).1 b c,(h.ins d a).2⟩,λd a=>⟨nW (h.outs d a).1 b c,(h.outs d a).2⟩⟩
def fG.snoc{B B1 w W v f l d}(h:fG B w v l)(C:B<=B1)(s:ad3 B W f (l++[d]))(p:w.grownBy W v.ownBlock)(q:f.ownBlock=v.ownBlock\/f.ownBlock=some ↑w)(t:∀k,v.ownBlock=some k->k<B1)(H:Hn B1 w d.iv d.ins)(b:IZ B1 w d.ov d.outs):fG B W f (l++[d]):=by
 have K:∀{e:TypeId}{S n:Nat}{u:Value}{c:List Value},w.ownsRow B e S u n c->(∀k,u.ownBlock=some k->v.ownBlock≠some k)->W.ownsRow B e S u n c/\∀k,u.ownBlock=some k->f.ownBlock≠some k:=by intro e S n u c b r;refine⟨qK b p r,λk j e=>?_⟩;obtain i|i:=q;simp_all;have:=(b.lt k j).2;cases i▸e;omega
 have L:∀{e:TypeId}{S n:Nat}{u:Value}{c:List Value},w.ownsRow B1 e S u n c->w.ownsRow B e S u n c:=by intro e S n u c b;refine⟨b.1,?_⟩;obtain G|⟨g,D,E,m,y,o⟩:=b.2;simp_all;exact .inr ⟨g,D,E,m,O9,o⟩
 have F:∀{e:TypeId}{S n:Nat}{u:Value}{c:List Value},w.ownsRow B1 e S u n c->∀k,u.ownBlock=some k->v.ownBlock≠some k:=by intro e S n u c b k j i;have z:=(b.lt k j).1;have A:=t k i;omega
 refine⟨s,λx a=>?_,λx a=>?_⟩;obtain a|a:=nA.1 a;exact K (h.ins x a).1 (h.ins x a).2;simp at a;subst a;exact K (L H)<|F H;obtain a|a:=nA.1 a;exact K (h.outs x a).1 (h.outs x a).2;simp at a;subst a;exact K (L b)<|F b
def fG.acV{B w v l}(h:fG B w v l)(o:l.length<=1000)(H:∀d∈l,d.ins.length<=1000/\d.outs.length<=1000):xw w v l:=by refine⟨?_,O9⟩;have b:=λg(e:v.ownBlock=some g)=>Aj h.own e;obtain⟨rfl,p⟩|⟨g,C,r,rfl,_,_,_,_,_,_⟩:=h.own.2;simp_all;refine⟨some (g,0),C,rfl,λ_=>⟨g,0,rfl,λi x c=>?_⟩⟩;have a:=eY c;have⟨q,m,n⟩:=Hq l i x c;have f:=b g rfl _ _ q;have j:=b g rfl _ _ m;have k:=b g rfl _ _ n;rw[add0]at f j k;refine⟨?_,?_,?_,agd (h.ins x a).1 (by have:=H x a;omega),age (h.outs x a).1<|by have:=H x a;omega⟩<;>simp<;>assumption
def HR{w:World}{g a b c}(h:w.cell? (g,0)=some a)(e:w.cell? (g,1)=some b)(f:w.cell? (g,2)=some c):∀j u,[a,b,c][j]?=some u->w.cell? ((⟨g,0,none⟩:Addr).add j)=some u:=by intro j u d;match j,d with
 |0,d=>simp at d;subst d;simpa[Addr.add]using h
 |1,d=>simp at d;subst d;simpa[Addr.add]using e
 |2,d=>simp at d;subst d;simpa[Addr.add]using f
 |j+3,d=>simp at d
def TL{w:World}{g a b}(h:w.cell? (g,0)=some a)(d:w.cell? (g,1)=some b):∀j u,[a,b][j]?=some u->w.cell? ((⟨g,0,none⟩:Addr).add j)=some u:=by intro j u c;match j,c with
 |0,c=>simp at c;subst c;simpa[Addr.add]using h
 |1,c=>simp at c;subst c;simpa[Addr.add]using d
 |j+2,c=>simp at c
def MB{B w O R o a Q}(m:o.guard=none)(s x)(n:o.op=.call {callee:=.builtin .append,args:=#[s,x],argTypes:=#[88,88]})(v)(l)(q:a.eval s=v)(p:Hn B w v l)
 (d)(g)(r:a.eval x=.slice g 1 1)(c:Row w g 139 d.cells)(C:l.length<=1000000)(k:B<=w)
 (h:∀b W,Hn B W b (l++[d])->w.grownBy W v.ownBlock->(b.ownBlock=v.ownBlock\/b.ownBlock=some ↑w)->wpList Vp O Q R (a.put o.dst b) W):wpList Vp O Q (o::R) a w:=by
 have⟨A,H,t,y,z⟩:=info_parts ahI;refine wpList_append_own_at _ m s x 88 n B 139 A _ 3 40 aI.underlying88 H t y z rfl D9 v l (og l) q p ⟨g,0,none⟩ 1 1 d.cells r rfl (HR (c.cell 0) (c.cell 1)<|c.cell 2) ?_ (by unfold maxLen;omega) O9 k ?_;intro u e;simp[jB.cells]at e;obtain rfl|rfl|rfl:=e<;>rfl;intro b W f i _ j;refine h b W ?_ i j;unfold Hn;rw[CS,cB];exact f
def MC{B w O R o a Q}(m:o.guard=none)(s x)(n:o.op=.call {callee:=.builtin .append,args:=#[s,x],argTypes:=#[87,87]})(v)(l)(q:a.eval s=v)(p:IZ B w v l)
 (d)(g)(r:a.eval x=.slice g 1 1)(c:Row w g 86 d.cells)(C:l.length<=1000000)(k:B<=w)
 (h:∀b W,IZ B W b (l++[d])->w.grownBy W v.ownBlock->(b.ownBlock=v.ownBlock\/b.ownBlock=some ↑w)->wpList Vp O Q R (a.put o.dst b) W):wpList Vp O Q (o::R) a w:=by
 have⟨A,H,t,y,z⟩:=info_parts ahJ;refine wpList_append_own_at _ m s x 87 n B 86 A _ 2 24 aI.underlying87 H t y z rfl D9 v l (kv l) q p ⟨g,0,none⟩ 1 1 d.cells r rfl (TL (c.cell 0)<|c.cell 1) ?_ (by unfold maxLen;omega) O9 k ?_;intro u e;simp[dD.cells]at e;obtain rfl|rfl:=e<;>rfl;intro b W f i _ j;refine h b W ?_ i j;unfold IZ;rw[HT,cB];exact f
def MD{B w O R o a Q}(p:o.guard=none)(s x)(q:o.op=.call {callee:=.builtin .append,args:=#[s,x],argTypes:=#[91,91]})(v)(l)(t:a.eval s=v)(r:ad3 B w v l)
 (d)(g)(y:a.eval x=.slice g 1 1)(c:Row w g 90 d.cells)(f:d.iv.oneCell'=true)(i:d.ov.oneCell'=true)(E:l.length<=1000000)(n:B<=w)
 (h:∀b W,ad3 B W b (l++[d])->w.grownBy W v.ownBlock->(b.ownBlock=v.ownBlock\/b.ownBlock=some ↑w)->wpList Vp O Q R (a.put o.dst b) W):wpList Vp O Q (o::R) a w:=by
 have⟨D,H,z,A,C⟩:=info_parts ahK;refine wpList_append_own_at _ p s x 91 q B 90 D _ 3 56 aI.underlying91 H z A C rfl D9 v l (wu l) t r ⟨g,0,none⟩ 1 1 d.cells y rfl (HR (c.cell 0) (c.cell 1)<|c.cell 2) ?_ (by unfold maxLen;omega) O9 n ?_;intro u e;simp[ku.cells]at e;obtain rfl|rfl|rfl:=e;rfl;exact f;exact i;intro b W j k _ m;refine h b W ?_ k m;unfold ad3;rw[Zy,cB];exact j
end
def cN{B w W}(h:Below B w W):Below B w W.drew:=⟨h.os,h.tape,h.output,h.size,h.block⟩
def ac9{w W r C}(h:w.grownBy W r)(b:C<=↑w)(a:∀k,r=some k->C<=k):Below C w W:=⟨h.os,h.tape,h.output,h.size,λi H=>h.block i O9 λe=>by have:=a i e.symm;omega⟩
structure ahz(p:Prop):Prop where
 out:p
structure bL where
 tx:ByteArray
 idx:Int
 val:Int
 lock:ByteArray
 aT:Int
 deriving DecidableEq
def bL.pt(c:bL):Pt:=(c.tx,c.idx)
abbrev jH:=Pt->Option bL
def jH.put(K:jH)(c:bL):jH:=λp=>if p=c.pt then some c else K p
def jH.take(K:jH)(p:Pt):jH:=λq=>if q=p then none else K q
structure dB where
 km:bL
 EG:Bool
structure cC where
 key:ByteArray
 lock:ByteArray
 id:ByteArray
 aT:Int
 deriving DecidableEq
structure Bc where
 id:ByteArray
 ins:List jB
 outs:List dD
def BH(K:jH)(s:dB):jH:=if s.EG then K.take s.km.pt else K.put s.km
structure JS where
 K:jH
 steps:List dB
 gG:Int
 bX:List cC
def jZ(id:ByteArray)(h:Int):List jB->Int->JS->Int×Int×JS
 |[],S,s=>(0,S,s)
 |x::r,S,s=>match s.K (x.tx,x.idx)with
   |none=>(15,S,s)
   |some c=>jZ id h r (S+c.val) {s with K:=s.K.take (x.tx,x.idx),steps:=s.steps++[⟨c,false⟩],bX:=s.bX++[⟨x.key,c.lock,id,h⟩]}
def cW:List dD->Int
 |[]=>0
 |o::r=>o.val+cW r
def kg(id:ByteArray)(h:Int):List dD->Nat->JS->JS
 |[],_,s=>s
 |o::r,i,s=>kg id h r (i+1) {s with K:=s.K.put ⟨id,i,o.val,o.lock,h⟩,steps:=s.steps++[⟨⟨id,i,o.val,o.lock,h⟩,true⟩]}
def anyM(K:jH)(id:ByteArray):Bool:=(List.range 8).any λi=>(K (id,(i:Int))).isSome
def eJ(x:Bc)(h:Int)(s:JS):Int×JS:=if anyM s.K x.id then(14,s)else(0,kg x.id h x.outs 0 s)
def fK(x:Bc)(h:Int)(s:JS):Int×JS:=let a:=jZ x.id h x.ins 0 s;if a.1≠0 then(a.1,a.2.2)else
 if cW x.outs>a.2.1 then(16,a.2.2)else eJ x h {a.2.2 with gG:=a.2.2.gG+(a.2.1 -cW x.outs)}
def kM(x:Bc)(h S:Int)(s:JS):Int×JS:=if cW x.outs>S+s.gG then(16,s)else eJ x h s
def fS(h:Int):List Bc->JS->Int×JS
 |[],s=>(0,s)
 |x::r,s=>let a:=fK x h s;if a.1≠0 then a else fS h r a.2
structure Xc(S:Nat->Prop)(w w':World):Prop where
 os:w'.os=w.os
 tape:w'.tape=w.tape
 output:w'.output=w.output
 size:w.heap.size<=w'.heap.size
 block:∀k,k<w.heap.size->¬S k->w'.heap[k]?=w.heap[k]?
def Xc.refl(S:Nat->Prop)(w):Xc S w w:=⟨rfl,rfl,rfl,L9,λ_ _ _=>rfl⟩
def lY:=@Xc.refl
def Xc.of{S w W}(h:Below w.heap.size w W):Xc S w W:=⟨h.os,h.tape,h.output,h.size,λk a _=>h.block k a⟩
def jS:=@Xc.of
def Xc.low{w W}(h:Xc (λ_=>False) w W):Below w w W:=⟨h.os,h.tape,h.output,h.size,λk a=>h.block k a id⟩
def Xc.trans{S S' w W f}(h:Xc S w W)(a:Xc S' W f)(d:∀k,k<↑w->S' k->S k):Xc S w f:=⟨a.os.trans h.os,a.tape.trans h.tape,a.output.trans h.output,cA h.size a.size,λk b c=>(a.block k (fI b h.size) λe=>c<|d k b e).trans<|h.block k b c⟩
theorem Wk:type_of%@Xc.trans:=@Xc.trans
def Xc.mono{S S' w W}(h:Xc S w W)(c:∀k,S k->S' k):Xc S' w W:=⟨h.os,h.tape,h.output,h.size,λk a b=>h.block k a λe=>b<|c k e⟩
def Xc.then{S w W b}(h:Xc S w W)(a:Below W W b):Xc S w b:=h.trans (jS a (S:=λ_=>False)) λ_ _ e=>e.elim
def Wl:=@Xc.then
def Xc.drew{S w W}(h:Xc S w W):Xc S w W.drew:=⟨h.os,h.tape,h.output,h.size,h.block⟩
def xz:=@Xc.drew
def Xc.alloc{S w W}(h:Xc S w W)(o):Xc S w (W.alloc o):=h.then<|B0.alloc L9 _
def Xc.grown{S w W f r}(h:Xc S w W)(a:W.grownBy f r)(d:∀k,r=some k->k<w->S k):Xc S w f:=h.trans (S':=λk=>r=some k) ⟨a.os,a.tape,a.output,a.size,λk b c=>a.block k b λe=>c e.symm⟩ λk b e=>d k e b
def Xc.setCell{S w W}(h:Xc S w W)(a v)(c:a.block<↑w->S a.block):Xc S w (W.setCell a v):=h.grown (cI W a v) (λk e b=>by cases e;exact c b)
def Xc.CN{S w W}(h:Xc S w W)(b o)(d:b<↑w->S b):Xc S w (Go.ChangeMaps.setBlock W b o):=by refine h.trans (S':=λk=>k=b) ⟨rfl,rfl,rfl,by simp[Go.ChangeMaps.setBlock],λk a c=>?_⟩ (λk a e=>by subst e;exact d a);simp[Go.ChangeMaps.setBlock];rw[mU λe=>c e.symm]
def Row.xc{S w W g t c}(h:Row w g t c)(x:Xc S w W)(a:¬S g):Row W g t c:=(x.block g h.lt a).trans h
def Row.ne{w a b t u C d}(h:Row w a t C)(k:Row w b u d)(c:t≠u):a≠b:=by intro e;subst e;unfold Row at h k;cases h▸k;exact c rfl
def aiJ{I w m g L t C}(h:Go.CM.jI I w m L)(r:Row w g t C):g≠m:=by intro e;subst e;obtain⟨E,c,a,-⟩:=h;unfold Row at r;cases a▸r
structure fL where
 wk:Int
 sh:Int
 me:Int
 su:Int
 bi:Int
def fL.cells(c:fL):List Value:=[.int .i64 c.wk,.int .i64 c.sh,.int .i64 c.me,.int .i64 c.su,.int .i64 c.bi]
def fL.v(c:fL):Value:=.agg #[.int .i64 c.wk,.int .i64 c.sh,.int .i64 c.me,.int .i64 c.su,.int .i64 c.bi]
def fL.ok(c:fL):Bool:=pV c.wk 1 8&&pV c.sh 1 16&&pV c.me 0 64&&pV c.su 0 1000000&&pV c.bi 0 8
def Qi(n l H w):Cv 112 #[.int .i64 n,.int .i64 l,.int .i64 H] w λe W=>e=.returned (pV n l H)/\W=w:=by
 by_cases h:l<=n;.go_enter fA func112,ntmps112;go_wp2;go_ret;simp[pV,h]
 have a:decide (l<=n)=false:=by simpa using h
 go_enter fA func112,ntmps112;go_wp2;go_ret;simp[pV,a]
def GL(c:fL)(w):Cv 58 #[c.v] w λe W=>e=.returned (.bool c.ok)/\Below w w W:=by
 have⟨d,s,m,S,b⟩:=c;unfold fL.v fL.ok;have a:Hid (Below w w (w.alloc<|.cells #[d,s,m,S,b] 26)):=B0.alloc L9 _;go_enter fA func58,ntmps58;go_wp2_with (go_at_call 112;refine(Qi _ _ _ _).m0 ?_);all_goals go_ret;exact⟨by simp[*],a.out⟩
def se:List Value:=[.int .i32 0,.int .u32 0,.int .u32 0,.int .u32 0,.int .i32 0,.int .i32 0]
def CJ(m:Nat):List Value:=se++[.map<|some m]
def ptr(b:Nat):Value:=(b,0)
structure sV(w:World)(b:Nat):Prop where
 at_:∃m,b=m+1/\Row w b 196 (CJ m)/\w.heap[m]?=some (.map #[] 0)
theorem sV.lt{w b}(h:sV w b):b<w:=have⟨m,_,a,_⟩:=h.at_;a.lt
def sV.keep{w W b}(h:sV w b)(c:Below w w W):sV W b:=have⟨m,H,a,d⟩:=h.at_;⟨m,H,a.keep c a.lt,(c.block m<|by grind).trans d⟩
def sV.EM{w W b g t C}(h:sV w b)(f:w.grownBy W (some g))(a:Row w g t C)(k:b≠g):sV W b:=by
 have⟨m,H,c,d⟩:=h.at_;have j:m≠g:=by intro e;subst e;unfold Row at a;cases d▸a
 exact⟨m,H,(f.block b c.lt<|by intro e;cases e;exact k rfl).trans c,(f.block m (by grind)<|by intro e;cases e;exact j rfl).trans d⟩
structure lh(w:World)(g n:Nat):Prop where
 at_:∃bs:List Nat,bs.length=n/\bs.Nodup/\Row w g 192 (bs.map ptr)/\∀b∈bs,sV w b
def lh.keep{w W g n}(h:lh w g n)(c:Below w w W):lh W g n:=have⟨d,e,H,a,f⟩:=h.at_;⟨d,e,H,a.keep c a.lt,λb i=>(f b i).keep c⟩
def aI.Sp:(Vp.info? 192).map (λi=>(i.zero,i.size,i.bytes))=some (some<|.pointer none,1,8):=K8
def Z0(n:Nat):List Value:=(madeCells #[.pointer none] (n*1)).toList
def afk(n):(Z0 n)=n:=by unfold Z0;rw[Array.length_toList,size_madeCells];omega
def aim(n:Nat)(h:n<=1000)(w):(Instr.makeSlice 123 (n:Int) (n:Int)).run Vp w=.ok (.slice (w:Nat) n n) (w.alloc<|.cells (Z0 n).toArray 192):=by have⟨d,H,a,b,c⟩:=info_parts aI.Sp;have:=wC (P:=Vp) w 123 192 d _ aI.underlying123 H a .i64 .i64 (n:Int) (n:Int) O9 (lC _) (by rw[c];omega) O9;rw[this,b];simp[Z0,Value.cells]
def Mf(n:Nat)(w)(K:1<=n)(L:n<=16):Cv 59 #[n] w λe W=>∃g,e=.returned (.agg #[.slice (some ⟨g,0,none⟩) n n])/\w<=g/\lh W g n/\Below w w W:=by
 have I:=aim n O9;have R:=@run_makeMap Vp;go_enter fA func59,ntmps59;go_wp2;have l:Row (((w.alloc<|.cells #[()] 125).alloc<|.cells (Z0 n).toArray 192).alloc<|.cells #[.slice ((w:Nat)+1,0) n n] 125) w 125 [()]:=((aX w [()] 125).alloc _).alloc _;have f:Row (((w.alloc<|.cells #[()] 125).alloc<|.cells (Z0 n).toArray 192).alloc<|.cells #[.slice ((w:Nat)+1,0) n n] 125) ((w:Nat)+1) 192 (Z0 n):=by have:=aX (w.alloc<|.cells #[()] 125) (Z0 n) 192;rw[cR]at this;exact this.alloc _
 have k:Row (((w.alloc<|.cells #[()] 125).alloc<|.cells (Z0 n).toArray 192).alloc<|.cells #[.slice ((w:Nat)+1,0) n n] 125) ((w:Nat)+1+1) 125 [.slice ((w:Nat)+1,0) n n]:=by have:=aX ((w.alloc<|.cells #[()] 125).alloc<|.cells (Z0 n).toArray 192) [.slice ((w:Nat)+1,0) n n] 125;rw[cR,cR]at this;exact this
 have o:Below w w (((w.alloc<|.cells #[()] 125).alloc<|.cells (Z0 n).toArray 192).alloc<|.cells #[.slice ((w:Nat)+1,0) n n] 125):=((B0.alloc L9 _).alloc Z9 _).alloc (by rw[cR,cR];omega) _;generalize((w.alloc _).alloc _).alloc _=X at l f k o|-;generalize u:(w:Nat)=r at l f k o|-;generalize A:r+1=g at f k|-;generalize s:g+1=q at k|-;have S:r<g/\g<q:=O9;replace u:=aK u;replace A:=aK A;replace s:=aK s;clear I;go_loopw [11] (λi wr=>∃(d:List Nat)(V:List Value),i=(d:Nat)/\d+V.length=n/\d.Nodup/\Row wr g 192 (d.map ptr++V)/\(∀b∈d,q<b/\sV wr b)/\Row wr r 125 [()]/\Row wr q 125 [.slice g n n]/\Below r w wr) (λi _=>n -(intOf i).toNat);exact⟨[],Z0 n,rfl,by rw[afk];simp,aak,f,λb j=>by simp at j,l,k,o⟩;case round=>clear l f k o;obtain⟨d,V,rfl,U,t,f,m,l,k,o⟩:=hrel;replace t:=aK t;have N:=f.lt;have M:=k.lt;have cc:=k.r 0;match V,U with
  |[],U=>simp[pN,tJ]at U;subst U;have D:=l.cell 0;have fr:=l.frozen 0;have F:=cI wr (r,0)<|.slice g d d;have z:lh (wr.setCell (r,0)<|.slice g d d) g d:=⟨d,rfl,t.out,by have:=f.bF (r,0) (.slice g d d) (by show g≠r;omega);simpa using this,λb j=>(m b j).2.EM F l<|by have:=(m b j).1;show b≠r;omega⟩;replace z:=aK z;replace m:=aK m;go_wp2;exact cY (v:=.agg #[.slice g d d]) (by simp[results,results59,go_sem,D]) rfl ⟨g,rfl,by have:=u.out;omega,z.out,by rw[u.out];exact o.setCell (p:=(r,0)) L9 _⟩
  |y::V,U=>
    simp[cQ]at U;have P:(d.length:Int)<n:=O9;have T:wr.cell? (g,d.length)=some y:=by rw[f.cell,cZ S8];simp
    have J:=f.frozen d.length;replace U:=aK U;replace m:=aK m;go_wp2;go_roundw;case rel=>
     have x:(wr.setCell (g,d.length) (ptr<|(wr:Nat)+1)).heap.size=(wr:Nat):=by simp[World.setCell,Fj]
     have C:Row (wr.setCell (g,d.length) (ptr<|(wr:Nat)+1)) g 192 (d.map ptr++(ptr ((wr:Nat)+1)::V)):=by have:=f.set d.length (ptr<|(wr:Nat)+1);rw[Ds _ _ S8]at this;simpa using this
     have B:=aX ((wr.setCell (g,d.length) (ptr<|(wr:Nat)+1)).alloc<|.map #[] 0) (CJ wr) 196;rw[cR,x]at B;have H:((wr.setCell (g,d.length) (ptr<|(wr:Nat)+1)).alloc<|.map #[] 0).heap[(wr:Nat)]?=some (.map #[] 0):=by have:=wF (wr.setCell (g,d.length) (ptr<|(wr:Nat)+1))<|.map #[] 0;rw[x]at this;exact this
     have π:Below ((wr.setCell (g,d.length) (ptr<|(wr:Nat)+1)).alloc<|.map #[] 0).heap.size ((wr.setCell (g,d.length) (ptr<|(wr:Nat)+1)).alloc<|.map #[] 0) (((wr.setCell (g,d.length) (ptr<|(wr:Nat)+1)).alloc<|.map #[] 0).alloc<|.cells (CJ wr).toArray 196):=B0.alloc L9 _;have Q:=U.out;refine⟨d++[(wr:Nat)+1],V,by rw[cB];simp,by rw[cB];simp;omega,?_,?_,?_,?_,?_,?_⟩;refine UA.2 ⟨t.out,S8,?_⟩;intro a G c s;simp[pO]at s;subst s;have:=(m.out a G).2.lt;omega;rw[kq,dP];exact(C.alloc _).alloc _;intro b j;obtain j|j:=nA.1 j;have h:=m.out b j;exact⟨h.1,(h.2.EM (cI wr (g,d.length) (ptr<|(wr:Nat)+1)) f<|by show b≠g;omega).keep<|(B0.alloc L9 _).alloc Z9 _⟩;simp[pO]at j;subst j;refine⟨O9,⟨(wr:Nat),rfl,B,?_⟩⟩;exact(π.block wr<|by rw[cR,x];omega).trans H;exact((l.bF (g,d.length) _<|by show r≠g;omega).alloc _).alloc _;exact((k.bF (g,d.length) _<|by show q≠g;omega).alloc _).alloc _;exact((o.setCell (p:=(g,d.length)) (by show r<=g;omega) _).alloc (by have:=x;show r<=(wr.setCell (g,d.length) (ptr<|(wr:Nat)+1)).heap.size;omega) _).alloc (by rw[cR];show r<=(wr.setCell (g,d.length) (ptr<|(wr:Nat)+1)).heap.size+1;omega) _
    case measure=>simp[intOf];omega
section
variable[Go.Proofs.VB]
def dH(s)(j:Nat)(i)(h:i=(j:Int))(a:j<s.length)(W):(Instr.index 9 (mk s) i).run Vp W=.ok (.int .u8 ((s.getD j 0).toNat:Int)) W:=by
 subst h;have b:(mk s)[j]?=some (s.getD j 0):=by
  have c:j<(mk s).size:=by rw[cD];exact a
  rw[getElem?_pos (mk s) j c];simp[a];rfl
 simp[Instr.index,asIntOf,b]
def cX{B}{w:World}{e s n v a}(h:w.ownsRow B e s v n a)(m)(b:n=m+1):∃g C,v=.slice (some ⟨g,0,none⟩) (m+1) C:=by obtain⟨_,H⟩|⟨g,C,d,c,_⟩:=h.2;omega;simp_all
def ku.m(d:ku):Iz:=⟨d.tag,d.ins,d.outs⟩
def iE(s:List UInt8):Option jL:=if(iL ⟨s,false⟩).2.bad||!(iL ⟨s,false⟩).2.l.isEmpty then none else some (iL ⟨s,false⟩).1
structure PN(a w:World)(v:Value)(b:jL)(gt:Nat)(ps:List vt):Prop where
 val:v=.agg #[.string<|mk b.parent,.int .i64 b.bits,.int .i64 b.fX,(gt,ps,ps.length)]
 eO:ps.map vt.t=b.eO
 lt:a.heap.size<=gt
 row:Row w gt 90 (zF ps)
 rows:mS w gt ps
def eU:Value:=.agg #[aB,aA,aA,.slice none 0 0]
def aeC(l):(mk l).toList.isEmpty=l.isEmpty:=by rw[ByteArray.toList_eq];simp[mk]
def zU{a w:World}{B:Nat}(H:Below B a w)(h:B≤w.heap.size)(v V b c:Value)(o:Obj):Below B a (((((w.setCell ⟨B,0,none⟩ v).setCell ⟨B,1,none⟩ V).setCell ⟨B,2,none⟩ b).setCell ⟨B,3,none⟩ c).alloc o):=by
  refine Below.alloc ((((H.setCell (p:=⟨B,0,none⟩) (mi _) v).setCell (p:=⟨B,1,none⟩) (mi _) V).setCell (p:=⟨B,2,none⟩) (mi _) b).setCell (p:=⟨B,3,none⟩) (mi _) c) ?_ o;simpa only[World.setCell,Fj]using h
def Iw{w B g t c}(h:Row w g t c)(a:g≠B)(v V b d o):Row (((((w.setCell (B,0) v).setCell (B,1) V).setCell (B,2) b).setCell (B,3) d).alloc o) g t c:=
 ((((h.bF ⟨B,0,none⟩ v a).bF ⟨B,1,none⟩ V a).bF ⟨B,2,none⟩ b a).bF ⟨B,3,none⟩ d a).alloc o
def QR{w B g l}(h:mS w g l)(f:B<=g)(v V j k o):mS (((((w.setCell (B,0) v).setCell (B,1) V).setCell (B,2) j).setCell (B,3) k).alloc o) g l:=
 ⟨λi p e=>have⟨a,b,c,d⟩:=h.rows i p e;⟨a,b,Iw c O9 _ _ _ _ _,Iw d O9 _ _ _ _ _⟩,h.asc⟩
def xt(s w):Cv 65 #[(mk s)] w λe W=>Below w w W/\((iE s=none/\e=.returned (.tuple #[eU,aG]))\/∃b v G f,iE s=some b/\e=.returned (.tuple #[v,aA])/\PN w W v b G f):=by
 have d:Hid (iE s=if(iL ⟨s,false⟩).2.bad||!(iL ⟨s,false⟩).2.l.isEmpty then none else some (iL ⟨s,false⟩).1):=rfl;go_enter fA func65,ntmps65;go_wp2;have z:uB ((w.alloc<|.cells #[aB,aA,aA,()] 93).alloc<|.cells #[(mk s),aF] 224) ((w:Nat)+1) ⟨s,false⟩:=by have:=aX (w.alloc<|.cells #[aB,aA,aA,()] 93) [(mk s),aF] 224;rw[cR]at this;exact this
 refine(Qk ((w:Nat)+1) ⟨s,false⟩ _ z).mono ?_;rintro e E⟨G,f,rfl,x,F,y,C,p⟩;simp only[cR]at F;have a:=p.row ((aX w [aB,aA,aA,()] 93).alloc<|.cells #[(mk s),aF] 224) O9;have q:Below w w E:=have A:Below w w ((w.alloc<|.cells #[aB,aA,aA,()] 93).alloc<|.cells #[(mk s),aF] 224):=(B0.alloc L9 _).alloc (by simp only[cR];omega) _;A.grown p.grown (by simp only[cR];omega) (λk B=>by simp at B;omega)
 have g:=p.at_;generalize(iL ⟨s,false⟩).1=b at d x|-;generalize(iL ⟨s,false⟩).2=R at d g;have⟨l,t⟩:=R;have I:=pZ g 0;have J:=pZ g 1;have H:=yX g;have⟨j,m,n⟩:=a.p3;have o:=a.cell 3;have D:=a.frozen;have r:(w:Nat)<(E:Nat):=O9;have u:=aeC l;cases t;case true=>go_wp2;have c:=d.out;exact cY (v:=.tuple #[eU,aG]) (by simp[results,results65,go_sem,j,m,n,o,eU,r]) rfl ⟨zU q O9 _ _ _ _ _,.inl ⟨c,rfl⟩⟩
 case false=>
  cases i:l.isEmpty
  .rw[i]at u;go_wp2;have c:iE s=none:=by have h:=d.out;rw[i]at h;exact h
   exact cY (v:=.tuple #[eU,aG]) (by simp[results,results65,go_sem,j,m,n,o,eU,r]) rfl ⟨zU q O9 _ _ _ _ _,.inl ⟨c,rfl⟩⟩
  rw[i]at u;go_wp2;have c:iE s=some b:=by have h:=d.out;rw[i]at h;exact h
  exact cY (v:=.tuple #[.agg #[(mk b.parent),b.bits,b.fX,.slice G f f],aA]) (by simp[results,results65,go_sem,j,m,n,o,r]) rfl ⟨zU q O9 _ _ _ _ _,.inr ⟨b,_,G,f,c,rfl,rfl,x,O9,Iw y O9 _ _ _ _ _,QR C O9 _ _ _ _ _⟩⟩
def Kc{s t:ku}(h:s.acj t)(first):s.fits first=t.fits first:=by have⟨a,b,c⟩:=h;simp[ku.fits,a,b,c]
def SI{s t:ku}(h:s.acj t):s.bytes=t.bytes:=by have⟨a,b,c⟩:=h;simp[ku.bytes,a,b,c]
def Pk{c:Type}{f:ku->c}(b:∀s t,s.acj t->f s=f t){l m}(h:EZ l m):l.map f=m.map f:=by
 apply kX;intro i;simp;by_cases H:i<l;have a:i<m:=by have:=h.1;omega
 rw[aY H,aY a];simp;rw[b _ _ (h.2 i _ _ (aY H)<|aY a)];rw[kD O9,kD<|by have:=h.1;omega]
def GX{l m}(h:EZ l m)(p b n):dI p b n l=dI p b n m:=by
 have e:∀x:List ku,x.zipIdx.all (λq=>q.1.fits<|(q.2:Int)==0)=(x.map λt=>(t.fits true,t.fits false)).zipIdx.all (λq=>if((q.2:Int)==0)then q.1.1 else q.1.2):=by intro x;rw[List.zipIdx_map,List.all_map];congr 1;funext q;simp only[Function.comp,Prod.map,id];cases((q.2:Int)==0)<;>rfl
 simp[dI,h.1,e];rw[Pk (f:=λt=>(t.fits true,t.fits false)) (λs t a=>by rw[Kc a,Kc a]) h]
def EF{l m}(h:EZ l m)(p b n):fP p b n l=fP p b n m:=by
 have e:l.flatMap ku.bytes=m.flatMap ku.bytes:=by rw[Ji,Ji,Pk (λs t a=>SI a) h]
 simp[fP,h.1,e]
def Iz.d(t:Iz):ku:=⟨t.tag,.slice none 0 0,t.ins,.slice none 0 0,t.outs⟩
def rf(b:jL):Bool:=dI (mk b.parent) b.bits b.fX<|b.eO.map Iz.d
def rh(b:jL):List UInt8:=fP (mk b.parent) b.bits b.fX<|b.eO.map Iz.d
def aiA(d b)(h:d.map ku.m=b):EZ d (b.map Iz.d):=by subst h;refine⟨S8,λi s t c a=>?_⟩;rw[pQ,eG,c]at a;simp at a;subst a;exact⟨rfl,rfl,rfl⟩
def fG.keep{B w W v l}(h:fG B w v l)(a:Below w w W):fG B W v l:=have K:∀{e:TypeId}{s n:Nat}{u:Value}{c:List Value},w.ownsRow B e s u n c->W.ownsRow B e s u n c:=λg=>g.kept (row:=none) ⟨a.os,a.tape,a.output,a.size,λk f _=>a.block k f⟩ (by cases Value.ownBlock _<;>simp)
 ⟨K h.own,λd b=>⟨K (h.ins d b).1,(h.ins d b).2⟩,λd b=>⟨K (h.outs d b).1,(h.outs d b).2⟩⟩
def xp(h:Int)(c:UInt8):Int:=IntKind.u64.wrap<|bits .xor .u64 h (c.toNat:Int)*1099511628211
def hN(l:List UInt8):Int:=l.foldl xp 14695981039346656037
def VX(a b:Nat)(c:a<18446744073709551616)(d:b<18446744073709551616):bits .xor .u64 (a:Int) (b:Int)=((a^^^b:Nat):Int):=by have e:=Nat.xor_lt_two_pow (n:=64) c d;show IntKind.u64.wrap ((BitVec.ofInt 64 (a:Int)^^^BitVec.ofInt 64 (b:Int)).toNat:Int)=_;rw[BitVec.toNat_xor,ofInt_u64 a c,ofInt_u64 b d,IntKind.wrap_u64];omega
def acM(h c):0<=xp h c/\xp h c<18446744073709551616:=by unfold xp;rw[IntKind.wrap_u64];omega
def GP(l):0<=hN l/\hN l<18446744073709551616:=have:∀(l:List UInt8)(a:Int),0<=a/\a<18446744073709551616->0<=l.foldl xp a/\l.foldl xp a<18446744073709551616:=by intro l;induction l with
  |nil=>intro a h;exact h
  |cons c l b=>intro a _;exact b _<|acM a c
 this l _ O9
def VY(l c):hN (l++[c])=xp (hN l) c:=by simp[hN]
def sf(l w)(n:l.length<=2000000):Cv 131 #[(mk l)] w λe W=>e=.returned (.int .u64<|hN l)/\W=w:=by
 have o:=cD l;go_enter fA func131,ntmps131;go_wp2;go_loop [3,7] (λh i=>∃k:Nat,k<=l/\i=↑k/\h=.int .u64 (hN<|l.take k)) (λ_ i=>l -(intOf i).toNat);exact⟨0,cH _,rfl,rfl⟩;case round=>
  obtain⟨k,j,rfl,rfl⟩:=hrel;by_cases a:k<l
  .have d:=dH l k (k:Int) rfl a;have f:l.take (k+1)=l.take k++[l[k]]:=by rw[rN a]
   have b:Hid (hN (l.take<|k+1)=xp (hN<|l.take k) (l.getD k 0)):=by unfold Hid;rw[f,VY];simp[a]
   have g:=(l.getD k 0).toNat_lt;generalize l.getD k 0=c at d b g;go_wp2;go_round;exact⟨k+1,O9,by go_num,by rw[b.out];rfl⟩;simp[intOf];omega
  have m:k=l:=O9;go_wp2;go_ret;exact⟨rfl,rfl⟩
def acN(n):∀m k,k<m->(be n m)[k]?=some (byteOf<|n/2^(8*(m -1 -k))%256)
 |m+1,0,_=>by simp[be]
 |m+1,k+1,h=>by have:=acN n m k O9;simp only[be,Ad,this];rw[show m+1 -1 -(k+1)=m -1 -k from by omega]
def SQ(n k y r)(b:k<8):(bv ((be n 8).take k)++(y::r)).set k (.int .u8<|n/2^(56 -8*k)%256)=bv ((be n 8).take<|k+1)++r:=by
 have c:(bv<|(be n 8).take k)=k:=by rw[qH,dJ,bI];omega
 rw[Ds _ _ O9,c,oz,(acN n 8 k b),show 8*(8 -1 -k)=56 -8*k from by omega];simp[bv,(fV _ (Nu _ O9)<|UJ _ O9)]
def qi(n w)(_h0:0<=n)(_h1:n<18446744073709551616):Cv 158 #[.int .u64 n] w λe W=>e=.returned (mk<|be n 8)/\Below w w W:=by
 go_enter fA func158,ntmps158;go_wp2;go_loopw [5] (λi wr=>∃(k:Nat)(r:List Value),k<=8/\i=k/\Row wr w 294 (bv ((be n 8).take k)++r)/\r=8 -k/\Below w w wr) (λi _=>8 -(intOf i).toNat);exact⟨0,[.int .u8 0,.int .u8 0,.int .u8 0,.int .u8 0,.int .u8 0,.int .u8 0,.int .u8 0,.int .u8 0],cH _,rfl,aX w _ _,rfl,B0.alloc L9 _⟩;case round=>
  obtain⟨k,r,p,rfl,R,a,d⟩:=hrel;by_cases l:k<8;.match r,a with
   |[],a=>simp at a;omega
   |y::r,a=>
     have h:(bv<|(be n 8).take k)=k:=by rw[qH,dJ,bI];omega
     have C:wr.cell? ((w:Nat),k)=some y:=by rw[R.cell,cZ O9,h,rK];rfl
     have F:=R.frozen k;have c:=R.set k (.int .u8<|n/2^(56 -8*k)%256);rw[SQ n k y r l]at c;go_wp2;go_roundw;exact⟨k+1,r,O9,by go_num,c,by have:=(aK a).out;simp[cQ]at this;omega,d.setCell L9 _⟩;simp[intOf];omega
  have m:r=[]:=lW O9;subst m;rw[kY,Dv<|by rw[bI];omega]at R;have f:=bI n 8;generalize b:be n 8=q at R f;have o:(convert 158 9<|.slice w.heap.size 8 8).run Vp wr=.ok (mk q) wr:=by have:=run_convert_bytes_back (P:=Vp) wr 158 9 5 ((w:Nat),0) 8 q aI.underlying158 aI.underlying5 aI.underlying9 (λj g=>by rw[add0,R.cell];simp[bv,g]);rw[f]at this;exact this
  go_wp2;go_ret;exact⟨by rw[(aK b).out];rfl,d⟩
def Bu(l w)(d:l.length<=1000000):Cv 117 #[(mk l)] w λe W=>e=.returned (.string (mk<|be (hN l) 8))/\Below w w W:=by
 have b:=GP l;go_enter fA func117,ntmps117;go_wp2;refine(sf l _ O9).m0 ?_;go_wp2;refine(qi (hN l) _ b.1 b.2).m1 λf c=>?_;generalize a:mk (be (hN l) 8)=q;go_wp2;go_ret;exact⟨by rw[(aK a).out];rfl,c⟩
end
open Go.CM (jI yw)
def bL.v(c:bL):Value:=.agg #[.string c.tx,.int .i64 c.idx,.int .i64 c.val,.string c.lock,.int .i64 c.aT,true]
def Wm:Value:=.agg #[aB,aA,aA,aB,aA,false]
def vT:Option bL->Value
 |none=>Wm
 |some c=>c.v
def qY(c:bL):Value×Value:=(wA c.pt,c.v)
def sX(n:Nat)(p:Pt):Nat:=(IntKind.u64.wrap (hN p.1.data.toList+IntKind.u64.wrap p.2)%(n:Int)).toNat
def Bo(n p)(h:1<=n):sX n p<n:=by
 unfold sX;generalize IntKind.u64.wrap (hN p.1.data.toList+IntKind.u64.wrap p.2)=z;have a:=UJ z<|show(0:Int)<n by omega
 omega
def fR(w:World)(m n i:Nat)(K:jH):Prop:=∃C:List bL,jI afp w m (C.map qY)/\(∀c∈C,K c.pt=some c/\sX n c.pt=i)/\∀p c,K p=some c->sX n p=i->c∈C
theorem fR.lt{w m n i K}(h:fR w m n i K):m<w:=have⟨C,h,_⟩:=h;h.lt
def fR.same{w W m n i K}(h:fR w m n i K)(e:W.heap[m]?=w.heap[m]?):fR W m n i K:=have⟨C,a,b⟩:=h;⟨C,a.same e,b⟩
def fR.ne{w m n i g K t c}(h:fR w m n i K)(r:Row w g t c):g≠m:=have⟨C,h,_⟩:=h;aiJ h r
def fR.other{w m n i K d}(h:fR w m n i K)(e:∀p,sX n p=i->d p=K p):fR w m n i d:=have⟨C,f,a,g⟩:=h;⟨C,f,λc b=>⟨(e _ (a c b).2).trans (a c b).1,(a c b).2⟩,λp c j H=>g p c ((e p H).symm.trans j) H⟩
def adb(w):(zeroValue 60).run Vp w=.ok Wm w:=have:=(aI.Pm 60 w).trans<|zeroValue60 w;this
def fR.look{w m n i K}(h:fR w m n i K)(q:∀p c,K p=some c->c.pt=p)(p)(H:sX n p=i):(Instr.lookup 194 (.map<|some m) (wA p) false).run Vp w=.ok (vT<|K p) w:=by
 have⟨C,e,f,g⟩:=h;rcases e.look acP aI.underlying194 (adb w) ⟨p,rfl⟩with⟨a,l⟩|⟨v,k,a⟩;rw[a];rcases d:K p with _|c;rfl;have:=q p c d;exact absurd (by show wA c.pt=wA p;rw[this])<|l (qY c) (tN<|g p c d H);have⟨c,j,b⟩:=gB.1 k;have r:c.v=v:=congrArg Prod.snd b;have:=(f c j).1;rw[(E0<|congrArg Prod.fst b)]at this;rw[a,this,<-r];rfl
theorem fR.put{w m n i K}(h:fR w m n i K)(c)(H:sX n c.pt=i)(f:K c.pt=none):∃o,(Instr.mapUpdate 194 (.map<|some m) (wA c.pt) c.v).run Vp w=.ok () (Go.ChangeMaps.setBlock w m o)/\fR (Go.ChangeMaps.setBlock w m o) m n i (K.put c):=by
 have⟨C,j,b,s⟩:=h;have⟨o,q,k⟩:=j.put (val:=c.v) acP aI.underlying194 ⟨c.pt,rfl⟩ (λx r=>by obtain⟨d,a,rfl⟩:=gB.1 r;intro e;have:=(b d a).1;rw[E0 e,f]at this;cases this)
 refine⟨o,q,C++[c],kq▸k,λd a=>?_,λp d g t=>?_⟩;obtain a|a:=nA.1 a;have:=b d a;have l:d.pt≠c.pt:=λe=>by rw[e,f]at this;cases this.1
 exact⟨by unfold jH.put;rw[if_neg l];exact this.1,this.2⟩;simp at a;subst a;exact⟨by unfold jH.put;rw[if_pos rfl],H⟩;unfold jH.put at g;split at g;simp_all;grind
def Ed{d g:Type}(f:d->g):∀(l:List d)(j:Nat)(x:d),(l.map f).Nodup->l[j]?=some x->∀y∈l.eraseIdx j,f y≠f x
 |[],j,x,_,h=>by simp at h
 |a::l,0,x,c,h=>by simp_all
 |a::l,j+1,x,c,h=>by simp at c;intro y b e;simp at b;obtain rfl|b:=b;grind;exact Ed f l j x c.2 h y b e
def mem_erase{d:Type}:∀(l:List d)(j:Nat)(x y:d),l[j]?=some x->y∈l->y≠x->y∈l.eraseIdx j
 |[],j,x,y,h,_,_=>by simp at h
 |a::l,0,x,y,h,b,c=>by simp_all
 |a::l,j+1,x,y,h,b,c=>by simp;obtain rfl|b:=jO.1 b;simp;exact .inr<|mem_erase l j x y h b c
theorem fR.take{w m n i K T}(h:fR w m n i K)(E:∀p c,K p=some c->c.pt=p)(p):∃o,(Builtin.delete_ #[194,48] T #[.map<|some m,wA p]).run Vp w=.ok (.tuple #[]) (Go.ChangeMaps.setBlock w m o)/\fR (Go.ChangeMaps.setBlock w m o) m n i (K.take p):=by
 have⟨C,s,l,A⟩:=h;have⟨o,G,F,u,f⟩:=s.drop (ty:=T) acP aI.underlying194 ⟨p,rfl⟩;refine⟨o,F,?_⟩;obtain⟨rfl,D⟩|⟨j,v,k,rfl⟩:=f;refine⟨C,u,λc f=>?_,λq c d y=>?_⟩;have g:c.pt≠p:=λe=>D (qY c) (tN f) (by show wA c.pt=wA p;rw[e]);exact⟨by unfold jH.take;rw[if_neg g];exact(l c f).1,(l c f).2⟩;unfold jH.take at d;split at d;cases d;grind;rw[eG]at k;rcases r:C[j]? with _|x;cases r▸k;rw[r]at k;have z:=E0 (congrArg Prod.fst<|iN k);have B:(C.map bL.pt).Nodup:=by have:=s.keys;rw[pQ]at this;have e:(Prod.fst∘qY)=wA∘bL.pt:=rfl;rw[e,<-pQ]at this;exact List.Pairwise.of_map wA (λa b g e=>g<|by rw[e]) this
 refine⟨C.eraseIdx j,by rw[Go.CM.C4];exact u,λc f=>?_,λq c d y=>?_⟩;have g:c.pt≠p:=z▸Ed bL.pt C j x B r c f;have t:=(ag8 C j).subset f;exact⟨by unfold jH.take;rw[if_neg g];exact(l c t).1,(l c t).2⟩;unfold jH.take at d;split at d;cases d;rename_i g;refine mem_erase C j x c r (A q c d y) λe=>g ?_;rw[<-E q c d,e,z]
structure aR(w:World)(gs n:Nat)(sb mb:Nat->Nat)(K:jH):Prop where
 arr:Row w gs 192 ((List.range n).map λi=>ptr<|sb i)
 sh:∀i,i<n->Row w (sb i) 196 (CJ<|mb i)
 mp:∀i,i<n->fR w (mb i) n i K
 pt:∀p c,K p=some c->c.pt=p
 inj:∀i j,i<n->j<n->mb i=mb j->i=j
 lo:1<=n
 hi:n<=16
def aR.xc{S w W g n s m K}(h:aR w g n s m K)(x:Xc S w W)(c:¬S g)(a:∀i,i<n->¬S (s i))(b:∀i,i<n->¬S (m i)):aR W g n s m K:=⟨h.arr.xc x c,λi H=>(h.sh i H).xc x<|a i H,λi H=>(h.mp i H).same (x.block _ (h.mp i H).lt<|b i H),h.pt,h.inj,h.lo,h.hi⟩
def aR.keep{w W g n s m K}(h:aR w g n s m K)(b:Below w w W):aR W g n s m K:=h.xc (S:=λ_=>False) (jS b) id (λ_ _=>id) λ_ _=>id
def aR.iV{w W G n i s M K b}(h:aR w G n s M K)(H:i<n)(x:Xc (λk=>k=M i) w W)(o:fR W (M i) n i b)(f:∀p,sX n p≠i->b p=K p)(l:∀p c,b p=some c->c.pt=p):aR W G n s M b:=by have d:=h.mp i H;refine⟨h.arr.xc x λe=>d.ne h.arr e,λj a=>(h.sh j a).xc x λe=>d.ne (h.sh j a) e,λj a=>?_,l,h.inj,h.lo,h.hi⟩;by_cases e:j=i;simp_all;exact((h.mp j a).same (x.block _ (h.mp j a).lt λc=>e<|h.inj j i a H c)).other λp m=>f p λc=>e<|m.symm.trans c
def ade{K:jH}{c}(h:∀p c,K p=some c->c.pt=p):∀p d,(K.put c) p=some d->d.pt=p:=by intro p d a;unfold jH.put at a;split at a;simp_all;grind
def Wn{K:jH}{q}(h:∀p c,K p=some c->c.pt=p):∀p d,(K.take q) p=some d->d.pt=p:=by intro p d a;unfold jH.take at a;split at a;cases a;grind
structure sJ(p:Pt):Prop where
 sz:p.1.size<=2000000
 lo:-9223372036854775808<=p.2
 hi:p.2<9223372036854775808
def PO(z):0<=IntKind.u64.wrap z/\IntKind.u64.wrap z<18446744073709551616:=⟨Nu _ D9,UJ _ D9⟩
def C5{m n}{s:Nat->Nat}(p w)(R:Row w m 192 ((List.range n).map λi=>ptr<|s i))(k:sJ p)(t:1<=n)(G:n<=16):Cv 91 #[.agg #[.slice m n n],wA p] w λe A=>e=.returned (ptr (s<|sX n p))/\Below w w A:=by
 have⟨a,b⟩:=p;have q:=Bo n (a,b) t;have o:=λW=>sf a.data.toList W (by have:=k.sz;simpa using this);have u:=GP a.data.toList;have r:Hid (sX n (a,b)=(IntKind.u64.wrap (hN a.data.toList+IntKind.u64.wrap b)%(n:Int)).toNat):=rfl;have x:=k.lo;have y:=k.hi;simp only at x y;generalize hN a.data.toList=h at o u r;unfold wA;have f:Below w w ((w.alloc<|.cells #[.slice m n n] 125).alloc<|.cells #[a,b] 48):=(B0.alloc L9 _).alloc Z9 _;have c:=(aX w [.slice m n n] 125).alloc<|.cells #[a,b] 48;have g:=aX (w.alloc<|.cells #[.slice m n n] 125) [a,b] 48;rw[cR]at g;have R:=R.keep f R.lt;go_enter fA func91,ntmps91;go_wp2;generalize(w.alloc _).alloc _=X at f c g R|-;have K:=cell_regrown<|show X.cell? ((w:Nat),0)=some (.slice m n n)from c.cell 0;have D:=cell_regrown<|show X.cell? ((w:Nat)+1,0)=some a from g.cell 0;have I:=cell_regrown<|show X.cell? ((w:Nat)+1,1)=some b from g.cell 1;have E:∀d O,Cv 131 #[a] (Go.Sort.grow (redrawn X d) O) λe F=>e=.returned (.int .u64 h)/\∃p:Regrown,F=Go.Sort.grow (redrawn X p.d) p.os:=λd O=>Calls.regrown_of<|(o _).mono λe A⟨v,z⟩=>⟨v,z▸B0⟩
 refine wp_region_quiet_below nO K8 ?_;repeat(go_big_quiet_step (first|(go_at_call 131;exact E _ _)))
 refine vZ λl j=>?_;have K:=(c.keep j c.lt).r 0;have C:(IntKind.u64.wrap<|h+IntKind.u64.wrap b).tmod (n:Int)=((sX n (a,b):Nat):Int):=by
  rw[r.out];have B:0<=IntKind.u64.wrap (h+IntKind.u64.wrap b):=have:=PO<|h+IntKind.u64.wrap b;this.1
  rw[ag9 B];have:=Nu (IntKind.u64.wrap<|h+IntKind.u64.wrap b)<|show(n:Int)≠0 by omega
  omega
 rw[C];generalize H:sX n (a,b)=i at q|-;have D:l.cell? (m,i)=some (.pointer (s i,0)):=by rw[(R.keep j R.lt).cell];simp[q,ptr]
 go_wp2;go_ret;exact⟨by rw[(aK H).out];rfl,(f.trans<|j.mono f.size)⟩
end Go.Proofs.aH
