import Derived.Lib.QuietBelow
import Derived.Deep.RegionWith
import Derived.Laws.CopyRow
import Derived.Deep.RegionHeld3
import Derived.Recover
import Derived.Lib.ConvBytes
import Derived.Laws.BitsAllLaws
import Derived.Test.YtpjcmpfncpnmeaaGreatM03
set_option linter.all false
set_option maxHeartbeats 1000000
set_option maxRecDepth 100000
namespace Go.Proofs.aH
open Go.RowKit
section
variable[Go.Proofs.VB]
def aI.mixed:aI.prog.follows .mixedOrders=true:=K8
def Em:=@aI.mixed
def acK(bare:Bool)(s:ByteArray):ByteArray:=if bare then⟨#[]⟩else s
def TP(bare s)(h:s.size<=32):(acK bare s).size<=32:=by
 cases bare;.exact h
 .show(ByteArray.mk #[]).size<=32;exact eX _
def sS(bare:Bool)(x:jR):List UInt8:=cR x.tx++be x.idx 1++(be (acK bare x.key).size 1++cR (acK bare x.key))
def pz(bare:Bool)(tag:Int)(ins:List jR)(outs:List eY):List UInt8:=be tag 2++be ins.length 1++ins.flatMap (sS bare)++be outs.length 1++outs.flatMap eY.bytes
def Io(bare x)(h:x.Small):(sS bare x).length<=42:=by obtain⟨b,_,a,_⟩:=h;have:=TP bare x.key a;simp[sS,bI,fB];omega
end
section
variable[Go.Proofs.VB]
def dA.ZK(s t:dA):Prop:=s.tag=t.tag/\s.ins=t.ins/\s.outs=t.outs
def Cz(l m:List dA):Prop:=l.length=m.length/\∀(i:Nat) (s t:dA),l[i]?=some s->m[i]?=some t->s.ZK t
end
section
def Yp:=@Below.heap_alloc
variable[Go.Proofs.VB]
def Row(w:World)(g:Nat)(t:TypeId)(cs:List Value):Prop:=w.heap[g]?=some (.cells cs.toArray t (0,0))
def Row.lt{w g t cs}(h:Row w g t cs):g<w:=(eK.1 h).1
def Row.keep{w w' g B t cs}(h:Row w g t cs)(a:Below B w w')(b:g<B):Row w' g t cs:=(a.block g b).trans h
def Ll:=@Row.keep
def Row.cell{w g t cs}(h:Row w g t cs)(j):w.cell? ⟨g,j,none⟩=cs[j]?:=by simp only[World.cell?,show w.heap[g]?=some (.cells cs.toArray t (0,0))from h];simp
def Ma:=@Row.cell
def Row.frozen{w g t cs}(h:Row w g t cs)(j):w.frozen? ⟨g,j,none⟩=false:=by simp only[World.frozen?,show w.heap[g]?=some (.cells cs.toArray t (0,0))from h];simp
def Yj:=@Row.frozen
def Row.set{w g t cs}(h:Row w g t cs)(j v):Row (w.setCell (g,j) v) g t (cs.set j v):=by unfold Row;rw[setCell_eq_setRow w g j cs.toArray t (0,0) v h,setRow_heap w g _ _ t (0,0) h];simp
def Row.new(w:World)(cs t):Row (w.alloc (.cells cs.toArray t)) w t cs:=uP w _
def aV:=@Row.new
def Row.alloc{w g t cs}(h:Row w g t cs)(o):Row (w.alloc o) g t cs:=(Yp w o g h.lt).trans h
def Row.three{w g t cs}(h:Row w g t cs)(n)(a:n+3<=cs.length):(∃u,w.cell? (g,n)=some u)/\(∃u,w.cell? (g,n+1)=some u)/\(∃u,w.cell? (g,n+2)=some u)/\
 w.frozen? (g,n)=false/\w.frozen? (g,n+1)=false/\w.frozen? (g,n+2)=false:=by
 refine⟨?_,?_,?_,h.frozen _,h.frozen _,h.frozen _⟩<;>rw[h.cell]<;>exact⟨_,cN O9⟩
def Row.two{w g t cs}(h:Row w g t cs)(n)(a:n+2<=cs.length):(∃u,w.cell? (g,n)=some u)/\(∃u,w.cell? (g,n+1)=some u)/\
 w.frozen? (g,n)=false/\w.frozen? (g,n+1)=false:=by
 refine⟨?_,?_,h.frozen _,h.frozen _⟩<;>rw[h.cell]<;>exact⟨_,cN O9⟩
def TQ{a b:World}(c:a.heap=b.heap)(d:a.tape=b.tape)(e:a.drawn=b.drawn)(f:a.os=b.os)(g:a.output=b.output):a=b:=by cases a;cases b;simp_all
def OC(w:World)(a b t):(w.alloc (.cells a t)).setRow w b=w.alloc (.cells b t):=by
 refine TQ ?_ rfl rfl rfl rfl;apply yl;intro i;by_cases hi:i=(w:Nat);.subst hi;rw[setRow_heap _ _ a b t (0,0) (uP w _),uP]
 .rw[setRow_other _ _ _ _ hi];by_cases c:i<(w:Nat);.rw[Yp w _ i c,Yp w _ i c]
  .rw[I7 (by simp;omega),I7 (by simp;omega)]
def jR.cells(x:jR):List Value:=[.string x.tx,.int .i64 x.idx,.string x.key]
def eY.cells(x:eY):List Value:=[.int .i64 x.val,.string x.lock]
def mN(l:List jR):List Value:=l.flatMap jR.cells
def lS(l:List eY):List Value:=l.flatMap eY.cells
def rp(l):(mN l).length=l.length*3:=by induction l with
 |nil=>rfl
 |cons x l a=>simp only[mN,uR,cK]at*;simp only[jR.cells,fH,jU];omega
def zI(l):(lS l).length=l.length*2:=by induction l with
 |nil=>rfl
 |cons x l a=>simp only[lS,uR,cK]at*;simp only[eY.cells,fH,jU];omega
def vJ:∀l i x,l[i]?=some x->(mN l)[i*3]?=some x.tx/\(mN l)[i*3+1]?=some (.int .i64 x.idx)/\(mN l)[i*3+2]?=some (.string x.key)
 |[],i,x,h=>by simp at h
 |y::l,0,x,h=>by simp at h;subst h;exact⟨rfl,rfl,rfl⟩
 |y::l,i+1,x,h=>by have:=vJ l i x (by simpa using h);have e:mN (y::l)=y.cells++mN l:=rfl;rw[e];simp[show(i+1)*3=3+i*3 from by omega,show 3+i*3+1=3+(i*3+1)from by omega,show 3+i*3+2=3+(i*3+2)from by omega];have a:y.cells.length=3:=rfl;rw[eZ O9,eZ O9,eZ O9];simpa[a]using this
def wG:∀l i x,l[i]?=some x->(lS l)[i*2]?=some x.val/\(lS l)[i*2+1]?=some (.string x.lock)
 |[],i,x,h=>by simp at h
 |y::l,0,x,h=>by simp at h;subst h;exact⟨rfl,rfl⟩
 |y::l,i+1,x,h=>by have:=wG l i x (by simpa using h);have e:lS (y::l)=y.cells++lS l:=rfl;rw[e];simp[show(i+1)*2=2+i*2 from by omega,show 2+i*2+1=2+(i*2+1)from by omega];have a:y.cells.length=2:=rfl;rw[eZ O9,eZ O9];simpa[a]using this
def xY{α:Type}{l m:List α}{i:Nat}{x}(h:l[i]?=some x):(l++m)[i]?=some x:=by grind
def GQ{w g t l rest c}(h:Row w g t (mN l++rest))(b:l.length<=140737488355328):vF w (.slice g l.length c) l:=⟨⟨_,_,rfl,λ_=>⟨g,0,rfl,λi x d=>by
   obtain⟨e,f,a⟩:=vJ l i x d;refine⟨?_,?_,?_⟩<;>rw[h.cell,jF];.grind
   .grind
   .exact xY a⟩⟩,b⟩
def EK{w g t l rest c}(h:Row w g t (lS l++rest))(b:l.length<=140737488355328):qA w (.slice g l.length c) l:=⟨⟨_,_,rfl,λ_=>⟨g,0,rfl,λi x d=>by
   obtain⟨e,a⟩:=wG l i x d;refine⟨?_,?_⟩<;>rw[h.cell,jF];.grind
   .exact xY a⟩⟩,b⟩
end
section
def aeA:=@Array.length_toList
def aeB:=@size_madeCells
variable[Go.Proofs.VB]
def aI.acL:(aI.prog.info? 139).map (λi=>(i.zero,i.size,i.bytes))=some (some (.agg #[aB,aA,aB]),3,40):=K8
def Xg:=@aI.acL
def aI.aaE:(aI.prog.info? 86).map (λi=>(i.zero,i.size,i.bytes))=some (some (.agg #[aA,aB]),2,24):=K8
def abC:=@aI.aaE
def aI.acM:(aI.prog.info? 90).map (λi=>(i.zero,i.size,i.bytes))=some (some (.agg #[aA,(),()]),3,56):=K8
def Le:=@aI.acM
def GP(n:Nat):List Value:=(madeCells #[aB,aA,aB] (n*3)).toList
def TY(n:Nat):List Value:=(madeCells #[aA,aB] (n*2)).toList
def Ym(n:Nat):List Value:=(madeCells #[aA,.slice none 0 0,.slice none 0 0] (n*3)).toList
def Qk(n):(GP n).length=n*3:=by unfold GP;rw[Array.length_toList,size_madeCells]
def aaD(n):(TY n).length=n*2:=by unfold TY;rw[Array.length_toList,size_madeCells]
def aaA(n):(Ym n).length=n*3:=by unfold Ym;rw[Array.length_toList,size_madeCells]
def Row.aM{w g t cs}(h:Row w g t cs)(a v)(b:g≠a.block):Row (w.setCell a v) g t cs:=(Below.heap_setCell w a v g b).trans h
def Er{B a w}(h:Below B a w)(g c d e v1 v2 v3)(b:B<=g):Below B a (((w.setCell ⟨g,c,none⟩ v1).setCell ⟨g,d,none⟩ v2).setCell ⟨g,e,none⟩ v3):=
 ((h.setCell (p:=(g,c)) b v1).setCell (p:=(g,d)) b v2).setCell (p:=(g,e)) b v3
def Am{w w':World}{r}(h:w.grownBy w' r)(g)(a:r=some g\/w<=g)(o v):w.grownBy (w'.setCell ⟨g,o,none⟩ v) r:=by
 refine⟨h.os,h.tape,h.output,?_,λk b c=>?_⟩;.simp;exact h.size
 .rw[Below.heap_setCell w' (g,o) v k (by
   show k≠g;obtain rfl|a:=a;.simp_all
   .omega)]
  exact h.block k b c
end
section
variable[Go.Proofs.VB]
structure St where
 steps:Nat
 l:List Int
inductive vz(α:Type) where
 |ok (a:α) (s:St)
 |bad (e:Int) (steps:Nat)
def Cg(x:Int):Value:=.int .u64 x
def sP(id:ByteArray)(h:Int)(s:St)(ZI:List Int):List Value:=[.string id,.int .u64 h,.int .i64 s.steps]++((s.l.reverse++ZI).map Cg++[.int .i64 s.l.length])
structure iE(w:World)(b:Nat)(id:ByteArray)(h:Int)(s:St):Prop where
 row:∃ZI:List Int,Row w b 339 (sP id h s ZI)/\s.l.length+ZI.length=16
 xJ:∀x∈s.l,0<=x/\x<18446744073709551616
 steps:s.steps<=40
 Aj:0<=h/\h<18446744073709551616
def KJ(e:Int):List PanicEntry:=[{v:=.iface 38 (.int .i64 e),recovered:=false}]
def Post{α:Type}(P:α->Value)(w:World)(b:Nat)(id:ByteArray)(h:Int)(r:vz α)(e:Ending)(w':World):Prop:=w.grownBy w' (some b)/\match r with
 |.ok a s=>e=.returned (P a)/\iE w' b id h s
 |.bad k n=>e=.panicked (KJ k)/\∃s,s.steps=n/\iE w' b id h s
def jW(_:Unit):Value:=.tuple #[]
def Ih(w:World)(n r):w.grownBy (w.drewN n) r:=⟨rfl,rfl,rfl,L9,λ_ _ _=>rfl⟩
def iE.n{w b id h s}(a:iE w b id h s)(n):iE (w.drewN n) b id h s:=⟨a.row,a.xJ,a.steps,a.Aj⟩
def sO(s:St):vz Unit:=if s.steps=40 then .bad 4 40 else .ok () ⟨s.steps+1,s.l⟩
def pH(x:Int)(s:St):vz Unit:=if s.l.length=16 then .bad 3 s.steps else .ok () ⟨s.steps,x::s.l⟩
def kL(s:St):vz Int:=match s.l with
 |[]=>.bad 3 s.steps
 |x::l=>.ok x ⟨s.steps,l⟩
def p8(w:World)(b o v):w.grownBy (w.setCell ⟨b,o,none⟩ v) (some b):=Am (aZ w _) b (.inl rfl) o v
def fA{w w':World}{r}(h:w.grownBy w' r):w.grownBy w'.drew r:=⟨h.os,h.tape,h.output,h.size,h.block⟩
def tN(id h s a)(b:s.l.length+a.length=16):(sP id h s a)[19]?=some (.int .i64 s.l.length):=by unfold sP;rw[eZ S8,eZ (by simp;omega)];simp;rw[show 19 -(0+1+1+1) -(s.l.length+a.length)=0 from by omega];rfl
def GM(id h n x l a):(sP id h ⟨n,x::l⟩ a)[3+l.length]?=some (.int .u64 x):=by unfold sP;rw[eZ S8,pK S8];simp[Cg]
def NB(id h n y l a):(sP id h ⟨n,l⟩ (y::a))[3+l.length]?=some (.int .u64 y):=by unfold sP;rw[eZ S8,pK S8];simp[Cg]
def ZJ(x y n m l a k k2)(b:k=l.length)(c:k2=l.length+1+a.length):(((l++(y::a)).map Cg++[n]).set k (.int .u64 x)).set k2 m=((l++[x])++a).map Cg++[m]:=by
 subst b c;simp[Cg,Ue,Nat.add_comm 1]
def Sz(id h n x y l a)(b:l.length+(a.length+1)=16):((sP id h ⟨n,l⟩ (y::a)).set (3+l.length) (.int .u64 x)).set 19 ↑((l.length:Int)+1)=sP id h ⟨n,x::l⟩ a:=by
 unfold sP;rw[ug _ _ S8,ug _ _ S8];rw[ZJ x y _ _ l.reverse a _ _ S8 (by simp;omega)];simp
def NC(id h n x l a)(b:l.length+1+a.length=16):(sP id h ⟨n,x::l⟩ a).set 19 (l.length:Int)=sP id h ⟨n,l⟩ (x::a):=by
 unfold sP;rw[ug _ _ S8,ug _ _ (by simp;omega)];simp only[fH,jU,iB,cK,List.length_reverse];rw[show 19 -(0+1+1+1) -(l.length+1+a.length)=0 from by omega];simp
def Al(w b id h s)(a:iE w b id h s):Calls aI.prog 259 #[.pointer b] w (Post jW w b id h (sO s)):=by
 obtain⟨f,d,e⟩:=a.row;have c2:=d.cell 2;have i:=d.frozen 2;have g:=a.steps;replace c2:w.cell? (b,2)=some ↑s.steps:=c2;by_cases c:s.steps=40;.go_enter aI.func259,Tryz.ntmps259;go_wp2_with fail;refine⟨rfl,aZ _ _,?_⟩;unfold sO;rw[bM c];exact⟨rfl,s,c,a⟩
 .go_enter aI.func259,Tryz.ntmps259;go_wp2_with fail;go_end0;unfold sO;rw[aX c];refine⟨p8 _ _ _ _,rfl,⟨f,?_,e⟩,a.xJ,?_,a.Aj⟩;.exact d.set 2 ↑((s.steps:Int)+1)
  .grind
def mJ(w b id h x s)(d:iE w b id h s)(m:0<=x/\x<18446744073709551616):Calls aI.prog 260 #[.pointer b,.int .u64 x] w (Post jW w b id h (pH x s)):=by
 obtain⟨e,a,c⟩:=d.row;have c2:=(a.cell 19).trans (tN id h s e c);have p:=a.frozen 19;by_cases f:s.l.length=16
 .have k:((s.l.length:Int)==16)=true:=by rw[f];rfl
  go_enter aI.func260,Tryz.ntmps260;go_wp2_with fail;refine⟨rfl,aZ _ _,?_⟩;unfold pH;rw[bM f];exact⟨rfl,s,rfl,d⟩
 .have k:((s.l.length:Int)==16)=false:=by simpa using(by omega:¬(s.l.length:Int)=16)
  have o:0<=(s.l.length:Int)/\(s.l.length:Int)<16:=O9;have q:=a.frozen (3+s.l.length);obtain⟨n,l⟩:=s;cases e with
  |nil=>exact absurd c f
  |cons y e=>
    have c3:=(a.cell (3+l.length)).trans (NB id h n y l e);go_enter aI.func260,Tryz.ntmps260;go_wp2_with fail;go_region;have i:=a.set (3+l.length) (.int .u64 x);have c4:=i.cell 19;rw[uh O9,tN _ _ _ _ c]at c4;go_wp2_with fail;go_end0;unfold pH;rw[aX f];refine⟨fA ((p8 _ _ _ _).trans (p8 _ _ _ _)),rfl,⟨e,?_,by simp only[fH]at c|-;omega⟩,?_,d.steps,d.Aj⟩;.have j:=i.set 19 ↑((l.length:Int)+1);rw[Sz _ _ _ _ _ _ _ c]at j;exact j
    .intro z g;obtain rfl|g:=gA.1 g;.exact m
     .exact d.xJ z g
def kR(w b id h s)(a:iE w b id h s):Calls aI.prog 266 #[.pointer b] w (Post Cg w b id h (kL s)):=by
 obtain⟨e,c,d⟩:=a.row;have c2:=(c.cell 19).trans (tN id h s e d);have j:=c.frozen 19;obtain⟨n,l⟩:=s;cases l with
 |nil=>go_enter aI.func266,Tryz.ntmps266;go_wp2_with fail;exact⟨rfl,aZ _ _,rfl,_,rfl,a⟩
 |cons x l=>have i:=(c.cell (3+l.length)).trans (GM id h n x l e);simp at d;go_enter aI.func266,Tryz.ntmps266;go_wp2_with fail;go_region;go_wp2_with fail;go_ret;refine⟨fA (p8 _ _ _ _),rfl,⟨x::e,?_,by simp;omega⟩,λz g=>a.xJ z (Pb _ g),a.steps,a.Aj⟩;have f:=c.set 19 ↑(l.length:Int);rw[NC _ _ _ _ _ _ d]at f;exact f
def Nz(s:St):vz Unit:=match s.l with
 |[]=>.bad 7 s.steps
 |x::l=>if x=0 then .bad 7 s.steps else .ok () ⟨s.steps,x::l⟩
def Wt(w b id h s)(a:iE w b id h s):Calls aI.prog 238 #[.pointer b] w (Post jW w b id h (Nz s)):=by
 obtain⟨f,c,e⟩:=a.row;have c2:=(c.cell 19).trans (tN id h s f e);have m:=c.frozen 19;obtain⟨n,l⟩:=s;cases l with
 |nil=>replace c2:w.cell? (b,19)=some ↑aA:=c2;go_enter aI.func238,Tryz.ntmps238;go_wp2_with fail;go_quiet (fail);go_wp2_with fail;exact⟨rfl,Ih w _ _,rfl,_,rfl,a.n nq⟩
 |cons x l=>
   have j:=(c.cell (3+l.length)).trans (GM id h n x l f);replace c2:w.cell? (b,19)=some ↑((l.length:Int)+1):=c2;simp only[fH]at e;have g:(((l.length:Int)+1)==0)=false:=by simpa using(by omega:¬(l.length:Int)+1=0)
   have i:0<=(l.length:Int)/\(l.length:Int)<16:=O9;by_cases d:x=0;.subst d;go_enter aI.func238,Tryz.ntmps238;go_wp2_with fail;go_quiet (fail);go_wp2_with fail;exact⟨rfl,Ih w _ _,rfl,_,rfl,a.n nq⟩
   .have k:(x==0)=false:=by simpa using d
    go_enter aI.func238,Tryz.ntmps238;go_wp2_with fail;go_quiet (fail);go_wp2_with fail;go_end0;unfold Nz;simp only[aX d];exact⟨Ih w _ _,rfl,a.n nq⟩
def iP(b:Bool):Int:=if b then 1 else 0
def Ak(a w):Calls aI.prog 268 #[.bool a] w λe w'=>e=.returned (.int .u64 (iP a))/\w'=w:=by
 cases a;.go_enter aI.func268,Tryz.ntmps268;go_wp2_with fail;go_ret;exact⟨rfl,rfl⟩
 .go_enter aI.func268,Tryz.ntmps268;go_wp2_with fail;go_ret;exact⟨rfl,rfl⟩
end
section
variable[Go.Proofs.VB]
structure RS where
 l:List UInt8
 bad:Bool
def qL(w:World)(rb:Nat)(r:RS):Prop:=Row w rb 224 [.string (mk r.l),.bool r.bad]
structure uJ(w w':World)(rb:Nat)(r:RS):Prop where
 at_:qL w' rb r
 grown:w.grownBy w' (some rb)
def uJ.trans{a b c rb r s}(h:uJ a b rb r)(k:uJ b c rb s):uJ a c rb s:=⟨k.at_,h.grown.trans k.grown⟩
def uJ.below{a b c rb r}(h:uJ a b rb r)(d:Below b b c):uJ a c rb r:=⟨Ll h.at_ d (Row.lt h.at_),h.grown.trans ⟨d.os,d.tape,d.output,d.size,λk e _=>d.block k e⟩⟩
def RS.take(r:RS)(n:Nat):List UInt8×RS:=if r.bad||decide (r.l.length<n)then([],⟨r.l,true⟩)else(r.l.take n,⟨r.l.drop n,false⟩)
def IU(l n):(mk l).extract 0 n=mk (l.take n):=by apply ByteArray.ext;simp[mk]
def IV(l n):(mk l).extract n l.length=mk (l.drop n):=by apply ByteArray.ext;simp[mk];exact Pf S8
def IW{w rb r}(h:qL w rb r)(s j v)(e:[Value.string (mk r.l),Value.bool r.bad].set j v=[↑(mk s.l),.bool s.bad]):uJ w (w.setCell (rb,j) v) rb s:=by
 refine⟨?_,?_⟩;.have:=Row.set h j v;rw[e]at this;exact this
 .refine⟨rfl,rfl,rfl,?_,λk _ a=>?_⟩;.simp
  .exact Below.heap_setCell w (rb,j) v k (by show k≠rb;intro e;exact a (by rw[e]))
def L8(rb r)(n:Nat)(w)(a:qL w rb r)(f:n<=1000):Calls aI.prog 192 #[.pointer rb,n] w λe w'=>e=.returned (mk (r.take n).1)/\uJ w w' rb (r.take n).2:=by
 have h0:w.cell? (rb,0)=some ↑(mk r.l):=Ma a 0;have d:w.cell? (rb,1)=some (.bool r.bad):=Ma a 1;have f0:w.frozen? (rb,0)=false:=Yj a 0;have f1:w.frozen? (rb,1)=false:=Yj a 1;have g:=dC r.l;cases b:r.bad;case true=>
  rw[b]at d;go_enter aI.func192,Tryz.ntmps192;go_wp2;go_ret;have e:r.take n=([],⟨r.l,true⟩):=by simp[RS.take,b]
  rw[e];exact⟨rfl,IW a _ 1 _ rfl⟩
 rw[b]at d;by_cases c:(mk r.l).size<n
 .go_enter aI.func192,Tryz.ntmps192;go_wp2;go_ret;have e:r.take n=([],⟨r.l,true⟩):=by rw[dC]at c;simp[RS.take,c]
  rw[e];exact⟨rfl,IW a _ 1 _ rfl⟩
 .go_enter aI.func192,Tryz.ntmps192;go_wp2;go_ret;have e:r.take n=(r.l.take n,⟨r.l.drop n,false⟩):=by rw[dC]at c;simp[RS.take,b,c]
  rw[e];refine⟨congrArg (λs=>Ending.returned (.string s)) (IU r.l n),?_⟩;rw[IV];exact IW a _ 0 _ (by simp[b])
def TH(n:Nat):List Value:=(madeCells #[.int .u8 0] (n*1)).toList
def QW(n):(TH n).length=n:=by unfold TH;rw[Array.length_toList,size_madeCells];omega
def adW(n:Nat)(h:n<=1000000)(w):(Instr.makeSlice 158 (n:Int) (n:Int)).run aI.prog w=.ok (.slice (w:Nat) n n) (w.alloc (.cells (TH n).toArray 5)):=by obtain⟨d,hi,a,b,c⟩:=info_parts GH;have:=uN (P:=aI.prog) w 158 5 d _ aI.underlying158 hi a .i64 .i64 (n:Int) (n:Int) O9 (nB _) (by rw[c];omega) O9;rw[this,b];simp[TH,Value.cells]
def adX(w:World)(l ty):(Builtin.copy_ #[158,9] ty #[.slice (w:Nat) l.length l.length,(mk l)]).run aI.prog (w.alloc (.cells (TH l.length).toArray 5))=.ok l.length (w.alloc (.cells (bv l).toArray 5)):=by
 obtain⟨i,hi,f,d,g⟩:=info_parts GH;have a:=run_storeCells_at aI.prog w 0 5 (bv l) 0 (TH l.length).toArray (w.alloc (.cells (TH l.length).toArray 5)) (uP w _) (by simp[p6,QW]) (Eh l);simp at a;rw[OC,show(TH l.length).drop (bv l).length=[]from by rw[List.drop_eq_nil_iff,QW,p6];exact L9,nS]at a;have b:(Builtin.firstCells 1 l.length (mk l)).run aI.prog (w.alloc (.cells (TH l.length).toArray 5))=.ok (bv l).toArray (w.alloc (.cells (TH l.length).toArray 5)):=by have h:=Go.Lib.run_firstCells_string (P:=aI.prog) (w.alloc (.cells (TH l.length).toArray 5)) 1 (mk l);exact h
 have c:(Builtin.lenOf (mk l)).run aI.prog (w.alloc (.cells (TH l.length).toArray 5))=.ok l.length (w.alloc (.cells (TH l.length).toArray 5)):=by simp[Builtin.lenOf,dC]
 have e:Nat.min l.length l.length=l.length:=Nat.min_self _;simp[Builtin.copy_,typeInfo,hi,d,c,b,a,goInt]
def aI.Yl:aI.prog.cellsOf 5=1:=K8
def IX(w g n){B a}(h:Below B a w)(b:B<=g):Below B a (w.freeze (g,0) n):=by
 unfold World.freeze;split;.exact h
 .refine h.trans ⟨rfl,rfl,rfl,S8,λk c=>?_⟩;simp only[OX];rw[aX (by show¬g=k;omega)]
def TJ(l w)(c:l.length<=1000000):Calls aI.prog 214 #[(mk l)] w λe w'=>e=.returned (mk l)/\Below w w w':=by
 have i:=dC l;by_cases h0:l=[];.subst h0;go_enter aI.func214,Tryz.ntmps214;go_wp2;go_ret;exact⟨rfl,B0⟩
 .have d:0<l.length:=by
   obtain _|⟨a,l⟩:=l;.simp_all
   .simp
  have g:=adW l.length c;have f:=adX w l;have h:=Go.Lib.run_unsafeString_row (P:=aI.prog) (w.alloc (.cells (bv l).toArray 5)) 329 3 9 5 aI.underlying329 aI.Yl ↑w l.length (by simp only[World.shape?,uP];simp[p6]) l h0 L9 O9 (λj x b=>by
     have e:(((w:Nat),0):Addr).add j=((w:Nat),j):=by unfold Addr.add;split<;>simp_all
     rw[e];simp[bv,b])
  go_enter aI.func214,Tryz.ntmps214;go_wp2;go_ret;exact⟨rfl,IX _ _ _ (B0.alloc L9 _) L9⟩
def OD(l w)(b:l.length<=1000000):Calls aI.prog 191 #[(mk l)] w λe w'=>e=.returned (mk l)/\Below w w w':=by
 go_enter aI.func191,Tryz.ntmps191;go_wp2_with fail;refine(TJ l w b).mono ?_;rintro e w' ⟨rfl,a⟩;go_wp2;go_ret;exact⟨rfl,a⟩
def take_len(r:RS)(n):(r.take n).1.length<=n:=by
 unfold RS.take;split;.simp
 .simp_all
def E5(rb r)(n:Nat)(w)(d:qL w rb r)(c:n<=1000):Calls aI.prog 155 #[.pointer rb,n] w λe w'=>e=.returned (mk (r.take n).1)/\uJ w w' rb (r.take n).2:=by
 go_enter aI.func155,Tryz.ntmps155;go_wp2_with fail;refine(L8 rb r n w d c).mono ?_;rintro e w1 ⟨rfl,a⟩;go_wp2_with fail;refine(OD (r.take n).1 w1 (by have:=take_len r n;omega)).mono ?_;rintro e w2 ⟨rfl,b⟩;go_wp2;go_ret;exact⟨rfl,a.below b⟩
end
section
variable[Go.Proofs.VB]
def fI(t:List UInt8):Int:=t.foldl (λn c=>n*256+(c.toNat:Int)) 0
def Ek(t c):fI (t++[c])=fI t*256+(c.toNat:Int):=by simp[fI]
def Hu:∀(t:List UInt8) (a:Int),0<=a->0<=t.foldl (λn c=>n*256+(c.toNat:Int)) a/\t.foldl (λn c=>n*256+(c.toNat:Int)) a<(a+1)*256^t.length
 |[],a,h=>by simp;omega
 |c::t,a,h=>by have f:=c.toNat_lt;obtain⟨b,d⟩:=Hu t (a*256+(c.toNat:Int)) O9;refine⟨b,CL d ?_⟩;rw[fH,Int.pow_succ];have e:(0:Int)<256^t.length:=Int.pow_pos D9;rw[show(a+1)*(256^t.length*256)=(a+1)*256*256^t.length from by rw[Int.mul_assoc,Uz 256]];exact Int.mul_le_mul_of_nonneg_right O9 (Uo e)
def Ej(t):0<=fI t/\fI t<256^t.length:=by have:=Hu t 0 O9;simpa[fI]using this
def Md(t)(h:t.length<=4):0<=fI t/\fI t<4294967296:=by obtain⟨a,b⟩:=Ej t;refine⟨a,CL b ?_⟩;have c:t.length=0\/t.length=1\/t.length=2\/t.length=3\/t.length=4:=O9;obtain e|e|e|e|e:=c<;>rw[e]<;>decide
def aaB(w t):∃c w',(convert 9 158 (mk t)).run aI.prog w=.ok (.slice (w:Nat) t.length c) w'/\Below w w w'/\∀j (a:j<t.length),w'.cell? ((w:Nat),j)=some (.int .u8 (t[j].toNat:Int)):=by
 have h:=Go.Lib.run_convert_string_bytes (P:=aI.prog) w 9 158 5 (mk t) aI.underlying9 aI.underlying158 aI.underlying5;refine⟨_,_,h,?_,λj a=>?_⟩;.refine⟨rfl,rfl,rfl,by rw[Go.Lib.bytesWorld_size];omega,λk b=>Go.Lib.bytesWorld_at_old w _ _ k b⟩
 .rw[Go.Lib.bytesWorld_cell _ _ _ _ (by rw[dC];exact a)];simp[mk,a]
def aaC(a)(b:Nat)(h0:0<=a)(e:a<4294967296)(c:b<256):bits .or .i64 (a*256) (b:Int)=a*256+(b:Int):=by obtain⟨n,rfl⟩:=wU h0;have d:n*256<18446744073709551616:=O9;have f:=nat_join8 (n*256) b O9 c;show IntKind.i64.wrap ((BitVec.ofInt 64 ((n:Int)*256)|||BitVec.ofInt 64 (b:Int)).toNat:Int)=_;rw[BitVec.toNat_or,show((n:Int)*256)=((n*256:Nat):Int)from by simp,ofInt_u64 (n*256) d,ofInt_u64 b O9,pd];omega
def RS.fail(r:RS):RS:=⟨r.l,true⟩
def RS.number(r:RS)(width:Nat)(lo hi:Int):Int×RS:=let t:=r.take width;let n:=fI t.1;if pT n lo hi then(if t.2.bad then(0,t.2)else(n,t.2))else(0,t.2.fail)
def kE(rb r)(width:Nat)(lo hi w)(p:qL w rb r)(y:width<=4):Calls aI.prog 156 #[.pointer rb,width,.int .i64 lo,.int .i64 hi] w λe w'=>e=.returned ((r.number width lo hi).1)/\uJ w w' rb (r.number width lo hi).2:=by
 go_enter aI.func156,Tryz.ntmps156;go_wp2_with fail;refine(L8 rb r width w p O9).mono ?_;rintro e w1 ⟨rfl,h⟩;have s:=take_len r width;have H:Hid (r.number width lo hi=if pT (fI (r.take width).1) lo hi then(if(r.take width).2.bad then(0,(r.take width).2)else(fI (r.take width).1,(r.take width).2))else(0,(r.take width).2.fail)):=rfl;generalize(r.take width).1=t at s H|-;generalize(r.take width).2=r1 at h H|-;have A:=dC t;obtain⟨c,w2,v,m,f⟩:=aaB w1 t;have a:=h.below m;replace f:=aJ f;go_wp2_with fail;go_loop [9,17] (λn i=>∃k,k<=t.length/\i=k/\n=(fI (t.take k))) (λ_ i=>t.length -(intOf i).toNat);case atStart=>exact⟨0,eX _,rfl,rfl⟩
 case round=>
  obtain⟨k,x,rfl,rfl⟩:=hrel;have d:=Md (t.take k) (by simp;omega);by_cases j:k<t.length
  .have u:=f.out k j;have l:t.take (k+1)=t.take k++[t[k]]:=by rw[uO j]
   have q:Hid (fI (t.take (k+1))=fI (t.take k)*256+(t[k].toNat:Int)):=by unfold Hid;rw[l];exact Ek _ _
   clear l;have z:=t[k].toNat_lt;go_wp2_with fail;go_round;case rel=>exact⟨k+1,O9,by go_num,by rw[q.out,aaC _ _ d.1 d.2 O9]⟩
   case measure=>simp[intOf];omega
  .have o:k=t.length:=O9;subst o;rw[pN]at d|-;have c1:w2.cell? (rb,1)=some (.bool r1.bad):=Ma a.at_ 1;have f1:w2.frozen? (rb,1)=false:=Yj a.at_ 1;go_wp2_with fail;refine(gM _ _ _ _).mono ?_;rintro e w3 ⟨rfl,rfl⟩;cases g:pT (fI t) lo hi
   .go_wp2_with fail;go_ret;have e:r.number width lo hi=(0,r1.fail):=by rw[H.out,g];rfl
    rw[e];exact⟨rfl,a.trans (IW a.at_ r1.fail 1 _ rfl)⟩
   .cases b:r1.bad
    .rw[b]at c1;go_wp2_with fail;go_ret;have e:r.number width lo hi=(fI t,r1):=by rw[H.out,g,b];rfl
     rw[e];exact⟨rfl,a⟩
    .rw[b]at c1;go_wp2_with fail;go_ret;have e:r.number width lo hi=(0,r1):=by rw[H.out,g,b];rfl
     rw[e];exact⟨rfl,a⟩
def RS.code(r:RS):List UInt8×RS:=let n:=r.number 1 0 32;n.2.take n.1.toNat
def wI(r:RS)(width lo hi)(h0:0<=hi)(a:0<=lo):0<=(r.number width lo hi).1/\(r.number width lo hi).1<=hi:=by
 unfold RS.number;dsimp only;split
 .rename_i h;simp[pT]at h;split;.omega
  .omega
 .omega
def Mc(rb r w)(g:qL w rb r):Calls aI.prog 215 #[.pointer rb] w λe w'=>e=.returned (mk r.code.1)/\uJ w w' rb r.code.2:=by
 go_enter aI.func215,Tryz.ntmps215;go_wp2_with fail;refine(kE rb r 1 0 32 w g O9).mono ?_;rintro e w1 ⟨rfl,a⟩;have d:=wI r 1 0 32 O9 O9;obtain⟨n,f⟩:=wU d.1;have c:Hid (r.code=(r.number 1 0 32).2.take n):=by unfold Hid RS.code;dsimp only;rw[f];rfl
 generalize(r.number 1 0 32).2=r1 at a c|-;go_wp2_with fail;refine(E5 rb r1 n w1 a.at_ O9).mono ?_;rintro e w2 ⟨rfl,b⟩;rw[<-c.out]at b|-;go_wp2;go_ret;exact⟨rfl,a.trans b⟩
end
section
variable[Go.Proofs.VB]
def py(s)(j:Nat)(i)(hi:i=(j:Int))(a:j<s.length)(W):(Instr.index 9 (mk s) i).run aI.prog W=.ok (.int .u8 ((s.getD j 0).toNat:Int)) W:=by
 subst hi;have h0:(0:Int)<=(j:Int):=O9;have b:(mk s)[j]?=some (s.getD j 0):=by
  have c:j<(mk s).size:=by rw[dC];exact a
  rw[getElem?_pos (mk s) j c];simp[a];rfl
 simp[Instr.index,asIntOf,b]
end
section
variable[Go.Proofs.VB]
def uJ.row{w w' rb r}(h:uJ w w' rb r){g t cs}(a:Row w g t cs)(b:g≠rb):Row w' g t cs:=(h.grown.block g a.lt (by simpa using b)).trans a
def qL.alloc{w rb r}(h:qL w rb r)(o):qL (w.alloc o) rb r:=Row.alloc h o
def qL.lt{w rb r}(h:qL w rb r):rb<w:=Row.lt h
def qL.aM{w rb r}(h:qL w rb r)(a v)(b:rb≠a.block):qL (w.setCell a v) rb r:=(Below.heap_setCell w a v rb b).trans h
def bD{a w:World}{r}(h:a.grownBy w r)(p v)(d:↑a<=p.block):a.grownBy (w.setCell p v) r:=by
 refine⟨h.os,h.tape,h.output,?_,λk b c=>?_⟩;.simp;exact h.size
 .rw[Below.heap_setCell w p v k O9];exact h.block k b c
def bY{a w:World}{r}(h:a.grownBy w r)(o):a.grownBy (w.alloc o) r:=h.trans (World.grownBy_alloc w o r)
def xX(r:RS):jR×RS:=let a:=r.take 8;let b:=a.2.number 1 0 255;let c:=b.2.code;(⟨mk a.1,b.1,mk c.1⟩,c.2)
def rf(r:RS):eY×RS:=let b:=r.number 4 0 4294967295;let c:=b.2.code;(⟨b.1,mk c.1⟩,c.2)
def Yo(rb r w)(n:qL w rb r):Calls aI.prog 193 #[.pointer rb] w λe w'=>e=.returned (.agg #[(xX r).1.tx,(xX r).1.idx,(xX r).1.key])/\uJ w w' rb (xX r).2:=by
 have y:=n.lt;go_enter aI.func193,Tryz.ntmps193;go_wp2_with fail;refine(E5 rb r 8 _ ((n.alloc _).alloc _) O9).mono ?_;rintro e w1 ⟨rfl,j⟩;have b:=j.row ((aV w [aB,aA,aB] 139).alloc _) O9;have a:Row w1 ((w:Nat)+1) 139 [aB,aA,aB]:=by have:=j.row (aV (w.alloc (.cells #[aB,aA,aB] 139)) [aB,aA,aB] 139) (by simp only[bB];omega);simpa only[bB]using this
 have c:w.grownBy w1 (some rb):=(bY (bY (aZ w _) _) _).trans j.grown;have g:=j.at_;clear j;have H:Hid (xX r=(⟨mk (r.take 8).1,((r.take 8).2.number 1 0 255).1,mk ((r.take 8).2.number 1 0 255).2.code.1⟩,((r.take 8).2.number 1 0 255).2.code.2)):=rfl;generalize(r.take 8).1=f at H|-;generalize(r.take 8).2=r1 at H g|-;have c0:w1.cell? ((w:Nat)+1,0)=some ↑aB:=a.cell 0;have f0:=a.frozen 0;go_wp2_with fail;clear c0 f0;replace b:=b.aM ((w:Nat)+1,0) (mk f) (by show(w:Nat)≠(w:Nat)+1;omega);replace a:=a.set 0 (mk f);replace g:=g.aM ((w:Nat)+1,0) (mk f) (by show rb≠(w:Nat)+1;omega);replace c:=bD c ((w:Nat)+1,0) (mk f) (by show(w:Nat)<=(w:Nat)+1;omega);generalize w1.setCell ⟨(w:Nat)+1,0,none⟩ (mk f)=w2 at b a g c|-;refine(kE rb r1 1 0 255 _ g O9).mono ?_;rintro e w3 ⟨rfl,k⟩;replace b:=k.row b O9;replace a:=k.row a O9;replace c:=c.trans k.grown;have h:=k.at_;clear k g;generalize(r1.number 1 0 255).1=d at H|-;generalize(r1.number 1 0 255).2=r2 at H h|-;have c0:w3.cell? ((w:Nat)+1,1)=some ↑aA:=a.cell 1;have f0:=a.frozen 1;go_wp2_with fail;clear c0 f0;replace b:=b.aM ((w:Nat)+1,1) d (by show(w:Nat)≠(w:Nat)+1;omega);replace a:=a.set 1 d;replace h:=h.aM ((w:Nat)+1,1) d (by show rb≠(w:Nat)+1;omega);replace c:=bD c ((w:Nat)+1,1) d (by show(w:Nat)<=(w:Nat)+1;omega);generalize w3.setCell ⟨(w:Nat)+1,1,none⟩ d=w4 at b a h c|-;refine(Mc rb r2 _ h).mono ?_;rintro e i ⟨rfl,l⟩;replace b:=l.row b O9;replace a:=l.row a O9;replace c:=c.trans l.grown;have m:=l.at_;clear l h;generalize r2.code.1=s at H|-;generalize r2.code.2=r3 at H m|-;have o:i.cell? ((w:Nat),0)=some ↑aB:=b.cell 0;have p:i.cell? ((w:Nat),1)=some ↑aA:=b.cell 1;have q:i.cell? ((w:Nat),2)=some ↑aB:=b.cell 2;have t:=b.frozen 0;have u:=b.frozen 1;have x:=b.frozen 2;have c0:i.cell? ((w:Nat)+1,0)=some (mk f):=a.cell 0;have c1:i.cell? ((w:Nat)+1,1)=some d:=a.cell 1;have c2:i.cell? ((w:Nat)+1,2)=some ↑aB:=a.cell 2;have f2:=a.frozen 2;go_wp2_with fail;rw[H.out];refine nC (v:=.agg #[(mk f),d,(mk s)]) (by simp[results,Tryz.results193,go_sem,o,p,q]) rfl ⟨rfl,?_,?_⟩
 .refine(((m.aM _ _ ?_).aM _ _ ?_).aM _ _ ?_).aM _ _ ?_;.show rb≠(w:Nat)+1;omega
  all_goals(show rb≠(w:Nat);omega)
 .refine bD (bD (bD (bD c _ _ ?_) _ _ ?_) _ _ ?_) _ _ ?_;.show(w:Nat)<=(w:Nat)+1;omega
  all_goals exact L9
def TM(rb r w)(k:qL w rb r):Calls aI.prog 194 #[.pointer rb] w λe w'=>e=.returned (.agg #[(rf r).1.val,(rf r).1.lock])/\uJ w w' rb (rf r).2:=by
 have q:=k.lt;go_enter aI.func194,Tryz.ntmps194;go_wp2_with fail;refine(kE rb r 4 0 4294967295 _ ((k.alloc _).alloc _) O9).mono ?_;rintro e w1 ⟨rfl,g⟩;have b:=g.row ((aV w [aA,aB] 86).alloc _) O9;have a:Row w1 ((w:Nat)+1) 86 [aA,aB]:=by have:=g.row (aV (w.alloc (.cells #[aA,aB] 86)) [aA,aB] 86) (by simp only[bB];omega);simpa only[bB]using this
 have f:w.grownBy w1 (some rb):=(bY (bY (aZ w _) _) _).trans g.grown;have d:=g.at_;clear g;have H:Hid (rf r=(⟨(r.number 4 0 4294967295).1,mk (r.number 4 0 4294967295).2.code.1⟩,(r.number 4 0 4294967295).2.code.2)):=rfl;generalize(r.number 4 0 4294967295).1=c at H|-;generalize(r.number 4 0 4294967295).2=r2 at H d|-;have c0:w1.cell? ((w:Nat)+1,0)=some ↑aA:=a.cell 0;have f0:=a.frozen 0;go_wp2_with fail;clear c0 f0;replace b:=b.aM ((w:Nat)+1,0) c (by show(w:Nat)≠(w:Nat)+1;omega);replace a:=a.set 0 c;replace d:=d.aM ((w:Nat)+1,0) c (by show rb≠(w:Nat)+1;omega);replace f:=bD f ((w:Nat)+1,0) c (by show(w:Nat)<=(w:Nat)+1;omega);generalize w1.setCell ⟨(w:Nat)+1,0,none⟩ c=w4 at b a d f|-;refine(Mc rb r2 _ d).mono ?_;rintro e i ⟨rfl,h⟩;replace b:=h.row b O9;replace a:=h.row a O9;replace f:=f.trans h.grown;have j:=h.at_;clear h d;generalize r2.code.1=n at H|-;generalize r2.code.2=r3 at H j|-;have l:i.cell? ((w:Nat),0)=some ↑aA:=b.cell 0;have m:i.cell? ((w:Nat),1)=some ↑aB:=b.cell 1;have o:=b.frozen 0;have p:=b.frozen 1;have c0:i.cell? ((w:Nat)+1,0)=some c:=a.cell 0;have c1:i.cell? ((w:Nat)+1,1)=some ↑aB:=a.cell 1;have f1:=a.frozen 1;go_wp2_with fail;rw[H.out];refine nC (v:=.agg #[c,(mk n)]) (by simp[results,Tryz.results194,go_sem,l,m]) rfl ⟨rfl,?_,?_⟩
 .refine((j.aM _ _ ?_).aM _ _ ?_).aM _ _ ?_;.grind
  all_goals(show rb≠(w:Nat);omega)
 .refine bD (bD (bD f _ _ ?_) _ _ ?_) _ _ ?_;.simp
  all_goals exact L9
end
section
variable[Go.Proofs.VB]
def kZ:Nat->RS->List jR×RS
 |0,r=>([],r)
 |n+1,r=>((kZ n r).1++[(xX (kZ n r).2).1],(xX (kZ n r).2).2)
def iX:Nat->RS->List eY×RS
 |0,r=>([],r)
 |n+1,r=>((iX n r).1++[(rf (iX n r).2).1],(rf (iX n r).2).2)
def Hv(n r):(kZ n r).1.length=n:=by induction n with
 |zero=>rfl
 |succ n a=>simp[kZ,a]
def E7(n r):(iX n r).1.length=n:=by induction n with
 |zero=>rfl
 |succ n a=>simp[iX,a]
structure rh where
 tag:Int
 ins:List jR
 outs:List eY
def Ao(r:RS)(first:Bool):rh×RS:=let a:=r.number 2 0 65535;let b:=a.2.number 1 (SA first) (Mi first);let c:=kZ b.1.toNat b.2;let d:=c.2.number 1 1 8;let e:=iX d.1.toNat d.2;(⟨a.1,c.1,e.1⟩,e.2)
def WA(n:Nat)(h:n<=1000)(w):(Instr.makeSlice 88 (n:Int) (n:Int)).run aI.prog w=.ok (.slice (w:Nat) n n) (w.alloc (.cells (GP n).toArray 139)):=by obtain⟨d,hi,a,b,c⟩:=info_parts Xg;have:=uN (P:=aI.prog) w 88 139 d _ aI.underlying88 hi a .i64 .i64 (n:Int) (n:Int) O9 (nB _) (by rw[c];omega) O9;rw[this,b];simp[GP,Value.cells]
def acJ(n:Nat)(h:n<=1000)(w):(Instr.makeSlice 87 (n:Int) (n:Int)).run aI.prog w=.ok (.slice (w:Nat) n n) (w.alloc (.cells (TY n).toArray 86)):=by obtain⟨d,hi,a,b,c⟩:=info_parts abC;have:=uN (P:=aI.prog) w 87 86 d _ aI.underlying87 hi a .i64 .i64 (n:Int) (n:Int) O9 (nB _) (by rw[c];omega) O9;rw[this,b];simp[TY,Value.cells]
def acI(n:Nat)(h:n<=1000)(w):(Instr.makeSlice 91 (n:Int) (n:Int)).run aI.prog w=.ok (.slice (w:Nat) n n) (w.alloc (.cells (Ym n).toArray 90)):=by obtain⟨d,hi,a,b,c⟩:=info_parts Le;have:=uN (P:=aI.prog) w 91 90 d _ aI.underlying91 hi a .i64 .i64 (n:Int) (n:Int) O9 (nB _) (by rw[c];omega) O9;rw[this,b];simp[Ym,Value.cells]
def Au(l d)(a b c:Value)(n)(f:l.length=n)(e:3<=d.length):(((l++d).set n a).set (n+1) b).set (n+2) c=l++[a,b,c]++d.drop 3:=by match d,e with
 |x::y::z::d,_=>subst f;simp[show l.length+1 -l.length=1 from by omega]
def TN(l d)(a b:Value)(n)(e:l.length=n)(c:2<=d.length):((l++d).set n a).set (n+1) b=l++[a,b]++d.drop 2:=by match d,c with
 |x::y::d,_=>subst e;simp[show l.length+1 -l.length=1 from by omega]
def ua{w w':World}{r}(h:w.drew.grownBy w' r):w.grownBy w' r:=⟨h.os,h.tape,h.output,h.size,h.block⟩
def Av(l x):mN (l++[x])=mN l++[.string x.tx,.int .i64 x.idx,.string x.key]:=by simp[mN,jR.cells]
def E4(l x):lS (l++[x])=lS l++[.int .i64 x.val,.string x.lock]:=by simp[lS,eY.cells]
structure adY(a w:World)(v:Value)(t:rh)(gi go:Nat):Prop where
 val:v=.agg #[.int .i64 t.tag,.slice (some ⟨gi,0,none⟩) t.ins.length t.ins.length,.slice (some ⟨go,0,none⟩) t.outs.length t.outs.length]
 lt:a.heap.size<=gi
 ne:gi<go
 ins:Row w gi 139 (mN t.ins)
 outs:Row w go 86 (lS t.outs)
def Yn(rb r first w)(O:qL w rb r):Calls aI.prog 157 #[.pointer rb,.bool first] w λe w'=>∃v gi go,e=.returned v/\adY w w' v (Ao r first).1 gi go/\uJ w w' rb (Ao r first).2:=by
 have a4:=O.lt;go_enter aI.func157,Tryz.ntmps157;go_wp2_with (go_at_call 187;refine(mM _ _).mono ?_;rintro e w' ⟨rfl,rfl⟩);refine(kE rb r 2 0 65535 _ ((O.alloc _).alloc _) O9).mono ?_;rintro e w1 ⟨rfl,F⟩;have c:=F.row ((aV w [aA,(),()] 90).alloc _) O9;have a:Row w1 ((w:Nat)+1) 90 [aA,(),()]:=by have:=F.row (aV (w.alloc (.cells #[aA,(),()] 90)) [aA,(),()] 90) (by simp only[bB];omega);simpa only[bB]using this
 have d:w.grownBy w1 (some rb):=(bY (bY (aZ w _) _) _).trans F.grown;have z:=F.at_;have H:Hid (∀b,b=(r.number 2 0 65535).2.number 1 (SA first) (Mi first)->Ao r first=(⟨(r.number 2 0 65535).1,(kZ b.1.toNat b.2).1,(iX ((kZ b.1.toNat b.2).2.number 1 1 8).1.toNat ((kZ b.1.toNat b.2).2.number 1 1 8).2).1⟩,(iX ((kZ b.1.toNat b.2).2.number 1 1 8).1.toNat ((kZ b.1.toNat b.2).2.number 1 1 8).2).2)):=by intro b S;subst S;rfl
 generalize(r.number 2 0 65535).1=tag at H|-;generalize(r.number 2 0 65535).2=r1 at H z|-;have c0:w1.cell? ((w:Nat)+1,0)=some ↑aA:=a.cell 0;have f0:=a.frozen 0;go_wp2_with fail;replace c:=c.aM ((w:Nat)+1,0) ↑tag (by show(w:Nat)≠(w:Nat)+1;omega);replace a:=a.set 0 ↑tag;replace z:=z.aM ((w:Nat)+1,0) ↑tag (by show rb≠(w:Nat)+1;omega);replace d:=bD d ((w:Nat)+1,0) ↑tag (by show(w:Nat)<=(w:Nat)+1;omega);generalize w1.setCell ⟨(w:Nat)+1,0,none⟩ ↑tag=w2 at c a z d|-;refine(kE rb r1 1 (SA first) (Mi first) _ z O9).mono ?_;rintro e w3 ⟨rfl,G⟩;replace c:=G.row c O9;replace a:=G.row a O9;replace d:=d.trans G.grown;have A:=G.at_;have D:=wI r1 1 (SA first) (Mi first) (by cases first<;>decide) (by cases first<;>decide);obtain⟨n,N⟩:=wU D.1;have ay:Mi first<=8:=by cases first<;>decide
 replace H:=H.out _ rfl;rw[N]at D H;rw[N];rw[CJ]at H;generalize(r1.number 1 (SA first) (Mi first)).2=r2 at H A|-;replace H:=aJ H;have a6:n<=8:=O9;have ab:=WA n O9;have c1:w3.cell? ((w:Nat)+1,1)=some ↑():=a.cell 1;have f1:=a.frozen 1;have Y:(w:Nat)+1<(w3:Nat):=a.lt;go_wp2_with fail;have L:(w3.setCell ((w:Nat)+1,1) (.slice w3.heap.size n n)).heap.size=(w3:Nat):=by simp only[World.setCell,AZ]
 replace c:=(c.aM ((w:Nat)+1,1) (.slice w3.heap.size n n) (by show(w:Nat)≠(w:Nat)+1;omega)).alloc (.cells (GP n).toArray 139);replace a:=(a.set 1 (.slice w3.heap.size n n)).alloc (.cells (GP n).toArray 139);replace A:=(A.aM ((w:Nat)+1,1) (.slice w3.heap.size n n) (by show rb≠(w:Nat)+1;omega)).alloc (.cells (GP n).toArray 139);replace d:=bY (bD d ((w:Nat)+1,1) (.slice w3.heap.size n n) (by show(w:Nat)<=(w:Nat)+1;omega)) (.cells (GP n).toArray 139);have RI:=aV (w3.setCell ((w:Nat)+1,1) (.slice w3.heap.size n n)) (GP n) 139;rw[L]at RI;generalize(w3.setCell ⟨(w:Nat)+1,1,none⟩ (.slice w3.heap.size n n)).alloc (.cells (GP n).toArray 139)=X at c a A d RI|-;generalize(w3:Nat)=gi at Y RI a|-;go_loopw [27] (λi wr=>∃(k:Nat) (rest:List Value),k<=n/\i=↑k/\Row wr gi 139 (mN (kZ k r2).1++rest)/\rest.length=(n -k)*3/\qL wr rb (kZ k r2).2/\Row wr ↑w 90 [aA,(),()]/\Row wr ((w:Nat)+1) 90 [tag,.slice gi n n,()]/\w.grownBy wr (some rb)) (λi _=>n -(intOf i).toNat);case atStart=>exact⟨0,GP n,eX _,rfl,RI,by rw[Qk];rfl,A,c,a,d⟩
 case round=>
  obtain⟨k,rest,a2,rfl,RI,h,s,c,a,d⟩:=hrel;replace h:=aJ h;by_cases a3:k<n
  .have u:Hid (kZ (k+1) r2=((kZ k r2).1++[(xX (kZ k r2).2).1],(xX (kZ k r2).2).2)):=rfl;have p:=Hv k r2;generalize(kZ k r2).1=I at RI u p;generalize(kZ k r2).2=t at s u;replace p:=aJ p;have t1:wr.cell? ((w:Nat)+1,1)=some (.slice gi n n):=a.cell 1;have V:(0:Int)<=(k:Int):=O9;have W:(k:Int)<(n:Int):=O9;have ae:(w:Nat)+1≠gi:=O9;have af:gi≠(w:Nat)+1:=O9;go_wp2_with fail;go_region_held3 (λw'=>w'.cell? ((w:Nat)+1,1)=some (.slice gi n n)) (first|go_keep|exact(g.row (show Row wr.drew ((w:Nat)+1) _ _ from a) O9).cell 1) ((go_at_call 193;refine(Yo rb t _ (by exact s)).mono ?_;rintro e w' ⟨rfl,g⟩;obtain⟨⟨ai,ak⟩,⟨aj,ao⟩,⟨a8,a9⟩,f0,f1,f2⟩:=(g.row (show Row wr.drew gi _ _ from RI) O9).three (k*3) (by have:=h.out;have:=p.out;rw[cK,rp];omega)))
   replace c:=g.row (show Row wr.drew ↑w _ _ from c) O9;replace a:=g.row (show Row wr.drew ((w:Nat)+1) _ _ from a) O9;replace RI:=g.row (show Row wr.drew gi _ _ from RI) O9;replace d:=d.trans (ua g.grown);have o:=g.at_;generalize(xX t).1=x at u|-;generalize(xX t).2=ah at u o;replace c:=((c.aM (gi,k*3) ↑x.tx (by show(w:Nat)≠gi;omega)).aM (gi,k*3+1) ↑x.idx (by show(w:Nat)≠gi;omega)).aM (gi,k*3+2) ↑x.key (by show(w:Nat)≠gi;omega);replace a:=((a.aM (gi,k*3) ↑x.tx (by show(w:Nat)+1≠gi;omega)).aM (gi,k*3+1) ↑x.idx (by show(w:Nat)+1≠gi;omega)).aM (gi,k*3+2) ↑x.key (by show(w:Nat)+1≠gi;omega);replace o:=((o.aM (gi,k*3) ↑x.tx (by show rb≠gi;omega)).aM (gi,k*3+1) ↑x.idx (by show rb≠gi;omega)).aM (gi,k*3+2) ↑x.key (by show rb≠gi;omega);replace d:=bD (bD (bD d (gi,k*3) ↑x.tx (by show(w:Nat)<=gi;omega)) (gi,k*3+1) ↑x.idx (by show(w:Nat)<=gi;omega)) (gi,k*3+2) ↑x.key (by show(w:Nat)<=gi;omega);replace RI:=((RI.set (k*3) ↑x.tx).set (k*3+1) ↑x.idx).set (k*3+2) ↑x.key;rw[Au _ _ _ _ _ _ (by rw[rp,p.out]) (by have:=h.out;omega),<-Av]at RI;generalize((w'.setCell ⟨gi,k*3,none⟩ ↑x.tx).setCell ⟨gi,k*3+1,none⟩ ↑x.idx).setCell ⟨gi,k*3+2,none⟩ ↑x.key=E at c a o d RI|-;go_wp2_with fail;go_roundw;case rel=>exact⟨k+1,rest.drop 3,O9,by go_num,by rw[u.out];exact RI,by rw[CQ,h.out];omega,by rw[u.out];exact o,c,a,d⟩
   case measure=>simp[intOf];omega
  .have μ:k=n:=O9;subst μ;have K:rest=[]:=se (by rw[h.out];omega);subst K;rw[nS]at RI;have p:=Hv k r2;generalize(kZ k r2).1=I at RI H p;generalize(kZ k r2).2=r3 at s H;replace p:=aJ p;go_wp2_with fail;refine(kE rb r3 1 1 8 _ s O9).mono ?_;rintro e w4 ⟨rfl,C⟩;replace c:=C.row c O9;replace a:=C.row a O9;replace RI:=C.row RI O9;replace d:=d.trans C.grown;have B:=C.at_;have D:=wI r3 1 1 8 O9 O9;obtain⟨m,J⟩:=wU D.1;rw[J]at D;replace H:=H.out;rw[J,CJ]at H;rw[J];generalize(r3.number 1 1 8).2=l at H B|-;replace H:=aJ H;have a5:m<=8:=O9;have ab:=acJ m O9;have c1:w4.cell? ((w:Nat)+1,2)=some ↑():=a.cell 2;have f1:=a.frozen 2;have π:gi<(w4:Nat):=RI.lt;have aa:(w:Nat)+1<(w4:Nat):=O9;go_wp2_with fail;have L:(w4.setCell ((w:Nat)+1,2) (.slice w4.heap.size m m)).heap.size=(w4:Nat):=by simp only[World.setCell,AZ]
   replace c:=(c.aM ((w:Nat)+1,2) (.slice w4.heap.size m m) (by show(w:Nat)≠(w:Nat)+1;omega)).alloc (.cells (TY m).toArray 86);replace RI:=(RI.aM ((w:Nat)+1,2) (.slice w4.heap.size m m) (by show gi≠(w:Nat)+1;omega)).alloc (.cells (TY m).toArray 86);replace a:=(a.set 2 (.slice w4.heap.size m m)).alloc (.cells (TY m).toArray 86);replace B:=(B.aM ((w:Nat)+1,2) (.slice w4.heap.size m m) (by show rb≠(w:Nat)+1;omega)).alloc (.cells (TY m).toArray 86);replace d:=bY (bD d ((w:Nat)+1,2) (.slice w4.heap.size m m) (by show(w:Nat)<=(w:Nat)+1;omega)) (.cells (TY m).toArray 86);have f:=aV (w4.setCell ((w:Nat)+1,2) (.slice w4.heap.size m m)) (TY m) 86;rw[L]at f;generalize(w4.setCell ⟨(w:Nat)+1,2,none⟩ (.slice w4.heap.size m m)).alloc (.cells (TY m).toArray 86)=X at c a B d RI f|-;generalize(w4:Nat)=go at π aa f a|-;go_loopw [44] (λi wr=>∃(j:Nat) (rest:List Value),j<=m/\i=↑j/\Row wr go 86 (lS (iX j l).1++rest)/\rest.length=(m -j)*2/\qL wr rb (iX j l).2/\Row wr ↑w 90 [aA,(),()]/\Row wr ((w:Nat)+1) 90 [tag,.slice gi k k,.slice go m m]/\Row wr gi 139 (mN I)/\w.grownBy wr (some rb)) (λi _=>m -(intOf i).toNat);case atStart=>exact⟨0,TY m,eX _,rfl,f,by rw[aaD];rfl,B,c,a,RI,d⟩
   case round=>
    obtain⟨j,rest,az,rfl,f,h,s,c,a,RI,d⟩:=hrel;replace h:=aJ h;by_cases a0:j<m
    .have y:Hid (iX (j+1) l=((iX j l).1++[(rf (iX j l).2).1],(rf (iX j l).2).2)):=rfl;have q:=E7 j l;generalize(iX j l).1=M at f y q;generalize(iX j l).2=t at s y;replace q:=aJ q;have t1:wr.cell? ((w:Nat)+1,2)=some (.slice go m m):=a.cell 2;have V:(0:Int)<=(j:Int):=O9;have W:(j:Int)<(m:Int):=O9;have ae:(w:Nat)+1≠go:=O9;have af:go≠(w:Nat)+1:=O9;go_wp2_with fail;go_region_held3 (λw'=>w'.cell? ((w:Nat)+1,2)=some (.slice go m m)) (first|go_keep|exact(g.row (show Row wr.drew ((w:Nat)+1) _ _ from a) O9).cell 2) ((go_at_call 194;refine(TM rb t _ (by exact s)).mono ?_;rintro e w' ⟨rfl,g⟩;obtain⟨⟨ai,ak⟩,⟨aj,ao⟩,f0,f1⟩:=(g.row (show Row wr.drew go _ _ from f) O9).two (j*2) (by have:=h.out;have:=q.out;rw[cK,zI];omega)))
     replace c:=g.row (show Row wr.drew ↑w _ _ from c) O9;replace a:=g.row (show Row wr.drew ((w:Nat)+1) _ _ from a) O9;replace RI:=g.row (show Row wr.drew gi _ _ from RI) O9;replace f:=g.row (show Row wr.drew go _ _ from f) O9;replace d:=d.trans (ua g.grown);have o:=g.at_;generalize(rf t).1=x at y|-;generalize(rf t).2=ah at y o;replace c:=(c.aM (go,j*2) ↑x.val (by show(w:Nat)≠go;omega)).aM (go,j*2+1) ↑x.lock (by show(w:Nat)≠go;omega);replace a:=(a.aM (go,j*2) ↑x.val (by show(w:Nat)+1≠go;omega)).aM (go,j*2+1) ↑x.lock (by show(w:Nat)+1≠go;omega);replace RI:=(RI.aM (go,j*2) ↑x.val (by show gi≠go;omega)).aM (go,j*2+1) ↑x.lock (by show gi≠go;omega);replace o:=(o.aM (go,j*2) ↑x.val (by show rb≠go;omega)).aM (go,j*2+1) ↑x.lock (by show rb≠go;omega);replace d:=bD (bD d (go,j*2) ↑x.val (by show(w:Nat)<=go;omega)) (go,j*2+1) ↑x.lock (by show(w:Nat)<=go;omega);replace f:=(f.set (j*2) ↑x.val).set (j*2+1) ↑x.lock;rw[TN _ _ _ _ _ (by rw[zI,q.out]) (by have:=h.out;omega),<-E4]at f;generalize(w'.setCell ⟨go,j*2,none⟩ ↑x.val).setCell ⟨go,j*2+1,none⟩ ↑x.lock=E at c a o d RI f|-;go_wp2_with fail;go_roundw;case rel=>exact⟨j+1,rest.drop 2,O9,by go_num,by rw[y.out];exact f,by rw[CQ,h.out];omega,by rw[y.out];exact o,c,a,RI,d⟩
     case measure=>simp[intOf];omega
    .have T:j=m:=O9;subst T;have K:rest=[]:=se (by rw[h.out];omega);subst K;rw[nS]at f;have q:=E7 j l;replace H:=H.out;generalize(iX j l).1=M at f H q;generalize(iX j l).2=a7 at s H;replace H:=aJ H;replace q:=aJ q;have P:wr.cell? ((w:Nat),0)=some ↑aA:=c.cell 0;have Q:wr.cell? ((w:Nat),1)=some ↑():=c.cell 1;have R:wr.cell? ((w:Nat),2)=some ↑():=c.cell 2;have ar:=c.frozen 0;have au:=c.frozen 1;have av:=c.frozen 2;have c0:wr.cell? ((w:Nat)+1,0)=some ↑tag:=a.cell 0;have c1:wr.cell? ((w:Nat)+1,1)=some (.slice gi k k):=a.cell 1;have c2:wr.cell? ((w:Nat)+1,2)=some (.slice go j j):=a.cell 2;go_wp2_with fail;rw[H.out];have ag:(Value.agg #[tag,.slice gi k k,.slice go j j])=.agg #[tag,.slice gi I.length I.length,.slice go M.length M.length]:=by rw[p.out,q.out]
     refine nC (v:=.agg #[tag,.slice gi k k,.slice go j j]) (by simp[results,Tryz.results157,go_sem,P,Q,R]) rfl ⟨_,gi,go,rfl,⟨ag,O9,O9,?_,?_⟩,?_,?_⟩;.refine((RI.aM _ _ ?_).aM _ _ ?_).aM _ _ ?_;all_goals(show gi≠(w:Nat);omega)
     .refine((f.aM _ _ ?_).aM _ _ ?_).aM _ _ ?_;all_goals(show go≠(w:Nat);omega)
     .refine((s.aM _ _ ?_).aM _ _ ?_).aM _ _ ?_;all_goals(show rb≠(w:Nat);omega)
     .refine bD (bD (bD d _ _ ?_) _ _ ?_) _ _ ?_;all_goals exact L9
end
section
def E6:=@Below.heap_setCell
variable[Go.Proofs.VB]
def nK:Nat->RS->List rh×RS
 |0,r=>([],r)
 |n+1,r=>((nK n r).1++[(Ao (nK n r).2 ((n:Int)==0)).1],(Ao (nK n r).2 ((n:Int)==0)).2)
def TK(n r):(nK n r).1.length=n:=by induction n with
 |zero=>rfl
 |succ n a=>simp[nK,a]
structure vH where
 parent:List UInt8
 bits:Int
 bP:Int
 dH:List rh
def iQ(r:RS):vH×RS:=let a:=r.take 8;let b:=a.2.number 1 0 8;let c:=b.2.number 2 0 65535;let d:=c.2.number 1 1 8;let e:=nK d.1.toNat d.2;(⟨a.1,b.1,c.1,e.1⟩,e.2)
structure tW where
 t:rh
 gi:Nat
 go:Nat
def tW.cells(p:tW):List Value:=[.int .i64 p.t.tag,.slice (some ⟨p.gi,0,none⟩) p.t.ins.length p.t.ins.length,.slice (some ⟨p.go,0,none⟩) p.t.outs.length p.t.outs.length]
def yc(l:List tW):List Value:=l.flatMap tW.cells
def BR(l):(yc l).length=l.length*3:=by induction l with
 |nil=>rfl
 |cons x l a=>simp only[yc,uR,cK]at*;simp only[tW.cells,fH,jU];omega
def TL(l p):yc (l++[p])=yc l++[.int .i64 p.t.tag,.slice (some ⟨p.gi,0,none⟩) p.t.ins.length p.t.ins.length,.slice (some ⟨p.go,0,none⟩) p.t.outs.length p.t.outs.length]:=by simp[yc,tW.cells]
structure ny(w:World)(g:Nat)(l:List tW):Prop where
 rows:∀(i:Nat) (p:tW),l[i]?=some p->g<p.gi/\p.gi<p.go/\Row w p.gi 139 (mN p.t.ins)/\Row w p.go 86 (lS p.t.outs)
 asc:∀(i j:Nat) (p q:tW),i<j->l[i]?=some p->l[j]?=some q->p.go<q.gi
def ny.nil(w g):ny w g []:=⟨λi p h=>by simp at h,λi j p q _ h=>by simp at h⟩
def ny.kept{w w' g l}(h:ny w g l)(e:∀b,g<b->b<w->w'.heap[b]?=w.heap[b]?):ny w' g l:=⟨λi p j=>by obtain⟨a,f,c,d⟩:=h.rows i p j;exact⟨a,f,(e _ a c.lt).trans c,(e _ O9 d.lt).trans d⟩,h.asc⟩
def ny.snoc{w g B l p}(h:ny w g l)(o:∀(i:Nat) (q:tW),l[i]?=some q->q.go<B)(n:g<B)(e:B<=p.gi)(f:p.gi<p.go)(k:Row w p.gi 139 (mN p.t.ins))(m:Row w p.go 86 (lS p.t.outs)):ny w g (l++[p]):=by
 refine⟨λi q a=>?_,λi j q s c a b=>?_⟩
 .by_cases hi:i<l.length;.rw[pK hi]at a;exact h.rows i q a
  .grind
 .by_cases d:j<l.length;.rw[pK d]at b;rw[pK O9]at a;exact h.asc i j q s c a b
  .grind
def Mb(rb r w)(R:qL w rb r):Calls aI.prog 116 #[.pointer rb] w λe w'=>∃gt l,e=.returned (.agg #[(mk (iQ r).1.parent),(iQ r).1.bits,(iQ r).1.bP,.slice (some ⟨gt,0,none⟩) l.length l.length])/\l.map tW.t=(iQ r).1.dH/\w<=gt/\Row w' gt 90 (yc l)/\ny w' gt l/\uJ w w' rb (iQ r).2:=by
 have a5:=R.lt;go_enter aI.func116,Tryz.ntmps116;go_wp2_with fail;refine(E5 rb r 8 _ ((R.alloc _).alloc _) O9).mono ?_;rintro e w1 ⟨rfl,F⟩;have f:=F.row ((aV w [aB,aA,aA,()] 93).alloc _) O9;have a:Row w1 ((w:Nat)+1) 93 [aB,aA,aA,()]:=by have:=F.row (aV (w.alloc (.cells #[aB,aA,aA,()] 93)) [aB,aA,aA,()] 93) (by simp only[bB];omega);simpa only[bB]using this
 have g:w.grownBy w1 (some rb):=(bY (bY (aZ w _) _) _).trans F.grown;have j:=F.at_;have H:Hid (∀b,b=(r.take 8).2.number 1 0 8->∀c,c=b.2.number 2 0 65535->∀d,d=c.2.number 1 1 8->iQ r=(⟨(r.take 8).1,b.1,c.1,(nK d.1.toNat d.2).1⟩,(nK d.1.toNat d.2).2)):=by intro b K c ab d ae;subst K ab ae;rfl
 generalize(r.take 8).1=y at H|-;generalize(r.take 8).2=r1 at H j|-;have c0:w1.cell? ((w:Nat)+1,0)=some ↑aB:=a.cell 0;have f0:=a.frozen 0;go_wp2_with fail;replace f:=f.aM ((w:Nat)+1,0) (mk y) (by show(w:Nat)≠(w:Nat)+1;omega);replace a:=a.set 0 (mk y);replace j:=j.aM ((w:Nat)+1,0) (mk y) (by show rb≠(w:Nat)+1;omega);replace g:=bD g ((w:Nat)+1,0) (mk y) (by show(w:Nat)<=(w:Nat)+1;omega);generalize w1.setCell ⟨(w:Nat)+1,0,none⟩ (mk y)=w2 at f a j g|-;refine(kE rb r1 1 0 8 _ j O9).mono ?_;rintro e w3 ⟨rfl,G⟩;replace f:=G.row f O9;replace a:=G.row a O9;replace g:=g.trans G.grown;replace j:=G.at_;replace H:=aJ (H.out _ rfl);generalize(r1.number 1 0 8).1=bits at H|-;generalize(r1.number 1 0 8).2=r2 at H j|-;have c0:w3.cell? ((w:Nat)+1,1)=some ↑aA:=a.cell 1;have f0:=a.frozen 1;go_wp2_with fail;replace f:=f.aM ((w:Nat)+1,1) bits (by show(w:Nat)≠(w:Nat)+1;omega);replace a:=a.set 1 bits;replace j:=j.aM ((w:Nat)+1,1) bits (by show rb≠(w:Nat)+1;omega);replace g:=bD g ((w:Nat)+1,1) bits (by show(w:Nat)<=(w:Nat)+1;omega);generalize w3.setCell ⟨(w:Nat)+1,1,none⟩ bits=w4 at f a j g|-;refine(kE rb r2 2 0 65535 _ j O9).mono ?_;rintro e V ⟨rfl,s⟩;replace f:=s.row f O9;replace a:=s.row a O9;replace g:=g.trans s.grown;replace j:=s.at_;replace H:=aJ (H.out _ rfl);generalize(r2.number 2 0 65535).1=bP at H|-;generalize(r2.number 2 0 65535).2=r3 at H j|-;have c0:V.cell? ((w:Nat)+1,2)=some ↑aA:=a.cell 2;have f0:=a.frozen 2;go_wp2_with fail;replace f:=f.aM ((w:Nat)+1,2) bP (by show(w:Nat)≠(w:Nat)+1;omega);replace a:=a.set 2 bP;replace j:=j.aM ((w:Nat)+1,2) bP (by show rb≠(w:Nat)+1;omega);replace g:=bD g ((w:Nat)+1,2) bP (by show(w:Nat)<=(w:Nat)+1;omega);generalize V.setCell ⟨(w:Nat)+1,2,none⟩ bP=bg at f a j g|-;refine(kE rb r3 1 1 8 _ j O9).mono ?_;rintro e o ⟨rfl,I⟩;replace f:=I.row f O9;replace a:=I.row a O9;replace g:=g.trans I.grown;replace j:=I.at_;have Q:=wI r3 1 1 8 O9 O9;obtain⟨n,M⟩:=wU Q.1;replace H:=H.out _ rfl;rw[M]at Q;rw[M,CJ]at H;rw[M];generalize(r3.number 1 1 8).2=z at H j|-;replace H:=aJ H;have a7:n<=8:=O9;have a6:=acI n O9;have c1:o.cell? ((w:Nat)+1,3)=some ():=a.cell 3;have f1:=a.frozen 3;have ai:(w:Nat)+1<(o:Nat):=a.lt;go_wp2_with fail;have ar:(o.setCell ((w:Nat)+1,3) (.slice o.heap.size n n)).heap.size=(o:Nat):=by simp only[World.setCell,AZ]
 replace f:=(f.aM ((w:Nat)+1,3) (.slice o.heap.size n n) (by show(w:Nat)≠(w:Nat)+1;omega)).alloc (.cells (Ym n).toArray 90);replace a:=(a.set 3 (.slice o.heap.size n n)).alloc (.cells (Ym n).toArray 90);replace j:=(j.aM ((w:Nat)+1,3) (.slice o.heap.size n n) (by show rb≠(w:Nat)+1;omega)).alloc (.cells (Ym n).toArray 90);replace g:=bY (bD g ((w:Nat)+1,3) (.slice o.heap.size n n) (by show(w:Nat)<=(w:Nat)+1;omega)) (.cells (Ym n).toArray 90);have m:=aV (o.setCell ((w:Nat)+1,3) (.slice o.heap.size n n)) (Ym n) 90;rw[ar]at m;generalize(o.setCell ⟨(w:Nat)+1,3,none⟩ (.slice o.heap.size n n)).alloc (.cells (Ym n).toArray 90)=X at f a j g m|-;generalize(o:Nat)=gt at ai m a|-;go_loopw [21] (λi wr=>∃k l rest,k<=n/\i=k/\l.map tW.t=(nK k z).1/\Row wr gt 90 (yc l++rest)/\rest.length=(n -k)*3/\ny wr gt l/\qL wr rb (nK k z).2/\Row wr w 93 [aB,aA,aA,()]/\Row wr ((w:Nat)+1) 93 [(mk y),bits,bP,.slice gt n n]/\w.grownBy wr (some rb)) (λi _=>n -(intOf i).toNat);case atStart=>exact⟨0,[],Ym n,eX _,rfl,rfl,m,by rw[aaA];rfl,ny.nil _ _,j,f,a,g⟩
 case round=>
  obtain⟨k,l,rest,a0,rfl,A,m,C,u,J,f,a,g⟩:=hrel;replace C:=aJ C;have N:Hid (l.length=k):=by unfold Hid;have:=congrArg List.length A;rw[TK]at this;simpa using this
  replace A:=aJ A;by_cases a4:k<n
  .have B:Hid (nK (k+1) z=((nK k z).1++[(Ao (nK k z).2 ((k:Int)==0)).1],(Ao (nK k z).2 ((k:Int)==0)).2)):=rfl;generalize(nK k z).1=μ at A B;generalize(nK k z).2=P at J B;have t1:wr.cell? ((w:Nat)+1,3)=some (.slice gt n n):=a.cell 3;have a2:(0:Int)<=(k:Int):=O9;have a3:(k:Int)<(n:Int):=O9;have a8:(w:Nat)+1≠gt:=O9;have a9:gt≠(w:Nat)+1:=O9;go_wp2_with fail;go_region_held3 (λw'=>w'.cell? ((w:Nat)+1,3)=some (.slice gt n n)) (first|go_keep|exact(s.row (show Row wr.drew ((w:Nat)+1) _ _ from a) O9).cell 3) ((go_at_call 157;refine(Yn rb P _ _ (by exact J)).mono ?_;rintro e w' ⟨v,gi,go,rfl,⟨O,af,hgo,S,T⟩,s⟩;subst O;obtain⟨⟨bc,bj⟩,⟨bd,bk⟩,⟨bf,bm⟩,f0,f1,f2⟩:=(s.row (show Row wr.drew gt _ _ from m) O9).three (k*3) (by have:=C.out;have:=N.out;rw[cK,BR];omega)))
   have ag:(wr:Nat)<=gi:=af;have cB:=m.lt;have ak:∀(i:Nat) (q:tW),l[i]?=some q->q.go<(wr:Nat):=λi q h=>(u.rows i q h).2.2.2.lt;replace u:=u.kept (w':=w') λb K L=>(ua s.grown).block b L (by simp;omega);replace f:=s.row (show Row wr.drew ↑w _ _ from f) O9;replace a:=s.row (show Row wr.drew ((w:Nat)+1) _ _ from a) O9;replace m:=s.row (show Row wr.drew gt _ _ from m) O9;replace g:=g.trans (ua s.grown);have D:=s.at_;generalize(Ao P ((k:Int)==0)).1=x at B S T|-;generalize(Ao P ((k:Int)==0)).2=bb at B D;replace u:=u.snoc (p:=⟨x,gi,go⟩) ak cB ag hgo S T;have aj:Hid ((l++[(⟨x,gi,go⟩:tW)]).map tW.t=μ++[x]):=by unfold Hid;rw[List.map_append,A.out];rfl
   replace f:=((f.aM (gt,k*3) ↑x.tag (by show(w:Nat)≠gt;omega)).aM (gt,k*3+1) (.slice gi x.ins.length x.ins.length) (by show(w:Nat)≠gt;omega)).aM (gt,k*3+2) (.slice go x.outs.length x.outs.length) (by show(w:Nat)≠gt;omega);replace a:=((a.aM (gt,k*3) ↑x.tag (by show(w:Nat)+1≠gt;omega)).aM (gt,k*3+1) (.slice gi x.ins.length x.ins.length) (by show(w:Nat)+1≠gt;omega)).aM (gt,k*3+2) (.slice go x.outs.length x.outs.length) (by show(w:Nat)+1≠gt;omega);replace D:=((D.aM (gt,k*3) ↑x.tag (by show rb≠gt;omega)).aM (gt,k*3+1) (.slice gi x.ins.length x.ins.length) (by show rb≠gt;omega)).aM (gt,k*3+2) (.slice go x.outs.length x.outs.length) (by show rb≠gt;omega);replace g:=bD (bD (bD g (gt,k*3) ↑x.tag (by show(w:Nat)<=gt;omega)) (gt,k*3+1) (.slice gi x.ins.length x.ins.length) (by show(w:Nat)<=gt;omega)) (gt,k*3+2) (.slice go x.outs.length x.outs.length) (by show(w:Nat)<=gt;omega);replace m:=((m.set (k*3) ↑x.tag).set (k*3+1) (.slice gi x.ins.length x.ins.length)).set (k*3+2) (.slice go x.outs.length x.outs.length);rw[Au _ _ _ _ _ _ (by rw[BR,N.out]) (by have:=C.out;omega),<-TL l ⟨x,gi,go⟩]at m;replace u:=u.kept (w':=((w'.setCell (gt,k*3) ↑x.tag).setCell (gt,k*3+1) (.slice gi x.ins.length x.ins.length)).setCell (gt,k*3+2) (.slice go x.outs.length x.outs.length)) λb K L=>(E6 _ _ _ b (by show b≠gt;omega)).trans ((E6 _ _ _ b (by show b≠gt;omega)).trans (E6 _ _ _ b (by show b≠gt;omega)));generalize((w'.setCell ⟨gt,k*3,none⟩ ↑x.tag).setCell ⟨gt,k*3+1,none⟩ (.slice gi x.ins.length x.ins.length)).setCell ⟨gt,k*3+2,none⟩ (.slice go x.outs.length x.outs.length)=E at f a D g m u|-;go_wp2_with fail;go_roundw;case rel=>exact⟨k+1,l++[⟨x,gi,go⟩],rest.drop 3,O9,by go_num,by rw[B.out];exact aj.out,m,by rw[CQ,C.out];omega,u,by rw[B.out];exact D,f,a,g⟩
   case measure=>simp[intOf];omega
  .have ah:k=n:=O9;subst ah;have ao:rest=[]:=se (by rw[C.out];omega);subst ao;rw[nS]at m;replace H:=H.out;generalize(nK k z).1=μ at A H;generalize(nK k z).2=ba at J H;replace H:=aJ H;have cB:=m.lt;have W:wr.cell? ((w:Nat),0)=some ↑aB:=f.cell 0;have Y:wr.cell? ((w:Nat),1)=some ↑aA:=f.cell 1;have π:wr.cell? ((w:Nat),2)=some ↑aA:=f.cell 2;have aa:wr.cell? ((w:Nat),3)=some ↑():=f.cell 3;have au:=f.frozen 0;have av:=f.frozen 1;have ay:=f.frozen 2;have az:=f.frozen 3;have c0:wr.cell? ((w:Nat)+1,0)=some ↑(mk y):=a.cell 0;have c1:wr.cell? ((w:Nat)+1,1)=some ↑bits:=a.cell 1;have c2:wr.cell? ((w:Nat)+1,2)=some ↑bP:=a.cell 2;have c3:wr.cell? ((w:Nat)+1,3)=some (.slice gt k k):=a.cell 3;go_wp2_with fail;rw[H.out];have O:(Value.agg #[↑(mk y),bits,bP,.slice gt k k])=.agg #[↑(mk y),bits,bP,.slice gt l.length l.length]:=by rw[N.out]
   refine nC (v:=.agg #[↑(mk y),bits,bP,.slice gt k k]) (by simp[results,Tryz.results116,go_sem,W,Y,π,aa]) rfl ⟨gt,l,by rw[O],A.out,O9,?_,?_,?_,?_⟩;.refine(((m.aM _ _ ?_).aM _ _ ?_).aM _ _ ?_).aM _ _ ?_;all_goals(show gt≠(w:Nat);omega)
   .refine u.kept λb K L=>?_;refine(E6 _ _ _ b ?_).trans ((E6 _ _ _ b ?_).trans ((E6 _ _ _ b ?_).trans (E6 _ _ _ b ?_)));all_goals(show b≠(w:Nat);omega)
   .refine(((J.aM _ _ ?_).aM _ _ ?_).aM _ _ ?_).aM _ _ ?_;all_goals(show rb≠(w:Nat);omega)
   .refine bD (bD (bD (bD g _ _ ?_) _ _ ?_) _ _ ?_) _ _ ?_;all_goals exact L9
end
section
def aez:=@wpList_append_own_at
variable[Go.Proofs.VB]
def wN(B:Nat)(w:World)(v:Value)(l:List jR):Prop:=w.ownsRow B 139 3 v l.length (mN l)
def x9(B:Nat)(w:World)(v:Value)(l:List eY):Prop:=w.ownsRow B 86 2 v l.length (lS l)
def dA.cells(d:dA):List Value:=[.int .i64 d.tag,d.iv,d.ov]
def uG(l:List dA):List Value:=l.flatMap dA.cells
def NZ(B:Nat)(w:World)(v:Value)(l:List dA):Prop:=w.ownsRow B 90 3 v l.length (uG l)
def TG(l d):uG (l++[d])=uG l++[.int .i64 d.tag,d.iv,d.ov]:=by simp[uG,dA.cells]
def bO(w:World)(p v):w.grownBy (w.setCell p v) (some p.block):=by refine⟨rfl,rfl,rfl,?_,λk _ a=>Below.heap_setCell w p v k (by intro e;exact a (by rw[e]))⟩;simp only[World.setCell,AZ];exact L9
def fD{B}{w w':World}{e size n g v a}(h:w.ownsRow B e size v n a)(b:w.grownBy w' (some g))(d:g<B):w'.ownsRow B e size v n a:=h.kept b (by cases c:v.ownBlock with
  |none=>exact .inl rfl
  |some k=>have:=(h.lt k c).1;right;intro e;cases e;omega)
def wC{B}{w w':World}{e size n}{v u:Value}{a}(h:w.ownsRow B e size v n a)(b:w.grownBy w' u.ownBlock)(c:∀k,v.ownBlock=some k->u.ownBlock≠some k):w'.ownsRow B e size v n a:=h.kept b (by cases d:v.ownBlock with
  |none=>exact .inl rfl
  |some k=>right;intro e;exact c k d e.symm)
def SM{w w' g t cs}{u:Value}(h:Row w g t cs)(a:w.grownBy w' u.ownBlock)(b:∀k,u.ownBlock=some k->g≠k):Row w' g t cs:=(a.block g h.lt (λe=>b g e.symm rfl)).trans h
def wA{a w w':World}{r}{u:Value}(h:a.grownBy w r)(b:w.grownBy w' u.ownBlock)(c:∀k,u.ownBlock=some k->a<=k):a.grownBy w' r:=⟨b.os.trans h.os,b.tape.trans h.tape,b.output.trans h.output,bT h.size b.size,λi hi d=>(b.block i (eQ hi h.size) (λe=>by have:=c i e.symm;omega)).trans (h.block i hi d)⟩
def add0(g j):((g,0):Addr).add j=⟨g,j,none⟩:=by unfold Addr.add;split<;>simp_all
def aay{B w v l}(h:wN B w v l)(k:l.length<=140737488355328):vF w v l:=by
 refine⟨?_,k⟩;have a:=λg (e:v.ownBlock=some g)=>sx h e;obtain⟨rfl,n⟩|⟨g,cap,cur,rfl,_,_,_,_,_,_⟩:=h.2;.simp_all
 .refine⟨some (g,0),cap,rfl,λ_=>⟨g,0,rfl,λi x m=>?_⟩⟩;obtain⟨h0,f,j⟩:=vJ l i x m;have b:=a g rfl _ _ h0;have c:=a g rfl _ _ f;have d:=a g rfl _ _ j;rw[add0]at b c d;refine⟨?_,?_,?_⟩<;>simp<;>assumption
def aaz{B w v l}(h:x9 B w v l)(f:l.length<=140737488355328):qA w v l:=by
 refine⟨?_,f⟩;have a:=λg (e:v.ownBlock=some g)=>sx h e;obtain⟨rfl,k⟩|⟨g,cap,cur,rfl,_,_,_,_,_,_⟩:=h.2;.simp_all
 .refine⟨some (g,0),cap,rfl,λ_=>⟨g,0,rfl,λi x j=>?_⟩⟩;obtain⟨h0,d⟩:=wG l i x j;have b:=a g rfl _ _ h0;have c:=a g rfl _ _ d;rw[add0]at b c;refine⟨?_,?_⟩<;>simp<;>assumption
def zt:∀l i x,l[i]?=some x->(uG l)[i*3]?=some x.tag/\(uG l)[i*3+1]?=some x.iv/\(uG l)[i*3+2]?=some x.ov
 |[],i,x,h=>by simp at h
 |y::l,0,x,h=>by simp at h;subst h;simp[uG,dA.cells]
 |y::l,i+1,x,h=>by have:=zt l i x (by simpa using h);have e:uG (y::l)=y.cells++uG l:=rfl;have a:y.cells.length=3:=rfl;rw[e,eZ (by rw[a];omega),eZ (by rw[a];omega),eZ (by rw[a];omega),a];rw[show(i+1)*3 -3=i*3 from by omega,show(i+1)*3+1 -3=i*3+1 from by omega,show(i+1)*3+2 -3=i*3+2 from by omega];exact this
structure cM(B:Nat)(w:World)(v:Value)(l:List dA):Prop where
 own:NZ B w v l
 ins:∀d∈l,wN B w d.iv d.ins/\∀k,d.iv.ownBlock=some k->v.ownBlock≠some k
 outs:∀d∈l,x9 B w d.ov d.outs/\∀k,d.ov.ownBlock=some k->v.ownBlock≠some k
def cM.nil(B w):cM B w () []:=⟨iZ _ _ _ _,λd a=>by simp at a,λd a=>by simp at a⟩
def cM.kept{B w w' v l g}(h:cM B w v l)(b:w.grownBy w' (some g))(c:g<B):cM B w' v l:=⟨fD h.own b c,λd a=>⟨fD (h.ins d a).1 b c,(h.ins d a).2⟩,λd a=>⟨fD (h.outs d a).1 b c,(h.outs d a).2⟩⟩
def cM.snoc{B B1 w w' v f l d}(h:cM B w v l)(C:B<=B1)(s:NZ B w' f (l++[d]))(p:w.grownBy w' v.ownBlock)(q:f.ownBlock=v.ownBlock\/f.ownBlock=some ↑w)(t:∀k,v.ownBlock=some k->k<B1)(hi:wN B1 w d.iv d.ins)(b:x9 B1 w d.ov d.outs):cM B w' f (l++[d]):=by
 have key:∀{e:TypeId} {size n:Nat} {u:Value} {c:List Value},w.ownsRow B e size u n c->(∀k,u.ownBlock=some k->v.ownBlock≠some k)->w'.ownsRow B e size u n c/\∀k,u.ownBlock=some k->f.ownBlock≠some k:=by
  intro e size n u c b r;refine⟨wC b p r,λk j e=>?_⟩;obtain i|i:=q;.simp_all
  .have:=(b.lt k j).2;rw[i]at e;cases e;omega
 have low:∀{e:TypeId} {size n:Nat} {u:Value} {c:List Value},w.ownsRow B1 e size u n c->w.ownsRow B e size u n c:=by
  intro e size n u c b;refine⟨b.1,?_⟩;obtain h0|⟨g,cap,cur,m,y,o⟩:=b.2;.simp_all
  .exact .inr ⟨g,cap,cur,m,O9,o⟩
 have r9:∀{e:TypeId} {size n:Nat} {u:Value} {c:List Value},w.ownsRow B1 e size u n c->∀k,u.ownBlock=some k->v.ownBlock≠some k:=by intro e size n u c b k j i;have z:=(b.lt k j).1;have A:=t k i;omega
 refine⟨s,λx a=>?_,λx a=>?_⟩
 .obtain a|a:=kV.1 a;.exact key (h.ins x a).1 (h.ins x a).2
  .simp at a;subst a;exact key (low hi) (r9 hi)
 .obtain a|a:=kV.1 a;.exact key (h.outs x a).1 (h.outs x a).2
  .simp at a;subst a;exact key (low b) (r9 b)
def cM.abp{B w v l}(h:cM B w v l)(o:l.length<=1000)(hi:∀d∈l,d.ins.length<=1000/\d.outs.length<=1000):xy w v l:=by
 refine⟨?_,O9⟩;have b:=λg (e:v.ownBlock=some g)=>sx h.own e;obtain⟨rfl,p⟩|⟨g,cap,cur,rfl,_,_,_,_,_,_⟩:=h.own.2;.simp_all
 .refine⟨some (g,0),cap,rfl,λ_=>⟨g,0,rfl,λi x c=>?_⟩⟩;have a:=eN c;obtain⟨h0,m,n⟩:=zt l i x c;have f:=b g rfl _ _ h0;have j:=b g rfl _ _ m;have k:=b g rfl _ _ n;rw[add0]at f j k;refine⟨?_,?_,?_,aay (h.ins x a).1 (by have:=hi x a;omega),aaz (h.outs x a).1 (by have:=hi x a;omega)⟩<;>simp<;>assumption
def E3{w:World}{g a b c}(h0:w.cell? (g,0)=some a)(e:w.cell? (g,1)=some b)(f:w.cell? (g,2)=some c):∀j u,[a,b,c][j]?=some u->w.cell? ((⟨g,0,none⟩:Addr).add j)=some u:=by intro j u d;match j,d with
 |0,d=>simp at d;subst d;simpa[Addr.add]using h0
 |1,d=>simp at d;subst d;simpa[Addr.add]using e
 |2,d=>simp at d;subst d;simpa[Addr.add]using f
 |j+3,d=>simp at d
def OB{w:World}{g a b}(h0:w.cell? (g,0)=some a)(d:w.cell? (g,1)=some b):∀j u,[a,b][j]?=some u->w.cell? ((⟨g,0,none⟩:Addr).add j)=some u:=by intro j u c;match j,c with
 |0,c=>simp at c;subst c;simpa[Addr.add]using h0
 |1,c=>simp at c;subst c;simpa[Addr.add]using d
 |j+2,c=>simp at c
def Iu{B w ops rest o a Q}(m:o.guard=none)(s x)(n:o.op=.call {callee:=.builtin .append,args:=#[s,x],argTypes:=#[88,88]})(v)(l)(q:a.eval s=v)(p:wN B w v l)
 (d)(g)(r:a.eval x=.slice g 1 1)(c:Row w g 139 d.cells)(hlen:l.length<=1000000)(k:B<=w)
 (h:∀b w',wN B w' b (l++[d])->w.grownBy w' v.ownBlock->(b.ownBlock=v.ownBlock\/b.ownBlock=some ↑w)->wpList aI.prog ops Q rest (a.put o.dst b) w'):wpList aI.prog ops Q (o::rest) a w:=by
 obtain⟨A,hi,t,y,z⟩:=info_parts Xg;refine wpList_append_own_at _ m s x 88 n B 139 A _ 3 40 aI.underlying88 hi t y z rfl D9 v l.length (mN l) q p ⟨g,0,none⟩ 1 1 d.cells r rfl (E3 (c.cell 0) (c.cell 1) (c.cell 2)) ?_ (by unfold maxLen;omega) O9 k ?_;.intro u e;simp[jR.cells]at e;obtain rfl|rfl|rfl:=e<;>rfl
 .intro b w' f i _ j;refine h b w' ?_ i j;unfold wN;rw[Av,cK];exact f
def zx{B w ops rest o a Q}(m:o.guard=none)(s x)(n:o.op=.call {callee:=.builtin .append,args:=#[s,x],argTypes:=#[87,87]})(v)(l)(q:a.eval s=v)(p:x9 B w v l)
 (d)(g)(r:a.eval x=.slice g 1 1)(c:Row w g 86 d.cells)(hlen:l.length<=1000000)(k:B<=w)
 (h:∀b w',x9 B w' b (l++[d])->w.grownBy w' v.ownBlock->(b.ownBlock=v.ownBlock\/b.ownBlock=some ↑w)->wpList aI.prog ops Q rest (a.put o.dst b) w'):wpList aI.prog ops Q (o::rest) a w:=by
 obtain⟨A,hi,t,y,z⟩:=info_parts abC;refine wpList_append_own_at _ m s x 87 n B 86 A _ 2 24 aI.underlying87 hi t y z rfl D9 v l.length (lS l) q p ⟨g,0,none⟩ 1 1 d.cells r rfl (OB (c.cell 0) (c.cell 1)) ?_ (by unfold maxLen;omega) O9 k ?_;.intro u e;simp[eY.cells]at e;obtain rfl|rfl:=e<;>rfl
 .intro b w' f i _ j;refine h b w' ?_ i j;unfold x9;rw[E4,cK];exact f
def Ir{B w ops rest o a Q}(p:o.guard=none)(s x)(q:o.op=.call {callee:=.builtin .append,args:=#[s,x],argTypes:=#[91,91]})(v)(l)(t:a.eval s=v)(r:NZ B w v l)
 (d)(g)(y:a.eval x=.slice g 1 1)(c:Row w g 90 d.cells)(f:d.iv.oneCell'=true)(i:d.ov.oneCell'=true)(hlen:l.length<=1000000)(n:B<=w)
 (h:∀b w',NZ B w' b (l++[d])->w.grownBy w' v.ownBlock->(b.ownBlock=v.ownBlock\/b.ownBlock=some ↑w)->wpList aI.prog ops Q rest (a.put o.dst b) w'):wpList aI.prog ops Q (o::rest) a w:=by
 obtain⟨D,hi,z,A,C⟩:=info_parts Le;refine wpList_append_own_at _ p s x 91 q B 90 D _ 3 56 aI.underlying91 hi z A C rfl D9 v l.length (uG l) t r ⟨g,0,none⟩ 1 1 d.cells y rfl (E3 (c.cell 0) (c.cell 1) (c.cell 2)) ?_ (by unfold maxLen;omega) O9 n ?_
 .intro u e;simp[dA.cells]at e;obtain rfl|rfl|rfl:=e;.rfl
  .exact f
  .exact i
 .intro b w' j k _ m;refine h b w' ?_ k m;unfold NZ;rw[TG,cK];exact j
end
section
variable[Go.Proofs.VB]
def tP{B}{w:World}{e size n v a}(h:w.ownsRow B e size v n a)(p u)(b:∀k,v.ownBlock=some k->k≠p.block):(w.setCell p u).ownsRow B e size v n a:=h.kept (bO w p u) (by cases c:v.ownBlock with
  |none=>exact .inl rfl
  |some k=>right;intro e;exact b k c (by simpa using e))
def cO{B}{w:World}{e size n v a}(h:w.ownsRow B e size v n a)(m)(b:n=m+1):∃g cap,v=.slice (some ⟨g,0,none⟩) (m+1) cap:=by
 obtain⟨_,h0⟩|⟨g,cap,cur,c,_⟩:=h.2;.omega
 .simp_all
def dA.m(d:dA):rh:=⟨d.tag,d.ins,d.outs⟩
end
section
variable[Go.Proofs.VB]
def mZ(s:List UInt8):Option vH:=if(iQ ⟨s,false⟩).2.bad||!(iQ ⟨s,false⟩).2.l.isEmpty then none else some (iQ ⟨s,false⟩).1
structure Lq(a w:World)(v:Value)(b:vH)(gt:Nat)(ps:List tW):Prop where
 val:v=.agg #[.string (mk b.parent),.int .i64 b.bits,.int .i64 b.bP,.slice (some ⟨gt,0,none⟩) ps.length ps.length]
 dH:ps.map tW.t=b.dH
 lt:a.heap.size<=gt
 row:Row w gt 90 (yc ps)
 rows:ny w gt ps
def lO:Value:=.agg #[aB,aA,aA,.slice none 0 0]
def Yw(l):(mk l).toList.isEmpty=l.isEmpty:=by rw[ByteArray.toList_eq];simp[mk]
def yg{a w1 B}(c:Below B a w1)(b:B<=w1)(v0 v1 v2 v3 o):Below B a (((((w1.setCell (B,0) v0).setCell (B,1) v1).setCell (B,2) v2).setCell (B,3) v3).alloc o):=by
 refine Below.alloc ((((c.setCell (p:=(B,0)) L9 v0).setCell (p:=(B,1)) L9 v1).setCell (p:=(B,2)) L9 v2).setCell (p:=(B,3)) L9 v3) ?_ o;simpa only[World.setCell,AZ]using b
def Fb{w1 B g t cs}(h:Row w1 g t cs)(a:g≠B)(v0 v1 v2 v3 o):Row (((((w1.setCell (B,0) v0).setCell (B,1) v1).setCell (B,2) v2).setCell (B,3) v3).alloc o) g t cs:=
 ((((h.aM ⟨B,0,none⟩ v0 a).aM ⟨B,1,none⟩ v1 a).aM ⟨B,2,none⟩ v2 a).aM ⟨B,3,none⟩ v3 a).alloc o
def Me{w1 B g l}(h:ny w1 g l)(f:B<=g)(v0 v1 v2 v3 o):ny (((((w1.setCell (B,0) v0).setCell (B,1) v1).setCell (B,2) v2).setCell (B,3) v3).alloc o) g l:=
 ⟨λi p e=>by obtain⟨a,b,c,d⟩:=h.rows i p e;exact⟨a,b,Fb c O9 _ _ _ _ _,Fb d O9 _ _ _ _ _⟩,h.asc⟩
def vG(s w):Calls aI.prog 65 #[(mk s)] w λe w'=>Below w w w'/\((mZ s=none/\e=.returned (.tuple #[lO,aG]))\/∃b v gt f,mZ s=some b/\e=.returned (.tuple #[v,aA])/\Lq w w' v b gt f):=by
 have d:Hid (mZ s=if(iQ ⟨s,false⟩).2.bad||!(iQ ⟨s,false⟩).2.l.isEmpty then none else some (iQ ⟨s,false⟩).1):=rfl;go_enter aI.func65,Tryz.ntmps65;go_wp2_with fail;have z:qL ((w.alloc (.cells #[aB,aA,aA,()] 93)).alloc (.cells #[(mk s),aF] 224)) ((w:Nat)+1) ⟨s,false⟩:=by have:=aV (w.alloc (.cells #[aB,aA,aA,()] 93)) [(mk s),aF] 224;rw[bB]at this;exact this
 refine(Mb ((w:Nat)+1) ⟨s,false⟩ _ z).mono ?_;rintro e w1 ⟨gt,f,rfl,x,cB,y,C,p⟩;simp only[bB]at cB;have a:=p.row ((aV w [aB,aA,aA,()] 93).alloc (.cells #[(mk s),aF] 224)) O9;have q:Below w w w1:=by have A:Below w w ((w.alloc (.cells #[aB,aA,aA,()] 93)).alloc (.cells #[(mk s),aF] 224)):=(B0.alloc L9 _).alloc (by simp only[bB];omega) _;exact A.grown p.grown (by simp only[bB];omega) (λk B=>by simp at B;omega)
 have g:=p.at_;generalize(iQ ⟨s,false⟩).1=b at d x|-;generalize(iQ ⟨s,false⟩).2=r1 at d g;obtain⟨l1,t⟩:=r1;have c0:w1.cell? ((w:Nat)+1,0)=some (mk l1):=Ma g 0;have c1:w1.cell? ((w:Nat)+1,1)=some (.bool t):=Ma g 1;have H:(w:Nat)+1<(w1:Nat):=Row.lt g;have j:w1.cell? ((w:Nat),0)=some ↑aB:=a.cell 0;have m:w1.cell? ((w:Nat),1)=some ↑aA:=a.cell 1;have n:w1.cell? ((w:Nat),2)=some ↑aA:=a.cell 2;have o:w1.cell? ((w:Nat),3)=some ():=a.cell 3;have D:=a.frozen 0;have E:=a.frozen 1;have F:=a.frozen 2;have G:=a.frozen 3;have r:(w:Nat)<(w1:Nat):=O9;have u:=Yw l1;cases t;case true=>go_wp2_with fail;have c:mZ s=none:=d.out;exact nC (v:=.tuple #[lO,aG]) (by simp[results,Tryz.results65,go_sem,j,m,n,o,lO,r]) rfl ⟨yg q O9 _ _ _ _ _,.inl ⟨c,rfl⟩⟩
 case false=>
  cases i:l1.isEmpty
  .rw[i]at u;go_wp2_with fail;have c:mZ s=none:=by have h:=d.out;rw[i]at h;exact h
   exact nC (v:=.tuple #[lO,aG]) (by simp[results,Tryz.results65,go_sem,j,m,n,o,lO,r]) rfl ⟨yg q O9 _ _ _ _ _,.inl ⟨c,rfl⟩⟩
  .rw[i]at u;go_wp2_with fail;have c:mZ s=some b:=by have h:=d.out;rw[i]at h;exact h
   exact nC (v:=.tuple #[.agg #[(mk b.parent),b.bits,b.bP,.slice gt f.length f.length],aA]) (by simp[results,Tryz.results65,go_sem,j,m,n,o,r]) rfl ⟨yg q O9 _ _ _ _ _,.inr ⟨b,_,gt,f,c,rfl,rfl,x,O9,Fb y O9 _ _ _ _ _,Me C O9 _ _ _ _ _⟩⟩
end
section
variable[Go.Proofs.VB]
def GN{s t:dA}(h:s.ZK t)(first):s.fits first=t.fits first:=by obtain⟨a,b,c⟩:=h;simp[dA.fits,a,b,c]
def NG{s t:dA}(h:s.ZK t):s.bytes=t.bytes:=by obtain⟨a,b,c⟩:=h;simp[dA.bytes,a,b,c]
def KR{α:Type}{f:dA->α}(b:∀s t,s.ZK t->f s=f t){l m}(h:Cz l m):l.map f=m.map f:=by
 apply qf;intro i;simp;by_cases hi:i<l.length
 .have a:i<m.length:=by have:=h.1;omega
  rw[cN hi,cN a];simp;rw[b _ _ (h.2 i _ _ (cN hi) (cN a))]
 .rw[aa2 O9,aa2 (by have:=h.1;omega)]
def Eg{l m}(h:Cz l m)(p bits bP):dF p bits bP l=dF p bits bP m:=by
 have e:∀x:List dA,x.zipIdx.all (λq=>q.1.fits ((q.2:Int)==0))=(x.map (λt=>(t.fits true,t.fits false))).zipIdx.all (λq=>if((q.2:Int)==0)then q.1.1 else q.1.2):=by intro x;rw[List.zipIdx_map,List.all_map];congr 1;funext q;simp only[Function.comp,Prod.map,id];cases((q.2:Int)==0)<;>rfl
 simp[dF,h.1,e];rw[KR (f:=λt=>(t.fits true,t.fits false)) (λs t a=>by rw[GN a,GN a]) h]
def Cf{l m}(h:Cz l m)(p bits bP):fR p bits bP l=fR p bits bP m:=by
 have e:l.flatMap dA.bytes=m.flatMap dA.bytes:=by rw[Pd,Pd,KR (λs t a=>NG a) h]
 simp[fR,h.1,e]
end
section
variable[Go.Proofs.VB]
def rh.d(t:rh):dA:=⟨t.tag,.slice none 0 0,t.ins,.slice none 0 0,t.outs⟩
def kK(b:vH):Bool:=dF (mk b.parent) b.bits b.bP (b.dH.map rh.d)
def tK(b:vH):List UInt8:=fR (mk b.parent) b.bits b.bP (b.dH.map rh.d)
def acb(ds b)(h:ds.map dA.m=b):Cz ds (b.map rh.d):=by subst h;refine⟨S8,λi s t c a=>?_⟩;rw[uS,fW,c]at a;simp at a;subst a;exact⟨rfl,rfl,rfl⟩
def cM.keep{B w w' v l}(h:cM B w v l)(a:Below w w w'):cM B w' v l:=by
 have key:∀{e:TypeId} {size n:Nat} {u:Value} {c:List Value},w.ownsRow B e size u n c->w'.ownsRow B e size u n c:=λg=>g.kept (row:=none) ⟨a.os,a.tape,a.output,a.size,λk f _=>a.block k f⟩ (by cases Value.ownBlock _<;>simp)
 exact⟨key h.own,λd b=>⟨key (h.ins d b).1,(h.ins d b).2⟩,λd b=>⟨key (h.outs d b).1,(h.outs d b).2⟩⟩
end
section
variable[Go.Proofs.VB]
def oJ(h:Int)(c:UInt8):Int:=IntKind.u64.wrap (bits .xor .u64 h (c.toNat:Int)*1099511628211)
def hN(l:List UInt8):Int:=l.foldl oJ 14695981039346656037
def Ik(a b:Nat)(c:a<18446744073709551616)(d:b<18446744073709551616):bits .xor .u64 (a:Int) (b:Int)=((a^^^b:Nat):Int):=by have e:=Ut (n:=64) c d;show IntKind.u64.wrap ((BitVec.ofInt 64 (a:Int)^^^BitVec.ofInt 64 (b:Int)).toNat:Int)=_;rw[BitVec.toNat_xor,ofInt_u64 a c,ofInt_u64 b d,IntKind.wrap_u64];omega
def Eo(h c):0<=oJ h c/\oJ h c<18446744073709551616:=by unfold oJ;rw[IntKind.wrap_u64];omega
def uA(l):0<=hN l/\hN l<18446744073709551616:=by
 have:∀(l:List UInt8) (a:Int),0<=a/\a<18446744073709551616->0<=l.foldl oJ a/\l.foldl oJ a<18446744073709551616:=by intro l;induction l with
  |nil=>intro a h;exact h
  |cons c l b=>intro a _;exact b _ (Eo a c)
 exact this l _ O9
def Qa(l c):hN (l++[c])=oJ (hN l) c:=by simp[hN]
def q9(l w)(n:l.length<=1000000):Calls aI.prog 131 #[(mk l)] w λe w'=>e=.returned (.int .u64 (hN l))/\w'=w:=by
 have o:=dC l;go_enter aI.func131,Tryz.ntmps131;go_wp2_with fail;go_loop [3,7] (λh i=>∃k:Nat,k<=l.length/\i=↑k/\h=.int .u64 (hN (l.take k))) (λ_ i=>l.length -(intOf i).toNat);case atStart=>exact⟨0,eX _,rfl,rfl⟩
 case round=>
  obtain⟨k,j,rfl,rfl⟩:=hrel;by_cases a:k<l.length
  .have d:=py l k (k:Int) rfl a;have f:l.take (k+1)=l.take k++[l[k]]:=by rw[uO a]
   have b:Hid (hN (l.take (k+1))=oJ (hN (l.take k)) (l.getD k 0)):=by unfold Hid;rw[f,Qa];simp[a]
   have g:=(l.getD k 0).toNat_lt;generalize l.getD k 0=c at d b g;go_wp2_with fail;go_round;case rel=>exact⟨k+1,O9,by go_num,by rw[b.out];rfl⟩
   case measure=>simp[intOf];omega
  .have m:k=l.length:=O9;go_wp2_with fail;go_ret;exact⟨rfl,rfl⟩
def NM(n):∀m k,k<m->(be n m)[k]?=some (byteOf (n/2^(8*(m -1 -k))%256))
 |m+1,0,_=>by simp[be]
 |m+1,k+1,h=>by have:=NM n m k O9;simp only[be,pg,this];rw[show m+1 -1 -(k+1)=m -1 -k from by omega]
def NN(n k y rest)(b:k<8):(bv ((be n 8).take k)++(y::rest)).set k (.int .u8 (n/2^(56 -8*k)%256))=bv ((be n 8).take (k+1))++rest:=by
 have a:=NM n 8 k b;have c:(bv ((be n 8).take k)).length=k:=by rw[p6,qd,bI];omega
 rw[ug _ _ O9,c,Pe,a,show 8*(8 -1 -k)=56 -8*k from by omega];have d:((byteOf (n/2^(56 -8*k)%256)).toNat:Int)=n/2^(56 -8*k)%256:=dD _ (O5 _ O9) (O6 _ O9);simp[bv,d]
def pG(n w)(_h0:0<=n)(_h1:n<18446744073709551616):Calls aI.prog 158 #[.int .u64 n] w λe w'=>e=.returned (mk (be n 8))/\Below w w w':=by
 go_enter aI.func158,Tryz.ntmps158;go_wp2_with fail;go_loopw [5] (λi wr=>∃(k:Nat) (rest:List Value),k<=8/\i=k/\Row wr w 294 (bv ((be n 8).take k)++rest)/\rest.length=8 -k/\Below w w wr) (λi _=>8 -(intOf i).toNat);case atStart=>exact⟨0,[.int .u8 0,.int .u8 0,.int .u8 0,.int .u8 0,.int .u8 0,.int .u8 0,.int .u8 0,.int .u8 0],eX _,rfl,aV w _ _,rfl,B0.alloc L9 _⟩
 case round=>
  obtain⟨k,rest,p,rfl,R,a,d⟩:=hrel;by_cases l:k<8;.match rest,a with
   |[],a=>simp at a;omega
   |y::rest,a=>
     have h:(bv ((be n 8).take k)).length=k:=by rw[p6,qd,bI];omega
     have c0:wr.cell? ((w:Nat),k)=some y:=by rw[R.cell,eZ O9,h,AX];rfl
     have f0:=R.frozen k;have c:=R.set k (.int .u8 (n/2^(56 -8*k)%256));rw[NN n k y rest l]at c;replace a:=aJ a;go_wp2_with fail;go_roundw;case rel=>exact⟨k+1,rest,O9,by go_num,c,by have:=a.out;simp only[fH]at this;omega,d.setCell L9 _⟩
     case measure=>simp[intOf];omega
  .have m:rest=[]:=se O9;subst m;rw[nS,Pf (by rw[bI];omega)]at R;have f:=bI n 8;generalize b:be n 8=q at R f;replace b:=aJ b;have o:(convert 158 9 (.slice w.heap.size 8 8)).run aI.prog wr=.ok (mk q) wr:=by have:=run_convert_bytes_back (P:=aI.prog) wr 158 9 5 ((w:Nat),0) 8 q aI.underlying158 aI.underlying5 aI.underlying9 (λj g=>by rw[add0,R.cell];simp[bv,g]);rw[f]at this;exact this
   go_wp2_with fail;go_ret;exact⟨by rw[b.out];rfl,d⟩
def zn(l w)(d:l.length<=1000000):Calls aI.prog 117 #[(mk l)] w λe w'=>e=.returned (.string (mk (be (hN l) 8)))/\Below w w w':=by
 have b:=uA l;go_enter aI.func117,Tryz.ntmps117;go_wp2_with fail;refine(q9 l _ d).mono ?_;rintro e w1 ⟨rfl,rfl⟩;go_wp2_with fail;refine(pG (hN l) _ b.1 b.2).mono ?_;rintro e w2 ⟨rfl,c⟩;generalize a:mk (be (hN l) 8)=q;replace a:=aJ a;go_wp2_with fail;go_ret;exact⟨by rw[a.out];rfl,c⟩
end
def bW{B w w'}(h:Below B w w'):Below B w w'.drew:=⟨h.os,h.tape,h.output,h.size,h.block⟩
def Xt{w w' r C}(h:w.grownBy w' r)(b:C<=↑w)(a:∀k,r=some k->C<=k):Below C w w':=⟨h.os,h.tape,h.output,h.size,λi hi=>h.block i O9 (λe=>by have:=a i e.symm;omega)⟩
structure BG(p:Prop):Prop where
 out:p
end Go.Proofs.aH
