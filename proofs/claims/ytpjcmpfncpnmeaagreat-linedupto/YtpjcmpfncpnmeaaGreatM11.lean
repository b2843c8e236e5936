import Derived.Deep.RegionLaw
import Derived.ArgAppend
import Derived.Test.YtpjcmpfncpnmeaaGreatM09
import Derived.Test.YtpjcmpfncpnmeaaGreatM10
set_option linter.all false
set_option maxHeartbeats 16000000
set_option maxRecDepth 100000
namespace Go.Proofs.aH
open Go.RowKit
def iD(c n:Int):Int:=(if c<0 then-(c+1)else c)%n
def jJ(c n)(h:0<n):0<=iD c n/\iD c n<n:=⟨O5 _ O9,O6 _ h⟩
def px(c n w)(d:0<n)(f:n<9223372036854775808)(a:-9223372036854775808<=c)(b:c<9223372036854775808):Calls aI.prog 12 #[.int .i64 c,.int .i64 n] w λe w'=>e=.returned (iD c n)/\w'=w:=by
 by_cases h:c<0
 .have e:iD c n=(-(c+1)).tmod n:=by unfold iD;rw[if_pos h,Int.tmod_eq_emod_of_nonneg O9]
  replace e:=aJ e;go_enter aI.func12,Tryz.ntmps12;go_wp2_with fail;go_ret;rw[e.out,Int.neg_tmod];exact⟨rfl,rfl⟩
 .have e:Hid (iD c n=c%n):=by unfold Hid iD;rw[if_neg h]
  go_enter aI.func12,Tryz.ntmps12;go_wp2_with fail;go_ret;rw[e.out];exact⟨rfl,rfl⟩
def adx(w):(Instr.makeSlice 158 (.int .i64 8) (.int .i64 8)).run aI.prog w=.ok (.slice (w:Nat) 8 8) (w.alloc (.cells #[.int .u8 0,.int .u8 0,.int .u8 0,.int .u8 0,.int .u8 0,.int .u8 0,.int .u8 0,.int .u8 0] 5)):=by obtain⟨d,hi,a,b,c⟩:=info_parts GH;have:=uN (P:=aI.prog) w 158 5 d _ aI.underlying158 hi a .i64 .i64 8 8 O9 (nB _) (by rw[c];omega) O9;rw[this,b];have e:madeCells (Value.int .u8 0).cells (Int.toNat 8*1)=#[.int .u8 0,.int .u8 0,.int .u8 0,.int .u8 0,.int .u8 0,.int .u8 0,.int .u8 0,.int .u8 0]:=K8;rw[e];rfl
def Sm(n m t)(c:t<8)(b:m=n/2^(8*t)):(List.replicate (8 -t) (Value.int .u8 0)++bv (be n t)).set (7 -t) (.int .u8 (m%256))=List.replicate (8 -(t+1)) (Value.int .u8 0)++bv (be n (t+1)):=by have e:8 -t=(8 -(t+1))+1:=O9;rw[e,List.replicate_succ',kH,ug _ _ (by rw[aa1];omega)];have a:=dD (m%256) O9 O9;rw[b]at a|-;simp[be,bv,a]
def oV(n w)(h0:0<=n)(u:n<18446744073709551616):Calls aI.prog 27 #[.int .u64 n] w λe w'=>e=.returned (mk (be n 8))/\Below w w w':=by
 have r:=adx;go_enter aI.func27,Tryz.ntmps27;go_wp2_with fail;clear r;go_loopw [0,4] (λs i wr=>∃(t:Nat) (m:Int),t<=8/\i=↑(7 -(t:Int))/\s=.int .u64 m/\m=n/2^(8*t)/\Row wr w 5 (List.replicate (8 -t) (Value.int .u8 0)++bv (be n t))/\Below w w wr) (λ_ i _=>(intOf i+1).toNat);case atStart=>exact⟨0,n,eX _,rfl,rfl,S8,aV w _ _,B0.alloc L9 _⟩
 case round=>
  obtain⟨t,m,A,rfl,rfl,b,R,g⟩:=hrel;have y:0<=m:=by rw[b];exact Int.ediv_nonneg h0 (by exact Uo (Int.pow_pos D9))
  have z:m<=n:=by rw[b];exact Int.ediv_le_self _ h0
  by_cases o:t<8
  .obtain⟨k,c⟩:∃k,k=7 -t:=⟨_,rfl⟩;have a:(7 -(t:Int))=(k:Int):=O9;have d:=R.set (7 -t) (.int .u8 (m%256));rw[Sm n m t o b]at d;have c0:wr.cell? ((w:Nat),7 -t)=some (.int .u8 0):=by rw[R.cell,pK (by rw[aa1];omega),aaZ,bM O9]
   have f0:=R.frozen (7 -t);rw[<-c]at d c0 f0;rw[a];have p:=aJ b;clear b R;replace c:=aJ c;replace a:=aJ a;have x:k<8:=by have:=c.out;omega
   go_wp2_with fail;go_roundw;case rel=>exact⟨t+1,m/256,O9,by have:=a.out;congr 1;omega,by go_num,by rw[p.out,We],d,g.setCell L9 _⟩
   case measure=>have:=a.out;simp[intOf]
  .have:t=8:=O9;subst this;have h:=bI n 8;generalize f:be n 8=q at R h;replace f:=aJ f;have v:(convert 158 9 (.slice w.heap.size 8 8)).run aI.prog wr=.ok (mk q) wr:=by have:=run_convert_bytes_back (P:=aI.prog) wr 158 9 5 ((w:Nat),0) 8 q aI.underlying158 aI.underlying5 aI.underlying9 (λj l=>by rw[add0,R.cell];simp[bv,l]);rw[h]at this;exact this
   go_wp2_with fail;go_ret;exact⟨by rw[f.out];rfl,g⟩
def qw(n w)(h0:0<=n)(a:n<256):Calls aI.prog 28 #[.int .i64 n] w λe w'=>e=.returned (mk [byteOf n])/\Below w w w':=by
 have b:=Zy w n h0 a;go_enter aI.func28,Tryz.ntmps28;go_wp2_with fail;go_ret;exact⟨rfl,B0.alloc L9 _⟩
def Ef(n w)(h0:0<=n)(d:n<18446744073709551616):Calls aI.prog 87 #[.int .u64 n] w λe w'=>e=.returned (mk (64::be n 8))/\Below w w w':=by
 have b:=λw=>oV n w h0 d;have c:=bI n 8;generalize be n 8=t at b c;have h:(mk [byteOf 64]).size=1:=rfl;have i:(mk t).size=8:=by rw[dC,c]
 go_enter aI.func87,Tryz.ntmps87;go_wp2_with fail;refine(qw 64 w O9 O9).mono ?_;rintro e w1 ⟨rfl,f⟩;generalize a:mk [byteOf 64]=q at h|-;replace a:=aJ a;go_wp2_with fail;refine(b w1).mono ?_;rintro e w2 ⟨rfl,g⟩;go_wp2_with fail;go_ret;rw[<-a.out];exact⟨by rw[show mk (64::t)=mk [byteOf 64]++mk t from(nJ [byteOf 64] t).symm];rfl,nI f L9 g⟩
def xW(l w)(n:l.length<=1000000):Calls aI.prog 88 #[(mk l)] w λe w'=>e=.returned (.int .u64 (hN l))/\w'=w:=by
 have o:=dC l;go_enter aI.func88,Tryz.ntmps88;go_wp2_with fail;go_loop [3,4] (λh i=>∃k:Nat,k<=l.length/\i=↑k/\h=.int .u64 (hN (l.take k))) (λ_ i=>l.length -(intOf i).toNat);case atStart=>exact⟨0,eX _,rfl,rfl⟩
 case round=>
  obtain⟨k,j,rfl,rfl⟩:=hrel;by_cases a:k<l.length
  .have d:=py l k (k:Int) rfl a;have f:l.take (k+1)=l.take k++[l[k]]:=by rw[uO a]
   have b:Hid (hN (l.take (k+1))=oJ (hN (l.take k)) (l.getD k 0)):=by unfold Hid;rw[f,Qa];simp[a]
   have g:=(l.getD k 0).toNat_lt;generalize l.getD k 0=c at d b g;go_wp2_with fail;go_round;case rel=>exact⟨k+1,O9,by go_num,by rw[b.out];rfl⟩
   case measure=>simp[intOf];omega
  .have m:k=l.length:=O9;go_wp2_with fail;go_ret;exact⟨rfl,rfl⟩
def iA{ops o a w K Q E}(f)(j:o.guard=none)(d n)(k:o.op=.call {callee:=.value (.func f),args:=d,argTypes:=n})(b)(l:d.map a.eval=b)(R:Value->World->Prop)(g:Calls aI.prog f b w λe w'=>∃v,e=.returned v/\R v w')
 (i:(callFunc f b).run aI.prog w=.ok (.enter f b) w)(h:∀v w',R v w'->K (a.put o.dst v) w'):if Region.wanted o (yielded ops a.tmps)=true then Oper.wp aI.prog o a w K Q else E:=by
 have m:Region.wanted o (yielded ops a.tmps)=true:=by simp[Region.wanted,j]
 rw[bM m];unfold Oper.wp execOp;simp[k,resolve,invoke,Act.eval,l,Deferred.ofValue,i];refine g.mono λe w' c=>?_;obtain⟨v,rfl,c⟩:=c;exact h v w' c
structure nW(B:Nat)(w:World)(v:Value)(l:List Int):Prop where
 at_:∃a c,v=.slice a l.length c/\(l.length≠0->∃b o,b<B/\a=some ⟨b,o,none⟩/\∀(i:Nat) (x:Int),l[i]?=some x->w.cell? ⟨b,o+i,none⟩=some (.int .i64 x))
 xJ:∀x∈l,-9223372036854775808<=x/\x<9223372036854775808
 len:l.length<=140737488355328
def dL{w w' r C}(h:w.grownBy w' r)(b:C<=↑w)(a:∀k,r=some k->C<=k):Below C w w':=⟨h.os,h.tape,h.output,h.size,λi hi=>h.block i O9 (λe=>by have:=a i e.symm;omega)⟩
def V8{B w w'}(c:Below B w w'){a v}(b:a.block<B)(h:w.cell? a=some v):w'.cell? a=some v:=by rw[<-h];simp[World.cell?,c.block a.block b]
def nW.keep{B C w w' v l}(h:nW B w v l)(g:Below C w w')(p:B<=C):nW B w' v l:=by obtain⟨⟨a,c,n,d⟩,k,j⟩:=h;refine⟨⟨a,c,n,λm=>?_⟩,k,j⟩;obtain⟨b,o,e,f,d⟩:=d m;exact⟨b,o,e,f,λi x hi=>V8 g (by show b<C;omega) (d i x hi)⟩
structure mC(C:Nat)(w:World)(b:Nat)(l:List Int)(k:Nat):Prop where
 st:∃v,Row w b 99 [v,.int .i64 k]/\nW C w v l
 low:C<=b
 le:k<=l.length
def FC(l:List Int)(k:Nat)(n:Int):Int:=if k<l.length then iD (l.getD k 0) n else 0
def KG(l:List Int)(k:Nat):Nat:=if k<l.length then k+1 else k
def rS(l k n)(h:0<n):0<=FC l k n/\FC l k n<n:=by
 unfold FC;split;.exact jJ _ _ h
 .omega
def mC.keep{C w w' b D l k}(h:mC C w b l k)(a:Below D w w')(e:b<D):mC C w' b l k:=by obtain⟨⟨v,d,c⟩,g,f⟩:=h;exact⟨⟨v,d.keep a e,c.keep a O9⟩,g,f⟩
def mC.r9{C w b l k}(h:mC C w b l k)(a u)(i:b≠a.block)(e:C<=a.block):mC C (w.setCell a u) b l k:=by obtain⟨⟨v,d,c⟩,g,f⟩:=h;exact⟨⟨v,d.aM a u i,c.keep ((Below.refl C w).setCell e u) L9⟩,g,f⟩
def mC.lt{C w b l k}(h:mC C w b l k):b<w:=by obtain⟨⟨v,a,_⟩,_⟩:=h;exact a.lt
def jK{C}(w b l k n)(I:mC C w b l k)(J:0<n)(K:n<9223372036854775808):Calls aI.prog 31 #[.pointer b,.int .i64 n] w λe w'=>e=.returned (FC l k n)/\mC C w' b l (KG l k)/\w.grownBy w' (some b):=by
 obtain⟨⟨v,d,r⟩,m,H⟩:=I;obtain⟨⟨a,c,L,y⟩,u,hlen⟩:=id r;subst L;have c0:w.cell? (b,0)=some (.slice a l.length c):=d.cell 0;have c1:w.cell? (b,1)=some ↑k:=d.cell 1;have s:w.grownBy w.drew (some b):=fA (aZ _ _);have O:=d.lt;have j:∀w':World,w.grownBy w' (some b)->nW C w' (.slice a l.length c) l:=λw' t=>r.keep (dL (C:=C) t O9 (λk e=>by cases e;exact m)) L9;replace j:=aJ j;by_cases f:k<l.length
 .obtain⟨g,o,t,E,z⟩:=y O9;subst E;have D:w.cell? (g,o+k)=some ↑(l.getD k 0):=z k _ (by simp[List.getD,f]);have q:=u (l.getD k 0) (by simp[List.getD,f]);have i:Hid (FC l k n=iD (l.getD k 0) n):=by unfold Hid FC;rw[if_pos f]
  have h:Hid (KG l k=k+1):=by unfold Hid KG;rw[if_pos f]
  have p:=λ(w:World)=>px (l.getD k 0) n w J K q.1 q.2;generalize l.getD k 0=x at D q i p;have f1:=d.frozen 1;have G:Hid (∀(B:Array Value) (w:World),(callFunc 12 B).run aI.prog w=.ok (.enter 12 B) w):=λ_ _=>by kernel_rfl
  have M:Hid (∀W:World,Calls aI.prog 12 #[x,n] W λe w'=>∃v,e=.returned v/\(v=↑(iD x n)/\w'=W)):=λW=>(p W).mono λe w' ⟨F,N⟩=>⟨_,F,rfl,N⟩;clear p y z u;have r1:Hid (Row (w.setCell (b,1) ↑((k:Int)+1)).drew.drew b 99 [.slice (g,o) l.length c,↑((k:Int)+1)]):=d.set 1 _;have A:Hid (w.grownBy (w.setCell (b,1) ↑((k:Int)+1)).drew.drew (some b)):=fA (fA (bO w (b,1) _));go_enter aI.func31,Tryz.ntmps31;go_wp2_with fail;go_region;all_goals go_wp2_with fail
  all_goals go_region_law (refine iA 12 rfl _ _ rfl #[x,n] E9 _ (M.out _) (G.out _ _) ?_;rintro P w0 ⟨rfl,rfl⟩)
  all_goals go_wp2_with fail
  all_goals go_ret
  all_goals exact⟨by rw[i.out];rfl,⟨⟨_,by rw[h.out];exact r1.out,j.out _ A.out⟩,m,by rw[h.out];omega⟩,A.out⟩
 .have i:Hid (FC l k n=0):=by unfold Hid FC;rw[if_neg f]
  have h:Hid (KG l k=k):=by unfold Hid KG;rw[if_neg f]
  go_enter aI.func31,Tryz.ntmps31;go_wp2_with fail;go_region;all_goals go_wp2_with fail
  all_goals go_ret
  all_goals exact⟨by rw[i.out];rfl,⟨⟨_,by rw[h.out];exact d,j.out _ s⟩,m,by rw[h.out];exact H⟩,s⟩
def zh(n W)(h0:0<=n)(a:n<256):Calls aI.prog 28 #[.int .i64 n] W λe w'=>∃q,q.size=1/\e=.returned (.string q)/\Below W W w':=
 (qw n W h0 a).mono λ_ _ ⟨c,b⟩=>⟨_,rfl,c,b⟩
def Zx(n W)(h0:0<=n)(a:n<18446744073709551616):Calls aI.prog 87 #[.int .u64 n] W λe w'=>∃q,q.size=9/\e=.returned (.string q)/\Below W W w':=
 (Ef n W h0 a).mono λ_ _ ⟨c,b⟩=>⟨_,by rw[dC,fH,bI],c,b⟩
def vr(w:World)(e:Ending)(w':World):Prop:=∃q:ByteArray,q.size<=11/\e=.returned (.string q)/\Below w.heap.size w w'
def Sl(n w):Calls aI.prog 41 #[aA,.int .i64 n] w (vr w):=by go_enter aI.func41,Tryz.ntmps41;go_wp2_with fail;refine(zh 1 w O9 O9).mono ?_;rintro e w1 ⟨a,b,rfl,b1⟩;go_wp2_with fail;go_ret;exact⟨a,O9,rfl,b1⟩
def V9(n w)(i:0<=n)(j:n<64):Calls aI.prog 41 #[aG,.int .i64 n] w (vr w):=by
 have k:IntKind.u64.wrap n=n:=by rw[IntKind.wrap_u64];omega
 have g:=bI n 8;have b:=λW=>oV n W i O9;generalize be n 8=t at b g;have c:=λW=>xW t W O9;have a:=uA t;generalize hN t=h at c a;have f:=λW=>Zx h W a.1 a.2;go_enter aI.func41,Tryz.ntmps41;go_wp2_with fail;refine(zh 74 w O9 O9).mono ?_;rintro e w1 ⟨l,q,rfl,b1⟩;go_wp2_with fail;refine(b w1).mono ?_;rintro e w2 ⟨rfl,b2⟩;go_wp2_with fail;refine(c w2).mono ?_;rintro e w3 ⟨rfl,rfl⟩;go_wp2_with fail;refine(f _).mono ?_;rintro e w4 ⟨m,r,rfl,d⟩;go_wp2_with fail;refine(zh 71 w4 O9 O9).mono ?_;rintro e p ⟨o,s,rfl,b5⟩;go_wp2_with fail;go_ret;exact⟨_,by simp only[ByteArray.size_append];omega,rfl,nI (nI (nI b1 L9 b2) L9 d) L9 b5⟩
def Wa(n w)(a:0<=n)(b:n<64):Calls aI.prog 41 #[.int .i64 2,.int .i64 n] w (vr w):=by go_enter aI.func41,Tryz.ntmps41;go_wp2_with fail;refine(zh n w O9 O9).mono ?_;rintro e w1 ⟨c,f,rfl,b1⟩;go_wp2_with fail;refine(zh 75 w1 O9 O9).mono ?_;rintro e w2 ⟨d,g,rfl,b2⟩;go_wp2_with fail;go_ret;exact⟨_,by simp;omega,rfl,nI b1 L9 b2⟩
def Nr(n w)(b:0<=n)(c:n<64):Calls aI.prog 41 #[.int .i64 3,.int .i64 n] w (vr w):=by go_enter aI.func41,Tryz.ntmps41;go_wp2_with fail;refine(zh 77 w O9 O9).mono ?_;rintro e w1 ⟨d,i,rfl,b1⟩;go_wp2_with fail;refine(zh n w1 O9 O9).mono ?_;rintro e w2 ⟨f,j,rfl,b2⟩;go_wp2_with fail;refine(zh 72 w2 O9 O9).mono ?_;rintro e w3 ⟨g,k,rfl,b3⟩;go_wp2_with fail;refine(zh 73 w3 O9 O9).mono ?_;rintro e w4 ⟨h,l,rfl,a⟩;go_wp2_with fail;go_ret;exact⟨_,by simp;omega,rfl,nI (nI (nI b1 L9 b2) L9 b3) L9 a⟩
def KH(k n w)(c:0<=k)(d:k<4)(a:0<=n)(b:n<64):Calls aI.prog 41 #[.int .i64 k,.int .i64 n] w (vr w):=by
 have:k=0\/k=1\/k=2\/k=3:=O9;obtain rfl|rfl|rfl|rfl:=this;.exact Sl n w
 .exact V9 n w a b
 .exact Wa n w a b
 .exact Nr n w a b
def GG{b}(h:kK b=true):mZ (tK b)=some b:=by have a:=KI.back b [] h;rw[nS]at a;rw[mZ,a];rfl
def adw(p bits bP ds):dF (mk p) bits bP ds=kK ⟨p,bits,bP,ds.map dA.m⟩/\fR (mk p) bits bP ds=tK ⟨p,bits,bP,ds.map dA.m⟩:=by have a:=acb ds _ rfl;exact⟨Eg a _ _ _,Cf a _ _ _⟩
def Wb{p bits bP ds b}(d:b=⟨p,bits,bP,ds.map dA.m⟩)(h:kK b=true):Wc (mk p) bits bP ds=mk (tK b)/\Wd (mk p) bits bP ds=0:=by subst d;obtain⟨a,c⟩:=adw p bits bP ds;rw[Wc,Wd,a,h,c];exact⟨rfl,rfl⟩
end Go.Proofs.aH
namespace Go.Proofs.aH
open Go.RowKit
open Go.Il (lQ Ci)
attribute [local go_sem↓] Go.wp_at_zero Go.wp_at_succ
def Own(F:Nat->Prop)(B:Nat)(T:TypeId->Prop)(w:World)(k:Nat):Prop:=F k\/(B<=k/\∃t cs f,T t/\w.heap[k]?=some (.cells cs t f))
abbrev Xo(F:Nat->Prop)(B:Nat)(T:TypeId->Prop)(w w':World):Prop:=Xc (Own F B T w) w w'
def Xo.trans{F B T w w1 w2}(h:Xo F B T w w1)(g:Xo F B T w1 w2):Xo F B T w w2:=by
 refine Xc.trans h g (λk i e=>?_);by_cases c:Own F B T w k;.exact c
 .obtain e|⟨a,t,cs,f,b,d⟩:=e;.exact .inl e
  .exact .inr ⟨a,t,cs,f,b,(h.block k i c).symm.trans d⟩
def sX:=@Xo.trans
def Xo.mono{F a B B' T b w w'}(h:Xo F B T w w')(j:∀k,F k->a k)(i:B'<=B)(l:∀t,T t->b t):Xo a B' b w w':=Xc.mono h (λk e=>by
  obtain e|⟨c,t,cs,f,d,g⟩:=e;.exact .inl (j k e)
  .exact .inr ⟨bT i c,t,cs,f,l t d,g⟩)
def Row.xo{F B T w w' g t cs}(h:Row w g t cs)(x:Xo F B T w w')(d:¬F g)(a:g<B\/¬T t):Row w' g t cs:=by
 refine h.xc x ?_;rintro(e|⟨i,j,f,f',c,b⟩);.exact d e
 .obtain a|a:=a;.omega
  .rw[h]at b;cases b;exact a c
def iT.cells(s:iT):List Value:=[.string s.jT.tx,.int .i64 s.jT.idx,.int .i64 s.jT.val,.string s.jT.lock,.int .i64 s.jT.cB,↑aD,.bool s.came]
def fV(l:List iT):List Value:=l.flatMap iT.cells
def BM(l s):fV (l++[s])=fV l++s.cells:=by simp[fV]
def aI.Xz:(aI.prog.info? 234).map (λi=>(i.zero,i.size,i.bytes))=some (some (.agg #[aB,aA,aA,aB,aA,aF,aF]),7,72):=K8
def XA:=@aI.Xz
def Cn{w}(base t ty e i z size bytes)(q:aI.prog.underlying t=some (.slice e))(hi:aI.prog.info? e=some i)(E:i.zero=some z)(k:i.size=size)(A:i.bytes=bytes)(F:z.cells.size=size)(D:0<size)(v)(n)(l)(h:w.ownsRow base e size v n l)(a)(m c)(news)(f:news.length=m*size)(o:∀j u,news[j]?=some u->w.cell? (a.add j)=some u)(s:∀u∈news,u.oneCell'=true)
 (y:n+m<=maxLen)(B:(n+m)*bytes<=140737488355328)(I:base<=↑w):
 ∃b w',(Builtin.append_ #[t,t] ty #[v,.slice (some a) m c]).run aI.prog w=.ok b w'/\w'.ownsRow base e size b (n+m) (l++news)/\w.grownBy w' v.ownBlock/\(b.ownBlock=v.ownBlock\/b.ownBlock=some ↑w)/\(b.ownBlock=v.ownBlock\/w.grownBy w' none):=by
 obtain⟨b,w',p,G,x,_,H⟩:=run_append_own_at (P:=aI.prog) w base t ty e i z size bytes q hi E k A F D v n l h a m c news f o s y B I;refine⟨b,w',p,G,x,H,?_⟩;obtain⟨r,_⟩|⟨g,cap,cur,r,N,L,Q,O,J,R⟩:=h.2;.subst r;exact .inr x
 .subst r;by_cases C:n+m<=cap
  .left;have K:n*i.size+news.length<=cur.size:=by rw[f,J,k,<-Nat.add_mul];exact Nat.mul_le_mul_right _ C
   have d:=run_append_room (P:=aI.prog) w t ty e i q hi g n cap cur L a m c news (by rw[k];exact f) o s C K;rw[p]at d;cases d;rfl
  .right;obtain⟨v2,w2,d,_,M⟩:=run_append_arg_grows (P:=aI.prog) w t ty e i z size bytes q hi E k A F D (g,0) n cap l h.1 (h.cells (g:=g) rfl) a m c news f o O9 y B;rw[p]at d;cases d;exact M
def oX{ops o a w K Q E t e i z size bytes}(R:aI.prog.underlying t=some (.slice e))(hi:aI.prog.info? e=some i)(μ:i.zero=some z)(O:i.size=size)(C:i.bytes=bytes)(V:z.cells.size=size)(P:0<size)(y:bytes<=1000)(B)(F:o.guard=none)(s x)(J:o.op=.call {callee:=.builtin .append,args:=#[s,x],argTypes:=#[t,t]})(v)(n)(l)(N:a.eval s=v)(L:w.ownsRow B e size v n l)
 (m)(news)(H:news.length=m*size)(g)(c)(T:a.eval x=.slice g m c)(D:Row w g e news)(d:∀u∈news,u.oneCell'=true)(W:m<=1000)(hlen:n<=100000)(r:B<=↑w)
 (h:∀b w',w'.ownsRow B e size b (n+m) (l++news)->w.grownBy w' v.ownBlock->(b.ownBlock=v.ownBlock\/b.ownBlock=some ↑w)->(b.ownBlock=v.ownBlock\/w.grownBy w' none)->K (a.put o.dst b) w'):if Region.wanted o (yielded ops a.tmps)=true then Oper.wp aI.prog o a w K Q else E:=by
 have S:Region.wanted o (yielded ops a.tmps)=true:=by simp[Region.wanted,F]
 rw[bM S];have I:∀j u,news[j]?=some u->w.cell? (((g,0):Addr).add j)=some u:=λj u G=>by rw[add0,D.cell];exact G
 have A:(n+m)*bytes<=140737488355328:=bT (Nat.mul_le_mul (show n+m<=101000 by omega) y) O9;obtain⟨b,w',M,f,k,p,q⟩:=Cn (w:=w) B t o.type e i z size bytes R hi μ O C V P v n l L (g,0) m c news H I d (by unfold maxLen;omega) A r;unfold Oper.wp execOp;simp[J,resolve,invoke,builtin,N,T,M];exact h b w' f k p q
def nu{ops o a w K Q E t e i z size bytes}(L:aI.prog.underlying t=some (.slice e))(hi:aI.prog.info? e=some i)(N:i.zero=some z)(I:i.size=size)(r:i.bytes=bytes)(O:z.cells.size=size)(J:0<size)(q:bytes<=1000)(B)(A:o.guard=none)(s x)(F:o.op=.call {callee:=.builtin .append,args:=#[s,x],argTypes:=#[t,t]})(v)(n)(l)(H:a.eval s=v)(G:w.ownsRow B e size v n l)
 (m)(news)(C:news.length=m*size)(g)(c)(M:a.eval x=.slice g m c)(y:Row w g e news)(d:∀u∈news,u.oneCell'=true)(D:m<=1000)(hlen:n<=100000)(p:B<=↑w)
 (h:∀b w',w'.ownsRow B e size b (n+m) (l++news)->w.grownBy w' v.ownBlock->(b.ownBlock=v.ownBlock\/b.ownBlock=some ↑w)->K (a.put o.dst b) w'):if Region.wanted o (yielded ops a.tmps)=true then Oper.wp aI.prog o a w K Q else E:=
 oX L hi N I r O J q B A s x F v n l H G m news C g c M y d D hlen p (λb w' f j k _=>h b w' f j k)
structure bU(w:World)(tb gs n:Nat)(v:Value)(l:List iT):Prop where
 row:Row w tb 181 [.slice (some ⟨gs,0,none⟩) n n,v]
 own:w.ownsRow (tb+1) 234 7 v l.length (fV l)
def Old(v':Value)(w w':World):Prop:=∀(k:Nat) (cs:Array Value) (f:Nat×Nat),w.heap[k]?=some (.cells cs 234 f)->v'.ownBlock≠some k->w'.heap[k]?=some (.cells cs 234 f)
def jQ(w w':World):Prop:=∀(k:Nat) (cs:Array Value) (f:Nat×Nat),w.heap[k]?=some (.cells cs 234 f)->w'.heap[k]?=some (.cells cs 234 f)
def jQ.old{w w1 w2 v}(h:jQ w w1)(a:Old v w1 w2):Old v w w2:=λk cs f b c=>a k cs f (h k cs f b) c
def Old.all{w w1 w2 v}(h:Old v w w1)(a:jQ w1 w2):Old v w w2:=λk cs f b c=>a k cs f (h k cs f b c)
def jQ.trans{w w1 w2}(h:jQ w w1)(a:jQ w1 w2):jQ w w2:=λk cs f b=>a k cs f (h k cs f b)
def jQ.any{w w1}(h:jQ w w1)(v):Old v w w1:=λk cs f a _=>h k cs f a
def jQ.of{S w w'}(x:Xc S w w')(h:∀k cs f,w.heap[k]?=some (.cells cs 234 f)->¬S k):jQ w w':=λk cs f a=>(x.block k (eK.1 a).1 (h k cs f a)).trans a
def XB:=@jQ.of
def jQ.keep{w w'}(h:Below w.heap.size w w'):jQ w w':=XB (jB h (S:=λ_=>False)) (λ_ _ _ _=>id)
def bH{B}{w:World}{e size n v d}(h:w.ownsRow B e size v n d):∃a c,v=.slice a n c:=by
 obtain⟨b,h0⟩|⟨g,cap,cur,b,_⟩:=h.2;.simp_all
 .simp_all
def World.ownsRow.drewN{B}{w:World}{e size n v a}(h:w.ownsRow B e size v n a):w.drew.ownsRow B e size v n a:=h
def QG:=@World.ownsRow.drewN
def dY{B}{w w':World}{e size n v c}(h:w.ownsRow B e size v n c)(d:∀k cs,v.ownBlock=some k->B<=k->w.heap[k]?=some (.cells cs e (0,0))->w'.heap[k]?=w.heap[k]?):w'.ownsRow B e size v n c:=by
 refine⟨h.1,?_⟩;obtain f|⟨g,cap,cur,rfl,a,b,rest⟩:=h.2;.simp_all
 .exact .inr ⟨g,cap,cur,rfl,a,(d g cur rfl a b).trans b,rest⟩
def cE{w:World}{k o}(h:w.heap[k]?=some o):k<(w:Nat):=(eK.1 h).1
def aY{B w w' e size n v a}(h:w.ownsRow B e size v n a)(b:Below w.heap.size w w'):w'.ownsRow B e size v n a:=dY h (λk _ _ _ c=>b.block k (cE c))
def acA{F B B' T w w' e size n v a}(h:w.ownsRow B' e size v n a)(x:Xo F B T w w')(i:∀k cs,w.heap[k]?=some (.cells cs e (0,0))->B'<=k->¬F k)(j:¬T e):w'.ownsRow B' e size v n a:=by
 refine dY h (λk cs _ l b=>x.block k (cE b) ?_);rintro(c|⟨_,t,d,f',f,g⟩);.simp_all
 .simp_all
def nO(n:Nat)(mb:Nat->Nat)(k:Nat):Prop:=∃i,i<n/\k=mb i
def Fe(n:Nat)(mb:Nat->Nat)(tb k:Nat):Prop:=nO n mb k\/k=tb
def CG(t:TypeId):Prop:=t=234
def aU.drew{w gs n sb mb K}(h:aU w gs n sb mb K):aU w.drew gs n sb mb K:=h.keep (bW B0)
def aU.EM{w gs n i g sb mb K t cs}(h:aU w gs n sb mb K)(hi:i<n)(r:Row w g t cs):g≠mb i:=(h.mp i hi).ne r
def aU.mU{w gs n g sb mb K t cs}(h:aU w gs n sb mb K)(r:Row w g t cs):¬nO n mb g:=by rintro⟨i,hi,e⟩;exact h.EM hi r e
def aU.Lt{w gs n k sb mb K cs t f}(h:aU w gs n sb mb K)(a:w.heap[k]?=some (.cells cs t f)):¬nO n mb k:=by rintro⟨i,hi,e⟩;subst e;obtain⟨C,b,-⟩:=h.mp i hi;obtain⟨es,cl,c,-⟩:=b;rw[c]at a;cases a
def Lu{w w' B gs n size m sb mb K e v b}(h:w.ownsRow B e size v m b)(f:aU w gs n sb mb K)(x:Xc (nO n mb) w w'):w'.ownsRow B e size v m b:=dY h (λk cs _ g a=>x.block k (cE a) (by rintro⟨i,hi,e⟩;subst e;obtain⟨C,c,-⟩:=f.mp i hi;obtain⟨es,cl,d,-⟩:=c;rw[d]at a;cases a))
def cP{B}{w:World}{e size n k v f}(h:w.ownsRow B e size v n f)(a:v.ownBlock=some k):B<=k/\∃cs,w.heap[k]?=some (.cells cs e (0,0)):=by
 obtain⟨b,_⟩|⟨g,cap,cur,b,c,d,_⟩:=h.2;.rw[b]at a;cases a
 .rw[b]at a;cases a;exact⟨c,_,d⟩
def dZ{B w e t size n g v d cs}(h:w.ownsRow B e size v n d)(r:Row w g t cs)(c:t≠e):v.ownBlock≠some g:=by intro b;obtain⟨_,f,a⟩:=cP h b;rw[r]at a;cases a;exact c rfl
def aU.grown{w w' B gs n size m sb mb K e v q}(b:aU w gs n sb mb K)(h:w.ownsRow B e size v m q)(a:w.grownBy w' v.ownBlock)(f:e≠192)(g:e≠196):aU w' gs n sb mb K:=by refine b.xc (S:=λk=>v.ownBlock=some k) ⟨a.os,a.tape,a.output,a.size,λk o p=>a.block k o (λc=>p c.symm)⟩ (dZ h b.arr (gN f)) (λi hi=>dZ h (b.sh i hi) (gN g)) (λi hi c=>?_);obtain⟨_,r,d⟩:=cP h c;obtain⟨C,j,-⟩:=b.mp i hi;obtain⟨es,cl,l,-⟩:=j;rw[l]at d;cases d
def aU.setCell{w gs n g j sb mb K t cs}(a:aU w gs n sb mb K)(r:Row w g t cs)(v)(b:t≠192)(c:t≠196):aU (w.setCell ⟨g,j,none⟩ v) gs n sb mb K:=a.xc (S:=λk=>k=g) ((jO _ w).setCell (g,j) v (λ_=>rfl)) (a.arr.ne r (gN b)) (λi hi=>(a.sh i hi).ne r (gN c)) (λi hi e=>a.EM hi r e.symm)
def bU.note{w w1 gs n tb sb mb K v a l s o}(x:aU w gs n sb mb K)(d:bU w tb gs n v l)(h:((w.drew).alloc o).grownBy w1 v.ownBlock)(A:w1.ownsRow (tb+1) 234 7 a (l.length+1) (fV l++s.cells))(b:a.ownBlock=v.ownBlock\/((w.drew).alloc o).grownBy w1 none):Row w1 tb 181 [.slice gs n n,v]/\aU (w1.setCell (tb,1) a) gs n sb mb K/\bU (w1.setCell (tb,1) a) tb gs n a (l++[s])/\Xo (Fe n mb tb) (tb+1) CG w (w1.setCell (tb,1) a)/\Old a w (w1.setCell (tb,1) a):=by
 have g:Below w.heap.size w ((w.drew).alloc o):=(bW B0).alloc L9 _;have r0:=d.row.keep g d.row.lt;have q:=aY d.own g;have c0:=x.keep g;have r1:Row w1 tb 181 [.slice (some ⟨gs,0,none⟩) n n,v]:=(h.block tb r0.lt (λc=>dZ q r0 D9 c.symm)).trans r0;refine⟨r1,(c0.grown q h D9 D9).setCell r1 a D9 D9,⟨r1.set 1 a,?_⟩,?_,?_⟩;.rw[BM,cK];exact fD A (bO w1 ⟨tb,1,none⟩ a) (o7 _)
 .refine Xc.setCell ?_ ⟨tb,1,none⟩ a (λ_=>.inl (.inr rfl));refine(jB g).grown h (λk e b=>?_);obtain⟨r,cs,t⟩:=cP d.own e;exact .inr ⟨r,_,cs,_,rfl,t⟩
 .intro k cs f i y;have j:=(g.block k (cE i)).trans i;have p:=cE j;have m:w1.heap[k]?=some (.cells cs 234 f):=by
   obtain b|b:=b;.exact(h.block k p (λc=>y (by rw[b];exact c.symm))).trans j
   .exact(b.block k p S8).trans j
  have z:k≠tb:=by intro e;subst e;have u:=d.row;rw[u]at i;cases i
  exact((bO w1 ⟨tb,1,none⟩ a).block k (cE m) (by simpa using z)).trans m
def abv:=@bU.note
def Hj{gs n tb sb mb K v l}(c w)(I:aU w gs n sb mb K)(z:bU w tb gs n v l)(ak:AB c.pt)(aj:K c.pt=none)(ai:l.length<=100000):Calls aI.prog 123 #[ptr tb,c.v] w λe w'=>e=.returned (.tuple #[])/\aU w' gs n sb mb (K.put c)/\(∃P,bU w' tb gs n P (l++[⟨c,true⟩])/\Old P w w')/\Xo (Fe n mb tb) (tb+1) CG w w':=by
 obtain⟨t,x,rfl⟩:=bH z.own;have C:∀W:World,aU W gs n sb mb K->Calls aI.prog 164 #[pJ gs n,c.v] W λe w'=>∃H,e=.returned H/\(H=.tuple #[]/\Xc (nO n mb) W w'/\aU w' gs n sb mb (K.put c)):=λW ae=>(Xy c W ae ak aj).mono λe w' ⟨π,ab⟩=>⟨_,π,rfl,ab⟩;have af:Hid (∀(Q:Array Value) (w:World),(callFunc 164 Q).run aI.prog w=.ok (.enter 164 Q) w):=λ_ _=>by kernel_rfl
 have M:Hid (∀l:List iT,fV (l++[⟨c,true⟩])=fV l++[.string c.tx,.int .i64 c.idx,.int .i64 c.val,.string c.lock,.int .i64 c.cB,.bool true,.bool true]):=λl=>BM l _;obtain⟨a,b,h,j,i⟩:=c;unfold ptr;simp only[kO.v,pJ]at C M|-;have d:=aV w [a,b,h,j,i,aD] 60;have r:Below w w (w.alloc (.cells #[a,b,h,j,i,aD] 60)):=B0.alloc L9 _;have q:=I.keep r;have m:=z.row.keep r z.row.lt;have y:=aY z.own r;have a3:=z.row.lt;go_enter aI.func123,Tryz.ntmps123;go_wp2_with fail;generalize w.alloc (.cells #[a,b,h,j,i,aD] 60)=X at d r q m y|-;have c0:=d.cell 0;have c1:=d.cell 1;have c2:=d.cell 2;have c3:=d.cell 3;have c4:=d.cell 4;have c5:=d.cell 5;simp only[nR,pg]at c0 c1 c2 c3 c4 c5;have t0:X.cell? (tb,0)=some (.slice gs n n):=m.cell 0;have L:=C X.drew q.drew;clear C;go_cut [] (λR=>Xc (nO n mb) X R/\aU R gs n sb mb (K.put ⟨a,b,h,j,i⟩));case first=>
  go_region_law (refine iA 164 rfl _ _ rfl #[.agg #[.slice gs n n],.agg #[a,b,h,j,i,aD]] E9 _ L (af.out _ _) ?_;rintro H w1 ⟨rfl,p,B⟩);all_goals go_wp2_with fail
  all_goals go_meet
  all_goals exact⟨(vN (jO _ X)).trans p (λ_ _ e=>e),B⟩
 case rest=>
  obtain⟨p,B⟩:=hcut;replace d:=d.xc p (q.mU d);replace m:=m.xc p (q.mU m);replace y:=Lu y q p;have O:jQ w _:=(jQ.keep r).trans (XB p (λk cs f ah=>q.Lt ah));have T:Xo (Fe n mb tb) (tb+1) CG w _:=(jB (S:=nO n mb) r).trans p (λ_ _ e=>e)|>.mono (λk e=>.inl (.inl e));clear L q p r I c0 c1 c2 c3 c4 c5 t0;obtain⟨az,ag,ar,au,av⟩:=info_parts XA;have μ:=aV wc.drew [a,b,h,j,i,aD,aD] 234;have V:(wc.drew.alloc (.cells [.string a,.int .i64 b,.int .i64 h,.string j,.int .i64 i,.bool true,.bool true].toArray 234)).ownsRow (tb+1) 234 7 (.slice t l.length x) l.length (fV l):=qc (QG y) _;have B1:tb+1<=(wc.drew.alloc (.cells [.string a,.int .i64 b,.int .i64 h,.string j,.int .i64 i,.bool true,.bool true].toArray 234)).heap.size:=by rw[bB];have:=m.lt;show _<=(wc:Nat)+1;omega
  have aa:∀u∈[Value.string a,↑b,↑h,↑j,↑i,↑aD,↑aD],u.oneCell'=true:=by intro u N;simp only[gA,kF,kG]at N;obtain rfl|rfl|rfl|rfl|rfl|rfl|rfl:=N<;>rfl
  have fin:Hid (∀(v1:Value) (w1:World),(wc.drew.alloc (.cells [.string a,.int .i64 b,.int .i64 h,.string j,.int .i64 i,.bool true,.bool true].toArray 234)).grownBy w1 (Value.slice t l.length x).ownBlock->w1.ownsRow (tb+1) 234 7 v1 (l.length+1) (fV l++[.string a,.int .i64 b,.int .i64 h,.string j,.int .i64 i,.bool true,.bool true])->(v1.ownBlock=(Value.slice t l.length x).ownBlock\/(wc.drew.alloc (.cells [.string a,.int .i64 b,.int .i64 h,.string j,.int .i64 i,.bool true,.bool true].toArray 234)).grownBy w1 none)->Row w1 tb 181 [.slice gs n n,.slice t l.length x]/\aU (w1.setCell (tb,1) v1) gs n sb mb (K.put ⟨a,b,h,j,i⟩)/\bU (w1.setCell (tb,1) v1) tb gs n v1 (l++[⟨⟨a,b,h,j,i⟩,true⟩])/\Xo (Fe n mb tb) (tb+1) CG w (w1.setCell (tb,1) v1)/\Old v1 w (w1.setCell (tb,1) v1)):=λv1 w1 g o kk=>by obtain⟨A,D,E,F,G⟩:=abv (s:=⟨⟨a,b,h,j,i⟩,true⟩) B ⟨m,y⟩ g o kk;exact⟨A,D,E,T.trans F,O.old G⟩
  have c0:=d.cell 0;have c1:=d.cell 1;have c2:=d.cell 2;have c3:=d.cell 3;have c4:=d.cell 4;have c5:=d.cell 5;simp only[nR,pg]at c0 c1 c2 c3 c4 c5;have t1:wc.cell? (tb,1)=some (.slice t l.length x):=m.cell 1;have y1:=d.lt;have a4:=m.lt;clear B T O M;go_wp2_with fail;go_region_law (refine oX aI.underlying154 ag ar au av rfl D9 D9 (tb+1) rfl _ _ rfl (.slice t l.length x) l.length (fV l) E9 V 1 [a,b,h,j,i,aD,aD] rfl (wc:Nat) 1 E9 μ aa O9 ai B1 ?_;intro v1 w1 J Y l1 ay;obtain⟨a2,a0,ao⟩:=cO J l.length rfl;subst ao;obtain⟨A,D,E,F,G⟩:=fin.out _ _ Y J ay;have a5:w1.cell? (tb,1)=some (.slice t l.length x):=A.cell 1;have a6:=A.frozen 1;have a7:=A.lt);all_goals go_wp2_with fail
  all_goals go_end0
  all_goals exact⟨rfl,D,⟨_,E,G⟩,F⟩
def XC{gs n tb sb mb K v l}(c w)(h:aU w gs n sb mb K)(i:bU w tb gs n v l)(m:AB c.pt)(k:K c.pt=none)(j:l.length<=100000):Calls aI.prog 123 #[ptr tb,c.v] w λe w'=>e=.returned (.tuple #[])/\aU w' gs n sb mb (K.put c)/\(∃a,bU w' tb gs n a (l++[⟨c,true⟩]))/\Xo (Fe n mb tb) (tb+1) CG w w':=
 (Hj c w h i m k j).mono λ_ _ ⟨b,d,⟨a,f,_⟩,g⟩=>⟨b,d,⟨a,f⟩,g⟩
end Go.Proofs.aH
namespace Go.Proofs.aH
open Go.RowKit
attribute [local go_sem↓] Go.wp_at_zero Go.wp_at_succ
def Lv(l:List iT):Option kO->List iT
 |none=>l
 |some c=>l++[⟨c,false⟩]
def aU.qK{w gs n g sb mb K t cs}(a:aU w gs n sb mb K)(r:Row w g t cs)(v0 v1 v2 v3 b c)(d:t≠192)(f:t≠196):aU (CF w g v0 v1 v2 v3 b c) gs n sb mb K:=a.xc (S:=λk=>k=g) ((jO _ w).qK g v0 v1 v2 v3 b c (λ_=>rfl)) (a.arr.ne r (gN d)) (λi hi=>(a.sh i hi).ne r (gN f)) (λi hi e=>a.EM hi r e.symm)
def EN{gs n tb sb mb K v l}(p w)(bq:aU w gs n sb mb K)(a0:bU w tb gs n v l)(cq:AB p)(cm:l.length<=100000):Calls aI.prog 122 #[ptr tb,uF p] w λe w'=>e=.returned (qE (K p))/\aU w' gs n sb mb (K.take p)/\(∃b8,bU w' tb gs n b8 (Lv l (K p))/\Old b8 w w')/\Xo (Fe n mb tb) (tb+1) CG w w':=by
 obtain⟨J,L,rfl⟩:=bH a0.own;obtain⟨C,D,E,F,G,H,i⟩:=rA (K p);have a4:∀W:World,aU W gs n sb mb K->Calls aI.prog 163 #[pJ gs n,uF p] W λe w'=>∃a5,e=.returned a5/\(a5=.agg #[C,D,E,F,G,.bool H]/\Xc (nO n mb) W w'/\aU w' gs n sb mb (K.take p)):=λW cj=>(S9 p W cj cq).mono λe w' ⟨cb,cd⟩=>⟨_,cb,i,cd⟩;have bx:Hid (∀(b9:Array Value) (w:World),(callFunc 163 b9).run aI.prog w=.ok (.enter 163 b9) w):=λ_ _=>by kernel_rfl
 rw[i];replace i:=aJ i;obtain⟨a,b⟩:=p;unfold ptr;simp only[pJ,uF]at a4|-;have P:=(aV w [a,b] 48).alloc (.cells ↑() 60);have d:=aV (w.alloc (.cells #[a,b] 48)) ↑() 60;rw[bB]at d;have Q:Below w w ((w.alloc (.cells #[a,b] 48)).alloc (.cells ↑() 60)):=(B0.alloc L9 _).alloc Z9 _;have z:=bq.keep Q;have q:=a0.row.keep Q a0.row.lt;have O:=aY a0.own Q;have db:=a0.row.lt;go_enter aI.func122,Tryz.ntmps122;go_wp2_with fail;generalize(w.alloc (.cells #[a,b] 48)).alloc (.cells ↑() 60)=X at P d Q z q O|-;have c0:X.cell? ((w:Nat),0)=some ↑a:=P.cell 0;have c1:X.cell? ((w:Nat),1)=some ↑b:=P.cell 1;have t0:X.cell? (tb,0)=some (.slice gs n n):=q.cell 0;have y1:=P.lt;have bc:=q.lt;have b0:=a4 X.drew z.drew;have br:aU (X.drew.alloc (.cells [.string ⟨#[]⟩,.int .i64 0,.int .i64 0,.string ⟨#[]⟩,.int .i64 0,.bool false].toArray 60)) gs n sb mb K:=z.drew.keep (B0.alloc L9 _);have a6:=aV X.drew ↑() 60;have bs:Hid (∀w1,Xc (nO n mb) (X.drew.alloc (.cells [.string ⟨#[]⟩,.int .i64 0,.int .i64 0,.string ⟨#[]⟩,.int .i64 0,.bool false].toArray 60)) w1->Row w1 ↑X 60 ↑()/\Xc (nO n mb) X w1):=λw1 x=>⟨a6.xc x (br.mU a6),((vN (jO _ X)).alloc _).trans x (λ_ _ e=>e)⟩;have bm:Hid (∀w1,Xc (nO n mb) X.drew w1->aU w1 gs n sb mb (K.take (a,b))->(X:Nat)<=(w1:Nat)/\Row (w1.alloc (.cells [.string C,.int .i64 D,.int .i64 E,.string F,.int .i64 G,.bool H].toArray 60)) (w1:Nat) 60 [C,D,E,F,G,.bool H]/\Xc (nO n mb) X (w1.alloc (.cells [.string C,.int .i64 D,.int .i64 E,.string F,.int .i64 G,.bool H].toArray 60))/\aU (w1.alloc (.cells [.string C,.int .i64 D,.int .i64 E,.string F,.int .i64 G,.bool H].toArray 60)) gs n sb mb (K.take (a,b))):=λw1 x h=>⟨x.size,aV w1 _ _,((vN (jO _ X)).trans x (λ_ _ e=>e)).alloc _,h.keep (B0.alloc L9 _)⟩;have bo:Hid (∀w1,Row w1 ↑X 60 ↑()->Xc (nO n mb) X w1->aU w1 gs n sb mb (K.take (a,b))->(X:Nat)<=(X:Nat)/\Row (CF w1 ↑X ↑C ↑D ↑E ↑F ↑G (.bool H)) ↑X 60 [C,D,E,F,G,.bool H]/\Xc (nO n mb) X (CF w1 ↑X ↑C ↑D ↑E ↑F ↑G (.bool H))/\aU (CF w1 ↑X ↑C ↑D ↑E ↑F ↑G (.bool H)) gs n sb mb (K.take (a,b))):=λw1 r x h=>⟨L9,r.qK _ _ _ _ _ _,x.qK _ _ _ _ _ _ _ O9,h.qK r _ _ _ _ _ _ D9 D9⟩;clear a6 br;have b4:=a4 (X.drew.alloc (.cells ↑() 60)) (z.drew.keep (B0.alloc L9 _));clear a4;go_cut [5] (λs N=>∃B,s=.pointer (some ⟨B,0,none⟩)/\(X:Nat)<=B/\Row N B 60 [C,D,E,F,G,.bool H]/\Xc (nO n mb) X N/\aU N gs n sb mb (K.take (a,b)));case first=>
  go_region_law (first|(refine iA 163 rfl _ _ rfl #[.agg #[.slice gs n n],.agg #[a,b]] E9 _ b0 (bx.out _ _) ?_;rintro a5 w1 ⟨rfl,t,I⟩)|(refine iA 163 rfl _ _ rfl #[.agg #[.slice gs n n],.agg #[a,b]] E9 _ b4 (bx.out _ _) ?_;rintro a5 w1 ⟨rfl,t,I⟩;obtain⟨RB,ae⟩:=bs.out w1 t;have af:=RB.cell 0;have ag:=RB.cell 1;have ah:=RB.cell 2;have ai:=RB.cell 3;have aj:=RB.cell 4;have ak:=RB.cell 5;simp only[nR,pg]at af ag ah ai aj ak;have f0:=RB.frozen 0;have f1:=RB.frozen 1;have f2:=RB.frozen 2;have bg:=RB.frozen 3;have bj:=RB.frozen 4;have bk:=RB.frozen 5));all_goals go_wp2_with fail
  all_goals go_meet
  all_goals first
   |exact⟨_,rfl,bm.out w1 t I⟩
   |exact⟨_,rfl,bo.out w1 RB ae I⟩
 case rest=>obtain⟨B,rfl,cz,j,t,I⟩:=hcut;have dc:=d.lt;replace P:=P.xc t (z.mU P);replace d:=d.xc t (z.mU d);replace q:=q.xc t (z.mU q);replace O:=Lu O z t;have bb:Xo (Fe n mb tb) (tb+1) CG w _:=(jB (S:=nO n mb) Q).trans t (λ_ _ e=>e)|>.mono (λk e=>.inl (.inl e));have b7:jQ w wc:=(jQ.keep Q).trans (XB t (λk cs f A=>z.Lt A));have c7:B≠(w:Nat)+1:=O9;have a3:bU wc tb gs n (.slice J l.length L) l:=⟨q,O⟩;clear b0 b4 bs bm bo z t bq c0 c1 t0 y1 bc Q;cases A:K (a,b)with
  |none=>replace i:=i.out;rw[A]at i;simp only[qE,QD,Pn,Po,yr,Pp,Pq,Pr,wP,sf]at i;obtain⟨rfl,rfl,rfl,rfl,rfl,rfl⟩:=i;replace A:=aJ A;have k0:=j.cell 0;have M:=j.cell 1;have k2:=j.cell 2;have π:=j.cell 3;have aa:=j.cell 4;have ab:=j.cell 5;simp only[nR,pg]at k0 M k2 π aa ab;have af:=d.cell 0;have ag:=d.cell 1;have ah:=d.cell 2;have ai:=d.cell 3;have aj:=d.cell 4;have ak:=d.cell 5;simp only[nR,pg]at af ag ah ai aj ak;have f0:=d.frozen 0;have f1:=d.frozen 1;have f2:=d.frozen 2;have bg:=d.frozen 3;have bj:=d.frozen 4;have bk:=d.frozen 5;have m:=d.qK ↑aB ↑aA ↑aA ↑aB ↑aA ↑aF;have y:=(jO (λk=>k=(w:Nat)+1) wc).qK ((w:Nat)+1) ↑aB ↑aA ↑aA ↑aB ↑aA ↑aF (λ_=>rfl);have R:=I.qK d ↑aB ↑aA ↑aA ↑aB ↑aA ↑aF D9 D9;have T:bU (CF wc ((w:Nat)+1) ↑aB ↑aA ↑aA ↑aB ↑aA ↑aF) tb gs n _ _:=⟨a3.row.xc y (a3.row.ne d D9),dY a3.own (λk cs _ _ i=>y.block k (cE i) (λe=>by subst e;unfold Row at d;rw[d]at i;cases i))⟩;have μ:Old (.slice J l.length L) w (CF wc ((w:Nat)+1) ↑aB ↑aA ↑aA ↑aB ↑aA ↑aF):=(b7.trans (jQ.of y (λk cs f i e=>by subst e;unfold Row at d;rw[d]at i;cases i))).any _;have V:Xo (Fe n mb tb) (tb+1) CG w (CF wc ((w:Nat)+1) ↑aB ↑aA ↑aA ↑aB ↑aA ↑aF):=QF bb ((w:Nat)+1) _ _ _ _ _ _ O9;have ao:=m.cell 0;have ar:=m.cell 1;have au:=m.cell 2;have av:=m.cell 3;have ay:=m.cell 4;have az:=m.cell 5;simp only[nR,pg]at ao ar au av ay az;replace m:=aJ m;replace y:=aJ y;replace R:=aJ R;replace T:=aJ T;replace V:=aJ V;replace μ:=aJ μ;go_wp2_with fail;exact nC (v:=.agg ↑()) (by simp only[results,Tryz.results122];simp[go_sem,ao,ar,au,av,ay,az]) rfl ⟨rfl,R.out,⟨_,by rw[A.out];exact T.out,μ.out⟩,V.out⟩
  |some c=>
    obtain⟨c1,c2,c3,c4,c5⟩:=c;replace i:=i.out;rw[A]at i;simp only[qE,kO.v,Pn,Po,yr,Pp,Pq,Pr,wP,sf]at i;obtain⟨rfl,rfl,rfl,rfl,rfl,rfl⟩:=i;replace A:=aJ A;obtain⟨c8,bz,cu,cv,cw⟩:=info_parts XA;have bd:=aV wc.drew [c1,c2,c3,c4,c5,aD,aF] 234;have bf:(wc.drew.alloc (.cells [.string c1,.int .i64 c2,.int .i64 c3,.string c4,.int .i64 c5,.bool true,.bool false].toArray 234)).ownsRow (tb+1) 234 7 (.slice J l.length L) l.length (fV l):=qc (QG O) _;have B1:tb+1<=(wc.drew.alloc (.cells [.string c1,.int .i64 c2,.int .i64 c3,.string c4,.int .i64 c5,.bool true,.bool false].toArray 234)).heap.size:=by rw[bB];have:=q.lt;show _<=(wc:Nat)+1;omega
    have bp:∀u∈[Value.string c1,↑c2,↑c3,↑c4,↑c5,↑aD,↑aF],u.oneCell'=true:=by intro u b6;simp only[gA,kF,kG]at b6;obtain rfl|rfl|rfl|rfl|rfl|rfl|rfl:=b6<;>rfl
    have fin:Hid (∀(v1:Value) (w1:World),(wc.drew.alloc (.cells [.string c1,.int .i64 c2,.int .i64 c3,.string c4,.int .i64 c5,.bool true,.bool false].toArray 234)).grownBy w1 (Value.slice J l.length L).ownBlock->w1.ownsRow (tb+1) 234 7 v1 (l.length+1) (fV l++[.string c1,.int .i64 c2,.int .i64 c3,.string c4,.int .i64 c5,.bool true,.bool false])->(v1.ownBlock=(Value.slice J l.length L).ownBlock\/(wc.drew.alloc (.cells [.string c1,.int .i64 c2,.int .i64 c3,.string c4,.int .i64 c5,.bool true,.bool false].toArray 234)).grownBy w1 none)->Row w1 tb 181 [.slice gs n n,.slice J l.length L]/\aU (w1.setCell (tb,1) v1) gs n sb mb (K.take (a,b))/\(∃Y,bU (w1.setCell (tb,1) v1) tb gs n Y (l++[⟨⟨c1,c2,c3,c4,c5⟩,false⟩])/\Old Y wc (w1.setCell (tb,1) v1))/\Xo (Fe n mb tb) (tb+1) CG wc (w1.setCell (tb,1) v1)):=λv1 w1 g o kk=>by obtain⟨a2,m,a9,ba,cx⟩:=abv (s:=⟨⟨c1,c2,c3,c4,c5⟩,false⟩) I ⟨q,O⟩ g o kk;exact⟨a2,m,⟨_,a9,cx⟩,ba⟩
    have k0:=j.cell 0;have M:=j.cell 1;have k2:=j.cell 2;have π:=j.cell 3;have aa:=j.cell 4;have ab:=j.cell 5;simp only[nR,pg]at k0 M k2 π aa ab;have t1:wc.cell? (tb,1)=some (.slice J l.length L):=q.cell 1;have y1:=j.lt;have bc:=q.lt;go_wp2_with fail;go_cut [] (λN=>aU N gs n sb mb (K.take (a,b))/\(∃Y,bU N tb gs n Y (l++[⟨⟨c1,c2,c3,c4,c5⟩,false⟩])/\Old Y wc N)/\Xo (Fe n mb tb) (tb+1) CG wc N);case first=>
     go_region_law (refine oX aI.underlying154 bz cu cv cw rfl D9 D9 (tb+1) rfl _ _ rfl (.slice J l.length L) l.length (fV l) E9 bf 1 [c1,c2,c3,c4,c5,aD,aF] rfl (wc:Nat) 1 E9 bd bp O9 cm B1 ?_;intro v1 w1 bu ca l1 M;obtain⟨da,c9,cr⟩:=cO bu l.length rfl;subst cr;obtain⟨a2,m,a9,ba⟩:=fin.out _ _ ca bu M;have dd:w1.cell? (tb,1)=some (.slice J l.length L):=a2.cell 1;have de:=a2.frozen 1;have dh:=a2.lt);all_goals go_wp2_with fail
     all_goals go_meet
     all_goals exact⟨m,a9,ba⟩
    case rest=>obtain⟨cf,⟨Y,a7,a8⟩,ae⟩:=hcut;replace a8:=b7.old a8;replace d:=d.xo ae (λc=>by obtain c|c:=c;exact I.mU d c;exact d.ne q D9 c) (.inr (by unfold CG;decide));replace j:=j.xo ae (λc=>by obtain c|c:=c;exact I.mU j c;exact j.ne q D9 c) (.inr (by unfold CG;decide));have cy:=sX bb ae;clear ae bb fin bd bf B1 bp k0 M k2 π aa ab t1 y1 bc a3 q O I bz;have k0:=j.cell 0;have M:=j.cell 1;have k2:=j.cell 2;have π:=j.cell 3;have aa:=j.cell 4;have ab:=j.cell 5;simp only[nR,pg]at k0 M k2 π aa ab;have af:=d.cell 0;have ag:=d.cell 1;have ah:=d.cell 2;have ai:=d.cell 3;have aj:=d.cell 4;have ak:=d.cell 5;simp only[nR,pg]at af ag ah ai aj ak;have f0:=d.frozen 0;have f1:=d.frozen 1;have f2:=d.frozen 2;have bg:=d.frozen 3;have bj:=d.frozen 4;have bk:=d.frozen 5;have m:=d.qK ↑c1 ↑c2 ↑c3 ↑c4 ↑c5 ↑aD;have y:=(jO (λk=>k=(w:Nat)+1) wc).qK ((w:Nat)+1) ↑c1 ↑c2 ↑c3 ↑c4 ↑c5 ↑aD (λ_=>rfl);have R:=cf.qK d ↑c1 ↑c2 ↑c3 ↑c4 ↑c5 ↑aD D9 D9;have T:bU (CF wc ((w:Nat)+1) ↑c1 ↑c2 ↑c3 ↑c4 ↑c5 ↑aD) tb gs n _ _:=⟨a7.row.xc y (a7.row.ne d D9),dY a7.own (λk cs _ _ i=>y.block k (cE i) (λe=>by subst e;unfold Row at d;rw[d]at i;cases i))⟩;have μ:Old Y w (CF wc ((w:Nat)+1) ↑c1 ↑c2 ↑c3 ↑c4 ↑c5 ↑aD):=a8.all (jQ.of y (λk cs f i e=>by subst e;unfold Row at d;rw[d]at i;cases i));have V:Xo (Fe n mb tb) (tb+1) CG w (CF wc ((w:Nat)+1) ↑c1 ↑c2 ↑c3 ↑c4 ↑c5 ↑aD):=QF cy ((w:Nat)+1) _ _ _ _ _ _ O9;have ao:=m.cell 0;have ar:=m.cell 1;have au:=m.cell 2;have av:=m.cell 3;have ay:=m.cell 4;have az:=m.cell 5;simp only[nR,pg]at ao ar au av ay az;replace m:=aJ m;replace y:=aJ y;replace R:=aJ R;replace T:=aJ T;replace μ:=aJ μ;replace V:=aJ V;go_wp2_with fail;exact nC (v:=.agg #[c1,c2,c3,c4,c5,aD]) (by simp only[results,Tryz.results122];simp[go_sem,ao,ar,au,av,ay,az]) rfl ⟨rfl,R.out,⟨_,by rw[A.out];exact T.out,μ.out⟩,V.out⟩
def Ta{gs n tb sb mb K v l}(p w)(g:aU w gs n sb mb K)(h:bU w tb gs n v l)(j:AB p)(i:l.length<=100000):Calls aI.prog 122 #[ptr tb,uF p] w λe w'=>e=.returned (qE (K p))/\aU w' gs n sb mb (K.take p)/\(∃a,bU w' tb gs n a (Lv l (K p)))/\Xo (Fe n mb tb) (tb+1) CG w w':=
 (EN p w g h j i).mono λ_ _ ⟨b,c,⟨a,d,_⟩,f⟩=>⟨b,c,⟨a,d⟩,f⟩
def Lx(o):∃s a b l h,qE o=.agg #[.string s,.int .i64 a,.int .i64 b,.string l,.int .i64 h,.bool o.isSome]:=by cases o with
 |none=>exact⟨_,_,_,_,_,rfl⟩
 |some c=>exact⟨_,_,_,_,_,rfl⟩
def Tb{K id}{k:Nat}(a:k<8)(h:(K (id,(k:Int))).isSome=true):anyM K id=true:=by unfold anyM;rw[List.any_eq_true];exact⟨k,yq.2 a,h⟩
def Oj{K id}(h:∀k:Nat,k<8->(K (id,(k:Int))).isSome=false):anyM K id=false:=by unfold anyM;rw[Ux];intro k a;rw[h k (yq.1 a)];simp
def Tc{K id}(h:anyM K id=false)(k:Nat)(a:k<8):K (id,(k:Int))=none:=by unfold anyM at h;rw[Ux]at h;have:=h k (yq.2 a);simpa using this
def Ol(w b c d e f a):(Instr.field 60 (.agg #[b,c,d,e,f,a]) 4).run aI.prog w=.ok a w:=by have g:=wY (w:=w) aI.underlying60;simp[Instr.field,part,asAgg]
def Td{gs n sb mb K}(id w)(b:aU w gs n sb mb K)(v:id.size<=1000000):Calls aI.prog 216 #[pJ gs n,.string id] w λe w'=>e=.returned (.bool (anyM K id))/\Below w w w':=by
 have g:Below w w (w.alloc (.cells #[.slice gs n n] 125)):=B0.alloc L9 _;have c:=aV w [.slice gs n n] 125;have m:∀(W:World) (k:Nat),k<8->aU W gs n sb mb K->Calls aI.prog 45 #[.agg #[.slice gs n n],.agg #[id,(k:Int)]] W λe w'=>e=.returned (qE (K (id,(k:Int))))/\Below W W w':=λW k y h=>Hi (id,(k:Int)) W h ⟨v,by show _<=(k:Int);omega,by show(k:Int)<_;omega⟩;replace b:=b.keep g;unfold pJ;go_enter aI.func216,Tryz.ntmps216;go_wp2_with fail;generalize w.alloc (.cells #[.slice gs n n] 125)=X at g c b|-;go_loopw [6] (λi wr=>∃k:Nat,k<=8/\i=k/\(∀j,j<k->(K (id,(j:Int))).isSome=false)/\Below w w wr/\Below X X wr) (λi _=>8 -(intOf i).toNat);case atStart=>exact⟨0,O9,rfl,λj x=>by omega,g,B0⟩
 case round=>
  obtain⟨k,y,rfl,d,l,f⟩:=hrel;replace c:=c.keep f c.lt;replace b:=b.keep f;have c0:wr.cell? ((w:Nat),0)=some (.slice gs n n):=c.cell 0;by_cases r:k<8;.have A:=m wr k r b;clear m;replace d:=aJ d;have G:((k:Int)<8):=O9;go_wp2_with fail;refine A.mono ?_;rintro e w1 ⟨rfl,p⟩;obtain⟨B,C,D,E,F,u⟩:=Lx (K (id,(k:Int)));rw[u];have H:=Ol w1 B C D E F;have q:=l.trans (p.mono l.size);have t:=f.trans (p.mono f.size);cases o:(K (id,(k:Int))).isSome with
   |true=>have a:=Tb r o;replace a:=aJ a;clear o;go_wp2_with fail;go_ret;exact⟨by rw[a.out];rfl,q⟩
   |false=>
     have s:Hid (∀j,j<k+1->(K (id,(j:Int))).isSome=false):=λj x=>by
      by_cases e:j=k;.simp_all
      .exact d.out j O9
     clear o;go_wp2_with fail;go_roundw;case rel=>exact⟨k+1,O9,by go_num,s.out,q,t⟩
     case measure=>simp[intOf];omega
  .have z:k=8:=O9;subst z;have a:=Oj d;replace a:=aJ a;clear d m;go_wp2_with fail;go_ret;exact⟨by rw[a.out];rfl,l⟩
def Lz(l o):fU (l++[o])=fU l+o.val:=by induction l with
 |nil=>simp[fU]
 |cons x l a=>simp[fU];omega
def wF(l)(h:∀o∈l,o.Small):0<=fU l/\fU l<=l.length*4294967295:=by induction l with
 |nil=>simp[fU]
 |cons o l c=>have d:=c (λx b=>h x (by simp[b]));have a:=h o S8;have:=a.1;have:=a.2.2;simp[fU];omega
def Hk(v l w)(h:qA w v l)(C:l.length<=1000)(j:∀o∈l,o.Small):Calls aI.prog 202 #[v] w λe w'=>e=.returned (fU l)/\Below w w w':=by
 obtain⟨⟨a,c,rfl,q⟩,_⟩:=h;go_enter aI.func202,Tryz.ntmps202;go_wp2_with fail;go_loopw [3,8] (λs i wr=>∃k,k<=l.length/\i=k/\s=(fU (l.take k))/\Below w w wr) (λ_ i _=>l.length -(intOf i).toNat);case atStart=>exact⟨0,O9,rfl,rfl,B0⟩
 case round=>
  obtain⟨k,B,rfl,rfl,d⟩:=hrel;by_cases b:k<l.length
  .obtain⟨g,o,rfl,u⟩:=q (by intro e;rw[e]at b;simp at b);have p:=(u k l[k] (cN b)).keep d;have f:=j l[k] (wX b);have n:l.take (k+1)=l.take k++[l[k]]:=by rw[uO b]
   have A:=wF (l.take k) (λo t=>j o (List.mem_of_mem_take t));have hlen:(l.take k).length<=1000:=by rw[qd];omega
   have m:Hid (fU (l.take (k+1))=fU (l.take k)+(l[k]).val):=by unfold Hid;rw[n,Lz]
   generalize l[k]=x at p f m n;obtain⟨G,F⟩:=x;obtain⟨D,E⟩:=p;have y:=f.1;have z:=f.2.2;simp only at y z;go_wp2_with fail;go_roundw;case rel=>exact⟨k+1,O9,by go_num,by rw[m.out],d.alloc d.size _⟩
   case measure=>simp[intOf];omega
  .have r:k=l.length:=O9;subst r;rw[pN];go_wp2_with fail;go_ret;exact⟨rfl,d⟩
def cH.cells(t:cH):List Value:=[.string t.key,.string t.lock,.string t.id,.int .i64 t.cB]
def bA(l:List cH):List Value:=l.flatMap cH.cells
def tX(l t):bA (l++[t])=bA l++t.cells:=by simp[bA]
def JF(n:Nat)(mb:Nat->Nat)(tb jb k:Nat):Prop:=Fe n mb tb k\/k=jb
def JT(t:TypeId):Prop:=t=234\/t=298
abbrev XJ(n:Nat)(mb:Nat->Nat)(tb jb:Nat)(w w':World):Prop:=Xo (JF n mb tb jb) (tb+1) JT w w'
structure bQ(w:World)(jb tb gs n:Nat)(sb mb:Nat->Nat)(h:Int)(s:JS):Prop where
 row:∃tv,Row w jb 266 [ptr tb,.int .i64 h,.int .i64 s.iU,tv]/\w.ownsRow (tb+1) 298 4 tv s.cC.length (bA s.cC)
 rB:∃v,bU w tb gs n v s.steps
 aP:aU w gs n sb mb s.K
def bQ.keep{w w' b tb gs n sb mb h s}(d:bQ w b tb gs n sb mb h s)(a:Below w w w'):bQ w' b tb gs n sb mb h s:=by obtain⟨⟨tv,r,o⟩,⟨v,t⟩,c⟩:=d;exact⟨⟨tv,r.keep a r.lt,aY o a⟩,⟨v,t.row.keep a t.row.lt,aY t.own a⟩,c.keep a⟩
def XJ.LA{n mb tb a w w'}(x:Xo (Fe n mb tb) (tb+1) CG w w'):XJ n mb tb a w w':=Xo.mono x (λ_ e=>.inl e) L9 (λ_ e=>.inl e)
def bQ.QH{w w' d tb gs n sb mb h s a f q}(m:bQ w d tb gs n sb mb h s)(x:Xo (Fe n mb tb) (tb+1) CG w w')(l:aU w' gs n sb mb a)(p:bU w' tb gs n q f):bQ w' d tb gs n sb mb h {s with K:=a,steps:=f}:=by
 obtain⟨⟨tv,r,o⟩,⟨v,t⟩,c⟩:=m;refine⟨⟨tv,r.xo x ?_ (.inr (by unfold CG;decide)),acA o x ?_ (by unfold CG;decide)⟩,⟨_,p⟩,l⟩
 .rintro(e|e);.exact c.mU r e
  .exact r.ne t.row D9 e
 .rintro k cs b u (⟨i,hi,e⟩|e);.subst e;obtain⟨C,g,-⟩:=c.mp i hi;obtain⟨es,cl,j,-⟩:=g;rw[j]at b;cases b
  .omega
def bQ.c0{w a tb gs n sb mb h s}(b:bQ w a tb gs n sb mb h s):w.cell? (a,0)=some (.pointer tb):=by obtain⟨tv,r,_⟩:=b.row;exact r.cell 0
def bQ.c1{w a tb gs n sb mb h s}(b:bQ w a tb gs n sb mb h s):w.cell? (a,1)=some ↑h:=by obtain⟨tv,r,_⟩:=b.row;exact r.cell 1
def Row.xj{w w' a tb gs n g sb mb h s t cs}(r:Row w g t cs)(j:bQ w a tb gs n sb mb h s)(x:XJ n mb tb a w w')(b:t≠181)(d:t≠266)(f:t≠234)(i:t≠298):Row w' g t cs:=by
 obtain⟨⟨tv,k,o⟩,⟨v,tr⟩,c⟩:=j;refine r.xo x ?_ (.inr (λe=>e.elim f i));rintro((e|e)|e);.exact c.mU r e
 .exact r.ne tr.row b e
 .exact r.ne k d e
def IG(w:World)(v:Value)(l:List eY):Prop:=∃g c,v=.slice (some ⟨g,0,none⟩) l.length c/\Row w g 86 (lS l)
def InR(w:World)(v:Value)(l:List jR):Prop:=∃g c,v=.slice (some ⟨g,0,none⟩) l.length c/\Row w g 139 (mN l)
def QI(id:ByteArray)(h:Int)(i:Nat)(o:eY)(s:JS):JS:={s with K:=s.K.put ⟨id,i,o.val,o.lock,h⟩,steps:=s.steps++[⟨⟨id,i,o.val,o.lock,h⟩,true⟩]}
def Om(id h l o):∀i s,mP id h (l++[o]) i s=QI id h (i+l.length) o (mP id h l i s):=by induction l with
 |nil=>intro i s;rfl
 |cons x l a=>intro i s;show mP id h (l++[o]) (i+1) _=_;rw[a];show _=QI id h (i+(l.length+1)) o (mP id h l (i+1) _);rw[show i+1+l.length=i+(l.length+1)from by omega]
def aaj(id h l):∀(i:Nat) (s:JS) (j:Nat),(i+l.length<=j)->(mP id h l i s).K (id,(j:Int))=s.K (id,(j:Int)):=by induction l with
 |nil=>intro i s j _;rfl
 |cons x l b=>intro i s j a;simp at a;show(mP id h l (i+1) _).K (id,(j:Int))=_;rw[b (i+1) _ j O9];show(s.K.put _) (id,(j:Int))=_;unfold mO.put;rw[aX];intro e;have:=congrArg Prod.snd e;simp[kO.pt]at this;omega
def Te(id h l):∀i s,(mP id h l i s).steps.length=s.steps.length+l.length:=by induction l with
 |nil=>intro i s;rfl
 |cons x l a=>intro i s;show(mP id h l (i+1) _).steps.length=_;rw[a];simp;omega
def EO{j tb gs n sb mb h s}(x gi li ci ov w)(a:bQ w j tb gs n sb mb h s)(ak:IG w ov x.outs)(hlen:x.outs.length<=8)(J:x.id.size<=1000000)(bb:s.steps.length+8<=100000):Calls aI.prog 203 #[ptr j,.agg #[x.id,.slice (some ⟨gi,0,none⟩) li ci,ov]] w λe w'=>e=.returned ((eW x h s).1)/\bQ w' j tb gs n sb mb h (eW x h s).2/\XJ n mb tb j w w':=by
 obtain⟨id,ins,outs⟩:=x;obtain⟨g,c,rfl,b⟩:=ak;simp only at b hlen J|-;unfold ptr;have f:=aV w [id,.slice gi li ci,.slice g outs.length c] 169;have l:Below w w (w.alloc (.cells #[id,.slice gi li ci,.slice g outs.length c] 169)):=B0.alloc L9 _;have V:∀W:World,aU W gs n sb mb s.K->Calls aI.prog 216 #[.agg #[.slice gs n n],id] W λe w'=>e=.returned (.bool (anyM s.K id))/\Below W W w':=λW B=>Td id W B J;replace a:=a.keep l;replace b:=b.keep l b.lt;go_enter aI.func203,Tryz.ntmps203;go_wp2_with fail;generalize w.alloc (.cells #[id,.slice gi li ci,.slice g outs.length c] 169)=X at f l a b|-;have ab:∀d os,Calls aI.prog 216 #[.agg #[.slice gs n n],id] (Go.Sort.grow (redrawn X d) os) λe a4=>e=.returned (.bool (anyM s.K id))/\∃p:Regrown,a4=Go.Sort.grow (redrawn X p.d) p.os:=λd os=>Calls.regrown_of (V _ (a.aP.keep (below_regrown X d os)))
 obtain⟨tv,y,Q⟩:=a.row;obtain⟨v,tr⟩:=a.rB;have k0:=cell_regrown (show X.cell? (j,0)=some (.pointer tb)from y.cell 0);have az:=cell_regrown (show X.cell? (tb,0)=some (.slice gs n n)from tr.row.cell 0);have k2:=cell_regrown (show X.cell? ((w:Nat),0)=some ↑id from f.cell 0);refine wp_region_quiet_below Em K8 ?_;repeat(go_big_quiet_step (first|(go_at_call 216;exact ab _ _)))
 refine wpQuiet_nil ?_;intro _ ar;obtain⟨⟨T,aa⟩,au⟩:=ar;subst au;have E:=below_regrown X T aa;clear y Q tr k0 az k2 ab V;replace b:=b.keep E b.lt;replace a:=a.keep E;replace f:=f.keep E f.lt;replace l:=l.trans (E.mono l.size);generalize Go.Sort.grow (redrawn X T) aa=Y at b a f l|-;clear E;cases H:anyM s.K id with
 |true=>
   have C:Hid (eW ⟨id,ins,outs⟩ h s=(14,s)):=by unfold Hid eW;rw[if_pos H]
   go_wp2_with fail;go_ret;exact⟨by rw[C.out];rfl,by rw[C.out];exact a,jB l⟩
 |false=>
   have C:Hid (eW ⟨id,ins,outs⟩ h s=(0,mP id h outs 0 s)):=by unfold Hid eW;rw[if_neg (by rw[H];simp)]
   have M:=Tc H;clear H;have a0:Y.cell? ((w:Nat),2)=some (.slice g outs.length c):=f.cell 2;go_wp2_with fail;go_loopw [20] (λi wr=>∃k:Nat,k<=outs.length/\i=↑k/\bQ wr j tb gs n sb mb h (mP id h (outs.take k) 0 s)/\Row wr ↑w 169 [id,.slice gi li ci,.slice g outs.length c]/\Row wr g 86 (lS outs)/\XJ n mb tb j w wr) (λi _=>outs.length -(intOf i).toNat);case atStart=>exact⟨0,O9,rfl,a,f,b,jB l⟩
   case round=>
    clear a f b l a0;obtain⟨k,a8,rfl,a,f,b,R⟩:=hrel;by_cases hlt:k<outs.length
    .obtain⟨F,G⟩:=wG outs k outs[k] (cN hlt);have P:outs.take (k+1)=outs.take k++[outs[k]]:=by rw[uO hlt]
     have O:Hid (mP id h (outs.take (k+1)) 0 s=QI id h k outs[k] (mP id h (outs.take k) 0 s)):=by unfold Hid;rw[P,Om,qd];congr 1;omega
     have L:(mP id h (outs.take k) 0 s).K (id,(k:Int))=none:=by rw[aaj id h (outs.take k) 0 s k (by rw[qd];omega)];exact M k O9
     have N:(mP id h (outs.take k) 0 s).steps.length<=100000:=by rw[Te,qd];omega
     generalize outs[k]=o at F G O P;generalize mP id h (outs.take k) 0 s=ae at a O L N;obtain⟨q,m⟩:=o;simp only at F G;have a5:wr.cell? (g,k*2)=some ↑q:=by rw[b.cell];exact F
     have a6:wr.cell? (g,k*2+1)=some ↑m:=by rw[b.cell];exact G
     have a9:(0:Int)<=(k:Int):=O9;have ba:(k:Int)<(outs.length:Int):=O9;clear P F G M;go_wp2_with fail;have b1:Below wr wr (wr.alloc (.cells #[q,m] 86)):=B0.alloc L9 _;have t:=aV wr [q,m] 86;replace a:=a.keep b1;replace f:=f.keep b1 f.lt;replace b:=b.keep b1 b.lt;have S:XJ n mb tb j w _:=QC R b1;generalize wr.alloc (.cells #[q,m] 86)=u at t a f b S|-;generalize(wr:Nat)=z at t|-;clear b1 R a5 a6;have A:=aJ (a.keep (bW B0));have D:Hid (∀w1,XJ n mb tb j u.drew w1->Row w1 ↑w 169 [id,.slice gi li ci,.slice g outs.length c]/\Row w1 z 86 [q,m]):=λw1 x=>⟨(pQ f).xj A.out x D9 D9 D9 D9,(pQ t).xj A.out x D9 D9 D9 D9⟩;have π:Hid (∀W:World,bQ W j tb gs n sb mb h ae->Calls aI.prog 123 #[.pointer tb,.agg #[id,↑(k:Int),q,m,h,aD]] W λe w'=>e=.returned (.tuple #[])/\bQ w' j tb gs n sb mb h (QI id h k ⟨q,m⟩ ae)/\XJ n mb tb j W w'):=λW B=>by obtain⟨v,tr⟩:=B.rB;refine(XC ⟨id,(k:Int),q,m,h⟩ W B.aP tr ⟨J,by show _<=(k:Int);omega,by show(k:Int)<_;omega⟩ L N).mono ?_;rintro e w' ⟨ah,ai,⟨bc,aj⟩,μ⟩;exact⟨ah,B.QH μ ai aj,XJ.LA μ⟩
     obtain⟨tv,y,Q⟩:=a.row;have av:u.cell? (j,0)=some (.pointer tb):=y.cell 0;have ay:u.cell? (j,1)=some ↑h:=y.cell 1;have t0:u.cell? ((w:Nat),0)=some ↑id:=f.cell 0;have a2:u.cell? (z,0)=some ↑q:=t.cell 0;have a3:u.cell? (z,1)=some ↑m:=t.cell 1;clear y Q L N a;go_region_held3 (λw'=>w'.cell? (j,0)=some (.pointer tb)/\w'.cell? (j,1)=some ↑h/\w'.cell? ((w:Nat),0)=some ↑id/\w'.cell? (z,0)=some ↑q/\w'.cell? (z,1)=some ↑m) (first|go_keep|exact⟨I.c0,I.c1,(D.out w1 r).1.cell 0,(D.out w1 r).2.cell 0,(D.out w1 r).2.cell 1⟩) ((go_at_call 123;refine(π.out _ A.out).mono ?_;rintro e w1 ⟨rfl,I,r⟩))
     have af:=(D.out w1 r).1;have ag:=(pQ b).xj A.out r D9 D9 D9 D9;have a7:XJ n mb tb j w w1:=sX (vN S) r;clear av ay t0 a2 a3 D π A r S t f b;go_wp2_with fail;go_roundw;case rel=>exact⟨k+1,O9,by go_num,by rw[O.out];exact I,af,ag,a7⟩
     case measure=>simp[intOf];omega
    .have ao:k=outs.length:=O9;subst ao;rw[pN]at a;clear M;go_wp2_with fail;go_ret;exact⟨by rw[C.out];rfl,by rw[C.out];exact a,R⟩
def IG.at_{w v l}(h:IG w v l)(b:l.length<=1000):qA w v l:=by obtain⟨g,c,rfl,a⟩:=h;exact EK (rest:=[]) (by rw[nS];exact a) O9
def XD{j tb gs n sb mb h s}(x gi li ci ov su w)(f:bQ w j tb gs n sb mb h s)(G:IG w ov x.outs)(hlen:x.outs.length<=8)(A:∀o∈x.outs,o.Small)(z:x.id.size<=1000000)(I:s.steps.length+8<=100000)(H:0<=s.iU/\s.iU<=1000000000000000)(R:0<=su/\su<=1000000):Calls aI.prog 166 #[ptr j,.agg #[x.id,.slice (some ⟨gi,0,none⟩) li ci,ov],.int .i64 su] w λe w'=>e=.returned ((jX x h su s).1)/\bQ w' j tb gs n sb mb h (jX x h su s).2/\XJ n mb tb j w w':=by
 have t:Hid (∀W,bQ W j tb gs n sb mb h s->IG W ov x.outs->Calls aI.prog 203 #[ptr j,.agg #[x.id,.slice gi li ci,ov]] W λe w'=>e=.returned ((eW x h s).1)/\bQ w' j tb gs n sb mb h (eW x h s).2/\XJ n mb tb j W w'):=λW E r=>EO x gi li ci ov W E r hlen z I;have u:∀W,IG W ov x.outs->Calls aI.prog 202 #[ov] W λe w'=>e=.returned (fU x.outs)/\Below W W w':=λW r=>Hk ov x.outs W (r.at_ O9) O9 A;have J:=wF x.outs A;have l:Hid (jX x h su s=if fU x.outs>su+s.iU then(16,s)else eW x h s):=rfl;obtain⟨id,ins,outs⟩:=x;obtain⟨g,c,rfl,a⟩:=G;simp only at a hlen z u J l t|-;have K:0<=fU outs/\fU outs<=100000000000:=O9;generalize fU outs=C at K u l;unfold ptr at t|-;have b:=aV w [id,.slice gi li ci,.slice g outs.length c] 169;have i:Below w w (w.alloc (.cells #[id,.slice gi li ci,.slice g outs.length c] 169)):=B0.alloc L9 _;replace f:=f.keep i;replace a:=a.keep i a.lt;go_enter aI.func166,Tryz.ntmps166;go_wp2_with fail;generalize w.alloc (.cells #[id,.slice gi li ci,.slice g outs.length c] 169)=X at b i f a|-;have N:∀d os,Calls aI.prog 202 #[.slice g outs.length c] (Go.Sort.grow (redrawn X d) os) λe P=>e=.returned C/\∃p:Regrown,P=Go.Sort.grow (redrawn X p.d) p.os:=λd os=>Calls.regrown_of (u _ ⟨g,c,rfl,a.keep (below_regrown X d os) a.lt⟩)
 obtain⟨tv,O,Y⟩:=f.row;have k0:=cell_regrown (show X.cell? (j,2)=some s.iU from O.cell 2);have S:=cell_regrown (show X.cell? ((w:Nat),2)=some (.slice g outs.length c)from b.cell 2);generalize y:s.iU=D at H k0 l;replace y:=aJ y;refine wp_region_quiet_below Em K8 ?_;repeat(go_big_quiet_step (first|(go_at_call 202;exact N _ _)))
 refine wpQuiet_nil ?_;intro _ L;obtain⟨⟨v,B⟩,M⟩:=L;subst M;have q:=below_regrown X v B;replace a:=a.keep q a.lt;replace f:=f.keep q;replace b:=b.keep q b.lt;replace i:=i.trans (q.mono i.size);generalize Go.Sort.grow (redrawn X v) B=m at a f b i|-;by_cases cB:su+D<C
 .have k:Hid (jX ⟨id,ins,outs⟩ h su s=(16,s)):=by have:=l.out;rw[bM cB]at this;exact this
  go_wp2_with fail;go_ret;exact⟨by rw[k.out];rfl,by rw[k.out];exact f,jB i⟩
 .have k:Hid (jX ⟨id,ins,outs⟩ h su s=eW ⟨id,ins,outs⟩ h s):=by have:=l.out;rw[aX cB]at this;exact this
  have T:m.cell? ((w:Nat),0)=some id:=b.cell 0;have μ:m.cell? ((w:Nat),1)=some (.slice gi li ci):=b.cell 1;have V:m.cell? ((w:Nat),2)=some (.slice g outs.length c):=b.cell 2;go_wp2_with fail;refine(t.out m f ⟨g,c,rfl,a⟩).mono ?_;rintro e w1 ⟨rfl,F,Q⟩;go_wp2_with fail;go_ret;exact⟨by rw[k.out];rfl,by rw[k.out];exact F,sX (jB i) Q⟩
def IY(K:mO):Prop:=∀p c,K p=some c->0<=c.val/\c.val<=4294967295
def IY.take{K}(h:IY K)(q):IY (K.take q):=by
 intro p c a;unfold mO.take at a;split at a;.cases a
 .exact h p c a
def IY.put{K}(h:IY K)(d)(b:0<=d.val/\d.val<=4294967295):IY (K.put d):=by
 intro p c a;unfold mO.put at a;split at a;.simp_all
 .exact h p c a
def bJ{B w e t size n g j v u b cs}(h:w.ownsRow B e size v n b)(r:Row w g t cs)(c:t≠e):(w.setCell ⟨g,j,none⟩ u).ownsRow B e size v n b:=dY h (λk d _ _ a=>((Xc.refl (λk=>k=g) w).setCell (g,j) u (λ_=>rfl)).block k (cE a) (λe=>by subst e;unfold Row at r;rw[r]at a;cases a;exact c rfl))
def bU.setCell{w tb gs n g j v u l t cs}(h:bU w tb gs n v l)(r:Row w g t cs)(a:t≠181)(b:t≠234):bU (w.setCell ⟨g,j,none⟩ u) tb gs n v l:=⟨h.row.aM (g,j) u (h.row.ne r (gN a)),bJ h.own r b⟩
def bU.grown{w w' tb gs n B size m v u l e j}(h:bU w tb gs n v l)(d:w.ownsRow B e size u m j)(b:w.grownBy w' u.ownBlock)(f:e≠181)(g:e≠234):bU w' tb gs n v l:=by refine⟨(b.block tb h.row.lt (λc=>dZ d h.row (gN f) c.symm)).trans h.row,dY h.own (λk cs _ _ a=>b.block k (cE a) (λc=>?_))⟩;obtain⟨_,o,i⟩:=cP d c.symm;rw[i]at a;cases a;exact g rfl
def bQ.push{b w1 a tb gs n sb mb h s t tv v1 o}(i:bQ b a tb gs n sb mb h s)(l:Row b a 266 [ptr tb,h,s.iU,tv])(j:b.ownsRow (tb+1) 298 4 tv s.cC.length (bA s.cC))(f:(b.drew.alloc o).grownBy w1 tv.ownBlock)(r:w1.ownsRow (tb+1) 298 4 v1 (s.cC.length+1) (bA s.cC++t.cells)):Row w1 a 266 [ptr tb,h,s.iU,tv]/\XJ n mb tb a b w1/\bQ (w1.setCell (a,3) v1) a tb gs n sb mb h {s with cC:=s.cC++[t]}/\XJ n mb tb a b (w1.setCell (a,3) v1):=by
 have d:Below b b (b.drew.alloc o):=(bW B0).alloc L9 _;have r0:=l.keep d l.lt;have g:=aY j d;obtain⟨v,tr⟩:=i.rB;have t0:bU (b.drew.alloc o) tb gs n v s.steps:=⟨tr.row.keep d tr.row.lt,aY tr.own d⟩;have c0:=i.aP.keep d;have r1:Row w1 a 266 [ptr tb,h,↑s.iU,tv]:=(f.block a r0.lt (λc=>dZ g r0 D9 c.symm)).trans r0;have c1:=c0.grown g f D9 D9;have t1:=t0.grown g f D9 D9;have m:XJ n mb tb a b w1:=(jB d).grown f (λk e u=>by obtain⟨p,cs,q⟩:=cP j e;exact .inr ⟨p,_,cs,_,.inr rfl,q⟩)
 refine⟨r1,m,⟨⟨v1,r1.set 3 v1,?_⟩,⟨v,t1.setCell r1 D9 D9⟩,c1.setCell r1 v1 D9 D9⟩,m.setCell (a,3) v1 (λ_=>.inl (.inr rfl))⟩;rw[tX,cK];exact bJ r r1 D9
def bQ.fee{w a tb gs n sb mb h s}(f)(c:bQ w a tb gs n sb mb h s):bQ (w.setCell (a,2) (.int .i64 f)) a tb gs n sb mb h {s with iU:=f}/\XJ n mb tb a w (w.setCell (a,2) f):=by obtain⟨tv,b,d⟩:=c.row;obtain⟨v,tr⟩:=c.rB;exact⟨⟨⟨tv,b.set 2 _,bJ d b D9⟩,⟨v,tr.setCell b D9 D9⟩,c.aP.setCell b _ D9 D9⟩,(jO _ w).setCell (a,2) _ (λ_=>.inl (.inr rfl))⟩
def aI.Tf:(aI.prog.info? 298).map (λi=>(i.zero,i.size,i.bytes))=some (some (.agg #[aB,aB,aB,aA]),4,56):=K8
def QJ:=@aI.Tf
def FD(id:ByteArray)(h:Int)(x:jR)(c:kO)(s:JS):JS:={s with K:=s.K.take (x.tx,x.idx),steps:=s.steps++[⟨c,false⟩],cC:=s.cC++[⟨x.key,c.lock,id,h⟩]}
def AL{id h x r sp s c}(a:s.K (x.tx,x.idx)=some c):nP id h (x::r) sp s=nP id h r (sp+c.val) (FD id h x c s):=by show(match s.K (x.tx,x.idx)with|none=>_|some c=>_)=_;rw[a];rfl
def AO{id h x r sp s}(a:s.K (x.tx,x.idx)=none):nP id h (x::r) sp s=(15,sp,s):=by show(match s.K (x.tx,x.idx)with|none=>_|some c=>_)=_;rw[a]
def Tg{K:mO}{p}(h:K p=none):K.take p=K:=by
 funext q;unfold mO.take;split;.simp_all
 .rfl
def bQ.qK{w f tb gs n g sb mb h s t cs}(z:bQ w f tb gs n sb mb h s)(r:Row w g t cs)(v0 v1 v2 v3 b d)(l:t≠192)(o:t≠196)(p:t≠181)(q:t≠266)(u:t≠234)(x:t≠298):bQ (CF w g v0 v1 v2 v3 b d) f tb gs n sb mb h s:=by
 obtain⟨⟨tv,i,C⟩,⟨v,tr⟩,c⟩:=z;have y:=(jO (λk=>k=g) w).qK g v0 v1 v2 v3 b d (λ_=>rfl);have own:∀{B e size m:Nat} {v:Value} {j:List Value},w.ownsRow B e size v m j->t≠e->(CF w g v0 v1 v2 v3 b d).ownsRow B e size v m j:=λh A=>dY h (λk D _ _ a=>y.block k (cE a) (λe=>by subst e;unfold Row at r;rw[r]at a;cases a;exact A rfl))
 exact⟨⟨tv,i.aai (i.ne r (gN q)) _ _ _ _ _ _,own C x⟩,⟨v,tr.row.aai (tr.row.ne r (gN p)) _ _ _ _ _ _,own tr.own u⟩,c.qK r _ _ _ _ _ _ l o⟩
structure LC(x:RN)(h:Int)(s:JS)(k:Nat)(sp:Int)(sk:JS):Prop where
 same:nP x.id h x.ins 0 s=nP x.id h (x.ins.drop k) sp sk
 sp0:0<=sp
 sp1:sp<=k*4294967295
 ok:IY sk.K
 iU:sk.iU=s.iU
 steps:sk.steps.length<=s.steps.length+k
 cC:sk.cC.length<=s.cC.length+k
def LC.next{x h s k sp a i c}(H:LC x h s k sp a)(d:x.ins.drop k=i::x.ins.drop (k+1))(b:a.K (i.tx,i.idx)=some c):LC x h s (k+1) (sp+c.val) (FD x.id h i c a):=by
 have e:=H.ok _ c b;refine⟨by rw[H.same,d,AL b],?_,?_,H.ok.take _,H.iU,?_,?_⟩;.have:=H.sp0;omega
 .have:=H.sp1;omega
 .have:=H.steps;simp[FD];omega
 .have:=H.cC;simp[FD];omega
def XE{a tb gs n sb mb h s}(x iv ov w)(j:bQ w a tb gs n sb mb h s)(du:InR w iv x.ins)(dw:IG w ov x.outs)(fp:x.ins.length<=8)(ed:∀i∈x.ins,i.Small)(hlen:x.outs.length<=8)(bj:∀o∈x.outs,o.Small)(ea:x.id.size<=1000000)(fu:s.steps.length<=50000)(fw:s.cC.length<=50000)(fi:0<=s.iU/\s.iU<=100000000000000)(b6:IY s.K):Calls aI.prog 165 #[ptr a,.agg #[x.id,iv,ov]] w λe w'=>e=.returned ((fS x h s).1)/\bQ w' a tb gs n sb mb h (fS x h s).2/\XJ n mb tb a w w':=by
 have cb:Hid (∀(W:World) (s':JS) (gi li ci:Nat),bQ W a tb gs n sb mb h s'->s'.steps.length+8<=100000->IG W ov x.outs->Calls aI.prog 203 #[ptr a,.agg #[↑x.id,.slice gi li ci,ov]] W λe w'=>e=.returned (↑(eW x h s').1)/\bQ w' a tb gs n sb mb h (eW x h s').2/\XJ n mb tb a W w'):=λW s' gi li ci a9 h0 aj=>EO x gi li ci ov W a9 aj hlen ea h0;have cu:Hid (∀W:World,IG W ov x.outs->Calls aI.prog 202 #[ov] W λe w'=>e=.returned ↑(fU x.outs)/\Below W W w'):=λW aj=>Hk ov x.outs W (aj.at_ O9) O9 bj;have eg:=wF x.outs bj;have ab:Hid (fS x h s=if(nP x.id h x.ins 0 s).1≠0 then((nP x.id h x.ins 0 s).1,(nP x.id h x.ins 0 s).2.2)else if fU x.outs>(nP x.id h x.ins 0 s).2.1 then(16,(nP x.id h x.ins 0 s).2.2)else eW x h {(nP x.id h x.ins 0 s).2.2 with iU:=(nP x.id h x.ins 0 s).2.2.iU+((nP x.id h x.ins 0 s).2.1 -fU x.outs)}):=rfl;have b9:Hid (LC x h s 0 0 s):=⟨rfl,O9,O9,b6,rfl,O9,O9⟩;obtain⟨g,c,rfl,m⟩:=dw;obtain⟨gi,ci,rfl,y⟩:=du;generalize af:x.outs.length=lo at*;generalize a3:x.ins.length=li at*;generalize V:x.id=id at*;have eh:0<=fU x.outs/\fU x.outs<=100000000000:=O9;clear eg bj b6;generalize a2:fU x.outs=G at eh cu ab;unfold ptr at cb|-;have f:=aV w [id,.slice gi li ci,.slice g lo c] 169;have aa:Below w w (w.alloc (.cells #[id,.slice gi li ci,.slice g lo c] 169)):=B0.alloc L9 _;replace j:=j.keep aa;replace m:=m.keep aa m.lt;replace y:=y.keep aa y.lt;go_enter aI.func165,Tryz.ntmps165;have ey:(w.alloc (.cells #[id,.slice gi li ci,.slice g lo c] 169)).cell? ((w:Nat),1)=some (.slice gi li ci):=f.cell 1;go_wp2_with fail;generalize w.alloc (.cells #[id,.slice gi li ci,.slice g lo c] 169)=X at f aa j m y|-;go_loopw [5,13] (λsv i wr=>∃(k:Nat) (sp:Int) (b:JS),k<=li/\i=↑k/\sv=↑sp/\LC x h s k sp b/\bQ wr a tb gs n sb mb h b/\Row wr ↑w 169 [id,.slice gi li ci,.slice g lo c]/\Row wr g 86 (lS x.outs)/\Row wr gi 139 (mN x.ins)/\XJ n mb tb a w wr) (λ_ i _=>li -(intOf i).toNat);case atStart=>exact⟨0,0,s,O9,rfl,rfl,b9.out,j,f,m,y,jB aa⟩
 case round=>
  clear j f m y aa ey b9;obtain⟨k,sp,b,fj,rfl,rfl,C,j,f,m,y,a7⟩:=hrel;by_cases fq:k<li
  .have bg:=wX (show k<x.ins.length by omega);obtain⟨az,π,a0⟩:=vJ x.ins k x.ins[k] (cN O9);have ar:x.ins.drop k=x.ins[k]::x.ins.drop (k+1):=A0 O9;have au:=ed _ bg;generalize x.ins[k]=i at ar az π a0 au bg;clear bg;replace ar:=aJ ar;replace af:=aJ af;replace a3:=aJ a3;replace V:=aJ V;replace a2:=aJ a2;replace C:=aJ C;obtain⟨q,idx,p⟩:=i;simp only at az π a0;have e3:wr.cell? (gi,k*3)=some ↑q:=by rw[y.cell];exact az
   have H:wr.cell? (gi,k*3+1)=some ↑idx:=by rw[y.cell];exact π
   have e4:wr.cell? (gi,k*3+2)=some ↑p:=by rw[y.cell];exact a0
   have fl:(0:Int)<=(k:Int):=O9;have fo:(k:Int)<(li:Int):=O9;have cm:Hid (AB (q,idx)):=⟨by have:=au.1;show q.size<=_;simp only at this;omega,by have:=au.2.1;show _<=idx;simp only at this;omega,by have:=au.2.2.2;show idx<_;simp only at this;omega⟩;clear az π a0 au;go_wp2_with fail;have b1:Below wr wr (wr.alloc (.cells #[q,idx,p] 139)):=B0.alloc L9 _;have E:=aV wr [q,idx,p] 139;replace j:=j.keep b1;replace f:=f.keep b1 f.lt;replace m:=m.keep b1 m.lt;replace y:=y.keep b1 y.lt;have bo:XJ n mb tb a w _:=QC a7 b1;generalize wr.alloc (.cells #[q,idx,p] 139)=d at E j f m y bo|-;generalize(wr:Nat)=I at E|-;clear b1 a7 e3 H e4;obtain⟨L,M,N,O,P,Q,F⟩:=rA (b.K (q,idx));have dx:b.steps.length<=100000:=by have:=C.out.steps;omega
   generalize ae:({b with K:=b.K.take (q,idx),steps:=Lv b.steps (b.K (q,idx))}:JS)=l;have bk:∀W:World,bQ W a tb gs n sb mb h b->Calls aI.prog 122 #[.pointer tb,.agg #[q,idx]] W λe w'=>∃a6,e=.returned a6/\(a6=.agg #[L,M,N,O,P,.bool Q]/\bQ w' a tb gs n sb mb h l/\XJ n mb tb a W w'):=λW bc=>by obtain⟨v,tr⟩:=bc.rB;refine(Ta (q,idx) W bc.aP tr cm.out dx).mono ?_;rintro e w' ⟨a9,aj,⟨gn,dt⟩,b0⟩;exact⟨_,a9,F,by rw[<-ae];exact bc.QH b0 aj dt,XJ.LA b0⟩
   replace ae:=aJ ae;replace F:=aJ F;have bd:Hid (∀(c9:Array Value) (w:World),(callFunc 122 c9).run aI.prog w=.ok (.enter 122 c9) w):=λ_ _=>by kernel_rfl
   have bb:bQ d.drew a tb gs n sb mb h b:=j.keep (bW B0);have ba:bQ (d.drew.alloc (.cells [.string ⟨#[]⟩,.int .i64 0,.int .i64 0,.string ⟨#[]⟩,.int .i64 0,.bool false].toArray 60)) a tb gs n sb mb h b:=bb.keep (B0.alloc L9 _);have bs:=aV d.drew ↑() 60;have bu:Hid (∀w1,XJ n mb tb a d.drew w1->bQ w1 a tb gs n sb mb h l->(d:Nat)<=(w1:Nat)/\Row (w1.alloc (.cells [.string L,.int .i64 M,.int .i64 N,.string O,.int .i64 P,.bool Q].toArray 60)) (w1:Nat) 60 [L,M,N,O,P,.bool Q]/\XJ n mb tb a d (w1.alloc (.cells [.string L,.int .i64 M,.int .i64 N,.string O,.int .i64 P,.bool Q].toArray 60))/\bQ (w1.alloc (.cells [.string L,.int .i64 M,.int .i64 N,.string O,.int .i64 P,.bool Q].toArray 60)) a tb gs n sb mb h l):=λw1 x h=>⟨x.size,aV w1 _ _,(sX (vN (jO _ d)) x).alloc _,h.keep (B0.alloc L9 _)⟩;have b7:Hid (∀w1,XJ n mb tb a (d.drew.alloc (.cells [.string ⟨#[]⟩,.int .i64 0,.int .i64 0,.string ⟨#[]⟩,.int .i64 0,.bool false].toArray 60)) w1->Row w1 ↑d 60 ↑()/\XJ n mb tb a d w1):=λw1 x=>⟨bs.xj ba x D9 D9 D9 D9,sX ((vN (jO _ d)).alloc _) x⟩;have bx:Hid (∀w1,Row w1 ↑d 60 ↑()->XJ n mb tb a d w1->bQ w1 a tb gs n sb mb h l->(d:Nat)<=(d:Nat)/\Row (CF w1 ↑d ↑L ↑M ↑N ↑O ↑P (.bool Q)) ↑d 60 [L,M,N,O,P,.bool Q]/\XJ n mb tb a d (CF w1 ↑d ↑L ↑M ↑N ↑O ↑P (.bool Q))/\bQ (CF w1 ↑d ↑L ↑M ↑N ↑O ↑P (.bool Q)) a tb gs n sb mb h l):=λw1 r x h=>⟨L9,r.qK _ _ _ _ _ _,QF x _ _ _ _ _ _ _ O9,h.qK r _ _ _ _ _ _ D9 D9 D9 D9 D9 D9⟩;have cf:=bk d.drew bb;have cj:=bk (d.drew.alloc (.cells ↑() 60)) ba;clear bk bs ba bb;have c0:d.cell? (I,0)=some ↑q:=E.cell 0;have c1:d.cell? (I,1)=some ↑idx:=E.cell 1;have ep:d.cell? (a,0)=some (.pointer tb):=j.c0;have y1:=E.lt;have db:a<(d:Nat):=by obtain⟨tv,A,_⟩:=j.row;exact A.lt
   go_cut [8] (λs bm=>∃B,s=.pointer (some ⟨B,0,none⟩)/\(d:Nat)<=B/\Row bm B 60 [L,M,N,O,P,.bool Q]/\XJ n mb tb a d bm/\bQ bm a tb gs n sb mb h l);case first=>
    go_region_law (first|(refine iA 122 rfl _ _ rfl #[.pointer tb,.agg #[q,idx]] E9 _ cf (bd.out _ _) ?_;rintro a6 w1 ⟨rfl,z,H⟩)|(refine iA 122 rfl _ _ rfl #[.pointer tb,.agg #[q,idx]] E9 _ cj (bd.out _ _) ?_;rintro a6 w1 ⟨rfl,z,H⟩;obtain⟨RB,e5⟩:=b7.out w1 H;have dj:=RB.cell 0;have dk:=RB.cell 1;have dm:=RB.cell 2;have dn:=RB.cell 3;have dp:=RB.cell 4;have dq:=RB.cell 5;simp only[nR,pg]at dj dk dm dn dp dq;have f0:=RB.frozen 0;have f1:=RB.frozen 1;have f2:=RB.frozen 2;have fe:=RB.frozen 3;have ff:=RB.frozen 4;have fg:=RB.frozen 5));all_goals go_wp2_with fail
    all_goals go_meet
    all_goals first
     |exact⟨_,rfl,bu.out w1 H z⟩
     |exact⟨_,rfl,bx.out w1 RB e5 z⟩
   case rest=>obtain⟨B,rfl,fh,R,H,z⟩:=hcut;replace f:=f.xj j H D9 D9 D9 D9;replace E:=E.xj j H D9 D9 D9 D9;replace m:=m.xj j H D9 D9 D9 D9;replace y:=y.xj j H D9 D9 D9 D9;have bp:XJ n mb tb a w wc:=sX bo H;clear cf cj bu bx b7 c0 c1 ep y1 db H bo j bd cm;cases J:b.K (q,idx)with
    |none=>
      replace F:=F.out;rw[J]at F;simp only[qE,QD,Pn,Po,yr,Pp,Pq,Pr,wP,sf]at F;obtain⟨rfl,rfl,rfl,rfl,rfl,rfl⟩:=F;have ak:nP id h x.ins 0 s=(15,sp,b):=by have:=C.out.same;rw[V.out,ar.out,AO (x:=⟨q,idx,p⟩) J]at this;exact this
      have T:Hid (fS x h s=(15,b)):=by have:=ab.out;rw[ak]at this;exact this
      have cq:l=b:=by rw[<-ae.out,J,Tg J];rfl
      rw[cq]at z;clear ak J cq;have t5:wc.cell? (B,5)=some ↑aF:=R.cell 5;go_wp2_with fail;go_ret;exact⟨by rw[T.out];rfl,by rw[T.out];exact z,bp⟩
    |some cn=>
      obtain⟨a4,n2,μ,D,a5⟩:=cn;replace F:=F.out;rw[J]at F;simp only[qE,kO.v,Pn,Po,yr,Pp,Pq,Pr,wP,sf]at F;obtain⟨rfl,rfl,rfl,rfl,rfl,rfl⟩:=F;have b8:=aJ (C.out.next (i:=⟨q,idx,p⟩) (by exact ar.out) J);rw[V.out]at b8;have cw:=C.out.ok _ _ J;simp only at cw;have ee:=C.out.sp0;have ef:=C.out.sp1;have cr:Hid ({l with cC:=l.cC++[⟨p,D,id,h⟩]}=FD id h ⟨q,idx,p⟩ ⟨a4,n2,μ,D,a5⟩ b):=by unfold Hid;rw[<-ae.out,J];rfl
      have ei:l.cC.length<=100000:=by rw[<-ae.out];have:=C.out.cC;show b.cC.length<=_;omega
      clear J;obtain⟨tv,A,ag⟩:=z.row;obtain⟨ta,ai,rfl⟩:=bH ag;obtain⟨gd,cd,ek,en,eo⟩:=info_parts QJ;have bq:=aV wc.drew [p,D,id,h] 298;have br:(wc.drew.alloc (.cells [.string p,.string D,.string id,.int .i64 h].toArray 298)).ownsRow (tb+1) 298 4 (.slice ta l.cC.length ai) l.cC.length (bA l.cC):=qc (QG ag) _;have B1:tb+1<=(wc.drew.alloc (.cells [.string p,.string D,.string id,.int .i64 h].toArray 298)).heap.size:=by rw[bB];obtain⟨v,tr⟩:=z.rB;have:=tr.row.lt;show _<=(wc:Nat)+1;omega
      have bz:∀u∈[Value.string p,↑D,↑id,↑h],u.oneCell'=true:=by intro u cv;simp only[gA,kF,kG]at cv;obtain rfl|rfl|rfl|rfl:=cv<;>rfl
      have fin:Hid (∀(v1:Value) (w1:World),(wc.drew.alloc (.cells [.string p,.string D,.string id,.int .i64 h].toArray 298)).grownBy w1 (Value.slice ta l.cC.length ai).ownBlock->w1.ownsRow (tb+1) 298 4 v1 (l.cC.length+1) (bA l.cC++[.string p,.string D,.string id,.int .i64 h])->(Row w1 a 266 [ptr tb,h,↑l.iU,.slice ta l.cC.length ai]/\Row w1 ↑w 169 [id,.slice gi li ci,.slice g lo c]/\Row w1 I 139 [q,idx,p]/\Row w1 B 60 [a4,n2,μ,D,a5,aD])/\
       bQ (w1.setCell (a,3) v1) a tb gs n sb mb h (FD id h ⟨q,idx,p⟩ ⟨a4,n2,μ,D,a5⟩ b)/\Row (w1.setCell (a,3) v1) ↑w 169 [id,.slice gi li ci,.slice g lo c]/\Row (w1.setCell (a,3) v1) g 86 (lS x.outs)/\Row (w1.setCell (a,3) v1) gi 139 (mN x.ins)/\XJ n mb tb a w (w1.setCell (a,3) v1)/\Row (w1.setCell (a,3) v1) I 139 [q,idx,p]/\Row (w1.setCell (a,3) v1) B 60 [a4,n2,μ,D,a5,aD]):=λv1 w1 dz ec=>by
       obtain⟨Y,ah,av,S⟩:=bQ.push (t:=⟨p,D,id,h⟩) z A ag dz ec;rw[cr.out]at av;exact⟨⟨Y,f.xj z ah D9 D9 D9 D9,E.xj z ah D9 D9 D9 D9,R.xj z ah D9 D9 D9 D9⟩,av,f.xj z S D9 D9 D9 D9,m.xj z S D9 D9 D9 D9,y.xj z S D9 D9 D9 D9,sX bp S,E.xj z S D9 D9 D9 D9,R.xj z S D9 D9 D9 D9⟩
      have t5:wc.cell? (B,5)=some ↑aD:=R.cell 5;have t2:wc.cell? (B,2)=some ↑μ:=R.cell 2;have t3:wc.cell? (B,3)=some ↑D:=R.cell 3;have c8:wc.cell? (I,2)=some ↑p:=E.cell 2;have di:wc.cell? ((w:Nat),0)=some ↑id:=f.cell 0;have et:wc.cell? (a,1)=some ↑h:=A.cell 1;have eu:wc.cell? (a,3)=some (.slice ta l.cC.length ai):=A.cell 3;have fa:B≠a:=R.ne A D9;have fb:I≠a:=E.ne A D9;have fc:(w:Nat)≠a:=f.ne A D9;have y1:=R.lt;have db:=E.lt;have gp:=f.lt;have gq:=A.lt;have fy:-9223372036854775808<=sp+μ/\sp+μ<9223372036854775808:=O9;clear A ag f E R m y z bp cr C cw ee ef;go_wp2_with fail;refine po 20 (λW=>W.cell? (a,3)=some (.slice ta l.cC.length ai)/\W.cell? (a,1)=some ↑h/\W.cell? ((w:Nat),0)=some ↑id/\W.cell? (I,2)=some ↑p/\W.cell? (B,3)=some ↑D) K8 ?_;have hS:(λW:World=>W.cell? (a,3)=some (.slice ta l.cC.length ai)/\W.cell? (a,1)=some ↑h/\W.cell? ((w:Nat),0)=some ↑id/\W.cell? (I,2)=some ↑p/\W.cell? (B,3)=some ↑D) wc.drew:=⟨eu,et,di,c8,t3⟩;refine cA 0 hS ?_;simp only[Act.put,bE];refine cA 1 hS ?_;simp only[Act.put,bE];refine cA 2 hS ?_;simp only[Act.put,bE];refine cA 3 hS ?_;simp only[Act.put,bE];refine cA 4 hS ?_;simp only[Act.put,bE];refine cA 5 hS ?_;simp only[Act.put,bE];refine cA 6 hS ?_;simp only[Act.put,bE];refine cA 7 hS ?_;simp only[Act.put,bE];refine cA 8 hS ?_;simp only[Act.put,bE];refine cA 9 hS ?_;simp only[Act.put,bE];refine cA 10 hS ?_;simp only[Act.put,bE];refine cA 11 hS ?_;simp only[Act.put,bE];refine cA 12 hS ?_;simp only[Act.put,bE];refine cA 13 hS ?_;simp only[Act.put,bE];refine cA 14 hS ?_;simp only[Act.put,bE];refine cA 15 hS ?_;simp only[Act.put,bE];refine lI 16 K8 rfl (λK hK=>?_);go_simp;have hA:Below wc wc (wc.drew.alloc (.cells [.string p,.string D,.string id,.int .i64 h].toArray 298)):=(bW B0).alloc L9 _;refine hK.out _ _ (λ_=>⟨aW hA eu,aW hA et,aW hA di,aW hA c8,aW hA t3⟩) ?_;clear hK K hS;try simp only[Act.put,bE]
      refine lI 17 K8 rfl (λK hK=>?_);refine nu aI.underlying126 cd ek en eo rfl D9 D9 (tb+1) rfl _ _ rfl (.slice ta l.cC.length ai) l.cC.length (bA l.cC) E9 br 1 [p,D,id,h] rfl (wc:Nat) 1 E9 bq bz O9 ei B1 ?_;intro v1 w1 ca π l1;obtain⟨gj,gg,ej⟩:=cO ca l.cC.length rfl;subst ej;obtain⟨⟨Y,ah,av,S⟩,cx,cy,e0,e1,e2,c7,cz⟩:=fin.out _ _ π ca;have e7:w1.cell? (a,3)=some (.slice ta l.cC.length ai):=Y.cell 3;have e8:=Y.frozen 3;have e9:=Y.lt;have dc:w1.cell? (a,1)=some ↑h:=Y.cell 1;have dd:w1.cell? ((w:Nat),0)=some ↑id:=ah.cell 0;have de:w1.cell? (I,2)=some ↑p:=av.cell 2;have dh:w1.cell? (B,3)=some ↑D:=S.cell 3;refine hK.out _ _ (λ_=>⟨e7,dc,dd,de,dh⟩) ?_;clear hK K hA;have hS:(λW:World=>W.cell? (a,3)=some (.slice ta l.cC.length ai)/\W.cell? (a,1)=some ↑h/\W.cell? ((w:Nat),0)=some ↑id/\W.cell? (I,2)=some ↑p/\W.cell? (B,3)=some ↑D) w1:=⟨e7,dc,dd,de,dh⟩;show jZ _ _ _ _ _ _ _ _ (Act.put _ (some 48) _) _;simp only[Act.put,bE];refine lI 18 K8 rfl (λK hK=>?_);go_simp;refine hK.out _ _ (λ_=>hS) ?_;clear hK K;try simp only[Act.put,bE]
      refine cA 19 hS ?_;simp only[Act.put,bE];refine lI 20 K8 rfl (λK hK=>?_);go_simp;refine hK.out _ _ (λh=>absurd rfl h) ?_;clear hK K hS;refine Dc K8 ?_ _;all_goals clear Y ah av S c7 cz e7 e8 e9 dc dd de dh t5 t2 t3 c8 di et eu bq br B1 bz fin cd
      all_goals go_wp2_with fail
      all_goals go_roundw
      all_goals first
       |exact⟨k+1,sp+μ,_,O9,by go_num,rfl,b8.out,cx,cy,e0,e1,e2⟩
       |(simp[intOf];omega)
  .have eb:k=li:=O9;subst eb;have ak:nP id h x.ins 0 s=(0,sp,b):=by have:=C.same;rw[V,Pg O9]at this;exact this
   have bf:=C.iU;have fs:=C.sp0;have ft:=C.sp1;have fv:=C.steps;rw[ak]at ab;simp only[wV,Jg,wT]at ab;clear ak C;have ez:wr.cell? ((w:Nat),2)=some (.slice g lo c):=f.cell 2;replace af:=aJ af;replace a3:=aJ a3;replace V:=aJ V;replace a2:=aJ a2;go_wp2_with fail;refine(cu.out wr ⟨g,c,by rw[af.out],m⟩).mono ?_;rintro e w1 ⟨rfl,ao⟩;replace j:=j.keep ao;replace f:=f.keep ao f.lt;replace m:=m.keep ao m.lt;have da:XJ n mb tb a w w1:=QC a7 ao;clear a7 ao ez y;by_cases cB:sp<G
   .have T:Hid (fS x h s=(16,b)):=by have:=ab.out;rw[bM cB]at this;exact this
    go_wp2_with fail;go_ret;exact⟨by rw[T.out];rfl,by rw[T.out];exact j,da⟩
   .have T:Hid (fS x h s=eW x h {b with iU:=b.iU+(sp -G)}):=by have:=ab.out;rw[aX cB]at this;exact this
    obtain⟨tv,A,ag⟩:=j.row;have gk:w1.cell? (a,2)=some ↑b.iU:=A.cell 2;have f2:=A.frozen 2;have ew:(w:Nat)≠a:=f.ne A D9;have b4:=aJ (j.fee (b.iU+(sp -G)));clear A ag;have ay:=f.aM (a,2) ↑(b.iU+(sp -G)) ew;have a8:Row (w1.setCell (a,2) ↑(b.iU+(sp -G))) g 86 (lS x.outs):=m.aM (a,2) _ (by obtain⟨tv,A,_⟩:=j.row;exact m.ne A D9);have fz:-9223372036854775808<=sp -G/\sp -G<9223372036854775808:=O9;have ga:-9223372036854775808<=b.iU+(sp -G)/\b.iU+(sp -G)<9223372036854775808:=by rw[bf];omega
    replace bf:=aJ bf;have t0:(w1.setCell (a,2) ↑(b.iU+(sp -G))).cell? ((w:Nat),0)=some ↑id:=ay.cell 0;have t1:(w1.setCell (a,2) ↑(b.iU+(sp -G))).cell? ((w:Nat),1)=some (.slice gi k ci):=ay.cell 1;have t2:(w1.setCell (a,2) ↑(b.iU+(sp -G))).cell? ((w:Nat),2)=some (.slice g lo c):=ay.cell 2;have gl:w1.cell? ((w:Nat),0)=some ↑id:=f.cell 0;have gm:w1.cell? ((w:Nat),1)=some (.slice gi k ci):=f.cell 1;have c8:w1.cell? ((w:Nat),2)=some (.slice g lo c):=f.cell 2;replace a8:=aJ a8;clear ay f m j;go_wp2_with fail;refine(cb.out _ {b with iU:=b.iU+(sp -G)} gi k ci b4.out.1 (by show b.steps.length+8<=_;omega) ⟨g,c,by rw[af.out],a8.out⟩).mono ?_;rintro e w2 ⟨rfl,dv,e6⟩;go_wp2_with fail;go_ret;exact⟨by rw[T.out];rfl,by rw[T.out];exact dv,sX (sX da b4.out.2) e6⟩
def LD:=@cell_regrown
def cH.v(t:cH):Value:=.agg #[.string t.key,.string t.lock,.string t.id,.int .i64 t.cB]
def bytes_beq(a b:ByteArray):(a.toList==b.toList)=decide (a=b):=by
 by_cases h:a=b;.simp_all
 .rw[lF h];rw[Pj];intro e;apply h;rw[ByteArray.toList_eq,ByteArray.toList_eq]at e;obtain⟨⟨x⟩⟩:=a;simp only at e;rw[e]
def nL{a b:ByteArray}(h:a≠b):a.toList≠b.toList:=by have:=bytes_beq a b;rw[lF h]at this;simpa using this
def XF{a b c a' e f d d'}(h:(⟨a,b,c,d⟩:cH)≠⟨a',e,f,d'⟩):a.toList≠a'.toList\/(a.toList=a'.toList/\b.toList≠e.toList)\/(a.toList=a'.toList/\b.toList=e.toList/\c.toList≠f.toList)\/(a.toList=a'.toList/\b.toList=e.toList/\c.toList=f.toList/\d≠d'):=by
 by_cases g:a=a'
 .subst g;by_cases i:b=e
  .subst i;by_cases j:c=f;.simp_all
   .exact .inr (.inr (.inl ⟨rfl,rfl,nL j⟩))
  .exact .inr (.inl ⟨rfl,nL i⟩)
 .exact .inl (nL g)
def Ti(s t:cH)(w):(binOp .eql 298 s.v t.v).run aI.prog w=.ok (.bool (decide (s=t))) w:=by
 obtain⟨a,b,c,d⟩:=s;obtain⟨a',e,f,d'⟩:=t;unfold cH.v;rw[run_eql_struct];obtain⟨m,l⟩:∃m,10000=m+2:=⟨9998,rfl⟩;rw[l];have k:decide (({key:=a,lock:=b,id:=c,cB:=d}:cH)=⟨a',e,f,d'⟩)=(decide (a=a')&&(decide (b=e)&&(decide (c=f)&&decide (d=d')))):=by rw[Bool.eq_iff_iff];simp
 rw[k];by_cases g:a=a'<;>by_cases h:b=e<;>by_cases i:c=f<;>by_cases j:d=d'<;>simp[go_sem,bytes_beq,g,h,i,j]
def BN:∀l i x,l[i]?=some x->(bA l)[i*4]?=some x.key/\(bA l)[i*4+1]?=some (.string x.lock)/\(bA l)[i*4+2]?=some (.string x.id)/\(bA l)[i*4+3]?=some (.int .i64 x.cB)
 |[],i,x,h=>by simp at h
 |y::l,0,x,h=>by simp at h;subst h;exact⟨rfl,rfl,rfl,rfl⟩
 |y::l,i+1,x,h=>by have:=BN l i x (by simpa using h);have e:bA (y::l)=y.cells++bA l:=rfl;rw[e];simp[show(i+1)*4=4+i*4 from by omega,show 4+i*4+1=4+(i*4+1)from by omega,show 4+i*4+2=4+(i*4+2)from by omega,show 4+i*4+3=4+(i*4+3)from by omega];have a:y.cells.length=4:=rfl;rw[eZ O9,eZ O9,eZ O9,eZ O9];simpa[a]using this
def sY{B}{w:World}{v l k x}(h:w.ownsRow B 298 4 v l.length (bA l))(d:l[k]?=some x):∃g c,v=.slice (some ⟨g,0,none⟩) l.length c/\g<w/\w.cell? ⟨g,k*4,none⟩=some x.key/\w.cell? ⟨g,k*4+1,none⟩=some x.lock/\w.cell? ⟨g,k*4+2,none⟩=some x.id/\w.cell? ⟨g,k*4+3,none⟩=some x.cB:=by
 have n:=(eJ.1 d).1;have a:=λg (b:v.ownBlock=some g)=>h.cells (g:=g) b;obtain⟨_,h0⟩|⟨g,cap,cur,rfl,m,b,_⟩:=h.2;.omega
 .have a:=a g rfl;obtain⟨e,f,i,j⟩:=BN l k x d;refine⟨g,cap,rfl,cE b,?_,?_,?_,?_⟩;.have:=a _ _ e;rwa [add0]at this
  .have:=a _ _ f;rwa [add0]at this
  .have:=a _ _ i;rwa [add0]at this
  .have:=a _ _ j;rwa [add0]at this
def Tj{B}(t v l w)(m:w.ownsRow B 298 4 v l.length (bA l))(R:l.length<=100000):Calls aI.prog 245 #[v,t.v] w λe w'=>(∃z,e=.returned (.int .i64 z)/\decide (0<=z)=decide (t∈l))/\Below w w w':=by
 have heq:=Ti t;obtain⟨Y,π,rfl⟩:=bH m;have S:Hid (∀x∈l,x=t->t∈l):=λx o e=>e▸o;obtain⟨a,b,c,d⟩:=t;simp only[cH.v]at heq|-;have f:=aV w [a,b,c,d] 298;have h:Below w w (w.alloc (.cells #[a,b,c,d] 298)):=B0.alloc L9 _;replace m:=aY m h;go_enter aI.func245,Tryz.ntmps245;go_wp2_with fail;generalize w.alloc (.cells #[a,b,c,d] 298)=X at f h m|-;go_loopw [8] (λi wr=>∃k,k<=l.length/\i=k/\(∀j x,j<k->l[j]?=some x->⟨a,b,c,d⟩≠x)/\Below X X wr) (λi _=>l.length -(intOf i).toNat);case atStart=>exact⟨0,O9,rfl,λj x p=>by omega,B0⟩
 case round=>
  obtain⟨k,Q,rfl,A,n⟩:=hrel;by_cases C:k<l.length
  .have o:=cN C;have q:=wX C;generalize l[k]=x at o q;obtain⟨g,cc,K,P,T,μ,V,W⟩:=sY (aY m n) o;cases K;replace f:=f.keep n f.lt;have r0:wr.cell? ((w:Nat),0)=some a:=f.cell 0;have r1:wr.cell? ((w:Nat),1)=some b:=f.cell 1;have r2:wr.cell? ((w:Nat),2)=some c:=f.cell 2;have r3:wr.cell? ((w:Nat),3)=some d:=f.cell 3;have G:(0:Int)<=(k:Int):=O9;obtain⟨L,M,xc,N⟩:=x;by_cases s:(⟨a,b,c,d⟩:cH)=⟨L,M,xc,N⟩
   .cases s;replace q:=aJ q;go_wp2_with fail;go_region;all_goals go_wp2_with fail
    all_goals go_ret
    all_goals exact⟨⟨(k:Int),rfl,by rw[nQ q.out,nQ G]⟩,bW (h.trans (n.mono h.size))⟩
   .have E:Hid (∀j x,j<k+1->l[j]?=some x->⟨a,b,c,d⟩≠x):=λj x p u=>by
     by_cases e:j=k;.subst e;rw[o]at u;cases u;exact s
     .exact A j x O9 u
    have I:=XF s;obtain r|⟨r,y⟩|⟨r,y,D⟩|⟨r,y,D,O⟩:=I;all_goals go_wp2_with fail
    all_goals go_region
    all_goals go_wp2_with fail
    all_goals go_roundw
    all_goals first
     |exact⟨k+1,O9,by go_num,E.out,bW n⟩
     |(simp[intOf];omega)
  .have F:k=l.length:=O9;subst F;have J:Hid ((⟨a,b,c,d⟩:cH)∉l):=λH=>by obtain⟨j,p,e⟩:=List.getElem_of_mem H;exact A j _ p (cN p) e.symm
   go_wp2_with fail;go_ret;exact⟨⟨-1,rfl,by rw[lF J.out];rfl⟩,h.trans (n.mono h.size)⟩
def IH{B}(t v l w)(f:w.ownsRow B 298 4 v l.length (bA l))(k:l.length<=100000):Calls aI.prog 226 #[v,t.v] w λe w'=>e=.returned (.bool (decide (t∈l)))/\Below w w w':=by
 have hi:∀W,W.ownsRow B 298 4 v l.length (bA l)->Calls aI.prog 245 #[v,t.v] W λe w'=>(∃z:Int,e=.returned z/\decide (0<=z)=decide (t∈l))/\Below (W:Nat) W w':=λW h=>Tj t v l W h k;obtain⟨a,b,c,d⟩:=t;simp[cH.v]at hi|-;have i:=aV w [a,b,c,d] 298;have g:Below w w (w.alloc (.cells #[a,b,c,d] 298)):=B0.alloc L9 _;replace f:=aY f g;go_enter aI.func226,Tryz.ntmps226;go_wp2_with fail;generalize w.alloc (.cells #[a,b,c,d] 298)=X at i g f|-;refine(hi X f).mono ?_;rintro e w1 ⟨⟨z,rfl,m⟩,j⟩;go_wp2_with fail;go_ret;exact⟨rfl,g.trans (j.mono g.size)⟩
def QK{B b o}(t v l w)(j:w.cell? (b,o+1)=some v)(i:w.ownsRow B 298 4 v l.length (bA l))(m:l.length<=100000):Calls aI.prog 217 #[.pointer (some ⟨b,o,none⟩),t.v] w λe w'=>e=.returned (.bool (decide (t∈l)))/\Below w w w':=by
 have hi:∀W,W.ownsRow B 298 4 v l.length (bA l)->Calls aI.prog 226 #[v,t.v] W λe w'=>e=.returned (.bool (decide (t∈l)))/\Below (W:Nat) W w':=λW h=>IH t v l W h m;obtain⟨a,e,c,d⟩:=t;simp[cH.v]at hi|-;have f:=aV w [a,e,c,d] 298;have g:Below w w (w.alloc (.cells #[a,e,c,d] 298)):=B0.alloc L9 _;replace i:=aY i g;replace j:=aW g j;go_enter aI.func217,Tryz.ntmps217;go_wp2_with fail;generalize w.alloc (.cells #[a,e,c,d] 298)=X at f g i j|-;have k0:=LD (show X.cell? ((w:Nat),0)=some a from f.cell 0);have u:=LD (show X.cell? ((w:Nat),1)=some e from f.cell 1);have k2:=LD (show X.cell? ((w:Nat),2)=some c from f.cell 2);have x:=LD (show X.cell? ((w:Nat),3)=some d from f.cell 3);have y:=LD j;have r:=λd os=>Calls.regrown_of (hi (Go.Sort.grow (redrawn X d) os) (aY i (below_regrown X d os)));refine wp_region_quiet_below Em K8 ?_;repeat(go_big_quiet_step (first|(go_at_call 226;exact r _ _)))
 intro _ p;obtain⟨⟨k,q⟩,s⟩:=p;have n:=below_regrown X k q;go_wp2_with fail;go_ret;exact⟨rfl,g.trans (n.mono g.size)⟩
def eI(l ts:List cH):List cH:=ts.filter λt=>!decide (t∈l)
def FE{B w ops rest o a Q}(n:o.guard=none)(s x)(q:o.op=.call {callee:=.builtin .append,args:=#[s,x],argTypes:=#[126,126]})(v l)(t:a.eval s=v)(r:w.ownsRow B 298 4 v l.length (bA l))
 (d g)(y:a.eval x=.slice g 1 1)(m:Row w g 298 d.cells)(hlen:l.length<=1000000)(k:B<=↑w)
 (h:∀b w',w'.ownsRow B 298 4 b (l++[d]).length (bA (l++[d]))->w.grownBy w' v.ownBlock->(b.ownBlock=v.ownBlock\/b.ownBlock=some ↑w)->wpList aI.prog ops Q rest (a.put o.dst b) w'):wpList aI.prog ops Q (o::rest) a w:=by
 obtain⟨D,hi,z,A,C⟩:=info_parts QJ;refine wpList_append_own_at _ n s x 126 q B 298 D _ 4 56 aI.underlying126 hi z A C rfl D9 v l.length (bA l) t r (g,0) 1 1 d.cells y rfl (λj u p=>by rw[add0,m.cell];exact p) ?_ (by unfold maxLen;omega) O9 k ?_;.intro u c;simp[cH.cells]at c;obtain rfl|rfl|rfl|rfl:=c<;>rfl
 .intro b w' e f _ i;refine h b w' ?_ f i;rw[tX,cK];exact e
def LF{B B' b o}(mv tv l a w)(V:w.cell? (b,o+1)=some mv)(T:w.ownsRow B 298 4 mv l.length (bA l))(C:w.ownsRow B' 298 4 tv a.length (bA a))(aa:l.length<=100000)(ak:a.length<=100000):Calls aI.prog 204 #[.pointer (some ⟨b,o,none⟩),tv] w λe w'=>∃N,e=.returned N/\w'.ownsRow w 298 4 N (eI l a).length (bA (eI l a))/\Below w w w':=by
 obtain⟨au,av,rfl⟩:=bH C;go_enter aI.func204,Tryz.ntmps204;go_wp2_with fail;go_loopw [5,10] (λf i wr=>∃k,k<=a.length/\i=k/\wr.ownsRow w 298 4 f (eI l (a.take k)).length (bA (eI l (a.take k)))/\Below w w wr) (λ_ i _=>a.length -(intOf i).toNat);case atStart=>exact⟨0,O9,rfl,iZ _ _ _ _,B0⟩
 case round=>
  rename_i f _ _;obtain⟨k,ah,rfl,d,c⟩:=hrel;by_cases H:k<a.length
  .have A:=cN H;have z:a.take (k+1)=a.take k++[a[k]]:=by rw[uO H]
   have G:(eI l (a.take k)).length<=1000000:=by have:=Uc (λt=>!decide (t∈l)) (a.take k);rw[qd]at this;unfold eI;omega
   generalize a[k]=x at A z;have q:Hid (eI l (a.take (k+1))=eI l (a.take k)++(if decide (x∈l)then[]else[x])):=by unfold Hid eI;rw[z,List.filter_append];congr 1;by_cases ae:x∈l<;>simp[ae]
   obtain⟨g,cc,af,Y,J,K,L,M⟩:=sY (aY C c) A;cases af;obtain⟨s,u,rfl⟩:=bH d;have ai:(0:Int)<=(k:Int):=O9;have aj:(k:Int)<(a.length:Int):=O9;have r:∀W,Below w w W->Calls aI.prog 217 #[.pointer (b,o),x.v] W λe w'=>e=.returned (.bool (decide (x∈l)))/\Below (W:Nat) W w':=λW E=>QK x mv l W (aW E V) (aY T E) aa;clear z A;generalize X:decide (x∈l)=R at q r;clear X;generalize F:eI l (a.take k)=fk at d G q|-;replace F:=aJ F;obtain⟨j,m,xc,n⟩:=x;simp only[cH.v]at J K L M r;have h:=aV wr [j,m,xc,n] 298;have y:Below wr wr (wr.alloc (.cells #[j,m,xc,n] 298)):=B0.alloc L9 _;replace d:=aY d y;replace c:=c.trans (y.mono c.size);go_wp2_with fail;generalize wr.alloc (.cells #[j,m,xc,n] 298)=Q at h d c|-;generalize(wr:Nat)=I at h|-;refine(r Q c).mono ?_;rintro e w1 ⟨rfl,p⟩;replace h:=h.keep p h.lt;replace d:=aY d p;replace c:=c.trans (p.mono c.size);clear p r y J K L M Y;cases R with
   |true=>
     go_wp2_with fail;go_roundw;case rel=>exact⟨k+1,O9,by go_num,by rw[q.out];simpa using d,c⟩
     case measure=>simp[intOf];omega
   |false=>
     have r0:w1.cell? (I,0)=some j:=h.cell 0;have r1:w1.cell? (I,1)=some m:=h.cell 1;have r2:w1.cell? (I,2)=some xc:=h.cell 2;have r3:w1.cell? (I,3)=some n:=h.cell 3;have O:=aV w1 [j,m,xc,n] 298;have P:=qc d (.cells #[j,m,xc,n] 298);have B1:(w:Nat)<=(w1.alloc (.cells #[j,m,xc,n] 298)).heap.size:=by rw[bB];have:=c.size;omega
     have μ:Below w w (w1.alloc (.cells #[j,m,xc,n] 298)):=c.alloc c.size _;have ab:∀k,(Value.slice s fk.length u).ownBlock=some k->(w:Nat)<=k:=λk e=>(cP d e).1;go_wp2_with (refine FE rfl _ _ rfl (.slice s fk.length u) fk E9 P ⟨j,m,xc,n⟩ (w1:Nat) E9 O G B1 ?_;intro v2 w2 D S l2;obtain⟨ar,ao,ag⟩:=cO D fk.length S8;subst ag);go_roundw;case rel=>exact⟨k+1,O9,by go_num,by rw[q.out];exact D,μ.trans (Xt S B1 ab)⟩
     case measure=>simp[intOf];omega
  .have π:k=a.length:=O9;subst π;rw[pN]at d;obtain⟨s,u,rfl⟩:=bH d;go_wp2_with fail;go_ret;exact⟨_,rfl,d,c⟩
def QL:=@World.grownBy.trans
def putAt(cs:List Value):Nat->List Value->List Value
 |_,[]=>cs
 |o,v::r=>putAt (cs.set o v) (o+1) r
def Row.setCells{g t}:∀a o w cs,Row w g t cs->Row (w.setCells g o a) g t (putAt cs o a)
 |[],_,_,_,h=>h
 |v::r,o,w,cs,h=>Row.setCells r (o+1) _ _ (h.set o v)
def abw:=@Row.setCells
def Hl:∀c a old b,old.length=c.length->putAt (a++(old++b)) a.length c=a++(c++b)
 |[],a,old,b,h=>by have:old=[]:=se (by simpa using h);rw[this];rfl
 |v::r,a,[],b,h=>by simp at h
 |v::r,a,o::old,b,h=>by show putAt ((a++(o::old++b)).set a.length v) (a.length+1) r=_;rw[ug _ _ L9];simp;have:=Hl r (a++[v]) old b (by simpa using h);simp at this;rw[this]
def BO(g):∀(a:List Value) (o:Nat) (w:World),w.grownBy (w.setCells g o a) (some g)
 |[],_,w=>aZ w _
 |v::r,o,w=>QL (bO w (g,o) v) (BO g r (o+1) _)
def LG(l):(bA l).length=l.length*4:=by induction l with
 |nil=>rfl
 |cons x l a=>simp only[bA,uR,cK]at*;simp only[cH.cells,fH,jU];omega
def LI(l):∀u∈bA l,u.oneCell'=true:=by intro u b;obtain⟨t,_,a⟩:=List.mem_flatMap.1 b;simp[cH.cells]at a;obtain rfl|rfl|rfl|rfl:=a<;>rfl
def Tm{B w g n cap b}(h:w.ownsRow B 298 4 (.slice g n cap) n b):∃sp,Row w g 298 (b++sp)/\B<=g/\n<=cap/\cap<=maxLen/\(b++sp).length=cap*4:=by
 obtain⟨a,_⟩|⟨g',j,cur,a,f,i,c,d,k,e⟩:=h.2;.cases a
 .cases a;refine⟨cur.toList.drop (n*4),?_,f,c,d,?_⟩;.rw[<-e,Uq];unfold Row;rw[i]
  .grind
def aak{B w g n cap a sp}(h:Row w g 298 (a++sp))(f:B<=g)(c:n<=cap)(d:cap<=maxLen)(e:(a++sp).length=cap*4)(b:a.length=n*4):w.ownsRow B 298 4 (.slice g n cap) n a:=⟨b,.inr ⟨g,cap,(a++sp).toArray,rfl,f,h,c,d,by simpa using e,by rw[<-b];simp⟩⟩
def uC:List Value:=[↑aB,↑aB,↑aB,↑aA]
def acT(w):(zeroValue 298).run aI.prog w=.ok (.agg #[aB,aB,aB,aA]) w:=aI.zeroValue298 w
def EP(w ty g k c a old sp)(d:Row w g 298 (a++(old++sp)))(j:a.length=k)(p:old.length=4):∃w',(Builtin.clear_ #[126] ty #[.slice (g,k) 1 c]).run aI.prog w=.ok (.tuple #[]) w'/\Row w' g 298 (a++(uC++sp))/\w.grownBy w' (some g):=by
 have q:=aI.underlying126;have n:Builtin.zeroCells (Value.agg #[aB,aB,aB,aA]).cells 1=uC.toArray:=K8;have b:=run_storeCells_at (P:=aI.prog) g k 298 uC 0 (a++(old++sp)).toArray w d (by simp[uC];omega) (by intro v f;simp[uC]at f;obtain rfl|rfl|rfl|rfl:=f<;>rfl);have m:(Builtin.clear_ #[126] ty #[.slice (g,k) 1 c]).run aI.prog w=.ok (.tuple #[]) (w.setRow g (a++(uC++sp)).toArray):=by
  simp only[FJ]at b;have e:((a++(old++sp)).toArray.toList.take k++uC++(a++(old++sp)).toArray.toList.drop (k+uC.length))=a++(uC++sp):=by
   subst j;have o:uC.length=4:=rfl;have h:(a++(old++sp)).drop (a.length+4)=sp:=by simp_all
   rw[o,h,List.take_left,kH]
  rw[e]at b;simp[Builtin.clear_,n,b]
 refine⟨_,m,?_,?_⟩;.unfold Row;rw[setRow_heap w g _ _ _ _ d]
 .refine⟨rfl,rfl,rfl,by simp[World.setRow],λi hi l=>setRow_other _ _ _ _ (λe=>l (by rw[e]))⟩
def Oo{B g cap}(t r w)(s:w.ownsRow B 298 4 (.slice g (t::r).length cap) (t::r).length (bA (t::r)))(L:r.length<=1000):Calls aI.prog 223 #[.slice (some ⟨g,0,none⟩) (t::r).length cap,aA,aG] w λe w'=>e=.returned (.slice g r.length cap)/\w'.ownsRow B 298 4 (.slice g r.length cap) r.length (bA r)/\w.grownBy w' (some g):=by
 obtain⟨sp,a,E,n,D,f⟩:=Tm s;obtain⟨C,h,M,A,N⟩:=info_parts QJ;have z:bA (t::r)=t.cells++bA r:=rfl;rw[z]at a f;have i:=LG r;have y:=LI r;have q:(t.cells++bA r).length=(bA r).length+4:=by simp only[cK];show 4+_=_;omega
 have I:∃old,old.length=4/\putAt (t.cells++bA r++sp) 0 (bA r)=bA r++(old++sp):=by refine⟨(t.cells++bA r).drop (bA r).length,by rw[CQ];omega,?_⟩;have:=Hl (bA r) [] ((t.cells++bA r).take (bA r).length) ((t.cells++bA r).drop (bA r).length++sp) (by rw[qd];omega);simp only[CM,jU]at this;rw[<-kH,Uq]at this;rw[this]
 obtain⟨old,x,p⟩:=I;simp only[fH]at n f|-;have o:∀j u,(bA r)[j]?=some u->w.drew.cell? (((g,4):Addr).add j)=some u:=λj u b=>by
  have e:((g,4):Addr).add j=(g,4+j):=by unfold Addr.add;split<;>simp_all
  rw[e];have:=(pQ a).cell (4+j);rw[this,kH,eZ (by show 4<=_;omega)];show(bA r++sp)[4+j -4]?=_;rw[show 4+j -4=j from by omega,pK (eJ.1 b).1];exact b
 have k:∀j,j<(bA r).length->(w.drew.cell? (g,0+0*4+j)).isSome=true/\w.drew.frozen? (g,0+0*4+j)=false:=λj b=>by refine⟨?_,(pQ a).frozen _⟩;rw[(pQ a).cell,cN (by simp only[cK]at q|-;omega)];rfl
 have c:Row (w.drew.setCells g (0+0*4) (bA r)) g 298 (bA r++(old++sp)):=by have:=abw (bA r) 0 w.drew _ (pQ a);rw[p]at this;exact this
 have d:w.grownBy (w.drew.setCells g (0+0*4) (bA r)) (some g):=QL (fA (aZ w _)) (BO g (bA r) _ w.drew);have K:r.length+1<=cap:=n;have fin:Hid (∀w',Row w' g 298 (bA r++(uC++sp))->w'.ownsRow B 298 4 (.slice g r.length cap) r.length (bA r)):=λw' J=>aak J E O9 D (by simp only[cK]at f q|-;rw[show uC.length=4 from rfl];omega) i;have O:(1:Int)<=(r.length:Int)+1:=O9;have P:(r.length:Int)+1<=(cap:Int):=O9;have Q:(0:Int)<=(r.length:Int):=O9;have R:(r.length:Int)<=(r.length:Int)+1:=O9;replace p:=aJ p;clear s a z f q n;by_cases F:cap=1
 .have H:r=[]:=se O9;subst F H;have v:∀j u,(bA [])[j]?=some u->w.drew.cell? (((g,0):Addr).add j)=some u:=λj u b=>by simp[bA]at b
  clear o;go_enter aI.func223,Tryz.ntmps223;go_wp2_with fail;go_region_law (refine step_append_room rfl _ _ 126 rfl 298 C 4 aI.underlying126 h A g 0 0 1 (by simp[Act.eval,Act.put]) (g,0) 0 0 (bA []) (by simp[Act.eval,Act.put]) i v y O9 k ?_);all_goals generalize w.drew.setCells g (0+0*4) (bA [])=W at c d|-
  all_goals clear v k h
  all_goals obtain⟨w2,G,l,m⟩:=EP W 0 g 0 1 (bA []) old sp c rfl x
  all_goals go_wp2_with fail
  all_goals go_ret
  all_goals exact⟨rfl,fin.out w2 l,QL d m⟩
 .go_enter aI.func223,Tryz.ntmps223;go_wp2_with fail;go_region_law (refine step_append_room rfl _ _ 126 rfl 298 C 4 aI.underlying126 h A g 0 0 cap (by simp[Act.eval,Act.put]) (g,4) r.length (cap -1) (bA r) (by simp[Act.eval,Act.put]) i o y O9 k ?_);all_goals generalize w.drew.setCells g (0+0*4) (bA r)=W at c d|-
  all_goals clear o k h
  all_goals obtain⟨w2,G,l,m⟩:=EP W 0 g (r.length*4) (cap -r.length) (bA r) old sp c i x
  all_goals go_wp2_with fail
  all_goals go_ret
  all_goals exact⟨rfl,fin.out w2 l,QL d m⟩
def rC(most:Nat)(t:cH)(l:List cH):List cH:=if t∈l then l else if most<(l++[t]).length then(l++[t]).drop 1 else l++[t]
structure iV(w:World)(nb B:Nat)(cs:List Value)(most:Nat)(mv:Value)(l:List cH):Prop where
 row:Row w nb 130 cs
 TX:cs[14]?=some (.int .i64 most)
 IZ:cs[15]?=some mv
 own:w.ownsRow B 298 4 mv l.length (bA l)
 base:B<=w.heap.size
def iV.keep{w w' nb B cs b mv l}(h:iV w nb B cs b mv l)(a:Below w w w'):iV w' nb B cs b mv l:=⟨h.row.keep a h.row.lt,h.TX,h.IZ,aY h.own a,bT h.base a.size⟩
def MF(nb:Nat)(mv:Value)(k:Nat):Prop:=k=nb\/mv.ownBlock=some k
def Hm(cs:List Value)(a b):(cs.set 15 a).set 15 b=cs.set 15 b:=by simp
def tY{cs:List Value}{a}(h:cs[15]?=some a):cs.set 15 a=cs:=by
 apply qf;intro i;by_cases e:i=15;.grind
 .grind
def iV.push{a w1 nb B cs f mv v1 l t o}(h:iV a nb B cs f mv l)(d:(a.drew.alloc o).grownBy w1 mv.ownBlock)(m:w1.ownsRow B 298 4 v1 (l.length+1) (bA l++t.cells))(j:v1.ownBlock=mv.ownBlock\/v1.ownBlock=some ↑(a.drew.alloc o)):Row w1 nb 130 cs/\iV (w1.setCell (nb,15) v1) nb B (cs.set 15 v1) f v1 (l++[t])/\Xc (MF nb mv) a (w1.setCell (nb,15) v1)/\(∀k,v1.ownBlock=some k->mv.ownBlock=some k\/a<=k):=by
 have b:Below a a (a.drew.alloc o):=(bW B0).alloc L9 _;have r0:=h.row.keep b h.row.lt;have n:=aY h.own b;have r1:Row w1 nb 130 cs:=(d.block nb r0.lt (λc=>dZ n r0 D9 c.symm)).trans r0;have g:Xc (MF nb mv) a w1:=(jB b).grown d (λk e _=>.inr e);refine⟨r1,⟨r1.set 15 v1,?_,?_,?_,?_⟩,g.setCell (nb,15) v1 (λ_=>.inl rfl),?_⟩;.rw[uh D9];exact h.TX
 .rw[aa5 (eJ.1 h.IZ).1]
 .rw[tX,cK];exact bJ m r1 D9
 .have:=(g.setCell (nb,15) v1 (λ_=>.inl rfl)).size;have:=h.base;omega
 .intro k i;obtain e|e:=j;.simp_all
  .rw[i]at e;have:=kX e;rw[bB]at this;have p:a.drew.heap.size=(a:Nat):=rfl;omega
def XG{nb B most cs mv l}(t w)(h:iV w nb B cs most mv l)(hl:l.length<=500)(hm:most<=1000):Calls aI.prog 206 #[.pointer (nb,14),t.v] w λe w'=>e=.returned (.tuple #[])/\∃uB,iV w' nb B (cs.set 15 uB) most uB (rC most t l)/\Xc (MF nb mv) w w'/\∀k,uB.ownBlock=some k->mv.ownBlock=some k\/w<=k:=by
 have hhs:∀W,iV W nb B cs most mv l->Calls aI.prog 217 #[.pointer (nb,14),t.v] W λe w'=>e=.returned (.bool (decide (t∈l)))/\Below (W:Nat) W w':=λW hW=>QK (b:=nb) (o:=14) t mv l W (by rw[hW.row.cell];exact hW.IZ) hW.own O9;have hno:Hid (rC most t l=if t∈l then l else if most<(l++[t]).length then(l++[t]).drop 1 else l++[t]):=rfl;obtain⟨va,vc,rfl⟩:=bH h.own;have R0:=aV w t.cells 298;have hb0:Below w w (w.alloc (.cells t.cells.toArray 298)):=B0.alloc L9 _;replace h:=h.keep hb0;have hcl:Hid (∀l':List cH,bA l'++t.cells=bA l'++t.cells):=λ_=>rfl;by_cases hin:t∈l
 .have hn1:Hid (rC most t l=l):=by have:=hno.out;rw[bM hin]at this;exact this
  rw[nQ hin]at hhs;replace hin:=aJ hin;obtain⟨ta,Ff,tc,td⟩:=t;simp only[cH.v,cH.cells]at hhs R0 hb0 h|-;go_enter aI.func206,Tryz.ntmps206;go_wp2_with fail;generalize w.alloc (.cells #[ta,Ff,tc,td] 298)=X at R0 hb0 h|-;refine(hhs X h).mono ?_;rintro e w1 ⟨rfl,hb1⟩;replace h:=h.keep hb1;go_wp2_with fail;refine nC (Pm rfl _ _ _) rfl ?_;refine⟨rfl,_,?_,jB (hb0.trans (hb1.mono hb0.size)),λk e=>.inl e⟩;rw[hn1.out,tY h.IZ];exact h
 .rw[lF hin]at hhs;obtain⟨ta,Ff,tc,td⟩:=t;simp only[cH.v,cH.cells]at hhs R0 hb0 h|-;have hn1:Hid (rC most ⟨ta,Ff,tc,td⟩ l=if most<(l++[(⟨ta,Ff,tc,td⟩:cH)]).length then(l++[(⟨ta,Ff,tc,td⟩:cH)]).drop 1 else l++[⟨ta,Ff,tc,td⟩]):=by have:=hno.out;rw[aX hin]at this;exact this
  clear hno hin hcl;go_enter aI.func206,Tryz.ntmps206;go_wp2_with fail;generalize w.alloc (.cells #[ta,Ff,tc,td] 298)=X at R0 hb0 h|-;refine(hhs X h).mono ?_;rintro e w1 ⟨rfl,hb1⟩;replace h:=h.keep hb1;replace R0:=R0.keep hb1 R0.lt;replace hb0:=hb0.trans (hb1.mono hb0.size);clear hb1 hhs;go_wp2_with fail;obtain⟨i1,hi1,aev,aew,aex⟩:=info_parts QJ;have N1:=aV w1.drew [ta,Ff,tc,td] 298;have O2:(w1.drew.alloc (.cells [.string ta,.string Ff,.string tc,.int .i64 td].toArray 298)).ownsRow B 298 4 (.slice va l.length vc) l.length (bA l):=qc (QG h.own) _;have B1:B<=(w1.drew.alloc (.cells [.string ta,.string Ff,.string tc,.int .i64 td].toArray 298)).heap.size:=by rw[bB];have:=h.base;show _<=(w1:Nat)+1;omega
  have h1c:∀u∈[Value.string ta,↑Ff,↑tc,↑td],u.oneCell'=true:=by intro u hu;simp only[gA,kF,kG]at hu;obtain rfl|rfl|rfl|rfl:=hu<;>rfl
  have fin:Hid (∀(v2:Value) (w2:World),(w1.drew.alloc (.cells [.string ta,.string Ff,.string tc,.int .i64 td].toArray 298)).grownBy w2 (Value.slice va l.length vc).ownBlock->w2.ownsRow B 298 4 v2 (l.length+1) (bA l++[.string ta,.string Ff,.string tc,.int .i64 td])->(v2.ownBlock=(Value.slice va l.length vc).ownBlock\/v2.ownBlock=some ↑(w1.drew.alloc (.cells [.string ta,.string Ff,.string tc,.int .i64 td].toArray 298)))->Row w2 nb 130 cs/\iV (w2.setCell (nb,15) v2) nb B (cs.set 15 v2) most v2 (l++[⟨ta,Ff,tc,td⟩])/\Xc (MF nb (.slice va l.length vc)) w1 (w2.setCell (nb,15) v2)/\(∀k,v2.ownBlock=some k->(Value.slice va l.length vc).ownBlock=some k\/(w1:Nat)<=k)):=λv2 w2 hg ho hw=>iV.push (t:=⟨ta,Ff,tc,td⟩) h hg ho hw
  have c0:w1.cell? ((w:Nat),0)=some ↑ta:=R0.cell 0;have c1:w1.cell? ((w:Nat),1)=some ↑Ff:=R0.cell 1;have c2:w1.cell? ((w:Nat),2)=some ↑tc:=R0.cell 2;have c3:w1.cell? ((w:Nat),3)=some ↑td:=R0.cell 3;have n15:w1.cell? (nb,15)=some (.slice va l.length vc):=by rw[h.row.cell];exact h.IZ
  have y1:=R0.lt;have y2:=h.row.lt;go_cut [] (λwx=>∃v2,iV wx nb B (cs.set 15 v2) most v2 (l++[⟨ta,Ff,tc,td⟩])/\Xc (MF nb (.slice va l.length vc)) w1 wx/\(∀k,v2.ownBlock=some k->(Value.slice va l.length vc).ownBlock=some k\/(w1:Nat)<=k));case first=>
   go_region_law (refine nu aI.underlying126 hi1 aev aew aex rfl D9 D9 B rfl _ _ rfl (.slice va l.length vc) l.length (bA l) E9 O2 1 [ta,Ff,tc,td] rfl (w1:Nat) 1 E9 N1 h1c O9 O9 B1 ?_;intro v2 w2 hT2 g2 l2;obtain⟨ig,ic,hv2⟩:=cO hT2 l.length rfl;subst hv2;obtain⟨q1,q2,q3,q4⟩:=fin.out _ _ g2 hT2 l2;have z1:w2.cell? (nb,15)=some (.slice va l.length vc):=(by rw[q1.cell];exact h.IZ);have z2:=q1.frozen 15;have z3:=q1.lt);all_goals go_wp2_with fail
   all_goals go_meet
   all_goals exact⟨_,q2,q3,q4⟩
  case rest=>
   obtain⟨v2,hM,x2,hv2⟩:=hcut;clear fin N1 O2 B1 h1c c0 c1 c2 c3 n15 y1 y2 hi1 R0;have xw:Xc (MF nb (.slice va l.length vc)) w wc:=(jB hb0).trans x2 (λ_ _ e=>e);have hvw:Hid (∀k,v2.ownBlock=some k->(Value.slice va l.length vc).ownBlock=some k\/(w:Nat)<=k):=λk e=>(hv2 k e).imp id (λq=>bT hb0.size q);clear x2 hv2 hb0 h;obtain⟨t0,r,hLr⟩:∃t0 r,l++[(⟨ta,Ff,tc,td⟩:cH)]=t0::r:=by cases l with
    |nil=>exact⟨_,_,rfl⟩
    |cons x l=>exact⟨_,_,rfl⟩
   have hrl:r.length=l.length:=by have:=congrArg List.length hLr;simp at this;omega
   rw[hLr]at hM hn1;replace hLr:=aJ hLr;obtain⟨g,cap,hv⟩:=cO hM.own r.length S8;subst hv;have n14:wc.cell? (nb,14)=some ↑most:=by rw[hM.row.cell];exact hM.TX
   have n15:wc.cell? (nb,15)=some (.slice g (r.length+1) cap):=by rw[hM.row.cell];exact hM.IZ
   have hdl:Hid (∀W,W.ownsRow B 298 4 (.slice g (r.length+1) cap) (t0::r).length (bA (t0::r))->Calls aI.prog 223 #[.slice g (r.length+1) cap,aA,aG] W λe w'=>e=.returned (.slice g r.length cap)/\w'.ownsRow B 298 4 (.slice g r.length cap) r.length (bA r)/\W.grownBy w' (some g)):=λW hW=>Oo t0 r W hW O9;replace hrl:=aJ hrl;by_cases cB:most<r.length+1
   .have hn2:Hid (rC most ⟨ta,Ff,tc,td⟩ l=r):=by have:=hn1.out;rw[bM (show most<(t0::r).length from cB)]at this;exact this
    have hgi:(most:Int)<(r.length:Int)+1:=O9;go_wp2_with fail;go_region;all_goals go_wp2_with fail
    all_goals refine(hdl.out _ (by exact hM.own)).mono ?_
    all_goals rintro e w3 ⟨rfl,hO3,g3⟩
    all_goals(have hne:g≠nb:=λe=>dZ hM.own hM.row D9 (by rw[e];rfl))
    all_goals(have R3:Row w3 nb 130 (cs.set 15 (.slice g (r.length+1) cap)):=(g3.block nb hM.row.lt (λc=>hne (kX c).symm)).trans hM.row)
    all_goals(have m15:w3.cell? (nb,15)=some (.slice g (r.length+1) cap):=by rw[R3.cell];exact hM.IZ)
    all_goals(have f15:=R3.frozen 15)
    all_goals(have ZA:Hid (iV (w3.setCell (nb,15) (.slice g r.length cap)) nb B (cs.set 15 (.slice g r.length cap)) most (.slice g r.length cap) r):=⟨by have:=R3.set 15 (.slice g r.length cap);rw[Hm]at this;exact this,by have:=hM.TX;rw[uh D9]at this|-;exact this,by have:=(eJ.1 hM.IZ).1;rw[List.length_set]at this;rw[aa5 this],bJ hO3 R3 D9,by have:=hM.base;have:=g3.size;have hd:wc.drew.heap.size=(wc:Nat):=rfl;have:=(bO w3 (nb,15) (.slice g r.length cap)).size;omega⟩)
    all_goals(have x3:Hid (Xc (MF nb (.slice va l.length vc)) w (w3.setCell ⟨nb,15,none⟩ (.slice (some ⟨g,0,none⟩) r.length cap))):=((vN xw).grown g3 (λk e hk=>by cases e;exact(hvw.out g rfl).elim (λq=>.inr q) (λq=>by omega))).setCell ⟨nb,15,none⟩ _ (λ_=>.inl rfl))
    all_goals go_wp2_with fail
    all_goals go_end0
    all_goals exact⟨rfl,.slice g r.length cap,by rw[hn2.out];exact ZA.out,x3.out,λk e=>hvw.out k e⟩
   .have hn2:Hid (rC most ⟨ta,Ff,tc,td⟩ l=t0::r):=by have:=hn1.out;rw[aX (show¬most<(t0::r).length from cB)]at this;exact this
    have hgi:¬((most:Int)<(r.length:Int)+1):=O9;go_wp2_with fail;go_region;all_goals go_wp2_with fail
    all_goals go_end0
    all_goals exact⟨rfl,_,by rw[hn2.out];exact hM.keep (bW B0),vN xw,λk e=>hvw.out k e⟩
end Go.Proofs.aH
