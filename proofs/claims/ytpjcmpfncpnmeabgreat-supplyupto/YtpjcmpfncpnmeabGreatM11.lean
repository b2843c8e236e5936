import Derived.Deep.RegionLaw
import Derived.ArgAppend
import Derived.Test.YtpjcmpfncpnmeabGreatM09
import Derived.Test.YtpjcmpfncpnmeabGreatM10
set_option linter.all false
set_option maxHeartbeats 16000000
set_option maxRecDepth 100000
namespace Go.Proofs.aH
open Go.RowKit Tryz
def jP(c n:Int):Int:=(if c<0 then-(c+1)else c)%n
def kL(c n)(h:0<n):0<=jP c n/\jP c n<n:=⟨QB _ O9,QC _ h⟩
def qI(c n w)(d:0<n)(f:n<9223372036854775808)(a:-9223372036854775808<=c)(b:c<9223372036854775808):Cv 38 #[.int .i64 c,.int .i64 n] w λe w'=>e=.returned (jP c n)/\w'=w:=by
 by_cases h:c<0
 .have e:jP c n=(-(c+1)).tmod n:=by unfold jP;rw[if_pos h,Int.tmod_eq_emod_of_nonneg O9]
  replace e:=aL e;go_enter fA func38,ntmps38;go_wp2;go_ret;rw[e.out,Int.neg_tmod];exact⟨rfl,rfl⟩
 .have e:Hid (jP c n=c%n):=by unfold Hid jP;rw[if_neg h]
  go_enter fA func38,ntmps38;go_wp2;go_ret;rw[e.out];exact⟨rfl,rfl⟩
def afA(w):(Instr.makeSlice 127 (.int .i64 8) (.int .i64 8)).run Vp w=.ok (.slice (w:Nat) 8 8) (w.alloc (.cells #[.int .u8 0,.int .u8 0,.int .u8 0,.int .u8 0,.int .u8 0,.int .u8 0,.int .u8 0,.int .u8 0] 5)):=by have⟨d,hi,a,b,c⟩:=info_parts HP;have:=vI (P:=Vp) w 127 5 d _ aI.underlying127 hi a .i64 .i64 8 8 O9 (mH _) (by rw[c];omega) O9;rw[this,b];have e:madeCells (Value.int .u8 0).cells (Int.toNat 8*1)=#[.int .u8 0,.int .u8 0,.int .u8 0,.int .u8 0,.int .u8 0,.int .u8 0,.int .u8 0,.int .u8 0]:=K8;rw[e];rfl
def TP(n m t)(c:t<8)(b:m=n/2^(8*t)):(List.replicate (8 -t) (Value.int .u8 0)++bv (be n t)).set (7 -t) (.int .u8 (m%256))=List.replicate (8 -(t+1)) (Value.int .u8 0)++bv (be n (t+1)):=by have e:8 -t=(8 -(t+1))+1:=O9;rw[e,List.replicate_succ',iM,uR _ _ (by rw[acX];omega)];have a:=dX (m%256) O9 O9;rw[b]at a|-;simp[be,bv,a]
def qJ(n w)(h0:0<=n)(u:n<18446744073709551616):Cv 19 #[.int .u64 n] w λe w'=>e=.returned (mk (be n 8))/\Below w w w':=by
 have r:=afA;go_enter fA func19,ntmps19;go_wp2;clear r;go_loopw [0,4] (λs i wr=>∃(t:Nat) (m:Int),t<=8/\i=↑(7 -(t:Int))/\s=.int .u64 m/\m=n/2^(8*t)/\Row wr w 5 (List.replicate (8 -t) (Value.int .u8 0)++bv (be n t))/\Below w w wr) (λ_ i _=>(intOf i+1).toNat);exact⟨0,n,eX _,rfl,rfl,S8,aX w _ _,B0.alloc L9 _⟩;case round=>
  obtain⟨t,m,A,rfl,rfl,b,R,g⟩:=hrel;have y:0<=m:=by rw[b];exact Int.ediv_nonneg h0 (by exact VL (Int.pow_pos D9))
  have z:m<=n:=by rw[b];exact Int.ediv_le_self _ h0
  by_cases o:t<8
  .obtain⟨k,c⟩:∃k,k=7 -t:=⟨_,rfl⟩;have a:(7 -(t:Int))=(k:Int):=O9;have d:=R.set (7 -t) (.int .u8 (m%256));rw[TP n m t o b]at d;have c0:wr.cell? ((w:Nat),7 -t)=some (.int .u8 0):=by rw[R.cell,mG (by rw[acX];omega),acV,bE O9]
   have f0:=R.frozen (7 -t);rw[<-c]at d c0 f0;rw[a];have p:=aL b;clear b R;change Hid _ at c a;have x:k<8:=by have:=c.out;omega
   go_wp2;go_roundw;exact⟨t+1,m/256,O9,by have:=a.out;congr 1;omega,by go_num,by rw[p.out,Yi],d,g.setCell L9 _⟩;have:=a.out;simp[intOf]
  .have:t=8:=O9;subst this;have h:=bS n 8;generalize f:be n 8=q at R h;replace f:=aL f;have v:(convert 127 9 (.slice w.heap.size 8 8)).run Vp wr=.ok (mk q) wr:=by have:=run_convert_bytes_back (P:=Vp) wr 127 9 5 ((w:Nat),0) 8 q aI.underlying127 aI.underlying5 aI.underlying9 (λj l=>by rw[add0,R.cell];simp[bv,l]);rw[h]at this;exact this
   go_wp2;go_ret;exact⟨by rw[f.out];rfl,g⟩
def Bg(n w)(h0:0<=n)(a:n<256):Cv 20 #[.int .i64 n] w λe w'=>e=.returned (mk [byteOf n])/\Below w w w':=by
 have b:=abf w n h0 a;go_enter fA func20,ntmps20;go_wp2;go_ret;exact⟨rfl,B0.alloc L9 _⟩
def L6(n w)(h0:0<=n)(d:n<18446744073709551616):Cv 80 #[.int .u64 n] w λe w'=>e=.returned (mk (64::be n 8))/\Below w w w':=by
 have b:=λw=>qJ n w h0 d;have c:=bS n 8;generalize be n 8=t at b c;have h:(mk [byteOf 64]).size=1:=rfl;have i:(mk t).size=8:=by rw[dF,c]
 go_enter fA func80,ntmps80;go_wp2;refine(Bg 64 w O9 O9).m1 λw1 f=>?_;generalize a:mk [byteOf 64]=q at h|-;replace a:=aL a;go_wp2;refine(b w1).m1 λw2 g=>?_;go_wp2;go_ret;rw[<-a.out];exact⟨by rw[show mk (64::t)=mk [byteOf 64]++mk t from(Bh [byteOf 64] t).symm];rfl,p5 f L9 g⟩
def E5(l w)(n:l.length<=1000000):Cv 81 #[(mk l)] w λe w'=>e=.returned (.int .u64 (hN l))/\w'=w:=by
 have o:=dF l;go_enter fA func81,ntmps81;go_wp2;go_loop [3,4] (λh i=>∃k:Nat,k<=l.length/\i=↑k/\h=.int .u64 (hN (l.take k))) (λ_ i=>l.length -(intOf i).toNat);exact⟨0,eX _,rfl,rfl⟩;case round=>
  obtain⟨k,j,rfl,rfl⟩:=hrel;by_cases a:k<l.length
  .have d:=pG l k (k:Int) rfl a;have f:l.take (k+1)=l.take k++[l[k]]:=by rw[vR a]
   have b:Hid (hN (l.take (k+1))=vg (hN (l.take k)) (l.getD k 0)):=by unfold Hid;rw[f,Ru];simp[a]
   have g:=(l.getD k 0).toNat_lt;generalize l.getD k 0=c at d b g;go_wp2;go_round;exact⟨k+1,O9,by go_num,by rw[b.out];rfl⟩;simp[intOf];omega
  .have m:k=l.length:=O9;go_wp2;go_ret;exact⟨rfl,rfl⟩
def jR{ops o a w K Q E}(f)(j:o.guard=none)(d n)(k:o.op=.call {callee:=.value (.func f),args:=d,argTypes:=n})(b)(l:d.map a.eval=b)(R:Value->World->Prop)(g:Cv f b w λe w'=>∃v,e=.returned v/\R v w')
 (i:(callFunc f b).run Vp w=.ok (.enter f b) w)(h:∀v w',R v w'->K (a.put o.dst v) w'):if Region.wanted o (yielded ops a.tmps)=true then Oper.wp Vp o a w K Q else E:=by
 have m:Region.wanted o (yielded ops a.tmps)=true:=by simp[Region.wanted,j]
 rw[bE m];unfold Oper.wp execOp;simp[k,resolve,invoke,Act.eval,l,Deferred.ofValue,i];refine g.mono λe w' c=>?_;obtain⟨v,rfl,c⟩:=c;exact h v w' c
structure oq(B:Nat)(w:World)(v:Value)(l:List Int):Prop where
 at_:∃a c,v=.slice a l.length c/\(l.length≠0->∃b o,b<B/\a=some ⟨b,o,none⟩/\∀(i:Nat) (x:Int),l[i]?=some x->w.cell? ⟨b,o+i,none⟩=some (.int .i64 x))
 xE:∀x∈l,-9223372036854775808<=x/\x<9223372036854775808
 len:l.length<=140737488355328
def eH{w w' r C}(h:w.grownBy w' r)(b:C<=↑w)(a:∀k,r=some k->C<=k):Below C w w':=⟨h.os,h.tape,h.output,h.size,λi hi=>h.block i O9 (λe=>by have:=a i e.symm;omega)⟩
def Yc{B w w'}(c:Below B w w'){a v}(b:a.block<B)(h:w.cell? a=some v):w'.cell? a=some v:=by rw[<-h];simp[World.cell?,c.block a.block b]
def oq.keep{B C w w' v l}(h:oq B w v l)(g:Below C w w')(p:B<=C):oq B w' v l:=by have⟨⟨a,c,n,d⟩,k,j⟩:=h;refine⟨⟨a,c,n,λm=>?_⟩,k,j⟩;have⟨b,o,e,f,d⟩:=d m;exact⟨b,o,e,f,λi x hi=>Yc g (by show b<C;omega) (d i x hi)⟩
structure mL(C:Nat)(w:World)(b:Nat)(l:List Int)(k:Nat):Prop where
 st:∃v,Row w b 82 [v,.int .i64 k]/\oq C w v l
 low:C<=b
 le:k<=l.length
def Gv(l:List Int)(k:Nat)(n:Int):Int:=if k<l.length then jP (l.getD k 0) n else 0
def L5(l:List Int)(k:Nat):Nat:=if k<l.length then k+1 else k
def sf(l k n)(h:0<n):0<=Gv l k n/\Gv l k n<n:=by
 unfold Gv;split;.exact kL _ _ h
 .omega
def mL.keep{C w w' b D l k}(h:mL C w b l k)(a:Below D w w')(e:b<D):mL C w' b l k:=by have⟨⟨v,d,c⟩,g,f⟩:=h;exact⟨⟨v,d.keep a e,c.keep a O9⟩,g,f⟩
def mL.sM{C w b l k}(h:mL C w b l k)(a u)(i:b≠a.block)(e:C<=a.block):mL C (w.setCell a u) b l k:=by have⟨⟨v,d,c⟩,g,f⟩:=h;exact⟨⟨v,d.aO a u i,c.keep ((Below.refl C w).setCell e u) L9⟩,g,f⟩
def mL.lt{C w b l k}(h:mL C w b l k):b<w:=by obtain⟨⟨v,a,_⟩,_⟩:=h;exact a.lt
def jQ{C}(w b l k n)(I:mL C w b l k)(J:0<n)(K:n<9223372036854775808):Cv 23 #[.pointer b,.int .i64 n] w λe w'=>e=.returned (Gv l k n)/\mL C w' b l (L5 l k)/\w.grownBy w' (some b):=by
 have⟨⟨v,d,r⟩,m,H⟩:=I;have⟨⟨a,c,L,y⟩,u,hlen⟩:=id r;subst L;have c0:=d.r 0;have c1:=d.r 1;have s:w.grownBy w.drew (some b):=fI (aZ _ _);have O:=d.lt;have j:∀w':World,w.grownBy w' (some b)->oq C w' (.slice a l.length c) l:=λw' t=>r.keep (eH (C:=C) t O9 (λk e=>by cases e;exact m)) L9;replace j:=aL j;by_cases f:k<l.length
 .have⟨g,o,t,E,z⟩:=y O9;subst E;have D:w.cell? (g,o+k)=some ↑(l.getD k 0):=z k _ (by simp[List.getD,f]);have q:=u (l.getD k 0) (by simp[List.getD,f]);have i:Hid (Gv l k n=jP (l.getD k 0) n):=by unfold Hid Gv;rw[if_pos f]
  have h:Hid (L5 l k=k+1):=by unfold Hid L5;rw[if_pos f]
  have p:=λ(w:World)=>qI (l.getD k 0) n w J K q.1 q.2;generalize l.getD k 0=x at D q i p;have f1:=d.frozen 1;have G:Hid (∀(B:Array Value) (w:World),(callFunc 38 B).run Vp w=.ok (.enter 38 B) w):=λ_ _=>by kernel_rfl
  have M:Hid (∀W:World,Cv 38 #[x,n] W λe w'=>∃v,e=.returned v/\(v=↑(jP x n)/\w'=W)):=λW=>(p W).mono λe w' ⟨F,N⟩=>⟨_,F,rfl,N⟩;clear p y z u;have r1:Hid (Row (w.setCell (b,1) ↑((k:Int)+1)).drew.drew b 82 [.slice (g,o) l.length c,↑((k:Int)+1)]):=d.set 1 _;have A:Hid (w.grownBy (w.setCell (b,1) ↑((k:Int)+1)).drew.drew (some b)):=fI (fI (bR w (b,1) _));go_enter fA func23,ntmps23;go_wp2;go_region;all_goals go_wp2
  all_goals go_region_law (refine jR 38 rfl _ _ rfl #[x,n] E9 _ (M.out _) (G.out _ _) ?_;rintro P w0 ⟨rfl,rfl⟩)
  all_goals go_wp2
  all_goals go_ret
  all_goals exact⟨by rw[i.out];rfl,⟨⟨_,by rw[h.out];exact r1.out,j.out _ A.out⟩,m,by rw[h.out];omega⟩,A.out⟩
 .have i:Hid (Gv l k n=0):=by unfold Hid Gv;rw[if_neg f]
  have h:Hid (L5 l k=k):=by unfold Hid L5;rw[if_neg f]
  go_enter fA func23,ntmps23;go_wp2;go_region;all_goals go_wp2
  all_goals go_ret
  all_goals exact⟨by rw[i.out];rfl,⟨⟨_,by rw[h.out];exact d,j.out _ s⟩,m,by rw[h.out];exact H⟩,s⟩
def zY(n W)(h0:0<=n)(a:n<256):Cv 20 #[.int .i64 n] W λe w'=>∃q,q.size=1/\e=.returned (.string q)/\Below W W w':=
 (Bg n W h0 a).mono λ_ _ ⟨c,b⟩=>⟨_,rfl,c,b⟩
def abe(n W)(h0:0<=n)(a:n<18446744073709551616):Cv 80 #[.int .u64 n] W λe w'=>∃q,q.size=9/\e=.returned (.string q)/\Below W W w':=
 (L6 n W h0 a).mono λ_ _ ⟨c,b⟩=>⟨_,by rw[dF,fG,bS],c,b⟩
def wC(w:World)(e:Ending)(w':World):Prop:=∃q:ByteArray,q.size<=11/\e=.returned (.string q)/\Below w.heap.size w w'
def TN(n w):Cv 82 #[aA,.int .i64 n] w (wC w):=by go_enter fA func82,ntmps82;go_wp2;refine(zY 1 w O9 O9).mono ?_;rintro e w1 ⟨a,b,rfl,b1⟩;go_wp2;go_ret;exact⟨a,O9,rfl,b1⟩
def Yd(n w)(i:0<=n)(j:n<64):Cv 82 #[aG,.int .i64 n] w (wC w):=by
 have k:IntKind.u64.wrap n=n:=by rw[IntKind.wrap_u64];omega
 have g:=bS n 8;have b:=λW=>qJ n W i O9;generalize be n 8=t at b g;have c:=λW=>E5 t W O9;have a:=E6 t;generalize hN t=h at c a;have f:=λW=>abe h W a.1 a.2;go_enter fA func82,ntmps82;go_wp2;refine(zY 74 w O9 O9).mono ?_;rintro e w1 ⟨l,q,rfl,b1⟩;go_wp2;refine(b w1).m1 λw2 b2=>?_;go_wp2;refine(c w2).m0 ?_;go_wp2;refine(f _).mono ?_;rintro e w4 ⟨m,r,rfl,d⟩;go_wp2;refine(zY 71 w4 O9 O9).mono ?_;rintro e p ⟨o,s,rfl,b5⟩;go_wp2;go_ret;exact⟨_,by simp only[ByteArray.size_append];omega,rfl,p5 (p5 (p5 b1 L9 b2) L9 d) L9 b5⟩
def Ye(n w)(a:0<=n)(b:n<64):Cv 82 #[.int .i64 2,.int .i64 n] w (wC w):=by go_enter fA func82,ntmps82;go_wp2;refine(zY n w O9 O9).mono ?_;rintro e w1 ⟨c,f,rfl,b1⟩;go_wp2;refine(zY 75 w1 O9 O9).mono ?_;rintro e w2 ⟨d,g,rfl,b2⟩;go_wp2;go_ret;exact⟨_,by simp;omega,rfl,p5 b1 L9 b2⟩
def O0(n w)(b:0<=n)(c:n<64):Cv 82 #[.int .i64 3,.int .i64 n] w (wC w):=by go_enter fA func82,ntmps82;go_wp2;refine(zY 77 w O9 O9).mono ?_;rintro e w1 ⟨d,i,rfl,b1⟩;go_wp2;refine(zY n w1 O9 O9).mono ?_;rintro e w2 ⟨f,j,rfl,b2⟩;go_wp2;refine(zY 72 w2 O9 O9).mono ?_;rintro e w3 ⟨g,k,rfl,b3⟩;go_wp2;refine(zY 73 w3 O9 O9).mono ?_;rintro e w4 ⟨h,l,rfl,a⟩;go_wp2;go_ret;exact⟨_,by simp;omega,rfl,p5 (p5 (p5 b1 L9 b2) L9 b3) L9 a⟩
def L8(k n w)(c:0<=k)(d:k<4)(a:0<=n)(b:n<64):Cv 82 #[.int .i64 k,.int .i64 n] w (wC w):=by
 have:k=0\/k=1\/k=2\/k=3:=O9;obtain rfl|rfl|rfl|rfl:=this;.exact TN n w
 .exact Yd n w a b
 .exact Ye n w a b
 .exact O0 n w a b
def HM{b}(h:mR b=true):mS (uw b)=some b:=by have a:=Ma.back b [] h;rw[nE]at a;rw[mS,a];rfl
def afz(p bits bT ds):dG (mk p) bits bT ds=mR ⟨p,bits,bT,ds.map eU.m⟩/\fW (mk p) bits bT ds=uw ⟨p,bits,bT,ds.map eU.m⟩:=by have a:=aeb ds _ rfl;exact⟨E7 a _ _ _,Dm a _ _ _⟩
def Yf{p bits bT ds b}(d:b=⟨p,bits,bT,ds.map eU.m⟩)(h:mR b=true):Yg (mk p) bits bT ds=mk (uw b)/\Yh (mk p) bits bT ds=0:=by subst d;have⟨a,c⟩:=afz p bits bT ds;rw[Yg,Yh,a,h,c];exact⟨rfl,rfl⟩
open Go.Bp (iY xI)
attribute [local go_sem↓] Go.wp_at_zero Go.wp_at_succ
def Own(F:Nat->Prop)(B:Nat)(T:TypeId->Prop)(w:World)(k:Nat):Prop:=F k\/(B<=k/\∃t cs f,T t/\w.heap[k]?=some (.cells cs t f))
abbrev Xo(F:Nat->Prop)(B:Nat)(T:TypeId->Prop)(w w':World):Prop:=Xc (Own F B T w) w w'
def Xo.trans{F B T w w1 w2}(h:Xo F B T w w1)(g:Xo F B T w1 w2):Xo F B T w w2:=by
 refine R6 h g (λk i e=>?_);by_cases c:Own F B T w k;.exact c
 .obtain e|⟨a,t,cs,f,b,d⟩:=e;.exact .inl e
  .exact .inr ⟨a,t,cs,f,b,(h.block k i c).symm.trans d⟩
def qY:=@Xo.trans
def Xo.mono{F a B B' T b w w'}(h:Xo F B T w w')(j:∀k,F k->a k)(i:B'<=B)(l:∀t,T t->b t):Xo a B' b w w':=Xc.mono h (λk e=>by
  obtain e|⟨c,t,cs,f,d,g⟩:=e;.exact .inl (j k e)
  .exact .inr ⟨bI i c,t,cs,f,l t d,g⟩)
def Row.xo{F B T w w' g t cs}(h:Row w g t cs)(x:Xo F B T w w')(d:¬F g)(a:g<B\/¬T t):Row w' g t cs:=by
 refine h.xc x ?_;rintro(e|⟨i,j,f,f',c,b⟩);.exact d e
 .obtain a|a:=a;.omega
  .rw[h]at b;cases b;exact a c
def dA.cells(s:dA):List Value:=[.string s.kS.tx,.int .i64 s.kS.idx,.int .i64 s.kS.val,.string s.kS.lock,.int .i64 s.kS.aW,↑aD,.bool s.FJ]
def eT(l:List dA):List Value:=l.flatMap dA.cells
def CX(l s):eT (l++[s])=eT l++s.cells:=by simp[eT]
def aI.Zm:(Vp.info? 195).map (λi=>(i.zero,i.size,i.bytes))=some (some (.agg #[aB,aA,aA,aB,aA,aF,aF]),7,72):=K8
def Zn:=@aI.Zm
def vp{w}(base t ty e i z size bytes)(q:Vp.underlying t=some (.slice e))(hi:Vp.info? e=some i)(E:i.zero=some z)(k:i.size=size)(A:i.bytes=bytes)(F:z.cells.size=size)(D:0<size)(v n l)(h:w.ownsRow base e size v n l)(a m c news)(f:news.length=m*size)(o:∀j u,news[j]?=some u->w.cell? (a.add j)=some u)(s:∀u∈news,u.oneCell'=true)
 (y:n+m<=maxLen)(B:(n+m)*bytes<=140737488355328)(I:base<=↑w):
 ∃b w',(Builtin.append_ #[t,t] ty #[v,.slice (some a) m c]).run Vp w=.ok b w'/\w'.ownsRow base e size b (n+m) (l++news)/\w.grownBy w' v.ownBlock/\(b.ownBlock=v.ownBlock\/b.ownBlock=some ↑w)/\(b.ownBlock=v.ownBlock\/w.grownBy w' none):=by
 have⟨b,w',p,G,x,_,H⟩:=run_append_own_at (P:=Vp) w base t ty e i z size bytes q hi E k A F D v n l h a m c news f o s y B I;refine⟨b,w',p,G,x,H,?_⟩;obtain⟨r,_⟩|⟨g,cap,cur,r,N,L,Q,O,J,R⟩:=h.2;.subst r;exact .inr x
 .subst r;by_cases C:n+m<=cap
  .left;have K:n*i.size+news.length<=cur.size:=by rw[f,J,k,<-Nat.add_mul];exact VY _ C
   have d:=run_append_room (P:=Vp) w t ty e i q hi g n cap cur L a m c news (by rw[k];exact f) o s C K;rw[p]at d;cases d;rfl
  .right;have⟨v2,w2,d,_,M⟩:=run_append_arg_grows (P:=Vp) w t ty e i z size bytes q hi E k A F D (g,0) n cap l h.1 (h.cells (g:=g) rfl) a m c news f o O9 y B;rw[p]at d;cases d;exact M
def uK{ops o a w K Q E t e i z size bytes}(R:Vp.underlying t=some (.slice e))(hi:Vp.info? e=some i)(μ:i.zero=some z)(O:i.size=size)(C:i.bytes=bytes)(V:z.cells.size=size)(P:0<size)(y:bytes<=1000)(B)(F:o.guard=none)(s x)(J:o.op=.call {callee:=.builtin .append,args:=#[s,x],argTypes:=#[t,t]})(v n l)(N:a.eval s=v)(L:w.ownsRow B e size v n l)
 (m news)(H:news.length=m*size)(g c)(T:a.eval x=.slice g m c)(D:Row w g e news)(d:∀u∈news,u.oneCell'=true)(W:m<=1000)(hlen:n<=100000)(r:B<=↑w)
 (h:∀b w',w'.ownsRow B e size b (n+m) (l++news)->w.grownBy w' v.ownBlock->(b.ownBlock=v.ownBlock\/b.ownBlock=some ↑w)->(b.ownBlock=v.ownBlock\/w.grownBy w' none)->K (a.put o.dst b) w'):if Region.wanted o (yielded ops a.tmps)=true then Oper.wp Vp o a w K Q else E:=by
 have S:Region.wanted o (yielded ops a.tmps)=true:=by simp[Region.wanted,F]
 rw[bE S];have I:∀j u,news[j]?=some u->w.cell? (((g,0):Addr).add j)=some u:=λj u G=>by rw[add0,D.cell];exact G
 have A:(n+m)*bytes<=140737488355328:=bI (Nat.mul_le_mul (show n+m<=101000 by omega) y) O9;have⟨b,w',M,f,k,p,q⟩:=vp (w:=w) B t o.type e i z size bytes R hi μ O C V P v n l L (g,0) m c news H I d (by unfold maxLen;omega) A r;unfold Oper.wp execOp;simp[J,resolve,invoke,builtin,N,T,M];exact h b w' f k p q
def yP{ops o a w K Q E t e i z size bytes}(L:Vp.underlying t=some (.slice e))(hi:Vp.info? e=some i)(N:i.zero=some z)(I:i.size=size)(r:i.bytes=bytes)(O:z.cells.size=size)(J:0<size)(q:bytes<=1000)(B)(A:o.guard=none)(s x)(F:o.op=.call {callee:=.builtin .append,args:=#[s,x],argTypes:=#[t,t]})(v n l)(H:a.eval s=v)(G:w.ownsRow B e size v n l)
 (m news)(C:news.length=m*size)(g c)(M:a.eval x=.slice g m c)(y:Row w g e news)(d:∀u∈news,u.oneCell'=true)(D:m<=1000)(hlen:n<=100000)(p:B<=↑w)
 (h:∀b w',w'.ownsRow B e size b (n+m) (l++news)->w.grownBy w' v.ownBlock->(b.ownBlock=v.ownBlock\/b.ownBlock=some ↑w)->K (a.put o.dst b) w'):if Region.wanted o (yielded ops a.tmps)=true then Oper.wp Vp o a w K Q else E:=
 uK L hi N I r O J q B A s x F v n l H G m news C g c M y d D hlen p (λb w' f j k _=>h b w' f j k)
structure bL(w:World)(tb gs n:Nat)(v:Value)(l:List dA):Prop where
 row:Row w tb 161 [.slice (some ⟨gs,0,none⟩) n n,v]
 own:w.ownsRow (tb+1) 195 7 v l.length (eT l)
def Old(v':Value)(w w':World):Prop:=∀(k:Nat) (cs:Array Value) (f:Nat×Nat),w.heap[k]?=some (.cells cs 195 f)->v'.ownBlock≠some k->w'.heap[k]?=some (.cells cs 195 f)
def dI(w w':World):Prop:=∀(k:Nat) (cs:Array Value) (f:Nat×Nat),w.heap[k]?=some (.cells cs 195 f)->w'.heap[k]?=some (.cells cs 195 f)
def dI.old{w w1 w2 v}(h:dI w w1)(a:Old v w1 w2):Old v w w2:=λk cs f b c=>a k cs f (h k cs f b) c
def Old.all{w w1 w2 v}(h:Old v w w1)(a:dI w1 w2):Old v w w2:=λk cs f b c=>a k cs f (h k cs f b c)
def dI.trans{w w1 w2}(h:dI w w1)(a:dI w1 w2):dI w w2:=λk cs f b=>a k cs f (h k cs f b)
def dI.any{w w1}(h:dI w w1)(v):Old v w w1:=λk cs f a _=>h k cs f a
def dI.of{S w w'}(x:Xc S w w')(h:∀k cs f,w.heap[k]?=some (.cells cs 195 f)->¬S k):dI w w':=λk cs f a=>(x.block k (eA.1 a).1 (h k cs f a)).trans a
def Sb:=@dI.of
def dI.keep{w w'}(h:Below w.heap.size w w'):dI w w':=Sb (iN h (S:=λ_=>False)) (λ_ _ _ _=>id)
def M7:=@dI.keep
def tL(w0:World)(v0:Value)(w:World)(v:Value):Prop:=w0.heap.size<=w.heap.size/\(v.ownBlock=v0.ownBlock\/∃k,v.ownBlock=some k/\w0.heap.size<=k)/\∀(k:Nat) (cs:Array Value) (f:Nat×Nat),w0.heap[k]?=some (.cells cs 195 f)->v0.ownBlock≠some k->w.heap[k]?=some (.cells cs 195 f)
def tL.refl(w v):tL w v w v:=⟨L9,.inl rfl,λ_ _ _ h _=>h⟩
def tL.trans{w0 w w' v0 v b}(h:tL w0 v0 w v)(h2:tL w v w' b):tL w0 v0 w' b:=by
 refine⟨bI h.1 h2.1,?_,λk cs f a d=>h2.2.2 k cs f (h.2.2 k cs f a d) (λe=>?_)⟩
 .obtain e|⟨k,e,a⟩:=h2.2.1;.rw[e];exact h.2.1
  .exact .inr ⟨k,e,bI h.1 a⟩
 .obtain c|⟨j,c,g⟩:=h.2.1;.simp_all
  .simp_all
def tL.all{w w'}(v)(h:dI w w')(b:w<=(w':Nat)):tL w v w' v:=⟨b,.inl rfl,λk cs f a _=>h k cs f a⟩
def CY:=@tL.all
def tL.keep{w w'}(v)(h:Below w.heap.size w w'):tL w v w' v:=CY v (M7 h) h.size
def Zo:=@tL.keep
def bD{B}{w:World}{e size n v d}(h:w.ownsRow B e size v n d):∃a c,v=.slice a n c:=by
 obtain⟨b,h0⟩|⟨g,cap,cur,b,_⟩:=h.2;.simp_all
 .simp_all
def World.ownsRow.drewN{B}{w:World}{e size n v a}(h:w.ownsRow B e size v n a):w.drew.ownsRow B e size v n a:=h
def Sc:=@World.ownsRow.drewN
def dH{B}{w w':World}{e size n v c}(h:w.ownsRow B e size v n c)(d:∀k cs,v.ownBlock=some k->B<=k->w.heap[k]?=some (.cells cs e (0,0))->w'.heap[k]?=w.heap[k]?):w'.ownsRow B e size v n c:=by
 refine⟨h.1,?_⟩;obtain f|⟨g,cap,cur,rfl,a,b,rest⟩:=h.2;.simp_all
 .exact .inr ⟨g,cap,cur,rfl,a,(d g cur rfl a b).trans b,rest⟩
def bF{w:World}{k o}(h:w.heap[k]?=some o):k<(w:Nat):=(eA.1 h).1
def aT{B w w' e size n v a}(h:w.ownsRow B e size v n a)(b:Below w.heap.size w w'):w'.ownsRow B e size v n a:=dH h (λk _ _ _ c=>b.block k (bF c))
def Zp{F B B' T w w' e size n v a}(h:w.ownsRow B' e size v n a)(x:Xo F B T w w')(i:∀k cs,w.heap[k]?=some (.cells cs e (0,0))->B'<=k->¬F k)(j:¬T e):w'.ownsRow B' e size v n a:=by
 refine dH h (λk cs _ l b=>x.block k (bF b) ?_);rintro(c|⟨_,t,d,f',f,g⟩);.simp_all
 .simp_all
def lA(n:Nat)(mb:Nat->Nat)(k:Nat):Prop:=∃i,i<n/\k=mb i
def Aq(n:Nat)(mb:Nat->Nat)(tb k:Nat):Prop:=lA n mb k\/k=tb
def wR(t:TypeId):Prop:=t=195
def aQ.drew{w gs n sb mb K}(h:aQ w gs n sb mb K):aQ w.drew gs n sb mb K:=h.keep (cM B0)
def aQ.FK{w gs n i g sb mb K t cs}(h:aQ w gs n sb mb K)(hi:i<n)(r:Row w g t cs):g≠mb i:=(h.mp i hi).ne r
def aQ.mE{w gs n g sb mb K t cs}(h:aQ w gs n sb mb K)(r:Row w g t cs):¬lA n mb g:=by rintro⟨i,hi,e⟩;exact h.FK hi r e
def aQ.tM{w gs n k sb mb K cs t f}(h:aQ w gs n sb mb K)(a:w.heap[k]?=some (.cells cs t f)):¬lA n mb k:=by rintro⟨i,hi,e⟩;subst e;obtain⟨C,b,-⟩:=h.mp i hi;obtain⟨es,cl,c,-⟩:=b;rw[c]at a;cases a
def M8{w w' B gs n size m sb mb K e v b}(h:w.ownsRow B e size v m b)(f:aQ w gs n sb mb K)(x:Xc (lA n mb) w w'):w'.ownsRow B e size v m b:=dH h (λk cs _ g a=>x.block k (bF a) (by rintro⟨i,hi,e⟩;subst e;obtain⟨C,c,-⟩:=f.mp i hi;obtain⟨es,cl,d,-⟩:=c;rw[d]at a;cases a))
def bU{B}{w:World}{e size n k v f}(h:w.ownsRow B e size v n f)(a:v.ownBlock=some k):B<=k/\∃cs,w.heap[k]?=some (.cells cs e (0,0)):=by
 obtain⟨b,_⟩|⟨g,cap,cur,b,c,d,_⟩:=h.2;.rw[b]at a;cases a
 .rw[b]at a;cases a;exact⟨c,_,d⟩
def dQ{B w e t size n g v d cs}(h:w.ownsRow B e size v n d)(r:Row w g t cs)(c:t≠e):v.ownBlock≠some g:=by intro b;have⟨_,f,a⟩:=bU h b;rw[r]at a;cases a;exact c rfl
def aQ.grown{w w' B gs n size m sb mb K e v q}(b:aQ w gs n sb mb K)(h:w.ownsRow B e size v m q)(a:w.grownBy w' v.ownBlock)(f:e≠145)(g:e≠173):aQ w' gs n sb mb K:=by refine b.xc (S:=λk=>v.ownBlock=some k) ⟨a.os,a.tape,a.output,a.size,λk o p=>a.block k o (λc=>p c.symm)⟩ (dQ h b.arr (gA f)) (λi hi=>dQ h (b.sh i hi) (gA g)) (λi hi c=>?_);have⟨_,r,d⟩:=bU h c;obtain⟨C,j,-⟩:=b.mp i hi;obtain⟨es,cl,l,-⟩:=j;rw[l]at d;cases d
def aQ.setCell{w gs n g j sb mb K t cs}(a:aQ w gs n sb mb K)(r:Row w g t cs)(v)(b:t≠145)(c:t≠173):aQ (w.setCell ⟨g,j,none⟩ v) gs n sb mb K:=a.xc (S:=λk=>k=g) ((iZ _ w).setCell (g,j) v (λ_=>rfl)) (a.arr.ne r (gA b)) (λi hi=>(a.sh i hi).ne r (gA c)) (λi hi e=>a.FK hi r e.symm)
def bL.note{w w1 gs n tb sb mb K v a l s o}(x:aQ w gs n sb mb K)(h:bL w tb gs n v l)(i:((w.drew).alloc o).grownBy w1 v.ownBlock)(y:w1.ownsRow (tb+1) 195 7 a (l.length+1) (eT l++s.cells))(j:a.ownBlock=v.ownBlock\/((w.drew).alloc o).grownBy w1 none)(hl:a.ownBlock=v.ownBlock\/a.ownBlock=some ↑((w.drew).alloc o)):Row w1 tb 161 [.slice gs n n,v]/\aQ (w1.setCell (tb,1) a) gs n sb mb K/\bL (w1.setCell (tb,1) a) tb gs n a (l++[s])/\Xo (Aq n mb tb) (tb+1) wR w (w1.setCell (tb,1) a)/\Old a w (w1.setCell (tb,1) a)/\tL w v (w1.setCell (tb,1) a) a:=by
 have d:Below w.heap.size w ((w.drew).alloc o):=(cM B0).alloc L9 _;have r0:=h.row.keep d h.row.lt;have u:=aT h.own d;have c0:=x.keep d;have r1:Row w1 tb 161 [.slice (some ⟨gs,0,none⟩) n n,v]:=(i.block tb r0.lt (λc=>dQ u r0 D9 c.symm)).trans r0;refine⟨r1,(c0.grown u i D9 D9).setCell r1 a D9 D9,⟨r1.set 1 a,?_⟩,?_,?_,?_⟩;.rw[CX,bW];exact fR y (bR w1 ⟨tb,1,none⟩ a) (nN _)
 .refine Xc.setCell ?_ ⟨tb,1,none⟩ a (λ_=>.inl (.inr rfl));refine(iN d).grown i (λk e j=>?_);have⟨h1,cs,h2⟩:=bU h.own e;exact .inr ⟨h1,_,cs,_,rfl,h2⟩
 .intro k cs f b q;have g:=(d.block k (bF b)).trans b;have t:=bF g;have m:w1.heap[k]?=some (.cells cs 195 f):=by
   obtain j|j:=j;.exact(i.block k t (λc=>q (by rw[j];exact c.symm))).trans g
   .exact(j.block k t S8).trans g
  have r:k≠tb:=by intro e;subst e;have p:=h.row;rw[p]at b;cases b
  exact((bR w1 ⟨tb,1,none⟩ a).block k (bF m) (by simpa using r)).trans m
 .refine⟨bI d.size (bI i.size (bR w1 ⟨tb,1,none⟩ a).size),hl.imp id (λe=>⟨_,e,d.size⟩),λk cs f b q=>?_⟩;have g:=(d.block k (bF b)).trans b;have m:=(i.block k (bF g) (λc=>q c.symm)).trans g;have r:k≠tb:=by intro e;subst e;have p:=h.row;rw[p]at b;cases b
  exact((bR w1 ⟨tb,1,none⟩ a).block k (bF m) (by simpa using r)).trans m
def adt:=@bL.note
def Il{gs n tb sb mb K v l}(c w)(L:aQ w gs n sb mb K)(x:bL w tb gs n v l)(af:Aa c.pt)(ae:K c.pt=none)(hl:l.length<=100000):Cv 94 #[ptr tb,c.v] w λe w'=>e=.returned (.tuple #[])/\aQ w' gs n sb mb (K.put c)/\(∃H,bL w' tb gs n H (l++[⟨c,true⟩])/\Old H w w'/\tL w v w' H)/\Xo (Aq n mb tb) (tb+1) wR w w':=by
 obtain⟨va,vc,rfl⟩:=bD x.own;have A:∀W:World,aQ W gs n sb mb K->Cv 128 #[pU gs n,c.v] W λe w'=>∃I,e=.returned I/\(I=.tuple #[]/\Xc (lA n mb) W w'/\aQ w' gs n sb mb (K.put c)):=λW Y=>(Zl c W Y af ae).mono λe w' ⟨h1,h2⟩=>⟨_,h1,rfl,h2⟩;have π:Hid (∀(Q:Array Value) (w:World),(callFunc 128 Q).run Vp w=.ok (.enter 128 Q) w):=λ_ _=>by kernel_rfl
 have O:Hid (∀l:List dA,eT (l++[⟨c,true⟩])=eT l++[.string c.tx,.int .i64 c.idx,.int .i64 c.val,.string c.lock,.int .i64 c.aW,.bool true,.bool true]):=λl=>CX l _;obtain⟨a,b,h,j,i⟩:=c;unfold ptr;simp only[cP.v,pU]at A O|-;have d:=aX w [a,b,h,j,i,aD] 60;have r:Below w w (w.alloc (.cells #[a,b,h,j,i,aD] 60)):=B0.alloc L9 _;have q:=L.keep r;have m:=x.row.keep r x.row.lt;have t:=aT x.own r;have au:=x.row.lt;go_enter fA Tryz.func94,Tryz.ntmps94;go_wp2;generalize w.alloc (.cells #[a,b,h,j,i,aD] 60)=X at d r q m t|-;have c0:=d.cell 0;have c1:=d.cell 1;have c2:=d.cell 2;have c3:=d.cell 3;have c4:=d.cell 4;have c5:=d.cell 5;simp only[mI,py]at c0 c1 c2 c3 c4 c5;have t0:=m.r 0;have N:=A X.drew q.drew;clear A;go_cut [] (λwx=>Xc (lA n mb) X wx/\aQ wx gs n sb mb (K.put ⟨a,b,h,j,i⟩));case first=>
  go_region_law (refine jR 128 rfl _ _ rfl #[.agg #[.slice gs n n],.agg #[a,b,h,j,i,aD]] E9 _ N (π.out _ _) ?_;rintro I w1 ⟨rfl,p,z⟩);all_goals go_wp2
  all_goals go_meet
  all_goals exact⟨(wQ (iZ _ X)).trans p (λ_ _ e=>e),z⟩
 case rest=>
  obtain⟨p,z⟩:=hcut;replace d:=d.xc p (q.mE d);replace m:=m.xc p (q.mE m);replace t:=M8 t q p;have B:dI w _:=(M7 r).trans (Sb p (λk cs f ab=>q.tM ab));have J:Xo (Aq n mb tb) (tb+1) wR w _:=(iN (S:=lA n mb) r).trans p (λ_ _ e=>e)|>.mono (λk e=>.inl (.inl e));clear N q p r L c0 c1 c2 c3 c4 c5 t0;obtain⟨ak,aa,ah,ai,aj⟩:=info_parts Zn;have R:=aX wc.drew [a,b,h,j,i,aD,aD] 195;have T:(wc.drew.alloc (.cells [.string a,.int .i64 b,.int .i64 h,.string j,.int .i64 i,.bool true,.bool true].toArray 195)).ownsRow (tb+1) 195 7 (.slice va l.length vc) l.length (eT l):=oL (Sc t) _;have B1:tb+1<=(wc.drew.alloc (.cells [.string a,.int .i64 b,.int .i64 h,.string j,.int .i64 i,.bool true,.bool true].toArray 195)).heap.size:=by rw[bJ];have:=m.lt;show _<=(wc:Nat)+1;omega
  have V:∀u∈[Value.string a,↑b,↑h,↑j,↑i,↑aD,↑aD],u.oneCell'=true:=by intro u P;simp only[iL,nR,nS]at P;obtain rfl|rfl|rfl|rfl|rfl|rfl|rfl:=P<;>rfl
  have fin:Hid (∀(v1:Value) (w1:World),(wc.drew.alloc (.cells [.string a,.int .i64 b,.int .i64 h,.string j,.int .i64 i,.bool true,.bool true].toArray 195)).grownBy w1 (Value.slice va l.length vc).ownBlock->w1.ownsRow (tb+1) 195 7 v1 (l.length+1) (eT l++[.string a,.int .i64 b,.int .i64 h,.string j,.int .i64 i,.bool true,.bool true])->(v1.ownBlock=(Value.slice va l.length vc).ownBlock\/(wc.drew.alloc (.cells [.string a,.int .i64 b,.int .i64 h,.string j,.int .i64 i,.bool true,.bool true].toArray 195)).grownBy w1 none)->(v1.ownBlock=(Value.slice va l.length vc).ownBlock\/v1.ownBlock=some ↑(wc.drew.alloc (.cells [.string a,.int .i64 b,.int .i64 h,.string j,.int .i64 i,.bool true,.bool true].toArray 195)))->Row w1 tb 161 [.slice gs n n,.slice va l.length vc]/\aQ (w1.setCell (tb,1) v1) gs n sb mb (K.put ⟨a,b,h,j,i⟩)/\bL (w1.setCell (tb,1) v1) tb gs n v1 (l++[⟨⟨a,b,h,j,i⟩,true⟩])/\Xo (Aq n mb tb) (tb+1) wR w (w1.setCell (tb,1) v1)/\Old v1 w (w1.setCell (tb,1) v1)/\tL w (.slice va l.length vc) (w1.setCell (tb,1) v1) v1):=λv1 w1 g o kk ll=>by obtain⟨y,C,D,E,F,G⟩:=adt (s:=⟨⟨a,b,h,j,i⟩,true⟩) z ⟨m,t⟩ g o kk ll;exact⟨y,C,D,J.trans E,B.old F,(CY _ B J.size).trans G⟩
  have c0:=d.cell 0;have c1:=d.cell 1;have c2:=d.cell 2;have c3:=d.cell 3;have c4:=d.cell 4;have c5:=d.cell 5;simp only[mI,py]at c0 c1 c2 c3 c4 c5;have t1:=m.r 1;have y1:=d.lt;have av:=m.lt;clear z J B O;go_wp2;go_region_law (refine uK aI.underlying121 aa ah ai aj rfl D9 D9 (tb+1) rfl _ _ rfl (.slice va l.length vc) l.length (eT l) E9 T 1 [a,b,h,j,i,aD,aD] rfl (wc:Nat) 1 E9 R V O9 hl B1 ?_;intro v1 w1 M μ l1 k1;obtain⟨ar,ao,ag⟩:=cO M l.length rfl;subst ag;obtain⟨y,C,D,E,F,G⟩:=fin.out _ _ μ M k1 l1;have ay:w1.cell? (tb,1)=some (.slice va l.length vc):=y.cell 1;have az:=y.frozen 1;have z3:=y.lt);all_goals go_wp2
  all_goals go_end0
  all_goals exact⟨rfl,C,⟨_,D,F,G⟩,E⟩
def Zq{gs n tb sb mb K v l}(c w)(g:aQ w gs n sb mb K)(h:bL w tb gs n v l)(j:Aa c.pt)(i:K c.pt=none)(hl:l.length<=100000):Cv 94 #[ptr tb,c.v] w λe w'=>e=.returned (.tuple #[])/\aQ w' gs n sb mb (K.put c)/\(∃a,bL w' tb gs n a (l++[⟨c,true⟩])/\tL w v w' a)/\Xo (Aq n mb tb) (tb+1) wR w w':=
 (Il c w g h j i hl).mono λ_ _ ⟨h1,h2,⟨a,b,_,f⟩,d⟩=>⟨h1,h2,⟨a,b,f⟩,d⟩
def Zr(l:List dA):Option cP->List dA
 |none=>l
 |some c=>l++[⟨c,false⟩]
def aQ.rA{w gs n g sb mb K t cs}(a:aQ w gs n sb mb K)(r:Row w g t cs)(v0 v1 v2 v3 b c)(d:t≠145)(f:t≠173):aQ (BP w g v0 v1 v2 v3 b c) gs n sb mb K:=a.xc (S:=λk=>k=g) ((iZ _ w).rA g v0 v1 v2 v3 b c (λ_=>rfl)) (a.arr.ne r (gA d)) (λi hi=>(a.sh i hi).ne r (gA f)) (λi hi e=>a.FK hi r e.symm)
def FL{gs n tb sb mb K v l}(p w)(bu:aQ w gs n sb mb K)(ar:bL w tb gs n v l)(cj:Aa p)(hl:l.length<=100000):Cv 93 #[ptr tb,vh p] w λe w'=>e=.returned (qO (K p))/\aQ w' gs n sb mb (K.take p)/\(∃bf,bL w' tb gs n bf (Zr l (K p))/\Old bf w w'/\tL w v w' bf)/\Xo (Aq n mb tb) (tb+1) wR w w':=by
 obtain⟨va,vc,rfl⟩:=bD ar.own;have⟨D,E,F,G,H,I,i⟩:=rS (K p);have az:∀W:World,aQ W gs n sb mb K->Cv 127 #[pU gs n,vh p] W λe w'=>∃a2,e=.returned a2/\(a2=.agg #[D,E,F,G,H,.bool I]/\Xc (lA n mb) W w'/\aQ w' gs n sb mb (K.take p)):=λW cf=>(UC p W cf cj).mono λe w' ⟨h1,h2⟩=>⟨_,h1,i,h2⟩;have b4:Hid (∀(ca:Array Value) (w:World),(callFunc 127 ca).run Vp w=.ok (.enter 127 ca) w):=λ_ _=>by kernel_rfl
 rw[i];replace i:=aL i;have⟨a,b⟩:=p;unfold ptr;simp only[pU,vh]at az|-;have N:=(aX w [a,b] 58).alloc (.cells ↑() 60);have d:=aX (w.alloc (.cells #[a,b] 58)) ↑() 60;rw[bJ]at d;have O:Below w w ((w.alloc (.cells #[a,b] 58)).alloc (.cells ↑() 60)):=(B0.alloc L9 _).alloc Z9 _;have A:=bu.keep O;have q:=ar.row.keep O ar.row.lt;have M:=aT ar.own O;have db:=ar.row.lt;go_enter fA func93,ntmps93;go_wp2;generalize(w.alloc (.cells #[a,b] 58)).alloc (.cells ↑() 60)=X at N d O A q M|-;have c0:=N.r 0;have c1:=N.r 1;have t0:=q.r 0;have y1:=N.lt;have bg:=q.lt;have b7:=az X.drew A.drew;have bx:aQ (X.drew.alloc (.cells [.string ⟨#[]⟩,.int .i64 0,.int .i64 0,.string ⟨#[]⟩,.int .i64 0,.bool false].toArray 60)) gs n sb mb K:=A.drew.keep (B0.alloc L9 _);have a6:=aX X.drew ↑() 60;have bz:Hid (∀w1,Xc (lA n mb) (X.drew.alloc (.cells [.string ⟨#[]⟩,.int .i64 0,.int .i64 0,.string ⟨#[]⟩,.int .i64 0,.bool false].toArray 60)) w1->Row w1 ↑X 60 ↑()/\Xc (lA n mb) X w1):=λw1 x=>⟨a6.xc x (bx.mE a6),((wQ (iZ _ X)).alloc _).trans x (λ_ _ e=>e)⟩;have bp:Hid (∀w1,Xc (lA n mb) X.drew w1->aQ w1 gs n sb mb (K.take (a,b))->(X:Nat)<=(w1:Nat)/\Row (w1.alloc (.cells [.string D,.int .i64 E,.int .i64 F,.string G,.int .i64 H,.bool I].toArray 60)) (w1:Nat) 60 [D,E,F,G,H,.bool I]/\Xc (lA n mb) X (w1.alloc (.cells [.string D,.int .i64 E,.int .i64 F,.string G,.int .i64 H,.bool I].toArray 60))/\aQ (w1.alloc (.cells [.string D,.int .i64 E,.int .i64 F,.string G,.int .i64 H,.bool I].toArray 60)) gs n sb mb (K.take (a,b))):=λw1 x h=>⟨x.size,aX w1 _ _,((wQ (iZ _ X)).trans x (λ_ _ e=>e)).alloc _,h.keep (B0.alloc L9 _)⟩;have bq:Hid (∀w1,Row w1 ↑X 60 ↑()->Xc (lA n mb) X w1->aQ w1 gs n sb mb (K.take (a,b))->(X:Nat)<=(X:Nat)/\Row (BP w1 ↑X ↑D ↑E ↑F ↑G ↑H (.bool I)) ↑X 60 [D,E,F,G,H,.bool I]/\Xc (lA n mb) X (BP w1 ↑X ↑D ↑E ↑F ↑G ↑H (.bool I))/\aQ (BP w1 ↑X ↑D ↑E ↑F ↑G ↑H (.bool I)) gs n sb mb (K.take (a,b))):=λw1 r x h=>⟨L9,r.rA _ _ _ _ _ _,x.rA _ _ _ _ _ _ _ O9,h.rA r _ _ _ _ _ _ D9 D9⟩;clear a6 bx;have b8:=az (X.drew.alloc (.cells ↑() 60)) (A.drew.keep (B0.alloc L9 _));clear az;go_cut [5] (λs wx=>∃B,s=.pointer (some ⟨B,0,none⟩)/\(X:Nat)<=B/\Row wx B 60 [D,E,F,G,H,.bool I]/\Xc (lA n mb) X wx/\aQ wx gs n sb mb (K.take (a,b)));case first=>
  go_region_law (first|(refine jR 127 rfl _ _ rfl #[.agg #[.slice gs n n],.agg #[a,b]] E9 _ b7 (b4.out _ _) ?_;rintro a2 w1 ⟨rfl,t,L⟩)|(refine jR 127 rfl _ _ rfl #[.agg #[.slice gs n n],.agg #[a,b]] E9 _ b8 (b4.out _ _) ?_;rintro a2 w1 ⟨rfl,t,L⟩;obtain⟨RB,π⟩:=bz.out w1 t;have aa:=RB.cell 0;have ab:=RB.cell 1;have ae:=RB.cell 2;have af:=RB.cell 3;have ag:=RB.cell 4;have ah:=RB.cell 5;simp only[mI,py]at aa ab ae af ag ah;have f0:=RB.frozen 0;have f1:=RB.frozen 1;have f2:=RB.frozen 2;have bk:=RB.frozen 3;have bm:=RB.frozen 4;have bo:=RB.frozen 5));all_goals go_wp2
  all_goals go_meet
  all_goals first
   |exact⟨_,rfl,bp.out w1 t L⟩
   |exact⟨_,rfl,bq.out w1 RB π L⟩
 case rest=>obtain⟨B,rfl,cy,j,t,L⟩:=hcut;have dc:=d.lt;replace N:=N.xc t (A.mE N);replace d:=d.xc t (A.mE d);replace q:=q.xc t (A.mE q);replace M:=M8 M A t;have av:Xo (Aq n mb tb) (tb+1) wR w _:=(iN (S:=lA n mb) O).trans t (λ_ _ e=>e)|>.mono (λk e=>.inl (.inl e));have a8:=(M7 O).trans (Sb t (λk cs f C=>A.tM C));have cz:B≠(w:Nat)+1:=O9;have ay:bL wc tb gs n (.slice va l.length vc) l:=⟨q,M⟩;clear b7 b8 bz bp bq A t bu c0 c1 t0 y1 bg O;cases C:K (a,b)with
  |none=>
    replace i:=i.out;rw[C]at i;simp only[qO,R8,QJ,QK,vM,GW,GX,GY,vL,rC]at i;obtain⟨rfl,rfl,rfl,rfl,rfl,rfl⟩:=i;replace C:=aL C;have k0:=j.cell 0;have k1:=j.cell 1;have k2:=j.cell 2;have μ:=j.cell 3;have V:=j.cell 4;have Y:=j.cell 5;simp only[mI,py]at k0 k1 k2 μ V Y;have aa:=d.cell 0;have ab:=d.cell 1;have ae:=d.cell 2;have af:=d.cell 3;have ag:=d.cell 4;have ah:=d.cell 5;simp only[mI,py]at aa ab ae af ag ah;have f0:=d.frozen 0;have f1:=d.frozen 1;have f2:=d.frozen 2;have bk:=d.frozen 3;have bm:=d.frozen 4;have bo:=d.frozen 5;have m:=d.rA ↑aB ↑aA ↑aA ↑aB ↑aA ↑aF;have y:=(iZ (λk=>k=(w:Nat)+1) wc).rA ((w:Nat)+1) ↑aB ↑aA ↑aA ↑aB ↑aA ↑aF (λ_=>rfl);have P:=L.rA d ↑aB ↑aA ↑aA ↑aB ↑aA ↑aF D9 D9;have Q:bL (BP wc ((w:Nat)+1) ↑aB ↑aA ↑aA ↑aB ↑aA ↑aF) tb gs n _ _:=⟨ay.row.xc y (ay.row.ne d D9),dH ay.own (λk cs _ _ i=>y.block k (bF i) (λe=>by subst e;unfold Row at d;rw[d]at i;cases i))⟩;have R:Old (.slice va l.length vc) w (BP wc ((w:Nat)+1) ↑aB ↑aA ↑aA ↑aB ↑aA ↑aF)/\tL w (.slice va l.length vc) (BP wc ((w:Nat)+1) ↑aB ↑aA ↑aA ↑aB ↑aA ↑aF) (.slice va l.length vc):=have z:=a8.trans (dI.of y (λk cs f i e=>by subst e;unfold Row at d;rw[d]at i;cases i));⟨z.any _,CY _ z (bI av.size y.size)⟩
    have T:Xo (Aq n mb tb) (tb+1) wR w (BP wc ((w:Nat)+1) ↑aB ↑aA ↑aA ↑aB ↑aA ↑aF):=Sa av ((w:Nat)+1) _ _ _ _ _ _ O9;have ai:=m.cell 0;have aj:=m.cell 1;have e2:=m.cell 2;have e3:=m.cell 3;have ak:=m.cell 4;have ao:=m.cell 5;simp only[mI,py]at ai aj e2 e3 ak ao;change Hid _ at m y P Q T R;go_wp2;exact nG (v:=.agg ↑()) (by simp only[results,results93];simp[go_sem,ai,aj,e2,e3,ak,ao]) rfl ⟨rfl,P.out,⟨_,by rw[C.out];exact Q.out,R.out⟩,T.out⟩
  |some c=>
    have⟨c1,c2,c3,c4,c5⟩:=c;replace i:=i.out;rw[C]at i;simp only[qO,cP.v,QJ,QK,vM,GW,GX,GY,vL,rC]at i;obtain⟨rfl,rfl,rfl,rfl,rfl,rfl⟩:=i;replace C:=aL C;have⟨c7,b6,cr,cu,cv⟩:=info_parts Zn;have bh:=aX wc.drew [c1,c2,c3,c4,c5,aD,aF] 195;have bj:(wc.drew.alloc (.cells [.string c1,.int .i64 c2,.int .i64 c3,.string c4,.int .i64 c5,.bool true,.bool false].toArray 195)).ownsRow (tb+1) 195 7 (.slice va l.length vc) l.length (eT l):=oL (Sc M) _;have B1:tb+1<=(wc.drew.alloc (.cells [.string c1,.int .i64 c2,.int .i64 c3,.string c4,.int .i64 c5,.bool true,.bool false].toArray 195)).heap.size:=by rw[bJ];have:=q.lt;show _<=(wc:Nat)+1;omega
    have br:∀u∈[Value.string c1,↑c2,↑c3,↑c4,↑c5,↑aD,↑aF],u.oneCell'=true:=by intro u b9;simp only[iL,nR,nS]at b9;obtain rfl|rfl|rfl|rfl|rfl|rfl|rfl:=b9<;>rfl
    have fin:Hid (∀(v1:Value) (w1:World),(wc.drew.alloc (.cells [.string c1,.int .i64 c2,.int .i64 c3,.string c4,.int .i64 c5,.bool true,.bool false].toArray 195)).grownBy w1 (Value.slice va l.length vc).ownBlock->w1.ownsRow (tb+1) 195 7 v1 (l.length+1) (eT l++[.string c1,.int .i64 c2,.int .i64 c3,.string c4,.int .i64 c5,.bool true,.bool false])->(v1.ownBlock=(Value.slice va l.length vc).ownBlock\/(wc.drew.alloc (.cells [.string c1,.int .i64 c2,.int .i64 c3,.string c4,.int .i64 c5,.bool true,.bool false].toArray 195)).grownBy w1 none)->(v1.ownBlock=(Value.slice va l.length vc).ownBlock\/v1.ownBlock=some ↑(wc.drew.alloc (.cells [.string c1,.int .i64 c2,.int .i64 c3,.string c4,.int .i64 c5,.bool true,.bool false].toArray 195)))->Row w1 tb 161 [.slice gs n n,.slice va l.length vc]/\aQ (w1.setCell (tb,1) v1) gs n sb mb (K.take (a,b))/\(∃J,bL (w1.setCell (tb,1) v1) tb gs n J (l++[⟨⟨c1,c2,c3,c4,c5⟩,false⟩])/\Old J wc (w1.setCell (tb,1) v1)/\tL wc (.slice va l.length vc) (w1.setCell (tb,1) v1) J)/\Xo (Aq n mb tb) (tb+1) wR wc (w1.setCell (tb,1) v1)):=λv1 w1 g o kk ll=>by have⟨au,m,bb,bc,cw⟩:=adt (s:=⟨⟨c1,c2,c3,c4,c5⟩,false⟩) L ⟨q,M⟩ g o kk ll;exact⟨au,m,⟨_,bb,cw⟩,bc⟩
    have k0:=j.cell 0;have k1:=j.cell 1;have k2:=j.cell 2;have μ:=j.cell 3;have V:=j.cell 4;have Y:=j.cell 5;simp only[mI,py]at k0 k1 k2 μ V Y;have t1:=q.r 1;have y1:=j.lt;have bg:=q.lt;go_wp2;go_cut [] (λwx=>aQ wx gs n sb mb (K.take (a,b))/\(∃J,bL wx tb gs n J (l++[⟨⟨c1,c2,c3,c4,c5⟩,false⟩])/\Old J wc wx/\tL wc (.slice va l.length vc) wx J)/\Xo (Aq n mb tb) (tb+1) wR wc wx);case first=>
     go_region_law (refine uK aI.underlying121 b6 cr cu cv rfl D9 D9 (tb+1) rfl _ _ rfl (.slice va l.length vc) l.length (eT l) E9 bj 1 [c1,c2,c3,c4,c5,aD,aF] rfl (wc:Nat) 1 E9 bh br O9 hl B1 ?_;intro v1 w1 b0 cb l1 k1;obtain⟨da,c8,cm⟩:=cO b0 l.length rfl;subst cm;obtain⟨au,m,bb,bc⟩:=fin.out _ _ cb b0 k1 l1;have dd:w1.cell? (tb,1)=some (.slice va l.length vc):=au.cell 1;have de:=au.frozen 1;have z3:=au.lt);all_goals go_wp2
     all_goals go_meet
     all_goals exact⟨m,bb,bc⟩
    case rest=>
     have⟨cd,⟨J,a7,ba,bd⟩,π⟩:=hcut;replace ba:=a8.old ba;replace bd:=(CY _ a8 av.size).trans bd;replace d:=d.xo π (λc=>by obtain c|c:=c;exact L.mE d c;exact d.ne q D9 c) (.inr (by unfold wR;decide));replace j:=j.xo π (λc=>by obtain c|c:=c;exact L.mE j c;exact j.ne q D9 c) (.inr (by unfold wR;decide));have cx:=qY av π;clear π av fin bh bj B1 br k0 k1 k2 μ V Y t1 y1 bg ay q M L b6;have k0:=j.cell 0;have k1:=j.cell 1;have k2:=j.cell 2;have μ:=j.cell 3;have V:=j.cell 4;have Y:=j.cell 5;simp only[mI,py]at k0 k1 k2 μ V Y;have aa:=d.cell 0;have ab:=d.cell 1;have ae:=d.cell 2;have af:=d.cell 3;have ag:=d.cell 4;have ah:=d.cell 5;simp only[mI,py]at aa ab ae af ag ah;have f0:=d.frozen 0;have f1:=d.frozen 1;have f2:=d.frozen 2;have bk:=d.frozen 3;have bm:=d.frozen 4;have bo:=d.frozen 5;have m:=d.rA ↑c1 ↑c2 ↑c3 ↑c4 ↑c5 ↑aD;have y:=(iZ (λk=>k=(w:Nat)+1) wc).rA ((w:Nat)+1) ↑c1 ↑c2 ↑c3 ↑c4 ↑c5 ↑aD (λ_=>rfl);have P:=cd.rA d ↑c1 ↑c2 ↑c3 ↑c4 ↑c5 ↑aD D9 D9;have Q:bL (BP wc ((w:Nat)+1) ↑c1 ↑c2 ↑c3 ↑c4 ↑c5 ↑aD) tb gs n _ _:=⟨a7.row.xc y (a7.row.ne d D9),dH a7.own (λk cs _ _ i=>y.block k (bF i) (λe=>by subst e;unfold Row at d;rw[d]at i;cases i))⟩;have R:Old J w (BP wc ((w:Nat)+1) ↑c1 ↑c2 ↑c3 ↑c4 ↑c5 ↑aD)/\tL w (.slice va l.length vc) (BP wc ((w:Nat)+1) ↑c1 ↑c2 ↑c3 ↑c4 ↑c5 ↑aD) J:=have z:dI wc (BP wc ((w:Nat)+1) ↑c1 ↑c2 ↑c3 ↑c4 ↑c5 ↑aD):=dI.of y (λk cs f i e=>by subst e;unfold Row at d;rw[d]at i;cases i);⟨ba.all z,bd.trans (CY _ z y.size)⟩
     have T:Xo (Aq n mb tb) (tb+1) wR w (BP wc ((w:Nat)+1) ↑c1 ↑c2 ↑c3 ↑c4 ↑c5 ↑aD):=Sa cx ((w:Nat)+1) _ _ _ _ _ _ O9;have ai:=m.cell 0;have aj:=m.cell 1;have e2:=m.cell 2;have e3:=m.cell 3;have ak:=m.cell 4;have ao:=m.cell 5;simp only[mI,py]at ai aj e2 e3 ak ao;change Hid _ at m y P Q R T;go_wp2;exact nG (v:=.agg #[c1,c2,c3,c4,c5,aD]) (by simp only[results,results93];simp[go_sem,ai,aj,e2,e3,ak,ao]) rfl ⟨rfl,P.out,⟨_,by rw[C.out];exact Q.out,R.out⟩,T.out⟩
def UD{gs n tb sb mb K v l}(p w)(f:aQ w gs n sb mb K)(g:bL w tb gs n v l)(h:Aa p)(hl:l.length<=100000):Cv 93 #[ptr tb,vh p] w λe w'=>e=.returned (qO (K p))/\aQ w' gs n sb mb (K.take p)/\(∃a,bL w' tb gs n a (Zr l (K p))/\tL w v w' a)/\Xo (Aq n mb tb) (tb+1) wR w w':=
 (FL p w f g h hl).mono λ_ _ ⟨h1,h2,⟨a,b,_,d⟩,c⟩=>⟨h1,h2,⟨a,b,d⟩,c⟩
def M9(o):∃s a b l h,qO o=.agg #[.string s,.int .i64 a,.int .i64 b,.string l,.int .i64 h,.bool o.isSome]:=by cases o with
 |none=>exact⟨_,_,_,_,_,rfl⟩
 |some c=>exact⟨_,_,_,_,_,rfl⟩
def UE{K id}{k:Nat}(a:k<8)(h:(K (id,(k:Int))).isSome=true):anyM K id=true:=by unfold anyM;rw[QL];exact⟨k,zf.2 a,h⟩
def PO{K id}(h:∀k:Nat,k<8->(K (id,(k:Int))).isSome=false):anyM K id=false:=by unfold anyM;rw[Km];intro k a;rw[h k (zf.1 a)];simp
def UF{K id}(h:anyM K id=false)(k:Nat)(a:k<8):K (id,(k:Int))=none:=by unfold anyM at h;rw[Km]at h;have:=h k (zf.2 a);simpa using this
def PR(w b c d e f a):(Instr.field 60 (.agg #[b,c,d,e,f,a]) 4).run Vp w=.ok a w:=by have g:=vS (w:=w) aI.underlying60;simp[Instr.field,part,asAgg]
def UG{gs n sb mb K}(id w)(b:aQ w gs n sb mb K)(v:id.size<=1000000):Cv 160 #[pU gs n,.string id] w λe w'=>e=.returned (.bool (anyM K id))/\Below w w w':=by
 have g:Below w w (w.alloc (.cells #[.slice gs n n] 102)):=B0.alloc L9 _;have c:=aX w [.slice gs n n] 102;have m:∀(W:World) (k:Nat),k<8->aQ W gs n sb mb K->Cv 39 #[.agg #[.slice gs n n],.agg #[id,(k:Int)]] W λe w'=>e=.returned (qO (K (id,(k:Int))))/\Below W W w':=λW k y h=>H4 (id,(k:Int)) W h ⟨v,by show _<=(k:Int);omega,by show(k:Int)<_;omega⟩;replace b:=b.keep g;unfold pU;go_enter fA func160,ntmps160;go_wp2;generalize w.alloc (.cells #[.slice gs n n] 102)=X at g c b|-;go_loopw [6] (λi wr=>∃k:Nat,k<=8/\i=k/\(∀j,j<k->(K (id,(j:Int))).isSome=false)/\Below w w wr/\Below X X wr) (λi _=>8 -(intOf i).toNat);exact⟨0,O9,rfl,λj x=>by omega,g,B0⟩;case round=>
  obtain⟨k,y,rfl,d,l,f⟩:=hrel;replace c:=c.keep f c.lt;replace b:=b.keep f;have c0:=c.r 0;by_cases r:k<8;.have A:=m wr k r b;clear m;replace d:=aL d;have G:((k:Int)<8):=O9;go_wp2;refine A.m1 λw1 p=>?_;have⟨B,C,D,E,F,u⟩:=M9 (K (id,(k:Int)));rw[u];have H:=PR w1 B C D E F;have q:=l.trans (p.mono l.size);have t:=f.trans (p.mono f.size);cases o:(K (id,(k:Int))).isSome with
   |true=>have a:=UE r o;replace a:=aL a;clear o;go_wp2;go_ret;exact⟨by rw[a.out];rfl,q⟩
   |false=>
     have s:Hid (∀j,j<k+1->(K (id,(j:Int))).isSome=false):=λj x=>by
      by_cases e:j=k;.simp_all
      .exact d.out j O9
     clear o;go_wp2;go_roundw;exact⟨k+1,O9,by go_num,s.out,q,t⟩;simp[intOf];omega
  .have z:k=8:=O9;subst z;have a:=PO d;replace a:=aL a;clear d m;go_wp2;go_ret;exact⟨by rw[a.out];rfl,l⟩
def Na(l o):eI (l++[o])=eI l+o.val:=by induction l with
 |nil=>simp[eI]
 |cons x l a=>simp[eI];omega
def xu(l)(h:∀o∈l,o.Small):0<=eI l/\eI l<=l.length*4294967295:=by induction l with
 |nil=>simp[eI]
 |cons o l c=>have d:=c (λx b=>h x (by simp[b]));have a:=h o S8;have:=a.1;have:=a.2.2;simp[eI];omega
def Im(v l w)(h:qQ w v l)(C:l.length<=1000)(j:∀o∈l,o.Small):Cv 152 #[v] w λe w'=>e=.returned (eI l)/\Below w w w':=by
 obtain⟨⟨a,c,rfl,q⟩,_⟩:=h;go_enter fA func152,ntmps152;go_wp2;go_loopw [3,8] (λs i wr=>∃k,k<=l.length/\i=k/\s=(eI (l.take k))/\Below w w wr) (λ_ i _=>l.length -(intOf i).toNat);exact⟨0,O9,rfl,rfl,B0⟩;case round=>
  obtain⟨k,B,rfl,rfl,d⟩:=hrel;by_cases b:k<l.length
  .obtain⟨g,o,rfl,u⟩:=q (by intro e;rw[e]at b;simp at b);have p:=(u k l[k] (bO b)).keep d;have f:=j l[k] (sW b);have n:l.take (k+1)=l.take k++[l[k]]:=by rw[vR b]
   have A:=xu (l.take k) (λo t=>j o (QM t));have hlen:(l.take k).length<=1000:=by rw[iU];omega
   have m:Hid (eI (l.take (k+1))=eI (l.take k)+(l[k]).val):=by unfold Hid;rw[n,Na]
   generalize l[k]=x at p f m n;have⟨G,F⟩:=x;have⟨D,E⟩:=p;have y:=f.1;have z:=f.2.2;simp only at y z;go_wp2;go_roundw;exact⟨k+1,O9,by go_num,by rw[m.out],d.alloc d.size _⟩;simp[intOf];omega
  .have r:k=l.length:=O9;subst r;rw[iB];go_wp2;go_ret;exact⟨rfl,d⟩
def cF.cells(t:cF):List Value:=[.string t.key,.string t.lock,.string t.id,.int .i64 t.aW]
def bA(l:List cF):List Value:=l.flatMap cF.cells
def uM(l t):bA (l++[t])=bA l++t.cells:=by simp[bA]
def JF(n:Nat)(mb:Nat->Nat)(tb jb k:Nat):Prop:=Aq n mb tb k\/k=jb
def JT(t:TypeId):Prop:=t=195\/t=247
abbrev XJ(n:Nat)(mb:Nat->Nat)(tb jb:Nat)(w w':World):Prop:=Xo (JF n mb tb jb) (tb+1) JT w w'
class kD where
 w0:World
 v0:Value
def CZ[kD](tb:Nat)(w:World):Prop:=tb<kD.w0.heap.size/\∀(k:Nat) (cs:Array Value) (f:Nat×Nat),kD.w0.heap[k]?=some (.cells cs 247 f)->w.heap[k]?=some (.cells cs 247 f)
def CZ.xc[kD]{tb S w w'}(h:CZ tb w)(x:Xc S w w')(b:∀k cs f,k<↑kD.w0->w.heap[k]?=some (.cells cs 247 f)->¬S k):CZ tb w':=⟨h.1,λk cs f a=>have e:=h.2 k cs f a;(x.block k (bF e) (b k cs f (bF a) e)).trans e⟩
def CZ.keep[kD]{tb w w'}(h:CZ tb w)(a:Below w w w'):CZ tb w':=h.xc (iN a (S:=λ_=>False)) (λ_ _ _ _ _=>id)
structure bV[kD](w:World)(jb tb gs n:Nat)(sb mb:Nat->Nat)(h:Int)(s:JS):Prop where
 row:∃tv,Row w jb 226 [ptr tb,.int .i64 h,.int .i64 s.fX,tv]/\w.ownsRow kD.w0.heap.size 247 4 tv s.cE.length (bA s.cE)
 iO:∃v,bL w tb gs n v s.steps/\tL kD.w0 kD.v0 w v/\CZ tb w
 aY:aQ w gs n sb mb s.K
def bV.keep[kD]{w w' b tb gs n sb mb h s}(e:bV w b tb gs n sb mb h s)(a:Below w w w'):bV w' b tb gs n sb mb h s:=by have⟨⟨tv,r,o⟩,⟨v,t,d⟩,c⟩:=e;exact⟨⟨tv,r.keep a r.lt,aT o a⟩,⟨v,⟨t.row.keep a t.row.lt,aT t.own a⟩,d.1.trans (Zo _ a),d.2.keep a⟩,c.keep a⟩
def XJ.Nb{n mb tb a w w'}(x:Xo (Aq n mb tb) (tb+1) wR w w'):XJ n mb tb a w w':=Xo.mono x (λ_ e=>.inl e) L9 (λ_ e=>.inl e)
def bV.Sd[kD]{w w' g tb gs n sb mb h s d j l}(y:bV w g tb gs n sb mb h s)(x:Xo (Aq n mb tb) (tb+1) wR w w')(q:aQ w' gs n sb mb d)(A:bL w' tb gs n l j)(z:tL kD.w0 kD.v0 w' l):bV w' g tb gs n sb mb h {s with K:=d,steps:=j}:=by
 have⟨⟨tv,r,o⟩,⟨v,t,B⟩,c⟩:=y;refine⟨⟨tv,r.xo x ?_ (.inr (by unfold wR;decide)),Zp o x ?_ (by unfold wR;decide)⟩,⟨_,A,z,B.2.xc x ?_⟩,q⟩
 .rintro(e|e);.exact c.mE r e
  .exact r.ne t.row D9 e
 .rintro k cs a D (⟨i,hi,e⟩|e);.subst e;obtain⟨C,m,-⟩:=c.mp i hi;obtain⟨es,cl,p,-⟩:=m;rw[p]at a;cases a
  .subst e;have b:=t.row;rw[b]at a;cases a
 .rintro k cs f _ a ((⟨i,hi,e⟩|e)|⟨_,u,cs',f',e2,e3⟩);.exact c.tM a ⟨i,hi,e⟩
  .subst e;have b:=t.row;rw[b]at a;cases a
  .rw[a]at e3;cases e3;revert e2;unfold wR;decide
def bV.c0[kD]{w a tb gs n sb mb h s}(b:bV w a tb gs n sb mb h s):w.cell? (a,0)=some (.pointer tb):=by obtain⟨tv,r,_⟩:=b.row;exact r.cell 0
def bV.c1[kD]{w a tb gs n sb mb h s}(b:bV w a tb gs n sb mb h s):w.cell? (a,1)=some ↑h:=by obtain⟨tv,r,_⟩:=b.row;exact r.cell 1
def Row.xj[kD]{w w' a tb gs n g sb mb h s t cs}(r:Row w g t cs)(f:bV w a tb gs n sb mb h s)(x:XJ n mb tb a w w')(h1:t≠161)(h2:t≠226)(b:t≠195)(d:t≠247):Row w' g t cs:=by
 have⟨⟨tv,i,o⟩,⟨v,tr,_⟩,c⟩:=f;refine r.xo x ?_ (.inr (λe=>e.elim b d));rintro((e|e)|e);.exact c.mE r e
 .exact r.ne tr.row h1 e
 .exact r.ne i h2 e
def JA(w:World)(v:Value)(l:List fL):Prop:=∃g c,v=.slice (some ⟨g,0,none⟩) l.length c/\Row w g 69 (lO l)
def InR(w:World)(v:Value)(l:List jV):Prop:=∃g c,v=.slice (some ⟨g,0,none⟩) l.length c/\Row w g 133 (mZ l)
def Sg(id:ByteArray)(h:Int)(i:Nat)(o:fL)(s:JS):JS:={s with K:=s.K.put ⟨id,i,o.val,o.lock,h⟩,steps:=s.steps++[⟨⟨id,i,o.val,o.lock,h⟩,true⟩]}
def PT(id h l o):∀i s,kM id h (l++[o]) i s=Sg id h (i+l.length) o (kM id h l i s):=by induction l with
 |nil=>intro i s;rfl
 |cons x l a=>intro i s;show kM id h (l++[o]) (i+1) _=_;rw[a];show _=Sg id h (i+(l.length+1)) o (kM id h l (i+1) _);rw[show i+1+l.length=i+(l.length+1)from by omega]
def ab2(id h l):∀(i:Nat) (s:JS) (j:Nat),(i+l.length<=j)->(kM id h l i s).K (id,(j:Int))=s.K (id,(j:Int)):=by induction l with
 |nil=>intro i s j _;rfl
 |cons x l b=>intro i s j a;simp at a;show(kM id h l (i+1) _).K (id,(j:Int))=_;rw[b (i+1) _ j O9];show(s.K.put _) (id,(j:Int))=_;unfold iR.put;rw[aS];intro e;have:=congrArg Prod.snd e;simp[cP.pt]at this;omega
def UH(id h l):∀i s,(kM id h l i s).steps.length=s.steps.length+l.length:=by induction l with
 |nil=>intro i s;rfl
 |cons x l a=>intro i s;show(kM id h l (i+1) _).steps.length=_;rw[a];simp;omega
def FN[kD]{j tb gs n sb mb h s}(x gi li ci ov w)(a:bV w j tb gs n sb mb h s)(ai:JA w ov x.outs)(hlen:x.outs.length<=8)(I:x.id.size<=1000000)(bd:s.steps.length+8<=100000):Cv 153 #[ptr j,.agg #[x.id,.slice (some ⟨gi,0,none⟩) li ci,ov]] w λe w'=>e=.returned ((dO x h s).1)/\bV w' j tb gs n sb mb h (dO x h s).2/\XJ n mb tb j w w':=by
 have⟨id,ins,outs⟩:=x;obtain⟨g,c,rfl,b⟩:=ai;simp only at b hlen I|-;unfold ptr;have f:=aX w [id,.slice gi li ci,.slice g outs.length c] 155;have l:Below w w (w.alloc (.cells #[id,.slice gi li ci,.slice g outs.length c] 155)):=B0.alloc L9 _;have μ:∀W:World,aQ W gs n sb mb s.K->Cv 160 #[.agg #[.slice gs n n],id] W λe w'=>e=.returned (.bool (anyM s.K id))/\Below W W w':=λW B=>UG id W B I;replace a:=a.keep l;replace b:=b.keep l b.lt;go_enter fA Tryz.func153,Tryz.ntmps153;go_wp2;generalize w.alloc (.cells #[id,.slice gi li ci,.slice g outs.length c] 155)=X at f l a b|-;have aa:∀d os,Cv 160 #[.agg #[.slice gs n n],id] (Go.Sort.grow (redrawn X d) os) λe a2=>e=.returned (.bool (anyM s.K id))/\∃p:Regrown,a2=Go.Sort.grow (redrawn X p.d) p.os:=λd os=>Calls.regrown_of (μ _ (a.aY.keep (below_regrown X d os)))
 have⟨tv,y,P⟩:=a.row;have⟨v,tr,_⟩:=a.iO;have k0:=cell_regrown (show X.cell? (j,0)=some (.pointer tb)from y.cell 0);have k1:=cell_regrown (show X.cell? (tb,0)=some (.slice gs n n)from tr.row.cell 0);have k2:=cell_regrown (show X.cell? ((w:Nat),0)=some ↑id from f.cell 0);refine wp_region_quiet_below Fg K8 ?_;repeat(go_big_quiet_step (first|(go_at_call 160;exact aa _ _)))
 refine wpQuiet_nil ?_;intro _ ak;have⟨⟨S,π⟩,ao⟩:=ak;subst ao;have hq:=below_regrown X S π;clear y P tr k0 k1 k2 aa μ;replace b:=b.keep hq b.lt;replace a:=a.keep hq;replace f:=f.keep hq f.lt;replace l:=l.trans (hq.mono l.size);generalize Go.Sort.grow (redrawn X S) π=Y at b a f l|-;clear hq;cases G:anyM s.K id with
 |true=>
   have C:Hid (dO ⟨id,ins,outs⟩ h s=(14,s)):=by unfold Hid dO;rw[if_pos G]
   go_wp2;go_ret;exact⟨by rw[C.out];rfl,by rw[C.out];exact a,iN l⟩
 |false=>
   have C:Hid (dO ⟨id,ins,outs⟩ h s=(0,kM id h outs 0 s)):=by unfold Hid dO;rw[if_neg (by rw[G];simp)]
   have L:=UF G;clear G;have av:=f.r 2;go_wp2;go_loopw [20] (λi wr=>∃k:Nat,k<=outs.length/\i=↑k/\bV wr j tb gs n sb mb h (kM id h (outs.take k) 0 s)/\Row wr ↑w 155 [id,.slice gi li ci,.slice g outs.length c]/\Row wr g 69 (lO outs)/\XJ n mb tb j w wr) (λi _=>outs.length -(intOf i).toNat);exact⟨0,O9,rfl,a,f,b,iN l⟩;case round=>
    clear a f b l av;obtain⟨k,ba,rfl,a,f,b,Q⟩:=hrel;by_cases V:k<outs.length
    .have⟨E,F⟩:=xx outs k outs[k] (bO V);have O:outs.take (k+1)=outs.take k++[outs[k]]:=by rw[vR V]
     have N:Hid (kM id h (outs.take (k+1)) 0 s=Sg id h k outs[k] (kM id h (outs.take k) 0 s)):=by unfold Hid;rw[O,PT,iU];congr 1;omega
     have J:(kM id h (outs.take k) 0 s).K (id,(k:Int))=none:=by rw[ab2 id h (outs.take k) 0 s k (by rw[iU];omega)];exact L k O9
     have M:(kM id h (outs.take k) 0 s).steps.length<=100000:=by rw[UH,iU];omega
     generalize outs[k]=o at E F N O;generalize kM id h (outs.take k) 0 s=ab at a N J M;have⟨q,m⟩:=o;simp only at E F;have a6:wr.cell? (g,k*2)=some ↑q:=by rw[b.cell];exact E
     have a7:wr.cell? (g,k*2+1)=some ↑m:=by rw[b.cell];exact F
     have bb:(0:Int)<=(k:Int):=O9;have bc:(k:Int)<(outs.length:Int):=O9;clear O E F L;go_wp2;have b1:Below wr wr (wr.alloc (.cells #[q,m] 69)):=B0.alloc L9 _;have t:=aX wr [q,m] 69;replace a:=a.keep b1;replace f:=f.keep b1 f.lt;replace b:=b.keep b1 b.lt;have R:XJ n mb tb j w _:=R7 Q b1;generalize wr.alloc (.cells #[q,m] 69)=u at t a f b R|-;generalize(wr:Nat)=z at t|-;clear b1 Q a6 a7;have A:=aL (a.keep (cM B0));have D:Hid (∀w1,XJ n mb tb j u.drew w1->Row w1 ↑w 155 [id,.slice gi li ci,.slice g outs.length c]/\Row w1 z 69 [q,m]):=λw1 x=>⟨(jZ f).xj A.out x D9 D9 D9 D9,(jZ t).xj A.out x D9 D9 D9 D9⟩;have hput:Hid (∀W:World,bV W j tb gs n sb mb h ab->Cv 94 #[.pointer tb,.agg #[id,↑(k:Int),q,m,h,aD]] W λe w'=>e=.returned (.tuple #[])/\bV w' j tb gs n sb mb h (Sg id h k ⟨q,m⟩ ab)/\XJ n mb tb j W w'):=λW B=>by have⟨v,tr,az⟩:=B.iO;refine(Zq ⟨id,(k:Int),q,m,h⟩ W B.aY tr ⟨I,by show _<=(k:Int);omega,by show(k:Int)<_;omega⟩ J M).mono ?_;rintro e w' ⟨h1,h2,⟨bf,ag,ah⟩,T⟩;exact⟨h1,B.Sd T h2 ag (az.1.trans ah),XJ.Nb T⟩
     have⟨tv,y,P⟩:=a.row;have ar:u.cell? (j,0)=some (.pointer tb):=y.cell 0;have au:=y.r 1;have t0:=f.r 0;have q0:=t.r 0;have ay:=t.r 1;clear y P J M a;go_region_held3 (λw'=>w'.cell? (j,0)=some (.pointer tb)/\w'.cell? (j,1)=some ↑h/\w'.cell? ((w:Nat),0)=some ↑id/\w'.cell? (z,0)=some ↑q/\w'.cell? (z,1)=some ↑m) (first|go_keep|exact⟨H.c0,H.c1,(D.out w1 r).1.cell 0,(D.out w1 r).2.cell 0,(D.out w1 r).2.cell 1⟩) ((go_at_call 94;refine(hput.out _ A.out).mono ?_;rintro e w1 ⟨rfl,H,r⟩))
     have ae:=(D.out w1 r).1;have af:=(jZ b).xj A.out r D9 D9 D9 D9;have a8:XJ n mb tb j w w1:=qY (wQ R) r;clear ar au t0 q0 ay D hput A r R t f b;go_wp2;go_roundw;exact⟨k+1,O9,by go_num,by rw[N.out];exact H,ae,af,a8⟩;simp[intOf];omega
    .have aj:k=outs.length:=O9;subst aj;rw[iB]at a;clear L;go_wp2;go_ret;exact⟨by rw[C.out];rfl,by rw[C.out];exact a,Q⟩
def JA.at_{w v l}(h:JA w v l)(b:l.length<=1000):qQ w v l:=by obtain⟨g,c,rfl,a⟩:=h;exact FI (rest:=[]) (by rw[nE];exact a) O9
def Zt[kD]{j tb gs n sb mb h s}(x gi li ci ov su w)(f:bV w j tb gs n sb mb h s)(D:JA w ov x.outs)(hlen:x.outs.length<=8)(y:∀o∈x.outs,o.Small)(v:x.id.size<=1000000)(F:s.steps.length+8<=100000)(E:0<=s.fX/\s.fX<=1000000000000000)(O:0<=su/\su<=1000000):Cv 130 #[ptr j,.agg #[x.id,.slice (some ⟨gi,0,none⟩) li ci,ov],.int .i64 su] w λe w'=>e=.returned ((jI x h su s).1)/\bV w' j tb gs n sb mb h (jI x h su s).2/\XJ n mb tb j w w':=by
 have q:Hid (∀W:World,bV W j tb gs n sb mb h s->JA W ov x.outs->Cv 153 #[ptr j,.agg #[↑x.id,.slice gi li ci,ov]] W λe w'=>e=.returned (↑(dO x h s).1)/\bV w' j tb gs n sb mb h (dO x h s).2/\XJ n mb tb j W w'):=λW h1 h2=>FN x gi li ci ov W h1 h2 hlen v F;have r:∀W:World,JA W ov x.outs->Cv 152 #[ov] W λe w'=>e=.returned ↑(eI x.outs)/\Below W W w':=λW h2=>Im ov x.outs W (h2.at_ O9) O9 y;have G:=xu x.outs y;have l:Hid (jI x h su s=if eI x.outs>su+s.fX then(16,s)else dO x h s):=rfl;have⟨id,ins,outs⟩:=x;obtain⟨g,c,rfl,a⟩:=D;simp only at a hlen v r G l q|-;have H:0<=eI outs/\eI outs<=100000000000:=O9;generalize eI outs=A at H r l;unfold ptr at q|-;have b:=aX w [id,.slice gi li ci,.slice g outs.length c] 155;have i:Below w w (w.alloc (.cells #[id,.slice gi li ci,.slice g outs.length c] 155)):=B0.alloc L9 _;replace f:=f.keep i;replace a:=a.keep i a.lt;go_enter fA Tryz.func130,Tryz.ntmps130;go_wp2;generalize w.alloc (.cells #[id,.slice gi li ci,.slice g outs.length c] 155)=X at b i f a|-;have K:∀d os,Cv 152 #[.slice g outs.length c] (Go.Sort.grow (redrawn X d) os) λe M=>e=.returned ↑A/\∃p:Regrown,M=Go.Sort.grow (redrawn X p.d) p.os:=λd os=>Calls.regrown_of (r _ ⟨g,c,rfl,a.keep (below_regrown X d os) a.lt⟩)
 have⟨tv,L,S⟩:=f.row;have k0:=cell_regrown (show X.cell? (j,2)=some ↑s.fX from L.cell 2);have k1:=cell_regrown (show X.cell? ((w:Nat),2)=some (.slice g outs.length c)from b.cell 2);generalize u:s.fX=B at E k0 l;replace u:=aL u;refine wp_region_quiet_below Fg K8 ?_;repeat(go_big_quiet_step (first|(go_at_call 152;exact K _ _)))
 refine wpQuiet_nil ?_;intro _ I;have⟨⟨t,z⟩,J⟩:=I;subst J;have hq:=below_regrown X t z;replace a:=a.keep hq a.lt;replace f:=f.keep hq;replace b:=b.keep hq b.lt;replace i:=i.trans (hq.mono i.size);generalize Go.Sort.grow (redrawn X t) z=m at a f b i|-;by_cases aW:su+B<A
 .have k:Hid (jI ⟨id,ins,outs⟩ h su s=(16,s)):=by have:=l.out;rw[bE aW]at this;exact this
  go_wp2;go_ret;exact⟨by rw[k.out];rfl,by rw[k.out];exact f,iN i⟩
 .have k:Hid (jI ⟨id,ins,outs⟩ h su s=dO ⟨id,ins,outs⟩ h s):=by have:=l.out;rw[aS aW]at this;exact this
  have P:=b.r 0;have Q:=b.r 1;have R:=b.r 2;go_wp2;refine(q.out m f ⟨g,c,rfl,a⟩).mono ?_;rintro e w1 ⟨rfl,C,N⟩;go_wp2;go_ret;exact⟨by rw[k.out];rfl,by rw[k.out];exact C,qY (iN i) N⟩
def y8(K:iR):Prop:=∀p c,K p=some c->0<=c.val/\c.val<=4294967295
def y8.take{K}(h:y8 K)(q):y8 (K.take q):=by
 intro p c a;unfold iR.take at a;split at a;.cases a
 .exact h p c a
def y8.put{K}(h:y8 K)(d)(b:0<=d.val/\d.val<=4294967295):y8 (K.put d):=by
 intro p c a;unfold iR.put at a;split at a;.simp_all
 .exact h p c a
def bN{B w e t size n g j v u b cs}(h:w.ownsRow B e size v n b)(r:Row w g t cs)(c:t≠e):(w.setCell ⟨g,j,none⟩ u).ownsRow B e size v n b:=dH h (λk d _ _ a=>((Xc.refl (λk=>k=g) w).setCell (g,j) u (λ_=>rfl)).block k (bF a) (λe=>by subst e;unfold Row at r;rw[r]at a;cases a;exact c rfl))
def bL.setCell{w tb gs n g j v u l t cs}(h:bL w tb gs n v l)(r:Row w g t cs)(a:t≠161)(b:t≠195):bL (w.setCell ⟨g,j,none⟩ u) tb gs n v l:=⟨h.row.aO (g,j) u (h.row.ne r (gA a)),bN h.own r b⟩
def bL.grown{w w' tb gs n B size m v u l e j}(h:bL w tb gs n v l)(d:w.ownsRow B e size u m j)(b:w.grownBy w' u.ownBlock)(f:e≠161)(g:e≠195):bL w' tb gs n v l:=by refine⟨(b.block tb h.row.lt (λc=>dQ d h.row (gA f) c.symm)).trans h.row,dH h.own (λk cs _ _ a=>b.block k (bF a) (λc=>?_))⟩;have⟨_,o,i⟩:=bU d c.symm;rw[i]at a;cases a;exact g rfl
def Si{w g j u t cs}(v)(r:Row w g t cs)(h2:t≠195):tL w v (w.setCell ⟨g,j,none⟩ u) v:=have y:=(iZ (λk=>k=g) w).setCell (g,j) u (λ_=>rfl);tL.all v (dI.of y (λk cs f a e=>by subst e;unfold Row at r;rw[r]at a;cases a;exact h2 rfl)) y.size
def UI{w w' B size m g j u x e t i cs}(v)(h:w.ownsRow B e size u m i)(r:Row w' g t cs)(b:w.grownBy w' u.ownBlock)(h1:e≠195)(h2:t≠195):tL w v (w'.setCell ⟨g,j,none⟩ x) v:=(CY v (λk cs f a=>(b.block k (bF a) (λc=>by have⟨_,cs',d⟩:=bU h c.symm;rw[d]at a;cases a;exact h1 rfl)).trans a) b.size).trans (Si v r h2)
def bV.push[kD]{b w1 a tb gs n sb mb h s t tv v1 o}(m:bV b a tb gs n sb mb h s)(r:Row b a 226 [ptr tb,h,s.fX,tv])(q:b.ownsRow kD.w0 247 4 tv s.cE.length (bA s.cE))(d:(b.drew.alloc o).grownBy w1 tv.ownBlock)(x:w1.ownsRow kD.w0 247 4 v1 (s.cE.length+1) (bA s.cE++t.cells)):Row w1 a 226 [ptr tb,h,s.fX,tv]/\XJ n mb tb a b w1/\bV (w1.setCell (a,3) v1) a tb gs n sb mb h {s with cE:=s.cE++[t]}/\XJ n mb tb a b (w1.setCell (a,3) v1):=by
 have g:Below b b (b.drew.alloc o):=(cM B0).alloc L9 _;have r0:=r.keep g r.lt;have i:=aT q g;have⟨v,tr,l⟩:=m.iO;have t0:bL (b.drew.alloc o) tb gs n v s.steps:=⟨tr.row.keep g tr.row.lt,aT tr.own g⟩;have c0:=m.aY.keep g;have r1:Row w1 a 226 [ptr tb,h,↑s.fX,tv]:=(d.block a r0.lt (λc=>dQ i r0 D9 c.symm)).trans r0;have c1:=c0.grown i d D9 D9;have t1:=t0.grown i d D9 D9;have u:XJ n mb tb a b w1:=(iN g).grown d (λk e j=>by have⟨h1,cs,h2⟩:=bU q e;exact .inr ⟨bI l.2.1 h1,_,cs,_,.inr rfl,h2⟩)
 refine⟨r1,u,⟨⟨v1,r1.set 3 v1,?_⟩,⟨v,t1.setCell r1 D9 D9,l.1.trans ((tL.keep _ g).trans (UI _ i r1 d D9 D9)),((l.2.keep g).xc (S:=λk=>tv.ownBlock=some k) ⟨d.os,d.tape,d.output,d.size,λk j w=>d.block k j (λe=>w e.symm)⟩ (λk cs f j _ e=>by have:=(bU i e).1;omega)).xc ((Xc.refl (λk=>k=a) w1).setCell (a,3) v1 (λ_=>rfl)) (λk cs f _ p e=>by subst e;unfold Row at r1;rw[r1]at p;cases p)⟩,c1.setCell r1 v1 D9 D9⟩,u.setCell (a,3) v1 (λ_=>.inl (.inr rfl))⟩;rw[uM,bW];exact bN x r1 D9
def bV.fee[kD]{w a tb gs n sb mb h s}(f)(c:bV w a tb gs n sb mb h s):bV (w.setCell (a,2) (.int .i64 f)) a tb gs n sb mb h {s with fX:=f}/\XJ n mb tb a w (w.setCell (a,2) f):=by have⟨tv,b,i⟩:=c.row;have⟨v,tr,g⟩:=c.iO;exact⟨⟨⟨tv,b.set 2 _,bN i b D9⟩,⟨v,tr.setCell b D9 D9,g.1.trans (Si _ b D9),g.2.xc ((Xc.refl (λk=>k=a) w).setCell (a,2) _ (λ_=>rfl)) (λk cs f _ d e=>by subst e;unfold Row at b;rw[b]at d;cases d)⟩,c.aY.setCell b _ D9 D9⟩,(Xc.refl _ w).setCell (a,2) _ (λ_=>.inl (.inr rfl))⟩
def aI.UJ:(Vp.info? 247).map (λi=>(i.zero,i.size,i.bytes))=some (some (.agg #[aB,aB,aB,aA]),4,56):=K8
def Sj:=@aI.UJ
def FO(id:ByteArray)(h:Int)(x:jV)(c:cP)(s:JS):JS:={s with K:=s.K.take (x.tx,x.idx),steps:=s.steps++[⟨c,false⟩],cE:=s.cE++[⟨x.key,c.lock,id,h⟩]}
def tN{id h x r sp s c}(a:s.K (x.tx,x.idx)=some c):kB id h (x::r) sp s=kB id h r (sp+c.val) (FO id h x c s):=by show(match s.K (x.tx,x.idx)with|none=>_|some c=>_)=_;rw[a];rfl
def tO{id h x r sp s}(a:s.K (x.tx,x.idx)=none):kB id h (x::r) sp s=(15,sp,s):=by show(match s.K (x.tx,x.idx)with|none=>_|some c=>_)=_;rw[a]
def UK{K:iR}{p}(h:K p=none):K.take p=K:=by
 funext q;unfold iR.take;split;.simp_all
 .rfl
def bV.rA[kD]{w j tb gs n g sb mb h s t cs}(x:bV w j tb gs n sb mb h s)(r:Row w g t cs)(v0 v1 v2 v3 b v5)(h1:t≠145)(h2:t≠173)(q:t≠161)(u:t≠226)(d:t≠195)(i:t≠247):bV (BP w g v0 v1 v2 v3 b v5) j tb gs n sb mb h s:=by
 have⟨⟨tv,l,A⟩,⟨v,tr,o⟩,c⟩:=x;have y:=(iZ (λk=>k=g) w).rA g v0 v1 v2 v3 b v5 (λ_=>rfl);have own:∀{B e size m:Nat} {v:Value} {p:List Value},w.ownsRow B e size v m p->t≠e->(BP w g v0 v1 v2 v3 b v5).ownsRow B e size v m p:=λh z=>dH h (λk cs' _ _ a=>y.block k (bF a) (λe=>by subst e;unfold Row at r;rw[r]at a;cases a;exact z rfl))
 exact⟨⟨tv,l.ab1 (l.ne r (Ne.symm u)) _ _ _ _ _ _,own A i⟩,⟨v,⟨tr.row.ab1 (tr.row.ne r (Ne.symm q)) _ _ _ _ _ _,own tr.own d⟩,o.1.trans (tL.all _ (dI.of y (λk cs f a e=>by subst e;unfold Row at r;rw[r]at a;cases a;exact d rfl)) y.size),o.2.xc y (λk cs f _ a e=>by subst e;unfold Row at r;rw[r]at a;cases a;exact i rfl)⟩,c.rA r _ _ _ _ _ _ h1 h2⟩
structure Nc(x:JU)(h:Int)(s:JS)(k:Nat)(sp:Int)(sk:JS):Prop where
 same:kB x.id h x.ins 0 s=kB x.id h (x.ins.drop k) sp sk
 sp0:0<=sp
 sp1:sp<=k*4294967295
 ok:y8 sk.K
 fX:sk.fX=s.fX
 steps:sk.steps.length<=s.steps.length+k
 cE:sk.cE.length<=s.cE.length+k
def Nc.next{x h s k sp a i c}(H:Nc x h s k sp a)(d:x.ins.drop k=i::x.ins.drop (k+1))(b:a.K (i.tx,i.idx)=some c):Nc x h s (k+1) (sp+c.val) (FO x.id h i c a):=by
 have e:=H.ok _ c b;refine⟨by rw[H.same,d,tN b],?_,?_,H.ok.take _,H.fX,?_,?_⟩;.have:=H.sp0;omega
 .have:=H.sp1;omega
 .have:=H.steps;simp[FO];omega
 .have:=H.cE;simp[FO];omega
def Zu[kD]{a tb gs n sb mb h s}(x iv ov w)(j:bV w a tb gs n sb mb h s)(dw:InR w iv x.ins)(dz:JA w ov x.outs)(fq:x.ins.length<=8)(ef:∀i∈x.ins,i.Small)(hlen:x.outs.length<=8)(bm:∀o∈x.outs,o.Small)(ec:x.id.size<=1000000)(fv:s.steps.length<=50000)(fy:s.cE.length<=50000)(fi:0<=s.fX/\s.fX<=100000000000000)(b9:y8 s.K):Cv 129 #[ptr a,.agg #[x.id,iv,ov]] w λe w'=>e=.returned ((fE x h s).1)/\bV w' a tb gs n sb mb h (fE x h s).2/\XJ n mb tb a w w':=by
 have cj:Hid (∀(W:World) (s':JS) (gi li ci:Nat),bV W a tb gs n sb mb h s'->s'.steps.length+8<=100000->JA W ov x.outs->Cv 153 #[ptr a,.agg #[↑x.id,.slice gi li ci,ov]] W λe w'=>e=.returned (↑(dO x h s').1)/\bV w' a tb gs n sb mb h (dO x h s').2/\XJ n mb tb a W w'):=λW s' gi li ci h1 h0 h2=>FN x gi li ci ov W h1 h2 hlen ec h0;have cy:Hid (∀W:World,JA W ov x.outs->Cv 152 #[ov] W λe w'=>e=.returned ↑(eI x.outs)/\Below W W w'):=λW h2=>Im ov x.outs W (h2.at_ O9) O9 bm;have ei:=xu x.outs bm;have ab:Hid (fE x h s=if(kB x.id h x.ins 0 s).1≠0 then((kB x.id h x.ins 0 s).1,(kB x.id h x.ins 0 s).2.2)else if eI x.outs>(kB x.id h x.ins 0 s).2.1 then(16,(kB x.id h x.ins 0 s).2.2)else dO x h {(kB x.id h x.ins 0 s).2.2 with fX:=(kB x.id h x.ins 0 s).2.2.fX+((kB x.id h x.ins 0 s).2.1 -eI x.outs)}):=rfl;have cd:Hid (Nc x h s 0 0 s):=⟨rfl,O9,O9,b9,rfl,O9,O9⟩;obtain⟨g,c,rfl,m⟩:=dz;obtain⟨gi,ci,rfl,y⟩:=dw;generalize af:x.outs.length=lo,a6:x.ins.length=li,V:x.id=id at*;have ej:0<=eI x.outs/\eI x.outs<=100000000000:=O9;clear ei bm b9;generalize a2:eI x.outs=G at ej cy ab;unfold ptr at cj|-;have f:=aX w [id,.slice gi li ci,.slice g lo c] 155;have aa:Below w w (w.alloc (.cells #[id,.slice gi li ci,.slice g lo c] 155)):=B0.alloc L9 _;replace j:=j.keep aa;replace m:=m.keep aa m.lt;replace y:=y.keep aa y.lt;go_enter fA Tryz.func129,Tryz.ntmps129;have e0:=f.r 1;go_wp2;generalize w.alloc (.cells #[id,.slice gi li ci,.slice g lo c] 155)=X at f aa j m y|-;go_loopw [5,13] (λsv i wr=>∃(k:Nat) (sp:Int) (b:JS),k<=li/\i=↑k/\sv=↑sp/\Nc x h s k sp b/\bV wr a tb gs n sb mb h b/\Row wr ↑w 155 [id,.slice gi li ci,.slice g lo c]/\Row wr g 69 (lO x.outs)/\Row wr gi 133 (mZ x.ins)/\XJ n mb tb a w wr) (λ_ i _=>li -(intOf i).toNat);exact⟨0,0,s,O9,rfl,rfl,cd.out,j,f,m,y,iN aa⟩;case round=>
  clear j f m y aa e0 cd;obtain⟨k,sp,b,fj,rfl,rfl,C,j,f,m,y,bb⟩:=hrel;by_cases fs:k<li
  .have bk:=sW (show k<x.ins.length by omega);have⟨ay,π,az⟩:=wN x.ins k x.ins[k] (bO O9);have ao:x.ins.drop k=x.ins[k]::x.ins.drop (k+1):=xQ O9;have ar:=ef _ bk;generalize x.ins[k]=i at ao ay π az ar bk;clear bk;change Hid _ at ao af a6 V a2 C;have⟨q,idx,p⟩:=i;simp only at ay π az;have e6:wr.cell? (gi,k*3)=some ↑q:=by rw[y.cell];exact ay
   have H:wr.cell? (gi,k*3+1)=some ↑idx:=by rw[y.cell];exact π
   have e7:wr.cell? (gi,k*3+2)=some ↑p:=by rw[y.cell];exact az
   have fo:(0:Int)<=(k:Int):=O9;have fp:(k:Int)<(li:Int):=O9;have cv:Hid (Aa (q,idx)):=⟨by have:=ar.1;show q.size<=_;simp only at this;omega,by have:=ar.2.1;show _<=idx;simp only at this;omega,by have:=ar.2.2.2;show idx<_;simp only at this;omega⟩;clear ay π az ar;go_wp2;have b1:Below wr wr (wr.alloc (.cells #[q,idx,p] 133)):=B0.alloc L9 _;have E:=aX wr [q,idx,p] 133;replace j:=j.keep b1;replace f:=f.keep b1 f.lt;replace m:=m.keep b1 m.lt;replace y:=y.keep b1 y.lt;have bq:XJ n mb tb a w _:=R7 bb b1;generalize wr.alloc (.cells #[q,idx,p] 133)=d at E j f m y bq|-;generalize(wr:Nat)=I at E|-;clear b1 bb e6 H e7;have⟨L,M,N,O,P,Q,F⟩:=rS (b.K (q,idx));have ea:b.steps.length<=100000:=by have:=C.out.steps;omega
   generalize ae:({b with K:=b.K.take (q,idx),steps:=Zr b.steps (b.K (q,idx))}:JS)=l;have bo:∀W:World,bV W a tb gs n sb mb h b->Cv 93 #[.pointer tb,.agg #[q,idx]] W λe w'=>∃ba,e=.returned ba/\(ba=.agg #[L,M,N,O,P,.bool Q]/\bV w' a tb gs n sb mb h l/\XJ n mb tb a W w'):=λW bg=>by have⟨v,tr,bp⟩:=bg.iO;refine(UD (q,idx) W bg.aY tr cv.out ea).mono ?_;rintro e w' ⟨h1,h2,⟨gn,du,dv⟩,b7⟩;exact⟨_,h1,F,by rw[<-ae];exact bg.Sd b7 h2 du (bp.1.trans dv),XJ.Nb b7⟩
   change Hid _ at ae F;have bh:Hid (∀(de:Array Value) (w:World),(callFunc 93 de).run Vp w=.ok (.enter 93 de) w):=λ_ _=>by kernel_rfl
   have bf:=j.keep (cM B0);have bd:bV (d.drew.alloc (.cells [.string ⟨#[]⟩,.int .i64 0,.int .i64 0,.string ⟨#[]⟩,.int .i64 0,.bool false].toArray 60)) a tb gs n sb mb h b:=bf.keep (B0.alloc L9 _);have bz:=aX d.drew ↑() 60;have b0:Hid (∀w1,XJ n mb tb a d.drew w1->bV w1 a tb gs n sb mb h l->(d:Nat)<=(w1:Nat)/\Row (w1.alloc (.cells [.string L,.int .i64 M,.int .i64 N,.string O,.int .i64 P,.bool Q].toArray 60)) (w1:Nat) 60 [L,M,N,O,P,.bool Q]/\XJ n mb tb a d (w1.alloc (.cells [.string L,.int .i64 M,.int .i64 N,.string O,.int .i64 P,.bool Q].toArray 60))/\bV (w1.alloc (.cells [.string L,.int .i64 M,.int .i64 N,.string O,.int .i64 P,.bool Q].toArray 60)) a tb gs n sb mb h l):=λw1 x h=>⟨x.size,aX w1 _ _,(qY (wQ (iZ _ d)) x).alloc _,h.keep (B0.alloc L9 _)⟩;have ca:Hid (∀w1,XJ n mb tb a (d.drew.alloc (.cells [.string ⟨#[]⟩,.int .i64 0,.int .i64 0,.string ⟨#[]⟩,.int .i64 0,.bool false].toArray 60)) w1->Row w1 ↑d 60 ↑()/\XJ n mb tb a d w1):=λw1 x=>⟨bz.xj bd x D9 D9 D9 D9,qY ((wQ (iZ _ d)).alloc _) x⟩;have b4:Hid (∀w1,Row w1 ↑d 60 ↑()->XJ n mb tb a d w1->bV w1 a tb gs n sb mb h l->(d:Nat)<=(d:Nat)/\Row (BP w1 ↑d ↑L ↑M ↑N ↑O ↑P (.bool Q)) ↑d 60 [L,M,N,O,P,.bool Q]/\XJ n mb tb a d (BP w1 ↑d ↑L ↑M ↑N ↑O ↑P (.bool Q))/\bV (BP w1 ↑d ↑L ↑M ↑N ↑O ↑P (.bool Q)) a tb gs n sb mb h l):=λw1 r x h=>⟨L9,r.rA _ _ _ _ _ _,Sa x _ _ _ _ _ _ _ O9,h.rA r _ _ _ _ _ _ D9 D9 D9 D9 D9 D9⟩;have cr:=bo d.drew bf;have cu:=bo (d.drew.alloc (.cells ↑() 60)) bd;clear bo bz bd bf;have c0:=E.r 0;have c1:=E.r 1;have eu:=j.c0;have y1:=E.lt;have dh:a<(d:Nat):=by obtain⟨tv,A,_⟩:=j.row;exact A.lt
   go_cut [8] (λs wx=>∃B,s=.pointer (some ⟨B,0,none⟩)/\(d:Nat)<=B/\Row wx B 60 [L,M,N,O,P,.bool Q]/\XJ n mb tb a d wx/\bV wx a tb gs n sb mb h l);case first=>
    go_region_law (first|(refine jR 93 rfl _ _ rfl #[.pointer tb,.agg #[q,idx]] E9 _ cr (bh.out _ _) ?_;rintro ba w1 ⟨rfl,z,H⟩)|(refine jR 93 rfl _ _ rfl #[.pointer tb,.agg #[q,idx]] E9 _ cu (bh.out _ _) ?_;rintro ba w1 ⟨rfl,z,H⟩;obtain⟨RB,e8⟩:=ca.out w1 H;have dk:=RB.cell 0;have dm:=RB.cell 1;have dn:=RB.cell 2;have dp:=RB.cell 3;have dq:=RB.cell 4;have dt:=RB.cell 5;simp only[mI,py]at dk dm dn dp dq dt;have f0:=RB.frozen 0;have f1:=RB.frozen 1;have f2:=RB.frozen 2;have fe:=RB.frozen 3;have ff:=RB.frozen 4;have fg:=RB.frozen 5));all_goals go_wp2
    all_goals go_meet
    all_goals first
     |exact⟨_,rfl,b0.out w1 H z⟩
     |exact⟨_,rfl,b4.out w1 RB e8 z⟩
   case rest=>obtain⟨B,rfl,fh,R,H,z⟩:=hcut;replace f:=f.xj j H D9 D9 D9 D9;replace E:=E.xj j H D9 D9 D9 D9;replace m:=m.xj j H D9 D9 D9 D9;replace y:=y.xj j H D9 D9 D9 D9;have br:XJ n mb tb a w wc:=qY bq H;clear cr cu b0 b4 ca c0 c1 eu y1 dh H bq j bh cv;cases J:b.K (q,idx)with
    |none=>
      replace F:=F.out;rw[J]at F;simp only[qO,R8,QJ,QK,vM,GW,GX,GY,vL,rC]at F;obtain⟨rfl,rfl,rfl,rfl,rfl,rfl⟩:=F;have aj:kB id h x.ins 0 s=(15,sp,b):=by have:=C.out.same;rw[V.out,ao.out,tO (x:=⟨q,idx,p⟩) J]at this;exact this
      have T:Hid (fE x h s=(15,b)):=by have:=ab.out;rw[aj]at this;exact this
      have cw:l=b:=by rw[<-ae.out,J,UK J];rfl
      rw[cw]at z;clear aj J cw;have t5:=R.r 5;go_wp2;go_ret;exact⟨by rw[T.out];rfl,by rw[T.out];exact z,br⟩
    |some cn=>
      have⟨a7,n2,μ,D,a8⟩:=cn;replace F:=F.out;rw[J]at F;simp only[qO,cP.v,QJ,QK,vM,GW,GX,GY,vL,rC]at F;obtain⟨rfl,rfl,rfl,rfl,rfl,rfl⟩:=F;have cb:=aL (C.out.next (i:=⟨q,idx,p⟩) (by exact ao.out) J);rw[V.out]at cb;have c7:=C.out.ok _ _ J;simp only at c7;have eg:=C.out.sp0;have eh:=C.out.sp1;have cx:Hid ({l with cE:=l.cE++[⟨p,D,id,h⟩]}=FO id h ⟨q,idx,p⟩ ⟨a7,n2,μ,D,a8⟩ b):=by unfold Hid;rw[<-ae.out,J];rfl
      have ek:l.cE.length<=100000:=by rw[<-ae.out];have:=C.out.cE;show b.cE.length<=_;omega
      clear J;have⟨tv,A,ag⟩:=z.row;obtain⟨ta,ai,rfl⟩:=bD ag;have⟨gg,cm,eo,ep,et⟩:=info_parts Sj;have bu:=aX wc.drew [p,D,id,h] 247;have bx:(wc.drew.alloc (.cells [.string p,.string D,.string id,.int .i64 h].toArray 247)).ownsRow ↑kD.w0 247 4 (.slice ta l.cE.length ai) l.cE.length (bA l.cE):=oL (Sc ag) _;have B1:kD.w0.heap.size<=(wc.drew.alloc (.cells [.string p,.string D,.string id,.int .i64 h].toArray 247)).heap.size:=by rw[bJ];obtain⟨v,tr,bp,_⟩:=z.iO;have:=bp.1;show _<=(wc:Nat)+1;omega
      have b6:∀u∈[Value.string p,↑D,↑id,↑h],u.oneCell'=true:=by intro u cz;simp only[iL,nR,nS]at cz;obtain rfl|rfl|rfl|rfl:=cz<;>rfl
      have fin:Hid (∀(v1:Value) (w1:World),(wc.drew.alloc (.cells [.string p,.string D,.string id,.int .i64 h].toArray 247)).grownBy w1 (Value.slice ta l.cE.length ai).ownBlock->w1.ownsRow ↑kD.w0 247 4 v1 (l.cE.length+1) (bA l.cE++[.string p,.string D,.string id,.int .i64 h])->(Row w1 a 226 [ptr tb,h,↑l.fX,.slice ta l.cE.length ai]/\Row w1 ↑w 155 [id,.slice gi li ci,.slice g lo c]/\Row w1 I 133 [q,idx,p]/\Row w1 B 60 [a7,n2,μ,D,a8,aD])/\
       bV (w1.setCell (a,3) v1) a tb gs n sb mb h (FO id h ⟨q,idx,p⟩ ⟨a7,n2,μ,D,a8⟩ b)/\Row (w1.setCell (a,3) v1) ↑w 155 [id,.slice gi li ci,.slice g lo c]/\Row (w1.setCell (a,3) v1) g 69 (lO x.outs)/\Row (w1.setCell (a,3) v1) gi 133 (mZ x.ins)/\XJ n mb tb a w (w1.setCell (a,3) v1)/\Row (w1.setCell (a,3) v1) I 133 [q,idx,p]/\Row (w1.setCell (a,3) v1) B 60 [a7,n2,μ,D,a8,aD]):=λv1 w1 eb ee=>by
       have⟨Y,ah,au,S⟩:=bV.push (t:=⟨p,D,id,h⟩) z A ag eb ee;rw[cx.out]at au;exact⟨⟨Y,f.xj z ah D9 D9 D9 D9,E.xj z ah D9 D9 D9 D9,R.xj z ah D9 D9 D9 D9⟩,au,f.xj z S D9 D9 D9 D9,m.xj z S D9 D9 D9 D9,y.xj z S D9 D9 D9 D9,qY br S,E.xj z S D9 D9 D9 D9,R.xj z S D9 D9 D9 D9⟩
      have t5:=R.r 5;have t2:=R.r 2;have t3:=R.r 3;have dd:=E.r 2;have a0:=f.r 0;have ew:=A.r 1;have ey:=A.r 3;have fc:=R.ne A D9;have e2:=E.ne A D9;have e3:=f.ne A D9;have y1:=R.lt;have dh:=E.lt;have gp:=f.lt;have gq:=A.lt;have fz:-9223372036854775808<=sp+μ/\sp+μ<9223372036854775808:=O9;clear A ag f E R m y z br cx C c7 eg eh;go_wp2;refine Cm 20 (λW=>W.cell? (a,3)=some (.slice ta l.cE.length ai)/\W.cell? (a,1)=some ↑h/\W.cell? ((w:Nat),0)=some ↑id/\W.cell? (I,2)=some ↑p/\W.cell? (B,3)=some ↑D) K8 ?_;have hS:(λW:World=>W.cell? (a,3)=some (.slice ta l.cE.length ai)/\W.cell? (a,1)=some ↑h/\W.cell? ((w:Nat),0)=some ↑id/\W.cell? (I,2)=some ↑p/\W.cell? (B,3)=some ↑D) wc.drew:=⟨ey,ew,a0,dd,t3⟩;iterate 16 (refine N7 hS ?_;simp only[Act.put,fU])
      refine zE 16 K8 rfl (λK hK=>?_);go_simp;have hA:Below wc wc (wc.drew.alloc (.cells [.string p,.string D,.string id,.int .i64 h].toArray 247)):=(cM B0).alloc L9 _;refine hK.out _ _ (λ_=>⟨aV hA ey,aV hA ew,aV hA a0,aV hA dd,aV hA t3⟩) ?_;clear hK K hS;try simp only[Act.put,fU]
      refine zE 17 K8 rfl (λK hK=>?_);refine yP aI.underlying103 cm eo ep et rfl D9 D9 ↑kD.w0 rfl _ _ rfl (.slice ta l.cE.length ai) l.cE.length (bA l.cE) E9 bx 1 [p,D,id,h] rfl (wc:Nat) 1 E9 bu b6 O9 ek B1 ?_;intro v1 w1 cf π l1;have⟨gk,gj,en⟩:=cO cf l.cE.length rfl;subst en;have⟨⟨Y,ah,au,S⟩,c8,da,e4,q8,e5,dc,db⟩:=fin.out _ _ π cf;have fa:=Y.r 3;have fb:=Y.frozen 3;have z3:=Y.lt;have z4:=Y.r 1;have z5:=ah.r 0;have di:=au.r 2;have dj:=S.r 3;refine hK.out _ _ (λ_=>⟨fa,z4,z5,di,dj⟩) ?_;clear hK K hA;have hS:(λW:World=>W.cell? (a,3)=some (.slice ta l.cE.length ai)/\W.cell? (a,1)=some ↑h/\W.cell? ((w:Nat),0)=some ↑id/\W.cell? (I,2)=some ↑p/\W.cell? (B,3)=some ↑D) w1:=⟨fa,z4,z5,di,dj⟩;show nY _ _ _ _ _ _ _ _ (Act.put _ (some 48) _) _;simp only[Act.put,fU];refine zE 18 K8 rfl (λK hK=>?_);go_simp;refine hK.out _ _ (λ_=>hS) ?_;clear hK K;try simp only[Act.put,fU]
      refine N7 hS ?_;simp only[Act.put,fU];refine zE 20 K8 rfl (λK hK=>?_);go_simp;refine hK.out _ _ (λh=>absurd rfl h) ?_;clear hK K hS;refine Xa K8 ?_ _;all_goals clear Y ah au S dc db fa fb z3 z4 z5 di dj t5 t2 t3 dd a0 ew ey bu bx B1 b6 fin cm
      all_goals go_wp2
      all_goals go_roundw
      all_goals first
       |exact⟨k+1,sp+μ,_,O9,by go_num,rfl,cb.out,c8,da,e4,q8,e5⟩
       |(simp[intOf];omega)
  .have ed:k=li:=O9;subst ed;have aj:kB id h x.ins 0 s=(0,sp,b):=by have:=C.same;rw[V,V3 O9]at this;exact this
   have bj:=C.fX;have ft:=C.sp0;have fu:=C.sp1;have fw:=C.steps;rw[aj]at ab;simp only[xN,Kj,zh]at ab;clear aj C;have e1:=f.r 2;change Hid _ at af a6 V a2;go_wp2;refine(cy.out wr ⟨g,c,by rw[af.out],m⟩).m1 λw1 ak=>?_;replace j:=j.keep ak;replace f:=f.keep ak f.lt;replace m:=m.keep ak m.lt;have dg:XJ n mb tb a w w1:=R7 bb ak;clear bb ak e1 y;by_cases aW:sp<G
   .have T:Hid (fE x h s=(16,b)):=by have:=ab.out;rw[bE aW]at this;exact this
    go_wp2;go_ret;exact⟨by rw[T.out];rfl,by rw[T.out];exact j,dg⟩
   .have T:Hid (fE x h s=dO x h {b with fX:=b.fX+(sp -G)}):=by have:=ab.out;rw[aS aW]at this;exact this
    have⟨tv,A,ag⟩:=j.row;have gl:=A.r 2;have f2:=A.frozen 2;have ez:=f.ne A D9;have b8:=aL (j.fee (b.fX+(sp -G)));clear A ag;have av:=f.aO (a,2) ↑(b.fX+(sp -G)) ez;have bc:Row (w1.setCell (a,2) ↑(b.fX+(sp -G))) g 69 (lO x.outs):=m.aO (a,2) _ (by obtain⟨tv,A,_⟩:=j.row;exact m.ne A D9);have ga:-9223372036854775808<=sp -G/\sp -G<9223372036854775808:=O9;have gd:-9223372036854775808<=b.fX+(sp -G)/\b.fX+(sp -G)<9223372036854775808:=by rw[bj];omega
    replace bj:=aL bj;have t0:=av.r 0;have t1:=av.r 1;have t2:=av.r 2;have u0:=f.r 0;have gm:=f.r 1;have dd:=f.r 2;replace bc:=aL bc;clear av f m j;go_wp2;refine(cj.out _ {b with fX:=b.fX+(sp -G)} gi k ci b8.out.1 (by show b.steps.length+8<=_;omega) ⟨g,c,by rw[af.out],bc.out⟩).mono ?_;rintro e w2 ⟨rfl,dx,e9⟩;go_wp2;go_ret;exact⟨by rw[T.out];rfl,by rw[T.out];exact dx,qY (qY dg b8.out.2) e9⟩
def Nf:=@cell_regrown
def cF.v(t:cF):Value:=.agg #[.string t.key,.string t.lock,.string t.id,.int .i64 t.aW]
def bytes_beq(a b:ByteArray):(a.toList==b.toList)=decide (a=b):=by
 by_cases h:a=b;.simp_all
 .rw[kU h,QI];intro e;apply h;rw[ByteArray.toList_eq,ByteArray.toList_eq]at e;have⟨⟨x⟩⟩:=a;simp only at e;rw[e]
def qp{a b:ByteArray}(h:a≠b):a.toList≠b.toList:=by have:=bytes_beq a b;rw[kU h]at this;simpa using this
def Zv{a b c a' e f d d'}(h:(⟨a,b,c,d⟩:cF)≠⟨a',e,f,d'⟩):a.toList≠a'.toList\/(a.toList=a'.toList/\b.toList≠e.toList)\/(a.toList=a'.toList/\b.toList=e.toList/\c.toList≠f.toList)\/(a.toList=a'.toList/\b.toList=e.toList/\c.toList=f.toList/\d≠d'):=by
 by_cases g:a=a'
 .subst g;by_cases i:b=e
  .subst i;by_cases j:c=f;.simp_all
   .exact .inr (.inr (.inl ⟨rfl,rfl,qp j⟩))
  .exact .inr (.inl ⟨rfl,qp i⟩)
 .exact .inl (qp g)
def UL(s t:cF)(w):(binOp .eql 247 s.v t.v).run Vp w=.ok (.bool (decide (s=t))) w:=by
 have⟨a,b,c,d⟩:=s;have⟨a',e,f,d'⟩:=t;unfold cF.v;rw[run_eql_struct];obtain⟨m,l⟩:∃m,10000=m+2:=⟨9998,rfl⟩;rw[l];have k:decide (({key:=a,lock:=b,id:=c,aW:=d}:cF)=⟨a',e,f,d'⟩)=(decide (a=a')&&(decide (b=e)&&(decide (c=f)&&decide (d=d')))):=by rw[Bool.eq_iff_iff];simp
 rw[k];by_cases g:a=a'<;>by_cases h:b=e<;>by_cases i:c=f<;>by_cases j:d=d'<;>simp[go_sem,bytes_beq,g,h,i,j]
def C0:∀l i x,l[i]?=some x->(bA l)[i*4]?=some x.key/\(bA l)[i*4+1]?=some (.string x.lock)/\(bA l)[i*4+2]?=some (.string x.id)/\(bA l)[i*4+3]?=some (.int .i64 x.aW)
 |[],i,x,h=>by simp at h
 |y::l,0,x,h=>by simp at h;subst h;exact⟨rfl,rfl,rfl,rfl⟩
 |y::l,i+1,x,h=>by have:=C0 l i x (by simpa using h);have e:bA (y::l)=y.cells++bA l:=rfl;rw[e];simp[show(i+1)*4=4+i*4 from by omega,show 4+i*4+1=4+(i*4+1)from by omega,show 4+i*4+2=4+(i*4+2)from by omega,show 4+i*4+3=4+(i*4+3)from by omega];have a:y.cells.length=4:=rfl;rw[dU O9,dU O9,dU O9,dU O9];simpa[a]using this
def tP{B}{w:World}{v l k x}(h:w.ownsRow B 247 4 v l.length (bA l))(d:l[k]?=some x):∃g c,v=.slice (some ⟨g,0,none⟩) l.length c/\g<w/\w.cell? ⟨g,k*4,none⟩=some x.key/\w.cell? ⟨g,k*4+1,none⟩=some x.lock/\w.cell? ⟨g,k*4+2,none⟩=some x.id/\w.cell? ⟨g,k*4+3,none⟩=some x.aW:=by
 have n:=(cB.1 d).1;have a:=λg (b:v.ownBlock=some g)=>h.cells (g:=g) b;obtain⟨_,h0⟩|⟨g,cap,cur,rfl,m,b,_⟩:=h.2;.omega
 .have a:=a g rfl;have⟨e,f,i,j⟩:=C0 l k x d;refine⟨g,cap,rfl,bF b,?_,?_,?_,?_⟩;.have:=a _ _ e;rwa [add0]at this
  .have:=a _ _ f;rwa [add0]at this
  .have:=a _ _ i;rwa [add0]at this
  .have:=a _ _ j;rwa [add0]at this
def UM{B}(t v l w)(m:w.ownsRow B 247 4 v l.length (bA l))(R:l.length<=100000):Cv 185 #[v,t.v] w λe w'=>(∃z,e=.returned (.int .i64 z)/\decide (0<=z)=decide (t∈l))/\Below w w w':=by
 have heq:=UL t;obtain⟨Y,π,rfl⟩:=bD m;have S:Hid (∀x∈l,x=t->t∈l):=λx o e=>e▸o;have⟨a,b,c,d⟩:=t;simp only[cF.v]at heq|-;have f:=aX w [a,b,c,d] 247;have h:Below w w (w.alloc (.cells #[a,b,c,d] 247)):=B0.alloc L9 _;replace m:=aT m h;go_enter fA func185,ntmps185;go_wp2;generalize w.alloc (.cells #[a,b,c,d] 247)=X at f h m|-;go_loopw [8] (λi wr=>∃k,k<=l.length/\i=k/\(∀j x,j<k->l[j]?=some x->⟨a,b,c,d⟩≠x)/\Below X X wr) (λi _=>l.length -(intOf i).toNat);exact⟨0,O9,rfl,λj x p=>by omega,B0⟩;case round=>
  obtain⟨k,Q,rfl,A,n⟩:=hrel;by_cases C:k<l.length
  .have o:=bO C;have q:=sW C;generalize l[k]=x at o q;have⟨g,cc,K,P,T,μ,V,W⟩:=tP (aT m n) o;cases K;replace f:=f.keep n f.lt;have r0:wr.cell? ((w:Nat),0)=some a:=f.cell 0;have r1:wr.cell? ((w:Nat),1)=some b:=f.cell 1;have r2:wr.cell? ((w:Nat),2)=some c:=f.cell 2;have r3:wr.cell? ((w:Nat),3)=some d:=f.cell 3;have G:(0:Int)<=(k:Int):=O9;have⟨L,M,xc,N⟩:=x;by_cases s:(⟨a,b,c,d⟩:cF)=⟨L,M,xc,N⟩
   .cases s;replace q:=aL q;go_wp2;go_region;all_goals go_wp2
    all_goals go_ret
    all_goals exact⟨⟨(k:Int),rfl,by rw[nD q.out,nD G]⟩,cM (h.trans (n.mono h.size))⟩
   .have E:Hid (∀j x,j<k+1->l[j]?=some x->⟨a,b,c,d⟩≠x):=λj x p u=>by
     by_cases e:j=k;.subst e;rw[o]at u;cases u;exact s
     .exact A j x O9 u
    have I:=Zv s;obtain r|⟨r,y⟩|⟨r,y,D⟩|⟨r,y,D,O⟩:=I;all_goals go_wp2
    all_goals go_region
    all_goals go_wp2
    all_goals go_roundw
    all_goals first
     |exact⟨k+1,O9,by go_num,E.out,cM n⟩
     |(simp[intOf];omega)
  .have F:k=l.length:=O9;subst F;have J:Hid ((⟨a,b,c,d⟩:cF)∉l):=λH=>by have⟨j,p,e⟩:=List.getElem_of_mem H;exact A j _ p (bO p) e.symm
   go_wp2;go_ret;exact⟨⟨-1,rfl,by rw[kU J.out];rfl⟩,h.trans (n.mono h.size)⟩
def JB{B}(t v l w)(f:w.ownsRow B 247 4 v l.length (bA l))(k:l.length<=100000):Cv 168 #[v,t.v] w λe w'=>e=.returned (.bool (decide (t∈l)))/\Below w w w':=by
 have hi:∀W,W.ownsRow B 247 4 v l.length (bA l)->Cv 185 #[v,t.v] W λe w'=>(∃z:Int,e=.returned z/\decide (0<=z)=decide (t∈l))/\Below (W:Nat) W w':=λW h=>UM t v l W h k;have⟨a,b,c,d⟩:=t;simp[cF.v]at hi|-;have i:=aX w [a,b,c,d] 247;have g:Below w w (w.alloc (.cells #[a,b,c,d] 247)):=B0.alloc L9 _;replace f:=aT f g;go_enter fA func168,ntmps168;go_wp2;generalize w.alloc (.cells #[a,b,c,d] 247)=X at i g f|-;refine(hi X f).mono ?_;rintro e w1 ⟨⟨z,rfl,m⟩,j⟩;go_wp2;go_ret;exact⟨rfl,g.trans (j.mono g.size)⟩
def Sk{B b o}(t v l w)(j:w.cell? (b,o+1)=some v)(i:w.ownsRow B 247 4 v l.length (bA l))(m:l.length<=100000):Cv 161 #[.pointer (some ⟨b,o,none⟩),t.v] w λe w'=>e=.returned (.bool (decide (t∈l)))/\Below w w w':=by
 have hi:∀W,W.ownsRow B 247 4 v l.length (bA l)->Cv 168 #[v,t.v] W λe w'=>e=.returned (.bool (decide (t∈l)))/\Below (W:Nat) W w':=λW h=>JB t v l W h m;have⟨a,e,c,d⟩:=t;simp[cF.v]at hi|-;have f:=aX w [a,e,c,d] 247;have g:Below w w (w.alloc (.cells #[a,e,c,d] 247)):=B0.alloc L9 _;replace i:=aT i g;replace j:=aV g j;go_enter fA func161,ntmps161;go_wp2;generalize w.alloc (.cells #[a,e,c,d] 247)=X at f g i j|-;have k0:=Nf (show X.cell? ((w:Nat),0)=some a from f.cell 0);have u:=Nf (show X.cell? ((w:Nat),1)=some e from f.cell 1);have k2:=Nf (show X.cell? ((w:Nat),2)=some c from f.cell 2);have x:=Nf (show X.cell? ((w:Nat),3)=some d from f.cell 3);have y:=Nf j;have r:=λd os=>Calls.regrown_of (hi (Go.Sort.grow (redrawn X d) os) (aT i (below_regrown X d os)));refine wp_region_quiet_below Fg K8 ?_;repeat(go_big_quiet_step (first|(go_at_call 168;exact r _ _)))
 intro _ p;have⟨⟨k,q⟩,s⟩:=p;have n:=below_regrown X k q;go_wp2;go_ret;exact⟨rfl,g.trans (n.mono g.size)⟩
def fS(l ts:List cF):List cF:=ts.filter λt=>!decide (t∈l)
def Gz{B w ops rest o a Q}(n:o.guard=none)(s x)(q:o.op=.call {callee:=.builtin .append,args:=#[s,x],argTypes:=#[103,103]})(v l)(t:a.eval s=v)(r:w.ownsRow B 247 4 v l.length (bA l))
 (d g)(y:a.eval x=.slice g 1 1)(m:Row w g 247 d.cells)(hlen:l.length<=1000000)(k:B<=↑w)
 (h:∀b w',w'.ownsRow B 247 4 b (l++[d]).length (bA (l++[d]))->w.grownBy w' v.ownBlock->(b.ownBlock=v.ownBlock\/b.ownBlock=some ↑w)->wpList Vp ops Q rest (a.put o.dst b) w'):wpList Vp ops Q (o::rest) a w:=by
 have⟨D,hi,z,A,C⟩:=info_parts Sj;refine wpList_append_own_at _ n s x 103 q B 247 D _ 4 56 aI.underlying103 hi z A C rfl D9 v l.length (bA l) t r (g,0) 1 1 d.cells y rfl (λj u p=>by rw[add0,m.cell];exact p) ?_ (by unfold maxLen;omega) O9 k ?_;.intro u c;simp[cF.cells]at c;obtain rfl|rfl|rfl|rfl:=c<;>rfl
 .intro b w' e f _ i;refine h b w' ?_ f i;rw[uM,bW];exact e
def Ng{B B' b o}(mv tv l a w)(V:w.cell? (b,o+1)=some mv)(T:w.ownsRow B 247 4 mv l.length (bA l))(C:w.ownsRow B' 247 4 tv a.length (bA a))(aa:l.length<=100000)(ak:a.length<=100000):Cv 154 #[.pointer (some ⟨b,o,none⟩),tv] w λe w'=>∃N,e=.returned N/\w'.ownsRow w 247 4 N (fS l a).length (bA (fS l a))/\Below w w w':=by
 obtain⟨au,av,rfl⟩:=bD C;go_enter fA Tryz.func154,Tryz.ntmps154;go_wp2;go_loopw [5,10] (λf i wr=>∃k,k<=a.length/\i=k/\wr.ownsRow w 247 4 f (fS l (a.take k)).length (bA (fS l (a.take k)))/\Below w w wr) (λ_ i _=>a.length -(intOf i).toNat);exact⟨0,O9,rfl,mN _ _ _ _,B0⟩;case round=>
  rename_i f _ _;obtain⟨k,ah,rfl,d,c⟩:=hrel;by_cases H:k<a.length
  .have A:=bO H;have z:a.take (k+1)=a.take k++[a[k]]:=by rw[vR H]
   have G:(fS l (a.take k)).length<=1000000:=by have:=J9 (λt=>!decide (t∈l)) (a.take k);rw[iU]at this;unfold fS;omega
   generalize a[k]=x at A z;have q:Hid (fS l (a.take (k+1))=fS l (a.take k)++(if decide (x∈l)then[]else[x])):=by unfold Hid fS;rw[z,List.filter_append];congr 1;by_cases ae:x∈l<;>simp[ae]
   have⟨g,cc,af,Y,J,K,L,M⟩:=tP (aT C c) A;cases af;obtain⟨s,u,rfl⟩:=bD d;have ai:(0:Int)<=(k:Int):=O9;have aj:(k:Int)<(a.length:Int):=O9;have r:∀W,Below w w W->Cv 161 #[.pointer (b,o),x.v] W λe w'=>e=.returned (.bool (decide (x∈l)))/\Below (W:Nat) W w':=λW E=>Sk x mv l W (aV E V) (aT T E) aa;clear z A;generalize X:decide (x∈l)=R at q r;clear X;generalize F:fS l (a.take k)=fk at d G q|-;replace F:=aL F;have⟨j,m,xc,n⟩:=x;simp only[cF.v]at J K L M r;have h:=aX wr [j,m,xc,n] 247;have y:Below wr wr (wr.alloc (.cells #[j,m,xc,n] 247)):=B0.alloc L9 _;replace d:=aT d y;replace c:=c.trans (y.mono c.size);go_wp2;generalize wr.alloc (.cells #[j,m,xc,n] 247)=Q at h d c|-;generalize(wr:Nat)=I at h|-;refine(r Q c).m1 λw1 p=>?_;replace h:=h.keep p h.lt;replace d:=aT d p;replace c:=c.trans (p.mono c.size);clear p r y J K L M Y;cases R with
   |true=>go_wp2;go_roundw;exact⟨k+1,O9,by go_num,by rw[q.out];simpa using d,c⟩;simp[intOf];omega
   |false=>
     have r0:w1.cell? (I,0)=some j:=h.cell 0;have r1:w1.cell? (I,1)=some m:=h.cell 1;have r2:w1.cell? (I,2)=some xc:=h.cell 2;have r3:w1.cell? (I,3)=some n:=h.cell 3;have O:=aX w1 [j,m,xc,n] 247;have P:=oL d (.cells #[j,m,xc,n] 247);have B1:(w:Nat)<=(w1.alloc (.cells #[j,m,xc,n] 247)).heap.size:=by rw[bJ];have:=c.size;omega
     have μ:Below w w (w1.alloc (.cells #[j,m,xc,n] 247)):=c.alloc c.size _;have ab:∀k,(Value.slice s fk.length u).ownBlock=some k->(w:Nat)<=k:=λk e=>(bU d e).1;go_wp2_with (refine Gz rfl _ _ rfl (.slice s fk.length u) fk E9 P ⟨j,m,xc,n⟩ (w1:Nat) E9 O G B1 ?_;intro v2 w2 D S l2;obtain⟨ar,ao,ag⟩:=cO D fk.length S8;subst ag);go_roundw;exact⟨k+1,O9,by go_num,by rw[q.out];exact D,μ.trans (Zg S B1 ab)⟩;simp[intOf];omega
  .have π:k=a.length:=O9;subst π;rw[iB]at d;obtain⟨s,u,rfl⟩:=bD d;go_wp2;go_ret;exact⟨_,rfl,d,c⟩
def Sl:=@World.grownBy.trans
def putAt(cs:List Value):Nat->List Value->List Value
 |_,[]=>cs
 |o,v::r=>putAt (cs.set o v) (o+1) r
def Row.setCells{g t}:∀a o w cs,Row w g t cs->Row (w.setCells g o a) g t (putAt cs o a)
 |[],_,_,_,h=>h
 |v::r,o,w,cs,h=>Row.setCells r (o+1) _ _ (h.set o v)
def afR:=@Row.setCells
def Io:∀c a old b,old.length=c.length->putAt (a++(old++b)) a.length c=a++(c++b)
 |[],a,old,b,h=>by have:old=[]:=nP (by simpa using h);rw[this];rfl
 |v::r,a,[],b,h=>by simp at h
 |v::r,a,o::old,b,h=>by show putAt ((a++(o::old++b)).set a.length v) (a.length+1) r=_;rw[uR _ _ L9];simp;have:=Io r (a++[v]) old b (by simpa using h);simp at this;rw[this]
def C2(g):∀(a:List Value) (o:Nat) (w:World),w.grownBy (w.setCells g o a) (some g)
 |[],_,w=>aZ w _
 |v::r,o,w=>Sl (bR w (g,o) v) (C2 g r (o+1) _)
def Nh(l):(bA l).length=l.length*4:=by induction l with
 |nil=>rfl
 |cons x l a=>simp only[bA,uU,bW]at*;simp only[cF.cells,fG,jW];omega
def Ni(l):∀u∈bA l,u.oneCell'=true:=by intro u b;have⟨t,_,a⟩:=List.mem_flatMap.1 b;simp[cF.cells]at a;obtain rfl|rfl|rfl|rfl:=a<;>rfl
def UN{B w g n cap b}(h:w.ownsRow B 247 4 (.slice g n cap) n b):∃sp,Row w g 247 (b++sp)/\B<=g/\n<=cap/\cap<=maxLen/\(b++sp).length=cap*4:=by
 obtain⟨a,_⟩|⟨g',j,cur,a,f,i,c,d,k,e⟩:=h.2;.cases a
 .cases a;refine⟨cur.toList.drop (n*4),?_,f,c,d,?_⟩;.rw[<-e,zk];unfold Row;rw[i]
  .grind
def ab3{B w g n cap a sp}(h:Row w g 247 (a++sp))(f:B<=g)(c:n<=cap)(d:cap<=maxLen)(e:(a++sp).length=cap*4)(b:a.length=n*4):w.ownsRow B 247 4 (.slice g n cap) n a:=⟨b,.inr ⟨g,cap,(a++sp).toArray,rfl,f,h,c,d,by simpa using e,by rw[<-b];simp⟩⟩
def vr:List Value:=[↑aB,↑aB,↑aB,↑aA]
def FP(w ty g k c a old sp)(d:Row w g 247 (a++(old++sp)))(j:a.length=k)(p:old.length=4):∃w',(Builtin.clear_ #[103] ty #[.slice (g,k) 1 c]).run Vp w=.ok (.tuple #[]) w'/\Row w' g 247 (a++(vr++sp))/\w.grownBy w' (some g):=by
 have q:=aI.underlying103;have n:Builtin.zeroCells (Value.agg #[aB,aB,aB,aA]).cells 1=vr.toArray:=K8;have b:=run_storeCells_at (P:=Vp) g k 247 vr 0 (a++(old++sp)).toArray w d (by simp[vr];omega) (by intro v f;simp[vr]at f;obtain rfl|rfl|rfl|rfl:=f<;>rfl);have m:(Builtin.clear_ #[103] ty #[.slice (g,k) 1 c]).run Vp w=.ok (.tuple #[]) (w.setRow g (a++(vr++sp)).toArray):=by
  simp only[DT]at b;have e:((a++(old++sp)).toArray.toList.take k++vr++(a++(old++sp)).toArray.toList.drop (k+vr.length))=a++(vr++sp):=by
   subst j;have o:vr.length=4:=rfl;have h:(a++(old++sp)).drop (a.length+4)=sp:=by simp_all
   rw[o,h,List.take_left,iM]
  rw[e]at b;simp[Builtin.clear_,n,b]
 refine⟨_,m,?_,?_⟩;.unfold Row;rw[setRow_heap w g _ _ _ _ d]
 .refine⟨rfl,rfl,rfl,by simp[World.setRow],λi hi l=>setRow_other _ _ _ _ (λe=>l (by rw[e]))⟩
def PU{B g cap}(t r w)(s:w.ownsRow B 247 4 (.slice g (t::r).length cap) (t::r).length (bA (t::r)))(L:r.length<=1000):Cv 167 #[.slice (some ⟨g,0,none⟩) (t::r).length cap,aA,aG] w λe w'=>e=.returned (.slice g r.length cap)/\w'.ownsRow B 247 4 (.slice g r.length cap) r.length (bA r)/\w.grownBy w' (some g):=by
 have⟨sp,a,E,n,D,f⟩:=UN s;have⟨C,h,M,A,N⟩:=info_parts Sj;have z:bA (t::r)=t.cells++bA r:=rfl;rw[z]at a f;have i:=Nh r;have y:=Ni r;have q:(t.cells++bA r).length=(bA r).length+4:=by simp only[bW];show 4+_=_;omega
 have I:∃old,old.length=4/\putAt (t.cells++bA r++sp) 0 (bA r)=bA r++(old++sp):=by refine⟨(t.cells++bA r).drop (bA r).length,by rw[Cc];omega,?_⟩;have:=Io (bA r) [] ((t.cells++bA r).take (bA r).length) ((t.cells++bA r).drop (bA r).length++sp) (by rw[iU];omega);simp only[vP,jW]at this;rw[<-iM,zk]at this;rw[this]
 have⟨old,x,p⟩:=I;simp only[fG]at n f|-;have o:∀j u,(bA r)[j]?=some u->w.drew.cell? (((g,4):Addr).add j)=some u:=λj u b=>by
  have e:((g,4):Addr).add j=(g,4+j):=by unfold Addr.add;split<;>simp_all
  rw[e];have:=(jZ a).cell (4+j);rw[this,iM,dU (by show 4<=_;omega)];show(bA r++sp)[4+j -4]?=_;rw[show 4+j -4=j from by omega,mG (cB.1 b).1];exact b
 have k:∀j,j<(bA r).length->(w.drew.cell? (g,0+0*4+j)).isSome=true/\w.drew.frozen? (g,0+0*4+j)=false:=λj b=>by refine⟨?_,(jZ a).frozen _⟩;rw[(jZ a).cell,bO (by simp only[bW]at q|-;omega)];rfl
 have c:Row (w.drew.setCells g (0+0*4) (bA r)) g 247 (bA r++(old++sp)):=by have:=afR (bA r) 0 w.drew _ (jZ a);rw[p]at this;exact this
 have d:w.grownBy (w.drew.setCells g (0+0*4) (bA r)) (some g):=Sl (fI (aZ w _)) (C2 g (bA r) _ w.drew);have K:=n;have fin:Hid (∀w',Row w' g 247 (bA r++(vr++sp))->w'.ownsRow B 247 4 (.slice g r.length cap) r.length (bA r)):=λw' J=>ab3 J E O9 D (by simp only[bW]at f q|-;rw[show vr.length=4 from rfl];omega) i;have O:(1:Int)<=(r.length:Int)+1:=O9;have P:(r.length:Int)+1<=(cap:Int):=O9;have Q:(0:Int)<=(r.length:Int):=O9;have R:(r.length:Int)<=(r.length:Int)+1:=O9;replace p:=aL p;clear s a z f q n;by_cases F:cap=1
 .have H:r=[]:=nP O9;subst F H;have v:∀j u,(bA [])[j]?=some u->w.drew.cell? (((g,0):Addr).add j)=some u:=λj u b=>by simp[bA]at b
  clear o;go_enter fA func167,ntmps167;go_wp2;go_region_law (refine step_append_room rfl _ _ 103 rfl 247 C 4 aI.underlying103 h A g 0 0 1 (by simp[Act.eval,Act.put]) (g,0) 0 0 (bA []) (by simp[Act.eval,Act.put]) i v y O9 k ?_);all_goals generalize w.drew.setCells g (0+0*4) (bA [])=W at c d|-
  all_goals clear v k h
  all_goals obtain⟨w2,G,l,m⟩:=FP W 0 g 0 1 (bA []) old sp c rfl x
  all_goals go_wp2
  all_goals go_ret
  all_goals exact⟨rfl,fin.out w2 l,Sl d m⟩
 .go_enter fA func167,ntmps167;go_wp2;go_region_law (refine step_append_room rfl _ _ 103 rfl 247 C 4 aI.underlying103 h A g 0 0 cap (by simp[Act.eval,Act.put]) (g,4) r.length (cap -1) (bA r) (by simp[Act.eval,Act.put]) i o y O9 k ?_);all_goals generalize w.drew.setCells g (0+0*4) (bA r)=W at c d|-
  all_goals clear o k h
  all_goals obtain⟨w2,G,l,m⟩:=FP W 0 g (r.length*4) (cap -r.length) (bA r) old sp c i x
  all_goals go_wp2
  all_goals go_ret
  all_goals exact⟨rfl,fin.out w2 l,Sl d m⟩
def vt(most:Nat)(t:cF)(l:List cF):List cF:=if t∈l then l else if most<(l++[t]).length then(l++[t]).drop 1 else l++[t]
structure iC(w:World)(nb B:Nat)(cs:List Value)(most:Nat)(mv:Value)(l:List cF):Prop where
 row:Row w nb 107 cs
 UO:cs[14]?=some (.int .i64 most)
 Ip:cs[15]?=some mv
 own:w.ownsRow B 247 4 mv l.length (bA l)
 base:B<=w.heap.size
def iC.keep{w w' nb B cs b mv l}(h:iC w nb B cs b mv l)(a:Below w w w'):iC w' nb B cs b mv l:=⟨h.row.keep a h.row.lt,h.UO,h.Ip,aT h.own a,bI h.base a.size⟩
def MF(nb:Nat)(mv:Value)(k:Nat):Prop:=k=nb\/mv.ownBlock=some k
def Iq(cs:List Value)(a b):(cs.set 15 a).set 15 b=cs.set 15 b:=by simp
def qZ{cs:List Value}{a}(h:cs[15]?=some a):cs.set 15 a=cs:=by
 apply kI;intro i;by_cases e:i=15;.grind
 .grind
def iC.push{a w1 nb B cs f mv v1 l t o}(h:iC a nb B cs f mv l)(d:(a.drew.alloc o).grownBy w1 mv.ownBlock)(m:w1.ownsRow B 247 4 v1 (l.length+1) (bA l++t.cells))(j:v1.ownBlock=mv.ownBlock\/v1.ownBlock=some ↑(a.drew.alloc o)):Row w1 nb 107 cs/\iC (w1.setCell (nb,15) v1) nb B (cs.set 15 v1) f v1 (l++[t])/\Xc (MF nb mv) a (w1.setCell (nb,15) v1)/\(∀k,v1.ownBlock=some k->mv.ownBlock=some k\/a<=k):=by
 have b:Below a a (a.drew.alloc o):=(cM B0).alloc L9 _;have r0:=h.row.keep b h.row.lt;have n:=aT h.own b;have r1:Row w1 nb 107 cs:=(d.block nb r0.lt (λc=>dQ n r0 D9 c.symm)).trans r0;have g:Xc (MF nb mv) a w1:=(iN b).grown d (λk e _=>.inr e);refine⟨r1,⟨r1.set 15 v1,?_,?_,?_,?_⟩,g.setCell (nb,15) v1 (λ_=>.inl rfl),?_⟩;.rw[sV D9];exact h.UO
 .rw[QN (cB.1 h.Ip).1]
 .rw[uM,bW];exact bN m r1 D9
 .have:=(g.setCell (nb,15) v1 (λ_=>.inl rfl)).size;have:=h.base;omega
 .intro k i;obtain e|e:=j;.simp_all
  .rw[i]at e;have:=jX e;rw[bJ]at this;have p:a.drew.heap.size=(a:Nat):=rfl;omega
def Zw{nb B most cs mv l}(t w)(h:iC w nb B cs most mv l)(hl:l.length<=500)(hm:most<=1000):Cv 156 #[.pointer (nb,14),t.v] w λe w'=>e=.returned (.tuple #[])/\∃mv',iC w' nb B (cs.set 15 mv') most mv' (vt most t l)/\Xc (MF nb mv) w w'/\∀k,mv'.ownBlock=some k->mv.ownBlock=some k\/w<=k:=by
 have hhs:∀W,iC W nb B cs most mv l->Cv 161 #[.pointer (nb,14),t.v] W λe w'=>e=.returned (.bool (decide (t∈l)))/\Below (W:Nat) W w':=λW hW=>Sk (b:=nb) (o:=14) t mv l W (by rw[hW.row.cell];exact hW.Ip) hW.own O9;have hno:Hid (vt most t l=if t∈l then l else if most<(l++[t]).length then(l++[t]).drop 1 else l++[t]):=rfl;obtain⟨va,vc,rfl⟩:=bD h.own;have R0:=aX w t.cells 247;have hb0:Below w w (w.alloc (.cells t.cells.toArray 247)):=B0.alloc L9 _;replace h:=h.keep hb0;have hcl:Hid (∀l':List cF,bA l'++t.cells=bA l'++t.cells):=λ_=>rfl;by_cases hin:t∈l
 .have hn1:Hid (vt most t l=l):=by have:=hno.out;rw[bE hin]at this;exact this
  rw[nD hin]at hhs;replace hin:=aL hin;have⟨ta,GA,tc,td⟩:=t;simp only[cF.v,cF.cells]at hhs R0 hb0 h|-;go_enter fA func156,ntmps156;go_wp2;generalize w.alloc (.cells #[ta,GA,tc,td] 247)=X at R0 hb0 h|-;refine(hhs X h).m1 λw1 hb1=>?_;replace h:=h.keep hb1;go_wp2;refine nG (Kq rfl _ _ _) rfl ?_;refine⟨rfl,_,?_,iN (hb0.trans (hb1.mono hb0.size)),λk e=>.inl e⟩;rw[hn1.out,qZ h.Ip];exact h
 .rw[kU hin]at hhs;have⟨ta,GA,tc,td⟩:=t;simp only[cF.v,cF.cells]at hhs R0 hb0 h|-;have hn1:Hid (vt most ⟨ta,GA,tc,td⟩ l=if most<(l++[(⟨ta,GA,tc,td⟩:cF)]).length then(l++[(⟨ta,GA,tc,td⟩:cF)]).drop 1 else l++[⟨ta,GA,tc,td⟩]):=by have:=hno.out;rw[aS hin]at this;exact this
  clear hno hin hcl;go_enter fA func156,ntmps156;go_wp2;generalize w.alloc (.cells #[ta,GA,tc,td] 247)=X at R0 hb0 h|-;refine(hhs X h).m1 λw1 hb1=>?_;replace h:=h.keep hb1;replace R0:=R0.keep hb1 R0.lt;replace hb0:=hb0.trans (hb1.mono hb0.size);clear hb1 hhs;go_wp2;have⟨i1,hi1,agC,agD,agE⟩:=info_parts Sj;have N1:=aX w1.drew [ta,GA,tc,td] 247;have O2:(w1.drew.alloc (.cells [.string ta,.string GA,.string tc,.int .i64 td].toArray 247)).ownsRow B 247 4 (.slice va l.length vc) l.length (bA l):=oL (Sc h.own) _;have B1:B<=(w1.drew.alloc (.cells [.string ta,.string GA,.string tc,.int .i64 td].toArray 247)).heap.size:=by rw[bJ];have:=h.base;show _<=(w1:Nat)+1;omega
  have h1c:∀u∈[Value.string ta,↑GA,↑tc,↑td],u.oneCell'=true:=by intro u hu;simp only[iL,nR,nS]at hu;obtain rfl|rfl|rfl|rfl:=hu<;>rfl
  have fin:Hid (∀(v2:Value) (w2:World),(w1.drew.alloc (.cells [.string ta,.string GA,.string tc,.int .i64 td].toArray 247)).grownBy w2 (Value.slice va l.length vc).ownBlock->w2.ownsRow B 247 4 v2 (l.length+1) (bA l++[.string ta,.string GA,.string tc,.int .i64 td])->(v2.ownBlock=(Value.slice va l.length vc).ownBlock\/v2.ownBlock=some ↑(w1.drew.alloc (.cells [.string ta,.string GA,.string tc,.int .i64 td].toArray 247)))->Row w2 nb 107 cs/\iC (w2.setCell (nb,15) v2) nb B (cs.set 15 v2) most v2 (l++[⟨ta,GA,tc,td⟩])/\Xc (MF nb (.slice va l.length vc)) w1 (w2.setCell (nb,15) v2)/\(∀k,v2.ownBlock=some k->(Value.slice va l.length vc).ownBlock=some k\/(w1:Nat)<=k)):=λv2 w2 hg ho hw=>iC.push (t:=⟨ta,GA,tc,td⟩) h hg ho hw
  have c0:=R0.r 0;have c1:=R0.r 1;have c2:=R0.r 2;have c3:=R0.r 3;have n15:w1.cell? (nb,15)=some (.slice va l.length vc):=by rw[h.row.cell];exact h.Ip
  have y1:=R0.lt;have y2:=h.row.lt;go_cut [] (λwx=>∃v2,iC wx nb B (cs.set 15 v2) most v2 (l++[⟨ta,GA,tc,td⟩])/\Xc (MF nb (.slice va l.length vc)) w1 wx/\(∀k,v2.ownBlock=some k->(Value.slice va l.length vc).ownBlock=some k\/(w1:Nat)<=k));case first=>
   go_region_law (refine yP aI.underlying103 hi1 agC agD agE rfl D9 D9 B rfl _ _ rfl (.slice va l.length vc) l.length (bA l) E9 O2 1 [ta,GA,tc,td] rfl (w1:Nat) 1 E9 N1 h1c O9 O9 B1 ?_;intro v2 w2 hT2 g2 l2;obtain⟨ig,ic,hv2⟩:=cO hT2 l.length rfl;subst hv2;obtain⟨q1,q2,q3,q4⟩:=fin.out _ _ g2 hT2 l2;have z1:w2.cell? (nb,15)=some (.slice va l.length vc):=(by rw[q1.cell];exact h.Ip);have z2:=q1.frozen 15;have z3:=q1.lt);all_goals go_wp2
   all_goals go_meet
   all_goals exact⟨_,q2,q3,q4⟩
  case rest=>
   have⟨v2,hM,x2,hv2⟩:=hcut;clear fin N1 O2 B1 h1c c0 c1 c2 c3 n15 y1 y2 hi1 R0;have xw:=(iN hb0).trans x2 (λ_ _ e=>e);have hvw:Hid (∀k,v2.ownBlock=some k->(Value.slice va l.length vc).ownBlock=some k\/(w:Nat)<=k):=λk e=>(hv2 k e).imp id (λq=>bI hb0.size q);clear x2 hv2 hb0 h;obtain⟨t0,r,hLr⟩:∃t0 r,l++[(⟨ta,GA,tc,td⟩:cF)]=t0::r:=by cases l with
    |nil=>exact⟨_,_,rfl⟩
    |cons x l=>exact⟨_,_,rfl⟩
   have hrl:r.length=l.length:=by have:=congrArg List.length hLr;simp at this;omega
   rw[hLr]at hM hn1;replace hLr:=aL hLr;have⟨g,cap,hv⟩:=cO hM.own r.length S8;subst hv;have n14:wc.cell? (nb,14)=some ↑most:=by rw[hM.row.cell];exact hM.UO
   have n15:wc.cell? (nb,15)=some (.slice g (r.length+1) cap):=by rw[hM.row.cell];exact hM.Ip
   have hdl:Hid (∀W,W.ownsRow B 247 4 (.slice g (r.length+1) cap) (t0::r).length (bA (t0::r))->Cv 167 #[.slice g (r.length+1) cap,aA,aG] W λe w'=>e=.returned (.slice g r.length cap)/\w'.ownsRow B 247 4 (.slice g r.length cap) r.length (bA r)/\W.grownBy w' (some g)):=λW hW=>PU t0 r W hW O9;replace hrl:=aL hrl;by_cases aW:most<r.length+1
   .have hn2:Hid (vt most ⟨ta,GA,tc,td⟩ l=r):=by have:=hn1.out;rw[bE (show most<(t0::r).length from aW)]at this;exact this
    have hgi:(most:Int)<(r.length:Int)+1:=O9;go_wp2;go_region;all_goals go_wp2
    all_goals refine(hdl.out _ (by exact hM.own)).mono ?_
    all_goals rintro e w3 ⟨rfl,hO3,g3⟩
    all_goals(have hne:g≠nb:=λe=>dQ hM.own hM.row D9 (by rw[e];rfl))
    all_goals(have R3:Row w3 nb 107 (cs.set 15 (.slice g (r.length+1) cap)):=(g3.block nb hM.row.lt (λc=>hne (jX c).symm)).trans hM.row)
    all_goals(have m15:w3.cell? (nb,15)=some (.slice g (r.length+1) cap):=by rw[R3.cell];exact hM.Ip)
    all_goals(have f15:=R3.frozen 15)
    all_goals(have abh:Hid (iC (w3.setCell (nb,15) (.slice g r.length cap)) nb B (cs.set 15 (.slice g r.length cap)) most (.slice g r.length cap) r):=⟨by have:=R3.set 15 (.slice g r.length cap);rw[Iq]at this;exact this,by have:=hM.UO;rw[sV D9]at this|-;exact this,by have:=(cB.1 hM.Ip).1;rw[Kt]at this;rw[QN this],bN hO3 R3 D9,by have:=hM.base;have:=g3.size;have hd:wc.drew.heap.size=(wc:Nat):=rfl;have:=(bR w3 (nb,15) (.slice g r.length cap)).size;omega⟩)
    all_goals(have x3:Hid (Xc (MF nb (.slice va l.length vc)) w (w3.setCell ⟨nb,15,none⟩ (.slice (some ⟨g,0,none⟩) r.length cap))):=((wQ xw).grown g3 (λk e hk=>by cases e;exact(hvw.out g rfl).elim (λq=>.inr q) (λq=>by omega))).setCell ⟨nb,15,none⟩ _ (λ_=>.inl rfl))
    all_goals go_wp2
    all_goals go_end0
    all_goals exact⟨rfl,.slice g r.length cap,by rw[hn2.out];exact abh.out,x3.out,λk e=>hvw.out k e⟩
   .have hn2:Hid (vt most ⟨ta,GA,tc,td⟩ l=t0::r):=by have:=hn1.out;rw[aS (show¬most<(t0::r).length from aW)]at this;exact this
    have hgi:¬((most:Int)<(r.length:Int)+1):=O9;go_wp2;go_region;all_goals go_wp2
    all_goals go_end0
    all_goals exact⟨rfl,_,by rw[hn2.out];exact hM.keep (cM B0),wQ xw,λk e=>hvw.out k e⟩
end Go.Proofs.aH
