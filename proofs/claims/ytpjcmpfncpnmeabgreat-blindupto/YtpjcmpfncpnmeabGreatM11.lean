import Derived.Deep.RegionLaw
import Derived.ArgAppend
import Derived.Test.YtpjcmpfncpnmeabGreatM09
import Derived.Test.YtpjcmpfncpnmeabGreatM10
set_option linter.all false
set_option maxHeartbeats 16000000
set_option maxRecDepth 100000
namespace Go.Proofs.aH
open Go.RowKit Tryz
def jM(c n:Int):Int:=(if c<0 then-(c+1)else c)%n
def kN(c n)(h:0<n):0<=jM c n/\jM c n<n:=⟨QT _ O9,QU _ h⟩
def qJ(c n w)(d:0<n)(f:n<9223372036854775808)(a:-9223372036854775808<=c)(b:c<9223372036854775808):Cv 38 #[.int .i64 c,.int .i64 n] w λe w'=>e=.returned (jM c n)/\w'=w:=by
 by_cases h:c<0
 .have e:jM c n=(-(c+1)).tmod n:=by unfold jM;rw[if_pos h,Int.tmod_eq_emod_of_nonneg O9]
  replace e:=aL e;go_enter fA func38,ntmps38;go_wp2;go_ret;rw[e.out,Int.neg_tmod];exact⟨rfl,rfl⟩
 .have e:Hid (jM c n=c%n):=by unfold Hid jM;rw[if_neg h]
  go_enter fA func38,ntmps38;go_wp2;go_ret;rw[e.out];exact⟨rfl,rfl⟩
def afV(w):(Instr.makeSlice 127 (.int .i64 8) (.int .i64 8)).run Vp w=.ok (.slice (w:Nat) 8 8) (w.alloc (.cells #[.int .u8 0,.int .u8 0,.int .u8 0,.int .u8 0,.int .u8 0,.int .u8 0,.int .u8 0,.int .u8 0] 5)):=by have⟨d,hi,a,b,c⟩:=info_parts H6;have:=xG (P:=Vp) w 127 5 d _ aI.underlying127 hi a .i64 .i64 8 8 O9 (nA _) (by rw[c];omega) O9;rw[this,b];have e:madeCells (Value.int .u8 0).cells (Int.toNat 8*1)=#[.int .u8 0,.int .u8 0,.int .u8 0,.int .u8 0,.int .u8 0,.int .u8 0,.int .u8 0,.int .u8 0]:=K8;rw[e];rfl
def Uf(n m t)(c:t<8)(b:m=n/2^(8*t)):(List.replicate (8 -t) (Value.int .u8 0)++bv (be n t)).set (7 -t) (.int .u8 (m%256))=List.replicate (8 -(t+1)) (Value.int .u8 0)++bv (be n (t+1)):=by have e:8 -t=(8 -(t+1))+1:=O9;rw[e,List.replicate_succ',iG,uT _ _ (by rw[adh];omega)];have a:=dX (m%256) O9 O9;rw[b]at a|-;simp[be,bv,a]
def qK(n w)(h0:0<=n)(u:n<18446744073709551616):Cv 19 #[.int .u64 n] w λe w'=>e=.returned (mk (be n 8))/\Below w w w':=by
 have r:=afV;go_enter fA func19,ntmps19;go_wp2;clear r;go_loopw [0,4] (λs i wr=>∃(t:Nat) (m:Int),t<=8/\i=↑(7 -(t:Int))/\s=.int .u64 m/\m=n/2^(8*t)/\Row wr w 5 (List.replicate (8 -t) (Value.int .u8 0)++bv (be n t))/\Below w w wr) (λ_ i _=>(intOf i+1).toNat);exact⟨0,n,fJ _,rfl,rfl,S8,aU w _ _,B0.alloc L9 _⟩;case round=>
  obtain⟨t,m,A,rfl,rfl,b,R,g⟩:=hrel;have y:0<=m:=by rw[b];exact Int.ediv_nonneg h0 (by exact Wb (Int.pow_pos D9))
  have z:m<=n:=by rw[b];exact Int.ediv_le_self _ h0
  by_cases o:t<8
  .obtain⟨k,c⟩:∃k,k=7 -t:=⟨_,rfl⟩;have a:(7 -(t:Int))=(k:Int):=O9;have d:=R.set (7 -t) (.int .u8 (m%256));rw[Uf n m t o b]at d;have c0:wr.cell? ((w:Nat),7 -t)=some (.int .u8 0):=by rw[R.cell,nz (by rw[adh];omega),adf,bD O9]
   have f0:=R.frozen (7 -t);rw[<-c]at d c0 f0;rw[a];have p:=aL b;clear b R;change Hid _ at c a;have x:k<8:=by have:=c.out;omega
   go_wp2;go_roundw;exact⟨t+1,m/256,O9,by have:=a.out;congr 1;omega,by go_num,by rw[p.out,YK],d,g.setCell L9 _⟩;have:=a.out;simp[intOf]
  .have:t=8:=O9;subst this;have h:=bT n 8;generalize f:be n 8=q at R h;replace f:=aL f;have v:(convert 127 9 (.slice w.heap.size 8 8)).run Vp wr=.ok (mk q) wr:=by have:=run_convert_bytes_back (P:=Vp) wr 127 9 5 ((w:Nat),0) 8 q aI.underlying127 aI.underlying5 aI.underlying9 (λj l=>by rw[add0,R.cell];simp[bv,l]);rw[h]at this;exact this
   go_wp2;go_ret;exact⟨by rw[f.out];rfl,g⟩
def Bb(n w)(h0:0<=n)(a:n<256):Cv 20 #[.int .i64 n] w λe w'=>e=.returned (mk [byteOf n])/\Below w w w':=by
 have b:=abB w n h0 a;go_enter fA func20,ntmps20;go_wp2;go_ret;exact⟨rfl,B0.alloc L9 _⟩
def Mk(n w)(h0:0<=n)(d:n<18446744073709551616):Cv 80 #[.int .u64 n] w λe w'=>e=.returned (mk (64::be n 8))/\Below w w w':=by
 have b:=λw=>qK n w h0 d;have c:=bT n 8;generalize be n 8=t at b c;have h:(mk [byteOf 64]).size=1:=rfl;have i:(mk t).size=8:=by rw[dG,c]
 go_enter fA func80,ntmps80;go_wp2;refine(Bb 64 w O9 O9).m1 λw1 f=>?_;generalize a:mk [byteOf 64]=q at h|-;replace a:=aL a;go_wp2;refine(b w1).m1 λw2 g=>?_;go_wp2;go_ret;rw[<-a.out];exact⟨by rw[show mk (64::t)=mk [byteOf 64]++mk t from(Bc [byteOf 64] t).symm];rfl,pZ f L9 g⟩
def Fh(l w)(n:l.length<=1000000):Cv 81 #[(mk l)] w λe w'=>e=.returned (.int .u64 (hN l))/\w'=w:=by
 have o:=dG l;go_enter fA func81,ntmps81;go_wp2;go_loop [3,4] (λh i=>∃k:Nat,k<=l.length/\i=↑k/\h=.int .u64 (hN (l.take k))) (λ_ i=>l.length -(intOf i).toNat);exact⟨0,fJ _,rfl,rfl⟩;case round=>
  obtain⟨k,j,rfl,rfl⟩:=hrel;by_cases a:k<l.length
  .have d:=pJ l k (k:Int) rfl a;have f:l.take (k+1)=l.take k++[l[k]]:=by rw[xH a]
   have b:Hid (hN (l.take (k+1))=vo (hN (l.take k)) (l.getD k 0)):=by unfold Hid;rw[f,R4];simp[a]
   have g:=(l.getD k 0).toNat_lt;generalize l.getD k 0=c at d b g;go_wp2;go_round;exact⟨k+1,O9,by go_num,by rw[b.out];rfl⟩;simp[intOf];omega
  .have m:k=l.length:=O9;go_wp2;go_ret;exact⟨rfl,rfl⟩
def kR{ops o a w K Q E}(f)(j:o.guard=none)(d n)(k:o.op=.call {callee:=.value (.func f),args:=d,argTypes:=n})(b)(l:d.map a.eval=b)(R:Value->World->Prop)(g:Cv f b w λe w'=>∃v,e=.returned v/\R v w')
 (i:(callFunc f b).run Vp w=.ok (.enter f b) w)(h:∀v w',R v w'->K (a.put o.dst v) w'):if Region.wanted o (yielded ops a.tmps)=true then Oper.wp Vp o a w K Q else E:=by
 have m:Region.wanted o (yielded ops a.tmps)=true:=by simp[Region.wanted,j]
 rw[bD m];unfold Oper.wp execOp;simp[k,resolve,invoke,Act.eval,l,Deferred.ofValue,i];refine g.mono λe w' c=>?_;obtain⟨v,rfl,c⟩:=c;exact h v w' c
structure lW(B:Nat)(w:World)(v:Value)(l:List Int):Prop where
 at_:∃a c,v=.slice a l.length c/\(l.length≠0->∃b o,b<B/\a=some ⟨b,o,none⟩/\∀(i:Nat) (x:Int),l[i]?=some x->w.cell? ⟨b,o+i,none⟩=some (.int .i64 x))
 yh:∀x∈l,-9223372036854775808<=x/\x<9223372036854775808
 len:l.length<=140737488355328
def eH{w w' r C}(h:w.grownBy w' r)(b:C<=↑w)(a:∀k,r=some k->C<=k):Below C w w':=⟨h.os,h.tape,h.output,h.size,λi hi=>h.block i O9 (λe=>by have:=a i e.symm;omega)⟩
def YE{B w w'}(c:Below B w w'){a v}(b:a.block<B)(h:w.cell? a=some v):w'.cell? a=some v:=by rw[<-h];simp[World.cell?,c.block a.block b]
def lW.keep{B C w w' v l}(h:lW B w v l)(g:Below C w w')(p:B<=C):lW B w' v l:=by have⟨⟨a,c,n,d⟩,k,j⟩:=h;refine⟨⟨a,c,n,λm=>?_⟩,k,j⟩;have⟨b,o,e,f,d⟩:=d m;exact⟨b,o,e,f,λi x hi=>YE g (by show b<C;omega) (d i x hi)⟩
structure mL(C:Nat)(w:World)(b:Nat)(l:List Int)(k:Nat):Prop where
 st:∃v,Row w b 82 [v,.int .i64 k]/\lW C w v l
 low:C<=b
 le:k<=l.length
def GN(l:List Int)(k:Nat)(n:Int):Int:=if k<l.length then jM (l.getD k 0) n else 0
def Mj(l:List Int)(k:Nat):Nat:=if k<l.length then k+1 else k
def sB(l k n)(h:0<n):0<=GN l k n/\GN l k n<n:=by
 unfold GN;split;.exact kN _ _ h
 .omega
def mL.keep{C w w' b D l k}(h:mL C w b l k)(a:Below D w w')(e:b<D):mL C w' b l k:=by have⟨⟨v,d,c⟩,g,f⟩:=h;exact⟨⟨v,d.keep a e,c.keep a O9⟩,g,f⟩
def mL.sP{C w b l k}(h:mL C w b l k)(a u)(i:b≠a.block)(e:C<=a.block):mL C (w.setCell a u) b l k:=by have⟨⟨v,d,c⟩,g,f⟩:=h;exact⟨⟨v,d.aP a u i,c.keep ((Below.refl C w).setCell e u) L9⟩,g,f⟩
def mL.lt{C w b l k}(h:mL C w b l k):b<w:=by obtain⟨⟨v,a,_⟩,_⟩:=h;exact a.lt
def jN{C}(w b l k n)(I:mL C w b l k)(J:0<n)(K:n<9223372036854775808):Cv 23 #[.pointer b,.int .i64 n] w λe w'=>e=.returned (GN l k n)/\mL C w' b l (Mj l k)/\w.grownBy w' (some b):=by
 have⟨⟨v,d,r⟩,m,H⟩:=I;have⟨⟨a,c,L,y⟩,u,hlen⟩:=id r;subst L;have c0:=d.r 0;have c1:=d.r 1;have s:w.grownBy w.drew (some b):=fF (aZ _ _);have O:=d.lt;have j:∀w':World,w.grownBy w' (some b)->lW C w' (.slice a l.length c) l:=λw' t=>r.keep (eH (C:=C) t O9 (λk e=>by cases e;exact m)) L9;replace j:=aL j;by_cases f:k<l.length
 .have⟨g,o,t,E,z⟩:=y O9;subst E;have D:w.cell? (g,o+k)=some ↑(l.getD k 0):=z k _ (by simp[List.getD,f]);have q:=u (l.getD k 0) (by simp[List.getD,f]);have i:Hid (GN l k n=jM (l.getD k 0) n):=by unfold Hid GN;rw[if_pos f]
  have h:Hid (Mj l k=k+1):=by unfold Hid Mj;rw[if_pos f]
  have p:=λ(w:World)=>qJ (l.getD k 0) n w J K q.1 q.2;generalize l.getD k 0=x at D q i p;have f1:=d.frozen 1;have G:Hid (∀(B:Array Value) (w:World),(callFunc 38 B).run Vp w=.ok (.enter 38 B) w):=λ_ _=>by kernel_rfl
  have M:Hid (∀W:World,Cv 38 #[x,n] W λe w'=>∃v,e=.returned v/\(v=↑(jM x n)/\w'=W)):=λW=>(p W).mono λe w' ⟨F,N⟩=>⟨_,F,rfl,N⟩;clear p y z u;have r1:Hid (Row (w.setCell (b,1) ↑((k:Int)+1)).drew.drew b 82 [.slice (g,o) l.length c,↑((k:Int)+1)]):=d.set 1 _;have A:Hid (w.grownBy (w.setCell (b,1) ↑((k:Int)+1)).drew.drew (some b)):=fF (fF (bJ w (b,1) _));go_enter fA func23,ntmps23;go_wp2;go_region;all_goals go_wp2
  all_goals go_region_law (refine kR 38 rfl _ _ rfl #[x,n] E9 _ (M.out _) (G.out _ _) ?_;rintro P w0 ⟨rfl,rfl⟩)
  all_goals go_wp2
  all_goals go_ret
  all_goals exact⟨by rw[i.out];rfl,⟨⟨_,by rw[h.out];exact r1.out,j.out _ A.out⟩,m,by rw[h.out];omega⟩,A.out⟩
 .have i:Hid (GN l k n=0):=by unfold Hid GN;rw[if_neg f]
  have h:Hid (Mj l k=k):=by unfold Hid Mj;rw[if_neg f]
  go_enter fA func23,ntmps23;go_wp2;go_region;all_goals go_wp2
  all_goals go_ret
  all_goals exact⟨by rw[i.out];rfl,⟨⟨_,by rw[h.out];exact d,j.out _ s⟩,m,by rw[h.out];exact H⟩,s⟩
def zS(n W)(h0:0<=n)(a:n<256):Cv 20 #[.int .i64 n] W λe w'=>∃q,q.size=1/\e=.returned (.string q)/\Below W W w':=
 (Bb n W h0 a).mono λ_ _ ⟨c,b⟩=>⟨_,rfl,c,b⟩
def abA(n W)(h0:0<=n)(a:n<18446744073709551616):Cv 80 #[.int .u64 n] W λe w'=>∃q,q.size=9/\e=.returned (.string q)/\Below W W w':=
 (Mk n W h0 a).mono λ_ _ ⟨c,b⟩=>⟨_,by rw[dG,fL,bT],c,b⟩
def wj(w:World)(e:Ending)(w':World):Prop:=∃q:ByteArray,q.size<=11/\e=.returned (.string q)/\Below w.heap.size w w'
def Ue(n w):Cv 82 #[aA,.int .i64 n] w (wj w):=by go_enter fA func82,ntmps82;go_wp2;refine(zS 1 w O9 O9).mono ?_;rintro e w1 ⟨a,b,rfl,b1⟩;go_wp2;go_ret;exact⟨a,O9,rfl,b1⟩
def YF(n w)(i:0<=n)(j:n<64):Cv 82 #[aG,.int .i64 n] w (wj w):=by
 have k:IntKind.u64.wrap n=n:=by rw[IntKind.wrap_u64];omega
 have g:=bT n 8;have b:=λW=>qK n W i O9;generalize be n 8=t at b g;have c:=λW=>Fh t W O9;have a:=Fi t;generalize hN t=h at c a;have f:=λW=>abA h W a.1 a.2;go_enter fA func82,ntmps82;go_wp2;refine(zS 74 w O9 O9).mono ?_;rintro e w1 ⟨l,q,rfl,b1⟩;go_wp2;refine(b w1).m1 λw2 b2=>?_;go_wp2;refine(c w2).m0 ?_;go_wp2;refine(f _).mono ?_;rintro e w4 ⟨m,r,rfl,d⟩;go_wp2;refine(zS 71 w4 O9 O9).mono ?_;rintro e p ⟨o,s,rfl,b5⟩;go_wp2;go_ret;exact⟨_,by simp only[ByteArray.size_append];omega,rfl,pZ (pZ (pZ b1 L9 b2) L9 d) L9 b5⟩
def YG(n w)(a:0<=n)(b:n<64):Cv 82 #[.int .i64 2,.int .i64 n] w (wj w):=by go_enter fA func82,ntmps82;go_wp2;refine(zS n w O9 O9).mono ?_;rintro e w1 ⟨c,f,rfl,b1⟩;go_wp2;refine(zS 75 w1 O9 O9).mono ?_;rintro e w2 ⟨d,g,rfl,b2⟩;go_wp2;go_ret;exact⟨_,by simp;omega,rfl,pZ b1 L9 b2⟩
def Pm(n w)(b:0<=n)(c:n<64):Cv 82 #[.int .i64 3,.int .i64 n] w (wj w):=by go_enter fA func82,ntmps82;go_wp2;refine(zS 77 w O9 O9).mono ?_;rintro e w1 ⟨d,i,rfl,b1⟩;go_wp2;refine(zS n w1 O9 O9).mono ?_;rintro e w2 ⟨f,j,rfl,b2⟩;go_wp2;refine(zS 72 w2 O9 O9).mono ?_;rintro e w3 ⟨g,k,rfl,b3⟩;go_wp2;refine(zS 73 w3 O9 O9).mono ?_;rintro e w4 ⟨h,l,rfl,a⟩;go_wp2;go_ret;exact⟨_,by simp;omega,rfl,pZ (pZ (pZ b1 L9 b2) L9 b3) L9 a⟩
def Ml(k n w)(c:0<=k)(d:k<4)(a:0<=n)(b:n<64):Cv 82 #[.int .i64 k,.int .i64 n] w (wj w):=by
 have:k=0\/k=1\/k=2\/k=3:=O9;obtain rfl|rfl|rfl|rfl:=this;.exact Ue n w
 .exact YF n w a b
 .exact YG n w a b
 .exact Pm n w a b
def H5{b}(h:mQ b=true):np (uq b)=some b:=by have a:=Mm.back b [] h;rw[oL]at a;rw[np,a];rfl
def afU(p bits bU ds):dH (mk p) bits bU ds=mQ ⟨p,bits,bU,ds.map eT.m⟩/\fT (mk p) bits bU ds=uq ⟨p,bits,bU,ds.map eT.m⟩:=by have a:=aet ds _ rfl;exact⟨Fj a _ _ _,Dk a _ _ _⟩
def YH{p bits bU ds b}(d:b=⟨p,bits,bU,ds.map eT.m⟩)(h:mQ b=true):YI (mk p) bits bU ds=mk (uq b)/\YJ (mk p) bits bU ds=0:=by subst d;have⟨a,c⟩:=afU p bits bU ds;rw[YI,YJ,a,h,c];exact⟨rfl,rfl⟩
open Go.Bj (iR xA)
attribute [local go_sem↓] Go.wp_at_zero Go.wp_at_succ
def Own(F:Nat->Prop)(B:Nat)(T:TypeId->Prop)(w:World)(k:Nat):Prop:=F k\/(B<=k/\∃t cs f,T t/\w.heap[k]?=some (.cells cs t f))
abbrev Xo(F:Nat->Prop)(B:Nat)(T:TypeId->Prop)(w w':World):Prop:=Xc (Own F B T w) w w'
def Xo.trans{F B T w w1 w2}(h:Xo F B T w w1)(g:Xo F B T w1 w2):Xo F B T w w2:=by
 refine Sw h g (λk i e=>?_);by_cases c:Own F B T w k;.exact c
 .obtain e|⟨a,t,cs,f,b,d⟩:=e;.exact .inl e
  .exact .inr ⟨a,t,cs,f,b,(h.block k i c).symm.trans d⟩
def qZ:=@Xo.trans
def Xo.mono{F a B B' T b w w'}(h:Xo F B T w w')(j:∀k,F k->a k)(i:B'<=B)(l:∀t,T t->b t):Xo a B' b w w':=Xc.mono h (λk e=>by
  obtain e|⟨c,t,cs,f,d,g⟩:=e;.exact .inl (j k e)
  .exact .inr ⟨bI i c,t,cs,f,l t d,g⟩)
def Row.xo{F B T w w' g t cs}(h:Row w g t cs)(x:Xo F B T w w')(d:¬F g)(a:g<B\/¬T t):Row w' g t cs:=by
 refine h.xc x ?_;rintro(e|⟨i,j,f,f',c,b⟩);.exact d e
 .obtain a|a:=a;.omega
  .rw[h]at b;cases b;exact a c
def cW.cells(s:cW):List Value:=[.string s.jT.tx,.int .i64 s.jT.idx,.int .i64 s.jT.val,.string s.jT.lock,.int .i64 s.jT.aY,↑aD,.bool s.Dn]
def eP(l:List cW):List Value:=l.flatMap cW.cells
def CV(l s):eP (l++[s])=eP l++s.cells:=by simp[eP]
def aI.ZK:(Vp.info? 195).map (λi=>(i.zero,i.size,i.bytes))=some (some (.agg #[aB,aA,aA,aB,aA,aF,aF]),7,72):=K8
def ZL:=@aI.ZK
def vt{w}(base t ty e i z size bytes)(q:Vp.underlying t=some (.slice e))(hi:Vp.info? e=some i)(E:i.zero=some z)(k:i.size=size)(A:i.bytes=bytes)(F:z.cells.size=size)(D:0<size)(v n l)(h:w.ownsRow base e size v n l)(a m c news)(f:news.length=m*size)(o:∀j u,news[j]?=some u->w.cell? (a.add j)=some u)(s:∀u∈news,u.oneCell'=true)
 (y:n+m<=maxLen)(B:(n+m)*bytes<=140737488355328)(I:base<=↑w):
 ∃b w',(Builtin.append_ #[t,t] ty #[v,.slice (some a) m c]).run Vp w=.ok b w'/\w'.ownsRow base e size b (n+m) (l++news)/\w.grownBy w' v.ownBlock/\(b.ownBlock=v.ownBlock\/b.ownBlock=some ↑w)/\(b.ownBlock=v.ownBlock\/w.grownBy w' none):=by
 have⟨b,w',p,G,x,_,H⟩:=run_append_own_at (P:=Vp) w base t ty e i z size bytes q hi E k A F D v n l h a m c news f o s y B I;refine⟨b,w',p,G,x,H,?_⟩;obtain⟨r,_⟩|⟨g,cap,cur,r,N,L,Q,O,J,R⟩:=h.2;.subst r;exact .inr x
 .subst r;by_cases C:n+m<=cap
  .left;have K:n*i.size+news.length<=cur.size:=by rw[f,J,k,<-Nat.add_mul];exact Wq _ C
   have d:=run_append_room (P:=Vp) w t ty e i q hi g n cap cur L a m c news (by rw[k];exact f) o s C K;rw[p]at d;cases d;rfl
  .right;have⟨v2,w2,d,_,M⟩:=run_append_arg_grows (P:=Vp) w t ty e i z size bytes q hi E k A F D (g,0) n cap l h.1 (h.cells (g:=g) rfl) a m c news f o O9 y B;rw[p]at d;cases d;exact M
def uI{ops o a w K Q E t e i z size bytes}(R:Vp.underlying t=some (.slice e))(hi:Vp.info? e=some i)(μ:i.zero=some z)(O:i.size=size)(C:i.bytes=bytes)(V:z.cells.size=size)(P:0<size)(y:bytes<=1000)(B)(F:o.guard=none)(s x)(J:o.op=.call {callee:=.builtin .append,args:=#[s,x],argTypes:=#[t,t]})(v n l)(N:a.eval s=v)(L:w.ownsRow B e size v n l)
 (m news)(H:news.length=m*size)(g c)(T:a.eval x=.slice g m c)(D:Row w g e news)(d:∀u∈news,u.oneCell'=true)(W:m<=1000)(hlen:n<=100000)(r:B<=↑w)
 (h:∀b w',w'.ownsRow B e size b (n+m) (l++news)->w.grownBy w' v.ownBlock->(b.ownBlock=v.ownBlock\/b.ownBlock=some ↑w)->(b.ownBlock=v.ownBlock\/w.grownBy w' none)->K (a.put o.dst b) w'):if Region.wanted o (yielded ops a.tmps)=true then Oper.wp Vp o a w K Q else E:=by
 have S:Region.wanted o (yielded ops a.tmps)=true:=by simp[Region.wanted,F]
 rw[bD S];have I:∀j u,news[j]?=some u->w.cell? (((g,0):Addr).add j)=some u:=λj u G=>by rw[add0,D.cell];exact G
 have A:(n+m)*bytes<=140737488355328:=bI (Nat.mul_le_mul (show n+m<=101000 by omega) y) O9;have⟨b,w',M,f,k,p,q⟩:=vt (w:=w) B t o.type e i z size bytes R hi μ O C V P v n l L (g,0) m c news H I d (by unfold maxLen;omega) A r;unfold Oper.wp execOp;simp[J,resolve,invoke,builtin,N,T,M];exact h b w' f k p q
def yL{ops o a w K Q E t e i z size bytes}(L:Vp.underlying t=some (.slice e))(hi:Vp.info? e=some i)(N:i.zero=some z)(I:i.size=size)(r:i.bytes=bytes)(O:z.cells.size=size)(J:0<size)(q:bytes<=1000)(B)(A:o.guard=none)(s x)(F:o.op=.call {callee:=.builtin .append,args:=#[s,x],argTypes:=#[t,t]})(v n l)(H:a.eval s=v)(G:w.ownsRow B e size v n l)
 (m news)(C:news.length=m*size)(g c)(M:a.eval x=.slice g m c)(y:Row w g e news)(d:∀u∈news,u.oneCell'=true)(D:m<=1000)(hlen:n<=100000)(p:B<=↑w)
 (h:∀b w',w'.ownsRow B e size b (n+m) (l++news)->w.grownBy w' v.ownBlock->(b.ownBlock=v.ownBlock\/b.ownBlock=some ↑w)->K (a.put o.dst b) w'):if Region.wanted o (yielded ops a.tmps)=true then Oper.wp Vp o a w K Q else E:=
 uI L hi N I r O J q B A s x F v n l H G m news C g c M y d D hlen p (λb w' f j k _=>h b w' f j k)
structure bM(w:World)(tb gs n:Nat)(v:Value)(l:List cW):Prop where
 row:Row w tb 161 [.slice (some ⟨gs,0,none⟩) n n,v]
 own:w.ownsRow (tb+1) 195 7 v l.length (eP l)
def Old(v':Value)(w w':World):Prop:=∀(k:Nat) (cs:Array Value) (f:Nat×Nat),w.heap[k]?=some (.cells cs 195 f)->v'.ownBlock≠some k->w'.heap[k]?=some (.cells cs 195 f)
def dI(w w':World):Prop:=∀(k:Nat) (cs:Array Value) (f:Nat×Nat),w.heap[k]?=some (.cells cs 195 f)->w'.heap[k]?=some (.cells cs 195 f)
def dI.old{w w1 w2 v}(h:dI w w1)(a:Old v w1 w2):Old v w w2:=λk cs f b c=>a k cs f (h k cs f b) c
def Old.all{w w1 w2 v}(h:Old v w w1)(a:dI w1 w2):Old v w w2:=λk cs f b c=>a k cs f (h k cs f b c)
def dI.trans{w w1 w2}(h:dI w w1)(a:dI w1 w2):dI w w2:=λk cs f b=>a k cs f (h k cs f b)
def dI.any{w w1}(h:dI w w1)(v):Old v w w1:=λk cs f a _=>h k cs f a
def dI.of{S w w'}(x:Xc S w w')(h:∀k cs f,w.heap[k]?=some (.cells cs 195 f)->¬S k):dI w w':=λk cs f a=>(x.block k (eA.1 a).1 (h k cs f a)).trans a
def SD:=@dI.of
def dI.keep{w w'}(h:Below w.heap.size w w'):dI w w':=SD (iW h (S:=λ_=>False)) (λ_ _ _ _=>id)
def Nk:=@dI.keep
def tJ(w0:World)(v0:Value)(w:World)(v:Value):Prop:=w0.heap.size<=w.heap.size/\(v.ownBlock=v0.ownBlock\/∃k,v.ownBlock=some k/\w0.heap.size<=k)/\∀(k:Nat) (cs:Array Value) (f:Nat×Nat),w0.heap[k]?=some (.cells cs 195 f)->v0.ownBlock≠some k->w.heap[k]?=some (.cells cs 195 f)
def tJ.refl(w v):tJ w v w v:=⟨L9,.inl rfl,λ_ _ _ h _=>h⟩
def tJ.trans{w0 w w' v0 v b}(h:tJ w0 v0 w v)(h2:tJ w v w' b):tJ w0 v0 w' b:=by
 refine⟨bI h.1 h2.1,?_,λk cs f a d=>h2.2.2 k cs f (h.2.2 k cs f a d) (λe=>?_)⟩
 .obtain e|⟨k,e,a⟩:=h2.2.1;.rw[e];exact h.2.1
  .exact .inr ⟨k,e,bI h.1 a⟩
 .obtain c|⟨j,c,g⟩:=h.2.1;.simp_all
  .simp_all
def tJ.all{w w'}(v)(h:dI w w')(b:w<=(w':Nat)):tJ w v w' v:=⟨b,.inl rfl,λk cs f a _=>h k cs f a⟩
def CW:=@tJ.all
def tJ.keep{w w'}(v)(h:Below w.heap.size w w'):tJ w v w' v:=CW v (Nk h) h.size
def ZM:=@tJ.keep
def bG{B}{w:World}{e size n v d}(h:w.ownsRow B e size v n d):∃a c,v=.slice a n c:=by
 obtain⟨b,h0⟩|⟨g,cap,cur,b,_⟩:=h.2;.simp_all
 .simp_all
def World.ownsRow.drewN{B}{w:World}{e size n v a}(h:w.ownsRow B e size v n a):w.drew.ownsRow B e size v n a:=h
def SE:=@World.ownsRow.drewN
def dF{B}{w w':World}{e size n v c}(h:w.ownsRow B e size v n c)(d:∀k cs,v.ownBlock=some k->B<=k->w.heap[k]?=some (.cells cs e (0,0))->w'.heap[k]?=w.heap[k]?):w'.ownsRow B e size v n c:=by
 refine⟨h.1,?_⟩;obtain f|⟨g,cap,cur,rfl,a,b,rest⟩:=h.2;.simp_all
 .exact .inr ⟨g,cap,cur,rfl,a,(d g cur rfl a b).trans b,rest⟩
def bE{w:World}{k o}(h:w.heap[k]?=some o):k<(w:Nat):=(eA.1 h).1
def aX{B w w' e size n v a}(h:w.ownsRow B e size v n a)(b:Below w.heap.size w w'):w'.ownsRow B e size v n a:=dF h (λk _ _ _ c=>b.block k (bE c))
def ZN{F B B' T w w' e size n v a}(h:w.ownsRow B' e size v n a)(x:Xo F B T w w')(i:∀k cs,w.heap[k]?=some (.cells cs e (0,0))->B'<=k->¬F k)(j:¬T e):w'.ownsRow B' e size v n a:=by
 refine dF h (λk cs _ l b=>x.block k (bE b) ?_);rintro(c|⟨_,t,d,f',f,g⟩);.simp_all
 .simp_all
def lD(n:Nat)(mb:Nat->Nat)(k:Nat):Prop:=∃i,i<n/\k=mb i
def Al(n:Nat)(mb:Nat->Nat)(tb k:Nat):Prop:=lD n mb k\/k=tb
def wL(t:TypeId):Prop:=t=195
def aQ.drew{w gs n sb mb K}(h:aQ w gs n sb mb K):aQ w.drew gs n sb mb K:=h.keep (cX B0)
def aQ.F4{w gs n i g sb mb K t cs}(h:aQ w gs n sb mb K)(hi:i<n)(r:Row w g t cs):g≠mb i:=(h.mp i hi).ne r
def aQ.mF{w gs n g sb mb K t cs}(h:aQ w gs n sb mb K)(r:Row w g t cs):¬lD n mb g:=by rintro⟨i,hi,e⟩;exact h.F4 hi r e
def aQ.tK{w gs n k sb mb K cs t f}(h:aQ w gs n sb mb K)(a:w.heap[k]?=some (.cells cs t f)):¬lD n mb k:=by rintro⟨i,hi,e⟩;subst e;obtain⟨C,b,-⟩:=h.mp i hi;obtain⟨es,cl,c,-⟩:=b;rw[c]at a;cases a
def Nl{w w' B gs n size m sb mb K e v b}(h:w.ownsRow B e size v m b)(f:aQ w gs n sb mb K)(x:Xc (lD n mb) w w'):w'.ownsRow B e size v m b:=dF h (λk cs _ g a=>x.block k (bE a) (by rintro⟨i,hi,e⟩;subst e;obtain⟨C,c,-⟩:=f.mp i hi;obtain⟨es,cl,d,-⟩:=c;rw[d]at a;cases a))
def bV{B}{w:World}{e size n k v f}(h:w.ownsRow B e size v n f)(a:v.ownBlock=some k):B<=k/\∃cs,w.heap[k]?=some (.cells cs e (0,0)):=by
 obtain⟨b,_⟩|⟨g,cap,cur,b,c,d,_⟩:=h.2;.rw[b]at a;cases a
 .rw[b]at a;cases a;exact⟨c,_,d⟩
def dR{B w e t size n g v d cs}(h:w.ownsRow B e size v n d)(r:Row w g t cs)(c:t≠e):v.ownBlock≠some g:=by intro b;have⟨_,f,a⟩:=bV h b;rw[r]at a;cases a;exact c rfl
def aQ.grown{w w' B gs n size m sb mb K e v q}(b:aQ w gs n sb mb K)(h:w.ownsRow B e size v m q)(a:w.grownBy w' v.ownBlock)(f:e≠145)(g:e≠173):aQ w' gs n sb mb K:=by refine b.xc (S:=λk=>v.ownBlock=some k) ⟨a.os,a.tape,a.output,a.size,λk o p=>a.block k o (λc=>p c.symm)⟩ (dR h b.arr (fY f)) (λi hi=>dR h (b.sh i hi) (fY g)) (λi hi c=>?_);have⟨_,r,d⟩:=bV h c;obtain⟨C,j,-⟩:=b.mp i hi;obtain⟨es,cl,l,-⟩:=j;rw[l]at d;cases d
def aQ.setCell{w gs n g j sb mb K t cs}(a:aQ w gs n sb mb K)(r:Row w g t cs)(v)(b:t≠145)(c:t≠173):aQ (w.setCell ⟨g,j,none⟩ v) gs n sb mb K:=a.xc (S:=λk=>k=g) ((iT _ w).setCell (g,j) v (λ_=>rfl)) (a.arr.ne r (fY b)) (λi hi=>(a.sh i hi).ne r (fY c)) (λi hi e=>a.F4 hi r e.symm)
def bM.note{w w1 gs n tb sb mb K v a l s o}(x:aQ w gs n sb mb K)(h:bM w tb gs n v l)(i:((w.drew).alloc o).grownBy w1 v.ownBlock)(y:w1.ownsRow (tb+1) 195 7 a (l.length+1) (eP l++s.cells))(j:a.ownBlock=v.ownBlock\/((w.drew).alloc o).grownBy w1 none)(hl:a.ownBlock=v.ownBlock\/a.ownBlock=some ↑((w.drew).alloc o)):Row w1 tb 161 [.slice gs n n,v]/\aQ (w1.setCell (tb,1) a) gs n sb mb K/\bM (w1.setCell (tb,1) a) tb gs n a (l++[s])/\Xo (Al n mb tb) (tb+1) wL w (w1.setCell (tb,1) a)/\Old a w (w1.setCell (tb,1) a)/\tJ w v (w1.setCell (tb,1) a) a:=by
 have d:Below w.heap.size w ((w.drew).alloc o):=(cX B0).alloc L9 _;have r0:=h.row.keep d h.row.lt;have u:=aX h.own d;have c0:=x.keep d;have r1:Row w1 tb 161 [.slice (some ⟨gs,0,none⟩) n n,v]:=(i.block tb r0.lt (λc=>dR u r0 D9 c.symm)).trans r0;refine⟨r1,(c0.grown u i D9 D9).setCell r1 a D9 D9,⟨r1.set 1 a,?_⟩,?_,?_,?_⟩;.rw[CV,bY];exact fQ y (bJ w1 ⟨tb,1,none⟩ a) (nK _)
 .refine Xc.setCell ?_ ⟨tb,1,none⟩ a (λ_=>.inl (.inr rfl));refine(iW d).grown i (λk e j=>?_);have⟨h1,cs,h2⟩:=bV h.own e;exact .inr ⟨h1,_,cs,_,rfl,h2⟩
 .intro k cs f b q;have g:=(d.block k (bE b)).trans b;have t:=bE g;have m:w1.heap[k]?=some (.cells cs 195 f):=by
   obtain j|j:=j;.exact(i.block k t (λc=>q (by rw[j];exact c.symm))).trans g
   .exact(j.block k t S8).trans g
  have r:k≠tb:=by intro e;subst e;have p:=h.row;rw[p]at b;cases b
  exact((bJ w1 ⟨tb,1,none⟩ a).block k (bE m) (by simpa using r)).trans m
 .refine⟨bI d.size (bI i.size (bJ w1 ⟨tb,1,none⟩ a).size),hl.imp id (λe=>⟨_,e,d.size⟩),λk cs f b q=>?_⟩;have g:=(d.block k (bE b)).trans b;have m:=(i.block k (bE g) (λc=>q c.symm)).trans g;have r:k≠tb:=by intro e;subst e;have p:=h.row;rw[p]at b;cases b
  exact((bJ w1 ⟨tb,1,none⟩ a).block k (bE m) (by simpa using r)).trans m
def adI:=@bM.note
def IC{gs n tb sb mb K v l}(c w)(L:aQ w gs n sb mb K)(x:bM w tb gs n v l)(af:GQ c.pt)(ae:K c.pt=none)(hl:l.length<=100000):Cv 94 #[ptr tb,c.v] w λe w'=>e=.returned (.tuple #[])/\aQ w' gs n sb mb (K.put c)/\(∃H,bM w' tb gs n H (l++[⟨c,true⟩])/\Old H w w'/\tJ w v w' H)/\Xo (Al n mb tb) (tb+1) wL w w':=by
 obtain⟨va,vc,rfl⟩:=bG x.own;have A:∀W:World,aQ W gs n sb mb K->Cv 128 #[pV gs n,c.v] W λe w'=>∃I,e=.returned I/\(I=.tuple #[]/\Xc (lD n mb) W w'/\aQ w' gs n sb mb (K.put c)):=λW Y=>(ZJ c W Y af ae).mono λe w' ⟨h1,h2⟩=>⟨_,h1,rfl,h2⟩;have π:Hid (∀(Q:Array Value) (w:World),(callFunc 128 Q).run Vp w=.ok (.enter 128 Q) w):=λ_ _=>by kernel_rfl
 have O:Hid (∀l:List cW,eP (l++[⟨c,true⟩])=eP l++[.string c.tx,.int .i64 c.idx,.int .i64 c.val,.string c.lock,.int .i64 c.aY,.bool true,.bool true]):=λl=>CV l _;obtain⟨a,b,h,j,i⟩:=c;unfold ptr;simp only[dD.v,pV]at A O|-;have d:=aU w [a,b,h,j,i,aD] 60;have r:Below w w (w.alloc (.cells #[a,b,h,j,i,aD] 60)):=B0.alloc L9 _;have q:=L.keep r;have m:=x.row.keep r x.row.lt;have t:=aX x.own r;have au:=x.row.lt;go_enter fA Tryz.func94,Tryz.ntmps94;go_wp2;generalize w.alloc (.cells #[a,b,h,j,i,aD] 60)=X at d r q m t|-;have c0:=d.cell 0;have c1:=d.cell 1;have c2:=d.cell 2;have c3:=d.cell 3;have c4:=d.cell 4;have c5:=d.cell 5;simp only[mG,pA]at c0 c1 c2 c3 c4 c5;have t0:=m.r 0;have N:=A X.drew q.drew;clear A;go_cut [] (λwx=>Xc (lD n mb) X wx/\aQ wx gs n sb mb (K.put ⟨a,b,h,j,i⟩));case first=>
  go_region_law (refine kR 128 rfl _ _ rfl #[.agg #[.slice gs n n],.agg #[a,b,h,j,i,aD]] E9 _ N (π.out _ _) ?_;rintro I w1 ⟨rfl,p,z⟩);all_goals go_wp2
  all_goals go_meet
  all_goals exact⟨(wK (iT _ X)).trans p (λ_ _ e=>e),z⟩
 case rest=>
  obtain⟨p,z⟩:=hcut;replace d:=d.xc p (q.mF d);replace m:=m.xc p (q.mF m);replace t:=Nl t q p;have B:dI w _:=(Nk r).trans (SD p (λk cs f ab=>q.tK ab));have J:Xo (Al n mb tb) (tb+1) wL w _:=(iW (S:=lD n mb) r).trans p (λ_ _ e=>e)|>.mono (λk e=>.inl (.inl e));clear N q p r L c0 c1 c2 c3 c4 c5 t0;obtain⟨ak,aa,ah,ai,aj⟩:=info_parts ZL;have R:=aU wc.drew [a,b,h,j,i,aD,aD] 195;have T:(wc.drew.alloc (.cells [.string a,.int .i64 b,.int .i64 h,.string j,.int .i64 i,.bool true,.bool true].toArray 195)).ownsRow (tb+1) 195 7 (.slice va l.length vc) l.length (eP l):=pC (SE t) _;have B1:tb+1<=(wc.drew.alloc (.cells [.string a,.int .i64 b,.int .i64 h,.string j,.int .i64 i,.bool true,.bool true].toArray 195)).heap.size:=by rw[bL];have:=m.lt;show _<=(wc:Nat)+1;omega
  have V:∀u∈[Value.string a,↑b,↑h,↑j,↑i,↑aD,↑aD],u.oneCell'=true:=by intro u P;simp only[iN,nO,oJ]at P;obtain rfl|rfl|rfl|rfl|rfl|rfl|rfl:=P<;>rfl
  have fin:Hid (∀(v1:Value) (w1:World),(wc.drew.alloc (.cells [.string a,.int .i64 b,.int .i64 h,.string j,.int .i64 i,.bool true,.bool true].toArray 195)).grownBy w1 (Value.slice va l.length vc).ownBlock->w1.ownsRow (tb+1) 195 7 v1 (l.length+1) (eP l++[.string a,.int .i64 b,.int .i64 h,.string j,.int .i64 i,.bool true,.bool true])->(v1.ownBlock=(Value.slice va l.length vc).ownBlock\/(wc.drew.alloc (.cells [.string a,.int .i64 b,.int .i64 h,.string j,.int .i64 i,.bool true,.bool true].toArray 195)).grownBy w1 none)->(v1.ownBlock=(Value.slice va l.length vc).ownBlock\/v1.ownBlock=some ↑(wc.drew.alloc (.cells [.string a,.int .i64 b,.int .i64 h,.string j,.int .i64 i,.bool true,.bool true].toArray 195)))->Row w1 tb 161 [.slice gs n n,.slice va l.length vc]/\aQ (w1.setCell (tb,1) v1) gs n sb mb (K.put ⟨a,b,h,j,i⟩)/\bM (w1.setCell (tb,1) v1) tb gs n v1 (l++[⟨⟨a,b,h,j,i⟩,true⟩])/\Xo (Al n mb tb) (tb+1) wL w (w1.setCell (tb,1) v1)/\Old v1 w (w1.setCell (tb,1) v1)/\tJ w (.slice va l.length vc) (w1.setCell (tb,1) v1) v1):=λv1 w1 g o kk ll=>by obtain⟨y,C,D,E,F,G⟩:=adI (s:=⟨⟨a,b,h,j,i⟩,true⟩) z ⟨m,t⟩ g o kk ll;exact⟨y,C,D,J.trans E,B.old F,(CW _ B J.size).trans G⟩
  have c0:=d.cell 0;have c1:=d.cell 1;have c2:=d.cell 2;have c3:=d.cell 3;have c4:=d.cell 4;have c5:=d.cell 5;simp only[mG,pA]at c0 c1 c2 c3 c4 c5;have t1:=m.r 1;have y1:=d.lt;have av:=m.lt;clear z J B O;go_wp2;go_region_law (refine uI aI.underlying121 aa ah ai aj rfl D9 D9 (tb+1) rfl _ _ rfl (.slice va l.length vc) l.length (eP l) E9 T 1 [a,b,h,j,i,aD,aD] rfl (wc:Nat) 1 E9 R V O9 hl B1 ?_;intro v1 w1 M μ l1 k1;obtain⟨ar,ao,ag⟩:=cP M l.length rfl;subst ag;obtain⟨y,C,D,E,F,G⟩:=fin.out _ _ μ M k1 l1;have ay:w1.cell? (tb,1)=some (.slice va l.length vc):=y.cell 1;have az:=y.frozen 1;have z3:=y.lt);all_goals go_wp2
  all_goals go_end0
  all_goals exact⟨rfl,C,⟨_,D,F,G⟩,E⟩
def ZO{gs n tb sb mb K v l}(c w)(g:aQ w gs n sb mb K)(h:bM w tb gs n v l)(j:GQ c.pt)(i:K c.pt=none)(hl:l.length<=100000):Cv 94 #[ptr tb,c.v] w λe w'=>e=.returned (.tuple #[])/\aQ w' gs n sb mb (K.put c)/\(∃a,bM w' tb gs n a (l++[⟨c,true⟩])/\tJ w v w' a)/\Xo (Al n mb tb) (tb+1) wL w w':=
 (IC c w g h j i hl).mono λ_ _ ⟨h1,h2,⟨a,b,_,f⟩,d⟩=>⟨h1,h2,⟨a,b,f⟩,d⟩
def ZP(l:List cW):Option dD->List cW
 |none=>l
 |some c=>l++[⟨c,false⟩]
def aQ.rD{w gs n g sb mb K t cs}(a:aQ w gs n sb mb K)(r:Row w g t cs)(v0 v1 v2 v3 b c)(d:t≠145)(f:t≠173):aQ (BH w g v0 v1 v2 v3 b c) gs n sb mb K:=a.xc (S:=λk=>k=g) ((iT _ w).rD g v0 v1 v2 v3 b c (λ_=>rfl)) (a.arr.ne r (fY d)) (λi hi=>(a.sh i hi).ne r (fY f)) (λi hi e=>a.F4 hi r e.symm)
def F5{gs n tb sb mb K v l}(p w)(bu:aQ w gs n sb mb K)(ar:bM w tb gs n v l)(cj:GQ p)(hl:l.length<=100000):Cv 93 #[ptr tb,vq p] w λe w'=>e=.returned (rX (K p))/\aQ w' gs n sb mb (K.take p)/\(∃bf,bM w' tb gs n bf (ZP l (K p))/\Old bf w w'/\tJ w v w' bf)/\Xo (Al n mb tb) (tb+1) wL w w':=by
 obtain⟨va,vc,rfl⟩:=bG ar.own;have⟨D,E,F,G,H,I,i⟩:=rY (K p);have az:∀W:World,aQ W gs n sb mb K->Cv 127 #[pV gs n,vq p] W λe w'=>∃a2,e=.returned a2/\(a2=.agg #[D,E,F,G,H,.bool I]/\Xc (lD n mb) W w'/\aQ w' gs n sb mb (K.take p)):=λW cf=>(U0 p W cf cj).mono λe w' ⟨h1,h2⟩=>⟨_,h1,i,h2⟩;have b4:Hid (∀(ca:Array Value) (w:World),(callFunc 127 ca).run Vp w=.ok (.enter 127 ca) w):=λ_ _=>by kernel_rfl
 rw[i];replace i:=aL i;have⟨a,b⟩:=p;unfold ptr;simp only[pV,vq]at az|-;have N:=(aU w [a,b] 58).alloc (.cells ↑() 60);have d:=aU (w.alloc (.cells #[a,b] 58)) ↑() 60;rw[bL]at d;have O:Below w w ((w.alloc (.cells #[a,b] 58)).alloc (.cells ↑() 60)):=(B0.alloc L9 _).alloc Z9 _;have A:=bu.keep O;have q:=ar.row.keep O ar.row.lt;have M:=aX ar.own O;have db:=ar.row.lt;go_enter fA func93,ntmps93;go_wp2;generalize(w.alloc (.cells #[a,b] 58)).alloc (.cells ↑() 60)=X at N d O A q M|-;have c0:=N.r 0;have c1:=N.r 1;have t0:=q.r 0;have y1:=N.lt;have bg:=q.lt;have b7:=az X.drew A.drew;have bx:aQ (X.drew.alloc (.cells [.string ⟨#[]⟩,.int .i64 0,.int .i64 0,.string ⟨#[]⟩,.int .i64 0,.bool false].toArray 60)) gs n sb mb K:=A.drew.keep (B0.alloc L9 _);have a6:=aU X.drew ↑() 60;have bz:Hid (∀w1,Xc (lD n mb) (X.drew.alloc (.cells [.string ⟨#[]⟩,.int .i64 0,.int .i64 0,.string ⟨#[]⟩,.int .i64 0,.bool false].toArray 60)) w1->Row w1 ↑X 60 ↑()/\Xc (lD n mb) X w1):=λw1 x=>⟨a6.xc x (bx.mF a6),((wK (iT _ X)).alloc _).trans x (λ_ _ e=>e)⟩;have bp:Hid (∀w1,Xc (lD n mb) X.drew w1->aQ w1 gs n sb mb (K.take (a,b))->(X:Nat)<=(w1:Nat)/\Row (w1.alloc (.cells [.string D,.int .i64 E,.int .i64 F,.string G,.int .i64 H,.bool I].toArray 60)) (w1:Nat) 60 [D,E,F,G,H,.bool I]/\Xc (lD n mb) X (w1.alloc (.cells [.string D,.int .i64 E,.int .i64 F,.string G,.int .i64 H,.bool I].toArray 60))/\aQ (w1.alloc (.cells [.string D,.int .i64 E,.int .i64 F,.string G,.int .i64 H,.bool I].toArray 60)) gs n sb mb (K.take (a,b))):=λw1 x h=>⟨x.size,aU w1 _ _,((wK (iT _ X)).trans x (λ_ _ e=>e)).alloc _,h.keep (B0.alloc L9 _)⟩;have bq:Hid (∀w1,Row w1 ↑X 60 ↑()->Xc (lD n mb) X w1->aQ w1 gs n sb mb (K.take (a,b))->(X:Nat)<=(X:Nat)/\Row (BH w1 ↑X ↑D ↑E ↑F ↑G ↑H (.bool I)) ↑X 60 [D,E,F,G,H,.bool I]/\Xc (lD n mb) X (BH w1 ↑X ↑D ↑E ↑F ↑G ↑H (.bool I))/\aQ (BH w1 ↑X ↑D ↑E ↑F ↑G ↑H (.bool I)) gs n sb mb (K.take (a,b))):=λw1 r x h=>⟨L9,r.rD _ _ _ _ _ _,x.rD _ _ _ _ _ _ _ O9,h.rD r _ _ _ _ _ _ D9 D9⟩;clear a6 bx;have b8:=az (X.drew.alloc (.cells ↑() 60)) (A.drew.keep (B0.alloc L9 _));clear az;go_cut [5] (λs wx=>∃B,s=.pointer (some ⟨B,0,none⟩)/\(X:Nat)<=B/\Row wx B 60 [D,E,F,G,H,.bool I]/\Xc (lD n mb) X wx/\aQ wx gs n sb mb (K.take (a,b)));case first=>
  go_region_law (first|(refine kR 127 rfl _ _ rfl #[.agg #[.slice gs n n],.agg #[a,b]] E9 _ b7 (b4.out _ _) ?_;rintro a2 w1 ⟨rfl,t,L⟩)|(refine kR 127 rfl _ _ rfl #[.agg #[.slice gs n n],.agg #[a,b]] E9 _ b8 (b4.out _ _) ?_;rintro a2 w1 ⟨rfl,t,L⟩;obtain⟨RB,π⟩:=bz.out w1 t;have aa:=RB.cell 0;have ab:=RB.cell 1;have ae:=RB.cell 2;have af:=RB.cell 3;have ag:=RB.cell 4;have ah:=RB.cell 5;simp only[mG,pA]at aa ab ae af ag ah;have f0:=RB.frozen 0;have f1:=RB.frozen 1;have f2:=RB.frozen 2;have bk:=RB.frozen 3;have bm:=RB.frozen 4;have bo:=RB.frozen 5));all_goals go_wp2
  all_goals go_meet
  all_goals first
   |exact⟨_,rfl,bp.out w1 t L⟩
   |exact⟨_,rfl,bq.out w1 RB π L⟩
 case rest=>obtain⟨B,rfl,cy,j,t,L⟩:=hcut;have dc:=d.lt;replace N:=N.xc t (A.mF N);replace d:=d.xc t (A.mF d);replace q:=q.xc t (A.mF q);replace M:=Nl M A t;have av:Xo (Al n mb tb) (tb+1) wL w _:=(iW (S:=lD n mb) O).trans t (λ_ _ e=>e)|>.mono (λk e=>.inl (.inl e));have a8:=(Nk O).trans (SD t (λk cs f C=>A.tK C));have cz:B≠(w:Nat)+1:=O9;have ay:bM wc tb gs n (.slice va l.length vc) l:=⟨q,M⟩;clear b7 b8 bz bp bq A t bu c0 c1 t0 y1 bg O;cases C:K (a,b)with
  |none=>
    replace i:=i.out;rw[C]at i;simp only[rX,SA,QY,QZ,zb,Q0,Q3,Q4,za,sX]at i;obtain⟨rfl,rfl,rfl,rfl,rfl,rfl⟩:=i;replace C:=aL C;have k0:=j.cell 0;have k1:=j.cell 1;have k2:=j.cell 2;have μ:=j.cell 3;have V:=j.cell 4;have Y:=j.cell 5;simp only[mG,pA]at k0 k1 k2 μ V Y;have aa:=d.cell 0;have ab:=d.cell 1;have ae:=d.cell 2;have af:=d.cell 3;have ag:=d.cell 4;have ah:=d.cell 5;simp only[mG,pA]at aa ab ae af ag ah;have f0:=d.frozen 0;have f1:=d.frozen 1;have f2:=d.frozen 2;have bk:=d.frozen 3;have bm:=d.frozen 4;have bo:=d.frozen 5;have m:=d.rD ↑aB ↑aA ↑aA ↑aB ↑aA ↑aF;have y:=(iT (λk=>k=(w:Nat)+1) wc).rD ((w:Nat)+1) ↑aB ↑aA ↑aA ↑aB ↑aA ↑aF (λ_=>rfl);have P:=L.rD d ↑aB ↑aA ↑aA ↑aB ↑aA ↑aF D9 D9;have Q:bM (BH wc ((w:Nat)+1) ↑aB ↑aA ↑aA ↑aB ↑aA ↑aF) tb gs n _ _:=⟨ay.row.xc y (ay.row.ne d D9),dF ay.own (λk cs _ _ i=>y.block k (bE i) (λe=>by subst e;unfold Row at d;rw[d]at i;cases i))⟩;have R:Old (.slice va l.length vc) w (BH wc ((w:Nat)+1) ↑aB ↑aA ↑aA ↑aB ↑aA ↑aF)/\tJ w (.slice va l.length vc) (BH wc ((w:Nat)+1) ↑aB ↑aA ↑aA ↑aB ↑aA ↑aF) (.slice va l.length vc):=have z:=a8.trans (dI.of y (λk cs f i e=>by subst e;unfold Row at d;rw[d]at i;cases i));⟨z.any _,CW _ z (bI av.size y.size)⟩
    have T:Xo (Al n mb tb) (tb+1) wL w (BH wc ((w:Nat)+1) ↑aB ↑aA ↑aA ↑aB ↑aA ↑aF):=SC av ((w:Nat)+1) _ _ _ _ _ _ O9;have ai:=m.cell 0;have aj:=m.cell 1;have e2:=m.cell 2;have e3:=m.cell 3;have ak:=m.cell 4;have ao:=m.cell 5;simp only[mG,pA]at ai aj e2 e3 ak ao;change Hid _ at m y P Q T R;go_wp2;exact nC (v:=.agg ↑()) (by simp only[results,results93];simp[go_sem,ai,aj,e2,e3,ak,ao]) rfl ⟨rfl,P.out,⟨_,by rw[C.out];exact Q.out,R.out⟩,T.out⟩
  |some c=>
    have⟨c1,c2,c3,c4,c5⟩:=c;replace i:=i.out;rw[C]at i;simp only[rX,dD.v,QY,QZ,zb,Q0,Q3,Q4,za,sX]at i;obtain⟨rfl,rfl,rfl,rfl,rfl,rfl⟩:=i;replace C:=aL C;have⟨c7,b6,cr,cu,cv⟩:=info_parts ZL;have bh:=aU wc.drew [c1,c2,c3,c4,c5,aD,aF] 195;have bj:(wc.drew.alloc (.cells [.string c1,.int .i64 c2,.int .i64 c3,.string c4,.int .i64 c5,.bool true,.bool false].toArray 195)).ownsRow (tb+1) 195 7 (.slice va l.length vc) l.length (eP l):=pC (SE M) _;have B1:tb+1<=(wc.drew.alloc (.cells [.string c1,.int .i64 c2,.int .i64 c3,.string c4,.int .i64 c5,.bool true,.bool false].toArray 195)).heap.size:=by rw[bL];have:=q.lt;show _<=(wc:Nat)+1;omega
    have br:∀u∈[Value.string c1,↑c2,↑c3,↑c4,↑c5,↑aD,↑aF],u.oneCell'=true:=by intro u b9;simp only[iN,nO,oJ]at b9;obtain rfl|rfl|rfl|rfl|rfl|rfl|rfl:=b9<;>rfl
    have fin:Hid (∀(v1:Value) (w1:World),(wc.drew.alloc (.cells [.string c1,.int .i64 c2,.int .i64 c3,.string c4,.int .i64 c5,.bool true,.bool false].toArray 195)).grownBy w1 (Value.slice va l.length vc).ownBlock->w1.ownsRow (tb+1) 195 7 v1 (l.length+1) (eP l++[.string c1,.int .i64 c2,.int .i64 c3,.string c4,.int .i64 c5,.bool true,.bool false])->(v1.ownBlock=(Value.slice va l.length vc).ownBlock\/(wc.drew.alloc (.cells [.string c1,.int .i64 c2,.int .i64 c3,.string c4,.int .i64 c5,.bool true,.bool false].toArray 195)).grownBy w1 none)->(v1.ownBlock=(Value.slice va l.length vc).ownBlock\/v1.ownBlock=some ↑(wc.drew.alloc (.cells [.string c1,.int .i64 c2,.int .i64 c3,.string c4,.int .i64 c5,.bool true,.bool false].toArray 195)))->Row w1 tb 161 [.slice gs n n,.slice va l.length vc]/\aQ (w1.setCell (tb,1) v1) gs n sb mb (K.take (a,b))/\(∃J,bM (w1.setCell (tb,1) v1) tb gs n J (l++[⟨⟨c1,c2,c3,c4,c5⟩,false⟩])/\Old J wc (w1.setCell (tb,1) v1)/\tJ wc (.slice va l.length vc) (w1.setCell (tb,1) v1) J)/\Xo (Al n mb tb) (tb+1) wL wc (w1.setCell (tb,1) v1)):=λv1 w1 g o kk ll=>by have⟨au,m,bb,bc,cw⟩:=adI (s:=⟨⟨c1,c2,c3,c4,c5⟩,false⟩) L ⟨q,M⟩ g o kk ll;exact⟨au,m,⟨_,bb,cw⟩,bc⟩
    have k0:=j.cell 0;have k1:=j.cell 1;have k2:=j.cell 2;have μ:=j.cell 3;have V:=j.cell 4;have Y:=j.cell 5;simp only[mG,pA]at k0 k1 k2 μ V Y;have t1:=q.r 1;have y1:=j.lt;have bg:=q.lt;go_wp2;go_cut [] (λwx=>aQ wx gs n sb mb (K.take (a,b))/\(∃J,bM wx tb gs n J (l++[⟨⟨c1,c2,c3,c4,c5⟩,false⟩])/\Old J wc wx/\tJ wc (.slice va l.length vc) wx J)/\Xo (Al n mb tb) (tb+1) wL wc wx);case first=>
     go_region_law (refine uI aI.underlying121 b6 cr cu cv rfl D9 D9 (tb+1) rfl _ _ rfl (.slice va l.length vc) l.length (eP l) E9 bj 1 [c1,c2,c3,c4,c5,aD,aF] rfl (wc:Nat) 1 E9 bh br O9 hl B1 ?_;intro v1 w1 b0 cb l1 k1;obtain⟨da,c8,cm⟩:=cP b0 l.length rfl;subst cm;obtain⟨au,m,bb,bc⟩:=fin.out _ _ cb b0 k1 l1;have dd:w1.cell? (tb,1)=some (.slice va l.length vc):=au.cell 1;have de:=au.frozen 1;have z3:=au.lt);all_goals go_wp2
     all_goals go_meet
     all_goals exact⟨m,bb,bc⟩
    case rest=>
     have⟨cd,⟨J,a7,ba,bd⟩,π⟩:=hcut;replace ba:=a8.old ba;replace bd:=(CW _ a8 av.size).trans bd;replace d:=d.xo π (λc=>by obtain c|c:=c;exact L.mF d c;exact d.ne q D9 c) (.inr (by unfold wL;decide));replace j:=j.xo π (λc=>by obtain c|c:=c;exact L.mF j c;exact j.ne q D9 c) (.inr (by unfold wL;decide));have cx:=qZ av π;clear π av fin bh bj B1 br k0 k1 k2 μ V Y t1 y1 bg ay q M L b6;have k0:=j.cell 0;have k1:=j.cell 1;have k2:=j.cell 2;have μ:=j.cell 3;have V:=j.cell 4;have Y:=j.cell 5;simp only[mG,pA]at k0 k1 k2 μ V Y;have aa:=d.cell 0;have ab:=d.cell 1;have ae:=d.cell 2;have af:=d.cell 3;have ag:=d.cell 4;have ah:=d.cell 5;simp only[mG,pA]at aa ab ae af ag ah;have f0:=d.frozen 0;have f1:=d.frozen 1;have f2:=d.frozen 2;have bk:=d.frozen 3;have bm:=d.frozen 4;have bo:=d.frozen 5;have m:=d.rD ↑c1 ↑c2 ↑c3 ↑c4 ↑c5 ↑aD;have y:=(iT (λk=>k=(w:Nat)+1) wc).rD ((w:Nat)+1) ↑c1 ↑c2 ↑c3 ↑c4 ↑c5 ↑aD (λ_=>rfl);have P:=cd.rD d ↑c1 ↑c2 ↑c3 ↑c4 ↑c5 ↑aD D9 D9;have Q:bM (BH wc ((w:Nat)+1) ↑c1 ↑c2 ↑c3 ↑c4 ↑c5 ↑aD) tb gs n _ _:=⟨a7.row.xc y (a7.row.ne d D9),dF a7.own (λk cs _ _ i=>y.block k (bE i) (λe=>by subst e;unfold Row at d;rw[d]at i;cases i))⟩;have R:Old J w (BH wc ((w:Nat)+1) ↑c1 ↑c2 ↑c3 ↑c4 ↑c5 ↑aD)/\tJ w (.slice va l.length vc) (BH wc ((w:Nat)+1) ↑c1 ↑c2 ↑c3 ↑c4 ↑c5 ↑aD) J:=have z:dI wc (BH wc ((w:Nat)+1) ↑c1 ↑c2 ↑c3 ↑c4 ↑c5 ↑aD):=dI.of y (λk cs f i e=>by subst e;unfold Row at d;rw[d]at i;cases i);⟨ba.all z,bd.trans (CW _ z y.size)⟩
     have T:Xo (Al n mb tb) (tb+1) wL w (BH wc ((w:Nat)+1) ↑c1 ↑c2 ↑c3 ↑c4 ↑c5 ↑aD):=SC cx ((w:Nat)+1) _ _ _ _ _ _ O9;have ai:=m.cell 0;have aj:=m.cell 1;have e2:=m.cell 2;have e3:=m.cell 3;have ak:=m.cell 4;have ao:=m.cell 5;simp only[mG,pA]at ai aj e2 e3 ak ao;change Hid _ at m y P Q R T;go_wp2;exact nC (v:=.agg #[c1,c2,c3,c4,c5,aD]) (by simp only[results,results93];simp[go_sem,ai,aj,e2,e3,ak,ao]) rfl ⟨rfl,P.out,⟨_,by rw[C.out];exact Q.out,R.out⟩,T.out⟩
def U1{gs n tb sb mb K v l}(p w)(f:aQ w gs n sb mb K)(g:bM w tb gs n v l)(h:GQ p)(hl:l.length<=100000):Cv 93 #[ptr tb,vq p] w λe w'=>e=.returned (rX (K p))/\aQ w' gs n sb mb (K.take p)/\(∃a,bM w' tb gs n a (ZP l (K p))/\tJ w v w' a)/\Xo (Al n mb tb) (tb+1) wL w w':=
 (F5 p w f g h hl).mono λ_ _ ⟨h1,h2,⟨a,b,_,d⟩,c⟩=>⟨h1,h2,⟨a,b,d⟩,c⟩
def Nn(o):∃s a b l h,rX o=.agg #[.string s,.int .i64 a,.int .i64 b,.string l,.int .i64 h,.bool o.isSome]:=by cases o with
 |none=>exact⟨_,_,_,_,_,rfl⟩
 |some c=>exact⟨_,_,_,_,_,rfl⟩
def U3{K id}{k:Nat}(a:k<8)(h:(K (id,(k:Int))).isSome=true):anyM K id=true:=by unfold anyM;rw[WG];exact⟨k,y5.2 a,h⟩
def Qf{K id}(h:∀k:Nat,k<8->(K (id,(k:Int))).isSome=false):anyM K id=false:=by unfold anyM;rw[Wz];intro k a;rw[h k (y5.1 a)];simp
def U8{K id}(h:anyM K id=false)(k:Nat)(a:k<8):K (id,(k:Int))=none:=by unfold anyM at h;rw[Wz]at h;have:=h k (y5.2 a);simpa using this
def Qg(w b c d e f a):(Instr.field 60 (.agg #[b,c,d,e,f,a]) 4).run Vp w=.ok a w:=by have g:=vJ (w:=w) aI.underlying60;simp[Instr.field,part,asAgg]
def U9{gs n sb mb K}(id w)(b:aQ w gs n sb mb K)(v:id.size<=1000000):Cv 160 #[pV gs n,.string id] w λe w'=>e=.returned (.bool (anyM K id))/\Below w w w':=by
 have g:Below w w (w.alloc (.cells #[.slice gs n n] 102)):=B0.alloc L9 _;have c:=aU w [.slice gs n n] 102;have m:∀(W:World) (k:Nat),k<8->aQ W gs n sb mb K->Cv 39 #[.agg #[.slice gs n n],.agg #[id,(k:Int)]] W λe w'=>e=.returned (rX (K (id,(k:Int))))/\Below W W w':=λW k y h=>UZ (id,(k:Int)) W h ⟨v,by show _<=(k:Int);omega,by show(k:Int)<_;omega⟩;replace b:=b.keep g;unfold pV;go_enter fA func160,ntmps160;go_wp2;generalize w.alloc (.cells #[.slice gs n n] 102)=X at g c b|-;go_loopw [6] (λi wr=>∃k:Nat,k<=8/\i=k/\(∀j,j<k->(K (id,(j:Int))).isSome=false)/\Below w w wr/\Below X X wr) (λi _=>8 -(intOf i).toNat);exact⟨0,O9,rfl,λj x=>by omega,g,B0⟩;case round=>
  obtain⟨k,y,rfl,d,l,f⟩:=hrel;replace c:=c.keep f c.lt;replace b:=b.keep f;have c0:=c.r 0;by_cases r:k<8;.have A:=m wr k r b;clear m;replace d:=aL d;have G:((k:Int)<8):=O9;go_wp2;refine A.m1 λw1 p=>?_;have⟨B,C,D,E,F,u⟩:=Nn (K (id,(k:Int)));rw[u];have H:=Qg w1 B C D E F;have q:=l.trans (p.mono l.size);have t:=f.trans (p.mono f.size);cases o:(K (id,(k:Int))).isSome with
   |true=>have a:=U3 r o;replace a:=aL a;clear o;go_wp2;go_ret;exact⟨by rw[a.out];rfl,q⟩
   |false=>
     have s:Hid (∀j,j<k+1->(K (id,(j:Int))).isSome=false):=λj x=>by
      by_cases e:j=k;.simp_all
      .exact d.out j O9
     clear o;go_wp2;go_roundw;exact⟨k+1,O9,by go_num,s.out,q,t⟩;simp[intOf];omega
  .have z:k=8:=O9;subst z;have a:=Qf d;replace a:=aL a;clear d m;go_wp2;go_ret;exact⟨by rw[a.out];rfl,l⟩
def Np(l o):fI (l++[o])=fI l+o.val:=by induction l with
 |nil=>simp[fI]
 |cons x l a=>simp[fI];omega
def xh(l)(h:∀o∈l,o.Small):0<=fI l/\fI l<=l.length*4294967295:=by induction l with
 |nil=>simp[fI]
 |cons o l c=>have d:=c (λx b=>h x (by simp[b]));have a:=h o S8;have:=a.1;have:=a.2.2;simp[fI];omega
def ID(v l w)(h:qU w v l)(C:l.length<=1000)(j:∀o∈l,o.Small):Cv 152 #[v] w λe w'=>e=.returned (fI l)/\Below w w w':=by
 obtain⟨⟨a,c,rfl,q⟩,_⟩:=h;go_enter fA func152,ntmps152;go_wp2;go_loopw [3,8] (λs i wr=>∃k,k<=l.length/\i=k/\s=(fI (l.take k))/\Below w w wr) (λ_ i _=>l.length -(intOf i).toNat);exact⟨0,O9,rfl,rfl,B0⟩;case round=>
  obtain⟨k,B,rfl,rfl,d⟩:=hrel;by_cases b:k<l.length
  .obtain⟨g,o,rfl,u⟩:=q (by intro e;rw[e]at b;simp at b);have p:=(u k l[k] (bS b)).keep d;have f:=j l[k] (s5 b);have n:l.take (k+1)=l.take k++[l[k]]:=by rw[xH b]
   have A:=xh (l.take k) (λo t=>j o (WH t));have hlen:(l.take k).length<=1000:=by rw[kI];omega
   have m:Hid (fI (l.take (k+1))=fI (l.take k)+(l[k]).val):=by unfold Hid;rw[n,Np]
   generalize l[k]=x at p f m n;have⟨G,F⟩:=x;have⟨D,E⟩:=p;have y:=f.1;have z:=f.2.2;simp only at y z;go_wp2;go_roundw;exact⟨k+1,O9,by go_num,by rw[m.out],d.alloc d.size _⟩;simp[intOf];omega
  .have r:k=l.length:=O9;subst r;rw[jI];go_wp2;go_ret;exact⟨rfl,d⟩
def bX.cells(t:bX):List Value:=[.string t.key,.string t.lock,.string t.id,.int .i64 t.aY]
def bA(l:List bX):List Value:=l.flatMap bX.cells
def uK(l t):bA (l++[t])=bA l++t.cells:=by simp[bA]
def JF(n:Nat)(mb:Nat->Nat)(tb jb k:Nat):Prop:=Al n mb tb k\/k=jb
def JT(t:TypeId):Prop:=t=195\/t=247
abbrev XJ(n:Nat)(mb:Nat->Nat)(tb jb:Nat)(w w':World):Prop:=Xo (JF n mb tb jb) (tb+1) JT w w'
class kF where
 w0:World
 v0:Value
def CX[kF](tb:Nat)(w:World):Prop:=tb<kF.w0.heap.size/\∀(k:Nat) (cs:Array Value) (f:Nat×Nat),kF.w0.heap[k]?=some (.cells cs 247 f)->w.heap[k]?=some (.cells cs 247 f)
def CX.xc[kF]{tb S w w'}(h:CX tb w)(x:Xc S w w')(b:∀k cs f,k<↑kF.w0->w.heap[k]?=some (.cells cs 247 f)->¬S k):CX tb w':=⟨h.1,λk cs f a=>have e:=h.2 k cs f a;(x.block k (bE e) (b k cs f (bE a) e)).trans e⟩
def CX.keep[kF]{tb w w'}(h:CX tb w)(a:Below w w w'):CX tb w':=h.xc (iW a (S:=λ_=>False)) (λ_ _ _ _ _=>id)
structure bW[kF](w:World)(jb tb gs n:Nat)(sb mb:Nat->Nat)(h:Int)(s:JS):Prop where
 row:∃tv,Row w jb 226 [ptr tb,.int .i64 h,.int .i64 s.jA,tv]/\w.ownsRow kF.w0.heap.size 247 4 tv s.cF.length (bA s.cF)
 iH:∃v,bM w tb gs n v s.steps/\tJ kF.w0 kF.v0 w v/\CX tb w
 aV:aQ w gs n sb mb s.K
def bW.keep[kF]{w w' b tb gs n sb mb h s}(e:bW w b tb gs n sb mb h s)(a:Below w w w'):bW w' b tb gs n sb mb h s:=by have⟨⟨tv,r,o⟩,⟨v,t,d⟩,c⟩:=e;exact⟨⟨tv,r.keep a r.lt,aX o a⟩,⟨v,⟨t.row.keep a t.row.lt,aX t.own a⟩,d.1.trans (ZM _ a),d.2.keep a⟩,c.keep a⟩
def XJ.Nq{n mb tb a w w'}(x:Xo (Al n mb tb) (tb+1) wL w w'):XJ n mb tb a w w':=Xo.mono x (λ_ e=>.inl e) L9 (λ_ e=>.inl e)
def bW.SG[kF]{w w' g tb gs n sb mb h s d j l}(y:bW w g tb gs n sb mb h s)(x:Xo (Al n mb tb) (tb+1) wL w w')(q:aQ w' gs n sb mb d)(A:bM w' tb gs n l j)(z:tJ kF.w0 kF.v0 w' l):bW w' g tb gs n sb mb h {s with K:=d,steps:=j}:=by
 have⟨⟨tv,r,o⟩,⟨v,t,B⟩,c⟩:=y;refine⟨⟨tv,r.xo x ?_ (.inr (by unfold wL;decide)),ZN o x ?_ (by unfold wL;decide)⟩,⟨_,A,z,B.2.xc x ?_⟩,q⟩
 .rintro(e|e);.exact c.mF r e
  .exact r.ne t.row D9 e
 .rintro k cs a D (⟨i,hi,e⟩|e);.subst e;obtain⟨C,m,-⟩:=c.mp i hi;obtain⟨es,cl,p,-⟩:=m;rw[p]at a;cases a
  .subst e;have b:=t.row;rw[b]at a;cases a
 .rintro k cs f _ a ((⟨i,hi,e⟩|e)|⟨_,u,cs',f',e2,e3⟩);.exact c.tK a ⟨i,hi,e⟩
  .subst e;have b:=t.row;rw[b]at a;cases a
  .rw[a]at e3;cases e3;revert e2;unfold wL;decide
def bW.c0[kF]{w a tb gs n sb mb h s}(b:bW w a tb gs n sb mb h s):w.cell? (a,0)=some (.pointer tb):=by obtain⟨tv,r,_⟩:=b.row;exact r.cell 0
def bW.c1[kF]{w a tb gs n sb mb h s}(b:bW w a tb gs n sb mb h s):w.cell? (a,1)=some ↑h:=by obtain⟨tv,r,_⟩:=b.row;exact r.cell 1
def Row.xj[kF]{w w' a tb gs n g sb mb h s t cs}(r:Row w g t cs)(f:bW w a tb gs n sb mb h s)(x:XJ n mb tb a w w')(h1:t≠161)(h2:t≠226)(b:t≠195)(d:t≠247):Row w' g t cs:=by
 have⟨⟨tv,i,o⟩,⟨v,tr,_⟩,c⟩:=f;refine r.xo x ?_ (.inr (λe=>e.elim b d));rintro((e|e)|e);.exact c.mF r e
 .exact r.ne tr.row h1 e
 .exact r.ne i h2 e
def JP(w:World)(v:Value)(l:List fH):Prop:=∃g c,v=.slice (some ⟨g,0,none⟩) l.length c/\Row w g 69 (lQ l)
def InR(w:World)(v:Value)(l:List jS):Prop:=∃g c,v=.slice (some ⟨g,0,none⟩) l.length c/\Row w g 133 (mX l)
def SH(id:ByteArray)(h:Int)(i:Nat)(o:fH)(s:JS):JS:={s with K:=s.K.put ⟨id,i,o.val,o.lock,h⟩,steps:=s.steps++[⟨⟨id,i,o.val,o.lock,h⟩,true⟩]}
def Qh(id h l o):∀i s,mH id h (l++[o]) i s=SH id h (i+l.length) o (mH id h l i s):=by induction l with
 |nil=>intro i s;rfl
 |cons x l a=>intro i s;show mH id h (l++[o]) (i+1) _=_;rw[a];show _=SH id h (i+(l.length+1)) o (mH id h l (i+1) _);rw[show i+1+l.length=i+(l.length+1)from by omega]
def acn(id h l):∀(i:Nat) (s:JS) (j:Nat),(i+l.length<=j)->(mH id h l i s).K (id,(j:Int))=s.K (id,(j:Int)):=by induction l with
 |nil=>intro i s j _;rfl
 |cons x l b=>intro i s j a;simp at a;show(mH id h l (i+1) _).K (id,(j:Int))=_;rw[b (i+1) _ j O9];show(s.K.put _) (id,(j:Int))=_;unfold jO.put;rw[aT];intro e;have:=congrArg Prod.snd e;simp[dD.pt]at this;omega
def Va(id h l):∀i s,(mH id h l i s).steps.length=s.steps.length+l.length:=by induction l with
 |nil=>intro i s;rfl
 |cons x l a=>intro i s;show(mH id h l (i+1) _).steps.length=_;rw[a];simp;omega
def F6[kF]{j tb gs n sb mb h s}(x gi li ci ov w)(a:bW w j tb gs n sb mb h s)(ai:JP w ov x.outs)(hlen:x.outs.length<=8)(I:x.id.size<=1000000)(bd:s.steps.length+8<=100000):Cv 153 #[ptr j,.agg #[x.id,.slice (some ⟨gi,0,none⟩) li ci,ov]] w λe w'=>e=.returned ((fC x h s).1)/\bW w' j tb gs n sb mb h (fC x h s).2/\XJ n mb tb j w w':=by
 have⟨id,ins,outs⟩:=x;obtain⟨g,c,rfl,b⟩:=ai;simp only at b hlen I|-;unfold ptr;have f:=aU w [id,.slice gi li ci,.slice g outs.length c] 155;have l:Below w w (w.alloc (.cells #[id,.slice gi li ci,.slice g outs.length c] 155)):=B0.alloc L9 _;have μ:∀W:World,aQ W gs n sb mb s.K->Cv 160 #[.agg #[.slice gs n n],id] W λe w'=>e=.returned (.bool (anyM s.K id))/\Below W W w':=λW B=>U9 id W B I;replace a:=a.keep l;replace b:=b.keep l b.lt;go_enter fA Tryz.func153,Tryz.ntmps153;go_wp2;generalize w.alloc (.cells #[id,.slice gi li ci,.slice g outs.length c] 155)=X at f l a b|-;have aa:∀d os,Cv 160 #[.agg #[.slice gs n n],id] (Go.Sort.grow (redrawn X d) os) λe a2=>e=.returned (.bool (anyM s.K id))/\∃p:Regrown,a2=Go.Sort.grow (redrawn X p.d) p.os:=λd os=>Calls.regrown_of (μ _ (a.aV.keep (below_regrown X d os)))
 have⟨tv,y,P⟩:=a.row;have⟨v,tr,_⟩:=a.iH;have k0:=cell_regrown (show X.cell? (j,0)=some (.pointer tb)from y.cell 0);have k1:=cell_regrown (show X.cell? (tb,0)=some (.slice gs n n)from tr.row.cell 0);have k2:=cell_regrown (show X.cell? ((w:Nat),0)=some ↑id from f.cell 0);refine wp_region_quiet_below FD K8 ?_;repeat(go_big_quiet_step (first|(go_at_call 160;exact aa _ _)))
 refine wpQuiet_nil ?_;intro _ ak;have⟨⟨S,π⟩,ao⟩:=ak;subst ao;have hq:=below_regrown X S π;clear y P tr k0 k1 k2 aa μ;replace b:=b.keep hq b.lt;replace a:=a.keep hq;replace f:=f.keep hq f.lt;replace l:=l.trans (hq.mono l.size);generalize Go.Sort.grow (redrawn X S) π=Y at b a f l|-;clear hq;cases G:anyM s.K id with
 |true=>
   have C:Hid (fC ⟨id,ins,outs⟩ h s=(14,s)):=by unfold Hid fC;rw[if_pos G]
   go_wp2;go_ret;exact⟨by rw[C.out];rfl,by rw[C.out];exact a,iW l⟩
 |false=>
   have C:Hid (fC ⟨id,ins,outs⟩ h s=(0,mH id h outs 0 s)):=by unfold Hid fC;rw[if_neg (by rw[G];simp)]
   have L:=U8 G;clear G;have av:=f.r 2;go_wp2;go_loopw [20] (λi wr=>∃k:Nat,k<=outs.length/\i=↑k/\bW wr j tb gs n sb mb h (mH id h (outs.take k) 0 s)/\Row wr ↑w 155 [id,.slice gi li ci,.slice g outs.length c]/\Row wr g 69 (lQ outs)/\XJ n mb tb j w wr) (λi _=>outs.length -(intOf i).toNat);exact⟨0,O9,rfl,a,f,b,iW l⟩;case round=>
    clear a f b l av;obtain⟨k,ba,rfl,a,f,b,Q⟩:=hrel;by_cases V:k<outs.length
    .have⟨E,F⟩:=xk outs k outs[k] (bS V);have O:outs.take (k+1)=outs.take k++[outs[k]]:=by rw[xH V]
     have N:Hid (mH id h (outs.take (k+1)) 0 s=SH id h k outs[k] (mH id h (outs.take k) 0 s)):=by unfold Hid;rw[O,Qh,kI];congr 1;omega
     have J:(mH id h (outs.take k) 0 s).K (id,(k:Int))=none:=by rw[acn id h (outs.take k) 0 s k (by rw[kI];omega)];exact L k O9
     have M:(mH id h (outs.take k) 0 s).steps.length<=100000:=by rw[Va,kI];omega
     generalize outs[k]=o at E F N O;generalize mH id h (outs.take k) 0 s=ab at a N J M;have⟨q,m⟩:=o;simp only at E F;have a6:wr.cell? (g,k*2)=some ↑q:=by rw[b.cell];exact E
     have a7:wr.cell? (g,k*2+1)=some ↑m:=by rw[b.cell];exact F
     have bb:(0:Int)<=(k:Int):=O9;have bc:(k:Int)<(outs.length:Int):=O9;clear O E F L;go_wp2;have b1:Below wr wr (wr.alloc (.cells #[q,m] 69)):=B0.alloc L9 _;have t:=aU wr [q,m] 69;replace a:=a.keep b1;replace f:=f.keep b1 f.lt;replace b:=b.keep b1 b.lt;have R:XJ n mb tb j w _:=Sz Q b1;generalize wr.alloc (.cells #[q,m] 69)=u at t a f b R|-;generalize(wr:Nat)=z at t|-;clear b1 Q a6 a7;have A:=aL (a.keep (cX B0));have D:Hid (∀w1,XJ n mb tb j u.drew w1->Row w1 ↑w 155 [id,.slice gi li ci,.slice g outs.length c]/\Row w1 z 69 [q,m]):=λw1 x=>⟨(jZ f).xj A.out x D9 D9 D9 D9,(jZ t).xj A.out x D9 D9 D9 D9⟩;have hput:Hid (∀W:World,bW W j tb gs n sb mb h ab->Cv 94 #[.pointer tb,.agg #[id,↑(k:Int),q,m,h,aD]] W λe w'=>e=.returned (.tuple #[])/\bW w' j tb gs n sb mb h (SH id h k ⟨q,m⟩ ab)/\XJ n mb tb j W w'):=λW B=>by have⟨v,tr,az⟩:=B.iH;refine(ZO ⟨id,(k:Int),q,m,h⟩ W B.aV tr ⟨I,by show _<=(k:Int);omega,by show(k:Int)<_;omega⟩ J M).mono ?_;rintro e w' ⟨h1,h2,⟨bf,ag,ah⟩,T⟩;exact⟨h1,B.SG T h2 ag (az.1.trans ah),XJ.Nq T⟩
     have⟨tv,y,P⟩:=a.row;have ar:u.cell? (j,0)=some (.pointer tb):=y.cell 0;have au:=y.r 1;have t0:=f.r 0;have q0:=t.r 0;have ay:=t.r 1;clear y P J M a;go_region_held3 (λw'=>w'.cell? (j,0)=some (.pointer tb)/\w'.cell? (j,1)=some ↑h/\w'.cell? ((w:Nat),0)=some ↑id/\w'.cell? (z,0)=some ↑q/\w'.cell? (z,1)=some ↑m) (first|go_keep|exact⟨H.c0,H.c1,(D.out w1 r).1.cell 0,(D.out w1 r).2.cell 0,(D.out w1 r).2.cell 1⟩) ((go_at_call 94;refine(hput.out _ A.out).mono ?_;rintro e w1 ⟨rfl,H,r⟩))
     have ae:=(D.out w1 r).1;have af:=(jZ b).xj A.out r D9 D9 D9 D9;have a8:XJ n mb tb j w w1:=qZ (wK R) r;clear ar au t0 q0 ay D hput A r R t f b;go_wp2;go_roundw;exact⟨k+1,O9,by go_num,by rw[N.out];exact H,ae,af,a8⟩;simp[intOf];omega
    .have aj:k=outs.length:=O9;subst aj;rw[jI]at a;clear L;go_wp2;go_ret;exact⟨by rw[C.out];rfl,by rw[C.out];exact a,Q⟩
def JP.at_{w v l}(h:JP w v l)(b:l.length<=1000):qU w v l:=by obtain⟨g,c,rfl,a⟩:=h;exact FZ (rest:=[]) (by rw[oL];exact a) O9
def ZQ[kF]{j tb gs n sb mb h s}(x gi li ci ov su w)(f:bW w j tb gs n sb mb h s)(D:JP w ov x.outs)(hlen:x.outs.length<=8)(y:∀o∈x.outs,o.Small)(v:x.id.size<=1000000)(F:s.steps.length+8<=100000)(E:0<=s.jA/\s.jA<=1000000000000000)(O:0<=su/\su<=1000000):Cv 130 #[ptr j,.agg #[x.id,.slice (some ⟨gi,0,none⟩) li ci,ov],.int .i64 su] w λe w'=>e=.returned ((kA x h su s).1)/\bW w' j tb gs n sb mb h (kA x h su s).2/\XJ n mb tb j w w':=by
 have q:Hid (∀W:World,bW W j tb gs n sb mb h s->JP W ov x.outs->Cv 153 #[ptr j,.agg #[↑x.id,.slice gi li ci,ov]] W λe w'=>e=.returned (↑(fC x h s).1)/\bW w' j tb gs n sb mb h (fC x h s).2/\XJ n mb tb j W w'):=λW h1 h2=>F6 x gi li ci ov W h1 h2 hlen v F;have r:∀W:World,JP W ov x.outs->Cv 152 #[ov] W λe w'=>e=.returned ↑(fI x.outs)/\Below W W w':=λW h2=>ID ov x.outs W (h2.at_ O9) O9 y;have G:=xh x.outs y;have l:Hid (kA x h su s=if fI x.outs>su+s.jA then(16,s)else fC x h s):=rfl;have⟨id,ins,outs⟩:=x;obtain⟨g,c,rfl,a⟩:=D;simp only at a hlen v r G l q|-;have H:0<=fI outs/\fI outs<=100000000000:=O9;generalize fI outs=A at H r l;unfold ptr at q|-;have b:=aU w [id,.slice gi li ci,.slice g outs.length c] 155;have i:Below w w (w.alloc (.cells #[id,.slice gi li ci,.slice g outs.length c] 155)):=B0.alloc L9 _;replace f:=f.keep i;replace a:=a.keep i a.lt;go_enter fA Tryz.func130,Tryz.ntmps130;go_wp2;generalize w.alloc (.cells #[id,.slice gi li ci,.slice g outs.length c] 155)=X at b i f a|-;have K:∀d os,Cv 152 #[.slice g outs.length c] (Go.Sort.grow (redrawn X d) os) λe M=>e=.returned ↑A/\∃p:Regrown,M=Go.Sort.grow (redrawn X p.d) p.os:=λd os=>Calls.regrown_of (r _ ⟨g,c,rfl,a.keep (below_regrown X d os) a.lt⟩)
 have⟨tv,L,S⟩:=f.row;have k0:=cell_regrown (show X.cell? (j,2)=some ↑s.jA from L.cell 2);have k1:=cell_regrown (show X.cell? ((w:Nat),2)=some (.slice g outs.length c)from b.cell 2);generalize u:s.jA=B at E k0 l;replace u:=aL u;refine wp_region_quiet_below FD K8 ?_;repeat(go_big_quiet_step (first|(go_at_call 152;exact K _ _)))
 refine wpQuiet_nil ?_;intro _ I;have⟨⟨t,z⟩,J⟩:=I;subst J;have hq:=below_regrown X t z;replace a:=a.keep hq a.lt;replace f:=f.keep hq;replace b:=b.keep hq b.lt;replace i:=i.trans (hq.mono i.size);generalize Go.Sort.grow (redrawn X t) z=m at a f b i|-;by_cases aY:su+B<A
 .have k:Hid (kA ⟨id,ins,outs⟩ h su s=(16,s)):=by have:=l.out;rw[bD aY]at this;exact this
  go_wp2;go_ret;exact⟨by rw[k.out];rfl,by rw[k.out];exact f,iW i⟩
 .have k:Hid (kA ⟨id,ins,outs⟩ h su s=fC ⟨id,ins,outs⟩ h s):=by have:=l.out;rw[aT aY]at this;exact this
  have P:=b.r 0;have Q:=b.r 1;have R:=b.r 2;go_wp2;refine(q.out m f ⟨g,c,rfl,a⟩).mono ?_;rintro e w1 ⟨rfl,C,N⟩;go_wp2;go_ret;exact⟨by rw[k.out];rfl,by rw[k.out];exact C,qZ (iW i) N⟩
def BI(K:jO):Prop:=∀p c,K p=some c->0<=c.val/\c.val<=4294967295
def BI.take{K}(h:BI K)(q):BI (K.take q):=by
 intro p c a;unfold jO.take at a;split at a;.cases a
 .exact h p c a
def BI.put{K}(h:BI K)(d)(b:0<=d.val/\d.val<=4294967295):BI (K.put d):=by
 intro p c a;unfold jO.put at a;split at a;.simp_all
 .exact h p c a
def bO{B w e t size n g j v u b cs}(h:w.ownsRow B e size v n b)(r:Row w g t cs)(c:t≠e):(w.setCell ⟨g,j,none⟩ u).ownsRow B e size v n b:=dF h (λk d _ _ a=>((Xc.refl (λk=>k=g) w).setCell (g,j) u (λ_=>rfl)).block k (bE a) (λe=>by subst e;unfold Row at r;rw[r]at a;cases a;exact c rfl))
def bM.setCell{w tb gs n g j v u l t cs}(h:bM w tb gs n v l)(r:Row w g t cs)(a:t≠161)(b:t≠195):bM (w.setCell ⟨g,j,none⟩ u) tb gs n v l:=⟨h.row.aP (g,j) u (h.row.ne r (fY a)),bO h.own r b⟩
def bM.grown{w w' tb gs n B size m v u l e j}(h:bM w tb gs n v l)(d:w.ownsRow B e size u m j)(b:w.grownBy w' u.ownBlock)(f:e≠161)(g:e≠195):bM w' tb gs n v l:=by refine⟨(b.block tb h.row.lt (λc=>dR d h.row (fY f) c.symm)).trans h.row,dF h.own (λk cs _ _ a=>b.block k (bE a) (λc=>?_))⟩;have⟨_,o,i⟩:=bV d c.symm;rw[i]at a;cases a;exact g rfl
def SI{w g j u t cs}(v)(r:Row w g t cs)(h2:t≠195):tJ w v (w.setCell ⟨g,j,none⟩ u) v:=have y:=(iT (λk=>k=g) w).setCell (g,j) u (λ_=>rfl);tJ.all v (dI.of y (λk cs f a e=>by subst e;unfold Row at r;rw[r]at a;cases a;exact h2 rfl)) y.size
def Vb{w w' B size m g j u x e t i cs}(v)(h:w.ownsRow B e size u m i)(r:Row w' g t cs)(b:w.grownBy w' u.ownBlock)(h1:e≠195)(h2:t≠195):tJ w v (w'.setCell ⟨g,j,none⟩ x) v:=(CW v (λk cs f a=>(b.block k (bE a) (λc=>by have⟨_,cs',d⟩:=bV h c.symm;rw[d]at a;cases a;exact h1 rfl)).trans a) b.size).trans (SI v r h2)
def bW.push[kF]{b w1 a tb gs n sb mb h s t tv v1 o}(m:bW b a tb gs n sb mb h s)(r:Row b a 226 [ptr tb,h,s.jA,tv])(q:b.ownsRow kF.w0 247 4 tv s.cF.length (bA s.cF))(d:(b.drew.alloc o).grownBy w1 tv.ownBlock)(x:w1.ownsRow kF.w0 247 4 v1 (s.cF.length+1) (bA s.cF++t.cells)):Row w1 a 226 [ptr tb,h,s.jA,tv]/\XJ n mb tb a b w1/\bW (w1.setCell (a,3) v1) a tb gs n sb mb h {s with cF:=s.cF++[t]}/\XJ n mb tb a b (w1.setCell (a,3) v1):=by
 have g:Below b b (b.drew.alloc o):=(cX B0).alloc L9 _;have r0:=r.keep g r.lt;have i:=aX q g;have⟨v,tr,l⟩:=m.iH;have t0:bM (b.drew.alloc o) tb gs n v s.steps:=⟨tr.row.keep g tr.row.lt,aX tr.own g⟩;have c0:=m.aV.keep g;have r1:Row w1 a 226 [ptr tb,h,↑s.jA,tv]:=(d.block a r0.lt (λc=>dR i r0 D9 c.symm)).trans r0;have c1:=c0.grown i d D9 D9;have t1:=t0.grown i d D9 D9;have u:XJ n mb tb a b w1:=(iW g).grown d (λk e j=>by have⟨h1,cs,h2⟩:=bV q e;exact .inr ⟨bI l.2.1 h1,_,cs,_,.inr rfl,h2⟩)
 refine⟨r1,u,⟨⟨v1,r1.set 3 v1,?_⟩,⟨v,t1.setCell r1 D9 D9,l.1.trans ((tJ.keep _ g).trans (Vb _ i r1 d D9 D9)),((l.2.keep g).xc (S:=λk=>tv.ownBlock=some k) ⟨d.os,d.tape,d.output,d.size,λk j w=>d.block k j (λe=>w e.symm)⟩ (λk cs f j _ e=>by have:=(bV i e).1;omega)).xc ((Xc.refl (λk=>k=a) w1).setCell (a,3) v1 (λ_=>rfl)) (λk cs f _ p e=>by subst e;unfold Row at r1;rw[r1]at p;cases p)⟩,c1.setCell r1 v1 D9 D9⟩,u.setCell (a,3) v1 (λ_=>.inl (.inr rfl))⟩;rw[uK,bY];exact bO x r1 D9
def bW.fee[kF]{w a tb gs n sb mb h s}(f)(c:bW w a tb gs n sb mb h s):bW (w.setCell (a,2) (.int .i64 f)) a tb gs n sb mb h {s with jA:=f}/\XJ n mb tb a w (w.setCell (a,2) f):=by have⟨tv,b,i⟩:=c.row;have⟨v,tr,g⟩:=c.iH;exact⟨⟨⟨tv,b.set 2 _,bO i b D9⟩,⟨v,tr.setCell b D9 D9,g.1.trans (SI _ b D9),g.2.xc ((Xc.refl (λk=>k=a) w).setCell (a,2) _ (λ_=>rfl)) (λk cs f _ d e=>by subst e;unfold Row at b;rw[b]at d;cases d)⟩,c.aV.setCell b _ D9 D9⟩,(Xc.refl _ w).setCell (a,2) _ (λ_=>.inl (.inr rfl))⟩
def aI.Vd:(Vp.info? 247).map (λi=>(i.zero,i.size,i.bytes))=some (some (.agg #[aB,aB,aB,aA]),4,56):=K8
def SJ:=@aI.Vd
def F7(id:ByteArray)(h:Int)(x:jS)(c:dD)(s:JS):JS:={s with K:=s.K.take (x.tx,x.idx),steps:=s.steps++[⟨c,false⟩],cF:=s.cF++[⟨x.key,c.lock,id,h⟩]}
def tL{id h x r sp s c}(a:s.K (x.tx,x.idx)=some c):ny id h (x::r) sp s=ny id h r (sp+c.val) (F7 id h x c s):=by show(match s.K (x.tx,x.idx)with|none=>_|some c=>_)=_;rw[a];rfl
def tM{id h x r sp s}(a:s.K (x.tx,x.idx)=none):ny id h (x::r) sp s=(15,sp,s):=by show(match s.K (x.tx,x.idx)with|none=>_|some c=>_)=_;rw[a]
def Ve{K:jO}{p}(h:K p=none):K.take p=K:=by
 funext q;unfold jO.take;split;.simp_all
 .rfl
def bW.rD[kF]{w j tb gs n g sb mb h s t cs}(x:bW w j tb gs n sb mb h s)(r:Row w g t cs)(v0 v1 v2 v3 b v5)(h1:t≠145)(h2:t≠173)(q:t≠161)(u:t≠226)(d:t≠195)(i:t≠247):bW (BH w g v0 v1 v2 v3 b v5) j tb gs n sb mb h s:=by
 have⟨⟨tv,l,A⟩,⟨v,tr,o⟩,c⟩:=x;have y:=(iT (λk=>k=g) w).rD g v0 v1 v2 v3 b v5 (λ_=>rfl);have own:∀{B e size m:Nat} {v:Value} {p:List Value},w.ownsRow B e size v m p->t≠e->(BH w g v0 v1 v2 v3 b v5).ownsRow B e size v m p:=λh z=>dF h (λk cs' _ _ a=>y.block k (bE a) (λe=>by subst e;unfold Row at r;rw[r]at a;cases a;exact z rfl))
 exact⟨⟨tv,l.acm (l.ne r (Ne.symm u)) _ _ _ _ _ _,own A i⟩,⟨v,⟨tr.row.acm (tr.row.ne r (Ne.symm q)) _ _ _ _ _ _,own tr.own d⟩,o.1.trans (tJ.all _ (dI.of y (λk cs f a e=>by subst e;unfold Row at r;rw[r]at a;cases a;exact d rfl)) y.size),o.2.xc y (λk cs f _ a e=>by subst e;unfold Row at r;rw[r]at a;cases a;exact i rfl)⟩,c.rD r _ _ _ _ _ _ h1 h2⟩
structure Nr(x:Mn)(h:Int)(s:JS)(k:Nat)(sp:Int)(sk:JS):Prop where
 same:ny x.id h x.ins 0 s=ny x.id h (x.ins.drop k) sp sk
 sp0:0<=sp
 sp1:sp<=k*4294967295
 ok:BI sk.K
 jA:sk.jA=s.jA
 steps:sk.steps.length<=s.steps.length+k
 cF:sk.cF.length<=s.cF.length+k
def Nr.next{x h s k sp a i c}(H:Nr x h s k sp a)(d:x.ins.drop k=i::x.ins.drop (k+1))(b:a.K (i.tx,i.idx)=some c):Nr x h s (k+1) (sp+c.val) (F7 x.id h i c a):=by
 have e:=H.ok _ c b;refine⟨by rw[H.same,d,tL b],?_,?_,H.ok.take _,H.jA,?_,?_⟩;.have:=H.sp0;omega
 .have:=H.sp1;omega
 .have:=H.steps;simp[F7];omega
 .have:=H.cF;simp[F7];omega
def ZR[kF]{a tb gs n sb mb h s}(x iv ov w)(j:bW w a tb gs n sb mb h s)(dw:InR w iv x.ins)(dz:JP w ov x.outs)(fq:x.ins.length<=8)(ef:∀i∈x.ins,i.Small)(hlen:x.outs.length<=8)(bm:∀o∈x.outs,o.Small)(ec:x.id.size<=1000000)(fv:s.steps.length<=50000)(fy:s.cF.length<=50000)(fi:0<=s.jA/\s.jA<=100000000000000)(b9:BI s.K):Cv 129 #[ptr a,.agg #[x.id,iv,ov]] w λe w'=>e=.returned ((fU x h s).1)/\bW w' a tb gs n sb mb h (fU x h s).2/\XJ n mb tb a w w':=by
 have cj:Hid (∀(W:World) (s':JS) (gi li ci:Nat),bW W a tb gs n sb mb h s'->s'.steps.length+8<=100000->JP W ov x.outs->Cv 153 #[ptr a,.agg #[↑x.id,.slice gi li ci,ov]] W λe w'=>e=.returned (↑(fC x h s').1)/\bW w' a tb gs n sb mb h (fC x h s').2/\XJ n mb tb a W w'):=λW s' gi li ci h1 h0 h2=>F6 x gi li ci ov W h1 h2 hlen ec h0;have cy:Hid (∀W:World,JP W ov x.outs->Cv 152 #[ov] W λe w'=>e=.returned ↑(fI x.outs)/\Below W W w'):=λW h2=>ID ov x.outs W (h2.at_ O9) O9 bm;have ei:=xh x.outs bm;have ab:Hid (fU x h s=if(ny x.id h x.ins 0 s).1≠0 then((ny x.id h x.ins 0 s).1,(ny x.id h x.ins 0 s).2.2)else if fI x.outs>(ny x.id h x.ins 0 s).2.1 then(16,(ny x.id h x.ins 0 s).2.2)else fC x h {(ny x.id h x.ins 0 s).2.2 with jA:=(ny x.id h x.ins 0 s).2.2.jA+((ny x.id h x.ins 0 s).2.1 -fI x.outs)}):=rfl;have cd:Hid (Nr x h s 0 0 s):=⟨rfl,O9,O9,b9,rfl,O9,O9⟩;obtain⟨g,c,rfl,m⟩:=dz;obtain⟨gi,ci,rfl,y⟩:=dw;generalize af:x.outs.length=lo,a6:x.ins.length=li,V:x.id=id at*;have ej:0<=fI x.outs/\fI x.outs<=100000000000:=O9;clear ei bm b9;generalize a2:fI x.outs=G at ej cy ab;unfold ptr at cj|-;have f:=aU w [id,.slice gi li ci,.slice g lo c] 155;have aa:Below w w (w.alloc (.cells #[id,.slice gi li ci,.slice g lo c] 155)):=B0.alloc L9 _;replace j:=j.keep aa;replace m:=m.keep aa m.lt;replace y:=y.keep aa y.lt;go_enter fA Tryz.func129,Tryz.ntmps129;have e0:=f.r 1;go_wp2;generalize w.alloc (.cells #[id,.slice gi li ci,.slice g lo c] 155)=X at f aa j m y|-;go_loopw [5,13] (λsv i wr=>∃(k:Nat) (sp:Int) (b:JS),k<=li/\i=↑k/\sv=↑sp/\Nr x h s k sp b/\bW wr a tb gs n sb mb h b/\Row wr ↑w 155 [id,.slice gi li ci,.slice g lo c]/\Row wr g 69 (lQ x.outs)/\Row wr gi 133 (mX x.ins)/\XJ n mb tb a w wr) (λ_ i _=>li -(intOf i).toNat);exact⟨0,0,s,O9,rfl,rfl,cd.out,j,f,m,y,iW aa⟩;case round=>
  clear j f m y aa e0 cd;obtain⟨k,sp,b,fj,rfl,rfl,C,j,f,m,y,bb⟩:=hrel;by_cases fs:k<li
  .have bk:=s5 (show k<x.ins.length by omega);have⟨ay,π,az⟩:=wH x.ins k x.ins[k] (bS O9);have ao:x.ins.drop k=x.ins[k]::x.ins.drop (k+1):=xL O9;have ar:=ef _ bk;generalize x.ins[k]=i at ao ay π az ar bk;clear bk;change Hid _ at ao af a6 V a2 C;have⟨q,idx,p⟩:=i;simp only at ay π az;have e6:wr.cell? (gi,k*3)=some ↑q:=by rw[y.cell];exact ay
   have H:wr.cell? (gi,k*3+1)=some ↑idx:=by rw[y.cell];exact π
   have e7:wr.cell? (gi,k*3+2)=some ↑p:=by rw[y.cell];exact az
   have fo:(0:Int)<=(k:Int):=O9;have fp:(k:Int)<(li:Int):=O9;have cv:Hid (GQ (q,idx)):=⟨by have:=ar.1;show q.size<=_;simp only at this;omega,by have:=ar.2.1;show _<=idx;simp only at this;omega,by have:=ar.2.2.2;show idx<_;simp only at this;omega⟩;clear ay π az ar;go_wp2;have b1:Below wr wr (wr.alloc (.cells #[q,idx,p] 133)):=B0.alloc L9 _;have E:=aU wr [q,idx,p] 133;replace j:=j.keep b1;replace f:=f.keep b1 f.lt;replace m:=m.keep b1 m.lt;replace y:=y.keep b1 y.lt;have bq:XJ n mb tb a w _:=Sz bb b1;generalize wr.alloc (.cells #[q,idx,p] 133)=d at E j f m y bq|-;generalize(wr:Nat)=I at E|-;clear b1 bb e6 H e7;have⟨L,M,N,O,P,Q,F⟩:=rY (b.K (q,idx));have ea:b.steps.length<=100000:=by have:=C.out.steps;omega
   generalize ae:({b with K:=b.K.take (q,idx),steps:=ZP b.steps (b.K (q,idx))}:JS)=l;have bo:∀W:World,bW W a tb gs n sb mb h b->Cv 93 #[.pointer tb,.agg #[q,idx]] W λe w'=>∃ba,e=.returned ba/\(ba=.agg #[L,M,N,O,P,.bool Q]/\bW w' a tb gs n sb mb h l/\XJ n mb tb a W w'):=λW bg=>by have⟨v,tr,bp⟩:=bg.iH;refine(U1 (q,idx) W bg.aV tr cv.out ea).mono ?_;rintro e w' ⟨h1,h2,⟨gn,du,dv⟩,b7⟩;exact⟨_,h1,F,by rw[<-ae];exact bg.SG b7 h2 du (bp.1.trans dv),XJ.Nq b7⟩
   change Hid _ at ae F;have bh:Hid (∀(de:Array Value) (w:World),(callFunc 93 de).run Vp w=.ok (.enter 93 de) w):=λ_ _=>by kernel_rfl
   have bf:=j.keep (cX B0);have bd:bW (d.drew.alloc (.cells [.string ⟨#[]⟩,.int .i64 0,.int .i64 0,.string ⟨#[]⟩,.int .i64 0,.bool false].toArray 60)) a tb gs n sb mb h b:=bf.keep (B0.alloc L9 _);have bz:=aU d.drew ↑() 60;have b0:Hid (∀w1,XJ n mb tb a d.drew w1->bW w1 a tb gs n sb mb h l->(d:Nat)<=(w1:Nat)/\Row (w1.alloc (.cells [.string L,.int .i64 M,.int .i64 N,.string O,.int .i64 P,.bool Q].toArray 60)) (w1:Nat) 60 [L,M,N,O,P,.bool Q]/\XJ n mb tb a d (w1.alloc (.cells [.string L,.int .i64 M,.int .i64 N,.string O,.int .i64 P,.bool Q].toArray 60))/\bW (w1.alloc (.cells [.string L,.int .i64 M,.int .i64 N,.string O,.int .i64 P,.bool Q].toArray 60)) a tb gs n sb mb h l):=λw1 x h=>⟨x.size,aU w1 _ _,(qZ (wK (iT _ d)) x).alloc _,h.keep (B0.alloc L9 _)⟩;have ca:Hid (∀w1,XJ n mb tb a (d.drew.alloc (.cells [.string ⟨#[]⟩,.int .i64 0,.int .i64 0,.string ⟨#[]⟩,.int .i64 0,.bool false].toArray 60)) w1->Row w1 ↑d 60 ↑()/\XJ n mb tb a d w1):=λw1 x=>⟨bz.xj bd x D9 D9 D9 D9,qZ ((wK (iT _ d)).alloc _) x⟩;have b4:Hid (∀w1,Row w1 ↑d 60 ↑()->XJ n mb tb a d w1->bW w1 a tb gs n sb mb h l->(d:Nat)<=(d:Nat)/\Row (BH w1 ↑d ↑L ↑M ↑N ↑O ↑P (.bool Q)) ↑d 60 [L,M,N,O,P,.bool Q]/\XJ n mb tb a d (BH w1 ↑d ↑L ↑M ↑N ↑O ↑P (.bool Q))/\bW (BH w1 ↑d ↑L ↑M ↑N ↑O ↑P (.bool Q)) a tb gs n sb mb h l):=λw1 r x h=>⟨L9,r.rD _ _ _ _ _ _,SC x _ _ _ _ _ _ _ O9,h.rD r _ _ _ _ _ _ D9 D9 D9 D9 D9 D9⟩;have cr:=bo d.drew bf;have cu:=bo (d.drew.alloc (.cells ↑() 60)) bd;clear bo bz bd bf;have c0:=E.r 0;have c1:=E.r 1;have eu:=j.c0;have y1:=E.lt;have dh:a<(d:Nat):=by obtain⟨tv,A,_⟩:=j.row;exact A.lt
   go_cut [8] (λs wx=>∃B,s=.pointer (some ⟨B,0,none⟩)/\(d:Nat)<=B/\Row wx B 60 [L,M,N,O,P,.bool Q]/\XJ n mb tb a d wx/\bW wx a tb gs n sb mb h l);case first=>
    go_region_law (first|(refine kR 93 rfl _ _ rfl #[.pointer tb,.agg #[q,idx]] E9 _ cr (bh.out _ _) ?_;rintro ba w1 ⟨rfl,z,H⟩)|(refine kR 93 rfl _ _ rfl #[.pointer tb,.agg #[q,idx]] E9 _ cu (bh.out _ _) ?_;rintro ba w1 ⟨rfl,z,H⟩;obtain⟨RB,e8⟩:=ca.out w1 H;have dk:=RB.cell 0;have dm:=RB.cell 1;have dn:=RB.cell 2;have dp:=RB.cell 3;have dq:=RB.cell 4;have dt:=RB.cell 5;simp only[mG,pA]at dk dm dn dp dq dt;have f0:=RB.frozen 0;have f1:=RB.frozen 1;have f2:=RB.frozen 2;have fe:=RB.frozen 3;have ff:=RB.frozen 4;have fg:=RB.frozen 5));all_goals go_wp2
    all_goals go_meet
    all_goals first
     |exact⟨_,rfl,b0.out w1 H z⟩
     |exact⟨_,rfl,b4.out w1 RB e8 z⟩
   case rest=>obtain⟨B,rfl,fh,R,H,z⟩:=hcut;replace f:=f.xj j H D9 D9 D9 D9;replace E:=E.xj j H D9 D9 D9 D9;replace m:=m.xj j H D9 D9 D9 D9;replace y:=y.xj j H D9 D9 D9 D9;have br:XJ n mb tb a w wc:=qZ bq H;clear cr cu b0 b4 ca c0 c1 eu y1 dh H bq j bh cv;cases J:b.K (q,idx)with
    |none=>
      replace F:=F.out;rw[J]at F;simp only[rX,SA,QY,QZ,zb,Q0,Q3,Q4,za,sX]at F;obtain⟨rfl,rfl,rfl,rfl,rfl,rfl⟩:=F;have aj:ny id h x.ins 0 s=(15,sp,b):=by have:=C.out.same;rw[V.out,ao.out,tM (x:=⟨q,idx,p⟩) J]at this;exact this
      have T:Hid (fU x h s=(15,b)):=by have:=ab.out;rw[aj]at this;exact this
      have cw:l=b:=by rw[<-ae.out,J,Ve J];rfl
      rw[cw]at z;clear aj J cw;have t5:=R.r 5;go_wp2;go_ret;exact⟨by rw[T.out];rfl,by rw[T.out];exact z,br⟩
    |some cn=>
      have⟨a7,n2,μ,D,a8⟩:=cn;replace F:=F.out;rw[J]at F;simp only[rX,dD.v,QY,QZ,zb,Q0,Q3,Q4,za,sX]at F;obtain⟨rfl,rfl,rfl,rfl,rfl,rfl⟩:=F;have cb:=aL (C.out.next (i:=⟨q,idx,p⟩) (by exact ao.out) J);rw[V.out]at cb;have c7:=C.out.ok _ _ J;simp only at c7;have eg:=C.out.sp0;have eh:=C.out.sp1;have cx:Hid ({l with cF:=l.cF++[⟨p,D,id,h⟩]}=F7 id h ⟨q,idx,p⟩ ⟨a7,n2,μ,D,a8⟩ b):=by unfold Hid;rw[<-ae.out,J];rfl
      have ek:l.cF.length<=100000:=by rw[<-ae.out];have:=C.out.cF;show b.cF.length<=_;omega
      clear J;have⟨tv,A,ag⟩:=z.row;obtain⟨ta,ai,rfl⟩:=bG ag;have⟨gg,cm,eo,ep,et⟩:=info_parts SJ;have bu:=aU wc.drew [p,D,id,h] 247;have bx:(wc.drew.alloc (.cells [.string p,.string D,.string id,.int .i64 h].toArray 247)).ownsRow ↑kF.w0 247 4 (.slice ta l.cF.length ai) l.cF.length (bA l.cF):=pC (SE ag) _;have B1:kF.w0.heap.size<=(wc.drew.alloc (.cells [.string p,.string D,.string id,.int .i64 h].toArray 247)).heap.size:=by rw[bL];obtain⟨v,tr,bp,_⟩:=z.iH;have:=bp.1;show _<=(wc:Nat)+1;omega
      have b6:∀u∈[Value.string p,↑D,↑id,↑h],u.oneCell'=true:=by intro u cz;simp only[iN,nO,oJ]at cz;obtain rfl|rfl|rfl|rfl:=cz<;>rfl
      have fin:Hid (∀(v1:Value) (w1:World),(wc.drew.alloc (.cells [.string p,.string D,.string id,.int .i64 h].toArray 247)).grownBy w1 (Value.slice ta l.cF.length ai).ownBlock->w1.ownsRow ↑kF.w0 247 4 v1 (l.cF.length+1) (bA l.cF++[.string p,.string D,.string id,.int .i64 h])->(Row w1 a 226 [ptr tb,h,↑l.jA,.slice ta l.cF.length ai]/\Row w1 ↑w 155 [id,.slice gi li ci,.slice g lo c]/\Row w1 I 133 [q,idx,p]/\Row w1 B 60 [a7,n2,μ,D,a8,aD])/\
       bW (w1.setCell (a,3) v1) a tb gs n sb mb h (F7 id h ⟨q,idx,p⟩ ⟨a7,n2,μ,D,a8⟩ b)/\Row (w1.setCell (a,3) v1) ↑w 155 [id,.slice gi li ci,.slice g lo c]/\Row (w1.setCell (a,3) v1) g 69 (lQ x.outs)/\Row (w1.setCell (a,3) v1) gi 133 (mX x.ins)/\XJ n mb tb a w (w1.setCell (a,3) v1)/\Row (w1.setCell (a,3) v1) I 133 [q,idx,p]/\Row (w1.setCell (a,3) v1) B 60 [a7,n2,μ,D,a8,aD]):=λv1 w1 eb ee=>by
       have⟨Y,ah,au,S⟩:=bW.push (t:=⟨p,D,id,h⟩) z A ag eb ee;rw[cx.out]at au;exact⟨⟨Y,f.xj z ah D9 D9 D9 D9,E.xj z ah D9 D9 D9 D9,R.xj z ah D9 D9 D9 D9⟩,au,f.xj z S D9 D9 D9 D9,m.xj z S D9 D9 D9 D9,y.xj z S D9 D9 D9 D9,qZ br S,E.xj z S D9 D9 D9 D9,R.xj z S D9 D9 D9 D9⟩
      have t5:=R.r 5;have t2:=R.r 2;have t3:=R.r 3;have dd:=E.r 2;have a0:=f.r 0;have ew:=A.r 1;have ey:=A.r 3;have fc:=R.ne A D9;have e2:=E.ne A D9;have e3:=f.ne A D9;have y1:=R.lt;have dh:=E.lt;have gp:=f.lt;have gq:=A.lt;have fz:-9223372036854775808<=sp+μ/\sp+μ<9223372036854775808:=O9;clear A ag f E R m y z br cx C c7 eg eh;go_wp2;refine Ci 20 (λW=>W.cell? (a,3)=some (.slice ta l.cF.length ai)/\W.cell? (a,1)=some ↑h/\W.cell? ((w:Nat),0)=some ↑id/\W.cell? (I,2)=some ↑p/\W.cell? (B,3)=some ↑D) K8 ?_;have hS:(λW:World=>W.cell? (a,3)=some (.slice ta l.cF.length ai)/\W.cell? (a,1)=some ↑h/\W.cell? ((w:Nat),0)=some ↑id/\W.cell? (I,2)=some ↑p/\W.cell? (B,3)=some ↑D) wc.drew:=⟨ey,ew,a0,dd,t3⟩;iterate 16 (refine OD hS ?_;simp only[Act.put,fR])
      refine zB 16 K8 rfl (λK hK=>?_);go_simp;have hA:Below wc wc (wc.drew.alloc (.cells [.string p,.string D,.string id,.int .i64 h].toArray 247)):=(cX B0).alloc L9 _;refine hK.out _ _ (λ_=>⟨aW hA ey,aW hA ew,aW hA a0,aW hA dd,aW hA t3⟩) ?_;clear hK K hS;try simp only[Act.put,fR]
      refine zB 17 K8 rfl (λK hK=>?_);refine yL aI.underlying103 cm eo ep et rfl D9 D9 ↑kF.w0 rfl _ _ rfl (.slice ta l.cF.length ai) l.cF.length (bA l.cF) E9 bx 1 [p,D,id,h] rfl (wc:Nat) 1 E9 bu b6 O9 ek B1 ?_;intro v1 w1 cf π l1;have⟨gk,gj,en⟩:=cP cf l.cF.length rfl;subst en;have⟨⟨Y,ah,au,S⟩,c8,da,e4,q8,e5,dc,db⟩:=fin.out _ _ π cf;have fa:=Y.r 3;have fb:=Y.frozen 3;have z3:=Y.lt;have z4:=Y.r 1;have z5:=ah.r 0;have di:=au.r 2;have dj:=S.r 3;refine hK.out _ _ (λ_=>⟨fa,z4,z5,di,dj⟩) ?_;clear hK K hA;have hS:(λW:World=>W.cell? (a,3)=some (.slice ta l.cF.length ai)/\W.cell? (a,1)=some ↑h/\W.cell? ((w:Nat),0)=some ↑id/\W.cell? (I,2)=some ↑p/\W.cell? (B,3)=some ↑D) w1:=⟨fa,z4,z5,di,dj⟩;show nU _ _ _ _ _ _ _ _ (Act.put _ (some 48) _) _;simp only[Act.put,fR];refine zB 18 K8 rfl (λK hK=>?_);go_simp;refine hK.out _ _ (λ_=>hS) ?_;clear hK K;try simp only[Act.put,fR]
      refine OD hS ?_;simp only[Act.put,fR];refine zB 20 K8 rfl (λK hK=>?_);go_simp;refine hK.out _ _ (λh=>absurd rfl h) ?_;clear hK K hS;refine XI K8 ?_ _;all_goals clear Y ah au S dc db fa fb z3 z4 z5 di dj t5 t2 t3 dd a0 ew ey bu bx B1 b6 fin cm
      all_goals go_wp2
      all_goals go_roundw
      all_goals first
       |exact⟨k+1,sp+μ,_,O9,by go_num,rfl,cb.out,c8,da,e4,q8,e5⟩
       |(simp[intOf];omega)
  .have ed:k=li:=O9;subst ed;have aj:ny id h x.ins 0 s=(0,sp,b):=by have:=C.same;rw[V,Wv O9]at this;exact this
   have bj:=C.jA;have ft:=C.sp0;have fu:=C.sp1;have fw:=C.steps;rw[aj]at ab;simp only[xJ,Ku,ze]at ab;clear aj C;have e1:=f.r 2;change Hid _ at af a6 V a2;go_wp2;refine(cy.out wr ⟨g,c,by rw[af.out],m⟩).m1 λw1 ak=>?_;replace j:=j.keep ak;replace f:=f.keep ak f.lt;replace m:=m.keep ak m.lt;have dg:XJ n mb tb a w w1:=Sz bb ak;clear bb ak e1 y;by_cases aY:sp<G
   .have T:Hid (fU x h s=(16,b)):=by have:=ab.out;rw[bD aY]at this;exact this
    go_wp2;go_ret;exact⟨by rw[T.out];rfl,by rw[T.out];exact j,dg⟩
   .have T:Hid (fU x h s=fC x h {b with jA:=b.jA+(sp -G)}):=by have:=ab.out;rw[aT aY]at this;exact this
    have⟨tv,A,ag⟩:=j.row;have gl:=A.r 2;have f2:=A.frozen 2;have ez:=f.ne A D9;have b8:=aL (j.fee (b.jA+(sp -G)));clear A ag;have av:=f.aP (a,2) ↑(b.jA+(sp -G)) ez;have bc:Row (w1.setCell (a,2) ↑(b.jA+(sp -G))) g 69 (lQ x.outs):=m.aP (a,2) _ (by obtain⟨tv,A,_⟩:=j.row;exact m.ne A D9);have ga:-9223372036854775808<=sp -G/\sp -G<9223372036854775808:=O9;have gd:-9223372036854775808<=b.jA+(sp -G)/\b.jA+(sp -G)<9223372036854775808:=by rw[bj];omega
    replace bj:=aL bj;have t0:=av.r 0;have t1:=av.r 1;have t2:=av.r 2;have u0:=f.r 0;have gm:=f.r 1;have dd:=f.r 2;replace bc:=aL bc;clear av f m j;go_wp2;refine(cj.out _ {b with jA:=b.jA+(sp -G)} gi k ci b8.out.1 (by show b.steps.length+8<=_;omega) ⟨g,c,by rw[af.out],bc.out⟩).mono ?_;rintro e w2 ⟨rfl,dx,e9⟩;go_wp2;go_ret;exact⟨by rw[T.out];rfl,by rw[T.out];exact dx,qZ (qZ dg b8.out.2) e9⟩
def Ns:=@cell_regrown
def bX.v(t:bX):Value:=.agg #[.string t.key,.string t.lock,.string t.id,.int .i64 t.aY]
def bytes_beq(a b:ByteArray):(a.toList==b.toList)=decide (a=b):=by
 by_cases h:a=b;.simp_all
 .rw[kX h,QX];intro e;apply h;rw[ByteArray.toList_eq,ByteArray.toList_eq]at e;have⟨⟨x⟩⟩:=a;simp only at e;rw[e]
def qq{a b:ByteArray}(h:a≠b):a.toList≠b.toList:=by have:=bytes_beq a b;rw[kX h]at this;simpa using this
def ZT{a b c a' e f d d'}(h:(⟨a,b,c,d⟩:bX)≠⟨a',e,f,d'⟩):a.toList≠a'.toList\/(a.toList=a'.toList/\b.toList≠e.toList)\/(a.toList=a'.toList/\b.toList=e.toList/\c.toList≠f.toList)\/(a.toList=a'.toList/\b.toList=e.toList/\c.toList=f.toList/\d≠d'):=by
 by_cases g:a=a'
 .subst g;by_cases i:b=e
  .subst i;by_cases j:c=f;.simp_all
   .exact .inr (.inr (.inl ⟨rfl,rfl,qq j⟩))
  .exact .inr (.inl ⟨rfl,qq i⟩)
 .exact .inl (qq g)
def Vf(s t:bX)(w):(binOp .eql 247 s.v t.v).run Vp w=.ok (.bool (decide (s=t))) w:=by
 have⟨a,b,c,d⟩:=s;have⟨a',e,f,d'⟩:=t;unfold bX.v;rw[run_eql_struct];obtain⟨m,l⟩:∃m,10000=m+2:=⟨9998,rfl⟩;rw[l];have k:decide (({key:=a,lock:=b,id:=c,aY:=d}:bX)=⟨a',e,f,d'⟩)=(decide (a=a')&&(decide (b=e)&&(decide (c=f)&&decide (d=d')))):=by rw[Bool.eq_iff_iff];simp
 rw[k];by_cases g:a=a'<;>by_cases h:b=e<;>by_cases i:c=f<;>by_cases j:d=d'<;>simp[go_sem,bytes_beq,g,h,i,j]
def CY:∀l i x,l[i]?=some x->(bA l)[i*4]?=some x.key/\(bA l)[i*4+1]?=some (.string x.lock)/\(bA l)[i*4+2]?=some (.string x.id)/\(bA l)[i*4+3]?=some (.int .i64 x.aY)
 |[],i,x,h=>by simp at h
 |y::l,0,x,h=>by simp at h;subst h;exact⟨rfl,rfl,rfl,rfl⟩
 |y::l,i+1,x,h=>by have:=CY l i x (by simpa using h);have e:bA (y::l)=y.cells++bA l:=rfl;rw[e];simp[show(i+1)*4=4+i*4 from by omega,show 4+i*4+1=4+(i*4+1)from by omega,show 4+i*4+2=4+(i*4+2)from by omega,show 4+i*4+3=4+(i*4+3)from by omega];have a:y.cells.length=4:=rfl;rw[eK O9,eK O9,eK O9,eK O9];simpa[a]using this
def tN{B}{w:World}{v l k x}(h:w.ownsRow B 247 4 v l.length (bA l))(d:l[k]?=some x):∃g c,v=.slice (some ⟨g,0,none⟩) l.length c/\g<w/\w.cell? ⟨g,k*4,none⟩=some x.key/\w.cell? ⟨g,k*4+1,none⟩=some x.lock/\w.cell? ⟨g,k*4+2,none⟩=some x.id/\w.cell? ⟨g,k*4+3,none⟩=some x.aY:=by
 have n:=(cE.1 d).1;have a:=λg (b:v.ownBlock=some g)=>h.cells (g:=g) b;obtain⟨_,h0⟩|⟨g,cap,cur,rfl,m,b,_⟩:=h.2;.omega
 .have a:=a g rfl;have⟨e,f,i,j⟩:=CY l k x d;refine⟨g,cap,rfl,bE b,?_,?_,?_,?_⟩;.have:=a _ _ e;rwa [add0]at this
  .have:=a _ _ f;rwa [add0]at this
  .have:=a _ _ i;rwa [add0]at this
  .have:=a _ _ j;rwa [add0]at this
def Vg{B}(t v l w)(m:w.ownsRow B 247 4 v l.length (bA l))(R:l.length<=100000):Cv 185 #[v,t.v] w λe w'=>(∃z,e=.returned (.int .i64 z)/\decide (0<=z)=decide (t∈l))/\Below w w w':=by
 have heq:=Vf t;obtain⟨Y,π,rfl⟩:=bG m;have S:Hid (∀x∈l,x=t->t∈l):=λx o e=>e▸o;have⟨a,b,c,d⟩:=t;simp only[bX.v]at heq|-;have f:=aU w [a,b,c,d] 247;have h:Below w w (w.alloc (.cells #[a,b,c,d] 247)):=B0.alloc L9 _;replace m:=aX m h;go_enter fA func185,ntmps185;go_wp2;generalize w.alloc (.cells #[a,b,c,d] 247)=X at f h m|-;go_loopw [8] (λi wr=>∃k,k<=l.length/\i=k/\(∀j x,j<k->l[j]?=some x->⟨a,b,c,d⟩≠x)/\Below X X wr) (λi _=>l.length -(intOf i).toNat);exact⟨0,O9,rfl,λj x p=>by omega,B0⟩;case round=>
  obtain⟨k,Q,rfl,A,n⟩:=hrel;by_cases C:k<l.length
  .have o:=bS C;have q:=s5 C;generalize l[k]=x at o q;have⟨g,cc,K,P,T,μ,V,W⟩:=tN (aX m n) o;cases K;replace f:=f.keep n f.lt;have r0:wr.cell? ((w:Nat),0)=some a:=f.cell 0;have r1:wr.cell? ((w:Nat),1)=some b:=f.cell 1;have r2:wr.cell? ((w:Nat),2)=some c:=f.cell 2;have r3:wr.cell? ((w:Nat),3)=some d:=f.cell 3;have G:(0:Int)<=(k:Int):=O9;have⟨L,M,xc,N⟩:=x;by_cases s:(⟨a,b,c,d⟩:bX)=⟨L,M,xc,N⟩
   .cases s;replace q:=aL q;go_wp2;go_region;all_goals go_wp2
    all_goals go_ret
    all_goals exact⟨⟨(k:Int),rfl,by rw[nM q.out,nM G]⟩,cX (h.trans (n.mono h.size))⟩
   .have E:Hid (∀j x,j<k+1->l[j]?=some x->⟨a,b,c,d⟩≠x):=λj x p u=>by
     by_cases e:j=k;.subst e;rw[o]at u;cases u;exact s
     .exact A j x O9 u
    have I:=ZT s;obtain r|⟨r,y⟩|⟨r,y,D⟩|⟨r,y,D,O⟩:=I;all_goals go_wp2
    all_goals go_region
    all_goals go_wp2
    all_goals go_roundw
    all_goals first
     |exact⟨k+1,O9,by go_num,E.out,cX n⟩
     |(simp[intOf];omega)
  .have F:k=l.length:=O9;subst F;have J:Hid ((⟨a,b,c,d⟩:bX)∉l):=λH=>by have⟨j,p,e⟩:=List.getElem_of_mem H;exact A j _ p (bS p) e.symm
   go_wp2;go_ret;exact⟨⟨-1,rfl,by rw[kX J.out];rfl⟩,h.trans (n.mono h.size)⟩
def JQ{B}(t v l w)(f:w.ownsRow B 247 4 v l.length (bA l))(k:l.length<=100000):Cv 168 #[v,t.v] w λe w'=>e=.returned (.bool (decide (t∈l)))/\Below w w w':=by
 have hi:∀W,W.ownsRow B 247 4 v l.length (bA l)->Cv 185 #[v,t.v] W λe w'=>(∃z:Int,e=.returned z/\decide (0<=z)=decide (t∈l))/\Below (W:Nat) W w':=λW h=>Vg t v l W h k;have⟨a,b,c,d⟩:=t;simp[bX.v]at hi|-;have i:=aU w [a,b,c,d] 247;have g:Below w w (w.alloc (.cells #[a,b,c,d] 247)):=B0.alloc L9 _;replace f:=aX f g;go_enter fA func168,ntmps168;go_wp2;generalize w.alloc (.cells #[a,b,c,d] 247)=X at i g f|-;refine(hi X f).mono ?_;rintro e w1 ⟨⟨z,rfl,m⟩,j⟩;go_wp2;go_ret;exact⟨rfl,g.trans (j.mono g.size)⟩
def SK{B b o}(t v l w)(j:w.cell? (b,o+1)=some v)(i:w.ownsRow B 247 4 v l.length (bA l))(m:l.length<=100000):Cv 161 #[.pointer (some ⟨b,o,none⟩),t.v] w λe w'=>e=.returned (.bool (decide (t∈l)))/\Below w w w':=by
 have hi:∀W,W.ownsRow B 247 4 v l.length (bA l)->Cv 168 #[v,t.v] W λe w'=>e=.returned (.bool (decide (t∈l)))/\Below (W:Nat) W w':=λW h=>JQ t v l W h m;have⟨a,e,c,d⟩:=t;simp[bX.v]at hi|-;have f:=aU w [a,e,c,d] 247;have g:Below w w (w.alloc (.cells #[a,e,c,d] 247)):=B0.alloc L9 _;replace i:=aX i g;replace j:=aW g j;go_enter fA func161,ntmps161;go_wp2;generalize w.alloc (.cells #[a,e,c,d] 247)=X at f g i j|-;have k0:=Ns (show X.cell? ((w:Nat),0)=some a from f.cell 0);have u:=Ns (show X.cell? ((w:Nat),1)=some e from f.cell 1);have k2:=Ns (show X.cell? ((w:Nat),2)=some c from f.cell 2);have x:=Ns (show X.cell? ((w:Nat),3)=some d from f.cell 3);have y:=Ns j;have r:=λd os=>Calls.regrown_of (hi (Go.Sort.grow (redrawn X d) os) (aX i (below_regrown X d os)));refine wp_region_quiet_below FD K8 ?_;repeat(go_big_quiet_step (first|(go_at_call 168;exact r _ _)))
 intro _ p;have⟨⟨k,q⟩,s⟩:=p;have n:=below_regrown X k q;go_wp2;go_ret;exact⟨rfl,g.trans (n.mono g.size)⟩
def fD(l ts:List bX):List bX:=ts.filter λt=>!decide (t∈l)
def GR{B w ops rest o a Q}(n:o.guard=none)(s x)(q:o.op=.call {callee:=.builtin .append,args:=#[s,x],argTypes:=#[103,103]})(v l)(t:a.eval s=v)(r:w.ownsRow B 247 4 v l.length (bA l))
 (d g)(y:a.eval x=.slice g 1 1)(m:Row w g 247 d.cells)(hlen:l.length<=1000000)(k:B<=↑w)
 (h:∀b w',w'.ownsRow B 247 4 b (l++[d]).length (bA (l++[d]))->w.grownBy w' v.ownBlock->(b.ownBlock=v.ownBlock\/b.ownBlock=some ↑w)->wpList Vp ops Q rest (a.put o.dst b) w'):wpList Vp ops Q (o::rest) a w:=by
 have⟨D,hi,z,A,C⟩:=info_parts SJ;refine wpList_append_own_at _ n s x 103 q B 247 D _ 4 56 aI.underlying103 hi z A C rfl D9 v l.length (bA l) t r (g,0) 1 1 d.cells y rfl (λj u p=>by rw[add0,m.cell];exact p) ?_ (by unfold maxLen;omega) O9 k ?_;.intro u c;simp[bX.cells]at c;obtain rfl|rfl|rfl|rfl:=c<;>rfl
 .intro b w' e f _ i;refine h b w' ?_ f i;rw[uK,bY];exact e
def Nt{B B' b o}(mv tv l a w)(V:w.cell? (b,o+1)=some mv)(T:w.ownsRow B 247 4 mv l.length (bA l))(C:w.ownsRow B' 247 4 tv a.length (bA a))(aa:l.length<=100000)(ak:a.length<=100000):Cv 154 #[.pointer (some ⟨b,o,none⟩),tv] w λe w'=>∃N,e=.returned N/\w'.ownsRow w 247 4 N (fD l a).length (bA (fD l a))/\Below w w w':=by
 obtain⟨au,av,rfl⟩:=bG C;go_enter fA Tryz.func154,Tryz.ntmps154;go_wp2;go_loopw [5,10] (λf i wr=>∃k,k<=a.length/\i=k/\wr.ownsRow w 247 4 f (fD l (a.take k)).length (bA (fD l (a.take k)))/\Below w w wr) (λ_ i _=>a.length -(intOf i).toNat);exact⟨0,O9,rfl,nB _ _ _ _,B0⟩;case round=>
  rename_i f _ _;obtain⟨k,ah,rfl,d,c⟩:=hrel;by_cases H:k<a.length
  .have A:=bS H;have z:a.take (k+1)=a.take k++[a[k]]:=by rw[xH H]
   have G:(fD l (a.take k)).length<=1000000:=by have:=Kl (λt=>!decide (t∈l)) (a.take k);rw[kI]at this;unfold fD;omega
   generalize a[k]=x at A z;have q:Hid (fD l (a.take (k+1))=fD l (a.take k)++(if decide (x∈l)then[]else[x])):=by unfold Hid fD;rw[z,List.filter_append];congr 1;by_cases ae:x∈l<;>simp[ae]
   have⟨g,cc,af,Y,J,K,L,M⟩:=tN (aX C c) A;cases af;obtain⟨s,u,rfl⟩:=bG d;have ai:(0:Int)<=(k:Int):=O9;have aj:(k:Int)<(a.length:Int):=O9;have r:∀W,Below w w W->Cv 161 #[.pointer (b,o),x.v] W λe w'=>e=.returned (.bool (decide (x∈l)))/\Below (W:Nat) W w':=λW E=>SK x mv l W (aW E V) (aX T E) aa;clear z A;generalize X:decide (x∈l)=R at q r;clear X;generalize F:fD l (a.take k)=fk at d G q|-;replace F:=aL F;have⟨j,m,xc,n⟩:=x;simp only[bX.v]at J K L M r;have h:=aU wr [j,m,xc,n] 247;have y:Below wr wr (wr.alloc (.cells #[j,m,xc,n] 247)):=B0.alloc L9 _;replace d:=aX d y;replace c:=c.trans (y.mono c.size);go_wp2;generalize wr.alloc (.cells #[j,m,xc,n] 247)=Q at h d c|-;generalize(wr:Nat)=I at h|-;refine(r Q c).m1 λw1 p=>?_;replace h:=h.keep p h.lt;replace d:=aX d p;replace c:=c.trans (p.mono c.size);clear p r y J K L M Y;cases R with
   |true=>go_wp2;go_roundw;exact⟨k+1,O9,by go_num,by rw[q.out];simpa using d,c⟩;simp[intOf];omega
   |false=>
     have r0:w1.cell? (I,0)=some j:=h.cell 0;have r1:w1.cell? (I,1)=some m:=h.cell 1;have r2:w1.cell? (I,2)=some xc:=h.cell 2;have r3:w1.cell? (I,3)=some n:=h.cell 3;have O:=aU w1 [j,m,xc,n] 247;have P:=pC d (.cells #[j,m,xc,n] 247);have B1:(w:Nat)<=(w1.alloc (.cells #[j,m,xc,n] 247)).heap.size:=by rw[bL];have:=c.size;omega
     have μ:Below w w (w1.alloc (.cells #[j,m,xc,n] 247)):=c.alloc c.size _;have ab:∀k,(Value.slice s fk.length u).ownBlock=some k->(w:Nat)<=k:=λk e=>(bV d e).1;go_wp2_with (refine GR rfl _ _ rfl (.slice s fk.length u) fk E9 P ⟨j,m,xc,n⟩ (w1:Nat) E9 O G B1 ?_;intro v2 w2 D S l2;obtain⟨ar,ao,ag⟩:=cP D fk.length S8;subst ag);go_roundw;exact⟨k+1,O9,by go_num,by rw[q.out];exact D,μ.trans (ZE S B1 ab)⟩;simp[intOf];omega
  .have π:k=a.length:=O9;subst π;rw[jI]at d;obtain⟨s,u,rfl⟩:=bG d;go_wp2;go_ret;exact⟨_,rfl,d,c⟩
def SL:=@World.grownBy.trans
def putAt(cs:List Value):Nat->List Value->List Value
 |_,[]=>cs
 |o,v::r=>putAt (cs.set o v) (o+1) r
def Row.setCells{g t}:∀a o w cs,Row w g t cs->Row (w.setCells g o a) g t (putAt cs o a)
 |[],_,_,_,h=>h
 |v::r,o,w,cs,h=>Row.setCells r (o+1) _ _ (h.set o v)
def agc:=@Row.setCells
def IE:∀c a old b,old.length=c.length->putAt (a++(old++b)) a.length c=a++(c++b)
 |[],a,old,b,h=>by have:old=[]:=oG (by simpa using h);rw[this];rfl
 |v::r,a,[],b,h=>by simp at h
 |v::r,a,o::old,b,h=>by show putAt ((a++(o::old++b)).set a.length v) (a.length+1) r=_;rw[uT _ _ L9];simp;have:=IE r (a++[v]) old b (by simpa using h);simp at this;rw[this]
def CZ(g):∀(a:List Value) (o:Nat) (w:World),w.grownBy (w.setCells g o a) (some g)
 |[],_,w=>aZ w _
 |v::r,o,w=>SL (bJ w (g,o) v) (CZ g r (o+1) _)
def Nu(l):(bA l).length=l.length*4:=by induction l with
 |nil=>rfl
 |cons x l a=>simp only[bA,BS,bY]at*;simp only[bX.cells,fL,jU];omega
def Nv(l):∀u∈bA l,u.oneCell'=true:=by intro u b;have⟨t,_,a⟩:=List.mem_flatMap.1 b;simp[bX.cells]at a;obtain rfl|rfl|rfl|rfl:=a<;>rfl
def Vh{B w g n cap b}(h:w.ownsRow B 247 4 (.slice g n cap) n b):∃sp,Row w g 247 (b++sp)/\B<=g/\n<=cap/\cap<=maxLen/\(b++sp).length=cap*4:=by
 obtain⟨a,_⟩|⟨g',j,cur,a,f,i,c,d,k,e⟩:=h.2;.cases a
 .cases a;refine⟨cur.toList.drop (n*4),?_,f,c,d,?_⟩;.rw[<-e,BX];unfold Row;rw[i]
  .grind
def aco{B w g n cap a sp}(h:Row w g 247 (a++sp))(f:B<=g)(c:n<=cap)(d:cap<=maxLen)(e:(a++sp).length=cap*4)(b:a.length=n*4):w.ownsRow B 247 4 (.slice g n cap) n a:=⟨b,.inr ⟨g,cap,(a++sp).toArray,rfl,f,h,c,d,by simpa using e,by rw[<-b];simp⟩⟩
def vv:List Value:=[↑aB,↑aB,↑aB,↑aA]
def F8(w ty g k c a old sp)(d:Row w g 247 (a++(old++sp)))(j:a.length=k)(p:old.length=4):∃w',(Builtin.clear_ #[103] ty #[.slice (g,k) 1 c]).run Vp w=.ok (.tuple #[]) w'/\Row w' g 247 (a++(vv++sp))/\w.grownBy w' (some g):=by
 have q:=aI.underlying103;have n:Builtin.zeroCells (Value.agg #[aB,aB,aB,aA]).cells 1=vv.toArray:=K8;have b:=run_storeCells_at (P:=Vp) g k 247 vv 0 (a++(old++sp)).toArray w d (by simp[vv];omega) (by intro v f;simp[vv]at f;obtain rfl|rfl|rfl|rfl:=f<;>rfl);have m:(Builtin.clear_ #[103] ty #[.slice (g,k) 1 c]).run Vp w=.ok (.tuple #[]) (w.setRow g (a++(vv++sp)).toArray):=by
  simp only[DZ]at b;have e:((a++(old++sp)).toArray.toList.take k++vv++(a++(old++sp)).toArray.toList.drop (k+vv.length))=a++(vv++sp):=by
   subst j;have o:vv.length=4:=rfl;have h:(a++(old++sp)).drop (a.length+4)=sp:=by simp_all
   rw[o,h,List.take_left,iG]
  rw[e]at b;simp[Builtin.clear_,n,b]
 refine⟨_,m,?_,?_⟩;.unfold Row;rw[setRow_heap w g _ _ _ _ d]
 .refine⟨rfl,rfl,rfl,by simp[World.setRow],λi hi l=>setRow_other _ _ _ _ (λe=>l (by rw[e]))⟩
def Qi{B g cap}(t r w)(s:w.ownsRow B 247 4 (.slice g (t::r).length cap) (t::r).length (bA (t::r)))(L:r.length<=1000):Cv 167 #[.slice (some ⟨g,0,none⟩) (t::r).length cap,aA,aG] w λe w'=>e=.returned (.slice g r.length cap)/\w'.ownsRow B 247 4 (.slice g r.length cap) r.length (bA r)/\w.grownBy w' (some g):=by
 have⟨sp,a,E,n,D,f⟩:=Vh s;have⟨C,h,M,A,N⟩:=info_parts SJ;have z:bA (t::r)=t.cells++bA r:=rfl;rw[z]at a f;have i:=Nu r;have y:=Nv r;have q:(t.cells++bA r).length=(bA r).length+4:=by simp only[bY];show 4+_=_;omega
 have I:∃old,old.length=4/\putAt (t.cells++bA r++sp) 0 (bA r)=bA r++(old++sp):=by refine⟨(t.cells++bA r).drop (bA r).length,by rw[BW];omega,?_⟩;have:=IE (bA r) [] ((t.cells++bA r).take (bA r).length) ((t.cells++bA r).drop (bA r).length++sp) (by rw[kI];omega);simp only[vI,jU]at this;rw[<-iG,BX]at this;rw[this]
 have⟨old,x,p⟩:=I;simp only[fL]at n f|-;have o:∀j u,(bA r)[j]?=some u->w.drew.cell? (((g,4):Addr).add j)=some u:=λj u b=>by
  have e:((g,4):Addr).add j=(g,4+j):=by unfold Addr.add;split<;>simp_all
  rw[e];have:=(jZ a).cell (4+j);rw[this,iG,eK (by show 4<=_;omega)];show(bA r++sp)[4+j -4]?=_;rw[show 4+j -4=j from by omega,nz (cE.1 b).1];exact b
 have k:∀j,j<(bA r).length->(w.drew.cell? (g,0+0*4+j)).isSome=true/\w.drew.frozen? (g,0+0*4+j)=false:=λj b=>by refine⟨?_,(jZ a).frozen _⟩;rw[(jZ a).cell,bS (by simp only[bY]at q|-;omega)];rfl
 have c:Row (w.drew.setCells g (0+0*4) (bA r)) g 247 (bA r++(old++sp)):=by have:=agc (bA r) 0 w.drew _ (jZ a);rw[p]at this;exact this
 have d:w.grownBy (w.drew.setCells g (0+0*4) (bA r)) (some g):=SL (fF (aZ w _)) (CZ g (bA r) _ w.drew);have K:=n;have fin:Hid (∀w',Row w' g 247 (bA r++(vv++sp))->w'.ownsRow B 247 4 (.slice g r.length cap) r.length (bA r)):=λw' J=>aco J E O9 D (by simp only[bY]at f q|-;rw[show vv.length=4 from rfl];omega) i;have O:(1:Int)<=(r.length:Int)+1:=O9;have P:(r.length:Int)+1<=(cap:Int):=O9;have Q:(0:Int)<=(r.length:Int):=O9;have R:(r.length:Int)<=(r.length:Int)+1:=O9;replace p:=aL p;clear s a z f q n;by_cases F:cap=1
 .have H:r=[]:=oG O9;subst F H;have v:∀j u,(bA [])[j]?=some u->w.drew.cell? (((g,0):Addr).add j)=some u:=λj u b=>by simp[bA]at b
  clear o;go_enter fA func167,ntmps167;go_wp2;go_region_law (refine step_append_room rfl _ _ 103 rfl 247 C 4 aI.underlying103 h A g 0 0 1 (by simp[Act.eval,Act.put]) (g,0) 0 0 (bA []) (by simp[Act.eval,Act.put]) i v y O9 k ?_);all_goals generalize w.drew.setCells g (0+0*4) (bA [])=W at c d|-
  all_goals clear v k h
  all_goals obtain⟨w2,G,l,m⟩:=F8 W 0 g 0 1 (bA []) old sp c rfl x
  all_goals go_wp2
  all_goals go_ret
  all_goals exact⟨rfl,fin.out w2 l,SL d m⟩
 .go_enter fA func167,ntmps167;go_wp2;go_region_law (refine step_append_room rfl _ _ 103 rfl 247 C 4 aI.underlying103 h A g 0 0 cap (by simp[Act.eval,Act.put]) (g,4) r.length (cap -1) (bA r) (by simp[Act.eval,Act.put]) i o y O9 k ?_);all_goals generalize w.drew.setCells g (0+0*4) (bA r)=W at c d|-
  all_goals clear o k h
  all_goals obtain⟨w2,G,l,m⟩:=F8 W 0 g (r.length*4) (cap -r.length) (bA r) old sp c i x
  all_goals go_wp2
  all_goals go_ret
  all_goals exact⟨rfl,fin.out w2 l,SL d m⟩
def rR(most:Nat)(t:bX)(l:List bX):List bX:=if t∈l then l else if most<(l++[t]).length then(l++[t]).drop 1 else l++[t]
structure gX(w:World)(nb B:Nat)(cs:List Value)(most:Nat)(mv:Value)(l:List bX):Prop where
 row:Row w nb 107 cs
 Vi:cs[14]?=some (.int .i64 most)
 IG:cs[15]?=some mv
 own:w.ownsRow B 247 4 mv l.length (bA l)
 base:B<=w.heap.size
def gX.keep{w w' nb B cs b mv l}(h:gX w nb B cs b mv l)(a:Below w w w'):gX w' nb B cs b mv l:=⟨h.row.keep a h.row.lt,h.Vi,h.IG,aX h.own a,bI h.base a.size⟩
def MF(nb:Nat)(mv:Value)(k:Nat):Prop:=k=nb\/mv.ownBlock=some k
def IH(cs:List Value)(a b):(cs.set 15 a).set 15 b=cs.set 15 b:=by simp
def q9{cs:List Value}{a}(h:cs[15]?=some a):cs.set 15 a=cs:=by
 apply kJ;intro i;by_cases e:i=15;.grind
 .grind
def gX.push{a w1 nb B cs f mv v1 l t o}(h:gX a nb B cs f mv l)(d:(a.drew.alloc o).grownBy w1 mv.ownBlock)(m:w1.ownsRow B 247 4 v1 (l.length+1) (bA l++t.cells))(j:v1.ownBlock=mv.ownBlock\/v1.ownBlock=some ↑(a.drew.alloc o)):Row w1 nb 107 cs/\gX (w1.setCell (nb,15) v1) nb B (cs.set 15 v1) f v1 (l++[t])/\Xc (MF nb mv) a (w1.setCell (nb,15) v1)/\(∀k,v1.ownBlock=some k->mv.ownBlock=some k\/a<=k):=by
 have b:Below a a (a.drew.alloc o):=(cX B0).alloc L9 _;have r0:=h.row.keep b h.row.lt;have n:=aX h.own b;have r1:Row w1 nb 107 cs:=(d.block nb r0.lt (λc=>dR n r0 D9 c.symm)).trans r0;have g:Xc (MF nb mv) a w1:=(iW b).grown d (λk e _=>.inr e);refine⟨r1,⟨r1.set 15 v1,?_,?_,?_,?_⟩,g.setCell (nb,15) v1 (λ_=>.inl rfl),?_⟩;.rw[sY D9];exact h.Vi
 .rw[Q5 (cE.1 h.IG).1]
 .rw[uK,bY];exact bO m r1 D9
 .have:=(g.setCell (nb,15) v1 (λ_=>.inl rfl)).size;have:=h.base;omega
 .intro k i;obtain e|e:=j;.simp_all
  .rw[i]at e;have:=jV e;rw[bL]at this;have p:a.drew.heap.size=(a:Nat):=rfl;omega
def ZU{nb B most cs mv l}(t w)(h:gX w nb B cs most mv l)(hl:l.length<=500)(hm:most<=1000):Cv 156 #[.pointer (nb,14),t.v] w λe w'=>e=.returned (.tuple #[])/\∃mv',gX w' nb B (cs.set 15 mv') most mv' (rR most t l)/\Xc (MF nb mv) w w'/\∀k,mv'.ownBlock=some k->mv.ownBlock=some k\/w<=k:=by
 have hhs:∀W,gX W nb B cs most mv l->Cv 161 #[.pointer (nb,14),t.v] W λe w'=>e=.returned (.bool (decide (t∈l)))/\Below (W:Nat) W w':=λW hW=>SK (b:=nb) (o:=14) t mv l W (by rw[hW.row.cell];exact hW.IG) hW.own O9;have hno:Hid (rR most t l=if t∈l then l else if most<(l++[t]).length then(l++[t]).drop 1 else l++[t]):=rfl;obtain⟨va,vc,rfl⟩:=bG h.own;have R0:=aU w t.cells 247;have hb0:Below w w (w.alloc (.cells t.cells.toArray 247)):=B0.alloc L9 _;replace h:=h.keep hb0;have hcl:Hid (∀l':List bX,bA l'++t.cells=bA l'++t.cells):=λ_=>rfl;by_cases hin:t∈l
 .have hn1:Hid (rR most t l=l):=by have:=hno.out;rw[bD hin]at this;exact this
  rw[nM hin]at hhs;replace hin:=aL hin;have⟨ta,GU,tc,td⟩:=t;simp only[bX.v,bX.cells]at hhs R0 hb0 h|-;go_enter fA func156,ntmps156;go_wp2;generalize w.alloc (.cells #[ta,GU,tc,td] 247)=X at R0 hb0 h|-;refine(hhs X h).m1 λw1 hb1=>?_;replace h:=h.keep hb1;go_wp2;refine nC (KB rfl _ _ _) rfl ?_;refine⟨rfl,_,?_,iW (hb0.trans (hb1.mono hb0.size)),λk e=>.inl e⟩;rw[hn1.out,q9 h.IG];exact h
 .rw[kX hin]at hhs;have⟨ta,GU,tc,td⟩:=t;simp only[bX.v,bX.cells]at hhs R0 hb0 h|-;have hn1:Hid (rR most ⟨ta,GU,tc,td⟩ l=if most<(l++[(⟨ta,GU,tc,td⟩:bX)]).length then(l++[(⟨ta,GU,tc,td⟩:bX)]).drop 1 else l++[⟨ta,GU,tc,td⟩]):=by have:=hno.out;rw[aT hin]at this;exact this
  clear hno hin hcl;go_enter fA func156,ntmps156;go_wp2;generalize w.alloc (.cells #[ta,GU,tc,td] 247)=X at R0 hb0 h|-;refine(hhs X h).m1 λw1 hb1=>?_;replace h:=h.keep hb1;replace R0:=R0.keep hb1 R0.lt;replace hb0:=hb0.trans (hb1.mono hb0.size);clear hb1 hhs;go_wp2;have⟨i1,hi1,agX,agY,agZ⟩:=info_parts SJ;have N1:=aU w1.drew [ta,GU,tc,td] 247;have O2:(w1.drew.alloc (.cells [.string ta,.string GU,.string tc,.int .i64 td].toArray 247)).ownsRow B 247 4 (.slice va l.length vc) l.length (bA l):=pC (SE h.own) _;have B1:B<=(w1.drew.alloc (.cells [.string ta,.string GU,.string tc,.int .i64 td].toArray 247)).heap.size:=by rw[bL];have:=h.base;show _<=(w1:Nat)+1;omega
  have h1c:∀u∈[Value.string ta,↑GU,↑tc,↑td],u.oneCell'=true:=by intro u hu;simp only[iN,nO,oJ]at hu;obtain rfl|rfl|rfl|rfl:=hu<;>rfl
  have fin:Hid (∀(v2:Value) (w2:World),(w1.drew.alloc (.cells [.string ta,.string GU,.string tc,.int .i64 td].toArray 247)).grownBy w2 (Value.slice va l.length vc).ownBlock->w2.ownsRow B 247 4 v2 (l.length+1) (bA l++[.string ta,.string GU,.string tc,.int .i64 td])->(v2.ownBlock=(Value.slice va l.length vc).ownBlock\/v2.ownBlock=some ↑(w1.drew.alloc (.cells [.string ta,.string GU,.string tc,.int .i64 td].toArray 247)))->Row w2 nb 107 cs/\gX (w2.setCell (nb,15) v2) nb B (cs.set 15 v2) most v2 (l++[⟨ta,GU,tc,td⟩])/\Xc (MF nb (.slice va l.length vc)) w1 (w2.setCell (nb,15) v2)/\(∀k,v2.ownBlock=some k->(Value.slice va l.length vc).ownBlock=some k\/(w1:Nat)<=k)):=λv2 w2 hg ho hw=>gX.push (t:=⟨ta,GU,tc,td⟩) h hg ho hw
  have c0:=R0.r 0;have c1:=R0.r 1;have c2:=R0.r 2;have c3:=R0.r 3;have n15:w1.cell? (nb,15)=some (.slice va l.length vc):=by rw[h.row.cell];exact h.IG
  have y1:=R0.lt;have y2:=h.row.lt;go_cut [] (λwx=>∃v2,gX wx nb B (cs.set 15 v2) most v2 (l++[⟨ta,GU,tc,td⟩])/\Xc (MF nb (.slice va l.length vc)) w1 wx/\(∀k,v2.ownBlock=some k->(Value.slice va l.length vc).ownBlock=some k\/(w1:Nat)<=k));case first=>
   go_region_law (refine yL aI.underlying103 hi1 agX agY agZ rfl D9 D9 B rfl _ _ rfl (.slice va l.length vc) l.length (bA l) E9 O2 1 [ta,GU,tc,td] rfl (w1:Nat) 1 E9 N1 h1c O9 O9 B1 ?_;intro v2 w2 hT2 g2 l2;obtain⟨ig,ic,hv2⟩:=cP hT2 l.length rfl;subst hv2;obtain⟨q1,q2,q3,q4⟩:=fin.out _ _ g2 hT2 l2;have z1:w2.cell? (nb,15)=some (.slice va l.length vc):=(by rw[q1.cell];exact h.IG);have z2:=q1.frozen 15;have z3:=q1.lt);all_goals go_wp2
   all_goals go_meet
   all_goals exact⟨_,q2,q3,q4⟩
  case rest=>
   have⟨v2,hM,x2,hv2⟩:=hcut;clear fin N1 O2 B1 h1c c0 c1 c2 c3 n15 y1 y2 hi1 R0;have xw:=(iW hb0).trans x2 (λ_ _ e=>e);have hvw:Hid (∀k,v2.ownBlock=some k->(Value.slice va l.length vc).ownBlock=some k\/(w:Nat)<=k):=λk e=>(hv2 k e).imp id (λq=>bI hb0.size q);clear x2 hv2 hb0 h;obtain⟨t0,r,hLr⟩:∃t0 r,l++[(⟨ta,GU,tc,td⟩:bX)]=t0::r:=by cases l with
    |nil=>exact⟨_,_,rfl⟩
    |cons x l=>exact⟨_,_,rfl⟩
   have hrl:r.length=l.length:=by have:=congrArg List.length hLr;simp at this;omega
   rw[hLr]at hM hn1;replace hLr:=aL hLr;have⟨g,cap,hv⟩:=cP hM.own r.length S8;subst hv;have n14:wc.cell? (nb,14)=some ↑most:=by rw[hM.row.cell];exact hM.Vi
   have n15:wc.cell? (nb,15)=some (.slice g (r.length+1) cap):=by rw[hM.row.cell];exact hM.IG
   have hdl:Hid (∀W,W.ownsRow B 247 4 (.slice g (r.length+1) cap) (t0::r).length (bA (t0::r))->Cv 167 #[.slice g (r.length+1) cap,aA,aG] W λe w'=>e=.returned (.slice g r.length cap)/\w'.ownsRow B 247 4 (.slice g r.length cap) r.length (bA r)/\W.grownBy w' (some g)):=λW hW=>Qi t0 r W hW O9;replace hrl:=aL hrl;by_cases aY:most<r.length+1
   .have hn2:Hid (rR most ⟨ta,GU,tc,td⟩ l=r):=by have:=hn1.out;rw[bD (show most<(t0::r).length from aY)]at this;exact this
    have hgi:(most:Int)<(r.length:Int)+1:=O9;go_wp2;go_region;all_goals go_wp2
    all_goals refine(hdl.out _ (by exact hM.own)).mono ?_
    all_goals rintro e w3 ⟨rfl,hO3,g3⟩
    all_goals(have hne:g≠nb:=λe=>dR hM.own hM.row D9 (by rw[e];rfl))
    all_goals(have R3:Row w3 nb 107 (cs.set 15 (.slice g (r.length+1) cap)):=(g3.block nb hM.row.lt (λc=>hne (jV c).symm)).trans hM.row)
    all_goals(have m15:w3.cell? (nb,15)=some (.slice g (r.length+1) cap):=by rw[R3.cell];exact hM.IG)
    all_goals(have f15:=R3.frozen 15)
    all_goals(have abH:Hid (gX (w3.setCell (nb,15) (.slice g r.length cap)) nb B (cs.set 15 (.slice g r.length cap)) most (.slice g r.length cap) r):=⟨by have:=R3.set 15 (.slice g r.length cap);rw[IH]at this;exact this,by have:=hM.Vi;rw[sY D9]at this|-;exact this,by have:=(cE.1 hM.IG).1;rw[KG]at this;rw[Q5 this],bO hO3 R3 D9,by have:=hM.base;have:=g3.size;have hd:wc.drew.heap.size=(wc:Nat):=rfl;have:=(bJ w3 (nb,15) (.slice g r.length cap)).size;omega⟩)
    all_goals(have x3:Hid (Xc (MF nb (.slice va l.length vc)) w (w3.setCell ⟨nb,15,none⟩ (.slice (some ⟨g,0,none⟩) r.length cap))):=((wK xw).grown g3 (λk e hk=>by cases e;exact(hvw.out g rfl).elim (λq=>.inr q) (λq=>by omega))).setCell ⟨nb,15,none⟩ _ (λ_=>.inl rfl))
    all_goals go_wp2
    all_goals go_end0
    all_goals exact⟨rfl,.slice g r.length cap,by rw[hn2.out];exact abH.out,x3.out,λk e=>hvw.out k e⟩
   .have hn2:Hid (rR most ⟨ta,GU,tc,td⟩ l=t0::r):=by have:=hn1.out;rw[aT (show¬most<(t0::r).length from aY)]at this;exact this
    have hgi:¬((most:Int)<(r.length:Int)+1):=O9;go_wp2;go_region;all_goals go_wp2
    all_goals go_end0
    all_goals exact⟨rfl,_,by rw[hn2.out];exact hM.keep (cX B0),wK xw,λk e=>hvw.out k e⟩
end Go.Proofs.aH
