import Derived.ProofKit
import Derived.SizedLaws
import Derived.Carry
import Derived.Deep.Slices
import Derived.Deep.Strs
import Derived.Lib.SmallJoins
import Derived.Test.YtpjcmpfncpnmeabGreatRows
import Derived.Test.YtpjcmpfncpnmeabGreatM19
import Derived.Test.YtpjcmpfncpnmeabGreatM23
set_option linter.all false
set_option maxHeartbeats 16000000
set_option maxRecDepth 100000
namespace Go.Proofs.aH
open Go.RowKit Go.Ren
def KV(f)(h:aI.X0 f):∃fn s,Vp.funcs[f]?=some fn/\fn.body=some (.refuse s):=by obtain rfl:=h;exact⟨_,_,aI.func2,rfl⟩
structure Fx(S S':Nat->Prop)(W W':World):Prop where
 size:W.heap.size<=W'.heap.size
 tape:W'.tape=W.tape
 os:W'.os=W.os
 out:W'.output=W.output
 rest:∀k,k<W.heap.size->¬S k->W'.heap[k]?=W.heap[k]?
 old:∀k,S' k->S k\/W.heap.size<=k
def Fx.below{S S' W W'}(f:Fx S S' W W')(B)(h:∀k,k<B->S k->False)(hB:B<=W.heap.size):Below B W W':=⟨f.os,f.tape,f.out,f.size,λk a=>f.rest k (dV a hB) (h k a)⟩
def rng(U:Nat->Option Nat)(k:Nat):Prop:=∃b,U b=some k
abbrev Tv(U:Nat->Option Nat)(w W:World):Prop:=Twn Vp Gs.self U w W
def p8{f args a w W U R}(N:f≠2)(h:Calls Vp f args w R)(k:∀e w',R e w'->∃v,e=.returned v)(T:Tv U w W)(b:eQ Gs.self U λZ=>a=args.map (bB Z)):Calls Vp f a W λe W'=>∃v j w' d,R (.returned v) w'/\e=.returned j/\(eQ Gs.self d λZ=>j=bB Z v)/\Ext U d/\Tv d w' W'/\Fx (rng U) (rng d) W W':=
 (N8 rfl aI.adX ado aI.Tc KV N h k T b).mono λe W' ⟨v,j,w',d,q1,q2,q3,q4,q5,q6⟩=>⟨v,j,w',d,q1,q2,q3,q4,q5,⟨q6.size,q6.tape,q6.os,q6.output,λk a n=>q6.rest k a (λb e=>n ⟨b,e⟩),λk ⟨b,e⟩=>(pX k W.heap.size).imp (λh=>⟨b,q6.old b k e h⟩) id⟩⟩
def Tv.keep{U w W W'}(T:Tv U w W)(h1:W.heap.size<=W'.heap.size)(h2:W'.tape=W.tape)(h3:W'.os=W.os)(h4:∀k,rng U k->W'.heap[k]?=W.heap[k]?):Tv U {w with drawn:=W'.drawn} W':=⟨⟨T.ok.inj,λb c e=>⟨(T.ok.lt b c e).1,dV (T.ok.lt b c e).2 h1⟩,T.ok.real,T.ok.low⟩,λb c e=>by have⟨o,o',a,d,r⟩:=T.obj b c e;exact⟨o,o',a,(h4 c ⟨b,e⟩).trans d,r⟩,h3.trans T.os,T.tape.trans h2.symm,rfl⟩
def Pp(w:World)(d):Below w w {w with drawn:=d}:=⟨rfl,rfl,rfl,L9,λ_ _=>rfl⟩
structure VN(W:World)(S:Nat->Prop)(nb:Nat)(c:fV)(a:AG):Prop where
 ex:∃w U n,jP w n c a/\U n=some nb/\Tv U w W/\S=rng U
def VN.lt{W S nb c a k}(h:VN W S nb c a)(s:S k):k<W.heap.size:=by obtain⟨w,U,n,_,_,T,rfl⟩:=h.ex;obtain⟨b,e⟩:=s;exact(T.ok.lt b k e).2
def VN.same{W W' S nb c a}(h:VN W S nb c a)(h1:W.heap.size<=W'.heap.size)(h2:W'.tape=W.tape)(h3:W'.os=W.os)(h4:∀k,S k->W'.heap[k]?=W.heap[k]?):VN W' S nb c a:=by obtain⟨w,U,n,N,e,T,rfl⟩:=h.ex;exact⟨_,U,n,N.keep (Pp w _),e,T.keep h1 h2 h3 h4,rfl⟩
def VN.keep{W W' S nb c a}(h:VN W S nb c a)(b:Below W W W'):VN W' S nb c a:=h.same b.size b.tape b.os λk s=>b.block k (h.lt s)
def VN.by{W W' S T T' nb c a}(h:VN W S nb c a)(f:Fx T T' W W')(d:∀k,S k->¬T k):VN W' S nb c a:=h.same f.size f.tape f.os λk s=>f.rest k (h.lt s) (d k s)
def VN.new(c:fV)(W)(h:c.ok=true):Calls Vp 14 #[c.v] W λe W'=>∃b S D,e=.returned (.tuple #[ptr b,aA])/\VN W' S b c (Dl D)/\Fx (λ_=>False) S W W':=by
 refine(p8 (U:=λ_=>none) D9 (R5 c W) (λe w' r=>by
  obtain⟨_,r⟩|⟨b,_,r,_⟩:=r.2;.exact⟨_,r⟩
  .exact⟨_,r⟩) ⟨⟨(nofun),(nofun),(nofun),λ_ _=>rfl⟩,(nofun),rfl,rfl,rfl⟩ (λZ r _=>?_)).mono ?_
 .simp[fV.v]
 .rintro e W' ⟨v,j,w',d,⟨_,q1⟩,rfl,q3,_,q5,q6⟩;obtain⟨q1,_⟩|⟨b,_,q1,_,q7⟩:=q1;.rw[h]at q1;cases q1
  .cases q1;have⟨Z,p1,p2⟩:=q5.ok.one;have hj:=q3 Z p1 p2;simp[ptr]at hj;have hb:d b=some (Z b):=q5.ok.dom (λπ' r c=>by have:=q3 π' r c;rw[hj]at this;simpa[ptr]using this)
   refine⟨Z b,rng d,W.heap.size,by rw[hj];rfl,⟨w',d,b,R6 q7 h,hb,q5,rfl⟩,q6.size,q6.tape,q6.os,q6.out,λk a _=>q6.rest k a (λ⟨_,e⟩=>(nomatch e)),λk s=>(q6.old k s).imp (λ⟨_,e⟩=>(nomatch e)) id⟩
def aeu{W S nb c a}(s)(h:VN W S nb c a):Calls Vp 12 #[ptr nb,.string (mk s)] W λe W'=>e=.returned (.tuple #[.agg #[.int .i64 (gL c a s).1,.int .i64 (gL c a s).2.1],.int .i64 (gL c a s).2.2.1])/\∃S',VN W' S' nb c (gL c a s).2.2.2/\Fx S S' W W':=by
 obtain⟨w,U,n,N,e,T,rfl⟩:=h.ex;refine(p8 D9 (Jw s w N) (λe w' r=>⟨_,r.1⟩) T (λZ r p=>?_)).mono ?_;.simp[ptr,p n nb e]
 .rintro e' W' ⟨v,j,w',d,⟨q1,q2,_⟩,rfl,q3,q4,q5,q6⟩;cases q1;have⟨Z,p1,p2⟩:=q5.ok.one;have hj:=q3 Z p1 p2;simp at hj;exact⟨by rw[hj],_,⟨w',d,n,q2,q4 _ _ e,q5,rfl⟩,q6⟩
def VN.rS{W S nb c a}(h:VN W S nb c a):Calls Vp 10 #[ptr nb] W λe W'=>e=.returned a.an.zT/\∃S',VN W' S' nb c a/\Fx S S' W W':=by
 obtain⟨w,U,n,N,e,T,rfl⟩:=h.ex;refine(p8 D9 (Pq w N.is) (λe w' r=>⟨_,r.1⟩) T (λZ r p=>?_)).mono ?_;.simp[ptr,p n nb e]
 .rintro e' W' ⟨v,j,w',d,⟨q1,q2⟩,rfl,q3,q4,q5,q6⟩;cases q1;have⟨Z,p1,p2⟩:=q5.ok.one;have hj:=q3 Z p1 p2;simp[AN.zT]at hj;exact⟨by rw[hj];rfl,_,⟨w',d,n,N.keep q2,q4 _ _ e,q5,rfl⟩,q6⟩
def Fu(Z):∀D:List dD,(dN D).map (bB Z)=dN D
 |[]=>rfl
 |c::D=>by have ih:=Fu Z D;unfold dN at*;rw[BS,nP,ih];congr 1;simp[qL]
def Jx{d w' W' v j B n D}(T:Tv d w' W')(h:w'.ownsRow B 60 6 v n (dN D))(q:eQ Gs.self d λZ=>j=bB Z v):W'.ownsRow 0 60 6 j n (dN D)/\∀k,j.ownBlock=some k->rng d k:=by
 have⟨Z,p1,p2⟩:=T.ok.one;have hj:=q Z p1 p2;obtain⟨rfl,h0⟩|⟨g,cap,cur,rfl,h1,h2,h3⟩:=h.2
 .have e:j=.slice none 0 0:=by rw[hj];simp
  exact⟨⟨h.1,.inl ⟨e,h0⟩⟩,λk x=>by rw[e]at x;cases x⟩
 .have hz:∀Z,Rn Gs.self Z->bB Z (.slice (some ⟨g,0,none⟩) n cap)=.slice (some ⟨Z g,0,none⟩) n cap:=λZ r=>by rw[bQ,oW,fE (by rw[r.gh];rfl),Rw]
  rw[hz Z p1]at hj;have hb:d g=some (Z g):=T.ok.dom (λπ' r c=>by have:=q π' r c;rw[hj,hz π' r]at this;simpa using this)
  have⟨o,o',a1,a2,_,a4⟩:=T.obj g _ hb;rw[h2]at a1;cases a1;refine⟨⟨h.1,.inr ⟨Z g,cap,cur.map (bB Z),hj,fJ _,by rw[a2,a4 Z p1 p2];rfl,h3.1,h3.2.1,by rw[G5];exact h3.2.2.1,?_⟩⟩,λk x=>by rw[hj]at x;cases x;exact⟨g,hb⟩⟩;rw[rG,<-Wd,h3.2.2.2,Fu]
def VN.aV{W S nb c a}(C)(h:VN W S nb c a)(x:pM a.an.K C)(hl:C.length<=100000):Calls Vp 11 #[ptr nb] W λe W'=>∃v D,D.Perm C/\lA D/\e=.returned v/\W'.ownsRow 0 60 6 v D.length (dN D)/\∃S',VN W' S' nb c a/\Fx S S' W W':=by
 obtain⟨w,U,n,N,e,T,rfl⟩:=h.ex;refine(p8 D9 (H7 C w N.is x hl) (λe w' ⟨v,_,_,_,r,_⟩=>⟨v,r⟩) T (λZ r p=>?_)).mono ?_;.simp[ptr,p n nb e]
 .rintro e' W' ⟨v,j,w',d,⟨v',D,r1,r2,r3,r4,r5⟩,rfl,q3,q4,q5,q6⟩;cases r3;exact⟨j,D,r1,r2,rfl,(Jx q5 r4 q3).1,_,⟨w',d,n,N.keep r5,q4 _ _ e,q5,rfl⟩,q6⟩
structure vM(C:Nat)(w:World)(sa:Option Addr)(l:List (Int×List Int)):Prop where
 at_:l≠[]->∃g o,g<C/\sa=some ⟨g,o,none⟩/\∀(i:Nat) (x:Int×List Int),l[i]?=some x->(-9223372036854775808<=x.1/\x.1<9223372036854775808)/\∃va vc,w.cell? ⟨g,o+i*2,none⟩=some (.int .i64 x.1)/\w.cell? ⟨g,o+i*2+1,none⟩=some (.slice va x.2.length vc)/\lW C w (.slice va x.2.length vc) x.2
def vM.lw{C w w' sa l}(h:vM C w sa l)(x:Lw C w w'):vM C w' sa l:=by refine⟨λd=>?_⟩;have⟨g,o,a,e,f⟩:=h.at_ d;refine⟨g,o,a,e,λi y j=>?_⟩;have⟨hr,va,vc,b,h2,c⟩:=f i y j;exact⟨hr,va,vc,zV x a b,zV x a h2,c.lw x L9⟩
structure PQ(w wr:World)(rb B m:Nat)(c:fV)(r:p9)(a:AG):Prop where
 lw:Lw w.heap.size w wr
 run:gB wr rb B r
 node:jP wr r.nb r.c a
 kD:vp r m
 c:r.c=kC c
 lo:w.heap.size<=rb/\w.heap.size<=B/\w.heap.size<=a.lo
 i0:0<r.ids.length
def YO.pq{w w' rb B c r a}(h:YO w w' rb B c r a):PQ w w' rb B 2 c r a:=⟨h.lw,h.run,h.node,h.kD,h.c,h.lo,by rw[h.i2];decide⟩
def PQ.keep{w wr w' rb B m c r a}(h:PQ w wr rb B m c r a)(b:Below wr wr w'):PQ w w' rb B m c r a:=⟨h.lw.trans (Mp b),h.run.keep b,h.node.keep b,h.kD,h.c,h.lo,h.i0⟩
def PQ.base{w0 w wr rb B m c r a}(h:PQ w wr rb B m c r a)(b:Below w0.heap.size w0 w):PQ w0 wr rb B m c r a:=⟨(Mp b).trans (h.lw.mono b.size),h.run,h.node,h.kD,h.c,⟨bI b.size h.lo.1,bI b.size h.lo.2.1,bI b.size h.lo.2.2⟩,h.i0⟩
def PQ.make{w wr w' rb B m c r d a}(h:PQ w wr rb B m c r a)(p:Fv wr w' rb B m r d):PQ w w' rb B (m+1) c d a:=by
 have mf:=h.run.mf (LB:=(w:Nat)) p.fx ⟨h.lo.1,h.lo.2.1⟩;have f:=h.node.mf mf;have hN:jP w' d.nb d.c a:=by rw[p.nb,p.c];exact f
 exact⟨h.lw.trans mf.lw,p.run,hN,p.kD,p.c.trans h.c,h.lo,p.made.2⟩
def PQ.sub{w wr w' rb B m c r a s}(h:PQ w wr rb B m c r a)(b:jP w' r.nb r.c (gL r.c a s).2.2.2)(y:Ck a.lo Y2 wr w'):PQ w w' rb B m c r (gL r.c a s).2.2.2:=⟨h.lw.trans (y.lw.mono h.lo.2.2),h.run.ck y (zW D9 D9 D9 D9 D9 D9) (zW D9 D9 D9 D9 D9 D9) (zW D9 D9 D9 D9 D9 D9) (zW D9 D9 D9 D9 D9 D9),b,h.kD,h.c,by rw[abD];exact h.lo,h.i0⟩
structure PV(w wr:World)(rb B m:Nat)(c:fV)(r:p9)(a:AN):Prop where
 lw:Lw w.heap.size w wr
 run:gB wr rb B r
 node:uw wr r.nb r.c a
 kD:vp r m
 c:r.c=kC c
def PV.keep{w wr w' rb B m c r a}(h:PV w wr rb B m c r a)(b:Below wr wr w'):PV w w' rb B m c r a:=⟨h.lw.trans (Mp b),h.run.keep b,h.node.keep b,h.kD,h.c⟩
def Cl(w:World):Prop:=∀(b:Nat) (cs:Array Value) (t:TypeId) (f:Nat×Nat),w.heap[b]?=some (.cells cs t f)->∀Z,Rn Gs.self Z->(∀b,dM w b->Z b=b)->cs.map (bB Z)=cs
structure XV(w0 W:World)(S:Nat->Prop)(rb nb:Nat)(s:List UInt8)(c:fV)(a:AG)(m:Nat):Prop where
 size:w0.heap.size<=W.heap.size
 ex:∃w U q B r,PQ w0 w q B m c r a/\Tv U w W/\(∀b,dM w0 b->U b=some b)/\U q=some rb/\U r.nb=some nb/\r.made=mk s/\S=rng U
def XV.lt{w0 W S rb nb s c a m k}(h:XV w0 W S rb nb s c a m)(e:S k):k<W.heap.size:=by obtain⟨w,U,q,B,r,_,T,_,_,_,_,rfl⟩:=h.ex;obtain⟨b,e⟩:=e;exact(T.ok.lt b k e).2
def XV.same{w0 W W' S rb nb s c a m}(h:XV w0 W S rb nb s c a m)(h1:W.heap.size<=W'.heap.size)(h2:W'.tape=W.tape)(h3:W'.os=W.os)(h4:∀k,S k->W'.heap[k]?=W.heap[k]?):XV w0 W' S rb nb s c a m:=by obtain⟨w,U,q,B,r,P,T,i,e1,e2,e3,rfl⟩:=h.ex;exact⟨bI h.size h1,_,U,q,B,r,P.keep (Pp w _),T.keep h1 h2 h3 h4,i,e1,e2,e3,rfl⟩
def XV.keep{w0 W W' S rb nb s c a m}(h:XV w0 W S rb nb s c a m)(b:Below W W W'):XV w0 W' S rb nb s c a m:=h.same b.size b.tape b.os λk s=>b.block k (h.lt s)
def XV.by{w0 W W' S T T' rb nb s c a m}(h:XV w0 W S rb nb s c a m)(f:Fx T T' W W')(d:∀k,S k->¬T k):XV w0 W' S rb nb s c a m:=h.same f.size f.tape f.os λk s=>f.rest k (h.lt s) (d k s)
def XV.lw{w0 W S rb nb s c a m}(h:XV w0 W S rb nb s c a m)(C:Cl w0):Lw w0.heap.size w0 W:=by obtain⟨w,U,q,B,r,P,T,i,_⟩:=h.ex;refine⟨h.size,λk cs t f l e=>?_⟩;have⟨o,o',a1,a2,_,a4⟩:=T.obj k k (i k ⟨cs,t,f,e⟩);rw[P.lw.cells k cs t f l e]at a1;cases a1;have⟨Z,p1,p2⟩:=T.ok.one;rw[a2,a4 Z p1 p2,dK,C k cs t f e Z p1 (λb h=>p2 b b (i b h))]
def YL{w0 W S rb nb s c a m}(h:XV w0 W S rb nb s c a m):W.cell? ⟨rb,0,none⟩=some (.pointer (some ⟨nb,0,none⟩))/\W.cell? ⟨rb,4,none⟩=some (.int .i64 (kC c).su)/\W.cell? ⟨rb,5,none⟩=some (.int .i64 (kC c).bi)/\W.cell? ⟨rb,10,none⟩=some (.string (mk s)):=by
 obtain⟨w,U,q,B,r,P,T,i,e1,e2,e3,_⟩:=h.ex;have⟨o,o',a1,a2,_,a4⟩:=T.obj q rb e1;have hr:=P.run.row;unfold Row at hr;rw[hr]at a1;cases a1;have⟨Z,p1,p2⟩:=T.ok.one;have R:Row W rb 37 (r.cells.map (bB Z)):=by unfold Row;rw[a2,a4 Z p1 p2];simp[dK]
 have hn:=p2 _ _ e2;refine⟨(R.cell 0).trans ?_,(R.cell 4).trans ?_,(R.cell 5).trans ?_,(R.cell 10).trans ?_⟩;.show some (bB Z (.pointer (some ⟨r.nb,0,none⟩)))=_;simp[hn]
 .show some (bB Z (.int .i64 r.c.su))=_;simp[P.c]
 .show some (bB Z (.int .i64 r.c.bi))=_;simp[P.c]
 .show some (bB Z (.string r.made))=_;simp[e3]
def XV.begin{w0}(c:fV)(W)(C:Cl w0)(hc:c.Ints)(hW:Below w0.heap.size w0 W):Calls Vp 8 #[.agg #[.int .i64 c.wk,.int .i64 c.sh,.int .i64 c.me,.int .i64 c.su,.int .i64 c.bi],aF] W λe W'=>∃rb nb s a S D,e=.returned (.pointer (some ⟨rb,0,none⟩))/\XV w0 W' S rb nb s c a 2/\gL (kC c) (Dl D) s=(0,1,0,a)/\Fx (λk=>k<w0.heap.size) S W W':=by
 have T:Tv (idC w0) {w0 with drawn:=W.drawn} W:=⟨⟨(pI w0).inj,λb c e=>⟨((pI w0).lt b c e).1,dV ((pI w0).lt b c e).2 hW.size⟩,(pI w0).real,(pI w0).low⟩,λb c e=>by obtain⟨⟨cs,t,f,a⟩,rfl⟩:=kB.1 e;exact⟨_,_,a,(hW.block b (bE a)).trans a,rfl,λZ g d=>by simp only[dK];rw[C b cs t f a Z g (yB (nD _) d)]⟩,hW.os,hW.tape.symm,rfl⟩
 refine(p8 D9 (Uh c {w0 with drawn:=W.drawn} hc) (λe w' ⟨_,_,_,_,r,_⟩=>⟨_,r⟩) T (λZ r p=>?_)).mono ?_;.simp
 .rintro e W' ⟨v,j,w',d,⟨q,B,r,a,q1,Bg⟩,rfl,q3,q4,q5,q6⟩;cases q1;have⟨Z,p1,p2⟩:=q5.ok.one;have hj:=q3 Z p1 p2;simp at hj;have hb:d q=some (Z q):=q5.ok.dom (λπ' r c=>by have:=q3 π' r c;rw[hj]at this;simpa using this)
  have hn:d r.nb=some (Z r.nb):=by have⟨o,o',a1,a2,_,a4⟩:=q5.obj q _ hb;have hr:=Bg.run.row;unfold Row at hr;rw[hr]at a1;cases a1;refine q5.ok.dom (λπ' r' c=>?_);have h1:=a4 Z p1 p2;have h2:=a4 π' r' c;rw[h1]at h2;simp[dK,p9.cells]at h2;exact h2.1
  obtain⟨s,D,f1,f2⟩:=Bg.first;rw[Bg.c]at f2;refine⟨Z q,Z r.nb,s,a,rng d,D,by rw[hj],⟨bI hW.size q6.size,w',d,q,B,r,Bg.pq.base (Pp w0 _),q5,λb h=>q4 _ _ (kB.2 ⟨h,rfl⟩),hb,hn,f1,rfl⟩,f2.2,q6.size,q6.tape,q6.os,q6.out,λk a h=>q6.rest k a (λ⟨b,e⟩=>h ((pI w0).lt b k e).2),λk s=>(q6.old k s).imp (λ⟨b,e⟩=>((pI w0).lt b k e).2) id⟩
def XV.make{w0 W S rb nb s c a m g j v va vc}{l:List Int}(h:XV w0 W S rb nb s c a m)(C:Cl w0)(hv:-9223372036854775808<=v/\v<9223372036854775808)(p:w0.cell? ⟨g,j,none⟩=some (.slice va l.length vc))(hI:lW w0.heap.size w0 (.slice va l.length vc) l)(hm:m<=2000000):Calls Vp 9 #[.pointer (some ⟨rb,0,none⟩),.agg #[.int .i64 v,.slice va l.length vc]] W λe W'=>e=.returned ↑aD/\∃S' s',XV w0 W' S' rb nb s' c a (m+1)/\Fx S S' W W':=by
 obtain⟨w,U,q,B,r,P,T,i,e1,e2,e3,rfl⟩:=h.ex;obtain⟨_,_,hb,hb2⟩:=DG c;refine(p8 D9 (YN v l va vc w P.run hv P.i0 P.kD (hI.lw P.lw L9) ⟨P.lo.1,P.lo.2.1⟩ hm (by rw[P.c];exact⟨hb,hb2⟩)) (λe w' r=>⟨_,r.1⟩) T (λZ r p'=>?_)).mono ?_
 .have hs:bB Z (.slice va l.length vc)=.slice va l.length vc:=by
   unfold World.cell? at p;split at p;.rename_i cs t f e;simp at p;have h1:=C g cs t f e Z r (λb h=>p' b b (i b h));have h2:=congrArg (λx:Array Value=>x[j]?) h1;simp[p]at h2;simpa using h2
   .cases p
  simp only[List.map_toArray,kV,DY,dB,hs,cN,bF,dY,Rw,p' q rb e1]
 .rintro e W' ⟨v,j,w',d,⟨q1,r',M⟩,rfl,q3,q4,q5,q6⟩;cases q1;have⟨Z,p1,p2⟩:=q5.ok.one;have hj:=q3 Z p1 p2;simp at hj;obtain⟨s',hs⟩:=M.made.1;exact⟨by rw[hj],_,s',⟨bI h.size q6.size,w',d,q,B,r',P.make M,q5,λb h=>q4 _ _ (i b h),q4 _ _ e1,by rw[M.nb];exact q4 _ _ e2,hs,rfl⟩,q6⟩
def aev{w0 W S rb nb s c a m}(h:XV w0 W S rb nb s c a m):Calls Vp 12 #[ptr nb,.string (mk s)] W λe W'=>e=.returned (.tuple #[.agg #[.int .i64 (gL (kC c) a s).1,.int .i64 (gL (kC c) a s).2.1],.int .i64 (gL (kC c) a s).2.2.1])/\∃S',XV w0 W' S' rb nb s c (gL (kC c) a s).2.2.2 m/\Fx S S' W W':=by
 obtain⟨w,U,q,B,r,P,T,i,e1,e2,e3,rfl⟩:=h.ex;refine(p8 D9 (Jw s w P.node) (λe w' r=>⟨_,r.1⟩) T (λZ r p=>?_)).mono ?_;.simp[ptr,p _ _ e2]
 .rintro e' W' ⟨v,j,w',d,⟨q1,q2,y⟩,rfl,q3,q4,q5,q6⟩;cases q1;have⟨Z,p1,p2⟩:=q5.ok.one;have hj:=q3 Z p1 p2;simp at hj;have hP:=P.sub q2 y;rw[P.c]at hj hP;exact⟨by rw[hj],_,⟨bI h.size q6.size,w',d,q,B,r,hP,q5,λb h=>q4 _ _ (i b h),q4 _ _ e1,q4 _ _ e2,e3,rfl⟩,q6⟩
def XV.rS{w0 W S rb nb s c a m}(h:XV w0 W S rb nb s c a m):Calls Vp 10 #[ptr nb] W λe W'=>e=.returned a.an.zT/\∃S',XV w0 W' S' rb nb s c a m/\Fx S S' W W':=by
 obtain⟨w,U,q,B,r,P,T,i,e1,e2,e3,rfl⟩:=h.ex;refine(p8 D9 (Pq w P.node.is) (λe w' r=>⟨_,r.1⟩) T (λZ r p=>?_)).mono ?_;.simp[ptr,p _ _ e2]
 .rintro e' W' ⟨v,j,w',d,⟨q1,q2⟩,rfl,q3,q4,q5,q6⟩;cases q1;have⟨Z,p1,p2⟩:=q5.ok.one;have hj:=q3 Z p1 p2;simp[AN.zT]at hj;exact⟨by rw[hj];rfl,_,⟨bI h.size q6.size,w',d,q,B,r,P.keep q2,q5,λb h=>q4 _ _ (i b h),q4 _ _ e1,q4 _ _ e2,e3,rfl⟩,q6⟩
def XV.aV{w0 W S rb nb s c a m}(D0)(h:XV w0 W S rb nb s c a m)(x:pM a.an.K D0)(hl:D0.length<=100000):Calls Vp 11 #[ptr nb] W λe W'=>∃v D,D.Perm D0/\lA D/\e=.returned v/\W'.ownsRow 0 60 6 v D.length (dN D)/\∃S',XV w0 W' S' rb nb s c a m/\Fx S S' W W'/\∀k,v.ownBlock=some k->S' k:=by
 obtain⟨w,U,q,B,r,P,T,i,e1,e2,e3,rfl⟩:=h.ex;refine(p8 D9 (H7 D0 w P.node.is x hl) (λe w' ⟨v,_,_,_,r,_⟩=>⟨v,r⟩) T (λZ r p=>?_)).mono ?_;.simp[ptr,p _ _ e2]
 .rintro e' W' ⟨v,j,w',d,⟨v',D,r1,r2,r3,r4,r5⟩,rfl,q3,q4,q5,q6⟩;cases r3;exact⟨j,D,r1,r2,rfl,(Jx q5 r4 q3).1,_,⟨bI h.size q6.size,w',d,q,B,r,P.keep r5,q5,λb h=>q4 _ _ (i b h),q4 _ _ e1,q4 _ _ e2,e3,rfl⟩,q6,(Jx q5 r4 q3).2⟩
def XV.wf{w0 W S rb nb s c a m}(h:XV w0 W S rb nb s c a m):zU a:=by obtain⟨w,U,q,B,r,P,_⟩:=h.ex;exact P.node.wf
structure BV(w0 W:World)(S μ:Nat->Prop)(rb xb yb:Nat)(s:List UInt8)(c o:fV)(m:Nat)(a b:AG):Prop where
 ex:∃T,XV w0 W S rb xb s c a m/\VN W T yb o b/\(∀k,S k->¬T k)/\μ=λk=>S k\/T k
def BV.lt{w0 W S μ rb xb yb s c o m a b k}(h:BV w0 W S μ rb xb yb s c o m a b)(e:μ k):k<W.heap.size:=by obtain⟨T,x,y,d,rfl⟩:=h.ex;exact e.elim x.lt y.lt
def BV.keep{w0 W W' S μ rb xb yb s c o m a b}(h:BV w0 W S μ rb xb yb s c o m a b)(z:Below W W W'):BV w0 W' S μ rb xb yb s c o m a b:=by obtain⟨T,x,y,d,rfl⟩:=h.ex;exact⟨T,x.keep z,y.keep z,d,rfl⟩
def abE{w0 W W' S S' T rb xb yb s s' c o m m' a a' b}(x:XV w0 W S rb xb s c a m)(y:VN W T yb o b)(d:∀k,S k->¬T k)(x':XV w0 W' S' rb xb s' c a' m')(f:Fx S S' W W'):∃μ,BV w0 W' S' μ rb xb yb s' c o m' a' b/\Fx (λk=>S k\/T k) μ W W':=⟨_,⟨T,x',y.by f (λk t e=>d k e t),λk e t=>(f.old k e).elim (λe=>d k e t) (λe=>by have:=y.lt t;omega),rfl⟩,f.size,f.tape,f.os,f.out,λk l n=>f.rest k l (λe=>n (.inl e)),λk e=>e.elim (λe=>(f.old k e).imp .inl id) (λe=>.inl (.inr e))⟩
def aew{w0 W W' S T T' rb xb yb s c o m a b}(x:XV w0 W S rb xb s c a m)(d:∀k,S k->¬T k)(y':VN W' T' yb o b)(f:Fx T T' W W'):∃μ,BV w0 W' S μ rb xb yb s c o m a b/\Fx (λk=>S k\/T k) μ W W':=⟨_,⟨T',x.by f d,y',λk e t=>(f.old k t).elim (d k e) (λt=>by have:=x.lt e;omega),rfl⟩,f.size,f.tape,f.os,f.out,λk l n=>f.rest k l (λe=>n (.inr e)),λk e=>e.elim (λe=>.inl (.inl e)) (λe=>(f.old k e).imp .inr id)⟩
structure Ow(W:World)(μ:Nat->Prop)(k:Nat)(t:TypeId)(cs:List Value):Prop where
 row:Row W k t cs
 no:¬μ k
def Ow.fx{W W' μ U' k t cs}(h:Ow W μ k t cs)(f:Fx μ U' W W'):Ow W' U' k t cs:=⟨(f.rest k h.row.lt h.no).trans h.row,λe=>(f.old k e).elim h.no (λe=>by have:=h.row.lt;omega)⟩
def Ow.keep{W W' μ k t cs}(h:Ow W μ k t cs)(b:Below W W W'):Ow W' μ k t cs:=⟨h.row.keep b h.row.lt,h.no⟩
def abF{w0 W S μ rb xb yb s c o m a b g j v va vc}{l:List Int}(h:BV w0 W S μ rb xb yb s c o m a b)(C:Cl w0)(hv:-9223372036854775808<=v/\v<9223372036854775808)(p:w0.cell? ⟨g,j,none⟩=some (.slice va l.length vc))(hI:lW w0.heap.size w0 (.slice va l.length vc) l)(hm:m<=2000000):Cv 9 #[.pointer (some ⟨rb,0,none⟩),.agg #[.int .i64 v,.slice va l.length vc]] W λe W'=>e=.returned ↑aD/\∃S' U' s',BV w0 W' S' U' rb xb yb s' c o (m+1) a b:=by
 obtain⟨T,x,y,d,rfl⟩:=h.ex;exact(x.make C hv p hI hm).mono λe W' ⟨q,S',s',x',f⟩=>⟨q,have⟨μ,h1,_⟩:=abE x y d x' f;⟨S',μ,s',h1⟩⟩
def R7{w0 W S μ rb xb yb s c o m a b}(h:BV w0 W S μ rb xb yb s c o m a b):Cv 12 #[ptr xb,.string (mk s)] W λe W'=>e=.returned (.tuple #[.agg #[.int .i64 (gL (kC c) a s).1,.int .i64 (gL (kC c) a s).2.1],.int .i64 (gL (kC c) a s).2.2.1])/\∃S' U',BV w0 W' S' U' rb xb yb s c o m (gL (kC c) a s).2.2.2 b/\Fx μ U' W W':=by obtain⟨T,x,y,d,rfl⟩:=h.ex;exact(aev x).mono λe W' ⟨q,S',x',f⟩=>⟨q,S',abE x y d x' f⟩
def R8{w0 W S μ rb xb yb s c o m a b}(z)(h:BV w0 W S μ rb xb yb s c o m a b):Cv 12 #[ptr yb,.string (mk z)] W λe W'=>e=.returned (.tuple #[.agg #[.int .i64 (gL o b z).1,.int .i64 (gL o b z).2.1],.int .i64 (gL o b z).2.2.1])/\∃U',BV w0 W' S U' rb xb yb s c o m a (gL o b z).2.2.2/\Fx μ U' W W':=by obtain⟨T,x,y,d,rfl⟩:=h.ex;exact(aeu z y).mono λe W' ⟨q,S',x',f⟩=>⟨q,aew x d x' f⟩
def BV.agS{w0 W S μ rb xb yb s c o m a b}(h:BV w0 W S μ rb xb yb s c o m a b):Cv 10 #[ptr xb] W λe W'=>e=.returned a.an.zT/\∃S' U',BV w0 W' S' U' rb xb yb s c o m a b:=by obtain⟨T,x,y,d,rfl⟩:=h.ex;exact x.rS.mono λe W' ⟨q,S',x',f⟩=>⟨q,S',have⟨μ,h1,_⟩:=abE x y d x' f;⟨μ,h1⟩⟩
def BV.agT{w0 W S μ rb xb yb s c o m a b}(h:BV w0 W S μ rb xb yb s c o m a b):Cv 10 #[ptr yb] W λe W'=>e=.returned b.an.zT/\∃U',BV w0 W' S U' rb xb yb s c o m a b/\Fx μ U' W W':=by obtain⟨T,x,y,d,rfl⟩:=h.ex;exact y.rS.mono λe W' ⟨q,S',x',f⟩=>⟨q,aew x d x' f⟩
def CL{w0 W S μ rb xb yb s c o m a b}(h:BV w0 W S μ rb xb yb s c o m a b):W.cell? ⟨rb,0,none⟩=some (.pointer (some ⟨xb,0,none⟩))/\W.cell? ⟨rb,10,none⟩=some (.string (mk s)):=by obtain⟨T,x,_⟩:=h.ex;have:=YL x;exact⟨this.1,this.2.2.2⟩
def BV.lw{w0 W S μ rb xb yb s c o m a b}(h:BV w0 W S μ rb xb yb s c o m a b)(C:Cl w0):Lw w0.heap.size w0 W:=by obtain⟨T,x,_⟩:=h.ex;exact x.lw C
def BV.wf{w0 W S μ rb xb yb s c o m a b}(h:BV w0 W S μ rb xb yb s c o m a b):zU a:=by obtain⟨T,x,_⟩:=h.ex;exact x.wf
def BV.aex{w0 W S μ rb xb yb s c o m a b}(D0)(h:BV w0 W S μ rb xb yb s c o m a b)(q:pM a.an.K D0)(hl:D0.length<=100000):Cv 11 #[ptr xb] W λe W'=>∃v D,D.Perm D0/\lA D/\e=.returned v/\W'.ownsRow 0 60 6 v D.length (dN D)/\∃S' U',BV w0 W' S' U' rb xb yb s c o m a b/\Fx μ U' W W'/\∀k,v.ownBlock=some k->S' k:=by obtain⟨T,x,y,d,rfl⟩:=h.ex;exact(x.aV D0 q hl).mono λe W' ⟨v,D,r1,r2,r3,r4,S',x',f,g⟩=>⟨v,D,r1,r2,r3,r4,S',have⟨μ,h1,h2⟩:=abE x y d x' f;⟨μ,h1,h2,g⟩⟩
def BV.aey{w0 W S μ rb xb yb s c o m a b}(D0)(h:BV w0 W S μ rb xb yb s c o m a b)(q:pM b.an.K D0)(hl:D0.length<=100000):Cv 11 #[ptr yb] W λe W'=>∃v D,D.Perm D0/\lA D/\e=.returned v/\W'.ownsRow 0 60 6 v D.length (dN D)/\∃U',BV w0 W' S U' rb xb yb s c o m a b/\Fx μ U' W W'/\∀k,S k->W'.heap[k]?=W.heap[k]?:=by obtain⟨T,x,y,d,rfl⟩:=h.ex;exact(y.aV D0 q hl).mono λe W' ⟨v,D,r1,r2,r3,r4,S',x',f⟩=>⟨v,D,r1,r2,r3,r4,have⟨μ,h1,h2⟩:=aew x d x' f;⟨μ,h1,h2,λk e=>f.rest k (x.lt e) (d k e)⟩⟩
def XV.rb{w0 W S rb nb s c a m}(h:XV w0 W S rb nb s c a m):S rb:=by obtain⟨w,U,q,B,r,P,T,i,e1,e2,e3,rfl⟩:=h.ex;exact⟨q,e1⟩
def H8{W:World}{S:Nat->Prop}{k j v}(n:¬S k)(l:∀i,S i->i<W.heap.size):∀i,S i->(W.setCell ⟨k,j,none⟩ v).heap[i]?=W.heap[i]?:=λi s=>(bJ W ⟨k,j,none⟩ v).block i (l i s) (λe=>by simp only[gW]at e;exact n (e▸s))
def XV.set{w0 W S rb nb s c a m k j}(h:XV w0 W S rb nb s c a m)(v)(n:¬S k):XV w0 (W.setCell ⟨k,j,none⟩ v) S rb nb s c a m:=have g:=bJ W ⟨k,j,none⟩ v;h.same g.size g.tape g.os (H8 n λ_ e=>h.lt e)
def BV.set{w0 W S μ rb xb yb s c o m a b k j}(h:BV w0 W S μ rb xb yb s c o m a b)(v)(n:¬μ k):BV w0 (W.setCell ⟨k,j,none⟩ v) S μ rb xb yb s c o m a b:=by obtain⟨T,x,y,d,rfl⟩:=h.ex;have g:=bJ W ⟨k,j,none⟩ v;exact⟨T,x.set v (λe=>n (.inl e)),y.same g.size g.tape g.os (H8 (λe=>n (.inr e)) λ_ e=>y.lt e),d,rfl⟩
def afW(D E):Fs (Dl D) (Dl E):=⟨rfl,rfl,(nofun),(nofun)⟩
attribute [local go_sem↓] Go.wp_at_zero Go.wp_at_succ
def Td(c d:fV)(l sa sc w)(e1:c.Ints)(e2:d.Ints)(C:Cl w)(az:vM w.heap.size w sa l)(hl:l.length<=1048576):Cv 6 #[.agg #[c.wk,c.sh,c.me,c.su,c.bi],.agg #[d.wk,d.sh,d.me,d.su,d.bi],.slice sa l.length sc] w λe w'=>e=.returned ↑aD/\Lw w w w':=by
 have c8:Below w w ((w.alloc (.cells #[↑c.wk,↑c.sh,↑c.me,↑c.su,↑c.bi] 23)).alloc (.cells #[↑d.wk,↑d.sh,↑d.me,↑d.su,↑d.bi] 23)):=(B0.alloc L9 _).alloc Z9 _;have di:=XV.begin c _ C e1 c8;have Rd:=fB (w:=w.alloc (.cells #[↑c.wk,↑c.sh,↑c.me,↑c.su,↑c.bi] 23)) (cs:=[↑d.wk,↑d.sh,↑d.me,↑d.su,↑d.bi]) (t:=23) (k:=w.heap.size+1) (by simp only[bL]);have Rc:=(aU w [↑c.wk,↑c.sh,↑c.me,↑c.su,↑c.bi] 23).alloc (.cells #[↑d.wk,↑d.sh,↑d.me,↑d.su,↑d.bi] 23);have i0:=Rc.r 0;have i1:=Rc.r 1;have i2:=Rc.r 2;have i3:=Rc.r 3;have i4:=Rc.r 4;go_enter fA Tryz.func6,Tryz.ntmps6;go_wp2;generalize(w.alloc (.cells #[↑c.wk,↑c.sh,↑c.me,↑c.su,↑c.bi] 23)).alloc (.cells #[↑d.wk,↑d.sh,↑d.me,↑d.su,↑d.bi] 23)=W0 at c8 di Rd|-;refine di.mono ?_;rintro e w1 ⟨rb,xb,s0,a0,S0,D0,rfl,X,hs0,f0⟩;have Rd1:Row w1 (w.heap.size+1) 23 [↑d.wk,↑d.sh,↑d.me,↑d.su,↑d.bi]:=(f0.rest _ Rd.lt O9).trans Rd;clear di Rc i0 i1 i2 i3 i4 Rd f0 c8;have i0:=Rd1.r 0;have i1:=Rd1.r 1;have i2:=Rd1.r 2;have i3:=Rd1.r 3;have i4:=Rd1.r 4;have hf:=R9 d w1 e2;obtain⟨ok,-,-,-⟩:=DG d;obtain⟨okc,-,-,-⟩:=DG c;generalize kC d=fd at hf ok;obtain⟨wk,sh,me,su,bi⟩:=fd;unfold fV.v at hf;simp only at hf;go_wp2;refine hf.m1 λw2 b2=>?_;clear hf i0 i1 i2 i3 i4 Rd1;replace X:=X.keep b2;have hx:∀o,XV w (w2.alloc o) S0 rb xb s0 c a0 2:=λo=>X.keep (B0.alloc L9 _);obtain⟨-,x4,-,-⟩:=YL (hx (.cells #[wk,sh,me,su,bi] 23));obtain⟨-,-,x5,-⟩:=YL (hx (.cells #[wk,sh,me,↑(kC c).su,bi] 23));have X5:=hx (.cells #[wk,sh,me,↑(kC c).su,↑(kC c).bi] 23);generalize hO:(⟨wk,sh,me,(kC c).su,(kC c).bi⟩:fV)=O;have okO:O.ok=true:=by have h1:=DI ok;have h2:=DI okc;rw[<-hO];simp[fV.ok,p5]at ok okc|-;omega
 have hn:=VN.new O (w2.alloc (.cells #[wk,sh,me,↑(kC c).su,↑(kC c).bi] 23)) okO;rw[<-hO]at hn;unfold fV.v ptr at hn;simp only at hn;clear X b2 hx;go_wp2;generalize w2.alloc (.cells #[wk,sh,me,↑(kC c).su,↑(kC c).bi] 23)=W5 at X5 hn|-;refine hn.mono ?_;rintro e w6 ⟨yb,T,D,rfl,Y,f6⟩;rw[hO]at Y;have hb:BV w w6 S0 (λk=>S0 k\/T k) rb xb yb s0 c O 2 a0 (Dl D):=⟨T,X5.by f6 (λ_ _ h=>h),Y,λk e t=>(f6.old k t).elim id (λt=>by have:=X5.lt e;omega),rfl⟩;have cs:(kC c).su=O.su:=by rw[<-hO]
 have cb:(kC c).bi=O.bi:=by rw[<-hO]
 obtain⟨g1,g2,g3,LK⟩:=Mo (c:=kC c) (c':=O) s0 cs cb (afW D0 D);rw[hs0]at g1 g2 g3 LK;simp only at g1 g2 g3 LK;have hy:=R8 s0 hb;rw[<-g1,<-g2,<-g3]at hy;obtain⟨-,x10⟩:=CL hb;unfold ptr at hy;clear hn Y f6 X5 x4 x5 hs0 g1 g2 g3 hO ok okc okO hb;go_wp2;refine hy.mono ?_;rintro e w7 ⟨rfl,μ,hb,-⟩;generalize(gL O (Dl D) s0).2.2.2=b0 at hb LK;have b8:Below w7 w7 (w7.alloc (.cells #[aA,aG] 44)):=B0.alloc L9 _;have Q:=aU w7 [aA,aG] 44;have q1:=Q.r 1;replace hb:=hb.keep b8;clear hy x10 Q b8;go_wp2;generalize w7.alloc (.cells #[aA,aG] 44)=w8 at hb q1|-;go_loopw [13] (λi wr=>∃(k:Nat) (S μ:Nat->Prop) (s:List UInt8) (a b:AG),k<=l.length/\i=↑(k:Int)/\BV w wr S μ rb xb yb s c O (2+k) a b/\Fs a b) (λi _=>l.length -(intOf i).toNat);exact⟨0,_,_,_,_,_,fJ _,rfl,hb,LK⟩;case round=>
  clear hb LK;obtain⟨k,S,μ,s,a,b,gq,rfl,hb,LK⟩:=hrel;by_cases cf:k<l.length;.as_aux_lemma=>
   have cv:=bS cf;generalize l[k]=x at cv;obtain⟨gd,ee⟩:=x;obtain⟨g,o,gn,fg,dj⟩:=az.at_ (by intro e;rw[e]at cf;simp at cf);subst fg;obtain⟨dz,va,vc,ea,eb,av⟩:=dj k _ cv;simp only at ea eb av dz;have br:=abF hb C dz eb av O9;have hw:=hb.lw C;replace ea:=zV hw gn ea;replace eb:=zV hw gn eb;have gp:(0:Int)<=(k:Int):=O9;have e9:(k:Int)<(l.length:Int):=O9;replace br:=aL br;replace av:=aL av;replace az:=aL az;clear dj cv;go_wp2;refine br.out.mono ?_;rintro e w2 ⟨rfl,S2,U2,s,hb⟩;clear br av ea eb;obtain⟨c0,c10⟩:=CL hb;obtain⟨A,E,T,a',hSub⟩:∃A E T a',gL (kC c) a s=(A,E,T,a'):=⟨_,_,_,_,rfl⟩;obtain⟨g1,g2,g3,LK⟩:=Mo (c:=kC c) (c':=O) s cs cb LK;rw[hSub]at g1 g2 g3 LK;simp only at g1 g2 g3 LK;have ar:Hid (Below w2 w2 w2.drew):=cX B0;have b9:Hid (Below w2 w2 (w2.alloc (.cells #[aA,aA] 44)).drew):=cX (B0.alloc L9 _);have dq:Hid (Cv 12 #[.pointer xb,↑(mk s)] w2.drew λe w'=>e=.returned (.tuple #[.agg #[A,E],T])/\∃S' U',BV w w' S' U' rb xb yb s c O (2+k+1) a' b):=(R7 (hb.keep ar.out)).mono λe w' ⟨h1,S',U',h2,_⟩=>⟨by rw[hSub]at h1;exact h1,S',U',by rw[hSub]at h2;exact h2⟩;have dt:Hid (Cv 12 #[.pointer xb,↑(mk s)] (w2.alloc (.cells #[aA,aA] 44)).drew λe w'=>e=.returned (.tuple #[.agg #[A,E],T])/\∃S' U',BV w w' S' U' rb xb yb s c O (2+k+1) a' b/\Ow w' U' w2.heap.size 44 [aA,aA]):=(R7 (hb.keep b9.out)).mono λe w' ⟨h1,S',U',h2,h3⟩=>⟨by rw[hSub]at h1;exact h1,S',U',by rw[hSub]at h2;exact h2,Ow.fx (W:=(w2.alloc (.cells #[aA,aA] 44)).drew) ⟨aU w2 [aA,aA] 44,λe=>by have:=hb.lt e;omega⟩ h3⟩;have bo:Hid (∀(W:World) S μ,BV w W S μ rb xb yb s c O (2+k+1) a' b->W.cell? (rb,0)=some (.pointer xb)/\W.cell? (rb,10)=some ↑(mk s)):=λW S μ h=>CL h;have b2:Hid (∀W:World,Below w2 w2 W->W.cell? (rb,0)=some (.pointer xb)/\W.cell? (rb,10)=some ↑(mk s)):=λW h=>⟨aW h c0,aW h c10⟩;have de:Hid (∀o:Obj,(w2.drew.alloc o).cell? (rb,0)=some (.pointer xb)/\(w2.drew.alloc o).cell? (rb,10)=some ↑(mk s)):=λo=>b2.out _ (ar.out.alloc L9 _);have dg:Hid (∀(W:World) S μ (o:Obj),BV w W S μ rb xb yb s c O (2+k+1) a' b->(W.alloc o).cell? (rb,0)=some (.pointer xb)/\(W.alloc o).cell? (rb,10)=some ↑(mk s)):=λW S μ o h=>CL (h.keep (B0.alloc L9 _));have dh:Hid (∀(W:World) S μ k x y p q,BV w W S μ rb xb yb s c O (2+k+1) a' b->Ow W μ w2.heap.size 44 [p,q]->((W.setCell (w2.heap.size,0) x).setCell (w2.heap.size,1) y).cell? (rb,0)=some (.pointer xb)/\((W.setCell (w2.heap.size,0) x).setCell (w2.heap.size,1) y).cell? (rb,10)=some ↑(mk s)):=λW S μ k x y p q h n=>CL ((h.set x n.no).set y n.no);replace hb:=aL hb;replace LK:=aL LK;replace g1:=aL g1;replace g2:=aL g2;replace g3:=aL g3;clear hSub;go_wp2;go_cut [15,16] (λp q wx=>∃(bb:Nat) (S μ:Nat->Prop),p=.pointer bb/\q=↑T/\Ow wx μ bb 44 [A,E]/\BV w wx S μ rb xb yb s c O (2+k+1) a' b);case first=>as_aux_lemma=>
    go_region_held3 (λW=>W.cell? (rb,0)=some (.pointer xb)/\W.cell? (rb,10)=some ↑(mk s)) (first|with_reducible exact bo.out _ _ _ hN|with_reducible exact b2.out _ ar.out|with_reducible exact de.out _|with_reducible exact dg.out _ _ _ _ hN|with_reducible exact dh.out _ _ _ _ _ _ _ _ hN Q.out|go_keep) ((first
       |(go_at_call 12;(with_reducible refine(dq.out).mono ?_);rintro e w4 ⟨rfl,S4,U4,hN⟩)
       |(go_at_call 12;(with_reducible refine(dt.out).mono ?_);rintro e w4 ⟨rfl,S4,U4,hN,Q⟩;have z0:w4.cell? (w2.heap.size,0)=some ↑aA:=Q.row.cell 0;have z1:w4.cell? (w2.heap.size,1)=some ↑aA:=Q.row.cell 1;have gu:=Q.row.lt;have f0:=Q.row.frozen 0;have f1:=Q.row.frozen 1;replace Q:=aL Q)))
    all_goals go_wp2
    all_goals go_meet
    all_goals first
     |exact⟨_,S4,U4,rfl,rfl,⟨aU w4 [A,E] 44,λe=>by have:=hN.lt e;omega⟩,hN.keep (B0.alloc L9 _)⟩
     |exact⟨_,S4,U4,rfl,rfl,⟨(Q.out.row.set 0 ↑A).set 1 ↑E,Q.out.no⟩,(hN.set _ Q.out.no).set _ Q.out.no⟩
   case' rest=>obtain⟨bb,S4,U4,rfl,rfl,P,hN⟩:=hcut;clear dq dt bo b2 de dg dh ar b9 c0 c10 hb;obtain⟨-,c10⟩:=CL hN;have hy:=R8 s hN;rw[<-g1.out,<-g2.out,<-g3.out]at hy;unfold ptr at hy;clear g1 g2 g3;go_wp2;refine hy.mono ?_;rintro e w5 ⟨rfl,U5,h5,f5⟩;generalize(gL O b s).2.2.2=b' at h5 LK;have b6:Below w5 w5 (w5.alloc (.cells #[A,E] 44)):=B0.alloc L9 _;have P6:=(P.fx f5).keep b6;have Q6:=aU w5 [A,E] 44;have p0:=P6.row.r 0;have p1:=P6.row.r 1;have q0:=Q6.r 0;have q1:=Q6.r 1;have rs:=Mq A E;clear hy c10 P hN f5;go_wp2;exact⟨⟨k+1,_,_,s,a',b',O9,rfl,h5.keep b6,LK.out⟩,by simp[intOf];omega⟩
  .have e9:¬(k:Int)<(l.length:Int):=O9;obtain⟨c0,-⟩:=CL hb;obtain⟨D1,hC,hCl⟩:=YP hb.wf;have hK:b.an={a.an with mem:=b.mem,lo:=b.lo}:=by unfold AG.an gA AG.K;rw[LK.bl,LK.ch]
   have hCy:pM b.an.K D1:=by rw[hK];exact hC
   have ht:b.an.zT=a.an.zT:=by rw[hK];rfl
   have hx:=hb.agS;unfold ptr AN.zT at hx;go_wp2;refine hx.mono ?_;rintro e w2 ⟨rfl,S2,U2,h2⟩;have b3:Below w2 w2 (w2.alloc (.cells #[↑a.an.rS,↑(a.an.aY:Int),↑a.an.wo] 39)):=B0.alloc L9 _;have P:Ow (w2.alloc (.cells #[↑a.an.rS,↑(a.an.aY:Int),↑a.an.wo] 39)) U2 w2.heap.size 39 [↑a.an.rS,↑(a.an.aY:Int),↑a.an.wo]:=⟨aU w2 _ 39,λe=>by have:=h2.lt e;omega⟩;replace h2:=h2.keep b3;have hy:=h2.agT;rw[ht]at hy;unfold ptr AN.zT at hy;clear hx c0 hb;go_wp2;generalize w2.alloc (.cells #[↑a.an.rS,↑(a.an.aY:Int),↑a.an.wo] 39)=w3 at P h2 hy|-;generalize w2.heap.size=pb at P|-;refine hy.mono ?_;rintro e w4 ⟨rfl,U4,h4,f4⟩;have b5:Below w4 w4 (w4.alloc (.cells #[↑a.an.rS,↑(a.an.aY:Int),↑a.an.wo] 39)):=B0.alloc L9 _;have Q:Ow (w4.alloc (.cells #[↑a.an.rS,↑(a.an.aY:Int),↑a.an.wo] 39)) U4 w4.heap.size 39 [↑a.an.rS,↑(a.an.aY:Int),↑a.an.wo]:=⟨aU w4 _ 39,λe=>by have:=h4.lt e;omega⟩;replace P:=(P.fx f4).keep b5;replace h4:=h4.keep b5;obtain⟨c0,-⟩:=CL h4;have hcx:=h4.aex D1 hC hCl;unfold ptr at hcx;clear hy h2 f4;go_wp2;generalize w4.alloc (.cells #[↑a.an.rS,↑(a.an.aY:Int),↑a.an.wo] 39)=w5 at P Q h4 c0 hcx|-;generalize w4.heap.size=qb at Q|-;refine hcx.mono ?_;rintro e w6 ⟨v,D,p1,p2,rfl,o1,S6,U6,h6,f6,g6⟩;have hcy:=h6.aey D1 hCy hCl;unfold ptr at hcy;replace P:=P.fx f6;replace Q:=Q.fx f6;clear hcx c0 h4 f6;go_wp2;refine hcy.mono ?_;rintro e w7 ⟨v',D',p3,p4,rfl,o2,U7,h7,f7,g7⟩;have hDD:D'=D:=H9 D' D (p3.trans p1.symm) p4 p2 ((p3.map dD.pt).symm.nodup hC.nd);subst hDD;have sm:=GP D' w7 (dF o1 λk _ e _ _=>g7 k (g6 k e)) o2 (by rw[p3.length_eq];exact hCl);replace P:=P.fx f7;replace Q:=Q.fx f7;have x0:=P.row.r 0;have x1:=P.row.r 1;have x2:=P.row.r 2;have y0:=Q.row.r 0;have y1:=Q.row.r 1;have y2:=Q.row.r 2;have ts:=Mr a.an.rS (a.an.aY:Int) a.an.wo;have hlw:=h7.lw C;clear hcy h6 h7 f7;go_wp2;refine sm.mono ?_;rintro e w10 ⟨rfl,b10⟩;go_wp2;go_ret;exact⟨rfl,hlw.trans (Mp b10)⟩
end Go.Proofs.aH
namespace Go.Proofs.YtpjcmpfncpnmeabGreat
open Go.ChangeShapes Go.WideShapes Go.ChangeAt Go.RowKit Go.Ren
def Tryz.N9:Tryz.prog.cellsOf 3=1:=K8
def WO:=@Tryz.N9
def Tryz.KP:Tryz.prog.cellsOf 32=2:=K8
def Tryz.Oa:Tryz.prog.bytesOf 3=8:=K8
def Tryz.KQ:Tryz.prog.bytesOf 32=32:=K8
def tS{a}(h:(Lit.int .i64 a).wf=true):-9223372036854775808<=a/\a<9223372036854775808:=by have c:IntKind.i64.min=-9223372036854775808:=rfl;have b:IntKind.i64.max=9223372036854775807:=rfl;simp[Lit.wf]at h;omega
def KR{w:World}{a:Addr}{n cs}(h:w.cells? 0 (a.add 0) n=some cs)(d:0<n):∃b o,a=⟨b,o,none⟩:=by have⟨_,hl,c⟩:=VV h;have h0:=c 0 d;rw[bS O9]at h0;have:=World.cell?_spot h0;simp[Addr.add]at this;have⟨b,o,sp⟩:=a;exact⟨b,o,by simpa using this⟩
def Hf{w:World}{b o n i cs}(h:w.cells? 0 (((b,o):Addr).add i) n=some cs):∀j,j<n->w.cell? ⟨b,o+i+j,none⟩=cs[j]?:=by have⟨_,hl,a⟩:=VV h;intro j c;rw[<-a j c];unfold Addr.add;by_cases hi:i=0<;>by_cases d:j=0<;>simp[hi,d]
def Ec{α:Type}(f:Nat->α)(n i x)(h:((List.range n).map f)[i]?=some x):i<n/\x=f i:=by grind
def tT{w a v}(h:w.cell? a=some v):dM w a.block:=by
 unfold World.cell? at h;split at h;.rename_i c t f e;exact⟨_,_,_,e⟩
 .cases h
def xM{w}{a:Addr}{n cs}(h:w.cells? 0 (a.add 0) n=some cs)(c:0<n):dM w a.block:=by have⟨_,hl,b⟩:=VV h;have h0:=b 0 c;rw[bS O9]at h0;have:=tT h0;simpa[Addr.add]using this
structure Rh(W:World)(va:Option Addr)(vc:Nat)(xs:List Int):Prop where
 at_:xs.length≠0->∃b o,va=some ⟨b,o,none⟩/\∀(i:Nat) (y:Int),xs[i]?=some y->W.cell? ⟨b,o+i,none⟩=some (.int .i64 y)
 real:∀a,va=some a->dM W a.block\/(xs.length=0/\vc=0)
 yh:∀x∈xs,-9223372036854775808<=x/\x<9223372036854775808
 len:xs.length<=140737488355328
structure Ob(W:World)(sa:Option Addr)(sc:Nat)(l:List (Int×List Int)):Prop where
 at_:l≠[]->∃g o,sa=some ⟨g,o,none⟩/\∀(i:Nat) (x:Int×List Int),l[i]?=some x->(-9223372036854775808<=x.1/\x.1<9223372036854775808)/\∃va vc,W.cell? ⟨g,o+i*2,none⟩=some (.int .i64 x.1)/\W.cell? ⟨g,o+i*2+1,none⟩=some (.slice va x.2.length vc)/\Rh W va vc x.2
 real:∀a,sa=some a->dM W a.block\/(l.length=0/\sc=0)
 len:l.length<=140737488355328
section
variable{H:Type}{enc:TypeId×Value->H}{w:World}{held:Bool}
def Oc{fuel v x}(h:DataW.trod enc Tryz.prog w 0 (λ_=>true) held fuel 30 [v]=some x)(z:∀n∈x.1.weights Tryz.prog 30,n<=reachBytes):∃l va vc,v=.slice va l.length vc/\Rh w va vc l:=by
 obtain⟨c,_⟩|⟨a,len,cap,m,n,D,A,c,_,E,_,t,r,k⟩:=Go.Deep.open_slice Tryz.underlying30 h;.simp at c;exact⟨[],none,0,c,⟨λh=>absurd rfl h,λa e=>(by cases e),S8,S8⟩⟩
 .simp at c;subst t;have C:len*8<=140737488351232:=by have:=z ((((List.range len).map D).length+((List.range (m -len)).map λj=>D (len+j)).length)*Tryz.prog.bytesOf 3) (by rw[r];simp[DataW.weights]);rw[Tryz.Oa]at this;simp[reachBytes]at this;omega
  rw[WO]at k;have u:dM w a.block\/(len=0/\m=0):=by
   by_cases h0:0<m;.have⟨cs,c0,_⟩:=k 0 h0;exact .inl (xM (by simpa using c0) D9)
   .omega
  have⟨f,q⟩:=Go.Deep.choose_lt (α:=Int) (n:=len) (p:=λi d=>∃cs,w.cells? 0 (a.add (i*1)) 1=some cs/\cs=[.int .i64 d]/\(Lit.int .i64 d).wf=true) (λi hi=>by have⟨cs,h1,h2⟩:=k i O9;have⟨d,g,s⟩:=DX Tryz.underlying3 h2;exact⟨d,cs,h1,g,s.2⟩)
  refine⟨(List.range len).map f,some a,m,by simp[c],⟨λF=>?_,λa' e=>by cases e;simpa using u,λx r=>?_,by simp;omega⟩⟩
  .have h0:0<len:=by
    obtain e|e:=sV len;.simp_all
    .exact e
   have⟨B,c0,_⟩:=q 0 h0;obtain⟨b,o,rfl⟩:=KR (by simpa using c0) D9;refine⟨b,o,rfl,λi d g=>?_⟩;obtain⟨hi,rfl⟩:=Ec f len i d g;obtain⟨cs,c1,rfl,_⟩:=q i hi;have h2:=Hf c1 0 D9;simpa using h2
  .obtain⟨i,hi,rfl⟩:=iF.1 r;have⟨cs,_,_,y⟩:=q i (y5.1 hi);exact tS y
def uX{P e}:∀{l:List (DataW H)} {d:DataW H},d∈l->∀n∈d.weights P e,n∈DataW.weightsAll P e l
 |x::l,d,a,n,b=>by
   simp[DataW.weightsAll];obtain rfl|h:=iN.1 a;.simp_all
   .exact .inr (uX h n b)
def Od{fuel cs x}(h:DataW.trod enc Tryz.prog w 0 (λ_=>true) held fuel 32 cs=some x)(f:∀n∈x.1.weights Tryz.prog 32,n<=reachBytes):∃k l va vc,(-9223372036854775808<=k/\k<9223372036854775808)/\cs=[.int .i64 k,.slice va l.length vc]/\Rh w va vc l:=by
 have⟨g,y1,n,e,hl,h0,h1⟩:=trod_struct2 Tryz.underlying32 h;match cs,hl with
 |[c0,c1],_=>simp[WO]at h0 h1;have⟨i,e2,b⟩:=DX Tryz.underlying3 h0;simp at e2;have⟨l,va,vc,d,a⟩:=Oc h1 (λm c=>f m (by rw[e];simp[DataW.weights,DataW.weightsEach,c]));exact⟨i,l,va,vc,tS b.2,by rw[e2,d],a⟩
def KS{fuel v x}(h:DataW.trod enc Tryz.prog w 0 (λ_=>true) held fuel 24 [v]=some x)(u:∀n∈x.1.weights Tryz.prog 24,n<=reachBytes):∃(l:List (Int×List Int)) (sa:Option Addr) (sc:Nat),v=.slice sa l.length sc/\Ob w sa sc l:=by
 obtain⟨c,_⟩|⟨a,len,cap,m,n,D,E,c,_,G,_,z,t,q⟩:=Go.Deep.open_slice Tryz.underlying24 h;.simp at c;exact⟨[],none,0,c,⟨λh=>absurd rfl h,λa e=>(by cases e),S8⟩⟩
 .simp at c;subst z;have F:len*32<=140737488351232:=by have:=u ((((List.range len).map D).length+((List.range (m -len)).map λj=>D (len+j)).length)*Tryz.prog.bytesOf 32) (by rw[t];simp[DataW.weights]);rw[Tryz.KQ]at this;simp[reachBytes]at this;omega
  have C:∀i,i<len->∀n∈(D i).weights Tryz.prog 32,n<=reachBytes:=λi hi n A=>u n (by rw[t];simp[DataW.weights];exact .inr (.inl (uX (iF.2 ⟨i,y5.2 hi,rfl⟩) n A)))
  rw[Tryz.KP]at q;have B:dM w a.block\/(len=0/\m=0):=by
   by_cases h0:0<m;.have⟨cs,c0,_⟩:=q 0 h0;exact .inl (xM (by simpa using c0) D9)
   .omega
  have⟨f,s⟩:=Go.Deep.choose_lt (α:=Int×List Int) (n:=len) (p:=λi d=>(-9223372036854775808<=d.1/\d.1<9223372036854775808)/\∃va vc,w.cells? 0 (a.add (i*2)) 2=some [↑d.1,.slice va d.2.length vc]/\Rh w va vc d.2) (λi hi=>by have⟨cs,h1,h2⟩:=q i O9;obtain⟨k,l,va,vc,r,rfl,g⟩:=Od h2 (C i hi);exact⟨(k,l),r,va,vc,h1,g⟩)
  refine⟨(List.range len).map f,some a,m,by simp[c],⟨λH=>?_,λa' e=>by cases e;simpa using B,by simp;omega⟩⟩;have h0:0<len:=by grind
  have⟨_,I,J,c0,_⟩:=s 0 h0;obtain⟨b,o,rfl⟩:=KR (by simpa using c0) D9;refine⟨b,o,rfl,λi d y=>?_⟩;obtain⟨hi,rfl⟩:=Ec f len i d y;have⟨r,va,vc,c1,g⟩:=s i hi;have:=Hf c1;exact⟨r,va,vc,this 0 D9,this 1 D9,g⟩
end
section
variable{G:Gs}{W w:World}{args jX:Array Value}
def yi(S:Go.Ren.Start G W w args jX){b o v}(h:W.cell? (b,o)=some v)(d:kp (dM W) v):w.cell? ⟨b,o,none⟩=some v:=by
 have⟨cs,t,f,a⟩:=tT h;have⟨cs',k1,_,e,_⟩:=S.cells b cs t f a;have c:cs[o]?=some v:=by simpa[World.cell?,a]using h
 simpa[World.cell?,k1]using e o v c d
def KT(S:Go.Ren.Start G W w args jX){b o a}(h:W.cell? (b,o)=some (.slice (some a) 0 0)):∃a',w.cell? ⟨b,o,none⟩=some (.slice (some a') 0 0):=by
 have⟨cs,t,f,c⟩:=tT h;have⟨cs',k1,_,_,g⟩:=S.cells b cs t f c;have d:cs[o]?=some (.slice (some a) 0 0):=by simpa[World.cell?,c]using h
 have⟨a',e⟩:=g o a d;exact⟨a',by simpa[World.cell?,k1]using e⟩
def KU(S:Go.Ren.Start G W w args jX){i:Nat}{l sa sc}(h:args[i]?=some (.slice sa l.length sc))(s:Ob W sa sc l):∃v,jX[i]?=some (.slice v l.length sc)/\Go.Proofs.aH.vM w w v l:=by
 have I:=S.size;by_cases hr:∀a,sa=some a->dM W a.block
 .refine⟨sa,S.adn i _ h ?_,⟨λhl=>?_⟩⟩;.cases sa with
   |none=>trivial
   |some a=>exact hr a rfl
  .obtain⟨g,o,rfl,F⟩:=s.at_ hl;have C:=(hr _ rfl).lt;simp only at C;refine⟨g,o,O9,rfl,λj x D=>?_⟩;have⟨E,va,vc,h1,h2,m⟩:=F j x D;refine⟨E,?_⟩;have fin:∀f,w.cell? (g,o+j*2+1)=some (.slice f x.2.length vc)->(x.2.length≠0->f=va)->∃va vc,w.cell? (g,o+j*2)=some ↑x.1/\w.cell? (g,o+j*2+1)=some (.slice va x.2.length vc)/\Go.Proofs.aH.lW ↑w w (.slice va x.2.length vc) x.2:=λf n B=>by
    refine⟨f,vc,yi S h1 trivial,n,⟨⟨f,vc,rfl,λd=>?_⟩,m.yh,m.len⟩⟩;have⟨b,o',A,u⟩:=m.at_ d;refine⟨b,o',?_,(B d).trans A,λk y r=>yi S (u k y r) trivial⟩;have:∃y,x.2[0]?=some y:=by cases H:x.2 with
     |nil=>rw[H]at d;exact absurd rfl d
     |cons y t=>exact⟨y,rfl⟩
    have⟨y,r⟩:=this;have:=(tT (u 0 y r)).lt;simp only at this;omega
   by_cases q:∀a,va=some a->dM W a.block
   .refine fin va (yi S h2 ?_) λ_=>rfl;cases va with
    |none=>trivial
    |some a=>exact q a rfl
   .cases va with
    |none=>exact absurd (λa e=>by cases e) q
    |some a=>
      have p:¬dM W a.block:=λh=>q λa' e=>by cases e;exact h
      obtain⟨c,rfl⟩:=(m.real a rfl).resolve_left p;rw[c]at h2;have⟨a',n⟩:=KT S h2;exact fin (some a') (by rw[c];exact n) λd=>absurd c d
 .cases sa with
  |none=>exact absurd (λa e=>by cases e) hr
  |some a=>
    have p:¬dM W a.block:=λh=>hr λa' e=>by cases e;exact h
    obtain⟨c,rfl⟩:=(s.real a rfl).resolve_left p;rw[c]at h;have⟨a',z⟩:=S.afm i a h;refine⟨some a',by rw[c];exact z,⟨λhl=>absurd ?_ hl⟩⟩;exact oG c
end
open Go.Conc
open Go.ConcM (OsLater)
def Oe(h:aI.X 6):False:=by revert h;unfold aI.X aI.code;decide
def B6(h:aI.X0 6):False:=by revert h;unfold aI.X0;decide
def Og{a b c}{v:Array Value}(h:v.size=3)(h0:v[0]?=some a)(h1:v[1]?=some b)(h2:v[2]?=some c):v=#[a,b,c]:=by grind
def Hg{G W w args jX}(S:Go.Ren.Start G W w args jX){i:Nat}{c:Go.Proofs.aH.fV}(h:args[i]?=some (.agg #[↑c.wk,↑c.sh,↑c.me,↑c.su,↑c.bi])):jX[i]?=some (.agg #[↑c.wk,↑c.sh,↑c.me,↑c.su,↑c.bi]):=S.adn i _ h (by intro v a;simp at a;obtain rfl|rfl|rfl|rfl|rfl:=a<;>exact⟨_,_,rfl⟩)
def Oh(c d:Go.Proofs.aH.fV)(q:c.Ints)(q2:d.Ints)(l sa sc W)(n:Ob W sa sc l)(hl:l.length<=1048576):Go.Ren.Ends Tryz.prog (λv W'=>v=↑aD/\WQ W W') (solo (cA Tryz.prog 6 #[.agg #[c.wk,c.sh,c.me,c.su,c.bi],.agg #[d.wk,d.sh,d.me,d.su,d.bi],.slice sa l.length sc] .normal []) W) #[]:=by
 have⟨G,w,jX,S⟩:=Ta W #[.agg #[↑c.wk,↑c.sh,↑c.me,↑c.su,↑c.bi],.agg #[↑d.wk,↑d.sh,↑d.me,↑d.su,↑d.bi],.slice sa l.length sc];have⟨u,g,o⟩:=KU S (i:=2) rfl n;have j:=Og S.afn (Hg S (i:=0) rfl) (Hg S (i:=1) rfl) g;subst j;refine Tb aI.adX ado aI.Tc Go.Proofs.aH.KV Ed B6 Oe S (λp m t h=>meet p m t h) (λt=>?_);have k:=Go.Proofs.aH.Td c d l u sc {w with tape:=t,drawn:=0} q q2 (λb cs t f h=>S.fix b cs t f h) (o.lw ⟨L9,λ_ _ _ _ _ h=>h⟩) hl;have⟨N,v,w',h1,h2⟩:=Calls.done (R:=λv w'=>v=↑aD/\Whole w w') (k.mono λe w' r=>by obtain⟨rfl,s⟩:=r;exact⟨rfl,λb cs t f h=>s.cells b cs t f (eA.1 h).1 h⟩) (by have:=(aI.Tc.ok 6 B6).2;simpa[xu]using this)
 exact⟨N,v,w',h1,h2⟩
def Tryz.agu:ownKnob Tryz.prog.godebug=none:=K8
def Tryz.WS:laidOutB Tryz.prog=true:=K8
def WT:=@Tryz.WS
def Tryz.Oi:Tryz.prog.cellsOf 23=5:=K8
def agv{α:Type}{cs:Array α}(h:cs.size=5):∃c0 c1 c2 c3 c4,cs=#[c0,c1,c2,c3,c4]:=by have⟨l⟩:=cs;match l,h with
 |[c0,c1,c2,c3,c4],_=>exact⟨c0,c1,c2,c3,c4,rfl⟩
def Ee{H enc w base spare held r m v}{d:DataW H}{p}(s:Value.okWide Tryz.prog w r m 23 v)(h:DataW.Trod enc Tryz.prog w base spare held 23 v d p):∃c:Go.Proofs.aH.fV,c.Ints/\v=.agg #[c.wk,c.sh,c.me,c.su,c.bi]:=by
 obtain⟨cs,rfl,q⟩:=okWide_struct Tryz.underlying23 s;obtain⟨c0,c1,c2,c3,c4,rfl⟩:=agv (q.trans Tryz.Oi);have⟨fuel,o⟩:=h;have⟨z,n,_,_,_,hlen,a⟩:=DataW.trod_struct Tryz.underlying23 o;match z,hlen with
 |[F,y1,G,I,J],_=>have g:=a 0 _ rfl;have i:=a 1 _ rfl;have j:=a 2 _ rfl;have k:=a 3 _ rfl;have l:=a 4 _ rfl;simp[WO,Value.cells]at g i j k l;have⟨i0,b,w0⟩:=DX Tryz.underlying3 g;have⟨t,e,w1⟩:=DX Tryz.underlying3 i;have⟨u,e2,w2⟩:=DX Tryz.underlying3 j;have⟨x,e3,w3⟩:=DX Tryz.underlying3 k;have⟨y,f,w4⟩:=DX Tryz.underlying3 l;simp at b e e2 e3 f;refine⟨⟨i0,t,u,x,y⟩,?_,by rw[b,e,e2,e3,f]⟩;have A:=tS w0.2;have B:=tS w1.2;have C:=tS w2.2;have D:=tS w3.2;have E:=tS w4.2;constructor<;>simp_all
def KX{W W'}(h:WQ W W'):Below W W {W' with os:=W.os,tape:=W.tape}:=⟨rfl,rfl,h.out,h.size,h.block⟩
def WU{H}(d:DataW H):1<=Rows.uptoBulk d:=by cases d with
 |lit l=>cases l<;>simp[Rows.uptoBulk]
 |_=>simp[Rows.uptoBulk]
def KY{H}:∀l:List (DataW H),l.length<=Rows.uptoBulkAll l
 |[]=>fJ _
 |d::l=>by have h1:=WU d;have h2:=KY l;simp[Rows.uptoBulkAll];omega
def Oj{H enc w held fuel a n c}{x:DataW H×List MemPlace}(h:DataW.trod enc Tryz.prog w 0 (λ_=>true) held fuel 24 [.slice a n c]=some x):n<=Rows.uptoBulk x.1:=by
 obtain⟨b,_⟩|⟨a',len,cap,m,j,D,e,b,_,g,_,i,d,f⟩:=Go.Deep.open_slice Tryz.underlying24 h;.simp_all
 .simp at b;rw[b.2.1,d];have:=KY ((List.range len).map D);simp at this;simp[Rows.uptoBulk];omega
end Go.Proofs.YtpjcmpfncpnmeabGreat
