import Derived.Test.YtpjcmpfncpnmeabGreatM20
set_option linter.all false
set_option maxHeartbeats 16000000
set_option maxRecDepth 100000
namespace Go.Proofs.aH
open Go.RowKit Go.Shelf Go.Seq Tryz
attribute [local go_sem↓] Go.wp_at_zero Go.wp_at_succ
section
attribute [local go_sem] Oper.semAt_some
variable{LB:Nat}
structure OvG(w W:World)(nb B most:Nat)(cs:List Value)(bv mv:Value)(gc kc cc:Nat)(l:List kF)(L:List eJ)(mem:List cF)(gs n:Nat)(sb mb:Nat->Nat)(K:iR)(Ws:List WB):Prop where
 r0:Row W w.heap.size 44 [.int .i64 0,.int .i64 0]
 tr:bL W (w.heap.size+1) gs n (.slice none 0 0) []
 rb:Row W (w.heap.size+1+1) 159 [.pointer (some ⟨w.heap.size+1,0,none⟩)]
 ra:Row W (w.heap.size+1+1+1) 4 [.bool false]
 nd:oI W nb B most cs bv mv gc kc cc l (eK L) mem
 aY:aQ W gs n sb mb K
 cS:∀x∈Ws,mM W x.gt x.Q
 below:Below w.heap.size w W
def OvG.keep{w W W' nb B c cs bv mv gc kc cc l L mem gs n sb mb K b}(h:OvG w W nb B c cs bv mv gc kc cc l L mem gs n sb mb K b)(a:Below W W W'):OvG w W' nb B c cs bv mv gc kc cc l L mem gs n sb mb K b:=⟨h.r0.keep a h.r0.lt,⟨h.tr.row.keep a h.tr.row.lt,aT h.tr.own a⟩,h.rb.keep a h.rb.lt,h.ra.keep a h.ra.lt,h.nd.keep a,h.aY.keep a,λx d=>(h.cS x d).keep a,h.below.trans (a.mono h.below.size)⟩
def OvG.new{w nb B c cs bv mv gc kc cc l L mem gs n sb mb K b}(hN:oI w nb B c cs bv mv gc kc cc l (eK L) mem)(d:aQ w gs n sb mb K)(e:∀x∈b,mM w x.gt x.Q):OvG w ((((w.alloc (.cells #[aA,aA] 44)).alloc (.cells #[.slice gs n n,()] 161)).alloc (.cells #[.pointer ((w:Nat)+1,0)] 159)).alloc (.cells #[aF] 4)) nb B c cs bv mv gc kc cc l L mem gs n sb mb K b:=by
 have a:Below w w ((((w.alloc (.cells #[aA,aA] 44)).alloc (.cells #[.slice gs n n,()] 161)).alloc (.cells #[.pointer ((w:Nat)+1,0)] 159)).alloc (.cells #[aF] 4)):=(((B0.alloc L9 _).alloc S8 _).alloc (by simp;omega) _).alloc (by simp;omega) _;refine⟨(((aX w [aA,aA] 44).alloc _).alloc _).alloc _,⟨?_,mN _ _ _ _⟩,?_,?_,hN.keep a,d.keep a,λx f=>(e x f).keep a,a⟩;.exact((Ar (w:=w.alloc (.cells #[aA,aA] 44)) (cs:=[.slice gs n n,↑()]) S8).alloc _).alloc _
 .exact(Ar (w:=(w.alloc (.cells #[aA,aA] 44)).alloc (.cells #[.slice (some ⟨gs,0,none⟩) n n,.slice none 0 0] 161)) (cs:=[.pointer (some ⟨w.heap.size+1,0,none⟩)]) S8).alloc _
 .exact Ar (cs:=[↑aF]) S8
structure adz(LB:Nat)(w:World)(nb B most:Nat)(cs:List Value)(bv mv:Value)(gc kc cc:Nat)(l:List kF)(L:List eJ)(mem:List cF)(gs n:Nat)(sb mb:Nat->Nat)(wk:Nat)(su:Int)(W:List WB)(pi:Nat->Option Nat)(bsF:Nat->List Bool)(b q:kF)(f:Nat):Prop where
 nd:oI w nb B most cs bv mv gc kc cc l (eK L) mem
 aY:aQ w gs n sb mb (goes sL (dN L))
 cS:∀x∈W,mM w x.gt x.Q
 ok:∀x∈W,x.Ok l
 sp:∀x∈W,∃j,l[j]?=some x.b/\acm l j (bsF j) pi
 c6:cs[6]?=some (.int .i64 wk)
 c9:cs[9]?=some (.int .i64 su)
 c13:cs[13]?=some (.slice (some ⟨gs,0,none⟩) n n)
 wk:0<wk/\wk<=8
 su:0<=su/\su<=1000000
 ml:mem.length<=most
 ms:most<=64
 path:fH sL (dN L)
 fl:(dN L).length<=10000
 CS:y8 (goes sL (dN (L.take f)))
 pts:∀p c,goes sL (dN (L.take f)) p=some c->c.pt=p
 Ll:L.length=kc+1
 at_:∀x∈L,x.At w
 la:∀x∈L,∃y∈l,y.a=x.a
 hr:∀x∈l,0<=x.aW
 w0:0<W.length
 wl:W.length<=50
 ll:l.length<=1000
 kl:kc<=100
 u0:((W.map WB.b).reverse++[q])[0]?=some b
 us:∀k x,(W.map WB.b).reverse[k]?=some x->x∈l/\∃y,((W.map WB.b).reverse++[q])[k+1]?=some y/\x.par=some y.a
 uc:∀x∈(W.map WB.b).reverse,(L.map eJ.a)[x.aW.toNat]?≠some x.a
 ql:q∈l
 qc:(L.map eJ.a)[q.aW.toNat]?=some q.a
 f0:∃x,W[0]?=some x/\x.b.aW=(f:Int)
 f1:1<=f
 fk:f<=kc+1
 ln:LB<=nb/\LB<=B
 lb:∀x∈l,LB<=x.a
def dI.ck{a w w'}(x:Ck LB a w w')(h:¬a 195):dI w w':=λk cs f b=>x.cells k cs _ f b (.inr h)
def C6:=@dI.ck
def vW.old{w w' g l}(h:vW w g l)(o:dI w w'):vW w' g l:=by have⟨cs,f,a⟩:=h.ty;have:=o g cs f a;exact⟨⟨cs,f,this⟩,λi s hi=>(h.at_ i s hi).same (this.trans a.symm)⟩
def ApartL.at_{w w' B v L}(h:ApartL w B v L)(o:dI w w'):∀x∈L,x.At w':=λx c=>by
 obtain e|⟨g,a,_,_,b⟩:=h x c;.exact .inl e
 .exact .inr ⟨g,a,b.old o⟩
def aaa(l:List eJ)(i:Nat):eJ:=(l[i]?).getD ⟨0,[],none,0⟩
def Su{l i x}(h:l[i]?=some x):aaa l i=x:=by unfold aaa;rw[h];rfl
def acs{nb B E gc kc cc gs n wk f cs bv mv l L mem sb mb su W fp dk b q}(w)(H:adz LB w nb B E cs bv mv gc kc cc l L mem gs n sb mb wk su W fp dk b q f):Cv 35 #[ptr nb,ptr b.a] w λe w'=>Tk LB Y1 n mb w w'/\dI w w'/\∃av,(((bP E su (W.map WB.m) mem (goes sL (dN (L.take f)))).e=0/\e=.returned (.tuple #[.agg #[((kc+1 -f:Nat):Int),(W.length:Int)],aA])/\aQ w' gs n sb mb (bP E su (W.map WB.m) mem (goes sL (dN (L.take f)))).K/\∃ew eo ak,oI w' nb B E ((cs.set 15 av).set 12 (.slice (some ⟨ew,0,none⟩) (f -1+W.length+1) eo)) bv av ew (f -1+W.length) eo l (eK (L.take f++ak)) (bP E su (W.map WB.m) mem (goes sL (dN (L.take f)))).mem/\ak.map eJ.st=(bP E su (W.map WB.m) mem (goes sL (dN (L.take f)))).ls/\ak.map eJ.a=W.map (λx=>x.b.a)/\∀x∈ak,x.At w')\/((bP E su (W.map WB.m) mem (goes sL (dN (L.take f)))).e≠0/\e=.returned (.tuple #[.agg #[aA,aA],.int .i64 (bP E su (W.map WB.m) mem (goes sL (dN (L.take f)))).e])/\aQ w' gs n sb mb (goes sL (dN L))/\∃x j,W[(bP E su (W.map WB.m) mem (goes sL (dN (L.take f)))).at_]?=some x/\l[j]?=some x.b/\oI w' nb B E (cs.set 15 av) bv av gc kc cc (l.mapIdx λi y=>y.mark ((dk j).getD i false)) (eK L) (bP E su (W.map WB.m) mem (goes sL (dN (L.take f)))).mem)):=by
 have ha:w.cell? (nb,13)=some (.slice gs n n):=by rw[H.nd.mem.row.cell];exact H.c13
 have iw:=H.nd.mem.row.lt;have au:∀i,i<n->mb i<(w:Nat):=λi hi=>(H.aY.mp i hi).lt;have p:=OvG.new H.nd H.aY H.cS;have b8:(W.map WB.b).reverse.length=W.length:=by simp
 have ih:=H.fk;have ie:=H.f1;have ij:=H.kl;have d:=aL H;clear H;replace au:=aL au;replace b8:=aL b8;unfold ptr;refine CK (fA func35) rfl ?_;simp only[ntmps35,oJ,fG,jW,Nat.reduceAdd,Nat.reduceSub,QO,QP,QQ,Kv,vP,DU];go_wp2;generalize(((w.alloc (.cells #[aA,aA] 44)).alloc (.cells #[.slice gs n n,()] 161)).alloc (.cells #[.pointer (some ⟨(w:Nat)+1,0,none⟩)] 159)).alloc (.cells #[aF] 4)=X at p|-;clear ha;have di:X.cell? (nb,12)=some (.slice gc (kc+1) cc):=by rw[p.nd.mem.row.cell];exact p.nd.NS
 have bf:∀G,OvG w G nb B E cs bv mv gc kc cc l L mem gs n sb mb (goes sL (dN L)) W->∀i x,L[i]?=some x->G.cell? (gc,i*2)=some (.pointer x.a)/\G.cell? (gc,i*2+1)=some (.slice x.sa x.st.length x.sc):=λG h i x z=>by obtain⟨bz,ao⟩:=uN L i x z;have q0:=h.nd.chain.cells (g:=gc) rfl _ _ bz;have bj:=h.nd.chain.cells (g:=gc) rfl _ _ ao;rw[add0]at q0 bj;exact⟨q0,bj⟩
 have ea:=U8 nb gc (kc+1) cc l (L.map eJ.a) b q (W.map WB.b).reverse X di (by rw[fC];exact d.out.Ll) O9 (λi a hi=>by rw[cW]at hi;cases z:L[i]? with
    |none=>rw[z]at hi;cases hi
    |some x=>rw[z]at hi;simp only[dY,gQ]at hi;subst hi;exact⟨(bf X p i x z).1,d.out.la x (cQ z)⟩)
  (λx z=>⟨p.nd.q7.row x z,d.out.hr x z⟩) d.out.u0 d.out.us d.out.uc d.out.ql d.out.qc (by rw[b8.out];exact d.out.w0) (by rw[b8.out];have:=d.out.wl;omega)
 rw[b8.out]at ea;refine ea.mono ?_;rintro e w1 ⟨g,wc,rfl,μ,e6⟩;rw[List.reverse_reverse]at μ;replace p:=p.keep e6;obtain⟨ai,cz,fh⟩:=d.out.f0;have fi:=d.out.ok ai (cQ cz);have bz:w1.cell? (g,0)=some (.pointer ai.b.a):=by have:=μ.cells (g:=g) rfl 0 (U7 ai.b) (by rw[pA,cW,cz];rfl);rwa [add0]at this
 have b2:w1.cell? (ai.b.a,2)=some ↑(f:Int):=by rw[<-fh];exact(p.nd.q7.row ai.b fi.mem).cell 2
 replace di:w1.cell? (nb,12)=some (.slice gc (kc+1) cc):=by rw[p.nd.mem.row.cell];exact p.nd.NS
 have ib:kc+1<=cc:=by
  obtain⟨h0,_⟩|⟨g',cap,cur,dz,_,_,ae,_⟩:=p.nd.chain.2;.cases h0
  .cases dz;exact ae
 have gp:=d.out.w0;have g8:(0:Int)<(W.length:Int):=O9;have i0:(0:Int)<=(f:Int):=O9;have g5:(f:Int)<=((kc+1:Nat):Int):=O9;have g6:(f:Int)<=(cc:Int):=O9;have g7:((kc+1:Nat):Int)<=(cc:Int):=O9;replace bf:=aL bf;replace cz:=aL cz;clear ea e6 fh fi;go_wp2;go_quiet (fail);have e8:Below w1 w1 (w1.drewN nq):=gD B0;replace p:=p.keep e8;replace μ:(w1.drewN nq).ownsRow ↑X 114 1 (.slice g W.length wc) W.length ((W.map WB.b).map U7):=μ;clear e8 b2 di i0 g5 g6 g7 bz g8;generalize w1.drewN nq=G at p μ|-;obtain⟨N,cw⟩:∃N,kc+1 -f=N:=⟨_,rfl⟩;have ig:f+N=kc+1:=O9;have GH:∃la,(if cc=f then some (⟨gc,0,none⟩:Addr)else some ⟨gc,f*2,none⟩)=la/\(N=0\/la=some ⟨gc,f*2,none⟩):=by
  refine⟨_,rfl,?_⟩;by_cases e:N=0;.exact .inl e
  .exact .inr (aS O9)
 obtain⟨la,fa,GH⟩:=GH;rw[fa,cw];clear fa;generalize cc -f=Y;replace cw:=aL cw;replace GH:=aL GH;go_wp2;refine(GC la N Y G).mono ?_;rintro e w2 ⟨rfl,rfl⟩;have du:Below G G (G.alloc (.cells #[.slice la N Y] 99)):=B0.alloc L9 _;have gn:=p.ra.lt;have bu:=aX G [.slice la N Y] 99;replace p:=p.keep du;replace μ:=aT μ du;have gq:(w:Nat)+1<(G:Nat):=by have:=gn;omega
 generalize gu:(G:Nat)=bq at bu gq|-;generalize G.alloc (.cells #[.slice la N Y] 99)=P at p bu μ|-;clear du gu;have dx:∀i,i<n->mb i<(P:Nat):=λi hi=>by have:=au.out i hi;have:=p.below.size;omega
 have fc:=p.aY.maps;have b7:∃Rd,LK Fence.wide 2 Vp 97 #[.pointer bq] (F3 N (aaa (L.drop f))) N Rd/\∀k W',Qa P ((w:Nat)+1) gs n sb mb L k W'->Rd W':=by
  have ic:=bf.out P p;have ff:∀k W',Qa P ((w:Nat)+1) gs n sb mb L k W'->W'.cell? (bq,0)=some (.slice la N Y):=λk W' h=>(bu.xo h.x (λe=>by
   obtain e|e:=e;.exact p.aY.mE bu e
   .omega) (.inr (by unfold wR;decide))).cell 0
  obtain rfl|rfl:=GH.out;.exact⟨_,PX bq Y la _,ff⟩
  .refine⟨_,U3 bq gc (f*2) N Y (aaa (L.drop f)) O9,λk W' h=>⟨ff k W' h,λi hi=>?_⟩⟩;have z:=bO (show f+i<L.length by rw[d.out.Ll];omega);generalize L[f+i]'(by rw[d.out.Ll];omega)=x at z;rw[Su (x:=x) (by rw[VJ];exact z)];obtain⟨bz,ao⟩:=uN L (f+i) x z;have e9:=Zp p.nd.chain h.x (λk cs ae _=>by
    rintro(e|e);.exact p.aY.tM ae e
    .subst e;have a8:=p.tr.row;unfold Row at a8;rw[a8]at ae;cases ae) (by unfold wR;decide)
   have q0:=e9.cells (g:=gc) rfl _ _ bz;have bj:=e9.cells (g:=gc) rfl _ _ ao;rw[add0]at q0 bj;rw[show(f+i)*2=f*2+i*2 from by omega]at q0 bj;exact⟨q0,bj⟩
 obtain⟨Rd,b7,dq⟩:=b7;have b4:Qa P ((w:Nat)+1) gs n sb mb L 0 P:=by refine⟨by rw[QR,iB];exact p.aY,⟨_,by rw[QR,Wb];exact p.tr⟩,iZ _ _⟩
 replace b4:=aL b4;go_wp2;refine LL (gf:=97) (lb:=#[.pointer bq]) rfl (enters_of (fA func97) K8 rfl) b7 (λk=>rfl) (Qa P ((w:Nat)+1) gs n sb mb L) (Qa.own dx) dq b4.out (λk a' W'=>∃a6 x,L[f+(N -1 -k)]?=some x/\Row W' a6 123 x.cells/\a'={tmps:=#[.pointer nb,.pointer b.a,undef,undef,.pointer w.heap.size,↑aA,.pointer ((w:Nat)+1+1,0),.pointer ((w:Nat)+1+1+1,0),.slice g W.length wc,↑(f:Int),.slice gc f cc,.slice la N Y,undef,.pointer (some ⟨a6,0,none⟩),undef,undef,.pointer nb,.pointer nb,.pointer (nb,13),.agg #[.slice gs n n],.agg #[.slice gs n n,()],.pointer ((w:Nat)+1,0),.func (.func 69) #[] #[.pointer ((w:Nat)+1+1+1,0),.pointer ((w:Nat)+1+1,0)],.pointer nb,.pointer b.a,.slice g W.length wc,.slice g W.length wc,.pointer g,.pointer ai.b.a,.pointer ai.b.a,.pointer (ai.b.a,2),↑(f:Int),.pointer nb,.pointer nb,.pointer (nb,12),.slice gc (kc+1) cc,↑(f:Int),.slice gc f cc,.pointer nb,.pointer nb,.pointer (nb,12),.slice gc (kc+1) cc,↑(f:Int),.slice la N Y,.slice la N Y,.func (.func 97) #[] #[.pointer bq],↑((N -1 -k:Nat):Int),.agg #[.pointer x.a,.slice x.sa x.st.length x.sc],undef,undef,undef,undef,undef,undef,undef,undef,undef,undef,undef,undef,undef,undef,undef,undef,undef,undef,undef,undef,undef,undef,undef,undef,undef,undef,undef],defers:=[]}) ?assign ?ax ?body ?done
 case ax=>rintro k a' W' da o o' ⟨a6,x,h1,h2,a8⟩ ik gy gz;exact⟨a6,x,h1,lQ (grownBy_putObj' W' da o') (λr e=>by cases e;exact⟨o,gy,gz⟩) _ _ _ _ h2,a8⟩
 case assign=>
  intro da k W' h5 C I ez;have z:=bO (show f+(N -1 -k)<L.length by rw[d.out.Ll];omega);generalize L[f+(N -1 -k)]'(by rw[d.out.Ll];omega)=x at z;have ep:F3 N (aaa (L.drop f)) k=#[↑((N -1 -k:Nat):Int),x.v]:=by unfold F3;rw[Su (x:=x) (by rw[VJ];exact z)]
  rw[ep];have gk:=λa' W' h1 h2 a8=>ez a' W' h1 h2 a8;clear ez;unfold eJ.v;gi_wp2;exact gk _ _ ((KeepsOthers.alloc _ _).from _) (I.grown dx _) ⟨(W':Nat),x,z,aX W' x.cells _,rfl⟩
 case body=>
  rintro da k a' W' C I ⟨a6,x,z,R,rfl⟩;have fg:Row W' ((w:Nat)+1+1) 159 [.pointer ((w:Nat)+1,0)]:=p.rb.xo I.x (λe=>by
   obtain e|e:=e;.exact p.aY.mE p.rb e
   .omega) (.inr (by unfold wR;decide))
  have h6:=fg.r 0;have c1:=R.r 1;obtain⟨iz,e5⟩:=I.iO;have fe:=e5.row;have gv:Hid (Cv 70 #[.pointer ((w:Nat)+1,0),.slice x.sa x.st.length x.sc] W' λe w'=>∃fu,e=.returned fu/\KeepsFrom ↑P W' w'/\Qa P ((w:Nat)+1) gs n sb mb L (k+1) w'):=by
   refine(I.call (i:=f+(N -1 -k)) (x:=x) fc z (by rw[d.out.Ll];omega) d.out.path (by have:=d.out.fl;omega) ?_).mono ?_
   .rcases d.out.at_ x (cQ z)with e|⟨ao,e,e0⟩;.exact .inl e
    .obtain⟨c,S,ae⟩:=e0.ty;have:=bF ae;refine .inr ⟨ao,e,O9,⟨c,S,(p.below.block ao this).trans ae⟩,λi s hi=>(e0.at_ i s hi).same (p.below.block ao this)⟩
   .rintro e w' ⟨rfl,h1,h2⟩;exact⟨_,rfl,ZI.mem (gs:=gs) (sb:=sb) (K:=sL) dx h2 ⟨_,fe⟩,h1⟩
  clear I e5 fe fg R p b7 dq b4;gi_wp2;refine⟨trivial,(CallsIn.inRound da (callsIn_wide.2 gv.out)).mono ?_⟩;rintro e w2 ⟨fu,rfl,h1,h2⟩;gi_wp2;exact⟨h1,h2⟩
 case done=>
  rintro D V h8 I cv;have e3:L.length -N=f:=by rw[d.out.Ll];omega
  have cm:=I.aY;obtain⟨i2,bc⟩:=I.iO;rw[e3]at cm bc;have ey:(w:Nat)<=D:=by have h1:=p.below.size;omega
  have az:Tk LB Yt n mb P V:=Sp I.x p.aY p.tr (by have:=d.out.ln.1;omega);have F:∀t,t≠161->t≠195->¬Yt t:=λt h1 h2 h=>by obtain h|h:=h;exact h1 h;exact h2 h
  have r0:=p.r0.tk az (F _ D9 D9);have rb:=p.rb.tk az (F _ D9 D9);have ra:=p.ra.tk az (F _ D9 D9);have cd:=p.nd.ck az.ck (F _ D9 D9) (F _ D9 D9) (F _ D9 D9) (F _ D9 D9) (F _ D9 D9);have ej:∀x∈W,mM V x.gt x.Q:=λx z=>(p.cS x z).tk az (F _ D9 D9) (F _ D9 D9) (F _ D9 D9);have eu:V.ownsRow 0 114 1 (.slice g W.length wc) W.length (W.map λx=>U7 x.b):=by have:=oC (pV μ az (F _ D9 D9)) (eX _);rw[pA]at this;exact this
  have dc:=(Av p.below).trans (az.mono Yt.y1);have bh:dI w V:=λk cs S C=>by
   have cf:=(p.below.block k (bF C)).trans C;refine(I.x.block k (bF cf) ?_).trans cf;have b6:=bF C;rintro((e|e)|⟨e,_⟩);.exact p.aY.tM cf e
   .omega
   .omega
  have h7:(dN (L.drop f)).length<=10000:=by
   have h1:=d.out.fl;have h2:dN L=dN (L.take f)++dN (L.drop f):=by rw[<-qf,zk]
   rw[h2,bW]at h1;omega
  have ar:=Z7 (LB:=LB) (gw:=g) (wc:=wc) wk W fp dk V eu cd d.out.ok ej d.out.sp cm bc d.out.c6 d.out.c9 d.out.wk d.out.su d.out.ml d.out.ms d.out.CS (by rw[xz];omega) d.out.w0 (by have:=d.out.wl;omega) d.out.ll ⟨d.out.ln.1,d.out.ln.2,by have:=d.out.ln.1;omega⟩ d.out.lb (by have h1:=(bU cd.chain rfl).2;obtain⟨c,h1⟩:=h1;exact bF h1);have t6:=rb.r 0;have cy:=yU E su (W.map WB.m) mem _ d.out.pts d.out.CS (λy g4=>by obtain⟨x,z,rfl⟩:=gS.1 g4;have o:=d.out.ok x z;refine⟨o.hh,by show(x.Q.map ru.t).length<=8;rw[fC];exact o.q8,λt g2=>?_⟩;obtain⟨hk,g1,rfl⟩:=gS.1 g2;have:=o.q hk g1;exact⟨this.id,this.si,this.li,this.lo,this.so⟩)
  unfold ptr at ar;replace ar:=aL ar;generalize cu:bP E su (W.map WB.m) mem (goes sL (dN (L.take f)))=J at ar cy|-;replace cy:=aL cy;replace cu:=aL cu;have ia:=d.out.wl;clear I p b7 dq b4 μ eu ej fc GH bu;replace bh:=aL bh;replace F:=aL F;go_wp2;refine ar.out.mono ?_;rintro e w3 ⟨av,v1,⟨cr,⟨cj,dm,ak,rfl,e1,dw,GH,dt⟩,A⟩|⟨cr,rfl,x,j,g3,gx,A⟩⟩
  .have dn:¬lA n mb D:=by rintro⟨i,hi,e⟩;have:=au.out i hi;omega
   have ay:dI w w3:=λk cs S C=>A.sin.2.2 k cs S (bh.out k cs S C) (λe=>by have h1:=(bU bc.own e).1;have h2:=bF C;omega)
   have r0:=r0.tk A.tk (oU D9 D9 D9 D9 D9);have ra:=ra.tk A.tk (oU D9 D9 D9 D9 D9);have b0:=A.tk.rest D _ cv rfl dn;have ab:=A.nd;have ca:=A.aY;have db:=dc.trans A.tk;have gj:=ab.mem.base;clear A bc cm cd rb t6 cv bh dc;have bd:Below w3 w3 (w3.alloc (.cells #[.slice gc f cc,.slice cj W.length dm] 99)):=B0.alloc L9 _;have dh:=aX w3 [.slice gc f cc,.slice cj W.length dm] 99;have fb:eK L=eK (L.take f)++eK (L.drop f):=by rw[<-sK,zk]
   have b6:(eK (L.take f)).length=f*2:=by rw[FZ,iU,d.out.Ll,sX O9]
   have cx:=Z8 ↑w3 gc f cc cj W.length dm (eK (L.take f)) (eK ak) _ O9 gp (dh.cell 0) (dh.cell 1) b6 (yT _) (λi u hi=>by have:=ab.chain.cells (g:=gc) rfl i u (by rw[fb,mG (by rw[b6];have:=(cB.1 hi).1;omega)];exact hi);rw[add0]at this;exact aV bd this) (by rw[FZ];have:=congrArg List.length GH;simp only[fC]at this;rw[this]) (yT _) (λi u hi=>by
    have:=e1.cells (g:=cj) rfl i u hi;rw[add0]at this;exact aV bd this) O9 O9
   replace cx:=aL cx;replace ay:=aL ay;replace dt:=aL dt;replace GH:=aL GH;replace dw:=aL dw;clear ar e1 fb b6 bf;go_wp2;refine cx.out.mono ?_;rintro e w4 ⟨i1,rfl,bb,e7⟩;have et:f+W.length=f -1+W.length+1:=O9;rw[et,<-sK]at bb;obtain⟨c8,c7,dz⟩:=cO bb (f -1+W.length) rfl;subst dz;have T:=bd.trans (e7.mono bd.size);replace bb:=oC bb (show B<=_ from bI gj bd.size);have O:=(ab.keep T).af1 bb;have ed:=ca.keep T;have π:=r0.keep T r0.lt;have a4:=ra.keep T ra.lt;have a7:=(T.block D (bF b0)).trans b0;have nr:=(ab.keep T).mem.row;have fy:=db.trans (Av T);have fj:=aL (M7 T);have M:Tk LB (λu=>u=107) 0 mb w4 (w4.setCell (nb,12) (.slice c8 (f -1+W.length+1) c7)):=nA nr _ d.out.ln.1;have g9:w4.cell? (nb,12)=some (.slice gc (kc+1) cc):=by rw[nr.cell];exact(ab.keep T).NS
   have hc:=nr.frozen 12;have z0:=π.r 0;have ho:=π.r 1;have hx:=π.frozen 0;have hy:=π.frozen 1;have ht:=a4.r 0;have hv:=a4.frozen 0;have hz:=π.lt;have h3:=a4.lt;have h4:=nr.lt;have im:nb≠(w:Nat)+1+1+1:=O9;have iq:nb≠(w:Nat):=O9;have ir:(w:Nat)+1+1+1≠nb:=O9;have iu:(w:Nat)≠nb:=O9;clear cx e7 bb ab ca bd dh et;replace O:=aL O;replace M:=aL M;go_wp2;replace O:=O.out;replace M:=M.out;have aa:=ed.tkc M D9 D9;have bk:=π.tk M D9;have a5:=a4.tk M D9;have dd:=M.rest D _ a7 rfl (by rintro⟨j,dv,_⟩;omega);have bm:=fy.trans (M.zero.mono (λt e=>.inl (.inl e)));have bg:=(fj.out).trans (C6 M.ck D9);clear ed π a4 a7 nr fy M g9 hc z0 ho hx hy ht hv hz h3 h4 r0 ra b0 db T fj;generalize w4.setCell ⟨nb,12,none⟩ (.slice c8 (f -1+W.length+1) c7)=ag at O aa bk a5 dd bm bg|-;have bo:Tk LB (λu=>u=4) 0 mb ag (ag.setCell ((w:Nat)+1+1+1,0) ↑aD):=nA a5 _ (by have:=d.out.ln.1;omega);have dj:Row (ag.setCell ((w:Nat)+1+1+1,0) ↑aD) ((w:Nat)+1+1+1) 4 [aD]:=a5.set 0 ↑aD;have a2:=bm.yS (g:=(w:Nat)+1+1+1) (j:=0) ↑aD O9;have dg:=O.ck bo.ck D9 D9 D9 D9 D9;have br:=aa.tkc bo D9 D9;have af:=bk.tk bo D9;have de:=bo.rest D _ dd rfl (by rintro⟨j,dv,_⟩;omega);have b9:=bg.trans (C6 bo.ck D9);clear O aa bk a5 dd bm bo bg;generalize ag.setCell ⟨(w:Nat)+1+1+1,0,none⟩ ↑aD=ah at dg br af dj de a2 b9|-;have ba:LB<=(w:Nat):=by have:=d.out.ln.1;omega
   have bp:Tk LB (λu=>u=44) 0 mb ah ((ah.setCell ((w:Nat),0) ↑(N:Int)).setCell ((w:Nat),1) ↑(W.length:Int)):=(nA af _ ba).trans (nA (af.set 0 _) _ ba);have fq:Row ((ah.setCell ((w:Nat),0) ↑(N:Int)).setCell ((w:Nat),1) ↑(W.length:Int)) ↑w 44 [↑(N:Int),↑(W.length:Int)]:=(af.set 0 ↑(N:Int)).set 1 ↑(W.length:Int);have fz:=(a2.yS (j:=0) ↑(N:Int) L9).yS (j:=1) ↑(W.length:Int) L9;have eg:=dg.ck bp.ck D9 D9 D9 D9 D9;have ee:=br.tkc bp D9 D9;have ek:=dj.tk bp D9;have cb:=bp.rest D _ de rfl (by rintro⟨j,dv,_⟩;omega);have fo:=b9.trans (C6 bp.ck D9);clear dg br af dj de a2 bp b9;generalize(ah.setCell ⟨(w:Nat),0,none⟩ ↑(N:Int)).setCell ((w:Nat),1) ↑(W.length:Int)=hn at eg ee fq ek cb fz fo|-;have bx:=ZU (LB:=LB) (o':=.deferred none) cb rfl;have ga:=fz.ZV (.deferred none) ey;have ef:=(ee.put (o':=.deferred none) cb rfl (λi hi e=>by have:=au.out i hi;omega)).2;have eh:=eg.ck bx id id id id id;have en:=ek.ck bx id;have ec:=fq.ck bx id;have eb:=fo.trans (C6 bx id);refine wA cb ?_;generalize hn.putObj D (.deferred none)=fv at bx ga ef eh en ec eb|-;refine Hy (R':=λw'=>w'=fv) (enters_of (fA func69) K8 rfl) (PY _ _ _ fv (en.cell 0)) ?_;rintro fw rfl;have k0:=ec.r 0;have k1:=ec.r 1;refine yD (v:=.tuple #[.agg #[↑(N:Int),↑(W.length:Int)],aA]) ?_ ?_;.simp[results,results35,go_sem,k0,k1]
   .rw[cu.out];exact⟨ga,ay.out.trans eb,av,.inl ⟨cr,by rw[cw.out],ef,c8,c7,ak,eh,dw.out,GH.out,dt.out.at_ eb⟩⟩
  .have h9:(J.e==0)=false:=by simpa using cr
   have dn:¬lA n mb D:=by rintro⟨i,hi,e⟩;have:=au.out i hi;omega
   have ay:dI w w3:=λk cs S C=>A.sin.2.2 k cs S (bh.out k cs S C) (λe=>by have h1:=(bU bc.own e).1;have h2:=bF C;omega)
   have r0:=r0.tk A.tk (oU D9 D9 D9 D9 D9);have rb:=rb.tk A.tk (oU D9 D9 D9 D9 D9);have ra:=ra.tk A.tk (oU D9 D9 D9 D9 D9);have b0:=A.tk.rest D _ cv rfl dn;have ba:LB<=(w:Nat):=by have:=d.out.ln.1;omega
   have cf:=r0.r 0;have ep:=r0.r 1;have f0:=r0.frozen 0;have f1:=r0.frozen 1;have iy:=r0.lt;have db:=dc.trans A.tk;clear ar bc cm cd t6 cv bh dc bf;replace A:=aL A;replace ay:=aL ay;go_wp2;have ab:=A.out.nd;have ca:=A.out.aY;have gg:=A.out.iO;have aj:Tk LB (λu=>u=44) 0 mb w3 ((w3.setCell ((w:Nat),0) ↑aA).setCell ((w:Nat),1) ↑aA):=(nA r0 _ ba).trans (nA (r0.set 0 _) _ ba);have gd:Tk LB Y1 n mb w ((w3.setCell ((w:Nat),0) ↑aA).setCell ((w:Nat),1) ↑aA):=(db.yS _ L9).yS _ L9;have π:Row ((w3.setCell ((w:Nat),0) ↑aA).setCell ((w:Nat),1) ↑aA) ↑w 44 [aA,aA]:=(r0.set 0 ↑aA).set 1 ↑aA;generalize(w3.setCell ⟨(w:Nat),0,none⟩ ↑aA).setCell ⟨(w:Nat),1,none⟩ ↑aA=w4 at aj gd π|-;have a7:=aj.rest D _ b0 rfl (by rintro⟨j,dv,_⟩;omega);have c5:=ZU (LB:=LB) (o':=.deferred none) a7 rfl;have bm:=gd.ZV (.deferred none) ey;have aa:=((ca.tkc aj D9 D9).put (o':=.deferred none) a7 rfl (λi hi e=>by have:=au.out i hi;omega)).2;have ei:=(gg.ck aj.ck D9 D9).ck c5 id id;have O:=(ab.ck aj.ck D9 D9 D9 D9 D9).ck c5 id id id id id;have ft:=(rb.tk aj D9).ck c5 id;have fs:=(ra.tk aj D9).ck c5 id;have bk:=π.ck c5 id;have bg:=ay.out.trans ((C6 aj.ck D9).trans (C6 c5 id));obtain⟨hf,hg,_,hj,_⟩:=cy.out;have dp:dN L=dN (L.take f)++dN (L.drop f):=by rw[<-qf,zk]
   have e4:=d.out.path;rw[dp]at e4;obtain⟨b1,b2⟩:=UZ e4.left.2;have gl:J.K=goes (goes sL (dN L)) (lR (dN (L.drop f))++J.st):=by rw[gG,dp,gG,b2];exact hf
   have gm:fH (goes sL (dN L)) (lR (dN (L.drop f))++J.st):=by rw[dp,gG];refine b1.append ?_;rw[b2];exact hg
   rw[gl]at aa;refine wA a7 ?_;generalize w4.putObj D (.deferred none)=ag at c5 bm aa ei O ft fs bk bg|-;refine Hy (R':=λw'=>aQ w' gs n sb mb (goes sL (dN L))/\Tk LB Yt n mb ag w'/\Xo (Aq n mb ((w:Nat)+1)) ((w:Nat)+1+1) wR ag w') (enters_of (fA func69) K8 rfl) (JK _ _ _ ag (fs.cell 0) (ft.cell 0) aa ei gm (by rw[bW,xz];rw[fC]at hj;omega) (bI ba (xL _))) ?_;rintro ah ⟨br,a2,hs⟩;have b9:dI w ah:=λk cs S C=>by
    have q:=bg k cs S C;refine(hs.block k (bF q) ?_).trans q;have b6:=bF C;rintro((e|e)|⟨e,_⟩);.exact aa.tM q e
    .omega
    .omega
   have af:=bk.tk a2 (by unfold Yt;decide);have k0:=af.r 0;have k1:=af.r 1;refine yD (v:=.tuple #[.agg #[aA,aA],↑J.e]) ?_ ?_;.simp[results,results35,go_sem,k0,k1]
   .rw[cu.out];exact⟨bm.trans (a2.mono Yt.y1),b9,av,.inr ⟨cr,rfl,br,x,j,g3,gx,O.ck a2.ck (by unfold Yt;decide) (by unfold Yt;decide) (by unfold Yt;decide) (by unfold Yt;decide) (by unfold Yt;decide)⟩⟩
end
structure BN where
 id:ByteArray
 par:Nat
 aW:Nat
 wo:Int
 cS:List JU
 bad:Bool
structure DL where
 ix:Nat
 st:List dA
structure AG where
 bl:List BN
 ch:List DL
 mem:List cF
 lo:Nat
def gH(l:List DL):List dA:=l.flatMap DL.st
def AG.K(a:AG):iR:=goes sL (gH a.ch)
def BV(ch:List DL)(h i:Nat):Prop:=(ch[h]?).map DL.ix=some i
instance(ch:List DL)(h i:Nat):Decidable (BV ch h i):=inferInstanceAs (Decidable (_=_))
def upA(bl:List BN)(ch:List DL):Nat->Nat->List Nat
 |0,_=>[]
 |k+1,i=>match bl[i]? with
   |none=>[]
   |some x=>if BV ch x.aW i then[]else i::upA bl ch k x.par
structure AB(a:AG):Prop where
 first:∃x,a.bl[0]?=some x/\x.aW=0/\x.wo=0/\x.bad=false
 par:∀(i:Nat) (x:BN),a.bl[i]?=some x->0<i->x.par<i/\∃p,a.bl[x.par]?=some p/\x.aW=p.aW+1/\p.wo<x.wo/\x.wo<=p.wo+256/\(p.bad=true->x.bad=true)
 ch0:∃y,a.ch[0]?=some y/\y.ix=0
 ch:∀(h:Nat) (y:DL),a.ch[h]?=some y->∃x,a.bl[y.ix]?=some x/\x.aW=h/\x.bad=false
 link:∀(h:Nat) (y:DL) (x:BN),a.ch[h+1]?=some y->a.bl[y.ix]?=some x->∃z,a.ch[h]?=some z/\z.ix=x.par
 path:fH sL (gH a.ch)
 len:∀y∈a.ch,y.st.length<=200
 CS:∀f,y8 (goes sL (gH (a.ch.take f)))
 ids:(a.bl.map BN.id).Nodup
 ll:a.bl.length<=49
def IB(l):∀p c,goes sL l p=some c->c.pt=p:=by suffices h:∀(l:List dA) (K:iR),(∀p c,K p=some c->c.pt=p)->∀p c,goes K l p=some c->c.pt=p from h l sL (λp c e=>by cases e);intro l;induction l with
 |nil=>exactλK h=>h
 |cons s l a=>
   intro K h;refine a (DK K s) (λp c e=>?_);unfold DK at e;split at e
   .unfold iR.put at e;split at e;.simp_all
    .grind
   .unfold iR.take at e;split at e;.cases e
    .grind
def AB.hle{a}(h:AB a):∀(i:Nat) (x:BN),a.bl[i]?=some x->x.aW<=i/\0<=x.wo/\x.wo<=256*x.aW:=by intro i;induction i using Nat.strongRecOn with
 |_ i f=>
   intro x b;by_cases h0:i=0;.subst h0;have⟨y,c,h1,h2,_⟩:=h.first;rw[b]at c;cases c;rw[h1,h2];exact⟨L9,mH _,O9⟩
   .have⟨d,p,e,g,e2,e3,_⟩:=h.par i x b O9;have:=f _ d p e;omega
def AB.chl{a}(h:AB a):a.ch.length<=a.bl.length:=by
 by_cases h0:a.ch.length=0;.omega
 .have e:=bO (show a.ch.length -1<a.ch.length by omega);have⟨x,b,h1,_⟩:=h.ch _ _ e;have:=(h.hle _ x b).1;have:=(cB.1 b).1;omega
structure agJ(a:AG)(i:Nat)(x:BN)(u:List Nat)(q:Nat)(y:BN):Prop where
 hq:a.bl[q]?=some y
 inq:BV a.ch y.aW q
 at0:(u++[q])[0]?=some i
 at_:∀(k j:Nat),u[k]?=some j->∃z,a.bl[j]?=some z/\0<j/\¬BV a.ch z.aW j/\(u++[q])[k+1]?=some z.par/\z.aW+k=x.aW/\(x.bad=false->z.bad=false)
 len:y.aW+u.length=x.aW
def Qb{a}(h:AB a):∀k i x,a.bl[i]?=some x->x.aW<k->∃q y,agJ a i x (upA a.bl a.ch k i) q y
 |0,i,x,b,o=>by omega
 |k+1,i,x,b,o=>by
   unfold upA;rw[b];simp only;by_cases d:BV a.ch x.aW i;.rw[bE d];exact⟨i,x,b,d,rfl,λk j f=>by simp at f,S8⟩
   .rw[aS d];have hi:0<i:=by
     obtain e|e:=sP i;.subst e;have⟨y,l,h1,_⟩:=h.first;have⟨z,t,h2⟩:=h.ch0;rw[b]at l;cases l;exact absurd (by unfold BV;rw[h1,t];simp[h2]) d
     .exact e
    have⟨B,p,r,A,e2,e3,n⟩:=h.par i x b hi;have⟨q,y,c⟩:=Qb h k x.par p r O9;refine⟨q,y,c.hq,c.inq,rfl,λm j f=>?_,?_⟩;.cases m with
     |zero=>simp at f;subst f;refine⟨x,b,hi,d,?_,rfl,id⟩;exact c.at0
     |succ m=>have⟨z,u,v,z3,z4,z5,w⟩:=c.at_ m j (by simpa using f);exact⟨z,u,v,z3,z4,O9,λg=>w (by cases s:p.bad with|false=>rfl|true=>rw[n s]at g;cases g)⟩
    .rw[fG];have:=c.len;omega
def bsA(j:Nat):List BN->Nat->List Bool->List Bool
 |[],_,acc=>acc
 |x::r,i,acc=>bsA j r (i+1) (acc++[x.bad||decide (i=j)||(decide (0<i)&&acc.getD x.par false)])
def JL(j):∀r i acc k,k<acc.length->(bsA j r i acc).getD k false=acc.getD k false
 |[],_,_,_,_=>rfl
 |x::r,i,acc,k,a=>by unfold bsA;rw[JL j r (i+1) _ k (by rw[bW];omega)];simp;rw[mG a]
def aab(j):∀r i acc k x,acc.length=i->r[k]?=some x->(0<i+k->x.par<i+k)->(bsA j r i acc).getD (i+k) false=(x.bad||decide (i+k=j)||(decide (0<i+k)&&(bsA j r i acc).getD x.par false))
 |[],_,_,_,_,_,h,_=>by simp at h
 |y::r,i,acc,0,x,hl,h,a=>by
   simp at h;subst h;rw[DT]at a|-;unfold bsA;have b:=JL j r (i+1) (acc++[y.bad||decide (i=j)||(decide (0<i)&&acc.getD y.par false)]) i (by rw[bW];simp;omega);rw[b];simp at*;rw[dU O9,hl];simp;by_cases h0:0<i;.have e2:=JL j r (i+1) (acc++[y.bad||decide (i=j)||(decide (0<i)&&(acc[y.par]?).getD false)]) y.par (by rw[bW];have:=a h0;simp;omega);simp at e2;rw[e2,mG (by have:=a h0;omega)]
   .simp[h0]
 |y::r,i,acc,k+1,x,hl,h,a=>by have:=aab j r (i+1) (acc++[y.bad||decide (i=j)||(decide (0<i)&&acc.getD y.par false)]) k x (by rw[bW,hl];rfl) (by simpa using h) (by intro _;have:=a O9;omega);rw[show i+(k+1)=i+1+k from by omega];exact this
def GI(bl:List BN)(j:Nat):List Bool:=bsA j bl 0 []
def BW{bl j i x}(h:bl[i]?=some x)(a:0<i->x.par<i):(GI bl j).getD i false=(x.bad||decide (i=j)||(decide (0<i)&&(GI bl j).getD x.par false)):=by have:=aab j bl 0 [] i x rfl h (by rw[iV];exact a);rw[iV]at this;exact this
def BN.mark(x:BN)(b:Bool):BN:={x with bad:=b,cS:=if b then[]else x.cS}
def iJ(bl:List BN)(j:Nat):List BN:=bl.mapIdx λi x=>x.mark ((GI bl j).getD i false)
def gP(a:AG)(i h:Nat):List Nat:=(upA a.bl a.ch (h+1) i).reverse
def mA(bl:List BN)(i:Nat):Int×List JU:=match bl[i]? with
 |none=>(0,[])
 |some x=>((x.aW:Int),x.cS)
def bZ(a:AG)(i h:Nat):Nat:=h+1 -(gP a i h).length
def dJ(c:iX)(a:AG)(i h:Nat):JR:=bP c.me.toNat c.su ((gP a i h).map (mA a.bl)) a.mem (goes sL (gH (a.ch.take (bZ a i h))))
def pj:List Nat->List (List dA)->List DL
 |i::l,s::m=>⟨i,s⟩::pj l m
 |_,_=>[]
def Ay(c:iX)(a:AG)(i h:Nat):Int×Int×Int×AG:=if(dJ c a i h).e=0 then(((a.ch.length -bZ a i h:Nat):Int),((gP a i h).length:Int),0,{a with ch:=a.ch.take (bZ a i h)++pj (gP a i h) (dJ c a i h).ls,mem:=(dJ c a i h).mem})
 else(0,0,(dJ c a i h).e,{a with bl:=iJ a.bl ((gP a i h).getD (dJ c a i h).at_ 0),mem:=(dJ c a i h).mem})
section
variable{LB:Nat}
def gU(a:AG):BN:=((a.ch[a.ch.length -1]?).bind λy=>a.bl[y.ix]?).getD ⟨⟨#[]⟩,0,0,0,[],false⟩
def AG.an(a:AG):AN:=⟨a.bl.map BN.id,(gU a).id,a.ch.length -1,(gU a).wo,a.K,a.mem,a.lo⟩
structure Tie(w:World)(l:List kF)(i:Nat)(x:kF)(y:BN):Prop where
 id:x.id=y.id
 aW:x.aW=(y.aW:Int)
 wo:x.wo=y.wo
 bad:x.bad=y.bad
 aac:i=0->x.par=none
 par:0<i->∃p,l[y.par]?=some p/\x.par=some p.a
 cS:y.bad=false->0<i->∃q:WB,q.b=x/\q.Ok l/\mM w q.gt q.Q/\q.Q.map ru.t=y.cS
def Tie.move{w w' l b i x y}(h:Tie w l i x y)(f:∀gt Q,mM w gt Q->mM w' gt Q)(hl:∀(k:Nat) (p:kF),l[k]?=some p->∃p',b[k]?=some p'/\p'.a=p.a)(j:x∈b):Tie w' b i x y:=⟨h.id,h.aW,h.wo,h.bad,h.aac,λh0=>by obtain⟨p,h1,h2⟩:=h.par h0;obtain⟨p',c,d⟩:=hl _ p h1;exact⟨p',c,by rw[d];exact h2⟩,λg h0=>by have⟨q,e,o,t,m⟩:=h.cS g h0;exact⟨q,e,⟨o.tv,o.q,o.q0,o.q8,o.qc,e▸j,o.hh⟩,f _ _ t,m⟩⟩
structure gV(w:World)(nb:Nat)(lk:List Value)(c:iX)(s:Lay)(L:List eJ)(a:AG):Prop where
 base:jT w nb lk c s a.an
 sl:s.L=eK L
 wf:AB a
 ll:s.l.length=a.bl.length
 tie:∀(i:Nat) (x:kF) (y:BN),s.l[i]?=some x->a.bl[i]?=some y->Tie w s.l i x y
 nda:(s.l.map kF.a).Nodup
 cl:L.length=a.ch.length
 lnk:∀(i:Nat) (x:eJ) (y:DL),L[i]?=some x->a.ch[i]?=some y->x.st=y.st/\x.At w/\∃b,s.l[y.ix]?=some b/\b.a=x.a
def jE(w:World)(nb:Nat)(c:iX)(a:AG):Prop:=∃s L,gV w nb qK c s L a
def gV.is{w nb c s L a}(h:gV w nb qK c s L a):sx w nb c a.an:=⟨s,h.base⟩
def eJ.At.old{w w'}{x:eJ}(h:x.At w)(o:dI w w'):x.At w':=by
 obtain e|⟨g,e,a⟩:=h;.exact .inl e
 .exact .inr ⟨g,e,a.old o⟩
def gV.move{w w' nb l lk' c s L a}(h:gV w nb l c s L a)(g:jT w' nb lk' c s a.an)(f:∀gt Q,mM w gt Q->mM w' gt Q)(o:dI w w'):gV w' nb lk' c s L a:=⟨g,h.sl,h.wf,h.ll,λi x y b d=>(h.tie i x y b d).move f (λk p j=>⟨p,j,rfl⟩) (cQ b),h.nda,h.cl,λi x y b d=>by obtain⟨h1,h2,e⟩:=h.lnk i x y b d;exact⟨h1,h2.old o,e⟩⟩
def gV.keep{w w' nb d c s L a}(h:gV w nb d c s L a)(b:Below w w w'):gV w' nb d c s L a:=h.move (h.base.keep b) (λ_ _ t=>t.keep b) (M7 b)
def gV.shut{w w' nb b lk' c s L a}(h:gV w nb b c s L a)(hl:b.length=6)(d:lk'.length=6)(g:w.grownBy w' (some nb))(r:Row w' nb 107 (lk'++(c.cells++[s.bv,.slice (some ⟨s.gc,0,none⟩) (s.kc+1) s.cc,.slice (some ⟨s.gs,0,none⟩) s.n s.n,.int .i64 c.me,s.mv]))):gV w' nb lk' c s L a/\Tk a.lo (λt=>t=107) 0 s.mb w w':=by have⟨h1,h2⟩:=h.base.shut hl d g r;exact⟨h.move h1 (λ_ _ t=>t.tk h2 D9 D9 D9) (C6 h2.ck D9),h2⟩
def gV.tk{b w w' nb d c s L a}(h:gV w nb d c s L a)(x:Tk LB b 0 s.mb w w')(h1:¬b 107)(h2:¬b 247)(g:¬b 114)(i:¬b 117)(j:¬b 123)(k:¬b 145)(l:¬b 173)(m:¬b 155)(n:¬b 133)(e:¬b 69)(f:¬b 195):gV w' nb d c s L a:=h.move (h.base.tk x h1 h2 g i j k l) (λ_ _ t=>t.tk x m n e) (C6 x.ck f)
def Dr(a:AG)(b:o9):Nat:=(a.bl.findIdx? λx=>decide (x.id=mk b.parent)).getD 0
def yV(a:AG)(b:o9):BN:=(a.bl[Dr a b]?).getD ⟨⟨#[]⟩,0,0,0,[],false⟩
def GJ(a:AG)(b:o9):Bool:=a.bl.any λx=>decide (x.id=mk b.parent)
def vD(a:AG)(cb:Int)(s:List UInt8)(b:o9):Int:=if Nw (a.bl.map BN.id) (kZ s)=true then 10 else
 if b.bits<cb then 11 else
 if(iQ s).toNat%2^b.bits.toNat≠0 then 11 else
 if GJ a b=false then 12 else
 if(yV a b).bad then 13 else
 if a.bl.length=49 then 9 else 0
def eN(a:AG)(s:List UInt8)(b:o9):BN:=⟨kZ s,Dr a b,(yV a b).aW+1,(yV a b).wo+2^b.bits.toNat,b.cS.map JD,false⟩
def pP(c:iX)(a:AG)(s:List UInt8):Int×Int×Int×AG:=match mS s with
 |none=>(0,0,1,a)
 |some b=>if vD a c.bi s b≠0 then(0,0,vD a c.bi s b,a)else
   if(eN a s b).wo<=(gU a).wo then(0,0,0,{a with bl:=a.bl++[eN a s b]})
   else Ay c {a with bl:=a.bl++[eN a s b]} a.bl.length (eN a s b).aW
def rT{a b}(h:GJ a b=true):a.bl[Dr a b]?=some (yV a b)/\(yV a b).id=mk b.parent:=by
 have h1:(a.bl.findIdx? λx=>decide (x.id=mk b.parent)).isSome=true:=by rw[List.findIdx?_isSome];exact h
 have⟨i,hi⟩:=V6.1 h1;have d:Dr a b=i:=by unfold Dr;rw[hi];rfl
 have⟨f,h2,_⟩:=List.findIdx?_eq_some_iff_getElem.1 hi;have c:=bO f;have e:yV a b=a.bl[i]:=by unfold yV;rw[d,c];rfl
 rw[d,e];exact⟨c,by simpa using h2⟩
def aad{w nb n c s L a}(h:gV w nb n c s L a)(b):(GJ a b=false/\jJ s.l (mk b.parent)=none)\/(GJ a b=true/\∃x,jJ s.l (mk b.parent)=some x/\s.l[Dr a b]?=some x):=by have j:=h.base.ids;cases f:GJ a b with
 |false=>refine .inl ⟨rfl,?_⟩;cases i:jJ s.l (mk b.parent)with
   |none=>rfl
   |some x=>
     have h1:=q9.1 (by rw[i];rfl);rw[j]at h1;have⟨y,m,e⟩:=gS.1 h1;have h2:GJ a b=true:=by unfold GJ;rw[List.any_eq_true];exact⟨y,m,by simpa using e⟩
     rw[f]at h2;cases h2
 |true=>
   have⟨h1,h2⟩:=rT f;have d:Dr a b<s.l.length:=by rw[h.ll];exact(cB.1 h1).1
   have g:=bO d;refine .inr ⟨rfl,_,?_,g⟩;have k:=h.tie _ _ _ g h1;have:=Iz s.l s.l[Dr a b] h.base.idn (sW d);rw[k.id,h2]at this;exact this
def aeK{w nb k c s L a}(h:gV w nb k c s L a){t b}(f:0<=b.bits)(id)(i:id=kZ t):xK s.l c.bi id (mk b.parent) b.bits.toNat (iQ t)=vD a c.bi t b:=by
 have hi:s.l.map kF.id=a.bl.map BN.id:=h.base.ids;have g:=Kr f;unfold xK vD;rw[i,g,<-hi,h.ll];by_cases h1:kZ t∈s.l.map kF.id;.rw[bE (q9.2 h1),bE (xt.2 h1)]
 .rw[aS (λe=>h1 (q9.1 e)),aS (λe=>h1 (xt.1 e))];obtain⟨d,e2⟩|⟨d,x,e2,j⟩:=aad h b;.simp_all
  .rw[d,e2];have:=(h.tie _ _ _ j (rT d).1).bad;simp[this]
def BX{a cb s b}(h:vD a cb s b=0):kZ s∉a.bl.map BN.id/\GJ a b=true/\(yV a b).bad=false/\a.bl.length≠49:=by
 unfold vD at h;split at h;.cases h
 .rename_i h1;split at h;.cases h
  .split at h;.cases h
   .split at h;.cases h
    .rename_i h2;split at h;.cases h
     .rename_i c;split at h;.cases h
      .rename_i d;exact⟨λe=>h1 (xt.2 e),by simpa using h2,by simpa using c,d⟩
def wT{α:Type}{l}{x y:α}{i}(h:(l++[x])[i]?=some y):l[i]?=some y\/(i=l.length/\y=x):=by grind
def lS{α:Type}{l m:List α}{x}{i:Nat}(h:l[i]?=some x):(l++m)[i]?=some x:=by grind
def aae{N}(h:N<=8):(0:Int)<2^N/\(2:Int)^N<=256:=by have e3:2^N<=2^8:=Ks D9 h;have a:0<2^N:=Nat.pow_pos D9;exact⟨Int.ofNat_lt.2 a,GP.2 e3⟩
def AB.keep{a}(h:AB a){cb s b}(hr:vD a cb s b=0)(l:b.bits.toNat<=8):AB {a with bl:=a.bl++[eN a s b]}:=by
 have⟨r1,r2,r3,t⟩:=BX hr;have f:=(rT r2).1;have n:=(cB.1 f).1;have r:=aae l;refine⟨?_,λi x c h0=>?_,h.ch0,λk y d=>?_,λk y x d c=>?_,h.path,h.len,h.CS,?_,?_⟩;.have⟨x,c,q⟩:=h.first;exact⟨x,lS c,q⟩
 .obtain c|⟨e,rfl⟩:=wT c;.have⟨h1,p,h2,j⟩:=h.par i x c h0;exact⟨h1,p,lS h2,j⟩
  .subst e;refine⟨n,yV a b,lS f,rfl,?_,?_,λe=>?_⟩;.show _<_+(2:Int)^_;omega
   .show _+(2:Int)^_<=_;omega
   .simp_all
 .have⟨x,c,q⟩:=h.ch k y d;exact⟨x,lS c,q⟩
 .have⟨o,g,_⟩:=h.ch (k+1) y d;have:x=o:=by have:=lS (m:=[eN a s b]) g;rw[this]at c;cases c;rfl
  subst this;exact h.link k y x d g
 .rw[nT,lC,GL,VM];exact⟨h.ids,S8,λx c y d e=>by simp only[kH]at d;subst d;subst e;exact r1 c⟩
 .have:=h.ll;simp;omega
def AB.nM{a}(h:AB a):∃y,a.ch[a.ch.length -1]?=some y/\a.bl[y.ix]?=some (gU a)/\(gU a).aW=a.ch.length -1/\(gU a).bad=false/\0<a.ch.length:=by
 have⟨z,d,_⟩:=h.ch0;have hl:=(cB.1 d).1;have e:=bO (show a.ch.length -1<a.ch.length by omega);have⟨x,c,h1,h2⟩:=h.ch _ _ e;have b:gU a=x:=by unfold gU;rw[e,Option.bind_some,c];rfl
 exact⟨_,e,by rw[b];exact c,by rw[b];exact h1,by rw[b];exact h2,hl⟩
def Sv{a a'}(h:AB a)(c:a'.ch=a.ch)(b:∀(i:Nat) (x:BN),a.bl[i]?=some x->a'.bl[i]?=some x):gU a'=gU a:=by have⟨y,h1,h2,_⟩:=h.nM;unfold gU;rw[c,h1,vQ,vQ,b _ _ h2,h2]
def aeL{w w' nb A gt N c s L a j Q t b p}(h:gV w nb oD c s L a)(hr:vD a c.bi t b=0)(hN:b.bits.toNat=N)(V:N<=8)(J:Q.map ru.t=b.cS.map JD)(S:∀q∈Q,q.Ok)(u:1<=Q.length/\Q.length<=8)(M:mM w' gt Q)(C:s.l[Dr a b]?=some p)(H:↑w<=A)(I:jF w' s.B j (s.l++[GD A (kZ t) p N (.slice (some ⟨gt,0,none⟩) Q.length Q.length)]))(P:Row w' nb 107 ((s.cs oD c).set 11 j))(x:Xc (λk=>k=nb\/s.bv.ownBlock=some k) w w'):
 gV w' nb oD c {s with bv:=j,l:=s.l++[GD A (kZ t) p N (.slice (some ⟨gt,0,none⟩) Q.length Q.length)]} L {a with bl:=a.bl++[eN a t b]}/\Tk a.lo Yk 0 s.mb w w':=by
 have⟨nd,co,tk⟩:=Sr h.base I P x;have⟨r1,r2,r3,π⟩:=BX hr;have m:=(rT r2).1;have o:=h.tie _ _ _ C m;have D:=h.wf.keep hr O9;have R:A∉s.l.map kF.a:=λe=>by obtain⟨z,μ,rfl⟩:=gS.1 e;have:=(h.base.nd.q7.row z μ).lt;omega
 have n:gU {a with bl:=a.bl++[eN a t b]}=gU a:=Sv h.wf rfl (λi x f=>lS f);have v:s.l.map kF.id=a.bl.map BN.id:=h.base.ids;have d:=h.base;have T:=d.wb;have hle:=D.ll;have O:=h.ll;have K:∀gt Q,mM w gt Q->mM w' gt Q:=λ_ _ q=>q.tk tk (by unfold Yk;decide) (by unfold Yk;decide) (by unfold Yk;decide);refine⟨⟨⟨nd,co,Z0 d.idn (by rw[v];exact r1),List.mem_append_left _ d.nM,d.jL,d.ph,d.link,d.L1,?_,?_,d.kc,?_,?_,?_,?_,d.CS,d.mem,d.cok,d.low.1,d.low.2.1,show∀x∈s.l++[_],a.lo<=x.a from Z1 d H rfl⟩,h.sl,D,?_,λi x y f g=>?_,?_,h.cl,λi x y f g=>?_⟩,tk⟩;.show(s.l++_).map kF.id=(a.bl++[eN a t b]).map BN.id;rw[nT,nT,v];rfl
 .show s.p.id=(gU _).id;rw[n];exact d.tid
 .show s.p.wo=(gU _).wo;rw[n];exact d.wo
 .show((a.bl++[eN a t b]).map BN.id).length<=49;rw[fC];exact hle
 .show a.ch.length -1+1<=((a.bl++[eN a t b]).map BN.id).length;have:=d.kl;have h2:a.ch.length -1+1<=(a.bl.map BN.id).length:=this;rw[fC]at h2|-;rw[bW];omega
 .show 0<=(gU _).wo/\(gU _).wo<=256*(((a.bl++[eN a t b]).map BN.id).length:Int);rw[n];have h2:0<=(gU a).wo/\(gU a).wo<=256*((a.bl.map BN.id).length:Int):=T;rw[fC]at h2|-;rw[bW];simp only[oM];omega
 .simp_all
 .obtain E|⟨e,rfl⟩:=wT f
  .have Y:i<a.bl.length:=by rw[<-O];exact(cB.1 E).1
   obtain r|⟨e,_⟩:=wT g;.exact(h.tie i x y E r).move K (λk q hq=>⟨q,lS hq,rfl⟩) (cQ f)
   .omega
  .obtain r|⟨_,rfl⟩:=wT g;.have:=(cB.1 r).1;omega
   .have W:=Vy d.nM;have hh:=(h.wf.hle _ _ m).1;have hl:=(cB.1 m).1;have X:=h.wf.ll;refine⟨rfl,?_,?_,rfl,λe2=>by omega,λ_=>⟨p,lS C,rfl⟩,λ_ _=>⟨⟨GD A (kZ t) p N (.slice gt Q.length Q.length),Q,gt,Q.length⟩,rfl,⟨rfl,S,u.1,u.2,L9,S8,?_⟩,M,J⟩⟩;.show p.aW+1=(((yV a b).aW+1:Nat):Int);rw[o.aW];omega
    .show p.wo+2^N=(yV a b).wo+2^b.bits.toNat;rw[o.wo,hN]
    .show p.aW+1<_;rw[o.aW];omega
 .show((s.l++[_]).map kF.a).Nodup;rw[nT,lC,GL,VM];exact⟨h.nda,S8,λx f y g e=>by simp only[kH]at g;subst g;subst e;exact R f⟩
 .have⟨h1,h2,q,F,G⟩:=h.lnk i x y f g;exact⟨h1,h2.old (dI.ck tk.ck (by unfold Yk;decide)),q,lS F,G⟩
def C7{α β:Type}(P:α->β->Prop):∀l:List α,(∀x∈l,∃y,P x y)->∃m:List β,m.length=l.length/\∀(k:Nat) (x:α) (y:β),l[k]?=some x->m[k]?=some y->P x y
 |[],_=>⟨[],rfl,λk x y h=>by simp at h⟩
 |x::l,h=>by have⟨y,c⟩:=h x S8;have⟨m,h1,h2⟩:=C7 P l (λz d=>h z (by simp[d]));refine⟨y::m,by simp[h1],λk u v a b=>?_⟩;cases k with
   |zero=>simp at a b;subst a;subst b;exact c
   |succ k=>exact h2 k u v (by simpa using a) (by simpa using b)
def piA(bl:List BN)(i:Nat):Option Nat:=if i=0 then none else(bl[i]?).map BN.par
def gV.agK{w nb g c s L a}(h:gV w nb g c s L a)(j):acm s.l j (GI a.bl j) (piA a.bl):=by
 have f:∀(i:Nat) (x:kF),s.l[i]?=some x->∃y,a.bl[i]?=some y:=λi x b=>⟨_,bO (by rw[<-h.ll];exact(cB.1 b).1)⟩;refine⟨h.nda,λi x b=>?_,λi x b=>?_⟩
 .have⟨y,d⟩:=f i x b;have e:=h.tie i x y b d;by_cases h0:i=0;.exact .inl ⟨e.aac h0,by unfold piA;rw[if_pos h0]⟩
  .have⟨p,h1,h2⟩:=e.par O9;exact .inr ⟨y.par,p,by unfold piA;rw[if_neg h0,d];rfl,(h.wf.par i y d O9).1,h1,h2⟩
 .have⟨y,d⟩:=f i x b;rw[BW d (λh0=>(h.wf.par i y d h0).1),(h.tie i x y b d).bad];congr 1;unfold piA;by_cases h0:i=0;.simp_all
  .grind
def gV.flat{w nb b c s L a}(h:gV w nb b c s L a)(f):dN (L.take f)=gH (a.ch.take f):=by
 have e:L.map eJ.st=a.ch.map DL.st:=by
  apply kI;intro i;rw[cW,cW];by_cases hi:i<L.length;.have h1:=bO hi;have h2:=bO (show i<a.ch.length by rw[<-h.cl];exact hi);rw[h1,h2,dY,dY,(h.lnk i _ _ h1 h2).1]
  .rw[pC O9,pC (by rw[<-h.cl];omega)];rfl
 unfold dN gH;rw[QF,QF,List.map_take,List.map_take,e]
def gV.flatAll{w nb b c s L a}(h:gV w nb b c s L a):dN L=gH a.ch:=by have:=h.flat L.length;rw[iB,h.cl,iB]at this;exact this
def U9{l}(h:∀y∈l,y.st.length<=200):(gH l).length<=200*l.length:=by induction l with
 |nil=>exact L9
 |cons x l b=>have e:gH (x::l)=x.st++gH l:=rfl;rw[e,bW,fG];have h1:=h x S8;have h2:=b (λy a=>h y (by simp[a]));omega
def gV.over{w nb j c s L a y O}(h:gV w nb oD c s L a)(J:a.bl[j]?=some y)(ak:y.bad=false)(av:¬BV a.ch y.aW j)(f:s.l[j]?=some O):∃W M,adz a.lo w nb s.B c.me.toNat (s.cs oD c) s.bv s.mv s.gc s.kc s.cc s.l L a.mem s.gs s.n s.sb s.mb c.wk.toNat c.su W (piA a.bl) (GI a.bl) O M (bZ a j y.aW)/\W.map WB.m=(gP a j y.aW).map (mA a.bl)/\(∀(k:Nat) (i:Nat) (x:WB),(gP a j y.aW)[k]?=some i->W[k]?=some x->s.l[i]?=some x.b)/\W.length=(gP a j y.aW).length:=by
 have⟨q,G,g⟩:=Qb h.wf (y.aW+1) j y J (nN _);unfold bZ gP;generalize bk:upA a.bl a.ch (y.aW+1) j=u at g;have π:∀(i:Nat) (z:BN),a.bl[i]?=some z->∃x,s.l[i]?=some x/\Tie w s.l i x z:=λi z F=>by have e:=bO (show i<s.l.length by rw[h.ll];exact(cB.1 F).1);exact⟨_,e,h.tie i _ z e F⟩
 have⟨W',K,C⟩:=C7 (λ(i:Nat) (x:WB)=>∃z,a.bl[i]?=some z/\s.l[i]?=some x.b/\Tie w s.l i x.b z/\x.Ok s.l/\mM w x.gt x.Q/\x.Q.map ru.t=z.cS) u (λi hi=>by have⟨k,d⟩:=pz.1 hi;have⟨z,r,H,z3,z4,z5,N⟩:=g.at_ k i d;have⟨x,a2,af⟩:=π i z r;have⟨bb,e,o,t,m⟩:=af.cS (N ak) H;subst e;exact⟨bb,z,r,a2,af,o,t,m⟩)
 have⟨M,ae,ay⟩:=π q G g.hq;have bm:0<u.length:=by
  obtain e|e:=sP u.length;.have:u=[]:=nP e;subst this;have A:=g.at0;have e2:=g.hq;have e3:=g.inq;simp only[vP,mI,gQ]at A;subst A;rw[J]at e2;cases e2;exact absurd e3 av
  .exact e
 have hlen:=g.len;have X:∀x∈W',∃(k i:Nat),u[k]?=some i/\W'[k]?=some x:=λx f=>by
  have⟨k,d⟩:=pz.1 f;have V:k<u.length:=by rw[<-K];exact(cB.1 d).1
  exact⟨k,_,bO V,d⟩
 have Y:∀(k i:Nat) (x:kF),(u++[q])[k]?=some i->s.l[i]?=some x->(W'.map WB.b++[M])[k]?=some x:=λk i x d bo=>by grind
 have au:y.aW+1 -u.reverse.length=G.aW+1:=by rw[zj];omega
 have μ:(W'.reverse.map WB.b).reverse=W'.map WB.b:=by rw[QS,List.reverse_reverse]
 obtain⟨bq,ah,a6⟩:∃z,a.ch[G.aW]?=some z/\z.ix=q:=by have:=g.inq;unfold BV at this;cases F:a.ch[G.aW]? with
  |none=>rw[F]at this;cases this
  |some z=>rw[F]at this;simp only[dY,gQ]at this;exact⟨z,rfl,this⟩
 have ar:=(cB.1 ah).1;have bd:=h.wf.chl;have bh:=h.wf.ll;have bg:s.kc=a.ch.length -1:=h.base.kc;have ao:=JE h.base.cok;have bp:=(h.wf.hle j y J).1;have bf:=(cB.1 J).1;have I:∀(i:Nat) (x:eJ),L[i]?=some x->∃(z:DL) (b:kF),a.ch[i]?=some z/\x.At w/\s.l[z.ix]?=some b/\b.a=x.a:=λi x f=>by have e:=bO (show i<a.ch.length by rw[<-h.cl];exact(cB.1 f).1);have⟨_,h2,b,R,S⟩:=h.lnk i x _ f e;exact⟨_,b,e,h2,R,S⟩
 refine⟨W'.reverse,M,?_,?_,?_,?_⟩
 .rw[au];refine⟨by rw[<-h.sl];exact h.base.nd,by rw[h.flatAll];exact h.base.aY,λx f=>?_,λx f=>?_,λx f=>?_,?_,rfl,rfl,O9,ao.2.2.2.1,h.base.mem,O9,by rw[h.flatAll];exact h.wf.path,?_,by rw[h.flat];exact h.wf.CS _,IB _,by rw[h.cl];omega,λx f=>?_,λx f=>?_,λx f=>?_,by rw[zj];omega,by rw[zj];omega,by rw[h.ll];omega,O9,?_,λk x d=>?_,λx f=>?_,cQ ae,?_,?_,O9,O9,⟨h.base.low.1,h.base.low.2.1⟩,h.base.low.2.2⟩;.grind
  .have⟨k,i,h1,h2⟩:=X x (by simpa using f);exact(C k i x h1 h2).choose_spec.2.2.2.1
  .have⟨k,i,h1,h2⟩:=X x (by simpa using f);exact⟨i,(C k i x h1 h2).choose_spec.2.1,h.agK i⟩
  .show some (Value.int .i64 c.wk)=_;rw[Kr O9]
  .rw[h.flatAll];have:=U9 h.wf.len;omega
  .have⟨i,hi⟩:=pz.1 f;exact(I i x hi).choose_spec.choose_spec.2.1
  .have⟨i,hi⟩:=pz.1 f;have⟨z,b,_,_,R,S⟩:=I i x hi;exact⟨b,cQ R,S⟩
  .have⟨i,hi⟩:=pz.1 f;have e:=bO (show i<a.bl.length by rw[<-h.ll];exact(cB.1 hi).1);rw[(h.tie i x _ hi e).aW];exact D2 _
  .rw[μ];exact Y 0 j O g.at0 f
  .rw[μ]at d|-;rw[cW]at d;cases D:W'[k]? with
   |none=>rw[D]at d;cases d
   |some v=>
     rw[D]at d;simp only[dY,gQ]at d;subst d;have V:k<u.length:=by rw[<-K];exact(cB.1 D).1
     have aa:=bO V;have⟨z,r,H,z3,z4,z5,N⟩:=g.at_ k _ aa;have⟨aj,v1,v2,v3,ai,_⟩:=C k _ v aa D;rw[r]at v1;cases v1;have⟨p,a8,ba⟩:=v3.par H;exact⟨ai.mem,p,Y (k+1) _ p z4 a8,ba⟩
  .rw[μ]at f;obtain⟨v,az,rfl⟩:=gS.1 f;have⟨k,i,h1,h2⟩:=X v az;have⟨z,r,H,z3,z4,z5,N⟩:=g.at_ k i h1;have⟨aj,v1,v2,v3,_⟩:=C k i v h1 h2;rw[r]at v1;cases v1;rw[v3.aW,vJ,cW];intro e;cases T:L[z.aW]? with
   |none=>rw[T]at e;cases e
   |some a7=>rw[T]at e;simp only[dY,gQ]at e;have⟨c1,b1,A,_,e3,P⟩:=I _ a7 T;have:=Ax h.nda e3 v2 (by rw[P,e]);exact z3 (by unfold BV;rw[A];simp[this])
  .rw[ay.aW,vJ,cW];have e:=bO (show G.aW<L.length by rw[h.cl];exact ar);rw[e];have⟨c1,b1,A,_,e3,P⟩:=I _ _ e;rw[ah]at A;cases A;rw[a6,ae]at e3;cases e3;rw[dY,P]
  .obtain⟨E,bj⟩:∃E,u.length=E+1:=⟨u.length -1,O9⟩;have D:=bO (show E<W'.length by omega);have d:=bO (show E<u.length by omega);have⟨z,r,H,z3,z4,z5,N⟩:=g.at_ E _ d;have⟨aj,v1,v2,v3,_⟩:=C E _ _ d D;rw[r]at v1;cases v1;refine⟨_,by rw[GZ O9,show W'.length -1 -0=E from by omega];exact D,?_⟩;rw[v3.aW];omega
 .rw[QS,QS];congr 1;apply kI;intro k;rw[cW,cW];by_cases d:k<u.length;.have h1:=bO d;have h2:=bO (show k<W'.length by omega);have⟨z,v1,v2,v3,ai,v5,bc⟩:=C k _ _ h1 h2;rw[h1,h2,dY,dY];unfold WB.m mA;rw[v1,v3.aW,bc]
  .rw[pC O9,pC O9];rfl
 .intro k i x d ag;have ab:=(cB.1 d).1;rw[zj]at ab;rw[GZ ab]at d;rw[GZ O9,K]at ag;exact(C _ i x d ag).choose_spec.2.1
 .rw[zj,zj,K]
def yX(a su):∀(l:List (Int×List JU)) (mem:List cF) (K:iR),(∀p c,K p=some c->c.pt=p)->y8 K->mem.length<=a->(∀x∈l,x.1<9223372036854775808/\x.2.length<=8/\∀t∈x.2,t.id.size<=1000000/\(∀i∈t.ins,i.Small)/\t.ins.length<=8/\t.outs.length<=8/\∀o∈t.outs,o.Small)->(∀s∈(bP a su l mem K).ls,s.length<=200)/\(∀m,y8 (goes K ((bP a su l mem K).ls.take m).flatten))/\(bP a su l mem K).mem.length<=a
 |[],mem,K,_,b,f,_=>⟨λs d=>by simp[bP]at d,λm=>by simp[bP];exact b,f⟩
 |x::r,mem,K,v,b,f,hl=>by
   have e:=hl x S8;have k:=xy a su x.1 x.2 mem v (λt g=>have q:=e.2.2 t g;⟨q.1,q.2.1,q.2.2.2.1⟩);have u:=FU a su x.1 x.2 mem e.1 b e.2.1 (λt g=>have q:=e.2.2 t g;⟨q.2.2.1,q.2.2.2.1,q.2.2.2.2⟩);have j:=F4 (su:=su) (h:=x.1) (cS:=x.2) (K:=K) (st:=[]) f;by_cases h0:(bY a su x.1 x.2 mem K []).1=0
   .have⟨z,n,a3⟩:=yX a su r (bY a su x.1 x.2 mem K []).2.2 _ k.pt u.1 j (λy w=>hl y (by simp[w]));rw[bP,aS (by rw[h0];simp)];refine⟨λs d=>?_,λm=>?_,a3⟩;.grind
    .cases m with
     |zero=>simp;exact b
     |succ m=>rw[QH,Wd,gG,<-k.at_];exact n m
   .rw[bP,bE h0];exact⟨λs d=>by simp at d,λm=>by rw[List.take_nil,List.flatten_nil];exact b,j⟩
def wU:∀(l:List Nat) (m:List (List dA)),m.length=l.length->(pj l m).length=l.length
 |[],_,_=>rfl
 |_::_,[],h=>by simp at h
 |i::l,s::m,h=>by simp[pj];rw[wU l m (by simpa using h)]
def tS:∀(l:List Nat) (m:List (List dA)) (k:Nat) (z:DL),(pj l m)[k]?=some z->l[k]?=some z.ix/\m[k]?=some z.st
 |[],_,_,_,h=>by simp[pj]at h
 |_::_,[],_,_,h=>by simp[pj]at h
 |i::l,s::m,0,z,h=>by simp[pj]at h;subst h;exact⟨rfl,rfl⟩
 |i::l,s::m,k+1,z,h=>by have:=tS l m k z (by simpa[pj]using h);simpa using this
def tT:∀(l:List Nat) (m:List (List dA)) (k:Nat),m.length=l.length->gH ((pj l m).take k)=(m.take k).flatten
 |[],[],k,_=>by simp[pj,gH]
 |[],_::_,_,h=>by simp at h
 |_::_,[],_,h=>by simp at h
 |i::l,s::m,0,_=>by simp[gH]
 |i::l,s::m,k+1,h=>by have:=tT l m k (by simpa using h);rw[QH,Wd,<-this];rfl
def mF(l m):gH (l++m)=gH l++gH m:=by simp[gH]
structure aaf(a:AG)(j:Nat)(y:BN):Prop where
 len:(gP a j y.aW).length<=y.aW
 pos:0<(gP a j y.aW).length
 fork:bZ a j y.aW<=a.ch.length
 at_:∀(k i:Nat),(gP a j y.aW)[k]?=some i->∃z,a.bl[i]?=some z/\0<i/\¬BV a.ch z.aW i/\z.aW=bZ a j y.aW+k/\z.bad=false
 par:∀(k i:Nat) (z:BN),(gP a j y.aW)[k+1]?=some i->a.bl[i]?=some z->(gP a j y.aW)[k]?=some z.par
 aac:∀(i:Nat) (z:BN),(gP a j y.aW)[0]?=some i->a.bl[i]?=some z->∃q,a.ch[bZ a j y.aW -1]?=some q/\q.ix=z.par
 last:(gP a j y.aW)[(gP a j y.aW).length -1]?=some j
def Qc{a j y}(h:AB a)(r:a.bl[j]?=some y)(t:y.bad=false)(w:¬BV a.ch y.aW j):aaf a j y:=by
 have⟨q,m,b⟩:=Qb h (y.aW+1) j y r (nN _);have g:gP a j y.aW=(upA a.bl a.ch (y.aW+1) j).reverse:=rfl;generalize upA a.bl a.ch (y.aW+1) j=u at b g;have hl:(gP a j y.aW).length=u.length:=by rw[g,zj]
 have hlen:=b.len;have v:bZ a j y.aW=m.aW+1:=by unfold bZ;rw[hl];omega
 have x:0<u.length:=by
  obtain e|e:=sP u.length;.have:u=[]:=nP e;subst this;have p:=b.at0;have e2:=b.hq;have e3:=b.inq;simp only[vP,mI,gQ]at p;subst p;rw[r]at e2;cases e2;exact absurd e3 w
  .exact e
 obtain⟨C,s,A⟩:∃z,a.ch[m.aW]?=some z/\z.ix=q:=by have:=b.inq;unfold BV at this;cases f:a.ch[m.aW]? with
  |none=>rw[f]at this;cases this
  |some z=>rw[f]at this;simp only[dY,gQ]at this;exact⟨z,rfl,this⟩
 have D:=(cB.1 s).1;have l:∀k i:Nat,(gP a j y.aW)[k]?=some i->k<u.length/\u[u.length -1 -k]?=some i:=λk i d=>by grind
 refine⟨O9,O9,O9,λk i d=>?_,λk i z d f=>?_,λi z d f=>?_,?_⟩;.have⟨h1,h2⟩:=l k i d;have⟨z,c,n,z3,z4,z5,o⟩:=b.at_ _ i h2;exact⟨z,c,n,z3,O9,o t⟩
 .have⟨h1,h2⟩:=l (k+1) i d;have⟨B,c,n,z3,z4,z5,o⟩:=b.at_ _ i h2;rw[f]at c;cases c;rw[g,GZ O9];rw[show u.length -1 -(k+1)+1=u.length -1 -k from by omega,mG O9]at z4;exact z4
 .have⟨h1,h2⟩:=l 0 i d;have⟨B,c,n,z3,z4,z5,o⟩:=b.at_ _ i h2;rw[f]at c;cases c;rw[show u.length -1 -0+1=u.length from by omega,dU L9,sO]at z4;simp only[mI,gQ]at z4;exact⟨C,by rw[v];exact s,A.trans z4⟩
 .have e:=b.at0;rw[mG x]at e;rw[hl,g,GZ O9,show u.length -1 -(u.length -1)=0 from by omega];exact e
def uO{α:Type}{l m:List α}{f}(a:f<=l.length){i x}(h:(l.take f++m)[i]?=some x):(i<f/\l[i]?=some x)\/(f<=i/\m[i -f]?=some x):=by grind
def AG.tU(a:AG)(j:Nat)(y:BN)(J:JR):AG:={a with ch:=a.ch.take (bZ a j y.aW)++pj (gP a j y.aW) J.ls,mem:=J.mem}
def AB.over{a j y c}(h:AB a)(W:aaf a j y)(hl:c.ls.length=(gP a j y.aW).length)(h1:fH (goes sL (gH (a.ch.take (bZ a j y.aW)))) c.ls.flatten)(h2:∀s∈c.ls,s.length<=200)(t:∀m,y8 (goes (goes sL (gH (a.ch.take (bZ a j y.aW)))) (c.ls.take m).flatten)):AB (a.tU j y c):=by
 have H:1<=bZ a j y.aW:=by unfold bZ;have:=W.len;omega
 have l:=W.fork;have r:∀(i:Nat) (z:DL),(a.tU j y c).ch[i]?=some z->(i<bZ a j y.aW/\a.ch[i]?=some z)\/(bZ a j y.aW<=i/\(gP a j y.aW)[i -bZ a j y.aW]?=some z.ix/\c.ls[i -bZ a j y.aW]?=some z.st):=λi z b=>by
  obtain q|⟨p,d⟩:=uO l b;.simp_all
  .have⟨D,E⟩:=tS _ _ _ _ d;exact .inr ⟨p,D,E⟩
 have n:∀(i:Nat) (z:DL),i<bZ a j y.aW->a.ch[i]?=some z->(a.tU j y c).ch[i]?=some z:=λi z hi b=>by show(a.ch.take (bZ a j y.aW)++_)[i]?=some z;rw[mG (by rw[iU];omega),acZ hi];exact b
 have B:∀(k i:Nat),(gP a j y.aW)[k]?=some i->∃z,(a.tU j y c).ch[bZ a j y.aW+k]?=some z/\z.ix=i:=λk i f=>by have w:=(cB.1 f).1;have e:=bO (show k<(pj (gP a j y.aW) c.ls).length by rw[wU _ _ hl];exact w);have q:=(tS _ _ _ _ e).1;rw[f]at q;refine⟨_,?_,(jX q).symm⟩;show(a.ch.take (bZ a j y.aW)++_)[bZ a j y.aW+k]?=some _;rw[dU (by rw[iU];omega),iU,sX l,show bZ a j y.aW+k -bZ a j y.aW=k from by omega];exact e
 have A:fH sL (gH (a.ch.take (bZ a j y.aW))):=by have:=h.path;rw[<-zk (bZ a j y.aW) a.ch,mF]at this;exact this.left.1
 have C:gH (pj (gP a j y.aW) c.ls)=c.ls.flatten:=by have:=tT (gP a j y.aW) c.ls (pj (gP a j y.aW) c.ls).length hl;rw[iB,wU _ _ hl,<-hl,iB]at this;exact this
 refine⟨h.first,h.par,?_,λk z b=>?_,λk z x b o=>?_,?_,λz b=>?_,λg=>?_,h.ids,h.ll⟩;.have⟨z,b,e⟩:=h.ch0;exact⟨z,n 0 z O9 b,e⟩
 .obtain⟨_,q⟩|⟨p,d,_⟩:=r k z b;.exact h.ch k z q
  .have⟨x,F,I,J,K,G⟩:=W.at_ _ _ d;exact⟨x,F,O9,G⟩
 .rcases r (k+1) z b with⟨q0,q⟩|⟨p,d,_⟩;.have⟨v,v1,v2⟩:=h.link k z x q o;exact⟨v,n k v O9 v1,v2⟩
  .by_cases e:k+1=bZ a j y.aW;.rw[show k+1 -bZ a j y.aW=0 from by omega]at d;have⟨v,v1,v2⟩:=W.aac _ x d o;exact⟨v,n k v O9 (by rw[show k=bZ a j y.aW -1 from by omega];exact v1),v2⟩
   .rw[show k+1 -bZ a j y.aW=(k -bZ a j y.aW)+1 from by omega]at d;have⟨v,v1,v2⟩:=B _ _ (W.par _ _ x d o);exact⟨v,by rw[show k=bZ a j y.aW+(k -bZ a j y.aW)from by omega];exact v1,v2⟩
 .show fH sL (gH (a.ch.take _++pj _ _));rw[mF,C];exact A.append h1
 .obtain b|b:=nC.1 b;.exact h.len z (QM b)
  .have⟨k,f⟩:=pz.1 b;exact h2 _ (cQ (tS _ _ _ _ f).2)
 .show y8 (goes sL (gH ((a.ch.take _++pj _ _).take g)));rw[List.take_append,mF,gG,VN,iU,sX l,tT _ _ _ hl];by_cases u:g<=bZ a j y.aW;.rw[show g -bZ a j y.aW=0 from by omega,sX u];exact h.CS g
  .rw[Nat.min_eq_right O9];exact t _
def IC{w nb j k c s L a}{y:BN}{W:List WB}(_h:gV w nb k c s L a)(b:∀x∈W,x.Ok s.l)(d:W.map WB.m=(gP a j y.aW).map (mA a.bl)):∀x∈(gP a j y.aW).map (mA a.bl),x.1<9223372036854775808/\x.2.length<=8/\∀t∈x.2,t.id.size<=1000000/\(∀i∈t.ins,i.Small)/\t.ins.length<=8/\t.outs.length<=8/\∀o∈t.outs,o.Small:=by rw[<-d];intro v g;obtain⟨x,h,rfl⟩:=gS.1 g;have o:=b x h;refine⟨o.hh,by show(x.Q.map ru.t).length<=8;rw[fC];exact o.q8,λt f=>?_⟩;obtain⟨n,e,rfl⟩:=gS.1 f;have:=o.q n e;exact⟨this.id,this.si,this.li,this.lo,this.so⟩
def aeM{w w' nb j J I c s L f a y r}{W:List WB}{T}(h:gV w nb oD c s L a)(C:a.bl[j]?=some y)(aa:y.bad=false)(bh:¬BV a.ch y.aW j)(S:s.l[j]?=some r)(a6:∀x∈W,x.Ok s.l)(a2:W.map WB.m=(gP a j y.aW).map (mA a.bl))(Y:∀(k:Nat) (i:Nat) (x:WB),(gP a j y.aW)[k]?=some i->W[k]?=some x->s.l[i]?=some x.b)(π:W.length=(gP a j y.aW).length)(a8:(dJ c a j y.aW).e=0)(av:aQ w' s.gs s.n s.sb s.mb (dJ c a j y.aW).K)
 (hN:oI w' nb s.B c.me.toNat (((s.cs oD c).set 15 T).set 12 (.slice (some ⟨J,0,none⟩) (bZ a j y.aW -1+W.length+1) I)) s.bv T J (bZ a j y.aW -1+W.length) I s.l (eK (L.take (bZ a j y.aW)++f)) (dJ c a j y.aW).mem)
 (bf:f.map eJ.st=(dJ c a j y.aW).ls)(N:f.map eJ.a=W.map (λx=>x.b.a))(a7:∀x∈f,x.At w')(tk:Tk a.lo Y1 s.n s.mb w w')(o:dI w w'):
 gV w' nb oD c {s with gc:=J,kc:=bZ a j y.aW -1+W.length,cc:=I,mv:=T,L:=eK (L.take (bZ a j y.aW)++f),p:=r} (L.take (bZ a j y.aW)++f) (a.tU j y (dJ c a j y.aW)):=by
 have t:=Qc h.wf C aa bh;have af:=IC (y:=y) h a6 a2;have⟨μ,V,br,bu,ai⟩:=yU c.me.toNat c.su _ a.mem _ (IB _) (h.wf.CS (bZ a j y.aW)) af;have⟨aj,ak,ao⟩:=yX c.me.toNat c.su _ a.mem _ (IB _) (h.wf.CS (bZ a j y.aW)) h.base.mem af;change (dJ c a j y.aW).K=goes _ (dJ c a j y.aW).st at μ;change fH _ (dJ c a j y.aW).st at V;change (dJ c a j y.aW).e=0->(dJ c a j y.aW).st=(dJ c a j y.aW).ls.flatten/\(dJ c a j y.aW).ls.length=_ at ai;change ∀s∈(dJ c a j y.aW).ls,_ at aj;change ∀m,y8 (goes _ ((dJ c a j y.aW).ls.take m).flatten)at ak;change (dJ c a j y.aW).mem.length<=_ at ao;have⟨ar,e2⟩:=ai a8;rw[fC]at e2;rw[ar]at μ V;generalize dJ c a j y.aW=d at*;have R:=h.wf.over t e2 V aj ak;have ba:1<=bZ a j y.aW:=by unfold bZ;have:=t.len;omega
 have g:=t.fork;have ah:=wU (gP a j y.aW) d.ls e2;have M:(a.tU j y d).ch.length=bZ a j y.aW+W.length:=by show(a.ch.take _++pj _ _).length=_;rw[bW,iU,sX g,ah,π]
 have bp:=t.pos;have X:f.length=W.length:=by have:=congrArg List.length N;simpa using this
 have bq:=(cB.1 C).1;have D:=h.tie j r y S C;have bc:bZ a j y.aW -1+W.length=y.aW:=by unfold bZ at ba|-;have:=t.len;omega
 have P:gU (a.tU j y d)=y:=by
  unfold gU;have ab:(pj (gP a j y.aW) d.ls)[(gP a j y.aW).length -1]?=some _:=bO O9;have ag:=(tS _ _ _ _ ab).1;rw[t.last]at ag;have e3:(a.tU j y d).ch[(a.tU j y d).ch.length -1]?=(pj (gP a j y.aW) d.ls)[(gP a j y.aW).length -1]?:=by rw[M];show(a.ch.take _++pj _ _)[_]?=_;rw[dU (by rw[iU,sX g];omega),iU,sX g];congr 1;omega
  rw[e3,ab,vQ,<-jX ag];show(a.bl[j]?).getD _=y;rw[C];rfl
 have ay:(a.tU j y d).K=d.K:=by show goes sL (gH (a.ch.take _++pj _ _))=_;have:=tT (gP a j y.aW) d.ls (pj (gP a j y.aW) d.ls).length e2;rw[iB,ah,<-e2,iB]at this;rw[mF,gG,this,μ]
 have hle:=h.wf.hle j y C;have A:=h.base;have az:∀gt Q,mM w gt Q->mM w' gt Q:=λ_ _ q=>q.tk tk (oU D9 D9 D9 D9 D9) (oU D9 D9 D9 D9 D9) (oU D9 D9 D9 D9 D9);have bd:=R.chl;refine⟨⟨hN,by show aQ w' s.gs s.n s.sb s.mb (a.tU j y d).K;rw[ay];exact av,A.idn,cQ S,D.bad.trans aa,?_,?_,yT _,A.ids,?_,?_,?_,A.len,?_,?_,?_,ao,A.cok,A.low⟩,rfl,R,h.ll,λi x v F E=>(h.tie i x v F E).move az (λk p bj=>⟨p,bj,rfl⟩) (cQ F),h.nda,?_,λi x v F E=>?_⟩;.show r.aW=((bZ a j y.aW -1+W.length:Nat):Int);rw[D.aW,bc]
 .show(eK (L.take (bZ a j y.aW)++f))[(bZ a j y.aW -1+W.length)*2]?=some (.pointer r.a);have e:=bO (show W.length -1<f.length by omega);have z:=bO (show W.length -1<W.length by omega);have O:(f.map eJ.a)[W.length -1]?=(W.map (λx=>x.b.a))[W.length -1]?:=by rw[N]
  rw[cW,cW,e,z]at O;simp only[dY,gQ]at O;have ae:=Y (W.length -1) j _ (by rw[π];exact t.last) z;rw[S]at ae;have bb:(L.take (bZ a j y.aW)++f)[bZ a j y.aW -1+W.length]?=some f[W.length -1]:=by rw[dU (by rw[iU,h.cl];omega),iU,h.cl,sX g,show bZ a j y.aW -1+W.length -bZ a j y.aW=W.length -1 from by omega];exact e
  rw[(uN _ _ _ bb).1,O,<-jX ae]
 .show r.id=(gU _).id;rw[P];exact D.id
 .show bZ a j y.aW -1+W.length=(a.tU j y d).ch.length -1;rw[M];omega
 .show r.wo=(gU _).wo;rw[P];exact D.wo
 .show(a.tU j y d).ch.length -1+1<=(a.bl.map BN.id).length;rw[fC];have:(a.tU j y d).ch.length<=a.bl.length:=bd;omega
 .show 0<=(gU _).wo/\(gU _).wo<=256*((a.bl.map BN.id).length:Int);rw[P,fC];omega
 .show y8 (a.tU j y d).K;have:=R.CS (a.tU j y d).ch.length;rw[iB]at this;exact this
 .rw[M,bW,iU,h.cl,sX g,X]
 .rcases uO (by rw[h.cl];exact g) F with⟨bk,u⟩|⟨bk,u⟩
  .obtain⟨_,v2⟩|⟨v1,_⟩:=uO g E;.have⟨h1,h2,au⟩:=h.lnk i x v u v2;exact⟨h1,h2.old o,au⟩
   .omega
  .obtain⟨v1,_⟩|⟨_,v2⟩:=uO g E;.omega
   .have⟨bm,bo⟩:=tS _ _ _ _ v2;have bg:i -bZ a j y.aW<W.length:=by rw[<-X];exact(cB.1 u).1
    have z:=bO bg;have G:(f.map eJ.st)[i -bZ a j y.aW]?=d.ls[i -bZ a j y.aW]?:=by rw[bf]
    rw[cW,u,bo]at G;have H:(f.map eJ.a)[i -bZ a j y.aW]?=(W.map (λx=>x.b.a))[i -bZ a j y.aW]?:=by rw[N]
    rw[cW,cW,u,z]at H;simp only[dY,gQ]at G H;exact⟨G,a7 x (cQ u),_,Y _ _ _ bm z,H.symm⟩
def AB.clean{a}(h:AB a){i z}(hi:a.bl[i]?=some z)(m:¬BV a.ch z.aW i):∀(k:Nat) (v:DL),a.ch[k]?=some v->(GI a.bl i).getD v.ix false=false:=by
 have j:∀(k:Nat) (v:DL),a.ch[k]?=some v->v.ix≠i:=λk v b e=>by have⟨x,c,d,_⟩:=h.ch k v b;rw[e,hi]at c;cases c;exact m (by unfold BV;rw[d,b,<-e];rfl)
 intro k;induction k with
 |zero=>intro v b;have⟨v0,l,g⟩:=h.ch0;rw[b]at l;cases l;have⟨x,c,d,f⟩:=h.ch 0 v b;rw[BW c (λh0=>(h.par _ x c h0).1),f,g];have:=j 0 v b;rw[g]at this;simp[this]
 |succ k n=>intro v b;have⟨x,c,d,f⟩:=h.ch (k+1) v b;have⟨q,o,p⟩:=h.link k v x b c;rw[BW c (λh0=>(h.par _ x c h0).1),f,<-p,n q o];simp[j (k+1) v b]
def get_map{α β:Type}{f}{l:List α}{i}{y:β}(h:(l.mapIdx f)[i]?=some y):∃x,l[i]?=some x/\f i x=y:=by simp_all
def lT{α β:Type}{f:Nat->α->β}{l:List α}{i x}(h:l[i]?=some x):(l.mapIdx f)[i]?=some (f i x):=by simp_all
def af2{a}(h:AB a){i j x}(c:a.bl[i]?=some x)(b:(GI a.bl j).getD i false=false):x.bad=false:=by rw[BW c (λh0=>(h.par _ x c h0).1)]at b;simp at b;exact b.1.1
def AG.spoilt(a:AG)(i:Nat)(m:List cF):AG:={a with bl:=iJ a.bl i,mem:=m}
def AB.af3{a}(h:AB a){i z}(hi:a.bl[i]?=some z)(n:¬BV a.ch z.aW i)(m):AB (a.spoilt i m):=by
 have j:=h.clean hi n;refine⟨?_,λk x d h0=>?_,h.ch0,λk v c=>?_,λk v x c d=>?_,h.path,h.len,h.CS,?_,?_⟩;.have⟨x,f,g,l,w⟩:=h.first;have⟨v,v1,v2⟩:=h.ch0;have:=j 0 v v1;rw[v2]at this;exact⟨_,lT f,g,l,this⟩
 .obtain⟨b,h1,rfl⟩:=get_map d;have⟨o,p,q,r,s,t,u⟩:=h.par k b h1 h0;refine⟨o,_,lT q,r,s,t,λe=>?_⟩;show(GI a.bl i).getD k false=true;have e2:(GI a.bl i).getD b.par false=true:=e;rw[BW h1 (λh0=>(h.par _ b h1 h0).1),e2];simp[h0]
 .have⟨x,f,g,l⟩:=h.ch k v c;exact⟨_,lT f,g,j k v c⟩
 .obtain⟨b,h1,rfl⟩:=get_map d;exact h.link k v b c h1
 .show((iJ a.bl i).map BN.id).Nodup;have e:(iJ a.bl i).map BN.id=a.bl.map BN.id:=by apply kI;intro k;rw[cW,cW];unfold iJ;rw[pX];cases a.bl[k]?<;>rfl
  rw[e];exact h.ids
 .show(iJ a.bl i).length<=49;unfold iJ;rw[Wc];exact h.ll
def rh(bl i):(iJ bl i).map BN.id=bl.map BN.id:=by apply kI;intro k;rw[cW,cW];unfold iJ;rw[pX];cases bl[k]?<;>rfl
def BN.DN{x:BN}(h:x.bad=false):x.mark false=x:=by cases x;simp only at h;subst h;rfl
def aag:=@BN.DN
def kF.DN{x:kF}(h:x.bad=false):x.mark false=x:=by cases x;simp only at h;subst h;rfl
def af4{w w' nb i c s L a z M G}(h:gV w nb oD c s L a)(hi:a.bl[i]?=some z)(O:¬BV a.ch z.aW i)(μ:M.length<=c.me.toNat)(T:aQ w' s.gs s.n s.sb s.mb a.K)(hN:oI w' nb s.B c.me.toNat ((s.cs oD c).set 15 G) s.bv G s.gc s.kc s.cc (s.l.mapIdx λk y=>y.mark ((GI a.bl i).getD k false)) s.L M)(tk:Tk a.lo Y1 s.n s.mb w w')(o:dI w w'):
 gV w' nb oD c {s with mv:=G,l:=s.l.mapIdx λk y=>y.mark ((GI a.bl i).getD k false)} L (a.spoilt i M):=by
 have J:=h.wf.clean hi O;have ab:=h.wf.af3 hi O M;have d:=h.base;have V:∀gt Q,mM w gt Q->mM w' gt Q:=λ_ _ q=>q.tk tk (oU D9 D9 D9 D9 D9) (oU D9 D9 D9 D9 D9) (oU D9 D9 D9 D9 D9);have N:(s.l.mapIdx λk y=>y.mark ((GI a.bl i).getD k false)).map kF.id=s.l.map kF.id:=by apply kI;intro k;rw[cW,cW,pX];cases s.l[k]?<;>rfl
 have I:(s.l.mapIdx λk y=>y.mark ((GI a.bl i).getD k false)).map kF.a=s.l.map kF.a:=by apply kI;intro k;rw[cW,cW,pX];cases s.l[k]?<;>rfl
 have⟨A,t1,t2,t3,t4,t5⟩:=h.wf.nM;have E:gU (a.spoilt i M)=gU a:=by
  have e:gU (a.spoilt i M)=(gU a).mark ((GI a.bl i).getD A.ix false):=by unfold gU;show((a.ch[a.ch.length -1]?).bind λy=>(iJ a.bl i)[y.ix]?).getD _=_;rw[t1,vQ];unfold iJ;rw[lT t2,vQ,t2];rfl
  rw[e,J _ A t1,aag t4]
 have aa:∀(k:Nat) (x:kF),s.l[k]?=some x->∃y,a.bl[k]?=some y:=λk x j=>⟨_,bO (by rw[<-h.ll];exact(cB.1 j).1)⟩;have π:s.p∈s.l.mapIdx λk y=>y.mark ((GI a.bl i).getD k false):=by
  have⟨k,D⟩:=pz.1 d.nM;have⟨v,r⟩:=aa k _ D;have g:=h.tie k _ v D r;have X:k=A.ix:=by
   have u:(a.bl.map BN.id)[k]?=some s.p.id:=by rw[cW,r,dY,g.id]
   have e2:(a.bl.map BN.id)[A.ix]?=some s.p.id:=by rw[cW,t2,dY];exact congrArg some d.tid.symm
   exact(V9 (cB.1 u).1 h.wf.ids).1 (u.trans e2.symm)
  have e:=lT (f:=λk y=>kF.mark y ((GI a.bl i).getD k false)) D;rw[X,J _ A t1,kF.DN d.jL]at e;exact cQ e
 have Y:(iJ a.bl i).length=a.bl.length:=by unfold iJ;rw[List.length_mapIdx]
 refine⟨⟨hN,T,by show(List.map kF.id _).Nodup;rw[N];exact d.idn,π,d.jL,d.ph,d.link,d.L1,?_,?_,d.kc,?_,?_,?_,?_,d.CS,μ,d.cok,d.low.1,d.low.2.1,λx j=>?_⟩,h.sl,ab,?_,λk x v j r=>?_,by show(List.map kF.a _).Nodup;rw[I];exact h.nda,h.cl,λk x v j r=>?_⟩;.show List.map kF.id _=(iJ a.bl i).map BN.id;rw[N,rh];exact d.ids
 .show s.p.id=(gU _).id;rw[E];exact d.tid
 .show s.p.wo=(gU _).wo;rw[E];exact d.wo
 .show((iJ a.bl i).map BN.id).length<=49;rw[rh];exact d.len
 .show a.ch.length -1+1<=((iJ a.bl i).map BN.id).length;rw[rh];exact d.kl
 .show 0<=(gU _).wo/\(gU _).wo<=256*(((iJ a.bl i).map BN.id).length:Int);rw[E,rh];exact d.wb
 .have:x.a∈s.l.map kF.a:=by rw[<-I];exact xO j
  have⟨ah,h1,h2⟩:=gS.1 this;rw[<-h2];exact d.low.2.2 ah h1
 .show(List.mapIdx _ s.l).length=(iJ a.bl i).length;rw[Wc,Y];exact h.ll
 .obtain⟨H,ae,rfl⟩:=get_map j;obtain⟨v0,P,rfl⟩:=get_map r;have g:=h.tie k H v0 ae P;refine⟨g.id,g.aW,g.wo,rfl,g.aac,λh0=>?_,λW h0=>?_⟩;.have⟨p,af,ag⟩:=g.par h0;exact⟨_,lT af,ag⟩
  .have C:(GI a.bl i).getD k false=false:=W;have F:=af2 h.wf P C;have⟨q,e,ok,t,m⟩:=g.cS F h0;have u:H.mark ((GI a.bl i).getD k false)=H:=by rw[C,kF.DN (g.bad.trans F)]
   have e2:v0.mark ((GI a.bl i).getD k false)=v0:=by rw[C,aag F]
   refine⟨q,e.trans u.symm,⟨ok.tv,ok.q,ok.q0,ok.q8,ok.qc,?_,ok.hh⟩,V _ _ t,by rw[e2];exact m⟩;rw[e,<-u];exact cQ j
 .have⟨h1,h2,b,R,S⟩:=h.lnk k x v j r;exact⟨h1,h2.old o,_,lT R,S⟩
end
end Go.Proofs.aH
