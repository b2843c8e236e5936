import Derived.Test.YtpjcmpfncpnmeabGreatM20
set_option linter.all false
set_option maxHeartbeats 16000000
set_option maxRecDepth 100000
namespace Go.Proofs.aH
open Go.RowKit Go.Shelf Go.Seq Tryz
attribute [local go_sem↓] Go.wp_at_zero Go.wp_at_succ
section
attribute [local go_sem] Oper.semAt_some
variable{LB:Nat}
structure OvG(w W:World)(nb B most:Nat)(cs:List Value)(bv mv:Value)(gc kc cc:Nat)(l:List kL)(L:List eD)(mem:List bX)(gs n:Nat)(sb mb:Nat->Nat)(K:jQ)(Ws:List WB):Prop where
 r0:Row W w.heap.size 44 [.int .i64 0,.int .i64 0]
 tr:bN W (w.heap.size+1) gs n (.slice none 0 0) []
 rb:Row W (w.heap.size+1+1) 159 [.pointer (some ⟨w.heap.size+1,0,none⟩)]
 ra:Row W (w.heap.size+1+1+1) 4 [.bool false]
 nd:oK W nb B most cs bv mv gc kc cc l (eO L) mem
 aX:aQ W gs n sb mb K
 cI:∀x∈Ws,mO W x.gt x.Q
 below:Below w.heap.size w W
def OvG.keep{w W W' nb B c cs bv mv gc kc cc l L mem gs n sb mb K b}(h:OvG w W nb B c cs bv mv gc kc cc l L mem gs n sb mb K b)(a:Below W W W'):OvG w W' nb B c cs bv mv gc kc cc l L mem gs n sb mb K b:=⟨h.r0.keep a h.r0.lt,⟨h.tr.row.keep a h.tr.row.lt,aV h.tr.own a⟩,h.rb.keep a h.rb.lt,h.ra.keep a h.ra.lt,h.nd.keep a,h.aX.keep a,λx d=>(h.cI x d).keep a,h.below.trans (a.mono h.below.size)⟩
def OvG.new{w nb B c cs bv mv gc kc cc l L mem gs n sb mb K b}(hN:oK w nb B c cs bv mv gc kc cc l (eO L) mem)(d:aQ w gs n sb mb K)(e:∀x∈b,mO w x.gt x.Q):OvG w ((((w.alloc (.cells #[aA,aA] 44)).alloc (.cells #[.slice gs n n,()] 161)).alloc (.cells #[.pointer ((w:Nat)+1,0)] 159)).alloc (.cells #[aF] 4)) nb B c cs bv mv gc kc cc l L mem gs n sb mb K b:=by
 have a:Below w w ((((w.alloc (.cells #[aA,aA] 44)).alloc (.cells #[.slice gs n n,()] 161)).alloc (.cells #[.pointer ((w:Nat)+1,0)] 159)).alloc (.cells #[aF] 4)):=(((B0.alloc L9 _).alloc S8 _).alloc (by simp;omega) _).alloc (by simp;omega) _;refine⟨(((aW w [aA,aA] 44).alloc _).alloc _).alloc _,⟨?_,nI _ _ _ _⟩,?_,?_,hN.keep a,d.keep a,λx f=>(e x f).keep a,a⟩;.exact((AA (w:=w.alloc (.cells #[aA,aA] 44)) (cs:=[.slice gs n n,↑()]) S8).alloc _).alloc _
 .exact(AA (w:=(w.alloc (.cells #[aA,aA] 44)).alloc (.cells #[.slice (some ⟨gs,0,none⟩) n n,.slice none 0 0] 161)) (cs:=[.pointer (some ⟨w.heap.size+1,0,none⟩)]) S8).alloc _
 .exact AA (cs:=[↑aF]) S8
structure adR(LB:Nat)(w:World)(nb B most:Nat)(cs:List Value)(bv mv:Value)(gc kc cc:Nat)(l:List kL)(L:List eD)(mem:List bX)(gs n:Nat)(sb mb:Nat->Nat)(wk:Nat)(su:Int)(W:List WB)(pi:Nat->Option Nat)(bsF:Nat->List Bool)(b q:kL)(f:Nat):Prop where
 nd:oK w nb B most cs bv mv gc kc cc l (eO L) mem
 aX:aQ w gs n sb mb (goes qg (dS L))
 cI:∀x∈W,mO w x.gt x.Q
 ok:∀x∈W,x.Ok l
 sp:∀x∈W,∃j,l[j]?=some x.b/\acJ l j (bsF j) pi
 c6:cs[6]?=some (.int .i64 wk)
 c9:cs[9]?=some (.int .i64 su)
 c13:cs[13]?=some (.slice (some ⟨gs,0,none⟩) n n)
 wk:0<wk/\wk<=8
 su:0<=su/\su<=1000000
 ml:mem.length<=most
 ms:most<=64
 path:fD qg (dS L)
 fl:(dS L).length<=10000
 Du:BS (goes qg (dS (L.take f)))
 pts:∀p c,goes qg (dS (L.take f)) p=some c->c.pt=p
 Ll:L.length=kc+1
 at_:∀x∈L,x.At w
 la:∀x∈L,∃y∈l,y.a=x.a
 hr:∀x∈l,0<=x.aU
 w0:0<W.length
 wl:W.length<=50
 ll:l.length<=1000
 kl:kc<=100
 u0:((W.map WB.b).reverse++[q])[0]?=some b
 us:∀k x,(W.map WB.b).reverse[k]?=some x->x∈l/\∃y,((W.map WB.b).reverse++[q])[k+1]?=some y/\x.par=some y.a
 uc:∀x∈(W.map WB.b).reverse,(L.map eD.a)[x.aU.toNat]?≠some x.a
 ql:q∈l
 qc:(L.map eD.a)[q.aU.toNat]?=some q.a
 f0:∃x,W[0]?=some x/\x.b.aU=(f:Int)
 f1:1<=f
 fk:f<=kc+1
 ln:LB<=nb/\LB<=B
 lb:∀x∈l,LB<=x.a
def dO.ck{a w w'}(x:Ck LB a w w')(h:¬a 195):dO w w':=λk cs f b=>x.cells k cs _ f b (.inr h)
def C7:=@dO.ck
def vQ.old{w w' g l}(h:vQ w g l)(o:dO w w'):vQ w' g l:=by have⟨cs,f,a⟩:=h.ty;have:=o g cs f a;exact⟨⟨cs,f,this⟩,λi s hi=>(h.at_ i s hi).same (this.trans a.symm)⟩
def ApartL.at_{w w' B v L}(h:ApartL w B v L)(o:dO w w'):∀x∈L,x.At w':=λx c=>by
 obtain e|⟨g,a,_,_,b⟩:=h x c;.exact .inl e
 .exact .inr ⟨g,a,b.old o⟩
def aax(l:List eD)(i:Nat):eD:=(l[i]?).getD ⟨0,[],none,0⟩
def SM{l i x}(h:l[i]?=some x):aax l i=x:=by unfold aax;rw[h];rfl
def acO{nb B E gc kc cc gs n wk f cs bv mv l L mem sb mb su W fp dk b q}(w)(H:adR LB w nb B E cs bv mv gc kc cc l L mem gs n sb mb wk su W fp dk b q f):Cv 35 #[ptr nb,ptr b.a] w λe w'=>Tk LB Y1 n mb w w'/\dO w w'/\∃av,(((bH E su (W.map WB.m) mem (goes qg (dS (L.take f)))).e=0/\e=.returned (.tuple #[.agg #[((kc+1 -f:Nat):Int),(W.length:Int)],aA])/\aQ w' gs n sb mb (bH E su (W.map WB.m) mem (goes qg (dS (L.take f)))).K/\∃ew eo ak,oK w' nb B E ((cs.set 15 av).set 12 (.slice (some ⟨ew,0,none⟩) (f -1+W.length+1) eo)) bv av ew (f -1+W.length) eo l (eO (L.take f++ak)) (bH E su (W.map WB.m) mem (goes qg (dS (L.take f)))).mem/\ak.map eD.st=(bH E su (W.map WB.m) mem (goes qg (dS (L.take f)))).ls/\ak.map eD.a=W.map (λx=>x.b.a)/\∀x∈ak,x.At w')\/((bH E su (W.map WB.m) mem (goes qg (dS (L.take f)))).e≠0/\e=.returned (.tuple #[.agg #[aA,aA],.int .i64 (bH E su (W.map WB.m) mem (goes qg (dS (L.take f)))).e])/\aQ w' gs n sb mb (goes qg (dS L))/\∃x j,W[(bH E su (W.map WB.m) mem (goes qg (dS (L.take f)))).at_]?=some x/\l[j]?=some x.b/\oK w' nb B E (cs.set 15 av) bv av gc kc cc (l.mapIdx λi y=>y.mark ((dk j).getD i false)) (eO L) (bH E su (W.map WB.m) mem (goes qg (dS (L.take f)))).mem)):=by
 have ha:w.cell? (nb,13)=some (.slice gs n n):=by rw[H.nd.mem.row.cell];exact H.c13
 have iw:=H.nd.mem.row.lt;have au:∀i,i<n->mb i<(w:Nat):=λi hi=>(H.aX.mp i hi).lt;have p:=OvG.new H.nd H.aX H.cI;have b8:(W.map WB.b).reverse.length=W.length:=by simp
 have ih:=H.fk;have ie:=H.f1;have ij:=H.kl;have d:=aN H;clear H;replace au:=aN au;replace b8:=aN b8;unfold ptr;refine CL (fA func35) rfl ?_;simp only[ntmps35,oM,fR,kE,Nat.reduceAdd,Nat.reduceSub,Q4,Q5,Q6,KM,vJ,DZ];go_wp2;generalize(((w.alloc (.cells #[aA,aA] 44)).alloc (.cells #[.slice gs n n,()] 161)).alloc (.cells #[.pointer (some ⟨(w:Nat)+1,0,none⟩)] 159)).alloc (.cells #[aF] 4)=X at p|-;clear ha;have di:X.cell? (nb,12)=some (.slice gc (kc+1) cc):=by rw[p.nd.mem.row.cell];exact p.nd.Ig
 have bf:∀G,OvG w G nb B E cs bv mv gc kc cc l L mem gs n sb mb (goes qg (dS L)) W->∀i x,L[i]?=some x->G.cell? (gc,i*2)=some (.pointer x.a)/\G.cell? (gc,i*2+1)=some (.slice x.sa x.st.length x.sc):=λG h i x z=>by obtain⟨bz,ao⟩:=qW L i x z;have q0:=h.nd.chain.cells (g:=gc) rfl _ _ bz;have bj:=h.nd.chain.cells (g:=gc) rfl _ _ ao;rw[add0]at q0 bj;exact⟨q0,bj⟩
 have ea:=Vr nb gc (kc+1) cc l (L.map eD.a) b q (W.map WB.b).reverse X di (by rw[eY];exact d.out.Ll) O9 (λi a hi=>by rw[cL]at hi;cases z:L[i]? with
    |none=>rw[z]at hi;cases hi
    |some x=>rw[z]at hi;simp only[dM,gA]at hi;subst hi;exact⟨(bf X p i x z).1,d.out.la x (cS z)⟩)
  (λx z=>⟨p.nd.qf.row x z,d.out.hr x z⟩) d.out.u0 d.out.us d.out.uc d.out.ql d.out.qc (by rw[b8.out];exact d.out.w0) (by rw[b8.out];have:=d.out.wl;omega)
 rw[b8.out]at ea;refine ea.mono ?_;rintro e w1 ⟨g,wc,rfl,μ,e6⟩;rw[List.reverse_reverse]at μ;replace p:=p.keep e6;obtain⟨ai,cz,fh⟩:=d.out.f0;have fi:=d.out.ok ai (cS cz);have bz:w1.cell? (g,0)=some (.pointer ai.b.a):=by have:=μ.cells (g:=g) rfl 0 (Vq ai.b) (by rw[pG,cL,cz];rfl);rwa [add0]at this
 have b2:w1.cell? (ai.b.a,2)=some ↑(f:Int):=by rw[<-fh];exact(p.nd.qf.row ai.b fi.mem).cell 2
 replace di:w1.cell? (nb,12)=some (.slice gc (kc+1) cc):=by rw[p.nd.mem.row.cell];exact p.nd.Ig
 have ib:kc+1<=cc:=by
  obtain⟨h0,_⟩|⟨g',cap,cur,dz,_,_,ae,_⟩:=p.nd.chain.2;.cases h0
  .cases dz;exact ae
 have gp:=d.out.w0;have g8:(0:Int)<(W.length:Int):=O9;have i0:(0:Int)<=(f:Int):=O9;have g5:(f:Int)<=((kc+1:Nat):Int):=O9;have g6:(f:Int)<=(cc:Int):=O9;have g7:((kc+1:Nat):Int)<=(cc:Int):=O9;replace bf:=aN bf;replace cz:=aN cz;clear ea e6 fh fi;go_wp2;go_quiet (fail);have e8:Below w1 w1 (w1.drewN nq):=ng B0;replace p:=p.keep e8;replace μ:(w1.drewN nq).ownsRow ↑X 114 1 (.slice g W.length wc) W.length ((W.map WB.b).map Vq):=μ;clear e8 b2 di i0 g5 g6 g7 bz g8;generalize w1.drewN nq=G at p μ|-;obtain⟨N,cw⟩:∃N,kc+1 -f=N:=⟨_,rfl⟩;have ig:f+N=kc+1:=O9;have GX:∃la,(if cc=f then some (⟨gc,0,none⟩:Addr)else some ⟨gc,f*2,none⟩)=la/\(N=0\/la=some ⟨gc,f*2,none⟩):=by
  refine⟨_,rfl,?_⟩;by_cases e:N=0;.exact .inl e
  .exact .inr (aS O9)
 obtain⟨la,fa,GX⟩:=GX;rw[fa,cw];clear fa;generalize cc -f=Y;replace cw:=aN cw;replace GX:=aN GX;go_wp2;refine(GR la N Y G).mono ?_;rintro e w2 ⟨rfl,rfl⟩;have du:Below G G (G.alloc (.cells #[.slice la N Y] 99)):=B0.alloc L9 _;have gn:=p.ra.lt;have bu:=aW G [.slice la N Y] 99;replace p:=p.keep du;replace μ:=aV μ du;have gq:(w:Nat)+1<(G:Nat):=by have:=gn;omega
 generalize gu:(G:Nat)=bq at bu gq|-;generalize G.alloc (.cells #[.slice la N Y] 99)=P at p bu μ|-;clear du gu;have dx:∀i,i<n->mb i<(P:Nat):=λi hi=>by have:=au.out i hi;have:=p.below.size;omega
 have fc:=p.aX.maps;have b7:∃Rd,Mb Fence.wide 2 Vp 97 #[.pointer bq] (Gg N (aax (L.drop f))) N Rd/\∀k W',Qr P ((w:Nat)+1) gs n sb mb L k W'->Rd W':=by
  have ic:=bf.out P p;have ff:∀k W',Qr P ((w:Nat)+1) gs n sb mb L k W'->W'.cell? (bq,0)=some (.slice la N Y):=λk W' h=>(bu.xo h.x (λe=>by
   obtain e|e:=e;.exact p.aX.mI bu e
   .omega) (.inr (by unfold wR;decide))).cell 0
  obtain rfl|rfl:=GX.out;.exact⟨_,Qi bq Y la _,ff⟩
  .refine⟨_,Vl bq gc (f*2) N Y (aax (L.drop f)) O9,λk W' h=>⟨ff k W' h,λi hi=>?_⟩⟩;have z:=bR (show f+i<L.length by rw[d.out.Ll];omega);generalize L[f+i]'(by rw[d.out.Ll];omega)=x at z;rw[SM (x:=x) (by rw[VY];exact z)];obtain⟨bz,ao⟩:=qW L (f+i) x z;have e9:=ZP p.nd.chain h.x (λk cs ae _=>by
    rintro(e|e);.exact p.aX.tQ ae e
    .subst e;have a8:=p.tr.row;unfold Row at a8;rw[a8]at ae;cases ae) (by unfold wR;decide)
   have q0:=e9.cells (g:=gc) rfl _ _ bz;have bj:=e9.cells (g:=gc) rfl _ _ ao;rw[add0]at q0 bj;rw[show(f+i)*2=f*2+i*2 from by omega]at q0 bj;exact⟨q0,bj⟩
 obtain⟨Rd,b7,dq⟩:=b7;have b4:Qr P ((w:Nat)+1) gs n sb mb L 0 P:=by refine⟨by rw[Q7,iR];exact p.aX,⟨_,by rw[Q7,Wv];exact p.tr⟩,iT _ _⟩
 replace b4:=aN b4;go_wp2;refine Mc (gf:=97) (lb:=#[.pointer bq]) rfl (enters_of (fA func97) K8 rfl) b7 (λk=>rfl) (Qr P ((w:Nat)+1) gs n sb mb L) (Qr.own dx) dq b4.out (λk a' W'=>∃a6 x,L[f+(N -1 -k)]?=some x/\Row W' a6 123 x.cells/\a'={tmps:=#[.pointer nb,.pointer b.a,undef,undef,.pointer w.heap.size,↑aA,.pointer ((w:Nat)+1+1,0),.pointer ((w:Nat)+1+1+1,0),.slice g W.length wc,↑(f:Int),.slice gc f cc,.slice la N Y,undef,.pointer (some ⟨a6,0,none⟩),undef,undef,.pointer nb,.pointer nb,.pointer (nb,13),.agg #[.slice gs n n],.agg #[.slice gs n n,()],.pointer ((w:Nat)+1,0),.func (.func 69) #[] #[.pointer ((w:Nat)+1+1+1,0),.pointer ((w:Nat)+1+1,0)],.pointer nb,.pointer b.a,.slice g W.length wc,.slice g W.length wc,.pointer g,.pointer ai.b.a,.pointer ai.b.a,.pointer (ai.b.a,2),↑(f:Int),.pointer nb,.pointer nb,.pointer (nb,12),.slice gc (kc+1) cc,↑(f:Int),.slice gc f cc,.pointer nb,.pointer nb,.pointer (nb,12),.slice gc (kc+1) cc,↑(f:Int),.slice la N Y,.slice la N Y,.func (.func 97) #[] #[.pointer bq],↑((N -1 -k:Nat):Int),.agg #[.pointer x.a,.slice x.sa x.st.length x.sc],undef,undef,undef,undef,undef,undef,undef,undef,undef,undef,undef,undef,undef,undef,undef,undef,undef,undef,undef,undef,undef,undef,undef,undef,undef,undef,undef],defers:=[]}) ?assign ?ax ?body ?done
 case ax=>rintro k a' W' da o o' ⟨a6,x,h1,h2,a8⟩ ik gy gz;exact⟨a6,x,h1,lU (grownBy_putObj' W' da o') (λr e=>by cases e;exact⟨o,gy,gz⟩) _ _ _ _ h2,a8⟩
 case assign=>
  intro da k W' h5 C I ez;have z:=bR (show f+(N -1 -k)<L.length by rw[d.out.Ll];omega);generalize L[f+(N -1 -k)]'(by rw[d.out.Ll];omega)=x at z;have ep:Gg N (aax (L.drop f)) k=#[↑((N -1 -k:Nat):Int),x.v]:=by unfold Gg;rw[SM (x:=x) (by rw[VY];exact z)]
  rw[ep];have gk:=λa' W' h1 h2 a8=>ez a' W' h1 h2 a8;clear ez;unfold eD.v;gi_wp2;exact gk _ _ ((KeepsOthers.alloc _ _).from _) (I.grown dx _) ⟨(W':Nat),x,z,aW W' x.cells _,rfl⟩
 case body=>
  rintro da k a' W' C I ⟨a6,x,z,R,rfl⟩;have fg:Row W' ((w:Nat)+1+1) 159 [.pointer ((w:Nat)+1,0)]:=p.rb.xo I.x (λe=>by
   obtain e|e:=e;.exact p.aX.mI p.rb e
   .omega) (.inr (by unfold wR;decide))
  have h6:=fg.r 0;have c1:=R.r 1;obtain⟨iz,e5⟩:=I.iU;have fe:=e5.row;have gv:Hid (Cv 70 #[.pointer ((w:Nat)+1,0),.slice x.sa x.st.length x.sc] W' λe w'=>∃fu,e=.returned fu/\KeepsFrom ↑P W' w'/\Qr P ((w:Nat)+1) gs n sb mb L (k+1) w'):=by
   refine(I.call (i:=f+(N -1 -k)) (x:=x) fc z (by rw[d.out.Ll];omega) d.out.path (by have:=d.out.fl;omega) ?_).mono ?_
   .rcases d.out.at_ x (cS z)with e|⟨ao,e,e0⟩;.exact .inl e
    .obtain⟨c,S,ae⟩:=e0.ty;have:=bG ae;refine .inr ⟨ao,e,O9,⟨c,S,(p.below.block ao this).trans ae⟩,λi s hi=>(e0.at_ i s hi).same (p.below.block ao this)⟩
   .rintro e w' ⟨rfl,h1,h2⟩;exact⟨_,rfl,Z7.mem (gs:=gs) (sb:=sb) (K:=qg) dx h2 ⟨_,fe⟩,h1⟩
  clear I e5 fe fg R p b7 dq b4;gi_wp2;refine⟨trivial,(CallsIn.inRound da (callsIn_wide.2 gv.out)).mono ?_⟩;rintro e w2 ⟨fu,rfl,h1,h2⟩;gi_wp2;exact⟨h1,h2⟩
 case done=>
  rintro D V h8 I cv;have e3:L.length -N=f:=by rw[d.out.Ll];omega
  have cm:=I.aX;obtain⟨i2,bc⟩:=I.iU;rw[e3]at cm bc;have ey:(w:Nat)<=D:=by have h1:=p.below.size;omega
  have az:Tk LB Yt n mb P V:=SH I.x p.aX p.tr (by have:=d.out.ln.1;omega);have F:∀t,t≠161->t≠195->¬Yt t:=λt h1 h2 h=>by obtain h|h:=h;exact h1 h;exact h2 h
  have r0:=p.r0.tk az (F _ D9 D9);have rb:=p.rb.tk az (F _ D9 D9);have ra:=p.ra.tk az (F _ D9 D9);have cd:=p.nd.ck az.ck (F _ D9 D9) (F _ D9 D9) (F _ D9 D9) (F _ D9 D9) (F _ D9 D9);have ej:∀x∈W,mO V x.gt x.Q:=λx z=>(p.cI x z).tk az (F _ D9 D9) (F _ D9 D9) (F _ D9 D9);have eu:V.ownsRow 0 114 1 (.slice g W.length wc) W.length (W.map λx=>Vq x.b):=by have:=oF (pY μ az (F _ D9 D9)) (fQ _);rw[pG]at this;exact this
  have dc:=(AE p.below).trans (az.mono Yt.y1);have bh:dO w V:=λk cs S C=>by
   have cf:=(p.below.block k (bG C)).trans C;refine(I.x.block k (bG cf) ?_).trans cf;have b6:=bG C;rintro((e|e)|⟨e,_⟩);.exact p.aX.tQ cf e
   .omega
   .omega
  have h7:(dS (L.drop f)).length<=10000:=by
   have h1:=d.out.fl;have h2:dS L=dS (L.take f)++dS (L.drop f):=by rw[<-qh,Ce]
   rw[h2,bY]at h1;omega
  have ar:=aav (LB:=LB) (gw:=g) (wc:=wc) wk W fp dk V eu cd d.out.ok ej d.out.sp cm bc d.out.c6 d.out.c9 d.out.wk d.out.su d.out.ml d.out.ms d.out.Du (by rw[xz];omega) d.out.w0 (by have:=d.out.wl;omega) d.out.ll ⟨d.out.ln.1,d.out.ln.2,by have:=d.out.ln.1;omega⟩ d.out.lb (by have h1:=(bS cd.chain rfl).2;obtain⟨c,h1⟩:=h1;exact bG h1);have t6:=rb.r 0;have cy:=zb E su (W.map WB.m) mem _ d.out.pts d.out.Du (λy g4=>by obtain⟨x,z,rfl⟩:=iF.1 g4;have o:=d.out.ok x z;refine⟨o.hh,by show(x.Q.map rD.t).length<=8;rw[eY];exact o.q8,λt g2=>?_⟩;obtain⟨hk,g1,rfl⟩:=iF.1 g2;have:=o.q hk g1;exact⟨this.id,this.si,this.li,this.lo,this.so⟩)
  unfold ptr at ar;replace ar:=aN ar;generalize cu:bH E su (W.map WB.m) mem (goes qg (dS (L.take f)))=J at ar cy|-;replace cy:=aN cy;replace cu:=aN cu;have ia:=d.out.wl;clear I p b7 dq b4 μ eu ej fc GX bu;replace bh:=aN bh;replace F:=aN F;go_wp2;refine ar.out.mono ?_;rintro e w3 ⟨av,v1,⟨cr,⟨cj,dm,ak,rfl,e1,dw,GX,dt⟩,A⟩|⟨cr,rfl,x,j,g3,gx,A⟩⟩
  .have dn:¬kP n mb D:=by rintro⟨i,hi,e⟩;have:=au.out i hi;omega
   have ay:dO w w3:=λk cs S C=>A.sin.2.2 k cs S (bh.out k cs S C) (λe=>by have h1:=(bS bc.own e).1;have h2:=bG C;omega)
   have r0:=r0.tk A.tk (o5 D9 D9 D9 D9 D9);have ra:=ra.tk A.tk (o5 D9 D9 D9 D9 D9);have b0:=A.tk.rest D _ cv rfl dn;have ab:=A.nd;have ca:=A.aX;have db:=dc.trans A.tk;have gj:=ab.mem.base;clear A bc cm cd rb t6 cv bh dc;have bd:Below w3 w3 (w3.alloc (.cells #[.slice gc f cc,.slice cj W.length dm] 99)):=B0.alloc L9 _;have dh:=aW w3 [.slice gc f cc,.slice cj W.length dm] 99;have fb:eO L=eO (L.take f)++eO (L.drop f):=by rw[<-sP,Ce]
   have b6:(eO (L.take f)).length=f*2:=by rw[Gf,jO,d.out.Ll,vL O9]
   have cx:=aaw ↑w3 gc f cc cj W.length dm (eO (L.take f)) (eO ak) _ O9 gp (dh.cell 0) (dh.cell 1) b6 (za _) (λi u hi=>by have:=ab.chain.cells (g:=gc) rfl i u (by rw[fb,mQ (by rw[b6];have:=(bW.1 hi).1;omega)];exact hi);rw[add0]at this;exact aY bd this) (by rw[Gf];have:=congrArg List.length GX;simp only[eY]at this;rw[this]) (za _) (λi u hi=>by
    have:=e1.cells (g:=cj) rfl i u hi;rw[add0]at this;exact aY bd this) O9 O9
   replace cx:=aN cx;replace ay:=aN ay;replace dt:=aN dt;replace GX:=aN GX;replace dw:=aN dw;clear ar e1 fb b6 bf;go_wp2;refine cx.out.mono ?_;rintro e w4 ⟨i1,rfl,bb,e7⟩;have et:f+W.length=f -1+W.length+1:=O9;rw[et,<-sP]at bb;obtain⟨c8,c7,dz⟩:=cT bb (f -1+W.length) rfl;subst dz;have T:=bd.trans (e7.mono bd.size);replace bb:=oF bb (show B<=_ from bL gj bd.size);have O:=(ab.keep T).agn bb;have ed:=ca.keep T;have π:=r0.keep T r0.lt;have a4:=ra.keep T ra.lt;have a7:=(T.block D (bG b0)).trans b0;have nr:=(ab.keep T).mem.row;have fy:=db.trans (AE T);have fj:=aN (Nk T);have M:Tk LB (λu=>u=107) 0 mb w4 (w4.setCell (nb,12) (.slice c8 (f -1+W.length+1) c7)):=uP nr _ d.out.ln.1;have g9:w4.cell? (nb,12)=some (.slice gc (kc+1) cc):=by rw[nr.cell];exact(ab.keep T).Ig
   have hc:=nr.frozen 12;have z0:=π.r 0;have ho:=π.r 1;have hx:=π.frozen 0;have hy:=π.frozen 1;have ht:=a4.r 0;have hv:=a4.frozen 0;have hz:=π.lt;have h3:=a4.lt;have h4:=nr.lt;have im:nb≠(w:Nat)+1+1+1:=O9;have iq:nb≠(w:Nat):=O9;have ir:(w:Nat)+1+1+1≠nb:=O9;have iu:(w:Nat)≠nb:=O9;clear cx e7 bb ab ca bd dh et;replace O:=aN O;replace M:=aN M;go_wp2;replace O:=O.out;replace M:=M.out;have aa:=ed.tkc M D9 D9;have bk:=π.tk M D9;have a5:=a4.tk M D9;have dd:=M.rest D _ a7 rfl (by rintro⟨j,dv,_⟩;omega);have bm:=fy.trans (M.zero.mono (λt e=>.inl (.inl e)));have bg:=(fj.out).trans (C7 M.ck D9);clear ed π a4 a7 nr fy M g9 hc z0 ho hx hy ht hv hz h3 h4 r0 ra b0 db T fj;generalize w4.setCell ⟨nb,12,none⟩ (.slice c8 (f -1+W.length+1) c7)=ag at O aa bk a5 dd bm bg|-;have bo:Tk LB (λu=>u=4) 0 mb ag (ag.setCell ((w:Nat)+1+1+1,0) ↑aD):=uP a5 _ (by have:=d.out.ln.1;omega);have dj:Row (ag.setCell ((w:Nat)+1+1+1,0) ↑aD) ((w:Nat)+1+1+1) 4 [aD]:=a5.set 0 ↑aD;have a2:=bm.y9 (g:=(w:Nat)+1+1+1) (j:=0) ↑aD O9;have dg:=O.ck bo.ck D9 D9 D9 D9 D9;have br:=aa.tkc bo D9 D9;have af:=bk.tk bo D9;have de:=bo.rest D _ dd rfl (by rintro⟨j,dv,_⟩;omega);have b9:=bg.trans (C7 bo.ck D9);clear O aa bk a5 dd bm bo bg;generalize ag.setCell ⟨(w:Nat)+1+1+1,0,none⟩ ↑aD=ah at dg br af dj de a2 b9|-;have ba:LB<=(w:Nat):=by have:=d.out.ln.1;omega
   have bp:Tk LB (λu=>u=44) 0 mb ah ((ah.setCell ((w:Nat),0) ↑(N:Int)).setCell ((w:Nat),1) ↑(W.length:Int)):=(uP af _ ba).trans (uP (af.set 0 _) _ ba);have fq:Row ((ah.setCell ((w:Nat),0) ↑(N:Int)).setCell ((w:Nat),1) ↑(W.length:Int)) ↑w 44 [↑(N:Int),↑(W.length:Int)]:=(af.set 0 ↑(N:Int)).set 1 ↑(W.length:Int);have fz:=(a2.y9 (j:=0) ↑(N:Int) L9).y9 (j:=1) ↑(W.length:Int) L9;have eg:=dg.ck bp.ck D9 D9 D9 D9 D9;have ee:=br.tkc bp D9 D9;have ek:=dj.tk bp D9;have cb:=bp.rest D _ de rfl (by rintro⟨j,dv,_⟩;omega);have fo:=b9.trans (C7 bp.ck D9);clear dg br af dj de a2 bp b9;generalize(ah.setCell ⟨(w:Nat),0,none⟩ ↑(N:Int)).setCell ((w:Nat),1) ↑(W.length:Int)=hn at eg ee fq ek cb fz fo|-;have bx:=aai (LB:=LB) (o':=.deferred none) cb rfl;have ga:=fz.aaj (.deferred none) ey;have ef:=(ee.put (o':=.deferred none) cb rfl (λi hi e=>by have:=au.out i hi;omega)).2;have eh:=eg.ck bx id id id id id;have en:=ek.ck bx id;have ec:=fq.ck bx id;have eb:=fo.trans (C7 bx id);refine wm cb ?_;generalize hn.putObj D (.deferred none)=fv at bx ga ef eh en ec eb|-;refine HR (R':=λw'=>w'=fv) (enters_of (fA func69) K8 rfl) (Qj _ _ _ fv (en.cell 0)) ?_;rintro fw rfl;have k0:=ec.r 0;have k1:=ec.r 1;refine yL (v:=.tuple #[.agg #[↑(N:Int),↑(W.length:Int)],aA]) ?_ ?_;.simp[results,results35,go_sem,k0,k1]
   .rw[cu.out];exact⟨ga,ay.out.trans eb,av,.inl ⟨cr,by rw[cw.out],ef,c8,c7,ak,eh,dw.out,GX.out,dt.out.at_ eb⟩⟩
  .have h9:(J.e==0)=false:=by simpa using cr
   have dn:¬kP n mb D:=by rintro⟨i,hi,e⟩;have:=au.out i hi;omega
   have ay:dO w w3:=λk cs S C=>A.sin.2.2 k cs S (bh.out k cs S C) (λe=>by have h1:=(bS bc.own e).1;have h2:=bG C;omega)
   have r0:=r0.tk A.tk (o5 D9 D9 D9 D9 D9);have rb:=rb.tk A.tk (o5 D9 D9 D9 D9 D9);have ra:=ra.tk A.tk (o5 D9 D9 D9 D9 D9);have b0:=A.tk.rest D _ cv rfl dn;have ba:LB<=(w:Nat):=by have:=d.out.ln.1;omega
   have cf:=r0.r 0;have ep:=r0.r 1;have f0:=r0.frozen 0;have f1:=r0.frozen 1;have iy:=r0.lt;have db:=dc.trans A.tk;clear ar bc cm cd t6 cv bh dc bf;replace A:=aN A;replace ay:=aN ay;go_wp2;have ab:=A.out.nd;have ca:=A.out.aX;have gg:=A.out.iU;have aj:Tk LB (λu=>u=44) 0 mb w3 ((w3.setCell ((w:Nat),0) ↑aA).setCell ((w:Nat),1) ↑aA):=(uP r0 _ ba).trans (uP (r0.set 0 _) _ ba);have gd:Tk LB Y1 n mb w ((w3.setCell ((w:Nat),0) ↑aA).setCell ((w:Nat),1) ↑aA):=(db.y9 _ L9).y9 _ L9;have π:Row ((w3.setCell ((w:Nat),0) ↑aA).setCell ((w:Nat),1) ↑aA) ↑w 44 [aA,aA]:=(r0.set 0 ↑aA).set 1 ↑aA;generalize(w3.setCell ⟨(w:Nat),0,none⟩ ↑aA).setCell ⟨(w:Nat),1,none⟩ ↑aA=w4 at aj gd π|-;have a7:=aj.rest D _ b0 rfl (by rintro⟨j,dv,_⟩;omega);have c5:=aai (LB:=LB) (o':=.deferred none) a7 rfl;have bm:=gd.aaj (.deferred none) ey;have aa:=((ca.tkc aj D9 D9).put (o':=.deferred none) a7 rfl (λi hi e=>by have:=au.out i hi;omega)).2;have ei:=(gg.ck aj.ck D9 D9).ck c5 id id;have O:=(ab.ck aj.ck D9 D9 D9 D9 D9).ck c5 id id id id id;have ft:=(rb.tk aj D9).ck c5 id;have fs:=(ra.tk aj D9).ck c5 id;have bk:=π.ck c5 id;have bg:=ay.out.trans ((C7 aj.ck D9).trans (C7 c5 id));obtain⟨hf,hg,_,hj,_⟩:=cy.out;have dp:dS L=dS (L.take f)++dS (L.drop f):=by rw[<-qh,Ce]
   have e4:=d.out.path;rw[dp]at e4;obtain⟨b1,b2⟩:=Vh e4.left.2;have gl:J.K=goes (goes qg (dS L)) (lV (dS (L.drop f))++J.st):=by rw[gN,dp,gN,b2];exact hf
   have gm:fD (goes qg (dS L)) (lV (dS (L.drop f))++J.st):=by rw[dp,gN];refine b1.append ?_;rw[b2];exact hg
   rw[gl]at aa;refine wm a7 ?_;generalize w4.putObj D (.deferred none)=ag at c5 bm aa ei O ft fs bk bg|-;refine HR (R':=λw'=>aQ w' gs n sb mb (goes qg (dS L))/\Tk LB Yt n mb ag w'/\Xo (Az n mb ((w:Nat)+1)) ((w:Nat)+1+1) wR ag w') (enters_of (fA func69) K8 rfl) (JZ _ _ _ ag (fs.cell 0) (ft.cell 0) aa ei gm (by rw[bY,xz];rw[eY]at hj;omega) (bL ba (zt _))) ?_;rintro ah ⟨br,a2,hs⟩;have b9:dO w ah:=λk cs S C=>by
    have q:=bg k cs S C;refine(hs.block k (bG q) ?_).trans q;have b6:=bG C;rintro((e|e)|⟨e,_⟩);.exact aa.tQ q e
    .omega
    .omega
   have af:=bk.tk a2 (by unfold Yt;decide);have k0:=af.r 0;have k1:=af.r 1;refine yL (v:=.tuple #[.agg #[aA,aA],↑J.e]) ?_ ?_;.simp[results,results35,go_sem,k0,k1]
   .rw[cu.out];exact⟨bm.trans (a2.mono Yt.y1),b9,av,.inr ⟨cr,rfl,br,x,j,g3,gx,O.ck a2.ck (by unfold Yt;decide) (by unfold Yt;decide) (by unfold Yt;decide) (by unfold Yt;decide) (by unfold Yt;decide)⟩⟩
end
structure BN where
 id:ByteArray
 par:Nat
 aU:Nat
 wo:Int
 cI:List Gu
 bad:Bool
structure xJ where
 ix:Nat
 st:List dA
structure AG where
 bl:List BN
 ch:List xJ
 mem:List bX
 lo:Nat
def eT(l:List xJ):List dA:=l.flatMap xJ.st
def AG.K(a:AG):jQ:=goes qg (eT a.ch)
def yl(ch:List xJ)(h i:Nat):Prop:=(ch[h]?).map xJ.ix=some i
instance(ch:List xJ)(h i:Nat):Decidable (yl ch h i):=inferInstanceAs (Decidable (_=_))
def Uu(bl:List BN)(ch:List xJ):Nat->Nat->List Nat
 |0,_=>[]
 |k+1,i=>match bl[i]? with
   |none=>[]
   |some x=>if yl ch x.aU i then[]else i::Uu bl ch k x.par
structure vA(a:AG):Prop where
 first:∃x,a.bl[0]?=some x/\x.aU=0/\x.wo=0/\x.bad=false
 par:∀(i:Nat) (x:BN),a.bl[i]?=some x->0<i->x.par<i/\∃p,a.bl[x.par]?=some p/\x.aU=p.aU+1/\p.wo<x.wo/\x.wo<=p.wo+256/\(p.bad=true->x.bad=true)
 ch0:∃y,a.ch[0]?=some y/\y.ix=0
 ch:∀(h:Nat) (y:xJ),a.ch[h]?=some y->∃x,a.bl[y.ix]?=some x/\x.aU=h/\x.bad=false
 link:∀(h:Nat) (y:xJ) (x:BN),a.ch[h+1]?=some y->a.bl[y.ix]?=some x->∃z,a.ch[h]?=some z/\z.ix=x.par
 path:fD qg (eT a.ch)
 len:∀y∈a.ch,y.st.length<=200
 Du:∀f,BS (goes qg (eT (a.ch.take f)))
 ids:(a.bl.map BN.id).Nodup
 ll:a.bl.length<=49
def Ih(l):∀p c,goes qg l p=some c->c.pt=p:=by suffices h:∀(l:List dA) (K:jQ),(∀p c,K p=some c->c.pt=p)->∀p c,goes K l p=some c->c.pt=p from h l qg (λp c e=>by cases e);intro l;induction l with
 |nil=>exactλK h=>h
 |cons s l a=>
   intro K h;refine a (zh K s) (λp c e=>?_);unfold zh at e;split at e
   .unfold jQ.put at e;split at e;.simp_all
    .grind
   .unfold jQ.take at e;split at e;.cases e
    .grind
def vA.hle{a}(h:vA a):∀(i:Nat) (x:BN),a.bl[i]?=some x->x.aU<=i/\0<=x.wo/\x.wo<=256*x.aU:=by intro i;induction i using Nat.strongRecOn with
 |_ i f=>
   intro x b;by_cases h0:i=0;.subst h0;have⟨y,c,h1,h2,_⟩:=h.first;rw[b]at c;cases c;rw[h1,h2];exact⟨L9,nE _,O9⟩
   .have⟨d,p,e,g,e2,e3,_⟩:=h.par i x b O9;have:=f _ d p e;omega
def vA.MP{a}(h:vA a):a.ch.length<=a.bl.length:=by
 by_cases h0:a.ch.length=0;.omega
 .have e:=bR (show a.ch.length -1<a.ch.length by omega);have⟨x,b,h1,_⟩:=h.ch _ _ e;have:=(h.hle _ x b).1;have:=(bW.1 b).1;omega
structure ag5(a:AG)(i:Nat)(x:BN)(u:List Nat)(q:Nat)(y:BN):Prop where
 hq:a.bl[q]?=some y
 inq:yl a.ch y.aU q
 at0:(u++[q])[0]?=some i
 at_:∀(k j:Nat),u[k]?=some j->∃z,a.bl[j]?=some z/\0<j/\¬yl a.ch z.aU j/\(u++[q])[k+1]?=some z.par/\z.aU+k=x.aU/\(x.bad=false->z.bad=false)
 len:y.aU+u.length=x.aU
def Qs{a}(h:vA a):∀k i x,a.bl[i]?=some x->x.aU<k->∃q y,ag5 a i x (Uu a.bl a.ch k i) q y
 |0,i,x,b,o=>by omega
 |k+1,i,x,b,o=>by
   unfold Uu;rw[b];simp only;by_cases d:yl a.ch x.aU i;.rw[bF d];exact⟨i,x,b,d,rfl,λk j f=>by simp at f,S8⟩
   .rw[aS d];have hi:0<i:=by
     obtain e|e:=qy i;.subst e;have⟨y,l,h1,_⟩:=h.first;have⟨z,t,h2⟩:=h.ch0;rw[b]at l;cases l;exact absurd (by unfold yl;rw[h1,t];simp[h2]) d
     .exact e
    have⟨B,p,r,A,e2,e3,n⟩:=h.par i x b hi;have⟨q,y,c⟩:=Qs h k x.par p r O9;refine⟨q,y,c.hq,c.inq,rfl,λm j f=>?_,?_⟩;.cases m with
     |zero=>simp at f;subst f;refine⟨x,b,hi,d,?_,rfl,id⟩;exact c.at0
     |succ m=>have⟨z,u,v,z3,z4,z5,w⟩:=c.at_ m j (by simpa using f);exact⟨z,u,v,z3,z4,O9,λg=>w (by cases s:p.bad with|false=>rfl|true=>rw[n s]at g;cases g)⟩
    .rw[fR];have:=c.len;omega
def bsA(j:Nat):List BN->Nat->List Bool->List Bool
 |[],_,acc=>acc
 |x::r,i,acc=>bsA j r (i+1) (acc++[x.bad||decide (i=j)||(decide (0<i)&&acc.getD x.par false)])
def J0(j):∀r i acc k,k<acc.length->(bsA j r i acc).getD k false=acc.getD k false
 |[],_,_,_,_=>rfl
 |x::r,i,acc,k,a=>by unfold bsA;rw[J0 j r (i+1) _ k (by rw[bY];omega)];simp;rw[mQ a]
def aay(j):∀r i acc k x,acc.length=i->r[k]?=some x->(0<i+k->x.par<i+k)->(bsA j r i acc).getD (i+k) false=(x.bad||decide (i+k=j)||(decide (0<i+k)&&(bsA j r i acc).getD x.par false))
 |[],_,_,_,_,_,h,_=>by simp at h
 |y::r,i,acc,0,x,hl,h,a=>by
   simp at h;subst h;rw[DW]at a|-;unfold bsA;have b:=J0 j r (i+1) (acc++[y.bad||decide (i=j)||(decide (0<i)&&acc.getD y.par false)]) i (by rw[bY];simp;omega);rw[b];simp at*;rw[eA O9,hl];simp;by_cases h0:0<i;.have e2:=J0 j r (i+1) (acc++[y.bad||decide (i=j)||(decide (0<i)&&(acc[y.par]?).getD false)]) y.par (by rw[bY];have:=a h0;simp;omega);simp at e2;rw[e2,mQ (by have:=a h0;omega)]
   .simp[h0]
 |y::r,i,acc,k+1,x,hl,h,a=>by have:=aay j r (i+1) (acc++[y.bad||decide (i=j)||(decide (0<i)&&acc.getD y.par false)]) k x (by rw[bY,hl];rfl) (by simpa using h) (by intro _;have:=a O9;omega);rw[show i+(k+1)=i+1+k from by omega];exact this
def GY(bl:List BN)(j:Nat):List Bool:=bsA j bl 0 []
def BZ{bl j i x}(h:bl[i]?=some x)(a:0<i->x.par<i):(GY bl j).getD i false=(x.bad||decide (i=j)||(decide (0<i)&&(GY bl j).getD x.par false)):=by have:=aay j bl 0 [] i x rfl h (by rw[jA];exact a);rw[jA]at this;exact this
def BN.mark(x:BN)(b:Bool):BN:={x with bad:=b,cI:=if b then[]else x.cI}
def gG(bl:List BN)(j:Nat):List BN:=bl.mapIdx λi x=>x.mark ((GY bl j).getD i false)
def gF(a:AG)(i h:Nat):List Nat:=(Uu a.bl a.ch (h+1) i).reverse
def mA(bl:List BN)(i:Nat):Int×List Gu:=match bl[i]? with
 |none=>(0,[])
 |some x=>((x.aU:Int),x.cI)
def cC(a:AG)(i h:Nat):Nat:=h+1 -(gF a i h).length
def cR(c:fP)(a:AG)(i h:Nat):JR:=bH c.me.toNat c.su ((gF a i h).map (mA a.bl)) a.mem (goes qg (eT (a.ch.take (cC a i h))))
def po:List Nat->List (List dA)->List xJ
 |i::l,s::m=>⟨i,s⟩::po l m
 |_,_=>[]
def wJ(c:fP)(a:AG)(i h:Nat):Int×Int×Int×AG:=if(cR c a i h).e=0 then(((a.ch.length -cC a i h:Nat):Int),((gF a i h).length:Int),0,{a with ch:=a.ch.take (cC a i h)++po (gF a i h) (cR c a i h).ls,mem:=(cR c a i h).mem})
 else(0,0,(cR c a i h).e,{a with bl:=gG a.bl ((gF a i h).getD (cR c a i h).at_ 0),mem:=(cR c a i h).mem})
section
variable{LB:Nat}
def cY(a:AG):BN:=((a.ch[a.ch.length -1]?).bind λy=>a.bl[y.ix]?).getD ⟨⟨#[]⟩,0,0,0,[],false⟩
def AG.an(a:AG):AN:=⟨a.bl.map BN.id,(cY a).id,a.ch.length -1,(cY a).wo,a.K,a.mem,a.lo⟩
structure Tie(w:World)(l:List kL)(i:Nat)(x:kL)(y:BN):Prop where
 id:x.id=y.id
 aU:x.aU=(y.aU:Int)
 wo:x.wo=y.wo
 bad:x.bad=y.bad
 aaz:i=0->x.par=none
 par:0<i->∃p,l[y.par]?=some p/\x.par=some p.a
 cI:y.bad=false->0<i->∃q:WB,q.b=x/\q.Ok l/\mO w q.gt q.Q/\q.Q.map rD.t=y.cI
def Tie.move{w w' l b i x y}(h:Tie w l i x y)(f:∀gt Q,mO w gt Q->mO w' gt Q)(hl:∀(k:Nat) (p:kL),l[k]?=some p->∃p',b[k]?=some p'/\p'.a=p.a)(j:x∈b):Tie w' b i x y:=⟨h.id,h.aU,h.wo,h.bad,h.aaz,λh0=>by obtain⟨p,h1,h2⟩:=h.par h0;obtain⟨p',c,d⟩:=hl _ p h1;exact⟨p',c,by rw[d];exact h2⟩,λg h0=>by have⟨q,e,o,t,m⟩:=h.cI g h0;exact⟨q,e,⟨o.tv,o.q,o.q0,o.q8,o.qc,e▸j,o.hh⟩,f _ _ t,m⟩⟩
structure gM(w:World)(nb:Nat)(lk:List Value)(c:fP)(s:Lay)(L:List eD)(a:AG):Prop where
 base:kQ w nb lk c s a.an
 sl:s.L=eO L
 wf:vA a
 ll:s.l.length=a.bl.length
 tie:∀(i:Nat) (x:kL) (y:BN),s.l[i]?=some x->a.bl[i]?=some y->Tie w s.l i x y
 nda:(s.l.map kL.a).Nodup
 cl:L.length=a.ch.length
 Y4:∀(i:Nat) (x:eD) (y:xJ),L[i]?=some x->a.ch[i]?=some y->x.st=y.st/\x.At w/\∃b,s.l[y.ix]?=some b/\b.a=x.a
def gY(w:World)(nb:Nat)(c:fP)(a:AG):Prop:=∃s L,gM w nb qO c s L a
def gM.is{w nb c s L a}(h:gM w nb qO c s L a):wC w nb c a.an:=⟨s,h.base⟩
def eD.At.old{w w'}{x:eD}(h:x.At w)(o:dO w w'):x.At w':=by
 obtain e|⟨g,e,a⟩:=h;.exact .inl e
 .exact .inr ⟨g,e,a.old o⟩
def gM.move{w w' nb l lk' c s L a}(h:gM w nb l c s L a)(g:kQ w' nb lk' c s a.an)(f:∀gt Q,mO w gt Q->mO w' gt Q)(o:dO w w'):gM w' nb lk' c s L a:=⟨g,h.sl,h.wf,h.ll,λi x y b d=>(h.tie i x y b d).move f (λk p j=>⟨p,j,rfl⟩) (cS b),h.nda,h.cl,λi x y b d=>by obtain⟨h1,h2,e⟩:=h.Y4 i x y b d;exact⟨h1,h2.old o,e⟩⟩
def gM.keep{w w' nb d c s L a}(h:gM w nb d c s L a)(b:Below w w w'):gM w' nb d c s L a:=h.move (h.base.keep b) (λ_ _ t=>t.keep b) (Nk b)
def gM.shut{w w' nb b lk' c s L a}(h:gM w nb b c s L a)(hl:b.length=6)(d:lk'.length=6)(g:w.grownBy w' (some nb))(r:Row w' nb 107 (lk'++(c.cells++[s.bv,.slice (some ⟨s.gc,0,none⟩) (s.kc+1) s.cc,.slice (some ⟨s.gs,0,none⟩) s.n s.n,.int .i64 c.me,s.mv]))):gM w' nb lk' c s L a/\Tk a.lo (λt=>t=107) 0 s.mb w w':=by have⟨h1,h2⟩:=h.base.shut hl d g r;exact⟨h.move h1 (λ_ _ t=>t.tk h2 D9 D9 D9) (C7 h2.ck D9),h2⟩
def gM.tk{b w w' nb d c s L a}(h:gM w nb d c s L a)(x:Tk LB b 0 s.mb w w')(h1:¬b 107)(h2:¬b 247)(g:¬b 114)(i:¬b 117)(j:¬b 123)(k:¬b 145)(l:¬b 173)(m:¬b 155)(n:¬b 133)(e:¬b 69)(f:¬b 195):gM w' nb d c s L a:=h.move (h.base.tk x h1 h2 g i j k l) (λ_ _ t=>t.tk x m n e) (C7 x.ck f)
def yT(a:AG)(b:jK):Nat:=(a.bl.findIdx? λx=>decide (x.id=mk b.parent)).getD 0
def qZ(a:AG)(b:jK):BN:=(a.bl[yT a b]?).getD ⟨⟨#[]⟩,0,0,0,[],false⟩
def Dp(a:AG)(b:jK):Bool:=a.bl.any λx=>decide (x.id=mk b.parent)
def pV(a:AG)(cb:Int)(s:List UInt8)(b:jK):Int:=if NK (a.bl.map BN.id) (kA s)=true then 10 else
 if b.bits<cb then 11 else
 if(iE s).toNat%2^b.bits.toNat≠0 then 11 else
 if Dp a b=false then 12 else
 if(qZ a b).bad then 13 else
 if a.bl.length=49 then 9 else 0
def cP(a:AG)(s:List UInt8)(b:jK):BN:=⟨kA s,yT a b,(qZ a b).aU+1,(qZ a b).wo+2^b.bits.toNat,b.cI.map xK,false⟩
def kW(c:fP)(a:AG)(s:List UInt8):Int×Int×Int×AG:=match kB s with
 |none=>(0,0,1,a)
 |some b=>if pV a c.bi s b≠0 then(0,0,pV a c.bi s b,a)else
   if(cP a s b).wo<=(cY a).wo then(0,0,0,{a with bl:=a.bl++[cP a s b]})
   else wJ c {a with bl:=a.bl++[cP a s b]} a.bl.length (cP a s b).aU
def oD{a b}(h:Dp a b=true):a.bl[yT a b]?=some (qZ a b)/\(qZ a b).id=mk b.parent:=by
 have h1:(a.bl.findIdx? λx=>decide (x.id=mk b.parent)).isSome=true:=by rw[List.findIdx?_isSome];exact h
 have⟨i,hi⟩:=Wo.1 h1;have d:yT a b=i:=by unfold yT;rw[hi];rfl
 have⟨f,h2,_⟩:=List.findIdx?_eq_some_iff_getElem.1 hi;have c:=bR f;have e:qZ a b=a.bl[i]:=by unfold qZ;rw[d,c];rfl
 rw[d,e];exact⟨c,by simpa using h2⟩
def aaA{w nb n c s L a}(h:gM w nb n c s L a)(b):(Dp a b=false/\jR s.l (mk b.parent)=none)\/(Dp a b=true/\∃x,jR s.l (mk b.parent)=some x/\s.l[yT a b]?=some x):=by have j:=h.base.ids;cases f:Dp a b with
 |false=>refine .inl ⟨rfl,?_⟩;cases i:jR s.l (mk b.parent)with
   |none=>rfl
   |some x=>
     have h1:=rz.1 (by rw[i];rfl);rw[j]at h1;have⟨y,m,e⟩:=iF.1 h1;have h2:Dp a b=true:=by unfold Dp;rw[List.any_eq_true];exact⟨y,m,by simpa using e⟩
     rw[f]at h2;cases h2
 |true=>
   have⟨h1,h2⟩:=oD f;have d:yT a b<s.l.length:=by rw[h.ll];exact(bW.1 h1).1
   have g:=bR d;refine .inr ⟨rfl,_,?_,g⟩;have k:=h.tie _ _ _ g h1;have:=IP s.l s.l[yT a b] h.base.N8 (s6 d);rw[k.id,h2]at this;exact this
def ae4{w nb k c s L a}(h:gM w nb k c s L a){t b}(f:0<=b.bits)(id)(i:id=kA t):xM s.l c.bi id (mk b.parent) b.bits.toNat (iE t)=pV a c.bi t b:=by
 have hi:s.l.map kL.id=a.bl.map BN.id:=h.base.ids;have g:=KH f;unfold xM pV;rw[i,g,<-hi,h.ll];by_cases h1:kA t∈s.l.map kL.id;.rw[bF (rz.2 h1),bF (tM.2 h1)]
 .rw[aS (λe=>h1 (rz.1 e)),aS (λe=>h1 (tM.1 e))];obtain⟨d,e2⟩|⟨d,x,e2,j⟩:=aaA h b;.simp_all
  .rw[d,e2];have:=(h.tie _ _ _ j (oD d).1).bad;simp[this]
def tL{a cb s b}(h:pV a cb s b=0):kA s∉a.bl.map BN.id/\Dp a b=true/\(qZ a b).bad=false/\a.bl.length≠49:=by
 unfold pV at h;split at h;.cases h
 .rename_i h1;split at h;.cases h
  .split at h;.cases h
   .split at h;.cases h
    .rename_i h2;split at h;.cases h
     .rename_i c;split at h;.cases h
      .rename_i d;exact⟨λe=>h1 (tM.2 e),by simpa using h2,by simpa using c,d⟩
def tK{α:Type}{l}{x y:α}{i}(h:(l++[x])[i]?=some y):l[i]?=some y\/(i=l.length/\y=x):=by grind
def fC{α:Type}{l m:List α}{x}{i:Nat}(h:l[i]?=some x):(l++m)[i]?=some x:=by grind
def PV{N}(h:N<=8):(0:Int)<2^N/\(2:Int)^N<=256:=by have e3:2^N<=2^8:=KI D9 h;have a:0<2^N:=Nat.pow_pos D9;exact⟨Int.ofNat_lt.2 a,G5.2 e3⟩
def vA.keep{a}(h:vA a){cb s b}(hr:pV a cb s b=0)(l:b.bits.toNat<=8):vA {a with bl:=a.bl++[cP a s b]}:=by
 have⟨r1,r2,r3,t⟩:=tL hr;have f:=(oD r2).1;have n:=(bW.1 f).1;have r:=PV l;refine⟨?_,λi x c h0=>?_,h.ch0,λk y d=>?_,λk y x d c=>?_,h.path,h.len,h.Du,?_,?_⟩;.have⟨x,c,q⟩:=h.first;exact⟨x,fC c,q⟩
 .obtain c|⟨e,rfl⟩:=tK c;.have⟨h1,p,h2,j⟩:=h.par i x c h0;exact⟨h1,p,fC h2,j⟩
  .subst e;refine⟨n,qZ a b,fC f,rfl,?_,?_,λe=>?_⟩;.show _<_+(2:Int)^_;omega
   .show _+(2:Int)^_<=_;omega
   .simp_all
 .have⟨x,c,q⟩:=h.ch k y d;exact⟨x,fC c,q⟩
 .have⟨o,g,_⟩:=h.ch (k+1) y d;have:x=o:=by have:=fC (m:=[cP a s b]) g;rw[this]at c;cases c;rfl
  subst this;exact h.link k y x d g
 .rw[nG,kY,GZ,QP];exact⟨h.ids,S8,λx c y d e=>by simp only[jU]at d;subst d;subst e;exact r1 c⟩
 .have:=h.ll;simp;omega
def vA.vp{a}(h:vA a):∃y,a.ch[a.ch.length -1]?=some y/\a.bl[y.ix]?=some (cY a)/\(cY a).aU=a.ch.length -1/\(cY a).bad=false/\0<a.ch.length:=by
 have⟨z,d,_⟩:=h.ch0;have hl:=(bW.1 d).1;have e:=bR (show a.ch.length -1<a.ch.length by omega);have⟨x,c,h1,h2⟩:=h.ch _ _ e;have b:cY a=x:=by unfold cY;rw[e,Option.bind_some,c];rfl
 exact⟨_,e,by rw[b];exact c,by rw[b];exact h1,by rw[b];exact h2,hl⟩
def SN{a a'}(h:vA a)(c:a'.ch=a.ch)(b:∀(i:Nat) (x:BN),a.bl[i]?=some x->a'.bl[i]?=some x):cY a'=cY a:=by have⟨y,h1,h2,_⟩:=h.vp;unfold cY;rw[c,h1,vK,vK,b _ _ h2,h2]
def ae5{w w' nb A gt N c s L a j Q t b p}(h:gM w nb oG c s L a)(hr:pV a c.bi t b=0)(hN:b.bits.toNat=N)(V:N<=8)(J:Q.map rD.t=b.cI.map xK)(S:∀q∈Q,q.Ok)(u:1<=Q.length/\Q.length<=8)(M:mO w' gt Q)(C:s.l[yT a b]?=some p)(H:↑w<=A)(I:jM w' s.B j (s.l++[GU A (kA t) p N (.slice (some ⟨gt,0,none⟩) Q.length Q.length)]))(P:Row w' nb 107 ((s.cs oG c).set 11 j))(x:Xc (λk=>k=nb\/s.bv.ownBlock=some k) w w'):
 gM w' nb oG c {s with bv:=j,l:=s.l++[GU A (kA t) p N (.slice (some ⟨gt,0,none⟩) Q.length Q.length)]} L {a with bl:=a.bl++[cP a t b]}/\Tk a.lo Yk 0 s.mb w w':=by
 have⟨nd,co,tk⟩:=SK h.base I P x;have⟨r1,r2,r3,π⟩:=tL hr;have m:=(oD r2).1;have o:=h.tie _ _ _ C m;have D:=h.wf.keep hr O9;have R:A∉s.l.map kL.a:=λe=>by obtain⟨z,μ,rfl⟩:=iF.1 e;have:=(h.base.nd.qf.row z μ).lt;omega
 have n:cY {a with bl:=a.bl++[cP a t b]}=cY a:=SN h.wf rfl (λi x f=>fC f);have v:s.l.map kL.id=a.bl.map BN.id:=h.base.ids;have d:=h.base;have T:=d.wb;have hle:=D.ll;have O:=h.ll;have K:∀gt Q,mO w gt Q->mO w' gt Q:=λ_ _ q=>q.tk tk (by unfold Yk;decide) (by unfold Yk;decide) (by unfold Yk;decide);refine⟨⟨⟨nd,co,aao d.N8 (by rw[v];exact r1),Wm _ d.vp,d.jZ,d.ph,d.link,d.L1,?_,?_,d.kc,?_,?_,?_,?_,d.Du,d.mem,d.cok,d.low.1,d.low.2.1,show∀x∈s.l++[_],a.lo<=x.a from aap d H rfl⟩,h.sl,D,?_,λi x y f g=>?_,?_,h.cl,λi x y f g=>?_⟩,tk⟩;.show(s.l++_).map kL.id=(a.bl++[cP a t b]).map BN.id;rw[nG,nG,v];rfl
 .show s.p.id=(cY _).id;rw[n];exact d.tid
 .show s.p.wo=(cY _).wo;rw[n];exact d.wo
 .show((a.bl++[cP a t b]).map BN.id).length<=49;rw[eY];exact hle
 .show a.ch.length -1+1<=((a.bl++[cP a t b]).map BN.id).length;have:=d.kl;have h2:a.ch.length -1+1<=(a.bl.map BN.id).length:=this;rw[eY]at h2|-;rw[bY];omega
 .show 0<=(cY _).wo/\(cY _).wo<=256*(((a.bl++[cP a t b]).map BN.id).length:Int);rw[n];have h2:0<=(cY a).wo/\(cY a).wo<=256*((a.bl.map BN.id).length:Int):=T;rw[eY]at h2|-;rw[bY];simp only[oQ];omega
 .simp_all
 .obtain E|⟨e,rfl⟩:=tK f
  .have Y:i<a.bl.length:=by rw[<-O];exact(bW.1 E).1
   obtain r|⟨e,_⟩:=tK g;.exact(h.tie i x y E r).move K (λk q hq=>⟨q,fC hq,rfl⟩) (cS f)
   .omega
  .obtain r|⟨_,rfl⟩:=tK g;.have:=(bW.1 r).1;omega
   .have W:=VN d.vp;have hh:=(h.wf.hle _ _ m).1;have hl:=(bW.1 m).1;have X:=h.wf.ll;refine⟨rfl,?_,?_,rfl,λe2=>by omega,λ_=>⟨p,fC C,rfl⟩,λ_ _=>⟨⟨GU A (kA t) p N (.slice gt Q.length Q.length),Q,gt,Q.length⟩,rfl,⟨rfl,S,u.1,u.2,L9,S8,?_⟩,M,J⟩⟩;.show p.aU+1=(((qZ a b).aU+1:Nat):Int);rw[o.aU];omega
    .show p.wo+2^N=(qZ a b).wo+2^b.bits.toNat;rw[o.wo,hN]
    .show p.aU+1<_;rw[o.aU];omega
 .show((s.l++[_]).map kL.a).Nodup;rw[nG,kY,GZ,QP];exact⟨h.nda,S8,λx f y g e=>by simp only[jU]at g;subst g;subst e;exact R f⟩
 .have⟨h1,h2,q,F,G⟩:=h.Y4 i x y f g;exact⟨h1,h2.old (dO.ck tk.ck (by unfold Yk;decide)),q,fC F,G⟩
def C8{α β:Type}(P:α->β->Prop):∀l:List α,(∀x∈l,∃y,P x y)->∃m:List β,m.length=l.length/\∀(k:Nat) (x:α) (y:β),l[k]?=some x->m[k]?=some y->P x y
 |[],_=>⟨[],rfl,λk x y h=>by simp at h⟩
 |x::l,h=>by have⟨y,c⟩:=h x S8;have⟨m,h1,h2⟩:=C8 P l (λz d=>h z (by simp[d]));refine⟨y::m,by simp[h1],λk u v a b=>?_⟩;cases k with
   |zero=>simp at a b;subst a;subst b;exact c
   |succ k=>exact h2 k u v (by simpa using a) (by simpa using b)
def piA(bl:List BN)(i:Nat):Option Nat:=if i=0 then none else(bl[i]?).map BN.par
def gM.ag6{w nb g c s L a}(h:gM w nb g c s L a)(j):acJ s.l j (GY a.bl j) (piA a.bl):=by
 have f:∀(i:Nat) (x:kL),s.l[i]?=some x->∃y,a.bl[i]?=some y:=λi x b=>⟨_,bR (by rw[<-h.ll];exact(bW.1 b).1)⟩;refine⟨h.nda,λi x b=>?_,λi x b=>?_⟩
 .have⟨y,d⟩:=f i x b;have e:=h.tie i x y b d;by_cases h0:i=0;.exact .inl ⟨e.aaz h0,by unfold piA;rw[if_pos h0]⟩
  .have⟨p,h1,h2⟩:=e.par O9;exact .inr ⟨y.par,p,by unfold piA;rw[if_neg h0,d];rfl,(h.wf.par i y d O9).1,h1,h2⟩
 .have⟨y,d⟩:=f i x b;rw[BZ d (λh0=>(h.wf.par i y d h0).1),(h.tie i x y b d).bad];congr 1;unfold piA;by_cases h0:i=0;.simp_all
  .grind
def gM.flat{w nb b c s L a}(h:gM w nb b c s L a)(f):dS (L.take f)=eT (a.ch.take f):=by
 have e:L.map eD.st=a.ch.map xJ.st:=by
  apply kF;intro i;rw[cL,cL];by_cases hi:i<L.length;.have h1:=bR hi;have h2:=bR (show i<a.ch.length by rw[<-h.cl];exact hi);rw[h1,h2,dM,dM,(h.Y4 i _ _ h1 h2).1]
  .rw[nK O9,nK (by rw[<-h.cl];omega)];rfl
 unfold dS eT;rw[G7,G7,List.map_take,List.map_take,e]
def gM.flatAll{w nb b c s L a}(h:gM w nb b c s L a):dS L=eT a.ch:=by have:=h.flat L.length;rw[iR,h.cl,iR]at this;exact this
def Im{l}(h:∀y∈l,y.st.length<=200):(eT l).length<=200*l.length:=by induction l with
 |nil=>exact L9
 |cons x l b=>have e:eT (x::l)=x.st++eT l:=rfl;rw[e,bY,fR];have h1:=h x S8;have h2:=b (λy a=>h y (by simp[a]));omega
def gM.over{w nb j c s L a y O}(h:gM w nb oG c s L a)(J:a.bl[j]?=some y)(ak:y.bad=false)(av:¬yl a.ch y.aU j)(f:s.l[j]?=some O):∃W M,adR a.lo w nb s.B c.me.toNat (s.cs oG c) s.bv s.mv s.gc s.kc s.cc s.l L a.mem s.gs s.n s.sb s.mb c.wk.toNat c.su W (piA a.bl) (GY a.bl) O M (cC a j y.aU)/\W.map WB.m=(gF a j y.aU).map (mA a.bl)/\(∀(k:Nat) (i:Nat) (x:WB),(gF a j y.aU)[k]?=some i->W[k]?=some x->s.l[i]?=some x.b)/\W.length=(gF a j y.aU).length:=by
 have⟨q,G,g⟩:=Qs h.wf (y.aU+1) j y J (nR _);unfold cC gF;generalize bk:Uu a.bl a.ch (y.aU+1) j=u at g;have π:∀(i:Nat) (z:BN),a.bl[i]?=some z->∃x,s.l[i]?=some x/\Tie w s.l i x z:=λi z F=>by have e:=bR (show i<s.l.length by rw[h.ll];exact(bW.1 F).1);exact⟨_,e,h.tie i _ z e F⟩
 have⟨W',K,C⟩:=C8 (λ(i:Nat) (x:WB)=>∃z,a.bl[i]?=some z/\s.l[i]?=some x.b/\Tie w s.l i x.b z/\x.Ok s.l/\mO w x.gt x.Q/\x.Q.map rD.t=z.cI) u (λi hi=>by have⟨k,d⟩:=nH.1 hi;have⟨z,r,H,z3,z4,z5,N⟩:=g.at_ k i d;have⟨x,a2,af⟩:=π i z r;have⟨bb,e,o,t,m⟩:=af.cI (N ak) H;subst e;exact⟨bb,z,r,a2,af,o,t,m⟩)
 have⟨M,ae,ay⟩:=π q G g.hq;have bm:0<u.length:=by
  obtain e|e:=qy u.length;.have:u=[]:=oL e;subst this;have A:=g.at0;have e2:=g.hq;have e3:=g.inq;simp only[vJ,lI,gA]at A;subst A;rw[J]at e2;cases e2;exact absurd e3 av
  .exact e
 have hlen:=g.len;have X:∀x∈W',∃(k i:Nat),u[k]?=some i/\W'[k]?=some x:=λx f=>by
  have⟨k,d⟩:=nH.1 f;have V:k<u.length:=by rw[<-K];exact(bW.1 d).1
  exact⟨k,_,bR V,d⟩
 have Y:∀(k i:Nat) (x:kL),(u++[q])[k]?=some i->s.l[i]?=some x->(W'.map WB.b++[M])[k]?=some x:=λk i x d bo=>by grind
 have au:y.aU+1 -u.reverse.length=G.aU+1:=by rw[zw];omega
 have μ:(W'.reverse.map WB.b).reverse=W'.map WB.b:=by rw[Q8,List.reverse_reverse]
 obtain⟨bq,ah,a6⟩:∃z,a.ch[G.aU]?=some z/\z.ix=q:=by have:=g.inq;unfold yl at this;cases F:a.ch[G.aU]? with
  |none=>rw[F]at this;cases this
  |some z=>rw[F]at this;simp only[dM,gA]at this;exact⟨z,rfl,this⟩
 have ar:=(bW.1 ah).1;have bd:=h.wf.MP;have bh:=h.wf.ll;have bg:s.kc=a.ch.length -1:=h.base.kc;have ao:=SJ h.base.cok;have bp:=(h.wf.hle j y J).1;have bf:=(bW.1 J).1;have I:∀(i:Nat) (x:eD),L[i]?=some x->∃(z:xJ) (b:kL),a.ch[i]?=some z/\x.At w/\s.l[z.ix]?=some b/\b.a=x.a:=λi x f=>by have e:=bR (show i<a.ch.length by rw[<-h.cl];exact(bW.1 f).1);have⟨_,h2,b,R,S⟩:=h.Y4 i x _ f e;exact⟨_,b,e,h2,R,S⟩
 refine⟨W'.reverse,M,?_,?_,?_,?_⟩
 .rw[au];refine⟨by rw[<-h.sl];exact h.base.nd,by rw[h.flatAll];exact h.base.aX,λx f=>?_,λx f=>?_,λx f=>?_,?_,rfl,rfl,O9,ao.2.2.2.1,h.base.mem,O9,by rw[h.flatAll];exact h.wf.path,?_,by rw[h.flat];exact h.wf.Du _,Ih _,by rw[h.cl];omega,λx f=>?_,λx f=>?_,λx f=>?_,by rw[zw];omega,by rw[zw];omega,by rw[h.ll];omega,O9,?_,λk x d=>?_,λx f=>?_,cS ae,?_,?_,O9,O9,⟨h.base.low.1.1,h.base.low.2.1⟩,h.base.low.2.2⟩;.grind
  .have⟨k,i,h1,h2⟩:=X x (by simpa using f);exact(C k i x h1 h2).choose_spec.2.2.2.1
  .have⟨k,i,h1,h2⟩:=X x (by simpa using f);exact⟨i,(C k i x h1 h2).choose_spec.2.1,h.ag6 i⟩
  .show some (Value.int .i64 c.wk)=_;rw[KH O9]
  .rw[h.flatAll];have:=Im h.wf.len;omega
  .have⟨i,hi⟩:=nH.1 f;exact(I i x hi).choose_spec.choose_spec.2.1
  .have⟨i,hi⟩:=nH.1 f;have⟨z,b,_,_,R,S⟩:=I i x hi;exact⟨b,cS R,S⟩
  .have⟨i,hi⟩:=nH.1 f;have e:=bR (show i<a.bl.length by rw[<-h.ll];exact(bW.1 hi).1);rw[(h.tie i x _ hi e).aU];exact G8 _
  .rw[μ];exact Y 0 j O g.at0 f
  .rw[μ]at d|-;rw[cL]at d;cases D:W'[k]? with
   |none=>rw[D]at d;cases d
   |some v=>
     rw[D]at d;simp only[dM,gA]at d;subst d;have V:k<u.length:=by rw[<-K];exact(bW.1 D).1
     have aa:=bR V;have⟨z,r,H,z3,z4,z5,N⟩:=g.at_ k _ aa;have⟨aj,v1,v2,v3,ai,_⟩:=C k _ v aa D;rw[r]at v1;cases v1;have⟨p,a8,ba⟩:=v3.par H;exact⟨ai.mem,p,Y (k+1) _ p z4 a8,ba⟩
  .rw[μ]at f;obtain⟨v,az,rfl⟩:=iF.1 f;have⟨k,i,h1,h2⟩:=X v az;have⟨z,r,H,z3,z4,z5,N⟩:=g.at_ k i h1;have⟨aj,v1,v2,v3,_⟩:=C k i v h1 h2;rw[r]at v1;cases v1;rw[v3.aU,vH,cL];intro e;cases T:L[z.aU]? with
   |none=>rw[T]at e;cases e
   |some a7=>rw[T]at e;simp only[dM,gA]at e;have⟨c1,b1,A,_,e3,P⟩:=I _ a7 T;have:=AJ h.nda e3 v2 (by rw[P,e]);exact z3 (by unfold yl;rw[A];simp[this])
  .rw[ay.aU,vH,cL];have e:=bR (show G.aU<L.length by rw[h.cl];exact ar);rw[e];have⟨c1,b1,A,_,e3,P⟩:=I _ _ e;rw[ah]at A;cases A;rw[a6,ae]at e3;cases e3;rw[dM,P]
  .obtain⟨E,bj⟩:∃E,u.length=E+1:=⟨u.length -1,O9⟩;have D:=bR (show E<W'.length by omega);have d:=bR (show E<u.length by omega);have⟨z,r,H,z3,z4,z5,N⟩:=g.at_ E _ d;have⟨aj,v1,v2,v3,_⟩:=C E _ _ d D;rw[r]at v1;cases v1;refine⟨_,by rw[Hd O9,show W'.length -1 -0=E from by omega];exact D,?_⟩;rw[v3.aU];omega
 .rw[Q8,Q8];congr 1;apply kF;intro k;rw[cL,cL];by_cases d:k<u.length;.have h1:=bR d;have h2:=bR (show k<W'.length by omega);have⟨z,v1,v2,v3,ai,v5,bc⟩:=C k _ _ h1 h2;rw[h1,h2,dM,dM];unfold WB.m mA;rw[v1,v3.aU,bc]
  .rw[nK O9,nK O9];rfl
 .intro k i x d ag;have ab:=(bW.1 d).1;rw[zw]at ab;rw[Hd ab]at d;rw[Hd O9,K]at ag;exact(C _ i x d ag).choose_spec.2.1
 .rw[zw,zw,K]
def ze(a su):∀(l:List (Int×List Gu)) (mem:List bX) (K:jQ),(∀p c,K p=some c->c.pt=p)->BS K->mem.length<=a->(∀x∈l,x.1<9223372036854775808/\x.2.length<=8/\∀t∈x.2,t.id.size<=1000000/\(∀i∈t.ins,i.Small)/\t.ins.length<=8/\t.outs.length<=8/\∀o∈t.outs,o.Small)->(∀s∈(bH a su l mem K).ls,s.length<=200)/\(∀m,BS (goes K ((bH a su l mem K).ls.take m).flatten))/\(bH a su l mem K).mem.length<=a
 |[],mem,K,_,b,f,_=>⟨λs d=>by simp[bH]at d,λm=>by simp[bH];exact b,f⟩
 |x::r,mem,K,v,b,f,hl=>by
   have e:=hl x S8;have k:=xn a su x.1 x.2 mem v (λt g=>have q:=e.2.2 t g;⟨q.1,q.2.1,q.2.2.2.1⟩);have u:=Ga a su x.1 x.2 mem e.1 b e.2.1 (λt g=>have q:=e.2.2 t g;⟨q.2.2.1,q.2.2.2.1,q.2.2.2.2⟩);have j:=Gh (su:=su) (h:=x.1) (cI:=x.2) (K:=K) (st:=[]) f;by_cases h0:(bD a su x.1 x.2 mem K []).1=0
   .have⟨z,n,a3⟩:=ze a su r (bD a su x.1 x.2 mem K []).2.2 _ k.pt u.1 j (λy w=>hl y (by simp[w]));rw[bH,aS (by rw[h0];simp)];refine⟨λs d=>?_,λm=>?_,a3⟩;.grind
    .cases m with
     |zero=>simp;exact b
     |succ m=>rw[QT,Wi,gN,<-k.at_];exact n m
   .rw[bH,bF h0];exact⟨λs d=>by simp at d,λm=>by rw[List.take_nil,List.flatten_nil];exact b,j⟩
def AK:∀(l:List Nat) (m:List (List dA)),m.length=l.length->(po l m).length=l.length
 |[],_,_=>rfl
 |_::_,[],h=>by simp at h
 |i::l,s::m,h=>by simp[po];rw[AK l m (by simpa using h)]
def qY:∀(l:List Nat) (m:List (List dA)) (k:Nat) (z:xJ),(po l m)[k]?=some z->l[k]?=some z.ix/\m[k]?=some z.st
 |[],_,_,_,h=>by simp[po]at h
 |_::_,[],_,_,h=>by simp[po]at h
 |i::l,s::m,0,z,h=>by simp[po]at h;subst h;exact⟨rfl,rfl⟩
 |i::l,s::m,k+1,z,h=>by have:=qY l m k z (by simpa[po]using h);simpa using this
def tJ:∀(l:List Nat) (m:List (List dA)) (k:Nat),m.length=l.length->eT ((po l m).take k)=(m.take k).flatten
 |[],[],k,_=>by simp[po,eT]
 |[],_::_,_,h=>by simp at h
 |_::_,[],_,h=>by simp at h
 |i::l,s::m,0,_=>by simp[eT]
 |i::l,s::m,k+1,h=>by have:=tJ l m k (by simpa using h);rw[QT,Wi,<-this];rfl
def mG(l m):eT (l++m)=eT l++eT m:=by simp[eT]
structure Y8(a:AG)(j:Nat)(y:BN):Prop where
 len:(gF a j y.aU).length<=y.aU
 pos:0<(gF a j y.aU).length
 fork:cC a j y.aU<=a.ch.length
 at_:∀(k i:Nat),(gF a j y.aU)[k]?=some i->∃z,a.bl[i]?=some z/\0<i/\¬yl a.ch z.aU i/\z.aU=cC a j y.aU+k/\z.bad=false
 par:∀(k i:Nat) (z:BN),(gF a j y.aU)[k+1]?=some i->a.bl[i]?=some z->(gF a j y.aU)[k]?=some z.par
 aaz:∀(i:Nat) (z:BN),(gF a j y.aU)[0]?=some i->a.bl[i]?=some z->∃q,a.ch[cC a j y.aU -1]?=some q/\q.ix=z.par
 last:(gF a j y.aU)[(gF a j y.aU).length -1]?=some j
def Jz{a j y}(h:vA a)(r:a.bl[j]?=some y)(t:y.bad=false)(w:¬yl a.ch y.aU j):Y8 a j y:=by
 have⟨q,m,b⟩:=Qs h (y.aU+1) j y r (nR _);have g:gF a j y.aU=(Uu a.bl a.ch (y.aU+1) j).reverse:=rfl;generalize Uu a.bl a.ch (y.aU+1) j=u at b g;have hl:(gF a j y.aU).length=u.length:=by rw[g,zw]
 have hlen:=b.len;have v:cC a j y.aU=m.aU+1:=by unfold cC;rw[hl];omega
 have x:0<u.length:=by
  obtain e|e:=qy u.length;.have:u=[]:=oL e;subst this;have p:=b.at0;have e2:=b.hq;have e3:=b.inq;simp only[vJ,lI,gA]at p;subst p;rw[r]at e2;cases e2;exact absurd e3 w
  .exact e
 obtain⟨C,s,A⟩:∃z,a.ch[m.aU]?=some z/\z.ix=q:=by have:=b.inq;unfold yl at this;cases f:a.ch[m.aU]? with
  |none=>rw[f]at this;cases this
  |some z=>rw[f]at this;simp only[dM,gA]at this;exact⟨z,rfl,this⟩
 have D:=(bW.1 s).1;have l:∀k i:Nat,(gF a j y.aU)[k]?=some i->k<u.length/\u[u.length -1 -k]?=some i:=λk i d=>by grind
 refine⟨O9,O9,O9,λk i d=>?_,λk i z d f=>?_,λi z d f=>?_,?_⟩;.have⟨h1,h2⟩:=l k i d;have⟨z,c,n,z3,z4,z5,o⟩:=b.at_ _ i h2;exact⟨z,c,n,z3,O9,o t⟩
 .have⟨h1,h2⟩:=l (k+1) i d;have⟨B,c,n,z3,z4,z5,o⟩:=b.at_ _ i h2;rw[f]at c;cases c;rw[g,Hd O9];rw[show u.length -1 -(k+1)+1=u.length -1 -k from by omega,mQ O9]at z4;exact z4
 .have⟨h1,h2⟩:=l 0 i d;have⟨B,c,n,z3,z4,z5,o⟩:=b.at_ _ i h2;rw[f]at c;cases c;rw[show u.length -1 -0+1=u.length from by omega,eA L9,rI]at z4;simp only[lI,gA]at z4;exact⟨C,by rw[v];exact s,A.trans z4⟩
 .have e:=b.at0;rw[mQ x]at e;rw[hl,g,Hd O9,show u.length -1 -(u.length -1)=0 from by omega];exact e
def qX{α:Type}{l m:List α}{f}(a:f<=l.length){i x}(h:(l.take f++m)[i]?=some x):(i<f/\l[i]?=some x)\/(f<=i/\m[i -f]?=some x):=by grind
def AG.tI(a:AG)(j:Nat)(y:BN)(J:JR):AG:={a with ch:=a.ch.take (cC a j y.aU)++po (gF a j y.aU) J.ls,mem:=J.mem}
def vA.over{a j y c}(h:vA a)(W:Y8 a j y)(hl:c.ls.length=(gF a j y.aU).length)(h1:fD (goes qg (eT (a.ch.take (cC a j y.aU)))) c.ls.flatten)(h2:∀s∈c.ls,s.length<=200)(t:∀m,BS (goes (goes qg (eT (a.ch.take (cC a j y.aU)))) (c.ls.take m).flatten)):vA (a.tI j y c):=by
 have H:1<=cC a j y.aU:=by unfold cC;have:=W.len;omega
 have l:=W.fork;have r:∀(i:Nat) (z:xJ),(a.tI j y c).ch[i]?=some z->(i<cC a j y.aU/\a.ch[i]?=some z)\/(cC a j y.aU<=i/\(gF a j y.aU)[i -cC a j y.aU]?=some z.ix/\c.ls[i -cC a j y.aU]?=some z.st):=λi z b=>by
  obtain q|⟨p,d⟩:=qX l b;.simp_all
  .have⟨D,E⟩:=qY _ _ _ _ d;exact .inr ⟨p,D,E⟩
 have n:∀(i:Nat) (z:xJ),i<cC a j y.aU->a.ch[i]?=some z->(a.tI j y c).ch[i]?=some z:=λi z hi b=>by show(a.ch.take (cC a j y.aU)++_)[i]?=some z;rw[mQ (by rw[jO];omega),QR hi];exact b
 have B:∀(k i:Nat),(gF a j y.aU)[k]?=some i->∃z,(a.tI j y c).ch[cC a j y.aU+k]?=some z/\z.ix=i:=λk i f=>by have w:=(bW.1 f).1;have e:=bR (show k<(po (gF a j y.aU) c.ls).length by rw[AK _ _ hl];exact w);have q:=(qY _ _ _ _ e).1;rw[f]at q;refine⟨_,?_,(iQ q).symm⟩;show(a.ch.take (cC a j y.aU)++_)[cC a j y.aU+k]?=some _;rw[eA (by rw[jO];omega),jO,vL l,show cC a j y.aU+k -cC a j y.aU=k from by omega];exact e
 have A:fD qg (eT (a.ch.take (cC a j y.aU))):=by have:=h.path;rw[<-Ce (cC a j y.aU) a.ch,mG]at this;exact this.left.1
 have C:eT (po (gF a j y.aU) c.ls)=c.ls.flatten:=by have:=tJ (gF a j y.aU) c.ls (po (gF a j y.aU) c.ls).length hl;rw[iR,AK _ _ hl,<-hl,iR]at this;exact this
 refine⟨h.first,h.par,?_,λk z b=>?_,λk z x b o=>?_,?_,λz b=>?_,λg=>?_,h.ids,h.ll⟩;.have⟨z,b,e⟩:=h.ch0;exact⟨z,n 0 z O9 b,e⟩
 .obtain⟨_,q⟩|⟨p,d,_⟩:=r k z b;.exact h.ch k z q
  .have⟨x,F,I,J,K,G⟩:=W.at_ _ _ d;exact⟨x,F,O9,G⟩
 .rcases r (k+1) z b with⟨q0,q⟩|⟨p,d,_⟩;.have⟨v,v1,v2⟩:=h.link k z x q o;exact⟨v,n k v O9 v1,v2⟩
  .by_cases e:k+1=cC a j y.aU;.rw[show k+1 -cC a j y.aU=0 from by omega]at d;have⟨v,v1,v2⟩:=W.aaz _ x d o;exact⟨v,n k v O9 (by rw[show k=cC a j y.aU -1 from by omega];exact v1),v2⟩
   .rw[show k+1 -cC a j y.aU=(k -cC a j y.aU)+1 from by omega]at d;have⟨v,v1,v2⟩:=B _ _ (W.par _ _ x d o);exact⟨v,by rw[show k=cC a j y.aU+(k -cC a j y.aU)from by omega];exact v1,v2⟩
 .show fD qg (eT (a.ch.take _++po _ _));rw[mG,C];exact A.append h1
 .obtain b|b:=mP.1 b;.exact h.len z (Wq b)
  .have⟨k,f⟩:=nH.1 b;exact h2 _ (cS (qY _ _ _ _ f).2)
 .show BS (goes qg (eT ((a.ch.take _++po _ _).take g)));rw[List.take_append,mG,gN,V4,jO,vL l,tJ _ _ _ hl];by_cases u:g<=cC a j y.aU;.rw[show g -cC a j y.aU=0 from by omega,vL u];exact h.Du g
  .rw[Nat.min_eq_right O9];exact t _
def IU{w nb j k c s L a}{y:BN}{W:List WB}(_h:gM w nb k c s L a)(b:∀x∈W,x.Ok s.l)(d:W.map WB.m=(gF a j y.aU).map (mA a.bl)):∀x∈(gF a j y.aU).map (mA a.bl),x.1<9223372036854775808/\x.2.length<=8/\∀t∈x.2,t.id.size<=1000000/\(∀i∈t.ins,i.Small)/\t.ins.length<=8/\t.outs.length<=8/\∀o∈t.outs,o.Small:=by rw[<-d];intro v g;obtain⟨x,h,rfl⟩:=iF.1 g;have o:=b x h;refine⟨o.hh,by show(x.Q.map rD.t).length<=8;rw[eY];exact o.q8,λt f=>?_⟩;obtain⟨n,e,rfl⟩:=iF.1 f;have:=o.q n e;exact⟨this.id,this.si,this.li,this.lo,this.so⟩
def ae6{w w' nb j J I c s L f a y r}{W:List WB}{T}(h:gM w nb oG c s L a)(C:a.bl[j]?=some y)(aa:y.bad=false)(bh:¬yl a.ch y.aU j)(S:s.l[j]?=some r)(a6:∀x∈W,x.Ok s.l)(a2:W.map WB.m=(gF a j y.aU).map (mA a.bl))(Y:∀(k:Nat) (i:Nat) (x:WB),(gF a j y.aU)[k]?=some i->W[k]?=some x->s.l[i]?=some x.b)(π:W.length=(gF a j y.aU).length)(a8:(cR c a j y.aU).e=0)(av:aQ w' s.gs s.n s.sb s.mb (cR c a j y.aU).K)
 (hN:oK w' nb s.B c.me.toNat (((s.cs oG c).set 15 T).set 12 (.slice (some ⟨J,0,none⟩) (cC a j y.aU -1+W.length+1) I)) s.bv T J (cC a j y.aU -1+W.length) I s.l (eO (L.take (cC a j y.aU)++f)) (cR c a j y.aU).mem)
 (bf:f.map eD.st=(cR c a j y.aU).ls)(N:f.map eD.a=W.map (λx=>x.b.a))(a7:∀x∈f,x.At w')(tk:Tk a.lo Y1 s.n s.mb w w')(o:dO w w'):
 gM w' nb oG c {s with gc:=J,kc:=cC a j y.aU -1+W.length,cc:=I,mv:=T,L:=eO (L.take (cC a j y.aU)++f),p:=r} (L.take (cC a j y.aU)++f) (a.tI j y (cR c a j y.aU)):=by
 have t:=Jz h.wf C aa bh;have af:=IU (y:=y) h a6 a2;have⟨μ,V,br,bu,ai⟩:=zb c.me.toNat c.su _ a.mem _ (Ih _) (h.wf.Du (cC a j y.aU)) af;have⟨aj,ak,ao⟩:=ze c.me.toNat c.su _ a.mem _ (Ih _) (h.wf.Du (cC a j y.aU)) h.base.mem af;change (cR c a j y.aU).K=goes _ (cR c a j y.aU).st at μ;change fD _ (cR c a j y.aU).st at V;change (cR c a j y.aU).e=0->(cR c a j y.aU).st=(cR c a j y.aU).ls.flatten/\(cR c a j y.aU).ls.length=_ at ai;change ∀s∈(cR c a j y.aU).ls,_ at aj;change ∀m,BS (goes _ ((cR c a j y.aU).ls.take m).flatten)at ak;change (cR c a j y.aU).mem.length<=_ at ao;have⟨ar,e2⟩:=ai a8;rw[eY]at e2;rw[ar]at μ V;generalize cR c a j y.aU=d at*;have R:=h.wf.over t e2 V aj ak;have ba:1<=cC a j y.aU:=by unfold cC;have:=t.len;omega
 have g:=t.fork;have ah:=AK (gF a j y.aU) d.ls e2;have M:(a.tI j y d).ch.length=cC a j y.aU+W.length:=by show(a.ch.take _++po _ _).length=_;rw[bY,jO,vL g,ah,π]
 have bp:=t.pos;have X:f.length=W.length:=by have:=congrArg List.length N;simpa using this
 have bq:=(bW.1 C).1;have D:=h.tie j r y S C;have bc:cC a j y.aU -1+W.length=y.aU:=by unfold cC at ba|-;have:=t.len;omega
 have P:cY (a.tI j y d)=y:=by
  unfold cY;have ab:(po (gF a j y.aU) d.ls)[(gF a j y.aU).length -1]?=some _:=bR O9;have ag:=(qY _ _ _ _ ab).1;rw[t.last]at ag;have e3:(a.tI j y d).ch[(a.tI j y d).ch.length -1]?=(po (gF a j y.aU) d.ls)[(gF a j y.aU).length -1]?:=by rw[M];show(a.ch.take _++po _ _)[_]?=_;rw[eA (by rw[jO,vL g];omega),jO,vL g];congr 1;omega
  rw[e3,ab,vK,<-iQ ag];show(a.bl[j]?).getD _=y;rw[C];rfl
 have ay:(a.tI j y d).K=d.K:=by show goes qg (eT (a.ch.take _++po _ _))=_;have:=tJ (gF a j y.aU) d.ls (po (gF a j y.aU) d.ls).length e2;rw[iR,ah,<-e2,iR]at this;rw[mG,gN,this,μ]
 have hle:=h.wf.hle j y C;have A:=h.base;have az:∀gt Q,mO w gt Q->mO w' gt Q:=λ_ _ q=>q.tk tk (o5 D9 D9 D9 D9 D9) (o5 D9 D9 D9 D9 D9) (o5 D9 D9 D9 D9 D9);have bd:=R.MP;refine⟨⟨hN,by show aQ w' s.gs s.n s.sb s.mb (a.tI j y d).K;rw[ay];exact av,A.N8,cS S,D.bad.trans aa,?_,?_,za _,A.ids,?_,?_,?_,A.len,?_,?_,?_,ao,A.cok,A.low⟩,rfl,R,h.ll,λi x v F E=>(h.tie i x v F E).move az (λk p bj=>⟨p,bj,rfl⟩) (cS F),h.nda,?_,λi x v F E=>?_⟩;.show r.aU=((cC a j y.aU -1+W.length:Nat):Int);rw[D.aU,bc]
 .show(eO (L.take (cC a j y.aU)++f))[(cC a j y.aU -1+W.length)*2]?=some (.pointer r.a);have e:=bR (show W.length -1<f.length by omega);have z:=bR (show W.length -1<W.length by omega);have O:(f.map eD.a)[W.length -1]?=(W.map (λx=>x.b.a))[W.length -1]?:=by rw[N]
  rw[cL,cL,e,z]at O;simp only[dM,gA]at O;have ae:=Y (W.length -1) j _ (by rw[π];exact t.last) z;rw[S]at ae;have bb:(L.take (cC a j y.aU)++f)[cC a j y.aU -1+W.length]?=some f[W.length -1]:=by rw[eA (by rw[jO,h.cl];omega),jO,h.cl,vL g,show cC a j y.aU -1+W.length -cC a j y.aU=W.length -1 from by omega];exact e
  rw[(qW _ _ _ bb).1,O,<-iQ ae]
 .show r.id=(cY _).id;rw[P];exact D.id
 .show cC a j y.aU -1+W.length=(a.tI j y d).ch.length -1;rw[M];omega
 .show r.wo=(cY _).wo;rw[P];exact D.wo
 .show(a.tI j y d).ch.length -1+1<=(a.bl.map BN.id).length;rw[eY];have:(a.tI j y d).ch.length<=a.bl.length:=bd;omega
 .show 0<=(cY _).wo/\(cY _).wo<=256*((a.bl.map BN.id).length:Int);rw[P,eY];omega
 .show BS (a.tI j y d).K;have:=R.Du (a.tI j y d).ch.length;rw[iR]at this;exact this
 .rw[M,bY,jO,h.cl,vL g,X]
 .rcases qX (by rw[h.cl];exact g) F with⟨bk,u⟩|⟨bk,u⟩
  .obtain⟨_,v2⟩|⟨v1,_⟩:=qX g E;.have⟨h1,h2,au⟩:=h.Y4 i x v u v2;exact⟨h1,h2.old o,au⟩
   .omega
  .obtain⟨v1,_⟩|⟨_,v2⟩:=qX g E;.omega
   .have⟨bm,bo⟩:=qY _ _ _ _ v2;have bg:i -cC a j y.aU<W.length:=by rw[<-X];exact(bW.1 u).1
    have z:=bR bg;have G:(f.map eD.st)[i -cC a j y.aU]?=d.ls[i -cC a j y.aU]?:=by rw[bf]
    rw[cL,u,bo]at G;have H:(f.map eD.a)[i -cC a j y.aU]?=(W.map (λx=>x.b.a))[i -cC a j y.aU]?:=by rw[N]
    rw[cL,cL,u,z]at H;simp only[dM,gA]at G H;exact⟨G,a7 x (cS u),_,Y _ _ _ bm z,H.symm⟩
def vA.clean{a}(h:vA a){i z}(hi:a.bl[i]?=some z)(m:¬yl a.ch z.aU i):∀(k:Nat) (v:xJ),a.ch[k]?=some v->(GY a.bl i).getD v.ix false=false:=by
 have j:∀(k:Nat) (v:xJ),a.ch[k]?=some v->v.ix≠i:=λk v b e=>by have⟨x,c,d,_⟩:=h.ch k v b;rw[e,hi]at c;cases c;exact m (by unfold yl;rw[d,b,<-e];rfl)
 intro k;induction k with
 |zero=>intro v b;have⟨v0,l,g⟩:=h.ch0;rw[b]at l;cases l;have⟨x,c,d,f⟩:=h.ch 0 v b;rw[BZ c (λh0=>(h.par _ x c h0).1),f,g];have:=j 0 v b;rw[g]at this;simp[this]
 |succ k n=>intro v b;have⟨x,c,d,f⟩:=h.ch (k+1) v b;have⟨q,o,p⟩:=h.link k v x b c;rw[BZ c (λh0=>(h.par _ x c h0).1),f,<-p,n q o];simp[j (k+1) v b]
def get_map{α β:Type}{f}{l:List α}{i}{y:β}(h:(l.mapIdx f)[i]?=some y):∃x,l[i]?=some x/\f i x=y:=by simp_all
def lW{α β:Type}{f:Nat->α->β}{l:List α}{i x}(h:l[i]?=some x):(l.mapIdx f)[i]?=some (f i x):=by simp_all
def ago{a}(h:vA a){i j x}(c:a.bl[i]?=some x)(b:(GY a.bl j).getD i false=false):x.bad=false:=by rw[BZ c (λh0=>(h.par _ x c h0).1)]at b;simp at b;exact b.1.1
def AG.spoilt(a:AG)(i:Nat)(m:List bX):AG:={a with bl:=gG a.bl i,mem:=m}
def vA.agp{a}(h:vA a){i z}(hi:a.bl[i]?=some z)(n:¬yl a.ch z.aU i)(m):vA (a.spoilt i m):=by
 have j:=h.clean hi n;refine⟨?_,λk x d h0=>?_,h.ch0,λk v c=>?_,λk v x c d=>?_,h.path,h.len,h.Du,?_,?_⟩;.have⟨x,f,g,l,w⟩:=h.first;have⟨v,v1,v2⟩:=h.ch0;have:=j 0 v v1;rw[v2]at this;exact⟨_,lW f,g,l,this⟩
 .obtain⟨b,h1,rfl⟩:=get_map d;have⟨o,p,q,r,s,t,u⟩:=h.par k b h1 h0;refine⟨o,_,lW q,r,s,t,λe=>?_⟩;show(GY a.bl i).getD k false=true;have e2:(GY a.bl i).getD b.par false=true:=e;rw[BZ h1 (λh0=>(h.par _ b h1 h0).1),e2];simp[h0]
 .have⟨x,f,g,l⟩:=h.ch k v c;exact⟨_,lW f,g,j k v c⟩
 .obtain⟨b,h1,rfl⟩:=get_map d;exact h.link k v b c h1
 .show((gG a.bl i).map BN.id).Nodup;have e:(gG a.bl i).map BN.id=a.bl.map BN.id:=by apply kF;intro k;rw[cL,cL];unfold gG;rw[oU];cases a.bl[k]?<;>rfl
  rw[e];exact h.ids
 .show(gG a.bl i).length<=49;unfold gG;rw[Ww];exact h.ll
def rB(bl i):(gG bl i).map BN.id=bl.map BN.id:=by apply kF;intro k;rw[cL,cL];unfold gG;rw[oU];cases bl[k]?<;>rfl
def BN.DU{x:BN}(h:x.bad=false):x.mark false=x:=by cases x;simp only at h;subst h;rfl
def aaB:=@BN.DU
def kL.DU{x:kL}(h:x.bad=false):x.mark false=x:=by cases x;simp only at h;subst h;rfl
def agq{w w' nb i c s L a z M G}(h:gM w nb oG c s L a)(hi:a.bl[i]?=some z)(O:¬yl a.ch z.aU i)(μ:M.length<=c.me.toNat)(T:aQ w' s.gs s.n s.sb s.mb a.K)(hN:oK w' nb s.B c.me.toNat ((s.cs oG c).set 15 G) s.bv G s.gc s.kc s.cc (s.l.mapIdx λk y=>y.mark ((GY a.bl i).getD k false)) s.L M)(tk:Tk a.lo Y1 s.n s.mb w w')(o:dO w w'):
 gM w' nb oG c {s with mv:=G,l:=s.l.mapIdx λk y=>y.mark ((GY a.bl i).getD k false)} L (a.spoilt i M):=by
 have J:=h.wf.clean hi O;have ab:=h.wf.agp hi O M;have d:=h.base;have V:∀gt Q,mO w gt Q->mO w' gt Q:=λ_ _ q=>q.tk tk (o5 D9 D9 D9 D9 D9) (o5 D9 D9 D9 D9 D9) (o5 D9 D9 D9 D9 D9);have N:(s.l.mapIdx λk y=>y.mark ((GY a.bl i).getD k false)).map kL.id=s.l.map kL.id:=by apply kF;intro k;rw[cL,cL,oU];cases s.l[k]?<;>rfl
 have I:(s.l.mapIdx λk y=>y.mark ((GY a.bl i).getD k false)).map kL.a=s.l.map kL.a:=by apply kF;intro k;rw[cL,cL,oU];cases s.l[k]?<;>rfl
 have⟨A,t1,t2,t3,t4,t5⟩:=h.wf.vp;have E:cY (a.spoilt i M)=cY a:=by
  have e:cY (a.spoilt i M)=(cY a).mark ((GY a.bl i).getD A.ix false):=by unfold cY;show((a.ch[a.ch.length -1]?).bind λy=>(gG a.bl i)[y.ix]?).getD _=_;rw[t1,vK];unfold gG;rw[lW t2,vK,t2];rfl
  rw[e,J _ A t1,aaB t4]
 have aa:∀(k:Nat) (x:kL),s.l[k]?=some x->∃y,a.bl[k]?=some y:=λk x j=>⟨_,bR (by rw[<-h.ll];exact(bW.1 j).1)⟩;have π:s.p∈s.l.mapIdx λk y=>y.mark ((GY a.bl i).getD k false):=by
  have⟨k,D⟩:=nH.1 d.vp;have⟨v,r⟩:=aa k _ D;have g:=h.tie k _ v D r;have X:k=A.ix:=by
   have u:(a.bl.map BN.id)[k]?=some s.p.id:=by rw[cL,r,dM,g.id]
   have e2:(a.bl.map BN.id)[A.ix]?=some s.p.id:=by rw[cL,t2,dM];exact congrArg some d.tid.symm
   exact(D8 (bW.1 u).1 h.wf.ids).1 (u.trans e2.symm)
  have e:=lW (f:=λk y=>kL.mark y ((GY a.bl i).getD k false)) D;rw[X,J _ A t1,kL.DU d.jZ]at e;exact cS e
 have Y:(gG a.bl i).length=a.bl.length:=by unfold gG;rw[List.length_mapIdx]
 refine⟨⟨hN,T,by show(List.map kL.id _).Nodup;rw[N];exact d.N8,π,d.jZ,d.ph,d.link,d.L1,?_,?_,d.kc,?_,?_,?_,?_,d.Du,μ,d.cok,d.low.1,d.low.2.1,λx j=>?_⟩,h.sl,ab,?_,λk x v j r=>?_,by show(List.map kL.a _).Nodup;rw[I];exact h.nda,h.cl,λk x v j r=>?_⟩;.show List.map kL.id _=(gG a.bl i).map BN.id;rw[N,rB];exact d.ids
 .show s.p.id=(cY _).id;rw[E];exact d.tid
 .show s.p.wo=(cY _).wo;rw[E];exact d.wo
 .show((gG a.bl i).map BN.id).length<=49;rw[rB];exact d.len
 .show a.ch.length -1+1<=((gG a.bl i).map BN.id).length;rw[rB];exact d.kl
 .show 0<=(cY _).wo/\(cY _).wo<=256*(((gG a.bl i).map BN.id).length:Int);rw[E,rB];exact d.wb
 .have:x.a∈s.l.map kL.a:=by rw[<-I];exact xS j
  have⟨ah,h1,h2⟩:=iF.1 this;rw[<-h2];exact d.low.2.2 ah h1
 .show(List.mapIdx _ s.l).length=(gG a.bl i).length;rw[Ww,Y];exact h.ll
 .obtain⟨H,ae,rfl⟩:=get_map j;obtain⟨v0,P,rfl⟩:=get_map r;have g:=h.tie k H v0 ae P;refine⟨g.id,g.aU,g.wo,rfl,g.aaz,λh0=>?_,λW h0=>?_⟩;.have⟨p,af,ag⟩:=g.par h0;exact⟨_,lW af,ag⟩
  .have C:(GY a.bl i).getD k false=false:=W;have F:=ago h.wf P C;have⟨q,e,ok,t,m⟩:=g.cI F h0;have u:H.mark ((GY a.bl i).getD k false)=H:=by rw[C,kL.DU (g.bad.trans F)]
   have e2:v0.mark ((GY a.bl i).getD k false)=v0:=by rw[C,aaB F]
   refine⟨q,e.trans u.symm,⟨ok.tv,ok.q,ok.q0,ok.q8,ok.qc,?_,ok.hh⟩,V _ _ t,by rw[e2];exact m⟩;rw[e,<-u];exact cS j
 .have⟨h1,h2,b,R,S⟩:=h.Y4 k x v j r;exact⟨h1,h2.old o,_,lW R,S⟩
end
end Go.Proofs.aH
