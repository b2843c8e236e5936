import Derived.Test.YtpjcmpfncpnmeabGreatM20
set_option linter.all false
set_option maxHeartbeats 16000000
set_option maxRecDepth 100000
namespace Go.Proofs.aH
open Go.RowKit Go.Shelf Go.Seq Tryz
attribute [local go_sem↓] Go.wp_at_zero Go.wp_at_succ
section
attribute [local go_sem] Oper.semAt_some
variable{LB:Nat}
structure OvG(w W:World)(nb B most:Nat)(cs:List Value)(bv mv:Value)(gc kc cc:Nat)(l:List kH)(L:List eI)(mem:List bX)(gs n:Nat)(sb mb:Nat->Nat)(K:jO)(Ws:List WB):Prop where
 r0:Row W w.heap.size 44 [.int .i64 0,.int .i64 0]
 tr:bM W (w.heap.size+1) gs n (.slice none 0 0) []
 rb:Row W (w.heap.size+1+1) 159 [.pointer (some ⟨w.heap.size+1,0,none⟩)]
 ra:Row W (w.heap.size+1+1+1) 4 [.bool false]
 nd:oD W nb B most cs bv mv gc kc cc l (eJ L) mem
 aV:aQ W gs n sb mb K
 cO:∀x∈Ws,mM W x.gt x.Q
 below:Below w.heap.size w W
def OvG.keep{w W W' nb B c cs bv mv gc kc cc l L mem gs n sb mb K b}(h:OvG w W nb B c cs bv mv gc kc cc l L mem gs n sb mb K b)(a:Below W W W'):OvG w W' nb B c cs bv mv gc kc cc l L mem gs n sb mb K b:=⟨h.r0.keep a h.r0.lt,⟨h.tr.row.keep a h.tr.row.lt,aX h.tr.own a⟩,h.rb.keep a h.rb.lt,h.ra.keep a h.ra.lt,h.nd.keep a,h.aV.keep a,λx d=>(h.cO x d).keep a,h.below.trans (a.mono h.below.size)⟩
def OvG.new{w nb B c cs bv mv gc kc cc l L mem gs n sb mb K b}(hN:oD w nb B c cs bv mv gc kc cc l (eJ L) mem)(d:aQ w gs n sb mb K)(e:∀x∈b,mM w x.gt x.Q):OvG w ((((w.alloc (.cells #[aA,aA] 44)).alloc (.cells #[.slice gs n n,()] 161)).alloc (.cells #[.pointer ((w:Nat)+1,0)] 159)).alloc (.cells #[aF] 4)) nb B c cs bv mv gc kc cc l L mem gs n sb mb K b:=by
 have a:Below w w ((((w.alloc (.cells #[aA,aA] 44)).alloc (.cells #[.slice gs n n,()] 161)).alloc (.cells #[.pointer ((w:Nat)+1,0)] 159)).alloc (.cells #[aF] 4)):=(((B0.alloc L9 _).alloc S8 _).alloc (by simp;omega) _).alloc (by simp;omega) _;refine⟨(((aU w [aA,aA] 44).alloc _).alloc _).alloc _,⟨?_,nB _ _ _ _⟩,?_,?_,hN.keep a,d.keep a,λx f=>(e x f).keep a,a⟩;.exact((Am (w:=w.alloc (.cells #[aA,aA] 44)) (cs:=[.slice gs n n,↑()]) S8).alloc _).alloc _
 .exact(Am (w:=(w.alloc (.cells #[aA,aA] 44)).alloc (.cells #[.slice (some ⟨gs,0,none⟩) n n,.slice none 0 0] 161)) (cs:=[.pointer (some ⟨w.heap.size+1,0,none⟩)]) S8).alloc _
 .exact Am (cs:=[↑aF]) S8
structure adO(LB:Nat)(w:World)(nb B most:Nat)(cs:List Value)(bv mv:Value)(gc kc cc:Nat)(l:List kH)(L:List eI)(mem:List bX)(gs n:Nat)(sb mb:Nat->Nat)(wk:Nat)(su:Int)(W:List WB)(pi:Nat->Option Nat)(bsF:Nat->List Bool)(b q:kH)(f:Nat):Prop where
 nd:oD w nb B most cs bv mv gc kc cc l (eJ L) mem
 aV:aQ w gs n sb mb (goes uu (dP L))
 cO:∀x∈W,mM w x.gt x.Q
 ok:∀x∈W,x.Ok l
 sp:∀x∈W,∃j,l[j]?=some x.b/\acH l j (bsF j) pi
 c6:cs[6]?=some (.int .i64 wk)
 c9:cs[9]?=some (.int .i64 su)
 c13:cs[13]?=some (.slice (some ⟨gs,0,none⟩) n n)
 wk:0<wk/\wk<=8
 su:0<=su/\su<=1000000
 ml:mem.length<=most
 ms:most<=64
 path:eZ uu (dP L)
 fl:(dP L).length<=10000
 Dr:BI (goes uu (dP (L.take f)))
 pts:∀p c,goes uu (dP (L.take f)) p=some c->c.pt=p
 Ll:L.length=kc+1
 at_:∀x∈L,x.At w
 la:∀x∈L,∃y∈l,y.a=x.a
 hr:∀x∈l,0<=x.aY
 w0:0<W.length
 wl:W.length<=50
 ll:l.length<=1000
 kl:kc<=100
 u0:((W.map WB.b).reverse++[q])[0]?=some b
 us:∀k x,(W.map WB.b).reverse[k]?=some x->x∈l/\∃y,((W.map WB.b).reverse++[q])[k+1]?=some y/\x.par=some y.a
 uc:∀x∈(W.map WB.b).reverse,(L.map eI.a)[x.aY.toNat]?≠some x.a
 ql:q∈l
 qc:(L.map eI.a)[q.aY.toNat]?=some q.a
 f0:∃x,W[0]?=some x/\x.b.aY=(f:Int)
 f1:1<=f
 fk:f<=kc+1
 ln:LB<=nb/\LB<=B
 lb:∀x∈l,LB<=x.a
def dI.ck{a w w'}(x:Ck LB a w w')(h:¬a 195):dI w w':=λk cs f b=>x.cells k cs _ f b (.inr h)
def C4:=@dI.ck
def vP.old{w w' g l}(h:vP w g l)(o:dI w w'):vP w' g l:=by have⟨cs,f,a⟩:=h.ty;have:=o g cs f a;exact⟨⟨cs,f,this⟩,λi s hi=>(h.at_ i s hi).same (this.trans a.symm)⟩
def ApartL.at_{w w' B v L}(h:ApartL w B v L)(o:dI w w'):∀x∈L,x.At w':=λx c=>by
 obtain e|⟨g,a,_,_,b⟩:=h x c;.exact .inl e
 .exact .inr ⟨g,a,b.old o⟩
def aaw(l:List eI)(i:Nat):eI:=(l[i]?).getD ⟨0,[],none,0⟩
def SV{l i x}(h:l[i]?=some x):aaw l i=x:=by unfold aaw;rw[h];rfl
def acM{nb B E gc kc cc gs n wk f cs bv mv l L mem sb mb su W fp dk b q}(w)(H:adO LB w nb B E cs bv mv gc kc cc l L mem gs n sb mb wk su W fp dk b q f):Cv 35 #[ptr nb,ptr b.a] w λe w'=>Tk LB Y1 n mb w w'/\dI w w'/\∃av,(((bR E su (W.map WB.m) mem (goes uu (dP (L.take f)))).e=0/\e=.returned (.tuple #[.agg #[((kc+1 -f:Nat):Int),(W.length:Int)],aA])/\aQ w' gs n sb mb (bR E su (W.map WB.m) mem (goes uu (dP (L.take f)))).K/\∃ew eo ak,oD w' nb B E ((cs.set 15 av).set 12 (.slice (some ⟨ew,0,none⟩) (f -1+W.length+1) eo)) bv av ew (f -1+W.length) eo l (eJ (L.take f++ak)) (bR E su (W.map WB.m) mem (goes uu (dP (L.take f)))).mem/\ak.map eI.st=(bR E su (W.map WB.m) mem (goes uu (dP (L.take f)))).ls/\ak.map eI.a=W.map (λx=>x.b.a)/\∀x∈ak,x.At w')\/((bR E su (W.map WB.m) mem (goes uu (dP (L.take f)))).e≠0/\e=.returned (.tuple #[.agg #[aA,aA],.int .i64 (bR E su (W.map WB.m) mem (goes uu (dP (L.take f)))).e])/\aQ w' gs n sb mb (goes uu (dP L))/\∃x j,W[(bR E su (W.map WB.m) mem (goes uu (dP (L.take f)))).at_]?=some x/\l[j]?=some x.b/\oD w' nb B E (cs.set 15 av) bv av gc kc cc (l.mapIdx λi y=>y.mark ((dk j).getD i false)) (eJ L) (bR E su (W.map WB.m) mem (goes uu (dP (L.take f)))).mem)):=by
 have ha:w.cell? (nb,13)=some (.slice gs n n):=by rw[H.nd.mem.row.cell];exact H.c13
 have iw:=H.nd.mem.row.lt;have au:∀i,i<n->mb i<(w:Nat):=λi hi=>(H.aV.mp i hi).lt;have p:=OvG.new H.nd H.aV H.cO;have b8:(W.map WB.b).reverse.length=W.length:=by simp
 have ih:=H.fk;have ie:=H.f1;have ij:=H.kl;have d:=aL H;clear H;replace au:=aL au;replace b8:=aL b8;unfold ptr;refine CI (fA func35) rfl ?_;simp only[ntmps35,oH,fL,jU,Nat.reduceAdd,Nat.reduceSub,Q7,Q8,Q9,KI,vI,D3];go_wp2;generalize(((w.alloc (.cells #[aA,aA] 44)).alloc (.cells #[.slice gs n n,()] 161)).alloc (.cells #[.pointer (some ⟨(w:Nat)+1,0,none⟩)] 159)).alloc (.cells #[aF] 4)=X at p|-;clear ha;have di:X.cell? (nb,12)=some (.slice gc (kc+1) cc):=by rw[p.nd.mem.row.cell];exact p.nd.N6
 have bf:∀G,OvG w G nb B E cs bv mv gc kc cc l L mem gs n sb mb (goes uu (dP L)) W->∀i x,L[i]?=some x->G.cell? (gc,i*2)=some (.pointer x.a)/\G.cell? (gc,i*2+1)=some (.slice x.sa x.st.length x.sc):=λG h i x z=>by obtain⟨bz,ao⟩:=uM L i x z;have q0:=h.nd.chain.cells (g:=gc) rfl _ _ bz;have bj:=h.nd.chain.cells (g:=gc) rfl _ _ ao;rw[add0]at q0 bj;exact⟨q0,bj⟩
 have ea:=VA nb gc (kc+1) cc l (L.map eI.a) b q (W.map WB.b).reverse X di (by rw[fM];exact d.out.Ll) O9 (λi a hi=>by rw[cT]at hi;cases z:L[i]? with
    |none=>rw[z]at hi;cases hi
    |some x=>rw[z]at hi;simp only[dY,gW]at hi;subst hi;exact⟨(bf X p i x z).1,d.out.la x (cU z)⟩)
  (λx z=>⟨p.nd.rf.row x z,d.out.hr x z⟩) d.out.u0 d.out.us d.out.uc d.out.ql d.out.qc (by rw[b8.out];exact d.out.w0) (by rw[b8.out];have:=d.out.wl;omega)
 rw[b8.out]at ea;refine ea.mono ?_;rintro e w1 ⟨g,wc,rfl,μ,e6⟩;rw[List.reverse_reverse]at μ;replace p:=p.keep e6;obtain⟨ai,cz,fh⟩:=d.out.f0;have fi:=d.out.ok ai (cU cz);have bz:w1.cell? (g,0)=some (.pointer ai.b.a):=by have:=μ.cells (g:=g) rfl 0 (Vz ai.b) (by rw[pD,cT,cz];rfl);rwa [add0]at this
 have b2:w1.cell? (ai.b.a,2)=some ↑(f:Int):=by rw[<-fh];exact(p.nd.rf.row ai.b fi.mem).cell 2
 replace di:w1.cell? (nb,12)=some (.slice gc (kc+1) cc):=by rw[p.nd.mem.row.cell];exact p.nd.N6
 have ib:kc+1<=cc:=by
  obtain⟨h0,_⟩|⟨g',cap,cur,dz,_,_,ae,_⟩:=p.nd.chain.2;.cases h0
  .cases dz;exact ae
 have gp:=d.out.w0;have g8:(0:Int)<(W.length:Int):=O9;have i0:(0:Int)<=(f:Int):=O9;have g5:(f:Int)<=((kc+1:Nat):Int):=O9;have g6:(f:Int)<=(cc:Int):=O9;have g7:((kc+1:Nat):Int)<=(cc:Int):=O9;replace bf:=aL bf;replace cz:=aL cz;clear ea e6 fh fi;go_wp2;go_quiet (fail);have e8:Below w1 w1 (w1.drewN nq):=mY B0;replace p:=p.keep e8;replace μ:(w1.drewN nq).ownsRow ↑X 114 1 (.slice g W.length wc) W.length ((W.map WB.b).map Vz):=μ;clear e8 b2 di i0 g5 g6 g7 bz g8;generalize w1.drewN nq=G at p μ|-;obtain⟨N,cw⟩:∃N,kc+1 -f=N:=⟨_,rfl⟩;have ig:f+N=kc+1:=O9;have GZ:∃la,(if cc=f then some (⟨gc,0,none⟩:Addr)else some ⟨gc,f*2,none⟩)=la/\(N=0\/la=some ⟨gc,f*2,none⟩):=by
  refine⟨_,rfl,?_⟩;by_cases e:N=0;.exact .inl e
  .exact .inr (aT O9)
 obtain⟨la,fa,GZ⟩:=GZ;rw[fa,cw];clear fa;generalize cc -f=Y;replace cw:=aL cw;replace GZ:=aL GZ;go_wp2;refine(GV la N Y G).mono ?_;rintro e w2 ⟨rfl,rfl⟩;have du:Below G G (G.alloc (.cells #[.slice la N Y] 99)):=B0.alloc L9 _;have gn:=p.ra.lt;have bu:=aU G [.slice la N Y] 99;replace p:=p.keep du;replace μ:=aX μ du;have gq:(w:Nat)+1<(G:Nat):=by have:=gn;omega
 generalize gu:(G:Nat)=bq at bu gq|-;generalize G.alloc (.cells #[.slice la N Y] 99)=P at p bu μ|-;clear du gu;have dx:∀i,i<n->mb i<(P:Nat):=λi hi=>by have:=au.out i hi;have:=p.below.size;omega
 have fc:=p.aV.maps;have b7:∃Rd,Mb Fence.wide 2 Vp 97 #[.pointer bq] (Gi N (aaw (L.drop f))) N Rd/\∀k W',Qt P ((w:Nat)+1) gs n sb mb L k W'->Rd W':=by
  have ic:=bf.out P p;have ff:∀k W',Qt P ((w:Nat)+1) gs n sb mb L k W'->W'.cell? (bq,0)=some (.slice la N Y):=λk W' h=>(bu.xo h.x (λe=>by
   obtain e|e:=e;.exact p.aV.mF bu e
   .omega) (.inr (by unfold wL;decide))).cell 0
  obtain rfl|rfl:=GZ.out;.exact⟨_,Qk bq Y la _,ff⟩
  .refine⟨_,Vv bq gc (f*2) N Y (aaw (L.drop f)) O9,λk W' h=>⟨ff k W' h,λi hi=>?_⟩⟩;have z:=bS (show f+i<L.length by rw[d.out.Ll];omega);generalize L[f+i]'(by rw[d.out.Ll];omega)=x at z;rw[SV (x:=x) (by rw[V9];exact z)];obtain⟨bz,ao⟩:=uM L (f+i) x z;have e9:=ZN p.nd.chain h.x (λk cs ae _=>by
    rintro(e|e);.exact p.aV.tK ae e
    .subst e;have a8:=p.tr.row;unfold Row at a8;rw[a8]at ae;cases ae) (by unfold wL;decide)
   have q0:=e9.cells (g:=gc) rfl _ _ bz;have bj:=e9.cells (g:=gc) rfl _ _ ao;rw[add0]at q0 bj;rw[show(f+i)*2=f*2+i*2 from by omega]at q0 bj;exact⟨q0,bj⟩
 obtain⟨Rd,b7,dq⟩:=b7;have b4:Qt P ((w:Nat)+1) gs n sb mb L 0 P:=by refine⟨by rw[Ra,jI];exact p.aV,⟨_,by rw[Ra,WM];exact p.tr⟩,iT _ _⟩
 replace b4:=aL b4;go_wp2;refine Mc (gf:=97) (lb:=#[.pointer bq]) rfl (enters_of (fA func97) K8 rfl) b7 (λk=>rfl) (Qt P ((w:Nat)+1) gs n sb mb L) (Qt.own dx) dq b4.out (λk a' W'=>∃a6 x,L[f+(N -1 -k)]?=some x/\Row W' a6 123 x.cells/\a'={tmps:=#[.pointer nb,.pointer b.a,undef,undef,.pointer w.heap.size,↑aA,.pointer ((w:Nat)+1+1,0),.pointer ((w:Nat)+1+1+1,0),.slice g W.length wc,↑(f:Int),.slice gc f cc,.slice la N Y,undef,.pointer (some ⟨a6,0,none⟩),undef,undef,.pointer nb,.pointer nb,.pointer (nb,13),.agg #[.slice gs n n],.agg #[.slice gs n n,()],.pointer ((w:Nat)+1,0),.func (.func 69) #[] #[.pointer ((w:Nat)+1+1+1,0),.pointer ((w:Nat)+1+1,0)],.pointer nb,.pointer b.a,.slice g W.length wc,.slice g W.length wc,.pointer g,.pointer ai.b.a,.pointer ai.b.a,.pointer (ai.b.a,2),↑(f:Int),.pointer nb,.pointer nb,.pointer (nb,12),.slice gc (kc+1) cc,↑(f:Int),.slice gc f cc,.pointer nb,.pointer nb,.pointer (nb,12),.slice gc (kc+1) cc,↑(f:Int),.slice la N Y,.slice la N Y,.func (.func 97) #[] #[.pointer bq],↑((N -1 -k:Nat):Int),.agg #[.pointer x.a,.slice x.sa x.st.length x.sc],undef,undef,undef,undef,undef,undef,undef,undef,undef,undef,undef,undef,undef,undef,undef,undef,undef,undef,undef,undef,undef,undef,undef,undef,undef,undef,undef],defers:=[]}) ?assign ?ax ?body ?done
 case ax=>rintro k a' W' da o o' ⟨a6,x,h1,h2,a8⟩ ik gy gz;exact⟨a6,x,h1,lR (grownBy_putObj' W' da o') (λr e=>by cases e;exact⟨o,gy,gz⟩) _ _ _ _ h2,a8⟩
 case assign=>
  intro da k W' h5 C I ez;have z:=bS (show f+(N -1 -k)<L.length by rw[d.out.Ll];omega);generalize L[f+(N -1 -k)]'(by rw[d.out.Ll];omega)=x at z;have ep:Gi N (aaw (L.drop f)) k=#[↑((N -1 -k:Nat):Int),x.v]:=by unfold Gi;rw[SV (x:=x) (by rw[V9];exact z)]
  rw[ep];have gk:=λa' W' h1 h2 a8=>ez a' W' h1 h2 a8;clear ez;unfold eI.v;gi_wp2;exact gk _ _ ((KeepsOthers.alloc _ _).from _) (I.grown dx _) ⟨(W':Nat),x,z,aU W' x.cells _,rfl⟩
 case body=>
  rintro da k a' W' C I ⟨a6,x,z,R,rfl⟩;have fg:Row W' ((w:Nat)+1+1) 159 [.pointer ((w:Nat)+1,0)]:=p.rb.xo I.x (λe=>by
   obtain e|e:=e;.exact p.aV.mF p.rb e
   .omega) (.inr (by unfold wL;decide))
  have h6:=fg.r 0;have c1:=R.r 1;obtain⟨iz,e5⟩:=I.iH;have fe:=e5.row;have gv:Hid (Cv 70 #[.pointer ((w:Nat)+1,0),.slice x.sa x.st.length x.sc] W' λe w'=>∃fu,e=.returned fu/\KeepsFrom ↑P W' w'/\Qt P ((w:Nat)+1) gs n sb mb L (k+1) w'):=by
   refine(I.call (i:=f+(N -1 -k)) (x:=x) fc z (by rw[d.out.Ll];omega) d.out.path (by have:=d.out.fl;omega) ?_).mono ?_
   .rcases d.out.at_ x (cU z)with e|⟨ao,e,e0⟩;.exact .inl e
    .obtain⟨c,S,ae⟩:=e0.ty;have:=bE ae;refine .inr ⟨ao,e,O9,⟨c,S,(p.below.block ao this).trans ae⟩,λi s hi=>(e0.at_ i s hi).same (p.below.block ao this)⟩
   .rintro e w' ⟨rfl,h1,h2⟩;exact⟨_,rfl,Z5.mem (gs:=gs) (sb:=sb) (K:=uu) dx h2 ⟨_,fe⟩,h1⟩
  clear I e5 fe fg R p b7 dq b4;gi_wp2;refine⟨trivial,(CallsIn.inRound da (callsIn_wide.2 gv.out)).mono ?_⟩;rintro e w2 ⟨fu,rfl,h1,h2⟩;gi_wp2;exact⟨h1,h2⟩
 case done=>
  rintro D V h8 I cv;have e3:L.length -N=f:=by rw[d.out.Ll];omega
  have cm:=I.aV;obtain⟨i2,bc⟩:=I.iH;rw[e3]at cm bc;have ey:(w:Nat)<=D:=by have h1:=p.below.size;omega
  have az:Tk LB Yt n mb P V:=SP I.x p.aV p.tr (by have:=d.out.ln.1;omega);have F:∀t,t≠161->t≠195->¬Yt t:=λt h1 h2 h=>by obtain h|h:=h;exact h1 h;exact h2 h
  have r0:=p.r0.tk az (F _ D9 D9);have rb:=p.rb.tk az (F _ D9 D9);have ra:=p.ra.tk az (F _ D9 D9);have cd:=p.nd.ck az.ck (F _ D9 D9) (F _ D9 D9) (F _ D9 D9) (F _ D9 D9) (F _ D9 D9);have ej:∀x∈W,mM V x.gt x.Q:=λx z=>(p.cO x z).tk az (F _ D9 D9) (F _ D9 D9) (F _ D9 D9);have eu:V.ownsRow 0 114 1 (.slice g W.length wc) W.length (W.map λx=>Vz x.b):=by have:=om (pW μ az (F _ D9 D9)) (fJ _);rw[pD]at this;exact this
  have dc:=(Aq p.below).trans (az.mono Yt.y1);have bh:dI w V:=λk cs S C=>by
   have cf:=(p.below.block k (bE C)).trans C;refine(I.x.block k (bE cf) ?_).trans cf;have b6:=bE C;rintro((e|e)|⟨e,_⟩);.exact p.aV.tK cf e
   .omega
   .omega
  have h7:(dP (L.drop f)).length<=10000:=by
   have h1:=d.out.fl;have h2:dP L=dP (L.take f)++dP (L.drop f):=by rw[<-qf,BX]
   rw[h2,bY]at h1;omega
  have ar:=aau (LB:=LB) (gw:=g) (wc:=wc) wk W fp dk V eu cd d.out.ok ej d.out.sp cm bc d.out.c6 d.out.c9 d.out.wk d.out.su d.out.ml d.out.ms d.out.Dr (by rw[xn];omega) d.out.w0 (by have:=d.out.wl;omega) d.out.ll ⟨d.out.ln.1,d.out.ln.2,by have:=d.out.ln.1;omega⟩ d.out.lb (by have h1:=(bV cd.chain rfl).2;obtain⟨c,h1⟩:=h1;exact bE h1);have t6:=rb.r 0;have cy:=yQ E su (W.map WB.m) mem _ d.out.pts d.out.Dr (λy g4=>by obtain⟨x,z,rfl⟩:=iF.1 g4;have o:=d.out.ok x z;refine⟨o.hh,by show(x.Q.map rz.t).length<=8;rw[fM];exact o.q8,λt g2=>?_⟩;obtain⟨hk,g1,rfl⟩:=iF.1 g2;have:=o.q hk g1;exact⟨this.id,this.si,this.li,this.lo,this.so⟩)
  unfold ptr at ar;replace ar:=aL ar;generalize cu:bR E su (W.map WB.m) mem (goes uu (dP (L.take f)))=J at ar cy|-;replace cy:=aL cy;replace cu:=aL cu;have ia:=d.out.wl;clear I p b7 dq b4 μ eu ej fc GZ bu;replace bh:=aL bh;replace F:=aL F;go_wp2;refine ar.out.mono ?_;rintro e w3 ⟨av,v1,⟨cr,⟨cj,dm,ak,rfl,e1,dw,GZ,dt⟩,A⟩|⟨cr,rfl,x,j,g3,gx,A⟩⟩
  .have dn:¬lD n mb D:=by rintro⟨i,hi,e⟩;have:=au.out i hi;omega
   have ay:dI w w3:=λk cs S C=>A.sin.2.2 k cs S (bh.out k cs S C) (λe=>by have h1:=(bV bc.own e).1;have h2:=bE C;omega)
   have r0:=r0.tk A.tk (oV D9 D9 D9 D9 D9);have ra:=ra.tk A.tk (oV D9 D9 D9 D9 D9);have b0:=A.tk.rest D _ cv rfl dn;have ab:=A.nd;have ca:=A.aV;have db:=dc.trans A.tk;have gj:=ab.mem.base;clear A bc cm cd rb t6 cv bh dc;have bd:Below w3 w3 (w3.alloc (.cells #[.slice gc f cc,.slice cj W.length dm] 99)):=B0.alloc L9 _;have dh:=aU w3 [.slice gc f cc,.slice cj W.length dm] 99;have fb:eJ L=eJ (L.take f)++eJ (L.drop f):=by rw[<-sO,BX]
   have b6:(eJ (L.take f)).length=f*2:=by rw[Gh,kI,d.out.Ll,zi O9]
   have cx:=aav ↑w3 gc f cc cj W.length dm (eJ (L.take f)) (eJ ak) _ O9 gp (dh.cell 0) (dh.cell 1) b6 (yP _) (λi u hi=>by have:=ab.chain.cells (g:=gc) rfl i u (by rw[fb,nz (by rw[b6];have:=(cE.1 hi).1;omega)];exact hi);rw[add0]at this;exact aW bd this) (by rw[Gh];have:=congrArg List.length GZ;simp only[fM]at this;rw[this]) (yP _) (λi u hi=>by
    have:=e1.cells (g:=cj) rfl i u hi;rw[add0]at this;exact aW bd this) O9 O9
   replace cx:=aL cx;replace ay:=aL ay;replace dt:=aL dt;replace GZ:=aL GZ;replace dw:=aL dw;clear ar e1 fb b6 bf;go_wp2;refine cx.out.mono ?_;rintro e w4 ⟨i1,rfl,bb,e7⟩;have et:f+W.length=f -1+W.length+1:=O9;rw[et,<-sO]at bb;obtain⟨c8,c7,dz⟩:=cP bb (f -1+W.length) rfl;subst dz;have T:=bd.trans (e7.mono bd.size);replace bb:=om bb (show B<=_ from bI gj bd.size);have O:=(ab.keep T).agn bb;have ed:=ca.keep T;have π:=r0.keep T r0.lt;have a4:=ra.keep T ra.lt;have a7:=(T.block D (bE b0)).trans b0;have nr:=(ab.keep T).mem.row;have fy:=db.trans (Aq T);have fj:=aL (Nk T);have M:Tk LB (λu=>u=107) 0 mb w4 (w4.setCell (nb,12) (.slice c8 (f -1+W.length+1) c7)):=uL nr _ d.out.ln.1;have g9:w4.cell? (nb,12)=some (.slice gc (kc+1) cc):=by rw[nr.cell];exact(ab.keep T).N6
   have hc:=nr.frozen 12;have z0:=π.r 0;have ho:=π.r 1;have hx:=π.frozen 0;have hy:=π.frozen 1;have ht:=a4.r 0;have hv:=a4.frozen 0;have hz:=π.lt;have h3:=a4.lt;have h4:=nr.lt;have im:nb≠(w:Nat)+1+1+1:=O9;have iq:nb≠(w:Nat):=O9;have ir:(w:Nat)+1+1+1≠nb:=O9;have iu:(w:Nat)≠nb:=O9;clear cx e7 bb ab ca bd dh et;replace O:=aL O;replace M:=aL M;go_wp2;replace O:=O.out;replace M:=M.out;have aa:=ed.tkc M D9 D9;have bk:=π.tk M D9;have a5:=a4.tk M D9;have dd:=M.rest D _ a7 rfl (by rintro⟨j,dv,_⟩;omega);have bm:=fy.trans (M.zero.mono (λt e=>.inl (.inl e)));have bg:=(fj.out).trans (C4 M.ck D9);clear ed π a4 a7 nr fy M g9 hc z0 ho hx hy ht hv hz h3 h4 r0 ra b0 db T fj;generalize w4.setCell ⟨nb,12,none⟩ (.slice c8 (f -1+W.length+1) c7)=ag at O aa bk a5 dd bm bg|-;have bo:Tk LB (λu=>u=4) 0 mb ag (ag.setCell ((w:Nat)+1+1+1,0) ↑aD):=uL a5 _ (by have:=d.out.ln.1;omega);have dj:Row (ag.setCell ((w:Nat)+1+1+1,0) ↑aD) ((w:Nat)+1+1+1) 4 [aD]:=a5.set 0 ↑aD;have a2:=bm.yO (g:=(w:Nat)+1+1+1) (j:=0) ↑aD O9;have dg:=O.ck bo.ck D9 D9 D9 D9 D9;have br:=aa.tkc bo D9 D9;have af:=bk.tk bo D9;have de:=bo.rest D _ dd rfl (by rintro⟨j,dv,_⟩;omega);have b9:=bg.trans (C4 bo.ck D9);clear O aa bk a5 dd bm bo bg;generalize ag.setCell ⟨(w:Nat)+1+1+1,0,none⟩ ↑aD=ah at dg br af dj de a2 b9|-;have ba:LB<=(w:Nat):=by have:=d.out.ln.1;omega
   have bp:Tk LB (λu=>u=44) 0 mb ah ((ah.setCell ((w:Nat),0) ↑(N:Int)).setCell ((w:Nat),1) ↑(W.length:Int)):=(uL af _ ba).trans (uL (af.set 0 _) _ ba);have fq:Row ((ah.setCell ((w:Nat),0) ↑(N:Int)).setCell ((w:Nat),1) ↑(W.length:Int)) ↑w 44 [↑(N:Int),↑(W.length:Int)]:=(af.set 0 ↑(N:Int)).set 1 ↑(W.length:Int);have fz:=(a2.yO (j:=0) ↑(N:Int) L9).yO (j:=1) ↑(W.length:Int) L9;have eg:=dg.ck bp.ck D9 D9 D9 D9 D9;have ee:=br.tkc bp D9 D9;have ek:=dj.tk bp D9;have cb:=bp.rest D _ de rfl (by rintro⟨j,dv,_⟩;omega);have fo:=b9.trans (C4 bp.ck D9);clear dg br af dj de a2 bp b9;generalize(ah.setCell ⟨(w:Nat),0,none⟩ ↑(N:Int)).setCell ((w:Nat),1) ↑(W.length:Int)=hn at eg ee fq ek cb fz fo|-;have bx:=aah (LB:=LB) (o':=.deferred none) cb rfl;have ga:=fz.aai (.deferred none) ey;have ef:=(ee.put (o':=.deferred none) cb rfl (λi hi e=>by have:=au.out i hi;omega)).2;have eh:=eg.ck bx id id id id id;have en:=ek.ck bx id;have ec:=fq.ck bx id;have eb:=fo.trans (C4 bx id);refine wh cb ?_;generalize hn.putObj D (.deferred none)=fv at bx ga ef eh en ec eb|-;refine HV (R':=λw'=>w'=fv) (enters_of (fA func69) K8 rfl) (Ql _ _ _ fv (en.cell 0)) ?_;rintro fw rfl;have k0:=ec.r 0;have k1:=ec.r 1;refine yA (v:=.tuple #[.agg #[↑(N:Int),↑(W.length:Int)],aA]) ?_ ?_;.simp[results,results35,go_sem,k0,k1]
   .rw[cu.out];exact⟨ga,ay.out.trans eb,av,.inl ⟨cr,by rw[cw.out],ef,c8,c7,ak,eh,dw.out,GZ.out,dt.out.at_ eb⟩⟩
  .have h9:(J.e==0)=false:=by simpa using cr
   have dn:¬lD n mb D:=by rintro⟨i,hi,e⟩;have:=au.out i hi;omega
   have ay:dI w w3:=λk cs S C=>A.sin.2.2 k cs S (bh.out k cs S C) (λe=>by have h1:=(bV bc.own e).1;have h2:=bE C;omega)
   have r0:=r0.tk A.tk (oV D9 D9 D9 D9 D9);have rb:=rb.tk A.tk (oV D9 D9 D9 D9 D9);have ra:=ra.tk A.tk (oV D9 D9 D9 D9 D9);have b0:=A.tk.rest D _ cv rfl dn;have ba:LB<=(w:Nat):=by have:=d.out.ln.1;omega
   have cf:=r0.r 0;have ep:=r0.r 1;have f0:=r0.frozen 0;have f1:=r0.frozen 1;have iy:=r0.lt;have db:=dc.trans A.tk;clear ar bc cm cd t6 cv bh dc bf;replace A:=aL A;replace ay:=aL ay;go_wp2;have ab:=A.out.nd;have ca:=A.out.aV;have gg:=A.out.iH;have aj:Tk LB (λu=>u=44) 0 mb w3 ((w3.setCell ((w:Nat),0) ↑aA).setCell ((w:Nat),1) ↑aA):=(uL r0 _ ba).trans (uL (r0.set 0 _) _ ba);have gd:Tk LB Y1 n mb w ((w3.setCell ((w:Nat),0) ↑aA).setCell ((w:Nat),1) ↑aA):=(db.yO _ L9).yO _ L9;have π:Row ((w3.setCell ((w:Nat),0) ↑aA).setCell ((w:Nat),1) ↑aA) ↑w 44 [aA,aA]:=(r0.set 0 ↑aA).set 1 ↑aA;generalize(w3.setCell ⟨(w:Nat),0,none⟩ ↑aA).setCell ⟨(w:Nat),1,none⟩ ↑aA=w4 at aj gd π|-;have a7:=aj.rest D _ b0 rfl (by rintro⟨j,dv,_⟩;omega);have c5:=aah (LB:=LB) (o':=.deferred none) a7 rfl;have bm:=gd.aai (.deferred none) ey;have aa:=((ca.tkc aj D9 D9).put (o':=.deferred none) a7 rfl (λi hi e=>by have:=au.out i hi;omega)).2;have ei:=(gg.ck aj.ck D9 D9).ck c5 id id;have O:=(ab.ck aj.ck D9 D9 D9 D9 D9).ck c5 id id id id id;have ft:=(rb.tk aj D9).ck c5 id;have fs:=(ra.tk aj D9).ck c5 id;have bk:=π.ck c5 id;have bg:=ay.out.trans ((C4 aj.ck D9).trans (C4 c5 id));obtain⟨hf,hg,_,hj,_⟩:=cy.out;have dp:dP L=dP (L.take f)++dP (L.drop f):=by rw[<-qf,BX]
   have e4:=d.out.path;rw[dp]at e4;obtain⟨b1,b2⟩:=Vr e4.left.2;have gl:J.K=goes (goes uu (dP L)) (lS (dP (L.drop f))++J.st):=by rw[iX,dp,iX,b2];exact hf
   have gm:eZ (goes uu (dP L)) (lS (dP (L.drop f))++J.st):=by rw[dp,iX];refine b1.append ?_;rw[b2];exact hg
   rw[gl]at aa;refine wh a7 ?_;generalize w4.putObj D (.deferred none)=ag at c5 bm aa ei O ft fs bk bg|-;refine HV (R':=λw'=>aQ w' gs n sb mb (goes uu (dP L))/\Tk LB Yt n mb ag w'/\Xo (Al n mb ((w:Nat)+1)) ((w:Nat)+1+1) wL ag w') (enters_of (fA func69) K8 rfl) (JZ _ _ _ ag (fs.cell 0) (ft.cell 0) aa ei gm (by rw[bY,xn];rw[fM]at hj;omega) (bI ba (zf _))) ?_;rintro ah ⟨br,a2,hs⟩;have b9:dI w ah:=λk cs S C=>by
    have q:=bg k cs S C;refine(hs.block k (bE q) ?_).trans q;have b6:=bE C;rintro((e|e)|⟨e,_⟩);.exact aa.tK q e
    .omega
    .omega
   have af:=bk.tk a2 (by unfold Yt;decide);have k0:=af.r 0;have k1:=af.r 1;refine yA (v:=.tuple #[.agg #[aA,aA],↑J.e]) ?_ ?_;.simp[results,results35,go_sem,k0,k1]
   .rw[cu.out];exact⟨bm.trans (a2.mono Yt.y1),b9,av,.inr ⟨cr,rfl,br,x,j,g3,gx,O.ck a2.ck (by unfold Yt;decide) (by unfold Yt;decide) (by unfold Yt;decide) (by unfold Yt;decide) (by unfold Yt;decide)⟩⟩
end
structure BN where
 id:ByteArray
 par:Nat
 aY:Nat
 wo:Int
 cO:List Mn
 bad:Bool
structure DT where
 ix:Nat
 st:List cW
structure AG where
 bl:List BN
 ch:List DT
 mem:List bX
 lo:Nat
def gP(l:List DT):List cW:=l.flatMap DT.st
def AG.K(a:AG):jO:=goes uu (gP a.ch)
def Dt(ch:List DT)(h i:Nat):Prop:=(ch[h]?).map DT.ix=some i
instance(ch:List DT)(h i:Nat):Decidable (Dt ch h i):=inferInstanceAs (Decidable (_=_))
def upA(bl:List BN)(ch:List DT):Nat->Nat->List Nat
 |0,_=>[]
 |k+1,i=>match bl[i]? with
   |none=>[]
   |some x=>if Dt ch x.aY i then[]else i::upA bl ch k x.par
structure zU(a:AG):Prop where
 first:∃x,a.bl[0]?=some x/\x.aY=0/\x.wo=0/\x.bad=false
 par:∀(i:Nat) (x:BN),a.bl[i]?=some x->0<i->x.par<i/\∃p,a.bl[x.par]?=some p/\x.aY=p.aY+1/\p.wo<x.wo/\x.wo<=p.wo+256/\(p.bad=true->x.bad=true)
 ch0:∃y,a.ch[0]?=some y/\y.ix=0
 ch:∀(h:Nat) (y:DT),a.ch[h]?=some y->∃x,a.bl[y.ix]?=some x/\x.aY=h/\x.bad=false
 link:∀(h:Nat) (y:DT) (x:BN),a.ch[h+1]?=some y->a.bl[y.ix]?=some x->∃z,a.ch[h]?=some z/\z.ix=x.par
 path:eZ uu (gP a.ch)
 len:∀y∈a.ch,y.st.length<=200
 Dr:∀f,BI (goes uu (gP (a.ch.take f)))
 ids:(a.bl.map BN.id).Nodup
 ll:a.bl.length<=49
def NQ(l):∀p c,goes uu l p=some c->c.pt=p:=by suffices h:∀(l:List cW) (K:jO),(∀p c,K p=some c->c.pt=p)->∀p c,goes K l p=some c->c.pt=p from h l uu (λp c e=>by cases e);intro l;induction l with
 |nil=>exactλK h=>h
 |cons s l a=>
   intro K h;refine a (yV K s) (λp c e=>?_);unfold yV at e;split at e
   .unfold jO.put at e;split at e;.simp_all
    .grind
   .unfold jO.take at e;split at e;.cases e
    .grind
def zU.hle{a}(h:zU a):∀(i:Nat) (x:BN),a.bl[i]?=some x->x.aY<=i/\0<=x.wo/\x.wo<=256*x.aY:=by intro i;induction i using Nat.strongRecOn with
 |_ i f=>
   intro x b;by_cases h0:i=0;.subst h0;have⟨y,c,h1,h2,_⟩:=h.first;rw[b]at c;cases c;rw[h1,h2];exact⟨L9,nA _,O9⟩
   .have⟨d,p,e,g,e2,e3,_⟩:=h.par i x b O9;have:=f _ d p e;omega
def zU.chl{a}(h:zU a):a.ch.length<=a.bl.length:=by
 by_cases h0:a.ch.length=0;.omega
 .have e:=bS (show a.ch.length -1<a.ch.length by omega);have⟨x,b,h1,_⟩:=h.ch _ _ e;have:=(h.hle _ x b).1;have:=(cE.1 b).1;omega
structure ag4(a:AG)(i:Nat)(x:BN)(u:List Nat)(q:Nat)(y:BN):Prop where
 hq:a.bl[q]?=some y
 inq:Dt a.ch y.aY q
 at0:(u++[q])[0]?=some i
 at_:∀(k j:Nat),u[k]?=some j->∃z,a.bl[j]?=some z/\0<j/\¬Dt a.ch z.aY j/\(u++[q])[k+1]?=some z.par/\z.aY+k=x.aY/\(x.bad=false->z.bad=false)
 len:y.aY+u.length=x.aY
def Qu{a}(h:zU a):∀k i x,a.bl[i]?=some x->x.aY<k->∃q y,ag4 a i x (upA a.bl a.ch k i) q y
 |0,i,x,b,o=>by omega
 |k+1,i,x,b,o=>by
   unfold upA;rw[b];simp only;by_cases d:Dt a.ch x.aY i;.rw[bD d];exact⟨i,x,b,d,rfl,λk j f=>by simp at f,S8⟩
   .rw[aT d];have hi:0<i:=by
     obtain e|e:=sV i;.subst e;have⟨y,l,h1,_⟩:=h.first;have⟨z,t,h2⟩:=h.ch0;rw[b]at l;cases l;exact absurd (by unfold Dt;rw[h1,t];simp[h2]) d
     .exact e
    have⟨B,p,r,A,e2,e3,n⟩:=h.par i x b hi;have⟨q,y,c⟩:=Qu h k x.par p r O9;refine⟨q,y,c.hq,c.inq,rfl,λm j f=>?_,?_⟩;.cases m with
     |zero=>simp at f;subst f;refine⟨x,b,hi,d,?_,rfl,id⟩;exact c.at0
     |succ m=>have⟨z,u,v,z3,z4,z5,w⟩:=c.at_ m j (by simpa using f);exact⟨z,u,v,z3,z4,O9,λg=>w (by cases s:p.bad with|false=>rfl|true=>rw[n s]at g;cases g)⟩
    .rw[fL];have:=c.len;omega
def bsA(j:Nat):List BN->Nat->List Bool->List Bool
 |[],_,acc=>acc
 |x::r,i,acc=>bsA j r (i+1) (acc++[x.bad||decide (i=j)||(decide (0<i)&&acc.getD x.par false)])
def J0(j):∀r i acc k,k<acc.length->(bsA j r i acc).getD k false=acc.getD k false
 |[],_,_,_,_=>rfl
 |x::r,i,acc,k,a=>by unfold bsA;rw[J0 j r (i+1) _ k (by rw[bY];omega)];simp;rw[nz a]
def aax(j):∀r i acc k x,acc.length=i->r[k]?=some x->(0<i+k->x.par<i+k)->(bsA j r i acc).getD (i+k) false=(x.bad||decide (i+k=j)||(decide (0<i+k)&&(bsA j r i acc).getD x.par false))
 |[],_,_,_,_,_,h,_=>by simp at h
 |y::r,i,acc,0,x,hl,h,a=>by
   simp at h;subst h;rw[DZ]at a|-;unfold bsA;have b:=J0 j r (i+1) (acc++[y.bad||decide (i=j)||(decide (0<i)&&acc.getD y.par false)]) i (by rw[bY];simp;omega);rw[b];simp at*;rw[eK O9,hl];simp;by_cases h0:0<i;.have e2:=J0 j r (i+1) (acc++[y.bad||decide (i=j)||(decide (0<i)&&(acc[y.par]?).getD false)]) y.par (by rw[bY];have:=a h0;simp;omega);simp at e2;rw[e2,nz (by have:=a h0;omega)]
   .simp[h0]
 |y::r,i,acc,k+1,x,hl,h,a=>by have:=aax j r (i+1) (acc++[y.bad||decide (i=j)||(decide (0<i)&&acc.getD y.par false)]) k x (by rw[bY,hl];rfl) (by simpa using h) (by intro _;have:=a O9;omega);rw[show i+(k+1)=i+1+k from by omega];exact this
def IU(bl:List BN)(j:Nat):List Bool:=bsA j bl 0 []
def Gm{bl j i x}(h:bl[i]?=some x)(a:0<i->x.par<i):(IU bl j).getD i false=(x.bad||decide (i=j)||(decide (0<i)&&(IU bl j).getD x.par false)):=by have:=aax j bl 0 [] i x rfl h (by rw[iO];exact a);rw[iO]at this;exact this
def BN.mark(x:BN)(b:Bool):BN:={x with bad:=b,cO:=if b then[]else x.cO}
def jC(bl:List BN)(j:Nat):List BN:=bl.mapIdx λi x=>x.mark ((IU bl j).getD i false)
def iJ(a:AG)(i h:Nat):List Nat:=(upA a.bl a.ch (h+1) i).reverse
def mA(bl:List BN)(i:Nat):Int×List Mn:=match bl[i]? with
 |none=>(0,[])
 |some x=>((x.aY:Int),x.cO)
def cH(a:AG)(i h:Nat):Nat:=h+1 -(iJ a i h).length
def dU(c:fV)(a:AG)(i h:Nat):JR:=bR c.me.toNat c.su ((iJ a i h).map (mA a.bl)) a.mem (goes uu (gP (a.ch.take (cH a i h))))
def qg:List Nat->List (List cW)->List DT
 |i::l,s::m=>⟨i,s⟩::qg l m
 |_,_=>[]
def pK(c:fV)(a:AG)(i h:Nat):Int×Int×Int×AG:=if(dU c a i h).e=0 then(((a.ch.length -cH a i h:Nat):Int),((iJ a i h).length:Int),0,{a with ch:=a.ch.take (cH a i h)++qg (iJ a i h) (dU c a i h).ls,mem:=(dU c a i h).mem})
 else(0,0,(dU c a i h).e,{a with bl:=jC a.bl ((iJ a i h).getD (dU c a i h).at_ 0),mem:=(dU c a i h).mem})
section
variable{LB:Nat}
def gA(a:AG):BN:=((a.ch[a.ch.length -1]?).bind λy=>a.bl[y.ix]?).getD ⟨⟨#[]⟩,0,0,0,[],false⟩
def AG.an(a:AG):AN:=⟨a.bl.map BN.id,(gA a).id,a.ch.length -1,(gA a).wo,a.K,a.mem,a.lo⟩
structure Tie(w:World)(l:List kH)(i:Nat)(x:kH)(y:BN):Prop where
 id:x.id=y.id
 aY:x.aY=(y.aY:Int)
 wo:x.wo=y.wo
 bad:x.bad=y.bad
 aay:i=0->x.par=none
 par:0<i->∃p,l[y.par]?=some p/\x.par=some p.a
 cO:y.bad=false->0<i->∃q:WB,q.b=x/\q.Ok l/\mM w q.gt q.Q/\q.Q.map rz.t=y.cO
def Tie.move{w w' l b i x y}(h:Tie w l i x y)(f:∀gt Q,mM w gt Q->mM w' gt Q)(hl:∀(k:Nat) (p:kH),l[k]?=some p->∃p',b[k]?=some p'/\p'.a=p.a)(j:x∈b):Tie w' b i x y:=⟨h.id,h.aY,h.wo,h.bad,h.aay,λh0=>by obtain⟨p,h1,h2⟩:=h.par h0;obtain⟨p',c,d⟩:=hl _ p h1;exact⟨p',c,by rw[d];exact h2⟩,λg h0=>by have⟨q,e,o,t,m⟩:=h.cO g h0;exact⟨q,e,⟨o.tv,o.q,o.q0,o.q8,o.qc,e▸j,o.hh⟩,f _ _ t,m⟩⟩
structure gQ(w:World)(nb:Nat)(lk:List Value)(c:fV)(s:Lay)(L:List eI)(a:AG):Prop where
 base:kO w nb lk c s a.an
 sl:s.L=eJ L
 wf:zU a
 ll:s.l.length=a.bl.length
 tie:∀(i:Nat) (x:kH) (y:BN),s.l[i]?=some x->a.bl[i]?=some y->Tie w s.l i x y
 nda:(s.l.map kH.a).Nodup
 cl:L.length=a.ch.length
 lnk:∀(i:Nat) (x:eI) (y:DT),L[i]?=some x->a.ch[i]?=some y->x.st=y.st/\x.At w/\∃b,s.l[y.ix]?=some b/\b.a=x.a
def jP(w:World)(nb:Nat)(c:fV)(a:AG):Prop:=∃s L,gQ w nb qM c s L a
def gQ.is{w nb c s L a}(h:gQ w nb qM c s L a):uw w nb c a.an:=⟨s,h.base⟩
def eI.At.old{w w'}{x:eI}(h:x.At w)(o:dI w w'):x.At w':=by
 obtain e|⟨g,e,a⟩:=h;.exact .inl e
 .exact .inr ⟨g,e,a.old o⟩
def gQ.move{w w' nb l lk' c s L a}(h:gQ w nb l c s L a)(g:kO w' nb lk' c s a.an)(f:∀gt Q,mM w gt Q->mM w' gt Q)(o:dI w w'):gQ w' nb lk' c s L a:=⟨g,h.sl,h.wf,h.ll,λi x y b d=>(h.tie i x y b d).move f (λk p j=>⟨p,j,rfl⟩) (cU b),h.nda,h.cl,λi x y b d=>by obtain⟨h1,h2,e⟩:=h.lnk i x y b d;exact⟨h1,h2.old o,e⟩⟩
def gQ.keep{w w' nb d c s L a}(h:gQ w nb d c s L a)(b:Below w w w'):gQ w' nb d c s L a:=h.move (h.base.keep b) (λ_ _ t=>t.keep b) (Nk b)
def gQ.shut{w w' nb b lk' c s L a}(h:gQ w nb b c s L a)(hl:b.length=6)(d:lk'.length=6)(g:w.grownBy w' (some nb))(r:Row w' nb 107 (lk'++(c.cells++[s.bv,.slice (some ⟨s.gc,0,none⟩) (s.kc+1) s.cc,.slice (some ⟨s.gs,0,none⟩) s.n s.n,.int .i64 c.me,s.mv]))):gQ w' nb lk' c s L a/\Tk a.lo (λt=>t=107) 0 s.mb w w':=by have⟨h1,h2⟩:=h.base.shut hl d g r;exact⟨h.move h1 (λ_ _ t=>t.tk h2 D9 D9 D9) (C4 h2.ck D9),h2⟩
def gQ.tk{b w w' nb d c s L a}(h:gQ w nb d c s L a)(x:Tk LB b 0 s.mb w w')(h1:¬b 107)(h2:¬b 247)(g:¬b 114)(i:¬b 117)(j:¬b 123)(k:¬b 145)(l:¬b 173)(m:¬b 155)(n:¬b 133)(e:¬b 69)(f:¬b 195):gQ w' nb d c s L a:=h.move (h.base.tk x h1 h2 g i j k l) (λ_ _ t=>t.tk x m n e) (C4 x.ck f)
def Du(a:AG)(b:pn):Nat:=(a.bl.findIdx? λx=>decide (x.id=mk b.parent)).getD 0
def yR(a:AG)(b:pn):BN:=(a.bl[Du a b]?).getD ⟨⟨#[]⟩,0,0,0,[],false⟩
def G0(a:AG)(b:pn):Bool:=a.bl.any λx=>decide (x.id=mk b.parent)
def uv(a:AG)(cb:Int)(s:List UInt8)(b:pn):Int:=if NJ (a.bl.map BN.id) (kT s)=true then 10 else
 if b.bits<cb then 11 else
 if(iK s).toNat%2^b.bits.toNat≠0 then 11 else
 if G0 a b=false then 12 else
 if(yR a b).bad then 13 else
 if a.bl.length=49 then 9 else 0
def eV(a:AG)(s:List UInt8)(b:pn):BN:=⟨kT s,Du a b,(yR a b).aY+1,(yR a b).wo+2^b.bits.toNat,b.cO.map J6,false⟩
def gL(c:fV)(a:AG)(s:List UInt8):Int×Int×Int×AG:=match np s with
 |none=>(0,0,1,a)
 |some b=>if uv a c.bi s b≠0 then(0,0,uv a c.bi s b,a)else
   if(eV a s b).wo<=(gA a).wo then(0,0,0,{a with bl:=a.bl++[eV a s b]})
   else pK c {a with bl:=a.bl++[eV a s b]} a.bl.length (eV a s b).aY
def rZ{a b}(h:G0 a b=true):a.bl[Du a b]?=some (yR a b)/\(yR a b).id=mk b.parent:=by
 have h1:(a.bl.findIdx? λx=>decide (x.id=mk b.parent)).isSome=true:=by rw[List.findIdx?_isSome];exact h
 have⟨i,hi⟩:=WA.1 h1;have d:Du a b=i:=by unfold Du;rw[hi];rfl
 have⟨f,h2,_⟩:=List.findIdx?_eq_some_iff_getElem.1 hi;have c:=bS f;have e:yR a b=a.bl[i]:=by unfold yR;rw[d,c];rfl
 rw[d,e];exact⟨c,by simpa using h2⟩
def aaz{w nb n c s L a}(h:gQ w nb n c s L a)(b):(G0 a b=false/\jF s.l (mk b.parent)=none)\/(G0 a b=true/\∃x,jF s.l (mk b.parent)=some x/\s.l[Du a b]?=some x):=by have j:=h.base.ids;cases f:G0 a b with
 |false=>refine .inl ⟨rfl,?_⟩;cases i:jF s.l (mk b.parent)with
   |none=>rfl
   |some x=>
     have h1:=rh.1 (by rw[i];rfl);rw[j]at h1;have⟨y,m,e⟩:=iF.1 h1;have h2:G0 a b=true:=by unfold G0;rw[List.any_eq_true];exact⟨y,m,by simpa using e⟩
     rw[f]at h2;cases h2
 |true=>
   have⟨h1,h2⟩:=rZ f;have d:Du a b<s.l.length:=by rw[h.ll];exact(cE.1 h1).1
   have g:=bS d;refine .inr ⟨rfl,_,?_,g⟩;have k:=h.tie _ _ _ g h1;have:=IP s.l s.l[Du a b] h.base.idn (s5 d);rw[k.id,h2]at this;exact this
def ae7{w nb k c s L a}(h:gQ w nb k c s L a){t b}(f:0<=b.bits)(id)(i:id=kT t):xD s.l c.bi id (mk b.parent) b.bits.toNat (iK t)=uv a c.bi t b:=by
 have hi:s.l.map kH.id=a.bl.map BN.id:=h.base.ids;have g:=KC f;unfold xD uv;rw[i,g,<-hi,h.ll];by_cases h1:kT t∈s.l.map kH.id;.rw[bD (rh.2 h1),bD (xg.2 h1)]
 .rw[aT (λe=>h1 (rh.1 e)),aT (λe=>h1 (xg.1 e))];obtain⟨d,e2⟩|⟨d,x,e2,j⟩:=aaz h b;.simp_all
  .rw[d,e2];have:=(h.tie _ _ _ j (rZ d).1).bad;simp[this]
def BP{a cb s b}(h:uv a cb s b=0):kT s∉a.bl.map BN.id/\G0 a b=true/\(yR a b).bad=false/\a.bl.length≠49:=by
 unfold uv at h;split at h;.cases h
 .rename_i h1;split at h;.cases h
  .split at h;.cases h
   .split at h;.cases h
    .rename_i h2;split at h;.cases h
     .rename_i c;split at h;.cases h
      .rename_i d;exact⟨λe=>h1 (xg.2 e),by simpa using h2,by simpa using c,d⟩
def Av{α:Type}{l}{x y:α}{i}(h:(l++[x])[i]?=some y):l[i]?=some y\/(i=l.length/\y=x):=by grind
def lT{α:Type}{l m:List α}{x}{i:Nat}(h:l[i]?=some x):(l++m)[i]?=some x:=by grind
def aaA{N}(h:N<=8):(0:Int)<2^N/\(2:Int)^N<=256:=by have e3:2^N<=2^8:=KF D9 h;have a:0<2^N:=Nat.pow_pos D9;exact⟨Int.ofNat_lt.2 a,G6.2 e3⟩
def zU.keep{a}(h:zU a){cb s b}(hr:uv a cb s b=0)(l:b.bits.toNat<=8):zU {a with bl:=a.bl++[eV a s b]}:=by
 have⟨r1,r2,r3,t⟩:=BP hr;have f:=(rZ r2).1;have n:=(cE.1 f).1;have r:=aaA l;refine⟨?_,λi x c h0=>?_,h.ch0,λk y d=>?_,λk y x d c=>?_,h.path,h.len,h.Dr,?_,?_⟩;.have⟨x,c,q⟩:=h.first;exact⟨x,lT c,q⟩
 .obtain c|⟨e,rfl⟩:=Av c;.have⟨h1,p,h2,j⟩:=h.par i x c h0;exact⟨h1,p,lT h2,j⟩
  .subst e;refine⟨n,yR a b,lT f,rfl,?_,?_,λe=>?_⟩;.show _<_+(2:Int)^_;omega
   .show _+(2:Int)^_<=_;omega
   .simp_all
 .have⟨x,c,q⟩:=h.ch k y d;exact⟨x,lT c,q⟩
 .have⟨o,g,_⟩:=h.ch (k+1) y d;have:x=o:=by have:=lT (m:=[eV a s b]) g;rw[this]at c;cases c;rfl
  subst this;exact h.link k y x d g
 .rw[nP,kV,DY,We];exact⟨h.ids,S8,λx c y d e=>by simp only[jW]at d;subst d;subst e;exact r1 c⟩
 .have:=h.ll;simp;omega
def zU.rS{a}(h:zU a):∃y,a.ch[a.ch.length -1]?=some y/\a.bl[y.ix]?=some (gA a)/\(gA a).aY=a.ch.length -1/\(gA a).bad=false/\0<a.ch.length:=by
 have⟨z,d,_⟩:=h.ch0;have hl:=(cE.1 d).1;have e:=bS (show a.ch.length -1<a.ch.length by omega);have⟨x,c,h1,h2⟩:=h.ch _ _ e;have b:gA a=x:=by unfold gA;rw[e,Option.bind_some,c];rfl
 exact⟨_,e,by rw[b];exact c,by rw[b];exact h1,by rw[b];exact h2,hl⟩
def SX{a a'}(h:zU a)(c:a'.ch=a.ch)(b:∀(i:Nat) (x:BN),a.bl[i]?=some x->a'.bl[i]?=some x):gA a'=gA a:=by have⟨y,h1,h2,_⟩:=h.rS;unfold gA;rw[c,h1,uP,uP,b _ _ h2,h2]
def ae8{w w' nb A gt N c s L a j Q t b p}(h:gQ w nb oq c s L a)(hr:uv a c.bi t b=0)(hN:b.bits.toNat=N)(V:N<=8)(J:Q.map rz.t=b.cO.map J6)(S:∀q∈Q,q.Ok)(u:1<=Q.length/\Q.length<=8)(M:mM w' gt Q)(C:s.l[Du a b]?=some p)(H:↑w<=A)(I:jB w' s.B j (s.l++[GW A (kT t) p N (.slice (some ⟨gt,0,none⟩) Q.length Q.length)]))(P:Row w' nb 107 ((s.cs oq c).set 11 j))(x:Xc (λk=>k=nb\/s.bv.ownBlock=some k) w w'):
 gQ w' nb oq c {s with bv:=j,l:=s.l++[GW A (kT t) p N (.slice (some ⟨gt,0,none⟩) Q.length Q.length)]} L {a with bl:=a.bl++[eV a t b]}/\Tk a.lo Yk 0 s.mb w w':=by
 have⟨nd,co,tk⟩:=SS h.base I P x;have⟨r1,r2,r3,π⟩:=BP hr;have m:=(rZ r2).1;have o:=h.tie _ _ _ C m;have D:=h.wf.keep hr O9;have R:A∉s.l.map kH.a:=λe=>by obtain⟨z,μ,rfl⟩:=iF.1 e;have:=(h.base.nd.rf.row z μ).lt;omega
 have n:gA {a with bl:=a.bl++[eV a t b]}=gA a:=SX h.wf rfl (λi x f=>lT f);have v:s.l.map kH.id=a.bl.map BN.id:=h.base.ids;have d:=h.base;have T:=d.wb;have hle:=D.ll;have O:=h.ll;have K:∀gt Q,mM w gt Q->mM w' gt Q:=λ_ _ q=>q.tk tk (by unfold Yk;decide) (by unfold Yk;decide) (by unfold Yk;decide);refine⟨⟨⟨nd,co,aan d.idn (by rw[v];exact r1),List.mem_append_left _ d.rS,d.kD,d.ph,d.link,d.L1,?_,?_,d.kc,?_,?_,?_,?_,d.Dr,d.mem,d.cok,d.low.1,d.low.2.1,show∀x∈s.l++[_],a.lo<=x.a from aao d H rfl⟩,h.sl,D,?_,λi x y f g=>?_,?_,h.cl,λi x y f g=>?_⟩,tk⟩;.show(s.l++_).map kH.id=(a.bl++[eV a t b]).map BN.id;rw[nP,nP,v];rfl
 .show s.p.id=(gA _).id;rw[n];exact d.tid
 .show s.p.wo=(gA _).wo;rw[n];exact d.wo
 .show((a.bl++[eV a t b]).map BN.id).length<=49;rw[fM];exact hle
 .show a.ch.length -1+1<=((a.bl++[eV a t b]).map BN.id).length;have:=d.kl;have h2:a.ch.length -1+1<=(a.bl.map BN.id).length:=this;rw[fM]at h2|-;rw[bY];omega
 .show 0<=(gA _).wo/\(gA _).wo<=256*(((a.bl++[eV a t b]).map BN.id).length:Int);rw[n];have h2:0<=(gA a).wo/\(gA a).wo<=256*((a.bl.map BN.id).length:Int):=T;rw[fM]at h2|-;rw[bY];simp only[oM];omega
 .simp_all
 .obtain E|⟨e,rfl⟩:=Av f
  .have Y:i<a.bl.length:=by rw[<-O];exact(cE.1 E).1
   obtain r|⟨e,_⟩:=Av g;.exact(h.tie i x y E r).move K (λk q hq=>⟨q,lT hq,rfl⟩) (cU f)
   .omega
  .obtain r|⟨_,rfl⟩:=Av g;.have:=(cE.1 r).1;omega
   .have W:=V2 d.rS;have hh:=(h.wf.hle _ _ m).1;have hl:=(cE.1 m).1;have X:=h.wf.ll;refine⟨rfl,?_,?_,rfl,λe2=>by omega,λ_=>⟨p,lT C,rfl⟩,λ_ _=>⟨⟨GW A (kT t) p N (.slice gt Q.length Q.length),Q,gt,Q.length⟩,rfl,⟨rfl,S,u.1,u.2,L9,S8,?_⟩,M,J⟩⟩;.show p.aY+1=(((yR a b).aY+1:Nat):Int);rw[o.aY];omega
    .show p.wo+2^N=(yR a b).wo+2^b.bits.toNat;rw[o.wo,hN]
    .show p.aY+1<_;rw[o.aY];omega
 .show((s.l++[_]).map kH.a).Nodup;rw[nP,kV,DY,We];exact⟨h.nda,S8,λx f y g e=>by simp only[jW]at g;subst g;subst e;exact R f⟩
 .have⟨h1,h2,q,F,G⟩:=h.lnk i x y f g;exact⟨h1,h2.old (dI.ck tk.ck (by unfold Yk;decide)),q,lT F,G⟩
def C5{α β:Type}(P:α->β->Prop):∀l:List α,(∀x∈l,∃y,P x y)->∃m:List β,m.length=l.length/\∀(k:Nat) (x:α) (y:β),l[k]?=some x->m[k]?=some y->P x y
 |[],_=>⟨[],rfl,λk x y h=>by simp at h⟩
 |x::l,h=>by have⟨y,c⟩:=h x S8;have⟨m,h1,h2⟩:=C5 P l (λz d=>h z (by simp[d]));refine⟨y::m,by simp[h1],λk u v a b=>?_⟩;cases k with
   |zero=>simp at a b;subst a;subst b;exact c
   |succ k=>exact h2 k u v (by simpa using a) (by simpa using b)
def piA(bl:List BN)(i:Nat):Option Nat:=if i=0 then none else(bl[i]?).map BN.par
def gQ.ag5{w nb g c s L a}(h:gQ w nb g c s L a)(j):acH s.l j (IU a.bl j) (piA a.bl):=by
 have f:∀(i:Nat) (x:kH),s.l[i]?=some x->∃y,a.bl[i]?=some y:=λi x b=>⟨_,bS (by rw[<-h.ll];exact(cE.1 b).1)⟩;refine⟨h.nda,λi x b=>?_,λi x b=>?_⟩
 .have⟨y,d⟩:=f i x b;have e:=h.tie i x y b d;by_cases h0:i=0;.exact .inl ⟨e.aay h0,by unfold piA;rw[if_pos h0]⟩
  .have⟨p,h1,h2⟩:=e.par O9;exact .inr ⟨y.par,p,by unfold piA;rw[if_neg h0,d];rfl,(h.wf.par i y d O9).1,h1,h2⟩
 .have⟨y,d⟩:=f i x b;rw[Gm d (λh0=>(h.wf.par i y d h0).1),(h.tie i x y b d).bad];congr 1;unfold piA;by_cases h0:i=0;.simp_all
  .grind
def gQ.flat{w nb b c s L a}(h:gQ w nb b c s L a)(f):dP (L.take f)=gP (a.ch.take f):=by
 have e:L.map eI.st=a.ch.map DT.st:=by
  apply kJ;intro i;rw[cT,cT];by_cases hi:i<L.length;.have h1:=bS hi;have h2:=bS (show i<a.ch.length by rw[<-h.cl];exact hi);rw[h1,h2,dY,dY,(h.lnk i _ _ h1 h2).1]
  .rw[pE O9,pE (by rw[<-h.cl];omega)];rfl
 unfold dP gP;rw[QV,QV,Wd,Wd,e]
def gQ.flatAll{w nb b c s L a}(h:gQ w nb b c s L a):dP L=gP a.ch:=by have:=h.flat L.length;rw[jI,h.cl,jI]at this;exact this
def Il{l}(h:∀y∈l,y.st.length<=200):(gP l).length<=200*l.length:=by induction l with
 |nil=>exact L9
 |cons x l b=>have e:gP (x::l)=x.st++gP l:=rfl;rw[e,bY,fL];have h1:=h x S8;have h2:=b (λy a=>h y (by simp[a]));omega
def gQ.over{w nb j c s L a y O}(h:gQ w nb oq c s L a)(J:a.bl[j]?=some y)(ak:y.bad=false)(av:¬Dt a.ch y.aY j)(f:s.l[j]?=some O):∃W M,adO a.lo w nb s.B c.me.toNat (s.cs oq c) s.bv s.mv s.gc s.kc s.cc s.l L a.mem s.gs s.n s.sb s.mb c.wk.toNat c.su W (piA a.bl) (IU a.bl) O M (cH a j y.aY)/\W.map WB.m=(iJ a j y.aY).map (mA a.bl)/\(∀(k:Nat) (i:Nat) (x:WB),(iJ a j y.aY)[k]?=some i->W[k]?=some x->s.l[i]?=some x.b)/\W.length=(iJ a j y.aY).length:=by
 have⟨q,G,g⟩:=Qu h.wf (y.aY+1) j y J (nK _);unfold cH iJ;generalize bk:upA a.bl a.ch (y.aY+1) j=u at g;have π:∀(i:Nat) (z:BN),a.bl[i]?=some z->∃x,s.l[i]?=some x/\Tie w s.l i x z:=λi z F=>by have e:=bS (show i<s.l.length by rw[h.ll];exact(cE.1 F).1);exact⟨_,e,h.tie i _ z e F⟩
 have⟨W',K,C⟩:=C5 (λ(i:Nat) (x:WB)=>∃z,a.bl[i]?=some z/\s.l[i]?=some x.b/\Tie w s.l i x.b z/\x.Ok s.l/\mM w x.gt x.Q/\x.Q.map rz.t=z.cO) u (λi hi=>by have⟨k,d⟩:=oK.1 hi;have⟨z,r,H,z3,z4,z5,N⟩:=g.at_ k i d;have⟨x,a2,af⟩:=π i z r;have⟨bb,e,o,t,m⟩:=af.cO (N ak) H;subst e;exact⟨bb,z,r,a2,af,o,t,m⟩)
 have⟨M,ae,ay⟩:=π q G g.hq;have bm:0<u.length:=by
  obtain e|e:=sV u.length;.have:u=[]:=oG e;subst this;have A:=g.at0;have e2:=g.hq;have e3:=g.inq;simp only[vI,mG,gW]at A;subst A;rw[J]at e2;cases e2;exact absurd e3 av
  .exact e
 have hlen:=g.len;have X:∀x∈W',∃(k i:Nat),u[k]?=some i/\W'[k]?=some x:=λx f=>by
  have⟨k,d⟩:=oK.1 f;have V:k<u.length:=by rw[<-K];exact(cE.1 d).1
  exact⟨k,_,bS V,d⟩
 have Y:∀(k i:Nat) (x:kH),(u++[q])[k]?=some i->s.l[i]?=some x->(W'.map WB.b++[M])[k]?=some x:=λk i x d bo=>by grind
 have au:y.aY+1 -u.reverse.length=G.aY+1:=by rw[zh];omega
 have μ:(W'.reverse.map WB.b).reverse=W'.map WB.b:=by rw[Rb,List.reverse_reverse]
 obtain⟨bq,ah,a6⟩:∃z,a.ch[G.aY]?=some z/\z.ix=q:=by have:=g.inq;unfold Dt at this;cases F:a.ch[G.aY]? with
  |none=>rw[F]at this;cases this
  |some z=>rw[F]at this;simp only[dY,gW]at this;exact⟨z,rfl,this⟩
 have ar:=(cE.1 ah).1;have bd:=h.wf.chl;have bh:=h.wf.ll;have bg:s.kc=a.ch.length -1:=h.base.kc;have ao:=DI h.base.cok;have bp:=(h.wf.hle j y J).1;have bf:=(cE.1 J).1;have I:∀(i:Nat) (x:eI),L[i]?=some x->∃(z:DT) (b:kH),a.ch[i]?=some z/\x.At w/\s.l[z.ix]?=some b/\b.a=x.a:=λi x f=>by have e:=bS (show i<a.ch.length by rw[<-h.cl];exact(cE.1 f).1);have⟨_,h2,b,R,S⟩:=h.lnk i x _ f e;exact⟨_,b,e,h2,R,S⟩
 refine⟨W'.reverse,M,?_,?_,?_,?_⟩
 .rw[au];refine⟨by rw[<-h.sl];exact h.base.nd,by rw[h.flatAll];exact h.base.aV,λx f=>?_,λx f=>?_,λx f=>?_,?_,rfl,rfl,O9,ao.2.2.2.1,h.base.mem,O9,by rw[h.flatAll];exact h.wf.path,?_,by rw[h.flat];exact h.wf.Dr _,NQ _,by rw[h.cl];omega,λx f=>?_,λx f=>?_,λx f=>?_,by rw[zh];omega,by rw[zh];omega,by rw[h.ll];omega,O9,?_,λk x d=>?_,λx f=>?_,cU ae,?_,?_,O9,O9,⟨h.base.low.1,h.base.low.2.1⟩,h.base.low.2.2⟩;.grind
  .have⟨k,i,h1,h2⟩:=X x (by simpa using f);exact(C k i x h1 h2).choose_spec.2.2.2.1
  .have⟨k,i,h1,h2⟩:=X x (by simpa using f);exact⟨i,(C k i x h1 h2).choose_spec.2.1,h.ag5 i⟩
  .show some (Value.int .i64 c.wk)=_;rw[KC O9]
  .rw[h.flatAll];have:=Il h.wf.len;omega
  .have⟨i,hi⟩:=oK.1 f;exact(I i x hi).choose_spec.choose_spec.2.1
  .have⟨i,hi⟩:=oK.1 f;have⟨z,b,_,_,R,S⟩:=I i x hi;exact⟨b,cU R,S⟩
  .have⟨i,hi⟩:=oK.1 f;have e:=bS (show i<a.bl.length by rw[<-h.ll];exact(cE.1 hi).1);rw[(h.tie i x _ hi e).aY];exact G8 _
  .rw[μ];exact Y 0 j O g.at0 f
  .rw[μ]at d|-;rw[cT]at d;cases D:W'[k]? with
   |none=>rw[D]at d;cases d
   |some v=>
     rw[D]at d;simp only[dY,gW]at d;subst d;have V:k<u.length:=by rw[<-K];exact(cE.1 D).1
     have aa:=bS V;have⟨z,r,H,z3,z4,z5,N⟩:=g.at_ k _ aa;have⟨aj,v1,v2,v3,ai,_⟩:=C k _ v aa D;rw[r]at v1;cases v1;have⟨p,a8,ba⟩:=v3.par H;exact⟨ai.mem,p,Y (k+1) _ p z4 a8,ba⟩
  .rw[μ]at f;obtain⟨v,az,rfl⟩:=iF.1 f;have⟨k,i,h1,h2⟩:=X v az;have⟨z,r,H,z3,z4,z5,N⟩:=g.at_ k i h1;have⟨aj,v1,v2,v3,_⟩:=C k i v h1 h2;rw[r]at v1;cases v1;rw[v3.aY,vF,cT];intro e;cases T:L[z.aY]? with
   |none=>rw[T]at e;cases e
   |some a7=>rw[T]at e;simp only[dY,gW]at e;have⟨c1,b1,A,_,e3,P⟩:=I _ a7 T;have:=Au h.nda e3 v2 (by rw[P,e]);exact z3 (by unfold Dt;rw[A];simp[this])
  .rw[ay.aY,vF,cT];have e:=bS (show G.aY<L.length by rw[h.cl];exact ar);rw[e];have⟨c1,b1,A,_,e3,P⟩:=I _ _ e;rw[ah]at A;cases A;rw[a6,ae]at e3;cases e3;rw[dY,P]
  .obtain⟨E,bj⟩:∃E,u.length=E+1:=⟨u.length -1,O9⟩;have D:=bS (show E<W'.length by omega);have d:=bS (show E<u.length by omega);have⟨z,r,H,z3,z4,z5,N⟩:=g.at_ E _ d;have⟨aj,v1,v2,v3,_⟩:=C E _ _ d D;rw[r]at v1;cases v1;refine⟨_,by rw[Hd O9,show W'.length -1 -0=E from by omega];exact D,?_⟩;rw[v3.aY];omega
 .rw[Rb,Rb];congr 1;apply kJ;intro k;rw[cT,cT];by_cases d:k<u.length;.have h1:=bS d;have h2:=bS (show k<W'.length by omega);have⟨z,v1,v2,v3,ai,v5,bc⟩:=C k _ _ h1 h2;rw[h1,h2,dY,dY];unfold WB.m mA;rw[v1,v3.aY,bc]
  .rw[pE O9,pE O9];rfl
 .intro k i x d ag;have ab:=(cE.1 d).1;rw[zh]at ab;rw[Hd ab]at d;rw[Hd O9,K]at ag;exact(C _ i x d ag).choose_spec.2.1
 .rw[zh,zh,K]
def yS(a su):∀(l:List (Int×List Mn)) (mem:List bX) (K:jO),(∀p c,K p=some c->c.pt=p)->BI K->mem.length<=a->(∀x∈l,x.1<9223372036854775808/\x.2.length<=8/\∀t∈x.2,t.id.size<=1000000/\(∀i∈t.ins,i.Small)/\t.ins.length<=8/\t.outs.length<=8/\∀o∈t.outs,o.Small)->(∀s∈(bR a su l mem K).ls,s.length<=200)/\(∀m,BI (goes K ((bR a su l mem K).ls.take m).flatten))/\(bR a su l mem K).mem.length<=a
 |[],mem,K,_,b,f,_=>⟨λs d=>by simp[bR]at d,λm=>by simp[bR];exact b,f⟩
 |x::r,mem,K,v,b,f,hl=>by
   have e:=hl x S8;have k:=BM a su x.1 x.2 mem v (λt g=>have q:=e.2.2 t g;⟨q.1,q.2.1,q.2.2.2.1⟩);have u:=Gc a su x.1 x.2 mem e.1 b e.2.1 (λt g=>have q:=e.2.2 t g;⟨q.2.2.1,q.2.2.2.1,q.2.2.2.2⟩);have j:=Gj (su:=su) (h:=x.1) (cO:=x.2) (K:=K) (st:=[]) f;by_cases h0:(bP a su x.1 x.2 mem K []).1=0
   .have⟨z,n,a3⟩:=yS a su r (bP a su x.1 x.2 mem K []).2.2 _ k.pt u.1 j (λy w=>hl y (by simp[w]));rw[bR,aT (by rw[h0];simp)];refine⟨λs d=>?_,λm=>?_,a3⟩;.grind
    .cases m with
     |zero=>simp;exact b
     |succ m=>rw[Ww,List.flatten_cons,iX,<-k.at_];exact n m
   .rw[bR,bD h0];exact⟨λs d=>by simp at d,λm=>by rw[List.take_nil,List.flatten_nil];exact b,j⟩
def Aw:∀(l:List Nat) (m:List (List cW)),m.length=l.length->(qg l m).length=l.length
 |[],_,_=>rfl
 |_::_,[],h=>by simp at h
 |i::l,s::m,h=>by simp[qg];rw[Aw l m (by simpa using h)]
def tQ:∀(l:List Nat) (m:List (List cW)) (k:Nat) (z:DT),(qg l m)[k]?=some z->l[k]?=some z.ix/\m[k]?=some z.st
 |[],_,_,_,h=>by simp[qg]at h
 |_::_,[],_,_,h=>by simp[qg]at h
 |i::l,s::m,0,z,h=>by simp[qg]at h;subst h;exact⟨rfl,rfl⟩
 |i::l,s::m,k+1,z,h=>by have:=tQ l m k z (by simpa[qg]using h);simpa using this
def xq:∀(l:List Nat) (m:List (List cW)) (k:Nat),m.length=l.length->gP ((qg l m).take k)=(m.take k).flatten
 |[],[],k,_=>by simp[qg,gP]
 |[],_::_,_,h=>by simp at h
 |_::_,[],_,h=>by simp at h
 |i::l,s::m,0,_=>by simp[gP]
 |i::l,s::m,k+1,h=>by have:=xq l m k (by simpa using h);rw[Ww,List.flatten_cons,<-this];rfl
def ow(l m):gP (l++m)=gP l++gP m:=by simp[gP]
structure adP(a:AG)(j:Nat)(y:BN):Prop where
 len:(iJ a j y.aY).length<=y.aY
 pos:0<(iJ a j y.aY).length
 fork:cH a j y.aY<=a.ch.length
 at_:∀(k i:Nat),(iJ a j y.aY)[k]?=some i->∃z,a.bl[i]?=some z/\0<i/\¬Dt a.ch z.aY i/\z.aY=cH a j y.aY+k/\z.bad=false
 par:∀(k i:Nat) (z:BN),(iJ a j y.aY)[k+1]?=some i->a.bl[i]?=some z->(iJ a j y.aY)[k]?=some z.par
 aay:∀(i:Nat) (z:BN),(iJ a j y.aY)[0]?=some i->a.bl[i]?=some z->∃q,a.ch[cH a j y.aY -1]?=some q/\q.ix=z.par
 last:(iJ a j y.aY)[(iJ a j y.aY).length -1]?=some j
def aaB{a j y}(h:zU a)(r:a.bl[j]?=some y)(t:y.bad=false)(w:¬Dt a.ch y.aY j):adP a j y:=by
 have⟨q,m,b⟩:=Qu h (y.aY+1) j y r (nK _);have g:iJ a j y.aY=(upA a.bl a.ch (y.aY+1) j).reverse:=rfl;generalize upA a.bl a.ch (y.aY+1) j=u at b g;have hl:(iJ a j y.aY).length=u.length:=by rw[g,zh]
 have hlen:=b.len;have v:cH a j y.aY=m.aY+1:=by unfold cH;rw[hl];omega
 have x:0<u.length:=by
  obtain e|e:=sV u.length;.have:u=[]:=oG e;subst this;have p:=b.at0;have e2:=b.hq;have e3:=b.inq;simp only[vI,mG,gW]at p;subst p;rw[r]at e2;cases e2;exact absurd e3 w
  .exact e
 obtain⟨C,s,A⟩:∃z,a.ch[m.aY]?=some z/\z.ix=q:=by have:=b.inq;unfold Dt at this;cases f:a.ch[m.aY]? with
  |none=>rw[f]at this;cases this
  |some z=>rw[f]at this;simp only[dY,gW]at this;exact⟨z,rfl,this⟩
 have D:=(cE.1 s).1;have l:∀k i:Nat,(iJ a j y.aY)[k]?=some i->k<u.length/\u[u.length -1 -k]?=some i:=λk i d=>by grind
 refine⟨O9,O9,O9,λk i d=>?_,λk i z d f=>?_,λi z d f=>?_,?_⟩;.have⟨h1,h2⟩:=l k i d;have⟨z,c,n,z3,z4,z5,o⟩:=b.at_ _ i h2;exact⟨z,c,n,z3,O9,o t⟩
 .have⟨h1,h2⟩:=l (k+1) i d;have⟨B,c,n,z3,z4,z5,o⟩:=b.at_ _ i h2;rw[f]at c;cases c;rw[g,Hd O9];rw[show u.length -1 -(k+1)+1=u.length -1 -k from by omega,nz O9]at z4;exact z4
 .have⟨h1,h2⟩:=l 0 i d;have⟨B,c,n,z3,z4,z5,o⟩:=b.at_ _ i h2;rw[f]at c;cases c;rw[show u.length -1 -0+1=u.length from by omega,eK L9,sW]at z4;simp only[mG,gW]at z4;exact⟨C,by rw[v];exact s,A.trans z4⟩
 .have e:=b.at0;rw[nz x]at e;rw[hl,g,Hd O9,show u.length -1 -(u.length -1)=0 from by omega];exact e
def uN{α:Type}{l m:List α}{f}(a:f<=l.length){i x}(h:(l.take f++m)[i]?=some x):(i<f/\l[i]?=some x)\/(f<=i/\m[i -f]?=some x):=by grind
def AG.wM(a:AG)(j:Nat)(y:BN)(J:JR):AG:={a with ch:=a.ch.take (cH a j y.aY)++qg (iJ a j y.aY) J.ls,mem:=J.mem}
def zU.over{a j y c}(h:zU a)(W:adP a j y)(hl:c.ls.length=(iJ a j y.aY).length)(h1:eZ (goes uu (gP (a.ch.take (cH a j y.aY)))) c.ls.flatten)(h2:∀s∈c.ls,s.length<=200)(t:∀m,BI (goes (goes uu (gP (a.ch.take (cH a j y.aY)))) (c.ls.take m).flatten)):zU (a.wM j y c):=by
 have H:1<=cH a j y.aY:=by unfold cH;have:=W.len;omega
 have l:=W.fork;have r:∀(i:Nat) (z:DT),(a.wM j y c).ch[i]?=some z->(i<cH a j y.aY/\a.ch[i]?=some z)\/(cH a j y.aY<=i/\(iJ a j y.aY)[i -cH a j y.aY]?=some z.ix/\c.ls[i -cH a j y.aY]?=some z.st):=λi z b=>by
  obtain q|⟨p,d⟩:=uN l b;.simp_all
  .have⟨D,E⟩:=tQ _ _ _ _ d;exact .inr ⟨p,D,E⟩
 have n:∀(i:Nat) (z:DT),i<cH a j y.aY->a.ch[i]?=some z->(a.wM j y c).ch[i]?=some z:=λi z hi b=>by show(a.ch.take (cH a j y.aY)++_)[i]?=some z;rw[nz (by rw[kI];omega),adj hi];exact b
 have B:∀(k i:Nat),(iJ a j y.aY)[k]?=some i->∃z,(a.wM j y c).ch[cH a j y.aY+k]?=some z/\z.ix=i:=λk i f=>by have w:=(cE.1 f).1;have e:=bS (show k<(qg (iJ a j y.aY) c.ls).length by rw[Aw _ _ hl];exact w);have q:=(tQ _ _ _ _ e).1;rw[f]at q;refine⟨_,?_,(jV q).symm⟩;show(a.ch.take (cH a j y.aY)++_)[cH a j y.aY+k]?=some _;rw[eK (by rw[kI];omega),kI,zi l,show cH a j y.aY+k -cH a j y.aY=k from by omega];exact e
 have A:eZ uu (gP (a.ch.take (cH a j y.aY))):=by have:=h.path;rw[<-BX (cH a j y.aY) a.ch,ow]at this;exact this.left.1
 have C:gP (qg (iJ a j y.aY) c.ls)=c.ls.flatten:=by have:=xq (iJ a j y.aY) c.ls (qg (iJ a j y.aY) c.ls).length hl;rw[jI,Aw _ _ hl,<-hl,jI]at this;exact this
 refine⟨h.first,h.par,?_,λk z b=>?_,λk z x b o=>?_,?_,λz b=>?_,λg=>?_,h.ids,h.ll⟩;.have⟨z,b,e⟩:=h.ch0;exact⟨z,n 0 z O9 b,e⟩
 .obtain⟨_,q⟩|⟨p,d,_⟩:=r k z b;.exact h.ch k z q
  .have⟨x,F,I,J,K,G⟩:=W.at_ _ _ d;exact⟨x,F,O9,G⟩
 .rcases r (k+1) z b with⟨q0,q⟩|⟨p,d,_⟩;.have⟨v,v1,v2⟩:=h.link k z x q o;exact⟨v,n k v O9 v1,v2⟩
  .by_cases e:k+1=cH a j y.aY;.rw[show k+1 -cH a j y.aY=0 from by omega]at d;have⟨v,v1,v2⟩:=W.aay _ x d o;exact⟨v,n k v O9 (by rw[show k=cH a j y.aY -1 from by omega];exact v1),v2⟩
   .rw[show k+1 -cH a j y.aY=(k -cH a j y.aY)+1 from by omega]at d;have⟨v,v1,v2⟩:=B _ _ (W.par _ _ x d o);exact⟨v,by rw[show k=cH a j y.aY+(k -cH a j y.aY)from by omega];exact v1,v2⟩
 .show eZ uu (gP (a.ch.take _++qg _ _));rw[ow,C];exact A.append h1
 .obtain b|b:=mN.1 b;.exact h.len z (WH b)
  .have⟨k,f⟩:=oK.1 b;exact h2 _ (cU (tQ _ _ _ _ f).2)
 .show BI (goes uu (gP ((a.ch.take _++qg _ _).take g)));rw[List.take_append,ow,iX,List.take_take,kI,zi l,xq _ _ _ hl];by_cases u:g<=cH a j y.aY;.rw[show g -cH a j y.aY=0 from by omega,zi u];exact h.Dr g
  .rw[Nat.min_eq_right O9];exact t _
def IV{w nb j k c s L a}{y:BN}{W:List WB}(_h:gQ w nb k c s L a)(b:∀x∈W,x.Ok s.l)(d:W.map WB.m=(iJ a j y.aY).map (mA a.bl)):∀x∈(iJ a j y.aY).map (mA a.bl),x.1<9223372036854775808/\x.2.length<=8/\∀t∈x.2,t.id.size<=1000000/\(∀i∈t.ins,i.Small)/\t.ins.length<=8/\t.outs.length<=8/\∀o∈t.outs,o.Small:=by rw[<-d];intro v g;obtain⟨x,h,rfl⟩:=iF.1 g;have o:=b x h;refine⟨o.hh,by show(x.Q.map rz.t).length<=8;rw[fM];exact o.q8,λt f=>?_⟩;obtain⟨n,e,rfl⟩:=iF.1 f;have:=o.q n e;exact⟨this.id,this.si,this.li,this.lo,this.so⟩
def ae9{w w' nb j J I c s L f a y r}{W:List WB}{T}(h:gQ w nb oq c s L a)(C:a.bl[j]?=some y)(aa:y.bad=false)(bh:¬Dt a.ch y.aY j)(S:s.l[j]?=some r)(a6:∀x∈W,x.Ok s.l)(a2:W.map WB.m=(iJ a j y.aY).map (mA a.bl))(Y:∀(k:Nat) (i:Nat) (x:WB),(iJ a j y.aY)[k]?=some i->W[k]?=some x->s.l[i]?=some x.b)(π:W.length=(iJ a j y.aY).length)(a8:(dU c a j y.aY).e=0)(av:aQ w' s.gs s.n s.sb s.mb (dU c a j y.aY).K)
 (hN:oD w' nb s.B c.me.toNat (((s.cs oq c).set 15 T).set 12 (.slice (some ⟨J,0,none⟩) (cH a j y.aY -1+W.length+1) I)) s.bv T J (cH a j y.aY -1+W.length) I s.l (eJ (L.take (cH a j y.aY)++f)) (dU c a j y.aY).mem)
 (bf:f.map eI.st=(dU c a j y.aY).ls)(N:f.map eI.a=W.map (λx=>x.b.a))(a7:∀x∈f,x.At w')(tk:Tk a.lo Y1 s.n s.mb w w')(o:dI w w'):
 gQ w' nb oq c {s with gc:=J,kc:=cH a j y.aY -1+W.length,cc:=I,mv:=T,L:=eJ (L.take (cH a j y.aY)++f),p:=r} (L.take (cH a j y.aY)++f) (a.wM j y (dU c a j y.aY)):=by
 have t:=aaB h.wf C aa bh;have af:=IV (y:=y) h a6 a2;have⟨μ,V,br,bu,ai⟩:=yQ c.me.toNat c.su _ a.mem _ (NQ _) (h.wf.Dr (cH a j y.aY)) af;have⟨aj,ak,ao⟩:=yS c.me.toNat c.su _ a.mem _ (NQ _) (h.wf.Dr (cH a j y.aY)) h.base.mem af;change (dU c a j y.aY).K=goes _ (dU c a j y.aY).st at μ;change eZ _ (dU c a j y.aY).st at V;change (dU c a j y.aY).e=0->(dU c a j y.aY).st=(dU c a j y.aY).ls.flatten/\(dU c a j y.aY).ls.length=_ at ai;change ∀s∈(dU c a j y.aY).ls,_ at aj;change ∀m,BI (goes _ ((dU c a j y.aY).ls.take m).flatten)at ak;change (dU c a j y.aY).mem.length<=_ at ao;have⟨ar,e2⟩:=ai a8;rw[fM]at e2;rw[ar]at μ V;generalize dU c a j y.aY=d at*;have R:=h.wf.over t e2 V aj ak;have ba:1<=cH a j y.aY:=by unfold cH;have:=t.len;omega
 have g:=t.fork;have ah:=Aw (iJ a j y.aY) d.ls e2;have M:(a.wM j y d).ch.length=cH a j y.aY+W.length:=by show(a.ch.take _++qg _ _).length=_;rw[bY,kI,zi g,ah,π]
 have bp:=t.pos;have X:f.length=W.length:=by have:=congrArg List.length N;simpa using this
 have bq:=(cE.1 C).1;have D:=h.tie j r y S C;have bc:cH a j y.aY -1+W.length=y.aY:=by unfold cH at ba|-;have:=t.len;omega
 have P:gA (a.wM j y d)=y:=by
  unfold gA;have ab:(qg (iJ a j y.aY) d.ls)[(iJ a j y.aY).length -1]?=some _:=bS O9;have ag:=(tQ _ _ _ _ ab).1;rw[t.last]at ag;have e3:(a.wM j y d).ch[(a.wM j y d).ch.length -1]?=(qg (iJ a j y.aY) d.ls)[(iJ a j y.aY).length -1]?:=by rw[M];show(a.ch.take _++qg _ _)[_]?=_;rw[eK (by rw[kI,zi g];omega),kI,zi g];congr 1;omega
  rw[e3,ab,uP,<-jV ag];show(a.bl[j]?).getD _=y;rw[C];rfl
 have ay:(a.wM j y d).K=d.K:=by show goes uu (gP (a.ch.take _++qg _ _))=_;have:=xq (iJ a j y.aY) d.ls (qg (iJ a j y.aY) d.ls).length e2;rw[jI,ah,<-e2,jI]at this;rw[ow,iX,this,μ]
 have hle:=h.wf.hle j y C;have A:=h.base;have az:∀gt Q,mM w gt Q->mM w' gt Q:=λ_ _ q=>q.tk tk (oV D9 D9 D9 D9 D9) (oV D9 D9 D9 D9 D9) (oV D9 D9 D9 D9 D9);have bd:=R.chl;refine⟨⟨hN,by show aQ w' s.gs s.n s.sb s.mb (a.wM j y d).K;rw[ay];exact av,A.idn,cU S,D.bad.trans aa,?_,?_,yP _,A.ids,?_,?_,?_,A.len,?_,?_,?_,ao,A.cok,A.low⟩,rfl,R,h.ll,λi x v F E=>(h.tie i x v F E).move az (λk p bj=>⟨p,bj,rfl⟩) (cU F),h.nda,?_,λi x v F E=>?_⟩;.show r.aY=((cH a j y.aY -1+W.length:Nat):Int);rw[D.aY,bc]
 .show(eJ (L.take (cH a j y.aY)++f))[(cH a j y.aY -1+W.length)*2]?=some (.pointer r.a);have e:=bS (show W.length -1<f.length by omega);have z:=bS (show W.length -1<W.length by omega);have O:(f.map eI.a)[W.length -1]?=(W.map (λx=>x.b.a))[W.length -1]?:=by rw[N]
  rw[cT,cT,e,z]at O;simp only[dY,gW]at O;have ae:=Y (W.length -1) j _ (by rw[π];exact t.last) z;rw[S]at ae;have bb:(L.take (cH a j y.aY)++f)[cH a j y.aY -1+W.length]?=some f[W.length -1]:=by rw[eK (by rw[kI,h.cl];omega),kI,h.cl,zi g,show cH a j y.aY -1+W.length -cH a j y.aY=W.length -1 from by omega];exact e
  rw[(uM _ _ _ bb).1,O,<-jV ae]
 .show r.id=(gA _).id;rw[P];exact D.id
 .show cH a j y.aY -1+W.length=(a.wM j y d).ch.length -1;rw[M];omega
 .show r.wo=(gA _).wo;rw[P];exact D.wo
 .show(a.wM j y d).ch.length -1+1<=(a.bl.map BN.id).length;rw[fM];have:(a.wM j y d).ch.length<=a.bl.length:=bd;omega
 .show 0<=(gA _).wo/\(gA _).wo<=256*((a.bl.map BN.id).length:Int);rw[P,fM];omega
 .show BI (a.wM j y d).K;have:=R.Dr (a.wM j y d).ch.length;rw[jI]at this;exact this
 .rw[M,bY,kI,h.cl,zi g,X]
 .rcases uN (by rw[h.cl];exact g) F with⟨bk,u⟩|⟨bk,u⟩
  .obtain⟨_,v2⟩|⟨v1,_⟩:=uN g E;.have⟨h1,h2,au⟩:=h.lnk i x v u v2;exact⟨h1,h2.old o,au⟩
   .omega
  .obtain⟨v1,_⟩|⟨_,v2⟩:=uN g E;.omega
   .have⟨bm,bo⟩:=tQ _ _ _ _ v2;have bg:i -cH a j y.aY<W.length:=by rw[<-X];exact(cE.1 u).1
    have z:=bS bg;have G:(f.map eI.st)[i -cH a j y.aY]?=d.ls[i -cH a j y.aY]?:=by rw[bf]
    rw[cT,u,bo]at G;have H:(f.map eI.a)[i -cH a j y.aY]?=(W.map (λx=>x.b.a))[i -cH a j y.aY]?:=by rw[N]
    rw[cT,cT,u,z]at H;simp only[dY,gW]at G H;exact⟨G,a7 x (cU u),_,Y _ _ _ bm z,H.symm⟩
def zU.clean{a}(h:zU a){i z}(hi:a.bl[i]?=some z)(m:¬Dt a.ch z.aY i):∀(k:Nat) (v:DT),a.ch[k]?=some v->(IU a.bl i).getD v.ix false=false:=by
 have j:∀(k:Nat) (v:DT),a.ch[k]?=some v->v.ix≠i:=λk v b e=>by have⟨x,c,d,_⟩:=h.ch k v b;rw[e,hi]at c;cases c;exact m (by unfold Dt;rw[d,b,<-e];rfl)
 intro k;induction k with
 |zero=>intro v b;have⟨v0,l,g⟩:=h.ch0;rw[b]at l;cases l;have⟨x,c,d,f⟩:=h.ch 0 v b;rw[Gm c (λh0=>(h.par _ x c h0).1),f,g];have:=j 0 v b;rw[g]at this;simp[this]
 |succ k n=>intro v b;have⟨x,c,d,f⟩:=h.ch (k+1) v b;have⟨q,o,p⟩:=h.link k v x b c;rw[Gm c (λh0=>(h.par _ x c h0).1),f,<-p,n q o];simp[j (k+1) v b]
def get_map{α β:Type}{f}{l:List α}{i}{y:β}(h:(l.mapIdx f)[i]?=some y):∃x,l[i]?=some x/\f i x=y:=by simp_all
def lU{α β:Type}{f:Nat->α->β}{l:List α}{i x}(h:l[i]?=some x):(l.mapIdx f)[i]?=some (f i x):=by simp_all
def ago{a}(h:zU a){i j x}(c:a.bl[i]?=some x)(b:(IU a.bl j).getD i false=false):x.bad=false:=by rw[Gm c (λh0=>(h.par _ x c h0).1)]at b;simp at b;exact b.1.1
def AG.spoilt(a:AG)(i:Nat)(m:List bX):AG:={a with bl:=jC a.bl i,mem:=m}
def zU.agp{a}(h:zU a){i z}(hi:a.bl[i]?=some z)(n:¬Dt a.ch z.aY i)(m):zU (a.spoilt i m):=by
 have j:=h.clean hi n;refine⟨?_,λk x d h0=>?_,h.ch0,λk v c=>?_,λk v x c d=>?_,h.path,h.len,h.Dr,?_,?_⟩;.have⟨x,f,g,l,w⟩:=h.first;have⟨v,v1,v2⟩:=h.ch0;have:=j 0 v v1;rw[v2]at this;exact⟨_,lU f,g,l,this⟩
 .obtain⟨b,h1,rfl⟩:=get_map d;have⟨o,p,q,r,s,t,u⟩:=h.par k b h1 h0;refine⟨o,_,lU q,r,s,t,λe=>?_⟩;show(IU a.bl i).getD k false=true;have e2:(IU a.bl i).getD b.par false=true:=e;rw[Gm h1 (λh0=>(h.par _ b h1 h0).1),e2];simp[h0]
 .have⟨x,f,g,l⟩:=h.ch k v c;exact⟨_,lU f,g,j k v c⟩
 .obtain⟨b,h1,rfl⟩:=get_map d;exact h.link k v b c h1
 .show((jC a.bl i).map BN.id).Nodup;have e:(jC a.bl i).map BN.id=a.bl.map BN.id:=by apply kJ;intro k;rw[cT,cT];unfold jC;rw[qw];cases a.bl[k]?<;>rfl
  rw[e];exact h.ids
 .show(jC a.bl i).length<=49;unfold jC;rw[WN];exact h.ll
def ru(bl i):(jC bl i).map BN.id=bl.map BN.id:=by apply kJ;intro k;rw[cT,cT];unfold jC;rw[qw];cases bl[k]?<;>rfl
def BN.DU{x:BN}(h:x.bad=false):x.mark false=x:=by cases x;simp only at h;subst h;rfl
def aaC:=@BN.DU
def kH.DU{x:kH}(h:x.bad=false):x.mark false=x:=by cases x;simp only at h;subst h;rfl
def agq{w w' nb i c s L a z M G}(h:gQ w nb oq c s L a)(hi:a.bl[i]?=some z)(O:¬Dt a.ch z.aY i)(μ:M.length<=c.me.toNat)(T:aQ w' s.gs s.n s.sb s.mb a.K)(hN:oD w' nb s.B c.me.toNat ((s.cs oq c).set 15 G) s.bv G s.gc s.kc s.cc (s.l.mapIdx λk y=>y.mark ((IU a.bl i).getD k false)) s.L M)(tk:Tk a.lo Y1 s.n s.mb w w')(o:dI w w'):
 gQ w' nb oq c {s with mv:=G,l:=s.l.mapIdx λk y=>y.mark ((IU a.bl i).getD k false)} L (a.spoilt i M):=by
 have J:=h.wf.clean hi O;have ab:=h.wf.agp hi O M;have d:=h.base;have V:∀gt Q,mM w gt Q->mM w' gt Q:=λ_ _ q=>q.tk tk (oV D9 D9 D9 D9 D9) (oV D9 D9 D9 D9 D9) (oV D9 D9 D9 D9 D9);have N:(s.l.mapIdx λk y=>y.mark ((IU a.bl i).getD k false)).map kH.id=s.l.map kH.id:=by apply kJ;intro k;rw[cT,cT,qw];cases s.l[k]?<;>rfl
 have I:(s.l.mapIdx λk y=>y.mark ((IU a.bl i).getD k false)).map kH.a=s.l.map kH.a:=by apply kJ;intro k;rw[cT,cT,qw];cases s.l[k]?<;>rfl
 have⟨A,t1,t2,t3,t4,t5⟩:=h.wf.rS;have E:gA (a.spoilt i M)=gA a:=by
  have e:gA (a.spoilt i M)=(gA a).mark ((IU a.bl i).getD A.ix false):=by unfold gA;show((a.ch[a.ch.length -1]?).bind λy=>(jC a.bl i)[y.ix]?).getD _=_;rw[t1,uP];unfold jC;rw[lU t2,uP,t2];rfl
  rw[e,J _ A t1,aaC t4]
 have aa:∀(k:Nat) (x:kH),s.l[k]?=some x->∃y,a.bl[k]?=some y:=λk x j=>⟨_,bS (by rw[<-h.ll];exact(cE.1 j).1)⟩;have π:s.p∈s.l.mapIdx λk y=>y.mark ((IU a.bl i).getD k false):=by
  have⟨k,D⟩:=oK.1 d.rS;have⟨v,r⟩:=aa k _ D;have g:=h.tie k _ v D r;have X:k=A.ix:=by
   have u:(a.bl.map BN.id)[k]?=some s.p.id:=by rw[cT,r,dY,g.id]
   have e2:(a.bl.map BN.id)[A.ix]?=some s.p.id:=by rw[cT,t2,dY];exact congrArg some d.tid.symm
   exact(WI (cE.1 u).1 h.wf.ids).1 (u.trans e2.symm)
  have e:=lU (f:=λk y=>kH.mark y ((IU a.bl i).getD k false)) D;rw[X,J _ A t1,kH.DU d.kD]at e;exact cU e
 have Y:(jC a.bl i).length=a.bl.length:=by unfold jC;rw[List.length_mapIdx]
 refine⟨⟨hN,T,by show(List.map kH.id _).Nodup;rw[N];exact d.idn,π,d.kD,d.ph,d.link,d.L1,?_,?_,d.kc,?_,?_,?_,?_,d.Dr,μ,d.cok,d.low.1,d.low.2.1,λx j=>?_⟩,h.sl,ab,?_,λk x v j r=>?_,by show(List.map kH.a _).Nodup;rw[I];exact h.nda,h.cl,λk x v j r=>?_⟩;.show List.map kH.id _=(jC a.bl i).map BN.id;rw[N,ru];exact d.ids
 .show s.p.id=(gA _).id;rw[E];exact d.tid
 .show s.p.wo=(gA _).wo;rw[E];exact d.wo
 .show((jC a.bl i).map BN.id).length<=49;rw[ru];exact d.len
 .show a.ch.length -1+1<=((jC a.bl i).map BN.id).length;rw[ru];exact d.kl
 .show 0<=(gA _).wo/\(gA _).wo<=256*(((jC a.bl i).map BN.id).length:Int);rw[E,ru];exact d.wb
 .have:x.a∈s.l.map kH.a:=by rw[<-I];exact xK j
  have⟨ah,h1,h2⟩:=iF.1 this;rw[<-h2];exact d.low.2.2 ah h1
 .show(List.mapIdx _ s.l).length=(jC a.bl i).length;rw[WN,Y];exact h.ll
 .obtain⟨H,ae,rfl⟩:=get_map j;obtain⟨v0,P,rfl⟩:=get_map r;have g:=h.tie k H v0 ae P;refine⟨g.id,g.aY,g.wo,rfl,g.aay,λh0=>?_,λW h0=>?_⟩;.have⟨p,af,ag⟩:=g.par h0;exact⟨_,lU af,ag⟩
  .have C:(IU a.bl i).getD k false=false:=W;have F:=ago h.wf P C;have⟨q,e,ok,t,m⟩:=g.cO F h0;have u:H.mark ((IU a.bl i).getD k false)=H:=by rw[C,kH.DU (g.bad.trans F)]
   have e2:v0.mark ((IU a.bl i).getD k false)=v0:=by rw[C,aaC F]
   refine⟨q,e.trans u.symm,⟨ok.tv,ok.q,ok.q0,ok.q8,ok.qc,?_,ok.hh⟩,V _ _ t,by rw[e2];exact m⟩;rw[e,<-u];exact cU j
 .have⟨h1,h2,b,R,S⟩:=h.lnk k x v j r;exact⟨h1,h2.old o,_,lU R,S⟩
end
end Go.Proofs.aH
