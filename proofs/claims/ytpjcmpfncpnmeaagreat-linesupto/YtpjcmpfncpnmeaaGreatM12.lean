import Derived.Test.YtpjcmpfncpnmeaaGreatM11
set_option linter.all false
set_option maxHeartbeats 16000000
set_option maxRecDepth 100000
namespace Go.Proofs.aH
open Go.RowKit Go.Shelf Go.Seq Tryz
attribute [local go_sem↓] Go.wp_at_zero Go.wp_at_succ
section
variable{LB:Nat}
def rG:jH:=λ_=>none
def zN(a s):∀(l:List (Int×List Bc))(M:List cC)(K:jH),(∀p c,K p=some c->c.pt=p)->Eh K->(∀x∈l,x.1<9223372036854775808/\x.2.length<=8/\∀t∈x.2,t.id.size<=1000000/\(∀i∈t.ins,i.Small)/\t.ins.length<=8/\t.outs.length<=8/\∀o∈t.outs,o.Small)->(bG a s l M K).K=goes K (bG a s l M K).st/\fE K (bG a s l M K).st/\Eh (bG a s l M K).K/\(bG a s l M K).st.length<=200*l/\((bG a s l M K).e=0->(bG a s l M K).st=(bG a s l M K).ls.flatten/\(bG a s l M K).ls.length=l)
 |[],M,K,_,f,_=>⟨rfl,trivial,f,L9,λ_=>⟨rfl,rfl⟩⟩
 |x::r,M,K,m,f,u=>by
   have d:=u x S8;have b:=xV a s x.1 x.2 M m λt g=>have q:=d.2.2 t g;⟨q.1,q.2.1,q.2.2.2.1⟩;have h:=HB a s x.1 x.2 M d.1 f d.2.1 λt g=>have q:=d.2.2 t g;⟨q.2.2.1,q.2.2.2.1,q.2.2.2.2⟩;by_cases H:(bQ a s x.1 x.2 M K []).1=0;have⟨j,k,A,v,w⟩:=zN a s r (bQ a s x.1 x.2 M K []).2.2 _ b.pt h.1 λy n=>u y<|by simp[n]
   rw[bG,aJ<|by rw[H];simp];refine⟨?_,b.ok.append ?_,A,?_,λe=>?_⟩;rw[j,gS,<-b.at_];rw[<-b.at_];exact k;grind;simp_all;rw[bG,aN H];simp only;refine⟨b.at_,b.ok,h.1,?_,λe=>?_⟩;grind;omega
structure TH(π:World)(tb gs n:Nat)(sb mb:Nat->Nat)(L:List dX)(k:Nat)(W:World):Prop where
 dL:aR W gs n sb mb (goes rG<|dO (L.take<|L.length -k))
 jy:∃v,bW W tb gs n v (lM<|dO (L.drop<|L.length -k))
 x:Xo (BI n mb tb) (tb+1) xB π W
theorem TH.own{c tb gs n sb M L}(u:∀i,i<n->M i<↑c):OwnFrom c.heap.size (TH c tb gs n sb M L):=by
 intro k W w R h a v;have d:∀r,R=some r->∃o:Obj,W.heap[r]?=some o/\o.isCells=false:=λr e=>(v r e).2;have x:Xc (λk=>R=some k) W w:=⟨a.os,a.tape,a.output,a.size,λk j p=>a.block k j λe=>p e.symm⟩;have l:∀g t C,Row W g t C->¬R=some g:=λg t C r e=>by have⟨o,m,b⟩:=d g e;cases r▸m;simp[Obj.isCells]at b
 refine⟨h.dL.xc x (l _ _ _ h.dL.arr) (λi H=>l _ _ _<|h.dL.sh i H) λi H e=>?_,?_,?_⟩;grind;have⟨s,f⟩:=h.jy;exact⟨s,⟨(λg t C(r:Row W g t C)=>lL a d _ _ _ _ r) _ _ _ f.row,dA f.own λk C _ _ b=>(lL a d _ _ _ _ b).trans b.symm⟩⟩;refine Wk h.x x λk j e=>?_;have:=(v _ e).1;omega
def TH.grown{a t g n s m L}(b:∀i,i<n->m i<↑a){k W}(h:TH a t g n s m L k W)(o):TH a t g n s m L k (W.alloc o):=TH.own b k W _ none h (aaB W o none) (λr e=>by cases e)
def wM.xo{t n m w W g l}(h:wM w g l)(x:Xo (BI n m t) (t+1) xB w W)(j:g<t)(c:∀k,lu n m k->∃o,w.heap[k]?=some o/\o.isCells=false):wM W g l:=have⟨C,f,a⟩:=h.ty;have:=x.block g (bO a) (by rintro((e|e)|⟨e,_⟩);have⟨o,b,d⟩:=c g e;cases a▸b;simp[Obj.isCells]at d;omega;omega)
 ⟨⟨C,f,this.trans a⟩,λi s H=>(h.at_ i s H).same this⟩
def TH.call{a W T G n S M L k i x}(h:TH a T G n S M L k W)(B:∀k,lu n M k->∃o,a.heap[k]?=some o/\o.isCells=false)(m:L[i]?=some x)(K:i+k+1=L)(j:fE rG (dO L))(H:(dO L).length<=20000)(t:x.st=[]\/∃g,x.sa=some ⟨g,0,none⟩/\g<T/\wM a g x.st):Cv 82 #[ptr T,(x.sa,x.st,x.sc)] W λe D=>e=.returned (.tuple #[])/\TH a T G n S M L (k+1) D/\Xo (BI n M T) (T+1) xB W D:=by
 have⟨v,l⟩:=h.jy;have p:L -k=i+1:=O9;have E:L -(k+1)=i:=O9;have s:L.take (i+1)=L.take i++[x]:=by rw[oz,m];rfl
 have q:L.drop i=x::L.drop (i+1):=by have⟨A,w⟩:=bK.1 m;rw[wH A,w]
 have b:=h.dL;rw[p]at b l;have r:dO (L.take<|i+1)=dO (L.take i)++x.st:=by rw[s,qD];simp[dO]
 have d:dO (L.drop i)=x.st++dO (L.drop<|i+1):=by rw[q];simp[dO]
 have c:dO L=dO (L.take i)++(x.st++dO (L.drop<|i+1)):=by rw[<-d,<-qD,pR]
 rw[r,gS]at b;rw[c]at j H;have J:(lM<|dO (L.drop<|i+1)).length+x.st<=100000:=by rw[cB,cB]at H;rw[yj];omega
 have z:x.st=[]\/∃g,x.sa=some ⟨g,0,none⟩/\(g<=T\/x.st<+:lM (dO (L.drop<|i+1)))/\wM W g x.st:=by obtain e|⟨g,e,y,c⟩:=t;exact .inl e;exact .inr ⟨g,e,.inl O9,c.xo h.x y B⟩
 refine(ahG x.sa x.sc W b l j.left.2.left.1 J z).mono λe D⟨rfl,F,⟨C,I⟩,f⟩=>?_;refine⟨rfl,⟨E▸F,⟨C,?_⟩,rz h.x f⟩,f⟩;rw[E,d,MN];exact I
def adZ(d G a C f b x L c w)(q:0<a)(r:0<b)(Q:w.cell? (d,0)=some (.slice (some ⟨G,0,none⟩) a C))(p:w.cell? (d,1)=some (.slice (some ⟨f,0,none⟩) b x))(l:L.length=a*2)(n:∀u∈L,u.oneCell'=true)(o:∀j u,L[j]?=some u->w.cell? ⟨G,j,none⟩=some u)(g:c.length=b*2)(h:∀u∈c,u.oneCell'=true)(i:∀j u,c[j]?=some u->w.cell? ⟨f,j,none⟩=some u)(s:a<=400)(t:b<=400):
 Cv 86 #[.slice (some ⟨d,0,none⟩) 2 2] w λe W=>∃v,e=.returned v/\W.ownsRow w 156 2 v (a+b) (L++c)/\Below w w W:=by
 obtain⟨k,rfl⟩:∃k,a=k+1:=⟨a -1,O9⟩;obtain⟨m,rfl⟩:∃m,b=m+1:=⟨b -1,O9⟩;exact af4 d G k C f m x L c w Q p l n o g h i O9 O9
def oh.akg{w N B f G k j d a c C L e bv M l m}(h:oh w N B f C bv M G k j l L m)(i:w.ownsRow B 156 2 (d,a+1,c) (a+1) e):oh (w.setCell (N,12) (d,a+1,c)) N B f (C.set 12 (d,a+1,c)) bv M d a c l e m:=by
 have x:Ck 0 (λu=>u=130) w (w.setCell (N,12) (d,a+1,c)):=(mP (n:=0) (mb:=λ_=>0) h.mem.row _<|cH _).ck;have H:=(bK.1 h.mem.Ze).1;refine⟨⟨h.mem.row.set 12 _,?_,?_,zJ h.mem.own x D9,cA h.mem.base x.size⟩,?_,?_,⟨zJ h.qz.own x D9,λb g=>(h.qz.row b g).ck x D9⟩,zJ i x D9⟩;rw[ot D9];exact h.mem.Ze;rw[ot D9];exact h.mem.KJ;rw[ot D9];exact h.c11;grind
def MQ{G n T S M K v l}(x D f w)(h:w.cell? (f,0)=some ↑aF)(B:w.cell? (D,0)=some (.pointer T))(i:aR w G n S M (goes K l))(a:bW w T G n v l)(r:fE K l)(L:l.length<=40000)(p:LB<=T):CallsDIn Fence.wide x Vp 81 #[.pointer<|some ⟨f,0,none⟩,.pointer<|some ⟨D,0,none⟩] .returning w (λe y W=>y=.returning/\(∃v,e=.returned v)/\aR W G n S M K/\Tk LB Yt n M w W/\Xo (BI n M T) (T+1) xB w W):=by
 have t:l=[]\/∃g,(∃c,v=.slice (some ⟨g,0,none⟩) l c)/\wM w g l:=by obtain⟨d,F⟩|⟨g,E,J,d,_⟩:=a.own.2;exact .inl<|lW F;have j:=a.own;rw[d]at j;exact .inr ⟨g,⟨E,d⟩,WL j⟩
 obtain⟨V,C,rfl⟩:=aS a.own;have N:=a.row.r 1;have b:Below w w w.drew:=cN B0;have u:Cv 82 #[.pointer T,.slice V l C] w.drew λe W=>∃m,e=.returned m/\(aR W G n S M K/\Tk LB Yt n M w W/\Xo (BI n M T) (T+1) xB w W):=by refine(ahG V C w.drew (i.keep b) ⟨a.row.keep b a.row.lt,aP a.own b⟩ r O9 ?_).mono ?_;obtain e|⟨g,⟨c,e⟩,q⟩:=t;exact .inl e;cases e;exact .inr ⟨g,rfl,.inr<|tF _,q.keep b⟩;rintro e W⟨rfl,I,_,H⟩;exact⟨_,rfl,I,(BM b).trans<|WA H (i.keep b) ⟨a.row.keep b a.row.lt,aP a.own b⟩ p,rz (jS b) H⟩
 have s:Hid (∀k w,(callFunc 82 k).run Vp w=.ok (.enter 82 k) w):=λ_ _=>by kernel_rfl
 refine wV (fA func81) rfl ?_;go_wp2;go_region_law (refine jA 82 rfl _ _ rfl #[.pointer T,.slice V l C] E9 _ u (s.out _ _) ?_;rintro m O⟨o,z,A⟩);all_goals go_wp2
 all_goals go_end0
 all_goals exact⟨⟨_,rfl⟩,o,z,A⟩
end
section
attribute [local go_sem] Oper.semAt_some
variable{LB:Nat}
structure OvG(w W:World)(nb B most:Nat)(cs:List Value)(bv mv:Value)(gc kc cc:Nat)(l:List kT)(L:List dX)(mem:List cC)(gs n:Nat)(sb mb:Nat->Nat)(K:jH)(Ws:List WB):Prop where
 r0:Row W w.heap.size 37 [.int .i64 0,.int .i64 0]
 tr:bW W (w.heap.size+1) gs n (.slice none 0 0) []
 rb:Row W (w.heap.size+1+1) 179 [.pointer<|some ⟨w.heap.size+1,0,none⟩]
 ra:Row W (w.heap.size+1+1+1) 4 [.bool false]
 nd:oh W nb B most cs bv mv gc kc cc l (eW L) mem
 dL:aR W gs n sb mb K
 eO:∀x∈Ws,nX W x.gt x.Q
 below:Below w.heap.size w W
def OvG.keep{w W e N B c f bv i g k C l L M G n s m K b}(h:OvG w W N B c f bv i g k C l L M G n s m K b)(a:Below W W e):OvG w e N B c f bv i g k C l L M G n s m K b:=⟨h.r0.keep a h.r0.lt,⟨h.tr.row.keep a h.tr.row.lt,aP h.tr.own a⟩,h.rb.keep a h.rb.lt,h.ra.keep a h.ra.lt,h.nd.keep a,h.dL.keep a,λx d=>(h.eO x d).keep a,h.below.trans<|a.mono h.below.size⟩
def OvG.new{w N B c C bv i G k h l L M g n s m K b}(hN:oh w N B c C bv i G k h l (eW L) M)(d:aR w g n s m K)(e:∀x∈b,nX w x.gt x.Q):OvG w ((((w.alloc<|.cells #[aA,aA] 37).alloc<|.cells #[(g,n,n),()] 181).alloc<|.cells #[.pointer ((w:Nat)+1,0)] 179).alloc<|.cells #[aF] 4) N B c C bv i G k h l L M g n s m K b:=by
 have a:Below w w ((((w.alloc<|.cells #[aA,aA] 37).alloc<|.cells #[(g,n,n),()] 181).alloc<|.cells #[.pointer ((w:Nat)+1,0)] 179).alloc<|.cells #[aF] 4):=(((B0.alloc L9 _).alloc S8 _).alloc (by simp;omega) _).alloc (by simp;omega) _;refine⟨(((aX w [aA,aA] 37).alloc _).alloc _).alloc _,⟨?_,mV _ _ _ _⟩,?_,?_,hN.keep a,d.keep a,λx f=>(e x f).keep a,a⟩;exact((BK (w:=w.alloc<|.cells #[aA,aA] 37) (cs:=[(g,n,n),↑()]) S8).alloc _).alloc _;exact(BK (w:=(w.alloc<|.cells #[aA,aA] 37).alloc<|.cells #[(g,n,n),.slice none 0 0] 181) (cs:=[.pointer<|some ⟨w.heap.size+1,0,none⟩]) S8).alloc _;exact BK (cs:=[↑aF]) S8
structure ahH(LB:Nat)(w:World)(nb B most:Nat)(cs:List Value)(bv mv:Value)(gc kc cc:Nat)(l:List kT)(L:List dX)(mem:List cC)(gs n:Nat)(sb mb:Nat->Nat)(wk:Nat)(su:Int)(W:List WB)(pi:Nat->Option Nat)(bsF:Nat->List Bool)(b q:kT)(f:Nat):Prop where
 nd:oh w nb B most cs bv mv gc kc cc l (eW L) mem
 dL:aR w gs n sb mb (goes rG<|dO L)
 eO:∀x∈W,nX w x.gt x.Q
 ok:∀x∈W,x.Ok l
 sp:∀x∈W,∃j,l[j]?=some x.b/\af5 l j (bsF j) pi
 c6:cs[6]?=some (.int .i64 wk)
 c9:cs[9]?=some (.int .i64 su)
 c13:cs[13]?=some (.slice (some ⟨gs,0,none⟩) n n)
 wk:0<wk/\wk<=8
 su:0<=su/\su<=1000000
 ml:mem.length<=most
 ms:most<=64
 path:fE rG (dO L)
 fl:(dO L).length<=10000
 KT:Eh (goes rG (dO<|L.take f))
 NB:∀p c,goes rG (dO<|L.take f) p=some c->c.pt=p
 Ll:L.length=kc+1
 at_:∀x∈L,x.At w
 la:∀x∈L,∃y∈l,y.a=x.a
 hr:∀x∈l,0<=x.aT
 w0:0<W.length
 wl:W.length<=50
 ll:l.length<=1000
 kl:kc<=100
 u0:((W.map WB.b).reverse++[q])[0]?=some b
 us:∀k x,(W.map WB.b).reverse[k]?=some x->x∈l/\∃y,((W.map WB.b).reverse++[q])[k+1]?=some y/\x.par=some y.a
 uc:∀x∈(W.map WB.b).reverse,(L.map dX.a)[x.aT.toNat]?≠some x.a
 ql:q∈l
 qc:(L.map dX.a)[q.aT.toNat]?=some q.a
 f0:∃x,W[0]?=some x/\x.b.aT=(f:Int)
 f1:1<=f
 fk:f<=kc+1
 ln:LB<=nb/\LB<=B
 lb:∀x∈l,LB<=x.a
def dN.ck{a w W}(x:Ck LB a w W)(h:¬a 234):dN w W:=λk c f b=>x.cells k c _ f b<|.inr h
def En:=@dN.ck
def wM.old{w W g l}(h:wM w g l)(o:dN w W):wM W g l:=have⟨c,f,a⟩:=h.ty;have:=o g c f a;⟨⟨c,f,this⟩,λi s H=>(h.at_ i s H).same<|this.trans a.symm⟩
theorem ApartL.at_{w W B v L}(h:ApartL w B v L)(o:dN w W):∀x∈L,x.At W:=λx c=>by obtain e|⟨g,a,_,_,b⟩:=h x c;exact .inl e;exact .inr ⟨g,a,b.old o⟩
def ad0(l:List dX)(i:Nat):dX:=(l[i]?).getD ⟨0,[],none,0⟩
def WM{l i x}(h:l[i]?=some x):ad0 l i=x:=by unfold ad0;rw[h];rfl
def af9{j B E G S O gs n wk f U bv mv l L ac sb M su W fp dk b q}(w)(H:ahH LB w j B E U bv mv G S O l L ac gs n sb M wk su W fp dk b q f):Cv 40 #[ptr j,ptr b.a] w λe Q=>Tk LB Y1 n M w Q/\dN w Q/\∃av,(((bG E su (W.map WB.m) ac<|goes rG (dO<|L.take f)).e=0/\e=.returned (.tuple #[.agg #[((S+1 -f:Nat):Int),(W:Int)],aA])/\aR Q gs n sb M (bG E su (W.map WB.m) ac<|goes rG (dO<|L.take f)).K/\∃ew eo ak,oh Q j B E ((U.set 15 av).set 12<|.slice (some ⟨ew,0,none⟩) (f -1+W+1) eo) bv av ew (f -1+W) eo l (eW<|L.take f++ak) (bG E su (W.map WB.m) ac<|goes rG (dO<|L.take f)).mem/\ak.map dX.st=(bG E su (W.map WB.m) ac<|goes rG (dO<|L.take f)).ls/\ak.map dX.a=W.map (λx=>x.b.a)/\∀x∈ak,x.At Q)\/((bG E su (W.map WB.m) ac<|goes rG (dO<|L.take f)).e≠0/\e=.returned (.tuple #[.agg #[aA,aA],.int .i64 (bG E su (W.map WB.m) ac<|goes rG (dO<|L.take f)).e])/\aR Q gs n sb M (goes rG<|dO L)/\∃x an,W[(bG E su (W.map WB.m) ac<|goes rG (dO<|L.take f)).at_]?=some x/\l[an]?=some x.b/\oh Q j B E (U.set 15 av) bv av G S O (l.mapIdx λi y=>y.mark<|(dk an).getD i false) (eW L) (bG E su (W.map WB.m) ac<|goes rG (dO<|L.take f)).mem)):=by
 have ha:w.cell? (j,13)=some (.slice gs n n):=by rw[H.nd.mem.row.cell];exact H.c13
 have iw:=H.nd.mem.row.lt;have au:=λi(m:i<n)=>(H.dL.mp i m).lt;have p:=OvG.new H.nd H.dL H.eO;have b8:(W.map WB.b).reverse.length=W:=by simp
 have ih:=H.fk;have ie:=H.f1;have ij:=H.kl;have d:=aK H;clear H;have au:=aK au;have b8:=aK b8;unfold ptr;refine D5 (fA func40) rfl ?_;simp only[ntmps40,I9,cQ,pN,Nat.reduceAdd,Nat.reduceSub,UY,UZ,U0,Nv,yC,vK];go_wp2;generalize(((w.alloc _).alloc _).alloc _).alloc _=X at p|-;clear ha;have di:X.cell? (j,12)=some (.slice G (S+1) O):=by rw[p.nd.mem.row.cell];exact p.nd.SP
 have bf:∀ad,OvG w ad j B E U bv mv G S O l L ac gs n sb M (goes rG<|dO L) W->∀i x,L[i]?=some x->ad.cell? (G,i*2)=some (.pointer x.a)/\ad.cell? (G,i*2+1)=some (.slice x.sa x.st x.sc):=λad h i x z=>by have⟨bz,ao⟩:=rp L i x z;have q0:=h.nd.chain.cells (g:=G) rfl _ _ bz;have bj:=h.nd.chain.cells (g:=G) rfl _ _ ao;rw[add0]at q0 bj;exact⟨q0,bj⟩
 have ea:=Zw j G (S+1) O l (L.map dX.a) b q (W.map WB.b).reverse X di (by rw[dS];exact d.out.Ll) O9 (λi a m=>by rw[eG]at m;rcases z:L[i]? with _|x;cases z▸m;rw[z]at m;simp only[dK,gV]at m;subst m;exact⟨(bf X p i x z).1,d.out.la x<|eY z⟩)
  (λx z=>⟨p.nd.qz.row x z,d.out.hr x z⟩) d.out.u0 d.out.us d.out.uc d.out.ql d.out.qc (b8.out▸d.out.w0) (by rw[b8.out];have:=d.out.wl;omega)
 rw[b8.out]at ea;refine ea.mono ?_;rintro e w1⟨g,wc,rfl,a3,e6⟩;rw[List.reverse_reverse]at a3;have p:=p.keep e6;have⟨ai,cz,fh⟩:=d.out.f0;have fi:=d.out.ok ai<|eY cz;have bz:w1.cell? (g,0)=some (.pointer ai.b.a):=by have:=a3.cells (g:=g) rfl 0 (Zv ai.b) (by rw[pQ,eG,cz];rfl);rwa [add0]at this
 have b2:w1.cell? (ai.b.a,2)=some ↑(f:Int):=by rw[<-fh];exact(p.nd.qz.row ai.b fi.mem).cell 2
 have di:w1.cell? (j,12)=some (.slice G (S+1) O):=by rw[p.nd.mem.row.cell];exact p.nd.SP
 have ib:S+1<=O:=by obtain⟨h0,_⟩|⟨g',cap,cur,dz,_,_,ae,_⟩:=p.nd.chain.2;cases h0;cases dz;exact ae
 have gp:=d.out.w0;have g8:(0:Int)<W:=O9;have i0:(0:Int)<=f:=O9;have g5:(f:Int)<=((S+1:Nat):Int):=O9;have g6:(f:Int)<=O:=O9;have g7:((S+1:Nat):Int)<=(O:Int):=O9;have bf:=aK bf;have cz:=aK cz;clear ea e6 fh fi;go_wp2;go_quiet (fail);have e8:Below w1 w1 (w1.drewN nq):=eQ B0;have p:=p.keep e8;have a3:(w1.drewN nq).ownsRow ↑X 132 1 (.slice g W wc) W ((W.map WB.b).map Zv):=a3;clear e8 b2 di i0 g5 g6 g7 bz g8;generalize w1.drewN nq=ad at p a3|-;have⟨N,cw⟩:∃N,S+1 -f=N:=⟨_,rfl⟩;have ig:f+N=S+1:=O9;have am:∃la,(if O=f then some (⟨G,0,none⟩:Addr)else some ⟨G,f*2,none⟩)=la/\(N=0\/la=some ⟨G,f*2,none⟩):=by refine⟨_,rfl,?_⟩;by_cases e:N=0;exact .inl e;exact .inr<|aJ O9
 have⟨la,fa,am⟩:=am;rw[fa,cw];clear fa;generalize O -f=Y;have cw:=aK cw;have am:=aK am;go_wp2;refine(I1 la N Y ad).mono ?_;rintro e w2⟨rfl,rfl⟩;have du:=Ba ad<|.cells #[.slice la N Y] 122;have gn:=p.ra.lt;have bu:=aX ad [.slice la N Y] 122;have p:=p.keep du;have a3:=aP a3 du;have gq:(w:Nat)+1<(ad:Nat):=by have:=gn;omega
 generalize gu:(ad:Nat)=bq at bu gq|-;generalize ad.alloc _=aw at p bu a3|-;clear du gu;have dx:∀i,i<n->M i<(aw:Nat):=λi m=>by have:=au.out i m;have:=p.below.size;omega
 have fc:=p.dL.maps;have b7:∃Rd,OJ Fence.wide 2 Vp 126 #[.pointer bq] (HM N (ad0<|L.drop f)) N Rd/\∀k u,TH aw ((w:Nat)+1) gs n sb M L k u->Rd u:=by
  have ic:=bf.out aw p;have ff:∀k u,TH aw ((w:Nat)+1) gs n sb M L k u->u.cell? (bq,0)=some (.slice la N Y):=λk u h=>(bu.xo h.x (λe=>by obtain e|e:=e;exact p.dL.lU bu e;omega) (.inr<|by unfold xB;decide)).cell 0
  obtain rfl|rfl:=am.out;exact⟨_,Tx bq Y la _,ff⟩;refine⟨_,Zq bq G (f*2) N Y (ad0<|L.drop f) O9,λk u h=>⟨ff k u h,λi m=>?_⟩⟩;have z:=aY (show f+i<L by rw[d.out.Ll];omega);generalize L[f+i]'(by rw[d.out.Ll];omega)=x at z;rw[WM (x:=x)<|by rw[Dr];exact z];have⟨bz,ao⟩:=rp L (f+i) x z;have e9:=adl p.nd.chain h.x (λk U ae _=>by rintro(e|e);exact p.dL.uu ae e;subst e;have a8:=p.tr.row;unfold Row at a8;cases a8▸ae) (by unfold xB;decide)
  have q0:=e9.cells (g:=G) rfl _ _ bz;have bj:=e9.cells (g:=G) rfl _ _ ao;rw[add0]at q0 bj;rw[show(f+i)*2=f*2+i*2 from by omega]at q0 bj;exact⟨q0,bj⟩
 have⟨Rd,b7,dq⟩:=b7;have b4:TH aw ((w:Nat)+1) gs n sb M L 0 aw:=by refine⟨by rw[U2,gQ];exact p.dL,⟨_,by rw[U2,U3];exact p.tr⟩,lY _ _⟩
 have b4:=aK b4;go_wp2;refine OL (gf:=126) (lb:=#[.pointer bq]) rfl (enters_of (fA func126) K8 rfl) b7 (λk=>rfl) (TH aw ((w:Nat)+1) gs n sb M L) (TH.own dx) dq b4.out (λk a' u=>∃a6 x,L[f+(N -1 -k)]?=some x/\Row u a6 156 x.cells/\a'={tmps:=#[.pointer j,.pointer b.a,undef,undef,.pointer w.heap.size,↑aA,.pointer ((w:Nat)+1+1,0),.pointer ((w:Nat)+1+1+1,0),.slice g W wc,↑(f:Int),.slice G f O,.slice la N Y,undef,.pointer<|some ⟨a6,0,none⟩,undef,undef,.pointer j,.pointer j,.pointer (j,13),.agg #[.slice gs n n],.agg #[.slice gs n n,()],.pointer ((w:Nat)+1,0),.func (.func 81) #[] #[.pointer ((w:Nat)+1+1+1,0),.pointer ((w:Nat)+1+1,0)],.pointer j,.pointer b.a,.slice g W wc,.slice g W wc,.pointer g,.pointer ai.b.a,.pointer ai.b.a,.pointer (ai.b.a,2),↑(f:Int),.pointer j,.pointer j,.pointer (j,12),.slice G (S+1) O,↑(f:Int),.slice G f O,.pointer j,.pointer j,.pointer (j,12),.slice G (S+1) O,↑(f:Int),.slice la N Y,.slice la N Y,.func (.func 126) #[] #[.pointer bq],↑((N -1 -k:Nat):Int),.agg #[.pointer x.a,.slice x.sa x.st x.sc],undef,undef,undef,undef,undef,undef,undef,undef,undef,undef,undef,undef,undef,undef,undef,undef,undef,undef,undef,undef,undef,undef,undef,undef,undef,undef,undef],defers:=[]}) ?assign ?ax ?body ?done
 case ax=>rintro k a' u da o o'⟨a6,x,P,π,a8⟩ik gy gz;exact⟨a6,x,P,lL (grownBy_putObj' u da o') (λr e=>by cases e;exact⟨o,gy,gz⟩) _ _ _ _ π,a8⟩
 case assign=>
  intro da k u h5 C I ez;have z:=aY (show f+(N -1 -k)<L by rw[d.out.Ll];omega);generalize L[f+(N -1 -k)]'(by rw[d.out.Ll];omega)=x at z;have ep:HM N (ad0<|L.drop f) k=#[↑((N -1 -k:Nat):Int),x.v]:=by unfold HM;rw[WM (x:=x)<|by rw[Dr];exact z]
  rw[ep];have gk:=λa' u P π a8=>ez a' u P π a8;clear ez;unfold dX.v;gi_wp2;exact gk _ _ ((KeepsOthers.alloc _ _).from _) (I.grown dx _) ⟨(u:Nat),x,z,aX u x.cells _,rfl⟩
 case body=>
  rintro da k a' u C I⟨a6,x,z,R,rfl⟩;have fg:Row u ((w:Nat)+1+1) 179 [.pointer ((w:Nat)+1,0)]:=p.rb.xo I.x (λe=>by obtain e|e:=e;exact p.dL.lU p.rb e;omega) (.inr<|by unfold xB;decide)
  have h6:=fg.r 0;have c1:=R.r 1;have⟨iz,e5⟩:=I.jy;have fe:=e5.row;have gv:Hid (Cv 82 #[.pointer ((w:Nat)+1,0),.slice x.sa x.st x.sc] u λe Q=>∃fu,e=.returned fu/\KeepsFrom ↑aw u Q/\TH aw ((w:Nat)+1) gs n sb M L (k+1) Q):=by refine(I.call (i:=f+(N -1 -k)) (x:=x) fc z (by rw[d.out.Ll];omega) d.out.path (by have:=d.out.fl;omega) ?_).mono ?_;rcases d.out.at_ x (eY z)with e|⟨ao,e,e0⟩;exact .inl e;have⟨c,a0,ae⟩:=e0.ty;have:=bO ae;refine .inr ⟨ao,e,O9,⟨c,a0,(p.below.block ao this).trans ae⟩,λi s m=>(e0.at_ i s m).same<|p.below.block ao this⟩;rintro e Q⟨rfl,P,π⟩;exact⟨_,rfl,adC.mem (gs:=gs) (sb:=sb) (K:=rG) dx π ⟨_,fe⟩,P⟩
  clear I e5 fe fg R p b7 dq b4;gi_wp2;refine⟨trivial,(CallsIn.inRound da<|callsIn_wide.2 gv.out).mono ?_⟩;rintro e w2⟨fu,rfl,P,π⟩;gi_wp2;exact⟨P,π⟩
 case done=>
  rintro D V h8 I cv;have e3:L -N=f:=by rw[d.out.Ll];omega
  have cm:=I.dL;have⟨i2,bc⟩:=I.jy;rw[e3]at cm bc;have ey:(w:Nat)<=D:=by have P:=p.below.size;omega
  have az:Tk LB Yt n M aw V:=WA I.x p.dL p.tr (by have:=d.out.ln.1;omega);have F:∀t,t≠181->t≠234->¬Yt t:=λt P π h=>by obtain h|h:=h;exact P h;exact π h
  have T:=p.r0.tk az<|F _ D9 D9;have rb:=p.rb.tk az<|F _ D9 D9;have ra:=p.ra.tk az<|F _ D9 D9;have cd:=p.nd.ck az.ck (F _ D9 D9) (F _ D9 D9) (F _ D9 D9) (F _ D9 D9)<|F _ D9 D9;have ej:∀x∈W,nX V x.gt x.Q:=λx z=>(p.eO x z).tk az (F _ D9 D9) (F _ D9 D9)<|F _ D9 D9;have eu:V.ownsRow 0 132 1 (.slice g W wc) W (W.map λx=>Zv x.b):=by have:=ki (qp a3 az<|F _ D9 D9)<|cH _;rw[pQ]at this;exact this
  have dc:=(BM p.below).trans<|az.mono Yt.y1;have bh:dN w V:=λk U a0 C=>by have cf:=(p.below.block k<|bO C).trans C;refine(I.x.block k (bO cf) ?_).trans cf;have b6:=bO C;rintro((e|e)|⟨e,_⟩);exact p.dL.uu cf e;omega;omega
  have h7:(dO<|L.drop f).length<=10000:=by
   have P:=d.out.fl;have π:dO L=dO (L.take f)++dO (L.drop f):=by rw[<-qD,pR]
   rw[π,cB]at P;omega
  have ar:=adY (LB:=LB) (gw:=g) (wc:=wc) wk W fp dk V eu cd d.out.ok ej d.out.sp cm bc d.out.c6 d.out.c9 d.out.wk d.out.su d.out.ml d.out.ms d.out.KT (by rw[yj];omega) d.out.w0 (by have:=d.out.wl;omega) d.out.ll ⟨d.out.ln.1,d.out.ln.2,by have:=d.out.ln.1;omega⟩ d.out.lb (by have P:=(bS cd.chain rfl).2;have⟨c,P⟩:=P;exact bO P);have t6:=rb.r 0;have cy:=zN E su (W.map WB.m) ac _ d.out.NB d.out.KT (λy g4=>by obtain⟨x,z,rfl⟩:=gB.1 g4;have o:=d.out.ok x z;refine⟨o.hh,by show(x.Q.map rH.t).length<=8;rw[dS];exact o.q8,λt g2=>?_⟩;obtain⟨hk,g1,rfl⟩:=gB.1 g2;have:=o.q hk g1;exact⟨this.id,this.si,this.li,this.lo,this.so⟩)
  unfold ptr at ar;have ar:=aK ar;generalize cu:bG E su (W.map WB.m) ac (goes rG (dO<|L.take f))=J at ar cy|-;have cy:=aK cy;have cu:=aK cu;have ia:=d.out.wl;clear I p b7 dq b4 a3 eu ej fc am bu;have bh:=aK bh;have F:=aK F;go_wp2;refine ar.out.mono ?_;rintro e w3⟨av,v1,⟨cr,⟨cj,dm,ak,rfl,e1,dw,am,dt⟩,A⟩|⟨cr,rfl,x,an,g3,gx,A⟩⟩
  .have dn:¬lu n M D:=by rintro⟨i,m,e⟩;have:=au.out i m;omega
   have ay:dN w w3:=λk U a0 C=>A.sin.2.2 k U a0 (bh.out k U a0 C) (λe=>by have P:=(bS bc.own e).1;have π:=bO C;omega)
   have T:=T.tk A.tk<|qx D9 D9 D9 D9 D9;have ra:=ra.tk A.tk<|qx D9 D9 D9 D9 D9;have b0:=A.tk.rest D _ cv rfl dn;have ab:=A.nd;have ca:=A.dL;have db:=dc.trans A.tk;have gj:=ab.mem.base;clear A bc cm cd rb t6 cv bh dc;have bd:=Ba w3<|.cells #[.slice G f O,.slice cj W.length dm] 122;have dh:=aX w3 [.slice G f O,.slice cj W.length dm] 122;have fb:eW L=eW (L.take f)++eW (L.drop f):=by rw[<-tD,pR]
   have b6:(eW<|L.take f).length=f*2:=by rw[HL,dJ,d.out.Ll,lD O9]
   have cx:=adZ ↑w3 G f O cj W.length dm (eW<|L.take f) (eW ak) _ O9 gp (dh.cell 0) (dh.cell 1) b6 (zL _) (λi ap m=>by have:=ab.chain.cells (g:=G) rfl i ap (by rw[fb,ko<|by rw[b6];have:=(bK.1 m).1;omega];exact m);rw[add0]at this;exact aM bd this) (by rw[HL];have:=congrArg List.length am;simp only[dS]at this;rw[this]) (zL _) (λi ap m=>by
    have:=e1.cells (g:=cj) rfl i ap m;rw[add0]at this;exact aM bd this) O9 O9
   have cx:=aK cx;have ay:=aK ay;have dt:=aK dt;have am:=aK am;have dw:=aK dw;clear ar e1 fb b6 bf;go_wp2;refine cx.out.mono ?_;rintro e w4⟨i1,rfl,bb,e7⟩;have et:f+W.length=f -1+W.length+1:=O9;rw[et,<-tD]at bb;have⟨c8,c7,dz⟩:=cX bb (f -1+W.length) rfl;subst dz;have a1:=bd.trans<|e7.mono bd.size;have bb:=ki bb<|show B<=_ from cA gj bd.size;have aq:=(ab.keep a1).akg bb;have ed:=ca.keep a1;have a9:=T.keep a1 T.lt;have a4:=ra.keep a1 ra.lt;have a7:=(a1.block D<|bO b0).trans b0;have nr:=(ab.keep a1).mem.row;have fy:=db.trans<|BM a1;have fj:=aK<|PQ a1;have al:Tk LB (λap=>ap=130) 0 M w4 (w4.setCell (j,12)<|.slice c8 (f -1+W.length+1) c7):=mP nr _ d.out.ln.1;have g9:w4.cell? (j,12)=some (.slice G (S+1) O):=by rw[nr.cell];exact(ab.keep a1).SP
   have hc:=nr.frozen 12;have z0:=a9.r 0;have ho:=a9.r 1;have hx:=a9.frozen 0;have hy:=a9.frozen 1;have ht:=a4.r 0;have hv:=a4.frozen 0;have hz:=a9.lt;have h3:=a4.lt;have h4:=nr.lt;have im:j≠(w:Nat)+1+1+1:=O9;have iq:j≠(w:Nat):=O9;have ir:(w:Nat)+1+1+1≠j:=O9;have iu:(w:Nat)≠j:=O9;clear cx e7 bb ab ca bd dh et;have aq:=aK aq;have al:=aK al;go_wp2;have aq:=aq.out;have al:=al.out;have aa:=ed.tkc al D9 D9;have bk:=a9.tk al D9;have a5:=a4.tk al D9;have dd:=al.rest D _ a7 rfl (by rintro⟨an,dv,_⟩;omega);have bm:=fy.trans (al.zero.mono λt e=>.inl<|.inl e);have bg:=(fj.out).trans<|En al.ck D9;clear ed a9 a4 a7 nr fy al g9 hc z0 ho hx hy ht hv hz h3 h4 T ra b0 db a1 fj;generalize w4.setCell _ _=ag at aq aa bk a5 dd bm bg|-;have bo:Tk LB (λap=>ap=4) 0 M ag (ag.setCell ((w:Nat)+1+1+1,0) ↑aD):=mP a5 _ (by have:=d.out.ln.1;omega);have dj:Row (ag.setCell ((w:Nat)+1+1+1,0) ↑aD) ((w:Nat)+1+1+1) 4 [aD]:=a5.set 0 ↑aD;have a2:=bm.zK (g:=(w:Nat)+1+1+1) (j:=0) ↑aD O9;have dg:=aq.ck bo.ck D9 D9 D9 D9 D9;have br:=aa.tkc bo D9 D9;have af:=bk.tk bo D9;have de:=bo.rest D _ dd rfl (by rintro⟨an,dv,_⟩;omega);have b9:=bg.trans<|En bo.ck D9;clear aq aa bk a5 dd bm bo bg;generalize ag.setCell _ _=ah at dg br af dj de a2 b9|-;have ba:LB<=(w:Nat):=by have:=d.out.ln.1;omega
   have bp:Tk LB (λap=>ap=37) 0 M ah ((ah.setCell ((w:Nat),0) ↑(N:Int)).setCell ((w:Nat),1) ↑(W.length:Int)):=(mP af _ ba).trans<|mP (af.set 0 _) _ ba;have fq:Row ((ah.setCell ((w:Nat),0) ↑(N:Int)).setCell ((w:Nat),1) ↑(W.length:Int)) ↑w 37 [↑(N:Int),↑(W.length:Int)]:=(af.set 0 ↑(N:Int)).set 1 ↑(W.length:Int);have fz:=(a2.zK (j:=0) ↑(N:Int) L9).zK (j:=1) ↑(W.length:Int) L9;have eg:=dg.ck bp.ck D9 D9 D9 D9 D9;have ee:=br.tkc bp D9 D9;have ek:=dj.tk bp D9;have cb:=bp.rest D _ de rfl (by rintro⟨an,dv,_⟩;omega);have fo:=b9.trans<|En bp.ck D9;clear dg br af dj de a2 bp b9;generalize(ah.setCell _ _).setCell _ _=hn at eg ee fq ek cb fz fo|-;have bx:=adM (LB:=LB) (o':=.deferred none) cb rfl;have ga:=fz.adN (.deferred none) ey;have ef:=(ee.put (o':=.deferred none) cb rfl λi m e=>by have:=au.out i m;omega).2;have eh:=eg.ck bx id id id id id;have en:=ek.ck bx id;have ec:=fq.ck bx id;have eb:=fo.trans<|En bx id;refine wW cb ?_;generalize hn.putObj D (.deferred none)=fv at bx ga ef eh en ec eb|-;refine JW (R':=λQ=>Q=fv) (enters_of (fA func81) K8 rfl) (Ty _ _ _ fv<|en.cell 0) ?_;rintro fw rfl;have k0:=ec.r 0;have k1:=ec.r 1;refine zo (v:=.tuple #[.agg #[↑(N:Int),↑(W.length:Int)],aA]) ?_ ?_;.simp[results,results40,go_sem,k0,k1]
   rw[cu.out];exact⟨ga,ay.out.trans eb,av,.inl ⟨cr,by rw[cw.out],ef,c8,c7,ak,eh,dw.out,am.out,dt.out.at_ eb⟩⟩
  have h9:(J.e==0)=false:=by simpa using cr
  have dn:¬lu n M D:=by rintro⟨i,m,e⟩;have:=au.out i m;omega
  have ay:dN w w3:=λk U a0 C=>A.sin.2.2 k U a0 (bh.out k U a0 C) (λe=>by have P:=(bS bc.own e).1;have π:=bO C;omega)
  have T:=T.tk A.tk<|qx D9 D9 D9 D9 D9;have rb:=rb.tk A.tk<|qx D9 D9 D9 D9 D9;have ra:=ra.tk A.tk<|qx D9 D9 D9 D9 D9;have b0:=A.tk.rest D _ cv rfl dn;have ba:LB<=(w:Nat):=by have:=d.out.ln.1;omega
  have cf:=T.r 0;have ep:=T.r 1;have f0:=T.frozen 0;have f1:=T.frozen 1;have iy:=T.lt;have db:=dc.trans A.tk;clear ar bc cm cd t6 cv bh dc bf;have A:=aK A;have ay:=aK ay;go_wp2;have ab:=A.out.nd;have ca:=A.out.dL;have gg:=A.out.jy;have aj:Tk LB (λap=>ap=37) 0 M w3 ((w3.setCell ((w:Nat),0) ↑aA).setCell ((w:Nat),1) ↑aA):=(mP T _ ba).trans<|mP (T.set 0 _) _ ba;have gd:Tk LB Y1 n M w ((w3.setCell ((w:Nat),0) ↑aA).setCell ((w:Nat),1) ↑aA):=(db.zK _ L9).zK _ L9;have a9:Row ((w3.setCell ((w:Nat),0) ↑aA).setCell ((w:Nat),1) ↑aA) ↑w 37 [aA,aA]:=(T.set 0 ↑aA).set 1 ↑aA;generalize(w3.setCell _ _).setCell _ _=w4 at aj gd a9|-;have a7:=aj.rest D _ b0 rfl (by rintro⟨an,dv,_⟩;omega);have c5:=adM (LB:=LB) (o':=.deferred none) a7 rfl;have bm:=gd.adN (.deferred none) ey;have aa:=((ca.tkc aj D9 D9).put (o':=.deferred none) a7 rfl λi m e=>by have:=au.out i m;omega).2;have ei:=(gg.ck aj.ck D9 D9).ck c5 id id;have aq:=(ab.ck aj.ck D9 D9 D9 D9 D9).ck c5 id id id id id;have ft:=(rb.tk aj D9).ck c5 id;have fs:=(ra.tk aj D9).ck c5 id;have bk:=a9.ck c5 id;have bg:=ay.out.trans ((En aj.ck D9).trans<|En c5 id);have⟨hf,hg,_,hj,_⟩:=cy.out;have dp:dO L=dO (L.take f)++dO (L.drop f):=by rw[<-qD,pR]
  have e4:=d.out.path;rw[dp]at e4;have⟨b1,b2⟩:=Zm e4.left.2;have gl:J.K=goes (goes rG<|dO L) (lM (dO<|L.drop f)++J.st):=by rw[gS,dp,gS,b2];exact hf
  have gm:fE (goes rG<|dO L) (lM (dO<|L.drop f)++J.st):=by rw[dp,gS];refine b1.append ?_;rw[b2];exact hg
  rw[gl]at aa;refine wW a7 ?_;generalize w4.putObj D (.deferred none)=ag at c5 bm aa ei aq ft fs bk bg|-;refine JW (R':=λQ=>aR Q gs n sb M (goes rG<|dO L)/\Tk LB Yt n M ag Q/\Xo (BI n M<|(w:Nat)+1) ((w:Nat)+1+1) xB ag Q) (enters_of (fA func81) K8 rfl) (MQ _ _ _ ag (fs.cell 0) (ft.cell 0) aa ei gm (by rw[cB,yj];rw[dS]at hj;omega) (cA ba<|Nat.le_succ _)) ?_;rintro ah⟨br,a2,hs⟩;have b9:dN w ah:=λk U a0 C=>by have q:=bg k U a0 C;refine(hs.block k (bO q) ?_).trans q;have b6:=bO C;rintro((e|e)|⟨e,_⟩);exact aa.uu q e;omega;omega
  have af:=bk.tk a2 (by unfold Yt;decide);have k0:=af.r 0;have k1:=af.r 1;refine zo (v:=.tuple #[.agg #[aA,aA],↑J.e]) ?_ ?_;.simp[results,results40,go_sem,k0,k1]
  rw[cu.out];exact⟨bm.trans<|a2.mono Yt.y1,b9,av,.inr ⟨cr,rfl,br,x,an,g3,gx,aq.ck a2.ck (by unfold Yt;decide) (by unfold Yt;decide) (by unfold Yt;decide) (by unfold Yt;decide)<|by unfold Yt;decide⟩⟩
end
def pG(t:Iz):Bc:=⟨wj t.tag t.ins t.outs,t.ins,t.outs⟩
def vt.q(p:vt):rH:=⟨pG p.t,p.gi,p.t.ins.length,p.go,p.t.outs.length⟩
def aI.afZ:(Vp.info? 169).map (λi=>(i.zero,i.size,i.bytes))=some (some<|.agg #[aB,(),()],3,64):=K8
def mdN(n:Nat):List Value:=(madeCells #[aB,.slice none 0 0,.slice none 0 0] (n*3)).toList
def af0(n):(mdN n)=n*3:=by unfold mdN;rw[Array.length_toList,size_madeCells]
def aiO(n:Nat)(h:n<=1000)(w):(Instr.makeSlice 104 (n:Int) (n:Int)).run Vp w=.ok (.slice (w:Nat) n n) (w.alloc<|.cells (mdN n).toArray 169):=by have⟨d,H,a,b,c⟩:=info_parts aI.afZ;have:=wC (P:=Vp) w 104 169 d _ aI.underlying104 H a .i64 .i64 (n:Int) (n:Int) O9 (lC _) (by rw[c];omega) O9;rw[this,b];simp[mdN,Value.cells]
def adO(l):(zI l)=l.length*3:=by induction l with
 |nil=>rfl
 |cons x l a=>simp only[zI,yD,cB]at*;simp only[rH.cells,cQ,pN];omega
def Zk(l q):zI (l++[q])=zI l++q.cells:=by simp[zI]
def adP{w g t A r x y z}(h:Row w g t (A++x::y::z::r))(a b c):Row (((w.setCell (g,A.length) a).setCell (g,A.length+1) b).setCell (g,A.length+2) c) g t (A++a::b::c::r):=by
 have d:=((h.set A a).set (A+1) b).set (A+2) c;have e:(((A++x::y::z::r).set A a).set (A+1) b).set (A+2) c=A++a::b::c::r:=by simp
 rw[e]at d;exact d
def ahF{w Y:World}{C e f g:Value}(R:Row Y w.heap.size 106 [C,e,f,g])(h:Below w.heap.size w Y)(a b:ByteArray)(c:Int)(d:Value):Row ((((Y.setCell ⟨w.heap.size,0,none⟩<|.string a).setCell ⟨w.heap.size,1,none⟩<|.string b).setCell ⟨w.heap.size,2,none⟩<|.int .i64 c).setCell ⟨w.heap.size,3,none⟩ d) w.heap.size 106 [.string a,.string b,.int .i64 c,d]∧Below w.heap.size w ((((Y.setCell ⟨w.heap.size,0,none⟩<|.string a).setCell ⟨w.heap.size,1,none⟩<|.string b).setCell ⟨w.heap.size,2,none⟩<|.int .i64 c).setCell ⟨w.heap.size,3,none⟩ d):=
  ⟨(((R.set 0<|.string a).set 1<|.string b).set 2<|.int .i64 c).set 3 d,(((h.setCell (p:=⟨w.heap.size,0,none⟩) (mi _) _).setCell (p:=⟨w.heap.size,1,none⟩) (mi _) _).setCell (p:=⟨w.heap.size,2,none⟩) (mi _) _).setCell (p:=⟨w.heap.size,3,none⟩) (mi _) _⟩
def Qf:∀l i q,l[i]?=some q->(zF l)[i*3]?=some q.t.tag/\(zF l)[i*3+1]?=some (.slice q.gi q.t.ins q.t.ins)/\(zF l)[i*3+2]?=some (.slice q.go q.t.outs q.t.outs)
 |[],i,x,h=>by simp at h
 |y::l,0,x,h=>by simp at h;subst h;exact⟨rfl,rfl,rfl⟩
 |y::l,i+1,x,h=>by have:=Qf l i x (by simpa using h);have e:zF (y::l)=y.cells++zF l:=rfl;rw[e];simp[show(i+1)*3=3+i*3 from by omega,show 3+i*3+1=3+(i*3+1)from by omega,show 3+i*3+2=3+(i*3+2)from by omega];have a:y.cells.length=3:=rfl;rw[cZ O9,cZ O9,cZ O9];simpa[a]using this
def akU(w:World)(g:Nat)(a b:ByteArray)(c:Int)(d:Value):Xc (λj=>j=g) w ((((w.setCell ⟨g,0,none⟩<|.string a).setCell ⟨g,1,none⟩<|.string b).setCell ⟨g,2,none⟩<|.int .i64 c).setCell ⟨g,3,none⟩ d):=((((lY (λj=>j=g) w).setCell ⟨g,0,none⟩ (.string a) λ_=>rfl).setCell ⟨g,1,none⟩ (.string b) λ_=>rfl).setCell ⟨g,2,none⟩ (.int .i64 c) λ_=>rfl).setCell ⟨g,3,none⟩ d λ_=>rfl
def adQ{S w b W B}(a:Below B w b)(d:B<=b)(x:Xc S b W)(f:∀k,S k->B<=k):Below B w W:=⟨x.os.trans a.os,x.tape.trans a.tape,x.output.trans a.output,cA a.size x.size,λk c=>(x.block k (fI c d) λe=>by have:=f k e;omega).trans<|a.block k c⟩
def WC:Value:=.agg #[aB,aB,aA,.slice none 0 0]
def adR(s w):Cv 34 #[(mk s)] w λe I=>Below w w I/\((iE s=none/\e=.returned (.tuple #[WC,aG]))\/∃b G Q,iE s=some b/\e=.returned (.tuple #[.agg #[(vU s),(mk b.parent),b.bits,.slice (some ⟨G,0,none⟩) Q.length Q.length],aA])/\nX I G Q/\Q.map rH.t=b.eO.map pG/\∀q∈Q,q.Ok):=by
 have c:=aX w [aB,aB,aA,()] 106;have d:=Ba w<|.cells #[aB,aB,aA,()] 106;go_enter fA func34,ntmps34;go_wp2;generalize w.alloc _=bl at c d|-;refine(xt s _).mono ?_;rintro e F⟨z,⟨u,rfl⟩|⟨b,bh,G,a,u,rfl,B⟩⟩
 .replace c:=(c.keep z c.lt).alloc (.cells #[aB,aA,aA,()] 93);replace d:Below w w (F.alloc<|.cells #[aB,aA,aA,()] 93):=(d.trans<|z.mono d.size).alloc (cA d.size z.size) _;unfold eU;have⟨c0,c1,c2,c3⟩:=c.p4;have f0:=c.frozen;have o:=c.lt;go_wp2;generalize F.alloc _=am at c d|-;obtain⟨a1,a3⟩:=ahF c d ⟨#[]⟩ ⟨#[]⟩ 0 ↑();generalize(((am.setCell _ _).setCell _ _).setCell _ _).setCell _ _=aq at a1 a3|-;have⟨k0,ak,k2,ao⟩:=a1.p4;exact cY (v:=.tuple #[WC,aG]) (by simp[results,results34,go_sem,k0,ak,k2,ao,WC]) rfl ⟨a3,.inl ⟨u,rfl⟩⟩
 obtain⟨ai,_⟩:=kI u;have bu:=B.val;subst bu;obtain⟨bm,a7⟩:=vk ai;have U:a=b.eO.length:=by rw[<-B.eO,dS]
 have cb:a.length<=8:=O9;have ab:tu b.eO=a.map λp=>↑(pG p.t).id:=by unfold tu pG;rw[<-B.eO,pQ];rfl
 have br:∀q∈a.map vt.q,q.Ok:=by intro q T;obtain⟨p,y,rfl⟩:=gB.1 T;have E:=a7 p.t (by rw[<-B.eO];exact tN y);exact⟨E.2.2.1,E.2.2.2.2.1,E.2.2.2.1,E.2.2.2.2.2,by show(mk _).size<=_;rw[cD];simp[be]⟩
 have an:(a.map vt.q).map rH.t=b.eO.map pG:=by rw[<-B.eO,pQ,pQ];rfl
 have H:=B.row;have n:=B.rows;clear B a7 bm;obtain⟨h,t,ap,cd⟩:=b;simp only at U ab an|-;replace U:=aK U;have RB:=aX F [↑(mk h),t,ap,.slice G a.length a.length] 93;have P:=Ba F<|.cells #[↑(mk h),t,ap,.slice G a.length a.length] 93;go_wp2;replace c:=(c.keep z c.lt).keep P<|fI c.lt z.size;replace H:=H.keep P H.lt;replace n:=n.kept (w':=F.alloc<|.cells #[↑(mk h),t,ap,.slice G a.length a.length] 93) λb _ o=>P.block b o;replace d:=(d.trans<|z.mono d.size).trans (P.mono<|cA d.size z.size);generalize bk:(F:Nat)=bb at RB|-;generalize F.alloc _=am at c H n d RB|-;clear P z bk;refine(Mp s am).m1 λw2 K=>?_;have a5:dE s=0:=by unfold dE;rw[u]
 rw[a5];clear a5;replace c:=c.keep K c.lt;replace RB:=RB.keep K RB.lt;replace H:=H.keep K H.lt;replace n:=n.kept (w':=w2) λb _ o=>K.block b o;replace d:=d.trans<|K.mono d.size;clear K;go_wp2;refine(Tj s w2).mono ?_;rintro e N⟨L,⟨al,_⟩|⟨b0,gi,al,rfl,b6,RI⟩⟩;cases u▸al;cases u▸al;simp only;rw[ab]at RI;rw[<-U.out];replace c:=c.keep L c.lt;replace RB:=RB.keep L RB.lt;replace H:=H.keep L H.lt;replace n:=n.kept (w':=N) λb _ o=>L.block b o;replace d:=d.trans<|L.mono d.size;clear L;have g:=aX N (mdN a.length) 169;have A:=Ba N<|.cells (mdN a.length).toArray 169;have bq:=aiO a.length O9;have b3:=RB.r 3;have ax:=aM A b3;have a8:=d.size;change Hid _ at u an ab ai;go_wp2;replace c:=c.keep A c.lt;replace RB:=RB.keep A RB.lt;replace RI:=RI.keep A RI.lt;replace H:=H.keep A H.lt;replace n:=n.kept (w':=N.alloc<|.cells (mdN a.length).toArray 169) λb _ o=>A.block b o;replace d:=d.trans<|A.mono d.size;generalize bo:(N:Nat)=f at g a8|-;generalize N.alloc _=aq at c RB RI g H n d ax|-;clear bq A b3 bo ax;have D:=g;go_loopw [39] (λi wr=>∃k v,k<=a.length/\i=↑k/\Row wr f 169 (zI ((a.take k).map vt.q)++v)/\v.length=(a.length -k)*3/\Xc (λj=>j=f) aq wr) (λi _=>a.length -(intOf i).toNat);exact⟨0,mdN a.length,cH _,rfl,g,by rw[af0];rfl,lY _ _⟩;case round=>
  obtain⟨k,v,b7,rfl,g,r,x⟩:=hrel;replace c:=c.xc x<|c.ne D D9;replace RB:=RB.xc x<|RB.ne D D9;replace RI:=RI.xc x<|RI.ne D D9;replace H:=H.xc x<|H.ne D D9;by_cases o:k<a.length;.match v,r with
   |[],r=>simp at r;omega
   |[_],r=>simp at r;omega
   |[_,_],r=>simp at r;omega
   |bx::y1::bz::v,r=>
     have X:=aY o;have aj:a.take (k+1)=a.take k++[a[k]]:=by rw[rN o]
     generalize a[k]=q at X aj;obtain⟨au,av,ay⟩:=Qf a k q X;have c0:wr.cell? (G,k*3)=some ↑q.t.tag:=by rw[H.cell];exact au
     have c1:wr.cell? (G,k*3+1)=some (.slice q.gi q.t.ins.length q.t.ins.length):=by rw[H.cell];exact av
     have c2:wr.cell? (G,k*3+2)=some (.slice q.go q.t.outs.length q.t.outs.length):=by rw[H.cell];exact ay
     have J:(zI<|(a.take k).map vt.q).length=k*3:=by rw[adO,dS,dJ];omega
     have a6:Hid (zI ((a.take<|k+1).map vt.q)=zI ((a.take k).map vt.q)++[.string (pG q.t).id,.slice (some ⟨q.gi,0,none⟩) q.t.ins.length q.t.ins.length,.slice (some ⟨q.go,0,none⟩) q.t.outs.length q.t.outs.length]):=by show _=_;rw[aj,kq,gJ,qL,Zk];rfl
     have S:=Ba wr<|.cells #[↑q.t.tag,.slice q.gi q.t.ins.length q.t.ins.length,.slice q.go q.t.outs.length q.t.outs.length] 90;have O:=aX wr [↑q.t.tag,.slice q.gi q.t.ins.length q.t.ins.length,.slice q.go q.t.outs.length q.t.outs.length] 90;replace g:=g.keep S g.lt;replace RI:=RI.keep S RI.lt;replace x:=x.then S;have b8:(0:Int)<=k:=O9;have b9:(k:Int)<a.length:=O9;have R:(a.map λp=>Value.string (pG p.t).id)[k]?=some (↑(pG q.t).id):=by rw[eG,X];rfl
     change Hid _ at R J r;clear X aj au av ay S;generalize(pG q.t).id=W at a6 R|-;generalize q.t.ins.length=l,q.t.outs.length=m,q.gi=ac,q.go=ad,q.t.tag=a9 at*;go_wp2;generalize wr.alloc _=V at g RI O x|-;generalize(wr:Nat)=ar at O|-;have ba:V.cell? (gi,k)=some ↑W:=by rw[RI.cell];exact R.out
     have⟨_,bb,bc⟩:=O.p3;have bd:V.cell? (f,k*3)=some bx:=by rw[g.cell,<-J.out,cZ L9];simp
     have bf:V.cell? (f,k*3+1)=some y1:=by rw[g.cell,<-J.out,cZ O9];simp
     have bg:V.cell? (f,k*3+2)=some bz:=by rw[g.cell,<-J.out,cZ O9];simp
     have f0:=g.frozen<|k*3;have f1:=g.frozen<|k*3+1;have f2:=g.frozen<|k*3+2;have cf:=g.lt;clear c0 c1 c2 R;go_region;have C:=adP g ↑W (.slice ac l l)<|.slice ad m m;rw[J.out]at C;have Y:=((x.setCell (f,k*3) ↑W λ_=>rfl).setCell (f,k*3+1) (.slice ac l l) λ_=>rfl).setCell (f,k*3+2) (.slice ad m m) λ_=>rfl;replace C:Row ((((V.setCell (f,k*3) ↑W).setCell (f,k*3+1)<|.slice ac l l).setCell (f,k*3+2)<|.slice ad m m).drew) f 169 _:=C;replace Y:=Y.drew;clear x g bd bf bg f0 f1 f2 ba bb bc RI O;generalize(((V.setCell _ _).setCell _ _).setCell _ _).drew=bj at C Y|-;replace C:=aK C;go_wp2;go_roundw;exact⟨k+1,v,O9,by go_num,by rw[a6.out,dP];exact C.out,by have:=r.out;simp[cQ]at this;omega,Y⟩;simp[intOf];omega
  have bp:k=a.length:=O9;subst bp;have bs:v=[]:=lW O9;subst bs;rw[kY,gQ]at g;have a4:=adQ d d.size x (λj e=>by subst e;exact a8);have M:∀p∈a,Row wr p.gi 139 (og p.t.ins)/\Row wr p.go 86 (kv p.t.outs):=λp y=>by obtain⟨i,hi⟩:=jQ.1 y;obtain⟨_,_,E,az⟩:=n.rows i p hi;exact⟨E.xc x<|E.ne D D9,az.xc x<|az.ne D D9⟩
  obtain⟨aw,a2⟩:=ahF c a4 (vU s) (mk h) t<|.slice f a.length a.length;have π:Xc (λj=>j=(w:Nat)) wr ((((wr.setCell ((w:Nat),0) ↑(vU s)).setCell ((w:Nat),1) ↑(mk h)).setCell ((w:Nat),2) ↑t).setCell ((w:Nat),3)<|.slice f a.length a.length):=akU wr ↑w (vU s) (mk h) t _;have a0:nX ((((wr.setCell ((w:Nat),0) ↑(vU s)).setCell ((w:Nat),1) ↑(mk h)).setCell ((w:Nat),2) ↑t).setCell ((w:Nat),3)<|.slice f a.length a.length) f (a.map vt.q):=by refine⟨g.xc π<|g.ne c D9,λq T=>?_,λq T=>?_⟩;obtain⟨p,y,rfl⟩:=gB.1 T;exact(M p y).1.xc π<|(M p y).1.ne c D9;obtain⟨p,y,rfl⟩:=gB.1 T;exact(M p y).2.xc π<|(M p y).2.ne c D9
  have⟨c0,c1,c2,c3⟩:=c.p4;have f0:=c.frozen;have ca:=c.lt;have⟨b4,b1⟩:=RB.p2;replace M:=aK M;clear a4 π g D RI RB c H n d x;go_wp2;generalize(((wr.setCell _ _).setCell _ _).setCell _ _).setCell _ _=bi at aw a2 a0|-;have⟨k0,ak,k2,ao⟩:=aw.p4;exact cY (v:=.tuple #[.agg #[↑(vU s),↑(mk h),t,.slice f a.length a.length],aA]) (by simp[results,results34,go_sem,k0,ak,k2,ao]) rfl ⟨a2,.inr ⟨_,f,a.map vt.q,u.out,by rw[dS],a0,an.out,br⟩⟩
def jk:ByteArray:=⟨#[0,0,0,0,0,0,0,0]⟩
def qh:List Value:=[.string jk,.pointer none,↑aA,↑aA,.slice none 0 0,false]
def Bf(c:fL)(g G a n:Nat):List Value:=se++c.cells++[.slice (some ⟨g,0,none⟩) 1 1,.slice (some ⟨G,0,none⟩) 1 1,.slice (some ⟨a,0,none⟩) n n,.int .i64 c.me,.slice none 0 0]
structure OV(D:Nat)(w:World)(b:Nat)(c:fL):Prop where
 at_:∃fb gb gc gs n,Row w b 130 (Bf c gb gc gs n)/\Row w gb 132 [ptr fb]/\Row w gc 156 [ptr fb,.slice none 0 0]/\Row w fb 135 qh/\lh w gs n/\(1<=n/\n<=16)/\(D<=b/\D<=fb/\D<=gb/\D<=gc)
def pD{w:World}{c t k}(h:k=↑w):Row (w.alloc<|.cells c.toArray t) k t c:=h▸aX w c t
def lh.alloc{w g n}(h:lh w g n)(o):lh (w.alloc o) g n:=h.keep<|B0.alloc L9 _
structure Sq(w Wf:World)(fb gs n k1 k2 b:Nat)(t1 t2 t3:TypeId)(c1 c2 c3:List Value):Prop where
 below:Below w.heap.size w Wf
 le:w.heap.size<=b
 lf:w.heap.size<=fb
 l1:w.heap.size<=k1
 l2:w.heap.size<=k2
 r1:Row Wf k1 t1 c1
 r2:Row Wf k2 t2 c2
 r3:Row Wf b t3 c3
 rb:Row Wf fb 135 qh
 sh:lh Wf gs n
def ajN{w a W b G n t T m c1 c2 c3}(f:Below w.heap.size w a)(d:(a:Nat)=b+1)(RB:Row a b 135 qh)(g:lh W G n)(c:Below ((a.alloc<|.cells c1.toArray t).alloc<|.cells c2.toArray T).drew.heap.size ((a.alloc<|.cells c1.toArray t).alloc<|.cells c2.toArray T).drew W)(j:w<=b):
 Sq w (W.alloc<|.cells c3.toArray m) b G n (b+1) (b+1+1) W t T m c1 c2 c3:=by
 have e:((a.alloc<|.cells c1.toArray t).alloc<|.cells c2.toArray T).drew.heap.size=b+1+1+1:=by rw[World.size_drew,cR,cR,d]
 have h:Below w w ((a.alloc<|.cells c1.toArray t).alloc<|.cells c2.toArray T).drew:=cN<|(f.alloc f.size _).alloc Z9 _;have l:=c.size;refine⟨(h.trans (c.mono<|by rw[e];omega)).alloc O9 _,O9,j,O9,O9,?_,?_,pD rfl,?_,g.alloc _⟩;exact(((show Row ((a.alloc<|.cells c1.toArray t).alloc<|.cells c2.toArray T).drew (b+1) t c1 from(pD (w:=a) d.symm).alloc _).keep c<|by rw[e];omega).alloc _);exact(((show Row ((a.alloc<|.cells c1.toArray t).alloc<|.cells c2.toArray T).drew (b+1+1) T c2 from pD (w:=a.alloc<|.cells c1.toArray t) (by rw[cR,d])).keep c<|by rw[e];omega).alloc _);exact(((show Row ((a.alloc<|.cells c1.toArray t).alloc<|.cells c2.toArray T).drew b 135 qh from(RB.alloc _).alloc _).keep c<|by rw[e];omega).alloc _)
def afl{w a W b G n t T m c1 c2 c3}(f:Below w.heap.size w a)(d:(a:Nat)=b+1)(RB:Row a b 135 qh)(g:lh W G n)(c:Below (a.alloc<|.cells c1.toArray t).drew.heap.size (a.alloc<|.cells c1.toArray t).drew W)(j:w<=b):
 Sq w ((W.alloc<|.cells c2.toArray T).alloc<|.cells c3.toArray m) b G n (b+1) W (W+1) t T m c1 c2 c3:=by
 have e:(a.alloc<|.cells c1.toArray t).drew.heap.size=b+1+1:=by rw[World.size_drew,cR,d]
 have h:Below w w (a.alloc<|.cells c1.toArray t).drew:=cN<|f.alloc f.size _;have l:=c.size;refine⟨((h.trans (c.mono<|by rw[e];omega)).alloc O9 _).alloc Z9 _,O9,j,O9,O9,?_,(pD rfl).alloc _,pD (by rw[cR]),?_,(g.alloc _).alloc _⟩;exact((((show Row (a.alloc<|.cells c1.toArray t).drew (b+1) t c1 from pD (w:=a) d.symm).keep c<|by rw[e];omega).alloc _).alloc _);exact((((show Row (a.alloc<|.cells c1.toArray t).drew b 135 qh from RB.alloc _).keep c<|by rw[e];omega).alloc _).alloc _)
def ajO{w a W b G n t T l c1 c2 c3}(g:Below w.heap.size w a)(f:(a:Nat)=b+1)(RB:Row a b 135 qh)(d:lh W G n)(c:Below a.drew a.drew W)(j:w<=b):
 Sq w (((W.alloc<|.cells c1.toArray t).alloc<|.cells c2.toArray T).alloc<|.cells c3.toArray l) b G n W (W+1) (W+1+1) t T l c1 c2 c3:=by
 have e:a.drew.heap.size=b+1:=f;have h:=cN g;have k:=c.size;have i:=h.trans (c.mono<|by rw[e];omega);refine⟨((i.alloc O9 _).alloc Z9 _).alloc (by rw[cR,cR];omega) _,O9,j,O9,O9,((pD rfl).alloc _).alloc _,(pD<|by rw[cR]).alloc _,pD (by rw[cR,cR]),?_,((d.alloc _).alloc _).alloc _⟩;exact(((((show Row a.drew b 135 qh from RB).keep c<|by rw[e];omega).alloc _).alloc _).alloc _)
abbrev pB(f:Nat):List Value:=[(f,0)]
abbrev pL(f:Nat):List Value:=[(f,0),.slice none 0 0]
def Sq.bl{w d a g n e k b c}(h:Sq w d a g n e k b 132 156 130 (pB a) (pL a) (Bf c e k g n))(f:1<=n/\n<=16):Below w w d/\w<=b/\OV w d b c:=⟨h.below,h.le,⟨a,e,k,g,n,h.r3,h.r1,h.r2,h.rb,h.sh,f,h.le,h.lf,h.l1,h.l2⟩⟩
def Sq.lb{w d a g n e k b c}(h:Sq w d a g n e k b 156 132 130 (pL a) (pB a) (Bf c k e g n))(f:1<=n/\n<=16):Below w w d/\w<=b/\OV w d b c:=⟨h.below,h.le,⟨a,k,e,g,n,h.r3,h.r2,h.r1,h.rb,h.sh,f,h.le,h.lf,h.l2,h.l1⟩⟩
def Ym{c:fL}(h:c.ok=true):1<=c.sh/\c.sh<=16:=by simp[fL.ok,pV]at h;omega
def VK(c w):Cv 26 #[c.v] w λe v=>Below w w v/\((c.ok=false/\e=.returned (.tuple #[.pointer none,.int .i64 8]))\/∃b,c.ok=true/\e=.returned (.tuple #[ptr b,aA])/\w<=b/\OV w v b c):=by
 go_enter fA func26,ntmps26;unfold fL.v;go_wp2;have p:=Ba w<|.cells c.cells.toArray 26;have d:=aX w c.cells 26;change Calls _ _ _ (w.alloc<|.cells c.cells.toArray 26) _;generalize w.alloc _=X at p d|-;refine(GL c X).m1 λf r=>?_;have d:=d.keep r d.lt;have t:=p.size;have p:=p.trans<|r.mono t;clear r;cases i:c.ok;.go_wp2;go_ret2;exact⟨p,.inl ⟨i,rfl⟩⟩
 obtain⟨x,K⟩:=Ym i;obtain⟨n,s⟩:∃n:Nat,c.sh=(n:Int):=⟨c.sh.toNat,O9⟩;have i:=aK i;go_wp2;have l:=d.lt;have RB:=aX f qh 135;have q:=Ba f<|.cells qh.toArray 135;have d:=d.keep q d.lt;change Code.wp _ _ _ _ (f.alloc<|.cells qh.toArray 135);have j:(f.alloc<|.cells qh.toArray 135).heap.size=(f:Nat)+1:=cR _ _;generalize y:(f:Nat)=a at RB q l j|-;have k:=p.trans<|q.mono O9;generalize f.alloc _=m at RB q d k j|-;obtain⟨g,L,M,S,B⟩:=c;simp only at s x K;subst s;have I:m.cell? ((w:Nat),0)=some ↑g:=d.cell 0;have C:m.cell? ((w:Nat),1)=some ↑n:=d.cell 1;have D:m.cell? ((w:Nat),2)=some ↑M:=d.cell 2;have E:m.cell? ((w:Nat),3)=some ↑S:=d.cell 3;have J:m.cell? ((w:Nat),4)=some ↑B:=d.cell 4;have A:=d.lt;have u:=aK λ(W:World)=>Mf n W O9 O9;go_region_held3 (λv=>v.cell? ((w:Nat),0)=some ↑g/\v.cell? ((w:Nat),1)=some ↑n/\v.cell? ((w:Nat),2)=some ↑M/\v.cell? ((w:Nat),3)=some ↑S/\v.cell? ((w:Nat),4)=some ↑B) (first|go_keep|exact⟨aM h (by go_keep),aM h (by go_keep),aM h (by go_keep),aM h (by go_keep),aM h<|by go_keep⟩) ((go_at_call 59;refine(u.out _).mono ?_;rintro e H⟨G,rfl,z,o,h⟩))
 all_goals go_wp2
 all_goals go_ret2
 all_goals first
  |(have F:=(ajN (c1:=pB a) (c2:=pL a) (c3:=Bf ⟨g,n,M,S,B⟩ (a+1) (a+1+1) G n) k j RB o h<|Ak l).bl (c:=⟨g,n,M,S,B⟩) O9;exact⟨F.1,.inr ⟨_,i.out,rfl,F.2.1,F.2.2⟩⟩)
  |(have F:=(ajN (c1:=pL a) (c2:=pB a) (c3:=Bf ⟨g,n,M,S,B⟩ (a+1+1) (a+1) G n) k j RB o h<|Ak l).lb (c:=⟨g,n,M,S,B⟩) O9;exact⟨F.1,.inr ⟨_,i.out,rfl,F.2.1,F.2.2⟩⟩)
  |(have F:=(afl (c1:=pB a) (c2:=pL a) (c3:=Bf ⟨g,n,M,S,B⟩ (a+1) ↑H G n) k j RB o h<|Ak l).bl (c:=⟨g,n,M,S,B⟩) O9;exact⟨F.1,.inr ⟨_,i.out,rfl,F.2.1,F.2.2⟩⟩)
  |(have F:=(afl (c1:=pL a) (c2:=pB a) (c3:=Bf ⟨g,n,M,S,B⟩ (H:Nat) (a+1) G n) k j RB o h<|Ak l).lb (c:=⟨g,n,M,S,B⟩) O9;exact⟨F.1,.inr ⟨_,i.out,rfl,F.2.1,F.2.2⟩⟩)
  |(have F:=(ajO (c1:=pB a) (c2:=pL a) (c3:=Bf ⟨g,n,M,S,B⟩ (H:Nat) ((H:Nat)+1) G n) k j RB o h<|Ak l).bl (c:=⟨g,n,M,S,B⟩) O9;exact⟨F.1,.inr ⟨_,i.out,rfl,F.2.1,F.2.2⟩⟩)
  |(have F:=(ajO (c1:=pL a) (c2:=pB a) (c3:=Bf ⟨g,n,M,S,B⟩ ((H:Nat)+1) ↑H G n) k j RB o h<|Ak l).lb (c:=⟨g,n,M,S,B⟩) O9;exact⟨F.1,.inr ⟨_,i.out,rfl,F.2.1,F.2.2⟩⟩)
structure AN where
 ids:List ByteArray
 xf:ByteArray
 aT:Nat
 wo:Int
 K:jH
 mem:List cC
 lo:Nat
def idB(s:List UInt8):List UInt8:=be (hN (98::s)) 8
def td(s:List UInt8):UInt8:=(idB s).getD 7 0
def WG(s):(idB s).length=8:=by simp[idB,be]
def KS{s b}(h:iE s=some b):vU s=mk ((idB s).take 7++[td s]):=by unfold vU;rw[h];rfl
def WH(l:List ByteArray)(id:ByteArray):Bool:=l.any λi=>decide (i=id)
def yi{l id}:WH l id=true↔id∈l:=by unfold WH;constructor;simp;simp
structure Lay where
 B:Nat
 gs:Nat
 n:Nat
 gc:Nat
 kc:Nat
 cc:Nat
 sb:Nat->Nat
 mb:Nat->Nat
 bv:Value
 mv:Value
 l:List kT
 L:List Value
 p:kT
def Tz(l:List Value)(c:fL)(bv C:Value)(g n:Nat)(m:Value):List Value:=l++c.cells++[bv,C,(g,n,n),.int .i64 c.me,m]
def Lay.cs(s:Lay)(l:List Value)(c:fL):List Value:=Tz l c s.bv (s.gc,s.kc+1,s.cc) s.gs s.n s.mv
structure jW(w:World)(nb:Nat)(lk:List Value)(c:fL)(s:Lay)(a:AN):Prop where
 nd:oh w nb s.B c.me.toNat (s.cs lk c) s.bv s.mv s.gc s.kc s.cc s.l s.L a.mem
 dL:aR w s.gs s.n s.sb s.mb a.K
 idn:(s.l.map kT.id).Nodup
 xf:s.p∈s.l
 nQ:s.p.bad=false
 ph:s.p.aT=(s.kc:Int)
 link:s.L[s.kc*2]?=some (.pointer<|some ⟨s.p.a,0,none⟩)
 L1:∀u∈s.L,u.oneCell'=true
 ids:s.l.map kT.id=a.ids
 tid:s.p.id=a.xf
 kc:s.kc=a.aT
 wo:s.p.wo=a.wo
 len:a.ids.length<=49
 kl:a.aT+1<=a.ids.length
 wb:0<=a.wo/\a.wo<=256*a.ids.length
 KT:Eh a.K
 mem:a.mem.length<=c.me.toNat
 cok:c.ok=true
 low:a.lo<=nb/\a.lo<=s.B/\∀x∈s.l,a.lo<=x.a
def xe(w:World)(n:Nat)(c:fL)(a:AN):Prop:=∃s,jW w n se c s a
def WI{c:fL}(h:c.ok=true):(0<c.wk/\c.wk<=8)/\(1<=c.sh/\c.sh<=16)/\(0<=c.me/\c.me<=64)/\(0<=c.su/\c.su<=1000000)/\(0<=c.bi/\c.bi<=8):=by simp[fL.ok,pV]at h;omega
def KU:∀l p,(l.map kT.id).Nodup->p∈l->jT l p.id=some p
 |[],p,_,h=>by simp at h
 |x::l,p,a,h=>by simp at a;unfold jT;obtain e|b:=jO.1 h;simp_all;rw[ajh];exact KU l p a.2 b;grind
def rB{l id}:(jT l id).isSome=true↔id∈l.map kT.id:=by unfold jT;constructor;simp;simp
structure BN where
 id:ByteArray
 par:Nat
 aT:Nat
 wo:Int
 eO:List Bc
 bad:Bool
structure ve where
 ix:Nat
 st:List dB
structure AG where
 bl:List BN
 ch:List ve
 mem:List cC
 lo:Nat
def fD(l:List ve):List dB:=l.flatMap ve.st
def AG.K(a:AG):jH:=goes rG<|fD a.ch
def Bt(c:List ve)(h i:Nat):Prop:=(c[h]?).map ve.ix=some i
instance(ch:List ve)(h i:Nat):Decidable (Bt ch h i):=inferInstanceAs (Decidable<|_=_)
def upA(b:List BN)(c:List ve):Nat->Nat->List Nat
 |0,_=>[]
 |k+1,i=>match b[i]? with
   |none=>[]
   |some x=>if Bt c x.aT i then[]else i::upA b c k x.par
structure pF(a:AG):Prop where
 first:∃x,a.bl[0]?=some x/\x.aT=0/\x.wo=0/\x.bad=false
 par:∀(i:Nat)(x:BN),a.bl[i]?=some x->0<i->x.par<i/\∃p,a.bl[x.par]?=some p/\x.aT=p.aT+1/\p.wo<x.wo/\x.wo<=p.wo+256/\(p.bad=true->x.bad=true)
 ch0:∃y,a.ch[0]?=some y/\y.ix=0
 ch:∀(h:Nat)(y:ve),a.ch[h]?=some y->∃x,a.bl[y.ix]?=some x/\x.aT=h/\x.bad=false
 link:∀(h:Nat)(y:ve)(x:BN),a.ch[h+1]?=some y->a.bl[y.ix]?=some x->∃z,a.ch[h]?=some z/\z.ix=x.par
 path:fE rG (fD a.ch)
 len:∀y∈a.ch,y.st.length<=200
 KT:∀f,Eh (goes rG (fD<|a.ch.take f))
 ids:(a.bl.map BN.id).Nodup
 ll:a.bl.length<=49
def Ke(l):∀p c,goes rG l p=some c->c.pt=p:=by suffices h:∀(l:List dB)(K:jH),(∀p c,K p=some c->c.pt=p)->∀p c,goes K l p=some c->c.pt=p from h l rG (λp c e=>by cases e);intro l;induction l with
 |nil=>exactλK h=>h
 |cons s l a=>intro K h;refine a (zV K s) λp c e=>?_;unfold zV at e;split at e;grind [jH.put];grind [jH.take]
def pF.hle{a}(h:pF a):∀(i:Nat)(x:BN),a.bl[i]?=some x->x.aT<=i/\0<=x.wo/\x.wo<=256*x.aT:=by intro i;induction i using Nat.strongRecOn with
 |_ i f=>intro x b;by_cases H:i=0;subst H;have⟨y,c,j,k,_⟩:=h.first;cases b▸c;rw[j,k];exact⟨L9,lC _,O9⟩;have⟨d,p,e,g,E,l,_⟩:=h.par i x b O9;have:=f _ d p e;omega
theorem pF.chl{a}(h:pF a):a.ch<=a.bl.length:=by by_cases H:a.ch.length=0;omega;have⟨x,b,c,_⟩:=h.ch _ _ (aY<|show a.ch -1<a.ch.length by omega);have:=(h.hle _ x b).1;have:=(bK.1 b).1;omega
structure akV(a:AG)(i:Nat)(x:BN)(u:List Nat)(q:Nat)(y:BN):Prop where
 hq:a.bl[q]?=some y
 inq:Bt a.ch y.aT q
 at0:(u++[q])[0]?=some i
 at_:∀(k j:Nat),u[k]?=some j->∃z,a.bl[j]?=some z/\0<j/\¬Bt a.ch z.aT j/\(u++[q])[k+1]?=some z.par/\z.aT+k=x.aT/\(x.bad=false->z.bad=false)
 len:y.aT+u.length=x.aT
def TJ{a}(h:pF a):∀k i x,a.bl[i]?=some x->x.aT<k->∃q y,akV a i x (upA a.bl a.ch k i) q y
 |0,i,x,b,o=>by omega
 |k+1,i,x,b,o=>by unfold upA;rw[b];simp only;by_cases d:Bt a.ch x.aT i;rw[aN d];exact⟨i,x,b,d,rfl,λk j f=>by simp at f,S8⟩;rw[aJ d];have⟨B,p,r,A,E,l,n⟩:=h.par i x b (by grind [Bt,h.first,h.ch0]);have⟨q,y,c⟩:=TJ h k x.par p r O9;refine⟨q,y,c.hq,c.inq,rfl,λm j f=>?_,?_⟩;obtain _|m:=m;grind [c.at0];have⟨z,u,v,π,e,t,w⟩:=c.at_ m j (by simpa using f);exact⟨z,u,v,π,e,O9,λg=>w<|by cases s:p.bad with|false=>rfl|true=>rw[n s]at g;cases g⟩;grind [c.len]
def bsA(j:Nat):List BN->Nat->List Bool->List Bool
 |[],_,a=>a
 |x::r,i,a=>bsA j r (i+1)<|a++[x.bad||decide (i=j)||(decide (0<i)&&a.getD x.par false)]
def MR(j):∀r i A k,k<A.length->(bsA j r i A).getD k false=A.getD k false
 |[],_,_,_,_=>rfl
 |x::r,i,A,k,a=>by unfold bsA;rw[MR j r (i+1) _ k<|by rw[cB];omega];simp;rw[ko a]
def ad1(j):∀r i A k x,A.length=i->r[k]?=some x->(0<i+k->x.par<i+k)->(bsA j r i A).getD (i+k) false=(x.bad||decide (i+k=j)||(decide (0<i+k)&&(bsA j r i A).getD x.par false))
 |[],_,_,_,_,_,h,_=>by simp at h
 |y::r,i,A,0,x,c,h,a=>by simp at h;subst h;rw[tJ]at a|-;unfold bsA;rw[(MR j r (i+1) (A++[y.bad||decide (i=j)||(decide (0<i)&&A.getD y.par false)]) i<|by rw[cB];simp;omega)];simp at*;rw[cZ O9,c];simp;by_cases H:0<i;have e:=MR j r (i+1) (A++[y.bad||decide (i=j)||(decide (0<i)&&(A[y.par]?).getD false)]) y.par (by rw[cB];have:=a H;simp;omega);simp at e;rw[e,ko<|by have:=a H;omega];simp[H]
 |y::r,i,A,k+1,x,c,h,a=>by have:=ad1 j r (i+1) (A++[y.bad||decide (i=j)||(decide (0<i)&&A.getD y.par false)]) k x (by rw[cB,c];rfl) (by simpa using h) (by intro _;have:=a O9;omega);rw[show i+(k+1)=i+1+k from by omega];exact this
def E5(b:List BN)(j:Nat):List Bool:=bsA j b 0 []
theorem zO{b j i x}(h:b[i]?=some x)(a:0<i->x.par<i):(E5 b j).getD i false=(x.bad||decide (i=j)||(decide (0<i)&&(E5 b j).getD x.par false)):=by have:=ad1 j b 0 [] i x rfl h (by rw[mj];exact a);rw[mj]at this;exact this
def BN.mark(x:BN)(b:Bool):BN:={x with bad:=b,eO:=if b then[]else x.eO}
def gT(b:List BN)(j:Nat):List BN:=b.mapIdx λi x=>x.mark<|(E5 b j).getD i false
def dM(a:AG)(i h:Nat):List Nat:=(upA a.bl a.ch (h+1) i).reverse
def mA(b:List BN)(i:Nat):Int×List Bc:=match b[i]? with
 |none=>(0,[])
 |some x=>((x.aT:Int),x.eO)
def bM(a:AG)(i h:Nat):Nat:=h+1 -(dM a i h).length
def cJ(c:fL)(a:AG)(i h:Nat):JR:=bG c.me.toNat c.su ((dM a i h).map<|mA a.bl) a.mem (goes rG<|fD (a.ch.take<|bM a i h))
def nz:List Nat->List (List dB)->List ve
 |i::l,s::m=>⟨i,s⟩::nz l m
 |_,_=>[]
def oJ(c:fL)(a:AG)(i h:Nat):Int×Int×Int×AG:=if(cJ c a i h).e=0 then(((a.ch.length -bM a i h:Nat):Int),((dM a i h).length:Int),0,{a with ch:=a.ch.take (bM a i h)++nz (dM a i h) (cJ c a i h).ls,mem:=(cJ c a i h).mem})
 else(0,0,(cJ c a i h).e,{a with bl:=gT a.bl<|(dM a i h).getD (cJ c a i h).at_ 0,mem:=(cJ c a i h).mem})
section
variable{LB:Nat}
def Y2(t:TypeId):Prop:=Y1 t\/t=132
def jW.keep{w W n d c s a}(h:jW w n d c s a)(b:Below w w W):jW W n d c s a:=⟨h.nd.keep b,h.dL.keep b,h.idn,h.xf,h.nQ,h.ph,h.link,h.L1,h.ids,h.tid,h.kc,h.wo,h.len,h.kl,h.wb,h.KT,h.mem,h.cok,h.low⟩
def jW.row{w n b c s a}(h:jW w n b c s a):Row w n 130 (b++(c.cells++[s.bv,(s.gc,s.kc+1,s.cc),(s.gs,s.n,s.n),.int .i64 c.me,s.mv])):=by have:=h.nd.mem.row;unfold Lay.cs Tz at this;rw[dP]at this;exact this
def jW.shut{w W n b lk' c s a}(h:jW w n b c s a)(H:b.length=6)(o:lk'.length=6)(g:w.grownBy W (some n))(r:Row W n 130 (lk'++(c.cells++[s.bv,(s.gc,s.kc+1,s.cc),(s.gs,s.n,s.n),.int .i64 c.me,s.mv]))):jW W n lk' c s a/\Tk a.lo (λt=>t=130) 0 s.mb w W:=by
 have x:Xc (λk=>k=n) w W:=⟨g.os,g.tape,g.output,g.size,λk m p=>g.block k m λe=>p<|by simpa using e⟩;have f:Tk a.lo (λt=>t=130) 0 s.mb w W:=Qd x (by rintro k⟨i,v,_⟩;omega) λk _ e=>e▸.inr ⟨h.low.1,_,_,_,rfl,h.row⟩;have q:∀j T,6<=j->(lk'++T)[j]?=(b++T)[j]?:=λj T d=>by rw[cZ O9,cZ O9,H,o]
 have l:∀b,s.cs b c=b++(c.cells++[s.bv,(s.gc,s.kc+1,s.cc),(s.gs,s.n,s.n),.int .i64 c.me,s.mv]):=λb=>by unfold Lay.cs Tz;rw[List.append_assoc]
 have d:∀j,6<=j->(s.cs lk' c)[j]?=(s.cs b c)[j]?:=λj d=>by rw[l,l];exact q j _ d
 refine⟨⟨⟨⟨by rw[l];exact r,by rw[d 14 D9];exact h.nd.mem.Ze,by rw[d 15 D9];exact h.nd.mem.KJ,qp h.nd.mem.own f D9,cA h.nd.mem.base x.size⟩,by rw[d 11 D9];exact h.nd.c11,by rw[d 12 D9];exact h.nd.SP,h.nd.qz.tk f D9 D9,qp h.nd.chain f D9⟩,h.dL.tkc f D9 D9,h.idn,h.xf,h.nQ,h.ph,h.link,h.L1,h.ids,h.tid,h.kc,h.wo,h.len,h.kl,h.wb,h.KT,h.mem,h.cok,h.low⟩,f⟩
def jW.tk{b w W n d c s a}(h:jW w n d c s a)(x:Tk LB b 0 s.mb w W)(H:¬b 130)(k:¬b 298)(e:¬b 132)(f:¬b 135)(g:¬b 156)(i:¬b 192)(j:¬b 196):jW W n d c s a:=⟨h.nd.ck x.ck H k e f g,h.dL.tkc x i j,h.idn,h.xf,h.nQ,h.ph,h.link,h.L1,h.ids,h.tid,h.kc,h.wo,h.len,h.kl,h.wb,h.KT,h.mem,h.cok,h.low⟩
def E4{w W mb x y}(R:Row W w.heap.size 37 [x,y])(u v)(b:LB<=w.heap.size):Row ((W.setCell (w.heap.size,0)<|.int .i64 u).setCell (w.heap.size,1)<|.int .i64 v) w.heap.size 37 [u,v]/\Tk LB (λt=>t=37) 0 mb W ((W.setCell (w.heap.size,0) u).setCell (w.heap.size,1) v)/\∀{a:TypeId->Prop}{n:Nat}{mb:Nat->Nat},Tk LB a n mb w W->Tk LB a n mb w ((W.setCell ((w:Nat),0) u).setCell ((w:Nat),1) v):=
 ⟨(R.set 0 ↑u).set 1 ↑v,(mP R _ b).trans<|mP (R.set 0 _) _ b,λh=>(h.zK _ L9).zK _ L9⟩
def Yk(t:TypeId):Prop:=t=130\/t=132
def WJ{w W n c y a b nw}(h:jW w n np c y a)(g:jM W y.B b (y.l++[nw]))(m:Row W n 130 ((y.cs np c).set 11 b))(x:Xc (λk=>k=n\/y.bv.ownBlock=some k) w W):oh W n y.B c.me.toNat ((y.cs np c).set 11 b) b y.mv y.gc y.kc y.cc (y.l++[nw]) y.L a.mem/\aR W y.gs y.n y.sb y.mb a.K/\Tk a.lo Yk 0 y.mb w W:=by
 have d:Tk a.lo Yk 0 y.mb w W:=Qd x (by rintro k⟨i,H,_⟩;omega) (λk _ e=>by obtain e|e:=e;subst e;exact .inr ⟨h.low.1,_,_,_,.inl rfl,h.nd.mem.row⟩;have⟨j,o,f⟩:=bS h.nd.qz.own e;exact .inr ⟨cA h.low.2.1 j,_,_,_,.inr rfl,f⟩)
 have p:=(bK.1 h.nd.mem.Ze).1;refine⟨⟨⟨m,?_,?_,qp h.nd.mem.own d (by unfold Yk;decide),Nat.le_trans h.nd.mem.base x.size⟩,?_,?_,g,qp h.nd.chain d<|by unfold Yk;decide⟩,h.dL.tkc d (by unfold Yk;decide) (by unfold Yk;decide),d⟩;rw[ot D9];exact h.nd.mem.Ze;trivial;grind;trivial
def adS{l nw}(h:(l.map kT.id).Nodup)(a:nw.id∉l.map kT.id):((l++[nw]).map kT.id).Nodup:=by grind
def adT{w n A d c y a nw}(h:jW w n d c y a)(g:(w:Nat)<=A)(i:nw.a=A):∀x∈y.l++[nw],a.lo<=x.a:=by have e:=h.low.1;have f:=h.nd.mem.row.lt;intro x b;obtain b|b:=nA.1 b;exact h.low.2.2 x b;grind
def jw(a:AG):BN:=((a.ch[a.ch.length -1]?).bind λy=>a.bl[y.ix]?).getD ⟨⟨#[]⟩,0,0,0,[],false⟩
def AG.an(a:AG):AN:=⟨a.bl.map BN.id,(jw a).id,a.ch.length -1,(jw a).wo,a.K,a.mem,a.lo⟩
structure Tie(w:World)(l:List kT)(i:Nat)(x:kT)(y:BN):Prop where
 id:x.id=y.id
 aT:x.aT=(y.aT:Int)
 wo:x.wo=y.wo
 bad:x.bad=y.bad
 Zx:i=0->x.par=none
 par:0<i->∃p,l[y.par]?=some p/\x.par=some p.a
 eO:y.bad=false->0<i->∃q:WB,q.b=x/\q.Ok l/\nX w q.gt q.Q/\q.Q.map rH.t=y.eO
def Tie.move{w W l b i x y}(h:Tie w l i x y)(f:∀G Q,nX w G Q->nX W G Q)(r:∀(k:Nat)(p:kT),l[k]?=some p->∃P,b[k]?=some P/\P.a=p.a)(j:x∈b):Tie W b i x y:=⟨h.id,h.aT,h.wo,h.bad,h.Zx,λH=>have⟨p,a,n⟩:=h.par H;have⟨P,c,d⟩:=r _ p a;⟨P,c,d▸n⟩,λg H=>have⟨q,e,o,t,m⟩:=h.eO g H;⟨q,e,⟨o.tv,o.q,o.q0,o.q8,o.qc,e▸j,o.hh⟩,f _ _ t,m⟩⟩
structure gK(w:World)(nb:Nat)(lk:List Value)(c:fL)(s:Lay)(L:List dX)(a:AG):Prop where
 base:jW w nb lk c s a.an
 sl:s.L=eW L
 wf:pF a
 ll:s.l.length=a.bl.length
 tie:∀(i:Nat)(x:kT)(y:BN),s.l[i]?=some x->a.bl[i]?=some y->Tie w s.l i x y
 nda:(s.l.map kT.a).Nodup
 cl:L.length=a.ch.length
 lnk:∀(i:Nat)(x:dX)(y:ve),L[i]?=some x->a.ch[i]?=some y->x.st=y.st/\x.At w/\∃b,s.l[y.ix]?=some b/\b.a=x.a
def nR(w:World)(n:Nat)(c:fL)(a:AG):Prop:=∃s L,gK w n se c s L a
def gK.is{w n c s L a}(h:gK w n se c s L a):xe w n c a.an:=⟨s,h.base⟩
def dX.At.old{w W}{x:dX}(h:x.At w)(o:dN w W):x.At W:=by obtain e|⟨g,e,a⟩:=h;exact .inl e;exact .inr ⟨g,e,a.old o⟩
def gK.move{w W n l m c s L a}(h:gK w n l c s L a)(g:jW W n m c s a.an)(f:∀G Q,nX w G Q->nX W G Q)(o:dN w W):gK W n m c s L a:=⟨g,h.sl,h.wf,h.ll,λi x y b d=>(h.tie i x y b d).move f (λk p j=>⟨p,j,rfl⟩)<|eY b,h.nda,h.cl,λi x y b d=>have⟨H,q,e⟩:=h.lnk i x y b d;⟨H,q.old o,e⟩⟩
def gK.keep{w W n d c s L a}(h:gK w n d c s L a)(b:Below w w W):gK W n d c s L a:=h.move (h.base.keep b) (λ_ _ t=>t.keep b)<|PQ b
def gK.shut{w W n b lk' c s L a}(h:gK w n b c s L a)(f:b.length=6)(d:lk'.length=6)(g:w.grownBy W (some n))(r:Row W n 130 (lk'++(c.cells++[s.bv,(s.gc,s.kc+1,s.cc),(s.gs,s.n,s.n),.int .i64 c.me,s.mv]))):gK W n lk' c s L a/\Tk a.lo (λt=>t=130) 0 s.mb w W:=have⟨e,H⟩:=h.base.shut f d g r;⟨h.move e (λ_ _ t=>t.tk H D9 D9 D9)<|En H.ck D9,H⟩
def gK.tk{b w W N d c s L a}(h:gK w N d c s L a)(x:Tk LB b 0 s.mb w W)(H:¬b 130)(o:¬b 298)(g:¬b 132)(i:¬b 135)(j:¬b 156)(k:¬b 192)(l:¬b 196)(m:¬b 169)(n:¬b 139)(e:¬b 86)(f:¬b 234):gK W N d c s L a:=h.move (h.base.tk x H o g i j k l) (λ_ _ t=>t.tk x m n e)<|En x.ck f
def Da(a:AG)(b:jL):Nat:=(a.bl.findIdx? λx=>decide (x.id=mk b.parent)).getD 0
def zA(a:AG)(b:jL):BN:=(a.bl[Da a b]?).getD ⟨⟨#[]⟩,0,0,0,[],false⟩
def EH(a:AG)(b:jL):Bool:=a.bl.any λx=>decide (x.id=mk b.parent)
def qA(a:AG)(c:Int)(s:List UInt8)(b:jL):Int:=if WH (a.bl.map BN.id) (vU s)=true then 10 else
 if b.bits<c then 11 else
 if(td s).toNat%2^b.bits.toNat≠0 then 11 else
 if EH a b=false then 12 else
 if(zA a b).bad then 13 else
 if a.bl.length=49 then 9 else 0
def fQ(a:AG)(s:List UInt8)(b:jL):BN:=⟨vU s,Da a b,(zA a b).aT+1,(zA a b).wo+2^b.bits.toNat,b.eO.map pG,false⟩
def mQ(c:fL)(a:AG)(s:List UInt8):Int×Int×Int×AG:=match iE s with
 |none=>(0,0,1,a)
 |some b=>if qA a c.bi s b≠0 then(0,0,qA a c.bi s b,a)else
   if(fQ a s b).wo<=(jw a).wo then(0,0,0,{a with bl:=a.bl++[fQ a s b]})
   else oJ c {a with bl:=a.bl++[fQ a s b]} a.bl.length (fQ a s b).aT
def pH{a b}(h:EH a b=true):a.bl[Da a b]?=some (zA a b)/\(zA a b).id=mk b.parent:=by
 have H:(a.bl.findIdx? λx=>decide (x.id=mk b.parent)).isSome=true:=by rw[List.findIdx?_isSome];exact h
 have⟨i,j⟩:=aaD.1 H;have d:Da a b=i:=by grind [Da]
 have⟨f,g,_⟩:=Dy.1 j;have e:zA a b=a.bl[i]:=by grind [zA]
 rw[d,e];exact⟨(aY f),by simpa using g⟩
def ad2{w N n c s L a}(h:gK w N n c s L a)(b):(EH a b=false/\jT s.l (mk b.parent)=none)\/(EH a b=true/\∃x,jT s.l (mk b.parent)=some x/\s.l[Da a b]?=some x):=by cases f:EH a b with
 |false=>
   refine .inl ⟨rfl,?_⟩;rcases i:jT s.l (mk b.parent)with _|x;rfl;have H:=rB.1 (by rw[i];rfl);rw[h.base.ids]at H;have⟨y,m,e⟩:=gB.1 H;have l:EH a b=true:=by grind [EH]
   cases f▸l
 |true=>
   have⟨H,l⟩:=pH f;have d:Da a b<s.l:=by grind [h.ll]
   have g:=aY d;refine .inr ⟨rfl,_,?_,g⟩;have:=KU s.l s.l[Da a b] h.base.idn<|oD d;rw[(h.tie _ _ _ g H).id,l]at this;exact this
def aiU{w n k c s L a}(h:gK w n k c s L a){t b}(f:0<=b.bits)(id)(i:id=vU t):yx s.l c.bi id (mk b.parent) b.bits.toNat (td t)=qA a c.bi t b:=by have l:s.l.map kT.id=a.bl.map BN.id:=h.base.ids;unfold yx qA;rw[i,(UI f),<-l,h.ll];by_cases H:vU t∈s.l.map kT.id;rw[aN<|rB.2 H,aN<|yi.2 H];rw[aJ λe=>H<|rB.1 e,aJ λe=>H<|yi.1 e];obtain⟨d,E⟩|⟨d,x,E,j⟩:=ad2 h b;simp_all;rw[d,E];have:=(h.tie _ _ _ j (pH d).1).bad;simp[this]
def uj{a C s b}(h:qA a C s b=0):vU s∉a.bl.map BN.id/\EH a b=true/\(zA a b).bad=false/\a.bl.length≠49:=by unfold qA at h;split at h;cases h;rename_i H;split at h;cases h;split at h;cases h;split at h;cases h;rename_i f;split at h;cases h;rename_i c;split at h;cases h;rename_i d;exact⟨λe=>H<|yi.2 e,by simpa using f,by simpa using c,d⟩
def iF{a:Type}{l}{x y:a}{i}(h:(l++[x])[i]?=some y):l[i]?=some y\/(i=l.length/\y=x):=by grind
def eP{a:Type}{l m:List a}{x}{i:Nat}(h:l[i]?=some x):(l++m)[i]?=some x:=by grind
def aiV{N}(h:N<=8):(0:Int)<2^N/\(2:Int)^N<=256:=⟨Int.ofNat_lt.2<|Nat.pow_pos D9,Fh.2<|Ny D9 h⟩
def pF.keep{a}(h:pF a){C s b}(w:qA a C s b=0)(l:b.bits.toNat<=8):pF {a with bl:=a.bl++[fQ a s b]}:=by
 have⟨R,z,A,t⟩:=uj w;have f:=(pH z).1;have n:=(bK.1 f).1;have r:=aiV l;refine⟨?_,λi x c H=>?_,h.ch0,λk y d=>?_,λk y x d c=>?_,h.path,h.len,h.KT,?_,?_⟩;have⟨x,c,q⟩:=h.first;exact⟨x,eP c,q⟩;obtain c|⟨e,rfl⟩:=iF c;have⟨u,p,v,j⟩:=h.par i x c H;exact⟨u,p,eP v,j⟩;subst e;refine⟨n,zA a b,eP f,rfl,?_,?_,λe=>?_⟩;show _<_+(2:Int)^_;omega;show _+(2:Int)^_<=_;omega;simp_all;have⟨x,c,q⟩:=h.ch k y d;exact⟨x,eP c,q⟩;have⟨o,g,_⟩:=h.ch (k+1) y d;have:x=o:=by have:=eP (m:=[fQ a s b]) g;cases this▸c;rfl
 subst this;exact h.link k y x d g;rw[kq,gJ,qL,UA];exact⟨h.ids,S8,λx c y d e=>by simp[pO]at d;subst d;subst e;exact R c⟩;have:=h.ll;simp;omega
theorem pF.xf{a}(h:pF a):∃y,a.ch[a.ch.length -1]?=some y/\a.bl[y.ix]?=some (jw a)/\(jw a).aT=a.ch -1/\(jw a).bad=false/\0<a.ch.length:=have⟨z,d,_⟩:=h.ch0;have g:=(bK.1 d).1;have e:=aY<|show a.ch -1<a.ch.length by omega
 have⟨x,c,H,f⟩:=h.ch _ _ e;have b:jw a=x:=by grind [jw]
 ⟨_,e,b▸c,b▸H,b▸f,g⟩
def aga{a A}(h:pF a)(c:A.ch=a.ch)(b:∀(i:Nat)(x:BN),a.bl[i]?=some x->A.bl[i]?=some x):jw A=jw a:=by grind [jw,h.xf]
def aiW{w W V A z N c s L a j Q t b p}(h:gK w V np c s L a)(Y:qA a c.bi t b=0)(hN:b.bits.toNat=N)(ac:N<=8)(J:Q.map rH.t=b.eO.map pG)(S:∀q∈Q,q.Ok)(u:1<=Q.length/\Q.length<=8)(M:nX W z Q)(C:s.l[Da a b]?=some p)(H:↑w<=A)(I:jM W s.B j (s.l++[I2 A (vU t) p N<|.slice (some ⟨z,0,none⟩) Q Q]))(P:Row W V 130 ((s.cs np c).set 11 j))(x:Xc (λk=>k=V\/s.bv.ownBlock=some k) w W):
 gK W V np c {s with bv:=j,l:=s.l++[I2 A (vU t) p N<|.slice (some ⟨z,0,none⟩) Q Q]} L {a with bl:=a.bl++[fQ a t b]}/\Tk a.lo Yk 0 s.mb w W:=by
 have⟨nd,π,X⟩:=WJ h.base I P x;have⟨r1,r2,r3,ag⟩:=uj Y;have m:=(pH r2).1;have o:=h.tie _ _ _ C m;have D:=h.wf.keep Y O9;have R:A∉s.l.map kT.a:=λe=>by obtain⟨ab,U,rfl⟩:=gB.1 e;have:=(h.base.nd.qz.row ab U).lt;omega
 have n:jw {a with bl:=a.bl++[fQ a t b]}=jw a:=aga h.wf rfl λi x f=>eP f;have v:=h.base.ids;have d:=h.base;have O:=h.ll;refine⟨⟨⟨nd,π,adS d.idn<|v▸r1,List.mem_append_left _ d.xf,d.nQ,d.ph,d.link,d.L1,?_,?_,d.kc,?_,?_,?_,?_,d.KT,d.mem,d.cok,d.low.1,d.low.2.1,show∀x∈s.l++[_],a.lo<=x.a from adT d H rfl⟩,h.sl,D,?_,λi x y f g=>?_,?_,h.cl,λi x y f g=>?_⟩,X⟩;show(s.l++_).map kT.id=(a.bl++[fQ a t b]).map BN.id;rw[kq,kq,v];rfl;show s.p.id=(jw _).id;rw[n];exact d.tid;show s.p.wo=(jw _).wo;rw[n];exact d.wo;show((a.bl++[fQ a t b]).map BN.id).length<=49;rw[dS];exact D.ll;show a.ch -1+1<=((a.bl++[fQ a t b]).map BN.id).length;have:=d.kl;have B:a.ch -1+1<=(a.bl.map BN.id).length:=this;rw[dS]at B|-;rw[cB];omega;show 0<=(jw _).wo/\(jw _).wo<=256*(((a.bl++[fQ a t b]).map BN.id):Int);rw[n];have B:0<=(jw a).wo/\(jw a).wo<=256*((a.bl.map BN.id):Int):=d.wb;rw[dS]at B|-;rw[cB];simp[Nt];omega;simp_all;obtain E|⟨e,rfl⟩:=iF f;have af:i<a.bl:=O▸(bK.1 E).1;obtain r|⟨e,_⟩:=iF g;exact(h.tie i x y E r).move (λ_ _ q=>q.tk X (by unfold Yk;decide) (by unfold Yk;decide)<|by unfold Yk;decide) (λk q hq=>⟨q,eP hq,rfl⟩)<|List.mem_of_getElem? f;omega;obtain r|⟨_,rfl⟩:=iF g;have:=(bK.1 r).1;omega;have hh:=(h.wf.hle _ _ m).1;have hl:=(bK.1 m).1;have ae:=h.wf.ll;refine⟨rfl,?_,?_,rfl,λe2=>by omega,λ_=>⟨p,eP C,rfl⟩,λ_ _=>⟨⟨I2 A (vU t) p N<|.slice z Q Q,Q,z,Q⟩,rfl,⟨rfl,S,u.1,u.2,L9,S8,?_⟩,M,J⟩⟩;show p.aT+1=(((zA a b).aT+1:Nat):Int);rw[o.aT];omega;show p.wo+2^N=(zA a b).wo+2^b.bits.toNat;rw[o.wo,hN];show p.aT+1<_;rw[o.aT];omega;show((s.l++[_]).map kT.a).Nodup;rw[kq,gJ,qL,UA];exact⟨h.nda,S8,λx f y g e=>by simp[pO]at g;subst g;subst e;exact R f⟩;have⟨h1,B,q,F,G⟩:=h.lnk i x y f g;exact⟨h1,B.old (dN.ck X.ck<|by unfold Yk;decide),q,eP F,G⟩
def Eo{e f:Type}(P:e->f->Prop):∀l:List e,(∀x∈l,∃y,P x y)->∃m:List f,m=l.length/\∀(k:Nat)(x:e)(y:f),l[k]?=some x->m[k]?=some y->P x y
 |[],_=>⟨[],rfl,λk x y h=>by simp at h⟩
 |x::l,h=>by
   have⟨y,c⟩:=h x S8;have⟨m,H,g⟩:=Eo P l λz d=>h z<|by simp[d]
   refine⟨y::m,by simp[H],λk u v a b=>?_⟩;obtain _|k:=k;simp at a b;subst a;subst b;exact c;exact g k u v (by simpa using a) (by simpa using b)
def piA(b:List BN)(i:Nat):Option Nat:=if i=0 then none else(b[i]?).map BN.par
def gK.akW{w n g c s L a}(h:gK w n g c s L a)(j):af5 s.l j (E5 a.bl j) (piA a.bl):=by have f:∀i(x:kT),s.l[i]?=some x->∃y,a.bl[i]?=some y:=λi x b=>⟨_,aY<|h.ll▸(bK.1 b).1⟩;refine⟨h.nda,λi x b=>?_,λi x b=>?_⟩;have⟨y,d⟩:=f i x b;have e:=h.tie i x y b d;by_cases H:i=0;grind [piA,e.Zx];have⟨p,k,l⟩:=e.par O9;exact .inr ⟨y.par,p,by unfold piA;rw[if_neg H,d];rfl,(h.wf.par i y d O9).1,k,l⟩;have⟨y,d⟩:=f i x b;rw[zO d λH=>(h.wf.par i y d H).1,(h.tie i x y b d).bad];congr 1;unfold piA;by_cases H:i=0;simp_all;grind
theorem gK.flat{w n b c s L a}(h:gK w n b c s L a)(f):dO (L.take f)=fD (a.ch.take f):=by
 have e:L.map dX.st=a.ch.map ve.st:=by apply kX;intro i;rw[eG,eG];by_cases g:i<L;have H:=aY g;have d:=aY (show i<a.ch by rw[<-h.cl];exact g);rw[H,d,dK,dK,(h.lnk i _ _ H d).1];rw[kD O9,kD<|by rw[<-h.cl];omega];rfl
 unfold dO fD;rw[Ji,Ji,aaE,aaE,e]
def gK.flatAll{w n b c s L a}(h:gK w n b c s L a):dO L=fD a.ch:=by grind [gQ,h.flat,h.cl]
def Kg{l}(h:∀y∈l,y.st.length<=200):(fD l)<=200*l.length:=by induction l with
 |nil=>exact L9
 |cons x l b=>
   have e:fD (x::l)=x.st++fD l:=rfl;rw[e,cB,cQ];have H:=h x S8;have c:=b λy a=>h y<|by simp[a]
   omega
def gK.over{w nb j c s L a y O}(h:gK w nb np c s L a)(J:a.bl[j]?=some y)(ak:y.bad=false)(av:¬Bt a.ch y.aT j)(f:s.l[j]?=some O):∃W M,ahH a.lo w nb s.B c.me.toNat (s.cs np c) s.bv s.mv s.gc s.kc s.cc s.l L a.mem s.gs s.n s.sb s.mb c.wk.toNat c.su W (piA a.bl) (E5 a.bl) O M (bM a j y.aT)/\W.map WB.m=(dM a j y.aT).map (mA a.bl)/\(∀(k:Nat)(i:Nat)(x:WB),(dM a j y.aT)[k]?=some i->W[k]?=some x->s.l[i]?=some x.b)/\W=(dM a j y.aT).length:=by
 have⟨q,G,g⟩:=TJ h.wf (y.aT+1) j y J<|Dm _;unfold bM dM;generalize bk:upA a.bl a.ch (y.aT+1) j=u at g;have ad:∀(i:Nat)(z:BN),a.bl[i]?=some z->∃x,s.l[i]?=some x/\Tie w s.l i x z:=λi z F=>have e:=aY (show i<s.l by rw[h.ll];exact(bK.1 F).1);⟨_,e,h.tie i _ z e F⟩
 have⟨l,K,C⟩:=Eo (λ(i:Nat)(x:WB)=>∃z,a.bl[i]?=some z/\s.l[i]?=some x.b/\Tie w s.l i x.b z/\x.Ok s.l/\nX w x.gt x.Q/\x.Q.map rH.t=z.eO) u (λi o=>by have⟨k,d⟩:=jQ.1 o;have⟨z,r,H,π,Y,z5,N⟩:=g.at_ k i d;have⟨x,a2,af⟩:=ad i z r;have⟨bb,e,an,ap,am⟩:=af.eO (N ak) H;subst e;exact⟨bb,z,r,a2,af,an,ap,am⟩)
 have⟨M,ae,ay⟩:=ad q G g.hq;have bm:0<u.length:=by grind [g.at0,g.hq,g.inq]
 have aq:=g.len;have X:∀x∈l,∃(k i:Nat),u[k]?=some i/\l[k]?=some x:=λx f=>by have⟨k,d⟩:=jQ.1 f;have V:k<u:=K▸(bK.1 d).1;exact⟨k,_,aY V,d⟩
 have ac:∀(k i:Nat)(x:kT),(u++[q])[k]?=some i->s.l[i]?=some x->(l.map WB.b++[M])[k]?=some x:=λk i x d bo=>by grind
 have au:y.aT+1 -u.reverse=G.aT+1:=by rw[Dt];omega
 have U:(l.reverse.map WB.b).reverse=l.map WB.b:=by rw[U4,List.reverse_reverse]
 have⟨bq,ah,a6⟩:∃z,a.ch[G.aT]?=some z/\z.ix=q:=by have:=g.inq;unfold Bt at this;rcases F:a.ch[G.aT]? with _|z;cases F▸this;rw[F]at this;simp[dK,gV]at this;exact⟨z,rfl,this⟩
 have ar:=(bK.1 ah).1;have bd:=h.wf.chl;have bh:=h.wf.ll;have bg:s.kc=a.ch -1:=h.base.kc;have ao:=WI h.base.cok;have bp:=(h.wf.hle j y J).1;have bf:=(bK.1 J).1;have I:∀(i:Nat)(x:dX),L[i]?=some x->∃(z:ve)(b:kT),a.ch[i]?=some z/\x.At w/\s.l[z.ix]?=some b/\b.a=x.a:=λi x f=>have e:=aY (show i<a.ch by rw[<-h.cl];exact(bK.1 f).1);have⟨_,m,b,R,S⟩:=h.lnk i x _ f e;⟨_,b,e,m,R,S⟩
 refine⟨l.reverse,M,?_,?_,?_,?_⟩;rw[au];refine⟨h.sl▸h.base.nd,h.flatAll▸h.base.dL,λx f=>?_,λx f=>?_,λx f=>?_,?_,rfl,rfl,O9,ao.2.2.2.1,h.base.mem,O9,h.flatAll▸h.wf.path,?_,by rw[h.flat];exact h.wf.KT _,Ke _,by rw[h.cl];omega,λx f=>?_,λx f=>?_,λx f=>?_,by rw[Dt];omega,by rw[Dt];omega,by rw[h.ll];omega,O9,?_,λk x d=>?_,λx f=>?_,eY ae,?_,?_,O9,O9,⟨h.base.low.1,h.base.low.2.1⟩,h.base.low.2.2⟩;grind;have⟨k,i,n,m⟩:=X x (by simpa using f);exact(C k i x n m).choose_spec.2.2.2.1;have⟨k,i,n,m⟩:=X x (by simpa using f);exact⟨i,(C k i x n m).choose_spec.2.1,h.akW i⟩;show some (Value.int .i64 c.wk)=_;rw[UI O9];rw[h.flatAll];have:=Kg h.wf.len;omega;have⟨i,o⟩:=jQ.1 f;exact(I i x o).choose_spec.choose_spec.2.1;have⟨i,o⟩:=jQ.1 f;have⟨z,b,_,_,R,S⟩:=I i x o;exact⟨b,eY R,S⟩;have⟨i,o⟩:=jQ.1 f;have e:=aY (show i<a.bl by rw[<-h.ll];exact(bK.1 o).1);rw[(h.tie i x _ o e).aT];exact U1 _;rw[U];exact ac 0 j O g.at0 f;rw[U]at d|-;rw[eG]at d;rcases D:l[k]? with _|v;cases D▸d;rw[D]at d;simp[dK,gV]at d;subst d;have aa:=aY<|K▸(bK.1 D).1;have⟨z,r,H,π,Y,z5,N⟩:=g.at_ k _ aa;have⟨aj,p,Q,t,ai,_⟩:=C k _ v aa D;cases r▸p;have⟨al,a8,ba⟩:=t.par H;exact⟨ai.mem,al,ac (k+1) _ al Y a8,ba⟩;rw[U]at f;obtain⟨v,az,rfl⟩:=gB.1 f;have⟨k,i,n,m⟩:=X v az;have⟨z,r,H,π,Y,z5,N⟩:=g.at_ k i n;have⟨aj,p,Q,t,_⟩:=C k i v n m;cases r▸p;rw[t.aT,oq,eG];intro e;rcases T:L[z.aT]? with _|a7;cases T▸e;rw[T]at e;simp[dK,gV]at e;have⟨c1,b1,A,_,B,P⟩:=I _ a7 T;have:=BO h.nda B Q (by rw[P,e]);exact π (by unfold Bt;rw[A];simp[this]);rw[ay.aT,oq,eG];have e:=aY (show G.aT<L by rw[h.cl];exact ar);rw[e];have⟨c1,b1,A,_,B,P⟩:=I _ _ e;cases ah▸A;rw[a6,ae]at B;cases B;rw[dK,P];have⟨E,bj⟩:∃E,u.length=E+1:=⟨u -1,O9⟩;have D:=aY<|show E<l by omega
 have d:=aY<|show E<u by omega
 have⟨z,r,H,π,Y,z5,N⟩:=g.at_ E _ d;have⟨aj,p,Q,t,_⟩:=C E _ _ d D;cases r▸p;refine⟨_,by rw[Jm O9,show l.length -1 -0=E from by omega];exact D,?_⟩;rw[t.aT];omega;rw[U4,U4];congr 1;apply kX;intro k;rw[eG,eG];by_cases d:k<u;have n:=aY d;have m:=aY<|show k<l by omega
 have⟨z,p,Q,t,ai,v5,bc⟩:=C k _ _ n m;rw[n,m,dK,dK];unfold WB.m mA;rw[p,t.aT,bc];rw[kD O9,kD O9];rfl;intro k i x d ag;have ab:=(bK.1 d).1;rw[Dt]at ab;rw[Jm ab]at d;rw[Jm O9,K]at ag;exact(C _ i x d ag).choose_spec.2.1;rw[Dt,Dt,K]
def zP(a S):∀(l:List (Int×List Bc))(M:List cC)(K:jH),(∀p c,K p=some c->c.pt=p)->Eh K->M.length<=a->(∀x∈l,x.1<9223372036854775808/\x.2.length<=8/\∀t∈x.2,t.id.size<=1000000/\(∀i∈t.ins,i.Small)/\t.ins.length<=8/\t.outs.length<=8/\∀o∈t.outs,o.Small)->(∀s∈(bG a S l M K).ls,s.length<=200)/\(∀m,Eh<|goes K ((bG a S l M K).ls.take m).flatten)/\(bG a S l M K).mem.length<=a
 |[],M,K,_,b,f,_=>⟨λs d=>by simp[bG]at d,λm=>by simp[bG];exact b,f⟩
 |x::r,M,K,v,b,f,A=>by
   have e:=A x S8;have k:=xV a S x.1 x.2 M v λt g=>have q:=e.2.2 t g;⟨q.1,q.2.1,q.2.2.2.1⟩;have u:=HB a S x.1 x.2 M e.1 b e.2.1 λt g=>have q:=e.2.2 t g;⟨q.2.2.1,q.2.2.2.1,q.2.2.2.2⟩;have j:=HP (su:=S) (h:=x.1) (eO:=x.2) (K:=K) (st:=[]) f;by_cases H:(bQ a S x.1 x.2 M K []).1=0;have⟨z,n,B⟩:=zP a S r (bQ a S x.1 x.2 M K []).2.2 _ k.pt u.1 j λy w=>A y<|by simp[w]
   rw[bG,aJ<|by rw[H];simp];refine⟨λs d=>?_,λm=>?_,B⟩;grind;obtain _|m:=m;simp;exact b;grind [aau,gS,k.at_];rw[bG,aN H];exact⟨λs d=>by simp at d,λm=>by rw[List.take_nil,List.flatten_nil];exact b,j⟩
def xC:∀(l:List Nat)(m:List (List dB)),m=l.length->(nz l m)=l.length
 |[],_,_=>rfl
 |_::_,[],h=>by simp at h
 |i::l,s::m,h=>by simp[nz];rw[xC l m<|by simpa using h]
def pX:∀(l:List Nat)(m:List (List dB))(k:Nat)(z:ve),(nz l m)[k]?=some z->l[k]?=some z.ix/\m[k]?=some z.st
 |[],_,_,_,h=>by simp[nz]at h
 |_::_,[],_,_,h=>by simp[nz]at h
 |i::l,s::m,0,z,h=>by simp[nz]at h;subst h;exact⟨rfl,rfl⟩
 |i::l,s::m,k+1,z,h=>by have:=pX l m k z (by simpa[nz]using h);simpa using this
def ui:∀(l:List Nat)(m:List (List dB))(k:Nat),m=l.length->fD ((nz l m).take k)=(m.take k).flatten
 |[],[],k,_=>by simp[nz,fD]
 |[],_::_,_,h=>by simp at h
 |_::_,[],_,h=>by simp at h
 |i::l,s::m,0,_=>by simp[fD]
 |i::l,s::m,k+1,h=>by have:=ui l m k (by simpa using h);rw[aau,List.flatten_cons,<-this];rfl
def nS(l m):fD (l++m)=fD l++fD m:=by simp[fD]
structure G0(a:AG)(j:Nat)(y:BN):Prop where
 len:(dM a j y.aT).length<=y.aT
 pos:0<(dM a j y.aT).length
 fork:bM a j y.aT<=a.ch.length
 at_:∀(k i:Nat),(dM a j y.aT)[k]?=some i->∃z,a.bl[i]?=some z/\0<i/\¬Bt a.ch z.aT i/\z.aT=bM a j y.aT+k/\z.bad=false
 par:∀(k i:Nat)(z:BN),(dM a j y.aT)[k+1]?=some i->a.bl[i]?=some z->(dM a j y.aT)[k]?=some z.par
 Zx:∀(i:Nat)(z:BN),(dM a j y.aT)[0]?=some i->a.bl[i]?=some z->∃q,a.ch[bM a j y.aT -1]?=some q/\q.ix=z.par
 last:(dM a j y.aT)[(dM a j y.aT).length -1]?=some j
def G1{a j y}(h:pF a)(r:a.bl[j]?=some y)(t:y.bad=false)(w:¬Bt a.ch y.aT j):G0 a j y:=by
 have⟨q,m,b⟩:=TJ h (y.aT+1) j y r<|Dm _;have g:dM a j y.aT=(upA a.bl a.ch (y.aT+1) j).reverse:=rfl;generalize upA a.bl a.ch (y.aT+1) j=u at b g;have G:(dM a j y.aT)=u.length:=by grind
 have I:=b.len;have v:bM a j y.aT=m.aT+1:=by grind [bM]
 have x:0<u.length:=by grind [b.at0,b.hq,b.inq]
 have⟨C,s,A⟩:∃z,a.ch[m.aT]?=some z/\z.ix=q:=by have:=b.inq;unfold Bt at this;rcases f:a.ch[m.aT]? with _|z;cases f▸this;rw[f]at this;simp[dK,gV]at this;exact⟨z,rfl,this⟩
 have D:=(bK.1 s).1;have l:∀k i:Nat,(dM a j y.aT)[k]?=some i->k<u/\u[u -1 -k]?=some i:=λk i d=>by grind
 refine⟨O9,O9,O9,λk i d=>?_,λk i z d f=>?_,λi z d f=>?_,?_⟩;have⟨E,H⟩:=l k i d;have⟨z,c,n,p,π,F,o⟩:=b.at_ _ i H;exact⟨z,c,n,p,O9,o t⟩;have⟨E,H⟩:=l (k+1) i d;have⟨B,c,n,p,π,F,o⟩:=b.at_ _ i H;cases f▸c;rw[g,Jm O9];rw[show u.length -1 -(k+1)+1=u.length -1 -k from by omega,ko O9]at π;exact π;have⟨E,H⟩:=l 0 i d;have⟨B,c,n,p,π,F,o⟩:=b.at_ _ i H;cases f▸c;rw[show u.length -1 -0+1=u.length from by omega,cZ L9,rK]at π;simp[vG,gV]at π;exact⟨C,v▸s,A.trans π⟩;have e:=b.at0;rw[ko x]at e;rw[G,g,Jm O9,show u.length -1 -(u.length -1)=0 from by omega];exact e
def ru{b:Type}{l m:List b}{f}(a:f<=l.length){i x}(h:(l.take f++m)[i]?=some x):(i<f/\l[i]?=some x)\/(f<=i/\m[i -f]?=some x):=by grind
def AG.vg(a:AG)(j:Nat)(y:BN)(J:JR):AG:={a with ch:=a.ch.take (bM a j y.aT)++nz (dM a j y.aT) J.ls,mem:=J.mem}
def pF.over{a j y c}(h:pF a)(W:G0 a j y)(L:c.ls=(dM a j y.aT).length)(N:fE (goes rG<|fD (a.ch.take<|bM a j y.aT)) c.ls.flatten)(O:∀s∈c.ls,s.length<=200)(t:∀m,Eh<|goes (goes rG<|fD (a.ch.take<|bM a j y.aT)) (c.ls.take m).flatten):pF (a.vg j y c):=by
 have H:1<=bM a j y.aT:=by unfold bM;have:=W.len;omega
 have l:=W.fork;have r:∀i(z:ve),(a.vg j y c).ch[i]?=some z->(i<bM a j y.aT/\a.ch[i]?=some z)\/(bM a j y.aT<=i/\(dM a j y.aT)[i -bM a j y.aT]?=some z.ix/\c.ls[i -bM a j y.aT]?=some z.st):=λi z b=>by obtain q|⟨p,d⟩:=ru l b;simp_all;have⟨D,E⟩:=pX _ _ _ _ d;exact .inr ⟨p,D,E⟩
 have n:∀i(z:ve),i<bM a j y.aT->a.ch[i]?=some z->(a.vg j y c).ch[i]?=some z:=λi z P b=>by show(a.ch.take (bM a j y.aT)++_)[i]?=some z;rw[ko (by rw[dJ];omega),Du P];exact b
 have B:∀k i,(dM a j y.aT)[k]?=some i->∃z,(a.vg j y c).ch[bM a j y.aT+k]?=some z/\z.ix=i:=λk i f=>by have w:=(bK.1 f).1;have e:=aY (show k<(nz (dM a j y.aT) c.ls)by rw[xC _ _ L];exact w);have q:=(pX _ _ _ _ e).1;rw[f]at q;refine⟨_,?_,(iN q).symm⟩;show(a.ch.take (bM a j y.aT)++_)[bM a j y.aT+k]?=some _;rw[cZ (by rw[dJ];omega),dJ,lD l,show bM a j y.aT+k -bM a j y.aT=k from by omega];exact e
 have A:fE rG (fD (a.ch.take<|bM a j y.aT)):=by have:=h.path;rw[<-pR (bM a j y.aT) a.ch,nS]at this;exact this.left.1
 have C:fD (nz (dM a j y.aT) c.ls)=c.ls.flatten:=by have:=ui (dM a j y.aT) c.ls (nz (dM a j y.aT) c.ls) L;rw[gQ,xC _ _ L,<-L,gQ]at this;exact this
 refine⟨h.first,h.par,?_,λk z b=>?_,λk z x b o=>?_,?_,λz b=>?_,λg=>?_,h.ids,h.ll⟩;have⟨z,b,e⟩:=h.ch0;exact⟨z,n 0 z O9 b,e⟩;obtain⟨_,q⟩|⟨p,d,_⟩:=r k z b;exact h.ch k z q;have⟨x,F,I,J,K,G⟩:=W.at_ _ _ d;exact⟨x,F,O9,G⟩;rcases r (k+1) z b with⟨Q,q⟩|⟨p,d,_⟩;have⟨v,V,M⟩:=h.link k z x q o;exact⟨v,n k v O9 V,M⟩;by_cases e:k+1=bM a j y.aT;rw[show k+1 -bM a j y.aT=0 from by omega]at d;have⟨v,V,M⟩:=W.Zx _ x d o;exact⟨v,n k v O9 (by rw[show k=bM a j y.aT -1 from by omega];exact V),M⟩;rw[show k+1 -bM a j y.aT=(k -bM a j y.aT)+1 from by omega]at d;have⟨v,V,M⟩:=B _ _<|W.par _ _ x d o;exact⟨v,by rw[show k=bM a j y.aT+(k -bM a j y.aT)from by omega];exact V,M⟩;show fE rG (fD<|a.ch.take _++nz _ _);rw[nS,C];exact A.append N;obtain b|b:=nA.1 b;exact h.len z<|UX b;have⟨k,f⟩:=jQ.1 b;exact O _<|eY (pX _ _ _ _ f).2;show Eh (goes rG (fD<|(a.ch.take _++nz _ _).take g));rw[aav,nS,gS,Fl,dJ,lD l,ui _ _ _ L];by_cases u:g<=bM a j y.aT;rw[show g -bM a j y.aT=0 from by omega,lD u];exact h.KT g;rw[Nat.min_eq_right O9];exact t _
end
end Go.Proofs.aH
