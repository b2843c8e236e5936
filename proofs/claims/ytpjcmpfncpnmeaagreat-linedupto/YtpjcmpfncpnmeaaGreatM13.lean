import Derived.Maps.RangeRun
import Derived.Test.YtpjcmpfncpnmeaaGreatM12
set_option linter.all false
set_option maxHeartbeats 16000000
set_option maxRecDepth 100000
namespace Go.Proofs.aH
open Go.RowKit Go.Seq
attribute [local go_sem↓] Go.wp_at_zero Go.wp_at_succ
section
def X5:=@grownBy_putObj'
variable{LB:Nat}
def om{w:World}{B B' size n e v a}(h:w.ownsRow B' e size v n a)(d:B<=B'):w.ownsRow B e size v n a:=by
 refine⟨h.1,?_⟩;obtain i|⟨g,cap,cur,f,b,c⟩:=h.2;.simp_all
 .exact .inr ⟨g,cap,cur,f,bT d b,c⟩
structure Ck(LB:Nat)(Y:TypeId->Prop)(w w':World):Prop where
 size:w.heap.size<=w'.heap.size
 cells:∀(k:Nat) (cs:Array Value) (t:TypeId) (f:Nat×Nat),w.heap[k]?=some (.cells cs t f)->k<LB\/¬Y t->w'.heap[k]?=some (.cells cs t f)
def Tk.ck{Y n mb w w'}(h:Tk LB Y n mb w w'):Ck LB Y w w':=⟨h.size,h.cells⟩
def Row.ck{a g w w' t cs}(h:Row w g t cs)(x:Ck LB a w w')(b:¬a t):Row w' g t cs:=x.cells _ _ _ _ h (.inr b)
def rZ{a size m B w w' e v c}(h:w.ownsRow B e size v m c)(x:Ck LB a w w')(d:¬a e):w'.ownsRow B e size v m c:=dY h (λk cs _ _ b=>(x.cells k cs e _ b (.inr d)).trans b.symm)
def pX.ck{a w w' nb B c gc kc cc cs L bv mv l mem}(h:pX w nb B c cs bv mv gc kc cc l L mem)(x:Ck LB a w w')(d:¬a 130)(e:¬a 298)(f:¬a 132)(g:¬a 135)(i:¬a 156):pX w' nb B c cs bv mv gc kc cc l L mem:=⟨⟨h.mem.row.ck x d,h.mem.TX,h.mem.IZ,rZ h.mem.own x e,bT h.mem.base x.size⟩,h.Mk,h.Ow,⟨rZ h.qG.own x f,λb j=>(h.qG.row b j).ck x g⟩,rZ h.chain x i⟩
def bU.ck{a w w' tb gs n v l}(h:bU w tb gs n v l)(x:Ck LB a w w')(b:¬a 181)(c:¬a 234):bU w' tb gs n v l:=⟨h.row.ck x b,rZ h.own x c⟩
def X6{w D o o'}(h:w.heap[D]?=some o)(b:o.isCells=false):Ck LB (λ_=>False) w (w.putObj D o'):=⟨by simp[World.putObj],λk cs t f a _=>qF (X5 w D o') (λr e=>by cases e;exact⟨o,h,b⟩) k cs t f a⟩
def aU.put{w D gs n sb mb K o o'}(a:aU w gs n sb mb K)(h:w.heap[D]?=some o)(j:o.isCells=false)(d:∀i,i<n->mb i≠D):aU w (gs) n sb mb K/\aU (w.putObj D o') gs n sb mb K:=by
 have g:=X5 w D o';have b:∀(k:Nat) (t:TypeId) (cs:List Value),Row w k t cs->k≠D:=λk t cs r e=>by subst e;unfold Row at r;rw[h]at r;cases r;simp[Obj.isCells]at j
 refine⟨a,a.xc (S:=λk=>k=D) ⟨g.os,g.tape,g.output,g.size,λk c f=>g.block k c (λe=>f (by simpa using e))⟩ (b _ _ _ a.arr) (λi hi=>b _ _ _ (a.sh i hi)) d⟩
def nz{w g j n mb t cs}(r:Row w g t cs)(v)(h:LB<=g):Tk LB (λu=>u=t) n mb w (w.setCell ⟨g,j,none⟩ v):=by
 have gr:=bO w (g,j) v;refine⟨gr.os,gr.tape,gr.output,gr.size,λk d i f a b=>(gr.block k (cE a) (λe=>?_)).trans a,λk o a c _=>(gr.block k (cE a) (λe=>?_)).trans a⟩
 .simp at e;subst e;unfold Row at r;rw[a]at r;cases r;obtain b|b:=b;.omega
  .simp_all
 .simp at e;subst e;unfold Row at r;rw[a]at r;cases r;simp[Obj.isCells]at c
def aU.tkc{b w w' gs n sb mb K}(a:aU w gs n sb mb K)(x:Tk LB b 0 mb w w')(d:¬b 192)(e:¬b 196):aU w' gs n sb mb K:=by refine⟨a.arr.tk x d,λi hi=>(a.sh i hi).tk x e,λi hi=>(a.mp i hi).same ?_,a.pt,a.inj,a.lo,a.hi⟩;obtain⟨o,c,f⟩:=a.maps (mb i) ⟨i,hi,rfl⟩;exact(x.rest (mb i) o c f (by rintro⟨j,g,_⟩;omega)).trans c.symm
def Tk.zero{a n mb w w'}(h:Tk LB a 0 mb w w'):Tk LB a n mb w w':=⟨h.os,h.tape,h.output,h.size,h.cells,λk o b c _=>h.rest k o b c (by rintro⟨j,d,_⟩;omega)⟩
def Tk.yf{c n g j mb w w1}(h:Tk LB c n mb w w1)(v)(q:↑w<=g):Tk LB c n mb w (w1.setCell ⟨g,j,none⟩ v):=by have gr:=bO w1 (g,j) v;have i:∀(k:Nat) (o:Obj) (b:Obj),w.heap[k]?=some o->w1.heap[k]?=some b->(w1.setCell (g,j) v).heap[k]?=some b:=λk o b a d=>(gr.block k (cE d) (λe=>by simp at e;have:=cE a;omega)).trans d;exact⟨gr.os.trans h.os,gr.tape.trans h.tape,gr.output.trans h.output,bT h.size gr.size,λk cs t f a p=>i k _ _ a (h.cells k cs t f a p),λk o a m l=>i k _ _ a (h.rest k o a m l)⟩
def Tk.X7{c n D mb w w1}(h:Tk LB c n mb w w1)(o')(m:↑w<=D):Tk LB c n mb w (w1.putObj D o'):=by have gr:=X5 w1 D o';have g:∀(k:Nat) (o:Obj) (b:Obj),w.heap[k]?=some o->w1.heap[k]?=some b->(w1.putObj D o').heap[k]?=some b:=λk o b a d=>(gr.block k (cE d) (λe=>by simp at e;have:=cE a;omega)).trans d;exact⟨gr.os.trans h.os,gr.tape.trans h.tape,gr.output.trans h.output,bT h.size gr.size,λk cs t f a l=>g k _ _ a (h.cells k cs t f a l),λk o a j i=>g k _ _ a (h.rest k o a j i)⟩
def pX.over{w nb B e gc kc cc c a cs L d bv mv l mem}(h:pX w nb B e cs bv mv gc kc cc l L mem)(g:w.ownsRow B 156 2 (.slice (some ⟨c,0,none⟩) (kc+1+1) a) (kc+1+1) d):pX (w.setCell (nb,12) (.slice c (kc+1+1) a)) nb B e (cs.set 12 (.slice c (kc+1+1) a)) bv mv c (kc+1) a l d mem:=by
 have x:Ck 0 (λu=>u=130) w (w.setCell (nb,12) (.slice c (kc+1+1) a)):=(nz (n:=0) (mb:=λ_=>0) h.mem.row _ (eX _)).ck;have i:=(eJ.1 h.mem.TX).1;refine⟨⟨h.mem.row.set 12 _,?_,?_,rZ h.mem.own x D9,bT h.mem.base x.size⟩,?_,?_,⟨rZ h.qG.own x D9,λb f=>(h.qG.row b f).ck x D9⟩,rZ g x D9⟩;.rw[uh D9];exact h.mem.TX
 .rw[uh D9];exact h.mem.IZ
 .rw[uh D9];exact h.Mk
 .grind
structure OvS(w W:World)(nb B most:Nat)(cs:List Value)(bv mv:Value)(gc kc cc:Nat)(l:List pE)(L:List Value)(mem:List cH)(gs n:Nat)(sb mb:Nat->Nat)(K:mO)(gt:Nat)(Q:List rD):Prop where
 r0:Row W w.heap.size 37 [.int .i64 0,.int .i64 0]
 tr:bU W (w.heap.size+1) gs n (.slice none 0 0) []
 rb:Row W (w.heap.size+1+1) 179 [.pointer (some ⟨w.heap.size+1,0,none⟩)]
 ra:Row W (w.heap.size+1+1+1) 4 [.bool false]
 nd:pX W nb B most cs bv mv gc kc cc l L mem
 aP:aU W gs n sb mb K
 dH:vP W gt Q
 below:Below w.heap.size w W
def OvS.keep{w W W' nb B b cs bv mv gc kc cc l L mem gs n sb mb K gt Q}(h:OvS w W nb B b cs bv mv gc kc cc l L mem gs n sb mb K gt Q)(a:Below W W W'):OvS w W' nb B b cs bv mv gc kc cc l L mem gs n sb mb K gt Q:=⟨h.r0.keep a h.r0.lt,⟨h.tr.row.keep a h.tr.row.lt,aY h.tr.own a⟩,h.rb.keep a h.rb.lt,h.ra.keep a h.ra.lt,h.nd.keep a,h.aP.keep a,h.dH.keep a,h.below.trans (a.mono h.below.size)⟩
def OvS.new{w nb B b cs bv mv gc kc cc l L mem gs n sb mb K gt Q}(hN:pX w nb B b cs bv mv gc kc cc l L mem)(c:aU w gs n sb mb K)(d:vP w gt Q):OvS w ((((w.alloc (.cells #[aA,aA] 37)).alloc (.cells #[.slice gs n n,()] 181)).alloc (.cells #[.pointer ((w:Nat)+1,0)] 179)).alloc (.cells #[aF] 4)) nb B b cs bv mv gc kc cc l L mem gs n sb mb K gt Q:=by
 have a:Below w.heap.size w ((((w.alloc (.cells #[aA,aA] 37)).alloc (.cells #[.slice (some ⟨gs,0,none⟩) n n,.slice none 0 0] 181)).alloc (.cells #[.pointer (some ⟨w.heap.size+1,0,none⟩)] 179)).alloc (.cells #[aF] 4)):=(((B0.alloc L9 _).alloc S8 _).alloc (by simp;omega) _).alloc (by simp;omega) _;refine⟨(((aV w [aA,aA] 37).alloc _).alloc _).alloc _,⟨?_,iZ _ _ _ _⟩,?_,?_,hN.keep a,c.keep a,d.keep a,a⟩;.exact((zF (w:=w.alloc (.cells #[aA,aA] 37)) (cs:=[.slice (some ⟨gs,0,none⟩) n n,.slice none 0 0]) S8).alloc _).alloc _
 .exact(zF (w:=(w.alloc (.cells #[aA,aA] 37)).alloc (.cells #[.slice (some ⟨gs,0,none⟩) n n,.slice none 0 0] 181)) (cs:=[.pointer (some ⟨w.heap.size+1,0,none⟩)]) S8).alloc _
 .exact zF (cs:=[↑aF]) S8
def Oy{nb gs n gt cq B most gc kc cc sb mb K mv bv m b p Q cs L mem su}(wk:Nat)(w)(hN:pX w nb B most cs bv mv gc kc cc (m++[b]) L mem)(htv:b.tv=.slice gt Q.length cq)
 (hX:vP w gt Q)(hq:∀q∈Q,q.Ok)(hQ0:1<=Q.length)(hQ8:Q.length<=8)(hcq:Q.length<=cq)
 (hC:aU w gs n sb mb K)(c6:cs[6]?=some (.int .i64 wk))(c9:cs[9]?=some (.int .i64 su))(c13:cs[13]?=some (.slice gs n n))(hwk:0<wk/\wk<=8)(hsu:0<=su/\su<=1000000)(hml:mem.length<=most)(hms:most<=64)
 (hK:IY K)(hm:Tidy m)(hnb:b.a∉m.map pE.a)(hpm:p∈m)(hbp:b.par=some p.a)(hpb:p.bad=false)(hbh:b.cB=((kc+1:Nat):Int))(hph:p.cB=(kc:Int))(hLp:L[kc*2]?=some (.pointer p.a))(hL1:∀u∈L,u.oneCell'=true)(hkc:kc<=900)(hl:(m++[b]).length<=1000)(hLn:LB<=nb/\LB<=B)(hLb:∀x∈m++[b],LB<=x.a):
 Calls aI.prog 40 #[ptr nb,ptr b.a] w λe w'=>Tk LB Y1 n mb w w'/\(((dG most su b.cB (Q.map rD.t) mem K []).1=0/\e=.returned (.tuple #[.agg #[aA,aG],aA])/\aU w' gs n sb mb (dG most su b.cB (Q.map rD.t) mem K []).2.1.K/\∃uB gc' cc' sa sn sc,pX w' nb B most ((cs.set 15 uB).set 12 (.slice (some ⟨gc',0,none⟩) (kc+1+1) cc')) bv uB gc' (kc+1) cc' (m++[b]) (L++[.pointer (some ⟨b.a,0,none⟩),.slice sa sn sc]) (dG most su b.cB (Q.map rD.t) mem K []).2.2)\/((dG most su b.cB (Q.map rD.t) mem K []).1≠0/\e=.returned (.tuple #[.agg #[aA,aA],(dG most su b.cB (Q.map rD.t) mem K []).1])/\aU w' gs n sb mb K/\∃uB,pX w' nb B most (cs.set 15 uB) bv uB gc kc cc (m++[b.spoilt]) L (dG most su b.cB (Q.map rD.t) mem K []).2.2)):=by
 have QS:=Ty most su b.cB (Q.map rD.t) mem hC.pt (λx hx=>by obtain⟨q,hq1,rfl⟩:=jV.1 hx;exact⟨(hq q hq1).id,(hq q hq1).si,(hq q hq1).lo⟩);have adQ:=(EW most su b.cB (Q.map rD.t) mem (by rw[hbh];omega) hK (by rw[iB];exact hQ8) (λx hx=>by obtain⟨q,hq1,rfl⟩:=jV.1 hx;exact⟨(hq q hq1).li,(hq q hq1).lo,(hq q hq1).so⟩)).2;obtain⟨R,hR⟩:∃R,dG most su b.cB (Q.map rD.t) mem K []=R:=⟨_,rfl⟩;rw[hR]at QS adQ|-;obtain⟨E,S,M'⟩:=R;simp only at QS adQ|-;replace hR:=aJ hR;have n13:w.cell? (nb,13)=some (.slice gs n n):=by rw[hN.mem.row.cell];exact c13
 have nlt:=hN.mem.row.lt;have hLw:Hid (LB<=(w:Nat)):=by show _<=_;omega
 replace hLn:=aJ hLn;replace hLb:=aJ hLb;unfold ptr;refine BA aI.func40 rfl ?_;simp only[Tryz.ntmps40,pM,fH,jU,Nat.reduceAdd,Nat.reduceSub,UB,UC,UD,Pk,CM,FL];go_wp2_with fail;have hS:=OvS.new hN hC hX;generalize(((w.alloc (.cells #[aA,aA] 37)).alloc (.cells #[.slice gs n n,()] 181)).alloc (.cells #[.pointer (some ⟨(w:Nat)+1,0,none⟩)] 179)).alloc (.cells #[aF] 4)=X at hS|-;have hmb:∀i,i<n->mb i<(w:Nat):=λi hi=>(hC.mp i hi).lt;have hmt:∀k,mv.ownBlock=some k->k<(w:Nat)+1+1:=λk hk=>by obtain⟨_,cs',h⟩:=cP hN.mem.own hk;have:=cE h;omega
 have hBw:=hN.mem.base;clear hN hC hX n13;have a12:X.cell? (nb,12)=some (.slice gc (kc+1) cc):=by rw[hS.nd.mem.row.cell];exact hS.nd.Ow
 have hcell:∀W,OvS w W nb B most cs bv mv gc kc cc (m++[b]) L mem gs n sb mb K gt Q->∀j u,L[j]?=some u->W.cell? ⟨gc,j,none⟩=some u:=λW h j u hj=>by have:=h.nd.chain.cells (g:=gc) rfl j u hj;rwa [add0]at this
 have adR:=TA nb gc kc cc b p X a12 (hS.nd.qG.row b S8) (hS.nd.qG.row p (by simp[hpm])) hbp hbh hph (hcell X hS _ _ hLp) hkc;refine adR.mono ?_;rintro e w1 ⟨g,wc,rfl,hg,X8,hb1⟩;replace hS:=hS.keep hb1;clear adR a12 hb1 hg;have b2:w1.cell? (b.a,2)=some ↑((kc+1:Nat):Int):=by rw[<-hbh];exact(hS.nd.qG.row b S8).cell 2
 have a12:w1.cell? (nb,12)=some (.slice gc (kc+1) cc):=by rw[hS.nd.mem.row.cell];exact hS.nd.Ow
 have hcap:kc+1<=cc:=by
  obtain⟨h0,_⟩|⟨g',cap,cur,hv,_,_,hc,_⟩:=hS.nd.chain.2;.cases h0
  .cases hv;exact hc
 have i1:((kc+1:Nat):Int)<=(cc:Int):=O9;have i0:(0:Int)<=((kc+1:Nat):Int):=O9;replace hcell:=aJ hcell;replace hbh:=aJ hbh;replace hph:=aJ hph;go_wp2_with fail;go_quiet (fail);have hbq:Below w1 w1 (w1.drewN nq):=jN B0;replace hS:=hS.keep hbq;replace X8:(w1.drewN nq).cell? (g,0)=some (.pointer b.a):=X8;clear hbq b2 a12 i0 i1;generalize w1.drewN nq=Y at hS X8|-;generalize(if cc=kc+1 then some (⟨gc,0,none⟩:Addr)else some (gc,(kc+1)*2))=la;generalize cc -(kc+1)=lc;go_wp2_with fail;refine(FH la 0 lc Y).mono ?_;rintro e w2 ⟨rfl,rfl⟩;have hbY:Below Y Y (Y.alloc (.cells #[.slice la 0 lc] 122)):=B0.alloc L9 _;have hcb:(Y.alloc (.cells #[.slice la 0 lc] 122)).cell? ((Y:Nat),0)=some (.slice la 0 lc):=(aV Y [.slice la 0 lc] 122).cell 0;replace hS:=hS.keep hbY;replace X8:=aW hbY X8;generalize hYn:(Y:Nat)=yn at hcb|-;generalize Y.alloc (.cells #[.slice la 0 lc] 122)=π at hS X8 hcb|-;clear hbY hYn;have hZw:(w:Nat)<=(π:Nat):=hS.below.size;go_wp2_with fail;refine Kw (gf:=126) (lb:=#[.pointer yn]) (encs:=λ_=>#[undef,undef]) (N:=0) rfl (enters_of aI.func126 K8 rfl) (Ot yn lc la _) (λk=>rfl) (λ_ W=>Below π π W) (ownFrom_below L9 L9) (λk W h=>aW h hcb) B0 (λ_ _ _=>True) ?assign ?ax ?body ?done;case assign=>intro l' k W Kk hk;omega
 case ax=>exactλ_ _ _ _ _ _ _ _ _ _=>trivial
 case body=>intro l' k a' W hk;omega
 case done=>
  rintro D W hD hbW hKD;replace hS:=hS.keep hbW;replace X8:=aW hbW X8;have hDw:(w:Nat)<=D:=by have h1:=hS.below.size;have h2:=hZw;omega
  clear hcb hbW hD;have t6:W.cell? ((w:Nat)+1+1,0)=some (.pointer ((w:Nat)+1,0)):=hS.rb.cell 0;have hja:=LW (g:=g) (wc:=wc) wk W X8 hS.nd htv hS.dH hq hQ0 hQ8 hcq hS.aP hS.tr c6 c9 hwk hsu hmt hml hms hK (by rw[hbh.out];omega) hm hnb ⟨p,hpm,hbp,hpb⟩ hl ⟨hLn.out.1,hLn.out.2,bT hLw.out (qN _)⟩ hLb.out;rw[hR.out]at hja;unfold ptr at hja;replace hja:=aJ hja;go_wp2_with fail;refine hja.out.mono ?_;rintro e w3 (⟨hE,gj,cj,sa,sn,sc,rfl,hO,hJ⟩|⟨hE,rfl,hJ⟩)
  .replace hE:E=0:=hE;subst hE;have r0:=hS.r0.tk hJ.tk (BJ D9 D9 D9 D9 D9);have ra:=hS.ra.tk hJ.tk (BJ D9 D9 D9 D9 D9);have hD3:=hJ.tk.rest D _ hKD rfl (by rintro⟨i,hi,e⟩;have:=hmb i hi;omega);obtain⟨⟨uB,N3⟩,C3,_,x3⟩:=hJ;have IK:Below w3 w3 (w3.alloc (.cells #[.slice gc (kc+1) cc,.slice gj 1 cj] 122)):=B0.alloc L9 _;have RQ:=aV w3 [.slice gc (kc+1) cc,.slice gj 1 cj] 122;have hLl:=N3.chain.1;have hcc:=Ov ↑w3 gc kc cc gj cj L [.pointer b.a,.slice sa sn sc] _ (RQ.cell 0) (RQ.cell 1) hLl hL1 (λj u hj=>by have:=N3.chain.cells (g:=gc) rfl j u hj;rw[add0]at this;exact aW IK this) rfl (by intro u hu;simp only[gA,kF,kG]at hu;obtain rfl|rfl:=hu<;>rfl) (λj u hj=>by have:=hO.cells (g:=gj) rfl j u hj;rw[add0]at this;exact aW IK this) O9;clear hja X8 t6 hcell hO;replace hcc:=aJ hcc;have xw:Tk LB Y1 n mb w w3:=(zH hS.below).trans x3;go_wp2_with fail;refine hcc.out.mono ?_;rintro e w4 ⟨v4,rfl,hO4,hb4⟩;obtain⟨ig,ic,hv⟩:=cO hO4 (kc+1) rfl;subst hv;have hbW:Below w3 w3 w4:=IK.trans (hb4.mono IK.size);replace hO4:=om hO4 (show B<=_ from bT hBw (bT xw.size IK.size));have N5:=(N3.keep hbW).over hO4;have C4:=C3.keep hbW;have r4:=r0.keep hbW r0.lt;have a4:=ra.keep hbW ra.lt;have D4:=(hbW.block D (cE hD3)).trans hD3;have nr:=(N3.keep hbW).mem.row;have x4:Tk LB Y1 n mb w w4:=xw.trans (zH hbW);have y5:Tk LB (λu=>u=130) 0 mb w4 (w4.setCell (nb,12) (.slice ig (kc+1+1) ic)):=nz nr _ hLn.out.1;have n12:w4.cell? (nb,12)=some (.slice gc (kc+1) cc):=by rw[nr.cell];exact(N3.keep hbW).Ow
   have nf:=nr.frozen 12;have z0:w4.cell? ((w:Nat),0)=some ↑aA:=r4.cell 0;have z1:w4.cell? ((w:Nat),1)=some ↑aA:=r4.cell 1;have zf0:=r4.frozen 0;have zf1:=r4.frozen 1;have za:w4.cell? ((w:Nat)+1+1+1,0)=some ↑aF:=a4.cell 0;have zaf:=a4.frozen 0;have zl0:=r4.lt;have zl1:=a4.lt;have zl2:=nr.lt;have ne1:nb≠(w:Nat)+1+1+1:=O9;have ne2:nb≠(w:Nat):=O9;have ne3:(w:Nat)+1+1+1≠nb:=O9;have ne4:(w:Nat)≠nb:=O9;clear hcc hb4 hO4 N3 C3 IK RQ hS;replace N5:=aJ N5;replace y5:=aJ y5;go_wp2_with fail;replace N5:=N5.out;replace y5:=y5.out;have C5:=C4.tkc y5 D9 D9;have r5:=r4.tk y5 D9;have a5:=a4.tk y5 D9;have D5:=y5.rest D _ D4 rfl (by rintro⟨j,hj,_⟩;omega);have x5:Tk LB Y1 n mb w (w4.setCell (nb,12) (.slice ig (kc+1+1) ic)):=x4.trans (y5.zero.mono (λt e=>.inl (.inl e)));clear C4 r4 a4 D4 nr x4 y5 n12 nf z0 z1 zf0 zf1 za zaf zl0 zl1 zl2 r0 ra hD3 xw x3 hbW hKD;generalize w4.setCell ⟨nb,12,none⟩ (.slice ig (kc+1+1) ic)=w5 at N5 C5 r5 a5 D5 x5|-;have y6:Tk LB (λu=>u=4) 0 mb w5 (w5.setCell ((w:Nat)+1+1+1,0) ↑aD):=nz a5 _ (by have:=hLw.out;omega);have a6:Row (w5.setCell ((w:Nat)+1+1+1,0) ↑aD) ((w:Nat)+1+1+1) 4 [aD]:=a5.set 0 ↑aD;have x6:=x5.yf (g:=(w:Nat)+1+1+1) (j:=0) ↑aD O9;have N6:=N5.ck y6.ck D9 D9 D9 D9 D9;have C6:=C5.tkc y6 D9 D9;have r6:=r5.tk y6 D9;have D6:=y6.rest D _ D5 rfl (by rintro⟨j,hj,_⟩;omega);clear N5 C5 r5 a5 D5 x5 y6;generalize w5.setCell ⟨(w:Nat)+1+1+1,0,none⟩ ↑aD=w6 at N6 C6 r6 a6 D6 x6|-;have y7:Tk LB (λu=>u=37) 0 mb w6 ((w6.setCell ((w:Nat),0) ↑aA).setCell ((w:Nat),1) ↑aG):=(nz r6 _ hLw.out).trans (nz (r6.set 0 _) _ hLw.out);have r7:Row ((w6.setCell ((w:Nat),0) ↑aA).setCell ((w:Nat),1) ↑aG) ↑w 37 [aA,aG]:=(r6.set 0 ↑aA).set 1 ↑aG;have x7:=(x6.yf (j:=0) ↑aA L9).yf (j:=1) ↑aG L9;have N7:=N6.ck y7.ck D9 D9 D9 D9 D9;have C7:=C6.tkc y7 D9 D9;have a7:=a6.tk y7 D9;have D7:=y7.rest D _ D6 rfl (by rintro⟨j,hj,_⟩;omega);clear N6 C6 r6 a6 D6 x6 y7;generalize(w6.setCell ⟨(w:Nat),0,none⟩ ↑aA).setCell ⟨(w:Nat),1,none⟩ ↑aG=w7 at N7 C7 r7 a7 D7 x7|-;have c8:=X6 (LB:=LB) (o':=.deferred none) D7 rfl;have x8:=x7.X7 (.deferred none) hDw;have C8:=(C7.put (o':=.deferred none) D7 rfl (λi hi e=>by have:=hmb i hi;omega)).2;have N8:=N7.ck c8 id id id id id;have a8:=a7.ck c8 id;have r8:=r7.ck c8 id;refine vq D7 ?_;generalize w7.putObj D (.deferred none)=w8 at c8 x8 C8 N8 a8 r8|-;refine Gw (R':=λw'=>w'=w8) (enters_of aI.func81 K8 rfl) (Ox _ _ _ w8 (a8.cell 0)) ?_;rintro w9 rfl;have k0:w9.cell? ((w:Nat),0)=some ↑aA:=r8.cell 0;have k1:w9.cell? ((w:Nat),1)=some ↑aG:=r8.cell 1;refine xS (v:=.tuple #[.agg #[aA,aG],aA]) ?_ ⟨x8,rfl,C8,uB,ig,ic,sa,sn,sc,N8⟩;simp[results,Tryz.results40,go_sem,k0,k1]
  .have hEn:(E==0)=false:=by simpa using hE
   have r0:=hS.r0.tk hJ.tk (BJ D9 D9 D9 D9 D9);have rb:=hS.rb.tk hJ.tk (BJ D9 D9 D9 D9 D9);have ra:=hS.ra.tk hJ.tk (BJ D9 D9 D9 D9 D9);have hD3:=hJ.tk.rest D _ hKD rfl (by rintro⟨i,hi,e⟩;have:=hmb i hi;omega);have e0:w3.cell? ((w:Nat),0)=some ↑aA:=r0.cell 0;have e1:w3.cell? ((w:Nat),1)=some ↑aA:=r0.cell 1;have f0:=r0.frozen 0;have f1:=r0.frozen 1;have rlt:=r0.lt;clear hja X8 t6 hcell;replace hJ:=aJ hJ;go_wp2_with fail;replace hJ:=hJ.out;obtain⟨⟨uB,N3⟩,C3,⟨v3,T3⟩,x3⟩:=hJ;have y4:Tk LB (λu=>u=37) 0 mb w3 ((w3.setCell ((w:Nat),0) ↑aA).setCell ((w:Nat),1) ↑aA):=(nz r0 _ hLw.out).trans (nz (r0.set 0 _) _ hLw.out);have xw:Tk LB Y1 n mb w ((w3.setCell ((w:Nat),0) ↑aA).setCell ((w:Nat),1) ↑aA):=(((zH hS.below).trans x3).yf _ L9).yf _ L9;have r4:Row ((w3.setCell ((w:Nat),0) ↑aA).setCell ((w:Nat),1) ↑aA) ↑w 37 [aA,aA]:=(r0.set 0 ↑aA).set 1 ↑aA;generalize(w3.setCell ⟨(w:Nat),0,none⟩ ↑aA).setCell ⟨(w:Nat),1,none⟩ ↑aA=w4 at y4 xw r4|-;have D4:=y4.rest D _ hD3 rfl (by rintro⟨j,hj,_⟩;omega);have c5:=X6 (LB:=LB) (o':=.deferred none) D4 rfl;have x5:=xw.X7 (.deferred none) hDw;have C5:=((C3.tkc y4 D9 D9).put (o':=.deferred none) D4 rfl (λi hi e=>by have:=hmb i hi;omega)).2;have T5:=(T3.ck y4.ck D9 D9).ck c5 id id;have N5:=(N3.ck y4.ck D9 D9 D9 D9 D9).ck c5 id id id id id;have rb5:=(rb.tk y4 D9).ck c5 id;have ra5:=(ra.tk y4 D9).ck c5 id;have r5:=r4.ck c5 id;rw[QS.at_]at C5;refine vq D4 ?_;generalize w4.putObj D (.deferred none)=w5 at c5 x5 C5 T5 N5 rb5 ra5 r5|-;refine Gw (R':=λw'=>aU w' gs n sb mb K/\Tk LB Yt n mb w5 w') (enters_of aI.func81 K8 rfl) (LX _ _ _ w5 (ra5.cell 0) (rb5.cell 0) C5 T5 QS.ok O9 (bT hLw.out (qN _))) ?_;rintro w6 ⟨C6,x6⟩;have r6:=r5.tk x6 (by unfold Yt;decide);have k0:w6.cell? ((w:Nat),0)=some ↑aA:=r6.cell 0;have k1:w6.cell? ((w:Nat),1)=some ↑aA:=r6.cell 1;refine xS (v:=.tuple #[.agg #[aA,aA],E]) ?_ ⟨x5.trans (x6.mono Yt.y1),.inr ⟨hE,rfl,C6,uB,N5.ck x6.ck (by unfold Yt;decide) (by unfold Yt;decide) (by unfold Yt;decide) (by unfold Yt;decide) (by unfold Yt;decide)⟩⟩;simp[results,Tryz.results40,go_sem,k0,k1]
end
end Go.Proofs.aH
namespace Go.Proofs.aH
open Go.RowKit
attribute [local go_sem↓] Go.wp_at_zero Go.wp_at_succ
def YL(t:rh):RN:=⟨jL t.tag t.ins t.outs,t.ins,t.outs⟩
def tW.q(p:tW):rD:=⟨YL p.t,p.gi,p.t.ins.length,p.go,p.t.outs.length⟩
def aI.aas:(aI.prog.info? 169).map (λi=>(i.zero,i.size,i.bytes))=some (some (.agg #[aB,(),()]),3,64):=K8
def YN(n:Nat):List Value:=(madeCells #[aB,.slice none 0 0,.slice none 0 0] (n*3)).toList
def aat(n):(YN n).length=n*3:=by unfold YN;rw[Array.length_toList,size_madeCells]
def acG(n:Nat)(h:n<=1000)(w):(Instr.makeSlice 104 (n:Int) (n:Int)).run aI.prog w=.ok (.slice (w:Nat) n n) (w.alloc (.cells (YN n).toArray 169)):=by obtain⟨d,hi,a,b,c⟩:=info_parts aI.aas;have:=uN (P:=aI.prog) w 104 169 d _ aI.underlying104 hi a .i64 .i64 (n:Int) (n:Int) O9 (nB _) (by rw[c];omega) O9;rw[this,b];simp[YN,Value.cells]
def X9(l):(ye l).length=l.length*3:=by induction l with
 |nil=>rfl
 |cons x l a=>simp only[ye,uR,cK]at*;simp only[rD.cells,fH,jU];omega
def TB(l q):ye (l++[q])=ye l++q.cells:=by simp[ye]
def Ya{w g t A r x y z}(h:Row w g t (A++x::y::z::r))(a b c):Row (((w.setCell (g,A.length) a).setCell (g,A.length+1) b).setCell (g,A.length+2) c) g t (A++a::b::c::r):=by
 have d:=((h.set A.length a).set (A.length+1) b).set (A.length+2) c;have e:(((A++x::y::z::r).set A.length a).set (A.length+1) b).set (A.length+2) c=A++a::b::c::r:=by simp
 rw[e]at d;exact d
def abz{w e c0 c1 c2 c3}(R:Row e w.heap.size 106 [c0,c1,c2,c3])(f:Below w.heap.size w e)(a b)(c)(d):Row ((((e.setCell ((w:Nat),0) (.string a)).setCell ((w:Nat),1) (.string b)).setCell ((w:Nat),2) (.int .i64 c)).setCell ((w:Nat),3) d) w 106 [a,b,c,d]/\Below w w ((((e.setCell ((w:Nat),0) a).setCell ((w:Nat),1) b).setCell ((w:Nat),2) c).setCell ((w:Nat),3) d):=
 ⟨(((R.set 0 ↑a).set 1 ↑b).set 2 ↑c).set 3 d,(((f.setCell (p:=((w:Nat),0)) L9 _).setCell (p:=((w:Nat),1)) L9 _).setCell (p:=((w:Nat),2)) L9 _).setCell (p:=((w:Nat),3)) L9 _⟩
def LY:∀l i q,l[i]?=some q->(yc l)[i*3]?=some q.t.tag/\(yc l)[i*3+1]?=some (.slice q.gi q.t.ins.length q.t.ins.length)/\(yc l)[i*3+2]?=some (.slice q.go q.t.outs.length q.t.outs.length)
 |[],i,x,h=>by simp at h
 |y::l,0,x,h=>by simp at h;subst h;exact⟨rfl,rfl,rfl⟩
 |y::l,i+1,x,h=>by have:=LY l i x (by simpa using h);have e:yc (y::l)=y.cells++yc l:=rfl;rw[e];simp[show(i+1)*3=3+i*3 from by omega,show 3+i*3+1=3+(i*3+1)from by omega,show 3+i*3+2=3+(i*3+2)from by omega];have a:y.cells.length=3:=rfl;rw[eZ O9,eZ O9,eZ O9];simpa[a]using this
def aey(w g a b c d):Xc (λj=>j=g) w ((((w.setCell (g,0) (.string a)).setCell (g,1) (.string b)).setCell (g,2) (.int .i64 c)).setCell (g,3) d):=((((jO (λj=>j=g) w).setCell (g,0) ↑a (λ_=>rfl)).setCell (g,1) ↑b (λ_=>rfl)).setCell (g,2) ↑c (λ_=>rfl)).setCell (g,3) d (λ_=>rfl)
def Yc{S w b W B}(a:Below B w b)(d:B<=b)(x:Xc S b W)(f:∀k,S k->B<=k):Below B w W:=⟨x.os.trans a.os,x.tape.trans a.tape,x.output.trans a.output,bT a.size x.size,λk c=>(x.block k (eQ c d) (λe=>by have:=f k e;omega)).trans (a.block k c)⟩
def QT:Value:=.agg #[aB,aB,aA,.slice none 0 0]
def Yd(s w):Calls aI.prog 34 #[(mk s)] w λe w'=>Below w w w'/\((mZ s=none/\e=.returned (.tuple #[QT,aG]))\/∃b gt Q,mZ s=some b/\e=.returned (.tuple #[.agg #[(iL s),(mk b.parent),b.bits,.slice (some ⟨gt,0,none⟩) Q.length Q.length],aA])/\vP w' gt Q/\Q.map rD.t=b.dH.map YL/\∀q∈Q,q.Ok):=by
 have c:=aV w [aB,aB,aA,()] 106;have d:Below w w (w.alloc (.cells #[aB,aB,aA,()] 106)):=B0.alloc L9 _;go_enter aI.func34,Tryz.ntmps34;go_wp2_with fail;generalize w.alloc (.cells #[aB,aB,aA,()] 106)=X at c d|-;refine(vG s _).mono ?_;rintro e w1 ⟨z,⟨u,rfl⟩|⟨b,v,gt,a,u,rfl,B⟩⟩
 .replace c:=(c.keep z c.lt).alloc (.cells #[aB,aA,aA,()] 93);replace d:Below w w (w1.alloc (.cells #[aB,aA,aA,()] 93)):=(d.trans (z.mono d.size)).alloc (bT d.size z.size) _;unfold lO;have c0:(w1.alloc (.cells #[aB,aA,aA,()] 93)).cell? ((w:Nat),0)=some ↑aB:=c.cell 0;have c1:(w1.alloc (.cells #[aB,aA,aA,()] 93)).cell? ((w:Nat),1)=some ↑aB:=c.cell 1;have c2:(w1.alloc (.cells #[aB,aA,aA,()] 93)).cell? ((w:Nat),2)=some ↑aA:=c.cell 2;have c3:(w1.alloc (.cells #[aB,aA,aA,()] 93)).cell? ((w:Nat),3)=some ↑():=c.cell 3;have f0:=c.frozen 0;have f1:=c.frozen 1;have f2:=c.frozen 2;have bj:=c.frozen 3;have o:=c.lt;go_wp2_with fail;generalize w1.alloc (.cells #[aB,aA,aA,()] 93)=Y at c d|-;obtain⟨hrf,a3⟩:=abz c d ⟨#[]⟩ ⟨#[]⟩ 0 ↑();generalize(((Y.setCell ⟨(w:Nat),0,none⟩ ↑aB).setCell ⟨(w:Nat),1,none⟩ ↑aB).setCell ⟨(w:Nat),2,none⟩ ↑aA).setCell ⟨(w:Nat),3,none⟩ ↑()=G at hrf a3|-;have k0:G.cell? ((w:Nat),0)=some ↑aB:=hrf.cell 0;have ak:G.cell? ((w:Nat),1)=some ↑aB:=hrf.cell 1;have k2:G.cell? ((w:Nat),2)=some ↑aA:=hrf.cell 2;have ao:G.cell? ((w:Nat),3)=some ↑():=hrf.cell 3;exact nC (v:=.tuple #[QT,aG]) (by simp[results,Tryz.results34,go_sem,k0,ak,k2,ao,QT]) rfl ⟨a3,.inl ⟨u,rfl⟩⟩
 .obtain⟨ai,_⟩:=zo u;have bu:=B.val;subst bu;obtain⟨bm,a7⟩:=IE ai;have ae:a.length=b.dH.length:=by rw[<-B.dH,iB]
  have cb:a.length<=8:=O9;have ab:Ev b.dH=a.map λp=>↑(YL p.t).id:=by unfold Ev YL;rw[<-B.dH,uS];rfl
  have br:∀q∈a.map tW.q,q.Ok:=by intro q T;obtain⟨p,y,rfl⟩:=jV.1 T;have E:=a7 p.t (by rw[<-B.dH];exact A3 y);exact⟨E.2.2.1,E.2.2.2.2.1,E.2.2.2.1,E.2.2.2.2.2,by show(mk _).size<=_;rw[dC];simp[be]⟩
  have π:(a.map tW.q).map rD.t=b.dH.map YL:=by rw[<-B.dH,uS,uS];rfl
  have cB:=B.row;have n:=B.rows;clear B a7 bm;obtain⟨h,bits,bP,cd⟩:=b;simp only at ae ab π|-;replace ae:=aJ ae;have RB:=aV w1 [↑(mk h),bits,bP,.slice gt a.length a.length] 93;have P:Below w1 w1 (w1.alloc (.cells #[↑(mk h),bits,bP,.slice gt a.length a.length] 93)):=B0.alloc L9 _;go_wp2_with fail;replace c:=(c.keep z c.lt).keep P (eQ c.lt z.size);replace cB:=cB.keep P cB.lt;replace n:=n.kept (w':=w1.alloc (.cells #[↑(mk h),bits,bP,.slice gt a.length a.length] 93)) (λb _ o=>P.block b o);replace d:Below w w (w1.alloc (.cells #[↑(mk h),bits,bP,.slice gt a.length a.length] 93)):=(d.trans (z.mono d.size)).trans (P.mono (bT d.size z.size));generalize bk:(w1:Nat)=bb at RB|-;generalize w1.alloc (.cells #[↑(mk h),bits,bP,.slice gt a.length a.length] 93)=Y at c cB n d RB|-;clear P z bk;refine(zq s Y).mono ?_;rintro e w2 ⟨rfl,K⟩;have a5:dE s=0:=by unfold dE;rw[u]
  rw[a5];clear a5;replace c:=c.keep K c.lt;replace RB:=RB.keep K RB.lt;replace cB:=cB.keep K cB.lt;replace n:=n.kept (w':=w2) (λb _ o=>K.block b o);replace d:=d.trans (K.mono d.size);clear K;go_wp2_with fail;refine(Ex s w2).mono ?_;rintro e w3 ⟨L,⟨S,_⟩|⟨b0,gi,S,rfl,b6,RI⟩⟩;.rw[u]at S;cases S
  .rw[u]at S;cases S;simp only;rw[ab]at RI;rw[<-ae.out];replace c:=c.keep L c.lt;replace RB:=RB.keep L RB.lt;replace cB:=cB.keep L cB.lt;replace n:=n.kept (w':=w3) (λb _ o=>L.block b o);replace d:=d.trans (L.mono d.size);clear L;have g:=aV w3 (YN a.length) 169;have A:Below w3 w3 (w3.alloc (.cells (YN a.length).toArray 169)):=B0.alloc L9 _;have bq:=acG a.length O9;have b3:w3.cell? (bb,3)=some (.slice gt a.length a.length):=RB.cell 3;have bb3:(w3.alloc (.cells (YN a.length).toArray 169)).cell? (bb,3)=some (.slice gt a.length a.length):=aW A b3;have a8:(w:Nat)<=(w3:Nat):=d.size;replace u:=aJ u;replace π:=aJ π;replace ab:=aJ ab;replace ai:=aJ ai;go_wp2_with fail;replace c:=c.keep A c.lt;replace RB:=RB.keep A RB.lt;replace RI:=RI.keep A RI.lt;replace cB:=cB.keep A cB.lt;replace n:=n.kept (w':=w3.alloc (.cells (YN a.length).toArray 169)) (λb _ o=>A.block b o);replace d:=d.trans (A.mono d.size);generalize bo:(w3:Nat)=f at g a8|-;generalize w3.alloc (.cells (YN a.length).toArray 169)=G at c RB RI g cB n d bb3|-;clear bq A b3 bo bb3;have D:=g;go_loopw [39] (λi wr=>∃(k:Nat) (rest:List Value),k<=a.length/\i=↑k/\Row wr f 169 (ye ((a.take k).map tW.q)++rest)/\rest.length=(a.length -k)*3/\Xc (λj=>j=f) G wr) (λi _=>a.length -(intOf i).toNat);case atStart=>exact⟨0,YN a.length,eX _,rfl,g,by rw[aat];rfl,jO _ _⟩
   case round=>
    obtain⟨k,rest,b7,rfl,g,r,x⟩:=hrel;replace c:=c.xc x (c.ne D D9);replace RB:=RB.xc x (RB.ne D D9);replace RI:=RI.xc x (RI.ne D D9);replace cB:=cB.xc x (cB.ne D D9);by_cases o:k<a.length;.match rest,r with
     |[],r=>simp at r;omega
     |[_],r=>simp at r;omega
     |[_,_],r=>simp at r;omega
     |bx::y1::bz::rest,r=>
       have af:=cN o;have aj:a.take (k+1)=a.take k++[a[k]]:=by rw[uO o]
       generalize a[k]=q at af aj;obtain⟨au,av,ay⟩:=LY a k q af;have c0:wr.cell? (gt,k*3)=some ↑q.t.tag:=by rw[cB.cell];exact au
       have c1:wr.cell? (gt,k*3+1)=some (.slice q.gi q.t.ins.length q.t.ins.length):=by rw[cB.cell];exact av
       have c2:wr.cell? (gt,k*3+2)=some (.slice q.go q.t.outs.length q.t.outs.length):=by rw[cB.cell];exact ay
       have J:(ye ((a.take k).map tW.q)).length=k*3:=by rw[X9,iB,qd];omega
       have a6:Hid (ye ((a.take (k+1)).map tW.q)=ye ((a.take k).map tW.q)++[.string (YL q.t).id,.slice (some ⟨q.gi,0,none⟩) q.t.ins.length q.t.ins.length,.slice (some ⟨q.go,0,none⟩) q.t.outs.length q.t.outs.length]):=by show _=_;rw[aj,sw,qM,T9,TB];rfl
       have aa:Below wr wr (wr.alloc (.cells #[↑q.t.tag,.slice q.gi q.t.ins.length q.t.ins.length,.slice q.go q.t.outs.length q.t.outs.length] 90)):=B0.alloc L9 _;have O:=aV wr [↑q.t.tag,.slice q.gi q.t.ins.length q.t.ins.length,.slice q.go q.t.outs.length q.t.outs.length] 90;replace g:=g.keep aa g.lt;replace RI:=RI.keep aa RI.lt;replace x:=x.then aa;have b8:(0:Int)<=(k:Int):=O9;have b9:(k:Int)<(a.length:Int):=O9;have R:(a.map λp=>Value.string (YL p.t).id)[k]?=some (↑(YL q.t).id):=by rw[fW,af];rfl
       replace R:=aJ R;replace J:=aJ J;replace r:=aJ r;clear af aj au av ay aa;generalize(YL q.t).id=W at a6 R|-;generalize q.t.ins.length=l at*;generalize q.t.outs.length=m at*;generalize q.gi=H at*;generalize q.go=I at*;generalize q.t.tag=a9 at*;go_wp2_with fail;generalize wr.alloc (.cells #[a9,.slice H l l,.slice I m m] 90)=V at g RI O x|-;generalize(wr:Nat)=ar at O|-;have ba:V.cell? (gi,k)=some ↑W:=by rw[RI.cell];exact R.out
       have bb:V.cell? (ar,1)=some (.slice H l l):=O.cell 1;have bc:V.cell? (ar,2)=some (.slice I m m):=O.cell 2;have bd:V.cell? (f,k*3)=some bx:=by rw[g.cell,<-J.out,eZ L9];simp
       have bf:V.cell? (f,k*3+1)=some y1:=by rw[g.cell,<-J.out,eZ O9];simp
       have bg:V.cell? (f,k*3+2)=some bz:=by rw[g.cell,<-J.out,eZ O9];simp
       have f0:=g.frozen (k*3);have f1:=g.frozen (k*3+1);have f2:=g.frozen (k*3+2);have cf:=g.lt;clear c0 c1 c2 R;go_region;have C:=Ya g ↑W (.slice H l l) (.slice I m m);rw[J.out]at C;have ag:=((x.setCell (f,k*3) ↑W (λ_=>rfl)).setCell (f,k*3+1) (.slice H l l) (λ_=>rfl)).setCell (f,k*3+2) (.slice I m m) (λ_=>rfl);replace C:Row ((((V.setCell (f,k*3) ↑W).setCell (f,k*3+1) (.slice H l l)).setCell (f,k*3+2) (.slice I m m)).drew) f 169 _:=C;replace ag:=ag.drew;clear x g bd bf bg f0 f1 f2 ba bb bc RI O;generalize(((V.setCell ⟨f,k*3,none⟩ ↑W).setCell ⟨f,k*3+1,none⟩ (.slice H l l)).setCell ⟨f,k*3+2,none⟩ (.slice I m m)).drew=μ at C ag|-;replace C:=aJ C;go_wp2_with fail;go_roundw;case rel=>exact⟨k+1,rest,O9,by go_num,by rw[a6.out,kH];exact C.out,by have:=r.out;simp only[fH]at this;omega,ag⟩
       case measure=>simp[intOf];omega
    .have bp:k=a.length:=O9;subst bp;have bs:rest=[]:=se O9;subst bs;rw[nS,pN]at g;have a4:=Yc d d.size x (λj e=>by subst e;exact a8);have M:∀p∈a,Row wr p.gi 139 (mN p.t.ins)/\Row wr p.go 86 (lS p.t.outs):=λp y=>by obtain⟨i,hi⟩:=yu.1 y;obtain⟨_,_,E,az⟩:=n.rows i p hi;exact⟨E.xc x (E.ne D D9),az.xc x (az.ne D D9)⟩
     obtain⟨N,a2⟩:=abz c a4 (iL s) (mk h) bits (.slice f a.length a.length);have ah:Xc (λj=>j=(w:Nat)) wr ((((wr.setCell ((w:Nat),0) ↑(iL s)).setCell ((w:Nat),1) ↑(mk h)).setCell ((w:Nat),2) ↑bits).setCell ((w:Nat),3) (.slice f a.length a.length)):=aey wr ↑w (iL s) (mk h) bits _;have a0:vP ((((wr.setCell ((w:Nat),0) ↑(iL s)).setCell ((w:Nat),1) ↑(mk h)).setCell ((w:Nat),2) ↑bits).setCell ((w:Nat),3) (.slice f a.length a.length)) f (a.map tW.q):=by
      refine⟨g.xc ah (g.ne c D9),λq T=>?_,λq T=>?_⟩;.obtain⟨p,y,rfl⟩:=jV.1 T;exact(M p y).1.xc ah ((M p y).1.ne c D9)
      .obtain⟨p,y,rfl⟩:=jV.1 T;exact(M p y).2.xc ah ((M p y).2.ne c D9)
     have c0:wr.cell? ((w:Nat),0)=some ↑aB:=c.cell 0;have c1:wr.cell? ((w:Nat),1)=some ↑aB:=c.cell 1;have c2:wr.cell? ((w:Nat),2)=some ↑aA:=c.cell 2;have c3:wr.cell? ((w:Nat),3)=some ↑():=c.cell 3;have f0:=c.frozen 0;have f1:=c.frozen 1;have f2:=c.frozen 2;have bj:=c.frozen 3;have ca:=c.lt;have b4:wr.cell? (bb,0)=some ↑(mk h):=RB.cell 0;have b1:wr.cell? (bb,1)=some ↑bits:=RB.cell 1;replace M:=aJ M;clear a4 ah g D RI RB c cB n d x;go_wp2_with fail;generalize(((wr.setCell ⟨(w:Nat),0,none⟩ ↑(iL s)).setCell ⟨(w:Nat),1,none⟩ ↑(mk h)).setCell ⟨(w:Nat),2,none⟩ ↑bits).setCell ⟨(w:Nat),3,none⟩ (.slice f a.length a.length)=F at N a2 a0|-;have k0:F.cell? ((w:Nat),0)=some ↑(iL s):=N.cell 0;have ak:F.cell? ((w:Nat),1)=some ↑(mk h):=N.cell 1;have k2:F.cell? ((w:Nat),2)=some ↑bits:=N.cell 2;have ao:F.cell? ((w:Nat),3)=some (.slice f a.length a.length):=N.cell 3;exact nC (v:=.tuple #[.agg #[↑(iL s),↑(mk h),bits,.slice f a.length a.length],aA]) (by simp[results,Tryz.results34,go_sem,k0,ak,k2,ao]) rfl ⟨a2,.inr ⟨_,f,a.map tW.q,u.out,by rw[iB],a0,π.out,br⟩⟩
structure AN where
 ids:List ByteArray
 fT:ByteArray
 cB:Nat
 wo:Int
 K:mO
 mem:List cH
 lo:Nat
def ZT(s:List UInt8):List UInt8:=be (hN (98::s)) 8
def jM(s:List UInt8):UInt8:=(ZT s).getD 7 0
def Ip(s):(ZT s).length=8:=by simp[ZT,be]
def SN(s):ZT s=(ZT s).take 7++[jM s]:=by trivial
def Aw{s b}(h:mZ s=some b):iL s=mk ((ZT s).take 7++[jM s]):=by unfold iL;rw[h];rfl
def Ye(l:List ByteArray)(id:ByteArray):Bool:=l.any λi=>decide (i=id)
def wE{l id}:Ye l id=true↔id∈l:=by
 unfold Ye;constructor;.simp
 .simp
def zB(a:AN)(cb:Int)(s:List UInt8)(b:vH):Int:=if Ye a.ids (iL s)=true then 10 else
 if b.bits<cb then 11 else
 if(jM s).toNat%2^b.bits.toNat≠0 then 11 else
 if a.ids.length=49 then 9 else 0
def gS(c:lA)(a:AN)(b:vH):Int×JS×List cH:=dG c.me.toNat c.su ((a.cB+1:Nat):Int) (b.dH.map YL) a.mem a.K []
def fN(c:lA)(a:AN)(s:List UInt8):Int×Int×AN:=match mZ s with
 |none=>(0,1,a)
 |some b=>if zB a c.bi s b≠0 then(0,zB a c.bi s b,a)else
   if(gS c a b).1=0 then(1,0,⟨a.ids++[iL s],iL s,a.cB+1,a.wo+2^b.bits.toNat,(gS c a b).2.1.K,(gS c a b).2.2,a.lo⟩)
   else(0,(gS c a b).1,{a with ids:=a.ids++[iL s],mem:=(gS c a b).2.2})
structure Hy where
 B:Nat
 gs:Nat
 n:Nat
 gc:Nat
 kc:Nat
 cc:Nat
 sb:Nat->Nat
 mb:Nat->Nat
 bv:Value
 mv:Value
 l:List pE
 L:List Value
 p:pE
def Oz(lk:List Value)(c:lA)(bv cv:Value)(gs n:Nat)(mv:Value):List Value:=lk++c.cells++[bv,cv,.slice (some ⟨gs,0,none⟩) n n,.int .i64 c.me,mv]
def Hy.cs(s:Hy)(lk:List Value)(c:lA):List Value:=Oz lk c s.bv (.slice (some ⟨s.gc,0,none⟩) (s.kc+1) s.cc) s.gs s.n s.mv
structure iJ(w:World)(nb:Nat)(lk:List Value)(c:lA)(s:Hy)(a:AN):Prop where
 nd:pX w nb s.B c.me.toNat (s.cs lk c) s.bv s.mv s.gc s.kc s.cc s.l s.L a.mem
 aP:aU w s.gs s.n s.sb s.mb a.K
 tidy:Tidy s.l
 idn:(s.l.map pE.id).Nodup
 fT:s.p∈s.l
 gL:s.p.bad=false
 ph:s.p.cB=(s.kc:Int)
 link:s.L[s.kc*2]?=some (.pointer (some ⟨s.p.a,0,none⟩))
 L1:∀u∈s.L,u.oneCell'=true
 ids:s.l.map pE.id=a.ids
 tid:s.p.id=a.fT
 kc:s.kc=a.cB
 wo:s.p.wo=a.wo
 len:a.ids.length<=49
 kl:a.cB+1<=a.ids.length
 wb:0<=a.wo/\a.wo<=256*a.ids.length
 WW:IY a.K
 mem:a.mem.length<=c.me.toNat
 cok:c.ok=true
 low:a.lo<=nb/\a.lo<=s.B/\∀x∈s.l,a.lo<=x.a
def gB(w:World)(nb:Nat)(c:lA)(a:AN):Prop:=∃s,iJ w nb vt c s a
def QU{c:lA}(h:c.ok=true):(0<c.wk/\c.wk<=8)/\(1<=c.sh/\c.sh<=16)/\(0<=c.me/\c.me<=64)/\(0<=c.su/\c.su<=1000000)/\(0<=c.bi/\c.bi<=8):=by simp[lA.ok,pT]at h;omega
def AU:∀l p,(l.map pE.id).Nodup->p∈l->jY l p.id=some p
 |[],p,_,h=>by simp at h
 |x::l,p,a,h=>by
   simp at a;unfold jY;obtain e|b:=gA.1 h;.simp_all
   .rw[acV];.exact AU l p a.2 b
    .grind
def vS{l id}:(jY l id).isSome=true↔id∈l.map pE.id:=by
 unfold jY;constructor;.simp
 .simp
def aau{w nb m c s a}(h:iJ w nb m c s a){t b}(f:0<=b.bits)(j:mk b.parent=a.fT)(id)(i:id=iL t):wO s.l c.bi id (mk b.parent) b.bits.toNat (jM t)=zB a c.bi t b:=by
 unfold wO zB;have k:jY s.l (mk b.parent)=some s.p:=by rw[j,<-h.tid];exact AU s.l s.p h.idn h.fT
 rw[k,<-h.ids,i];have g:=Jh f;rw[g];simp[h.gL];by_cases d:iL t∈s.l.map pE.id;.rw[bM (vS.2 d),bM (wE.2 d)]
 .rw[aX (λe=>d (vS.1 e)),aX (λe=>d (wE.1 e))]
section
def QV:=@cell_regrown
variable{LB:Nat}
def Y2(t:TypeId):Prop:=Y1 t\/t=132
def iJ.keep{w w' nb d c s a}(h:iJ w nb d c s a)(b:Below w w w'):iJ w' nb d c s a:=⟨h.nd.keep b,h.aP.keep b,h.tidy,h.idn,h.fT,h.gL,h.ph,h.link,h.L1,h.ids,h.tid,h.kc,h.wo,h.len,h.kl,h.wb,h.WW,h.mem,h.cok,h.low⟩
def iJ.row{w nb b c s a}(h:iJ w nb b c s a):Row w nb 130 (b++(c.cells++[s.bv,.slice (some ⟨s.gc,0,none⟩) (s.kc+1) s.cc,.slice (some ⟨s.gs,0,none⟩) s.n s.n,.int .i64 c.me,s.mv])):=by have:=h.nd.mem.row;unfold Hy.cs Oz at this;rw[kH]at this;exact this
def iJ.shut{w w' nb b lk' c s a}(h:iJ w nb b c s a)(o:b.length=6)(p:lk'.length=6)(g:w.grownBy w' (some nb))(r:Row w' nb 130 (lk'++(c.cells++[s.bv,.slice (some ⟨s.gc,0,none⟩) (s.kc+1) s.cc,.slice (some ⟨s.gs,0,none⟩) s.n s.n,.int .i64 c.me,s.mv]))):iJ w' nb lk' c s a/\Tk a.lo (λt=>t=130) 0 s.mb w w':=by
 have u:=h.row;have x:Xc (λk=>k=nb) w w':=⟨g.os,g.tape,g.output,g.size,λk m q=>g.block k m (λe=>q (by simpa using e))⟩;have f:Tk a.lo (λt=>t=130) 0 s.mb w w':=G8 x (by rintro k ⟨i,hi,_⟩;omega) (λk _ e=>by subst e;exact .inr ⟨h.low.1,_,_,_,rfl,u⟩);have hlen:∀(j:Nat) (T:List Value),6<=j->(lk'++T)[j]?=(b++T)[j]?:=λj T d=>by rw[eZ O9,eZ O9,o,p]
 have l:∀b,s.cs b c=b++(c.cells++[s.bv,.slice (some ⟨s.gc,0,none⟩) (s.kc+1) s.cc,.slice (some ⟨s.gs,0,none⟩) s.n s.n,.int .i64 c.me,s.mv]):=λb=>by unfold Hy.cs Oz;rw[List.append_assoc]
 have d:∀j,6<=j->(s.cs lk' c)[j]?=(s.cs b c)[j]?:=λj d=>by rw[l,l];exact hlen j _ d
 refine⟨⟨⟨⟨by rw[l];exact r,by rw[d 14 D9];exact h.nd.mem.TX,by rw[d 15 D9];exact h.nd.mem.IZ,tZ h.nd.mem.own f D9,bT h.nd.mem.base x.size⟩,by rw[d 11 D9];exact h.nd.Mk,by rw[d 12 D9];exact h.nd.Ow,h.nd.qG.tk f D9 D9,tZ h.nd.chain f D9⟩,h.aP.tkc f D9 D9,h.tidy,h.idn,h.fT,h.gL,h.ph,h.link,h.L1,h.ids,h.tid,h.kc,h.wo,h.len,h.kl,h.wb,h.WW,h.mem,h.cok,h.low⟩,f⟩
def iJ.tk{b w w' nb d c s a}(h:iJ w nb d c s a)(x:Tk LB b 0 s.mb w w')(e:¬b 130)(f:¬b 298)(g:¬b 132)(i:¬b 135)(j:¬b 156)(k:¬b 192)(l:¬b 196):iJ w' nb d c s a:=⟨h.nd.ck x.ck e f g i j,h.aP.tkc x k l,h.tidy,h.idn,h.fT,h.gL,h.ph,h.link,h.L1,h.ids,h.tid,h.kc,h.wo,h.len,h.kl,h.wb,h.WW,h.mem,h.cok,h.low⟩
def vP.tk{a n gt mb w w' Q}(h:vP w gt Q)(x:Tk LB a n mb w w')(c:¬a 169)(d:¬a 139)(e:¬a 86):vP w' gt Q:=⟨h.row.tk x c,λq b=>(h.ins q b).tk x d,λq b=>(h.outs q b).tk x e⟩
def CH{w W mb x y}(R:Row W w.heap.size 37 [x,y])(u v)(b:LB<=w.heap.size):Row ((W.setCell (w.heap.size,0) (.int .i64 u)).setCell (w.heap.size,1) (.int .i64 v)) w.heap.size 37 [u,v]/\Tk LB (λt=>t=37) 0 mb W ((W.setCell (w.heap.size,0) u).setCell (w.heap.size,1) v)/\∀{a:TypeId->Prop} {n:Nat} {mb:Nat->Nat},Tk LB a n mb w W->Tk LB a n mb w ((W.setCell ((w:Nat),0) u).setCell ((w:Nat),1) v):=
 ⟨(R.set 0 ↑u).set 1 ↑v,(nz R _ b).trans (nz (R.set 0 _) _ b),λh=>(h.yf _ L9).yf _ L9⟩
def TC{b su h dH mem K st}(a:mem.length<=b):(dG b su h dH mem K st).2.2.length<=b:=by
 unfold dG;simp only;split;.exact a
 .cases dH with
  |nil=>exact a
  |cons x r=>
    simp only;split;.exact a
    .exact AP b _ _ a
def Yk(t:TypeId):Prop:=t=130\/t=132
def aav{w w' nb c y a b nw}(h:iJ w nb rz c y a)(g:kD w' y.B b (y.l++[nw]))(m:Row w' nb 130 ((y.cs rz c).set 11 b))(x:Xc (λk=>k=nb\/y.bv.ownBlock=some k) w w'):pX w' nb y.B c.me.toNat ((y.cs rz c).set 11 b) b y.mv y.gc y.kc y.cc (y.l++[nw]) y.L a.mem/\aU w' y.gs y.n y.sb y.mb a.K/\Tk a.lo Yk 0 y.mb w w':=by
 have d:Tk a.lo Yk 0 y.mb w w':=G8 x (by rintro k ⟨i,hi,_⟩;omega) (λk _ e=>by
  obtain e|e:=e;.subst e;exact .inr ⟨h.low.1,_,_,_,.inl rfl,h.nd.mem.row⟩
  .obtain⟨j,o,f⟩:=cP h.nd.qG.own e;exact .inr ⟨bT h.low.2.1 j,_,_,_,.inr rfl,f⟩)
 have p:=(eJ.1 h.nd.mem.TX).1;refine⟨⟨⟨m,?_,?_,tZ h.nd.mem.own d (by unfold Yk;decide),Nat.le_trans h.nd.mem.base x.size⟩,?_,?_,g,tZ h.nd.chain d (by unfold Yk;decide)⟩,h.aP.tkc d (by unfold Yk;decide) (by unfold Yk;decide),d⟩;.rw[uh D9];exact h.nd.mem.TX
 .trivial
 .grind
 .trivial
def Tidy.snoc{l nw}(h:Tidy l)(g:nw.a∉l.map pE.a)(n:∀p,nw.par=some p->∃y∈l,y.a=p/\y.bad=false)(o:nw.bad=true->nw.tv=sZ):Tidy (l++[nw]):=by
 refine⟨?_,λx c p k=>?_,λx c j=>?_⟩;.rw[sw,List.nodup_append];exact⟨h.nd,S8,λa i b d e=>by simp at d;subst d;subst e;exact g i⟩
 .obtain c|c:=kV.1 c;.obtain⟨z,m,f⟩:=h.par x c p k;exact⟨z,A2 _ m,f⟩
  .simp_all
 .obtain c|c:=kV.1 c;.exact h.tv x c j
  .simp_all
def LZ{l nw}(h:(l.map pE.id).Nodup)(a:nw.id∉l.map pE.id):((l++[nw]).map pE.id).Nodup:=by grind
def E1{w nb A d c y a nw}(h:iJ w nb d c y a)(g:(w:Nat)<=A)(i:nw.a=A):∀x∈y.l++[nw],a.lo<=x.a:=by
 have e:=h.low.1;have f:=h.nd.mem.row.lt;intro x b;obtain b|b:=kV.1 b;.exact h.low.2.2 x b
 .grind
def TD{w w' nb A N c y a g uB I tv j i m q o d f}(h:iJ w nb rz c y a)(s:↑w<=A)(hN:pX w' nb y.B c.me.toNat ((((y.cs rz c).set 11 g).set 15 uB).set 12 (.slice (some ⟨j,0,none⟩) (y.kc+1+1) i)) g uB j (y.kc+1) i (y.l++[EZ A I y.p N tv]) (y.L++[.pointer (some ⟨A,0,none⟩),.slice m q o]) f)(t:aU w' y.gs y.n y.sb y.mb d)(v:I∉a.ids)(O:a.ids.length≠49)(F:N<=8)(C:IY d)(E:f.length<=c.me.toNat):
 iJ w' nb rz c {y with gc:=j,kc:=y.kc+1,cc:=i,bv:=g,mv:=uB,l:=y.l++[EZ A I y.p N tv],L:=y.L++[.pointer (some ⟨A,0,none⟩),.slice m q o],p:=EZ A I y.p N tv} ⟨a.ids++[I],I,a.cB+1,a.wo+2^N,d,f,a.lo⟩:=by
 have k:(2:Int)^N=((2^N:Nat):Int):=by simp
 have r:2^N<=2^8:=Ph D9 F;have K:(0:Int)<=2^N:=by rw[k];exact FP _
 have M:(2:Int)^N<=256:=by rw[k];exact FN.2 r
 have G:A∉y.l.map pE.a:=λe=>by obtain⟨z,J,rfl⟩:=jV.1 e;have:=(h.nd.qG.row z J).lt;omega
 have hlen:=h.len;have P:=h.kl;have Q:=h.wb;have D:=h.nd.chain.1;refine⟨hN,t,h.tidy.snoc G (λp H=>⟨y.p,h.fT,kX H,h.gL⟩) (λe=>by simp[EZ]at e),LZ h.idn (by rw[h.ids];exact v),S8,rfl,?_,?_,?_,?_,rfl,?_,?_,?_,?_,?_,C,E,h.cok,h.low.1,h.low.2.1,show∀x∈y.l++[_],a.lo<=x.a from E1 h s rfl⟩;.show y.p.cB+1=((y.kc+1:Nat):Int);rw[h.ph];omega
 .show(y.L++_)[(y.kc+1)*2]?=some (.pointer A);rw[eZ O9];simp[D]
 .intro u b;obtain b|b:=kV.1 b;.exact h.L1 u b
  .simp only[gA,kF,kG]at b;obtain rfl|rfl:=b<;>rfl
 .rw[sw,h.ids];rfl
 .rw[h.kc]
 .show y.p.wo+2^N=a.wo+2^N;rw[h.wo]
 .grind
 .simp_all
 .grind
def Yf{w w' nb A N c y a d uB I tv b}(h:iJ w nb rz c y a)(f:↑w<=A)(hN:pX w' nb y.B c.me.toNat (((y.cs rz c).set 11 d).set 15 uB) d uB y.gc y.kc y.cc (y.l++[(EZ A I y.p N tv).spoilt]) y.L b)(g:aU w' y.gs y.n y.sb y.mb a.K)(i:I∉a.ids)(q:a.ids.length≠49)(j:b.length<=c.me.toNat):
 iJ w' nb rz c {y with bv:=d,mv:=uB,l:=y.l++[(EZ A I y.p N tv).spoilt]} {a with ids:=a.ids++[I],mem:=b}:=by
 have k:A∉y.l.map pE.a:=λe=>by obtain⟨z,o,rfl⟩:=jV.1 e;have:=(h.nd.qG.row z o).lt;omega
 have hlen:=h.len;have r:=h.kl;have s:=h.wb;refine⟨hN,g,h.tidy.snoc k (λp m=>⟨y.p,h.fT,kX m,h.gL⟩) (λ_=>rfl),LZ h.idn (by rw[h.ids];exact i),A2 _ h.fT,h.gL,h.ph,h.link,h.L1,?_,h.tid,h.kc,h.wo,?_,?_,?_,h.WW,j,h.cok,h.low.1,h.low.2.1,show∀x∈y.l++[_],a.lo<=x.a from E1 h f rfl⟩;.rw[sw,h.ids];rfl
 .grind
 .grind
 .grind
def yb{nb c a}(s w)(h:gB w nb c a)(bd:∀b,mZ s=some b->mk b.parent=a.fT):Calls aI.prog 11 #[ptr nb,(mk s)] w λe w'=>e=.returned (.tuple #[.agg #[aA,(fN c a s).1],(fN c a s).2.1])/\gB w' nb c (fN c a s).2.2/\Ck a.lo Y2 w w':=by
 obtain⟨y,o⟩:=h;have i:=aV w [aA,aA] 37;have B:Below w w (w.alloc (.cells #[aA,aA] 37)):=B0.alloc L9 _;have ed:=o.nd.mem.row.lt;have a0:a.lo<=(w:Nat):=by have:=o.low.1;omega
 unfold ptr;go_enter_defers aI.func11,Tryz.ntmps11;go_wp2_with fail;replace o:=o.keep B;generalize w.alloc (.cells #[aA,aA] 37)=X at i B o|-;refine(Yd s X).mono ?_;rintro e w1 ⟨E,⟨M,rfl⟩|⟨b,gt,Q,M,rfl,v,av,a2⟩⟩
 .have C:fN c a s=(0,1,a):=by unfold fN;rw[M]
  replace C:=aJ C;have J:Below w1 w1 (w1.alloc (.cells #[aB,aB,aA,()] 106)):=B0.alloc L9 _;replace i:=(i.keep E i.lt).keep J (eQ i.lt E.size);replace o:=(o.keep E).keep J;replace B:=(B.trans (E.mono B.size)).trans (J.mono (bT B.size E.size));have c0:(w1.alloc (.cells #[aB,aB,aA,()] 106)).cell? ((w:Nat),0)=some ↑aA:=i.cell 0;have c1:(w1.alloc (.cells #[aB,aB,aA,()] 106)).cell? ((w:Nat),1)=some ↑aA:=i.cell 1;have f0:=i.frozen 0;have f1:=i.frozen 1;have bo:=i.lt;unfold QT;go_wp2_with fail;generalize w1.alloc (.cells #[aB,aB,aA,()] 106)=Y at i o B|-;obtain⟨m,H,R⟩:=CH (LB:=a.lo) (mb:=y.mb) i 0 0 a0;have k:Tk a.lo Y2 0 y.mb w _:=R (zH B);replace o:=o.tk H D9 D9 D9 D9 D9 D9 D9;generalize(Y.setCell ⟨(w:Nat),0,none⟩ ↑aA).setCell ⟨(w:Nat),1,none⟩ ↑aA=F at m H k o|-;have k0:F.cell? ((w:Nat),0)=some ↑aA:=m.cell 0;have G:F.cell? ((w:Nat),1)=some ↑aA:=m.cell 1;exact⟨.tuple #[.agg #[aA,aA],aG],by simp[results,Tryz.results11,go_sem,k0,G],by rw[C.out],⟨y,by rw[C.out];exact o⟩,k.ck⟩
 .obtain⟨az,_⟩:=zo M;have ay:=(qy b).1 az;have cy:∃N:Nat,b.bits=(N:Int)/\N<=8:=⟨b.bits.toNat,O9,O9⟩;obtain⟨N,hN,bb⟩:=cy;have ab:b.bits.toNat=N:=O9;have a3:=bd b M;have hlen:Q.length=b.dH.length:=by have:=congrArg List.length av;simpa using this
  have bc:1<=Q.length/\Q.length<=8:=by have T:=(IE az).1;have bs:=ay.2.2.2.1;omega
  have af:=Aw M;rw[af,hN];generalize ag:mk ((ZT s).take 7++[jM s])=I;have J:Below w1 w1 (w1.alloc (.cells #[I,↑(mk b.parent),↑(N:Int),.slice gt Q.length Q.length] 106)):=B0.alloc L9 _;have RH:=aV w1 [I,↑(mk b.parent),↑(N:Int),.slice gt Q.length Q.length] 106;replace i:=(i.keep E i.lt).keep J (eQ i.lt E.size);replace o:=(o.keep E).keep J;replace B:=(B.trans (E.mono B.size)).trans (J.mono (bT B.size E.size));replace v:=v.keep J;have a4:Hid (fN c a s=if zB a c.bi s b≠0 then(0,zB a c.bi s b,a)else if(gS c a b).1=0 then(1,0,⟨a.ids++[iL s],iL s,a.cB+1,a.wo+2^b.bits.toNat,(gS c a b).2.1.K,(gS c a b).2.2,a.lo⟩)else(0,(gS c a b).1,{a with ids:=a.ids++[iL s],mem:=(gS c a b).2.2})):=by show _=_;unfold fN;rw[M]
  have b8:Hid (∀W,iJ W nb rz c y a->Calls aI.prog 37 #[.pointer nb,.agg #[I,↑(mk b.parent),↑(N:Int),.slice gt Q.length Q.length]] W λe w'=>e=.returned ↑(zB a c.bi s b)/\Below (W:Nat) W w'):=by
   intro W L;have eb:y.l.length<=49:=by have:=L.len;rw[<-L.ids,iB]at this;exact this
   have T:=LO (nb:=nb) (gt:=gt) (q:=Q.length) (c:=Q.length) ((ZT s).take 7) (jM s) (mk b.parent) N c.bi W L.nd.qG (by rw[L.nd.mem.row.cell];exact L.nd.Mk) (by rw[L.nd.mem.row.cell];rfl) O9 (aaV L.fT) bb (by rw[qd,Ip];decide);rw[ag,<-ab,aau L (t:=s) ay.2.1.1 a3 I (by rw[af,ag])]at T;rw[ab]at T;exact T
  replace ag:=aJ ag;replace af:=aJ af;replace a3:=aJ a3;replace hN:=aJ hN;replace ab:=aJ ab;replace hlen:=aJ hlen;replace av:=aJ av;replace M:=aJ M;replace ay:=aJ ay;replace az:=aJ az;replace bd:=aJ bd;go_wp2_with fail;generalize w1.alloc (.cells #[I,↑(mk b.parent),↑(N:Int),.slice gt Q.length Q.length] 106)=V at i RH o B v|-;clear J E;generalize(w1:Nat)=bh at RH|-;refine(Oi V o.row).mono ?_;rintro e w2 ⟨rfl,b6,br⟩;obtain⟨j,aj⟩:=o.shut rfl (lk':=rz) rfl br b6;have k:Tk a.lo Y2 y.n y.mb w w2:=(zH B).trans (aj.zero.mono (λt e=>.inl (.inl (.inl e))));replace i:=i.tk aj D9;replace RH:=RH.tk aj D9;replace v:=v.tk aj D9 D9 D9;clear o b6 br aj B;have k0:w2.cell? (bh,0)=some ↑I:=RH.cell 0;have G:w2.cell? (bh,1)=some ↑(mk b.parent):=RH.cell 1;have k2:w2.cell? (bh,2)=some ↑(N:Int):=RH.cell 2;have bk:w2.cell? (bh,3)=some (.slice gt Q.length Q.length):=RH.cell 3;have b9:=aJ (b8.out w2 j);go_wp2_with fail;refine b9.out.mono ?_;rintro e w3 ⟨rfl,μ⟩;replace i:=i.keep μ i.lt;replace RH:=RH.keep μ RH.lt;replace v:=v.keep μ;replace j:=j.keep μ;replace k:Tk a.lo Y2 y.n y.mb w w3:=k.trans (zH μ);clear b9 b8 k0 G k2 bk μ;by_cases u:zB a c.bi s b=0
  .have ca:Hid (fN c a s=if(gS c a b).1=0 then(1,0,⟨a.ids++[iL s],iL s,a.cB+1,a.wo+2^b.bits.toNat,(gS c a b).2.1.K,(gS c a b).2.2,a.lo⟩)else(0,(gS c a b).1,{a with ids:=a.ids++[iL s],mem:=(gS c a b).2.2})):=by have:=a4.out;rw[aX (by simpa using u)]at this;exact this
   have ae:iL s=I:=af.out.trans ag.out;have au:I∉a.ids/\a.ids.length≠49:=by
    rw[<-ae];unfold zB at u;refine⟨λe=>?_,λe=>?_⟩;.rw[bM (wE.2 e)]at u;cases u
    .split at u;.cases u
     .split at u;.cases u
      .split at u;.cases u
       .cases u
   have c7:jY y.l (mk b.parent)=some y.p:=by rw[a3.out,<-j.tid];exact AU y.l y.p j.idn j.fT
   have ea:y.l.length<=49:=by have:=j.len;rw[<-j.ids,iB]at this;exact this
   have b4:(0<=y.p.cB/\y.p.cB<=100000)/\(0<=y.p.wo/\y.p.wo<=100000000):=by have T:=j.ph;have bs:=j.kc;have cw:=j.kl;have du:=j.len;have dv:=j.wb;have dw:=j.wo;omega
   have ah:=XW (gt:=gt) (q:=Q.length) (c:=Q.length) I (mk b.parent) N y.p w3 j.nd.mem.row j.nd.Mk j.nd.qG c7 j.nd.mem.base O9 bb b4.1 b4.2;unfold ptr at ah;replace ah:=aJ ah;have k0:w3.cell? (bh,0)=some ↑I:=RH.cell 0;have G:w3.cell? (bh,1)=some ↑(mk b.parent):=RH.cell 1;have k2:w3.cell? (bh,2)=some ↑(N:Int):=RH.cell 2;have bk:w3.cell? (bh,3)=some (.slice gt Q.length Q.length):=RH.cell 3;rw[u];replace u:=aJ u;replace ae:=aJ ae;clear a4;go_wp2_with fail;refine ah.out.mono ?_;rintro e w4 ⟨A,dn,rfl,a8,bu,b7,cm⟩;obtain⟨P,bq,a5⟩:=aav j bu b7 cm;replace i:=i.tk a5 (by unfold Yk;decide);replace v:=v.tk a5 (by unfold Yk;decide) (by unfold Yk;decide) (by unfold Yk;decide);replace k:Tk a.lo Y2 y.n y.mb w w4:=k.trans (a5.zero.mono (λt e=>by obtain e|e:=e;exact .inl (.inl (.inl e));exact .inr e));clear ah k0 G k2 bk RH bu b7 cm a5;have b3:w4.cell? (A,3)=some ↑(y.p.wo+2^N):=(P.qG.row (EZ A I y.p N (.slice gt Q.length Q.length)) S8).cell 3;have cb:w4.cell? (y.p.a,3)=some ↑y.p.wo:=(P.qG.row y.p (by simp[j.fT])).cell 3;have Ow:w4.cell? (nb,12)=some (.slice y.gc (y.kc+1) y.cc):=by rw[P.mem.row.cell];exact P.Ow
   have cl:w4.cell? (y.gc,y.kc*2)=some (.pointer y.p.a):=by have:=P.chain.cells (g:=y.gc) rfl (y.kc*2) _ j.link;rwa [add0]at this
   have dx:y.kc<=49:=by have T:=j.kc;have bs:=j.kl;have cw:=j.len;omega
   go_wp2_with fail;have dj:=QV b3;have dk:=QV cb;have cd:∀d os,Calls aI.prog 39 #[.pointer nb] (Go.Sort.grow (redrawn w4 d) os) λe dm=>e=.returned (.pointer y.p.a)/\∃p:Regrown,dm=Go.Sort.grow (redrawn w4 p.d) p.os:=λd os=>Calls.regrown_of (Ho nb y.gc y.kc y.cc y.p.a _ (QV Ow d os) (QV cl d os) O9)
   refine wp_region_quiet_below Em K8 ?_;repeat(go_big_quiet_step (first|(go_at_call 39;exact cd _ _)))
   refine wpQuiet_nil ?_;intro _ dd;obtain⟨⟨a6,bm⟩,de⟩:=dd;subst de;have S:=below_regrown w4 a6 bm;have bx:decide (y.p.wo+2^N<=y.p.wo)=false:=by
    have cr:(2:Int)^N=((2^N:Nat):Int):=by simp
    have cu:0<2^N:=Nat.pow_pos D9;have dq:(0:Int)<2^N:=by rw[cr];exact Int.ofNat_lt.2 cu
    rw[O8];omega
   rw[bx];clear bx dj dk cd b3 cb Ow cl;have ar:=P.keep S;have ao:=bq.keep S;replace i:=i.keep S i.lt;replace v:=v.keep S;replace k:Tk a.lo Y2 y.n y.mb w (Go.Sort.grow (redrawn w4 a6) bm):=k.trans (zH S);clear P bq;generalize Go.Sort.grow (redrawn w4 a6) bm=π at ar ao i v k S|-;clear S;have cz:=QU j.cok;have bf:=j.ph;have c9:=j.kc;have dz:=j.kl;have ec:=j.len;have da:A∉y.l.map pE.a:=λe=>by obtain⟨z,di,rfl⟩:=jV.1 e;have:=(j.nd.qG.row z di).lt;omega
   have hgo:=Oy (p:=y.p) (su:=c.su) c.wk.toNat π ar rfl v a2 bc.1 bc.2 L9 ao (by rw[uh D9];show some (Value.int .i64 c.wk)=_;rw[Jh O9]) (by rw[uh D9];rfl) (by rw[uh D9];rfl) O9 cz.2.2.2.1 j.mem O9 j.WW j.tidy da j.fT rfl j.gL (by show y.p.cB+1=_;rw[bf];omega) bf j.link j.L1 O9 (by simp;omega) ⟨j.low.1,j.low.2.1⟩ (E1 j a8 rfl);have bz:dG c.me.toNat c.su (EZ A I y.p N (.slice gt Q.length Q.length)).cB (Q.map rD.t) a.mem a.K []=gS c a b:=by unfold gS;rw[av.out];congr 1;show y.p.cB+1=_;rw[bf,c9];omega
   rw[bz]at hgo;have c8:IY (gS c a b).2.1.K:=by rw[<-bz];exact(EW _ _ _ _ _ (by show y.p.cB+1<_;omega) j.WW (by rw[iB];exact bc.2) (λx dh=>by obtain⟨q,bg,rfl⟩:=jV.1 dh;exact⟨(a2 q bg).li,(a2 q bg).lo,(a2 q bg).so⟩)).1
   have b0:(gS c a b).2.2.length<=c.me.toNat:=TC j.mem;unfold ptr at hgo;replace hgo:=aJ hgo;go_wp2_with fail;refine hgo.out.mono ?_;rintro e O ⟨x6,⟨a9,rfl,C6,uB,dt,dp,ee,eg,ef,aa⟩|⟨a9,rfl,C6,uB,aa⟩⟩
   .have D:=TD j a8 aa C6 au.1 au.2 bb c8 b0;have C:Hid (fN c a s=(1,0,⟨a.ids++[I],I,a.cB+1,a.wo+2^N,(gS c a b).2.1.K,(gS c a b).2.2,a.lo⟩)):=by have:=ca.out;rw[bM a9,ae.out,ab.out]at this;exact this
    replace i:=i.tk x6 (BJ D9 D9 D9 D9 D9);replace k:Tk a.lo Y2 y.n y.mb w O:=k.trans (x6.mono (λt e=>.inl e));have c0:O.cell? ((w:Nat),0)=some ↑aA:=i.cell 0;have c1:O.cell? ((w:Nat),1)=some ↑aA:=i.cell 1;have f0:=i.frozen 0;have f1:=i.frozen 1;have bo:=i.lt;clear hgo aa C6 ar ao x6 v;go_wp2_with fail;obtain⟨m,H,R⟩:=CH (LB:=a.lo) (mb:=y.mb) i 0 1 a0;replace k:=R k;replace D:=D.tk H D9 D9 D9 D9 D9 D9 D9;generalize(O.setCell ⟨(w:Nat),0,none⟩ ↑aA).setCell ⟨(w:Nat),1,none⟩ ↑aG=F at m H k D|-;refine sy (f:=36) (args:=#[.pointer nb]) S8 (by simp[go_sem]) ?_;refine(vO .returning F D.row).mono ?_;rintro e cf ai ⟨rfl,rfl,bj,a7⟩;obtain⟨ba,ak⟩:=D.shut rfl (lk':=vt) rfl a7 bj;replace m:=m.tk ak D9;have bp:=k.trans (Tk.mono (Tk.zero ak) (λt e=>.inl (.inl (.inl e))));have k0:ai.cell? ((w:Nat),0)=some ↑aA:=m.cell 0;have G:ai.cell? ((w:Nat),1)=some ↑aG:=m.cell 1;exact⟨.tuple #[.agg #[aA,aG],aA],by simp[results,Tryz.results11,go_sem,k0,G],by rw[C.out],⟨_,by rw[C.out];exact ba⟩,bp.ck⟩
   .have D:=Yf j a8 aa C6 au.1 au.2 b0;have C:Hid (fN c a s=(0,(gS c a b).1,{a with ids:=a.ids++[I],mem:=(gS c a b).2.2})):=by have:=ca.out;rw[aX a9,ae.out]at this;exact this
    replace i:=i.tk x6 (BJ D9 D9 D9 D9 D9);replace k:Tk a.lo Y2 y.n y.mb w O:=k.trans (x6.mono (λt e=>.inl e));have c0:O.cell? ((w:Nat),0)=some ↑aA:=i.cell 0;have c1:O.cell? ((w:Nat),1)=some ↑aA:=i.cell 1;have f0:=i.frozen 0;have f1:=i.frozen 1;have bo:=i.lt;clear hgo aa C6 ar ao x6 v;go_wp2_with fail;obtain⟨m,H,R⟩:=CH (LB:=a.lo) (mb:=y.mb) i 0 0 a0;replace k:=R k;replace D:=D.tk H D9 D9 D9 D9 D9 D9 D9;generalize(O.setCell ⟨(w:Nat),0,none⟩ ↑aA).setCell ⟨(w:Nat),1,none⟩ ↑aA=F at m H k D|-;refine sy (f:=36) (args:=#[.pointer nb]) S8 (by simp[go_sem]) ?_;refine(vO .returning F D.row).mono ?_;rintro e cf ai ⟨rfl,rfl,bj,a7⟩;obtain⟨ba,ak⟩:=D.shut rfl (lk':=vt) rfl a7 bj;replace m:=m.tk ak D9;have bp:=k.trans (Tk.mono (Tk.zero ak) (λt e=>.inl (.inl (.inl e))));have k0:ai.cell? ((w:Nat),0)=some ↑aA:=m.cell 0;have G:ai.cell? ((w:Nat),1)=some ↑aA:=m.cell 1;exact⟨.tuple #[.agg #[aA,aA],↑(gS c a b).1],by simp[results,Tryz.results11,go_sem,k0,G],by rw[C.out],⟨_,by rw[C.out];exact ba⟩,bp.ck⟩
  .have C:Hid (fN c a s=(0,zB a c.bi s b,a)):=by have:=a4.out;rw[bM u]at this;exact this
   have dc:(zB a c.bi s b==0)=false:=by simpa using u
   have c0:w3.cell? ((w:Nat),0)=some ↑aA:=i.cell 0;have c1:w3.cell? ((w:Nat),1)=some ↑aA:=i.cell 1;have f0:=i.frozen 0;have f1:=i.frozen 1;have bo:=i.lt;generalize zB a c.bi s b=r at u dc C|-;clear a4;go_wp2_with fail;obtain⟨m,H,R⟩:=CH (LB:=a.lo) (mb:=y.mb) i 0 0 a0;replace k:=R k;replace j:=j.tk H D9 D9 D9 D9 D9 D9 D9;generalize(w3.setCell ⟨(w:Nat),0,none⟩ ↑aA).setCell ⟨(w:Nat),1,none⟩ ↑aA=F at m H k j|-;refine sy (f:=36) (args:=#[.pointer nb]) S8 (by simp[go_sem]) ?_;refine(vO .returning F j.row).mono ?_;rintro e cf cj ⟨rfl,rfl,db,cv⟩;obtain⟨cx,cq⟩:=j.shut rfl (lk':=vt) rfl cv db;replace m:=m.tk cq D9;replace k:=k.trans (cq.zero.mono (λt e=>.inl (.inl (.inl e))));have k0:cj.cell? ((w:Nat),0)=some ↑aA:=m.cell 0;have G:cj.cell? ((w:Nat),1)=some ↑aA:=m.cell 1;exact⟨.tuple #[.agg #[aA,aA],r],by simp[results,Tryz.results11,go_sem,k0,G],by rw[C.out],⟨y,by rw[C.out];exact cx⟩,k.ck⟩
end
end Go.Proofs.aH
namespace Go.Proofs.aH
open Go.RowKit
open Go.Il (lQ Ci)
attribute [local go_sem↓] Go.wp_at_zero Go.wp_at_succ
def an0(D:Nat):AN:=⟨[lM],lM,0,0,λ_=>none,[],D⟩
def fE{w B g size n t cs}(h:Row w g t cs)(a:cs.length=n*size)(b:B<=g)(c:n<=maxLen):w.ownsRow B t size (.slice g n n) n cs:=⟨a,.inr ⟨g,n,cs.toArray,rfl,b,h,L9,c,by simpa using a,by rw[<-a];simp⟩⟩
def IM{w gs n}(h:kA w gs n)(l:1<=n)(o:n<=16):∃sb mb,aU w gs n sb mb (λ_=>none):=by
 obtain⟨a,A,t,u,v⟩:=h.at_;have b:∀i,i<n->a[i]?=some (a.getD i 0):=λi hi=>by rw[CO,cN O9];rfl
 have d:∀i,i<n->∃m,a.getD i 0=m+1/\Row w (a.getD i 0) 196 (vw m)/\w.heap[m]?=some (.map #[] 0):=λi hi=>(v _ (eN (b i hi))).at_;refine⟨λi=>a.getD i 0,λi=>a.getD i 0 -1,?_,λi hi=>?_,λi hi=>?_,λp c f=>(by cases f),λi j hi k e=>?_,l,o⟩
 .have e:(List.range n).map (λi=>ptr (a.getD i 0))=a.map ptr:=by
   apply qf;intro i;by_cases hi:i<n;.simp_all
   .simp_all
  rw[e];exact u
 .grind
 .obtain⟨m,e,_,s⟩:=d i hi;have:a.getD i 0 -1=m:=O9;rw[this];refine⟨[],?_,λc r=>(by simp at r),λp c f=>(by cases f)⟩;exact⟨#[],0,s,rfl,λx g=>(by simp at g),⟨λx g=>(by simp at g),S8,S8⟩⟩
 .obtain⟨m,y,_⟩:=d i hi;obtain⟨B,z,_⟩:=d j k;have q:a[i]?=a[j]?:=by rw[b i hi,b j k];congr 1;omega
  exact(List.getElem?_inj O9 t).1 q
def Xl{D w b c}(h:Qb D w b c)(i:c.ok=true):gB w b c (an0 D):=by
 obtain⟨d,gb,gc,gs,n,f,q,r,s,t,g,e,l,m,o⟩:=h.at_;obtain⟨sb,mb,v⟩:=IM t g.1 g.2;have z:=QU i;refine⟨⟨D,gs,n,gc,0,1,sb,mb,.slice gb 1 1,↑(),[⟨d,lM,none,0,0,sZ,false⟩],[ptr d,↑()],⟨d,lM,none,0,0,sZ,false⟩⟩,⟨⟨⟨f,?_,rfl,iZ _ _ _ _,bT e (CP f.lt)⟩,rfl,rfl,⟨fE q rfl m D9,λx a=>?_⟩,fE (n:=1) r rfl o D9⟩,v,⟨S8,λx a p j=>?_,λx a y=>?_⟩,S8,S8,rfl,rfl,rfl,?_,rfl,rfl,rfl,rfl,(show(1:Nat)<=49 by decide),(show(0:Nat)+1<=1 by decide),(show(0:Int)<=0/\(0:Int)<=256*((1:Nat):Int)by decide),λp c j=>(by cases j),eX _,i,e,L9,λx a=>(by rw[gF.1 a];exact l)⟩⟩;.show some (Value.int .i64 c.me)=_;rw[Jh O9]
 .rw[gF.1 a];exact s
 .simp_all
 .simp_all
 .intro u k;simp at k;obtain rfl|rfl:=k<;>rfl
end Go.Proofs.aH
namespace Go.Proofs.aH
open Go.RowKit
attribute [local go_sem↓] Go.wp_at_zero Go.wp_at_succ
def gB.keep{w w' nb c a}(h:gB w nb c a)(b:Below w w w'):gB w' nb c a:=by obtain⟨s,h⟩:=h;exact⟨s,h.keep b⟩
def iJ.rlock{w w' nb c s a}(h:iJ w nb vt c s a)(r:Row w' nb 130 (sV++(c.cells++[s.bv,.slice (some ⟨s.gc,0,none⟩) (s.kc+1) s.cc,.slice (some ⟨s.gs,0,none⟩) s.n s.n,.int .i64 c.me,s.mv])))(e:w'=w.setCell (nb,4) (.int .i32 1)):iJ w' nb sV c s a/\Xc (λk=>k=nb) w w':=by
 have g:w.grownBy w' (some nb):=by rw[e];exact bO w (nb,4) _
 exact⟨(h.shut rfl (lk':=sV) rfl g r).1,⟨g.os,g.tape,g.output,g.size,λk b d=>g.block k b (λe=>d (by simpa using e))⟩⟩
def iJ.Ow{w nb b c s a}(h:iJ w nb b c s a):w.cell? (nb,12)=some (.slice s.gc (s.kc+1) s.cc):=by rw[h.nd.mem.row.cell];exact h.nd.Ow
def iJ.cl{w nb b c s a}(h:iJ w nb b c s a):w.cell? (s.gc,s.kc*2)=some (.pointer s.p.a):=by have:=h.nd.chain.cells (g:=s.gc) rfl (s.kc*2) _ h.link;rwa [add0]at this
def AN.NV(a:AN):Value:=.agg #[.string a.fT,.int .i64 (a.cB:Int),.int .i64 a.wo]
def L3{nb b c s a}(w)(h:iJ w nb b c s a):Calls aI.prog 46 #[.pointer nb] w λe w'=>e=.returned a.NV/\Below w w w':=by
 have:=XO nb s.gc s.kc s.cc s.p w h.Ow h.cl (by have d:=h.kc;have f:=h.kl;have g:=h.len;omega) (h.nd.qG.row s.p h.fT);rw[h.tid,h.wo,h.ph,h.kc]at this;exact this
def WB{nb c a}(w)(h:gB w nb c a):Calls aI.prog 22 #[ptr nb] w λe w'=>e=.returned a.NV/\Below w w w':=by
 obtain⟨s,d⟩:=h;have t:=d.row;have b:=aV w [aB,aA,aA] 55;have j:Below w.heap.size w (w.alloc (.cells #[aB,aA,aA] 55)):=B0.alloc L9 _;have l:=t.lt;unfold ptr;go_enter_defers aI.func22,Tryz.ntmps22;go_wp2_with fail;replace d:=d.keep j;generalize w.alloc (.cells #[aB,aA,aA] 55)=X at b j d|-;refine(AK X d.row).mono ?_;rintro e w2 ⟨rfl,q,u⟩;obtain⟨i,n⟩:=d.rlock q u;have o:Xc (λk=>k=nb\/False) w w2:=(jB j).trans n (λk _ e=>.inl e);replace b:=b.xc n (λe=>by omega);clear q u n j d;go_wp2_with fail;refine(L3 w2 i).mono ?_;rintro e w3 ⟨rfl,m⟩;replace o:=o.then m;replace b:=b.keep m b.lt;replace i:=i.keep m;have c0:w3.cell? ⟨w.heap.size,0,none⟩=some ↑aB:=b.cell 0;have c1:w3.cell? ⟨w.heap.size,1,none⟩=some ↑aA:=b.cell 1;have c2:w3.cell? ⟨w.heap.size,2,none⟩=some ↑aA:=b.cell 2;have f0:=b.frozen 0;have f1:=b.frozen 1;have f2:=b.frozen 2;unfold AN.NV;go_wp2_with fail;have p:Row (((w3.setCell ⟨w.heap.size,0,none⟩ a.fT).setCell ⟨w.heap.size,1,none⟩ (a.cB:Int)).setCell ⟨w.heap.size,2,none⟩ a.wo) w.heap.size 55 [a.fT,(a.cB:Int),a.wo]:=((b.set 0 a.fT).set 1 (a.cB:Int)).set 2 a.wo;have x:Xc (λk=>k=nb\/False) w (((w3.setCell ⟨w.heap.size,0,none⟩ a.fT).setCell ⟨w.heap.size,1,none⟩ (a.cB:Int)).setCell ⟨w.heap.size,2,none⟩ a.wo):=((o.setCell ⟨w.heap.size,0,none⟩ _ (λe=>absurd e (A1 _))).setCell ⟨w.heap.size,1,none⟩ _ (λe=>absurd e (A1 _))).setCell ⟨w.heap.size,2,none⟩ _ (λe=>absurd e (A1 _));have r:Row (((w3.setCell ⟨w.heap.size,0,none⟩ a.fT).setCell ⟨w.heap.size,1,none⟩ (a.cB:Int)).setCell ⟨w.heap.size,2,none⟩ a.wo) nb 130 _:=((i.row.aM ⟨w.heap.size,0,none⟩ a.fT (FU l)).aM ⟨w.heap.size,1,none⟩ (a.cB:Int) (FU l)).aM ⟨w.heap.size,2,none⟩ a.wo (FU l);generalize((w3.setCell ⟨w.heap.size,0,none⟩ a.fT).setCell ⟨w.heap.size,1,none⟩ (a.cB:Int)).setCell ⟨w.heap.size,2,none⟩ a.wo=F at p x r|-;refine sy (f:=44) (args:=#[.pointer (some ⟨nb,0,none⟩)]) S8 (by simp[go_sem]) ?_;refine(sW .returning F r).mono ?_;rintro e B w4 ⟨rfl,rfl,y,v⟩;have A:Xc (λk=>k=nb\/False) w w4:=by rw[v];exact x.setCell _ _ (λ_=>.inl rfl)
 have g:=p.aM ⟨nb,4,none⟩ (.int .i32 0) (T4 l);rw[<-v]at g;have k0:w4.cell? ⟨w.heap.size,0,none⟩=some a.fT:=g.cell 0;have z:w4.cell? ⟨w.heap.size,1,none⟩=some (a.cB:Int):=g.cell 1;have k2:w4.cell? ⟨w.heap.size,2,none⟩=some a.wo:=g.cell 2;exact⟨.agg #[a.fT,(a.cB:Int),a.wo],by simp[results,Tryz.results22,go_sem,k0,z,k2],rfl,(Ls A t y).low⟩
section
variable{LB:Nat}
def aI.TE:(aI.prog.info? 60).map (λi=>(i.zero,i.size,i.bytes))=some (some (.agg ()),6,64):=K8
def abA:=@aI.TE
def L4(n:Nat):List Value:=(madeCells #[aB,aA,aA,aB,aA,aF] (n*6)).toList
def Yg(n):(L4 n).length=n*6:=by unfold L4;rw[Array.length_toList,size_madeCells]
def acH(n:Nat)(h:n<=1000)(w):(Instr.makeSlice 53 (n:Int) (n:Int)).run aI.prog w=.ok (.slice (w:Nat) n n) (w.alloc (.cells (L4 n).toArray 60)):=by obtain⟨d,hi,a,b,c⟩:=info_parts abA;have:=uN (P:=aI.prog) w 53 60 d _ aI.underlying53 hi a .i64 .i64 (n:Int) (n:Int) O9 (nB _) (by rw[c];omega) O9;rw[this,b];simp[L4,Value.cells]
def vT:Option kO->List Value
 |none=>[↑aB,↑aA,↑aA,↑aB,↑aA,↑aF]
 |some c=>[.string c.tx,.int .i64 c.idx,.int .i64 c.val,.string c.lock,.int .i64 c.cB,↑aD]
def looked(K:mO)(l:List Pt):List Value:=l.flatMap λp=>vT (K p)
def Yh(l:List Pt):List Value:=l.flatMap λp=>[.string p.1,.int .i64 p.2]
def E2(o):∃a b d e f g,qE o=.agg #[.string a,.int .i64 b,.int .i64 d,.string e,.int .i64 f,.bool g]/\vT o=[.string a,.int .i64 b,.int .i64 d,.string e,.int .i64 f,.bool g]:=by cases o with
 |none=>exact⟨_,_,_,_,_,_,rfl,rfl⟩
 |some c=>exact⟨_,_,_,_,_,_,rfl,rfl⟩
def OA(K l):(looked K l).length=l.length*6:=by induction l with
 |nil=>rfl
 |cons p l a=>have e:looked K (p::l)=vT (K p)++looked K l:=rfl;obtain⟨_,_,_,_,_,_,_,h⟩:=E2 (K p);rw[e,h];simp;omega
def L5:∀l i p,l[i]?=some p->(Yh l)[i*2]?=some p.1/\(Yh l)[i*2+1]?=some (.int .i64 p.2)
 |[],i,x,h=>by simp at h
 |y::l,0,x,h=>by simp at h;subst h;exact⟨rfl,rfl⟩
 |y::l,i+1,x,h=>by have:=L5 l i x (by simpa using h);have e:Yh (y::l)=[.string y.1,.int .i64 y.2]++Yh l:=rfl;rw[e];simp only[show(i+1)*2=2+i*2 from by omega,show 2+i*2+1=2+(i*2+1)from by omega];rw[eZ S8,eZ S8];simpa using this
def s6W(w:World)(g o:Nat)(v0 v1 v2 v3 v4 v5:Value):World:=(((((w.setCell ⟨g,o,none⟩ v0).setCell ⟨g,o+1,none⟩ v1).setCell ⟨g,o+2,none⟩ v2).setCell ⟨g,o+3,none⟩ v3).setCell ⟨g,o+4,none⟩ v4).setCell ⟨g,o+5,none⟩ v5
def Yi{w g t A r d f i j k l}(h:Row w g t (A++d::f::i::j::k::l::r))(v0 v1 v2 v3 a b):Row (s6W w g A.length v0 v1 v2 v3 a b) g t (A++v0::v1::v2::v3::a::b::r):=by
 have c:=(((((h.set A.length v0).set (A.length+1) v1).set (A.length+2) v2).set (A.length+3) v3).set (A.length+4) a).set (A.length+5) b;have e:((((((A++d::f::i::j::k::l::r).set A.length v0).set (A.length+1) v1).set (A.length+2) v2).set (A.length+3) v3).set (A.length+4) a).set (A.length+5) b=A++v0::v1::v2::v3::a::b::r:=by simp
 rw[e]at c;exact c
def adS{w g o n mb t cs}(r:Row w g t cs)(v0 v1 v2 v3 a b):Tk 0 (λu=>u=t) n mb w (s6W w g o v0 v1 v2 v3 a b):=have z:=eX g;(nz r v0 z).trans ((nz (r.set o v0) v1 z).trans ((nz ((r.set o v0).set (o+1) v1) v2 z).trans ((nz (((r.set o v0).set (o+1) v1).set (o+2) v2) v3 z).trans ((nz ((((r.set o v0).set (o+1) v1).set (o+2) v2).set (o+3) v3) a z).trans (nz (((((r.set o v0).set (o+1) v1).set (o+2) v2).set (o+3) v3).set (o+4) a) b z)))))
def adT{S w w1}(h:Xc S w w1)(g o v0 v1 v2 v3 b c)(a:g<↑w->S g):Xc S w (s6W w1 g o v0 v1 v2 v3 b c):=(((((h.setCell (g,o) v0 a).setCell (g,o+1) v1 a).setCell (g,o+2) v2 a).setCell (g,o+3) v3 a).setCell (g,o+4) b a).setCell (g,o+5) c a
def abB(Q:Exit->Act->World->Prop):Exit->Act->World->Prop
 |.normal,a,w=>Q .normal a w
 |_,_,_=>False
def TF{P}{b:Code}{Q a w}(h:b.wp P (abB Q) a w):b.wp P Q a w:=Code.wp_mono (λe _ _ c=>by cases e with
  |normal=>exact c
  |_=>exact c.elim) h
def QA{nb N cl c a}(l w)(h:gB w nb c a)(ag:Row w N 48 (Yh l))(bs:∀p∈l,AB p)(bp:l.length<=1000):Calls aI.prog 14 #[ptr nb,.slice N l.length cl] w λe w'=>∃g,e=.returned (.tuple #[.slice (some ⟨g,0,none⟩) l.length l.length,a.NV])/\w<=g/\Row w' g 60 (looked a.K l)/\Below w w w':=by
 obtain⟨s,J⟩:=h;have aj:=J.row;have b:=aV w [aB,aA,aA] 55;have R:Below w w (w.alloc (.cells #[aB,aA,aA] 55)):=B0.alloc L9 _;have μ:=aj.lt;have cr:=ag.lt;have bj:N≠nb:=ag.ne aj D9;unfold ptr;go_enter_defers aI.func14,Tryz.ntmps14;go_wp2_with fail;replace J:=J.keep R;generalize w.alloc (.cells #[aB,aA,aA] 55)=X at b R J|-;refine(AK X J.row).mono ?_;rintro e w2 ⟨rfl,a8,ba⟩;obtain⟨x,au⟩:=J.rlock a8 ba;have y:Xc (λk=>k=nb\/False) w w2:=(jB R).trans au (λk _ e=>.inl e);replace b:=b.xc au (λe=>by omega);clear a8 ba au R J;have br:=acH l.length bp;have d:=aV w2 (L4 l.length) 60;have S:Below w2 w2 (w2.alloc (.cells (L4 l.length).toArray 60)):=B0.alloc L9 _;have a9:(w:Nat)<=(w2:Nat):=y.size;go_wp2_with fail;replace y:=y.then S;replace b:=b.keep S b.lt;replace x:=x.keep S;generalize(w2:Nat)=m at d a9|-;generalize w2.alloc (.cells (L4 l.length).toArray 60)=π at d y b x|-;clear br S;go_loopw [21] (λi wr=>∃(k:Nat) (rest:List Value),k<=l.length/\i=↑k/\Row wr m 60 (looked a.K (l.take k)++rest)/\rest.length=(l.length -k)*6/\iJ wr nb sV c s a/\Row wr ↑w 55 [aB,aA,aA]/\Xc (λk=>k=nb\/False) w wr) (λi _=>l.length -(intOf i).toNat);case atStart=>exact⟨0,L4 l.length,eX _,rfl,d,by rw[Yg];rfl,x,b,y⟩
 case round=>
  clear d x b y;obtain⟨k,rest,cu,rfl,d,u,x,b,y⟩:=hrel;by_cases a6:k<l.length;.match rest,u with
   |[],u=>simp at u;omega
   |[_],u=>simp at u;omega
   |[_,_],u=>simp at u;omega
   |[_,_,_],u=>simp at u;omega
   |[_,_,_,_],u=>simp at u;omega
   |[_,_,_,_,_],u=>simp at u;omega
   |W::y1::Y::y3::aa::ab::rest,u=>
     have T:=cN a6;have ak:l.take (k+1)=l.take k++[l[k]]:=by rw[uO a6]
     generalize l[k]=p at T ak;have a7:=bs p (eN T);obtain⟨a0,a2⟩:=L5 l k p T;have ah:=ag.xc y (λe=>by obtain e|e:=e;exact bj e;exact e);have c0:wr.cell? (N,k*2)=some ↑p.1:=by rw[ah.cell];exact a0
     have c1:wr.cell? (N,k*2+1)=some ↑p.2:=by rw[ah.cell];exact a2
     obtain⟨C,D,E,G,H,I,a3,a4⟩:=E2 (a.K p);have Q:(looked a.K (l.take k)).length=k*6:=by rw[OA,qd];omega
     have a5:Hid (looked a.K (l.take (k+1))=looked a.K (l.take k)++[.string C,.int .i64 D,.int .i64 E,.string G,.int .i64 H,.bool I]):=by show _=_;rw[ak];unfold looked;rw[List.flatMap_append,uR,List.flatMap_nil,nS,a4]
     have O:Below wr wr (wr.alloc (.cells #[↑p.1,↑p.2] 48)):=B0.alloc L9 _;have M:=aV wr [↑p.1,↑p.2] 48;replace d:=d.keep O d.lt;replace b:=b.keep O b.lt;replace x:=x.keep O;replace y:=y.then O;have cv:(0:Int)<=(k:Int):=O9;have cw:(k:Int)<(l.length:Int):=O9;replace Q:=aJ Q;replace u:=aJ u;clear T ak a0 a2 O ah a4;go_wp2_with fail;generalize wr.alloc (.cells #[↑p.1,↑p.2] 48)=V at d b x y M|-;generalize(wr:Nat)=az at M|-;have b6:V.cell? (az,0)=some ↑p.1:=M.cell 0;have b7:V.cell? (az,1)=some ↑p.2:=M.cell 1;have cx:V.cell? (nb,13)=some (.slice s.gs s.n s.n):=by rw[x.nd.mem.row.cell];rfl
     have af:Below V V V.drew:=bW B0;have bq:Calls aI.prog 45 #[.agg #[.slice s.gs s.n s.n],.agg #[↑p.1,↑p.2]] V.drew λe w'=>∃ar,e=.returned ar/\(ar=.agg #[C,D,E,G,H,.bool I]/\Below V V w'):=by refine(Hi p V.drew (x.aP.keep af) a7).mono ?_;rintro e w' ⟨rfl,z⟩;exact⟨_,rfl,a3,af.trans z⟩
     have bm:Hid (∀(bd:Array Value) (w:World),(callFunc 45 bd).run aI.prog w=.ok (.enter 45 bd) w):=λ_ _=>by kernel_rfl
     have fin:Hid (∀w',Below V V w'->Row w' m 60 (looked a.K (l.take k)++W::y1::Y::y3::aa::ab::rest)):=λw' z=>d.keep z d.lt;have bg:Hid (∀w',Below V V w'->Row (s6W w' m (k*6) ↑C ↑D ↑E ↑G ↑H (.bool I)) m 60 (looked a.K (l.take (k+1))++rest)/\iJ (s6W w' m (k*6) ↑C ↑D ↑E ↑G ↑H (.bool I)) nb sV c s a/\Row (s6W w' m (k*6) ↑C ↑D ↑E ↑G ↑H (.bool I)) ↑w 55 [aB,aA,aA]/\Xc (λk=>k=nb\/False) w (s6W w' m (k*6) ↑C ↑D ↑E ↑G ↑H (.bool I))):=by intro w' z;have r:=d.keep z d.lt;have t:=adS (o:=k*6) (n:=0) (mb:=s.mb) r ↑C ↑D ↑E ↑G ↑H (.bool I);refine⟨?_,(x.keep z).tk t D9 D9 D9 D9 D9 D9 D9,(b.keep z b.lt).tk t D9,adT (y.then z) m (k*6) _ _ _ _ _ _ (λe=>by omega)⟩;have bc:=Yi r ↑C ↑D ↑E ↑G ↑H (.bool I);rw[Q.out]at bc;rw[a5.out,kH];exact bc
     have bk:Hid (∀w',Row w' m 60 (looked a.K (l.take k)++W::y1::Y::y3::aa::ab::rest)->(w'.cell? (m,k*6)=some W/\w'.cell? (m,k*6+1)=some y1/\w'.cell? (m,k*6+2)=some Y/\w'.cell? (m,k*6+3)=some y3/\w'.cell? (m,k*6+4)=some aa/\w'.cell? (m,k*6+5)=some ab)):=by
      intro w' r;have q:∀j v,(W::y1::Y::y3::aa::ab::rest)[j]?=some v->w'.cell? (m,k*6+j)=some v:=λj v bz=>by rw[r.cell,<-Q.out,eZ O9,Um];exact bz
      exact⟨q 0 _ rfl,q 1 _ rfl,q 2 _ rfl,q 3 _ rfl,q 4 _ rfl,q 5 _ rfl⟩
     clear d b x y M af c0 c1 a3 a7 a5;refine TF ?_;go_region_law (refine iA 45 rfl _ _ rfl #[.agg #[.slice s.gs s.n s.n],.agg #[↑p.1,↑p.2]] E9 _ bq (bm.out _ _) ?_;rintro ar w3 ⟨rfl,L⟩;have B:=fin.out _ L;obtain⟨b8,b9,ca,cb,cd,cf⟩:=bk.out _ B;have f0:=B.frozen (k*6);have f1:=B.frozen (k*6+1);have f2:=B.frozen (k*6+2);have cj:=B.frozen (k*6+3);have cm:=B.frozen (k*6+4);have cq:=B.frozen (k*6+5);have c7:=B.lt;have A:=aJ (bg.out _ L));all_goals unfold abB
     all_goals go_wp2_with fail
     .go_roundw;case rel=>exact⟨k+1,rest,O9,by go_num,A.out.1,by have:=u.out;simp only[fH]at this;omega,A.out.2.1,A.out.2.2.1,A.out.2.2.2⟩
      case measure=>simp[intOf];omega
     .go_roundw;case rel=>exact⟨k+1,rest,O9,by go_num,A.out.1,by have:=u.out;simp only[fH]at this;omega,A.out.2.1,A.out.2.2.1,A.out.2.2.2⟩
      case measure=>simp[intOf];omega
  .have bo:k=l.length:=O9;subst bo;have bu:rest=[]:=se O9;subst bu;rw[nS,pN]at d;go_wp2_with fail;refine(L3 wr x).mono ?_;rintro e w3 ⟨rfl,L⟩;replace y:=y.then L;replace b:=b.keep L b.lt;replace d:=d.keep L d.lt;replace x:=x.keep L;have c0:w3.cell? ((w:Nat),0)=some ↑aB:=b.cell 0;have c1:w3.cell? ((w:Nat),1)=some ↑aA:=b.cell 1;have c2:w3.cell? ((w:Nat),2)=some ↑aA:=b.cell 2;have f0:=b.frozen 0;have f1:=b.frozen 1;have f2:=b.frozen 2;have cy:=b.lt;unfold AN.NV;go_wp2_with fail;have av:Row (((w3.setCell ((w:Nat),0) ↑a.fT).setCell ((w:Nat),1) ↑(a.cB:Int)).setCell ((w:Nat),2) ↑a.wo) ↑w 55 [↑a.fT,↑(a.cB:Int),↑a.wo]:=((b.set 0 ↑a.fT).set 1 ↑(a.cB:Int)).set 2 ↑a.wo;have bf:Xc (λk=>k=nb\/False) w (((w3.setCell ((w:Nat),0) ↑a.fT).setCell ((w:Nat),1) ↑(a.cB:Int)).setCell ((w:Nat),2) ↑a.wo):=((y.setCell ((w:Nat),0) _ (λe=>absurd e (A1 _))).setCell ((w:Nat),1) _ (λe=>absurd e (A1 _))).setCell ((w:Nat),2) _ (λe=>absurd e (A1 _));have ai:Row (((w3.setCell ((w:Nat),0) ↑a.fT).setCell ((w:Nat),1) ↑(a.cB:Int)).setCell ((w:Nat),2) ↑a.wo) nb 130 _:=((x.row.aM ((w:Nat),0) ↑a.fT (FU μ)).aM ((w:Nat),1) ↑(a.cB:Int) (FU μ)).aM ((w:Nat),2) ↑a.wo (FU μ);have ao:m≠(w:Nat):=d.ne b D9;have ae:Row (((w3.setCell ((w:Nat),0) ↑a.fT).setCell ((w:Nat),1) ↑(a.cB:Int)).setCell ((w:Nat),2) ↑a.wo) m 60 _:=((d.aM ((w:Nat),0) ↑a.fT ao).aM ((w:Nat),1) ↑(a.cB:Int) ao).aM ((w:Nat),2) ↑a.wo ao;generalize((w3.setCell ⟨(w:Nat),0,none⟩ ↑a.fT).setCell ⟨(w:Nat),1,none⟩ ↑(a.cB:Int)).setCell ((w:Nat),2) ↑a.wo=F at av bf ai ae|-;refine sy (f:=44) (args:=#[.pointer nb]) S8 (by simp[go_sem]) ?_;refine(sW .returning F ai).mono ?_;rintro e cz w4 ⟨rfl,rfl,bx,bb⟩;have b4:Xc (λk=>k=nb\/False) w w4:=by rw[bb];exact bf.setCell _ _ (λ_=>.inl rfl)
   have P:=av.aM (nb,4) (.int .i32 0) (T4 μ);have ay:=ae.aM (nb,4) (.int .i32 0) (ae.ne ai D9);rw[<-bb]at P ay;have k0:w4.cell? ((w:Nat),0)=some ↑a.fT:=P.cell 0;have b0:w4.cell? ((w:Nat),1)=some ↑(a.cB:Int):=P.cell 1;have k2:w4.cell? ((w:Nat),2)=some ↑a.wo:=P.cell 2;exact⟨.tuple #[.slice m l.length l.length,.agg #[↑a.fT,↑(a.cB:Int),↑a.wo]],by simp[results,Tryz.results14,go_sem,k0,b0,k2],m,rfl,a9,ay,(Ls b4 aj bx).low⟩
end
end Go.Proofs.aH
namespace Go.Proofs.aH
open Go.RowKit
open Go.Il (lQ Ci)
attribute [local go_sem↓] Go.wp_at_zero Go.wp_at_succ
def fO.none_{w m n i c}(h:fO w m n i (mO.put (λ_=>none) c))(hi:uI n c.pt≠i):∃cl,w.heap[m]?=some (.map #[] cl):=by
 obtain⟨C,⟨es,cl,a,j,k,l⟩,b,o⟩:=h;have:C=[]:=by cases C with
  |nil=>rfl
  |cons d C=>
    have f:=b d S8;unfold mO.put at f;by_cases e:d.pt=c.pt;.simp_all
    .simp_all
 have g:es=#[]:=by simp_all
 subst g;exact⟨cl,a⟩
def fO.one{w m n i c}(h:fO w m n i (mO.put (λ_=>none) c))(hi:uI n c.pt=i):∃e cl,w.heap[m]?=some (.map #[e] cl)/\e.val=c.v/\e.born<cl:=by
 obtain⟨C,⟨es,cl,r,f,E,s⟩,t,u⟩:=h;have p:=u c.pt c (by unfold mO.put;rw[if_pos rfl]) hi;have g:∀d∈C,d=c:=λd y=>by
  have:=(t d y).1;unfold mO.put at this;by_cases e:d.pt=c.pt;.simp_all
  .simp_all
 have q:(C.map kO.pt).Nodup:=by
  have o:=s.2.2;have j:es.toList.map (·.key)=(es.toList.map (λe=>(e.key,e.val))).map Prod.fst:=by rw[uS];rfl
  rw[j,f,uS]at o;have k:(Prod.fst∘AH)=uF∘kO.pt:=rfl;rw[k,<-uS]at o;exact List.Pairwise.of_map uF (λa b B e=>B (by rw[e])) o
 have x:C=[c]:=by match C,p,g,q with
  |[d],p,g,_=>rw[g d S8]
  |d::d'::D,p,g,q=>have j:=g d S8;have k:=g d' S8;subst j;simp[k]at q
 subst x;have A:es.size=1:=by have:=congrArg List.length f;simpa using this
 obtain⟨e,z⟩:∃e,es=#[e]:=⟨es[0],by apply Array.ext;simp[A];intro i r f;simp at f;subst f;rfl⟩;subst z;refine⟨e,cl,r,?_,s.1 e S8⟩;have:=congrArg (λl=>l.map Prod.snd) f;simpa[AH]using this
def xC{b m cl}(a k d w)(c:Row w b 196 (vw m))(g:w.heap[m]?=some (.map #[] cl)):Calls aI.prog 106 #[ptr b,.slice a k d] w λe w'=>e=.returned (.slice a k d)/\Below w w w':=by
 have r:m≠b:=by intro e;subst e;unfold Row at c;rw[g]at c;cases c
 unfold ptr;go_enter_defers aI.func106,Tryz.ntmps106;go_wp2_with fail;refine(AK w c).mono ?_;rintro e w1 ⟨rfl,n,p⟩;have q:Xc (λk=>k=b\/False) w w1:=by rw[p];exact(jO _ w).setCell ⟨b,4,none⟩ _ (λ_=>.inl rfl)
 have i:=(q.block m (cE g) (λe=>by obtain e|e:=e;exact r e;exact e)).trans g;have c6:w1.cell? ⟨b,6,none⟩=some (.map (some m)):=n.cell 6;have A:=run_range_map (P:=aI.prog) w1 194 _ _ m #[] cl aI.underlying194 i;have j:(w1.alloc (.mapIter (some m) cl #[] cl)).heap[w1.heap.size]?=some (.mapIter (some m) cl #[] cl):=uP w1 _;have l:(w1.alloc (.mapIter (some m) cl #[] cl)).heap[m]?=some (.map #[] cl):=by first|exact(heap_alloc_old w1 _ _ (cE i)).trans i|exact(heap_alloc_old w1 _ (cE i)).trans i
 have z:∀ty,(Instr.next (.pointer (some ⟨w1.heap.size,0,none⟩)) false ty).run aI.prog (w1.alloc (.mapIter (some m) cl #[] cl))=.ok (.tuple #[aF]) (w1.alloc (.mapIter (some m) cl #[] cl)):=λty=>by
  rcases run_next_at (P:=aI.prog) (w1.alloc (.mapIter (some m) cl #[] cl)) ty w1.heap.size m cl cl #[] #[] cl j l S8 L9 with h|⟨e,y,_⟩;.exact h.2
  .trivial
 clear j l p;go_wp2_with fail;go_loopw [1] (λo wr=>o=.slice a k d/\wr=w1.alloc (.mapIter (some m) cl #[] cl)) (λ_ _=>0);case atStart=>exact⟨rfl,rfl⟩
 case round=>
  obtain⟨rfl,rfl⟩:=hrel;go_wp2_with fail;have u:Row (w1.alloc (.mapIter (some m) cl #[] cl)) b 196 (sV++[.map (some m)]):=n.alloc _;have v:=q.alloc (.mapIter (some m) cl #[] cl);refine sy (f:=44) (args:=#[.pointer (some ⟨b,0,none⟩)]) S8 (by simp[go_sem]) ?_;refine(sW .returning _ u).mono ?_;rintro e B w4 ⟨rfl,rfl,s,t⟩;have x:Xc (λk=>k=b\/False) w w4:=by rw[t];exact v.setCell _ _ (λ_=>.inl rfl)
  exact⟨_,results_tmp rfl _ _ _,rfl,(Ls x c s).low⟩
def IP{B w ops rest o a Q}(k:o.guard=none)(s x)(q:o.op=.call {callee:=.builtin .append,args:=#[s,x],argTypes:=#[53,53]})(v)(n)(l)(t:a.eval s=v)(r:w.ownsRow B 60 6 v n l)
 (g c)(news)(p:news.length=1*6)(y:a.eval x=.slice g 1 c)(i:Row w g 60 news)(d:∀u∈news,u.oneCell'=true)(hlen:n<=100000)(f:B<=↑w)
 (h:∀b w',w'.ownsRow B 60 6 b (n+1) (l++news)->w.grownBy w' v.ownBlock->wpList aI.prog ops Q rest (a.put o.dst b) w'):wpList aI.prog ops Q (o::rest) a w:=by
 obtain⟨D,hi,z,A,C⟩:=info_parts abA;refine wpList_append_own_at _ k s x 53 q B 60 D _ 6 64 aI.underlying53 hi z A C rfl D9 v n l t r (g,0) 1 c news y p (λj u m=>by rw[add0,i.cell];exact m) d (by unfold maxLen;omega) O9 f ?_;intro b w' d e _ _;exact h b w' d e
def IQ{b m cl e}(c w)(j:Row w b 196 (vw m))(A:w.heap[m]?=some (.map #[e] cl))(ar:e.val=c.v)(N:e.born<cl):Calls aI.prog 106 #[ptr b,()] w λe w'=>∃v,e=.returned v/\w'.ownsRow w 60 6 v 1 (vT (some c))/\Below w w w':=by
 have ag:m≠b:=by intro e;subst e;unfold Row at j;rw[A]at j;cases j
 unfold ptr;go_enter_defers aI.func106,Tryz.ntmps106;go_wp2_with fail;refine(AK w j).mono ?_;rintro a8 w1 ⟨rfl,E,H⟩;have I:Xc (λk=>k=b\/False) w w1:=by rw[H];exact(jO _ w).setCell ⟨b,4,none⟩ _ (λ_=>.inl rfl)
 have p:w1.heap[m]?=some (.map #[e] cl):=(I.block m (cE A) (λe=>by obtain e|e:=e;exact ag e;exact e)).trans A;have c6:w1.cell? ⟨b,6,none⟩=some (.map (some m)):=E.cell 6;have aj:=run_range_map (P:=aI.prog) w1 194 _ _ m #[e] cl aI.underlying194 p;have a:(w1.alloc (.mapIter (some m) cl #[] cl)).heap[w1.heap.size]?=some (.mapIter (some m) cl #[] cl):=uP w1 _;have d:(w1.alloc (.mapIter (some m) cl #[] cl)).heap[m]?=some (.map #[e] cl):=by first|exact(heap_alloc_old w1 _ _ (cE p)).trans p|exact(heap_alloc_old w1 _ (cE p)).trans p
 have y:w1.heap.size=w.heap.size:=by rw[H];simp only[World.setCell,AZ]
 have i:Row (w1.alloc (.mapIter (some m) cl #[] cl)) b 196 (sV++[.map (some m)]):=E.alloc _;have n:Xc (λk=>k=b\/False) w (w1.alloc (.mapIter (some m) cl #[] cl)):=I.alloc _;clear H I E p;replace y:=aJ y;go_wp2_with fail;generalize w1.alloc (.mapIter (some m) cl #[] cl)=W at a d i n|-;generalize ak:w1.heap.size=r at a y|-;clear ak aj c6;go_loopw [1] (λo wr=>(o=.slice none 0 0/\wr=W)\/(∃g cap,o=.slice (some ⟨g,0,none⟩) 1 cap/\wr.ownsRow w.heap.size 60 6 (.slice (some ⟨g,0,none⟩) 1 cap) 1 (vT (some c))/\wr.heap[r]?=some (.mapIter (some m) cl #[e.born] cl)/\wr.heap[m]?=some (.map #[e] cl)/\Row wr b 196 (sV++[.map (some m)])/\Xc (λk=>k=b\/False) w wr)) (λo _=>abx o);case atStart=>exact .inl ⟨rfl,rfl⟩
 case round=>
  obtain⟨rfl,rfl⟩|⟨g,cap,rfl,ab,π,aa,F,a6⟩:=hrel
  .have l:∃V,(Instr.next (.pointer (some ⟨r,0,none⟩)) false 0).run aI.prog wr=.ok (.tuple #[aD,e.key,e.val]) V/\V.heap[r]?=some (.mapIter (some m) cl #[e.born] cl)/\V.heap[m]?=some (.map #[e] cl)/\Row V b 196 (sV++[.map (some m)])/\Xc (λk=>k=b\/False) w V:=by
    rcases run_next_at (P:=aI.prog) wr 0 r m cl cl #[] #[e] cl a d (by simpa using N) L9 with h|⟨L,C,T,R,ao⟩;.have:=h.1;simp[leftOf]at this
    .have af:L=e:=by simpa[leftOf]using C
     subst af;have D:T.heap=wr.heap:=by obtain h|h:=R<;>rw[h]<;>rfl
     have ah:m≠r:=by intro e;subst e;rw[a]at d;cases d
     have ae:b≠r:=by intro e;subst e;unfold Row at i;rw[a]at i;cases i
     have a4:Xc (λk=>k=b\/False) w T:=by obtain h|h:=R<;>rw[h];exact n;exact n.drew
     refine⟨_,ao,?_,?_,?_,a4.AG r _ (λe=>by have:=y.out;omega)⟩;.simp only[Go.ChangeMaps.setBlock,D];rw[OL (cE a)];rfl
     .simp only[Go.ChangeMaps.setBlock,D];rw[nA (gN ah)];exact d
     .unfold Row;simp only[Go.ChangeMaps.setBlock,D];rw[nA (gN ae)];exact i
   obtain⟨V,l,q,s,G,J⟩:=l;have O:=run_entry_at (P:=aI.prog) V r m cl #[] #[e] cl e q s S8 S8;rw[ar]at l O;clear a d i n;unfold kO.v at l O;have x:Below V.heap.size V ((V.alloc (.cells #[c.tx,c.idx,c.val,c.lock,c.cB,aD] 60)).alloc (.cells #[c.tx,c.idx,c.val,c.lock,c.cB,aD] 60)):=(B0.alloc L9 _).alloc S8 _;have K:=aV (V.alloc (.cells #[c.tx,c.idx,c.val,c.lock,c.cB,aD] 60)) [c.tx,c.idx,c.val,c.lock,c.cB,aD] 60;rw[bB]at K;have μ:((V.alloc (.cells #[c.tx,c.idx,c.val,c.lock,c.cB,aD] 60)).alloc (.cells #[c.tx,c.idx,c.val,c.lock,c.cB,aD] 60)).ownsRow w.heap.size 60 6 (.slice none 0 0) 0 []:=iZ _ _ _ _;have B1:w.heap.size<=((V.alloc (.cells #[c.tx,c.idx,c.val,c.lock,c.cB,aD] 60)).alloc (.cells #[c.tx,c.idx,c.val,c.lock,c.cB,aD] 60)).heap.size:=bT J.size x.size;have z:∀u∈[Value.string c.tx,c.idx,c.val,c.lock,c.cB,↑aD],u.oneCell'=true:=by intro u Q;simp only[gA,kF,kG]at Q;obtain rfl|rfl|rfl|rfl|rfl|rfl:=Q<;>rfl
   replace z:=aJ z;have fin:Hid (∀w3,((V.alloc (.cells #[c.tx,c.idx,c.val,c.lock,c.cB,aD] 60)).alloc (.cells #[c.tx,c.idx,c.val,c.lock,c.cB,aD] 60)).grownBy w3 (Value.slice none 0 0).ownBlock->w3.heap[r]?=some (.mapIter (some m) cl #[e.born] cl)/\w3.heap[m]?=some (.map #[e] cl)/\Row w3 b 196 (sV++[.map (some m)])/\Xc (λk=>k=b\/False) w w3):=by intro w3 Y;have t:Below V.heap.size V w3:=x.grown Y x.size (λk e=>by cases e);exact⟨(t.block r (cE q)).trans q,(t.block m (cE s)).trans s,G.keep t G.lt,J.then t⟩
   clear x q s G J;go_wp2_with (refine IP rfl _ _ rfl (.slice none 0 0) 0 [] E9 μ (V.heap.size+1) 1 [c.tx,c.idx,c.val,c.lock,c.cB,aD] rfl E9 K z.out O9 B1 ?_;intro v2 w3 M X;obtain⟨ay,av,au⟩:=cO M 0 rfl;subst au);go_roundw;case rel=>obtain⟨az,a0,a2,a3⟩:=fin.out _ X;exact .inr ⟨ay,av,rfl,M,az,a0,a2,a3⟩
   case measure=>exact Uy
  .have l:(Instr.next (.pointer (some ⟨r,0,none⟩)) false 0).run aI.prog wr=.ok (.tuple #[aF]) wr:=by
    rcases run_next_at (P:=aI.prog) wr 0 r m cl cl #[e.born] #[e] cl π aa (by simpa using N) L9 with h|⟨L,C,_⟩;.exact h.2
    .simp[leftOf]at C
   clear a d i n;go_wp2_with fail;refine sy (f:=44) (args:=#[.pointer (some ⟨b,0,none⟩)]) S8 (by simp[go_sem]) ?_;refine(sW .returning _ F).mono ?_;rintro e a9 w4 ⟨rfl,rfl,ai,S⟩;have a5:Xc (λk=>k=b\/False) w w4:=by rw[S];exact a6.setCell _ _ (λ_=>.inl rfl)
   refine⟨_,results_tmp rfl _ _ _,_,rfl,?_,(Ls a5 j ai).low⟩;rw[S];refine dY ab (λk a7 _ _ B=>(bO wr ⟨b,4,none⟩ _).block k (cE B) (λe=>?_));simp only[oC]at e;subst e;unfold Row at F;rw[F]at B;cases B
end Go.Proofs.aH
namespace Go.Proofs.aH
open Go.RowKit
attribute [local go_sem↓] Go.wp_at_zero Go.wp_at_succ
def aaw(w):Calls aI.prog 185 #[.int .u64 1] w λe w'=>e=.returned ↑aG/\w'=w:=by go_enter aI.func185,Tryz.ntmps185;go_wp2_with fail;go_ret;exact⟨K8,rfl⟩
def adU(w):Calls aI.prog 147 #[.int .u64 1] w λe w'=>e=.returned ↑aG/\w'=w:=by go_enter aI.func147,Tryz.ntmps147;go_wp2_with (go_at_call 185;refine(aaw _).mono ?_;rintro e w' ⟨rfl,rfl⟩);go_ret;exact⟨rfl,rfl⟩
def L6(v f w):Calls aI.prog 176 #[v,aA,aG,f] w λe w'=>e=.returned (.tuple #[])/\w'=w:=by
 go_enter aI.func176,Tryz.ntmps176;go_wp2_with fail;go_loopw [8] (λi wr=>i=↑aG/\wr=w) (λ_ _=>0);case atStart=>exact⟨rfl,rfl⟩
 case round=>go_wp2_with fail;go_end0;exact⟨rfl,rfl⟩
def adV(v f w):Calls aI.prog 146 #[v,aA,aG,aG,f] w λe w'=>e=.returned (.tuple #[])/\w'=w:=by
 go_enter aI.func146,Tryz.ntmps146;go_wp2_with fail;go_loopw [1,2,3] (λa b l wr=>a=↑aA/\b=↑aG/\l=↑aG/\wr=w) (λ_ _ _ _=>0);case atStart=>exact⟨rfl,rfl,rfl,rfl⟩
 case round=>obtain⟨rfl,rfl,rfl,rfl⟩:=hrel;go_wp2_with (go_at_call 176;refine(L6 _ _ _).mono ?_;rintro e w' ⟨rfl,rfl⟩);exact nC (v:=.tuple #[]) (Pm rfl _ _ _) rfl ⟨rfl,rfl⟩
def sort_1(a c f w):Calls aI.prog 107 #[.slice a 1 c,f] w λe w'=>e=.returned (.tuple #[])/\w'=w:=by go_enter aI.func107,Tryz.ntmps107;go_wp2_with (first|(go_at_call 147;refine(adU _).mono ?_;rintro e w' ⟨rfl,rfl⟩)|(go_at_call 146;refine(adV _ _ _).mono ?_;rintro e w' ⟨rfl,rfl⟩));go_end0;exact⟨rfl,rfl⟩
def aax{gs n sb mb}(c w)(h:aU w gs n sb mb (mO.put (λ_=>none) c)):Calls aI.prog 57 #[.agg #[.slice gs n n]] w λe w'=>∃v,e=.returned v/\w'.ownsRow w 60 6 v 1 (vT (some c))/\Below w w w':=by
 have B:Below w w (w.alloc (.cells #[.slice gs n n] 125)):=B0.alloc L9 _;have D:=zE n c.pt h.lo;obtain⟨m,f⟩:∃m,uI n c.pt=m:=⟨_,rfl⟩;rw[f]at D;have K:=h.hi;go_enter aI.func57,Tryz.ntmps57;go_wp2_with fail;go_loopw [3,9] (λl i wr=>∃k,k<=n/\i=k/\Below w w wr/\((k<=m/\l=())\/(m<k/\∃g cap,l=.slice (some ⟨g,0,none⟩) 1 cap/\wr.ownsRow w 60 6 (.slice (some ⟨g,0,none⟩) 1 cap) 1 (vT (some c))))) (λ_ i _=>n -(intOf i).toNat);case atStart=>exact⟨0,eX _,rfl,B,.inl ⟨eX _,rfl⟩⟩
 case round=>
  obtain⟨k,H,rfl,a,u⟩:=hrel;by_cases q:k<n
  .have I:(0:Int)<=(k:Int):=O9;have J:(k:Int)<(n:Int):=O9;have o:=h.keep a;have L:wr.cell? (gs,k)=some (.pointer (sb k,0)):=by rw[o.arr.cell];simp[q,ptr]
   have t:=o.sh k q;have s:=o.mp k q;obtain⟨p,rfl⟩|⟨p,g,cap,rfl,b⟩:=u
   .by_cases e:k=m
    .subst e;obtain⟨me,cl,x,y,z⟩:=s.one f;replace f:=aJ f;have A:=aJ (IQ c wr t x y z);unfold ptr at A;clear x y z;go_wp2_with fail;refine A.out.mono ?_;rintro e w1 ⟨v,rfl,b,d⟩;obtain⟨G,F,E⟩:=cO b 0 rfl;subst E;go_wp2_with fail;go_roundw;case rel=>exact⟨k+1,O9,by go_num,a.trans (d.mono a.size),.inr ⟨O9,G,F,rfl,om b a.size⟩⟩
     case measure=>simp[intOf];omega
    .obtain⟨cl,r⟩:=s.none_ (by rw[f];omega);have j:=aJ (xC none 0 0 wr t r);unfold ptr at j;go_wp2_with fail;refine j.out.mono ?_;rintro e w1 ⟨rfl,d⟩;go_wp2_with fail;go_roundw;case rel=>exact⟨k+1,O9,by go_num,a.trans (d.mono a.size),.inl ⟨O9,rfl⟩⟩
     case measure=>simp[intOf];omega
   .obtain⟨cl,r⟩:=s.none_ (by rw[f];omega);have j:=aJ (xC g 1 cap wr t r);unfold ptr at j;go_wp2_with fail;refine j.out.mono ?_;rintro e w1 ⟨rfl,d⟩;go_wp2_with fail;go_roundw;case rel=>exact⟨k+1,O9,by go_num,a.trans (d.mono a.size),.inr ⟨O9,g,cap,rfl,aY b d⟩⟩
    case measure=>simp[intOf];omega
  .have C:k=n:=O9;subst C;obtain⟨p,_⟩|⟨_,g,cap,rfl,b⟩:=u;.exact absurd p O9
   .go_wp2_with fail;refine(sort_1 _ _ _ _).mono ?_;rintro e w2 ⟨rfl,rfl⟩;go_wp2_with fail;go_ret;exact⟨_,rfl,b,a⟩
def SX{nb c a}(d w)(h:gB w nb c a)(z:a.K=mO.put (λ_=>none) d):Calls aI.prog 23 #[ptr nb] w λe w'=>∃v,e=.returned v/\w'.ownsRow w 60 6 v 1 (vT (some d))/\Below w w w':=by
 obtain⟨s,j⟩:=h;have u:=j.row;have L:=u.lt;unfold ptr;go_enter_defers aI.func23,Tryz.ntmps23;go_wp2_with fail;refine(AK w j.row).mono ?_;rintro e w2 ⟨rfl,r,o⟩;obtain⟨l,y⟩:=j.rlock r o;have E:Xc (λk=>k=nb\/False) w w2:=y.mono (λk e=>.inl e);have g:(w2:Nat)=(w:Nat):=by rw[o];simp
 have J:w2.cell? (nb,13)=some (.slice s.gs s.n s.n):=by rw[l.nd.mem.row.cell];rfl
 have p:=l.aP;rw[z]at p;have i:=aax d w2 p;rw[g]at i;replace i:=aJ i;replace g:=aJ g;clear o y r;go_wp2_with fail;refine i.out.mono ?_;rintro e w3 ⟨v,rfl,q,b⟩;have t:=l.row.keep (b.mono (oz g.out)) (by have:=g.out;omega);obtain⟨I,H,B⟩:=cO q 0 rfl;subst B;have C:=E.trans (S':=λ_=>False) ⟨b.os,b.tape,b.output,b.size,λk G _=>b.block k (by have:=g.out;omega)⟩ (λ_ _ e=>e.elim);go_wp2_with fail;refine sy (f:=44) (args:=#[.pointer nb]) S8 (by simp[go_sem]) ?_;refine(sW .returning _ t).mono ?_;rintro e M w4 ⟨rfl,rfl,A,x⟩;have D:Xc (λk=>k=nb\/False) w w4:=by rw[x];exact C.setCell _ _ (λ_=>.inl rfl)
 refine⟨_,results_tmp rfl _ _ _,_,rfl,?_,(Ls D u A).low⟩;rw[x];refine dY q (λk F _ _ m=>(bO w3 (nb,4) _).block k (cE m) (λe=>?_));simp only[oC]at e;subst e;rw[t]at m;cases m
end Go.Proofs.aH
