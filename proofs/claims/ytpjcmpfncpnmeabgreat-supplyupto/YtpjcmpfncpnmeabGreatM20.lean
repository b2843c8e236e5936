import Derived.LaidEqlPtr
import Derived.Laws.OwnMore
import Derived.Test.YtpjcmpfncpnmeabGreatM13
set_option linter.all false
set_option maxHeartbeats 16000000
set_option maxRecDepth 100000
namespace Go.Proofs.aH
open Go.RowKit
def dA.flip(s:dA):dA:=⟨s.kS,!s.FJ⟩
def lR(l:List dA):List dA:=l.reverse.map dA.flip
def FX(s l):lR (s::l)=lR l++[s.flip]:=by simp[lR]
def JI(l m):lR (l++m)=lR m++lR l:=by simp[lR]
def xz(l):(lR l).length=l.length:=by simp[lR]
def gG(K l m):goes K (l++m)=goes (goes K l) m:=by simp[goes]
def aci(K s):DK K s.flip=Ao K s:=by unfold DK Ao dA.flip;cases s.FJ<;>simp
def fH.left:∀{l m:List dA} {K:iR},fH K (l++m)->fH K l/\fH (goes K l) m
 |[],_,_,h=>⟨trivial,h⟩
 |_::_,_,_,h=>have q:=fH.left h.2;⟨⟨h.1,q.1⟩,q.2⟩
def acj{K s}(h:ok1 K s):ok1 (DK K s) s.flip:=by refine⟨h.1,?_⟩;unfold DK dA.flip;cases s.FJ<;>simp[iR.put,iR.take]
def UZ{K l}(h:fH K l):fH (goes K l) (lR l)/\goes (goes K l) (lR l)=K:=by induction l generalizing K with
 |nil=>exact⟨trivial,rfl⟩
 |cons s m b=>
   have⟨c,a⟩:=b h.2;rw[FX];show fH (goes (DK K s) m) _/\goes (goes (DK K s) m) _=K;refine⟨c.snoc ?_,?_⟩;.rw[a];exact acj h.1
   .rw[tQ,a,aci,adu h.1]
def JS.pre(p:List dA)(s:JS):JS:={s with steps:=p++s.steps}
def Nz(id h p):∀l sp s,kB id h l sp (s.pre p)=((kB id h l sp s).1,(kB id h l sp s).2.1,(kB id h l sp s).2.2.pre p)
 |[],sp,s=>rfl
 |x::r,sp,s=>by cases a:s.K (x.tx,x.idx)with
   |none=>rw[tO a,tO (s:=s.pre p) a]
   |some c=>rw[tN a,tN (s:=s.pre p) a,<-Nz id h p r _ _];simp[FO,JS.pre]
def IA(id h p):∀l i s,kM id h l i (s.pre p)=(kM id h l i s).pre p
 |[],i,s=>rfl
 |o::r,i,s=>by unfold kM;rw[<-IA id h p r _ _];simp[JS.pre]
def C5(x h p s):dO x h (s.pre p)=((dO x h s).1,(dO x h s).2.pre p):=by unfold dO;rw[IA];show(if anyM s.K x.id then _ else _)=_;split<;>rfl
def U0(x h su p s):jI x h su (s.pre p)=((jI x h su s).1,(jI x h su s).2.pre p):=by unfold jI;rw[C5];show(if eI x.outs>su+s.fX then _ else _)=_;split<;>rfl
def U1(x h p s):fE x h (s.pre p)=((fE x h s).1,(fE x h s).2.pre p):=by
 unfold fE;simp only;rw[Nz];split;.rfl
 .split;.rfl
  .exact C5 x h p {(kB x.id h x.ins 0 s).2.2 with fX:=(kB x.id h x.ins 0 s).2.2.fX+((kB x.id h x.ins 0 s).2.1 -eI x.outs)}
def FY(h p):∀l s,fP h l (s.pre p)=((fP h l s).1,(fP h l s).2.pre p)
 |[],s=>rfl
 |x::r,s=>by
   have e:=U1 x h p s;by_cases h0:(fE x h s).1=0;.rw[pN h0,pN (s:=s.pre p) (by rw[e];exact h0),e,FY h p r]
   .rw[pO h0,pO (s:=s.pre p) (by rw[e];exact h0),e]
def U2(a su h cS mem K p):bY a su h cS mem K p=((bY a su h cS mem K []).1,(bY a su h cS mem K []).2.1.pre p,(bY a su h cS mem K []).2.2):=by
 have e:fP h (cS.drop 1) ⟨K,p,0,[]⟩=((fP h (cS.drop 1) ⟨K,[],0,[]⟩).1,(fP h (cS.drop 1) ⟨K,[],0,[]⟩).2.pre p):=by rw[<-FY];simp[JS.pre]
 unfold bY;simp only;rw[e];split;.rfl
 .cases cS with
  |nil=>rfl
  |cons x r=>
    simp only;rw[U0];split;.rfl
    .rfl
open Go.Shelf Go.Seq Tryz
section
attribute [local go_sem] Oper.semAt_some
def vW.af0{w w' g tb gs n b l t m}(h:vW w g l)(q:g<=tb\/l<+:t)(c:bL w' tb gs n b (t++m))(o:Old b w w'):vW w' g l:=by
 have⟨cs,f,d⟩:=h.ty;by_cases e:b.ownBlock=some g
 .obtain⟨a,_⟩|⟨g',cap,cur,a,p,k,_⟩:=c.own.2;.rw[a]at e;cases e
  .rw[a]at e;cases e;obtain q|⟨r,rfl⟩:=q;.grind
   .refine⟨⟨_,_,k⟩,λi s hi=>?_⟩;have j:=c.own;rw[a]at j;exact FW j (by rw[iM,mG (cB.1 hi).1];exact hi)
 .have:=o g cs f d e;exact⟨⟨cs,f,this⟩,λi s hi=>(h.at_ i s hi).same (this.trans d.symm)⟩
structure rf(w:World)(tb gs n:Nat)(sb mb:Nat->Nat)(K0:iR)(va:Option Addr)(vc:Nat)(t l:List dA)(k:Nat)(W:World):Prop where
 bt:Row W w.heap.size 159 [ptr tb]
 bn:Row W (w.heap.size+1) 121 [.slice va l.length vc]
 aY:aQ W gs n sb mb (goes K0 (l.take (l.length -k)))
 iO:∃v',bL W tb gs n v' (t++lR (l.drop (l.length -k)))
 lie:l=[]\/∃g,va=some ⟨g,0,none⟩/\(g<=tb\/l<+:t)/\vW W g l
 x:Xo (Aq n mb tb) (tb+1) wR w W
def rf.own{w tb gs n sb mb K0 va vc t l}(z:∀i,i<n->mb i<↑w):OwnFrom (↑w+2) (rf w tb gs n sb mb K0 va vc t l):=by
 intro k W W' row h a hr;have c:∀r,row=some r->∃o:Obj,W.heap[r]?=some o/\o.isCells=false:=λr e=>(hr r e).2;have d:∀(g:Nat) (t:TypeId) (cs:List Value),Row W g t cs->Row W' g t cs:=λg t cs r=>lQ a c _ _ _ _ r;have x:Xc (λk=>row=some k) W W':=⟨a.os,a.tape,a.output,a.size,λk m v=>a.block k m (λe=>v e.symm)⟩;have p:∀(g:Nat) (t:TypeId) (cs:List Value),Row W g t cs->¬row=some g:=λg t cs r e=>by have⟨o,u,b⟩:=c g e;rw[r]at u;cases u;simp[Obj.isCells]at b
 refine⟨d _ _ _ h.bt,d _ _ _ h.bn,h.aY.xc x (p _ _ _ h.aY.arr) (λi hi=>p _ _ _ (h.aY.sh i hi)) (λi hi e=>?_),?_,?_,?_⟩;.grind
 .have⟨y,j⟩:=h.iO;exact⟨y,⟨d _ _ _ j.row,dH j.own (λk cs _ _ b=>(lQ a c _ _ _ _ b).trans b.symm)⟩⟩
 .obtain e|⟨g,e,q,hl⟩:=h.lie;.simp_all
  .have⟨cs,f,b⟩:=hl.ty;have:=lQ a c _ _ _ _ b;exact .inr ⟨g,e,q,⟨cs,f,this⟩,λi s hi=>(hl.at_ i s hi).same (this.trans b.symm)⟩
 .refine R6 h.x x (λk m e=>?_);have:=(hr _ e).1;omega
def Z2:=@rf.own
def rf.grown{w tb gs n sb mb K0 va vc t l}(a:∀i,i<n->mb i<↑w){k W}(h:rf w tb gs n sb mb K0 va vc t l k W)(o):rf w tb gs n sb mb K0 va vc t l k (W.alloc o):=Z2 a k W _ none h (Wa W o none) (λr e=>by cases e)
def rf.next{w W W' tb gs n sb mb K0 d va vc c t l k i s}(h:rf w tb gs n sb mb K0 va vc t l k W)(b:l[i]?=some s)(hi:i+k+1=l.length)(z:fH K0 l)(y:aQ W' gs n sb mb d)(j:d=Ao (goes K0 (l.take (i+1))) s)(a:bL W' tb gs n c (t++lR (l.drop (i+1))++[s.flip]))(C:Old c W W')(o:Xo (Aq n mb tb) (tb+1) wR W W'):rf w tb gs n sb mb K0 va vc t l (k+1) W':=by
 have⟨v0,p⟩:=h.iO;have f:l.length -(k+1)=i:=O9;have v:l.drop i=s::l.drop (i+1):=by have⟨B,A⟩:=cB.1 b;rw[xQ B,A]
 have u:t++lR (l.drop (i+1))++[s.flip]=t++lR (l.drop (l.length -(k+1))):=by rw[f,v,FX,iM]
 rw[u]at a;have m:∀(g:Nat) (t:TypeId) (cs:List Value),Row W g t cs->t≠195->t≠161->Row W' g t cs:=λg t cs r h1 h2=>r.xo o (λe=>by
  obtain e|e:=e;.exact h.aY.mE r e
  .exact r.ne p.row h2 e) (.inr h1)
 refine⟨m _ _ _ h.bt D9 D9,m _ _ _ h.bn D9 D9,?_,⟨c,a⟩,h.lie.imp id (λ⟨g,e,q,hl⟩=>⟨g,e,q,hl.af0 q a C⟩),qY h.x o⟩;rw[f];rw[BS b,tQ,adu (z.at_ b)]at j;rw[<-j];exact y
def ady{gs n tb sb mb K0 v t l}(va vc w)(V:aQ w gs n sb mb (goes K0 l))(O:bL w tb gs n v t)(π:fH K0 l)(hl:t.length+l.length<=100000)(ab:l=[]\/∃g,va=some ⟨g,0,none⟩/\(g<=tb\/l<+:t)/\vW w g l):Cv 70 #[ptr tb,.slice va l.length vc] w λe w'=>e=.returned (.tuple #[])/\aQ w' gs n sb mb K0/\(∃af,bL w' tb gs n af (t++lR l))/\Xo (Aq n mb tb) (tb+1) wR w w':=by
 have G:∀i,i<n->mb i<w.heap.size:=λi hi=>(V.mp i hi).lt;unfold ptr;refine CK (fA func70) rfl ?_;simp only[ntmps70,oJ,fG,jW,Nat.reduceAdd,Nat.reduceSub,QO,QP,QQ,Kv,vP,DU];go_wp2;refine(JC (.slice va l.length vc) ⟨va,_,vc,rfl⟩ _).mono ?_;rintro e w1 ⟨rfl,rfl⟩;go_wp2;have T:∃Rd,LK Fence.wide 2 Vp 126 #[.pointer (some ⟨w.heap.size+1,0,none⟩)] (Nr l.length (ZJ l)) l.length Rd/\∀k W,rf w tb gs n sb mb K0 va vc t l k W->Rd W:=by
  obtain rfl|⟨g,rfl,_,_⟩:=ab;.exact⟨_,UT _ vc va _,λk W h=>h.bn.cell 0⟩
  .refine⟨_,ZG _ g l.length vc (ZJ l) O9,λk W h=>⟨h.bn.cell 0,λi hi=>?_⟩⟩;have c:=bO hi;rw[Sn c];obtain rfl|⟨g',e,_,aj⟩:=h.lie;.simp at hi
   .cases e;exact aj.at_ i _ c
 have⟨Rd,T,ak⟩:=T;have y:Below w.heap.size w ((w.alloc (.cells #[.pointer (some ⟨tb,0,none⟩)] 159)).alloc (.cells #[.slice va l.length vc] 121)):=(B0.alloc L9 _).alloc S8 _;have I:((w.alloc (.cells #[.pointer (some ⟨tb,0,none⟩)] 159)).alloc (.cells #[.slice va l.length vc] 121)).heap.size=w.heap.size+2:=by simp
 have h0:rf w tb gs n sb mb K0 va vc t l 0 ((w.alloc (.cells #[.pointer (some ⟨tb,0,none⟩)] 159)).alloc (.cells #[.slice va l.length vc] 121)):=by
  refine⟨(aX w [ptr tb] 159).alloc _,Ar S8,?_,⟨v,?_⟩,?_,iN y⟩;.rw[QR,iB];exact V.keep y
  .rw[QR,Wb];show bL _ _ _ _ _ (t++[]);rw[nE];exact⟨O.row.keep y O.row.lt,aT O.own y⟩
  .obtain e|⟨g,e,q,hl⟩:=ab;.exact .inl e
   .have⟨cs,f,aa⟩:=hl.ty;have:=(y.block g (bF aa));exact .inr ⟨g,e,q,⟨cs,f,this.trans aa⟩,λi s hi=>(hl.at_ i s hi).same this⟩
 generalize(w.alloc (.cells #[.pointer (some ⟨tb,0,none⟩)] 159)).alloc (.cells #[.slice va l.length vc] 121)=X at y I h0|-;refine LL (gf:=126) (lb:=#[.pointer (some ⟨w.heap.size+1,0,none⟩)]) rfl (enters_of (fA func126) K8 rfl) T (λk=>rfl) (rf w tb gs n sb mb K0 va vc t l) (by rw[I];exact Z2 G) ak h0 (λk a' W=>∃a i s,l[i]?=some s/\i+k+1=l.length/\Row W a 195 s.cells/\a'={tmps:=#[.pointer (some ⟨tb,0,none⟩),.slice va l.length vc,.pointer (some ⟨w.heap.size,0,none⟩),undef,undef,.pointer (some ⟨a,0,none⟩),.slice va l.length vc,.func (.func 126) #[] #[.pointer (some ⟨w.heap.size+1,0,none⟩)],↑(i:Int),s.v,undef,undef,undef,undef,undef,undef,undef,undef,undef,undef,undef],defers:=[]}) ?assign ?ax ?body ?done
 case ax=>rintro k a' W C o o' ⟨a,i,s,h1,h2,j,z⟩ a2 ar au;exact⟨a,i,s,h1,h2,lQ (grownBy_putObj' W C o') (λr e=>by cases e;exact⟨o,ar,au⟩) _ _ _ _ j,z⟩
 case assign=>
  intro C k W av ao b B;obtain⟨i,hi⟩:∃i,i+k+1=l.length:=⟨l.length -k -1,O9⟩;have c:=bO (show i<l.length by omega);generalize l[i]=s at c;have p:Nr l.length (ZJ l) k=#[↑(i:Int),s.v]:=by unfold Nr;rw[show l.length -1 -k=i from by omega,Sn c]
  rw[p];have ai:=λa' W' h1 h2 j=>B a' W' h1 h2 j;clear B;unfold dA.v;gi_wp2;exact ai _ _ ((KeepsOthers.alloc _ _).from _) (b.grown G _) ⟨W.heap.size,i,s,c,hi,aX W s.cells _,rfl⟩
 case body=>
  rintro C k a' W ao b ⟨a,i,s,c,hi,R,rfl⟩;rw[I];have p:l.length -k=i+1:=O9;have A:=b.aY;rw[p,BS c,tQ]at A;have H:=π.at_ c;have⟨af,u⟩:=b.iO;rw[p]at u;have F:(t++lR (l.drop (i+1))).length<=100000:=by rw[bW,xz,Cc];omega
  have Q:∀i,i<n->mb i<w.heap.size+2:=λi hi=>by have:=G i hi;omega
  have ae:=R.r 6;have ay:W.cell? ⟨w.heap.size,0,none⟩=some (.pointer (some ⟨tb,0,none⟩)):=b.bt.cell 0;have c0:=R.r 0;have c1:=R.r 1;have c2:=R.r 2;have c3:=R.r 3;have c4:=R.r 4;have c5:=R.r 5;have S:=u.row;have fin:Hid (∀(J:iR) (v2:Value) (m:World),aQ m gs n sb mb J->J=Ao (goes K0 (l.take (i+1))) s->bL m tb gs n v2 (t++lR (l.drop (i+1))++[s.flip])->Old v2 W m->Xo (Aq n mb tb) (tb+1) wR W m->KeepsFrom (w.heap.size+2) W m/\rf w tb gs n sb mb K0 va vc t l (k+1) m):=λJ v2 m ag ah a3 a5 μ=>⟨ZI.mem (gs:=gs) (sb:=sb) (K:=K0) Q μ ⟨_,S⟩,b.next c hi π ag ah a3 a5 μ⟩
  have e2:goes K0 (l.take (i+1))=DK (goes K0 (l.take i)) s:=by rw[BS c,tQ]
  cases d:s.FJ with
  |true=>
    have P:Hid (Cv 93 #[.pointer (some ⟨tb,0,none⟩),.agg #[↑s.kS.tx,↑s.kS.idx]] W λe w'=>∃E,e=.returned E/\KeepsFrom (w.heap.size+2) W w'/\rf w tb gs n sb mb K0 va vc t l (k+1) w'):=by
     refine(FL s.kS.pt W A u H.1 F).mono ?_;rintro e w' ⟨h1,h2,⟨v2,j,z,-⟩,M⟩;refine⟨_,h1,?_⟩;have e3:DK (goes K0 (l.take i)) s s.kS.pt=some s.kS:=by unfold DK;rw[d];simp[iR.put]
     have L:s.flip=⟨s.kS,false⟩:=by unfold dA.flip;rw[d];rfl
     rw[e3]at j;exact fin.out _ _ _ h2 (by rw[e2];simp[Ao,d]) (by rw[L];exact j) z M
    rw[d]at ae;clear A H u S fin e2 b F Q p d R;gi_wp2;refine⟨trivial,(CallsIn.inRound C (callsIn_wide.2 P.out)).mono ?_⟩;rintro e w2 ⟨E,rfl,h1,h2⟩;gi_wp2;exact⟨h1,h2⟩
  |false=>
    have P:Hid (Cv 94 #[.pointer (some ⟨tb,0,none⟩),.agg #[↑s.kS.tx,↑s.kS.idx,↑s.kS.val,↑s.kS.lock,↑s.kS.aW,aD]] W λe w'=>∃E,e=.returned E/\KeepsFrom (w.heap.size+2) W w'/\rf w tb gs n sb mb K0 va vc t l (k+1) w'):=by
     refine(Il s.kS W A u H.1 (afT d) F).mono ?_;rintro e w' ⟨h1,h2,⟨v2,j,z,-⟩,M⟩;refine⟨_,h1,?_⟩;have L:s.flip=⟨s.kS,true⟩:=by unfold dA.flip;rw[d];rfl
     exact fin.out _ _ _ h2 (by rw[e2];simp[Ao,d]) (by rw[L];exact j) z M
    rw[d]at ae;clear A H u S fin e2 b F Q p d R;gi_wp2;refine⟨trivial,(CallsIn.inRound C (callsIn_wide.2 P.out)).mono ?_⟩;rintro e w2 ⟨E,rfl,h1,h2⟩;gi_wp2;exact⟨h1,h2⟩
 case done=>
  rintro D W Y b B;rw[I]at Y;have az:=b;have N:=Z2 (tb:=tb) (gs:=gs) (sb:=sb) (K0:=K0) (va:=va) (vc:=vc) (t:=t) (l:=l) G l.length W (W.putObj D (.deferred none)) (some D) b (grownBy_putObj' W D _) (λr e=>by cases e;exact⟨Y,_,B,rfl⟩);simp only[Exit.inBlock];refine wA B (yD (Kq rfl _ _ _) ⟨rfl,?_,?_,N.x⟩);.have:=N.aY;rw[sO]at this;exact this
  .have:=N.iO;rw[sO]at this;exact this
structure eJ where
 a:Nat
 st:List dA
 sa:Option Addr
 sc:Nat
def eJ.cells(x:eJ):List Value:=[.pointer (some ⟨x.a,0,none⟩),.slice x.sa x.st.length x.sc]
def eJ.v(x:eJ):Value:=.agg #[.pointer (some ⟨x.a,0,none⟩),.slice x.sa x.st.length x.sc]
def eK(l:List eJ):List Value:=l.flatMap eJ.cells
def eJ.At(w:World)(x:eJ):Prop:=x.st=[]\/∃g,x.sa=some ⟨g,0,none⟩/\vW w g x.st
def dN(l:List eJ):List dA:=l.flatMap eJ.st
def FZ(l):(eK l).length=l.length*2:=by induction l with
 |nil=>rfl
 |cons x l a=>have e:eK (x::l)=x.cells++eK l:=rfl;rw[e,bW,fG];show 2+_=_;omega
def sK(l m):eK (l++m)=eK l++eK m:=by simp[eK]
def qf(l m):dN (l++m)=dN l++dN m:=by simp[dN]
def uN:∀l i x,l[i]?=some x->(eK l)[i*2]?=some (.pointer x.a)/\(eK l)[i*2+1]?=some (.slice x.sa x.st.length x.sc)
 |[],i,x,h=>by simp at h
 |y::l,0,x,h=>by simp at h;subst h;exact⟨rfl,rfl⟩
 |y::l,i+1,x,h=>by have:=uN l i x (by simpa using h);have e:eK (y::l)=[.pointer (some ⟨y.a,0,none⟩),.slice y.sa y.st.length y.sc]++eK l:=rfl;rw[e];simp only[show(i+1)*2=2+i*2 from by omega,show 2+i*2+1=2+(i*2+1)from by omega];rw[dU S8,dU S8];simpa using this
def yT(l):∀u∈eK l,u.oneCell'=true:=by intro u a;have⟨s,_,h⟩:=List.mem_flatMap.1 a;simp[eJ.cells]at h;obtain rfl|rfl:=h<;>rfl
structure aeG(W:World)(g o:Nat)(x:eJ):Prop where
 c0:W.cell? ⟨g,o,none⟩=some (.pointer (some ⟨x.a,0,none⟩))
 c1:W.cell? ⟨g,o+1,none⟩=some (.slice x.sa x.st.length x.sc)
def F3(N:Nat)(st:Nat->eJ)(k:Nat):Array Value:=#[.int .i64 ((N -1 -k:Nat):Int),(st (N -1 -k)).v]
def aeH(Bn g o N c:Nat)(st:Nat->eJ)(W:World):Prop:=W.cell? ⟨Bn,0,none⟩=some (.slice (some ⟨g,o,none⟩) N c)/\∀i,i<N->aeG W g (o+i*2) (st i)
def U3(d g o N c)(st:Nat->eJ)(hN:N<=100000):LK Fence.wide 2 Vp 97 #[.pointer (some ⟨d,0,none⟩)] (F3 N st) N (aeH d g o N c st):=by
 intro l m W y f r h0;refine callsIn_of_wp (fA Tryz.func97) rfl trivial ?_ rfl;simp only[Tryz.ntmps97,oJ,fG,jW,Nat.reduceAdd,Nat.reduceSub,QO,QP,QQ,Kv,vP,DU];have w:=(f 0 W h0).1;gi_wp2;gi_loopw [3] (λp wr=>∃k:Nat,k<=N/\p=↑((N:Int) -1 -(k:Int))/\m k wr) (λp _=>(intOf p+1).toNat);case atStart=>exact⟨0,O9,S8,h0⟩
 case round=>
  obtain⟨k,z,rfl,b⟩:=hrel;by_cases t:k<N;.obtain⟨i,hi⟩:∃i,N=i+k+1:=⟨N -k -1,O9⟩;have a:(N:Int) -1 -(k:Int)=(i:Int):=O9;have e2:N -1 -k=i:=O9;have⟨x,h⟩:=f k wr b;have⟨c0,c1⟩:=h i O9;have⟨fn,tmps,assign,body,j,q⟩:=r k wr b t;unfold F3 eJ.v at j;rw[e2]at j;rw[a];have A:(i:Int)<(N:Int):=O9;have e3:=aL (show(i:Int) -1=(N:Int) -1 -((k+1:Nat):Int)from by omega);clear a e2 hi h;gi_wp2;refine q.mono ?_;rintro e u ⟨rfl,n⟩;gi_wp2;go_roundw;exact⟨k+1,O9,by rw[<-e3.out],n⟩;simp[intOf]
  .have s:k=N:=O9;subst s;have a:(k:Int) -1 -(k:Int)=-1:=O9;rw[a];gi_wp2;go_end0;exact⟨⟨_,rfl⟩,b⟩
end
attribute [local go_sem↓] Go.wp_at_zero Go.wp_at_succ
def GF(P:List Value)(i:Nat):List Value:=(List.range P.length).map λt=>if t<i\/P.length -i<=t then P.getD (P.length -1 -t) (.pointer none)else P.getD t (.pointer none)
def tR(P i):(GF P i).length=P.length:=by simp[GF]
def xA(P i t)(h:t<P.length):(GF P i)[t]?=if t<i\/P.length -i<=t then P[P.length -1 -t]? else P[t]?:=by
 unfold GF;rw[cW,List.getElem?_range h,dY];split;.grind
 .simp_all
def U4(P):GF P 0=P:=by
 apply kI;intro t;by_cases h:t<P.length;.rw[xA P 0 t h,aS O9]
 .rw[pC (by rw[tR];omega),pC O9]
def Z3(P i)(h:P.length<=2*i+1):GF P i=P.reverse:=by
 apply kI;intro t;by_cases a:t<P.length
 .rw[xA P i t a,GZ a];by_cases c:t<i\/P.length -i<=t;.simp_all
  .grind
 .rw[pC (by rw[tR];omega),pC (by rw[zj];omega)]
def U5(P i j)(e:i+j+1=P.length)(h:i<j){x y}(b:P[i]?=some x)(d:P[j]?=some y):((GF P i).set i y).set j x=GF P (i+1):=by
 apply kI;intro t;by_cases a:t<P.length
 .rw[xA P (i+1) t a];by_cases c1:t=j;.subst c1;rw[QN (by rw[Kt,tR];exact a),bE O9,<-b];congr 1;omega
  .rw[sV (gA c1)];by_cases c2:t=i;.subst c2;rw[QN (by rw[tR];exact a),bE O9,<-d];congr 1;omega
   .rw[sV (gA c2),xA P i t a];by_cases c:t<i\/P.length -i<=t;.grind
    .grind
 .rw[pC (by rw[Kt,Kt,tR];omega),pC (by rw[tR];omega)]
def NA{B g c}(P w)(h:w.ownsRow B 114 1 (.slice g P.length c) P.length P)(s:∀u∈P,∃a,u=.pointer a)(hl:P.length<=1000)(o:B<=g):Cv 96 #[.slice (some ⟨g,0,none⟩) P.length c] w λe w'=>e=.returned (.tuple #[])/\w'.ownsRow B 114 1 (.slice g P.length c) P.length P.reverse/\Below B w w':=by
 go_enter fA Tryz.func96,Tryz.ntmps96;go_wp2;go_loopw [2,3] (λi j wr=>∃k:Nat,2*k<=P.length+1/\i=↑k/\j=↑((P.length:Int) -1 -k)/\wr.ownsRow B 114 1 (.slice g P.length c) P.length (GF P k)/\Below B w wr) (λi _ _=>P.length -(intOf i).toNat);exact⟨0,O9,rfl,S8,by rw[U4];exact h,B0⟩;case round=>
  obtain⟨k,H,rfl,rfl,b,r⟩:=hrel;by_cases I:2*k+1<P.length
  .obtain⟨j,A⟩:∃j,k+j+1=P.length:=⟨P.length -k -1,O9⟩;have t:(P.length:Int) -1 -(k:Int)=(j:Int):=O9;have m:=bO (show k<P.length by omega);have n:=bO (show j<P.length by omega);have⟨d,D⟩:=s _ (sW (show k<P.length by omega));have⟨f,E⟩:=s _ (sW (show j<P.length by omega));rw[D]at m;rw[E]at n;have q0:wr.cell? (g,k)=some (.pointer d):=by rw[b.cellAt k O9,xA P k k O9,aS O9];exact m
   have O:wr.cell? (g,j)=some (.pointer f):=by rw[b.cellAt j O9,xA P k j O9,aS O9];exact n
   have f0:=b.frozenAt k;have f1:=b.frozenAt j;have G:=(b.lt g rfl).2;have C:=aL (U5 P k j A O9 m n);have x:=aL ((b.stored k (.pointer f)).1.stored j (.pointer d)).1;have y:=aL ((r.setCell (p:=(g,k)) o (.pointer f)).setCell (p:=(g,j)) o (.pointer d));rw[t];have i0:(0:Int)<=(k:Int):=O9;have J:(k:Int)<(P.length:Int):=O9;have L:(0:Int)<=(j:Int):=O9;have M:(j:Int)<(P.length:Int):=O9;have K:(k:Int)<(j:Int):=O9;have F:k≠j:=O9;go_wp2;have N:j≠k:=λe=>F e.symm;go_region;have q:=x.out;rw[C.out]at q;have l:(((wr.setCell (g,k) (.pointer f)).setCell (g,j) (.pointer d)).drew).ownsRow B 114 1 (.slice g P.length c) P.length (GF P (k+1)):=q;have z:=cM y.out;have v:Hid ((j:Int) -1=(P.length:Int) -1 -((k+1:Nat):Int)):=by unfold Hid;omega
   replace l:=aL l;go_wp2;go_roundw;exact⟨k+1,O9,by go_num,by rw[<-v.out],l.out,z⟩;simp[intOf];omega
  .rw[Z3 P k O9]at b;go_wp2;go_end0;exact⟨rfl,b,r⟩
def P4(nb a gc len c k w)(h1:w.cell? (nb,12)=some (.slice (some ⟨gc,0,none⟩) len c))(h2:w.cell? (a,2)=some ↑(k:Int))(hl:len<=k):Cv 95 #[.pointer (some ⟨nb,0,none⟩),.pointer (some ⟨a,0,none⟩)] w λe w'=>e=.returned ↑aF/\Below w w w':=by
 obtain⟨d,rfl⟩:∃d,k=len+d:=⟨k -len,O9⟩;have b:decide ((len:Int)+(d:Int)<(len:Int))=false:=kU O9;go_enter fA func95,ntmps95;go_wp2;go_quiet (fail);go_wp2;go_ret;exact⟨rfl,gD B0⟩
def U6{w a b d cb}(h:a≠b)(f:Row w a 117 d)(g:Row w b 117 cb)(W)(c:W.heap=w.heap):(binOp .eql 114 (.pointer a) (.pointer b)).run Vp W=.ok ↑aF W:=by have⟨i,hi,j⟩:=GN.1 adv;exact run_eql_ptr_other W aI.underlying114 hi (by rw[j];decide) (λe=>h (by injection e)) (by rw[c];exact f) (by rw[c];exact g)
def P5(nb a b gc len c k:Nat)(cb cp w)(h1:w.cell? (nb,12)=some (.slice gc len c))(h2:w.cell? (a,2)=some ↑(k:Int))(h:w.cell? (gc,k*2)=some (.pointer b))(f:b≠a)(d:Row w a 117 cb)(g:Row w b 117 cp)(j:k<len)(hl:len<=1000):Cv 95 #[.pointer nb,.pointer a] w λe w'=>e=.returned ↑aF/\Below w w w':=by
 have i:=λn=>U6 f g d (w.drewN n) rfl;go_enter fA func95,ntmps95;go_wp2;go_quiet (fail);go_wp2;go_ret;exact⟨rfl,gD B0⟩
def U7(x:kF):Value:=.pointer (some ⟨x.a,0,none⟩)
def sliceLen:Value->Nat
 |.slice _ n _=>n
 |_=>0
def U8(nb gc len c)(l:List kF)(t:List Nat)(b q u w)(h1:w.cell? (nb,12)=some (.slice (some ⟨gc,0,none⟩) len c))(ao:t.length=len)(hlen:len<=1000)(O:∀i a,t[i]?=some a->w.cell? (gc,i*2)=some (.pointer (some ⟨a,0,none⟩))/\∃x∈l,x.a=a)(hr:∀x∈l,Row w x.a 117 x.cells/\0<=x.aW)
 (h0:(u++[q])[0]?=some b)(J:∀k x,u[k]?=some x->x∈l/\∃y,(u++[q])[k+1]?=some y/\x.par=some y.a)(ae:∀x∈u,t[x.aW.toNat]?≠some x.a)(az:q∈l)(hq:t[q.aW.toNat]?=some q.a)(ba:0<u.length)(bb:u.length<=1000):
 Cv 71 #[.pointer (some ⟨nb,0,none⟩),.pointer b.a] w λe w'=>∃g c,e=.returned (.slice (some ⟨g,0,none⟩) u.length c)/\w'.ownsRow w 114 1 (.slice (some ⟨g,0,none⟩) u.length c) u.length (u.reverse.map U7)/\Below w w w':=by
 have D:∀x∈u,x∈l->∀W,Below w w W->Cv 95 #[.pointer nb,.pointer x.a] W λe w'=>e=.returned ↑aF/\Below (W:Nat) W w':=by
  intro x f L W d;have⟨r,hh⟩:=hr x L;have⟨k,o⟩:=Cb hh;have N:w.cell? (x.a,2)=some ↑(k:Int):=by rw[<-o];exact r.cell 2
  have ab:=ae x f;rw[o,vJ]at ab;by_cases H:k<len;.have aa:=bO (show k<t.length by omega);have⟨c3,y,j,a7⟩:=O k _ aa;have μ:=(hr y j).1;rw[a7]at μ;exact P5 nb x.a _ gc len c k _ _ W (aV d h1) (aV d N) (aV d c3) (λe=>ab (by rw[aa,e])) (r.keep d r.lt) (μ.keep d μ.lt) H hlen
  .exact P4 nb x.a gc len c k W (aV d h1) (aV d N) O9
 have G:∀W,Below w w W->Cv 95 #[.pointer nb,.pointer q.a] W λe w'=>e=.returned ↑aD/\Below (W:Nat) W w':=by
  intro W d;have⟨r,hh⟩:=hr q az;have⟨k,o⟩:=Cb hh;have N:w.cell? (q.a,2)=some ↑(k:Int):=by rw[<-o];exact r.cell 2
  rw[o,vJ]at hq;have H:=(cB.1 hq).1;exact Nt nb q.a gc len c k W (aV d h1) (aV d N) (aV d (O k _ hq).1) O9 hlen
 have E:∀k x y,u[k]?=some x->(u++[q])[k+1]?=some y->w.cell? (x.a,1)=some (.pointer y.a):=by intro k x y f j;have⟨L,bc,af,ay⟩:=J k x f;rw[j]at af;cases af;have:w.cell? (x.a,1)=some (.pointer (x.par.map λp=>⟨p,0,none⟩)):=(hr x L).1.cell 1;rw[ay]at this;exact this
 have F:=λk x f=>(J k x f).2;have s:=λk x f=>(J k x f).1;have A:∀x∈l,x.a<(w:Nat):=λx f=>(hr x f).1.lt;clear ao O hr ae hq J h1;change Hid _ at D G E s F A h0;go_enter fA Tryz.func71,Tryz.ntmps71;go_wp2;go_loopw [5,6] (λM cur wr=>∃(k:Nat) (x:kF),k<=u.length/\(u++[q])[k]?=some x/\cur=.pointer x.a/\sliceLen M=k/\wr.ownsRow ↑w 114 1 M k ((u.take k).map U7)/\Below w w wr) (λM _ _=>u.length -sliceLen M);exact⟨0,b,eX _,h0.out,rfl,rfl,mN _ _ _ _,B0⟩;case round=>
  obtain⟨k,x,o,f,rfl,a8,h,d⟩:=hrel;by_cases H:k<u.length
  .have n:u[k]?=some x:=by rw[mG H]at f;exact f
   have⟨y,j,_⟩:=F.out k x n;have π:=E.out k x y n j;obtain⟨va,vc,rfl⟩:=bD h;have C:=aL (D.out x (cQ n) (s.out k x n) wr d);have L:=A.out x (s.out k x n);have Q:(u.take (k+1)).map U7=(u.take k).map U7++[.pointer (some ⟨x.a,0,none⟩)]:=by rw[zl,n];simp[U7]
   change Hid _ at Q j;clear D G E F s A f n h0;go_wp2;refine C.out.m1 λw1 m=>?_;replace d:=d.trans (m.mono d.size);have c1:=aV d π;have ah:=aX w1 [.pointer x.a] 114;have V:(w1.alloc (.cells [.pointer (some ⟨x.a,0,none⟩)].toArray 114)).ownsRow ↑w 114 1 (.slice va k vc) k ((u.take k).map U7):=oL (aT h m) _;have B1:(w:Nat)<=(w1.alloc (.cells [.pointer (some ⟨x.a,0,none⟩)].toArray 114)).heap.size:=by rw[bJ];have:=d.size;omega
   have Y:Below w w (w1.alloc (.cells [.pointer (some ⟨x.a,0,none⟩)].toArray 114)):=d.alloc d.size _;have fin:Hid (∀w2,(w1.alloc (.cells [.pointer (some ⟨x.a,0,none⟩)].toArray 114)).grownBy w2 (Value.slice va k vc).ownBlock->Below w w w2):=λw2 g=>BU Y V g;have av:k<=100000:=O9;clear m Y C h;go_wp2_with (refine Au rfl _ _ rfl (.slice va k vc) k ((u.take k).map U7) E9 V ↑x.a (w1:Nat) E9 ah av B1 ?_;intro v1 w3 X ai l1;obtain⟨S,R,K⟩:=cO X k rfl;subst K;have ag:=fin.out _ ai;have bd:w3.cell? (x.a,1)=some (.pointer y.a):=aV ag π);go_roundw;exact⟨k+1,y,O9,j.out,rfl,rfl,by rw[Q.out];exact X,ag⟩;simp[sliceLen];omega
  .have au:k=u.length:=O9;subst au;have a6:x=q:=by simpa using f.symm
   subst a6;obtain⟨T,P⟩:∃T,u.length=T+1:=⟨u.length -1,O9⟩;have⟨S,R,K⟩:=cO h T P;rw[<-P]at K;subst K;clear P;have ar:=(bU h rfl).1;rw[iB]at h;have C:=aL (G.out wr d);clear D G E F s A;go_wp2;refine C.out.m1 λw1 m=>?_;replace d:=d.trans (m.mono d.size);replace h:=aT h m;have I:=NA (B:=(w:Nat)) (g:=S) (c:=R) (u.map U7) w1 (by rw[fC];exact h) (λv a2=>by obtain⟨z,_,rfl⟩:=gS.1 a2;exact⟨_,rfl⟩) (by rw[fC];omega) ar;rw[fC]at I;replace I:=aL I;clear C m;go_wp2;refine I.out.mono ?_;rintro e w2 ⟨rfl,aj,ak⟩;go_wp2;go_ret;exact⟨S,R,rfl,by rw[QS];exact aj,d.trans ak⟩
def Ss{w B g c l}(h:w.ownsRow B 195 7 (.slice g l.length c) l.length (eT l)):vW w g l:=by
 obtain⟨a,_⟩|⟨g',cap,cur,a,_,b,_⟩:=h.2;.cases a
 .cases a;exact⟨⟨_,_,b⟩,λi s hi=>FW h hi⟩
def JJ{w}(b g o n c l)(d:l.length=n)(p:∀j u,(eT l)[j]?=some u->w.cell? (g,o+j)=some u)(hl:n<=40000)(ty):∃sa sc w',(Builtin.append_ #[121,121] ty #[.slice (some ⟨b,0,none⟩) 0 0,.slice (some ⟨g,o,none⟩) n c]).run Vp w=.ok (.slice sa n sc) w'/\(l=[]\/∃g',sa=some ⟨g',0,none⟩/\w<=g'/\vW w' g' l)/\w.grownBy w' none:=by
 have⟨i,hi,x,t,m⟩:=info_parts Zn;have hlen:(eT l).length=n*7:=by rw[sJ,d]
 have q:∀j u,(eT l)[j]?=some u->w.cell? (((g,o):Addr).add j)=some u:=λj u a=>by rw[show((g,o):Addr).add j=(g,o+j)from by simp[Addr.add]];exact p j u a
 by_cases h0:n=0;.subst h0;have s:=nP d;subst s;have:=run_append_room_cells (P:=Vp) w 121 ty 195 i aI.underlying121 hi b 0 0 0 (g,o) 0 c [] S8 (λj u a=>by simp at a) (λu v=>by simp at v) L9 (λj a=>by simp at a) (λj a=>by simp at a);exact⟨_,_,_,this,.inl rfl,⟨rfl,rfl,rfl,L9,λ_ _ _=>rfl⟩⟩
 .have⟨z,w',hr,e,r⟩:=run_append_arg_grows (P:=Vp) w 121 ty 195 i _ 7 72 aI.underlying121 hi x t m rfl D9 (b,0) 0 0 [] rfl (λj u a=>by simp at a) (g,o) n c (eT l) hlen q O9 (by unfold maxLen;omega) O9;rw[iV,<-d]at e;obtain⟨f,h⟩:∃f,l.length=f+1:=⟨l.length -1,O9⟩;have⟨g',y,k⟩:=cO e f h;rw[<-h]at k;subst k;exact⟨_,_,_,by rw[<-d]at hr|-;exact hr,.inr ⟨g',rfl,(bU e rfl).1,Ss e⟩,r⟩
def Z4(va n vc l w)(c:l.length=n)(hl:n<=40000)(s:(va=none/\n=0/\vc=0)\/∃g o,va=some ⟨g,o,none⟩/\∀j u,(eT l)[j]?=some u->w.cell? ⟨g,o+j,none⟩=some u):Cv 100 #[.slice va n vc] w λe w'=>∃sa sc,e=.returned (.slice sa n sc)/\(l=[]\/∃g,sa=some ⟨g,0,none⟩/\w<=g/\vW w' g l)/\Below w w w':=by
 obtain⟨rfl,rfl,rfl⟩|⟨g,o,rfl,i⟩:=s;.have r:=nP c;have m:=Go.Ren.w9 (V:=Vp) aI.underlying121 none 0 0;go_enter fA func100,ntmps100;go_wp2;go_ret;exact⟨_,_,rfl,.inl r,B0⟩
 .have a:Below w w (w.alloc (.cells #[] 195)):=B0.alloc L9 _;have⟨sa,sc,w',hr,f,p⟩:=JJ (w:=w.alloc (.cells #[] 195)) ↑w g o n vc l c (λj u q=>aV a (i j u q)) hl 121;have h:=a.grown p a.size (λk e=>by cases e);have b:l=[]\/∃g,sa=some ⟨g,0,none⟩/\(w:Nat)<=g/\vW w' g l:=by
   obtain e|⟨g',e,h2,d⟩:=f;.exact .inl e
   .exact .inr ⟨g',e,bI a.size h2,d⟩
  change Hid _ at hr b;have m:=Go.Ren.w9 (V:=Vp) aI.underlying121 ↑(g,o) n vc;go_enter fA func100,ntmps100;go_wp2_with (refine Lib.wpList_append_run _ rfl _ _ _ _ rfl _ _ E9 E9 _ _ hr.out ?_);go_ret;exact⟨_,_,rfl,b.out,h⟩
def ack(B gc k c1 z m c2 L c w)(q0:w.cell? (B,0)=some (.slice (some ⟨gc,0,none⟩) (k+1) c1))(I:w.cell? (B,1)=some (.slice (some ⟨z,0,none⟩) (m+1) c2))(q:L.length=(k+1)*2)(r:∀u∈L,u.oneCell'=true)(t:∀j u,L[j]?=some u->w.cell? ⟨gc,j,none⟩=some u)(n:c.length=(m+1)*2)(o:∀u∈c,u.oneCell'=true)(p:∀j u,c[j]?=some u->w.cell? ⟨z,j,none⟩=some u)(M:k<=400)(N:m<=400):
 Cv 74 #[.slice (some ⟨B,0,none⟩) 2 2] w λe w'=>∃v,e=.returned v/\w'.ownsRow w 123 2 v (k+1+(m+1)) (L++c)/\Below w w w':=by
 go_enter fA Tryz.func74,Tryz.ntmps74;go_wp2;go_loopw [3,11] (λs i wr=>wr=w/\((s=↑aA/\i=↑aA)\/(s=↑((k+1:Nat):Int)/\i=↑aG)\/(s=.int .i64 ((k+1+(m+1):Nat):Int)/\i=.int .i64 2))) (λ_ i _=>2 -(intOf i).toNat);exact⟨rfl,.inl ⟨rfl,rfl⟩⟩;case round=>
  obtain⟨rfl,⟨rfl,rfl⟩|⟨rfl,rfl⟩|⟨rfl,rfl⟩⟩:=hrel;.go_wp2;go_roundw;exact⟨by trivial,.inr (.inl ⟨by go_num,by trivial⟩)⟩;simp[intOf]
  .go_wp2;go_roundw;exact⟨by trivial,.inr (.inr ⟨by go_num,by trivial⟩)⟩;simp[intOf]
  .obtain⟨w0,K⟩:∃w0,w0=wr:=⟨_,rfl⟩;subst K;go_wp2;refine(ZO (k+1+(m+1)) w0 O9 O9).mono ?_;rintro e w1 ⟨v,rfl,a,b⟩;obtain⟨va,vc,rfl⟩:=bD a;go_wp2;go_loopw [6,27] (λf i wx=>Below w0 w0 wx/\((i=↑aA/\wx.ownsRow ↑w0 123 2 f 0 [])\/(i=↑aG/\wx.ownsRow ↑w0 123 2 f (k+1) L)\/(i=.int .i64 2/\wx.ownsRow ↑w0 123 2 f (k+1+(m+1)) (L++c)))) (λ_ i _=>2 -(intOf i).toNat);exact⟨b,.inl ⟨rfl,a⟩⟩;case round=>
    obtain⟨b,⟨rfl,a⟩|⟨rfl,a⟩|⟨rfl,a⟩⟩:=hrel
    .obtain⟨h,l,rfl⟩:=bD a;have a0:=aV b q0;have J:=aV b I;have d:∀j u,L[j]?=some u->wr.cell? (gc,j)=some u:=λj u D=>aV b (t j u D);have C:=b.size;have fin:Hid (∀w2,wr.grownBy w2 (Value.slice h 0 l).ownBlock->Below w0 w0 w2):=λw2 g=>BU b a g;have E:0+(k+1)<=100000:=O9;change Hid _ at t p d r o q n;go_wp2_with (refine oF rfl _ _ rfl (.slice h 0 l) 0 [] E9 a gc (k+1) c1 L q.out E9 d.out r.out E C ?_;intro v1 w3 x A;obtain⟨H,G,y⟩:=cO x k O9;subst y;have F:=fin.out _ A);go_roundw;exact⟨F,.inr (.inl ⟨by trivial,by simpa using x⟩)⟩;simp[intOf]
    .obtain⟨h,l,rfl⟩:=bD a;have a0:=aV b q0;have J:=aV b I;have d:∀j u,c[j]?=some u->wr.cell? (z,j)=some u:=λj u D=>aV b (p j u D);have C:=b.size;have fin:Hid (∀w2,wr.grownBy w2 (Value.slice h (k+1) l).ownBlock->Below w0 w0 w2):=λw2 g=>BU b a g;have E:(k+1)+(m+1)<=100000:=O9;change Hid _ at t p d r o q n;go_wp2_with (refine oF rfl _ _ rfl (.slice h (k+1) l) (k+1) L E9 a z (m+1) c2 c n.out E9 d.out o.out E C ?_;intro v1 w3 x A;obtain⟨H,G,y⟩:=cO x (k+1+m) O9;subst y;have F:=fin.out _ A);go_roundw;exact⟨F,.inr (.inr ⟨by trivial,x⟩)⟩;simp[intOf]
    .have⟨H,G,y⟩:=cO a (k+1+m) rfl;subst y;go_wp2;go_ret;exact⟨_,rfl,a,b⟩
def kF.mark(x:kF)(b:Bool):kF:={x with bad:=b,tv:=if b then ab9 else x.tv}
def Z5(bs:List Bool)(j k i:Nat)(x:kF):kF:=if i<k then x.mark (bs.getD i false)else if i=j then{x with bad:=true}else x
structure acm(l:List kF)(j:Nat)(bs:List Bool)(pi:Nat->Option Nat):Prop where
 nd:(l.map kF.a).Nodup
 par:∀i x,l[i]?=some x->(x.par=none/\pi i=none)\/∃p y,pi i=some p/\p<i/\l[p]?=some y/\x.par=some y.a
 bs:∀i x,l[i]?=some x->bs.getD i false=(x.bad||decide (i=j)||((pi i).map λp=>bs.getD p false).getD false)
structure SpG(w:World)(nb B:Nat)(bv:Value)(l:List kF)(bs:List Bool)(j:Nat)(cs:List Value)(k:Nat)(wr:World):Prop where
 own:wr.ownsRow B 114 1 bv l.length (l.map λb=>ptr b.a)
 rows:∀i x,l[i]?=some x->Row wr x.a 117 (Z5 bs j k i x).cells
 nd:Row wr nb 107 cs
 x:Xc (λk=>∃x∈l,k=x.a) w wr
def SpG.at_{w wr nb B k j bv l bs x cs}(h:SpG w nb B bv l bs j cs k wr){i}(d:l[i]?=some x):∃g c,bv=.slice (some ⟨g,0,none⟩) l.length c/\wr.cell? ⟨g,i,none⟩=some (ptr x.a):=by
 have n:=(cB.1 d).1;have e:=λg (b:bv.ownBlock=some g)=>h.own.cells (g:=g) b;obtain⟨_,h0⟩|⟨g,cap,cur,f,m,b,_⟩:=h.own.2;.omega
 .subst f;refine⟨g,cap,rfl,?_⟩;have:=e g rfl i (ptr x.a) (by rw[cW,d];rfl);rwa [add0]at this
def Ax{l:List kF}(h:(l.map kF.a).Nodup){i k:Nat}{x y}(d:l[i]?=some x)(f:l[k]?=some y)(e:x.a=y.a):i=k:=by
 have h1:(l.map kF.a)[i]?=some x.a:=by rw[cW,d];rfl
 have h2:(l.map kF.a)[k]?=some y.a:=by rw[cW,f];rfl
 have⟨l1,b⟩:=cB.1 h1;have⟨l2,e2⟩:=cB.1 h2;obtain c|c|c:=Ql i k;.exact absurd (by rw[b,e2,e]) (VZ.1 h i k l1 l2 c)
 .exact c
 .exact absurd (by rw[b,e2,e]) (VZ.1 h k i l2 l1 c)
def SpG.upd{w wr g nb B k j bv l bs x cs}(h:SpG w nb B bv l bs j cs k wr)(o:(l.map kF.a).Nodup)(b:l[k]?=some x)(y:Xc (λa=>a=x.a) wr g)(hr:Row g x.a 117 (x.mark (bs.getD k false)).cells):SpG w nb B bv l bs j cs (k+1) g:=by
 have m:=h.rows k x b;refine⟨dH h.own (λa cs' _ _ f=>y.block a (bF f) (λe=>?_)),λi z d=>?_,h.nd.xc y (λe=>h.nd.ne m D9 e),h.x.trans y (λa _ e=>⟨x,cQ b,e⟩)⟩;.subst e;rw[m]at f;cases f
 .by_cases e:i=k;.subst e;rw[b]at d;cases d;unfold Z5;rw[bE (nN _)];exact hr
  .have n:Z5 bs j (k+1) i z=Z5 bs j k i z:=by
    unfold Z5;by_cases c:i<k;.grind
    .grind
   rw[n];exact(h.rows i z d).xc y (λe2=>e (Ax o d b e2))
def aeI{nb B j bv l bs V cs}(b w)(hN:Row w nb 107 cs)(MX:cs[11]?=some bv)(h:jF w B bv l)(o:acm l j bs V)(t:l[j]?=some b)(hl:l.length<=1000):Cv 99 #[ptr nb,ptr b.a] w λe w'=>e=.returned (.tuple #[])/\jF w' B bv (l.mapIdx λi x=>x.mark (bs.getD i false))/\Row w' nb 107 cs/\Xc (λk=>∃x∈l,k=x.a) w w':=by
 have G:=cQ t;have r:=h.row b G;have b5:=r.r 5;have L:=r.frozen 5;have blt:=r.lt;have F:=hN.aO (b.a,5) ↑aD (λe=>hN.ne r D9 e);have μ:(w.setCell (b.a,5) ↑aD).cell? (nb,11)=some bv:=by rw[F.cell];exact MX
 have h0:SpG w nb B bv l bs j cs 0 (w.setCell (b.a,5) ↑aD):=by
  refine⟨ZM h.own r,λi x d=>?_,F,(iZ _ w).setCell _ _ (λ_=>⟨b,G,rfl⟩)⟩;unfold Z5;rw[aS (oK _)];by_cases e:i=j;.subst e;rw[t]at d;cases d;rw[bE rfl];exact r.set 5 ↑aD
  .rw[aS e];exact(h.row x (cQ d)).aO (b.a,5) ↑aD (λe2=>e (Ax o.nd d t e2))
 obtain⟨va,vc,rfl⟩:=bD h.own;change Hid _ at o t h0;unfold ptr;go_enter fA Tryz.func99,Tryz.ntmps99;go_wp2;generalize w.setCell ⟨b.a,5,none⟩ ↑aD=X at h0 μ|-;go_loopw [14] (λi wr=>∃k:Nat,k<=l.length/\i=↑k/\SpG w nb B (.slice va l.length vc) l bs j cs k wr) (λi _=>l.length -(intOf i).toNat);exact⟨0,O9,rfl,h0.out⟩;case round=>
  obtain⟨k,π,rfl,m⟩:=hrel;by_cases Q:k<l.length
  .have aa:(0:Int)<=(k:Int):=O9;have ab:(k:Int)<(l.length:Int):=O9;have d:=bO Q;generalize l[k]=x at d;have⟨g,c,S,q0⟩:=m.at_ d;cases S;unfold ptr at q0;have hr:=m.rows k x d;have ex:Z5 bs j k k x={x with bad:=x.bad||decide (k=j)}:=by
    unfold Z5;rw[aS (xP _)];by_cases e:k=j;.rw[bE e];simp[e]
    .rw[aS e];simp[e]
   rw[ex]at hr;have D:wr.cell? (x.a,5)=some (.bool (x.bad||decide (k=j))):=hr.cell 5;have J:wr.cell? (x.a,1)=some (.pointer (x.par.map λp=>⟨p,0,none⟩)):=hr.cell 1;have ag:wr.cell? (x.a,4)=some x.tv:=hr.cell 4;have Y:=hr.frozen 4;have L:=hr.frozen 5;have ae:=hr.lt;have A:=o.out.bs k x d;have R:(x.par=none/\bs.getD k false=(x.bad||decide (k=j)))\/∃p u,x.par=some p/\wr.cell? ⟨p,5,none⟩=some (.bool u)/\bs.getD k false=(x.bad||decide (k=j)||u):=by
    obtain⟨s,e2⟩|⟨p,y,s,P,T,e2⟩:=o.out.par k x d;.refine .inl ⟨s,?_⟩;rw[A,e2];simp
    .refine .inr ⟨y.a,bs.getD p false,e2,?_,?_⟩
     .have H:=m.rows p y T;have K:Z5 bs j k p y=y.mark (bs.getD p false):=by unfold Z5;rw[if_pos P]
      rw[K]at H;exact H.cell 5
     .rw[A,s];rfl
   have u0:Hid (bs.getD k false=false->SpG w nb B (.slice g l.length vc) l bs j cs (k+1) wr):=λe=>by
    refine m.upd o.out.nd d (iZ _ _) ?_;rw[e];have N:(x.bad||decide (k=j))=false:=by rw[e]at A;have:=A.symm;simp only[Bool.or_eq_false_iff]at this|-;exact this.1
    rw[N]at hr;exact hr
   have I:Hid (bs.getD k false=true->(x.bad||decide (k=j))=true->SpG w nb B (.slice g l.length vc) l bs j cs (k+1) (wr.setCell (x.a,4) ↑())):=λe e2=>by refine m.upd o.out.nd d ((iZ _ _).setCell _ _ (λ_=>rfl)) ?_;rw[e];rw[e2]at hr;exact hr.set 4 ↑()
   have W:Hid (bs.getD k false=true->SpG w nb B (.slice g l.length vc) l bs j cs (k+1) ((wr.setCell (x.a,5) ↑aD).setCell (x.a,4) ↑())):=λe=>by refine m.upd o.out.nd d (((iZ (λa=>a=x.a) wr).setCell (x.a,5) ↑aD (λ_=>rfl)).setCell (x.a,4) ↑() (λ_=>rfl)) ?_;rw[e];exact(hr.set 5 ↑aD).set 4 ↑()
   have M:Hid (∀v,Row (wr.setCell (x.a,5) v) x.a 117 ((({x with bad:=x.bad||decide (k=j)}:kF).cells).set 5 v)):=λv=>hr.set 5 v;obtain⟨E,f⟩|⟨p,u,E,af,f⟩:=R;.rw[E]at J;cases q:(x.bad||decide (k=j))with
    |true=>rw[q]at D f;have n:=aL (I.out f q);go_wp2;go_roundw;exact⟨k+1,O9,by go_num,n.out⟩;simp[intOf];omega
    |false=>rw[q]at D f;have n:=aL (u0.out f);go_wp2;go_roundw;exact⟨k+1,O9,by go_num,n.out⟩;simp[intOf];omega
   .rw[E]at J;cases u with
    |true=>rw[Bool.or_true]at f;have n:=aL (W.out f);have ah:(wr.setCell (x.a,5) ↑aD).cell? (x.a,5)=some ↑aD:=(M.out _).cell 5;go_wp2;go_roundw;exact⟨k+1,O9,by go_num,n.out⟩;simp[intOf];omega
    |false=>rw[Bool.or_false]at f;cases q:(x.bad||decide (k=j))with
      |true=>rw[q]at D f;have n:=aL (I.out f q);go_wp2;go_roundw;exact⟨k+1,O9,by go_num,n.out⟩;simp[intOf];omega
      |false=>rw[q]at D f;have n:=aL (u0.out f);go_wp2;go_roundw;exact⟨k+1,O9,by go_num,n.out⟩;simp[intOf];omega
  .have O:k=l.length:=O9;subst O;go_wp2;go_end0;refine⟨rfl,⟨?_,λx d=>?_⟩,m.nd,m.x⟩
   .have:=m.own;have s:(l.mapIdx λi x=>x.mark (bs.getD i false)).map (λb=>ptr b.a)=l.map λb=>ptr b.a:=by apply kI;intro i;simp[pX];cases l[i]?<;>simp[kF.mark]
    rw[s,Wc];exact this
   .have⟨i,hi⟩:=pz.1 d;rw[pX]at hi;cases C:l[i]? with
    |none=>rw[C]at hi;cases hi
    |some z=>rw[C]at hi;simp only[dY,gQ]at hi;subst hi;have hr:=m.rows i z C;unfold Z5 at hr;rw[bE (cB.1 C).1]at hr;exact hr
section
variable{LB:Nat}
structure WB where
 b:kF
 Q:List ru
 gt:Nat
 cq:Nat
def WB.m(x:WB):Int×List JU:=(x.b.aW,x.Q.map ru.t)
structure WB.Ok(l:List kF)(x:WB):Prop where
 tv:x.b.tv=.slice (some ⟨x.gt,0,none⟩) x.Q.length x.cq
 q:∀q∈x.Q,q.Ok
 q0:1<=x.Q.length
 q8:x.Q.length<=8
 qc:x.Q.length<=x.cq
 mem:x.b∈l
 hh:x.b.aW<9223372036854775808
structure JR where
 e:Int
 at_:Nat
 ls:List (List dA)
 K:iR
 mem:List cF
 st:List dA
def bP(most:Nat)(su:Int):List (Int×List JU)->List cF->iR->JR
 |[],mem,K=>⟨0,0,[],K,mem,[]⟩
 |x::r,mem,K=>if(bY most su x.1 x.2 mem K []).1≠0 then⟨if r=[]then(bY most su x.1 x.2 mem K []).1 else 13,0,[],(bY most su x.1 x.2 mem K []).2.1.K,(bY most su x.1 x.2 mem K []).2.2,(bY most su x.1 x.2 mem K []).2.1.steps⟩else
   ⟨(bP most su r (bY most su x.1 x.2 mem K []).2.2 (bY most su x.1 x.2 mem K []).2.1.K).e,(bP most su r (bY most su x.1 x.2 mem K []).2.2 (bY most su x.1 x.2 mem K []).2.1.K).at_+1,(bY most su x.1 x.2 mem K []).2.1.steps::(bP most su r (bY most su x.1 x.2 mem K []).2.2 (bY most su x.1 x.2 mem K []).2.1.K).ls,(bP most su r (bY most su x.1 x.2 mem K []).2.2 (bY most su x.1 x.2 mem K []).2.1.K).K,(bP most su r (bY most su x.1 x.2 mem K []).2.2 (bY most su x.1 x.2 mem K []).2.1.K).mem,(bY most su x.1 x.2 mem K []).2.1.steps++(bP most su r (bY most su x.1 x.2 mem K []).2.2 (bY most su x.1 x.2 mem K []).2.1.K).st⟩
def JR.after(J:JR)(k:Nat)(ls:List (List dA))(st:List dA):JR:=⟨J.e,k+J.at_,ls++J.ls,J.K,J.mem,st++J.st⟩
def P6(J:JR):J.after 0 [] []=J:=by simp[JR.after]
def P7{a su x r mem K}(h:(bY a su x.1 x.2 mem K []).1=0)(k ls st):(bP a su (x::r) mem K).after k ls st=(bP a su r (bY a su x.1 x.2 mem K []).2.2 (bY a su x.1 x.2 mem K []).2.1.K).after (k+1) (ls++[(bY a su x.1 x.2 mem K []).2.1.steps]) (st++(bY a su x.1 x.2 mem K []).2.1.steps):=by
 rw[bP,aS (by rw[h];simp)];simp[JR.after];omega
def P8{a su x r mem K}(h:(bY a su x.1 x.2 mem K []).1≠0)(k ls st):(bP a su (x::r) mem K).after k ls st=⟨if r=[]then(bY a su x.1 x.2 mem K []).1 else 13,k,ls,(bY a su x.1 x.2 mem K []).2.1.K,(bY a su x.1 x.2 mem K []).2.2,st++(bY a su x.1 x.2 mem K []).2.1.steps⟩:=by
 rw[bP,bE h];simp[JR.after]
def F4{b su h cS mem K st}(a:mem.length<=b):(bY b su h cS mem K st).2.2.length<=b:=by
 unfold bY;simp only;split;.exact a
 .cases cS with
  |nil=>exact a
  |cons x r=>
    simp only;split;.exact a
    .exact BQ b _ _ a
def ApartL(w:World)(B:Nat)(v:Value)(L:List eJ):Prop:=∀x∈L,x.st=[]\/∃g,x.sa=some ⟨g,0,none⟩/\B<=g/\v.ownBlock≠some g/\vW w g x.st
def vW.sin{w w' v d g l}(h:vW w g l)(c:tL w v w' d)(b:v.ownBlock≠some g):vW w' g l:=by have⟨cs,f,a⟩:=h.ty;have:=c.2.2 g cs f a b;exact⟨⟨cs,f,this⟩,λi s hi=>(h.at_ i s hi).same (this.trans a.symm)⟩
def vW.keep{w w' g l}(h:vW w g l)(b:Below w w w'):vW w' g l:=by have⟨cs,f,a⟩:=h.ty;have:=b.block g (bF a);exact⟨⟨cs,f,this.trans a⟩,λi s hi=>(h.at_ i s hi).same this⟩
def ApartL.sin{w w' B v c L}(h:ApartL w B v L)(b:tL w v w' c):ApartL w' B c L:=by
 intro x j;obtain e|⟨g,d,e2,e3,a⟩:=h x j;.simp_all
 .refine .inr ⟨g,d,e2,λe=>?_,a.sin b e3⟩;obtain q|⟨k,q,l⟩:=b.2.1;.simp_all
  .rw[q]at e;cases e;have⟨cs,f,i⟩:=a.ty;have:=bF i;omega
structure JInv(LB:Nat)(w wr:World)(nb B most:Nat)(cs:List Value)(bv:Value)(gc kc cc:Nat)(l:List kF)(Lc:List Value)(tb gs n:Nat)(sb mb:Nat->Nat)(su:Int)(W:List WB)(mem:List cF)(K:iR)(v0:Value)(st:List dA)(jv:Value)(k:Nat)(mk:List cF)(Kk:iR)(sk:List dA)(Lk:List eJ)(mv v:Value):Prop where
 res:bP most su (W.map WB.m) mem K=(bP most su ((W.drop k).map WB.m) mk Kk).after k (Lk.map eJ.st) sk
 CS:y8 Kk
 ml:mk.length<=most
 sl:sk.length<=200*k
 nd:oI wr nb B most (cs.set 15 mv) bv mv gc kc cc l Lc mk
 aY:aQ wr gs n sb mb Kk
 iO:bL wr tb gs n v (st++sk)
 lnk:wr.ownsRow w.heap.size 123 2 jv k (eK Lk)
 la:Lk.map eJ.a=(W.take k).map λx=>x.b.a
 ap:ApartL wr w.heap.size v Lk
 tk:Tk LB Y1 n mb w wr
 sin:tL w v0 wr v
def mM.tk{a w w' n gt mb l}(h:mM w gt l)(x:Tk LB a n mb w w')(h1:¬a 155)(h2:¬a 133)(b:¬a 69):mM w' gt l:=⟨h.row.tk x h1,λq hq=>(h.ins q hq).tk x h2,λq hq=>(h.outs q hq).tk x b⟩
def acn{cs:List Value}(m):(cs.set 15 m)[6]?=cs[6]?:=by rw[sV D9]
def aco{cs:List Value}(m):(cs.set 15 m)[9]?=cs[9]?:=by rw[sV D9]
def F5{cs:List Value}(m a):(cs.set 15 m).set 15 a=cs.set 15 a:=by rw[List.set_set]
def JInv.call{w wr nb B d gc kc cc tb gs n cs bv l o sb mb su W mem K v0 st z k mk f A i mv v}(wk:Nat){x}(h:JInv LB w wr nb B d cs bv gc kc cc l o tb gs n sb mb su W mem K v0 st z k mk f A i mv v)(O:W[k]?=some x)(L:k<=100)(c:x.Ok l)(E:mM w x.gt x.Q)(c6:cs[6]?=some (.int .i64 wk))(c9:cs[9]?=some (.int .i64 su))(I:0<wk/\wk<=8)(H:0<=su/\su<=1000000)(F:d<=64)(N:st.length<=20000)(j:LB<=nb/\LB<=B/\LB<=tb):
 Cv 98 #[ptr nb,ptr x.b.a,ptr tb] wr λe w1=>e=.returned ((bY d su x.b.aW (x.Q.map ru.t) mk f []).1)/\∃g v1,oI w1 nb B d (cs.set 15 g) bv g gc kc cc l o (bY d su x.b.aW (x.Q.map ru.t) mk f []).2.2/\aQ w1 gs n sb mb (bY d su x.b.aW (x.Q.map ru.t) mk f []).2.1.K/\bL w1 tb gs n v1 (st++A++(bY d su x.b.aW (x.Q.map ru.t) mk f []).2.1.steps)/\w1.ownsRow w 123 2 z k (eK i)/\ApartL w1 w v1 i/\Tk LB Y1 n mb w w1/\tL w v0 w1 v1:=by
 have G:Row wr x.b.a 117 [↑x.b.id,.pointer (x.b.par.map λp=>⟨p,0,none⟩),↑x.b.aW,↑x.b.wo,.slice x.gt x.Q.length x.cq,.bool x.b.bad]:=by have:=h.nd.q7.row x.b c.mem;unfold kF.cells at this;rw[c.tv]at this;exact this
 have M:=h.sl;have y:=Zz wk wr G (E.tk h.tk (oU D9 D9 D9 D9 D9) (oU D9 D9 D9 D9 D9) (oU D9 D9 D9 D9 D9)) c.q c.q0 c.q8 c.qc h.aY h.iO h.nd.mem (by rw[acn];exact c6) (by rw[aco];exact c9) I H h.ml F h.CS (by rw[bW];omega) c.hh;rw[U2]at y;refine y.mono ?_;rintro e w1 ⟨rfl,C,⟨v1,D,u⟩,⟨g,r⟩,J⟩;rw[F5]at r;have y1:=acb (LB:=LB) J h.aY h.iO h.nd.mem ⟨j.2.2,j.1,j.2.1⟩;have s:=h.nd.joined (m:=g) y1 (by rw[F5];exact r);rw[F5]at s;exact⟨rfl,g,v1,s,C,D,pV h.lnk y1 (Nu D9 D9 D9 D9),h.ap.sin u,h.tk.trans (y1.mono (λt e=>.inl e)),h.sin.trans u⟩
def GG(l m):eT (l++m)=eT l++eT m:=by simp[eT]
def P9{w:World}{B g c p l}(h:w.ownsRow B 195 7 (.slice (some ⟨g,0,none⟩) (p++l).length c) (p++l).length (eT (p++l))):∀j u,(eT l)[j]?=some u->w.cell? (g,p.length*7+j)=some u:=by intro j u hj;have:=h.cells (g:=g) rfl (p.length*7+j) u (by rw[GG,dU (by rw[sJ];omega),sJ];rw[show p.length*7+j -p.length*7=j from by omega];exact hj);rwa [add0]at this
def Tk.Z6{Y n mb w w1 w3 r}(h:Tk LB Y n mb w w1)(gr:w1.grownBy w3 r)(hg:∀k,r=some k->w<=k):Tk LB Y n mb w w3:=by have hs:∀(k:Nat) (o:Obj) (o1:Obj),w.heap[k]?=some o->w1.heap[k]?=some o1->w3.heap[k]?=some o1:=λk o o1 hk h1=>(gr.block k (bF h1) (λe=>by have:=hg k e.symm;have:=bF hk;omega)).trans h1;exact⟨gr.os.trans h.os,gr.tape.trans h.tape,gr.output.trans h.output,bI h.size gr.size,λk cs t f hk hy=>hs k _ _ hk (h.cells k cs t f hk hy),λk o hk ho hm=>hs k _ _ hk (h.rest k o hk ho hm)⟩
def oI.aeJ{w w3 nb B most gc kc cc b0 k cs L xs bv mv jv l mem}(h:oI w nb B most cs bv mv gc kc cc l L mem)(ho:w.ownsRow b0 123 2 jv k xs)(gr:w.grownBy w3 jv.ownBlock)(hgc:gc<b0):oI w3 nb B most cs bv mv gc kc cc l L mem:=by
 have hr:∀(g:Nat) (t:TypeId) (c:List Value),Row w g t c->t≠123->Row w3 g t c:=λg t c r ht=>(gr.block g r.lt (λe=>dQ ho r ht e.symm)).trans r;have hw:∀{B e size n:Nat} {v:Value} {xs:List Value},w.ownsRow B e size v n xs->e≠123->w3.ownsRow B e size v n xs:=λo ht=>dH o (λg c _ _ hc=>gr.block g (bF hc) (λe=>by have⟨_,c',h3⟩:=bU ho e.symm;rw[h3]at hc;cases hc;exact ht rfl))
 refine⟨⟨hr _ _ _ h.mem.row D9,h.mem.UO,h.mem.Ip,hw h.mem.own D9,bI h.mem.base gr.size⟩,h.MX,h.NS,⟨hw h.q7.own D9,λb hb=>hr _ _ _ (h.q7.row b hb) D9⟩,dH h.chain (λg c hg _ hc=>gr.block g (bF hc) (λe=>?_))⟩;have h1:=(bU ho e.symm).1;cases hg;have h2:b0<=gc:=h1;omega
structure acp(LB:Nat)(w w':World)(nb B most:Nat)(cs:List Value)(bv:Value)(gc kc cc:Nat)(l':List kF)(Lc:List Value)(tb gs n:Nat)(sb mb:Nat->Nat)(v0:Value)(st:List dA)(J:JR)(m1 v1:Value):Prop where
 nd:oI w' nb B most (cs.set 15 m1) bv m1 gc kc cc l' Lc J.mem
 aY:aQ w' gs n sb mb J.K
 iO:bL w' tb gs n v1 (st++J.st)
 tk:Tk LB Y1 n mb w w'
 sin:tL w v0 w' v1
def Z7{nb tb gs n B most gc kc cc gw wc sb mb K v0 mv bv l cs Lc mem su st}(wk:Nat)(W:List WB)(pi:Nat->Option Nat)(bsF:Nat->List Bool)(w)(hW:w.ownsRow 0 114 1 (.slice (some ⟨gw,0,none⟩) W.length wc) W.length (W.map λx=>U7 x.b))(hN:oI w nb B most cs bv mv gc kc cc l Lc mem)(hO:∀x∈W,x.Ok l)(hX:∀x∈W,mM w x.gt x.Q)(hsp:∀x∈W,∃j,l[j]?=some x.b/\acm l j (bsF j) pi)
 (hC:aQ w gs n sb mb K)(hT:bL w tb gs n v0 st)(c6:cs[6]?=some (.int .i64 wk))(c9:cs[9]?=some (.int .i64 su))(hwk:0<wk/\wk<=8)(hsu:0<=su/\su<=1000000)(hml:mem.length<=most)(hms:most<=64)(hK:y8 K)(hst:st.length<=20000)(hW0:0<W.length)(hWl:W.length<=100)(hl:l.length<=1000)(hLn:LB<=nb/\LB<=B/\LB<=tb)(hLb:∀x∈l,LB<=x.a)(hgc:gc<w):
 Cv 73 #[ptr nb,.slice (some ⟨gw,0,none⟩) W.length wc,ptr tb] w λe w'=>∃m1 v1,((bP most su (W.map WB.m) mem K).e=0/\(∃gj cj L,e=.returned (.tuple #[.slice (some ⟨gj,0,none⟩) W.length cj,aA])/\w'.ownsRow w 123 2 (.slice (some ⟨gj,0,none⟩) W.length cj) W.length (eK L)/\L.map eJ.st=(bP most su (W.map WB.m) mem K).ls/\L.map eJ.a=W.map (λx=>x.b.a)/\ApartL w' w v1 L)/\acp LB w w' nb B most cs bv gc kc cc l Lc tb gs n sb mb v0 st (bP most su (W.map WB.m) mem K) m1 v1)\/
  ((bP most su (W.map WB.m) mem K).e≠0/\e=.returned (.tuple #[(),(bP most su (W.map WB.m) mem K).e])/\∃x j,W[(bP most su (W.map WB.m) mem K).at_]?=some x/\l[j]?=some x.b/\acp LB w w' nb B most cs bv gc kc cc (l.mapIdx λi y=>y.mark ((bsF j).getD i false)) Lc tb gs n sb mb v0 st (bP most su (W.map WB.m) mem K) m1 v1):=by
 have h0:JInv LB w w nb B most cs bv gc kc cc l Lc tb gs n sb mb su W mem K v0 st ↑() 0 mem K [] [] mv v0:=by refine⟨by rw[List.drop_zero];exact(P6 _).symm,hK,hml,S8,by rw[qZ hN.mem.Ip];exact hN,hC,by rw[nE];exact hT,mN _ _ _ _,rfl,λx hx=>by simp at hx,Av B0,tL.refl _ _⟩
 have hwc:∀wr,Tk LB Y1 n mb w wr->∀k x,W[k]?=some x->wr.cell? ⟨gw,k,none⟩=some (.pointer (some ⟨x.b.a,0,none⟩)):=λwr x k y hy=>by have:=(pV hW x (oU D9 D9 D9 D9 D9)).cells (g:=gw) rfl k (U7 y.b) (by rw[cW,hy];rfl);rwa [add0]at this
 replace hwc:=aL hwc;replace hO:=aL hO;replace hX:=aL hX;replace hsp:=aL hsp;replace h0:=aL h0;replace c6:=aL c6;replace c9:=aL c9;replace hLn:=aL hLn;replace hLb:=aL hLb;clear hW hN hC hT hml hK;unfold ptr;go_enter fA Tryz.func73,Tryz.ntmps73;go_wp2;go_loopw [8,15] (λjv i wr=>∃k mk Kk sk Lk mv v,k<=W.length/\i=↑(k:Nat)/\JInv LB w wr nb B most cs bv gc kc cc l Lc tb gs n sb mb su W mem K v0 st jv k mk Kk sk Lk mv v) (λ_ i _=>W.length -(intOf i).toNat);case atStart=>exact⟨0,mem,K,[],[],mv,v0,O9,rfl,h0.out⟩
 case round=>
  clear h0;obtain⟨k,mk,Kk,sk,Lk,mv,v,hk,rfl,hI⟩:=hrel;by_cases hlt:k<W.length
  .have hk0:(0:Int)<=(k:Int):=O9;have hk1:(k:Int)<(W.length:Int):=O9;have hx:=bO hlt;have hdr:=xQ hlt;generalize W[k]=x at hx hdr;have hxm:=cQ hx;have q0:=hwc.out wr hI.tk k x hx;obtain⟨va,vc,hv⟩:=bD hI.iO.own;have t1:wr.cell? (tb,1)=some (.slice va (st++sk).length vc):=by rw[<-hv];exact hI.iO.row.cell 1
   have hcall:=hI.call wk hx O9 (hO.out x hxm) (hX.out x hxm) c6.out c9.out hwk hsu hms hst hLn.out;have hres:=hI.res;rw[hdr,lC]at hres;have hrr:(W.drop (k+1)).map WB.m=[]↔k+1=W.length:=by rw[List.map_eq_nil_iff,List.drop_eq_nil_iff];omega
   have agG:(x.m).1<9223372036854775808:=(hO.out x hxm).hh;have hjs:=FU most su x.b.aW (x.Q.map ru.t) mk (hO.out x hxm).hh hI.CS (by rw[fC];exact(hO.out x hxm).q8) (λy hy=>by obtain⟨q,hq1,rfl⟩:=gS.1 hy;have:=(hO.out x hxm).q q hq1;exact⟨this.li,this.lo,this.so⟩);have hjm:=F4 (su:=su) (h:=x.b.aW) (cS:=x.Q.map ru.t) (K:=Kk) (st:=[]) hI.ml;have hsl:=hI.sl;have GH:=hI.la;have NB:(bY most su x.b.aW (x.Q.map ru.t) mk Kk []).1=0->bP most su (W.map WB.m) mem K=_:=λe=>hres.trans (P7 (x:=x.m) e k (Lk.map eJ.st) sk);have NC:(bY most su x.b.aW (x.Q.map ru.t) mk Kk []).1≠0->bP most su (W.map WB.m) mem K=_:=λe=>hres.trans (P8 (x:=x.m) e k (Lk.map eJ.st) sk);simp only[WB.m]at NB NC;generalize bY most su x.b.aW (x.Q.map ru.t) mk Kk []=R at hcall hjs hjm NB NC;obtain⟨E,S,M'⟩:=R;simp only at hcall hjs hjm NB NC;have hN0:(st++sk).length<=40000:=by rw[bW];omega
   clear hres hdr hv;unfold ptr at hcall;replace hcall:=aL hcall;replace NB:=aL NB;replace NC:=aL NC;replace hjs:=aL hjs;replace GH:=aL GH;replace hrr:=aL hrr;replace hx:=aL hx;clear hI agG;generalize hn0:(st++sk).length=n0 at t1 hN0;replace hn0:=aL hn0;go_wp2;refine hcall.out.mono ?_;rintro e w1 ⟨rfl,m1,v1,N1,C1,T1,O1,A1,x1,s1⟩;clear hcall t1 q0;by_cases hE:E=0
   .subst hE;have hty:=T1.own.2;have k1:=T1.row.r 1;have hl1:(st++sk++S.steps).length=n0+S.steps.length:=by rw[bW,hn0.out]
    have hnew:=NB.out rfl;obtain⟨ja,jc,rfl⟩:=bD O1;have fin:Hid (∀(sa:Option Addr) (sc:Nat) (w2:World),Below w1 w1 w2->(S.steps=[]\/∃g,sa=some ⟨g,0,none⟩/\(w1:Nat)<=g/\vW w2 g S.steps)->Row (w2.alloc (.cells [.pointer (some ⟨x.b.a,0,none⟩),.slice sa S.steps.length sc].toArray 123)) ↑w2 123 [.pointer x.b.a,.slice sa S.steps.length sc]/\(w:Nat)<=(w2.alloc (.cells [.pointer (some ⟨x.b.a,0,none⟩),.slice sa S.steps.length sc].toArray 123)).heap.size/\(w2.alloc (.cells [.pointer (some ⟨x.b.a,0,none⟩),.slice sa S.steps.length sc].toArray 123)).ownsRow ↑w 123 2 (.slice ja k jc) k (eK Lk)/\∀v2 w3,(w2.alloc (.cells [.pointer (some ⟨x.b.a,0,none⟩),.slice sa S.steps.length sc].toArray 123)).grownBy w3 (Value.slice ja k jc).ownBlock->w3.ownsRow ↑w 123 2 v2 (k+1) (eK Lk++[.pointer (some ⟨x.b.a,0,none⟩),.slice sa S.steps.length sc])->JInv LB w w3 nb B most cs bv gc kc cc l Lc tb gs n sb mb su W mem K v0 st v2 (k+1) M' S.K (sk++S.steps) (Lk++[⟨x.b.a,S.steps,sa,sc⟩]) m1 v1):=by
     intro sa sc w2 hb2 hli;have hA:Below w1 w1 (w2.alloc (.cells [.pointer (some ⟨x.b.a,0,none⟩),.slice sa S.steps.length sc].toArray 123)):=hb2.alloc hb2.size _;have hA2:Below w2 w2 (w2.alloc (.cells [.pointer (some ⟨x.b.a,0,none⟩),.slice sa S.steps.length sc].toArray 123)):=B0.alloc L9 _;have OA:=aT O1 hA;refine⟨aX w2 _ _,bI x1.size hA.size,OA,λv2 w3 gr o2=>?_⟩;have old:dI (w2.alloc (.cells [.pointer (some ⟨x.b.a,0,none⟩),.slice sa S.steps.length sc].toArray 123)) w3:=λg c f hc=>(gr.block g (bF hc) (λe=>by obtain⟨_,c',h3⟩:=bU OA e.symm;rw[h3]at hc;cases hc)).trans hc
     have sA:=(Zo v1 hA).trans (CY v1 old gr.size);have TA:bL (w2.alloc (.cells [.pointer (some ⟨x.b.a,0,none⟩),.slice sa S.steps.length sc].toArray 123)) tb gs n v1 (st++sk++S.steps):=⟨T1.row.keep hA T1.row.lt,aT T1.own hA⟩;refine⟨?_,hjs.out.1,hjm,?_,(N1.keep hA).aeJ OA gr hgc,(C1.keep hA).grown OA gr D9 D9,?_,?_,?_,?_,(x1.trans (Av hA)).Z6 gr (λg e=>(bU OA e).1),s1.trans sA⟩;.rw[nT];exact hnew
     .rw[bW];have:=hjs.out.2;omega
     .rw[<-iM];exact TA.grown OA gr D9 D9
     .rw[sK];exact o2
     .rw[nT,GH.out,zl,hx.out];simp
     .intro y hy;obtain hy|hy:=nC.1 hy;.exact A1.sin sA y hy
      .rw[kH.1 hy];obtain e|⟨g,e,hg,hL⟩:=hli;.exact .inl e
       .refine .inr ⟨g,e,bI x1.size hg,λe2=>?_,?_⟩;.obtain⟨_,c',h3⟩:=bU T1.own e2;have:=bF h3;omega
        .obtain⟨c,f,hc⟩:=hL.ty;have e3:=old g c f ((hA2.block g (bF hc)).trans hc);exact⟨⟨c,f,e3⟩,λi z hi=>(hL.at_ i z hi).same (e3.trans hc.symm)⟩
    clear NB NC hnew N1 C1 O1 A1 x1 s1 GH hrr hwc hO hX hsp hLb hLn hx hjm;obtain⟨rfl,h0⟩|⟨g',cap,cur,hv1,_,_,hcap,_⟩:=hty
    .have hl0:S.steps.length=0:=O9;have agH:n0=0:=O9;subst agH;have hcl:=aL (Z4 none 0 0 S.steps w1 hl0 O9 (.inl ⟨rfl,rfl,rfl⟩));rw[hl0]at fin;clear hl1 h0 hn0;go_wp2;refine hcl.out.mono ?_;rintro e w2 ⟨sa,sc,rfl,hli,hb2⟩;obtain⟨N1,hB1,OA,Bv⟩:=fin.out sa sc w2 hb2 hli;replace Bv:=aL Bv;have hn:∀i u,[Value.pointer (some ⟨x.b.a,0,none⟩),.slice sa 0 sc][i]?=some u->(w2.alloc (.cells [.pointer (some ⟨x.b.a,0,none⟩),.slice sa 0 sc].toArray 123)).cell? ⟨w2.heap.size,i,none⟩=some u:=λi u hj=>by rw[N1.cell];exact hj
     have h1c:∀u∈[Value.pointer x.b.a,.slice sa 0 sc],u.oneCell'=true:=by intro u hu;simp only[iL,nR,nS]at hu;obtain rfl|rfl:=hu<;>rfl
     replace hn:=aL hn;replace h1c:=aL h1c;have hk2:k+1<=100000:=O9;clear hcl fin N1 hli hb2;go_wp2_with (refine oF rfl _ _ rfl (.slice ja k jc) k (eK Lk) E9 OA (w2:Nat) 1 1 [.pointer x.b.a,.slice sa 0 sc] rfl E9 hn.out h1c.out hk2 hB1 ?_;intro v2 w3 ZL g1;obtain⟨ig,ic,hv1⟩:=cO ZL k rfl;subst hv1);go_roundw;case rel=>exact⟨k+1,M',S.K,sk++S.steps,Lk++[⟨x.b.a,S.steps,sa,sc⟩],m1,_,O9,by go_num,Bv.out _ _ g1 ZL⟩
     case measure=>simp[intOf];omega
    .have hv2:v1=.slice g' (n0+S.steps.length) cap:=by rw[hv1,hl1]
     have hO1:=T1.own;rw[hv1]at hO1;have hcell:=P9 hO1;rw[hn0.out]at hcell;rw[hl1]at hcap;subst hv2;have hcl:∀la,la=(if cap=n0 then some ((g',0):Addr)else some (g',n0*7))->Cv 100 #[.slice la S.steps.length (cap -n0)] w1 λe w'=>∃sa sc,e=.returned (.slice sa S.steps.length sc)/\(S.steps=[]\/∃g,sa=some ⟨g,0,none⟩/\(w1:Nat)<=g/\vW w' g S.steps)/\Below w1 w1 w':=by
      rintro la rfl;refine Z4 _ S.steps.length _ S.steps w1 rfl (by have:=hjs.out.2;omega) ?_;by_cases e:cap=n0;.have e2:S.steps=[]:=nP O9;rw[bE e,e2];exact .inr ⟨g',0,rfl,λi u hi=>by simp[eT]at hi⟩
      .rw[aS e];exact .inr ⟨g',n0*7,rfl,hcell⟩
     have i0:(0:Int)<=(n0:Int):=O9;have i1:(n0:Int)<=((n0+S.steps.length:Nat):Int):=O9;have i2:((n0+S.steps.length:Nat):Int)<=(cap:Int):=O9;have acr:∃la lc,Hid (Cv 100 #[.slice la S.steps.length lc] w1 λe w'=>∃sa sc,e=.returned (.slice sa S.steps.length sc)/\(S.steps=[]\/∃g,sa=some ⟨g,0,none⟩/\w1.heap.size<=g/\vW w' g S.steps)/\Below w1.heap.size w1 w')/\((cap=n0/\la=some ⟨g',0,none⟩/\lc=0)\/(cap≠n0/\la=some ⟨g',n0*7,none⟩/\lc=cap -n0)):=by
      by_cases e:cap=n0;.exact⟨_,0,by have:=hcl _ rfl;rw[bE e,e,sO]at this;exact this,.inl ⟨e,rfl,rfl⟩⟩
      .exact⟨_,_,by have:=hcl _ rfl;rw[aS e]at this;exact this,.inr ⟨e,rfl,rfl⟩⟩
     obtain⟨la,lc,acr,hcn⟩:=acr;clear hcl;have hcl:=acr;clear acr;clear hl1 hO1 hcell hv1 hn0 T1 hjs;obtain⟨hcn,rfl,rfl⟩|⟨hcn,rfl,rfl⟩:=hcn;all_goals go_wp2
     all_goals refine hcl.out.mono ?_
     .rintro e w2 ⟨sa,sc,rfl,hli,hb2⟩;obtain⟨N1,hB1,OA,Bv⟩:=fin.out sa sc w2 hb2 hli;replace Bv:=aL Bv;have hn:∀i u,[Value.pointer (some ⟨x.b.a,0,none⟩),.slice sa S.steps.length sc][i]?=some u->(w2.alloc (.cells [.pointer (some ⟨x.b.a,0,none⟩),.slice sa S.steps.length sc].toArray 123)).cell? ⟨w2.heap.size,i,none⟩=some u:=λi u hj=>by rw[N1.cell];exact hj
      have h1c:∀u∈[Value.pointer x.b.a,.slice sa S.steps.length sc],u.oneCell'=true:=by intro u hu;simp only[iL,nR,nS]at hu;obtain rfl|rfl:=hu<;>rfl
      replace hn:=aL hn;replace h1c:=aL h1c;have hk2:k+1<=100000:=O9;clear hcl fin N1 hli hb2;go_wp2_with (refine oF rfl _ _ rfl (.slice ja k jc) k (eK Lk) E9 OA (w2:Nat) 1 1 [.pointer x.b.a,.slice sa S.steps.length sc] rfl E9 hn.out h1c.out hk2 hB1 ?_;intro v2 w3 ZL g1;obtain⟨ig,ic,hv1⟩:=cO ZL k rfl;subst hv1);go_roundw;case rel=>exact⟨k+1,M',S.K,sk++S.steps,Lk++[⟨x.b.a,S.steps,sa,sc⟩],m1,_,O9,by go_num,Bv.out _ _ g1 ZL⟩
      case measure=>simp[intOf];omega
     .rintro e w2 ⟨sa,sc,rfl,hli,hb2⟩;obtain⟨N1,hB1,OA,Bv⟩:=fin.out sa sc w2 hb2 hli;replace Bv:=aL Bv;have hn:∀i u,[Value.pointer (some ⟨x.b.a,0,none⟩),.slice sa S.steps.length sc][i]?=some u->(w2.alloc (.cells [.pointer (some ⟨x.b.a,0,none⟩),.slice sa S.steps.length sc].toArray 123)).cell? ⟨w2.heap.size,i,none⟩=some u:=λi u hj=>by rw[N1.cell];exact hj
      have h1c:∀u∈[Value.pointer x.b.a,.slice sa S.steps.length sc],u.oneCell'=true:=by intro u hu;simp only[iL,nR,nS]at hu;obtain rfl|rfl:=hu<;>rfl
      replace hn:=aL hn;replace h1c:=aL h1c;have hk2:k+1<=100000:=O9;clear hcl fin N1 hli hb2;go_wp2_with (refine oF rfl _ _ rfl (.slice ja k jc) k (eK Lk) E9 OA (w2:Nat) 1 1 [.pointer x.b.a,.slice sa S.steps.length sc] rfl E9 hn.out h1c.out hk2 hB1 ?_;intro v2 w3 ZL g1;obtain⟨ig,ic,hv1⟩:=cO ZL k rfl;subst hv1);go_roundw;case rel=>exact⟨k+1,M',S.K,sk++S.steps,Lk++[⟨x.b.a,S.steps,sa,sc⟩],m1,_,O9,by go_num,Bv.out _ _ g1 ZL⟩
      case measure=>simp[intOf];omega
   .have hEn:(E==0)=false:=by simpa using hE
    obtain⟨j,hj,hs⟩:=hsp.out x hxm;have hsg:=aeI x.b w1 N1.mem.row N1.MX N1.q7 hs hj hl;have hres:=aL (NC.out hE);unfold ptr at hsg;have fin:Hid (∀w2,jF w2 B bv (l.mapIdx λi y=>y.mark ((bsF j).getD i false))->Row w2 nb 107 (cs.set 15 m1)->Xc (λk=>∃x∈l,k=x.a) w1 w2->acp LB w w2 nb B most cs bv gc kc cc (l.mapIdx λi y=>y.mark ((bsF j).getD i false)) Lc tb gs n sb mb v0 st (bP most su (W.map WB.m) mem K) m1 v1/\W[(bP most su (W.map WB.m) mem K).at_]?=some x):=by
     intro w2 hB2 hN2 x2;have y2:=ZR (LB:=LB) x2 C1 N1.q7 hLb.out;have e2:=hres.out;rw[e2];refine⟨⟨⟨⟨hN2,N1.mem.UO,N1.mem.Ip,pV N1.mem.own y2 (by unfold Yb;decide),Nat.le_trans N1.mem.base x2.size⟩,N1.MX,N1.NS,hB2,pV N1.chain y2 (by unfold Yb;decide)⟩,C1.blk x2 N1.q7,?_,x1.trans (y2.mono (λt e=>.inr e)),s1.trans (tL.all _ (dI.of x2 (λk cs f hc ⟨z,hz,e⟩=>?_)) x2.size)⟩,hx.out⟩;.have:=T1.tk y2 (by unfold Yb;decide) (by unfold Yb;decide);rw[iM]at this;exact this
     .subst e;have hr:=N1.q7.row z hz;unfold Row at hr;rw[hr]at hc;cases hc
    replace hsg:=aL hsg;clear N1 C1 T1 O1 A1 x1 s1 NB NC hs hsp hO hX hwc;by_cases hlast:k+1=W.length
    .have hl1:¬(k:Int)<(W.length:Int) -1:=O9;go_wp2;refine hsg.out.mono ?_;rintro e w2 ⟨rfl,hB2,hN2,x2⟩;have hf:=aL (fin.out w2 hB2 hN2 x2);have he:(bP most su (W.map WB.m) mem K).e=E:=by rw[hres.out];exact bE (hrr.out.2 hlast)
     replace he:=aL he;clear hB2 hN2 x2 fin hsg;go_wp2;go_ret2;refine⟨m1,v1,.inr ⟨by rw[he.out];exact hE,by rw[he.out];rfl,x,j,hf.out.2,hj,hf.out.1⟩⟩
    .have hl1:(k:Int)<(W.length:Int) -1:=O9;go_wp2;refine hsg.out.mono ?_;rintro e w2 ⟨rfl,hB2,hN2,x2⟩;have hf:=aL (fin.out w2 hB2 hN2 x2);have he:(bP most su (W.map WB.m) mem K).e=13:=by rw[hres.out];exact aS (λe=>hlast (hrr.out.1 e))
     replace he:=aL he;clear hB2 hN2 x2 fin hsg;go_wp2;go_ret2;refine⟨m1,v1,.inr ⟨by rw[he.out];decide,by rw[he.out];rfl,x,j,hf.out.2,hj,hf.out.1⟩⟩
  .have hk':k=W.length:=O9;subst hk';obtain⟨n1,hn1⟩:∃n1,W.length=n1+1:=⟨W.length -1,O9⟩;obtain⟨ig,ic,hv1⟩:=cO hI.lnk n1 hn1;rw[<-hn1]at hv1;subst hv1;clear hn1;have hres:=hI.res;rw[Wb]at hres;simp only[GL,bP,JR.after,nE]at hres;have GH:=hI.la;rw[iB]at GH;have hend:acp LB w wr nb B most cs bv gc kc cc l Lc tb gs n sb mb v0 st (bP most su (W.map WB.m) mem K) mv v:=by rw[hres];exact⟨hI.nd,hI.aY,hI.iO,hI.tk,hI.sin⟩
   have he:(bP most su (W.map WB.m) mem K).e=0:=by rw[hres]
   have hls:Lk.map eJ.st=(bP most su (W.map WB.m) mem K).ls:=by rw[hres]
   have agI:=aL hI.lnk;have hap:=aL hI.ap;replace hend:=aL hend;replace he:=aL he;replace hls:=aL hls;replace GH:=aL GH;clear hI hres hwc hO hX hsp;go_wp2;go_ret2;exact⟨mv,v,.inl ⟨he.out,⟨ig,ic,Lk,rfl,agI.out,hls.out,GH.out,hap.out⟩,hend.out⟩⟩
def sL:iR:=λ_=>none
def yU(a su):∀(l:List (Int×List JU)) (mem:List cF) (K:iR),(∀p c,K p=some c->c.pt=p)->y8 K->(∀x∈l,x.1<9223372036854775808/\x.2.length<=8/\∀t∈x.2,t.id.size<=1000000/\(∀i∈t.ins,i.Small)/\t.ins.length<=8/\t.outs.length<=8/\∀o∈t.outs,o.Small)->(bP a su l mem K).K=goes K (bP a su l mem K).st/\fH K (bP a su l mem K).st/\y8 (bP a su l mem K).K/\(bP a su l mem K).st.length<=200*l.length/\((bP a su l mem K).e=0->(bP a su l mem K).st=(bP a su l mem K).ls.flatten/\(bP a su l mem K).ls.length=l.length)
 |[],mem,K,_,f,_=>⟨rfl,trivial,f,L9,λ_=>⟨rfl,rfl⟩⟩
 |x::r,mem,K,m,f,hl=>by
   have d:=hl x S8;have b:=xy a su x.1 x.2 mem m (λt g=>have q:=d.2.2 t g;⟨q.1,q.2.1,q.2.2.2.1⟩);have h:=FU a su x.1 x.2 mem d.1 f d.2.1 (λt g=>have q:=d.2.2 t g;⟨q.2.2.1,q.2.2.2.1,q.2.2.2.2⟩);by_cases h0:(bY a su x.1 x.2 mem K []).1=0
   .have⟨j,k,a3,a4,a5⟩:=yU a su r (bY a su x.1 x.2 mem K []).2.2 _ b.pt h.1 (λy n=>hl y (by simp[n]));rw[bP,aS (by rw[h0];simp)];refine⟨?_,b.ok.append ?_,a3,?_,λe=>?_⟩;.rw[j,gG,<-b.at_]
    .rw[<-b.at_];exact k
    .grind
    .simp_all
   .rw[bP,bE h0];simp only;refine⟨b.at_,b.ok,h.1,?_,λe=>?_⟩;.grind
    .omega
structure Qa(π:World)(tb gs n:Nat)(sb mb:Nat->Nat)(L:List eJ)(k:Nat)(W:World):Prop where
 aY:aQ W gs n sb mb (goes sL (dN (L.take (L.length -k))))
 iO:∃v,bL W tb gs n v (lR (dN (L.drop (L.length -k))))
 x:Xo (Aq n mb tb) (tb+1) wR π W
def Qa.own{c tb gs n sb mb L}(u:∀i,i<n->mb i<↑c):OwnFrom c.heap.size (Qa c tb gs n sb mb L):=by
 intro k W W' row h a hr;have d:∀r,row=some r->∃o:Obj,W.heap[r]?=some o/\o.isCells=false:=λr e=>(hr r e).2;have q:∀(g:Nat) (t:TypeId) (cs:List Value),Row W g t cs->Row W' g t cs:=λg t cs r=>lQ a d _ _ _ _ r;have x:Xc (λk=>row=some k) W W':=⟨a.os,a.tape,a.output,a.size,λk j p=>a.block k j (λe=>p e.symm)⟩;have l:∀(g:Nat) (t:TypeId) (cs:List Value),Row W g t cs->¬row=some g:=λg t cs r e=>by have⟨o,m,b⟩:=d g e;rw[r]at m;cases m;simp[Obj.isCells]at b
 refine⟨h.aY.xc x (l _ _ _ h.aY.arr) (λi hi=>l _ _ _ (h.aY.sh i hi)) (λi hi e=>?_),?_,?_⟩;.grind
 .have⟨s,f⟩:=h.iO;exact⟨s,⟨q _ _ _ f.row,dH f.own (λk cs _ _ b=>(lQ a d _ _ _ _ b).trans b.symm)⟩⟩
 .refine R6 h.x x (λk j e=>?_);have:=(hr _ e).1;omega
def Qa.grown{a tb gs n sb mb L}(b:∀i,i<n->mb i<↑a){k W}(h:Qa a tb gs n sb mb L k W)(o):Qa a tb gs n sb mb L k (W.alloc o):=Qa.own b k W _ none h (Wa W o none) (λr e=>by cases e)
def vW.xo{tb n mb w w' g l}(h:vW w g l)(x:Xo (Aq n mb tb) (tb+1) wR w w')(j:g<tb)(c:∀k,lA n mb k->∃o,w.heap[k]?=some o/\o.isCells=false):vW w' g l:=by
 have⟨cs,f,a⟩:=h.ty;have:=x.block g (bF a) (by
  rintro((e|e)|⟨e,_⟩);.have⟨o,b,d⟩:=c g e;rw[a]at b;cases b;simp[Obj.isCells]at d
  .omega
  .omega)
 exact⟨⟨cs,f,this.trans a⟩,λi s hi=>(h.at_ i s hi).same this⟩
def Qa.call{a W tb gs n sb mb L k i x}(h:Qa a tb gs n sb mb L k W)(B:∀k,lA n mb k->∃o,a.heap[k]?=some o/\o.isCells=false)(m:L[i]?=some x)(hi:i+k+1=L.length)(j:fH sL (dN L))(hl:(dN L).length<=20000)(t:x.st=[]\/∃g,x.sa=some ⟨g,0,none⟩/\g<tb/\vW a g x.st):Cv 70 #[ptr tb,.slice x.sa x.st.length x.sc] W λe w'=>e=.returned (.tuple #[])/\Qa a tb gs n sb mb L (k+1) w'/\Xo (Aq n mb tb) (tb+1) wR W w':=by
 have⟨v,l⟩:=h.iO;have p:L.length -k=i+1:=O9;have e2:L.length -(k+1)=i:=O9;have s:L.take (i+1)=L.take i++[x]:=by rw[zl,m];rfl
 have q:L.drop i=x::L.drop (i+1):=by have⟨A,w⟩:=cB.1 m;rw[xQ A,w]
 have b:=h.aY;rw[p]at b l;have r:dN (L.take (i+1))=dN (L.take i)++x.st:=by rw[s,qf];simp[dN]
 have d:dN (L.drop i)=x.st++dN (L.drop (i+1)):=by rw[q];simp[dN]
 have c:dN L=dN (L.take i)++(x.st++dN (L.drop (i+1))):=by rw[<-d,<-qf,zk]
 rw[r,gG]at b;rw[c]at j hl;have u:=j.left.2.left.1;have hlen:(lR (dN (L.drop (i+1)))).length+x.st.length<=100000:=by rw[bW,bW]at hl;rw[xz];omega
 have z:x.st=[]\/∃g,x.sa=some ⟨g,0,none⟩/\(g<=tb\/x.st<+:lR (dN (L.drop (i+1))))/\vW W g x.st:=by
  obtain e|⟨g,e,y,c⟩:=t;.exact .inl e
  .exact .inr ⟨g,e,.inl O9,c.xo h.x y B⟩
 refine(ady x.sa x.sc W b l u hlen z).mono ?_;rintro e w' ⟨rfl,h1,⟨C,h2⟩,f⟩;refine⟨rfl,⟨by rw[e2];exact h1,⟨C,?_⟩,qY h.x f⟩,f⟩;rw[e2,d,JI];exact h2
def Z8(d gc a c1 f b c2 L c w)(q:0<a)(r:0<b)(q0:w.cell? (d,0)=some (.slice (some ⟨gc,0,none⟩) a c1))(p:w.cell? (d,1)=some (.slice (some ⟨f,0,none⟩) b c2))(l:L.length=a*2)(n:∀u∈L,u.oneCell'=true)(o:∀j u,L[j]?=some u->w.cell? ⟨gc,j,none⟩=some u)(g:c.length=b*2)(h:∀u∈c,u.oneCell'=true)(i:∀j u,c[j]?=some u->w.cell? ⟨f,j,none⟩=some u)(s:a<=400)(t:b<=400):
 Cv 74 #[.slice (some ⟨d,0,none⟩) 2 2] w λe w'=>∃v,e=.returned v/\w'.ownsRow w 123 2 v (a+b) (L++c)/\Below w w w':=by
 obtain⟨k,rfl⟩:∃k,a=k+1:=⟨a -1,O9⟩;obtain⟨m,rfl⟩:∃m,b=m+1:=⟨b -1,O9⟩;exact ack d gc k c1 f m c2 L c w q0 p l n o g h i O9 O9
def oI.af1{w nb B f gc kc cc d a c cs L e bv mv l mem}(h:oI w nb B f cs bv mv gc kc cc l L mem)(i:w.ownsRow B 123 2 (.slice (some ⟨d,0,none⟩) (a+1) c) (a+1) e):oI (w.setCell (nb,12) (.slice d (a+1) c)) nb B f (cs.set 12 (.slice d (a+1) c)) bv mv d a c l e mem:=by
 have x:Ck 0 (λu=>u=107) w (w.setCell (nb,12) (.slice d (a+1) c)):=(nA (n:=0) (mb:=λ_=>0) h.mem.row _ (eX _)).ck;have hl:=(cB.1 h.mem.UO).1;refine⟨⟨h.mem.row.set 12 _,?_,?_,sI h.mem.own x D9,bI h.mem.base x.size⟩,?_,?_,⟨sI h.q7.own x D9,λb g=>(h.q7.row b g).ck x D9⟩,sI i x D9⟩;.rw[sV D9];exact h.mem.UO
 .rw[sV D9];exact h.mem.Ip
 .rw[sV D9];exact h.MX
 .grind
def JK{gs n tb sb mb K0 v l}(x bt f w)(h:w.cell? (f,0)=some ↑aF)(B:w.cell? (bt,0)=some (.pointer tb))(i:aQ w gs n sb mb (goes K0 l))(a:bL w tb gs n v l)(r:fH K0 l)(hl:l.length<=40000)(p:LB<=tb):CallsDIn Fence.wide x Vp 69 #[.pointer (some ⟨f,0,none⟩),.pointer (some ⟨bt,0,none⟩)] .returning w (λe y w'=>y=.returning/\(∃v,e=.returned v)/\aQ w' gs n sb mb K0/\Tk LB Yt n mb w w'/\Xo (Aq n mb tb) (tb+1) wR w w'):=by
 have t:l=[]\/∃g,(∃c,v=.slice (some ⟨g,0,none⟩) l.length c)/\vW w g l:=by
  obtain⟨d,h0⟩|⟨g,cap,cur,d,_⟩:=a.own.2;.exact .inl (nP h0)
  .have j:=a.own;rw[d]at j;exact .inr ⟨g,⟨cap,d⟩,Ss j⟩
 obtain⟨va,vc,rfl⟩:=bD a.own;have t1:=a.row.r 1;have b:Below w w w.drew:=cM B0;have u:Cv 70 #[.pointer tb,.slice va l.length vc] w.drew λe w'=>∃m,e=.returned m/\(aQ w' gs n sb mb K0/\Tk LB Yt n mb w w'/\Xo (Aq n mb tb) (tb+1) wR w w'):=by
  refine(ady va vc w.drew (i.keep b) ⟨a.row.keep b a.row.lt,aT a.own b⟩ r O9 ?_).mono ?_
  .obtain e|⟨g,⟨c,e⟩,q⟩:=t;.exact .inl e
   .cases e;exact .inr ⟨g,rfl,.inr (sN _),q.keep b⟩
  .rintro e w' ⟨rfl,h1,_,h2⟩;exact⟨_,rfl,h1,(Av b).trans (Sp h2 (i.keep b) ⟨a.row.keep b a.row.lt,aT a.own b⟩ p),qY (iN b) h2⟩
 have s:Hid (∀(k:Array Value) (w:World),(callFunc 70 k).run Vp w=.ok (.enter 70 k) w):=λ_ _=>by kernel_rfl
 refine wz (fA Tryz.func69) rfl ?_;go_wp2;go_region_law (refine jR 70 rfl _ _ rfl #[.pointer tb,.slice va l.length vc] E9 _ u (s.out _ _) ?_;rintro m w1 ⟨o,z,A⟩);all_goals go_wp2
 all_goals go_end0
 all_goals exact⟨⟨_,rfl⟩,o,z,A⟩
end
end Go.Proofs.aH
