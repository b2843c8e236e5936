import Derived.LaidEqlPtr
import Derived.Laws.OwnMore
import Derived.Test.YtpjcmpfncpnmeabGreatM13
set_option linter.all false
set_option maxHeartbeats 16000000
set_option maxRecDepth 100000
namespace Go.Proofs.aH
open Go.RowKit
def cW.flip(s:cW):cW:=⟨s.jT,!s.Dn⟩
def lS(l:List cW):List cW:=l.reverse.map cW.flip
def Gf(s l):lS (s::l)=lS l++[s.flip]:=by simp[lS]
def JX(l m):lS (l++m)=lS m++lS l:=by simp[lS]
def xn(l):(lS l).length=l.length:=by simp[lS]
def iX(K l m):goes K (l++m)=goes (goes K l) m:=by simp[goes]
def acE(K s):yV K s.flip=Ak K s:=by unfold yV Ak cW.flip;cases s.Dn<;>simp
def eZ.left:∀{l m:List cW} {K:jO},eZ K (l++m)->eZ K l/\eZ (goes K l) m
 |[],_,_,h=>⟨trivial,h⟩
 |_::_,_,_,h=>have q:=eZ.left h.2;⟨⟨h.1,q.1⟩,q.2⟩
def acF{K s}(h:ok1 K s):ok1 (yV K s) s.flip:=by refine⟨h.1,?_⟩;unfold yV cW.flip;cases s.Dn<;>simp[jO.put,jO.take]
def Vr{K l}(h:eZ K l):eZ (goes K l) (lS l)/\goes (goes K l) (lS l)=K:=by induction l generalizing K with
 |nil=>exact⟨trivial,rfl⟩
 |cons s m b=>
   have⟨c,a⟩:=b h.2;rw[Gf];show eZ (goes (yV K s) m) _/\goes (goes (yV K s) m) _=K;refine⟨c.snoc ?_,?_⟩;.rw[a];exact acF h.1
   .rw[tO,a,acE,adJ h.1]
def JS.pre(p:List cW)(s:JS):JS:={s with steps:=p++s.steps}
def NL(id h p):∀l sp s,ny id h l sp (s.pre p)=((ny id h l sp s).1,(ny id h l sp s).2.1,(ny id h l sp s).2.2.pre p)
 |[],sp,s=>rfl
 |x::r,sp,s=>by cases a:s.K (x.tx,x.idx)with
   |none=>rw[tM a,tM (s:=s.pre p) a]
   |some c=>rw[tL a,tL (s:=s.pre p) a,<-NL id h p r _ _];simp[F7,JS.pre]
def IQ(id h p):∀l i s,mH id h l i (s.pre p)=(mH id h l i s).pre p
 |[],i,s=>rfl
 |o::r,i,s=>by unfold mH;rw[<-IQ id h p r _ _];simp[JS.pre]
def C3(x h p s):fC x h (s.pre p)=((fC x h s).1,(fC x h s).2.pre p):=by unfold fC;rw[IQ];show(if anyM s.K x.id then _ else _)=_;split<;>rfl
def Vs(x h su p s):kA x h su (s.pre p)=((kA x h su s).1,(kA x h su s).2.pre p):=by unfold kA;rw[C3];show(if fI x.outs>su+s.jA then _ else _)=_;split<;>rfl
def Vt(x h p s):fU x h (s.pre p)=((fU x h s).1,(fU x h s).2.pre p):=by
 unfold fU;simp only;rw[NL];split;.rfl
 .split;.rfl
  .exact C3 x h p {(ny x.id h x.ins 0 s).2.2 with jA:=(ny x.id h x.ins 0 s).2.2.jA+((ny x.id h x.ins 0 s).2.1 -fI x.outs)}
def Gg(h p):∀l s,iL h l (s.pre p)=((iL h l s).1,(iL h l s).2.pre p)
 |[],s=>rfl
 |x::r,s=>by
   have e:=Vt x h p s;by_cases h0:(fU x h s).1=0;.rw[pP h0,pP (s:=s.pre p) (by rw[e];exact h0),e,Gg h p r]
   .rw[pQ h0,pQ (s:=s.pre p) (by rw[e];exact h0),e]
def Vu(a su h cO mem K p):bP a su h cO mem K p=((bP a su h cO mem K []).1,(bP a su h cO mem K []).2.1.pre p,(bP a su h cO mem K []).2.2):=by
 have e:iL h (cO.drop 1) ⟨K,p,0,[]⟩=((iL h (cO.drop 1) ⟨K,[],0,[]⟩).1,(iL h (cO.drop 1) ⟨K,[],0,[]⟩).2.pre p):=by rw[<-Gg];simp[JS.pre]
 unfold bP;simp only;rw[e];split;.rfl
 .cases cO with
  |nil=>rfl
  |cons x r=>
    simp only;rw[Vs];split;.rfl
    .rfl
open Go.Shelf Go.Seq Tryz
section
attribute [local go_sem] Oper.semAt_some
def vP.agm{w w' g tb gs n b l t m}(h:vP w g l)(q:g<=tb\/l<+:t)(c:bM w' tb gs n b (t++m))(o:Old b w w'):vP w' g l:=by
 have⟨cs,f,d⟩:=h.ty;by_cases e:b.ownBlock=some g
 .obtain⟨a,_⟩|⟨g',cap,cur,a,p,k,_⟩:=c.own.2;.rw[a]at e;cases e
  .rw[a]at e;cases e;obtain q|⟨r,rfl⟩:=q;.grind
   .refine⟨⟨_,_,k⟩,λi s hi=>?_⟩;have j:=c.own;rw[a]at j;exact Ge j (by rw[iG,nz (cE.1 hi).1];exact hi)
 .have:=o g cs f d e;exact⟨⟨cs,f,this⟩,λi s hi=>(h.at_ i s hi).same (this.trans d.symm)⟩
structure rp(w:World)(tb gs n:Nat)(sb mb:Nat->Nat)(K0:jO)(va:Option Addr)(vc:Nat)(t l:List cW)(k:Nat)(W:World):Prop where
 bt:Row W w.heap.size 159 [ptr tb]
 bn:Row W (w.heap.size+1) 121 [.slice va l.length vc]
 aV:aQ W gs n sb mb (goes K0 (l.take (l.length -k)))
 iH:∃v',bM W tb gs n v' (t++lS (l.drop (l.length -k)))
 lie:l=[]\/∃g,va=some ⟨g,0,none⟩/\(g<=tb\/l<+:t)/\vP W g l
 x:Xo (Al n mb tb) (tb+1) wL w W
def rp.own{w tb gs n sb mb K0 va vc t l}(z:∀i,i<n->mb i<↑w):OwnFrom (↑w+2) (rp w tb gs n sb mb K0 va vc t l):=by
 intro k W W' row h a hr;have c:∀r,row=some r->∃o:Obj,W.heap[r]?=some o/\o.isCells=false:=λr e=>(hr r e).2;have d:∀(g:Nat) (t:TypeId) (cs:List Value),Row W g t cs->Row W' g t cs:=λg t cs r=>lR a c _ _ _ _ r;have x:Xc (λk=>row=some k) W W':=⟨a.os,a.tape,a.output,a.size,λk m v=>a.block k m (λe=>v e.symm)⟩;have p:∀(g:Nat) (t:TypeId) (cs:List Value),Row W g t cs->¬row=some g:=λg t cs r e=>by have⟨o,u,b⟩:=c g e;rw[r]at u;cases u;simp[Obj.isCells]at b
 refine⟨d _ _ _ h.bt,d _ _ _ h.bn,h.aV.xc x (p _ _ _ h.aV.arr) (λi hi=>p _ _ _ (h.aV.sh i hi)) (λi hi e=>?_),?_,?_,?_⟩;.grind
 .have⟨y,j⟩:=h.iH;exact⟨y,⟨d _ _ _ j.row,dF j.own (λk cs _ _ b=>(lR a c _ _ _ _ b).trans b.symm)⟩⟩
 .obtain e|⟨g,e,q,hl⟩:=h.lie;.simp_all
  .have⟨cs,f,b⟩:=hl.ty;have:=lR a c _ _ _ _ b;exact .inr ⟨g,e,q,⟨cs,f,this⟩,λi s hi=>(hl.at_ i s hi).same (this.trans b.symm)⟩
 .refine Sw h.x x (λk m e=>?_);have:=(hr _ e).1;omega
def aaq:=@rp.own
def rp.grown{w tb gs n sb mb K0 va vc t l}(a:∀i,i<n->mb i<↑w){k W}(h:rp w tb gs n sb mb K0 va vc t l k W)(o):rp w tb gs n sb mb K0 va vc t l k (W.alloc o):=aaq a k W _ none h (WL W o none) (λr e=>by cases e)
def rp.next{w W W' tb gs n sb mb K0 d va vc c t l k i s}(h:rp w tb gs n sb mb K0 va vc t l k W)(b:l[i]?=some s)(hi:i+k+1=l.length)(z:eZ K0 l)(y:aQ W' gs n sb mb d)(j:d=Ak (goes K0 (l.take (i+1))) s)(a:bM W' tb gs n c (t++lS (l.drop (i+1))++[s.flip]))(C:Old c W W')(o:Xo (Al n mb tb) (tb+1) wL W W'):rp w tb gs n sb mb K0 va vc t l (k+1) W':=by
 have⟨v0,p⟩:=h.iH;have f:l.length -(k+1)=i:=O9;have v:l.drop i=s::l.drop (i+1):=by have⟨B,A⟩:=cE.1 b;rw[xL B,A]
 have u:t++lS (l.drop (i+1))++[s.flip]=t++lS (l.drop (l.length -(k+1))):=by rw[f,v,Gf,iG]
 rw[u]at a;have m:∀(g:Nat) (t:TypeId) (cs:List Value),Row W g t cs->t≠195->t≠161->Row W' g t cs:=λg t cs r h1 h2=>r.xo o (λe=>by
  obtain e|e:=e;.exact h.aV.mF r e
  .exact r.ne p.row h2 e) (.inr h1)
 refine⟨m _ _ _ h.bt D9 D9,m _ _ _ h.bn D9 D9,?_,⟨c,a⟩,h.lie.imp id (λ⟨g,e,q,hl⟩=>⟨g,e,q,hl.agm q a C⟩),qZ h.x o⟩;rw[f];rw[BL b,tO,adJ (z.at_ b)]at j;rw[<-j];exact y
def adN{gs n tb sb mb K0 v t l}(va vc w)(V:aQ w gs n sb mb (goes K0 l))(O:bM w tb gs n v t)(π:eZ K0 l)(hl:t.length+l.length<=100000)(ab:l=[]\/∃g,va=some ⟨g,0,none⟩/\(g<=tb\/l<+:t)/\vP w g l):Cv 70 #[ptr tb,.slice va l.length vc] w λe w'=>e=.returned (.tuple #[])/\aQ w' gs n sb mb K0/\(∃af,bM w' tb gs n af (t++lS l))/\Xo (Al n mb tb) (tb+1) wL w w':=by
 have G:∀i,i<n->mb i<w.heap.size:=λi hi=>(V.mp i hi).lt;unfold ptr;refine CI (fA func70) rfl ?_;simp only[ntmps70,oH,fL,jU,Nat.reduceAdd,Nat.reduceSub,Q7,Q8,Q9,KI,vI,D3];go_wp2;refine(JU (.slice va l.length vc) ⟨va,_,vc,rfl⟩ _).mono ?_;rintro e w1 ⟨rfl,rfl⟩;go_wp2;have T:∃Rd,Mb Fence.wide 2 Vp 126 #[.pointer (some ⟨w.heap.size+1,0,none⟩)] (ND l.length (Z6 l)) l.length Rd/\∀k W,rp w tb gs n sb mb K0 va vc t l k W->Rd W:=by
  obtain rfl|⟨g,rfl,_,_⟩:=ab;.exact⟨_,Vl _ vc va _,λk W h=>h.bn.cell 0⟩
  .refine⟨_,Z3 _ g l.length vc (Z6 l) O9,λk W h=>⟨h.bn.cell 0,λi hi=>?_⟩⟩;have c:=bS hi;rw[SN c];obtain rfl|⟨g',e,_,aj⟩:=h.lie;.simp at hi
   .cases e;exact aj.at_ i _ c
 have⟨Rd,T,ak⟩:=T;have y:Below w.heap.size w ((w.alloc (.cells #[.pointer (some ⟨tb,0,none⟩)] 159)).alloc (.cells #[.slice va l.length vc] 121)):=(B0.alloc L9 _).alloc S8 _;have I:((w.alloc (.cells #[.pointer (some ⟨tb,0,none⟩)] 159)).alloc (.cells #[.slice va l.length vc] 121)).heap.size=w.heap.size+2:=by simp
 have h0:rp w tb gs n sb mb K0 va vc t l 0 ((w.alloc (.cells #[.pointer (some ⟨tb,0,none⟩)] 159)).alloc (.cells #[.slice va l.length vc] 121)):=by
  refine⟨(aU w [ptr tb] 159).alloc _,Am S8,?_,⟨v,?_⟩,?_,iW y⟩;.rw[Ra,jI];exact V.keep y
  .rw[Ra,WM];show bM _ _ _ _ _ (t++[]);rw[oL];exact⟨O.row.keep y O.row.lt,aX O.own y⟩
  .obtain e|⟨g,e,q,hl⟩:=ab;.exact .inl e
   .have⟨cs,f,aa⟩:=hl.ty;have:=(y.block g (bE aa));exact .inr ⟨g,e,q,⟨cs,f,this.trans aa⟩,λi s hi=>(hl.at_ i s hi).same this⟩
 generalize(w.alloc (.cells #[.pointer (some ⟨tb,0,none⟩)] 159)).alloc (.cells #[.slice va l.length vc] 121)=X at y I h0|-;refine Mc (gf:=126) (lb:=#[.pointer (some ⟨w.heap.size+1,0,none⟩)]) rfl (enters_of (fA func126) K8 rfl) T (λk=>rfl) (rp w tb gs n sb mb K0 va vc t l) (by rw[I];exact aaq G) ak h0 (λk a' W=>∃a i s,l[i]?=some s/\i+k+1=l.length/\Row W a 195 s.cells/\a'={tmps:=#[.pointer (some ⟨tb,0,none⟩),.slice va l.length vc,.pointer (some ⟨w.heap.size,0,none⟩),undef,undef,.pointer (some ⟨a,0,none⟩),.slice va l.length vc,.func (.func 126) #[] #[.pointer (some ⟨w.heap.size+1,0,none⟩)],↑(i:Int),s.v,undef,undef,undef,undef,undef,undef,undef,undef,undef,undef,undef],defers:=[]}) ?assign ?ax ?body ?done
 case ax=>rintro k a' W C o o' ⟨a,i,s,h1,h2,j,z⟩ a2 ar au;exact⟨a,i,s,h1,h2,lR (grownBy_putObj' W C o') (λr e=>by cases e;exact⟨o,ar,au⟩) _ _ _ _ j,z⟩
 case assign=>
  intro C k W av ao b B;obtain⟨i,hi⟩:∃i,i+k+1=l.length:=⟨l.length -k -1,O9⟩;have c:=bS (show i<l.length by omega);generalize l[i]=s at c;have p:ND l.length (Z6 l) k=#[↑(i:Int),s.v]:=by unfold ND;rw[show l.length -1 -k=i from by omega,SN c]
  rw[p];have ai:=λa' W' h1 h2 j=>B a' W' h1 h2 j;clear B;unfold cW.v;gi_wp2;exact ai _ _ ((KeepsOthers.alloc _ _).from _) (b.grown G _) ⟨W.heap.size,i,s,c,hi,aU W s.cells _,rfl⟩
 case body=>
  rintro C k a' W ao b ⟨a,i,s,c,hi,R,rfl⟩;rw[I];have p:l.length -k=i+1:=O9;have A:=b.aV;rw[p,BL c,tO]at A;have H:=π.at_ c;have⟨af,u⟩:=b.iH;rw[p]at u;have F:(t++lS (l.drop (i+1))).length<=100000:=by rw[bY,xn,BW];omega
  have Q:∀i,i<n->mb i<w.heap.size+2:=λi hi=>by have:=G i hi;omega
  have ae:=R.r 6;have ay:W.cell? ⟨w.heap.size,0,none⟩=some (.pointer (some ⟨tb,0,none⟩)):=b.bt.cell 0;have c0:=R.r 0;have c1:=R.r 1;have c2:=R.r 2;have c3:=R.r 3;have c4:=R.r 4;have c5:=R.r 5;have S:=u.row;have fin:Hid (∀(J:jO) (v2:Value) (m:World),aQ m gs n sb mb J->J=Ak (goes K0 (l.take (i+1))) s->bM m tb gs n v2 (t++lS (l.drop (i+1))++[s.flip])->Old v2 W m->Xo (Al n mb tb) (tb+1) wL W m->KeepsFrom (w.heap.size+2) W m/\rp w tb gs n sb mb K0 va vc t l (k+1) m):=λJ v2 m ag ah a3 a5 μ=>⟨Z5.mem (gs:=gs) (sb:=sb) (K:=K0) Q μ ⟨_,S⟩,b.next c hi π ag ah a3 a5 μ⟩
  have e2:goes K0 (l.take (i+1))=yV (goes K0 (l.take i)) s:=by rw[BL c,tO]
  cases d:s.Dn with
  |true=>
    have P:Hid (Cv 93 #[.pointer (some ⟨tb,0,none⟩),.agg #[↑s.jT.tx,↑s.jT.idx]] W λe w'=>∃E,e=.returned E/\KeepsFrom (w.heap.size+2) W w'/\rp w tb gs n sb mb K0 va vc t l (k+1) w'):=by
     refine(F5 s.jT.pt W A u H.1 F).mono ?_;rintro e w' ⟨h1,h2,⟨v2,j,z,-⟩,M⟩;refine⟨_,h1,?_⟩;have e3:yV (goes K0 (l.take i)) s s.jT.pt=some s.jT:=by unfold yV;rw[d];simp[jO.put]
     have L:s.flip=⟨s.jT,false⟩:=by unfold cW.flip;rw[d];rfl
     rw[e3]at j;exact fin.out _ _ _ h2 (by rw[e2];simp[Ak,d]) (by rw[L];exact j) z M
    rw[d]at ae;clear A H u S fin e2 b F Q p d R;gi_wp2;refine⟨trivial,(CallsIn.inRound C (callsIn_wide.2 P.out)).mono ?_⟩;rintro e w2 ⟨E,rfl,h1,h2⟩;gi_wp2;exact⟨h1,h2⟩
  |false=>
    have P:Hid (Cv 94 #[.pointer (some ⟨tb,0,none⟩),.agg #[↑s.jT.tx,↑s.jT.idx,↑s.jT.val,↑s.jT.lock,↑s.jT.aY,aD]] W λe w'=>∃E,e=.returned E/\KeepsFrom (w.heap.size+2) W w'/\rp w tb gs n sb mb K0 va vc t l (k+1) w'):=by
     refine(IC s.jT W A u H.1 (age d) F).mono ?_;rintro e w' ⟨h1,h2,⟨v2,j,z,-⟩,M⟩;refine⟨_,h1,?_⟩;have L:s.flip=⟨s.jT,true⟩:=by unfold cW.flip;rw[d];rfl
     exact fin.out _ _ _ h2 (by rw[e2];simp[Ak,d]) (by rw[L];exact j) z M
    rw[d]at ae;clear A H u S fin e2 b F Q p d R;gi_wp2;refine⟨trivial,(CallsIn.inRound C (callsIn_wide.2 P.out)).mono ?_⟩;rintro e w2 ⟨E,rfl,h1,h2⟩;gi_wp2;exact⟨h1,h2⟩
 case done=>
  rintro D W Y b B;rw[I]at Y;have az:=b;have N:=aaq (tb:=tb) (gs:=gs) (sb:=sb) (K0:=K0) (va:=va) (vc:=vc) (t:=t) (l:=l) G l.length W (W.putObj D (.deferred none)) (some D) b (grownBy_putObj' W D _) (λr e=>by cases e;exact⟨Y,_,B,rfl⟩);simp only[Exit.inBlock];refine wh B (yA (KB rfl _ _ _) ⟨rfl,?_,?_,N.x⟩);.have:=N.aV;rw[sW]at this;exact this
  .have:=N.iH;rw[sW]at this;exact this
structure eI where
 a:Nat
 st:List cW
 sa:Option Addr
 sc:Nat
def eI.cells(x:eI):List Value:=[.pointer (some ⟨x.a,0,none⟩),.slice x.sa x.st.length x.sc]
def eI.v(x:eI):Value:=.agg #[.pointer (some ⟨x.a,0,none⟩),.slice x.sa x.st.length x.sc]
def eJ(l:List eI):List Value:=l.flatMap eI.cells
def eI.At(w:World)(x:eI):Prop:=x.st=[]\/∃g,x.sa=some ⟨g,0,none⟩/\vP w g x.st
def dP(l:List eI):List cW:=l.flatMap eI.st
def Gh(l):(eJ l).length=l.length*2:=by induction l with
 |nil=>rfl
 |cons x l a=>have e:eJ (x::l)=x.cells++eJ l:=rfl;rw[e,bY,fL];show 2+_=_;omega
def sO(l m):eJ (l++m)=eJ l++eJ m:=by simp[eJ]
def qf(l m):dP (l++m)=dP l++dP m:=by simp[dP]
def uM:∀l i x,l[i]?=some x->(eJ l)[i*2]?=some (.pointer x.a)/\(eJ l)[i*2+1]?=some (.slice x.sa x.st.length x.sc)
 |[],i,x,h=>by simp at h
 |y::l,0,x,h=>by simp at h;subst h;exact⟨rfl,rfl⟩
 |y::l,i+1,x,h=>by have:=uM l i x (by simpa using h);have e:eJ (y::l)=[.pointer (some ⟨y.a,0,none⟩),.slice y.sa y.st.length y.sc]++eJ l:=rfl;rw[e];simp only[show(i+1)*2=2+i*2 from by omega,show 2+i*2+1=2+(i*2+1)from by omega];rw[eK S8,eK S8];simpa using this
def yP(l):∀u∈eJ l,u.oneCell'=true:=by intro u a;have⟨s,_,h⟩:=List.mem_flatMap.1 a;simp[eI.cells]at h;obtain rfl|rfl:=h<;>rfl
structure ae3(W:World)(g o:Nat)(x:eI):Prop where
 c0:W.cell? ⟨g,o,none⟩=some (.pointer (some ⟨x.a,0,none⟩))
 c1:W.cell? ⟨g,o+1,none⟩=some (.slice x.sa x.st.length x.sc)
def Gi(N:Nat)(st:Nat->eI)(k:Nat):Array Value:=#[.int .i64 ((N -1 -k:Nat):Int),(st (N -1 -k)).v]
def ae4(Bn g o N c:Nat)(st:Nat->eI)(W:World):Prop:=W.cell? ⟨Bn,0,none⟩=some (.slice (some ⟨g,o,none⟩) N c)/\∀i,i<N->ae3 W g (o+i*2) (st i)
def Vv(d g o N c)(st:Nat->eI)(hN:N<=100000):Mb Fence.wide 2 Vp 97 #[.pointer (some ⟨d,0,none⟩)] (Gi N st) N (ae4 d g o N c st):=by
 intro l m W y f r h0;refine callsIn_of_wp (fA Tryz.func97) rfl trivial ?_ rfl;simp only[Tryz.ntmps97,oH,fL,jU,Nat.reduceAdd,Nat.reduceSub,Q7,Q8,Q9,KI,vI,D3];have w:=(f 0 W h0).1;gi_wp2;gi_loopw [3] (λp wr=>∃k:Nat,k<=N/\p=↑((N:Int) -1 -(k:Int))/\m k wr) (λp _=>(intOf p+1).toNat);case atStart=>exact⟨0,O9,S8,h0⟩
 case round=>
  obtain⟨k,z,rfl,b⟩:=hrel;by_cases t:k<N;.obtain⟨i,hi⟩:∃i,N=i+k+1:=⟨N -k -1,O9⟩;have a:(N:Int) -1 -(k:Int)=(i:Int):=O9;have e2:N -1 -k=i:=O9;have⟨x,h⟩:=f k wr b;have⟨c0,c1⟩:=h i O9;have⟨fn,tmps,assign,body,j,q⟩:=r k wr b t;unfold Gi eI.v at j;rw[e2]at j;rw[a];have A:(i:Int)<(N:Int):=O9;have e3:=aL (show(i:Int) -1=(N:Int) -1 -((k+1:Nat):Int)from by omega);clear a e2 hi h;gi_wp2;refine q.mono ?_;rintro e u ⟨rfl,n⟩;gi_wp2;go_roundw;exact⟨k+1,O9,by rw[<-e3.out],n⟩;simp[intOf]
  .have s:k=N:=O9;subst s;have a:(k:Int) -1 -(k:Int)=-1:=O9;rw[a];gi_wp2;go_end0;exact⟨⟨_,rfl⟩,b⟩
end
attribute [local go_sem↓] Go.wp_at_zero Go.wp_at_succ
def GX(P:List Value)(i:Nat):List Value:=(List.range P.length).map λt=>if t<i\/P.length -i<=t then P.getD (P.length -1 -t) (.pointer none)else P.getD t (.pointer none)
def tP(P i):(GX P i).length=P.length:=by simp[GX]
def xp(P i t)(h:t<P.length):(GX P i)[t]?=if t<i\/P.length -i<=t then P[P.length -1 -t]? else P[t]?:=by
 unfold GX;rw[cT,List.getElem?_range h,dY];split;.grind
 .simp_all
def Vw(P):GX P 0=P:=by
 apply kJ;intro t;by_cases h:t<P.length;.rw[xp P 0 t h,aT O9]
 .rw[pE (by rw[tP];omega),pE O9]
def aar(P i)(h:P.length<=2*i+1):GX P i=P.reverse:=by
 apply kJ;intro t;by_cases a:t<P.length
 .rw[xp P i t a,Hd a];by_cases c:t<i\/P.length -i<=t;.simp_all
  .grind
 .rw[pE (by rw[tP];omega),pE (by rw[zh];omega)]
def Vx(P i j)(e:i+j+1=P.length)(h:i<j){x y}(b:P[i]?=some x)(d:P[j]?=some y):((GX P i).set i y).set j x=GX P (i+1):=by
 apply kJ;intro t;by_cases a:t<P.length
 .rw[xp P (i+1) t a];by_cases c1:t=j;.subst c1;rw[Q5 (by rw[KG,tP];exact a),bD O9,<-b];congr 1;omega
  .rw[sY (fY c1)];by_cases c2:t=i;.subst c2;rw[Q5 (by rw[tP];exact a),bD O9,<-d];congr 1;omega
   .rw[sY (fY c2),xp P i t a];by_cases c:t<i\/P.length -i<=t;.grind
    .grind
 .rw[pE (by rw[KG,KG,tP];omega),pE (by rw[tP];omega)]
def NM{B g c}(P w)(h:w.ownsRow B 114 1 (.slice g P.length c) P.length P)(s:∀u∈P,∃a,u=.pointer a)(hl:P.length<=1000)(o:B<=g):Cv 96 #[.slice (some ⟨g,0,none⟩) P.length c] w λe w'=>e=.returned (.tuple #[])/\w'.ownsRow B 114 1 (.slice g P.length c) P.length P.reverse/\Below B w w':=by
 go_enter fA Tryz.func96,Tryz.ntmps96;go_wp2;go_loopw [2,3] (λi j wr=>∃k:Nat,2*k<=P.length+1/\i=↑k/\j=↑((P.length:Int) -1 -k)/\wr.ownsRow B 114 1 (.slice g P.length c) P.length (GX P k)/\Below B w wr) (λi _ _=>P.length -(intOf i).toNat);exact⟨0,O9,rfl,S8,by rw[Vw];exact h,B0⟩;case round=>
  obtain⟨k,H,rfl,rfl,b,r⟩:=hrel;by_cases I:2*k+1<P.length
  .obtain⟨j,A⟩:∃j,k+j+1=P.length:=⟨P.length -k -1,O9⟩;have t:(P.length:Int) -1 -(k:Int)=(j:Int):=O9;have m:=bS (show k<P.length by omega);have n:=bS (show j<P.length by omega);have⟨d,D⟩:=s _ (s5 (show k<P.length by omega));have⟨f,E⟩:=s _ (s5 (show j<P.length by omega));rw[D]at m;rw[E]at n;have q0:wr.cell? (g,k)=some (.pointer d):=by rw[b.cellAt k O9,xp P k k O9,aT O9];exact m
   have O:wr.cell? (g,j)=some (.pointer f):=by rw[b.cellAt j O9,xp P k j O9,aT O9];exact n
   have f0:=b.frozenAt k;have f1:=b.frozenAt j;have G:=(b.lt g rfl).2;have C:=aL (Vx P k j A O9 m n);have x:=aL ((b.stored k (.pointer f)).1.stored j (.pointer d)).1;have y:=aL ((r.setCell (p:=(g,k)) o (.pointer f)).setCell (p:=(g,j)) o (.pointer d));rw[t];have i0:(0:Int)<=(k:Int):=O9;have J:(k:Int)<(P.length:Int):=O9;have L:(0:Int)<=(j:Int):=O9;have M:(j:Int)<(P.length:Int):=O9;have K:(k:Int)<(j:Int):=O9;have F:k≠j:=O9;go_wp2;have N:j≠k:=λe=>F e.symm;go_region;have q:=x.out;rw[C.out]at q;have l:(((wr.setCell (g,k) (.pointer f)).setCell (g,j) (.pointer d)).drew).ownsRow B 114 1 (.slice g P.length c) P.length (GX P (k+1)):=q;have z:=cX y.out;have v:Hid ((j:Int) -1=(P.length:Int) -1 -((k+1:Nat):Int)):=by unfold Hid;omega
   replace l:=aL l;go_wp2;go_roundw;exact⟨k+1,O9,by go_num,by rw[<-v.out],l.out,z⟩;simp[intOf];omega
  .rw[aar P k O9]at b;go_wp2;go_end0;exact⟨rfl,b,r⟩
def Qn(nb a gc len c k w)(h1:w.cell? (nb,12)=some (.slice (some ⟨gc,0,none⟩) len c))(h2:w.cell? (a,2)=some ↑(k:Int))(hl:len<=k):Cv 95 #[.pointer (some ⟨nb,0,none⟩),.pointer (some ⟨a,0,none⟩)] w λe w'=>e=.returned ↑aF/\Below w w w':=by
 obtain⟨d,rfl⟩:∃d,k=len+d:=⟨k -len,O9⟩;have b:decide ((len:Int)+(d:Int)<(len:Int))=false:=kX O9;go_enter fA func95,ntmps95;go_wp2;go_quiet (fail);go_wp2;go_ret;exact⟨rfl,mY B0⟩
def Vy{w a b d cb}(h:a≠b)(f:Row w a 117 d)(g:Row w b 117 cb)(W)(c:W.heap=w.heap):(binOp .eql 114 (.pointer a) (.pointer b)).run Vp W=.ok ↑aF W:=by have⟨i,hi,j⟩:=G3.1 adK;exact run_eql_ptr_other W aI.underlying114 hi (by rw[j];decide) (λe=>h (by injection e)) (by rw[c];exact f) (by rw[c];exact g)
def Qo(nb a b gc len c k:Nat)(cb cp w)(h1:w.cell? (nb,12)=some (.slice gc len c))(h2:w.cell? (a,2)=some ↑(k:Int))(h:w.cell? (gc,k*2)=some (.pointer b))(f:b≠a)(d:Row w a 117 cb)(g:Row w b 117 cp)(j:k<len)(hl:len<=1000):Cv 95 #[.pointer nb,.pointer a] w λe w'=>e=.returned ↑aF/\Below w w w':=by
 have i:=λn=>Vy f g d (w.drewN n) rfl;go_enter fA func95,ntmps95;go_wp2;go_quiet (fail);go_wp2;go_ret;exact⟨rfl,mY B0⟩
def Vz(x:kH):Value:=.pointer (some ⟨x.a,0,none⟩)
def sliceLen:Value->Nat
 |.slice _ n _=>n
 |_=>0
def VA(nb gc len c)(l:List kH)(t:List Nat)(b q u w)(h1:w.cell? (nb,12)=some (.slice (some ⟨gc,0,none⟩) len c))(ao:t.length=len)(hlen:len<=1000)(O:∀i a,t[i]?=some a->w.cell? (gc,i*2)=some (.pointer (some ⟨a,0,none⟩))/\∃x∈l,x.a=a)(hr:∀x∈l,Row w x.a 117 x.cells/\0<=x.aY)
 (h0:(u++[q])[0]?=some b)(J:∀k x,u[k]?=some x->x∈l/\∃y,(u++[q])[k+1]?=some y/\x.par=some y.a)(ae:∀x∈u,t[x.aY.toNat]?≠some x.a)(az:q∈l)(hq:t[q.aY.toNat]?=some q.a)(ba:0<u.length)(bb:u.length<=1000):
 Cv 71 #[.pointer (some ⟨nb,0,none⟩),.pointer b.a] w λe w'=>∃g c,e=.returned (.slice (some ⟨g,0,none⟩) u.length c)/\w'.ownsRow w 114 1 (.slice (some ⟨g,0,none⟩) u.length c) u.length (u.reverse.map Vz)/\Below w w w':=by
 have D:∀x∈u,x∈l->∀W,Below w w W->Cv 95 #[.pointer nb,.pointer x.a] W λe w'=>e=.returned ↑aF/\Below (W:Nat) W w':=by
  intro x f L W d;have⟨r,hh⟩:=hr x L;have⟨k,o⟩:=BU hh;have N:w.cell? (x.a,2)=some ↑(k:Int):=by rw[<-o];exact r.cell 2
  have ab:=ae x f;rw[o,vF]at ab;by_cases H:k<len;.have aa:=bS (show k<t.length by omega);have⟨c3,y,j,a7⟩:=O k _ aa;have μ:=(hr y j).1;rw[a7]at μ;exact Qo nb x.a _ gc len c k _ _ W (aW d h1) (aW d N) (aW d c3) (λe=>ab (by rw[aa,e])) (r.keep d r.lt) (μ.keep d μ.lt) H hlen
  .exact Qn nb x.a gc len c k W (aW d h1) (aW d N) O9
 have G:∀W,Below w w W->Cv 95 #[.pointer nb,.pointer q.a] W λe w'=>e=.returned ↑aD/\Below (W:Nat) W w':=by
  intro W d;have⟨r,hh⟩:=hr q az;have⟨k,o⟩:=BU hh;have N:w.cell? (q.a,2)=some ↑(k:Int):=by rw[<-o];exact r.cell 2
  rw[o,vF]at hq;have H:=(cE.1 hq).1;exact NG nb q.a gc len c k W (aW d h1) (aW d N) (aW d (O k _ hq).1) O9 hlen
 have E:∀k x y,u[k]?=some x->(u++[q])[k+1]?=some y->w.cell? (x.a,1)=some (.pointer y.a):=by intro k x y f j;have⟨L,bc,af,ay⟩:=J k x f;rw[j]at af;cases af;have:w.cell? (x.a,1)=some (.pointer (x.par.map λp=>⟨p,0,none⟩)):=(hr x L).1.cell 1;rw[ay]at this;exact this
 have F:=λk x f=>(J k x f).2;have s:=λk x f=>(J k x f).1;have A:∀x∈l,x.a<(w:Nat):=λx f=>(hr x f).1.lt;clear ao O hr ae hq J h1;change Hid _ at D G E s F A h0;go_enter fA Tryz.func71,Tryz.ntmps71;go_wp2;go_loopw [5,6] (λM cur wr=>∃(k:Nat) (x:kH),k<=u.length/\(u++[q])[k]?=some x/\cur=.pointer x.a/\sliceLen M=k/\wr.ownsRow ↑w 114 1 M k ((u.take k).map Vz)/\Below w w wr) (λM _ _=>u.length -sliceLen M);exact⟨0,b,fJ _,h0.out,rfl,rfl,nB _ _ _ _,B0⟩;case round=>
  obtain⟨k,x,o,f,rfl,a8,h,d⟩:=hrel;by_cases H:k<u.length
  .have n:u[k]?=some x:=by rw[nz H]at f;exact f
   have⟨y,j,_⟩:=F.out k x n;have π:=E.out k x y n j;obtain⟨va,vc,rfl⟩:=bG h;have C:=aL (D.out x (cU n) (s.out k x n) wr d);have L:=A.out x (s.out k x n);have Q:(u.take (k+1)).map Vz=(u.take k).map Vz++[.pointer (some ⟨x.a,0,none⟩)]:=by rw[D8,n];simp[Vz]
   change Hid _ at Q j;clear D G E F s A f n h0;go_wp2;refine C.out.m1 λw1 m=>?_;replace d:=d.trans (m.mono d.size);have c1:=aW d π;have ah:=aU w1 [.pointer x.a] 114;have V:(w1.alloc (.cells [.pointer (some ⟨x.a,0,none⟩)].toArray 114)).ownsRow ↑w 114 1 (.slice va k vc) k ((u.take k).map Vz):=pC (aX h m) _;have B1:(w:Nat)<=(w1.alloc (.cells [.pointer (some ⟨x.a,0,none⟩)].toArray 114)).heap.size:=by rw[bL];have:=d.size;omega
   have Y:Below w w (w1.alloc (.cells [.pointer (some ⟨x.a,0,none⟩)].toArray 114)):=d.alloc d.size _;have fin:Hid (∀w2,(w1.alloc (.cells [.pointer (some ⟨x.a,0,none⟩)].toArray 114)).grownBy w2 (Value.slice va k vc).ownBlock->Below w w w2):=λw2 g=>BO Y V g;have av:k<=100000:=O9;clear m Y C h;go_wp2_with (refine Ao rfl _ _ rfl (.slice va k vc) k ((u.take k).map Vz) E9 V ↑x.a (w1:Nat) E9 ah av B1 ?_;intro v1 w3 X ai l1;obtain⟨S,R,K⟩:=cP X k rfl;subst K;have ag:=fin.out _ ai;have bd:w3.cell? (x.a,1)=some (.pointer y.a):=aW ag π);go_roundw;exact⟨k+1,y,O9,j.out,rfl,rfl,by rw[Q.out];exact X,ag⟩;simp[sliceLen];omega
  .have au:k=u.length:=O9;subst au;have a6:x=q:=by simpa using f.symm
   subst a6;obtain⟨T,P⟩:∃T,u.length=T+1:=⟨u.length -1,O9⟩;have⟨S,R,K⟩:=cP h T P;rw[<-P]at K;subst K;clear P;have ar:=(bV h rfl).1;rw[jI]at h;have C:=aL (G.out wr d);clear D G E F s A;go_wp2;refine C.out.m1 λw1 m=>?_;replace d:=d.trans (m.mono d.size);replace h:=aX h m;have I:=NM (B:=(w:Nat)) (g:=S) (c:=R) (u.map Vz) w1 (by rw[fM];exact h) (λv a2=>by obtain⟨z,_,rfl⟩:=iF.1 a2;exact⟨_,rfl⟩) (by rw[fM];omega) ar;rw[fM]at I;replace I:=aL I;clear C m;go_wp2;refine I.out.mono ?_;rintro e w2 ⟨rfl,aj,ak⟩;go_wp2;go_ret;exact⟨S,R,rfl,by rw[Rb];exact aj,d.trans ak⟩
def SU{w B g c l}(h:w.ownsRow B 195 7 (.slice g l.length c) l.length (eP l)):vP w g l:=by
 obtain⟨a,_⟩|⟨g',cap,cur,a,_,b,_⟩:=h.2;.cases a
 .cases a;exact⟨⟨_,_,b⟩,λi s hi=>Ge h hi⟩
def JY{w}(b g o n c l)(d:l.length=n)(p:∀j u,(eP l)[j]?=some u->w.cell? (g,o+j)=some u)(hl:n<=40000)(ty):∃sa sc w',(Builtin.append_ #[121,121] ty #[.slice (some ⟨b,0,none⟩) 0 0,.slice (some ⟨g,o,none⟩) n c]).run Vp w=.ok (.slice sa n sc) w'/\(l=[]\/∃g',sa=some ⟨g',0,none⟩/\w<=g'/\vP w' g' l)/\w.grownBy w' none:=by
 have⟨i,hi,x,t,m⟩:=info_parts ZL;have hlen:(eP l).length=n*7:=by rw[sN,d]
 have q:∀j u,(eP l)[j]?=some u->w.cell? (((g,o):Addr).add j)=some u:=λj u a=>by rw[show((g,o):Addr).add j=(g,o+j)from by simp[Addr.add]];exact p j u a
 by_cases h0:n=0;.subst h0;have s:=oG d;subst s;have:=run_append_room_cells (P:=Vp) w 121 ty 195 i aI.underlying121 hi b 0 0 0 (g,o) 0 c [] S8 (λj u a=>by simp at a) (λu v=>by simp at v) L9 (λj a=>by simp at a) (λj a=>by simp at a);exact⟨_,_,_,this,.inl rfl,⟨rfl,rfl,rfl,L9,λ_ _ _=>rfl⟩⟩
 .have⟨z,w',hr,e,r⟩:=run_append_arg_grows (P:=Vp) w 121 ty 195 i _ 7 72 aI.underlying121 hi x t m rfl D9 (b,0) 0 0 [] rfl (λj u a=>by simp at a) (g,o) n c (eP l) hlen q O9 (by unfold maxLen;omega) O9;rw[iO,<-d]at e;obtain⟨f,h⟩:∃f,l.length=f+1:=⟨l.length -1,O9⟩;have⟨g',y,k⟩:=cP e f h;rw[<-h]at k;subst k;exact⟨_,_,_,by rw[<-d]at hr|-;exact hr,.inr ⟨g',rfl,(bV e rfl).1,SU e⟩,r⟩
def aas(va n vc l w)(c:l.length=n)(hl:n<=40000)(s:(va=none/\n=0/\vc=0)\/∃g o,va=some ⟨g,o,none⟩/\∀j u,(eP l)[j]?=some u->w.cell? ⟨g,o+j,none⟩=some u):Cv 100 #[.slice va n vc] w λe w'=>∃sa sc,e=.returned (.slice sa n sc)/\(l=[]\/∃g,sa=some ⟨g,0,none⟩/\w<=g/\vP w' g l)/\Below w w w':=by
 obtain⟨rfl,rfl,rfl⟩|⟨g,o,rfl,i⟩:=s;.have r:=oG c;have m:=Go.Ren.wU (V:=Vp) aI.underlying121 none 0 0;go_enter fA func100,ntmps100;go_wp2;go_ret;exact⟨_,_,rfl,.inl r,B0⟩
 .have a:Below w w (w.alloc (.cells #[] 195)):=B0.alloc L9 _;have⟨sa,sc,w',hr,f,p⟩:=JY (w:=w.alloc (.cells #[] 195)) ↑w g o n vc l c (λj u q=>aW a (i j u q)) hl 121;have h:=a.grown p a.size (λk e=>by cases e);have b:l=[]\/∃g,sa=some ⟨g,0,none⟩/\(w:Nat)<=g/\vP w' g l:=by
   obtain e|⟨g',e,h2,d⟩:=f;.exact .inl e
   .exact .inr ⟨g',e,bI a.size h2,d⟩
  change Hid _ at hr b;have m:=Go.Ren.wU (V:=Vp) aI.underlying121 ↑(g,o) n vc;go_enter fA func100,ntmps100;go_wp2_with (refine Lib.wpList_append_run _ rfl _ _ _ _ rfl _ _ E9 E9 _ _ hr.out ?_);go_ret;exact⟨_,_,rfl,b.out,h⟩
def acG(B gc k c1 z m c2 L c w)(q0:w.cell? (B,0)=some (.slice (some ⟨gc,0,none⟩) (k+1) c1))(I:w.cell? (B,1)=some (.slice (some ⟨z,0,none⟩) (m+1) c2))(q:L.length=(k+1)*2)(r:∀u∈L,u.oneCell'=true)(t:∀j u,L[j]?=some u->w.cell? ⟨gc,j,none⟩=some u)(n:c.length=(m+1)*2)(o:∀u∈c,u.oneCell'=true)(p:∀j u,c[j]?=some u->w.cell? ⟨z,j,none⟩=some u)(M:k<=400)(N:m<=400):
 Cv 74 #[.slice (some ⟨B,0,none⟩) 2 2] w λe w'=>∃v,e=.returned v/\w'.ownsRow w 123 2 v (k+1+(m+1)) (L++c)/\Below w w w':=by
 go_enter fA Tryz.func74,Tryz.ntmps74;go_wp2;go_loopw [3,11] (λs i wr=>wr=w/\((s=↑aA/\i=↑aA)\/(s=↑((k+1:Nat):Int)/\i=↑aG)\/(s=.int .i64 ((k+1+(m+1):Nat):Int)/\i=.int .i64 2))) (λ_ i _=>2 -(intOf i).toNat);exact⟨rfl,.inl ⟨rfl,rfl⟩⟩;case round=>
  obtain⟨rfl,⟨rfl,rfl⟩|⟨rfl,rfl⟩|⟨rfl,rfl⟩⟩:=hrel;.go_wp2;go_roundw;exact⟨by trivial,.inr (.inl ⟨by go_num,by trivial⟩)⟩;simp[intOf]
  .go_wp2;go_roundw;exact⟨by trivial,.inr (.inr ⟨by go_num,by trivial⟩)⟩;simp[intOf]
  .obtain⟨w0,K⟩:∃w0,w0=wr:=⟨_,rfl⟩;subst K;go_wp2;refine(aac (k+1+(m+1)) w0 O9 O9).mono ?_;rintro e w1 ⟨v,rfl,a,b⟩;obtain⟨va,vc,rfl⟩:=bG a;go_wp2;go_loopw [6,27] (λf i wx=>Below w0 w0 wx/\((i=↑aA/\wx.ownsRow ↑w0 123 2 f 0 [])\/(i=↑aG/\wx.ownsRow ↑w0 123 2 f (k+1) L)\/(i=.int .i64 2/\wx.ownsRow ↑w0 123 2 f (k+1+(m+1)) (L++c)))) (λ_ i _=>2 -(intOf i).toNat);exact⟨b,.inl ⟨rfl,a⟩⟩;case round=>
    obtain⟨b,⟨rfl,a⟩|⟨rfl,a⟩|⟨rfl,a⟩⟩:=hrel
    .obtain⟨h,l,rfl⟩:=bG a;have a0:=aW b q0;have J:=aW b I;have d:∀j u,L[j]?=some u->wr.cell? (gc,j)=some u:=λj u D=>aW b (t j u D);have C:=b.size;have fin:Hid (∀w2,wr.grownBy w2 (Value.slice h 0 l).ownBlock->Below w0 w0 w2):=λw2 g=>BO b a g;have E:0+(k+1)<=100000:=O9;change Hid _ at t p d r o q n;go_wp2_with (refine ot rfl _ _ rfl (.slice h 0 l) 0 [] E9 a gc (k+1) c1 L q.out E9 d.out r.out E C ?_;intro v1 w3 x A;obtain⟨H,G,y⟩:=cP x k O9;subst y;have F:=fin.out _ A);go_roundw;exact⟨F,.inr (.inl ⟨by trivial,by simpa using x⟩)⟩;simp[intOf]
    .obtain⟨h,l,rfl⟩:=bG a;have a0:=aW b q0;have J:=aW b I;have d:∀j u,c[j]?=some u->wr.cell? (z,j)=some u:=λj u D=>aW b (p j u D);have C:=b.size;have fin:Hid (∀w2,wr.grownBy w2 (Value.slice h (k+1) l).ownBlock->Below w0 w0 w2):=λw2 g=>BO b a g;have E:(k+1)+(m+1)<=100000:=O9;change Hid _ at t p d r o q n;go_wp2_with (refine ot rfl _ _ rfl (.slice h (k+1) l) (k+1) L E9 a z (m+1) c2 c n.out E9 d.out o.out E C ?_;intro v1 w3 x A;obtain⟨H,G,y⟩:=cP x (k+1+m) O9;subst y;have F:=fin.out _ A);go_roundw;exact⟨F,.inr (.inr ⟨by trivial,x⟩)⟩;simp[intOf]
    .have⟨H,G,y⟩:=cP a (k+1+m) rfl;subst y;go_wp2;go_ret;exact⟨_,rfl,a,b⟩
def kH.mark(x:kH)(b:Bool):kH:={x with bad:=b,tv:=if b then acw else x.tv}
def xAt(bs:List Bool)(j k i:Nat)(x:kH):kH:=if i<k then x.mark (bs.getD i false)else if i=j then{x with bad:=true}else x
structure acH(l:List kH)(j:Nat)(bs:List Bool)(pi:Nat->Option Nat):Prop where
 nd:(l.map kH.a).Nodup
 par:∀i x,l[i]?=some x->(x.par=none/\pi i=none)\/∃p y,pi i=some p/\p<i/\l[p]?=some y/\x.par=some y.a
 bs:∀i x,l[i]?=some x->bs.getD i false=(x.bad||decide (i=j)||((pi i).map λp=>bs.getD p false).getD false)
structure SpG(w:World)(nb B:Nat)(bv:Value)(l:List kH)(bs:List Bool)(j:Nat)(cs:List Value)(k:Nat)(wr:World):Prop where
 own:wr.ownsRow B 114 1 bv l.length (l.map λb=>ptr b.a)
 rows:∀i x,l[i]?=some x->Row wr x.a 117 (xAt bs j k i x).cells
 nd:Row wr nb 107 cs
 x:Xc (λk=>∃x∈l,k=x.a) w wr
def SpG.at_{w wr nb B k j bv l bs x cs}(h:SpG w nb B bv l bs j cs k wr){i}(d:l[i]?=some x):∃g c,bv=.slice (some ⟨g,0,none⟩) l.length c/\wr.cell? ⟨g,i,none⟩=some (ptr x.a):=by
 have n:=(cE.1 d).1;have e:=λg (b:bv.ownBlock=some g)=>h.own.cells (g:=g) b;obtain⟨_,h0⟩|⟨g,cap,cur,f,m,b,_⟩:=h.own.2;.omega
 .subst f;refine⟨g,cap,rfl,?_⟩;have:=e g rfl i (ptr x.a) (by rw[cT,d];rfl);rwa [add0]at this
def Au{l:List kH}(h:(l.map kH.a).Nodup){i k:Nat}{x y}(d:l[i]?=some x)(f:l[k]?=some y)(e:x.a=y.a):i=k:=by
 have h1:(l.map kH.a)[i]?=some x.a:=by rw[cT,d];rfl
 have h2:(l.map kH.a)[k]?=some y.a:=by rw[cT,f];rfl
 have⟨l1,b⟩:=cE.1 h1;have⟨l2,e2⟩:=cE.1 h2;obtain c|c|c:=QE i k;.exact absurd (by rw[b,e2,e]) (Wt.1 h i k l1 l2 c)
 .exact c
 .exact absurd (by rw[b,e2,e]) (Wt.1 h k i l2 l1 c)
def SpG.upd{w wr g nb B k j bv l bs x cs}(h:SpG w nb B bv l bs j cs k wr)(o:(l.map kH.a).Nodup)(b:l[k]?=some x)(y:Xc (λa=>a=x.a) wr g)(hr:Row g x.a 117 (x.mark (bs.getD k false)).cells):SpG w nb B bv l bs j cs (k+1) g:=by
 have m:=h.rows k x b;refine⟨dF h.own (λa cs' _ _ f=>y.block a (bE f) (λe=>?_)),λi z d=>?_,h.nd.xc y (λe=>h.nd.ne m D9 e),h.x.trans y (λa _ e=>⟨x,cU b,e⟩)⟩;.subst e;rw[m]at f;cases f
 .by_cases e:i=k;.subst e;rw[b]at d;cases d;unfold xAt;rw[bD (nK _)];exact hr
  .have n:xAt bs j (k+1) i z=xAt bs j k i z:=by
    unfold xAt;by_cases c:i<k;.grind
    .grind
   rw[n];exact(h.rows i z d).xc y (λe2=>e (Au o d b e2))
def ae5{nb B j bv l bs V cs}(b w)(hN:Row w nb 107 cs)(Nc:cs[11]?=some bv)(h:jB w B bv l)(o:acH l j bs V)(t:l[j]?=some b)(hl:l.length<=1000):Cv 99 #[ptr nb,ptr b.a] w λe w'=>e=.returned (.tuple #[])/\jB w' B bv (l.mapIdx λi x=>x.mark (bs.getD i false))/\Row w' nb 107 cs/\Xc (λk=>∃x∈l,k=x.a) w w':=by
 have G:=cU t;have r:=h.row b G;have b5:=r.r 5;have L:=r.frozen 5;have blt:=r.lt;have F:=hN.aP (b.a,5) ↑aD (λe=>hN.ne r D9 e);have μ:(w.setCell (b.a,5) ↑aD).cell? (nb,11)=some bv:=by rw[F.cell];exact Nc
 have h0:SpG w nb B bv l bs j cs 0 (w.setCell (b.a,5) ↑aD):=by
  refine⟨aaa h.own r,λi x d=>?_,F,(iT _ w).setCell _ _ (λ_=>⟨b,G,rfl⟩)⟩;unfold xAt;rw[aT (oI _)];by_cases e:i=j;.subst e;rw[t]at d;cases d;rw[bD rfl];exact r.set 5 ↑aD
  .rw[aT e];exact(h.row x (cU d)).aP (b.a,5) ↑aD (λe2=>e (Au o.nd d t e2))
 obtain⟨va,vc,rfl⟩:=bG h.own;change Hid _ at o t h0;unfold ptr;go_enter fA Tryz.func99,Tryz.ntmps99;go_wp2;generalize w.setCell ⟨b.a,5,none⟩ ↑aD=X at h0 μ|-;go_loopw [14] (λi wr=>∃k:Nat,k<=l.length/\i=↑k/\SpG w nb B (.slice va l.length vc) l bs j cs k wr) (λi _=>l.length -(intOf i).toNat);exact⟨0,O9,rfl,h0.out⟩;case round=>
  obtain⟨k,π,rfl,m⟩:=hrel;by_cases Q:k<l.length
  .have aa:(0:Int)<=(k:Int):=O9;have ab:(k:Int)<(l.length:Int):=O9;have d:=bS Q;generalize l[k]=x at d;have⟨g,c,S,q0⟩:=m.at_ d;cases S;unfold ptr at q0;have hr:=m.rows k x d;have ex:xAt bs j k k x={x with bad:=x.bad||decide (k=j)}:=by
    unfold xAt;rw[aT (Ha _)];by_cases e:k=j;.rw[bD e];simp[e]
    .rw[aT e];simp[e]
   rw[ex]at hr;have D:wr.cell? (x.a,5)=some (.bool (x.bad||decide (k=j))):=hr.cell 5;have J:wr.cell? (x.a,1)=some (.pointer (x.par.map λp=>⟨p,0,none⟩)):=hr.cell 1;have ag:wr.cell? (x.a,4)=some x.tv:=hr.cell 4;have Y:=hr.frozen 4;have L:=hr.frozen 5;have ae:=hr.lt;have A:=o.out.bs k x d;have R:(x.par=none/\bs.getD k false=(x.bad||decide (k=j)))\/∃p u,x.par=some p/\wr.cell? ⟨p,5,none⟩=some (.bool u)/\bs.getD k false=(x.bad||decide (k=j)||u):=by
    obtain⟨s,e2⟩|⟨p,y,s,P,T,e2⟩:=o.out.par k x d;.refine .inl ⟨s,?_⟩;rw[A,e2];simp
    .refine .inr ⟨y.a,bs.getD p false,e2,?_,?_⟩
     .have H:=m.rows p y T;have K:xAt bs j k p y=y.mark (bs.getD p false):=by unfold xAt;rw[if_pos P]
      rw[K]at H;exact H.cell 5
     .rw[A,s];rfl
   have u0:Hid (bs.getD k false=false->SpG w nb B (.slice g l.length vc) l bs j cs (k+1) wr):=λe=>by
    refine m.upd o.out.nd d (iT _ _) ?_;rw[e];have N:(x.bad||decide (k=j))=false:=by rw[e]at A;have:=A.symm;simp only[Bool.or_eq_false_iff]at this|-;exact this.1
    rw[N]at hr;exact hr
   have I:Hid (bs.getD k false=true->(x.bad||decide (k=j))=true->SpG w nb B (.slice g l.length vc) l bs j cs (k+1) (wr.setCell (x.a,4) ↑())):=λe e2=>by refine m.upd o.out.nd d ((iT _ _).setCell _ _ (λ_=>rfl)) ?_;rw[e];rw[e2]at hr;exact hr.set 4 ↑()
   have W:Hid (bs.getD k false=true->SpG w nb B (.slice g l.length vc) l bs j cs (k+1) ((wr.setCell (x.a,5) ↑aD).setCell (x.a,4) ↑())):=λe=>by refine m.upd o.out.nd d (((iT (λa=>a=x.a) wr).setCell (x.a,5) ↑aD (λ_=>rfl)).setCell (x.a,4) ↑() (λ_=>rfl)) ?_;rw[e];exact(hr.set 5 ↑aD).set 4 ↑()
   have M:Hid (∀v,Row (wr.setCell (x.a,5) v) x.a 117 ((({x with bad:=x.bad||decide (k=j)}:kH).cells).set 5 v)):=λv=>hr.set 5 v;obtain⟨E,f⟩|⟨p,u,E,af,f⟩:=R;.rw[E]at J;cases q:(x.bad||decide (k=j))with
    |true=>rw[q]at D f;have n:=aL (I.out f q);go_wp2;go_roundw;exact⟨k+1,O9,by go_num,n.out⟩;simp[intOf];omega
    |false=>rw[q]at D f;have n:=aL (u0.out f);go_wp2;go_roundw;exact⟨k+1,O9,by go_num,n.out⟩;simp[intOf];omega
   .rw[E]at J;cases u with
    |true=>rw[Bool.or_true]at f;have n:=aL (W.out f);have ah:(wr.setCell (x.a,5) ↑aD).cell? (x.a,5)=some ↑aD:=(M.out _).cell 5;go_wp2;go_roundw;exact⟨k+1,O9,by go_num,n.out⟩;simp[intOf];omega
    |false=>rw[Bool.or_false]at f;cases q:(x.bad||decide (k=j))with
      |true=>rw[q]at D f;have n:=aL (I.out f q);go_wp2;go_roundw;exact⟨k+1,O9,by go_num,n.out⟩;simp[intOf];omega
      |false=>rw[q]at D f;have n:=aL (u0.out f);go_wp2;go_roundw;exact⟨k+1,O9,by go_num,n.out⟩;simp[intOf];omega
  .have O:k=l.length:=O9;subst O;go_wp2;go_end0;refine⟨rfl,⟨?_,λx d=>?_⟩,m.nd,m.x⟩
   .have:=m.own;have s:(l.mapIdx λi x=>x.mark (bs.getD i false)).map (λb=>ptr b.a)=l.map λb=>ptr b.a:=by apply kJ;intro i;simp[qw];cases l[i]?<;>simp[kH.mark]
    rw[s,WN];exact this
   .have⟨i,hi⟩:=oK.1 d;rw[qw]at hi;cases C:l[i]? with
    |none=>rw[C]at hi;cases hi
    |some z=>rw[C]at hi;simp only[dY,gW]at hi;subst hi;have hr:=m.rows i z C;unfold xAt at hr;rw[bD (cE.1 C).1]at hr;exact hr
section
variable{LB:Nat}
structure WB where
 b:kH
 Q:List rz
 gt:Nat
 cq:Nat
def WB.m(x:WB):Int×List Mn:=(x.b.aY,x.Q.map rz.t)
structure WB.Ok(l:List kH)(x:WB):Prop where
 tv:x.b.tv=.slice (some ⟨x.gt,0,none⟩) x.Q.length x.cq
 q:∀q∈x.Q,q.Ok
 q0:1<=x.Q.length
 q8:x.Q.length<=8
 qc:x.Q.length<=x.cq
 mem:x.b∈l
 hh:x.b.aY<9223372036854775808
structure JR where
 e:Int
 at_:Nat
 ls:List (List cW)
 K:jO
 mem:List bX
 st:List cW
def bR(most:Nat)(su:Int):List (Int×List Mn)->List bX->jO->JR
 |[],mem,K=>⟨0,0,[],K,mem,[]⟩
 |x::r,mem,K=>if(bP most su x.1 x.2 mem K []).1≠0 then⟨if r=[]then(bP most su x.1 x.2 mem K []).1 else 13,0,[],(bP most su x.1 x.2 mem K []).2.1.K,(bP most su x.1 x.2 mem K []).2.2,(bP most su x.1 x.2 mem K []).2.1.steps⟩else
   ⟨(bR most su r (bP most su x.1 x.2 mem K []).2.2 (bP most su x.1 x.2 mem K []).2.1.K).e,(bR most su r (bP most su x.1 x.2 mem K []).2.2 (bP most su x.1 x.2 mem K []).2.1.K).at_+1,(bP most su x.1 x.2 mem K []).2.1.steps::(bR most su r (bP most su x.1 x.2 mem K []).2.2 (bP most su x.1 x.2 mem K []).2.1.K).ls,(bR most su r (bP most su x.1 x.2 mem K []).2.2 (bP most su x.1 x.2 mem K []).2.1.K).K,(bR most su r (bP most su x.1 x.2 mem K []).2.2 (bP most su x.1 x.2 mem K []).2.1.K).mem,(bP most su x.1 x.2 mem K []).2.1.steps++(bR most su r (bP most su x.1 x.2 mem K []).2.2 (bP most su x.1 x.2 mem K []).2.1.K).st⟩
def JR.after(J:JR)(k:Nat)(ls:List (List cW))(st:List cW):JR:=⟨J.e,k+J.at_,ls++J.ls,J.K,J.mem,st++J.st⟩
def Qp(J:JR):J.after 0 [] []=J:=by simp[JR.after]
def Qq{a su x r mem K}(h:(bP a su x.1 x.2 mem K []).1=0)(k ls st):(bR a su (x::r) mem K).after k ls st=(bR a su r (bP a su x.1 x.2 mem K []).2.2 (bP a su x.1 x.2 mem K []).2.1.K).after (k+1) (ls++[(bP a su x.1 x.2 mem K []).2.1.steps]) (st++(bP a su x.1 x.2 mem K []).2.1.steps):=by
 rw[bR,aT (by rw[h];simp)];simp[JR.after];omega
def Qr{a su x r mem K}(h:(bP a su x.1 x.2 mem K []).1≠0)(k ls st):(bR a su (x::r) mem K).after k ls st=⟨if r=[]then(bP a su x.1 x.2 mem K []).1 else 13,k,ls,(bP a su x.1 x.2 mem K []).2.1.K,(bP a su x.1 x.2 mem K []).2.2,st++(bP a su x.1 x.2 mem K []).2.1.steps⟩:=by
 rw[bR,bD h];simp[JR.after]
def Gj{b su h cO mem K st}(a:mem.length<=b):(bP b su h cO mem K st).2.2.length<=b:=by
 unfold bP;simp only;split;.exact a
 .cases cO with
  |nil=>exact a
  |cons x r=>
    simp only;split;.exact a
    .exact BJ b _ _ a
def ApartL(w:World)(B:Nat)(v:Value)(L:List eI):Prop:=∀x∈L,x.st=[]\/∃g,x.sa=some ⟨g,0,none⟩/\B<=g/\v.ownBlock≠some g/\vP w g x.st
def vP.sin{w w' v d g l}(h:vP w g l)(c:tJ w v w' d)(b:v.ownBlock≠some g):vP w' g l:=by have⟨cs,f,a⟩:=h.ty;have:=c.2.2 g cs f a b;exact⟨⟨cs,f,this⟩,λi s hi=>(h.at_ i s hi).same (this.trans a.symm)⟩
def vP.keep{w w' g l}(h:vP w g l)(b:Below w w w'):vP w' g l:=by have⟨cs,f,a⟩:=h.ty;have:=b.block g (bE a);exact⟨⟨cs,f,this.trans a⟩,λi s hi=>(h.at_ i s hi).same this⟩
def ApartL.sin{w w' B v c L}(h:ApartL w B v L)(b:tJ w v w' c):ApartL w' B c L:=by
 intro x j;obtain e|⟨g,d,e2,e3,a⟩:=h x j;.simp_all
 .refine .inr ⟨g,d,e2,λe=>?_,a.sin b e3⟩;obtain q|⟨k,q,l⟩:=b.2.1;.simp_all
  .rw[q]at e;cases e;have⟨cs,f,i⟩:=a.ty;have:=bE i;omega
structure JInv(LB:Nat)(w wr:World)(nb B most:Nat)(cs:List Value)(bv:Value)(gc kc cc:Nat)(l:List kH)(Lc:List Value)(tb gs n:Nat)(sb mb:Nat->Nat)(su:Int)(W:List WB)(mem:List bX)(K:jO)(v0:Value)(st:List cW)(jv:Value)(k:Nat)(mk:List bX)(Kk:jO)(sk:List cW)(Lk:List eI)(mv v:Value):Prop where
 res:bR most su (W.map WB.m) mem K=(bR most su ((W.drop k).map WB.m) mk Kk).after k (Lk.map eI.st) sk
 Dr:BI Kk
 ml:mk.length<=most
 sl:sk.length<=200*k
 nd:oD wr nb B most (cs.set 15 mv) bv mv gc kc cc l Lc mk
 aV:aQ wr gs n sb mb Kk
 iH:bM wr tb gs n v (st++sk)
 lnk:wr.ownsRow w.heap.size 123 2 jv k (eJ Lk)
 la:Lk.map eI.a=(W.take k).map λx=>x.b.a
 ap:ApartL wr w.heap.size v Lk
 tk:Tk LB Y1 n mb w wr
 sin:tJ w v0 wr v
def mM.tk{a w w' n gt mb l}(h:mM w gt l)(x:Tk LB a n mb w w')(h1:¬a 155)(h2:¬a 133)(b:¬a 69):mM w' gt l:=⟨h.row.tk x h1,λq hq=>(h.ins q hq).tk x h2,λq hq=>(h.outs q hq).tk x b⟩
def acI{cs:List Value}(m):(cs.set 15 m)[6]?=cs[6]?:=by rw[sY D9]
def acJ{cs:List Value}(m):(cs.set 15 m)[9]?=cs[9]?:=by rw[sY D9]
def Gk{cs:List Value}(m a):(cs.set 15 m).set 15 a=cs.set 15 a:=by rw[List.set_set]
def JInv.call{w wr nb B d gc kc cc tb gs n cs bv l o sb mb su W mem K v0 st z k mk f A i mv v}(wk:Nat){x}(h:JInv LB w wr nb B d cs bv gc kc cc l o tb gs n sb mb su W mem K v0 st z k mk f A i mv v)(O:W[k]?=some x)(L:k<=100)(c:x.Ok l)(E:mM w x.gt x.Q)(c6:cs[6]?=some (.int .i64 wk))(c9:cs[9]?=some (.int .i64 su))(I:0<wk/\wk<=8)(H:0<=su/\su<=1000000)(F:d<=64)(N:st.length<=20000)(j:LB<=nb/\LB<=B/\LB<=tb):
 Cv 98 #[ptr nb,ptr x.b.a,ptr tb] wr λe w1=>e=.returned ((bP d su x.b.aY (x.Q.map rz.t) mk f []).1)/\∃g v1,oD w1 nb B d (cs.set 15 g) bv g gc kc cc l o (bP d su x.b.aY (x.Q.map rz.t) mk f []).2.2/\aQ w1 gs n sb mb (bP d su x.b.aY (x.Q.map rz.t) mk f []).2.1.K/\bM w1 tb gs n v1 (st++A++(bP d su x.b.aY (x.Q.map rz.t) mk f []).2.1.steps)/\w1.ownsRow w 123 2 z k (eJ i)/\ApartL w1 w v1 i/\Tk LB Y1 n mb w w1/\tJ w v0 w1 v1:=by
 have G:Row wr x.b.a 117 [↑x.b.id,.pointer (x.b.par.map λp=>⟨p,0,none⟩),↑x.b.aY,↑x.b.wo,.slice x.gt x.Q.length x.cq,.bool x.b.bad]:=by have:=h.nd.rf.row x.b c.mem;unfold kH.cells at this;rw[c.tv]at this;exact this
 have M:=h.sl;have y:=ZX wk wr G (E.tk h.tk (oV D9 D9 D9 D9 D9) (oV D9 D9 D9 D9 D9) (oV D9 D9 D9 D9 D9)) c.q c.q0 c.q8 c.qc h.aV h.iH h.nd.mem (by rw[acI];exact c6) (by rw[acJ];exact c9) I H h.ml F h.Dr (by rw[bY];omega) c.hh;rw[Vu]at y;refine y.mono ?_;rintro e w1 ⟨rfl,C,⟨v1,D,u⟩,⟨g,r⟩,J⟩;rw[Gk]at r;have y1:=acy (LB:=LB) J h.aV h.iH h.nd.mem ⟨j.2.2,j.1,j.2.1⟩;have s:=h.nd.joined (m:=g) y1 (by rw[Gk];exact r);rw[Gk]at s;exact⟨rfl,g,v1,s,C,D,pW h.lnk y1 (NH D9 D9 D9 D9),h.ap.sin u,h.tk.trans (y1.mono (λt e=>.inl e)),h.sin.trans u⟩
def GY(l m):eP (l++m)=eP l++eP m:=by simp[eP]
def Qs{w:World}{B g c p l}(h:w.ownsRow B 195 7 (.slice (some ⟨g,0,none⟩) (p++l).length c) (p++l).length (eP (p++l))):∀j u,(eP l)[j]?=some u->w.cell? (g,p.length*7+j)=some u:=by intro j u hj;have:=h.cells (g:=g) rfl (p.length*7+j) u (by rw[GY,eK (by rw[sN];omega),sN];rw[show p.length*7+j -p.length*7=j from by omega];exact hj);rwa [add0]at this
def Tk.aat{Y n mb w w1 w3 r}(h:Tk LB Y n mb w w1)(gr:w1.grownBy w3 r)(hg:∀k,r=some k->w<=k):Tk LB Y n mb w w3:=by have hs:∀(k:Nat) (o:Obj) (o1:Obj),w.heap[k]?=some o->w1.heap[k]?=some o1->w3.heap[k]?=some o1:=λk o o1 hk h1=>(gr.block k (bE h1) (λe=>by have:=hg k e.symm;have:=bE hk;omega)).trans h1;exact⟨gr.os.trans h.os,gr.tape.trans h.tape,gr.output.trans h.output,bI h.size gr.size,λk cs t f hk hy=>hs k _ _ hk (h.cells k cs t f hk hy),λk o hk ho hm=>hs k _ _ hk (h.rest k o hk ho hm)⟩
def oD.ae6{w w3 nb B most gc kc cc b0 k cs L xs bv mv jv l mem}(h:oD w nb B most cs bv mv gc kc cc l L mem)(ho:w.ownsRow b0 123 2 jv k xs)(gr:w.grownBy w3 jv.ownBlock)(hgc:gc<b0):oD w3 nb B most cs bv mv gc kc cc l L mem:=by
 have hr:∀(g:Nat) (t:TypeId) (c:List Value),Row w g t c->t≠123->Row w3 g t c:=λg t c r ht=>(gr.block g r.lt (λe=>dR ho r ht e.symm)).trans r;have hw:∀{B e size n:Nat} {v:Value} {xs:List Value},w.ownsRow B e size v n xs->e≠123->w3.ownsRow B e size v n xs:=λo ht=>dF o (λg c _ _ hc=>gr.block g (bE hc) (λe=>by have⟨_,c',h3⟩:=bV ho e.symm;rw[h3]at hc;cases hc;exact ht rfl))
 refine⟨⟨hr _ _ _ h.mem.row D9,h.mem.Vi,h.mem.IG,hw h.mem.own D9,bI h.mem.base gr.size⟩,h.Nc,h.N6,⟨hw h.rf.own D9,λb hb=>hr _ _ _ (h.rf.row b hb) D9⟩,dF h.chain (λg c hg _ hc=>gr.block g (bE hc) (λe=>?_))⟩;have h1:=(bV ho e.symm).1;cases hg;have h2:b0<=gc:=h1;omega
structure acK(LB:Nat)(w w':World)(nb B most:Nat)(cs:List Value)(bv:Value)(gc kc cc:Nat)(l':List kH)(Lc:List Value)(tb gs n:Nat)(sb mb:Nat->Nat)(v0:Value)(st:List cW)(J:JR)(m1 v1:Value):Prop where
 nd:oD w' nb B most (cs.set 15 m1) bv m1 gc kc cc l' Lc J.mem
 aV:aQ w' gs n sb mb J.K
 iH:bM w' tb gs n v1 (st++J.st)
 tk:Tk LB Y1 n mb w w'
 sin:tJ w v0 w' v1
def aau{nb tb gs n B most gc kc cc gw wc sb mb K v0 mv bv l cs Lc mem su st}(wk:Nat)(W:List WB)(pi:Nat->Option Nat)(bsF:Nat->List Bool)(w)(hW:w.ownsRow 0 114 1 (.slice (some ⟨gw,0,none⟩) W.length wc) W.length (W.map λx=>Vz x.b))(hN:oD w nb B most cs bv mv gc kc cc l Lc mem)(hO:∀x∈W,x.Ok l)(hX:∀x∈W,mM w x.gt x.Q)(hsp:∀x∈W,∃j,l[j]?=some x.b/\acH l j (bsF j) pi)
 (hC:aQ w gs n sb mb K)(hT:bM w tb gs n v0 st)(c6:cs[6]?=some (.int .i64 wk))(c9:cs[9]?=some (.int .i64 su))(hwk:0<wk/\wk<=8)(hsu:0<=su/\su<=1000000)(hml:mem.length<=most)(hms:most<=64)(hK:BI K)(hst:st.length<=20000)(hW0:0<W.length)(hWl:W.length<=100)(hl:l.length<=1000)(hLn:LB<=nb/\LB<=B/\LB<=tb)(hLb:∀x∈l,LB<=x.a)(hgc:gc<w):
 Cv 73 #[ptr nb,.slice (some ⟨gw,0,none⟩) W.length wc,ptr tb] w λe w'=>∃m1 v1,((bR most su (W.map WB.m) mem K).e=0/\(∃gj cj L,e=.returned (.tuple #[.slice (some ⟨gj,0,none⟩) W.length cj,aA])/\w'.ownsRow w 123 2 (.slice (some ⟨gj,0,none⟩) W.length cj) W.length (eJ L)/\L.map eI.st=(bR most su (W.map WB.m) mem K).ls/\L.map eI.a=W.map (λx=>x.b.a)/\ApartL w' w v1 L)/\acK LB w w' nb B most cs bv gc kc cc l Lc tb gs n sb mb v0 st (bR most su (W.map WB.m) mem K) m1 v1)\/
  ((bR most su (W.map WB.m) mem K).e≠0/\e=.returned (.tuple #[(),(bR most su (W.map WB.m) mem K).e])/\∃x j,W[(bR most su (W.map WB.m) mem K).at_]?=some x/\l[j]?=some x.b/\acK LB w w' nb B most cs bv gc kc cc (l.mapIdx λi y=>y.mark ((bsF j).getD i false)) Lc tb gs n sb mb v0 st (bR most su (W.map WB.m) mem K) m1 v1):=by
 have h0:JInv LB w w nb B most cs bv gc kc cc l Lc tb gs n sb mb su W mem K v0 st ↑() 0 mem K [] [] mv v0:=by refine⟨by rw[List.drop_zero];exact(Qp _).symm,hK,hml,S8,by rw[q9 hN.mem.IG];exact hN,hC,by rw[oL];exact hT,nB _ _ _ _,rfl,λx hx=>by simp at hx,Aq B0,tJ.refl _ _⟩
 have hwc:∀wr,Tk LB Y1 n mb w wr->∀k x,W[k]?=some x->wr.cell? ⟨gw,k,none⟩=some (.pointer (some ⟨x.b.a,0,none⟩)):=λwr x k y hy=>by have:=(pW hW x (oV D9 D9 D9 D9 D9)).cells (g:=gw) rfl k (Vz y.b) (by rw[cT,hy];rfl);rwa [add0]at this
 replace hwc:=aL hwc;replace hO:=aL hO;replace hX:=aL hX;replace hsp:=aL hsp;replace h0:=aL h0;replace c6:=aL c6;replace c9:=aL c9;replace hLn:=aL hLn;replace hLb:=aL hLb;clear hW hN hC hT hml hK;unfold ptr;go_enter fA Tryz.func73,Tryz.ntmps73;go_wp2;go_loopw [8,15] (λjv i wr=>∃k mk Kk sk Lk mv v,k<=W.length/\i=↑(k:Nat)/\JInv LB w wr nb B most cs bv gc kc cc l Lc tb gs n sb mb su W mem K v0 st jv k mk Kk sk Lk mv v) (λ_ i _=>W.length -(intOf i).toNat);case atStart=>exact⟨0,mem,K,[],[],mv,v0,O9,rfl,h0.out⟩
 case round=>
  clear h0;obtain⟨k,mk,Kk,sk,Lk,mv,v,hk,rfl,hI⟩:=hrel;by_cases hlt:k<W.length
  .have hk0:(0:Int)<=(k:Int):=O9;have hk1:(k:Int)<(W.length:Int):=O9;have hx:=bS hlt;have hdr:=xL hlt;generalize W[k]=x at hx hdr;have hxm:=cU hx;have q0:=hwc.out wr hI.tk k x hx;obtain⟨va,vc,hv⟩:=bG hI.iH.own;have t1:wr.cell? (tb,1)=some (.slice va (st++sk).length vc):=by rw[<-hv];exact hI.iH.row.cell 1
   have hcall:=hI.call wk hx O9 (hO.out x hxm) (hX.out x hxm) c6.out c9.out hwk hsu hms hst hLn.out;have hres:=hI.res;rw[hdr,kV]at hres;have hrr:(W.drop (k+1)).map WB.m=[]↔k+1=W.length:=by rw[List.map_eq_nil_iff,List.drop_eq_nil_iff];omega
   have ag1:(x.m).1<9223372036854775808:=(hO.out x hxm).hh;have hjs:=Gc most su x.b.aY (x.Q.map rz.t) mk (hO.out x hxm).hh hI.Dr (by rw[fM];exact(hO.out x hxm).q8) (λy hy=>by obtain⟨q,hq1,rfl⟩:=iF.1 hy;have:=(hO.out x hxm).q q hq1;exact⟨this.li,this.lo,this.so⟩);have hjm:=Gj (su:=su) (h:=x.b.aY) (cO:=x.Q.map rz.t) (K:=Kk) (st:=[]) hI.ml;have hsl:=hI.sl;have GZ:=hI.la;have NN:(bP most su x.b.aY (x.Q.map rz.t) mk Kk []).1=0->bR most su (W.map WB.m) mem K=_:=λe=>hres.trans (Qq (x:=x.m) e k (Lk.map eI.st) sk);have NP:(bP most su x.b.aY (x.Q.map rz.t) mk Kk []).1≠0->bR most su (W.map WB.m) mem K=_:=λe=>hres.trans (Qr (x:=x.m) e k (Lk.map eI.st) sk);simp only[WB.m]at NN NP;generalize bP most su x.b.aY (x.Q.map rz.t) mk Kk []=R at hcall hjs hjm NN NP;obtain⟨E,S,M'⟩:=R;simp only at hcall hjs hjm NN NP;have hN0:(st++sk).length<=40000:=by rw[bY];omega
   clear hres hdr hv;unfold ptr at hcall;replace hcall:=aL hcall;replace NN:=aL NN;replace NP:=aL NP;replace hjs:=aL hjs;replace GZ:=aL GZ;replace hrr:=aL hrr;replace hx:=aL hx;clear hI ag1;generalize hn0:(st++sk).length=n0 at t1 hN0;replace hn0:=aL hn0;go_wp2;refine hcall.out.mono ?_;rintro e w1 ⟨rfl,m1,v1,N1,C1,T1,O1,A1,x1,s1⟩;clear hcall t1 q0;by_cases hE:E=0
   .subst hE;have hty:=T1.own.2;have k1:=T1.row.r 1;have hl1:(st++sk++S.steps).length=n0+S.steps.length:=by rw[bY,hn0.out]
    have hnew:=NN.out rfl;obtain⟨ja,jc,rfl⟩:=bG O1;have fin:Hid (∀(sa:Option Addr) (sc:Nat) (w2:World),Below w1 w1 w2->(S.steps=[]\/∃g,sa=some ⟨g,0,none⟩/\(w1:Nat)<=g/\vP w2 g S.steps)->Row (w2.alloc (.cells [.pointer (some ⟨x.b.a,0,none⟩),.slice sa S.steps.length sc].toArray 123)) ↑w2 123 [.pointer x.b.a,.slice sa S.steps.length sc]/\(w:Nat)<=(w2.alloc (.cells [.pointer (some ⟨x.b.a,0,none⟩),.slice sa S.steps.length sc].toArray 123)).heap.size/\(w2.alloc (.cells [.pointer (some ⟨x.b.a,0,none⟩),.slice sa S.steps.length sc].toArray 123)).ownsRow ↑w 123 2 (.slice ja k jc) k (eJ Lk)/\∀v2 w3,(w2.alloc (.cells [.pointer (some ⟨x.b.a,0,none⟩),.slice sa S.steps.length sc].toArray 123)).grownBy w3 (Value.slice ja k jc).ownBlock->w3.ownsRow ↑w 123 2 v2 (k+1) (eJ Lk++[.pointer (some ⟨x.b.a,0,none⟩),.slice sa S.steps.length sc])->JInv LB w w3 nb B most cs bv gc kc cc l Lc tb gs n sb mb su W mem K v0 st v2 (k+1) M' S.K (sk++S.steps) (Lk++[⟨x.b.a,S.steps,sa,sc⟩]) m1 v1):=by
     intro sa sc w2 hb2 hli;have hA:Below w1 w1 (w2.alloc (.cells [.pointer (some ⟨x.b.a,0,none⟩),.slice sa S.steps.length sc].toArray 123)):=hb2.alloc hb2.size _;have hA2:Below w2 w2 (w2.alloc (.cells [.pointer (some ⟨x.b.a,0,none⟩),.slice sa S.steps.length sc].toArray 123)):=B0.alloc L9 _;have OA:=aX O1 hA;refine⟨aU w2 _ _,bI x1.size hA.size,OA,λv2 w3 gr o2=>?_⟩;have old:dI (w2.alloc (.cells [.pointer (some ⟨x.b.a,0,none⟩),.slice sa S.steps.length sc].toArray 123)) w3:=λg c f hc=>(gr.block g (bE hc) (λe=>by obtain⟨_,c',h3⟩:=bV OA e.symm;rw[h3]at hc;cases hc)).trans hc
     have sA:=(ZM v1 hA).trans (CW v1 old gr.size);have TA:bM (w2.alloc (.cells [.pointer (some ⟨x.b.a,0,none⟩),.slice sa S.steps.length sc].toArray 123)) tb gs n v1 (st++sk++S.steps):=⟨T1.row.keep hA T1.row.lt,aX T1.own hA⟩;refine⟨?_,hjs.out.1,hjm,?_,(N1.keep hA).ae6 OA gr hgc,(C1.keep hA).grown OA gr D9 D9,?_,?_,?_,?_,(x1.trans (Aq hA)).aat gr (λg e=>(bV OA e).1),s1.trans sA⟩;.rw[nP];exact hnew
     .rw[bY];have:=hjs.out.2;omega
     .rw[<-iG];exact TA.grown OA gr D9 D9
     .rw[sO];exact o2
     .rw[nP,GZ.out,D8,hx.out];simp
     .intro y hy;obtain hy|hy:=mN.1 hy;.exact A1.sin sA y hy
      .rw[jW.1 hy];obtain e|⟨g,e,hg,hL⟩:=hli;.exact .inl e
       .refine .inr ⟨g,e,bI x1.size hg,λe2=>?_,?_⟩;.obtain⟨_,c',h3⟩:=bV T1.own e2;have:=bE h3;omega
        .obtain⟨c,f,hc⟩:=hL.ty;have e3:=old g c f ((hA2.block g (bE hc)).trans hc);exact⟨⟨c,f,e3⟩,λi z hi=>(hL.at_ i z hi).same (e3.trans hc.symm)⟩
    clear NN NP hnew N1 C1 O1 A1 x1 s1 GZ hrr hwc hO hX hsp hLb hLn hx hjm;obtain⟨rfl,h0⟩|⟨g',cap,cur,hv1,_,_,hcap,_⟩:=hty
    .have hl0:S.steps.length=0:=O9;have ag2:n0=0:=O9;subst ag2;have hcl:=aL (aas none 0 0 S.steps w1 hl0 O9 (.inl ⟨rfl,rfl,rfl⟩));rw[hl0]at fin;clear hl1 h0 hn0;go_wp2;refine hcl.out.mono ?_;rintro e w2 ⟨sa,sc,rfl,hli,hb2⟩;obtain⟨N1,hB1,OA,Gl⟩:=fin.out sa sc w2 hb2 hli;replace Gl:=aL Gl;have hn:∀i u,[Value.pointer (some ⟨x.b.a,0,none⟩),.slice sa 0 sc][i]?=some u->(w2.alloc (.cells [.pointer (some ⟨x.b.a,0,none⟩),.slice sa 0 sc].toArray 123)).cell? ⟨w2.heap.size,i,none⟩=some u:=λi u hj=>by rw[N1.cell];exact hj
     have h1c:∀u∈[Value.pointer x.b.a,.slice sa 0 sc],u.oneCell'=true:=by intro u hu;simp only[iN,nO,oJ]at hu;obtain rfl|rfl:=hu<;>rfl
     replace hn:=aL hn;replace h1c:=aL h1c;have hk2:k+1<=100000:=O9;clear hcl fin N1 hli hb2;go_wp2_with (refine ot rfl _ _ rfl (.slice ja k jc) k (eJ Lk) E9 OA (w2:Nat) 1 1 [.pointer x.b.a,.slice sa 0 sc] rfl E9 hn.out h1c.out hk2 hB1 ?_;intro v2 w3 Z8 g1;obtain⟨ig,ic,hv1⟩:=cP Z8 k rfl;subst hv1);go_roundw;case rel=>exact⟨k+1,M',S.K,sk++S.steps,Lk++[⟨x.b.a,S.steps,sa,sc⟩],m1,_,O9,by go_num,Gl.out _ _ g1 Z8⟩
     case measure=>simp[intOf];omega
    .have hv2:v1=.slice g' (n0+S.steps.length) cap:=by rw[hv1,hl1]
     have hO1:=T1.own;rw[hv1]at hO1;have hcell:=Qs hO1;rw[hn0.out]at hcell;rw[hl1]at hcap;subst hv2;have hcl:∀la,la=(if cap=n0 then some ((g',0):Addr)else some (g',n0*7))->Cv 100 #[.slice la S.steps.length (cap -n0)] w1 λe w'=>∃sa sc,e=.returned (.slice sa S.steps.length sc)/\(S.steps=[]\/∃g,sa=some ⟨g,0,none⟩/\(w1:Nat)<=g/\vP w' g S.steps)/\Below w1 w1 w':=by
      rintro la rfl;refine aas _ S.steps.length _ S.steps w1 rfl (by have:=hjs.out.2;omega) ?_;by_cases e:cap=n0;.have e2:S.steps=[]:=oG O9;rw[bD e,e2];exact .inr ⟨g',0,rfl,λi u hi=>by simp[eP]at hi⟩
      .rw[aT e];exact .inr ⟨g',n0*7,rfl,hcell⟩
     have i0:(0:Int)<=(n0:Int):=O9;have i1:(n0:Int)<=((n0+S.steps.length:Nat):Int):=O9;have i2:((n0+S.steps.length:Nat):Int)<=(cap:Int):=O9;have acL:∃la lc,Hid (Cv 100 #[.slice la S.steps.length lc] w1 λe w'=>∃sa sc,e=.returned (.slice sa S.steps.length sc)/\(S.steps=[]\/∃g,sa=some ⟨g,0,none⟩/\w1.heap.size<=g/\vP w' g S.steps)/\Below w1.heap.size w1 w')/\((cap=n0/\la=some ⟨g',0,none⟩/\lc=0)\/(cap≠n0/\la=some ⟨g',n0*7,none⟩/\lc=cap -n0)):=by
      by_cases e:cap=n0;.exact⟨_,0,by have:=hcl _ rfl;rw[bD e,e,sW]at this;exact this,.inl ⟨e,rfl,rfl⟩⟩
      .exact⟨_,_,by have:=hcl _ rfl;rw[aT e]at this;exact this,.inr ⟨e,rfl,rfl⟩⟩
     obtain⟨la,lc,acL,hcn⟩:=acL;clear hcl;have hcl:=acL;clear acL;clear hl1 hO1 hcell hv1 hn0 T1 hjs;obtain⟨hcn,rfl,rfl⟩|⟨hcn,rfl,rfl⟩:=hcn;all_goals go_wp2
     all_goals refine hcl.out.mono ?_
     .rintro e w2 ⟨sa,sc,rfl,hli,hb2⟩;obtain⟨N1,hB1,OA,Gl⟩:=fin.out sa sc w2 hb2 hli;replace Gl:=aL Gl;have hn:∀i u,[Value.pointer (some ⟨x.b.a,0,none⟩),.slice sa S.steps.length sc][i]?=some u->(w2.alloc (.cells [.pointer (some ⟨x.b.a,0,none⟩),.slice sa S.steps.length sc].toArray 123)).cell? ⟨w2.heap.size,i,none⟩=some u:=λi u hj=>by rw[N1.cell];exact hj
      have h1c:∀u∈[Value.pointer x.b.a,.slice sa S.steps.length sc],u.oneCell'=true:=by intro u hu;simp only[iN,nO,oJ]at hu;obtain rfl|rfl:=hu<;>rfl
      replace hn:=aL hn;replace h1c:=aL h1c;have hk2:k+1<=100000:=O9;clear hcl fin N1 hli hb2;go_wp2_with (refine ot rfl _ _ rfl (.slice ja k jc) k (eJ Lk) E9 OA (w2:Nat) 1 1 [.pointer x.b.a,.slice sa S.steps.length sc] rfl E9 hn.out h1c.out hk2 hB1 ?_;intro v2 w3 Z8 g1;obtain⟨ig,ic,hv1⟩:=cP Z8 k rfl;subst hv1);go_roundw;case rel=>exact⟨k+1,M',S.K,sk++S.steps,Lk++[⟨x.b.a,S.steps,sa,sc⟩],m1,_,O9,by go_num,Gl.out _ _ g1 Z8⟩
      case measure=>simp[intOf];omega
     .rintro e w2 ⟨sa,sc,rfl,hli,hb2⟩;obtain⟨N1,hB1,OA,Gl⟩:=fin.out sa sc w2 hb2 hli;replace Gl:=aL Gl;have hn:∀i u,[Value.pointer (some ⟨x.b.a,0,none⟩),.slice sa S.steps.length sc][i]?=some u->(w2.alloc (.cells [.pointer (some ⟨x.b.a,0,none⟩),.slice sa S.steps.length sc].toArray 123)).cell? ⟨w2.heap.size,i,none⟩=some u:=λi u hj=>by rw[N1.cell];exact hj
      have h1c:∀u∈[Value.pointer x.b.a,.slice sa S.steps.length sc],u.oneCell'=true:=by intro u hu;simp only[iN,nO,oJ]at hu;obtain rfl|rfl:=hu<;>rfl
      replace hn:=aL hn;replace h1c:=aL h1c;have hk2:k+1<=100000:=O9;clear hcl fin N1 hli hb2;go_wp2_with (refine ot rfl _ _ rfl (.slice ja k jc) k (eJ Lk) E9 OA (w2:Nat) 1 1 [.pointer x.b.a,.slice sa S.steps.length sc] rfl E9 hn.out h1c.out hk2 hB1 ?_;intro v2 w3 Z8 g1;obtain⟨ig,ic,hv1⟩:=cP Z8 k rfl;subst hv1);go_roundw;case rel=>exact⟨k+1,M',S.K,sk++S.steps,Lk++[⟨x.b.a,S.steps,sa,sc⟩],m1,_,O9,by go_num,Gl.out _ _ g1 Z8⟩
      case measure=>simp[intOf];omega
   .have hEn:(E==0)=false:=by simpa using hE
    obtain⟨j,hj,hs⟩:=hsp.out x hxm;have hsg:=ae5 x.b w1 N1.mem.row N1.Nc N1.rf hs hj hl;have hres:=aL (NP.out hE);unfold ptr at hsg;have fin:Hid (∀w2,jB w2 B bv (l.mapIdx λi y=>y.mark ((bsF j).getD i false))->Row w2 nb 107 (cs.set 15 m1)->Xc (λk=>∃x∈l,k=x.a) w1 w2->acK LB w w2 nb B most cs bv gc kc cc (l.mapIdx λi y=>y.mark ((bsF j).getD i false)) Lc tb gs n sb mb v0 st (bR most su (W.map WB.m) mem K) m1 v1/\W[(bR most su (W.map WB.m) mem K).at_]?=some x):=by
     intro w2 hB2 hN2 x2;have y2:=aaf (LB:=LB) x2 C1 N1.rf hLb.out;have e2:=hres.out;rw[e2];refine⟨⟨⟨⟨hN2,N1.mem.Vi,N1.mem.IG,pW N1.mem.own y2 (by unfold Yb;decide),Nat.le_trans N1.mem.base x2.size⟩,N1.Nc,N1.N6,hB2,pW N1.chain y2 (by unfold Yb;decide)⟩,C1.blk x2 N1.rf,?_,x1.trans (y2.mono (λt e=>.inr e)),s1.trans (tJ.all _ (dI.of x2 (λk cs f hc ⟨z,hz,e⟩=>?_)) x2.size)⟩,hx.out⟩;.have:=T1.tk y2 (by unfold Yb;decide) (by unfold Yb;decide);rw[iG]at this;exact this
     .subst e;have hr:=N1.rf.row z hz;unfold Row at hr;rw[hr]at hc;cases hc
    replace hsg:=aL hsg;clear N1 C1 T1 O1 A1 x1 s1 NN NP hs hsp hO hX hwc;by_cases hlast:k+1=W.length
    .have hl1:¬(k:Int)<(W.length:Int) -1:=O9;go_wp2;refine hsg.out.mono ?_;rintro e w2 ⟨rfl,hB2,hN2,x2⟩;have hf:=aL (fin.out w2 hB2 hN2 x2);have he:(bR most su (W.map WB.m) mem K).e=E:=by rw[hres.out];exact bD (hrr.out.2 hlast)
     replace he:=aL he;clear hB2 hN2 x2 fin hsg;go_wp2;go_ret2;refine⟨m1,v1,.inr ⟨by rw[he.out];exact hE,by rw[he.out];rfl,x,j,hf.out.2,hj,hf.out.1⟩⟩
    .have hl1:(k:Int)<(W.length:Int) -1:=O9;go_wp2;refine hsg.out.mono ?_;rintro e w2 ⟨rfl,hB2,hN2,x2⟩;have hf:=aL (fin.out w2 hB2 hN2 x2);have he:(bR most su (W.map WB.m) mem K).e=13:=by rw[hres.out];exact aT (λe=>hlast (hrr.out.1 e))
     replace he:=aL he;clear hB2 hN2 x2 fin hsg;go_wp2;go_ret2;refine⟨m1,v1,.inr ⟨by rw[he.out];decide,by rw[he.out];rfl,x,j,hf.out.2,hj,hf.out.1⟩⟩
  .have hk':k=W.length:=O9;subst hk';obtain⟨n1,hn1⟩:∃n1,W.length=n1+1:=⟨W.length -1,O9⟩;obtain⟨ig,ic,hv1⟩:=cP hI.lnk n1 hn1;rw[<-hn1]at hv1;subst hv1;clear hn1;have hres:=hI.res;rw[WM]at hres;simp only[DY,bR,JR.after,oL]at hres;have GZ:=hI.la;rw[jI]at GZ;have hend:acK LB w wr nb B most cs bv gc kc cc l Lc tb gs n sb mb v0 st (bR most su (W.map WB.m) mem K) mv v:=by rw[hres];exact⟨hI.nd,hI.aV,hI.iH,hI.tk,hI.sin⟩
   have he:(bR most su (W.map WB.m) mem K).e=0:=by rw[hres]
   have hls:Lk.map eI.st=(bR most su (W.map WB.m) mem K).ls:=by rw[hres]
   have ag3:=aL hI.lnk;have hap:=aL hI.ap;replace hend:=aL hend;replace he:=aL he;replace hls:=aL hls;replace GZ:=aL GZ;clear hI hres hwc hO hX hsp;go_wp2;go_ret2;exact⟨mv,v,.inl ⟨he.out,⟨ig,ic,Lk,rfl,ag3.out,hls.out,GZ.out,hap.out⟩,hend.out⟩⟩
def uu:jO:=λ_=>none
def yQ(a su):∀(l:List (Int×List Mn)) (mem:List bX) (K:jO),(∀p c,K p=some c->c.pt=p)->BI K->(∀x∈l,x.1<9223372036854775808/\x.2.length<=8/\∀t∈x.2,t.id.size<=1000000/\(∀i∈t.ins,i.Small)/\t.ins.length<=8/\t.outs.length<=8/\∀o∈t.outs,o.Small)->(bR a su l mem K).K=goes K (bR a su l mem K).st/\eZ K (bR a su l mem K).st/\BI (bR a su l mem K).K/\(bR a su l mem K).st.length<=200*l.length/\((bR a su l mem K).e=0->(bR a su l mem K).st=(bR a su l mem K).ls.flatten/\(bR a su l mem K).ls.length=l.length)
 |[],mem,K,_,f,_=>⟨rfl,trivial,f,L9,λ_=>⟨rfl,rfl⟩⟩
 |x::r,mem,K,m,f,hl=>by
   have d:=hl x S8;have b:=BM a su x.1 x.2 mem m (λt g=>have q:=d.2.2 t g;⟨q.1,q.2.1,q.2.2.2.1⟩);have h:=Gc a su x.1 x.2 mem d.1 f d.2.1 (λt g=>have q:=d.2.2 t g;⟨q.2.2.1,q.2.2.2.1,q.2.2.2.2⟩);by_cases h0:(bP a su x.1 x.2 mem K []).1=0
   .have⟨j,k,a3,a4,a5⟩:=yQ a su r (bP a su x.1 x.2 mem K []).2.2 _ b.pt h.1 (λy n=>hl y (by simp[n]));rw[bR,aT (by rw[h0];simp)];refine⟨?_,b.ok.append ?_,a3,?_,λe=>?_⟩;.rw[j,iX,<-b.at_]
    .rw[<-b.at_];exact k
    .grind
    .simp_all
   .rw[bR,bD h0];simp only;refine⟨b.at_,b.ok,h.1,?_,λe=>?_⟩;.grind
    .omega
structure Qt(π:World)(tb gs n:Nat)(sb mb:Nat->Nat)(L:List eI)(k:Nat)(W:World):Prop where
 aV:aQ W gs n sb mb (goes uu (dP (L.take (L.length -k))))
 iH:∃v,bM W tb gs n v (lS (dP (L.drop (L.length -k))))
 x:Xo (Al n mb tb) (tb+1) wL π W
def Qt.own{c tb gs n sb mb L}(u:∀i,i<n->mb i<↑c):OwnFrom c.heap.size (Qt c tb gs n sb mb L):=by
 intro k W W' row h a hr;have d:∀r,row=some r->∃o:Obj,W.heap[r]?=some o/\o.isCells=false:=λr e=>(hr r e).2;have q:∀(g:Nat) (t:TypeId) (cs:List Value),Row W g t cs->Row W' g t cs:=λg t cs r=>lR a d _ _ _ _ r;have x:Xc (λk=>row=some k) W W':=⟨a.os,a.tape,a.output,a.size,λk j p=>a.block k j (λe=>p e.symm)⟩;have l:∀(g:Nat) (t:TypeId) (cs:List Value),Row W g t cs->¬row=some g:=λg t cs r e=>by have⟨o,m,b⟩:=d g e;rw[r]at m;cases m;simp[Obj.isCells]at b
 refine⟨h.aV.xc x (l _ _ _ h.aV.arr) (λi hi=>l _ _ _ (h.aV.sh i hi)) (λi hi e=>?_),?_,?_⟩;.grind
 .have⟨s,f⟩:=h.iH;exact⟨s,⟨q _ _ _ f.row,dF f.own (λk cs _ _ b=>(lR a d _ _ _ _ b).trans b.symm)⟩⟩
 .refine Sw h.x x (λk j e=>?_);have:=(hr _ e).1;omega
def Qt.grown{a tb gs n sb mb L}(b:∀i,i<n->mb i<↑a){k W}(h:Qt a tb gs n sb mb L k W)(o):Qt a tb gs n sb mb L k (W.alloc o):=Qt.own b k W _ none h (WL W o none) (λr e=>by cases e)
def vP.xo{tb n mb w w' g l}(h:vP w g l)(x:Xo (Al n mb tb) (tb+1) wL w w')(j:g<tb)(c:∀k,lD n mb k->∃o,w.heap[k]?=some o/\o.isCells=false):vP w' g l:=by
 have⟨cs,f,a⟩:=h.ty;have:=x.block g (bE a) (by
  rintro((e|e)|⟨e,_⟩);.have⟨o,b,d⟩:=c g e;rw[a]at b;cases b;simp[Obj.isCells]at d
  .omega
  .omega)
 exact⟨⟨cs,f,this.trans a⟩,λi s hi=>(h.at_ i s hi).same this⟩
def Qt.call{a W tb gs n sb mb L k i x}(h:Qt a tb gs n sb mb L k W)(B:∀k,lD n mb k->∃o,a.heap[k]?=some o/\o.isCells=false)(m:L[i]?=some x)(hi:i+k+1=L.length)(j:eZ uu (dP L))(hl:(dP L).length<=20000)(t:x.st=[]\/∃g,x.sa=some ⟨g,0,none⟩/\g<tb/\vP a g x.st):Cv 70 #[ptr tb,.slice x.sa x.st.length x.sc] W λe w'=>e=.returned (.tuple #[])/\Qt a tb gs n sb mb L (k+1) w'/\Xo (Al n mb tb) (tb+1) wL W w':=by
 have⟨v,l⟩:=h.iH;have p:L.length -k=i+1:=O9;have e2:L.length -(k+1)=i:=O9;have s:L.take (i+1)=L.take i++[x]:=by rw[D8,m];rfl
 have q:L.drop i=x::L.drop (i+1):=by have⟨A,w⟩:=cE.1 m;rw[xL A,w]
 have b:=h.aV;rw[p]at b l;have r:dP (L.take (i+1))=dP (L.take i)++x.st:=by rw[s,qf];simp[dP]
 have d:dP (L.drop i)=x.st++dP (L.drop (i+1)):=by rw[q];simp[dP]
 have c:dP L=dP (L.take i)++(x.st++dP (L.drop (i+1))):=by rw[<-d,<-qf,BX]
 rw[r,iX]at b;rw[c]at j hl;have u:=j.left.2.left.1;have hlen:(lS (dP (L.drop (i+1)))).length+x.st.length<=100000:=by rw[bY,bY]at hl;rw[xn];omega
 have z:x.st=[]\/∃g,x.sa=some ⟨g,0,none⟩/\(g<=tb\/x.st<+:lS (dP (L.drop (i+1))))/\vP W g x.st:=by
  obtain e|⟨g,e,y,c⟩:=t;.exact .inl e
  .exact .inr ⟨g,e,.inl O9,c.xo h.x y B⟩
 refine(adN x.sa x.sc W b l u hlen z).mono ?_;rintro e w' ⟨rfl,h1,⟨C,h2⟩,f⟩;refine⟨rfl,⟨by rw[e2];exact h1,⟨C,?_⟩,qZ h.x f⟩,f⟩;rw[e2,d,JX];exact h2
def aav(d gc a c1 f b c2 L c w)(q:0<a)(r:0<b)(q0:w.cell? (d,0)=some (.slice (some ⟨gc,0,none⟩) a c1))(p:w.cell? (d,1)=some (.slice (some ⟨f,0,none⟩) b c2))(l:L.length=a*2)(n:∀u∈L,u.oneCell'=true)(o:∀j u,L[j]?=some u->w.cell? ⟨gc,j,none⟩=some u)(g:c.length=b*2)(h:∀u∈c,u.oneCell'=true)(i:∀j u,c[j]?=some u->w.cell? ⟨f,j,none⟩=some u)(s:a<=400)(t:b<=400):
 Cv 74 #[.slice (some ⟨d,0,none⟩) 2 2] w λe w'=>∃v,e=.returned v/\w'.ownsRow w 123 2 v (a+b) (L++c)/\Below w w w':=by
 obtain⟨k,rfl⟩:∃k,a=k+1:=⟨a -1,O9⟩;obtain⟨m,rfl⟩:∃m,b=m+1:=⟨b -1,O9⟩;exact acG d gc k c1 f m c2 L c w q0 p l n o g h i O9 O9
def oD.agn{w nb B f gc kc cc d a c cs L e bv mv l mem}(h:oD w nb B f cs bv mv gc kc cc l L mem)(i:w.ownsRow B 123 2 (.slice (some ⟨d,0,none⟩) (a+1) c) (a+1) e):oD (w.setCell (nb,12) (.slice d (a+1) c)) nb B f (cs.set 12 (.slice d (a+1) c)) bv mv d a c l e mem:=by
 have x:Ck 0 (λu=>u=107) w (w.setCell (nb,12) (.slice d (a+1) c)):=(uL (n:=0) (mb:=λ_=>0) h.mem.row _ (fJ _)).ck;have hl:=(cE.1 h.mem.Vi).1;refine⟨⟨h.mem.row.set 12 _,?_,?_,sM h.mem.own x D9,bI h.mem.base x.size⟩,?_,?_,⟨sM h.rf.own x D9,λb g=>(h.rf.row b g).ck x D9⟩,sM i x D9⟩;.rw[sY D9];exact h.mem.Vi
 .rw[sY D9];exact h.mem.IG
 .rw[sY D9];exact h.Nc
 .grind
def JZ{gs n tb sb mb K0 v l}(x bt f w)(h:w.cell? (f,0)=some ↑aF)(B:w.cell? (bt,0)=some (.pointer tb))(i:aQ w gs n sb mb (goes K0 l))(a:bM w tb gs n v l)(r:eZ K0 l)(hl:l.length<=40000)(p:LB<=tb):CallsDIn Fence.wide x Vp 69 #[.pointer (some ⟨f,0,none⟩),.pointer (some ⟨bt,0,none⟩)] .returning w (λe y w'=>y=.returning/\(∃v,e=.returned v)/\aQ w' gs n sb mb K0/\Tk LB Yt n mb w w'/\Xo (Al n mb tb) (tb+1) wL w w'):=by
 have t:l=[]\/∃g,(∃c,v=.slice (some ⟨g,0,none⟩) l.length c)/\vP w g l:=by
  obtain⟨d,h0⟩|⟨g,cap,cur,d,_⟩:=a.own.2;.exact .inl (oG h0)
  .have j:=a.own;rw[d]at j;exact .inr ⟨g,⟨cap,d⟩,SU j⟩
 obtain⟨va,vc,rfl⟩:=bG a.own;have t1:=a.row.r 1;have b:Below w w w.drew:=cX B0;have u:Cv 70 #[.pointer tb,.slice va l.length vc] w.drew λe w'=>∃m,e=.returned m/\(aQ w' gs n sb mb K0/\Tk LB Yt n mb w w'/\Xo (Al n mb tb) (tb+1) wL w w'):=by
  refine(adN va vc w.drew (i.keep b) ⟨a.row.keep b a.row.lt,aX a.own b⟩ r O9 ?_).mono ?_
  .obtain e|⟨g,⟨c,e⟩,q⟩:=t;.exact .inl e
   .cases e;exact .inr ⟨g,rfl,.inr (sQ _),q.keep b⟩
  .rintro e w' ⟨rfl,h1,_,h2⟩;exact⟨_,rfl,h1,(Aq b).trans (SP h2 (i.keep b) ⟨a.row.keep b a.row.lt,aX a.own b⟩ p),qZ (iW b) h2⟩
 have s:Hid (∀(k:Array Value) (w:World),(callFunc 70 k).run Vp w=.ok (.enter 70 k) w):=λ_ _=>by kernel_rfl
 refine wa (fA Tryz.func69) rfl ?_;go_wp2;go_region_law (refine kR 70 rfl _ _ rfl #[.pointer tb,.slice va l.length vc] E9 _ u (s.out _ _) ?_;rintro m w1 ⟨o,z,A⟩);all_goals go_wp2
 all_goals go_end0
 all_goals exact⟨⟨_,rfl⟩,o,z,A⟩
end
end Go.Proofs.aH
