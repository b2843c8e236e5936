import Derived.ProofKit
import Derived.SizedLaws
import Derived.Carry
import Derived.Deep.Slices
import Derived.Deep.Strs
import Derived.Lib.SmallJoins
import Derived.Test.YtpjcmpfncpnmeabGreatRows
import Derived.Test.YtpjcmpfncpnmeabGreatM19
import Derived.Test.YtpjcmpfncpnmeabGreatM23
set_option linter.all false
set_option maxHeartbeats 16000000
set_option maxRecDepth 100000
namespace Go.Proofs.aH
def RA:∀a b,Op.bytesLess a b=true↔Lib.compareBytes a b<0
 |[],[]=>by simp[Op.bytesLess,Lib.compareBytes]
 |[],_::_=>by simp[Op.bytesLess,Lib.compareBytes]
 |_::_,[]=>by simp[Op.bytesLess,Lib.compareBytes]
 |a::d,b::e=>by
   unfold Op.bytesLess Lib.compareBytes;have f:=RA d e;by_cases c:a<b;.simp[c]
   .grind
def Ub{b a f e}(h:vB (b,f) (a,e)<0):(Op.bytesLess b.toList a.toList=true/\b≠a)\/(b=a/\f<e):=by
 unfold vB at h;by_cases c:Lib.compareBytes b.data.toList a.data.toList=0
 .rw[aS (by simpa using c),adm]at h;have:=(uC _ _).1 c;refine .inr ⟨?_,h⟩;have d:b.data=a.data:=by apply Qp;exact this
  cases b;cases a;simp at d;rw[d]
 .rw[bE c]at h;refine .inl ⟨?_,λg=>c ((uC _ _).2 (by rw[g]))⟩;rw[RA,ByteArray.toList_eq,ByteArray.toList_eq];exact h
open Go.RowKit
attribute [local go_sem↓] Go.wp_at_zero Go.wp_at_succ
def Mt(n:Nat):List Value:=(madeCells #[aB,aA,aA,aB,aA,aF] (n*6)).toList
def YD(n):(Mt n).length=n*6:=by unfold Mt;rw[Array.length_toList,size_madeCells]
def Gx(l:List Pt):List Value:=l.flatMap λp=>[.string p.1,.int .i64 p.2]
def Mu:∀l i p,l[i]?=some p->(Gx l)[i*2]?=some p.1/\(Gx l)[i*2+1]?=some (.int .i64 p.2)
 |[],i,x,h=>by simp at h
 |y::l,0,x,h=>by simp at h;subst h;exact⟨rfl,rfl⟩
 |y::l,i+1,x,h=>by have:=Mu l i x (by simpa using h);have e:Gx (y::l)=[.string y.1,.int .i64 y.2]++Gx l:=rfl;rw[e];simp only[show(i+1)*2=2+i*2 from by omega,show 2+i*2+1=2+(i*2+1)from by omega];rw[dU S8,dU S8];simpa using this
def yJ(o):∃s1 s2 s3 s4 s5 s6,qO o=.agg #[.string s1,.int .i64 s2,.int .i64 s3,.string s4,.int .i64 s5,.bool s6]/\nz o=[.string s1,.int .i64 s2,.int .i64 s3,.string s4,.int .i64 s5,.bool s6]:=by cases o with
 |none=>exact⟨_,_,_,_,_,_,rfl,rfl⟩
 |some c=>exact⟨_,_,_,_,_,_,rfl,rfl⟩
def looked(K:iR)(l:List Pt):List Value:=l.flatMap λp=>nz (K p)
def Pk(K l):(looked K l).length=l.length*6:=by induction l with
 |nil=>rfl
 |cons p l ih=>have e:looked K (p::l)=nz (K p)++looked K l:=rfl;obtain⟨_,_,_,_,_,_,_,h⟩:=yJ (K p);rw[e,h];simp;omega
def adn(Q:Exit->Act->World->Prop):Exit->Act->World->Prop
 |.normal,a,w=>Q .normal a w
 |_,_,_=>False
def s6W(w:World)(g o:Nat)(v0 v1 v2 v3 v4 v5:Value):World:=(((((w.setCell ⟨g,o,none⟩ v0).setCell ⟨g,o+1,none⟩ v1).setCell ⟨g,o+2,none⟩ v2).setCell ⟨g,o+3,none⟩ v3).setCell ⟨g,o+4,none⟩ v4).setCell ⟨g,o+5,none⟩ v5
def afG{S w w1}(h:Xc S w w1)(g o v0 v1 v2 v3 v4 v5)(hr:g<↑w->S g):Xc S w (s6W w1 g o v0 v1 v2 v3 v4 v5):=(((((h.setCell (g,o) v0 hr).setCell (g,o+1) v1 hr).setCell (g,o+2) v2 hr).setCell (g,o+3) v3 hr).setCell (g,o+4) v4 hr).setCell (g,o+5) v5 hr
def YE{w g t A r x0 x1 x2 x3 x4 x5}(h:Row w g t (A++x0::x1::x2::x3::x4::x5::r))(v0 v1 v2 v3 v4 v5):Row (s6W w g A.length v0 v1 v2 v3 v4 v5) g t (A++v0::v1::v2::v3::v4::v5::r):=by
 have h1:=(((((h.set A.length v0).set (A.length+1) v1).set (A.length+2) v2).set (A.length+3) v3).set (A.length+4) v4).set (A.length+5) v5;have e:((((((A++x0::x1::x2::x3::x4::x5::r).set A.length v0).set (A.length+1) v1).set (A.length+2) v2).set (A.length+3) v3).set (A.length+4) v4).set (A.length+5) v5=A++v0::v1::v2::v3::v4::v5::r:=by simp
 rw[e]at h1;exact h1
def afH{w g o n mb t cs}(r:Row w g t cs)(v0 v1 v2 v3 v4 v5):Tk 0 (λu=>u=t) n mb w (s6W w g o v0 v1 v2 v3 v4 v5):=have z:=eX g;(nA r v0 z).trans ((nA (r.set o v0) v1 z).trans ((nA ((r.set o v0).set (o+1) v1) v2 z).trans ((nA (((r.set o v0).set (o+1) v1).set (o+2) v2) v3 z).trans ((nA ((((r.set o v0).set (o+1) v1).set (o+2) v2).set (o+3) v3) v4 z).trans (nA (((((r.set o v0).set (o+1) v1).set (o+2) v2).set (o+3) v3).set (o+4) v4) v5 z)))))
def Ua{P}{cd:Code}{Q a w}(h:cd.wp P (adn Q) a w):cd.wp P Q a w:=Code.wp_mono (λe _ _ hq=>by cases e with
  |normal=>exact hq
  |_=>exact hq.elim) h
def aby(n:Nat)(h:n<=100000)(w):(Instr.makeSlice 41 (n:Int) (n:Int)).run Vp w=.ok (.slice (w:Nat) n n) (w.alloc (.cells (Mt n).toArray 60)):=by obtain⟨i0,hi,hz0,hz1,hz2⟩:=info_parts ado;have:=vI (P:=Vp) w 41 60 i0 _ aI.underlying41 hi hz0 .i64 .i64 (n:Int) (n:Int) O9 (mH _) (by rw[hz2];omega) O9;rw[this,hz1];simp[Mt,Value.cells]
def Rz{nb gl cl sp c a}(l w)(h:sx w nb c a)(hg:Row w gl 58 (Gx l++sp))(hp:∀p∈l,Aa p)(hl:l.length<=100000):Cv 18 #[ptr nb,.slice gl l.length cl] w λe w'=>∃g,e=.returned (.tuple #[.slice (some ⟨g,0,none⟩) l.length l.length,a.Mv])/\w<=g/\Row w' g 60 (looked a.K l)/\Below w w w':=by
 obtain⟨s,hL⟩:=h;have hrow:=hL.row;have R0:=aX w [aB,aA,aA] 39;have hb0:Below w w (w.alloc (.cells #[aB,aA,aA] 39)):=B0.alloc L9 _;have nlt:=hrow.lt;have glt:=hg.lt;have gne:gl≠nb:=hg.ne hrow D9;unfold ptr;go_enter_defers fA Tryz.func18,Tryz.ntmps18;go_wp2;replace hL:=hL.keep hb0;generalize w.alloc (.cells #[aB,aA,aA] 39)=X at R0 hb0 hL|-;refine(wF X hL.row).mono ?_;rintro e w2 ⟨rfl,hr2,hw2⟩;obtain⟨hL2,x2⟩:=hL.rlock hr2 hw2;have xw:Xc (λk=>k=nb\/False) w w2:=(iN hb0).trans x2 (λk _ e=>.inl e);replace R0:=R0.xc x2 (λe=>by omega);clear hr2 hw2 x2 hb0 hL;have hmk:=aby l.length hl;have RX:=aX w2 (Mt l.length) 60;have hbX:Below w2 w2 (w2.alloc (.cells (Mt l.length).toArray 60)):=B0.alloc L9 _;have hsz:(w:Nat)<=(w2:Nat):=xw.size;go_wp2;replace xw:=xw.then hbX;replace R0:=R0.keep hbX R0.lt;replace hL2:=hL2.keep hbX;generalize(w2:Nat)=gx at RX hsz|-;generalize w2.alloc (.cells (Mt l.length).toArray 60)=π at RX xw R0 hL2|-;clear hmk hbX;go_loopw [21] (λi wr=>∃(k:Nat) (rest:List Value),k<=l.length/\i=↑k/\Row wr gx 60 (looked a.K (l.take k)++rest)/\rest.length=(l.length -k)*6/\jT wr nb pI c s a/\Row wr ↑w 39 [aB,aA,aA]/\Xc (λk=>k=nb\/False) w wr) (λi _=>l.length -(intOf i).toNat);exact⟨0,Mt l.length,eX _,rfl,RX,by rw[YD];rfl,hL2,R0,xw⟩;case round=>
  clear RX hL2 R0 xw;obtain⟨k,rest,hk,rfl,RX,hrl,hL2,R0,xw⟩:=hrel;by_cases hlt:k<l.length;.match rest,hrl with
   |[],hrl=>simp at hrl;omega
   |[_],hrl=>simp at hrl;omega
   |[_,_],hrl=>simp at hrl;omega
   |[_,_,_],hrl=>simp at hrl;omega
   |[_,_,_,_],hrl=>simp at hrl;omega
   |[_,_,_,_,_],hrl=>simp at hrl;omega
   |y0::y1::y2::y3::y4::y5::rest,hrl=>
     have hx:=bO hlt;have htk:l.take (k+1)=l.take k++[l[k]]:=by rw[vR hlt]
     generalize l[k]=p at hx htk;have hpk:=hp p (cQ hx);obtain⟨g0,g1⟩:=Mu l k p hx;have hgw:=hg.xc xw (λe=>by obtain e|e:=e;exact gne e;exact e);have c0:wr.cell? (gl,k*2)=some ↑p.1:=by rw[hgw.cell,mG (cB.1 g0).1];exact g0
     have c1:wr.cell? (gl,k*2+1)=some ↑p.2:=by rw[hgw.cell,mG (cB.1 g1).1];exact g1
     obtain⟨s1,s2,s3,s4,s5,s6,hc6,hcs⟩:=yJ (a.K p);have hal:(looked a.K (l.take k)).length=k*6:=by rw[Pk,iU];omega
     have hfin:Hid (looked a.K (l.take (k+1))=looked a.K (l.take k)++[.string s1,.int .i64 s2,.int .i64 s3,.string s4,.int .i64 s5,.bool s6]):=by show _=_;rw[htk];unfold looked;rw[List.flatMap_append,uU,List.flatMap_nil,nE,hcs]
     have hbA:Below wr wr (wr.alloc (.cells #[↑p.1,↑p.2] 58)):=B0.alloc L9 _;have RP:=aX wr [↑p.1,↑p.2] 58;replace RX:=RX.keep hbA RX.lt;replace R0:=R0.keep hbA R0.lt;replace hL2:=hL2.keep hbA;replace xw:=xw.then hbA;have hk0:(0:Int)<=(k:Int):=O9;have hk1:(k:Int)<(l.length:Int):=O9;replace hal:=aL hal;replace hrl:=aL hrl;clear hx htk g0 g1 hbA hgw hcs;go_wp2;generalize wr.alloc (.cells #[↑p.1,↑p.2] 58)=V at RX R0 hL2 xw RP|-;generalize(wr:Nat)=bq at RP|-;have d0:V.cell? (bq,0)=some ↑p.1:=RP.cell 0;have d1:V.cell? (bq,1)=some ↑p.2:=RP.cell 1;have n13:V.cell? (nb,13)=some (.slice s.gs s.n s.n):=by rw[hL2.nd.mem.row.cell];rfl
     have hD:Below V V V.drew:=cM B0;have hlk:Cv 39 #[.agg #[.slice s.gs s.n s.n],.agg #[↑p.1,↑p.2]] V.drew λe w'=>∃vv,e=.returned vv/\(vv=.agg #[s1,s2,s3,s4,s5,.bool s6]/\Below V V w'):=by refine(H4 p V.drew (hL2.aY.keep hD) hpk).mono ?_;rintro e w' ⟨rfl,hb⟩;exact⟨_,rfl,hc6,hD.trans hb⟩
     have hfn:Hid (∀(vs:Array Value) (w:World),(callFunc 39 vs).run Vp w=.ok (.enter 39 vs) w):=λ_ _=>by kernel_rfl
     have fin:Hid (∀w',Below V V w'->Row w' gx 60 (looked a.K (l.take k)++y0::y1::y2::y3::y4::y5::rest)):=λw' hb=>RX.keep hb RX.lt;have Bv:Hid (∀w',Below V V w'->Row (s6W w' gx (k*6) ↑s1 ↑s2 ↑s3 ↑s4 ↑s5 (.bool s6)) gx 60 (looked a.K (l.take (k+1))++rest)/\jT (s6W w' gx (k*6) ↑s1 ↑s2 ↑s3 ↑s4 ↑s5 (.bool s6)) nb pI c s a/\Row (s6W w' gx (k*6) ↑s1 ↑s2 ↑s3 ↑s4 ↑s5 (.bool s6)) ↑w 39 [aB,aA,aA]/\Xc (λk=>k=nb\/False) w (s6W w' gx (k*6) ↑s1 ↑s2 ↑s3 ↑s4 ↑s5 (.bool s6))):=by intro w' hb;have r:=RX.keep hb RX.lt;have t:=afH (o:=k*6) (n:=0) (mb:=s.mb) r ↑s1 ↑s2 ↑s3 ↑s4 ↑s5 (.bool s6);refine⟨?_,(hL2.keep hb).tk t D9 D9 D9 D9 D9 D9 D9,(R0.keep hb R0.lt).tk t D9,afG (xw.then hb) gx (k*6) _ _ _ _ _ _ (λe=>by omega)⟩;have r6:=YE r ↑s1 ↑s2 ↑s3 ↑s4 ↑s5 (.bool s6);rw[hal.out]at r6;rw[hfin.out,iM];exact r6
     have hcell:Hid (∀w',Row w' gx 60 (looked a.K (l.take k)++y0::y1::y2::y3::y4::y5::rest)->(w'.cell? (gx,k*6)=some y0/\w'.cell? (gx,k*6+1)=some y1/\w'.cell? (gx,k*6+2)=some y2/\w'.cell? (gx,k*6+3)=some y3/\w'.cell? (gx,k*6+4)=some y4/\w'.cell? (gx,k*6+5)=some y5)):=by
      intro w' r;have q:∀j v,(y0::y1::y2::y3::y4::y5::rest)[j]?=some v->w'.cell? (gx,k*6+j)=some v:=λj v hv=>by rw[r.cell,<-hal.out,dU O9,VI];exact hv
      exact⟨q 0 _ rfl,q 1 _ rfl,q 2 _ rfl,q 3 _ rfl,q 4 _ rfl,q 5 _ rfl⟩
     clear RX R0 hL2 xw RP hD c0 c1 hc6 hpk hfin;refine Ua ?_;go_region_law (refine jR 39 rfl _ _ rfl #[.agg #[.slice s.gs s.n s.n],.agg #[↑p.1,↑p.2]] E9 _ hlk (hfn.out _ _) ?_;rintro vv w3 ⟨rfl,hb3⟩;have rX:=fin.out _ hb3;obtain⟨e0,e1,e2,e3,e4,e5⟩:=hcell.out _ rX;have f0:=rX.frozen (k*6);have f1:=rX.frozen (k*6+1);have f2:=rX.frozen (k*6+2);have f3:=rX.frozen (k*6+3);have f4:=rX.frozen (k*6+4);have f5:=rX.frozen (k*6+5);have xlt:=rX.lt;have qq:=aL (Bv.out _ hb3));all_goals unfold adn
     all_goals go_wp2
     .go_roundw;exact⟨k+1,rest,O9,by go_num,qq.out.1,by have:=hrl.out;simp only[fG]at this;omega,qq.out.2.1,qq.out.2.2.1,qq.out.2.2.2⟩;simp[intOf];omega
     .go_roundw;exact⟨k+1,rest,O9,by go_num,qq.out.1,by have:=hrl.out;simp only[fG]at this;omega,qq.out.2.1,qq.out.2.2.1,qq.out.2.2.2⟩;simp[intOf];omega
  .have hk':k=l.length:=O9;subst hk';have hr0:rest=[]:=nP O9;subst hr0;rw[nE,iB]at RX;go_wp2;refine(Mw wr hL2).mono ?_;rintro e w3 ⟨rfl,hb3⟩;replace xw:=xw.then hb3;replace R0:=R0.keep hb3 R0.lt;replace RX:=RX.keep hb3 RX.lt;replace hL2:=hL2.keep hb3;have c0:w3.cell? ((w:Nat),0)=some ↑aB:=R0.cell 0;have c1:w3.cell? ((w:Nat),1)=some ↑aA:=R0.cell 1;have c2:w3.cell? ((w:Nat),2)=some ↑aA:=R0.cell 2;have f0:=R0.frozen 0;have f1:=R0.frozen 1;have f2:=R0.frozen 2;have rlt:=R0.lt;unfold AN.Mv;go_wp2;have RF:Row (((w3.setCell ((w:Nat),0) ↑a.nM).setCell ((w:Nat),1) ↑(a.aW:Int)).setCell ((w:Nat),2) ↑a.wo) ↑w 39 [↑a.nM,↑(a.aW:Int),↑a.wo]:=((R0.set 0 ↑a.nM).set 1 ↑(a.aW:Int)).set 2 ↑a.wo;have xF:Xc (λk=>k=nb\/False) w (((w3.setCell ((w:Nat),0) ↑a.nM).setCell ((w:Nat),1) ↑(a.aW:Int)).setCell ((w:Nat),2) ↑a.wo):=((xw.setCell ((w:Nat),0) _ (λe=>absurd e (xP _))).setCell ((w:Nat),1) _ (λe=>absurd e (xP _))).setCell ((w:Nat),2) _ (λe=>absurd e (xP _));have hrF:Row (((w3.setCell ⟨w.heap.size,0,none⟩ (.string a.nM)).setCell ⟨w.heap.size,1,none⟩ (.int .i64 (a.aW:Int))).setCell ⟨w.heap.size,2,none⟩ (.int .i64 a.wo)) nb 107 _:=((hL2.row.aO ⟨w.heap.size,0,none⟩ (.string a.nM) (GR nlt)).aO ⟨w.heap.size,1,none⟩ (.int .i64 (a.aW:Int)) (GR nlt)).aO ⟨w.heap.size,2,none⟩ (.int .i64 a.wo) (GR nlt);have hxn:gx≠(w:Nat):=RX.ne R0 D9;have RXF:Row (((w3.setCell ⟨w.heap.size,0,none⟩ (.string a.nM)).setCell ⟨w.heap.size,1,none⟩ (.int .i64 (a.aW:Int))).setCell ⟨w.heap.size,2,none⟩ (.int .i64 a.wo)) gx 60 _:=((RX.aO ⟨w.heap.size,0,none⟩ (.string a.nM) hxn).aO ⟨w.heap.size,1,none⟩ (.int .i64 (a.aW:Int)) hxn).aO ⟨w.heap.size,2,none⟩ (.int .i64 a.wo) hxn;generalize((w3.setCell ⟨(w:Nat),0,none⟩ ↑a.nM).setCell ⟨(w:Nat),1,none⟩ ↑(a.aW:Int)).setCell ((w:Nat),2) ↑a.wo=F at RF xF hrF RXF|-;refine pW (f:=26) (args:=#[.pointer nb]) S8 (by simp[go_sem]) ?_;refine(pJ .returning F hrF).mono ?_;rintro e u' w4 ⟨rfl,rfl,hr4,hw4⟩;have x4:Xc (λk=>k=nb\/False) w w4:=by rw[hw4];exact xF.setCell _ _ (λ_=>.inl rfl)
   have RF4:=RF.aO (nb,4) (.int .i32 0) (Vt nlt);have RX4:=RXF.aO (nb,4) (.int .i32 0) (RXF.ne hrF D9);rw[<-hw4]at RF4 RX4;have k0:w4.cell? ((w:Nat),0)=some ↑a.nM:=RF4.cell 0;have k1:w4.cell? ((w:Nat),1)=some ↑(a.aW:Int):=RF4.cell 1;have k2:w4.cell? ((w:Nat),2)=some ↑a.wo:=RF4.cell 2;exact⟨.tuple #[.slice gx l.length l.length,.agg #[↑a.nM,↑(a.aW:Int),↑a.wo]],by simp[results,Tryz.results18,go_sem,k0,k1,k2],gx,rfl,hsz,RX4,(Fi x4 hrow hr4).low⟩
structure om(C:Nat)(w:World)(sa:Option Addr)(l:List (Int×List Int)):Prop where
 at_:l≠[]->∃g o,g<C/\sa=some ⟨g,o,none⟩/\∀(i:Nat) (x:Int×List Int),l[i]?=some x->(-9223372036854775808<=x.1/\x.1<9223372036854775808)/\∃va vc,w.cell? ⟨g,o+i*2,none⟩=some (.int .i64 x.1)/\w.cell? ⟨g,o+i*2+1,none⟩=some (.slice va x.2.length vc)/\oq C w (.slice va x.2.length vc) x.2
def om.lw{C w w' sa l}(h:om C w sa l)(x:Lw C w w'):om C w' sa l:=by refine⟨λd=>?_⟩;have⟨g,o,a,e,f⟩:=h.at_ d;refine⟨g,o,a,e,λi y j=>?_⟩;have⟨hr,va,vc,b,h2,c⟩:=f i y j;exact⟨hr,va,vc,Jx x a b,Jx x a h2,c.lw x L9⟩
structure PQ(w wr:World)(rb B m:Nat)(c:iX)(r:qd)(a:AG):Prop where
 lw:Lw w.heap.size w wr
 run:gF wr rb B r
 node:jE wr r.nb r.c a
 jL:vq r m
 c:r.c=BC c
 lo:w.heap.size<=rb/\w.heap.size<=B/\w.heap.size<=a.lo
 i0:0<r.ids.length
def Ze.pq{w w' rb B c r a}(h:Ze w w' rb B c r a):PQ w w' rb B 2 c r a:=⟨h.lw,h.run,h.node,h.jL,h.c,h.lo,h.i0⟩
def PQ.keep{w wr w' rb B m c r a}(h:PQ w wr rb B m c r a)(b:Below wr wr w'):PQ w w' rb B m c r a:=⟨h.lw.trans (Ij b),h.run.keep b,h.node.keep b,h.jL,h.c,h.lo,h.i0⟩
def PQ.base{w0 w wr rb B m c r a}(h:PQ w wr rb B m c r a)(b:Below w0.heap.size w0 w):PQ w0 wr rb B m c r a:=⟨(Ij b).trans (h.lw.mono b.size),h.run,h.node,h.jL,h.c,⟨bI b.size h.lo.1,bI b.size h.lo.2.1,bI b.size h.lo.2.2⟩,h.i0⟩
def PQ.make{w wr w' rb B m c r d a}(h:PQ w wr rb B m c r a)(p:FE wr w' rb B m r d):PQ w w' rb B (m+1) c d a:=by
 have mf:=h.run.mf (LB:=(w:Nat)) p.fx ⟨h.lo.1,h.lo.2.1⟩;have f:=h.node.mf mf;have hN:jE w' d.nb d.c a:=by rw[p.nb,p.c];exact f
 exact⟨h.lw.trans mf.lw,p.run,hN,p.jL,p.c.trans h.c,h.lo,p.made.2⟩
def PQ.sub{w wr w' rb B m c r a s}(h:PQ w wr rb B m c r a)(b:jE w' r.nb r.c (pP r.c a s).2.2.2)(y:Ck a.lo Y2 wr w'):PQ w w' rb B m c r (pP r.c a s).2.2.2:=⟨h.lw.trans (y.lw.mono h.lo.2.2),h.run.ck y (tI D9 D9 D9 D9 D9 D9) (tI D9 D9 D9 D9 D9 D9) (tI D9 D9 D9 D9 D9 D9) (tI D9 D9 D9 D9 D9 D9),b,h.jL,h.c,by rw[acI];exact h.lo,h.i0⟩
structure PV(w wr:World)(rb B m:Nat)(c:iX)(r:qd)(a:AN):Prop where
 lw:Lw w.heap.size w wr
 run:gF wr rb B r
 node:sx wr r.nb r.c a
 jL:vq r m
 c:r.c=BC c
def PQ.pv{w wr rb B m c r a}(h:PQ w wr rb B m c r a):PV w wr rb B m c r a.an:=⟨h.lw,h.run,h.node.is,h.jL,h.c⟩
def PV.keep{w wr w' rb B m c r a}(h:PV w wr rb B m c r a)(b:Below wr wr w'):PV w w' rb B m c r a:=⟨h.lw.trans (Ij b),h.run.keep b,h.node.keep b,h.jL,h.c⟩
end Go.Proofs.aH
namespace Go.Proofs.YtpjcmpfncpnmeabGreat
open Go.ChangeShapes Go.WideShapes Go.ChangeAt Go.RowKit Go.Ren
def Tryz.OP:Tryz.prog.cellsOf 3=1:=K8
def XY:=@Tryz.OP
def Tryz.LM:Tryz.prog.cellsOf 32=2:=K8
def Tryz.OQ:Tryz.prog.bytesOf 3=8:=K8
def Tryz.LN:Tryz.prog.bytesOf 32=32:=K8
def uo{a}(h:(Lit.int .i64 a).wf=true):-9223372036854775808<=a/\a<9223372036854775808:=by have c:IntKind.i64.min=-9223372036854775808:=rfl;have b:IntKind.i64.max=9223372036854775807:=rfl;simp[Lit.wf]at h;omega
def LO{w:World}{a:Addr}{n cs}(h:w.cells? 0 (a.add 0) n=some cs)(d:0<n):∃b o,a=⟨b,o,none⟩:=by have⟨_,hl,c⟩:=VH h;have h0:=c 0 d;rw[bO O9]at h0;have:=World.cell?_spot h0;simp[Addr.add]at this;have⟨b,o,sp⟩:=a;exact⟨b,o,by simpa using this⟩
def Hz{w:World}{b o n i cs}(h:w.cells? 0 (((b,o):Addr).add i) n=some cs):∀j,j<n->w.cell? ⟨b,o+i+j,none⟩=cs[j]?:=by have⟨_,hl,a⟩:=VH h;intro j c;rw[<-a j c];unfold Addr.add;by_cases hi:i=0<;>by_cases d:j=0<;>simp[hi,d]
def E0{α:Type}(f:Nat->α)(n i x)(h:((List.range n).map f)[i]?=some x):i<n/\x=f i:=by grind
def uq{w a v}(h:w.cell? a=some v):dW w a.block:=by
 unfold World.cell? at h;split at h;.rename_i c t f e;exact⟨_,_,_,e⟩
 .cases h
def yb{w}{a:Addr}{n cs}(h:w.cells? 0 (a.add 0) n=some cs)(c:0<n):dW w a.block:=by have⟨_,hl,b⟩:=VH h;have h0:=b 0 c;rw[bO O9]at h0;have:=uq h0;simpa[Addr.add]using this
structure Rm(W:World)(va:Option Addr)(vc:Nat)(xs:List Int):Prop where
 at_:xs.length≠0->∃b o,va=some ⟨b,o,none⟩/\∀(i:Nat) (y:Int),xs[i]?=some y->W.cell? ⟨b,o+i,none⟩=some (.int .i64 y)
 real:∀a,va=some a->dW W a.block\/(xs.length=0/\vc=0)
 xE:∀x∈xs,-9223372036854775808<=x/\x<9223372036854775808
 len:xs.length<=140737488355328
structure OS(W:World)(sa:Option Addr)(sc:Nat)(l:List (Int×List Int)):Prop where
 at_:l≠[]->∃g o,sa=some ⟨g,o,none⟩/\∀(i:Nat) (x:Int×List Int),l[i]?=some x->(-9223372036854775808<=x.1/\x.1<9223372036854775808)/\∃va vc,W.cell? ⟨g,o+i*2,none⟩=some (.int .i64 x.1)/\W.cell? ⟨g,o+i*2+1,none⟩=some (.slice va x.2.length vc)/\Rm W va vc x.2
 real:∀a,sa=some a->dW W a.block\/(l.length=0/\sc=0)
 len:l.length<=140737488355328
section
variable{H:Type}{enc:TypeId×Value->H}{w:World}{held:Bool}
def OT{fuel v x}(h:DataW.trod enc Tryz.prog w 0 (λ_=>true) held fuel 30 [v]=some x)(z:∀n∈x.1.weights Tryz.prog 30,n<=reachBytes):∃l va vc,v=.slice va l.length vc/\Rm w va vc l:=by
 obtain⟨c,_⟩|⟨a,len,cap,m,n,D,A,c,_,E,_,t,r,k⟩:=Go.Deep.open_slice Tryz.underlying30 h;.simp at c;exact⟨[],none,0,c,⟨λh=>absurd rfl h,λa e=>(by cases e),S8,S8⟩⟩
 .simp at c;subst t;have C:len*8<=140737488351232:=by have:=z ((((List.range len).map D).length+((List.range (m -len)).map λj=>D (len+j)).length)*Tryz.prog.bytesOf 3) (by rw[r];simp[DataW.weights]);rw[Tryz.OQ]at this;simp[reachBytes]at this;omega
  rw[XY]at k;have u:dW w a.block\/(len=0/\m=0):=by
   by_cases h0:0<m;.have⟨cs,c0,_⟩:=k 0 h0;exact .inl (yb (by simpa using c0) D9)
   .omega
  have⟨f,q⟩:=Go.Deep.choose_lt (α:=Int) (n:=len) (p:=λi d=>∃cs,w.cells? 0 (a.add (i*1)) 1=some cs/\cs=[.int .i64 d]/\(Lit.int .i64 d).wf=true) (λi hi=>by have⟨cs,h1,h2⟩:=k i O9;have⟨d,g,s⟩:=DX Tryz.underlying3 h2;exact⟨d,cs,h1,g,s.2⟩)
  refine⟨(List.range len).map f,some a,m,by simp[c],⟨λF=>?_,λa' e=>by cases e;simpa using u,λx r=>?_,by simp;omega⟩⟩
  .have h0:0<len:=by
    obtain e|e:=sP len;.simp_all
    .exact e
   have⟨B,c0,_⟩:=q 0 h0;obtain⟨b,o,rfl⟩:=LO (by simpa using c0) D9;refine⟨b,o,rfl,λi d g=>?_⟩;obtain⟨hi,rfl⟩:=E0 f len i d g;obtain⟨cs,c1,rfl,_⟩:=q i hi;have h2:=Hz c1 0 D9;simpa using h2
  .obtain⟨i,hi,rfl⟩:=gS.1 r;have⟨cs,_,_,y⟩:=q i (zf.1 hi);exact uo y
def ve{P e}:∀{l:List (DataW H)} {d:DataW H},d∈l->∀n∈d.weights P e,n∈DataW.weightsAll P e l
 |x::l,d,a,n,b=>by
   simp[DataW.weightsAll];obtain rfl|h:=iL.1 a;.simp_all
   .exact .inr (ve h n b)
def OU{fuel cs x}(h:DataW.trod enc Tryz.prog w 0 (λ_=>true) held fuel 32 cs=some x)(f:∀n∈x.1.weights Tryz.prog 32,n<=reachBytes):∃k l va vc,(-9223372036854775808<=k/\k<9223372036854775808)/\cs=[.int .i64 k,.slice va l.length vc]/\Rm w va vc l:=by
 have⟨g,y1,n,e,hl,h0,h1⟩:=trod_struct2 Tryz.underlying32 h;match cs,hl with
 |[c0,c1],_=>simp[XY]at h0 h1;have⟨i,e2,b⟩:=DX Tryz.underlying3 h0;simp at e2;have⟨l,va,vc,d,a⟩:=OT h1 (λm c=>f m (by rw[e];simp[DataW.weights,DataW.weightsEach,c]));exact⟨i,l,va,vc,uo b.2,by rw[e2,d],a⟩
def LP{fuel v x}(h:DataW.trod enc Tryz.prog w 0 (λ_=>true) held fuel 24 [v]=some x)(u:∀n∈x.1.weights Tryz.prog 24,n<=reachBytes):∃(l:List (Int×List Int)) (sa:Option Addr) (sc:Nat),v=.slice sa l.length sc/\OS w sa sc l:=by
 obtain⟨c,_⟩|⟨a,len,cap,m,n,D,E,c,_,G,_,z,t,q⟩:=Go.Deep.open_slice Tryz.underlying24 h;.simp at c;exact⟨[],none,0,c,⟨λh=>absurd rfl h,λa e=>(by cases e),S8⟩⟩
 .simp at c;subst z;have F:len*32<=140737488351232:=by have:=u ((((List.range len).map D).length+((List.range (m -len)).map λj=>D (len+j)).length)*Tryz.prog.bytesOf 32) (by rw[t];simp[DataW.weights]);rw[Tryz.LN]at this;simp[reachBytes]at this;omega
  have C:∀i,i<len->∀n∈(D i).weights Tryz.prog 32,n<=reachBytes:=λi hi n A=>u n (by rw[t];simp[DataW.weights];exact .inr (.inl (ve (gS.2 ⟨i,zf.2 hi,rfl⟩) n A)))
  rw[Tryz.LM]at q;have B:dW w a.block\/(len=0/\m=0):=by
   by_cases h0:0<m;.have⟨cs,c0,_⟩:=q 0 h0;exact .inl (yb (by simpa using c0) D9)
   .omega
  have⟨f,s⟩:=Go.Deep.choose_lt (α:=Int×List Int) (n:=len) (p:=λi d=>(-9223372036854775808<=d.1/\d.1<9223372036854775808)/\∃va vc,w.cells? 0 (a.add (i*2)) 2=some [↑d.1,.slice va d.2.length vc]/\Rm w va vc d.2) (λi hi=>by have⟨cs,h1,h2⟩:=q i O9;obtain⟨k,l,va,vc,r,rfl,g⟩:=OU h2 (C i hi);exact⟨(k,l),r,va,vc,h1,g⟩)
  refine⟨(List.range len).map f,some a,m,by simp[c],⟨λH=>?_,λa' e=>by cases e;simpa using B,by simp;omega⟩⟩;have h0:0<len:=by grind
  have⟨_,I,J,c0,_⟩:=s 0 h0;obtain⟨b,o,rfl⟩:=LO (by simpa using c0) D9;refine⟨b,o,rfl,λi d y=>?_⟩;obtain⟨hi,rfl⟩:=E0 f len i d y;have⟨r,va,vc,c1,g⟩:=s i hi;have:=Hz c1;exact⟨r,va,vc,this 0 D9,this 1 D9,g⟩
end
section
variable{G:Gs}{W w:World}{args lJ:Array Value}
def yE(S:Go.Ren.Start G W w args lJ){b o v}(h:W.cell? (b,o)=some v)(d:kp (dW W) v):w.cell? ⟨b,o,none⟩=some v:=by
 have⟨cs,t,f,a⟩:=uq h;have⟨cs',k1,_,e,_⟩:=S.cells b cs t f a;have c:cs[o]?=some v:=by simpa[World.cell?,a]using h
 simpa[World.cell?,k1]using e o v c d
def LQ(S:Go.Ren.Start G W w args lJ){b o a}(h:W.cell? (b,o)=some (.slice (some a) 0 0)):∃a',w.cell? ⟨b,o,none⟩=some (.slice (some a') 0 0):=by
 have⟨cs,t,f,c⟩:=uq h;have⟨cs',k1,_,_,g⟩:=S.cells b cs t f c;have d:cs[o]?=some (.slice (some a) 0 0):=by simpa[World.cell?,c]using h
 have⟨a',e⟩:=g o a d;exact⟨a',by simpa[World.cell?,k1]using e⟩
def LR(S:Go.Ren.Start G W w args lJ){i:Nat}{l sa sc}(h:args[i]?=some (.slice sa l.length sc))(s:OS W sa sc l):∃v,lJ[i]?=some (.slice v l.length sc)/\Go.Proofs.aH.om w w v l:=by
 have I:=S.size;by_cases hr:∀a,sa=some a->dW W a.block
 .refine⟨sa,S.adg i _ h ?_,⟨λhl=>?_⟩⟩;.cases sa with
   |none=>trivial
   |some a=>exact hr a rfl
  .obtain⟨g,o,rfl,F⟩:=s.at_ hl;have C:=(hr _ rfl).lt;simp only at C;refine⟨g,o,O9,rfl,λj x D=>?_⟩;have⟨E,va,vc,h1,h2,m⟩:=F j x D;refine⟨E,?_⟩;have fin:∀f,w.cell? (g,o+j*2+1)=some (.slice f x.2.length vc)->(x.2.length≠0->f=va)->∃va vc,w.cell? (g,o+j*2)=some ↑x.1/\w.cell? (g,o+j*2+1)=some (.slice va x.2.length vc)/\Go.Proofs.aH.oq ↑w w (.slice va x.2.length vc) x.2:=λf n B=>by
    refine⟨f,vc,yE S h1 trivial,n,⟨⟨f,vc,rfl,λd=>?_⟩,m.xE,m.len⟩⟩;have⟨b,o',A,u⟩:=m.at_ d;refine⟨b,o',?_,(B d).trans A,λk y r=>yE S (u k y r) trivial⟩;have:∃y,x.2[0]?=some y:=by cases H:x.2 with
     |nil=>rw[H]at d;exact absurd rfl d
     |cons y t=>exact⟨y,rfl⟩
    have⟨y,r⟩:=this;have:=(uq (u 0 y r)).lt;simp only at this;omega
   by_cases q:∀a,va=some a->dW W a.block
   .refine fin va (yE S h2 ?_) λ_=>rfl;cases va with
    |none=>trivial
    |some a=>exact q a rfl
   .cases va with
    |none=>exact absurd (λa e=>by cases e) q
    |some a=>
      have p:¬dW W a.block:=λh=>q λa' e=>by cases e;exact h
      obtain⟨c,rfl⟩:=(m.real a rfl).resolve_left p;rw[c]at h2;have⟨a',n⟩:=LQ S h2;exact fin (some a') (by rw[c];exact n) λd=>absurd c d
 .cases sa with
  |none=>exact absurd (λa e=>by cases e) hr
  |some a=>
    have p:¬dW W a.block:=λh=>hr λa' e=>by cases e;exact h
    obtain⟨c,rfl⟩:=(s.real a rfl).resolve_left p;rw[c]at h;have⟨a',z⟩:=S.aft i a h;refine⟨some a',by rw[c];exact z,⟨λhl=>absurd ?_ hl⟩⟩;exact nP c
end
end Go.Proofs.YtpjcmpfncpnmeabGreat
namespace Go.Proofs.aH
open Go.RowKit
attribute [local go_sem↓] Go.wp_at_zero Go.wp_at_succ
def aI.acH:(Vp.info? 58).map (λi=>(i.zero,i.size,i.bytes))=some (some (.agg #[aB,aA]),2,24):=K8
def GK{B w ops rest o a Q}(i:o.guard=none)(s x)(p:o.op=.call {callee:=.builtin .append,args:=#[s,x],argTypes:=#[56,56]})(v n l)(r:a.eval s=v)(q:w.ownsRow B 58 2 v n l)
 (g c news)(m:news.length=1*2)(t:a.eval x=.slice g 1 c)(f:Row w g 58 news)(d:∀u∈news,u.oneCell'=true)(hlen:n<=100000)(e:B<=↑w)
 (h:∀b w',w'.ownsRow B 58 2 b (n+1) (l++news)->w.grownBy w' v.ownBlock->wpList Vp ops Q rest (a.put o.dst b) w'):wpList Vp ops Q (o::rest) a w:=by
 have⟨i0,hi,y,z,A⟩:=info_parts aI.acH;refine wpList_append_own_at _ i s x 56 p B 58 i0 _ 2 24 (aI.pK Tryz.underlying56) hi y z A rfl D9 v n l r q (g,0) 1 c news t m (λj u k=>by rw[add0,f.cell];exact k) d (by unfold maxLen;omega) O9 e ?_;intro b w' d h2 _ _;exact h b w' d h2
def SE{K}(a:y8 K):∀l,(∀c∈l,K c.pt=some c)->0<=lB l/\lB l<=4294967295*(l.length:Int)
 |[],_=>by simp[lB]
 |c::l,h=>by have e:=a _ _ (h c S8);have h2:=SE a l (λd b=>h d (by simp[b]));rw[Bq];simp only[fG];omega
def Vl{B w e size g n cap b}(h:w.ownsRow B e size (.slice g n cap) n b):∃sp,Row w g e (b++sp):=by
 obtain⟨a,_⟩|⟨g',f,cur,a,_,c,_,_,_,d⟩:=h.2;.cases a
 .simp only[QE,gQ,J6]at a;obtain⟨⟨rfl,_⟩,_,rfl⟩:=a;refine⟨cur.toList.drop (n*size),?_⟩;unfold Row;rw[<-d,zk,c]
def aar{w g n a}(c:Row w g 60 a)(b:a.length=n*6)(d:n<=100000):w.ownsRow 0 60 6 (.slice g n n) n a:=⟨b,.inr ⟨g,n,a.toArray,rfl,Nat.zero_le _,c,L9,by unfold maxLen;omega,by simpa using b,by rw[<-b];simp⟩⟩
def C9{K}:∀D,(∀c∈D,K c.pt=some c)->looked K (D.map cP.pt)=eW D
 |[],_=>rfl
 |c::D,h=>by have b:=C9 D (λd a=>h d (by simp[a]));unfold looked eW at*;rw[lC,uU,uU,b,h c S8]
def BZ(l c):lB (l++[c])=lB l+c.val:=by simp[lB]
def Qg(c:iX)(l sa sc w)(ay:c.Ints)(dg:om w.heap.size w sa l)(jj:l.length<=1048576):Cv 7 #[.agg #[c.wk,c.sh,c.me,c.su,c.bi],.slice sa l.length sc,aF] w λe w'=>e=.returned ↑aD/\Lw w w w':=by
 have ee:Below w w (w.alloc (.cells #[↑c.wk,↑c.sh,↑c.me,↑c.su,↑c.bi] 23)):=B0.alloc L9 _;have e4:=Uw c (w.alloc (.cells #[↑c.wk,↑c.sh,↑c.me,↑c.su,↑c.bi] 23)) ay;have⟨gq,jc,gn,gp⟩:=RN c;go_enter fA Tryz.func7,Tryz.ntmps7;go_wp2;refine e4.mono ?_;rintro e w1 ⟨rb,B,r0,ec,rfl,dc⟩;have ez:=dc.sup;have eo:PQ w w1 rb B 2 c r0 ec:=dc.pq.base ee;clear dc e4 ee;go_wp2;go_loopw [8] (λi wr=>∃(k:Nat) (r:qd) (a:AG),k<=l.length/\i=↑(k:Int)/\PQ w wr rb B (2+k) c r a/\Ak 2 r.c a) (λi _=>l.length -(intOf i).toNat);exact⟨0,r0,ec,eX _,rfl,eo,ez⟩;case round=>
  clear eo ez;obtain⟨k,r,a,ji,rfl,E,bg⟩:=hrel;by_cases b6:k<l.length;.as_aux_lemma=>
   have J:=bO b6;generalize l[k]=x at J;have⟨ia,gj⟩:=x;have⟨g,o,e5,ht,e6⟩:=(dg.lw E.lw).at_ (by intro e;rw[e]at b6;simp at b6);subst ht;have⟨ft,va,vc,b8,b9,bd⟩:=e6 k _ J;simp only at b8 b9 bd ft;have cw:=Za ia gj va vc wr E.run ft E.i0 E.jL bd ⟨E.lo.1,E.lo.2.1⟩ O9 (by rw[E.c];exact⟨gn,gp⟩);have jh:(0:Int)<=(k:Int):=O9;have hc:(k:Int)<(l.length:Int):=O9;replace cw:=aL cw;replace bd:=aL bd;replace dg:=aL dg;clear e6 J;go_wp2;refine cw.out.mono ?_;rintro e w2 ⟨rfl,F,Q⟩;have au:=E.make Q;have e0:Ak 2 F.c a:=by rw[Q.c];exact bg
   obtain⟨s,dn⟩:=Q.made.1;clear cw Q bd b8 b9;have c0:=au.run.row.r 0;have iq:w2.cell? (rb,10)=some ↑(mk s):=(au.run.row.cell 10).trans (by show some (Value.string F.made)=_;rw[dn]);have S:Hid (Below w2 w2 w2.drew):=cM B0;have fq:Hid (Cv 12 #[.pointer F.nb,↑(mk s)] w2.drew λe w'=>∃v,e=.returned v/\(jE w' F.nb F.c (pP F.c a s).2.2.2/\Ck a.lo Y2 w2.drew w')):=(Sz s w2.drew (au.node.keep S.out)).mono λe w' ⟨gv,G,h2⟩=>⟨_,gv,G,h2⟩;have P:Hid (∀W:World,Ck a.lo Y2 w2.drew W->W.cell? (rb,0)=some (.pointer F.nb)/\W.cell? (rb,10)=some ↑(mk s)):=λW A=>by have h:=(au.run.keep S.out).ck A (tI D9 D9 D9 D9 D9 D9) (tI D9 D9 D9 D9 D9 D9) (tI D9 D9 D9 D9 D9 D9) (tI D9 D9 D9 D9 D9 D9);exact⟨h.row.cell 0,(h.row.cell 10).trans (by show some (Value.string F.made)=_;rw[dn])⟩
   have gx:Hid (∀W:World,jE W F.nb F.c (pP F.c a s).2.2.2->Ck a.lo Y2 w2.drew W->PQ w W rb B (2+k+1) c F (pP F.c a s).2.2.2/\Ak 2 F.c (pP F.c a s).2.2.2):=λW G h2=>⟨(au.keep S.out).sub G h2,e0.sub (rD 2) s au.node.wf⟩;clear E au dn bg e0;go_wp2;go_region_held3 (λW=>W.cell? (rb,0)=some (.pointer F.nb)/\W.cell? (rb,10)=some ↑(mk s)) (first|with_reducible exact P.out _ I|go_keep) ((go_at_call 12;refine fq.out.mono ?_;rintro e w3 ⟨v3,rfl,gk,I⟩))
   go_wp2;go_roundw;exact⟨k+1,F,_,O9,by go_num,gx.out _ gk I⟩;simp[intOf];omega
  .have hc:¬(k:Int)<(l.length:Int):=O9;have r0:=E.run.row.r 0;have⟨⟨C,X,cx,dj,cu⟩,al⟩:=bg.it a.ch.length (bI D9 bg.len) L9;have a6:y8 (goes sL (gH (a.ch.take a.ch.length))):=E.node.wf.CS a.ch.length;have e7:a.ch.length -1<=48:=by have G:=E.node.wf.chl;have h2:=E.node.wf.ll;omega
   replace cu:=cu (by have:=bg.len;omega);rw[iB]at X al a6;change kX a.an.K C at X;change HY a.an.K at al;change y8 a.an.K at a6;change lB C<=r.c.su*((a.an.aW:Nat):Int)at cx;change C.length<=64*a.an.aW at dj;change a.an.aW<=48 at e7;replace E:=E.pv;clear bg;generalize a.an=a at E X al a6 cx dj e7;have dq:=Zf wr E.node;unfold ptr at dq;replace al:=aL al;replace a6:=aL a6;have fp:0<=r.c.su/\r.c.su<=1000000:=by rw[E.c];exact(JE gq).2.2.2.1
   go_wp2;refine dq.m1 λw2 b2=>?_;unfold AN.Mv;clear dq;have cb:Below w2 w2 (w2.alloc (.cells #[↑a.nM,↑(a.aW:Int),↑a.wo] 39)):=B0.alloc L9 _;have t:=aX w2 [↑a.nM,↑(a.aW:Int),↑a.wo] 39;have av:=(E.keep b2).keep cb;have fc:(wr:Nat)<=(w2:Nat):=b2.size;have t0:(w2.alloc (.cells #[↑a.nM,↑(a.aW:Int),↑a.wo] 39)).cell? (rb,0)=some (.pointer r.nb):=av.run.row.cell 0;have cv:=T9 C _ av.node X O9;unfold ptr at cv;go_wp2;generalize w2.alloc (.cells #[↑a.nM,↑(a.aW:Int),↑a.wo] 39)=im at cb t av t0 cv|-;generalize ja:(w2:Nat)=tb at cb t|-;refine cv.mono ?_;rintro e ak ⟨v,D,ao,dp,rfl,bf,b3⟩;obtain⟨va,vc,rfl⟩:=bD bf;have fg:Hid ((D.map cP.pt).Nodup):=(ao.map cP.pt).symm.nodup X.nd;have bc:Hid (kX a.K D):=⟨fg.out,λc ay=>X.mem c (ao.mem_iff.1 ay),λp c Q=>⟨ao.mem_iff.2 (X.all p c Q).1,(X.all p c Q).2⟩⟩;have ej:lB D<=r.c.su*(a.aW:Int):=by rw[HX ao];exact cx
   have i1:D.length<=3136:=by rw[ao.length_eq];omega
   have iz:1<=D.length:=by rw[ao.length_eq];exact cu
   replace t:=t.keep b3 t.lt;replace av:=av.keep b3;clear cv t0 cb X ao cx dj cu C E b2 r0;replace dp:=aL dp;go_wp2;go_loopw [12,13,14] (λs p i wr=>∃k:Nat,k<=D.length/\i=↑(k:Int)/\s=↑(lB (D.take k))/\wr.ownsRow ↑ak 58 2 p k (Gx ((D.take k).map cP.pt))/\Below ak ak wr) (λ_ _ i _=>D.length -(intOf i).toNat);exact⟨0,eX _,rfl,by simp[lB],mN _ _ _ _,B0⟩;case round=>
    obtain⟨j,gy,rfl,rfl,Y,bw⟩:=hrel;by_cases e8:j<D.length;.as_aux_lemma=>
     have J:=bO e8;generalize D[j]=x at J;have⟨g,cc,dt,e5,q0,dv,h6,h7,h8,h9⟩:=tF (aT bf bw) J;cases dt;have jr:0<=lB (D.take j)/\lB (D.take j)<=4294967295*3136:=by
      have G:=SE a6.out (D.take j) (λc ay=>bc.out.mem c (QM ay));have h2:(D.take j).length<=3136:=by simp;omega
      omega
     have h3:=a6.out _ _ (bc.out.mem x (cQ J));have R:Hid (D.take (j+1)=D.take j++[x]):=by unfold Hid;rw[zl,J];rfl
     obtain⟨fw,du,rfl⟩:=bD Y;have jf:(0:Int)<=(j:Int):=O9;have jg:(j:Int)<(D.length:Int):=O9;have dx:=aX wr [↑x.tx,↑x.idx] 58;have dz:=oL Y (.cells #[↑x.tx,↑x.idx] 58);have da:Below wr wr (wr.alloc (.cells #[↑x.tx,↑x.idx] 58)):=B0.alloc L9 _;have B1:(ak:Nat)<=(wr.alloc (.cells #[↑x.tx,↑x.idx] 58)).heap.size:=bI bw.size da.size;have ei:∀u∈[Value.string x.tx,↑x.idx],u.oneCell'=true:=by intro u fs;simp only[iL,nR,nS]at fs;obtain rfl|rfl:=fs<;>rfl
     have gu:j<=100000:=O9;go_wp2_with (at_builtin;refine GK rfl _ _ rfl (.slice fw j du) j _ E9 dz (wr:Nat) 1 [↑x.tx,↑x.idx] rfl E9 dx ei gu B1 ?_;intro v1 w1 cy eh;obtain⟨h5,h4,hy⟩:=cO cy j rfl;subst hy);have b0:Below ak ak w1:=(bw.trans (da.mono bw.size)).grown eh B1 (λk e=>(kG Y k e).1);have cm:w1.ownsRow ↑ak 58 2 (.slice h5 (j+1) h4) (j+1) (Gx ((D.take (j+1)).map cP.pt)):=by
      rw[R.out,nT];have ag:Gx ((D.take j).map cP.pt++[x].map cP.pt)=Gx ((D.take j).map cP.pt)++[.string x.tx,.int .i64 x.idx]:=by simp[Gx,cP.pt]
      rw[ag];exact cy
     obtain⟨g',ir,hx,jd,b8,b9,-,-,-,-⟩:=tF (aT bf b0) J;cases hx;clear dx dz B1 ei cy eh q0 dv h6 h7 h8 h9 da Y;by_cases gz:j=0;.subst gz;go_quiet (fail);go_wp2;go_roundw;exact⟨1,O9,by go_num,by rw[R.out,BZ],cm,gD b0⟩;simp[intOf];omega
     .obtain⟨m,ff⟩:∃m,m+1=j:=⟨j -1,O9⟩;have a7:=bO (l:=D) (i:=m) O9;generalize D[m]=y at a7;obtain⟨iw,iu,hz,je,ib,y1,-,-,-,-⟩:=tF (aT bf b0) a7;cases hz;have hf:=dp.out.lt fg.out (by omega:m<j) a7 J;have⟨cz,gg,kg,j9,j8⟩:=x;have⟨aj,ca,ig,ie,ic⟩:=y;simp only at b8 b9 ib y1 h3 cm R;have fc:(Op.bytesLess aj.toList cz.toList=true/\aj≠cz)\/(aj=cz/\ca<gg):=Ub hf;have fq:IntKind.i64.wrap ((j:Int) -1)=(m:Int):=by rw[vH];omega
      have fe:(m:Int)<(D.length:Int):=O9;have jm:(0:Int)<=(m:Int):=O9;have hg:(0:Int)<(j:Int):=O9;have hj:0<j:=O9;have jo:decide (0<j)=true:=nD hj;replace ff:=aL ff;obtain⟨ag,e2⟩|⟨ag,e2⟩:=fc
      .have e3:(aj.toList==cz.toList)=false:=by rw[bytes_beq];simpa using e2
       go_quiet (fail);go_wp2;go_roundw;exact⟨j+1,O9,by go_num,by rw[R.out,BZ],cm,gD b0⟩;simp[intOf];omega
      .subst ag;have e3:¬gg<=ca:=O9;go_quiet (fail);go_wp2;go_roundw;exact⟨j+1,O9,by go_num,by rw[R.out,BZ],cm,gD b0⟩;simp[intOf];omega
    .have ha:j=D.length:=O9;subst ha;clear e8 gy;rw[iB]at Y;have fi:lB (D.take D.length)=lB D:=by rw[iB]
     rw[fi];obtain⟨fw,du,rfl⟩:=bD Y;obtain⟨pg,rfl⟩:=H3 Y O9;have⟨sp,L⟩:=Vl Y;have cn:=av.keep bw;have bq:=t.keep bw t.lt;have en:=aT bf bw;have ep:∀p∈D.map cP.pt,Aa p:=λp Q=>by obtain⟨d,gm,rfl⟩:=gS.1 Q;have G:=bc.out.mem d gm;have ah:=al.out _ _ G;exact⟨ah.1,O9,O9⟩
     have aa:=Rz (cl:=du) (D.map cP.pt) wr cn.node L ep (by simp;omega);rw[fC,C9 D bc.out.mem]at aa;unfold ptr AN.Mv at aa;have r0:=cn.run.row.r 0;have jq:¬(D.length:Int)<(D.length:Int):=O9;go_wp2;refine aa.mono ?_;rintro e a8 ⟨fv,rfl,jk,c7,b5⟩;have ba:=aX a8 [↑a.nM,↑(a.aW:Int),↑a.wo] 39;have bu:Below a8 a8 (a8.alloc (.cells #[↑a.nM,↑(a.aW:Int),↑a.wo] 39)):=B0.alloc L9 _;have cr:=(cn.keep b5).keep bu;have br:=(bq.keep b5 bq.lt).keep bu (bq.keep b5 bq.lt).lt;have de:=aT (aT en b5) bu;have dd:(a8.alloc (.cells #[↑a.nM,↑(a.aW:Int),↑a.wo] 39)).ownsRow 0 60 6 (.slice fv D.length D.length) D.length (eW D):=aar (c7.keep bu c7.lt) (yH D) O9;clear aa c7 b5 en bq cn Y L ep r0 bf t av;go_wp2;generalize a8.alloc (.cells #[↑a.nM,↑(a.aW:Int),↑a.wo] 39)=z at ba cr br de dd bu|-;generalize(a8:Nat)=ae at ba|-;have t0:=br.r 0;have t1:=br.r 1;have t2:=br.r 2;have u0:=ba.r 0;have fy:=ba.r 1;have fz:=ba.r 2;have ab:=cr.run.row.r 4;have hmul:IntKind.i64.wrap (r.c.su*(a.aW:Int))=r.c.su*(a.aW:Int):=by have G:0<=r.c.su*(a.aW:Int):=Int.mul_nonneg fp.1 O9;have h2:r.c.su*(a.aW:Int)<=1000000*48:=Int.mul_le_mul fp.2 O9 O9 O9;rw[vH];omega
     have aW:¬r.c.su*(a.aW:Int)<lB D:=O9;have hv:=M3 a.nM (a.aW:Int) a.wo;have S:Hid (Below z z z.drew):=cM B0;have fj:Hid (∀W,Below z z W->Cv 13 #[.slice va D.length vc,.slice fv D.length D.length] W λe w'=>e=.returned ↑aD/\Below z z w'):=λW A=>(Gw D W (aT de A) (aT dd A) O9).mono λe w' h=>⟨h.1,A.trans (h.2.mono A.size)⟩;have P:Hid (∀W,Below z z W->W.cell? (tb,0)=some ↑a.nM/\W.cell? (tb,1)=some ↑(a.aW:Int)/\W.cell? (tb,2)=some ↑a.wo/\W.cell? (ae,0)=some ↑a.nM/\W.cell? (ae,1)=some ↑(a.aW:Int)/\W.cell? (ae,2)=some ↑a.wo/\W.cell? (rb,4)=some ↑r.c.su):=λW A=>⟨aV A t0,aV A t1,aV A t2,aV A u0,aV A fy,aV A fz,aV A ab⟩;replace ej:=aL ej;go_region_held3 (λW=>W.cell? (tb,0)=some ↑a.nM/\W.cell? (tb,1)=some ↑(a.aW:Int)/\W.cell? (tb,2)=some ↑a.wo/\W.cell? (ae,0)=some ↑a.nM/\W.cell? (ae,1)=some ↑(a.aW:Int)/\W.cell? (ae,2)=some ↑a.wo/\W.cell? (rb,4)=some ↑r.c.su) (first|with_reducible exact P.out _ I|with_reducible exact P.out _ S.out|go_keep) ((go_at_call 13;refine(fj.out _ S.out).mono ?_;rintro e j7 ⟨rfl,I⟩))
     have jb:r.aY.length<=20000000:=by have:=cr.jL.cl;omega
     clear P fj t0 t1 t2 u0 fy fz ab hmul aW hv ba br dd fi;go_wp2;go_loopw [17] (λi wr=>∃q:Nat,q<=r.aY.length/\i=↑(q:Int)/\Below z z wr) (λi _=>r.aY.length -(intOf i).toNat);exact⟨0,eX _,rfl,I⟩;case round=>
      clear I;obtain⟨q,hq,rfl,cd⟩:=hrel;have N:=cr.keep cd;have ar:=aT de cd;have dw:=N.run.row.r 8;by_cases hs:q<r.aY.length;.as_aux_lemma=>
       have J:=bO hs;generalize r.aY[q]=x at J;have⟨fu,kc,dm,dk⟩:=yN N.run.aY J;have k0:wr.cell? (fu,q*4)=some ↑x.tx:=dk 0 _ rfl;have k1:wr.cell? (fu,q*4+1)=some ↑x.ix:=dk 1 _ rfl;have az:=N.jL.cg x (cQ J);rw[dm]at dw;have ho:(0:Int)<=(q:Int):=O9;have fh:(q:Int)<(r.aY.length:Int):=O9;have L:=aX wr [↑x.tx,↑x.ix] 58;have bz:Below wr wr (wr.alloc (.cells #[↑x.tx,↑x.ix] 58)):=B0.alloc L9 _;go_wp2;replace N:=N.keep bz;replace ar:=aT ar bz;have⟨bj,bk,bm,ab,bo,bp,di,π⟩:=yJ (a.K (x.tx,x.ix));have bh:Aa (x.tx,x.ix):=⟨by rw[<-eY,az.tx];decide,by have:=az.ix;omega,by have:=az.ix;omega⟩;have b7:Aa (x.tx,8):=⟨by rw[<-eY,az.tx];decide,(by decide:(-9223372036854775808:Int)<=8),(by decide:(8:Int)<9223372036854775808)⟩;have ek:a.K (x.tx,8)=none:=by cases V:a.K (x.tx,8)with
        |none=>rfl
        |some d=>have:=(al.out _ _ V).2.2;simp at this
       replace az:=aL az;have cf:Below z z (wr.alloc (.cells #[↑x.tx,↑x.ix] 58)):=cd.trans (bz.mono cd.size);clear J k0 k1 dw dk ho fh;generalize wr.alloc (.cells #[↑x.tx,↑x.ix] 58)=f at L N ar cf bz|-;generalize(wr:Nat)=H at L|-;generalize i7:x.tx=n at di π bh b7 ek L|-;generalize bd:x.ix=ix at di π bh L|-;have c0:=N.run.row.r 0;have ga:=L.r 0;have gd:=L.r 1;have S:Hid (Below f f f.drew):=cM B0;have P:Hid (∀W:World,Below f f W->W.cell? (rb,0)=some (.pointer r.nb)/\W.cell? (H,0)=some ↑n/\W.cell? (H,1)=some ↑ix):=λW A=>⟨aV A c0,aV A ga,aV A gd⟩;have et:Hid (∀o:Obj,(f.drew.alloc o).cell? (rb,0)=some (.pointer r.nb)/\(f.drew.alloc o).cell? (H,0)=some ↑n/\(f.drew.alloc o).cell? (H,1)=some ↑ix):=λo=>P.out _ (S.out.alloc L9 _);have eu:Hid (∀o o':Obj,((f.drew.alloc o).alloc o').cell? (rb,0)=some (.pointer r.nb)/\((f.drew.alloc o).alloc o').cell? (H,0)=some ↑n/\((f.drew.alloc o).alloc o').cell? (H,1)=some ↑ix):=λo o'=>P.out _ ((S.out.alloc L9 _).alloc (S.out.alloc L9 _).size _);have ew:Hid (∀(W:World) (o:Obj),Below f f W->(W.alloc o).cell? (rb,0)=some (.pointer r.nb)/\(W.alloc o).cell? (H,0)=some ↑n/\(W.alloc o).cell? (H,1)=some ↑ix):=λW o A=>P.out _ (A.alloc A.size _);have ey:Hid (∀(W:World) (k:Nat) (a b c:Value),Below f f W->(f:Nat)<=k->(((W.setCell (k,0) a).setCell (k,1) b).setCell (k,2) c).cell? (rb,0)=some (.pointer r.nb)/\(((W.setCell (k,0) a).setCell (k,1) b).setCell (k,2) c).cell? (H,0)=some ↑n/\(((W.setCell (k,0) a).setCell (k,1) b).setCell (k,2) c).cell? (H,1)=some ↑ix):=λW k a b c h V=>P.out _ (((h.setCell (p:=⟨k,0,none⟩) V _).setCell (p:=⟨k,1,none⟩) V _).setCell (p:=⟨k,2,none⟩) V _);have aa:Hid (∀(W:World) (db:Nat),Below f f W->Row W db 58 [n,ix,n,.int .i64 8]->Cv 18 #[.pointer r.nb,.slice db 2 2] W λe w'=>∃g,e=.returned (.tuple #[.slice (some ⟨g,0,none⟩) 2 2,.agg #[↑a.nM,↑(a.aW:Int),↑a.wo]])/\(Row w' g 60 [bj,bk,bm,ab,bo,.bool bp,aB,aA,aA,aB,aA,aF]/\Below f f w'/\Below W W w')):=λW db dh hr=>(Rz (sp:=[]) [(n,ix),(n,8)] W (N.node.keep dh) hr (λp Q=>by
        obtain e|Q:=iL.1 Q;.rw[e];exact bh
        .rw[kH.1 Q];exact b7) (by decide:2<=100000)).mono λe w' ⟨g,G,h2,ah,bb⟩=>⟨g,G,by
         have e:looked a.K [(n,ix),(n,8)]=[↑bj,↑bk,↑bm,↑ab,↑bo,.bool bp,↑aB,↑aA,↑aA,↑aB,↑aA,↑aF]:=by unfold looked;rw[uU,uU,π,ek];rfl
         rw[e]at ah;exact ah,dh.trans (bb.mono dh.size),bb⟩
       have e9:=aL (aa.out (f.alloc (.cells #[n,ix,n,.int .i64 8] 58)).drew ↑f (cM (B0.alloc L9 _)) (aX f [n,ix,n,.int .i64 8] 58));have fa:Hid (Cv 18 #[.pointer r.nb,.slice f.heap.size 2 2] ((f.alloc (.cells #[n,ix,n,.int .i64 8] 58)).alloc (.cells #[aB,aA,aA] 39)).drew λe w'=>∃g,e=.returned (.tuple #[.slice (some ⟨g,0,none⟩) 2 2,.agg #[↑a.nM,↑(a.aW:Int),↑a.wo]])/\(Row w' g 60 [bj,bk,bm,ab,bo,.bool bp,aB,aA,aA,aB,aA,aF]/\Below f f w'/\Row w' ((f:Nat)+1) 39 [aB,aA,aA])):=(aa.out ((f.alloc (.cells #[n,ix,n,.int .i64 8] 58)).alloc (.cells #[aB,aA,aA] 39)).drew ↑f (cM ((B0.alloc L9 _).alloc (B0.alloc L9 _).size _)) ((aX f [n,ix,n,.int .i64 8] 58).alloc _)).mono λe w' ⟨g,G,h2,ah,bb⟩=>⟨g,G,h2,ah,by have r:=aX (f.alloc (.cells #[n,ix,n,.int .i64 8] 58)) [aB,aA,aA] 39;have r2:Row w' _ 39 _:=Row.keep (w:=((f.alloc (.cells #[n,ix,n,.int .i64 8] 58)).alloc (.cells #[aB,aA,aA] 39)).drew) r bb r.lt;rw[bJ]at r2;exact r2⟩
       have fb:Hid (Cv 18 #[.pointer r.nb,.slice ((f:Nat)+1,0) 2 2] ((f.alloc (.cells #[aB,aA,aA] 39)).alloc (.cells #[n,ix,n,.int .i64 8] 58)).drew λe w'=>∃g,e=.returned (.tuple #[.slice (some ⟨g,0,none⟩) 2 2,.agg #[↑a.nM,↑(a.aW:Int),↑a.wo]])/\(Row w' g 60 [bj,bk,bm,ab,bo,.bool bp,aB,aA,aA,aB,aA,aF]/\Below f f w'/\Row w' ((f:Nat)) 39 [aB,aA,aA])):=(aa.out ((f.alloc (.cells #[aB,aA,aA] 39)).alloc (.cells #[n,ix,n,.int .i64 8] 58)).drew ((f:Nat)+1) (cM ((B0.alloc L9 _).alloc (B0.alloc L9 _).size _)) (by have r:=aX (f.alloc (.cells #[aB,aA,aA] 39)) [n,ix,n,.int .i64 8] 58;rw[bJ]at r;exact r)).mono λe w' ⟨g,G,h2,ah,bb⟩=>⟨g,G,h2,ah,by have r:=(aX f [aB,aA,aA] 39).alloc (.cells #[n,ix,n,.int .i64 8] 58);exact Row.keep (w:=((f.alloc (.cells #[aB,aA,aA] 39)).alloc (.cells #[n,ix,n,.int .i64 8] 58)).drew) r bb r.lt⟩
       replace N:=aL N;replace L:=aL L;replace ar:=aL ar;replace bh:=aL bh;replace b7:=aL b7;go_cut [19] (λq wx=>∃g:Nat,q=.slice g 2 2/\Row wx g 60 [bj,bk,bm,ab,bo,.bool bp,aB,aA,aA,aB,aA,aF]/\Below f f wx);case first=>as_aux_lemma=>
        go_region_held3 (λW=>W.cell? (rb,0)=some (.pointer r.nb)/\W.cell? (H,0)=some ↑n/\W.cell? (H,1)=some ↑ix) (first|with_reducible exact P.out _ I|with_reducible exact P.out _ S.out|with_reducible exact et.out _|with_reducible exact eu.out _ _|with_reducible exact ew.out _ _ I|with_reducible exact ey.out _ _ _ _ _ I b4|go_keep) ((first
           |(go_at_call 18;(with_reducible refine(e9.out).mono ?_);rintro e ai ⟨cj,rfl,μ,I,iy⟩)
           |(go_at_call 18;(with_reducible refine(fb.out).mono ?_);rintro e ai ⟨cj,rfl,μ,I,t⟩;have b4:(f:Nat)<=(f:Nat):=L9;have ih:ai.cell? ((f:Nat),0)=some ↑aB:=t.cell 0;have ij:ai.cell? ((f:Nat),1)=some ↑aA:=t.cell 1;have ik:ai.cell? ((f:Nat),2)=some ↑aA:=t.cell 2;have b6:=t.lt;have f0:=t.frozen 0;have f1:=t.frozen 1;have f2:=t.frozen 2;replace μ:=aL μ;replace t:=aL t)
           |(go_at_call 18;(with_reducible refine(fa.out).mono ?_);rintro e ai ⟨cj,rfl,μ,I,t⟩;have b4:(f:Nat)<=(f:Nat)+1:=xL _;have ih:ai.cell? ((f:Nat)+1,0)=some ↑aB:=t.cell 0;have ij:ai.cell? ((f:Nat)+1,1)=some ↑aA:=t.cell 1;have ik:ai.cell? ((f:Nat)+1,2)=some ↑aA:=t.cell 2;have b6:=t.lt;have f0:=t.frozen 0;have f1:=t.frozen 1;have f2:=t.frozen 2;replace μ:=aL μ;replace t:=aL t)))
        all_goals go_wp2
        all_goals go_meet
        all_goals first
         |exact⟨cj,rfl,μ.alloc _,I.alloc I.size _⟩
         |exact⟨cj,rfl,((μ.out.aO _ _ (μ.out.ne t.out D9)).aO _ _ (μ.out.ne t.out D9)).aO _ _ (μ.out.ne t.out D9),((I.setCell (p:=⟨_,0,none⟩) b4 _).setCell (p:=⟨_,1,none⟩) b4 _).setCell (p:=⟨_,2,none⟩) b4 _⟩
       case' rest=>obtain⟨T,rfl,ea,bx⟩:=hcut;have i6:=N.out.keep bx;have gl:=aT ar.out bx;have eb:=L.out.keep bx L.out.lt;have ed:Below z z wc:=cf.trans (bx.mono cf.size);clear P et eu ew ey aa e9 fa fb S c0 ga gd bx N ar L cf bz bh b7 az;have fo:True:=trivial;go_wp2;go_loopw [21,22] (λb i wr=>∃m:Nat,m<=D.length/\i=↑(m:Int)/\b=.bool ((D.take m).any λc=>decide (c.pt=(n,ix)))/\Below wc wc wr) (λ_ i _=>D.length -(intOf i).toNat);exact⟨0,eX _,rfl,rfl,B0⟩;case round=>
         obtain⟨m,jl,rfl,rfl,af⟩:=hrel;by_cases hn:m<D.length;.as_aux_lemma=>
          have a7:=bO hn;generalize D[m]=y at a7;obtain⟨g,cc,dt,e5,q0,dv,-,-,-,-⟩:=tF (aT gl af) a7;cases dt;have c8:=eb.keep af eb.lt;have b8:=c8.r 0;have b9:=c8.r 1;have hg:(0:Int)<=(m:Int):=O9;have fe:(m:Int)<(D.length:Int):=O9;have R:(D.take (m+1)).any (λc=>decide (c.pt=(n,ix)))=((D.take m).any (λc=>decide (c.pt=(n,ix)))||decide (y.pt=(n,ix))):=by rw[zl,a7,List.any_append];simp
          generalize(D.take m).any (λc=>decide (c.pt=(n,ix)))=ef at R|-;have⟨aj,ca,ig,ie,ic⟩:=y;simp only at q0 dv;replace R:(D.take (m+1)).any (λc=>decide (c.pt=(n,ix)))=(ef||decide ((aj,ca)=(n,ix))):=R;clear fo c8;cases ef with
          |true=>go_wp2;go_quiet (fail);go_wp2;go_roundw;exact⟨m+1,O9,by go_num,by rw[R];rfl,gD af⟩;simp[intOf];omega
          |false=>
            by_cases ag:aj=n
            .subst ag;by_cases e2:ca=ix;.subst e2;go_wp2;go_quiet (fail);go_wp2;go_roundw;exact⟨m+1,O9,by go_num,by rw[R];simp,gD af⟩;simp[intOf];omega
             .go_wp2;go_quiet (fail);go_wp2;go_roundw;exact⟨m+1,O9,by go_num,by rw[R];simp[e2],gD af⟩;simp[intOf];omega
            .have e3:(aj.toList==n.toList)=false:=by rw[bytes_beq];simpa using ag
             go_wp2;go_quiet (fail);go_wp2;go_roundw;exact⟨m+1,O9,by go_num,by rw[R];simp[ag],gD af⟩;simp[intOf];omega
         .have hl:m=D.length:=O9;subst hl;rw[iB];have fe:¬(D.length:Int)<(D.length:Int):=O9;have O:=ea.keep af ea.lt;have e1:(D.any λc=>decide (c.pt=(n,ix)))=(a.K (n,ix)).isSome:=by cases V:a.K (n,ix)with
           |none=>
             rw[Km.2 (λc ay=>by have:=bc.out.mem c ay;intro e;rw[Qz e,V]at this;cases this)]
             rfl
           |some d=>have⟨G,h2⟩:=bc.out.all _ d V;rw[QL.2 ⟨d,G,by simpa using h2⟩];rfl
          rw[e1];have jv:=O.r 0;have cy:=O.r 1;have jy:=O.r 2;have jz:=O.r 3;have j0:=O.r 4;have j1:=O.r 5;have j2:=O.r 6;have j3:=O.r 7;have j4:=O.r 8;have j5:=O.r 9;have jw:=O.r 10;have jx:=O.r 11;have js:=Bu ⟨#[]⟩ ⟨#[]⟩ 0 0 0 false;have eg:Below z z wr:=ed.trans (af.mono ed.size);clear fo O e1 di;cases V:a.K (n,ix)with
          |none=>rw[V]at π;simp only[nz,vM,GW,GX,GY,vL,rC]at π;obtain⟨rfl,rfl,rfl,rfl,rfl,rfl⟩:=π;simp only[Option.isSome_none];go_wp2;go_roundw;exact⟨q+1,O9,by go_num,eg⟩;simp[intOf];omega
          |some d=>rw[V]at π;simp only[nz,vM,GW,GX,GY,vL,rC]at π;obtain⟨rfl,rfl,rfl,rfl,rfl,rfl⟩:=π;simp only[V7];go_wp2;go_roundw;exact⟨q+1,O9,by go_num,eg⟩;simp[intOf];omega
      .have⟨ju,kc,dm⟩:=bD N.run.aY;rw[dm]at dw;have fh:¬(q:Int)<(r.aY.length:Int):=O9;go_wp2;go_ret;exact⟨rfl,N.lw⟩
def om.mono{C D w sa l}(h:om C w sa l)(s:C<=D):om D w sa l:=by refine⟨λj=>?_⟩;have⟨g,o,t,m,n⟩:=h.at_ j;refine⟨g,o,O9,m,λi y p=>?_⟩;have⟨hr,va,vc,f,h2,d⟩:=n i y p;refine⟨hr,va,vc,f,h2,⟨?_,d.xE,d.len⟩⟩;have⟨a,c,e,q⟩:=d.at_;exact⟨a,c,e,λk=>by have⟨b,o',u,r⟩:=q k;exact⟨b,o',O9,r⟩⟩
def Jg(c:iX)(l sa sc w)(h:c.Ints)(f:om w.heap.size w sa l)(i:l.length<=1048576):Cv 3 #[.agg #[c.wk,c.sh,c.me,c.su,c.bi],.slice sa l.length sc] w λe w'=>e=.returned ↑aD/\Lw w w w':=by
 have a:Below w w (w.alloc (.cells #[↑c.wk,↑c.sh,↑c.me,↑c.su,↑c.bi] 23)):=B0.alloc L9 _;have b:=a.size;have g:=(f.lw (Ij a)).mono b;have j:=Qg c l sa sc (w.alloc (.cells #[↑c.wk,↑c.sh,↑c.me,↑c.su,↑c.bi] 23)) h g i;go_enter fA Tryz.func3,Tryz.ntmps3;go_wp2;refine j.m1 λw1 d=>?_;go_wp2;go_ret;exact⟨rfl,(Ij a).trans (d.mono b)⟩
end Go.Proofs.aH
namespace Go.Proofs.YtpjcmpfncpnmeabGreat
open Go.ChangeShapes Go.WideShapes Go.ChangeAt Go.RowKit Go.Conc Go.Ren
open Go.ConcM (OsLater)
def aI.XZ(f)(h:aI.X0 f):∃fn s,Vp.funcs[f]?=some fn/\fn.body=some (.refuse s):=by obtain rfl:=h;exact⟨_,_,aI.func2,rfl⟩
def LS(h:aI.X 3):False:=by revert h;unfold aI.X aI.code;decide
def zW(h:aI.X0 3):False:=by revert h;unfold aI.X0;decide
def X3{a b}{v:Array Value}(h:v.size=2)(h0:v[0]?=some a)(h1:v[1]?=some b):v=#[a,b]:=by grind
def LU(c:Go.Proofs.aH.iX)(q:c.Ints)(l sa sc W)(n:OS W sa sc l)(hl:l.length<=1048576):Go.Ren.Ends Tryz.prog (λv W'=>v=↑aD/\X4 W W') (solo (cG Tryz.prog 3 #[.agg #[c.wk,c.sh,c.me,c.su,c.bi],.slice sa l.length sc] .normal []) W) #[]:=by
 have⟨G,w,lJ,S⟩:=TG W #[.agg #[↑c.wk,↑c.sh,↑c.me,↑c.su,↑c.bi],.slice sa l.length sc];have⟨u,g,o⟩:=LR S (i:=1) rfl n;have d:=S.adg 0 (.agg #[↑c.wk,↑c.sh,↑c.me,↑c.su,↑c.bi]) rfl (by intro v a;simp at a;obtain rfl|rfl|rfl|rfl|rfl:=a<;>exact⟨_,_,rfl⟩)
 have j:=X3 S.afu d g;subst j;refine TH aI.afg aI.Wx aI.Wy aI.XZ Ea zW LS S (λp m t h=>meet p m t h) (λt=>?_);have k:=Go.Proofs.aH.Jg c l u sc {w with tape:=t,drawn:=0} q (o.lw ⟨L9,λ_ _ _ _ _ h=>h⟩) hl;have⟨N,v,w',h1,h2⟩:=Calls.done (R:=λv w'=>v=↑aD/\Whole w w') (k.mono λe w' r=>by obtain⟨rfl,s⟩:=r;exact⟨rfl,λb cs t f h=>s.cells b cs t f (eA.1 h).1 h⟩) (by have:=(aI.Wy.ok 3 zW).2;simpa[yr]using this)
 exact⟨N,v,w',h1,h2⟩
def Tryz.agw:ownKnob Tryz.prog.godebug=none:=K8
def Tryz.X5:laidOutB Tryz.prog=true:=K8
def adh:=@Tryz.X5
def Tryz.OV:Tryz.prog.cellsOf 23=5:=K8
def agx{α:Type}{cs:Array α}(h:cs.size=5):∃c0 c1 c2 c3 c4,cs=#[c0,c1,c2,c3,c4]:=by have⟨l⟩:=cs;match l,h with
 |[c0,c1,c2,c3,c4],_=>exact⟨c0,c1,c2,c3,c4,rfl⟩
def OW{H enc w base spare held r m v}{d:DataW H}{p}(s:Value.okWide Tryz.prog w r m 23 v)(h:DataW.Trod enc Tryz.prog w base spare held 23 v d p):∃c:Go.Proofs.aH.iX,c.Ints/\v=.agg #[c.wk,c.sh,c.me,c.su,c.bi]:=by
 obtain⟨cs,rfl,q⟩:=okWide_struct Tryz.underlying23 s;obtain⟨c0,c1,c2,c3,c4,rfl⟩:=agx (q.trans Tryz.OV);have⟨fuel,o⟩:=h;have⟨z,n,_,_,_,hlen,a⟩:=DataW.trod_struct Tryz.underlying23 o;match z,hlen with
 |[F,y1,G,I,J],_=>have g:=a 0 _ rfl;have i:=a 1 _ rfl;have j:=a 2 _ rfl;have k:=a 3 _ rfl;have l:=a 4 _ rfl;simp[XY,Value.cells]at g i j k l;have⟨i0,b,w0⟩:=DX Tryz.underlying3 g;have⟨t,e,w1⟩:=DX Tryz.underlying3 i;have⟨u,e2,w2⟩:=DX Tryz.underlying3 j;have⟨x,e3,w3⟩:=DX Tryz.underlying3 k;have⟨y,f,w4⟩:=DX Tryz.underlying3 l;simp at b e e2 e3 f;refine⟨⟨i0,t,u,x,y⟩,?_,by rw[b,e,e2,e3,f]⟩;have A:=uo w0.2;have B:=uo w1.2;have C:=uo w2.2;have D:=uo w3.2;have E:=uo w4.2;constructor<;>simp_all
def LV{W W'}(h:X4 W W'):Below W W {W' with os:=W.os,tape:=W.tape}:=⟨rfl,rfl,h.out,h.size,h.block⟩
def X6{H}(d:DataW H):1<=Rows.uptoBulk d:=by cases d with
 |lit l=>cases l<;>simp[Rows.uptoBulk]
 |_=>simp[Rows.uptoBulk]
def LW{H}:∀l:List (DataW H),l.length<=Rows.uptoBulkAll l
 |[]=>eX _
 |d::l=>by have h1:=X6 d;have h2:=LW l;simp[Rows.uptoBulkAll];omega
def OX{H enc w held fuel a n c}{x:DataW H×List MemPlace}(h:DataW.trod enc Tryz.prog w 0 (λ_=>true) held fuel 24 [.slice a n c]=some x):n<=Rows.uptoBulk x.1:=by
 obtain⟨b,_⟩|⟨a',len,cap,m,j,D,e,b,_,g,_,i,d,f⟩:=Go.Deep.open_slice Tryz.underlying24 h;.simp_all
 .simp at b;rw[b.2.1,d];have:=LW ((List.range len).map D);simp at this;simp[Rows.uptoBulk];omega
end Go.Proofs.YtpjcmpfncpnmeabGreat
