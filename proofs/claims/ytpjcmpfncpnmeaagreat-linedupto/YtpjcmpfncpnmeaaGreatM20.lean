import Derived.Test.YtpjcmpfncpnmeaaGreatM19
set_option linter.all false
set_option maxHeartbeats 16000000
set_option maxRecDepth 100000
section
namespace Go.Proofs
@[simp] def aI.func24:=aI.aQ Tryz.func24
@[simp] def aI.call24:=aI.aR aI.func24 (by kernel_rfl)
end Go.Proofs
namespace Go.Proofs.aH
open Go.RowKit Go.Sort
attribute [local go_sem↓] Go.wp_at_zero Go.wp_at_succ
def np{B:Nat}{w:World}{v:Value}{D:List kO}{k:Nat}{x:kO}(h:w.ownsRow B 60 6 v D.length (dg D))(hx:D[k]?=some x):∃g c,v=.slice (some ⟨g,0,none⟩) D.length c/\g<w.heap.size/\w.cell? (g,k*6)=some (.string x.tx)/\w.cell? (g,k*6+1)=some (.int .i64 x.idx)/\w.cell? (g,k*6+2)=some (.int .i64 x.val)/\w.cell? (g,k*6+3)=some (.string x.lock)/\w.cell? (g,k*6+4)=some (.int .i64 x.cB)/\w.cell? (g,k*6+5)=some ↑aD:=by
  have hk:k<D.length:=(eJ.1 hx).1;have hc:=λg (hg:v.ownBlock=some g)=>h.cells (g:=g) hg;obtain⟨_,h0⟩|⟨g,cap,cur,rfl,hb,hg,_⟩:=h.2;.omega
  . have hc:=hc g rfl
    have q:∀j,j<6->w.cell? (g,k*6+j)=some ((nk x)[j]!):=λj hj=>by
      have h1:=tq D (k*6+j) (by omega);have e1:(k*6+j)/6=k:=by omega
      have e2:(k*6+j)%6=j:=by omega
      have e3:D[k]! =x:=by rw[List.getElem!_eq_getElem?_getD,hx];rfl
      rw[e1,e2,e3]at h1;have:=hc _ _ h1;rwa [add0]at this
    exact⟨g,cap,rfl,cE hg,q 0 (by omega),q 1 (by omega),q 2 (by omega),q 3 (by omega),q 4 (by omega),q 5 (by omega)⟩
def aeO{B B':Nat}{v v':Value}(D:List kO)(w:World)(hO:w.ownsRow B 60 6 v D.length (dg D))(hO':w.ownsRow B' 60 6 v' D.length (dg D))(hl:D.length<=100000):Calls aI.prog 24 #[v,v'] w λe w'=>e=.returned ↑aD/\Below w.heap.size w w':=by
  obtain⟨va,vc,rfl⟩:=bH hO;obtain⟨ua,uc,rfl⟩:=bH hO';go_enter aI.func24,Tryz.ntmps24;go_wp2_with fail;go_loopw [5] (λi wr=>∃k:Nat,k<=D.length/\i=.int .i64 k/\Below w.heap.size w wr) (λi _=>D.length -(intOf i).toNat);case atStart=>exact⟨0,by omega,rfl,Below.refl _ _⟩
  case round=>
    obtain⟨k,hk,rfl,hb⟩:=hrel;by_cases hlt:k<D.length
    . have hx:=cN hlt
      generalize D[k]=x at hx;obtain⟨g,cc,hv,hg,q0,q1,q2,q3,q4,q5⟩:=np (aY hO hb) hx;obtain⟨g',cc',hv',hg',p0,p1,p2,p3,p4,p5⟩:=np (aY hO' hb) hx;cases hv;cases hv';have hk0:(0:Int)<=(k:Int):=by omega
      have hk1:(k:Int)<(D.length:Int):=by omega
      obtain⟨xt,xi,xv,xl,xh⟩:=x;simp only at q0 q1 q2 q3 q4 q5 p0 p1 p2 p3 p4 p5;have afM:=SU xt xl xi xv xh true;go_wp2_with fail;go_region;all_goals go_wp2_with fail
      all_goals go_roundw
      all_goals first
        |exact⟨k+1,by omega,by go_num,bW hb⟩
        |(simp[intOf];omega)
    . have hk':k=D.length:=by omega
      subst hk';go_wp2_with fail;go_ret;exact⟨rfl,hb⟩
end Go.Proofs.aH
end
namespace Go.Proofs.aH
open Go.RowKit
attribute [local go_sem↓] Go.wp_at_zero Go.wp_at_succ
def afl:=@Below.refl
def afY(n:Nat)(h:n<=100000)(w:World):(Instr.makeSlice 53 (.int .i64 (n:Int)) (.int .i64 (n:Int))).run aI.prog w=.ok (.slice (some ⟨w.heap.size,0,none⟩) n n) (w.alloc (.cells (L4 n).toArray 60)):=by obtain⟨i0,hi,hz0,hz1,hz2⟩:=info_parts abA;have:=uN (P:=aI.prog) w 53 60 i0 _ aI.underlying53 hi hz0 .i64 .i64 (n:Int) (n:Int) (by omega) (nB _) (by rw[hz2];omega) (by omega);rw[this,hz1];simp[L4,Value.cells]
def afZ{nb gl cl:Nat}{sp:List Value}{c:lA}{a:AN}(l:List Pt)(w:World)(h:gB w nb c a)(hg:Row w gl 48 (Yh l++sp))(hp:∀p∈l,AB p)(hl:l.length<=100000):Calls aI.prog 14 #[ptr nb,.slice (some ⟨gl,0,none⟩) l.length cl] w λe w'=>∃g,e=.returned (.tuple #[.slice (some ⟨g,0,none⟩) l.length l.length,a.NV])/\w.heap.size<=g/\Row w' g 60 (looked a.K l)/\Below w.heap.size w w':=by
  obtain⟨s,hL⟩:=h;have hrow:=hL.row;have R0:=aV w [aB,aA,aA] 55;have hb0:Below w.heap.size w (w.alloc (.cells #[aB,aA,aA] 55)):=(afl _ _).alloc (I9 _) _;have nlt:=hrow.lt;have glt:=hg.lt;have gne:gl≠nb:=hg.ne hrow (by decide);unfold ptr;go_enter_defers aI.func14,Tryz.ntmps14;go_wp2_with fail;replace hL:=hL.keep hb0;generalize w.alloc (.cells #[aB,aA,aA] 55)=X at R0 hb0 hL|-;refine(AK X hL.row).mono ?_;rintro e w2 ⟨rfl,hr2,hw2⟩;obtain⟨hL2,x2⟩:=hL.rlock hr2 hw2;have xw:Xc (λk=>k=nb\/False) w w2:=(jB hb0).trans x2 (λk _ e=>.inl e);replace R0:=R0.xc x2 (λe=>by omega);clear hr2 hw2 x2 hb0 hL;have hmk:=afY l.length hl;have RX:=aV w2 (L4 l.length) 60;have hbX:Below w2.heap.size w2 (w2.alloc (.cells (L4 l.length).toArray 60)):=(afl _ _).alloc (I9 _) _;have hsz:w.heap.size<=w2.heap.size:=xw.size;go_wp2_with fail;replace xw:=xw.then hbX;replace R0:=R0.keep hbX R0.lt;replace hL2:=hL2.keep hbX;generalize w2.heap.size=gx at RX hsz|-;generalize w2.alloc (.cells (L4 l.length).toArray 60)=π at RX xw R0 hL2|-;clear hmk hbX;go_loopw [21] (λi wr=>∃(k:Nat) (rest:List Value),k<=l.length/\i=.int .i64 k/\Row wr gx 60 (looked a.K (l.take k)++rest)/\rest.length=(l.length -k)*6/\iJ wr nb sV c s a/\Row wr w.heap.size 55 [aB,aA,aA]/\Xc (λk=>k=nb\/False) w wr) (λi _=>l.length -(intOf i).toNat);case atStart=>exact⟨0,L4 l.length,eX _,rfl,RX,by rw[Yg];rfl,hL2,R0,xw⟩
  case round=>
    clear RX hL2 R0 xw;obtain⟨k,rest,hk,rfl,RX,hrl,hL2,R0,xw⟩:=hrel;by_cases hlt:k<l.length;.match rest,hrl with
      |[],hrl=>simp at hrl;omega
      |[_],hrl=>simp at hrl;omega
      |[_,_],hrl=>simp at hrl;omega
      |[_,_,_],hrl=>simp at hrl;omega
      |[_,_,_,_],hrl=>simp at hrl;omega
      |[_,_,_,_,_],hrl=>simp at hrl;omega
      |y0::y1::y2::y3::y4::y5::rest,hrl=>
        have hx:=cN hlt;have htk:l.take (k+1)=l.take k++[l[k]]:=by rw[uO hlt]
        generalize l[k]=p at hx htk;have hpk:=hp p (eN hx);obtain⟨g0,g1⟩:=L5 l k p hx;have hgw:=hg.xc xw (λe=>by obtain e|e:=e;exact gne e;exact e);have c0:wr.cell? (gl,k*2)=some (.string p.1):=by rw[hgw.cell,pK (eJ.1 g0).1];exact g0
        have c1:wr.cell? (gl,k*2+1)=some (.int .i64 p.2):=by rw[hgw.cell,pK (eJ.1 g1).1];exact g1
        obtain⟨s1,s2,s3,s4,s5,s6,hc6,hcs⟩:=E2 (a.K p);have hal:(looked a.K (l.take k)).length=k*6:=by rw[OA,qd];omega
        have hfin:Hid (looked a.K (l.take (k+1))=looked a.K (l.take k)++[.string s1,.int .i64 s2,.int .i64 s3,.string s4,.int .i64 s5,.bool s6]):=by show _=_;rw[htk];unfold looked;rw[List.flatMap_append,uR,List.flatMap_nil,nS,hcs]
        have IK:Below wr.heap.size wr (wr.alloc (.cells #[.string p.1,.int .i64 p.2] 48)):=(afl _ _).alloc (I9 _) _;have RP:=aV wr [.string p.1,.int .i64 p.2] 48;replace RX:=RX.keep IK RX.lt;replace R0:=R0.keep IK R0.lt;replace hL2:=hL2.keep IK;replace xw:=xw.then IK;have hk0:(0:Int)<=(k:Int):=by omega
        have hk1:(k:Int)<(l.length:Int):=by omega
        replace hal:=aJ hal;replace hrl:=aJ hrl;clear hx htk g0 g1 IK hgw hcs;go_wp2_with fail;generalize wr.alloc (.cells #[.string p.1,.int .i64 p.2] 48)=V at RX R0 hL2 xw RP|-;generalize wr.heap.size=bq at RP|-;have d0:V.cell? (bq,0)=some (.string p.1):=RP.cell 0;have d1:V.cell? (bq,1)=some (.int .i64 p.2):=RP.cell 1;have n13:V.cell? (nb,13)=some (.slice (some ⟨s.gs,0,none⟩) s.n s.n):=by rw[hL2.nd.mem.row.cell];rfl
        have hD:Below V.heap.size V V.drew:=bW (afl _ _);have hlk:Calls aI.prog 45 #[.agg #[.slice (some ⟨s.gs,0,none⟩) s.n s.n],.agg #[.string p.1,.int .i64 p.2]] V.drew λe w'=>∃vv,e=.returned vv/\(vv=.agg #[.string s1,.int .i64 s2,.int .i64 s3,.string s4,.int .i64 s5,.bool s6]/\Below V.heap.size V w'):=by refine(Hi p V.drew (hL2.aP.keep hD) hpk).mono ?_;rintro e w' ⟨rfl,hb⟩;exact⟨_,rfl,hc6,hD.trans hb⟩
        have hfn:Hid (∀(vs:Array Value) (w:World),(callFunc 45 vs).run aI.prog w=.ok (.enter 45 vs) w):=λ_ _=>by kernel_rfl
        have fin:Hid (∀w',Below V.heap.size V w'->Row w' gx 60 (looked a.K (l.take k)++y0::y1::y2::y3::y4::y5::rest)):=λw' hb=>RX.keep hb RX.lt;have agj:Hid (∀w',Below V.heap.size V w'->Row (s6W w' gx (k*6) (.string s1) (.int .i64 s2) (.int .i64 s3) (.string s4) (.int .i64 s5) (.bool s6)) gx 60 (looked a.K (l.take (k+1))++rest)/\iJ (s6W w' gx (k*6) (.string s1) (.int .i64 s2) (.int .i64 s3) (.string s4) (.int .i64 s5) (.bool s6)) nb sV c s a/\Row (s6W w' gx (k*6) (.string s1) (.int .i64 s2) (.int .i64 s3) (.string s4) (.int .i64 s5) (.bool s6)) w.heap.size 55 [aB,aA,aA]/\Xc (λk=>k=nb\/False) w (s6W w' gx (k*6) (.string s1) (.int .i64 s2) (.int .i64 s3) (.string s4) (.int .i64 s5) (.bool s6))):=by intro w' hb;have r:=RX.keep hb RX.lt;have t:=adS (o:=k*6) (n:=0) (mb:=s.mb) r (.string s1) (.int .i64 s2) (.int .i64 s3) (.string s4) (.int .i64 s5) (.bool s6);refine⟨?_,(hL2.keep hb).tk t (by decide) (by decide) (by decide) (by decide) (by decide) (by decide) (by decide),(R0.keep hb R0.lt).tk t (by decide),adT (xw.then hb) gx (k*6) _ _ _ _ _ _ (λe=>by omega)⟩;have r6:=Yi r (.string s1) (.int .i64 s2) (.int .i64 s3) (.string s4) (.int .i64 s5) (.bool s6);rw[hal.out]at r6;rw[hfin.out,kH];exact r6
        have hcell:Hid (∀w',Row w' gx 60 (looked a.K (l.take k)++y0::y1::y2::y3::y4::y5::rest)->(w'.cell? (gx,k*6)=some y0/\w'.cell? (gx,k*6+1)=some y1/\w'.cell? (gx,k*6+2)=some y2/\w'.cell? (gx,k*6+3)=some y3/\w'.cell? (gx,k*6+4)=some y4/\w'.cell? (gx,k*6+5)=some y5)):=by
          intro w' r;have q:∀j v,(y0::y1::y2::y3::y4::y5::rest)[j]?=some v->w'.cell? (gx,k*6+j)=some v:=λj v hv=>by rw[r.cell,<-hal.out,eZ (by omega),Um];exact hv
          exact⟨q 0 _ rfl,q 1 _ rfl,q 2 _ rfl,q 3 _ rfl,q 4 _ rfl,q 5 _ rfl⟩
        clear RX R0 hL2 xw RP hD c0 c1 hc6 hpk hfin;refine TF ?_;go_region_law (refine iA 45 rfl _ _ rfl #[.agg #[.slice (some ⟨s.gs,0,none⟩) s.n s.n],.agg #[.string p.1,.int .i64 p.2]] (by simp[Act.eval]) _ hlk (hfn.out _ _) ?_;rintro vv w3 ⟨rfl,hb3⟩;have rX:=fin.out _ hb3;obtain⟨e0,e1,e2,e3,e4,e5⟩:=hcell.out _ rX;have f0:=rX.frozen (k*6);have f1:=rX.frozen (k*6+1);have f2:=rX.frozen (k*6+2);have f3:=rX.frozen (k*6+3);have f4:=rX.frozen (k*6+4);have f5:=rX.frozen (k*6+5);have xlt:=rX.lt;have qq:=aJ (agj.out _ hb3));all_goals unfold abB
        all_goals go_wp2_with fail
        . go_roundw
          case rel=>exact⟨k+1,rest,by omega,by go_num,qq.out.1,by have:=hrl.out;simp only[fH]at this;omega,qq.out.2.1,qq.out.2.2.1,qq.out.2.2.2⟩
          case measure=>simp[intOf];omega
        . go_roundw
          case rel=>exact⟨k+1,rest,by omega,by go_num,qq.out.1,by have:=hrl.out;simp only[fH]at this;omega,qq.out.2.1,qq.out.2.2.1,qq.out.2.2.2⟩
          case measure=>simp[intOf];omega
    . have hk':k=l.length:=by omega
      subst hk';have hr0:rest=[]:=se (by omega);subst hr0;rw[nS,pN]at RX;go_wp2_with fail;refine(L3 wr hL2).mono ?_;rintro e w3 ⟨rfl,hb3⟩;replace xw:=xw.then hb3;replace R0:=R0.keep hb3 R0.lt;replace RX:=RX.keep hb3 RX.lt;replace hL2:=hL2.keep hb3;have c0:w3.cell? (w.heap.size,0)=some ↑aB:=R0.cell 0;have c1:w3.cell? (w.heap.size,1)=some ↑aA:=R0.cell 1;have c2:w3.cell? (w.heap.size,2)=some ↑aA:=R0.cell 2;have f0:=R0.frozen 0;have f1:=R0.frozen 1;have f2:=R0.frozen 2;have rlt:=R0.lt;unfold AN.NV;go_wp2_with fail;have RF:Row (((w3.setCell (w.heap.size,0) (.string a.fT)).setCell (w.heap.size,1) (.int .i64 (a.cB:Int))).setCell (w.heap.size,2) (.int .i64 a.wo)) w.heap.size 55 [.string a.fT,.int .i64 (a.cB:Int),.int .i64 a.wo]:=((R0.set 0 (.string a.fT)).set 1 (.int .i64 (a.cB:Int))).set 2 (.int .i64 a.wo);have xF:Xc (λk=>k=nb\/False) w (((w3.setCell (w.heap.size,0) (.string a.fT)).setCell (w.heap.size,1) (.int .i64 (a.cB:Int))).setCell (w.heap.size,2) (.int .i64 a.wo)):=((xw.setCell (w.heap.size,0) _ (λe=>absurd e (A1 _))).setCell (w.heap.size,1) _ (λe=>absurd e (A1 _))).setCell (w.heap.size,2) _ (λe=>absurd e (A1 _));have hrF:Row (((w3.setCell (w.heap.size,0) (.string a.fT)).setCell (w.heap.size,1) (.int .i64 (a.cB:Int))).setCell (w.heap.size,2) (.int .i64 a.wo)) nb 130 _:=((hL2.row.aM ⟨w.heap.size,0,none⟩ (.string a.fT) (FU nlt)).aM ⟨w.heap.size,1,none⟩ (.int .i64 (a.cB:Int)) (FU nlt)).aM ⟨w.heap.size,2,none⟩ (.int .i64 a.wo) (FU nlt);have hxn:gx≠w.heap.size:=RX.ne R0 (by decide);have RXF:Row (((w3.setCell (w.heap.size,0) (.string a.fT)).setCell (w.heap.size,1) (.int .i64 (a.cB:Int))).setCell (w.heap.size,2) (.int .i64 a.wo)) gx 60 _:=((RX.aM ⟨w.heap.size,0,none⟩ (.string a.fT) hxn).aM ⟨w.heap.size,1,none⟩ (.int .i64 (a.cB:Int)) hxn).aM ⟨w.heap.size,2,none⟩ (.int .i64 a.wo) hxn;generalize((w3.setCell (w.heap.size,0) (.string a.fT)).setCell (w.heap.size,1) (.int .i64 (a.cB:Int))).setCell (w.heap.size,2) (.int .i64 a.wo)=F at RF xF hrF RXF|-;refine sy (f:=44) (args:=#[.pointer (some ⟨nb,0,none⟩)]) (by simp) (by simp[go_sem]) ?_;refine(sW .returning F hrF).mono ?_;rintro e u' w4 ⟨rfl,rfl,hr4,hw4⟩;have x4:Xc (λk=>k=nb\/False) w w4:=by rw[hw4];exact xF.setCell _ _ (λ_=>.inl rfl)
      have RF4:=RF.aM ⟨nb,4,none⟩ (.int .i32 0) (T4 nlt);have RX4:=RXF.aM ⟨nb,4,none⟩ (.int .i32 0) (RXF.ne hrF (by decide));rw[<-hw4]at RF4 RX4;have k0:w4.cell? (w.heap.size,0)=some (.string a.fT):=RF4.cell 0;have k1:w4.cell? (w.heap.size,1)=some (.int .i64 (a.cB:Int)):=RF4.cell 1;have k2:w4.cell? (w.heap.size,2)=some (.int .i64 a.wo):=RF4.cell 2;exact⟨.tuple #[.slice (some ⟨gx,0,none⟩) l.length l.length,.agg #[.string a.fT,.int .i64 (a.cB:Int),.int .i64 a.wo]],by simp[results,Tryz.results14,go_sem,k0,k1,k2],gx,rfl,hsz,RX4,(Ls x4 hrow hr4).low⟩
end Go.Proofs.aH
section
namespace Go.Proofs
def nj:=@RowKit.Below.refl
@[simp] def aI.func8:=aI.aQ Tryz.func8
@[simp] def aI.eqGuardType48:=(aI.zm 48).trans Tryz.eqGuardType48
@[simp] def aI.call8:=aI.aR aI.func8 (by kernel_rfl)
end Go.Proofs
namespace Go.Proofs.aH
open Go.RowKit
def aI.af0:(aI.prog.info? 48).map (λi=>(i.zero,i.size,i.bytes))=some (some (.agg #[aB,aA]),2,24):=by kernel_rfl
def aeP{B:Nat}{w:World}{ops:Array Oper}{rest:List Oper}{o:Oper}{a:Act}{Q:Exit->Act->World->Prop}(hgd:o.guard=none)(s x:Operand)(ho:o.op=.call {callee:=.builtin .append,args:=#[s,x],argTypes:=#[58,58]})(v:Value)(n:Nat)(l:List Value)(hs:a.eval s=v)(hown:w.ownsRow B 48 2 v n l)
    (g c:Nat)(news:List Value)(hn:news.length=1*2)(hx:a.eval x=.slice (some ⟨g,0,none⟩) 1 c)(hg:Row w g 48 news)(h1:∀u∈news,u.oneCell'=true)(hlen:n<=100000)(hB:B<=w.heap.size)
    (h:∀v' w',w'.ownsRow B 48 2 v' (n+1) (l++news)->w.grownBy w' v.ownBlock->wpList aI.prog ops Q rest (a.put o.dst v') w'):wpList aI.prog ops Q (o::rest) a w:=by
  obtain⟨i0,hi,hz0,hz1,hz2⟩:=info_parts aI.af0;refine wpList_append_own_at _ hgd s x 58 ho B 48 i0 _ 2 24 aI.underlying58 hi hz0 hz1 hz2 rfl (by decide) v n l hs hown ⟨g,0,none⟩ 1 c news hx hn (λj u hj=>by rw[add0,hg.cell];exact hj) h1 (by unfold maxLen;omega) (by omega) hB ?_;intro v' w' h1 h2 _ _;exact h v' w' h1 h2
def afo{K:mO}(hK:IY K):∀(l:List kO),(∀c∈l,K c.pt=some c)->0<=na l/\na l<=4294967295*(l.length:Int)
  |[],_=>by simp[na]
  |c::l,h=>by have h1:=hK _ _ (h c (by simp));have h2:=afo hK l (λd hd=>h d (by simp[hd]));rw[aeE];simp only[fH];omega
def afA{B:Nat}{w:World}{e:TypeId}{size g n cap:Nat}{xs:List Value}(h:w.ownsRow B e size (.slice (some ⟨g,0,none⟩) n cap) n xs):∃sp,Row w g e (xs++sp):=by
  obtain⟨hv,_⟩|⟨g',cap',cur,hv,_,hg,_,_,_,ht⟩:=h.2;.cases hv
  . simp only[Value.slice.injEq,oC,Addr.mk.injEq]at hv
    obtain⟨⟨rfl,_⟩,_,rfl⟩:=hv;refine⟨cur.toList.drop (n*size),?_⟩;unfold Row;rw[<-ht,Uq,hg]
def afP{w:World}{g n:Nat}{xs:List Value}(hR:Row w g 60 xs)(h4:xs.length=n*6)(hn:n<=100000):w.ownsRow 0 60 6 (.slice (some ⟨g,0,none⟩) n n) n xs:=⟨h4,.inr ⟨g,n,xs.toArray,rfl,Nat.zero_le _,hR,Nat.le_refl _,by unfold maxLen;omega,by simpa using h4,by rw[<-h4];simp⟩⟩
def aeK{K:mO}:∀(D:List kO),(∀c∈D,K c.pt=some c)->looked K (D.map kO.pt)=dg D
  |[],_=>rfl
  |c::D,h=>by have ih:=aeK D (λd hd=>h d (by simp[hd]));unfold looked dg at*;rw[qM,uR,uR,ih,h c (by simp)]
def aeG(l:List kO)(c:kO):na (l++[c])=na l+c.val:=by simp[na]
attribute [local go_sem↓] Go.wp_at_zero Go.wp_at_succ
def afj(c:lA)(l:List (Int×List Int))(sa:Option Addr)(sc:Nat)(w:World)(hc:c.Vg)(hS:uV w.heap.size w sa l)(hl:l.length<=1048576):Calls aI.prog 8 #[.agg #[.int .i64 c.wk,.int .i64 c.sh,.int .i64 c.me,.int .i64 c.su,.int .i64 c.bi],.slice sa l.length sc,aD] w λe w'=>e=.returned ↑aD/\Lw w.heap.size w w':=by
  have bX:Below w.heap.size w (w.alloc (.cells #[.int .i64 c.wk,.int .i64 c.sh,.int .i64 c.me,.int .i64 c.su,.int .i64 c.bi] 26)):=(nj _ _).alloc (I9 _) _;have hbg:=SV c (w.alloc (.cells #[.int .i64 c.wk,.int .i64 c.sh,.int .i64 c.me,.int .i64 c.su,.int .i64 c.bi] 26)) hc;obtain⟨hdo,hds,hdb,agk⟩:=Ql c;go_enter aI.func8,Tryz.ntmps8;go_wp2_with fail;refine hbg.mono ?_;rintro e w1 ⟨rb,B,r0,a0,rfl,hB⟩;have hU0:=hB.sup;have hP0:Cm w w1 rb B 2 c r0 a0:=by have h:=hB.pst;have hz:w.heap.size<=(w.alloc (.cells #[.int .i64 c.wk,.int .i64 c.sh,.int .i64 c.me,.int .i64 c.su,.int .i64 c.bi] 26)).heap.size:=bX.size;exact⟨(Lw.below bX).trans (h.lw.mono hz),h.run,h.node,h.knows,h.gL,h.c,⟨bT hz h.lo.1,bT hz h.lo.2.1,bT hz h.lo.2.2⟩,h.al,h.cn⟩
  clear hB hbg bX;go_wp2_with fail;go_loopw [8] (λi wr=>∃(k:Nat) (r:kC) (a:AN),k<=l.length/\i=.int .i64 (k:Int)/\Cm w wr rb B (2+k) c r a/\Sup r.c a) (λi _=>l.length -(intOf i).toNat);case atStart=>exact⟨0,r0,a0,eX _,rfl,hP0,hU0⟩
  case round=>
    clear hP0 hU0;obtain⟨k,r,a,hkl,rfl,hP,hU⟩:=hrel;by_cases afQ:k<l.length;.as_aux_lemma=>
      have hx:=cN afQ;generalize l[k]=x at hx;obtain⟨which,dl⟩:=x;obtain⟨g,o,hg,hsa,hgx⟩:=(hS.lw hP.lw).at_ (by intro e;rw[e]at afQ;simp at afQ);subst hsa;obtain⟨va,vc,p0,p1,hI⟩:=hgx k _ hx;simp only at p0 p1 hI;have hmk:=Xd which dl va vc wr hP.run hP.node hP.knows hP.gL hI ⟨hP.lo.1,hP.lo.2.1⟩ (by omega) (by rw[hP.c];exact⟨hdb,agk⟩);have hk0:(0:Int)<=(k:Int):=by omega
      have hk1:(k:Int)<(l.length:Int):=by omega
      replace hmk:=aJ hmk;replace hI:=aJ hI;replace hS:=aJ hS;clear hgx hx;go_wp2_with fail;refine hmk.out.mono ?_;rintro e w2 ⟨rfl,r',hp⟩;have hP2:=hP.make hp;have hU2:Sup r'.c a:=by rw[hp.c];exact hU
      obtain⟨s,hs,hH⟩:=hp.made;clear hmk hp hI p0 p1;have c0:w2.cell? (rb,0)=some (.pointer r'.nb):=hP2.run.row.cell 0;have c10:w2.cell? (rb,10)=some (.string (mk s)):=(hP2.run.row.cell 10).trans (by show some (Value.string r'.made)=_;rw[hs]);have gD:Hid (Below w2.heap.size w2 w2.drew):=bW (nj _ _);have hsub:Hid (Calls aI.prog 11 #[.pointer r'.nb,.string (mk s)] w2.drew λe w'=>∃v,e=.returned v/\(gB w' r'.nb r'.c (fN r'.c a s).2.2/\Ck a.lo Y2 w2.drew w')):=(yb s w2.drew (hP2.node.keep gD.out) (λb hb=>(hH.it b hb).1)).mono λe w' ⟨he,h1,h2⟩=>⟨_,he,h1,h2⟩;have hSk:Hid (∀W:World,Ck a.lo Y2 w2.drew W->W.cell? (rb,0)=some (.pointer r'.nb)/\W.cell? (rb,10)=some (.string (mk s))):=λW hW=>by have h:=(hP2.run.keep gD.out).ck hW (mQ (by decide) (by decide) (by decide) (by decide) (by decide) (by decide)) (mQ (by decide) (by decide) (by decide) (by decide) (by decide) (by decide)) (mQ (by decide) (by decide) (by decide) (by decide) (by decide) (by decide)) (mQ (by decide) (by decide) (by decide) (by decide) (by decide) (by decide));exact⟨h.row.cell 0,(h.row.cell 10).trans (by show some (Value.string r'.made)=_;rw[hs])⟩
      have hfin:Hid (∀W:World,gB W r'.nb r'.c (fN r'.c a s).2.2->Ck a.lo Y2 w2.drew W->Cm w W rb B (2+k+1) c r' (fN r'.c a s).2.2/\Sup r'.c (fN r'.c a s).2.2):=λW h1 h2=>⟨(hP2.keep gD.out).sub hP.al hH h1 h2,hU2.sub s⟩;clear hP hP2 hH hs hU hU2;go_wp2_with fail;go_region_held3 (λW=>W.cell? (rb,0)=some (.pointer r'.nb)/\W.cell? (rb,10)=some (.string (mk s))) (first|with_reducible exact hSk.out _ gX|go_keep) ((go_at_call 11;refine hsub.out.mono ?_;rintro e w3 ⟨v3,rfl,hN3,gX⟩))
      go_wp2_with fail;go_roundw;case rel=>exact⟨k+1,r',_,by omega,by go_num,hfin.out _ hN3 gX⟩
      case measure=>simp[intOf];omega
    . have hk1:¬(k:Int)<(l.length:Int):=by omega
      have r0:wr.cell? (rb,0)=some (.pointer r.nb):=hP.run.row.cell 0;have hti:=WB wr hP.node;unfold ptr at hti;obtain⟨C,hC,adO,hcl,hc1⟩:=hU.it;obtain⟨nl,hNL⟩:=hP.node;have agn:a.cB<=48:=by have h1:=hNL.kl;have h2:=hNL.len;omega
      have age:Hid (IY a.K):=hNL.WW;clear hNL nl;have h8:=aJ hU.ix;have hsu:0<=r.c.su/\r.c.su<=1000000:=by rw[hP.c];exact(QU hdo).2.2.2.1
      go_wp2_with fail;refine hti.mono ?_;rintro e w2 ⟨rfl,b2⟩;unfold AN.NV;clear hti;have bT:Below w2.heap.size w2 (w2.alloc (.cells #[.string a.fT,.int .i64 (a.cB:Int),.int .i64 a.wo] 55)):=(nj _ _).alloc (I9 _) _;have RT:=aV w2 [.string a.fT,.int .i64 (a.cB:Int),.int .i64 a.wo] 55;have hP3:=(hP.keep b2).keep bT;have agf:wr.heap.size<=w2.heap.size:=b2.size;have t0:(w2.alloc (.cells #[.string a.fT,.int .i64 (a.cB:Int),.int .i64 a.wo] 55)).cell? (rb,0)=some (.pointer r.nb):=hP3.run.row.cell 0;have hco:=afy C _ hP3.node hC (by omega);unfold ptr at hco;go_wp2_with fail;generalize w2.alloc (.cells #[.string a.fT,.int .i64 (a.cB:Int),.int .i64 a.wo] 55)=W2 at bT RT hP3 t0 hco|-;generalize hTB:w2.heap.size=tb at bT RT|-;refine hco.mono ?_;rintro e W3 ⟨v,D,hD,hso,rfl,hO,b3⟩;obtain⟨va,vc,rfl⟩:=bH hO;have hnd:Hid ((D.map kO.pt).Nodup):=(hD.map kO.pt).symm.nodup hC.nd;have hDK:Hid (ng a.K D):=⟨hnd.out,λc hc=>hC.mem c (hD.mem_iff.1 hc),λp c hp=>⟨hD.mem_iff.2 (hC.all p c hp).1,(hC.all p c hp).2⟩⟩;have hDs:na D<=r.c.su*(a.cB:Int):=by rw[aeR hD];exact adO
      have hDl:D.length<=3136:=by rw[hD.length_eq];omega
      have hD1:1<=D.length:=by rw[hD.length_eq];exact hc1
      replace RT:=RT.keep b3 RT.lt;replace hP3:=hP3.keep b3;clear hco t0 bT hC hD adO hcl hc1 C hP hU b2 r0;replace hso:=aJ hso;go_wp2_with fail;go_loopw [12,13,14] (λs p i wr=>∃k:Nat,k<=D.length/\i=.int .i64 (k:Int)/\s=.int .i64 (na (D.take k))/\wr.ownsRow W3.heap.size 48 2 p k (Yh ((D.take k).map kO.pt))/\Below W3.heap.size W3 wr) (λ_ _ i _=>D.length -(intOf i).toNat);case atStart=>exact⟨0,eX _,rfl,by simp[na],iZ _ _ _ _,nj _ _⟩
      case round=>
        obtain⟨j,hj,rfl,rfl,hOp,bw⟩:=hrel;by_cases hjl:j<D.length;.as_aux_lemma=>
          have hx:=cN hjl;generalize D[j]=x at hx;obtain⟨g,cc,hv,hg,q0,q1,q2,q3,q4,q5⟩:=np (aY hO bw) hx;cases hv;have hsb:0<=na (D.take j)/\na (D.take j)<=4294967295*3136:=by
            have h1:=afo age.out (D.take j) (λc hc=>hDK.out.mem c (List.mem_of_mem_take hc));have h2:(D.take j).length<=3136:=by simp;omega
            omega
          have hxv:=age.out _ _ (hDK.out.mem x (eN hx));have htk:Hid (D.take (j+1)=D.take j++[x]):=by unfold Hid;rw[Pe,hx];rfl
          obtain⟨pa,pc,rfl⟩:=bH hOp;have hj0:(0:Int)<=(j:Int):=by omega
          have hj1:(j:Int)<(D.length:Int):=by omega
          have NP:=aV wr [.string x.tx,.int .i64 x.idx] 48;have O1:=qc hOp (.cells #[.string x.tx,.int .i64 x.idx] 48);have bA:Below wr.heap.size wr (wr.alloc (.cells #[.string x.tx,.int .i64 x.idx] 48)):=(nj _ _).alloc (I9 _) _;have B1:W3.heap.size<=(wr.alloc (.cells #[.string x.tx,.int .i64 x.idx] 48)).heap.size:=bT bw.size bA.size;have h1c:∀u∈[Value.string x.tx,.int .i64 x.idx],u.oneCell'=true:=by intro u hu;simp only[gA,kF,kG]at hu;obtain rfl|rfl:=hu<;>rfl
          have hdt:j<=100000:=by omega
          go_wp2_with (at_builtin;refine aeP rfl _ _ rfl (.slice pa j pc) j _ (by simp[Act.eval]) O1 wr.heap.size 1 [.string x.tx,.int .i64 x.idx] rfl (by simp[Act.eval]) NP h1c hdt B1 ?_;intro v1 w1 o1 g1;obtain⟨ig,ic,hv1⟩:=cO o1 j rfl;subst hv1);have bw1:Below W3.heap.size W3 w1:=(bw.trans (bA.mono bw.size)).grown g1 B1 (λk e=>(jE hOp k e).1);have hOw:w1.ownsRow W3.heap.size 48 2 (.slice (some ⟨ig,0,none⟩) (j+1) ic) (j+1) (Yh ((D.take (j+1)).map kO.pt)):=by
            rw[htk.out,sw];have e1:Yh ((D.take j).map kO.pt++[x].map kO.pt)=Yh ((D.take j).map kO.pt)++[.string x.tx,.int .i64 x.idx]:=by simp[Yh,kO.pt]
            rw[e1];exact o1
          obtain⟨g',cc',hv',hg',p0,p1,-,-,-,-⟩:=np (aY hO bw1) hx;cases hv';clear NP O1 B1 h1c o1 g1 q0 q1 q2 q3 q4 q5 bA hOp;by_cases agl:j=0
          . subst agl
            go_quiet (fail);go_wp2_with fail;go_roundw;case rel=>exact⟨1,by omega,by go_num,by rw[htk.out,aeG],hOw,jN bw1⟩
            case measure=>simp[intOf];omega
          . obtain⟨m,hmj⟩:∃m,m+1=j:=⟨j -1,by omega⟩
            have hy:=cN (l:=D) (i:=m) (by omega);generalize D[m]=y at hy;obtain⟨g2,cc2,hv2,hg2,y0,y1,-,-,-,-⟩:=np (aY hO bw1) hy;cases hv2;have hlt:=hso.out.lt hnd.out (by omega:m<j) hy hx;obtain⟨xt,xi,xv,xl,xh⟩:=x;obtain⟨yt,yi,yv,yl,yh⟩:=y;simp only at p0 p1 y0 y1 hxv hOw htk;have agf:(Op.bytesLess yt.toList xt.toList=true/\yt≠xt)\/(yt=xt/\yi<xi):=afz hlt;have hsub:IntKind.i64.wrap ((j:Int) -1)=(m:Int):=by rw[pd];omega
            have hm1:(m:Int)<(D.length:Int):=by omega
            have hm2:(0:Int)<=(m:Int):=by omega
            have hm0:(0:Int)<(j:Int):=by omega
            have hm5:0<j:=by omega
            have hm6:decide (0<j)=true:=nQ hm5;replace hmj:=aJ hmj;obtain⟨e1,e2⟩|⟨e1,e2⟩:=agf
            . have e3:(yt.toList==xt.toList)=false:=by rw[bytes_beq];simpa using e2
              go_quiet (fail);go_wp2_with fail;go_roundw;case rel=>exact⟨j+1,by omega,by go_num,by rw[htk.out,aeG],hOw,jN bw1⟩
              case measure=>simp[intOf];omega
            . subst e1
              have e3:¬xi<=yi:=by omega
              go_quiet (fail);go_wp2_with fail;go_roundw;case rel=>exact⟨j+1,by omega,by go_num,by rw[htk.out,aeG],hOw,jN bw1⟩
              case measure=>simp[intOf];omega
        . have hjD:j=D.length:=by omega
          subst hjD;clear hjl hj;rw[pN]at hOp;have hsE:na (D.take D.length)=na D:=by rw[pN]
          rw[hsE];obtain⟨pa,pc,rfl⟩:=bH hOp;obtain⟨pg,rfl⟩:=aeV hOp (by omega);obtain⟨sp,RP⟩:=afA hOp;have hP4:=hP3.keep bw;have RT4:=RT.keep bw RT.lt;have hO4:=aY hO bw;have hPO:∀p∈D.map kO.pt,AB p:=λp hp=>by obtain⟨d,hd,rfl⟩:=jV.1 hp;have h1:=hDK.out.mem d hd;obtain⟨x,hx,hxt⟩:=hP4.knows.K _ _ h1;have h2:=(hP4.gL.cg x hx).tx;have h3:=h8.out _ _ h1;exact⟨by rw[<-hxt,<-fB,h2];decide,by omega,by omega⟩
          have hlk:=afZ (cl:=pc) (D.map kO.pt) wr hP4.node RP hPO (by simp;omega);rw[iB,aeK D hDK.out.mem]at hlk;unfold ptr AN.NV at hlk;have r0:wr.cell? (rb,0)=some (.pointer r.nb):=hP4.run.row.cell 0;have hnl:¬(D.length:Int)<(D.length:Int):=by omega
          go_wp2_with fail;refine hlk.mono ?_;rintro e w5 ⟨lg,rfl,hlg,RL,b5⟩;have R6:=aV w5 [.string a.fT,.int .i64 (a.cB:Int),.int .i64 a.wo] 55;have b6:Below w5.heap.size w5 (w5.alloc (.cells #[.string a.fT,.int .i64 (a.cB:Int),.int .i64 a.wo] 55)):=(nj _ _).alloc (I9 _) _;have hP6:=(hP4.keep b5).keep b6;have RT6:=(RT4.keep b5 RT4.lt).keep b6 (RT4.keep b5 RT4.lt).lt;have hO6:=aY (aY hO4 b5) b6;have hL6:(w5.alloc (.cells #[.string a.fT,.int .i64 (a.cB:Int),.int .i64 a.wo] 55)).ownsRow 0 60 6 (.slice (some ⟨lg,0,none⟩) D.length D.length) D.length (dg D):=afP (RL.keep b6 RL.lt) (acQ D) (by omega);clear hlk RL b5 hO4 RT4 hP4 hOp RP hPO r0 hO RT hP3;go_wp2_with fail;generalize w5.alloc (.cells #[.string a.fT,.int .i64 (a.cB:Int),.int .i64 a.wo] 55)=W6 at R6 hP6 RT6 hO6 hL6 b6|-;generalize w5.heap.size=ub at R6|-;have t0:W6.cell? (tb,0)=some (.string a.fT):=RT6.cell 0;have t1:W6.cell? (tb,1)=some (.int .i64 (a.cB:Int)):=RT6.cell 1;have t2:W6.cell? (tb,2)=some (.int .i64 a.wo):=RT6.cell 2;have u0:W6.cell? (ub,0)=some (.string a.fT):=R6.cell 0;have u1:W6.cell? (ub,1)=some (.int .i64 (a.cB:Int)):=R6.cell 1;have u2:W6.cell? (ub,2)=some (.int .i64 a.wo):=R6.cell 2;have s4:W6.cell? (rb,4)=some (.int .i64 r.c.su):=hP6.run.row.cell 4;have hmul:IntKind.i64.wrap (r.c.su*(a.cB:Int))=r.c.su*(a.cB:Int):=by have h1:0<=r.c.su*(a.cB:Int):=Int.mul_nonneg hsu.1 (by omega);have h2:r.c.su*(a.cB:Int)<=1000000*48:=Int.mul_le_mul hsu.2 (by omega) (by omega) (by omega);rw[pd];omega
          have cB:¬r.c.su*(a.cB:Int)<na D:=by omega
          have hts:=Xj a.fT (a.cB:Int) a.wo;have gD:Hid (Below W6.heap.size W6 W6.drew):=bW (nj _ _);have hsame:Hid (∀W,Below W6.heap.size W6 W->Calls aI.prog 24 #[.slice va D.length vc,.slice (some ⟨lg,0,none⟩) D.length D.length] W λe w'=>e=.returned ↑aD/\Below W6.heap.size W6 w'):=λW hW=>(aeO D W (aY hO6 hW) (aY hL6 hW) (by omega)).mono λe w' h=>⟨h.1,hW.trans (h.2.mono hW.size)⟩;have hSk:Hid (∀W,Below W6.heap.size W6 W->W.cell? (tb,0)=some (.string a.fT)/\W.cell? (tb,1)=some (.int .i64 (a.cB:Int))/\W.cell? (tb,2)=some (.int .i64 a.wo)/\W.cell? (ub,0)=some (.string a.fT)/\W.cell? (ub,1)=some (.int .i64 (a.cB:Int))/\W.cell? (ub,2)=some (.int .i64 a.wo)/\W.cell? (rb,4)=some (.int .i64 r.c.su)):=λW hW=>⟨aW hW t0,aW hW t1,aW hW t2,aW hW u0,aW hW u1,aW hW u2,aW hW s4⟩;replace hDs:=aJ hDs;go_region_held3 (λW=>W.cell? (tb,0)=some (.string a.fT)/\W.cell? (tb,1)=some (.int .i64 (a.cB:Int))/\W.cell? (tb,2)=some (.int .i64 a.wo)/\W.cell? (ub,0)=some (.string a.fT)/\W.cell? (ub,1)=some (.int .i64 (a.cB:Int))/\W.cell? (ub,2)=some (.int .i64 a.wo)/\W.cell? (rb,4)=some (.int .i64 r.c.su)) (first|with_reducible exact hSk.out _ gX|with_reducible exact hSk.out _ gD.out|go_keep) ((go_at_call 24;refine(hsame.out _ gD.out).mono ?_;rintro e w7 ⟨rfl,gX⟩))
          have hcb:r.aP.length<=20000000:=by have:=hP6.gL.cl;omega
          clear hSk hsame t0 t1 t2 u0 u1 u2 s4 hmul cB hts R6 RT6 hL6 hsE;go_wp2_with fail;go_loopw [17] (λi wr=>∃q:Nat,q<=r.aP.length/\i=.int .i64 (q:Int)/\Below W6.heap.size W6 wr) (λi _=>r.aP.length -(intOf i).toNat);case atStart=>exact⟨0,eX _,rfl,gX⟩
          case round=>
            clear gX;obtain⟨q,hq,rfl,bx⟩:=hrel;have hPx:=hP6.keep bx;have hOx:=aY hO6 bx;have r8:wr.cell? (rb,8)=some r.kv:=hPx.run.row.cell 8;by_cases hql:q<r.aP.length;.as_aux_lemma=>
              have hx:=cN hql;generalize r.aP[q]=x at hx;obtain⟨kg,kc,hkv,hkc⟩:=pI hPx.run.aP hx;have k0:wr.cell? (kg,q*4)=some (.string x.tx):=hkc 0 _ rfl;have k1:wr.cell? (kg,q*4+1)=some (.int .i64 x.ix):=hkc 1 _ rfl;have hgd:=hPx.gL.cg x (eN hx);rw[hkv]at r8;have hq0:(0:Int)<=(q:Int):=by omega
              have hq1:(q:Int)<(r.aP.length:Int):=by omega
              have RP:=aV wr [.string x.tx,.int .i64 x.ix] 48;have bp:Below wr.heap.size wr (wr.alloc (.cells #[.string x.tx,.int .i64 x.ix] 48)):=(nj _ _).alloc (I9 _) _;go_wp2_with fail;replace hPx:=hPx.keep bp;replace hOx:=aY hOx bp;obtain⟨s1,s2,s3,s4,s5,s6,hcO,hcS⟩:=E2 (a.K (x.tx,x.ix));have hpt:AB (x.tx,x.ix):=⟨by rw[<-fB,hgd.tx];decide,by have:=hgd.ix;omega,by have:=hgd.ix;omega⟩;have afR:AB (x.tx,8):=⟨by rw[<-fB,hgd.tx];decide,(by decide:(-9223372036854775808:Int)<=8),(by decide:(8:Int)<9223372036854775808)⟩;have hK8:a.K (x.tx,8)=none:=by cases hk:a.K (x.tx,8)with
                |none=>rfl
                |some d=>have:=(h8.out _ _ hk).2;simp at this
              replace hgd:=aJ hgd;have bxp:Below W6.heap.size W6 (wr.alloc (.cells #[.string x.tx,.int .i64 x.ix] 48)):=bx.trans (bp.mono bx.size);clear hx k0 k1 r8 hkc hq0 hq1;generalize wr.alloc (.cells #[.string x.tx,.int .i64 x.ix] 48)=wz at RP hPx hOx bxp bp|-;generalize wr.heap.size=pb at RP|-;generalize hT:x.tx=T1 at hcO hcS hpt afR hK8 RP|-;generalize hI:x.ix=ix at hcO hcS hpt RP|-;have c0:wz.cell? (rb,0)=some (.pointer r.nb):=hPx.run.row.cell 0;have x0:wz.cell? (pb,0)=some (.string T1):=RP.cell 0;have x1:wz.cell? (pb,1)=some (.int .i64 ix):=RP.cell 1;have gD:Hid (Below wz.heap.size wz wz.drew):=bW (nj _ _);have hSk:Hid (∀W:World,Below wz.heap.size wz W->W.cell? (rb,0)=some (.pointer r.nb)/\W.cell? (pb,0)=some (.string T1)/\W.cell? (pb,1)=some (.int .i64 ix)):=λW hW=>⟨aW hW c0,aW hW x0,aW hW x1⟩;have hS1:Hid (∀o:Obj,(wz.drew.alloc o).cell? (rb,0)=some (.pointer r.nb)/\(wz.drew.alloc o).cell? (pb,0)=some (.string T1)/\(wz.drew.alloc o).cell? (pb,1)=some (.int .i64 ix)):=λo=>hSk.out _ (gD.out.alloc (I9 _) _);have hS2:Hid (∀o o':Obj,((wz.drew.alloc o).alloc o').cell? (rb,0)=some (.pointer r.nb)/\((wz.drew.alloc o).alloc o').cell? (pb,0)=some (.string T1)/\((wz.drew.alloc o).alloc o').cell? (pb,1)=some (.int .i64 ix)):=λo o'=>hSk.out _ ((gD.out.alloc (I9 _) _).alloc (gD.out.alloc (I9 _) _).size _);have hS3:Hid (∀(W:World) (o:Obj),Below wz.heap.size wz W->(W.alloc o).cell? (rb,0)=some (.pointer r.nb)/\(W.alloc o).cell? (pb,0)=some (.string T1)/\(W.alloc o).cell? (pb,1)=some (.int .i64 ix)):=λW o hW=>hSk.out _ (hW.alloc hW.size _);have hS4:Hid (∀(W:World) (k:Nat) (a b c:Value),Below wz.heap.size wz W->wz.heap.size<=k->(((W.setCell (k,0) a).setCell (k,1) b).setCell (k,2) c).cell? (rb,0)=some (.pointer r.nb)/\(((W.setCell (k,0) a).setCell (k,1) b).setCell (k,2) c).cell? (pb,0)=some (.string T1)/\(((W.setCell (k,0) a).setCell (k,1) b).setCell (k,2) c).cell? (pb,1)=some (.int .i64 ix)):=λW k a b c h hk=>hSk.out _ (((h.setCell (p:=⟨k,0,none⟩) hk _).setCell (p:=⟨k,1,none⟩) hk _).setCell (p:=⟨k,2,none⟩) hk _);have hlk:Hid (∀(W:World) (gl:Nat),Below wz.heap.size wz W->Row W gl 48 [.string T1,.int .i64 ix,.string T1,.int .i64 8]->Calls aI.prog 14 #[.pointer r.nb,.slice (some ⟨gl,0,none⟩) 2 2] W λe w'=>∃g,e=.returned (.tuple #[.slice (some ⟨g,0,none⟩) 2 2,.agg #[.string a.fT,.int .i64 (a.cB:Int),.int .i64 a.wo]])/\(Row w' g 60 [.string s1,.int .i64 s2,.int .i64 s3,.string s4,.int .i64 s5,.bool s6,aB,aA,aA,aB,aA,aF]/\Below wz.heap.size wz w'/\Below W.heap.size W w')):=λW gl hb hr=>(QA [(T1,ix),(T1,8)] W (hPx.node.keep hb) hr (λp hp=>by
                obtain e|hp:=gA.1 hp;.rw[e];exact hpt
                .rw[gF.1 hp];exact afR) (by decide:2<=1000)).mono λe w' ⟨g,h1,h2,h3,h4⟩=>⟨g,h1,by
                  have e:looked a.K [(T1,ix),(T1,8)]=[.string s1,.int .i64 s2,.int .i64 s3,.string s4,.int .i64 s5,.bool s6,↑aB,↑aA,↑aA,↑aB,↑aA,↑aF]:=by unfold looked;rw[uR,uR,hcS,hK8];rfl
                  rw[e]at h3;exact h3,hb.trans (h4.mono hb.size),h4⟩
              have hl1:=aJ (hlk.out (wz.alloc (.cells #[.string T1,.int .i64 ix,.string T1,.int .i64 8] 48)).drew wz.heap.size (bW ((nj _ _).alloc (I9 _) _)) (aV wz [.string T1,.int .i64 ix,.string T1,.int .i64 8] 48));have hl2:Hid (Calls aI.prog 14 #[.pointer r.nb,.slice (some ⟨wz.heap.size,0,none⟩) 2 2] ((wz.alloc (.cells #[.string T1,.int .i64 ix,.string T1,.int .i64 8] 48)).alloc (.cells #[aB,aA,aA] 55)).drew λe w'=>∃g,e=.returned (.tuple #[.slice (some ⟨g,0,none⟩) 2 2,.agg #[.string a.fT,.int .i64 (a.cB:Int),.int .i64 a.wo]])/\(Row w' g 60 [.string s1,.int .i64 s2,.int .i64 s3,.string s4,.int .i64 s5,.bool s6,aB,aA,aA,aB,aA,aF]/\Below wz.heap.size wz w'/\Row w' (wz.heap.size+1) 55 [aB,aA,aA])):=(hlk.out ((wz.alloc (.cells #[.string T1,.int .i64 ix,.string T1,.int .i64 8] 48)).alloc (.cells #[aB,aA,aA] 55)).drew wz.heap.size (bW (((nj _ _).alloc (I9 _) _).alloc ((nj _ _).alloc (I9 _) _).size _)) ((aV wz [.string T1,.int .i64 ix,.string T1,.int .i64 8] 48).alloc _)).mono λe w' ⟨g,h1,h2,h3,h4⟩=>⟨g,h1,h2,h3,by have r:=aV (wz.alloc (.cells #[.string T1,.int .i64 ix,.string T1,.int .i64 8] 48)) [aB,aA,aA] 55;have r2:Row w' _ 55 _:=Ll (w:=((wz.alloc (.cells #[.string T1,.int .i64 ix,.string T1,.int .i64 8] 48)).alloc (.cells #[aB,aA,aA] 55)).drew) r h4 r.lt;rw[bB]at r2;exact r2⟩
              have hl3:Hid (Calls aI.prog 14 #[.pointer r.nb,.slice (some ⟨wz.heap.size+1,0,none⟩) 2 2] ((wz.alloc (.cells #[aB,aA,aA] 55)).alloc (.cells #[.string T1,.int .i64 ix,.string T1,.int .i64 8] 48)).drew λe w'=>∃g,e=.returned (.tuple #[.slice (some ⟨g,0,none⟩) 2 2,.agg #[.string a.fT,.int .i64 (a.cB:Int),.int .i64 a.wo]])/\(Row w' g 60 [.string s1,.int .i64 s2,.int .i64 s3,.string s4,.int .i64 s5,.bool s6,aB,aA,aA,aB,aA,aF]/\Below wz.heap.size wz w'/\Row w' (wz.heap.size) 55 [aB,aA,aA])):=(hlk.out ((wz.alloc (.cells #[aB,aA,aA] 55)).alloc (.cells #[.string T1,.int .i64 ix,.string T1,.int .i64 8] 48)).drew (wz.heap.size+1) (bW (((nj _ _).alloc (I9 _) _).alloc ((nj _ _).alloc (I9 _) _).size _)) (by have r:=aV (wz.alloc (.cells #[aB,aA,aA] 55)) [.string T1,.int .i64 ix,.string T1,.int .i64 8] 48;rw[bB]at r;exact r)).mono λe w' ⟨g,h1,h2,h3,h4⟩=>⟨g,h1,h2,h3,by have r:=(aV wz [aB,aA,aA] 55).alloc (.cells #[.string T1,.int .i64 ix,.string T1,.int .i64 8] 48);exact Ll (w:=((wz.alloc (.cells #[aB,aA,aA] 55)).alloc (.cells #[.string T1,.int .i64 ix,.string T1,.int .i64 8] 48)).drew) r h4 r.lt⟩
              replace hPx:=aJ hPx;replace RP:=aJ RP;replace hOx:=aJ hOx;replace hpt:=aJ hpt;replace afR:=aJ afR;go_cut [19] (λq wx=>∃g:Nat,q=.slice (some ⟨g,0,none⟩) 2 2/\Row wx g 60 [.string s1,.int .i64 s2,.int .i64 s3,.string s4,.int .i64 s5,.bool s6,aB,aA,aA,aB,aA,aF]/\Below wz.heap.size wz wx);case first=>as_aux_lemma=>
                go_region_held3 (λW=>W.cell? (rb,0)=some (.pointer r.nb)/\W.cell? (pb,0)=some (.string T1)/\W.cell? (pb,1)=some (.int .i64 ix)) (first|with_reducible exact hSk.out _ gX|with_reducible exact hSk.out _ gD.out|with_reducible exact hS1.out _|with_reducible exact hS2.out _ _|with_reducible exact hS3.out _ _ gX|with_reducible exact hS4.out _ _ _ _ _ gX hK|go_keep) ((first
                    |(go_at_call 14;(with_reducible refine(hl1.out).mono ?_);rintro e w8 ⟨g8,rfl,R8,gX,gW⟩)
                    |(go_at_call 14;(with_reducible refine(hl3.out).mono ?_);rintro e w8 ⟨g8,rfl,R8,gX,RT⟩;have hK:wz.heap.size<=wz.heap.size:=I9 _;have z0:w8.cell? (wz.heap.size,0)=some ↑aB:=RT.cell 0;have z1:w8.cell? (wz.heap.size,1)=some ↑aA:=RT.cell 1;have z2:w8.cell? (wz.heap.size,2)=some ↑aA:=RT.cell 2;have afQ:=RT.lt;have f0:=RT.frozen 0;have f1:=RT.frozen 1;have f2:=RT.frozen 2;replace R8:=aJ R8;replace RT:=aJ RT)
                    |(go_at_call 14;(with_reducible refine(hl2.out).mono ?_);rintro e w8 ⟨g8,rfl,R8,gX,RT⟩;have hK:wz.heap.size<=wz.heap.size+1:=qN _;have z0:w8.cell? (wz.heap.size+1,0)=some ↑aB:=RT.cell 0;have z1:w8.cell? (wz.heap.size+1,1)=some ↑aA:=RT.cell 1;have z2:w8.cell? (wz.heap.size+1,2)=some ↑aA:=RT.cell 2;have afQ:=RT.lt;have f0:=RT.frozen 0;have f1:=RT.frozen 1;have f2:=RT.frozen 2;replace R8:=aJ R8;replace RT:=aJ RT)))
                all_goals go_wp2_with fail
                all_goals go_meet
                all_goals first
                  |exact⟨g8,rfl,R8.alloc _,gX.alloc gX.size _⟩
                  |exact⟨g8,rfl,((R8.out.aM _ _ (R8.out.ne RT.out (by decide))).aM _ _ (R8.out.ne RT.out (by decide))).aM _ _ (R8.out.ne RT.out (by decide)),((gX.setCell (p:=⟨_,0,none⟩) hK _).setCell (p:=⟨_,1,none⟩) hK _).setCell (p:=⟨_,2,none⟩) hK _⟩
              case' rest=>
                obtain⟨og,rfl,RO,b8⟩:=hcut;have hPc:=hPx.out.keep b8;have hOc:=aY hOx.out b8;have RPc:=RP.out.keep b8 RP.out.lt;have bWc:Below W6.heap.size W6 wc:=bxp.trans (b8.mono bxp.size);clear hSk hS1 hS2 hS3 hS4 hlk hl1 hl2 hl3 gD c0 x0 x1 b8 hPx hOx RP bxp bp hpt afR hgd;have afM:True:=trivial;go_wp2_with fail;go_loopw [21,22] (λb i wr=>∃m:Nat,m<=D.length/\i=.int .i64 (m:Int)/\b=.bool ((D.take m).any λc=>decide (c.pt=(T1,ix)))/\Below wc.heap.size wc wr) (λ_ i _=>D.length -(intOf i).toNat);case atStart=>exact⟨0,eX _,rfl,rfl,nj _ _⟩
                case round=>
                  obtain⟨m,hm,rfl,rfl,bm⟩:=hrel;by_cases hml:m<D.length;.as_aux_lemma=>
                    have hy:=cN hml;generalize D[m]=y at hy;obtain⟨g,cc,hv,hg,q0,q1,-,-,-,-⟩:=np (aY hOc bm) hy;cases hv;have RPm:=RPc.keep bm RPc.lt;have p0:wr.cell? (pb,0)=some (.string T1):=RPm.cell 0;have p1:wr.cell? (pb,1)=some (.int .i64 ix):=RPm.cell 1;have hm0:(0:Int)<=(m:Int):=by omega
                    have hm1:(m:Int)<(D.length:Int):=by omega
                    have htk:(D.take (m+1)).any (λc=>decide (c.pt=(T1,ix)))=((D.take m).any (λc=>decide (c.pt=(T1,ix)))||decide (y.pt=(T1,ix))):=by rw[Pe,hy,List.any_append];simp
                    generalize(D.take m).any (λc=>decide (c.pt=(T1,ix)))=bb at htk|-;obtain⟨yt,yi,yv,yl,yh⟩:=y;simp only at q0 q1;replace htk:(D.take (m+1)).any (λc=>decide (c.pt=(T1,ix)))=(bb||decide ((yt,yi)=(T1,ix))):=htk;clear afM RPm;cases bb with
                    |true=>
                      go_wp2_with fail;go_quiet (fail);go_wp2_with fail;go_roundw;case rel=>exact⟨m+1,by omega,by go_num,by rw[htk];rfl,jN bm⟩
                      case measure=>simp[intOf];omega
                    |false=>
                      by_cases e1:yt=T1
                      . subst e1
                        by_cases e2:yi=ix
                        . subst e2
                          go_wp2_with fail;go_quiet (fail);go_wp2_with fail;go_roundw;case rel=>exact⟨m+1,by omega,by go_num,by rw[htk];simp,jN bm⟩
                          case measure=>simp[intOf];omega
                        . go_wp2_with fail
                          go_quiet (fail);go_wp2_with fail;go_roundw;case rel=>exact⟨m+1,by omega,by go_num,by rw[htk];simp[e2],jN bm⟩
                          case measure=>simp[intOf];omega
                      . have e3:(yt.toList==T1.toList)=false:=by rw[bytes_beq];simpa using e1
                        go_wp2_with fail;go_quiet (fail);go_wp2_with fail;go_roundw;case rel=>exact⟨m+1,by omega,by go_num,by rw[htk];simp[e1],jN bm⟩
                        case measure=>simp[intOf];omega
                  . have hmD:m=D.length:=by omega
                    subst hmD;rw[pN];have hm1:¬(D.length:Int)<(D.length:Int):=by omega
                    have ROm:=RO.keep bm RO.lt;have hat:(D.any λc=>decide (c.pt=(T1,ix)))=(a.K (T1,ix)).isSome:=by cases hk:a.K (T1,ix)with
                      |none=>
                        rw[Ux.2 (λc hc=>by have:=hDK.out.mem c hc;intro e;rw[OU e,hk]at this;cases this)]
                        rfl
                      |some d=>obtain⟨h1,h2⟩:=hDK.out.all _ d hk;rw[List.any_eq_true.2 ⟨d,h1,by simpa using h2⟩];rfl
                    rw[hat];have o0:wr.cell? (og,0)=some (.string s1):=ROm.cell 0;have o1:wr.cell? (og,1)=some (.int .i64 s2):=ROm.cell 1;have o2:wr.cell? (og,2)=some (.int .i64 s3):=ROm.cell 2;have o3:wr.cell? (og,3)=some (.string s4):=ROm.cell 3;have o4:wr.cell? (og,4)=some (.int .i64 s5):=ROm.cell 4;have o5:wr.cell? (og,5)=some (.bool s6):=ROm.cell 5;have o6:wr.cell? (og,6)=some ↑aB:=ROm.cell 6;have o7:wr.cell? (og,7)=some ↑aA:=ROm.cell 7;have o8:wr.cell? (og,8)=some ↑aA:=ROm.cell 8;have o9:wr.cell? (og,9)=some ↑aB:=ROm.cell 9;have o10:wr.cell? (og,10)=some ↑aA:=ROm.cell 10;have o11:wr.cell? (og,11)=some ↑aF:=ROm.cell 11;have hz:=SU ⟨#[]⟩ ⟨#[]⟩ 0 0 0 false;have agh:Below W6.heap.size W6 wr:=bWc.trans (bm.mono bWc.size);clear afM ROm hat hcO;cases hk:a.K (T1,ix)with
                    |none=>
                      rw[hk]at hcS;simp only[vT,yr,Pp,Pq,Pr,wP,sf]at hcS;obtain⟨rfl,rfl,rfl,rfl,rfl,rfl⟩:=hcS;simp only[Option.isSome_none];go_wp2_with fail;go_roundw;case rel=>exact⟨q+1,by omega,by go_num,agh⟩
                      case measure=>simp[intOf];omega
                    |some d=>
                      rw[hk]at hcS;simp only[vT,yr,Pp,Pq,Pr,wP,sf]at hcS;obtain⟨rfl,rfl,rfl,rfl,rfl,rfl⟩:=hcS;simp only[Option.isSome_some];go_wp2_with fail;go_roundw;case rel=>exact⟨q+1,by omega,by go_num,agh⟩
                      case measure=>simp[intOf];omega
            . obtain⟨ka,kc,hkv⟩:=bH hPx.run.aP
              rw[hkv]at r8;have hq1:¬(q:Int)<(r.aP.length:Int):=by omega
              go_wp2_with fail;go_ret;exact⟨rfl,hPx.lw⟩
end Go.Proofs.aH
end
section
namespace Go.Proofs
@[simp] def aI.func5:=aI.aQ Tryz.func5
end Go.Proofs
namespace Go.Proofs.aH
open Go.RowKit
attribute [local go_sem↓] Go.wp_at_zero Go.wp_at_succ
def uV.mono{C D:Nat}{w:World}{sa:Option Addr}{l:List (Int×List Int)}(h:uV C w sa l)(hC:C<=D):uV D w sa l:=by refine⟨λhl=>?_⟩;obtain⟨g,o,hg,hs,hx⟩:=h.at_ hl;refine⟨g,o,by omega,hs,λi y hy=>?_⟩;obtain⟨va,vc,h1,h2,h3⟩:=hx i y hy;refine⟨va,vc,h1,h2,⟨?_,h3.xJ,h3.len⟩⟩;obtain⟨a,c,e,q⟩:=h3.at_;exact⟨a,c,e,λhn=>by obtain⟨b,o',q1,q2⟩:=q hn;exact⟨b,o',by omega,q2⟩⟩
def afp(c:lA)(l:List (Int×List Int))(sa:Option Addr)(sc:Nat)(w:World)(hc:c.Vg)(hS:uV w.heap.size w sa l)(hl:l.length<=1048576):Calls aI.prog 5 #[.agg #[.int .i64 c.wk,.int .i64 c.sh,.int .i64 c.me,.int .i64 c.su,.int .i64 c.bi],.slice sa l.length sc] w λe w'=>e=.returned ↑aD/\Lw w.heap.size w w':=by
  have bX:Below w.heap.size w (w.alloc (.cells #[.int .i64 c.wk,.int .i64 c.sh,.int .i64 c.me,.int .i64 c.su,.int .i64 c.bi] 26)):=(Below.refl _ _).alloc (I9 _) _;have hz:=bX.size;have hS2:uV (w.alloc (.cells #[.int .i64 c.wk,.int .i64 c.sh,.int .i64 c.me,.int .i64 c.su,.int .i64 c.bi] 26)).heap.size (w.alloc (.cells #[.int .i64 c.wk,.int .i64 c.sh,.int .i64 c.me,.int .i64 c.su,.int .i64 c.bi] 26)) sa l:=(hS.lw (Lw.below bX)).mono hz;have hsp:=afj c l sa sc (w.alloc (.cells #[.int .i64 c.wk,.int .i64 c.sh,.int .i64 c.me,.int .i64 c.su,.int .i64 c.bi] 26)) hc hS2 hl;go_enter aI.func5,Tryz.ntmps5;go_wp2_with fail;refine hsp.mono ?_;rintro e w1 ⟨rfl,h1⟩;go_wp2_with fail;go_ret;exact⟨rfl,(Lw.below bX).trans (h1.mono hz)⟩
end Go.Proofs.aH
end
