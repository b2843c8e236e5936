/- Lined answers true whatever configuration and script it is handed, where these hold together at most 1048576 values and letters, in whatever order its goroutines run, and all reads behind the call as it read before. -/
import Derived.Test.YtpjcmpfncpnmeaaGreatRows
import Derived.Test.YtpjcmpfncpnmeaaGreatM20
import Derived.Test.YtpjcmpfncpnmeaaGreatM21
set_option linter.all false
set_option maxRecDepth 100000
namespace Go.Proofs.YtpjcmpfncpnmeaaGreat
open Go.ChangeShapes Go.WideShapes Go.ChangeAt Go.RowKit Go.Conc Go.Ren
open Go.ConcM (OsLater)
def aI.Vf(f:FuncId)(h:aI.X0 f):∃fn s,aI.prog.funcs[f]?=some fn/\fn.body=some (.refuse s):=by obtain rfl:=h;exact⟨_,_,aI.func2,rfl⟩
def afc(h:aI.X 5):False:=by revert h;unfold aI.X aI.code;decide
def aeH(h:aI.X0 5):False:=by revert h;unfold aI.X0;decide
def afC{a b:Value}{v:Array Value}(h:v.size=2)(h0:v[0]?=some a)(h1:v[1]?=some b):v=#[a,b]:=by obtain⟨l⟩:=v;match l,h with
  |[x0,x1],_=>simp at h0 h1;rw[h0,h1]
def afd(c:Go.Proofs.aH.lA)(hc:c.Vg)(l:List (Int×List Int))(sa:Option Addr)(sc:Nat)(W:World)(hS:MB W sa sc l)(hl:l.length<=1048576):Go.Ren.Ends Tryz.prog (λv W'=>v=↑aD/\Vh W W') (solo (bZ Tryz.prog 5 #[.agg #[.int .i64 c.wk,.int .i64 c.sh,.int .i64 c.me,.int .i64 c.su,.int .i64 c.bi],.slice sa l.length sc] .normal []) W) #[]:=by
  obtain⟨G,w,lJ,S⟩:=Rk W #[.agg #[.int .i64 c.wk,.int .i64 c.sh,.int .i64 c.me,.int .i64 c.su,.int .i64 c.bi],.slice sa l.length sc];obtain⟨sa',e1,hSL⟩:=JL S (i:=1) rfl hS;have e0:=S.PF 0 (.agg #[.int .i64 c.wk,.int .i64 c.sh,.int .i64 c.me,.int .i64 c.su,.int .i64 c.bi]) rfl (by intro v hv;simp only[OS,gA,kF,kG]at hv;obtain rfl|rfl|rfl|rfl|rfl:=hv<;>exact⟨_,_,rfl⟩)
  have hA:=afC S.adm e0 e1;subst hA;refine Rm aI.ade aI.UW aI.UX aI.Vf CY aeH afc S (λhT m t h=>meet hT m t h) (λt=>?_);have hL:=Go.Proofs.aH.afp c l sa' sc {w with tape:=t,drawn:=0} hc (hSL.lw ⟨I9 _,λ_ _ _ _ _ h=>h⟩) hl;obtain⟨N,v,w',h1,h2⟩:=Calls.done (R:=λv w'=>v=↑aD/\Whole w w') (hL.mono λe w' he=>by obtain⟨rfl,hw⟩:=he;exact⟨rfl,λb cs t f h=>hw.cells b cs t f (eK.1 h).1 h⟩) (by have:=(aI.UX.ok 5 aeH).2;simpa[xI]using this)
  exact⟨N,v,w',h1,h2⟩
def Tryz.aem:ownKnob Tryz.prog.godebug=none:=by kernel_rfl
def Tryz.Vi:laidOutB Tryz.prog=true:=by kernel_rfl
def PH:=@Tryz.Vi
def Tryz.MI:Tryz.prog.cellsOf 26=5:=by kernel_rfl
def aen{α:Type}{cs:Array α}(h:cs.size=5):∃c0 c1 c2 c3 c4,cs=#[c0,c1,c2,c3,c4]:=by obtain⟨l⟩:=cs;match l,h with
  |[c0,c1,c2,c3,c4],_=>exact⟨c0,c1,c2,c3,c4,rfl⟩
def MJ{H:Type}{enc:TypeId×Value->H}{w:World}{base:Nat}{spare:Nat->Bool}{held:Bool}{r:Reach}{b0:Nat}{v:Value}{d:DataW H}{p:List MemPlace}(hv:Value.okWide Tryz.prog w r b0 26 v)(h:DataW.Trod enc Tryz.prog w base spare held 26 v d p):∃c:Go.Proofs.aH.lA,c.Vg/\v=.agg #[.int .i64 c.wk,.int .i64 c.sh,.int .i64 c.me,.int .i64 c.su,.int .i64 c.bi]:=by
  obtain⟨cs,rfl,hsz⟩:=okWide_struct Tryz.underlying26 hv;obtain⟨c0,c1,c2,c3,c4,rfl⟩:=aen (hsz.trans Tryz.MI);obtain⟨fuel,hf⟩:=h;obtain⟨xs,n,_,_,_,hlen,hg⟩:=DataW.trod_struct Tryz.underlying26 hf;match xs,hlen with
  |[y0,y1,y2,y3,y4],_=>have g0:=hg 0 _ rfl;have g1:=hg 1 _ rfl;have g2:=hg 2 _ rfl;have g3:=hg 3 _ rfl;have g4:=hg 4 _ rfl;simp[Ve,Value.cells]at g0 g1 g2 g3 g4;obtain⟨i0,e0,w0⟩:=CK Tryz.underlying3 g0;obtain⟨i1,e1,w1⟩:=CK Tryz.underlying3 g1;obtain⟨i2,e2,w2⟩:=CK Tryz.underlying3 g2;obtain⟨i3,e3,w3⟩:=CK Tryz.underlying3 g3;obtain⟨i4,e4,w4⟩:=CK Tryz.underlying3 g4;simp at e0 e1 e2 e3 e4;refine⟨⟨i0,i1,i2,i3,i4⟩,?_,by rw[e0,e1,e2,e3,e4]⟩;have j0:=qV w0.2;have j1:=qV w1.2;have j2:=qV w2.2;have j3:=qV w3.2;have j4:=qV w4.2;constructor<;>simp_all
def JO{W W':World}(h:Vh W W'):Below W.heap.size W {W' with os:=W.os,tape:=W.tape}:=⟨rfl,rfl,h.out,h.size,h.block⟩
def afD{H:Type}(d:DataW H):1<=Rows.uptoBulk d:=by cases d with
  |lit l=>cases l<;>simp[Rows.uptoBulk]
  |_=>simp[Rows.uptoBulk]
def ae0{H:Type}:∀l:List (DataW H),l.length<=Rows.uptoBulkAll l
  |[]=>eX _
  |d::l=>by have h1:=afD d;have h2:=ae0 l;simp only[Rows.uptoBulkAll,fH];omega
def afe{H:Type}{enc:TypeId×Value->H}{w:World}{held:Bool}{fuel:Nat}{a:Option Addr}{n c:Nat}{x:DataW H×List MemPlace}(h:DataW.trod enc Tryz.prog w 0 (λ_=>true) held fuel 27 [.slice a n c]=some x):n<=Rows.uptoBulk x.1:=by
  obtain⟨hv,_⟩|⟨a',len,cap,m,n',D,Pl,hv,_,hlc,_,hm,hx,hel⟩:=Go.Deep.open_slice Tryz.underlying27 h
  . simp at hv
    rw[hv.2.1];exact eX _
  . simp only[yr,sf,Value.slice.injEq]at hv
    rw[hv.2.1,hx];have:=ae0 ((List.range len).map D);simp only[iB,List.length_range]at this;simp only[Rows.uptoBulk];omega
def aeW(os:Os)(started:os.Started)(H:Type)(enc:TypeId×Value->H)(F:Stop.Interp):ReturnsInLeavingWide Rows.linedUptoRow.assume Tryz.checked os 5 .any ((Rows.OpenSpec.upto Rows.linedSpec).pre6 enc Tryz.prog Tryz.f5 Rows.linedUptoRow.domain false) ((Rows.OpenSpec.upto Rows.linedSpec).postWith enc Tryz.prog Tryz.f5 F (outsideKept [.timePasses]) false true false):=by
  refine aeL (C:=Tryz.checked) (cs:=Rows.linedSpec) (k:=Rows.uptoSmall) rfl rfl rfl rfl Tryz.aem started Tryz.func5 (OpenSpec.afB (enc:=enc) (C:=Tryz.checked) (k:=Rows.uptoSmall) rfl ⟨#[],#[.agg #[.int .i64 0,.int .i64 0,.int .i64 0,.int .i64 0,.int .i64 0],.slice none 0 0],[]⟩ 8 (by kernel_rfl) (by kernel_rfl) (by kernel_rfl) (x:=([.agg [.lit (.int .i64 0),.lit (.int .i64 0),.lit (.int .i64 0),.lit (.int .i64 0),.lit (.int .i64 0)],.nil],[],[])) (by kernel_rfl) (by kernel_rfl) (by kernel_rfl)) ?_
  intro W base args ds gs before af2 hW hk aga;have hsz:(DataW.weightsEach Tryz.prog (Tryz.f5.params.toList++Rows.linedSpec.plain.varTypes Tryz.prog) (ds++gs)).all (·<=reachBytes)=true:=aga;clear aga;have hval:∀(j:Nat) t v,Tryz.f5.params[j]?=some t->args[j]?=some v->Value.okWide Tryz.prog W .any base t v:=af2;have hW':=hW;obtain⟨p,q,hA0,hV,rfl,_,_⟩:=hW;have hA:DataW.TrodAll enc Tryz.prog W 0 (λ_=>true) true Tryz.f5.params.toList args.toList ds p:=hA0;rw[Tryz.params5]at hA hval hsz;obtain⟨v0,v1,d0,d1,p0,p1,rfl,rfl,rfl,h0,h1⟩:=trodAll_two hA;obtain⟨rfl,rfl⟩:=trodVars_none hV;clear hA0 af2;simp only[nS]at hW' hk;have hlt:∀x∈p0++p1,x.block<W.heap.size:=λx hx=>by simpa using hW'.lt x (by simpa[kH]using hx)
  have hargs:∀(W':World),Below W.heap.size W W'->DataW.TrodAll enc Tryz.prog W' 0 (λb=>decide (b<W.heap.size)) true [26,27] [v0,v1] [d0,d1] (p0++p1):=λW' hn=>trodAll_mk2 (Below.trod PH (by kernel_rfl) (OU (by kernel_rfl)) h0 hn (λx hx=>hlt x (by simp[hx])))
      (Below.trod PH (by kernel_rfl) (OU (by kernel_rfl)) h1 hn (λx hx=>hlt x (by simp[hx])))
  obtain⟨c,hci,rfl⟩:=MJ (hval 0 26 v0 rfl rfl) h0;obtain⟨a1,l1,c1,rfl⟩:=okWide_slice Tryz.underlying27 (hval 1 27 v1 rfl rfl);obtain⟨f1,g1⟩:=h1;have hbk:l1<=1048576:=by have h2:=afe g1;have h3:Rows.uptoBulkAll [d0,d1]<=1048576:=OU hk;simp only[Rows.uptoBulkAll]at h3;simp only at h2;omega
  obtain⟨l,sa,sc,hv,hS⟩:=JJ (v:=.slice a1 l1 c1) (x:=(d1,p1)) g1 (λm hm=>by have:=AV.1 hsz m (DataW.weights_mem_each (j:=1) (t:=27) (d:=d1) rfl rfl m hm);simpa using this)
  cases hv;have key:=afd c hci l a1 c1 W hS hbk;obtain⟨M,last,o,w',t',r1,r2,r3,r4⟩:=key.mono (Post':=λv W'=>Rows.linedSpec.post enc Tryz.prog Tryz.f5 false true false false W #[.agg #[.int .i64 c.wk,.int .i64 c.sh,.int .i64 c.me,.int .i64 c.su,.int .i64 c.bi],.slice a1 l.length c1] v {W' with os:=W.os}/\OsLater W.os W'.os) (λv W' h=>by
    obtain⟨rfl,ha⟩:=h;refine⟨?_,by rw[ha.os];exact OsLater.refl _⟩;have hnx:=JO ha;have hp:Rows.linedSpec.post enc Tryz.prog Tryz.f5 false true false false W #[.agg #[.int .i64 c.wk,.int .i64 c.sh,.int .i64 c.me,.int .i64 c.su,.int .i64 c.bi],.slice a1 l.length c1] (.bool true) {W' with os:=W.os,tape:=W.tape}:=⟨_,_,_,[],_,[],hW',trodAll_mk1 (shut_bool Tryz.underlying4 true),hargs _ hnx,rfl,hnx.frame _,λh=>by cases h⟩
    obtain⟨ds,gs,before,pr,pa,pv,q1,q2,q3,q4,q5,q6⟩:=hp;exact⟨ds,gs,before,pr,pa,pv,q1,q2.of_heap (by rfl),q3.of_heap (by rfl),q4.of_heap (by rfl),q5,λh=>by cases h⟩)
  exact⟨M,last,o,w',t',r1,r2,r3,r4⟩
theorem lined_holds:Rows.LinedUptoSaid:=OpenClaim.Ro 5 Tryz.f5 rfl rfl rfl rfl rfl rfl rfl ⟨rfl,rfl,rfl,rfl,rfl⟩ rfl rfl rfl rfl rfl (by kernel_rfl) Tryz.func5 (by kernel_rfl) (of_decide_eq_true (by kernel_rfl)) (by unfold Func.isWrapper;rw[if_neg (by decide+kernel)];exact⟨rfl,rfl⟩)
    (λos started H enc _ F=>aeW os started H enc F)
end Go.Proofs.YtpjcmpfncpnmeaaGreat
