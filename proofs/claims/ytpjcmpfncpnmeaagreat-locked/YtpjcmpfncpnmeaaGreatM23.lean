/- Locked answers true whatever configuration, script and numbers it is handed, in whatever order its goroutines run, and all reads behind the call as it read before. No condition beyond the row's own. -/
import Derived.Test.YtpjcmpfncpnmeaaGreatRows
import Derived.Conc.HoldsTime
import Derived.Test.YtpjcmpfncpnmeaaGreatM21
import Derived.Test.YtpjcmpfncpnmeaaGreatM22
set_option linter.all false
set_option maxRecDepth 100000
namespace Go.Proofs.YtpjcmpfncpnmeaaGreat
open Go.ChangeShapes Go.WideShapes Go.ChangeAt Go.RowKit Go.Conc Go.Ren
open Go.ConcM (OsLater)
def PG:=@Below.trod
def aI.Vf(f)(h:aI.X0 f):∃fn s,aI.prog.funcs[f]?=some fn/\fn.body=some (.refuse s):=by obtain rfl:=h;exact⟨_,_,aI.func2,rfl⟩
def JM(h:aI.X 6):False:=by revert h;unfold aI.X aI.code;decide
def yM(h:aI.X0 6):False:=by revert h;unfold aI.X0;decide
def Rj{a b c d}{v:Array Value}(h:v.size=4)(h0:v[0]?=some a)(e:v[1]?=some b)(f:v[2]?=some c)(g:v[3]?=some d):v=#[a,b,c,d]:=by grind
def JN(c:Go.Proofs.aH.lA)(A:c.Vg)(l d a kind n W)(g:MB W d a l)(C:-9223372036854775808<=kind/\kind<9223372036854775808)(D:-9223372036854775808<=n/\n<9223372036854775808):Go.Ren.Ends Tryz.prog (λv W'=>v=↑aD/\Vh W W') (solo (bZ Tryz.prog 6 #[.agg #[c.wk,c.sh,c.me,c.su,c.bi],.slice d l.length a,.int .i64 kind,.int .i64 n] .normal []) W) #[]:=by
 obtain⟨G,w,lJ,S⟩:=Rk W #[.agg #[c.wk,c.sh,c.me,c.su,c.bi],.slice d l.length a,kind,n];obtain⟨F,o,y⟩:=JL S (i:=1) rfl g;have k:=S.PF 0 (.agg #[c.wk,c.sh,c.me,c.su,c.bi]) rfl (by intro v j;simp at j;obtain rfl|rfl|rfl|rfl|rfl:=j<;>exact⟨_,_,rfl⟩)
 have p:=S.PF 2 kind rfl trivial;have q:=S.PF 3 n rfl trivial;have u:=Rj S.adm k o p q;subst u;refine Rm aI.ade aI.UW aI.UX aI.Vf CY yM JM S (λz m t h=>meet z m t h) (λt=>?_);have x:=Go.Proofs.aH.ME c l F a kind n {w with tape:=t,drawn:=0} A (y.lw ⟨L9,λ_ _ _ _ _ h=>h⟩) g.len C D;obtain⟨N,v,w',r,s⟩:=Calls.done (R:=λv w'=>v=↑aD/\Whole w w') (x.mono λe w' B=>by obtain⟨rfl,E⟩:=B;exact⟨rfl,λb cs t f h=>E.cells b cs t f (eK.1 h).1 h⟩) (by have:=(aI.UX.ok 6 yM).2;simpa[xI]using this)
 exact⟨N,v,w',r,s⟩
def Tryz.aem:ownKnob Tryz.prog.godebug=none:=K8
def Tryz.Vi:laidOutB Tryz.prog=true:=K8
def PH:=@Tryz.Vi
def Tryz.MI:Tryz.prog.cellsOf 26=5:=K8
def aen{α:Type}{cs:Array α}(h:cs.size=5):∃c0 c1 c2 c3 c4,cs=#[c0,c1,c2,c3,c4]:=by obtain⟨l⟩:=cs;match l,h with
 |[c0,c1,c2,c3,c4],_=>exact⟨c0,c1,c2,c3,c4,rfl⟩
def MJ{H enc w base spare held r q v}{d:DataW H}{p}(u:Value.okWide Tryz.prog w r q 26 v)(h:DataW.Trod enc Tryz.prog w base spare held 26 v d p):∃c:Go.Proofs.aH.lA,c.Vg/\v=.agg #[c.wk,c.sh,c.me,c.su,c.bi]:=by
 obtain⟨cs,rfl,t⟩:=okWide_struct Tryz.underlying26 u;obtain⟨c0,c1,c2,c3,c4,rfl⟩:=aen (t.trans Tryz.MI);obtain⟨fuel,s⟩:=h;obtain⟨C,n,_,_,_,hlen,a⟩:=DataW.trod_struct Tryz.underlying26 s;match C,hlen with
 |[J,y1,K,L,M],_=>have j:=a 0 _ rfl;have k:=a 1 _ rfl;have l:=a 2 _ rfl;have m:=a 3 _ rfl;have o:=a 4 _ rfl;simp[Ve,Value.cells]at j k l m o;obtain⟨x,b,w0⟩:=CK Tryz.underlying3 j;obtain⟨y,e,w1⟩:=CK Tryz.underlying3 k;obtain⟨z,f,w2⟩:=CK Tryz.underlying3 l;obtain⟨A,g,w3⟩:=CK Tryz.underlying3 m;obtain⟨B,i,w4⟩:=CK Tryz.underlying3 o;simp at b e f g i;refine⟨⟨x,y,z,A,B⟩,?_,by rw[b,e,f,g,i]⟩;have D:=qV w0.2;have E:=qV w1.2;have F:=qV w2.2;have G:=qV w3.2;have I:=qV w4.2;constructor<;>simp_all
def JO{W W'}(h:Vh W W'):Below W W {W' with os:=W.os,tape:=W.tape}:=⟨rfl,rfl,h.out,h.size,h.block⟩
def Fi(os)(started:os.Started)(H)(enc:TypeId×Value->H)(F):ReturnsInLeavingWide Rows.lockedRow.assume Tryz.checked os 6 .any (Rows.lockedSpec.pre6 enc Tryz.prog Tryz.f6 Rows.lockedRow.domain false) ((OpenSpec.ofChange Rows.lockedSpec).postWith enc Tryz.prog Tryz.f6 F (outsideKept [.timePasses]) false true false):=by
 refine returnsInLeavingWide_of_change_time (C:=Tryz.checked) Tryz.aem started Tryz.func6 (ChangeSpec.witness6c (enc:=enc) (C:=Tryz.checked) ⟨#[],#[.agg #[aA,aA,aA,aA,aA],(),↑aA,↑aA],[]⟩ 8 K8 K8 K8 K8) ?_
 intro W base args ds gs before aa B _ Y _;have G:(DataW.weightsEach Tryz.prog (Tryz.f6.params.toList++Rows.lockedSpec.plain.varTypes Tryz.prog) (ds++gs)).all (·<=reachBytes)=true:=Y;have e:∀(j:Nat) t v,Tryz.f6.params[j]?=some t->args[j]?=some v->Value.okWide Tryz.prog W .any base t v:=aa;have s:=B;obtain⟨p,q,Q,S,rfl,_,_⟩:=B;have A:DataW.TrodAll enc Tryz.prog W 0 (λ_=>true) true Tryz.f6.params.toList args.toList ds p:=Q;rw[Tryz.params6]at A e G;obtain⟨v0,v1,v2,v3,L,r,N,O,I,u,J,K,rfl,rfl,rfl,h0,w,y,z⟩:=trodAll_four A;obtain⟨rfl,rfl⟩:=trodVars_none S;simp only[nS]at s;have g:∀x∈I++(u++(J++K)),x.block<(W:Nat):=λx a=>by simpa using s.lt x (by simpa[kH]using a)
 have T:∀W',Below W W W'->DataW.TrodAll enc Tryz.prog W' 0 (λb=>decide (b<(W:Nat))) true [26,27,3,3] [v0,v1,v2,v3] [L,r,N,O] (I++(u++(J++K))):=λW' i=>trodAll_mk4 (PG PH K8 (OU K8) h0 i (λx a=>g x (by simp[a])))
   (PG PH K8 (OU K8) w i (λx a=>g x (by simp[a])))
   (PG PH K8 (OU K8) y i (λx a=>g x (by simp[a])))
   (PG PH K8 (OU K8) z i (λx a=>g x (by simp[a])))
 obtain⟨c,μ,rfl⟩:=MJ (e 0 26 v0 rfl rfl) h0;obtain⟨k,rfl,rfl,rfl,wk⟩:=open_int Tryz.underlying3 (e 2 3 v2 rfl rfl) y;obtain⟨n,rfl,rfl,rfl,wn⟩:=open_int Tryz.underlying3 (e 3 3 v3 rfl rfl) z;obtain⟨f,l1,c1,rfl⟩:=okWide_slice Tryz.underlying27 (e 1 27 v1 rfl rfl);obtain⟨f1,P⟩:=w;obtain⟨l,av,ay,π,R⟩:=JJ (v:=.slice f l1 c1) (x:=(r,u)) P (λm V=>by have:=AV.1 G m (DataW.weights_mem_each (j:=1) (t:=27) (d:=r) rfl rfl m V);simpa using this)
 cases π;have key:=JN c μ l f c1 k n W R (qV wk) (qV wn);obtain⟨M,last,o,w',ar,r1,r2,r3,ao⟩:=key.mono (Post':=λv W'=>Rows.lockedSpec.post enc Tryz.prog Tryz.f6 false true false false W #[.agg #[c.wk,c.sh,c.me,c.su,c.bi],.slice f l.length c1,k,n] v {W' with os:=W.os}/\OsLater W.os W'.os) (λv W' h=>by
  obtain⟨rfl,D⟩:=h;refine⟨?_,by rw[D.os];exact OsLater.refl _⟩;have E:=JO D;have X:Rows.lockedSpec.post enc Tryz.prog Tryz.f6 false true false false W #[.agg #[c.wk,c.sh,c.me,c.su,c.bi],.slice f l.length c1,k,n] ↑aD {W' with os:=W.os,tape:=W.tape}:=⟨_,_,_,[],_,[],s,trodAll_mk1 (shut_bool Tryz.underlying4 true),T _ E,rfl,E.frame _,λh=>by cases h⟩
  obtain⟨ds,gs,before,ae,ab,af,ag,ah,ai,aj,ak,au⟩:=X;exact⟨ds,gs,before,ae,ab,af,ag,ah.of_heap (by rfl),ai.of_heap (by rfl),aj.of_heap (by rfl),ak,λh=>by cases h⟩)
 exact⟨M,last,o,w',ar,r1,r2,r3,ao⟩
theorem locked_holds:Rows.LockedSaid:=OpenClaim.holds_of_wide_leaving_time 6 Tryz.f6 rfl rfl rfl rfl rfl rfl rfl ⟨rfl,rfl,rfl,rfl,rfl⟩ rfl rfl rfl rfl rfl (by kernel_rfl) Tryz.func6 (by kernel_rfl) (of_decide_eq_true (by kernel_rfl)) (by unfold Func.isWrapper;rw[if_neg (by decide+kernel)];exact⟨rfl,rfl⟩)
  (λos started H enc _ F=>Fi os started H enc F)
end Go.Proofs.YtpjcmpfncpnmeaaGreat
