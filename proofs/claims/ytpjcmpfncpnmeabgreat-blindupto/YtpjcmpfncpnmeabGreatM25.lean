/- Blind answers true whatever two configurations and script it is handed, where they hold together at most 1048576 values and letters, in whatever order its goroutines run, and all reads behind the call as it read before. -/
import Derived.Test.YtpjcmpfncpnmeabGreatM24
set_option linter.all false
set_option maxRecDepth 100000
namespace Go.Proofs.YtpjcmpfncpnmeabGreat
open Go.ChangeShapes Go.WideShapes Go.ChangeAt Go.RowKit Go.Conc Go.Ren
open Go.ConcM (OsLater)
def I2(os)(started:os.Started)(H)(enc:TypeId×Value->H)(F):ReturnsInLeavingWide Rows.blindUptoRow.assume Tryz.checked os 6 .any ((Rows.OpenSpec.upto Rows.blindSpec).pre6 enc Tryz.prog Tryz.f6 Rows.blindUptoRow.domain false) ((Rows.OpenSpec.upto Rows.blindSpec).postWith enc Tryz.prog Tryz.f6 F (outsideKept [.timePasses]) false true false):=by
 refine C7 (C:=Tryz.checked) (cs:=Rows.blindSpec) (k:=Rows.uptoSmall) rfl rfl rfl rfl Tryz.agu started Tryz.func6 (OpenSpec.WV (enc:=enc) (C:=Tryz.checked) (k:=Rows.uptoSmall) rfl ⟨#[],#[.agg #[.int .i64 0,.int .i64 0,.int .i64 0,.int .i64 0,.int .i64 0],.agg #[.int .i64 0,.int .i64 0,.int .i64 0,.int .i64 0,.int .i64 0],↑()],[]⟩ 8 K8 K8 K8 (x:=([.agg [.lit (.int .i64 0),.lit (.int .i64 0),.lit (.int .i64 0),.lit (.int .i64 0),.lit (.int .i64 0)],.agg [.lit (.int .i64 0),.lit (.int .i64 0),.lit (.int .i64 0),.lit (.int .i64 0),.lit (.int .i64 0)],.nil],[],[])) K8 K8 K8) ?_
 intro W base args ds gs before μ r O S;have R:=S;have A:=μ;have s:=r;obtain⟨p,q,G,J,rfl,_,_⟩:=r;have E:=G;obtain⟨v0,v2,v1,i,z2,f,B,p2,g,rfl,rfl,rfl,h0,h9,h1⟩:=trodAll_three E;obtain⟨rfl,rfl⟩:=trodVars_none J;have w:∀x∈B++p2++g,x.block<(W:Nat):=λx a=>by simpa using s.lt x (by simpa[iG]using a)
 have K:∀(W':World),Below W W W'->DataW.TrodAll enc Tryz.prog W' 0 (λb=>decide (b<(W:Nat))) true [23,23,24] [v0,v2,v1] [i,z2,f] (B++p2++g):=λW' y=>by
  rw[iG];exact trodAll_mk3 (Below.trod WT K8 (QD K8) h0 y (λx a=>w x (by simp[a])))
   (Below.trod WT K8 (QD K8) h9 y (λx a=>w x (by simp[a])))
   (Below.trod WT K8 (QD K8) h1 y (λx a=>w x (by simp[a])))
 obtain⟨c,N,rfl⟩:=Ee (A 0 23 v0 rfl rfl) h0;obtain⟨c2,N2,rfl⟩:=Ee (A 1 23 v2 rfl rfl) h9;obtain⟨e,l1,c1,rfl⟩:=okWide_slice Tryz.underlying24 (A 2 24 v1 rfl rfl);have⟨f1,n⟩:=h1;have L:l1<=1048576:=by have h2:=Oj n;have D:Rows.uptoBulkAll [i,z2,f]<=1048576:=QD O;simp only[Rows.uptoBulkAll]at D;simp only at h2;omega
 have⟨l,sa,sc,T,I⟩:=KS (v:=.slice e l1 c1) (x:=(f,g)) n (λm P=>by have:=xE.1 R m (DataW.weights_mem_each (j:=2) (t:=24) (d:=f) rfl rfl m P);simpa using this)
 cases T;have key:=Oh c c2 N N2 l e c1 W I L;have⟨M,last,o,w',ah,r1,r2,r3,ag⟩:=key.mono (Post':=λv W'=>Rows.blindSpec.post enc Tryz.prog Tryz.f6 false true false false W #[.agg #[↑c.wk,↑c.sh,↑c.me,↑c.su,↑c.bi],.agg #[↑c2.wk,↑c2.sh,↑c2.me,↑c2.su,↑c2.bi],.slice e l.length c1] v {W' with os:=W.os}/\OsLater W.os W'.os) (λv W' h=>by
  obtain⟨rfl,u⟩:=h;refine⟨?_,by rw[u.os];exact OsLater.refl _⟩;have z:=KX u;have Q:Rows.blindSpec.post enc Tryz.prog Tryz.f6 false true false false W #[.agg #[↑c.wk,↑c.sh,↑c.me,↑c.su,↑c.bi],.agg #[↑c2.wk,↑c2.sh,↑c2.me,↑c2.su,↑c2.bi],.slice e l.length c1] (.bool true) {W' with os:=W.os,tape:=W.tape}:=⟨_,_,_,[],_,[],s,trodAll_mk1 (shut_bool Tryz.underlying4 true),K _ z,rfl,z.frame _,λh=>by cases h⟩
  have⟨ds,gs,before,X,V,Y,π,aa,ab,ae,af,ai⟩:=Q;exact⟨ds,gs,before,X,V,Y,π,aa.of_heap (by rfl),ab.of_heap (by rfl),ae.of_heap (by rfl),af,λh=>by cases h⟩)
 exact⟨M,last,o,w',ah,r1,r2,r3,ag⟩
theorem blind_holds:Rows.BlindUptoSaid:=afo 6 Tryz.f6 rfl rfl rfl rfl rfl rfl rfl ⟨rfl,rfl,rfl,rfl,rfl⟩ rfl rfl rfl rfl rfl K8 Tryz.func6 K8 (of_decide_eq_true K8) (by unfold Func.isWrapper;rw[if_neg (by decide+kernel)];exact⟨rfl,rfl⟩)
  (λos started H enc _ F=>I2 os started H enc F)
end Go.Proofs.YtpjcmpfncpnmeabGreat
