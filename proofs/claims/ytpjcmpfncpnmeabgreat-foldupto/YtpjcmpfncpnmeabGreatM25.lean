/- Fold answers true whatever configuration and script it is handed, where they hold together at most 1048576 values and letters, in whatever order its goroutines run, and all reads behind the call as it read before. -/
import Derived.Test.YtpjcmpfncpnmeabGreatM24
set_option linter.all false
set_option maxRecDepth 100000
namespace Go.Proofs.YtpjcmpfncpnmeabGreat
open Go.ChangeShapes Go.WideShapes Go.ChangeAt Go.RowKit Go.Conc Go.Ren
open Go.ConcM (OsLater)
def Lp(os)(started:os.Started)(H)(enc:TypeId×Value->H)(F):ReturnsInLeavingWide Rows.foldUptoRow.assume Tryz.checked os 5 .any ((Rows.OpenSpec.upto Rows.foldSpec).pre6 enc Tryz.prog Tryz.f5 Rows.foldUptoRow.domain false) ((Rows.OpenSpec.upto Rows.foldSpec).postWith enc Tryz.prog Tryz.f5 F (outsideKept [.timePasses]) false true false):=by
 refine Db (C:=Tryz.checked) (cs:=Rows.foldSpec) (k:=Rows.uptoSmall) rfl rfl rfl rfl Tryz.agQ started Tryz.func5 (OpenSpec.WV (enc:=enc) (C:=Tryz.checked) (k:=Rows.uptoSmall) rfl ⟨#[],#[.agg #[.int .i64 0,.int .i64 0,.int .i64 0,.int .i64 0,.int .i64 0],↑()],[]⟩ 8 K8 K8 K8 (x:=([.agg [.lit (.int .i64 0),.lit (.int .i64 0),.lit (.int .i64 0),.lit (.int .i64 0),.lit (.int .i64 0)],.nil],[],[])) K8 K8 K8) ?_
 intro W base args ds gs before μ r O S;have R:=S;have A:=μ;have s:=r;obtain⟨p,q,G,J,rfl,_,_⟩:=r;have E:=G;obtain⟨v0,v1,i,f,B,g,rfl,rfl,rfl,h0,h1⟩:=trodAll_two E;obtain⟨rfl,rfl⟩:=trodVars_none J;have w:∀x∈B++g,x.block<(W:Nat):=λx a=>by simpa using s.lt x (by simpa[iZ]using a)
 have K:∀(W':World),Below W W W'->DataW.TrodAll enc Tryz.prog W' 0 (λb=>decide (b<(W:Nat))) true [23,24] [v0,v1] [i,f] (B++g):=λW' y=>trodAll_mk2 (Below.trod adx K8 (VP K8) h0 y (λx a=>w x (by simp[a])))
   (Below.trod adx K8 (VP K8) h1 y (λx a=>w x (by simp[a])))
 obtain⟨c,N,rfl⟩:=OB (A 0 23 v0 rfl rfl) h0;obtain⟨e,l1,c1,rfl⟩:=okWide_slice Tryz.underlying24 (A 1 24 v1 rfl rfl);have⟨f1,n⟩:=h1;have L:l1<=1048576:=by have h2:=OC n;have D:Rows.uptoBulkAll [i,f]<=1048576:=VP O;simp only[Rows.uptoBulkAll]at D;simp only at h2;omega
 have⟨l,sa,sc,T,I⟩:=Lg (v:=.slice e l1 c1) (x:=(f,g)) n (λm P=>by have:=xN.1 R m (DataW.weights_mem_each (j:=1) (t:=24) (d:=f) rfl rfl m P);simpa using this)
 cases T;have key:=Tj c N l e c1 W I L;have⟨M,last,o,w',ah,r1,r2,r3,ag⟩:=key.mono (Post':=λv W'=>Rows.foldSpec.post enc Tryz.prog Tryz.f5 false true false false W #[.agg #[↑c.wk,↑c.sh,↑c.me,↑c.su,↑c.bi],.slice e l.length c1] v {W' with os:=W.os}/\OsLater W.os W'.os) (λv W' h=>by
  obtain⟨rfl,u⟩:=h;refine⟨?_,by rw[u.os];exact OsLater.refl _⟩;have z:=Lj u;have Q:Rows.foldSpec.post enc Tryz.prog Tryz.f5 false true false false W #[.agg #[↑c.wk,↑c.sh,↑c.me,↑c.su,↑c.bi],.slice e l.length c1] (.bool true) {W' with os:=W.os,tape:=W.tape}:=⟨_,_,_,[],_,[],s,trodAll_mk1 (shut_bool Tryz.underlying4 true),K _ z,rfl,z.frame _,λh=>by cases h⟩
  have⟨ds,gs,before,X,V,Y,π,aa,ab,ae,af,ai⟩:=Q;exact⟨ds,gs,before,X,V,Y,π,aa.of_heap (by rfl),ab.of_heap (by rfl),ae.of_heap (by rfl),af,λh=>by cases h⟩)
 exact⟨M,last,o,w',ah,r1,r2,r3,ag⟩
theorem fold_holds:Rows.FoldUptoSaid:=afB 5 Tryz.f5 rfl rfl rfl rfl rfl rfl rfl ⟨rfl,rfl,rfl,rfl,rfl⟩ rfl rfl rfl rfl rfl K8 Tryz.func5 K8 (of_decide_eq_true K8) (by unfold Func.isWrapper;rw[if_neg (by decide+kernel)];exact⟨rfl,rfl⟩)
  (λos started H enc _ F=>Lp os started H enc F)
end Go.Proofs.YtpjcmpfncpnmeabGreat
