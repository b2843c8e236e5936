import Derived.Test.YtpjcmpfncpnmeaaGreatM15
set_option linter.all false
set_option maxHeartbeats 8000000
set_option maxRecDepth 100000
namespace Go.Proofs.aH
open Go.RowKit Tryz
def S9(p i b g d n x l h j s' w)(o:i<p.length)(A:p.length<=1000)(z:n<=16)(r:opAt p i=74)(u:w.cell? (b,0)=some (.slice g (n+1) d))(y:w.cell? (g,n)=some (.int .u64 x))
 (c:Calls Vp 256 #[.pointer<|some ⟨b,0,none⟩,.int .u8 74,.int .u64 x,.int .u64 x] w.drew λe a=>∃v,e=.returned v/\(v=.int .u64 l/\(a.cell? (b,0)=some (.slice (some ⟨g,0,none⟩) (n+1) d)/\a.cell? (g,n)=some (.int .u64 x)/\a.frozen? (g,n)=false/\Hid (kV w b (mk j) h (i+1) s' (.returned ↑((i:Int)+1)) (a.setCell (g,n)<|.int .u64 l))))):
 Calls Vp 244 #[.pointer b,(mk p),i] w (kV w b (mk j) h (i+1) s'):=by
 have C:=cD p;have q:=dH p i (i:Int) rfl o;have f:opAt p i=(p.getD i 0).toNat:=rfl;rw[<-f,r]at q;clear f;have B:IntKind.i64.wrap (n:Int)=(n:Int):=by rw[jP];omega
 have t:0<=(n:Int)/\(n:Int)<(n:Int)+1:=O9;have m:Hid (∀(k:Array Value)(w:World),(callFunc 256 k).run Vp w=.ok (.enter 256 k) w):=λ_ _=>by kernel_rfl
 replace c:=aK c;go_enter fA func244,ntmps244;go_wp2;go_region_law (refine jA 256 rfl _ _ rfl #[.pointer b,.int .u8 74,.int .u64 x,.int .u64 x] E9 _ c.out (m.out _ _) ?_;rintro D E⟨rfl,F,G,H,s⟩);all_goals go_wp2
 all_goals go_ret
 all_goals exact s.out
end Go.Proofs.aH
