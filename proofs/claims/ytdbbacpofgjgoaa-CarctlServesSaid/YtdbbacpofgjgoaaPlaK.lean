/-
  plant.closed, its argument written out.
  No condition.
-/
import Derived.Test.YtdbbacpofgjgoaaPlaW
import Derived.Test.YtdbbacpofgjgoaaLoc2
namespace Go.Proofs.Ytdbbacpofgjgoaa.Pl
set_option linter.unusedVariables false
set_option linter.unusedSimpArgs false
open Go.RowKit Go.Proofs.Ytdbbacpofgjgoaa.Ba Go.Proofs.Ytdbbacpofgjgoaa.Do Go.Proofs.Ytdbbacpofgjgoaa.Mo Go.Proofs.Ytdbbacpofgjgoaa.Ty
theorem closedK (ds da un wy ti ju lo : Int) (bl br : Bool) (mo ta : Int) (ho : Bool) (sp su sd : Int) (w : World) : Calls Try.prog 49 #[.agg #[.int .i64 ds, .int .i64 da, .int .i64 un, .int .i64 wy, .int .i64 ti, .int .i64 ju, .int .i64 lo, .bool bl, .bool br, .int .i64 mo, .int .i64 ta, .bool ho, .int .u64 sp, .int .u64 su, .int .u64 sd]] w fun e w' => e = .returned (.bool (ds == 0)) ∧ Since w w' := closedT ⟨ds, da, un, wy, ti, ju, lo, bl, br, mo, ta, ho, sp, su, sd⟩ w
end Go.Proofs.Ytdbbacpofgjgoaa.Pl
