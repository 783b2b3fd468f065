/-
  The walks of layer 10 (cell): what each call returns, and that it leaves the world alone.
  No condition.
-/
import Derived.Test.YtggafipgfgbbiaaRows
import Derived.Test.YtggafipgfgbbiaaCellMath
import Derived.WalkKit
import Derived.WalkLawsBesides
import Derived.IntWalk
import Derived.Lib.Hide
namespace Go.Proofs.Ytggafipgfgbbiaa.Ce
set_option linter.unusedVariables false
set_option linter.unusedSimpArgs false
open Go.RowKit
theorem ret_int {k : IntKind} {a b : Int} (h : a = b) : Ending.returned (.int k a) = .returned (.int k b) := by rw [h]
theorem ret_bool {a b : Bool} (h : a = b) : Ending.returned (.bool a) = .returned (.bool b) := by rw [h]
theorem massT (n : Int) (w : World) : Calls Try.prog 66 #[.int .i64 n] w fun e w' => e = .returned (.int .i64 (ms n)) ∧ w = w' := by
  by_cases h0 : n < 0
  · go_enter Try.func66, Try.ntmps66
    go_wp2
    go_ret
    exact ⟨ret_int (by unfold ms; repeat' split <;> omega), rfl⟩
  · by_cases h1 : 10000 < n
    · go_enter Try.func66, Try.ntmps66
      go_wp2
      go_ret
      exact ⟨ret_int (by unfold ms; repeat' split <;> omega), rfl⟩
    · go_enter Try.func66, Try.ntmps66
      go_wp2
      go_ret
      exact ⟨ret_int (by unfold ms; repeat' split <;> omega), rfl⟩
theorem nearT (a b c : Int) (w : World) : Calls Try.prog 96 #[.int .i64 a, .int .i64 b, .int .i64 c] w fun e w' => e = .returned (.bool (nr a b c)) ∧ w = w' := by
  have h1 := ms_lo a
  have h2 := ms_hi a
  have h3 := ms_lo b
  have h4 := ms_hi b
  go_enter Try.func96, Try.ntmps96
  go_wp2_with (go_at_call 66; refine (massT _ _).mono ?_; rintro e w' ⟨rfl, rfl⟩)
  all_goals
    go_ret
    exact ⟨ret_bool (by unfold nr ab; congr 1; rw [eq_iff_iff]; split <;> omega), rfl⟩
end Go.Proofs.Ytggafipgfgbbiaa.Ce
