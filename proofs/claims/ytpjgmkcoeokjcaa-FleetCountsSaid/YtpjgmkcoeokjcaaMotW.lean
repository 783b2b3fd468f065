/-
  The walks of layer 9 (motor), but for the names of ways, and of the reference's places.
  Conditions: where a floor is multiplied, it is no more than 2^40 from 0.
-/
import Derived.Test.YtpjgmkcoeokjcaaRows
import Derived.Test.YtpjgmkcoeokjcaaMotMath
import Derived.Test.YtpjgmkcoeokjcaaBase
namespace Go.Proofs.Ytpjgmkcoeokjcaa.Mo
set_option linter.unusedVariables false
set_option linter.unusedSimpArgs false
open Go.RowKit Go.Proofs.Ytpjgmkcoeokjcaa.Ba
theorem floorsT (n : Int) (w : World) : Calls Try.prog 37 #[.int .i64 n] w fun e w' => e = .returned (.int .i64 (fl n)) ∧ w = w' := by
  by_cases h0 : n < 2
  · go_enter Try.func37, Try.ntmps37
    go_wp2
    go_ret
    exact ⟨ret_int (by unfold fl; repeat' split <;> omega), rfl⟩
  · by_cases h1 : 64 < n
    · go_enter Try.func37, Try.ntmps37
      go_wp2
      go_ret
      exact ⟨ret_int (by unfold fl; repeat' split <;> omega), rfl⟩
    · go_enter Try.func37, Try.ntmps37
      go_wp2
      go_ret
      exact ⟨ret_int (by unfold fl; repeat' split <;> omega), rfl⟩
theorem ret_lv {a : Int} {b : Bool} {u : Int} (h : b = lvB u) (k : a = lvN u) : Ending.returned (.tuple #[.int .i64 a, .bool b]) = .returned (.tuple #[.int .i64 (lvN u), .bool (lvB u)]) := by rw [h, k]
theorem floorsR (n : Int) (w : World) : Calls Try.prog 40 #[.int .i64 n] w fun e w' => e = .returned (.int .i64 (fl n)) ∧ w = w' := by
  go_enter Try.func40, Try.ntmps40
  go_wp2
  all_goals
    go_ret
    exact ⟨ret_int (by unfold fl; repeat' split <;> omega), rfl⟩
end Go.Proofs.Ytpjgmkcoeokjcaa.Mo
