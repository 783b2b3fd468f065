/-
  What is wanted by the last of these texts, part 8.
  No condition.
-/
import Derived.Test.YtpacieocmogjeaaRows
import Derived.WalkKit
import Derived.WalkLawsBesides
import Derived.IntWalk
import Derived.Lib.Hide
namespace Go.Proofs.Ytpacieocmogjeaa.Ce
set_option linter.unusedVariables false
set_option linter.unusedSimpArgs false
def ms (n : Int) : Int := if n < 0 then 0 else if 10000 < n then 10000 else n
def ov (a b : Int) : Bool := decide (ms b < ms a)
end Go.Proofs.Ytpacieocmogjeaa.Ce
namespace Go.Proofs.Ytpacieocmogjeaa.Ce
set_option linter.unusedVariables false
set_option linter.unusedSimpArgs false
open Go.RowKit
theorem ret_int {k : IntKind} {a b : Int} (h : a = b) : Ending.returned (.int k a) = .returned (.int k b) := by rw [h]
theorem ret_bool {a b : Bool} (h : a = b) : Ending.returned (.bool a) = .returned (.bool b) := by rw [h]
theorem massT (n : Int) (w : World) : Calls Try.prog 95 #[.int .i64 n] w fun e w' => e = .returned (.int .i64 (ms n)) ∧ w = w' := by
  by_cases h0 : n < 0
  · go_enter Try.func95, Try.ntmps95
    go_wp2
    go_ret
    exact ⟨ret_int (by unfold ms; repeat' split <;> omega), rfl⟩
  · by_cases h1 : 10000 < n
    · go_enter Try.func95, Try.ntmps95
      go_wp2
      go_ret
      exact ⟨ret_int (by unfold ms; repeat' split <;> omega), rfl⟩
    · go_enter Try.func95, Try.ntmps95
      go_wp2
      go_ret
      exact ⟨ret_int (by unfold ms; repeat' split <;> omega), rfl⟩
theorem overT (a b : Int) (w : World) : Calls Try.prog 85 #[.int .i64 a, .int .i64 b] w fun e w' => e = .returned (.bool (ov a b)) ∧ w = w' := by
  go_enter Try.func85, Try.ntmps85
  go_wp2_with (go_at_call 95; refine (massT _ _).mono ?_; rintro e w' ⟨rfl, rfl⟩)
  go_ret
  exact ⟨rfl, rfl⟩
end Go.Proofs.Ytpacieocmogjeaa.Ce
