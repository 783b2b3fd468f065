/-
  The walks of layer 10 (cell): what each call returns, and that it leaves the world alone.
  No condition.
-/
import Derived.Test.YtmkiijoljfinoaaRows
import Derived.Test.YtmkiijoljfinoaaCellMath
import Derived.WalkKit
import Derived.WalkLawsBesides
import Derived.IntWalk
import Derived.Lib.Hide
namespace Go.Proofs.Ytmkiijoljfinoaa.Ce
open Go.RowKit
theorem ret_int {k : IntKind} {a b : Int} (h : a = b) : Ending.returned (.int k a) = .returned (.int k b) := by rw [h]
theorem ret_bool {a b : Bool} (h : a = b) : Ending.returned (.bool a) = .returned (.bool b) := by rw [h]
theorem massT (n : Int) (w : World) : Calls Try.prog 25 #[.int .i64 n] w fun e w' => e = .returned (.int .i64 (ms n)) ∧ w = w' := by
  by_cases h0 : n < 0
  · go_enter Try.func25, Try.ntmps25
    go_wp2
    go_ret
    exact ⟨ret_int (by unfold ms; repeat' split <;> omega), rfl⟩
  · by_cases h1 : 10000 < n
    · go_enter Try.func25, Try.ntmps25
      go_wp2
      go_ret
      exact ⟨ret_int (by unfold ms; repeat' split <;> omega), rfl⟩
    · go_enter Try.func25, Try.ntmps25
      go_wp2
      go_ret
      exact ⟨ret_int (by unfold ms; repeat' split <;> omega), rfl⟩
theorem overT (a b : Int) (w : World) : Calls Try.prog 26 #[.int .i64 a, .int .i64 b] w fun e w' => e = .returned (.bool (ov a b)) ∧ w = w' := by
  go_enter Try.func26, Try.ntmps26
  go_wp2_with (go_at_call 25; refine (massT _ _).mono ?_; rintro e w' ⟨rfl, rfl⟩)
  go_ret
  exact ⟨rfl, rfl⟩
theorem nearT (a b c : Int) (w : World) : Calls Try.prog 27 #[.int .i64 a, .int .i64 b, .int .i64 c] w fun e w' => e = .returned (.bool (nr a b c)) ∧ w = w' := by
  have h1 := ms_lo a
  have h2 := ms_hi a
  have h3 := ms_lo b
  have h4 := ms_hi b
  go_enter Try.func27, Try.ntmps27
  go_wp2_with (go_at_call 25; refine (massT _ _).mono ?_; rintro e w' ⟨rfl, rfl⟩)
  all_goals
    go_ret
    exact ⟨ret_bool (by unfold nr ab; congr 1; rw [eq_iff_iff]; split <;> omega), rfl⟩
end Go.Proofs.Ytmkiijoljfinoaa.Ce
