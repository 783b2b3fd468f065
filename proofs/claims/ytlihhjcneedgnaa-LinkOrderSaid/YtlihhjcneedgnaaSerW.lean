/-
  The walks of layer 5 (serial).
  Conditions: each argument fits its kind.
-/
import Derived.Test.YtlihhjcneedgnaaRows
import Derived.Test.YtlihhjcneedgnaaSerMath
import Derived.Test.YtlihhjcneedgnaaBase
namespace Go.Proofs.Ytlihhjcneedgnaa.Se
set_option linter.unusedVariables false
set_option linter.unusedSimpArgs false
open Go.RowKit Go.Proofs.Ytlihhjcneedgnaa.Ba
theorem nextT (n : Int) (w : World) : Calls Try.prog 40 #[.int .i64 n] w fun e w' => e = .returned (.int .i64 (nx n)) ∧ w = w' := by
  go_enter Try.func40, Try.ntmps40
  go_wp2
  go_ret
  exact ⟨ret_int (by rw [u16_wrap, u16_wrap, IntWalk.wrap64_in _ (by omega)]; unfold nx; omega), rfl⟩
theorem nearT (a b : Int) (w : World) : Calls Try.prog 60 #[.int .i64 a, .int .i64 b] w fun e w' => e = .returned (.int .i64 (ne a b)) ∧ w = w' := by
  go_enter Try.func60, Try.ntmps60
  go_wp2
  go_ret
  exact ⟨ret_int (by rw [u16_wrap, u16_wrap, u16_wrap, i16_wrap, IntWalk.wrap64_in _ (by omega)]; unfold ne; omega), rfl⟩
theorem newerT (a b : Int) (w : World) : Calls Try.prog 42 #[.int .i64 a, .int .i64 b] w fun e w' => e = .returned (.bool (decide (0 < ne a b))) ∧ w = w' := by
  go_enter Try.func42, Try.ntmps42
  go_wp2_with (first | (go_at_call 60; refine (nearT _ _ _).mono ?_; rintro e w' ⟨rfl, rfl⟩))
  go_ret
  exact ⟨rfl, rfl⟩
end Go.Proofs.Ytlihhjcneedgnaa.Se
