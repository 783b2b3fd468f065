/-
  The walks of layer 5 (serial).
  Conditions: each argument fits its kind.
-/
import Derived.Test.YtmkiijoljfinoaaRows
import Derived.Test.YtmkiijoljfinoaaSerMath
import Derived.Test.YtmkiijoljfinoaaBase
namespace Go.Proofs.Ytmkiijoljfinoaa.Se
open Go.RowKit Go.Proofs.Ytmkiijoljfinoaa.Ba
theorem nextT (n : Int) (w : World) : Calls Try.prog 15 #[.int .i64 n] w fun e w' => e = .returned (.int .i64 (nx n)) ∧ w = w' := by
  go_enter Try.func15, Try.ntmps15
  go_wp2
  go_ret
  exact ⟨ret_int (by rw [u16_wrap, u16_wrap, IntWalk.wrap64_in _ (by omega)]; unfold nx; omega), rfl⟩
theorem nearT (a b : Int) (w : World) : Calls Try.prog 10 #[.int .i64 a, .int .i64 b] w fun e w' => e = .returned (.int .i64 (ne a b)) ∧ w = w' := by
  go_enter Try.func10, Try.ntmps10
  go_wp2
  go_ret
  exact ⟨ret_int (by rw [u16_wrap, u16_wrap, u16_wrap, i16_wrap, IntWalk.wrap64_in _ (by omega)]; unfold ne; omega), rfl⟩
theorem newerT (a b : Int) (w : World) : Calls Try.prog 14 #[.int .i64 a, .int .i64 b] w fun e w' => e = .returned (.bool (decide (0 < ne a b))) ∧ w = w' := by
  go_enter Try.func14, Try.ntmps14
  go_wp2_with (first | (go_at_call 10; refine (nearT _ _ _).mono ?_; rintro e w' ⟨rfl, rfl⟩))
  go_ret
  exact ⟨rfl, rfl⟩
theorem nearR (a b : Int) (ha : -2000000000 ≤ a ∧ a ≤ 2000000000) (hb : -2000000000 ≤ b ∧ b ≤ 2000000000) (w : World) : Calls Try.prog 12 #[.int .i64 a, .int .i64 b] w fun e w' => e = .returned (.int .i64 (ne a b)) ∧ w = w' := by
  obtain ⟨a1, a2⟩ := ha
  obtain ⟨b1, b2⟩ := hb
  have tk := tmod_k (b - a) 65536
  have t1 : -65535 ≤ (b - a).tmod 65536 := by rw [tk]; split <;> omega
  have t2 : (b - a).tmod 65536 ≤ 65535 := by rw [tk]; split <;> omega
  have TK := Lib.hid tk
  clear tk
  go_enter Try.func12, Try.ntmps12
  go_wp2
  all_goals
    have tk' := TK.out
    go_ret
    refine ⟨ret_int ?_, rfl⟩
    unfold ne
    revert tk'
    split <;> omega
end Go.Proofs.Ytmkiijoljfinoaa.Se
