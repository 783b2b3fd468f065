/-
  tick's Len64, Mul and Pause, walked: for layers that call them.
  No condition.
-/
import Derived.Test.YtlihhjcneedgnaaRows
import Derived.Test.YtlihhjcneedgnaaMath
import Derived.Test.YtlihhjcneedgnaaTck
import Derived.Test.YtlihhjcneedgnaaBase
import Derived.WalkKit
import Derived.WalkLawsBesides
import Derived.IntWalk
import Derived.Lib.Hide
namespace Go.Proofs.Ytlihhjcneedgnaa.Tw
set_option linter.unusedVariables false
set_option linter.unusedSimpArgs false
open Go.RowKit Go.Proofs.Ytlihhjcneedgnaa.Tm Go.Proofs.Ytlihhjcneedgnaa.Ba
set_option maxRecDepth 100000
theorem lenT (w : World) : Calls Try.prog 57 #[.int .u64 1099511627776] w fun e w' => e = .returned (.int .i64 41) ∧ w = w' := by
  go_enter Try.func57, Try.ntmps57
  go_wp2
  go_ret
  exact ⟨congrArg Ending.returned (by kernel_rfl), rfl⟩
theorem mulT (a b : Int) (w : World) : Calls Try.prog 58 #[.int .i64 a, .int .i64 b] w fun e w' => e = .returned (.int .i64 (mu a b)) ∧ w = w' := by
  have h1 := cl_lo a
  have h2 := cl_hi a
  have h3 := cl_lo b
  have h4 := cl_hi b
  by_cases hz : 0 < cl a
  · have ht := div_test (cl a) (cl b) hz
    by_cases hd : 1099511627776 / cl a < cl b
    · have hp : 1099511627776 < cl b * cl a := ht.1 hd
      have HF : Hid (mu a b = 1099511627776) := by
        show mu a b = _
        unfold mu; rw [Int.mul_comm]; exact cl_up _ (by omega)
      clear ht hp
      go_enter Try.func58, Try.ntmps58
      go_wp2_with (go_at_call 35; refine (clT _ _).mono ?_; rintro e w' ⟨rfl, rfl⟩)
      go_ret
      exact ⟨ret_int HF.out.symm, rfl⟩
    · have hp : cl b * cl a ≤ 1099511627776 := by
        have : ¬ (1099511627776 < cl b * cl a) := fun h => hd (ht.2 h)
        omega
      have h0 : 0 ≤ cl a * cl b := prod_lo a b
      have hp' : cl a * cl b ≤ 1099511627776 := by rw [Int.mul_comm]; exact hp
      have HF : Hid (mu a b = cl a * cl b) := by
        show mu a b = _
        unfold mu; exact cl_id _ h0 hp'
      clear ht hp
      go_enter Try.func58, Try.ntmps58
      go_wp2_with (go_at_call 35; refine (clT _ _).mono ?_; rintro e w' ⟨rfl, rfl⟩)
      go_ret
      exact ⟨ret_int HF.out.symm, rfl⟩
  · have e : cl a = 0 := by omega
    have HF : Hid (mu a b = cl a * cl b) := by
      show mu a b = _
      unfold mu; rw [e]; simp [cl]
    have h0 : 0 ≤ cl a * cl b := prod_lo a b
    have hp' : cl a * cl b ≤ 1099511627776 := by rw [e]; simp
    clear e
    go_enter Try.func58, Try.ntmps58
    go_wp2_with (go_at_call 35; refine (clT _ _).mono ?_; rintro e w' ⟨rfl, rfl⟩)
    go_ret
    exact ⟨ret_int HF.out.symm, rfl⟩
theorem paT (b m t : Int) (w : World) : Calls Try.prog 39 #[.int .i64 b, .int .i64 m, .int .i64 t] w fun e w' => e = .returned (.int .i64 (pa b m t)) ∧ w = w' := by
  have h3 := cl_lo m
  have h4 := cl_hi m
  have g1 := cl_lo (dbl b (tr t 41))
  have HP : ∀ n : Nat, n ≤ 41 → wrap64 (2 ^ n) = 2 ^ n := fun n hn => by
    have a1 : 2 ^ n ≤ 2 ^ 41 := Nat.pow_le_pow_right (by omega) hn
    have a2 : (0 : Int) ≤ 2 ^ n := Int.pow_nonneg (by omega)
    have a3 : (2 : Int) ^ n = ((2 ^ n : Nat) : Int) := by simp
    exact IntWalk.wrap64_in _ ⟨by omega, by omega⟩
  have HM : ∀ n : Nat, n = tr t 41 → min (mu b (2 ^ n)) (cl m) = pa b m t := fun n hn => by
    rw [mu_pow, hn, dbl_tr]; rfl
  by_cases t0 : t < 0
  · have H0 := HM 0 (by unfold tr; omega)
    rw [show (2 : Int) ^ 0 = 1 by decide] at H0
    have HF := Lib.hid H0
    clear H0
    clear HM HP
    go_enter Try.func39, Try.ntmps39
    go_wp2_with (first | (go_at_call 57; refine (lenT _).mono ?_; rintro e w' ⟨rfl, rfl⟩) | (go_at_call 58; refine (mulT _ _ _).mono ?_; rintro e w' ⟨rfl, rfl⟩) | (go_at_call 35; refine (clT _ _).mono ?_; rintro e w' ⟨rfl, rfl⟩))
    all_goals
      go_ret
      exact ⟨ret_int (by rw [← HF.out]; omega), rfl⟩
  · by_cases t1 : 41 < t
    · have H0 := HM 41 (by unfold tr; omega)
      rw [show (2 : Int) ^ 41 = 2199023255552 by decide] at H0
      have HF := Lib.hid H0
      clear H0
      clear HM HP
      go_enter Try.func39, Try.ntmps39
      go_wp2_with (first | (go_at_call 57; refine (lenT _).mono ?_; rintro e w' ⟨rfl, rfl⟩) | (go_at_call 58; refine (mulT _ _ _).mono ?_; rintro e w' ⟨rfl, rfl⟩) | (go_at_call 35; refine (clT _ _).mono ?_; rintro e w' ⟨rfl, rfl⟩))
      all_goals
        go_ret
        exact ⟨ret_int (by rw [← HF.out]; omega), rfl⟩
    · have H0 := HM t.toNat (by unfold tr; omega)
      rw [← HP t.toNat (by omega)] at H0
      have HF := Lib.hid H0
      clear H0
      clear HM HP
      go_enter Try.func39, Try.ntmps39
      go_wp2_with (first | (go_at_call 57; refine (lenT _).mono ?_; rintro e w' ⟨rfl, rfl⟩) | (go_at_call 58; refine (mulT _ _ _).mono ?_; rintro e w' ⟨rfl, rfl⟩) | (go_at_call 35; refine (clT _ _).mono ?_; rintro e w' ⟨rfl, rfl⟩))
      all_goals
        go_ret
        exact ⟨ret_int (by rw [← HF.out]; omega), rfl⟩
end Go.Proofs.Ytlihhjcneedgnaa.Tw
