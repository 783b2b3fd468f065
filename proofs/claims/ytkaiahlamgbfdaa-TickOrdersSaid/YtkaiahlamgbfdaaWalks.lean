/-
  The walks of layer 1 (tick) and of the reference that it is held against: what each call returns, and that it leaves the world alone.
  Conditions: each argument fits its kind.
-/
import Derived.Test.YtkaiahlamgbfdaaRows
import Derived.Test.YtkaiahlamgbfdaaMath
import Derived.WalkKit
import Derived.WalkLawsBesides
import Derived.IntWalk
import Derived.Lib.Hide
namespace Go.Proofs.Ytkaiahlamgbfdaa.Tw
open Go.RowKit
open Go.Proofs.Ytkaiahlamgbfdaa.Tm

theorem ret_int {k : IntKind} {a b : Int} (h : a = b) : Ending.returned (.int k a) = .returned (.int k b) := by rw [h]

/-- tick.Clamp. -/
theorem clT (n : Int) (w : World) : Calls Try.prog 9 #[.int .i64 n] w fun e w' => e = .returned (.int .i64 (cl n)) ∧ w = w' := by
  by_cases h0 : n < 0
  · go_enter Try.func9, Try.ntmps9
    go_wp2
    go_ret
    exact ⟨ret_int (by unfold cl; repeat' split <;> omega), rfl⟩
  · by_cases h1 : 1099511627776 < n
    · go_enter Try.func9, Try.ntmps9
      go_wp2
      go_ret
      exact ⟨ret_int (by unfold cl; repeat' split <;> omega), rfl⟩
    · go_enter Try.func9, Try.ntmps9
      go_wp2
      go_ret
      exact ⟨ret_int (by unfold cl; repeat' split <;> omega), rfl⟩
/-- The reference's Clamp. -/
theorem clR (n : Int) (w : World) : Calls Try.prog 7 #[.int .i64 n] w fun e w' => e = .returned (.int .i64 (cl n)) ∧ w = w' := by
  by_cases h0 : n < 0
  · go_enter Try.func7, Try.ntmps7
    go_wp2
    go_ret
    exact ⟨ret_int (by unfold cl; repeat' split <;> omega), rfl⟩
  · by_cases h1 : 1099511627776 < n
    · go_enter Try.func7, Try.ntmps7
      go_wp2
      go_ret
      exact ⟨ret_int (by unfold cl; repeat' split <;> omega), rfl⟩
    · go_enter Try.func7, Try.ntmps7
      go_wp2
      go_ret
      exact ⟨ret_int (by unfold cl; repeat' split <;> omega), rfl⟩
/-- tick.Add. -/
theorem addT (a b : Int) (w : World) : Calls Try.prog 10 #[.int .i64 a, .int .i64 b] w fun e w' => e = .returned (.int .i64 (cl (cl a + cl b))) ∧ w = w' := by
  have h1 := cl_lo a
  have h2 := cl_hi a
  have h3 := cl_lo b
  have h4 := cl_hi b
  go_enter Try.func10, Try.ntmps10
  go_wp2_with (go_at_call 9; refine (clT _ _).mono ?_; rintro e w' ⟨rfl, rfl⟩)
  go_ret
  exact ⟨rfl, rfl⟩
/-- tick.Late. -/
theorem lateT (a b : Int) (w : World) : Calls Try.prog 13 #[.int .i64 a, .int .i64 b] w fun e w' => e = .returned (.bool (decide (cl b ≤ cl a))) ∧ w = w' := by
  go_enter Try.func13, Try.ntmps13
  go_wp2_with (go_at_call 9; refine (clT _ _).mono ?_; rintro e w' ⟨rfl, rfl⟩)
  go_ret
  exact ⟨rfl, rfl⟩
set_option maxRecDepth 100000 in
/-- The number of bits of the greatest time. -/
theorem lenT (w : World) : Calls Try.prog 16 #[.int .u64 1099511627776] w fun e w' => e = .returned (.int .i64 41) ∧ w = w' := by
  go_enter Try.func16, Try.ntmps16
  go_wp2
  go_ret
  exact ⟨congrArg Ending.returned (by kernel_rfl), rfl⟩
/-- tick.Mul. -/
theorem mulT (a b : Int) (w : World) : Calls Try.prog 11 #[.int .i64 a, .int .i64 b] w fun e w' => e = .returned (.int .i64 (mu a b)) ∧ w = w' := by
  have h1 := cl_lo a
  have h2 := cl_hi a
  have h3 := cl_lo b
  have h4 := cl_hi b
  by_cases hz : 0 < cl a
  · have ht := div_test (cl a) (cl b) hz
    by_cases hd : 1099511627776 / cl a < cl b
    · have hp : 1099511627776 < cl b * cl a := ht.1 hd
      have HF : Hid (mu a b = 1099511627776) := by
        show mu a b = _
        unfold mu; rw [Int.mul_comm]; exact cl_up _ (by omega)
      clear ht hp
      go_enter Try.func11, Try.ntmps11
      go_wp2_with (go_at_call 9; refine (clT _ _).mono ?_; rintro e w' ⟨rfl, rfl⟩)
      go_ret
      exact ⟨ret_int HF.out.symm, rfl⟩
    · have hp : cl b * cl a ≤ 1099511627776 := by
        have : ¬ (1099511627776 < cl b * cl a) := fun h => hd (ht.2 h)
        omega
      have h0 : 0 ≤ cl a * cl b := prod_lo a b
      have hp' : cl a * cl b ≤ 1099511627776 := by rw [Int.mul_comm]; exact hp
      have HF : Hid (mu a b = cl a * cl b) := by
        show mu a b = _
        unfold mu; exact cl_id _ h0 hp'
      clear ht hp
      go_enter Try.func11, Try.ntmps11
      go_wp2_with (go_at_call 9; refine (clT _ _).mono ?_; rintro e w' ⟨rfl, rfl⟩)
      go_ret
      exact ⟨ret_int HF.out.symm, rfl⟩
  · have e : cl a = 0 := by omega
    have HF : Hid (mu a b = cl a * cl b) := by
      show mu a b = _
      unfold mu; rw [e]; simp [cl]
    have h0 : 0 ≤ cl a * cl b := prod_lo a b
    have hp' : cl a * cl b ≤ 1099511627776 := by rw [e]; simp
    clear e
    go_enter Try.func11, Try.ntmps11
    go_wp2_with (go_at_call 9; refine (clT _ _).mono ?_; rintro e w' ⟨rfl, rfl⟩)
    go_ret
    exact ⟨ret_int HF.out.symm, rfl⟩
/-- The reference's Mul: by doubling. -/
theorem mulR (a b : Int) (w : World) : Calls Try.prog 12 #[.int .i64 a, .int .i64 b] w fun e w' => e = .returned (.int .i64 (mu a b)) ∧ w = w' := by
  have h1 := cl_lo a
  have h2 := cl_hi a
  have h3 := cl_lo b
  have h4 := cl_hi b
  go_enter Try.func12, Try.ntmps12
  go_wp2_with (go_at_call 7; refine (clR _ _).mono ?_; rintro e w' ⟨rfl, rfl⟩)
  go_loop [0, 1, 5] (fun x y o => ∃ p q r : Int, x = .int .i64 p ∧ y = .int .i64 q ∧ o = .int .i64 r ∧ 0 ≤ p ∧ p ≤ 1099511627776 ∧ 0 ≤ q ∧ q ≤ 1099511627776 ∧ 0 ≤ r ∧ r ≤ 1099511627776 ∧ Hid (cl (r + p * q) = mu a b)) (fun _ y _ => (intOf y).toNat)
  case atStart => exact ⟨cl a, cl b, 0, rfl, rfl, rfl, h1, h2, h3, h4, by omega, by omega, Lib.hid (by rw [Int.zero_add]; rfl)⟩
  case round =>
    obtain ⟨p, q, r, rfl, rfl, rfl, hp0, hp1, hq0, hq1, hr0, hr1, HR⟩ := hrel
    by_cases hq : 0 < q
    · have k1 := cl_lo (p + p)
      have k2 := cl_hi (p + p)
      have k3 := cl_lo (r + p)
      have k4 := cl_hi (r + p)
      by_cases hodd : q % 2 = 1
      · have HO : Hid (cl (cl (r + p) + cl (p + p) * (q / 2)) = mu a b) := by
          have := step_odd r p (q / 2) hr0 hp0 (by omega)
          exact Lib.hid (by rw [this, show 2 * (q / 2) + 1 = q by omega]; exact HR.out)
        have ho : (q % 2 == 1) = true := by simp [hodd]
        clear hodd
        go_wp2_with (go_at_call 7; refine (clR _ _).mono ?_; rintro e w' ⟨rfl, rfl⟩)
        go_round
        case rel => exact ⟨cl (p + p), q / 2, cl (r + p), rfl, rfl, rfl, k1, k2, by omega, by omega, k3, k4, HO⟩
        case measure => simp [intOf]; omega
      · have HO : Hid (cl (r + cl (p + p) * (q / 2)) = mu a b) := by
          have := step_even r p (q / 2) hr0 hp0 (by omega)
          exact Lib.hid (by rw [this, show 2 * (q / 2) = q by omega]; exact HR.out)
        have ho : (q % 2 == 1) = false := by simp [hodd]
        clear hodd
        go_wp2_with (go_at_call 7; refine (clR _ _).mono ?_; rintro e w' ⟨rfl, rfl⟩)
        go_round
        case rel => exact ⟨cl (p + p), q / 2, r, rfl, rfl, rfl, k1, k2, by omega, by omega, hr0, hr1, HO⟩
        case measure => simp [intOf]; omega
    · have HF : Hid (r = mu a b) := by
        have hq' : q = 0 := by omega
        have := HR.out
        rw [hq', Int.mul_zero, Int.add_zero, cl_id r hr0 hr1] at this
        exact Lib.hid this
      go_wp2
      go_ret
      exact ⟨ret_int HF.out, rfl⟩
/-- The reference's Pause. -/
theorem paR (b m t : Int) (w : World) : Calls Try.prog 15 #[.int .i64 b, .int .i64 m, .int .i64 t] w fun e w' => e = .returned (.int .i64 (pa b m t)) ∧ w = w' := by
  have h3 := cl_lo m
  have h4 := cl_hi m
  go_enter Try.func15, Try.ntmps15
  go_wp2_with (go_at_call 7; refine (clR _ _).mono ?_; rintro e w' ⟨rfl, rfl⟩)
  go_loop [7, 9] (fun p i => ∃ k : Nat, k ≤ tr t 100 ∧ i = .int .i64 k ∧ p = .int .i64 (dbl b k)) (fun _ i => 100 - (intOf i).toNat)
  case atStart => exact ⟨0, Nat.zero_le _, rfl, rfl⟩
  case round =>
    obtain ⟨k, hk, rfl, rfl⟩ := hrel
    have g1 := dbl_lo b k
    have g2 := dbl_hi b k
    unfold tr at hk
    by_cases hlt : k < tr t 100
    · have hlt' := hlt
      unfold tr at hlt
      go_wp2_with (go_at_call 7; refine (clR _ _).mono ?_; rintro e w' ⟨rfl, rfl⟩)
      go_round
      case rel => exact ⟨k + 1, hlt', by go_num, rfl⟩
      case measure => simp [intOf]; omega
    · have HF : Hid (pa b m t = min (dbl b k) (cl m)) := by
        have e : k = tr t 100 := by unfold tr at hlt ⊢; omega
        exact Lib.hid (by rw [e]; rfl)
      unfold tr at hlt
      have hout : ¬ ((k : Int) < t ∧ (k : Int) < 100) := by omega
      by_cases ht : (k : Int) < t
      all_goals
        by_cases hgt : cl m < dbl b k
        all_goals
          go_wp2
          go_ret
          exact ⟨ret_int (by rw [HF.out]; omega), rfl⟩
/-- tick.Pause. -/
theorem paT (b m t : Int) (w : World) : Calls Try.prog 14 #[.int .i64 b, .int .i64 m, .int .i64 t] w fun e w' => e = .returned (.int .i64 (pa b m t)) ∧ w = w' := by
  have h3 := cl_lo m
  have h4 := cl_hi m
  have g1 := cl_lo (dbl b (tr t 41))
  have HP : ∀ n : Nat, n ≤ 41 → wrap64 (2 ^ n) = 2 ^ n := fun n hn => by
    have a1 : 2 ^ n ≤ 2 ^ 41 := Nat.pow_le_pow_right (by omega) hn
    have a2 : (0 : Int) ≤ 2 ^ n := Int.pow_nonneg (by omega)
    have a3 : (2 : Int) ^ n = ((2 ^ n : Nat) : Int) := by simp
    exact IntWalk.wrap64_in _ ⟨by omega, by omega⟩
  have HM : ∀ n : Nat, n = tr t 41 → min (mu b (2 ^ n)) (cl m) = pa b m t := fun n hn => by
    rw [mu_pow, hn, dbl_tr]; rfl
  by_cases t0 : t < 0
  · have H0 := HM 0 (by unfold tr; omega)
    rw [show (2 : Int) ^ 0 = 1 by decide] at H0
    have HF := Lib.hid H0
    clear H0
    clear HM HP
    go_enter Try.func14, Try.ntmps14
    go_wp2_with (first | (go_at_call 16; refine (lenT _).mono ?_; rintro e w' ⟨rfl, rfl⟩) | (go_at_call 11; refine (mulT _ _ _).mono ?_; rintro e w' ⟨rfl, rfl⟩) | (go_at_call 9; refine (clT _ _).mono ?_; rintro e w' ⟨rfl, rfl⟩))
    all_goals
      go_ret
      exact ⟨ret_int (by rw [← HF.out]; omega), rfl⟩
  · by_cases t1 : 41 < t
    · have H0 := HM 41 (by unfold tr; omega)
      rw [show (2 : Int) ^ 41 = 2199023255552 by decide] at H0
      have HF := Lib.hid H0
      clear H0
      clear HM HP
      go_enter Try.func14, Try.ntmps14
      go_wp2_with (first | (go_at_call 16; refine (lenT _).mono ?_; rintro e w' ⟨rfl, rfl⟩) | (go_at_call 11; refine (mulT _ _ _).mono ?_; rintro e w' ⟨rfl, rfl⟩) | (go_at_call 9; refine (clT _ _).mono ?_; rintro e w' ⟨rfl, rfl⟩))
      all_goals
        go_ret
        exact ⟨ret_int (by rw [← HF.out]; omega), rfl⟩
    · have H0 := HM t.toNat (by unfold tr; omega)
      rw [← HP t.toNat (by omega)] at H0
      have HF := Lib.hid H0
      clear H0
      clear HM HP
      go_enter Try.func14, Try.ntmps14
      go_wp2_with (first | (go_at_call 16; refine (lenT _).mono ?_; rintro e w' ⟨rfl, rfl⟩) | (go_at_call 11; refine (mulT _ _ _).mono ?_; rintro e w' ⟨rfl, rfl⟩) | (go_at_call 9; refine (clT _ _).mono ?_; rintro e w' ⟨rfl, rfl⟩))
      all_goals
        go_ret
        exact ⟨ret_int (by rw [← HF.out]; omega), rfl⟩
theorem add1 (w : World) : Calls Try.prog 10 #[.int .i64 1099511627776, .int .i64 1] w fun e w' => e = .returned (.int .i64 1099511627776) ∧ w = w' :=
  (addT _ _ _).mono fun _ _ ⟨h, hw⟩ => ⟨by rw [h]; exact ret_int (by decide), hw⟩
theorem mul1 (w : World) : Calls Try.prog 11 #[.int .i64 6, .int .i64 7] w fun e w' => e = .returned (.int .i64 42) ∧ w = w' :=
  (mulT _ _ _).mono fun _ _ ⟨h, hw⟩ => ⟨by rw [h]; exact ret_int (by decide), hw⟩
theorem pa1 (w : World) : Calls Try.prog 14 #[.int .i64 3, .int .i64 100, .int .i64 4] w fun e w' => e = .returned (.int .i64 48) ∧ w = w' :=
  (paT _ _ _ _).mono fun _ _ ⟨h, hw⟩ => ⟨by rw [h]; exact ret_int (by decide), hw⟩
theorem late1 (w : World) : Calls Try.prog 13 #[.int .i64 5, .int .i64 5] w fun e w' => e = .returned (.bool true) ∧ w = w' :=
  (lateT _ _ _).mono fun _ _ ⟨h, hw⟩ => ⟨h, hw⟩
theorem late2 (w : World) : Calls Try.prog 13 #[.int .i64 4, .int .i64 5] w fun e w' => e = .returned (.bool false) ∧ w = w' :=
  (lateT _ _ _).mono fun _ _ ⟨h, hw⟩ => ⟨h, hw⟩
/-- What a program that does nothing does not answer. -/
theorem ans (w : World) : Calls Try.prog 8 #[] w fun e w' => e = .returned (.bool true) ∧ w = w' := by
  go_enter Try.func8, Try.ntmps8
  go_wp2_with (first | (go_at_call 10; ((with_reducible refine (add1 _).mono ?_); rintro e w' ⟨rfl, rfl⟩)) | (go_at_call 11; ((with_reducible refine (mul1 _).mono ?_); rintro e w' ⟨rfl, rfl⟩)) | (go_at_call 14; ((with_reducible refine (pa1 _).mono ?_); rintro e w' ⟨rfl, rfl⟩)) | (go_at_call 13; ((with_reducible refine (late1 _).mono ?_); rintro e w' ⟨rfl, rfl⟩)) | (go_at_call 13; ((with_reducible refine (late2 _).mono ?_); rintro e w' ⟨rfl, rfl⟩)))
  go_ret
  exact ⟨rfl, rfl⟩
end Go.Proofs.Ytkaiahlamgbfdaa.Tw
