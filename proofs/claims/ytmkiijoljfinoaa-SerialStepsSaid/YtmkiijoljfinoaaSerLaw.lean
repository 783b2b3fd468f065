/-
  The laws of layer 5 (serial), walked: each answers true.
  Conditions: each argument fits its kind.
-/
import Derived.Test.YtmkiijoljfinoaaSerW
namespace Go.Proofs.Ytmkiijoljfinoaa.Se
open Go.RowKit Go.Proofs.Ytmkiijoljfinoaa.Ba
theorem modL (n : Int) (hn : -9223372036854775808 ≤ n) (hn2 : n ≤ 9223372036854775807) (w : World) : Calls Try.prog 13 #[.int .i64 n] w fun e w' => e = .returned (.int .i64 (md n)) ∧ w = w' := by
  have tk := tmod_k n 65536
  have t1 : -65535 ≤ n.tmod 65536 := by rw [tk]; split <;> omega
  have t2 : n.tmod 65536 ≤ 65535 := by rw [tk]; split <;> omega
  have TK := Lib.hid tk
  clear tk
  clear hn hn2
  go_enter Try.func13, Try.ntmps13
  go_wp2
  all_goals
    have tk' := TK.out
    go_ret
    refine ⟨ret_int ?_, rfl⟩
    unfold md
    revert tk'
    split <;> omega
theorem ans (w : World) : Calls Try.prog 11 #[] w fun e w' => e = .returned (.bool true) ∧ w = w' := by
  have m1 : (nx 65535 == 0) = true := by decide
  have m2 : (nx 4 == 5) = true := by decide
  have m3 : (ne 65535 1 == 2) = true := by decide
  have m4 : decide (0 < ne 3 4) = true := by decide
  have m5 : decide (0 < ne 4 3) = false := by decide
  go_enter Try.func11, Try.ntmps11
  go_wp2_with (first | (go_at_call 15; refine (nextT _ _).mono ?_; rintro e w' ⟨rfl, rfl⟩) | (go_at_call 10; refine (nearT _ _ _).mono ?_; rintro e w' ⟨rfl, rfl⟩) | (go_at_call 14; refine (newerT _ _ _).mono ?_; rintro e w' ⟨rfl, rfl⟩))
  go_ret
  exact ⟨rfl, rfl⟩
theorem near (a b : Int) (w : World) (wa : (Lit.int .i64 a).wf = true) (wb : (Lit.int .i64 b).wf = true) :
    Calls Try.prog 3 #[.int .i64 a, .int .i64 b] w fun e w' => e = .returned (.bool true) ∧ Below w.heap.size w w' := by
  have ⟨ba1, ba2⟩ := bounds_i64 wa
  have ⟨bb1, bb2⟩ := bounds_i64 wb
  have m1 := md_lo a
  have m2 := md_hi a
  have m3 := md_lo b
  have m4 := md_hi b
  have n1 := ne_lo a b
  have n2 := ne_hi a b
  have e1 : (ne a b == ne (md a) (md b)) = true := by rw [ne_md]; simp
  have e2 : decide (-32768 ≤ ne a b) = true := by simpa using n1
  have e3 : decide (ne a b ≤ 32767) = true := by simpa using n2
  have e4 : (md (md a + ne a b) == md b) = true := by rw [back]; simp
  have e5 : (nx a == md (md a + 1)) = true := by rw [nx_md]; simp
  clear wa wb
  by_cases hp : 0 < ne a b
  · have hp' : decide (0 < ne a b) = true := by simpa using hp
    go_enter Try.func3, Try.ntmps3
    go_wp2_with (first | (go_at_call 15; refine (nextT _ _).mono ?_; rintro e w' ⟨rfl, rfl⟩) | (go_at_call 10; refine (nearT _ _ _).mono ?_; rintro e w' ⟨rfl, rfl⟩) | (go_at_call 14; refine (newerT _ _ _).mono ?_; rintro e w' ⟨rfl, rfl⟩) | (go_at_call 11; refine (ans _).mono ?_; rintro e w' ⟨rfl, rfl⟩) | (go_at_call 13; refine (modL _ (by omega) (by omega) _).mono ?_; rintro e w' ⟨rfl, rfl⟩) | (go_at_call 12; refine (nearR _ _ (by omega) (by omega) _).mono ?_; rintro e w' ⟨rfl, rfl⟩))
    go_ret
    exact ⟨rfl, by repeat (first | exact Below.refl _ _ | apply Below.drew)⟩
  · have hp' : decide (0 < ne a b) = false := by simpa using hp
    go_enter Try.func3, Try.ntmps3
    go_wp2_with (first | (go_at_call 15; refine (nextT _ _).mono ?_; rintro e w' ⟨rfl, rfl⟩) | (go_at_call 10; refine (nearT _ _ _).mono ?_; rintro e w' ⟨rfl, rfl⟩) | (go_at_call 14; refine (newerT _ _ _).mono ?_; rintro e w' ⟨rfl, rfl⟩) | (go_at_call 11; refine (ans _).mono ?_; rintro e w' ⟨rfl, rfl⟩) | (go_at_call 13; refine (modL _ (by omega) (by omega) _).mono ?_; rintro e w' ⟨rfl, rfl⟩) | (go_at_call 12; refine (nearR _ _ (by omega) (by omega) _).mono ?_; rintro e w' ⟨rfl, rfl⟩))
    go_ret
    exact ⟨rfl, by repeat (first | exact Below.refl _ _ | apply Below.drew)⟩
theorem steps (a n : Int) (w : World) (wa : (Lit.int .i64 a).wf = true) (wn : (Lit.int .u16 n).wf = true) :
    Calls Try.prog 4 #[.int .i64 a, .int .u16 n] w fun e w' => e = .returned (.bool true) ∧ Below w.heap.size w w' := by
  have ⟨ba1, ba2⟩ := bounds_i64 wa
  have ⟨bn1, bn2⟩ := bounds_u16 wn
  clear wa wn
  obtain ⟨N, rfl⟩ := Int.eq_ofNat_of_zero_le bn1
  go_enter Try.func4, Try.ntmps4
  go_wp2
  go_loop [5, 6] (fun b i => ∃ k : Nat, k ≤ N % 3000 ∧ b = .int .i64 (st a k) ∧ i = .int .i64 k) (fun _ i => 3000 - (intOf i).toNat)
  case atStart => exact ⟨0, Nat.zero_le _, rfl, rfl⟩
  case round =>
    obtain ⟨k, hk, rfl, rfl⟩ := hrel
    have hk3 : k < 3000 := by omega
    by_cases hlt : k < N % 3000
    · have hlt' : (k : Int) < (N : Int) % 3000 := by omega
      go_wp2_with (first | (go_at_call 15; refine (nextT _ _).mono ?_; rintro e w' ⟨rfl, rfl⟩))
      go_round
      case rel => exact ⟨k + 1, hlt, rfl, by go_num⟩
      case measure => simp [intOf]; omega
    · have hge : (N : Int) % 3000 ≤ (k : Int) := by omega
      have e : (k : Int) = (N : Int) % 3000 := by omega
      have e1 : (ne a (st a k) == (N : Int) % 3000) = true := by rw [st_ne a k hk3, e]; simp
      have e2 : (ne (st a k) a == -((N : Int) % 3000)) = true := by rw [st_back a k hk3, e]; simp
      have e3 : decide (0 < ne a (st a k)) = decide (0 < (N : Int) % 3000) := by rw [st_ne a k hk3, e]
      by_cases hp : 0 < (N : Int) % 3000
      · have hp' : decide (0 < (N : Int) % 3000) = true := by simpa using hp
        rw [hp'] at e3
        clear e
        go_wp2_with (first | (go_at_call 10; refine (nearT _ _ _).mono ?_; rintro e w' ⟨rfl, rfl⟩) | (go_at_call 14; refine (newerT _ _ _).mono ?_; rintro e w' ⟨rfl, rfl⟩) | (go_at_call 11; refine (ans _).mono ?_; rintro e w' ⟨rfl, rfl⟩))
        go_ret
        exact ⟨rfl, by repeat (first | exact Below.refl _ _ | apply Below.drew)⟩
      · have hp' : decide (0 < (N : Int) % 3000) = false := by simpa using hp
        rw [hp'] at e3
        clear e
        go_wp2_with (first | (go_at_call 10; refine (nearT _ _ _).mono ?_; rintro e w' ⟨rfl, rfl⟩) | (go_at_call 14; refine (newerT _ _ _).mono ?_; rintro e w' ⟨rfl, rfl⟩) | (go_at_call 11; refine (ans _).mono ?_; rintro e w' ⟨rfl, rfl⟩))
        go_ret
        exact ⟨rfl, by repeat (first | exact Below.refl _ _ | apply Below.drew)⟩
end Go.Proofs.Ytmkiijoljfinoaa.Se
