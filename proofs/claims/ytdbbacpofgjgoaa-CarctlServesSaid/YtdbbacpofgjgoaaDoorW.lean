/-
  The walks of layer 8 (door): what each call returns, and that it writes nothing that was there.
  Conditions: where a door's place is counted, it is from 0 to 1000.
-/
import Derived.Test.YtdbbacpofgjgoaaRows
import Derived.Test.YtdbbacpofgjgoaaDoorMath
import Derived.Test.YtdbbacpofgjgoaaBase
namespace Go.Proofs.Ytdbbacpofgjgoaa.Do
set_option linter.unusedVariables false
set_option linter.unusedSimpArgs false
open Go.RowKit Go.Proofs.Ytdbbacpofgjgoaa.Ba
theorem heldT (n : Int) (w : World) : Calls Try.prog 69 #[.int .i64 n] w fun e w' => e = .returned (.int .i64 (hd n)) ∧ w = w' := by
  by_cases h0 : n < 1
  · go_enter Try.func69, Try.ntmps69
    go_wp2
    go_ret
    exact ⟨ret_int (by unfold hd; repeat' split <;> omega), rfl⟩
  · by_cases h1 : 1000 < n
    · go_enter Try.func69, Try.ntmps69
      go_wp2
      go_ret
      exact ⟨ret_int (by unfold hd; repeat' split <;> omega), rfl⟩
    · go_enter Try.func69, Try.ntmps69
      go_wp2
      go_ret
      exact ⟨ret_int (by unfold hd; repeat' split <;> omega), rfl⟩
theorem ret_door {s a s' a' : Int} (h : s = s') (k : a = a') : Value.agg #[Value.int .i64 s, .int .i64 a] = .agg #[.int .i64 s', .int .i64 a'] := by rw [h, k]
theorem goodD (s a t : Int) (w : World) : Calls Try.prog 44 #[.agg #[.int .i64 s, .int .i64 a], .int .i64 t] w fun e w' => e = .returned (.bool (gd s a t)) ∧ Since w w' := by
  have l1 := hd_lo t
  by_cases h0 : s = 0
  · subst h0
    go_enter Try.func44, Try.ntmps44
    go_wp2
    go_ret
    exact ⟨ret_bool (by unfold gd; simp; rw [Bool.eq_iff_iff]; simp), (Since.refl _).alloc _⟩
  · have h0' : (s == 0) = false := by simpa using h0
    by_cases h2 : s = 2
    · subst h2
      go_enter Try.func44, Try.ntmps44
      go_wp2
      go_quiet ((go_at_call 69; exact quiet_eq (heldT _ _)))
      go_wp2
      go_ret
      exact ⟨ret_bool (by unfold gd; rw [Bool.eq_iff_iff]; simp), ((Since.refl _).alloc _).drewN _⟩
    · have h2' : (s == 2) = false := by simpa using h2
      by_cases h1 : s = 1
      · subst h1
        by_cases ha : 0 ≤ a
        · go_enter Try.func44, Try.ntmps44
          go_wp2
          go_quiet ((go_at_call 69; exact quiet_eq (heldT _ _)))
          go_wp2
          go_ret
          exact ⟨ret_bool (by unfold gd; rw [Bool.eq_iff_iff]; simp; omega), ((Since.refl _).alloc _).drewN _⟩
        · have ha' : decide (0 ≤ a) = false := by simpa using ha
          go_enter Try.func44, Try.ntmps44
          go_wp2
          go_quiet (fail)
          go_wp2
          go_ret
          exact ⟨ret_bool (by unfold gd; rw [Bool.eq_iff_iff]; simp; omega), ((Since.refl _).alloc _).drewN _⟩
      · have h1' : (s == 1) = false := by simpa using h1
        by_cases h3 : s = 3
        · subst h3
          by_cases ha : 0 ≤ a
          · go_enter Try.func44, Try.ntmps44
            go_wp2
            go_quiet ((go_at_call 69; exact quiet_eq (heldT _ _)))
            go_wp2
            go_ret
            exact ⟨ret_bool (by unfold gd; rw [Bool.eq_iff_iff]; simp; omega), ((Since.refl _).alloc _).drewN _⟩
          · have ha' : decide (0 ≤ a) = false := by simpa using ha
            go_enter Try.func44, Try.ntmps44
            go_wp2
            go_quiet (fail)
            go_wp2
            go_ret
            exact ⟨ret_bool (by unfold gd; rw [Bool.eq_iff_iff]; simp; omega), ((Since.refl _).alloc _).drewN _⟩
        · have h3' : (s == 3) = false := by simpa using h3
          go_enter Try.func44, Try.ntmps44
          go_wp2
          go_ret
          exact ⟨ret_bool (by unfold gd; rw [Bool.eq_iff_iff]; simp; omega), (Since.refl _).alloc _⟩
/-- The world behind a call that has made its argument's block and its answer's. -/
def two (w : World) (s a : Int) : World := (w.alloc (.cells #[.int .i64 s, .int .i64 a] 25)).alloc (.cells #[.int .i64 s, .int .i64 a] 25)
theorem two_since (w : World) (s a : Int) : Since w (two w s a) := ((Since.refl _).alloc _).alloc _
theorem openX (s a : Int) (w : World) : Calls Try.prog 71 #[.agg #[.int .i64 s, .int .i64 a]] w fun e w' => e = .returned (.agg #[.int .i64 (oS s), .int .i64 a]) ∧ w' = two w (oS s) a := by
  by_cases h0 : s = 0 ∨ s = 3
  · have HE := Lib.hid (show oS s = 1 by unfold oS; rw [if_pos h0])
    rcases h0 with h0 | h0
    all_goals
      subst h0
      go_enter Try.func71, Try.ntmps71
      go_wp2
      exact bodyPost_ret (v := .agg #[.int .i64 1, .int .i64 a]) (by simp [results, Try.results71, go_sem]) rfl ⟨by rw [HE.out], by rw [HE.out]; rfl⟩
  · have HE := Lib.hid (show oS s = s by unfold oS; rw [if_neg h0])
    have h1 : (s == 0) = false := by simp; omega
    have h2 : (s == 3) = false := by simp; omega
    go_enter Try.func71, Try.ntmps71
    go_wp2
    exact bodyPost_ret (v := .agg #[.int .i64 s, .int .i64 a]) (by simp [results, Try.results71, go_sem]) rfl ⟨by rw [HE.out], by rw [HE.out]; rfl⟩
theorem openD (s a : Int) (w : World) : Calls Try.prog 71 #[.agg #[.int .i64 s, .int .i64 a]] w fun e w' => e = .returned (.agg #[.int .i64 (oS s), .int .i64 a]) ∧ Since w w' :=
  (openX s a w).mono fun _ _ ⟨h, k⟩ => ⟨h, by rw [k]; exact two_since _ _ _⟩
theorem closeX (s a : Int) (w : World) : Calls Try.prog 72 #[.agg #[.int .i64 s, .int .i64 a]] w fun e w' => e = .returned (.agg #[.int .i64 (cS s), .int .i64 a]) ∧ w' = two w (cS s) a := by
  by_cases h0 : s = 2 ∨ s = 1
  · have HE := Lib.hid (show cS s = 3 by unfold cS; rw [if_pos (by omega)])
    rcases h0 with h0 | h0
    all_goals
      subst h0
      go_enter Try.func72, Try.ntmps72
      go_wp2
      exact bodyPost_ret (v := .agg #[.int .i64 3, .int .i64 a]) (by simp [results, Try.results72, go_sem]) rfl ⟨by rw [HE.out], by rw [HE.out]; rfl⟩
  · have HE := Lib.hid (show cS s = s by unfold cS; rw [if_neg (by omega)])
    have h1 : (s == 2) = false := by simp; omega
    have h2 : (s == 1) = false := by simp; omega
    go_enter Try.func72, Try.ntmps72
    go_wp2
    exact bodyPost_ret (v := .agg #[.int .i64 s, .int .i64 a]) (by simp [results, Try.results72, go_sem]) rfl ⟨by rw [HE.out], by rw [HE.out]; rfl⟩
theorem closeD (s a : Int) (w : World) : Calls Try.prog 72 #[.agg #[.int .i64 s, .int .i64 a]] w fun e w' => e = .returned (.agg #[.int .i64 (cS s), .int .i64 a]) ∧ Since w w' :=
  (closeX s a w).mono fun _ _ ⟨h, k⟩ => ⟨h, by rw [k]; exact two_since _ _ _⟩
theorem openedD (s a t : Int) (ha : 0 ≤ a) (ha2 : a ≤ 1000) (ht : 1 ≤ t) (w : World) : Calls Try.prog 73 #[.agg #[.int .i64 s, .int .i64 a], .int .i64 t] w fun e w' => e = .returned (.agg #[.int .i64 (pS s a t), .int .i64 (pA a t)]) ∧ Since w w' := by
  rcases Int.lt_trichotomy t (a + 1) with hl | hl | hl
  · have h1 : ((if t < a + 1 then t else a + 1) == t) = true := by rw [if_pos hl]; simp
    have HS := Lib.hid (show pS s a t = 2 by unfold pS; rw [if_pos (by omega)])
    have HA := Lib.hid (show pA a t = t by unfold pA; rw [if_pos (by omega)])
    go_enter Try.func73, Try.ntmps73
    go_wp2
    exact bodyPost_ret (v := .agg #[.int .i64 2, .int .i64 t]) (by simp [results, Try.results73, go_sem]) rfl ⟨by rw [HS.out, HA.out], ((Since.refl _).alloc _).alloc _⟩
  · subst hl
    have HS := Lib.hid (show pS s a (a + 1) = 2 by unfold pS; rw [if_pos (by omega)])
    have HA := Lib.hid (show pA a (a + 1) = a + 1 by unfold pA; rw [if_pos (by omega)])
    go_enter Try.func73, Try.ntmps73
    go_wp2
    exact bodyPost_ret (v := .agg #[.int .i64 2, .int .i64 (a + 1)]) (by simp [results, Try.results73, go_sem]) rfl ⟨by rw [HS.out, HA.out], ((Since.refl _).alloc _).alloc _⟩
  · have h1 : ((a + 1) == t) = false := by simp; omega
    have HS := Lib.hid (show pS s a t = s by unfold pS; rw [if_neg (by omega)])
    have HA := Lib.hid (show pA a t = a + 1 by unfold pA; rw [if_neg (by omega)])
    go_enter Try.func73, Try.ntmps73
    go_wp2
    exact bodyPost_ret (v := .agg #[.int .i64 s, .int .i64 (a + 1)]) (by simp [results, Try.results73, go_sem]) rfl ⟨by rw [HS.out, HA.out], ((Since.refl _).alloc _).alloc _⟩
theorem closedD (s a : Int) (ha : 0 ≤ a) (ha2 : a ≤ 1000) (w : World) : Calls Try.prog 74 #[.agg #[.int .i64 s, .int .i64 a]] w fun e w' => e = .returned (.agg #[.int .i64 (qS s a), .int .i64 (qA a)]) ∧ Since w w' := by
  rcases (show a = 0 ∨ a = 1 ∨ 1 < a by omega) with hl | hl | hl
  · subst hl
    go_enter Try.func74, Try.ntmps74
    go_wp2
    exact bodyPost_ret (v := .agg #[.int .i64 0, .int .i64 0]) (by simp [results, Try.results74, go_sem]) rfl ⟨rfl, ((Since.refl _).alloc _).alloc _⟩
  · subst hl
    go_enter Try.func74, Try.ntmps74
    go_wp2
    exact bodyPost_ret (v := .agg #[.int .i64 0, .int .i64 0]) (by simp [results, Try.results74, go_sem]) rfl ⟨rfl, ((Since.refl _).alloc _).alloc _⟩
  · have h1 : ((a - 1) == 0) = false := by simp; omega
    have HS := Lib.hid (show qS s a = s by unfold qS; rw [if_neg (by omega)])
    have HA := Lib.hid (show qA a = a - 1 by unfold qA; rw [if_neg (by omega)])
    go_enter Try.func74, Try.ntmps74
    go_wp2
    exact bodyPost_ret (v := .agg #[.int .i64 s, .int .i64 (a - 1)]) (by simp [results, Try.results74, go_sem]) rfl ⟨by rw [HS.out, HA.out], ((Since.refl _).alloc _).alloc _⟩
theorem tickD (s a t : Int) (b : Bool) (ha : 0 ≤ a) (ha2 : a ≤ 1000) (w : World) : Calls Try.prog 51 #[.agg #[.int .i64 s, .int .i64 a], .int .i64 t, .bool b] w fun e w' => e = .returned (.agg #[.int .i64 (tS s a t b), .int .i64 (tA s a t b)]) ∧ Since w w' := by
  have l1 := hd_lo t
  by_cases h1 : s = 1
  · subst h1
    have HS := Lib.hid (tS_1 a t b)
    have HA := Lib.hid (tA_1 a t b)
    go_enter Try.func51, Try.ntmps51
    go_wp2
    go_region_with (first | (go_at_call 69; refine (heldT _ _).mono ?_; rintro e w' ⟨rfl, rfl⟩) | (go_at_call 73; refine (openedD _ _ _ (by assumption) (by assumption) (by assumption) _).mono ?_; rintro e w1 ⟨rfl, hb1⟩; obtain ⟨hc1, hf1⟩ := hb1.cf))
    all_goals go_wp2
    all_goals exact bodyPost_ret (v := .agg #[.int .i64 (pS 1 a (hd t)), .int .i64 (pA a (hd t))]) (by simp [results, Try.results51, go_sem, hc1]) rfl ⟨by rw [HS.out, HA.out], (by repeat (first | exact Since.refl _ | assumption | refine Since.setCell ?_ (by first | (simp; done) | (simp; omega)) _ | refine Since.drew ?_ | refine Since.drewN ?_ _ | refine Since.alloc ?_ _ | refine Since.trans ?_ (by assumption) | refine Since.trans ?_ (Hid.out (by assumption))))⟩
  · have h1' : (s == 1) = false := by simpa using h1
    by_cases h3 : s = 3
    · subst h3
      cases b
      · have HS := Lib.hid (tS_3 a t)
        have HA := Lib.hid (tA_3 a t)
        go_enter Try.func51, Try.ntmps51
        go_wp2_with (first | (go_at_call 74; refine (closedD _ _ (by assumption) (by assumption) _).mono ?_; rintro e w1 ⟨rfl, hb1⟩; obtain ⟨hc1, hf1⟩ := hb1.cf))
        exact bodyPost_ret (v := .agg #[.int .i64 (qS 3 a), .int .i64 (qA a)]) (by simp [results, Try.results51, go_sem, hc1]) rfl ⟨by rw [HS.out, HA.out], (by repeat (first | exact Since.refl _ | assumption | refine Since.setCell ?_ (by first | (simp; done) | (simp; omega)) _ | refine Since.drew ?_ | refine Since.drewN ?_ _ | refine Since.alloc ?_ _ | refine Since.trans ?_ (by assumption) | refine Since.trans ?_ (Hid.out (by assumption))))⟩
      · have HS := Lib.hid (tS_b a t)
        have HA := Lib.hid (tA_b a t)
        go_enter Try.func51, Try.ntmps51
        go_wp2_with (first | (go_at_call 71; refine (openD _ _ _).mono ?_; rintro e w1 ⟨rfl, hb1⟩; obtain ⟨hc1, hf1⟩ := hb1.cf))
        exact bodyPost_ret (v := .agg #[.int .i64 (oS 3), .int .i64 a]) (by simp [results, Try.results51, go_sem, hc1]) rfl ⟨by rw [HS.out, HA.out], (by repeat (first | exact Since.refl _ | assumption | refine Since.setCell ?_ (by first | (simp; done) | (simp; omega)) _ | refine Since.drew ?_ | refine Since.drewN ?_ _ | refine Since.alloc ?_ _ | refine Since.trans ?_ (by assumption) | refine Since.trans ?_ (Hid.out (by assumption))))⟩
    · have h3' : (s == 3) = false := by simpa using h3
      have HS := Lib.hid (tS_o s a t b h1 h3)
      have HA := Lib.hid (tA_o s a t b h1 h3)
      go_enter Try.func51, Try.ntmps51
      go_wp2
      exact bodyPost_ret (v := .agg #[.int .i64 s, .int .i64 a]) (by simp [results, Try.results51, go_sem]) rfl ⟨by rw [HS.out, HA.out], ((Since.refl _).alloc _).alloc _⟩
theorem spanR (n : Int) (w : World) : Calls Try.prog 70 #[.int .i64 n] w fun e w' => e = .returned (.int .i64 (hd n)) ∧ w = w' := by
  by_cases h0 : n < 1
  · go_enter Try.func70, Try.ntmps70
    go_wp2
    go_ret
    exact ⟨ret_int (by unfold hd; repeat' split <;> omega), rfl⟩
  · by_cases h1 : 1000 < n
    · go_enter Try.func70, Try.ntmps70
      go_wp2
      go_ret
      exact ⟨ret_int (by unfold hd; repeat' split <;> omega), rfl⟩
    · go_enter Try.func70, Try.ntmps70
      go_wp2
      go_ret
      exact ⟨ret_int (by unfold hd; repeat' split <;> omega), rfl⟩
end Go.Proofs.Ytdbbacpofgjgoaa.Do
