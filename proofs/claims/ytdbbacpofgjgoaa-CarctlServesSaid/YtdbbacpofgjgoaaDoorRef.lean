/-
  The walks of the reference's doors (layer 8).
  Conditions: where a door's place is counted, it is from 0 to 1000.
-/
import Derived.Test.YtdbbacpofgjgoaaDoorW
namespace Go.Proofs.Ytdbbacpofgjgoaa.Do
set_option linter.unusedVariables false
set_option linter.unusedSimpArgs false
open Go.RowKit Go.Proofs.Ytdbbacpofgjgoaa.Ba
theorem goodR (s a t : Int) (w : World) : Calls Try.prog 47 #[.agg #[.int .i64 s, .int .i64 a], .int .i64 t] w fun e w' => e = .returned (.bool (gd s a t)) ∧ Since w w' := by
  have l1 := hd_lo t
  go_enter Try.func47, Try.ntmps47
  go_wp2_with (first | (go_at_call 70; refine (spanR _ _).mono ?_; rintro e w' ⟨rfl, rfl⟩))
  all_goals
    go_ret
    exact ⟨ret_bool (by unfold gd; rw [Bool.eq_iff_iff]; simp <;> omega), (by repeat (first | exact Since.refl _ | assumption | refine Since.setCell ?_ (by first | (simp; done) | (simp; omega)) _ | refine Since.drew ?_ | refine Since.drewN ?_ _ | refine Since.alloc ?_ _ | refine Since.trans ?_ (by assumption) | refine Since.trans ?_ (Hid.out (by assumption))))⟩
theorem doorR (s a t : Int) (b : Bool) (ha : 0 ≤ a) (ha2 : a ≤ 1000) (w : World) : Calls Try.prog 53 #[.agg #[.int .i64 s, .int .i64 a], .int .i64 t, .bool b] w fun e w' => e = .returned (.agg #[.int .i64 (tS s a t b), .int .i64 (tA s a t b)]) ∧ Since w w' := by
  have l1 := hd_lo t
  by_cases h1 : s = 1
  · subst h1
    by_cases hl : hd t ≤ a + 1
    · have HS := Lib.hid (show tS 1 a t b = 2 by rw [tS_1]; unfold pS; rw [if_pos hl])
      have HA := Lib.hid (show tA 1 a t b = hd t by rw [tA_1]; unfold pA; rw [if_pos hl])
      go_enter Try.func53, Try.ntmps53
      go_wp2_with (first | (go_at_call 70; refine (spanR _ _).mono ?_; rintro e w' ⟨rfl, rfl⟩))
      exact bodyPost_ret (v := .agg #[.int .i64 2, .int .i64 (hd t)]) (by simp [results, Try.results53, go_sem]) rfl ⟨by rw [HS.out, HA.out], (by repeat (first | exact Since.refl _ | assumption | refine Since.setCell ?_ (by first | (simp; done) | (simp; omega)) _ | refine Since.drew ?_ | refine Since.drewN ?_ _ | refine Since.alloc ?_ _ | refine Since.trans ?_ (by assumption) | refine Since.trans ?_ (Hid.out (by assumption))))⟩
    · have HS := Lib.hid (show tS 1 a t b = 1 by rw [tS_1]; unfold pS; rw [if_neg hl])
      have HA := Lib.hid (show tA 1 a t b = a + 1 by rw [tA_1]; unfold pA; rw [if_neg hl])
      go_enter Try.func53, Try.ntmps53
      go_wp2_with (first | (go_at_call 70; refine (spanR _ _).mono ?_; rintro e w' ⟨rfl, rfl⟩))
      exact bodyPost_ret (v := .agg #[.int .i64 1, .int .i64 (a + 1)]) (by simp [results, Try.results53, go_sem]) rfl ⟨by rw [HS.out, HA.out], (by repeat (first | exact Since.refl _ | assumption | refine Since.setCell ?_ (by first | (simp; done) | (simp; omega)) _ | refine Since.drew ?_ | refine Since.drewN ?_ _ | refine Since.alloc ?_ _ | refine Since.trans ?_ (by assumption) | refine Since.trans ?_ (Hid.out (by assumption))))⟩
  · have h1' : (s == 1) = false := by simpa using h1
    by_cases h3 : s = 3
    · subst h3
      cases b
      · by_cases hl : a ≤ 1
        · have HS := Lib.hid (show tS 3 a t false = 0 by rw [tS_3]; unfold qS; rw [if_pos hl])
          have HA := Lib.hid (show tA 3 a t false = 0 by rw [tA_3]; unfold qA; rw [if_pos hl])
          go_enter Try.func53, Try.ntmps53
          go_wp2_with (first | (go_at_call 70; refine (spanR _ _).mono ?_; rintro e w' ⟨rfl, rfl⟩))
          exact bodyPost_ret (v := .agg #[.int .i64 0, .int .i64 0]) (by simp [results, Try.results53, go_sem]) rfl ⟨by rw [HS.out, HA.out], (by repeat (first | exact Since.refl _ | assumption | refine Since.setCell ?_ (by first | (simp; done) | (simp; omega)) _ | refine Since.drew ?_ | refine Since.drewN ?_ _ | refine Since.alloc ?_ _ | refine Since.trans ?_ (by assumption) | refine Since.trans ?_ (Hid.out (by assumption))))⟩
        · have HS := Lib.hid (show tS 3 a t false = 3 by rw [tS_3]; unfold qS; rw [if_neg hl])
          have HA := Lib.hid (show tA 3 a t false = a - 1 by rw [tA_3]; unfold qA; rw [if_neg hl])
          go_enter Try.func53, Try.ntmps53
          go_wp2_with (first | (go_at_call 70; refine (spanR _ _).mono ?_; rintro e w' ⟨rfl, rfl⟩))
          exact bodyPost_ret (v := .agg #[.int .i64 3, .int .i64 (a - 1)]) (by simp [results, Try.results53, go_sem]) rfl ⟨by rw [HS.out, HA.out], (by repeat (first | exact Since.refl _ | assumption | refine Since.setCell ?_ (by first | (simp; done) | (simp; omega)) _ | refine Since.drew ?_ | refine Since.drewN ?_ _ | refine Since.alloc ?_ _ | refine Since.trans ?_ (by assumption) | refine Since.trans ?_ (Hid.out (by assumption))))⟩
      · have HS := Lib.hid (show tS 3 a t true = 1 by rw [tS_b]; unfold oS; rfl)
        have HA := Lib.hid (tA_b a t)
        go_enter Try.func53, Try.ntmps53
        go_wp2_with (first | (go_at_call 70; refine (spanR _ _).mono ?_; rintro e w' ⟨rfl, rfl⟩))
        exact bodyPost_ret (v := .agg #[.int .i64 1, .int .i64 a]) (by simp [results, Try.results53, go_sem]) rfl ⟨by rw [HS.out, HA.out], (by repeat (first | exact Since.refl _ | assumption | refine Since.setCell ?_ (by first | (simp; done) | (simp; omega)) _ | refine Since.drew ?_ | refine Since.drewN ?_ _ | refine Since.alloc ?_ _ | refine Since.trans ?_ (by assumption) | refine Since.trans ?_ (Hid.out (by assumption))))⟩
    · have h3' : (s == 3) = false := by simpa using h3
      have HS := Lib.hid (tS_o s a t b h1 h3)
      have HA := Lib.hid (tA_o s a t b h1 h3)
      go_enter Try.func53, Try.ntmps53
      go_wp2_with (first | (go_at_call 70; refine (spanR _ _).mono ?_; rintro e w' ⟨rfl, rfl⟩))
      exact bodyPost_ret (v := .agg #[.int .i64 s, .int .i64 a]) (by simp [results, Try.results53, go_sem]) rfl ⟨by rw [HS.out, HA.out], (by repeat (first | exact Since.refl _ | assumption | refine Since.setCell ?_ (by first | (simp; done) | (simp; omega)) _ | refine Since.drew ?_ | refine Since.drewN ?_ _ | refine Since.alloc ?_ _ | refine Since.trans ?_ (by assumption) | refine Since.trans ?_ (Hid.out (by assumption))))⟩
end Go.Proofs.Ytdbbacpofgjgoaa.Do
