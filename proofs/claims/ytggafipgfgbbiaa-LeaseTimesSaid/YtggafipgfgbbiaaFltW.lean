/-
  The walks of layer 17 (fleet).
  No condition.
-/
import Derived.Test.YtggafipgfgbbiaaMotW
import Derived.Test.YtggafipgfgbbiaaCellW
import Derived.Test.YtggafipgfgbbiaaTyp
import Derived.Test.YtggafipgfgbbiaaLoc
namespace Go.Proofs.Ytggafipgfgbbiaa.Fl
set_option linter.unusedVariables false
set_option linter.unusedSimpArgs false
open Go.RowKit Go.Proofs.Ytggafipgfgbbiaa.Ba Go.Proofs.Ytggafipgfgbbiaa.Mo Go.Proofs.Ytggafipgfgbbiaa.Ty
open Go.Proofs.Ytggafipgfgbbiaa.Ce (ms massT)
set_option maxRecDepth 100000
/-- Within bounds. -/
def btw (n lo hi : Int) : Int := if n < lo then lo else if hi < n then hi else n
theorem btw_lo (n lo hi : Int) (h : lo ≤ hi) : lo ≤ btw n lo hi := by unfold btw; repeat' split <;> omega
theorem btw_hi (n lo hi : Int) (h : lo ≤ hi) : btw n lo hi ≤ hi := by unfold btw; repeat' split <;> omega
theorem betweenT (n lo hi : Int) (h : lo ≤ hi) (w : World) : Calls Try.prog 62 #[.int .i64 n, .int .i64 lo, .int .i64 hi] w fun e w' => e = .returned (.int .i64 (btw n lo hi)) ∧ w = w' := by
  by_cases h0 : n < lo
  · go_enter Try.func62, Try.ntmps62
    go_wp2
    all_goals
      go_ret
      exact ⟨ret_int (by unfold btw; repeat' split <;> omega), rfl⟩
  · by_cases h1 : hi < n
    · go_enter Try.func62, Try.ntmps62
      go_wp2
      all_goals
        go_ret
        exact ⟨ret_int (by unfold btw; repeat' split <;> omega), rfl⟩
    · go_enter Try.func62, Try.ntmps62
      go_wp2
      all_goals
        go_ret
        exact ⟨ret_int (by unfold btw; repeat' split <;> omega), rfl⟩
theorem quotaT (c : CfgV) (w : World) : Calls Try.prog 17 #[.agg #[.int .i64 c.ca, .int .i64 c.fl, .int .i64 c.ft, .int .i64 c.se, .int .i64 c.dr, .int .i64 c.dw, .int .i64 c.ho, .int .i64 c.re, .int .i64 c.yi, .int .i64 c.qu, .int .i64 c.qo, .int .i64 c.lo, .int .i64 c.sl, .int .i64 c.rt, .int .i64 c.cp, .int .i64 c.tr, .int .i64 c.de, .int .i64 c.wi]] w fun e w' => e = .returned (.int .i64 (btw c.qo 1 8)) ∧ Since w w' := by
  go_enter Try.func17, Try.ntmps17
  go_wp2_with (first | (go_at_call 62; refine (betweenT _ _ _ (by omega) _).mono ?_; rintro e w' ⟨rfl, rfl⟩))
  go_ret
  exact ⟨rfl, (by repeat (first | exact Since.refl _ | assumption | refine Since.setCell ?_ (by first | (simp; done) | (simp; omega)) _ | refine Since.drew ?_ | refine Since.drewN ?_ _ | refine Since.alloc ?_ _ | refine Since.trans ?_ (by assumption) | refine Since.trans ?_ (Hid.out (by assumption))))⟩
/-- One of so many numbers, from 0 on. -/
def belB (n m : Int) : Bool := decide (0 ≤ n ∧ n < m)
theorem belowT (n m : Int) (w : World) : Calls Try.prog 65 #[.int .i64 n, .int .i64 m] w fun e w' => e = .returned (.bool (belB n m)) ∧ w = w' := by
  go_enter Try.func65, Try.ntmps65
  go_wp2
  all_goals
    go_ret
    exact ⟨ret_bool (by unfold belB; rw [Bool.eq_iff_iff]; simp <;> omega), rfl⟩
def mayB (c : CfgV) (a : AskV) : Bool := belB a.se (btw c.se 1 64) && belB a.fl (btw c.ft 1 8) && belB a.fm (fl c.fl) && belB a.to (fl c.fl) && (a.fm != a.to) && decide (1 ≤ a.ma) && decide (a.ma ≤ ms c.lo)
set_option maxHeartbeats 4000000 in
theorem mayT (c : CfgV) (a : AskV) (w : World) : Calls Try.prog 22 #[.agg #[.int .i64 c.ca, .int .i64 c.fl, .int .i64 c.ft, .int .i64 c.se, .int .i64 c.dr, .int .i64 c.dw, .int .i64 c.ho, .int .i64 c.re, .int .i64 c.yi, .int .i64 c.qu, .int .i64 c.qo, .int .i64 c.lo, .int .i64 c.sl, .int .i64 c.rt, .int .i64 c.cp, .int .i64 c.tr, .int .i64 c.de, .int .i64 c.wi], .agg #[.int .i64 a.se, .int .i64 a.fl, .int .i64 a.fm, .int .i64 a.to, .int .i64 a.ma]] w fun e w' => e = .returned (.bool (mayB c a)) ∧ Since w w' := by
  cases h0 : belB a.se (btw c.se 1 64)
  · have H0 := Lib.hid h0
    go_enter Try.func22, Try.ntmps22
    go_wp2_with fail
    refine (floorsT _ _).mono ?_
    rintro e w' ⟨rfl, rfl⟩
    go_wp2_with fail
    go_quiet ((first | (go_at_call 62; exact quiet_eq (betweenT _ _ _ (by omega) _)) | (go_at_call 65; exact quiet_eq (belowT _ _ _)) | (go_at_call 66; exact quiet_eq (massT _ _))))
    go_wp2
    go_ret
    exact ⟨ret_bool (by unfold mayB; rw [H0.out]; simp), (by repeat (first | exact Since.refl _ | assumption | refine Since.setCell ?_ (by first | (simp; done) | (simp; omega)) _ | refine Since.drew ?_ | refine Since.drewN ?_ _ | refine Since.alloc ?_ _ | refine Since.trans ?_ (by assumption) | refine Since.trans ?_ (Hid.out (by assumption))))⟩
  · have H0 := Lib.hid h0
    cases h1 : belB a.fl (btw c.ft 1 8)
    · have H1 := Lib.hid h1
      go_enter Try.func22, Try.ntmps22
      go_wp2_with fail
      refine (floorsT _ _).mono ?_
      rintro e w' ⟨rfl, rfl⟩
      go_wp2_with fail
      go_quiet ((first | (go_at_call 62; exact quiet_eq (betweenT _ _ _ (by omega) _)) | (go_at_call 65; exact quiet_eq (belowT _ _ _)) | (go_at_call 66; exact quiet_eq (massT _ _))))
      go_wp2
      go_ret
      exact ⟨ret_bool (by unfold mayB; rw [H0.out, H1.out]; simp), (by repeat (first | exact Since.refl _ | assumption | refine Since.setCell ?_ (by first | (simp; done) | (simp; omega)) _ | refine Since.drew ?_ | refine Since.drewN ?_ _ | refine Since.alloc ?_ _ | refine Since.trans ?_ (by assumption) | refine Since.trans ?_ (Hid.out (by assumption))))⟩
    · have H1 := Lib.hid h1
      cases h2 : belB a.fm (fl c.fl)
      · have H2 := Lib.hid h2
        go_enter Try.func22, Try.ntmps22
        go_wp2_with fail
        refine (floorsT _ _).mono ?_
        rintro e w' ⟨rfl, rfl⟩
        go_wp2_with fail
        go_quiet ((first | (go_at_call 62; exact quiet_eq (betweenT _ _ _ (by omega) _)) | (go_at_call 65; exact quiet_eq (belowT _ _ _)) | (go_at_call 66; exact quiet_eq (massT _ _))))
        go_wp2
        go_ret
        exact ⟨ret_bool (by unfold mayB; rw [H0.out, H1.out, H2.out]; simp), (by repeat (first | exact Since.refl _ | assumption | refine Since.setCell ?_ (by first | (simp; done) | (simp; omega)) _ | refine Since.drew ?_ | refine Since.drewN ?_ _ | refine Since.alloc ?_ _ | refine Since.trans ?_ (by assumption) | refine Since.trans ?_ (Hid.out (by assumption))))⟩
      · have H2 := Lib.hid h2
        cases h3 : belB a.to (fl c.fl)
        · have H3 := Lib.hid h3
          go_enter Try.func22, Try.ntmps22
          go_wp2_with fail
          refine (floorsT _ _).mono ?_
          rintro e w' ⟨rfl, rfl⟩
          go_wp2_with fail
          go_quiet ((first | (go_at_call 62; exact quiet_eq (betweenT _ _ _ (by omega) _)) | (go_at_call 65; exact quiet_eq (belowT _ _ _)) | (go_at_call 66; exact quiet_eq (massT _ _))))
          go_wp2
          go_ret
          exact ⟨ret_bool (by unfold mayB; rw [H0.out, H1.out, H2.out, H3.out]; simp), (by repeat (first | exact Since.refl _ | assumption | refine Since.setCell ?_ (by first | (simp; done) | (simp; omega)) _ | refine Since.drew ?_ | refine Since.drewN ?_ _ | refine Since.alloc ?_ _ | refine Since.trans ?_ (by assumption) | refine Since.trans ?_ (Hid.out (by assumption))))⟩
        · have H3 := Lib.hid h3
          cases h4 : (a.fm != a.to)
          · have H4 := Lib.hid h4
            go_enter Try.func22, Try.ntmps22
            go_wp2_with fail
            refine (floorsT _ _).mono ?_
            rintro e w' ⟨rfl, rfl⟩
            go_wp2_with fail
            go_quiet ((first | (go_at_call 62; exact quiet_eq (betweenT _ _ _ (by omega) _)) | (go_at_call 65; exact quiet_eq (belowT _ _ _)) | (go_at_call 66; exact quiet_eq (massT _ _))))
            go_wp2
            go_ret
            exact ⟨ret_bool (by unfold mayB; rw [H0.out, H1.out, H2.out, H3.out, H4.out]; simp), (by repeat (first | exact Since.refl _ | assumption | refine Since.setCell ?_ (by first | (simp; done) | (simp; omega)) _ | refine Since.drew ?_ | refine Since.drewN ?_ _ | refine Since.alloc ?_ _ | refine Since.trans ?_ (by assumption) | refine Since.trans ?_ (Hid.out (by assumption))))⟩
          · have H4 := Lib.hid h4
            cases h5 : decide (1 ≤ a.ma)
            · have H5 := Lib.hid h5
              go_enter Try.func22, Try.ntmps22
              go_wp2_with fail
              refine (floorsT _ _).mono ?_
              rintro e w' ⟨rfl, rfl⟩
              go_wp2_with fail
              go_quiet ((first | (go_at_call 62; exact quiet_eq (betweenT _ _ _ (by omega) _)) | (go_at_call 65; exact quiet_eq (belowT _ _ _)) | (go_at_call 66; exact quiet_eq (massT _ _))))
              go_wp2
              go_ret
              exact ⟨ret_bool (by unfold mayB; rw [H0.out, H1.out, H2.out, H3.out, H4.out, H5.out]; simp), (by repeat (first | exact Since.refl _ | assumption | refine Since.setCell ?_ (by first | (simp; done) | (simp; omega)) _ | refine Since.drew ?_ | refine Since.drewN ?_ _ | refine Since.alloc ?_ _ | refine Since.trans ?_ (by assumption) | refine Since.trans ?_ (Hid.out (by assumption))))⟩
            · have H5 := Lib.hid h5
              go_enter Try.func22, Try.ntmps22
              go_wp2_with fail
              refine (floorsT _ _).mono ?_
              rintro e w' ⟨rfl, rfl⟩
              go_wp2_with fail
              go_quiet ((first | (go_at_call 62; exact quiet_eq (betweenT _ _ _ (by omega) _)) | (go_at_call 65; exact quiet_eq (belowT _ _ _)) | (go_at_call 66; exact quiet_eq (massT _ _))))
              go_wp2
              go_ret
              exact ⟨ret_bool (by unfold mayB; rw [H0.out, H1.out, H2.out, H3.out, H4.out, H5.out]; simp), (by repeat (first | exact Since.refl _ | assumption | refine Since.setCell ?_ (by first | (simp; done) | (simp; omega)) _ | refine Since.drew ?_ | refine Since.drewN ?_ _ | refine Since.alloc ?_ _ | refine Since.trans ?_ (by assumption) | refine Since.trans ?_ (Hid.out (by assumption))))⟩
end Go.Proofs.Ytggafipgfgbbiaa.Fl
