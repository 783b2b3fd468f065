/-
  The walks of layer 12 (stops).
  Conditions: the three sets fit 64 bits.
-/
import Derived.Test.YtdbbacpofgjgoaaRows
import Derived.Test.YtdbbacpofgjgoaaStoMath
import Derived.Test.YtdbbacpofgjgoaaBase
import Derived.Test.YtdbbacpofgjgoaaLoc
namespace Go.Proofs.Ytdbbacpofgjgoaa.St
set_option linter.unusedVariables false
set_option linter.unusedSimpArgs false
open Go.RowKit Go.Proofs.Ytdbbacpofgjgoaa.Ba
set_option maxRecDepth 100000
theorem bitT (f : Int) (w : World) : Calls Try.prog 56 #[.int .i64 f] w fun e w' => e = .returned (.int .u64 (bit f)) ∧ w = w' := by
  by_cases h : 0 ≤ f ∧ f < 64
  · obtain ⟨h0, h1⟩ := h
    have hb := (bit_R f)
    have e : IntKind.u64.wrap (2 ^ f.toNat) = bit f := by
      have e1 : bit f = ((2 ^ f.toNat : Nat) : Int) := by unfold bit; rw [if_pos ⟨h0, h1⟩]
      unfold R at hb
      rw [e1] at hb
      rw [IntWalk.u64_in _ (by rw [Int.natCast_pow] at hb; simp at hb; omega), e1]
      simp
    have HE := Lib.hid e
    clear e hb
    go_enter Try.func56, Try.ntmps56
    go_wp2
    go_ret
    exact ⟨ret_int HE.out, rfl⟩
  · have e : bit f = 0 := by unfold bit; rw [if_neg h]
    have HE := Lib.hid e
    clear e
    rcases (show f < 0 ∨ 64 ≤ f by omega) with h1 | h1
    all_goals
      clear h
      go_enter Try.func56, Try.ntmps56
      go_wp2
      go_ret
      exact ⟨ret_int HE.out.symm, rfl⟩
theorem allT (p u d : Int) (w : World) : Calls Try.prog 58 #[.agg #[.int .u64 p, .int .u64 u, .int .u64 d]] w fun e w' => e = .returned (.int .u64 (al p u d)) ∧ Since w w' := by
  go_enter Try.func58, Try.ntmps58
  go_wp2
  go_ret
  exact ⟨rfl, (by repeat (first | exact Since.refl _ | assumption | refine Since.setCell ?_ (by first | (simp; done) | (simp; omega)) _ | refine Since.drew ?_ | refine Since.drewN ?_ _ | refine Since.alloc ?_ _ | refine Since.trans ?_ (by assumption) | refine Since.trans ?_ (Hid.out (by assumption))))⟩
theorem pressT (p u d f : Int) (w : World) : Calls Try.prog 24 #[.agg #[.int .u64 p, .int .u64 u, .int .u64 d], .int .i64 f] w fun e w' => e = .returned (.agg #[.int .u64 (bits .or .u64 p (bit f)), .int .u64 u, .int .u64 d]) ∧ Since w w' := by
  go_enter Try.func24, Try.ntmps24
  go_wp2_with fail
  go_region_with (first | (go_at_call 56; refine (bitT _ _).mono ?_; rintro e w' ⟨rfl, rfl⟩))
  all_goals
    go_wp2
    exact bodyPost_ret (v := .agg #[.int .u64 (bits .or .u64 p (bit f)), .int .u64 u, .int .u64 d]) (by simp [results, Try.results24, go_sem]) rfl ⟨rfl, (by repeat (first | exact Since.refl _ | assumption | refine Since.setCell ?_ (by first | (simp; done) | (simp; omega)) _ | refine Since.drew ?_ | refine Since.drewN ?_ _ | refine Since.alloc ?_ _ | refine Since.trans ?_ (by assumption) | refine Since.trans ?_ (Hid.out (by assumption))))⟩
/-- A hall call; what is cleared. -/
def haU (u f way : Int) : Int := if way = 1 then bits .or .u64 u (bit f) else u
def haD (d f way : Int) : Int := if way = 2 then bits .or .u64 d (bit f) else d
theorem hallT (p u d f way : Int) (w : World) : Calls Try.prog 25 #[.agg #[.int .u64 p, .int .u64 u, .int .u64 d], .int .i64 f, .int .i64 way] w fun e w' => e = .returned (.agg #[.int .u64 p, .int .u64 (haU u f way), .int .u64 (haD d f way)]) ∧ Since w w' := by
  by_cases h1 : way = 1
  · subst h1
    have HU := Lib.hid (show haU u f 1 = bits .or .u64 u (bit f) by unfold haU; simp)
    have HD := Lib.hid (show haD d f 1 = d by unfold haD; simp)
    go_enter Try.func25, Try.ntmps25
    go_wp2_with fail
    go_region_with (first | (go_at_call 56; refine (bitT _ _).mono ?_; rintro e w' ⟨rfl, rfl⟩))
    all_goals
      go_wp2
      exact bodyPost_ret (v := .agg #[.int .u64 p, .int .u64 (bits .or .u64 u (bit f)), .int .u64 d]) (by simp [results, Try.results25, go_sem]) rfl ⟨by rw [HU.out, HD.out], (by repeat (first | exact Since.refl _ | assumption | refine Since.setCell ?_ (by first | (simp; done) | (simp; omega)) _ | refine Since.drew ?_ | refine Since.drewN ?_ _ | refine Since.alloc ?_ _ | refine Since.trans ?_ (by assumption) | refine Since.trans ?_ (Hid.out (by assumption))))⟩
  · have h1' : (way == 1) = false := by simpa using h1
    by_cases h2 : way = 2
    · subst h2
      have HU := Lib.hid (show haU u f 2 = u by unfold haU; simp)
      have HD := Lib.hid (show haD d f 2 = bits .or .u64 d (bit f) by unfold haD; simp)
      go_enter Try.func25, Try.ntmps25
      go_wp2_with fail
      go_region_with (first | (go_at_call 56; refine (bitT _ _).mono ?_; rintro e w' ⟨rfl, rfl⟩))
      all_goals
        go_wp2
        exact bodyPost_ret (v := .agg #[.int .u64 p, .int .u64 u, .int .u64 (bits .or .u64 d (bit f))]) (by simp [results, Try.results25, go_sem]) rfl ⟨by rw [HU.out, HD.out], (by repeat (first | exact Since.refl _ | assumption | refine Since.setCell ?_ (by first | (simp; done) | (simp; omega)) _ | refine Since.drew ?_ | refine Since.drewN ?_ _ | refine Since.alloc ?_ _ | refine Since.trans ?_ (by assumption) | refine Since.trans ?_ (Hid.out (by assumption))))⟩
    · have h2' : (way == 2) = false := by simpa using h2
      have HU := Lib.hid (show haU u f way = u by unfold haU; simp [h1])
      have HD := Lib.hid (show haD d f way = d by unfold haD; simp [h2])
      go_enter Try.func25, Try.ntmps25
      go_wp2
      exact bodyPost_ret (v := .agg #[.int .u64 p, .int .u64 u, .int .u64 d]) (by simp [results, Try.results25, go_sem]) rfl ⟨by rw [HU.out, HD.out], (by repeat (first | exact Since.refl _ | assumption | refine Since.setCell ?_ (by first | (simp; done) | (simp; omega)) _ | refine Since.drew ?_ | refine Since.drewN ?_ _ | refine Since.alloc ?_ _ | refine Since.trans ?_ (by assumption) | refine Since.trans ?_ (Hid.out (by assumption))))⟩
def clP (p f : Int) : Int := bits .andNot .u64 p (bit f)
def clU (u f way : Int) : Int := if way = 1 then bits .andNot .u64 u (bit f) else u
def clD (d f way : Int) : Int := if way = 2 then bits .andNot .u64 d (bit f) else d
set_option maxHeartbeats 1000000 in
theorem clearT (p u d f way : Int) (w : World) : Calls Try.prog 26 #[.agg #[.int .u64 p, .int .u64 u, .int .u64 d], .int .i64 f, .int .i64 way] w fun e w' => e = .returned (.agg #[.int .u64 (clP p f), .int .u64 (clU u f way), .int .u64 (clD d f way)]) ∧ Since w w' := by
  have HP := Lib.hid (show clP p f = bits .andNot .u64 p (bit f) from rfl)
  by_cases h1 : way = 1
  · subst h1
    have HU := Lib.hid (show clU u f 1 = bits .andNot .u64 u (bit f) by unfold clU; simp)
    have HD := Lib.hid (show clD d f 1 = d by unfold clD; simp)
    go_enter Try.func26, Try.ntmps26
    go_wp2_with fail
    go_region_with (first | (go_at_call 56; refine (bitT _ _).mono ?_; rintro e w' ⟨rfl, rfl⟩))
    all_goals
      go_wp2_with fail
      go_region_with (first | (go_at_call 56; refine (bitT _ _).mono ?_; rintro e w' ⟨rfl, rfl⟩))
      all_goals
        go_wp2
        exact bodyPost_ret (v := .agg #[.int .u64 (bits .andNot .u64 p (bit f)), .int .u64 (bits .andNot .u64 u (bit f)), .int .u64 d]) (by simp [results, Try.results26, go_sem]) rfl ⟨by rw [HP.out, HU.out, HD.out], (by repeat (first | exact Since.refl _ | assumption | refine Since.setCell ?_ (by first | (simp; done) | (simp; omega)) _ | refine Since.drew ?_ | refine Since.drewN ?_ _ | refine Since.alloc ?_ _ | refine Since.trans ?_ (by assumption) | refine Since.trans ?_ (Hid.out (by assumption))))⟩
  · have h1' : (way == 1) = false := by simpa using h1
    by_cases h2 : way = 2
    · subst h2
      have HU := Lib.hid (show clU u f 2 = u by unfold clU; simp)
      have HD := Lib.hid (show clD d f 2 = bits .andNot .u64 d (bit f) by unfold clD; simp)
      go_enter Try.func26, Try.ntmps26
      go_wp2_with fail
      go_region_with (first | (go_at_call 56; refine (bitT _ _).mono ?_; rintro e w' ⟨rfl, rfl⟩))
      all_goals
        go_wp2_with fail
        go_region_with (first | (go_at_call 56; refine (bitT _ _).mono ?_; rintro e w' ⟨rfl, rfl⟩))
        all_goals
          go_wp2
          exact bodyPost_ret (v := .agg #[.int .u64 (bits .andNot .u64 p (bit f)), .int .u64 u, .int .u64 (bits .andNot .u64 d (bit f))]) (by simp [results, Try.results26, go_sem]) rfl ⟨by rw [HP.out, HU.out, HD.out], (by repeat (first | exact Since.refl _ | assumption | refine Since.setCell ?_ (by first | (simp; done) | (simp; omega)) _ | refine Since.drew ?_ | refine Since.drewN ?_ _ | refine Since.alloc ?_ _ | refine Since.trans ?_ (by assumption) | refine Since.trans ?_ (Hid.out (by assumption))))⟩
    · have h2' : (way == 2) = false := by simpa using h2
      have HU := Lib.hid (show clU u f way = u by unfold clU; simp [h1])
      have HD := Lib.hid (show clD d f way = d by unfold clD; simp [h2])
      go_enter Try.func26, Try.ntmps26
      go_wp2_with fail
      go_region_with (first | (go_at_call 56; refine (bitT _ _).mono ?_; rintro e w' ⟨rfl, rfl⟩))
      all_goals
        go_wp2
        exact bodyPost_ret (v := .agg #[.int .u64 (bits .andNot .u64 p (bit f)), .int .u64 u, .int .u64 d]) (by simp [results, Try.results26, go_sem]) rfl ⟨by rw [HP.out, HU.out, HD.out], (by repeat (first | exact Since.refl _ | assumption | refine Since.setCell ?_ (by first | (simp; done) | (simp; omega)) _ | refine Since.drew ?_ | refine Since.drewN ?_ _ | refine Since.alloc ?_ _ | refine Since.trans ?_ (by assumption) | refine Since.trans ?_ (Hid.out (by assumption))))⟩
theorem ne_mem {x : Int} (hx : R x) (f : Int) : (bits .and .u64 x (bit f) != 0) = mem x f := by
  rw [Bool.eq_iff_iff, bne_iff_ne]
  cases h : mem x f
  · simp; exact (and_bit hx f).2 h
  · simp; intro e; rw [(and_bit hx f).1 e] at h; cases h
/-- A hall call there, that way. -/
def atB (u d f way : Int) : Bool := (way == 1 && mem u f) || (way == 2 && mem d f)
theorem atT (p u d f way : Int) (hu : R u) (hd : R d) (w : World) : Calls Try.prog 28 #[.agg #[.int .u64 p, .int .u64 u, .int .u64 d], .int .i64 f, .int .i64 way] w fun e w' => e = .returned (.bool (atB u d f way)) ∧ Since w w' := by
  have HM := Lib.hid (ne_mem hu f)
  have HN := Lib.hid (ne_mem hd f)
  clear hu hd
  by_cases h1 : way = 1
  · subst h1
    have HA := Lib.hid (show atB u d f 1 = mem u f by unfold atB; simp)
    go_enter Try.func28, Try.ntmps28
    go_wp2_with fail
    go_quiet ((go_at_call 56; exact quiet_eq (bitT _ _)))
    go_wp2
    go_ret
    exact ⟨ret_bool (by rw [HM.out, HA.out]), (by repeat (first | exact Since.refl _ | assumption | refine Since.setCell ?_ (by first | (simp; done) | (simp; omega)) _ | refine Since.drew ?_ | refine Since.drewN ?_ _ | refine Since.alloc ?_ _ | refine Since.trans ?_ (by assumption) | refine Since.trans ?_ (Hid.out (by assumption))))⟩
  · have h1' : (way == 1) = false := by simpa using h1
    by_cases h2 : way = 2
    · subst h2
      have HA := Lib.hid (show atB u d f 2 = mem d f by unfold atB; simp)
      go_enter Try.func28, Try.ntmps28
      go_wp2_with fail
      go_quiet ((go_at_call 56; exact quiet_eq (bitT _ _)))
      go_wp2
      go_ret
      exact ⟨ret_bool (by rw [HN.out, HA.out]), (by repeat (first | exact Since.refl _ | assumption | refine Since.setCell ?_ (by first | (simp; done) | (simp; omega)) _ | refine Since.drew ?_ | refine Since.drewN ?_ _ | refine Since.alloc ?_ _ | refine Since.trans ?_ (by assumption) | refine Since.trans ?_ (Hid.out (by assumption))))⟩
    · have h2' : (way == 2) = false := by simpa using h2
      have HA := Lib.hid (show atB u d f way = false by unfold atB; simp [h1', h2'])
      go_enter Try.func28, Try.ntmps28
      go_wp2
      go_ret
      exact ⟨ret_bool HA.out.symm, (by repeat (first | exact Since.refl _ | assumption | refine Since.setCell ?_ (by first | (simp; done) | (simp; omega)) _ | refine Since.drew ?_ | refine Since.drewN ?_ _ | refine Since.alloc ?_ _ | refine Since.trans ?_ (by assumption) | refine Since.trans ?_ (Hid.out (by assumption))))⟩
/-- Anything there. -/
def heB (p u d f : Int) : Bool := mem (al p u d) f
theorem hereT (p u d f : Int) (hp : R p) (hu : R u) (hd : R d) (w : World) : Calls Try.prog 30 #[.agg #[.int .u64 p, .int .u64 u, .int .u64 d], .int .i64 f] w fun e w' => e = .returned (.bool (heB p u d f)) ∧ Since w w' := by
  have HM := Lib.hid (ne_mem (al_R hp hu hd) f)
  clear hp hu hd
  go_enter Try.func30, Try.ntmps30
  go_wp2_with fail
  refine (allT _ _ _ _).mono ?_
  rintro e w1 ⟨rfl, hb1⟩
  go_wp2_with (first | (go_at_call 56; refine (bitT _ _).mono ?_; rintro e w' ⟨rfl, rfl⟩))
  go_ret
  exact ⟨ret_bool HM.out, (by repeat (first | exact Since.refl _ | assumption | refine Since.setCell ?_ (by first | (simp; done) | (simp; omega)) _ | refine Since.drew ?_ | refine Since.drewN ?_ _ | refine Since.alloc ?_ _ | refine Since.trans ?_ (by assumption) | refine Since.trans ?_ (Hid.out (by assumption))))⟩
end Go.Proofs.Ytdbbacpofgjgoaa.St
