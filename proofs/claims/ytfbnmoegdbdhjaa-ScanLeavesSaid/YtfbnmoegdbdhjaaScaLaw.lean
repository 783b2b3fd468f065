/-
  Laws of layer 13 (scan), walked: each answers true.
  Conditions: each argument fits its kind.
-/
import Derived.Test.YtfbnmoegdbdhjaaScaMath
namespace Go.Proofs.Ytfbnmoegdbdhjaa.Sc
set_option linter.unusedVariables false
set_option linter.unusedSimpArgs false
open Go.RowKit Go.Proofs.Ytfbnmoegdbdhjaa.Ba Go.Proofs.Ytfbnmoegdbdhjaa.St
set_option maxRecDepth 100000
theorem R.wf {x : Int} (h : (Lit.int .u64 x).wf = true) : R x := by have := bounds_u64 h; unfold R; omega
theorem a1 : nxW 32 0 4 2 1 (-1) = 1 := by decide +kernel
theorem a2 : nxO 32 0 4 2 1 (-1) = false := by decide +kernel
theorem a3 : nxW 0 0 4 2 1 (-1) = 2 := by decide +kernel
theorem a4 : nxO 0 0 4 2 1 (-1) = true := by decide +kernel
theorem ans (w : World) : Calls Try.prog 39 #[] w fun e w' => e = .returned (.bool true) ∧ Since w w' := by
  have e1 := a1
  have e2 := a2
  have e3 := a3
  have e4 := a4
  go_enter Try.func39, Try.ntmps39
  go_wp2_with (first | (go_at_call 37; refine (nextT _ _ _ _ _ _ (by unfold R; omega) (by unfold R; omega) (by unfold R; omega) _).mono ?_; rintro e w1 ⟨rfl, hb1⟩))
  go_ret
  exact ⟨rfl, (by repeat (first | exact Since.refl _ | assumption | refine Since.setCell ?_ (by first | (simp; done) | (simp; omega)) _ | refine Since.drew ?_ | refine Since.drewN ?_ _ | refine Since.alloc ?_ _ | refine Since.trans ?_ (by assumption) | refine Since.trans ?_ (Hid.out (by assumption))))⟩
theorem next (p u d f8 w8 j : Int) (w : World) (wp : (Lit.int .u64 p).wf = true) (wu : (Lit.int .u64 u).wf = true) (wd : (Lit.int .u64 d).wf = true) (wf : (Lit.int .u8 f8).wf = true) (ww : (Lit.int .u8 w8).wf = true) (wj : (Lit.int .i64 j).wf = true) :
    Calls Try.prog 9 #[.agg #[.int .u64 p, .int .u64 u, .int .u64 d], .int .u8 f8, .int .u8 w8, .int .i64 j] w fun e w' => e = .returned (.bool true) ∧ Since w w' := by
  have hp := R.wf wp
  have hu := R.wf wu
  have hd := R.wf wd
  have ⟨f1, f2⟩ := bounds_u8 wf
  have ⟨w1, w2⟩ := bounds_u8 ww
  have hw := Lib.hid (show w8 % 3 = 0 ∨ w8 % 3 = 1 ∨ w8 % 3 = 2 by omega)
  clear wp wu wd wf ww wj
  go_enter Try.func9, Try.ntmps9
  go_wp2_with (first | (go_at_call 37; refine (nextT _ _ _ _ _ _ hp hu hd _).mono ?_; rintro e w1 ⟨rfl, hb1⟩; have hq1 : w.heap.size < w1.heap.size := (by have := hb1.size; (try simp at this); omega); obtain ⟨hc1, hf1⟩ := hb1.cf) | (go_at_call 38; refine (nextR _ _ _ _ _ _ hw.out hp hu hd _).mono ?_; rintro e w1 ⟨rfl, hb1⟩; have hq1 : w.heap.size < w1.heap.size := (by have := hb1.size; (try simp at this); omega); obtain ⟨hc1, hf1⟩ := hb1.cf) | (go_at_call 39; refine (ans _).mono ?_; rintro e w1 ⟨rfl, hb1⟩; have hq1 : w.heap.size < w1.heap.size := (by have := hb1.size; (try simp at this); omega); obtain ⟨hc1, hf1⟩ := hb1.cf))
  go_ret
  exact ⟨rfl, (by repeat (first | exact Since.refl _ | assumption | refine Since.setCell ?_ (by first | (simp; done) | (simp; omega)) _ | refine Since.drew ?_ | refine Since.drewN ?_ _ | refine Since.alloc ?_ _ | refine Since.trans ?_ (by assumption) | refine Since.trans ?_ (Hid.out (by assumption))))⟩
set_option maxHeartbeats 1000000 in
theorem goes1 (p u d f8 w8 j : Int) (w : World) (hp : R p) (hu : R u) (hd : R d) (hne : ¬ p = 0) (f1 : 0 ≤ f8) (f2 : f8 ≤ 255) (w1 : 0 ≤ w8) (w2 : w8 ≤ 255) :
    Calls Try.prog 10 #[.agg #[.int .u64 p, .int .u64 u, .int .u64 d], .int .u8 f8, .int .u8 w8, .int .i64 j] w fun e w' => e = .returned (.bool true) ∧ Since w w' := by
  have hw : w8 % 3 = 0 ∨ w8 % 3 = 1 ∨ w8 % 3 = 2 := by omega
  have hf : 0 ≤ f8 % 64 ∧ f8 % 64 < 64 := by omega
  cases ho : nxO p u d (f8 % 64) (w8 % 3) j
  · obtain ⟨g1, g2⟩ := nx_goes hp hu hd hw hf (by omega) ho
    clear hw hf
    rcases g1 with g1 | g1
    all_goals
      rw [g1] at g2
      go_enter Try.func10, Try.ntmps10
      go_wp2_with (first | (go_at_call 37; refine (nextT _ _ _ _ _ _ hp hu hd _).mono ?_; rintro e w1 ⟨rfl, hb1⟩; have hq1 : w.heap.size < w1.heap.size := (by have := hb1.size; (try simp at this); omega); obtain ⟨hc1, hf1⟩ := hb1.cf) | (go_at_call 33; refine (anyR _ _ _ _ hp hu hd _).mono ?_; rintro e w1 ⟨rfl, hb1⟩; have hq1 : w.heap.size < w1.heap.size := (by have := hb1.size; (try simp at this); omega); obtain ⟨hc1, hf1⟩ := hb1.cf) | (go_at_call 35; refine (aheadR _ _ _ _ _ hp hu hd _).mono ?_; rintro e w1 ⟨rfl, hb1⟩; have hq1 : w.heap.size < w1.heap.size := (by have := hb1.size; (try simp at this); omega); obtain ⟨hc1, hf1⟩ := hb1.cf) | (go_at_call 39; refine (ans _).mono ?_; rintro e w1 ⟨rfl, hb1⟩; have hq1 : w.heap.size < w1.heap.size := (by have := hb1.size; (try simp at this); omega); obtain ⟨hc1, hf1⟩ := hb1.cf))
      go_ret
      exact ⟨rfl, (by repeat (first | exact Since.refl _ | assumption | refine Since.setCell ?_ (by first | (simp; done) | (simp; omega)) _ | refine Since.drew ?_ | refine Since.drewN ?_ _ | refine Since.alloc ?_ _ | refine Since.trans ?_ (by assumption) | refine Since.trans ?_ (Hid.out (by assumption))))⟩
  · have g1 := nx_he ho
    clear hw hf
    go_enter Try.func10, Try.ntmps10
    go_wp2_with (first | (go_at_call 37; refine (nextT _ _ _ _ _ _ hp hu hd _).mono ?_; rintro e w1 ⟨rfl, hb1⟩; have hq1 : w.heap.size < w1.heap.size := (by have := hb1.size; (try simp at this); omega); obtain ⟨hc1, hf1⟩ := hb1.cf) | (go_at_call 33; refine (anyR _ _ _ _ hp hu hd _).mono ?_; rintro e w1 ⟨rfl, hb1⟩; have hq1 : w.heap.size < w1.heap.size := (by have := hb1.size; (try simp at this); omega); obtain ⟨hc1, hf1⟩ := hb1.cf) | (go_at_call 35; refine (aheadR _ _ _ _ _ hp hu hd _).mono ?_; rintro e w1 ⟨rfl, hb1⟩; have hq1 : w.heap.size < w1.heap.size := (by have := hb1.size; (try simp at this); omega); obtain ⟨hc1, hf1⟩ := hb1.cf) | (go_at_call 39; refine (ans _).mono ?_; rintro e w1 ⟨rfl, hb1⟩; have hq1 : w.heap.size < w1.heap.size := (by have := hb1.size; (try simp at this); omega); obtain ⟨hc1, hf1⟩ := hb1.cf))
    go_ret
    exact ⟨rfl, (by repeat (first | exact Since.refl _ | assumption | refine Since.setCell ?_ (by first | (simp; done) | (simp; omega)) _ | refine Since.drew ?_ | refine Since.drewN ?_ _ | refine Since.alloc ?_ _ | refine Since.trans ?_ (by assumption) | refine Since.trans ?_ (Hid.out (by assumption))))⟩
set_option maxHeartbeats 1000000 in
theorem goes2 (u d f8 w8 j : Int) (w : World) (hp : R 0) (hu : R u) (hd : R d) (hne : ¬ u = 0) (f1 : 0 ≤ f8) (f2 : f8 ≤ 255) (w1 : 0 ≤ w8) (w2 : w8 ≤ 255) :
    Calls Try.prog 10 #[.agg #[.int .u64 0, .int .u64 u, .int .u64 d], .int .u8 f8, .int .u8 w8, .int .i64 j] w fun e w' => e = .returned (.bool true) ∧ Since w w' := by
  have hw : w8 % 3 = 0 ∨ w8 % 3 = 1 ∨ w8 % 3 = 2 := by omega
  have hf : 0 ≤ f8 % 64 ∧ f8 % 64 < 64 := by omega
  cases ho : nxO 0 u d (f8 % 64) (w8 % 3) j
  · obtain ⟨g1, g2⟩ := nx_goes hp hu hd hw hf (by omega) ho
    clear hw hf
    rcases g1 with g1 | g1
    all_goals
      rw [g1] at g2
      go_enter Try.func10, Try.ntmps10
      go_wp2_with (first | (go_at_call 37; refine (nextT _ _ _ _ _ _ hp hu hd _).mono ?_; rintro e w1 ⟨rfl, hb1⟩; have hq1 : w.heap.size < w1.heap.size := (by have := hb1.size; (try simp at this); omega); obtain ⟨hc1, hf1⟩ := hb1.cf) | (go_at_call 33; refine (anyR _ _ _ _ hp hu hd _).mono ?_; rintro e w1 ⟨rfl, hb1⟩; have hq1 : w.heap.size < w1.heap.size := (by have := hb1.size; (try simp at this); omega); obtain ⟨hc1, hf1⟩ := hb1.cf) | (go_at_call 35; refine (aheadR _ _ _ _ _ hp hu hd _).mono ?_; rintro e w1 ⟨rfl, hb1⟩; have hq1 : w.heap.size < w1.heap.size := (by have := hb1.size; (try simp at this); omega); obtain ⟨hc1, hf1⟩ := hb1.cf) | (go_at_call 39; refine (ans _).mono ?_; rintro e w1 ⟨rfl, hb1⟩; have hq1 : w.heap.size < w1.heap.size := (by have := hb1.size; (try simp at this); omega); obtain ⟨hc1, hf1⟩ := hb1.cf))
      go_ret
      exact ⟨rfl, (by repeat (first | exact Since.refl _ | assumption | refine Since.setCell ?_ (by first | (simp; done) | (simp; omega)) _ | refine Since.drew ?_ | refine Since.drewN ?_ _ | refine Since.alloc ?_ _ | refine Since.trans ?_ (by assumption) | refine Since.trans ?_ (Hid.out (by assumption))))⟩
  · have g1 := nx_he ho
    clear hw hf
    go_enter Try.func10, Try.ntmps10
    go_wp2_with (first | (go_at_call 37; refine (nextT _ _ _ _ _ _ hp hu hd _).mono ?_; rintro e w1 ⟨rfl, hb1⟩; have hq1 : w.heap.size < w1.heap.size := (by have := hb1.size; (try simp at this); omega); obtain ⟨hc1, hf1⟩ := hb1.cf) | (go_at_call 33; refine (anyR _ _ _ _ hp hu hd _).mono ?_; rintro e w1 ⟨rfl, hb1⟩; have hq1 : w.heap.size < w1.heap.size := (by have := hb1.size; (try simp at this); omega); obtain ⟨hc1, hf1⟩ := hb1.cf) | (go_at_call 35; refine (aheadR _ _ _ _ _ hp hu hd _).mono ?_; rintro e w1 ⟨rfl, hb1⟩; have hq1 : w.heap.size < w1.heap.size := (by have := hb1.size; (try simp at this); omega); obtain ⟨hc1, hf1⟩ := hb1.cf) | (go_at_call 39; refine (ans _).mono ?_; rintro e w1 ⟨rfl, hb1⟩; have hq1 : w.heap.size < w1.heap.size := (by have := hb1.size; (try simp at this); omega); obtain ⟨hc1, hf1⟩ := hb1.cf))
    go_ret
    exact ⟨rfl, (by repeat (first | exact Since.refl _ | assumption | refine Since.setCell ?_ (by first | (simp; done) | (simp; omega)) _ | refine Since.drew ?_ | refine Since.drewN ?_ _ | refine Since.alloc ?_ _ | refine Since.trans ?_ (by assumption) | refine Since.trans ?_ (Hid.out (by assumption))))⟩
set_option maxHeartbeats 1000000 in
theorem goes3 (d f8 w8 j : Int) (w : World) (hp : R 0) (hu : R 0) (hd : R d) (hne : ¬ d = 0) (f1 : 0 ≤ f8) (f2 : f8 ≤ 255) (w1 : 0 ≤ w8) (w2 : w8 ≤ 255) :
    Calls Try.prog 10 #[.agg #[.int .u64 0, .int .u64 0, .int .u64 d], .int .u8 f8, .int .u8 w8, .int .i64 j] w fun e w' => e = .returned (.bool true) ∧ Since w w' := by
  have hw : w8 % 3 = 0 ∨ w8 % 3 = 1 ∨ w8 % 3 = 2 := by omega
  have hf : 0 ≤ f8 % 64 ∧ f8 % 64 < 64 := by omega
  cases ho : nxO 0 0 d (f8 % 64) (w8 % 3) j
  · obtain ⟨g1, g2⟩ := nx_goes hp hu hd hw hf (by omega) ho
    clear hw hf
    rcases g1 with g1 | g1
    all_goals
      rw [g1] at g2
      go_enter Try.func10, Try.ntmps10
      go_wp2_with (first | (go_at_call 37; refine (nextT _ _ _ _ _ _ hp hu hd _).mono ?_; rintro e w1 ⟨rfl, hb1⟩; have hq1 : w.heap.size < w1.heap.size := (by have := hb1.size; (try simp at this); omega); obtain ⟨hc1, hf1⟩ := hb1.cf) | (go_at_call 33; refine (anyR _ _ _ _ hp hu hd _).mono ?_; rintro e w1 ⟨rfl, hb1⟩; have hq1 : w.heap.size < w1.heap.size := (by have := hb1.size; (try simp at this); omega); obtain ⟨hc1, hf1⟩ := hb1.cf) | (go_at_call 35; refine (aheadR _ _ _ _ _ hp hu hd _).mono ?_; rintro e w1 ⟨rfl, hb1⟩; have hq1 : w.heap.size < w1.heap.size := (by have := hb1.size; (try simp at this); omega); obtain ⟨hc1, hf1⟩ := hb1.cf) | (go_at_call 39; refine (ans _).mono ?_; rintro e w1 ⟨rfl, hb1⟩; have hq1 : w.heap.size < w1.heap.size := (by have := hb1.size; (try simp at this); omega); obtain ⟨hc1, hf1⟩ := hb1.cf))
      go_ret
      exact ⟨rfl, (by repeat (first | exact Since.refl _ | assumption | refine Since.setCell ?_ (by first | (simp; done) | (simp; omega)) _ | refine Since.drew ?_ | refine Since.drewN ?_ _ | refine Since.alloc ?_ _ | refine Since.trans ?_ (by assumption) | refine Since.trans ?_ (Hid.out (by assumption))))⟩
  · have g1 := nx_he ho
    clear hw hf
    go_enter Try.func10, Try.ntmps10
    go_wp2_with (first | (go_at_call 37; refine (nextT _ _ _ _ _ _ hp hu hd _).mono ?_; rintro e w1 ⟨rfl, hb1⟩; have hq1 : w.heap.size < w1.heap.size := (by have := hb1.size; (try simp at this); omega); obtain ⟨hc1, hf1⟩ := hb1.cf) | (go_at_call 33; refine (anyR _ _ _ _ hp hu hd _).mono ?_; rintro e w1 ⟨rfl, hb1⟩; have hq1 : w.heap.size < w1.heap.size := (by have := hb1.size; (try simp at this); omega); obtain ⟨hc1, hf1⟩ := hb1.cf) | (go_at_call 35; refine (aheadR _ _ _ _ _ hp hu hd _).mono ?_; rintro e w1 ⟨rfl, hb1⟩; have hq1 : w.heap.size < w1.heap.size := (by have := hb1.size; (try simp at this); omega); obtain ⟨hc1, hf1⟩ := hb1.cf) | (go_at_call 39; refine (ans _).mono ?_; rintro e w1 ⟨rfl, hb1⟩; have hq1 : w.heap.size < w1.heap.size := (by have := hb1.size; (try simp at this); omega); obtain ⟨hc1, hf1⟩ := hb1.cf))
    go_ret
    exact ⟨rfl, (by repeat (first | exact Since.refl _ | assumption | refine Since.setCell ?_ (by first | (simp; done) | (simp; omega)) _ | refine Since.drew ?_ | refine Since.drewN ?_ _ | refine Since.alloc ?_ _ | refine Since.trans ?_ (by assumption) | refine Since.trans ?_ (Hid.out (by assumption))))⟩
theorem goes0 (f8 w8 j : Int) (w : World) (f1 : 0 ≤ f8) (f2 : f8 ≤ 255) (w1 : 0 ≤ w8) (w2 : w8 ≤ 255) :
    Calls Try.prog 10 #[.agg #[.int .u64 0, .int .u64 0, .int .u64 0], .int .u8 f8, .int .u8 w8, .int .i64 j] w fun e w' => e = .returned (.bool true) ∧ Since w w' := by
  have hp := R.zero
  have hu := R.zero
  have hd := R.zero
  obtain ⟨n1, n2⟩ := nx_none (f8 % 64) (w8 % 3) j
  go_enter Try.func10, Try.ntmps10
  go_wp2_with (first | (go_at_call 37; refine (nextT _ _ _ _ _ _ hp hu hd _).mono ?_; rintro e w1 ⟨rfl, hb1⟩; have hq1 : w.heap.size < w1.heap.size := (by have := hb1.size; (try simp at this); omega); obtain ⟨hc1, hf1⟩ := hb1.cf) | (go_at_call 33; refine (anyR _ _ _ _ hp hu hd _).mono ?_; rintro e w1 ⟨rfl, hb1⟩; have hq1 : w.heap.size < w1.heap.size := (by have := hb1.size; (try simp at this); omega); obtain ⟨hc1, hf1⟩ := hb1.cf) | (go_at_call 35; refine (aheadR _ _ _ _ _ hp hu hd _).mono ?_; rintro e w1 ⟨rfl, hb1⟩; have hq1 : w.heap.size < w1.heap.size := (by have := hb1.size; (try simp at this); omega); obtain ⟨hc1, hf1⟩ := hb1.cf) | (go_at_call 39; refine (ans _).mono ?_; rintro e w1 ⟨rfl, hb1⟩; have hq1 : w.heap.size < w1.heap.size := (by have := hb1.size; (try simp at this); omega); obtain ⟨hc1, hf1⟩ := hb1.cf))
  go_ret
  exact ⟨rfl, (by repeat (first | exact Since.refl _ | assumption | refine Since.setCell ?_ (by first | (simp; done) | (simp; omega)) _ | refine Since.drew ?_ | refine Since.drewN ?_ _ | refine Since.alloc ?_ _ | refine Since.trans ?_ (by assumption) | refine Since.trans ?_ (Hid.out (by assumption))))⟩
theorem goes (p u d f8 w8 j : Int) (w : World) (wp : (Lit.int .u64 p).wf = true) (wu : (Lit.int .u64 u).wf = true) (wd : (Lit.int .u64 d).wf = true) (wf : (Lit.int .u8 f8).wf = true) (ww : (Lit.int .u8 w8).wf = true) (wj : (Lit.int .i64 j).wf = true) :
    Calls Try.prog 10 #[.agg #[.int .u64 p, .int .u64 u, .int .u64 d], .int .u8 f8, .int .u8 w8, .int .i64 j] w fun e w' => e = .returned (.bool true) ∧ Since w w' := by
  have ⟨f1, f2⟩ := bounds_u8 wf
  have ⟨w1, w2⟩ := bounds_u8 ww
  by_cases h1 : p = 0
  · subst h1
    by_cases h2 : u = 0
    · subst h2
      by_cases h3 : d = 0
      · subst h3; exact goes0 f8 w8 j w f1 f2 w1 w2
      · exact goes3 d f8 w8 j w R.zero R.zero (R.wf wd) h3 f1 f2 w1 w2
    · exact goes2 u d f8 w8 j w R.zero (R.wf wu) (R.wf wd) h2 f1 f2 w1 w2
  · exact goes1 p u d f8 w8 j w (R.wf wp) (R.wf wu) (R.wf wd) h1 f1 f2 w1 w2
set_option maxHeartbeats 1000000 in
theorem leaves (p u d f8 : Int) (b : Bool) (w : World) (wp : (Lit.int .u64 p).wf = true) (wu : (Lit.int .u64 u).wf = true) (wd : (Lit.int .u64 d).wf = true) (wf : (Lit.int .u8 f8).wf = true) :
    Calls Try.prog 12 #[.agg #[.int .u64 p, .int .u64 u, .int .u64 d], .int .u8 f8, .bool b] w fun e w' => e = .returned (.bool true) ∧ Since w w' := by
  have hp := R.wf wp
  have hu := R.wf wu
  have hd := R.wf wd
  have ⟨f1, f2⟩ := bounds_u8 wf
  clear wp wu wd wf
  have h : ∀ way : Int, nxO p u d (f8 % 64) way (f8 % 64) = true → ahB (al p u d) (f8 % 64) 1 = false ∧ ahB (al p u d) (f8 % 64) 2 = false := fun way h => nx_leaves h
  have H := Lib.hid h
  clear h
  cases b
  · cases ho : nxO p u d (f8 % 64) 2 (f8 % 64)
    · go_enter Try.func12, Try.ntmps12
      go_wp2_with (first | (go_at_call 37; refine (nextT _ _ _ _ _ _ hp hu hd _).mono ?_; rintro e w1 ⟨rfl, hb1⟩; have hq1 : w.heap.size < w1.heap.size := (by have := hb1.size; (try simp at this); omega); obtain ⟨hc1, hf1⟩ := hb1.cf) | (go_at_call 33; refine (anyR _ _ _ _ hp hu hd _).mono ?_; rintro e w1 ⟨rfl, hb1⟩; have hq1 : w.heap.size < w1.heap.size := (by have := hb1.size; (try simp at this); omega); obtain ⟨hc1, hf1⟩ := hb1.cf) | (go_at_call 35; refine (aheadR _ _ _ _ _ hp hu hd _).mono ?_; rintro e w1 ⟨rfl, hb1⟩; have hq1 : w.heap.size < w1.heap.size := (by have := hb1.size; (try simp at this); omega); obtain ⟨hc1, hf1⟩ := hb1.cf) | (go_at_call 31; refine (hallR _ _ _ _ _ hu hd _).mono ?_; rintro e w1 ⟨rfl, hb1⟩; have hq1 : w.heap.size < w1.heap.size := (by have := hb1.size; (try simp at this); omega); obtain ⟨hc1, hf1⟩ := hb1.cf) | (go_at_call 39; refine (ans _).mono ?_; rintro e w1 ⟨rfl, hb1⟩; have hq1 : w.heap.size < w1.heap.size := (by have := hb1.size; (try simp at this); omega); obtain ⟨hc1, hf1⟩ := hb1.cf))
      go_ret
      exact ⟨rfl, (by repeat (first | exact Since.refl _ | assumption | refine Since.setCell ?_ (by first | (simp; done) | (simp; omega)) _ | refine Since.drew ?_ | refine Since.drewN ?_ _ | refine Since.alloc ?_ _ | refine Since.trans ?_ (by assumption) | refine Since.trans ?_ (Hid.out (by assumption))))⟩
    · obtain ⟨h1, h2⟩ := H.out _ ho
      go_enter Try.func12, Try.ntmps12
      go_wp2_with (first | (go_at_call 37; refine (nextT _ _ _ _ _ _ hp hu hd _).mono ?_; rintro e w1 ⟨rfl, hb1⟩; have hq1 : w.heap.size < w1.heap.size := (by have := hb1.size; (try simp at this); omega); obtain ⟨hc1, hf1⟩ := hb1.cf) | (go_at_call 33; refine (anyR _ _ _ _ hp hu hd _).mono ?_; rintro e w1 ⟨rfl, hb1⟩; have hq1 : w.heap.size < w1.heap.size := (by have := hb1.size; (try simp at this); omega); obtain ⟨hc1, hf1⟩ := hb1.cf) | (go_at_call 35; refine (aheadR _ _ _ _ _ hp hu hd _).mono ?_; rintro e w1 ⟨rfl, hb1⟩; have hq1 : w.heap.size < w1.heap.size := (by have := hb1.size; (try simp at this); omega); obtain ⟨hc1, hf1⟩ := hb1.cf) | (go_at_call 31; refine (hallR _ _ _ _ _ hu hd _).mono ?_; rintro e w1 ⟨rfl, hb1⟩; have hq1 : w.heap.size < w1.heap.size := (by have := hb1.size; (try simp at this); omega); obtain ⟨hc1, hf1⟩ := hb1.cf) | (go_at_call 39; refine (ans _).mono ?_; rintro e w1 ⟨rfl, hb1⟩; have hq1 : w.heap.size < w1.heap.size := (by have := hb1.size; (try simp at this); omega); obtain ⟨hc1, hf1⟩ := hb1.cf))
      go_ret
      exact ⟨rfl, (by repeat (first | exact Since.refl _ | assumption | refine Since.setCell ?_ (by first | (simp; done) | (simp; omega)) _ | refine Since.drew ?_ | refine Since.drewN ?_ _ | refine Since.alloc ?_ _ | refine Since.trans ?_ (by assumption) | refine Since.trans ?_ (Hid.out (by assumption))))⟩
  · cases ho : nxO p u d (f8 % 64) 1 (f8 % 64)
    · go_enter Try.func12, Try.ntmps12
      go_wp2_with (first | (go_at_call 37; refine (nextT _ _ _ _ _ _ hp hu hd _).mono ?_; rintro e w1 ⟨rfl, hb1⟩; have hq1 : w.heap.size < w1.heap.size := (by have := hb1.size; (try simp at this); omega); obtain ⟨hc1, hf1⟩ := hb1.cf) | (go_at_call 33; refine (anyR _ _ _ _ hp hu hd _).mono ?_; rintro e w1 ⟨rfl, hb1⟩; have hq1 : w.heap.size < w1.heap.size := (by have := hb1.size; (try simp at this); omega); obtain ⟨hc1, hf1⟩ := hb1.cf) | (go_at_call 35; refine (aheadR _ _ _ _ _ hp hu hd _).mono ?_; rintro e w1 ⟨rfl, hb1⟩; have hq1 : w.heap.size < w1.heap.size := (by have := hb1.size; (try simp at this); omega); obtain ⟨hc1, hf1⟩ := hb1.cf) | (go_at_call 31; refine (hallR _ _ _ _ _ hu hd _).mono ?_; rintro e w1 ⟨rfl, hb1⟩; have hq1 : w.heap.size < w1.heap.size := (by have := hb1.size; (try simp at this); omega); obtain ⟨hc1, hf1⟩ := hb1.cf) | (go_at_call 39; refine (ans _).mono ?_; rintro e w1 ⟨rfl, hb1⟩; have hq1 : w.heap.size < w1.heap.size := (by have := hb1.size; (try simp at this); omega); obtain ⟨hc1, hf1⟩ := hb1.cf))
      go_ret
      exact ⟨rfl, (by repeat (first | exact Since.refl _ | assumption | refine Since.setCell ?_ (by first | (simp; done) | (simp; omega)) _ | refine Since.drew ?_ | refine Since.drewN ?_ _ | refine Since.alloc ?_ _ | refine Since.trans ?_ (by assumption) | refine Since.trans ?_ (Hid.out (by assumption))))⟩
    · obtain ⟨h1, h2⟩ := H.out _ ho
      go_enter Try.func12, Try.ntmps12
      go_wp2_with (first | (go_at_call 37; refine (nextT _ _ _ _ _ _ hp hu hd _).mono ?_; rintro e w1 ⟨rfl, hb1⟩; have hq1 : w.heap.size < w1.heap.size := (by have := hb1.size; (try simp at this); omega); obtain ⟨hc1, hf1⟩ := hb1.cf) | (go_at_call 33; refine (anyR _ _ _ _ hp hu hd _).mono ?_; rintro e w1 ⟨rfl, hb1⟩; have hq1 : w.heap.size < w1.heap.size := (by have := hb1.size; (try simp at this); omega); obtain ⟨hc1, hf1⟩ := hb1.cf) | (go_at_call 35; refine (aheadR _ _ _ _ _ hp hu hd _).mono ?_; rintro e w1 ⟨rfl, hb1⟩; have hq1 : w.heap.size < w1.heap.size := (by have := hb1.size; (try simp at this); omega); obtain ⟨hc1, hf1⟩ := hb1.cf) | (go_at_call 31; refine (hallR _ _ _ _ _ hu hd _).mono ?_; rintro e w1 ⟨rfl, hb1⟩; have hq1 : w.heap.size < w1.heap.size := (by have := hb1.size; (try simp at this); omega); obtain ⟨hc1, hf1⟩ := hb1.cf) | (go_at_call 39; refine (ans _).mono ?_; rintro e w1 ⟨rfl, hb1⟩; have hq1 : w.heap.size < w1.heap.size := (by have := hb1.size; (try simp at this); omega); obtain ⟨hc1, hf1⟩ := hb1.cf))
      go_ret
      exact ⟨rfl, (by repeat (first | exact Since.refl _ | assumption | refine Since.setCell ?_ (by first | (simp; done) | (simp; omega)) _ | refine Since.drew ?_ | refine Since.drewN ?_ _ | refine Since.alloc ?_ _ | refine Since.trans ?_ (by assumption) | refine Since.trans ?_ (Hid.out (by assumption))))⟩
set_option maxHeartbeats 1000000 in
theorem keeps_false (p u d f8 j : Int) (w : World) (wp : (Lit.int .u64 p).wf = true) (wu : (Lit.int .u64 u).wf = true) (wd : (Lit.int .u64 d).wf = true) (wf : (Lit.int .u8 f8).wf = true) :
    Calls Try.prog 11 #[.agg #[.int .u64 p, .int .u64 u, .int .u64 d], .int .u8 f8, .bool false, .int .i64 j] w fun e w' => e = .returned (.bool true) ∧ Since w w' := by
  have hp := R.wf wp
  have hu := R.wf wu
  have hd := R.wf wd
  have ⟨f1, f2⟩ := bounds_u8 wf
  clear wp wu wd wf
  cases ha : ahB (al p u d) (f8 % 64) 2
  · by_cases hx : nxW p u d (f8 % 64) 2 j = 1
    · cases ho : nxO p u d (f8 % 64) 2 j
      · go_enter Try.func11, Try.ntmps11
        go_wp2_with (first | (go_at_call 37; refine (nextT _ _ _ _ _ _ hp hu hd _).mono ?_; rintro e w1 ⟨rfl, hb1⟩; have hq1 : w.heap.size < w1.heap.size := (by have := hb1.size; (try simp at this); omega); obtain ⟨hc1, hf1⟩ := hb1.cf) | (go_at_call 33; refine (anyR _ _ _ _ hp hu hd _).mono ?_; rintro e w1 ⟨rfl, hb1⟩; have hq1 : w.heap.size < w1.heap.size := (by have := hb1.size; (try simp at this); omega); obtain ⟨hc1, hf1⟩ := hb1.cf) | (go_at_call 35; refine (aheadR _ _ _ _ _ hp hu hd _).mono ?_; rintro e w1 ⟨rfl, hb1⟩; have hq1 : w.heap.size < w1.heap.size := (by have := hb1.size; (try simp at this); omega); obtain ⟨hc1, hf1⟩ := hb1.cf) | (go_at_call 31; refine (hallR _ _ _ _ _ hu hd _).mono ?_; rintro e w1 ⟨rfl, hb1⟩; have hq1 : w.heap.size < w1.heap.size := (by have := hb1.size; (try simp at this); omega); obtain ⟨hc1, hf1⟩ := hb1.cf) | (go_at_call 39; refine (ans _).mono ?_; rintro e w1 ⟨rfl, hb1⟩; have hq1 : w.heap.size < w1.heap.size := (by have := hb1.size; (try simp at this); omega); obtain ⟨hc1, hf1⟩ := hb1.cf))
        go_ret
        exact ⟨rfl, (by repeat (first | exact Since.refl _ | assumption | refine Since.setCell ?_ (by first | (simp; done) | (simp; omega)) _ | refine Since.drew ?_ | refine Since.drewN ?_ _ | refine Since.alloc ?_ _ | refine Since.trans ?_ (by assumption) | refine Since.trans ?_ (Hid.out (by assumption))))⟩
      · have hc : atB u d (f8 % 64) 2 = false := by
          cases e : atB u d (f8 % 64) 2
          · rfl
          · have := nx_turn (by omega) ho e; omega
        go_enter Try.func11, Try.ntmps11
        go_wp2_with (first | (go_at_call 37; refine (nextT _ _ _ _ _ _ hp hu hd _).mono ?_; rintro e w1 ⟨rfl, hb1⟩; have hq1 : w.heap.size < w1.heap.size := (by have := hb1.size; (try simp at this); omega); obtain ⟨hc1, hf1⟩ := hb1.cf) | (go_at_call 33; refine (anyR _ _ _ _ hp hu hd _).mono ?_; rintro e w1 ⟨rfl, hb1⟩; have hq1 : w.heap.size < w1.heap.size := (by have := hb1.size; (try simp at this); omega); obtain ⟨hc1, hf1⟩ := hb1.cf) | (go_at_call 35; refine (aheadR _ _ _ _ _ hp hu hd _).mono ?_; rintro e w1 ⟨rfl, hb1⟩; have hq1 : w.heap.size < w1.heap.size := (by have := hb1.size; (try simp at this); omega); obtain ⟨hc1, hf1⟩ := hb1.cf) | (go_at_call 31; refine (hallR _ _ _ _ _ hu hd _).mono ?_; rintro e w1 ⟨rfl, hb1⟩; have hq1 : w.heap.size < w1.heap.size := (by have := hb1.size; (try simp at this); omega); obtain ⟨hc1, hf1⟩ := hb1.cf) | (go_at_call 39; refine (ans _).mono ?_; rintro e w1 ⟨rfl, hb1⟩; have hq1 : w.heap.size < w1.heap.size := (by have := hb1.size; (try simp at this); omega); obtain ⟨hc1, hf1⟩ := hb1.cf))
        go_ret
        exact ⟨rfl, (by repeat (first | exact Since.refl _ | assumption | refine Since.setCell ?_ (by first | (simp; done) | (simp; omega)) _ | refine Since.drew ?_ | refine Since.drewN ?_ _ | refine Since.alloc ?_ _ | refine Since.trans ?_ (by assumption) | refine Since.trans ?_ (Hid.out (by assumption))))⟩
    · have hx' : (nxW p u d (f8 % 64) 2 j == 1) = false := by simpa using hx
      clear hx
      go_enter Try.func11, Try.ntmps11
      go_wp2_with (first | (go_at_call 37; refine (nextT _ _ _ _ _ _ hp hu hd _).mono ?_; rintro e w1 ⟨rfl, hb1⟩; have hq1 : w.heap.size < w1.heap.size := (by have := hb1.size; (try simp at this); omega); obtain ⟨hc1, hf1⟩ := hb1.cf) | (go_at_call 33; refine (anyR _ _ _ _ hp hu hd _).mono ?_; rintro e w1 ⟨rfl, hb1⟩; have hq1 : w.heap.size < w1.heap.size := (by have := hb1.size; (try simp at this); omega); obtain ⟨hc1, hf1⟩ := hb1.cf) | (go_at_call 35; refine (aheadR _ _ _ _ _ hp hu hd _).mono ?_; rintro e w1 ⟨rfl, hb1⟩; have hq1 : w.heap.size < w1.heap.size := (by have := hb1.size; (try simp at this); omega); obtain ⟨hc1, hf1⟩ := hb1.cf) | (go_at_call 31; refine (hallR _ _ _ _ _ hu hd _).mono ?_; rintro e w1 ⟨rfl, hb1⟩; have hq1 : w.heap.size < w1.heap.size := (by have := hb1.size; (try simp at this); omega); obtain ⟨hc1, hf1⟩ := hb1.cf) | (go_at_call 39; refine (ans _).mono ?_; rintro e w1 ⟨rfl, hb1⟩; have hq1 : w.heap.size < w1.heap.size := (by have := hb1.size; (try simp at this); omega); obtain ⟨hc1, hf1⟩ := hb1.cf))
      go_ret
      exact ⟨rfl, (by repeat (first | exact Since.refl _ | assumption | refine Since.setCell ?_ (by first | (simp; done) | (simp; omega)) _ | refine Since.drew ?_ | refine Since.drewN ?_ _ | refine Since.alloc ?_ _ | refine Since.trans ?_ (by assumption) | refine Since.trans ?_ (Hid.out (by assumption))))⟩
  · have hx := nx_keeps (j := j) (by omega) ha
    go_enter Try.func11, Try.ntmps11
    go_wp2_with (first | (go_at_call 37; refine (nextT _ _ _ _ _ _ hp hu hd _).mono ?_; rintro e w1 ⟨rfl, hb1⟩; have hq1 : w.heap.size < w1.heap.size := (by have := hb1.size; (try simp at this); omega); obtain ⟨hc1, hf1⟩ := hb1.cf) | (go_at_call 33; refine (anyR _ _ _ _ hp hu hd _).mono ?_; rintro e w1 ⟨rfl, hb1⟩; have hq1 : w.heap.size < w1.heap.size := (by have := hb1.size; (try simp at this); omega); obtain ⟨hc1, hf1⟩ := hb1.cf) | (go_at_call 35; refine (aheadR _ _ _ _ _ hp hu hd _).mono ?_; rintro e w1 ⟨rfl, hb1⟩; have hq1 : w.heap.size < w1.heap.size := (by have := hb1.size; (try simp at this); omega); obtain ⟨hc1, hf1⟩ := hb1.cf) | (go_at_call 31; refine (hallR _ _ _ _ _ hu hd _).mono ?_; rintro e w1 ⟨rfl, hb1⟩; have hq1 : w.heap.size < w1.heap.size := (by have := hb1.size; (try simp at this); omega); obtain ⟨hc1, hf1⟩ := hb1.cf) | (go_at_call 39; refine (ans _).mono ?_; rintro e w1 ⟨rfl, hb1⟩; have hq1 : w.heap.size < w1.heap.size := (by have := hb1.size; (try simp at this); omega); obtain ⟨hc1, hf1⟩ := hb1.cf))
    go_ret
    exact ⟨rfl, (by repeat (first | exact Since.refl _ | assumption | refine Since.setCell ?_ (by first | (simp; done) | (simp; omega)) _ | refine Since.drew ?_ | refine Since.drewN ?_ _ | refine Since.alloc ?_ _ | refine Since.trans ?_ (by assumption) | refine Since.trans ?_ (Hid.out (by assumption))))⟩
set_option maxHeartbeats 1000000 in
theorem keeps_true (p u d f8 j : Int) (w : World) (wp : (Lit.int .u64 p).wf = true) (wu : (Lit.int .u64 u).wf = true) (wd : (Lit.int .u64 d).wf = true) (wf : (Lit.int .u8 f8).wf = true) :
    Calls Try.prog 11 #[.agg #[.int .u64 p, .int .u64 u, .int .u64 d], .int .u8 f8, .bool true, .int .i64 j] w fun e w' => e = .returned (.bool true) ∧ Since w w' := by
  have hp := R.wf wp
  have hu := R.wf wu
  have hd := R.wf wd
  have ⟨f1, f2⟩ := bounds_u8 wf
  clear wp wu wd wf
  cases ha : ahB (al p u d) (f8 % 64) 1
  · by_cases hx : nxW p u d (f8 % 64) 1 j = 2
    · cases ho : nxO p u d (f8 % 64) 1 j
      · go_enter Try.func11, Try.ntmps11
        go_wp2_with (first | (go_at_call 37; refine (nextT _ _ _ _ _ _ hp hu hd _).mono ?_; rintro e w1 ⟨rfl, hb1⟩; have hq1 : w.heap.size < w1.heap.size := (by have := hb1.size; (try simp at this); omega); obtain ⟨hc1, hf1⟩ := hb1.cf) | (go_at_call 33; refine (anyR _ _ _ _ hp hu hd _).mono ?_; rintro e w1 ⟨rfl, hb1⟩; have hq1 : w.heap.size < w1.heap.size := (by have := hb1.size; (try simp at this); omega); obtain ⟨hc1, hf1⟩ := hb1.cf) | (go_at_call 35; refine (aheadR _ _ _ _ _ hp hu hd _).mono ?_; rintro e w1 ⟨rfl, hb1⟩; have hq1 : w.heap.size < w1.heap.size := (by have := hb1.size; (try simp at this); omega); obtain ⟨hc1, hf1⟩ := hb1.cf) | (go_at_call 31; refine (hallR _ _ _ _ _ hu hd _).mono ?_; rintro e w1 ⟨rfl, hb1⟩; have hq1 : w.heap.size < w1.heap.size := (by have := hb1.size; (try simp at this); omega); obtain ⟨hc1, hf1⟩ := hb1.cf) | (go_at_call 39; refine (ans _).mono ?_; rintro e w1 ⟨rfl, hb1⟩; have hq1 : w.heap.size < w1.heap.size := (by have := hb1.size; (try simp at this); omega); obtain ⟨hc1, hf1⟩ := hb1.cf))
        go_ret
        exact ⟨rfl, (by repeat (first | exact Since.refl _ | assumption | refine Since.setCell ?_ (by first | (simp; done) | (simp; omega)) _ | refine Since.drew ?_ | refine Since.drewN ?_ _ | refine Since.alloc ?_ _ | refine Since.trans ?_ (by assumption) | refine Since.trans ?_ (Hid.out (by assumption))))⟩
      · have hc : atB u d (f8 % 64) 1 = false := by
          cases e : atB u d (f8 % 64) 1
          · rfl
          · have := nx_turn (by omega) ho e; omega
        go_enter Try.func11, Try.ntmps11
        go_wp2_with (first | (go_at_call 37; refine (nextT _ _ _ _ _ _ hp hu hd _).mono ?_; rintro e w1 ⟨rfl, hb1⟩; have hq1 : w.heap.size < w1.heap.size := (by have := hb1.size; (try simp at this); omega); obtain ⟨hc1, hf1⟩ := hb1.cf) | (go_at_call 33; refine (anyR _ _ _ _ hp hu hd _).mono ?_; rintro e w1 ⟨rfl, hb1⟩; have hq1 : w.heap.size < w1.heap.size := (by have := hb1.size; (try simp at this); omega); obtain ⟨hc1, hf1⟩ := hb1.cf) | (go_at_call 35; refine (aheadR _ _ _ _ _ hp hu hd _).mono ?_; rintro e w1 ⟨rfl, hb1⟩; have hq1 : w.heap.size < w1.heap.size := (by have := hb1.size; (try simp at this); omega); obtain ⟨hc1, hf1⟩ := hb1.cf) | (go_at_call 31; refine (hallR _ _ _ _ _ hu hd _).mono ?_; rintro e w1 ⟨rfl, hb1⟩; have hq1 : w.heap.size < w1.heap.size := (by have := hb1.size; (try simp at this); omega); obtain ⟨hc1, hf1⟩ := hb1.cf) | (go_at_call 39; refine (ans _).mono ?_; rintro e w1 ⟨rfl, hb1⟩; have hq1 : w.heap.size < w1.heap.size := (by have := hb1.size; (try simp at this); omega); obtain ⟨hc1, hf1⟩ := hb1.cf))
        go_ret
        exact ⟨rfl, (by repeat (first | exact Since.refl _ | assumption | refine Since.setCell ?_ (by first | (simp; done) | (simp; omega)) _ | refine Since.drew ?_ | refine Since.drewN ?_ _ | refine Since.alloc ?_ _ | refine Since.trans ?_ (by assumption) | refine Since.trans ?_ (Hid.out (by assumption))))⟩
    · have hx' : (nxW p u d (f8 % 64) 1 j == 2) = false := by simpa using hx
      clear hx
      go_enter Try.func11, Try.ntmps11
      go_wp2_with (first | (go_at_call 37; refine (nextT _ _ _ _ _ _ hp hu hd _).mono ?_; rintro e w1 ⟨rfl, hb1⟩; have hq1 : w.heap.size < w1.heap.size := (by have := hb1.size; (try simp at this); omega); obtain ⟨hc1, hf1⟩ := hb1.cf) | (go_at_call 33; refine (anyR _ _ _ _ hp hu hd _).mono ?_; rintro e w1 ⟨rfl, hb1⟩; have hq1 : w.heap.size < w1.heap.size := (by have := hb1.size; (try simp at this); omega); obtain ⟨hc1, hf1⟩ := hb1.cf) | (go_at_call 35; refine (aheadR _ _ _ _ _ hp hu hd _).mono ?_; rintro e w1 ⟨rfl, hb1⟩; have hq1 : w.heap.size < w1.heap.size := (by have := hb1.size; (try simp at this); omega); obtain ⟨hc1, hf1⟩ := hb1.cf) | (go_at_call 31; refine (hallR _ _ _ _ _ hu hd _).mono ?_; rintro e w1 ⟨rfl, hb1⟩; have hq1 : w.heap.size < w1.heap.size := (by have := hb1.size; (try simp at this); omega); obtain ⟨hc1, hf1⟩ := hb1.cf) | (go_at_call 39; refine (ans _).mono ?_; rintro e w1 ⟨rfl, hb1⟩; have hq1 : w.heap.size < w1.heap.size := (by have := hb1.size; (try simp at this); omega); obtain ⟨hc1, hf1⟩ := hb1.cf))
      go_ret
      exact ⟨rfl, (by repeat (first | exact Since.refl _ | assumption | refine Since.setCell ?_ (by first | (simp; done) | (simp; omega)) _ | refine Since.drew ?_ | refine Since.drewN ?_ _ | refine Since.alloc ?_ _ | refine Since.trans ?_ (by assumption) | refine Since.trans ?_ (Hid.out (by assumption))))⟩
  · have hx := nx_keeps (j := j) (by omega) ha
    go_enter Try.func11, Try.ntmps11
    go_wp2_with (first | (go_at_call 37; refine (nextT _ _ _ _ _ _ hp hu hd _).mono ?_; rintro e w1 ⟨rfl, hb1⟩; have hq1 : w.heap.size < w1.heap.size := (by have := hb1.size; (try simp at this); omega); obtain ⟨hc1, hf1⟩ := hb1.cf) | (go_at_call 33; refine (anyR _ _ _ _ hp hu hd _).mono ?_; rintro e w1 ⟨rfl, hb1⟩; have hq1 : w.heap.size < w1.heap.size := (by have := hb1.size; (try simp at this); omega); obtain ⟨hc1, hf1⟩ := hb1.cf) | (go_at_call 35; refine (aheadR _ _ _ _ _ hp hu hd _).mono ?_; rintro e w1 ⟨rfl, hb1⟩; have hq1 : w.heap.size < w1.heap.size := (by have := hb1.size; (try simp at this); omega); obtain ⟨hc1, hf1⟩ := hb1.cf) | (go_at_call 31; refine (hallR _ _ _ _ _ hu hd _).mono ?_; rintro e w1 ⟨rfl, hb1⟩; have hq1 : w.heap.size < w1.heap.size := (by have := hb1.size; (try simp at this); omega); obtain ⟨hc1, hf1⟩ := hb1.cf) | (go_at_call 39; refine (ans _).mono ?_; rintro e w1 ⟨rfl, hb1⟩; have hq1 : w.heap.size < w1.heap.size := (by have := hb1.size; (try simp at this); omega); obtain ⟨hc1, hf1⟩ := hb1.cf))
    go_ret
    exact ⟨rfl, (by repeat (first | exact Since.refl _ | assumption | refine Since.setCell ?_ (by first | (simp; done) | (simp; omega)) _ | refine Since.drew ?_ | refine Since.drewN ?_ _ | refine Since.alloc ?_ _ | refine Since.trans ?_ (by assumption) | refine Since.trans ?_ (Hid.out (by assumption))))⟩
theorem keeps (p u d f8 j : Int) (b : Bool) (w : World) (wp : (Lit.int .u64 p).wf = true) (wu : (Lit.int .u64 u).wf = true) (wd : (Lit.int .u64 d).wf = true) (wf : (Lit.int .u8 f8).wf = true) (wj : (Lit.int .i64 j).wf = true) :
    Calls Try.prog 11 #[.agg #[.int .u64 p, .int .u64 u, .int .u64 d], .int .u8 f8, .bool b, .int .i64 j] w fun e w' => e = .returned (.bool true) ∧ Since w w' := by
  cases b
  · exact keeps_false p u d f8 j w wp wu wd wf
  · exact keeps_true p u d f8 j w wp wu wd wf
end Go.Proofs.Ytfbnmoegdbdhjaa.Sc
