/-
  CarctlGoes: how long a car takes still.
  Conditions: what stands ahead of each.
-/
import Derived.Test.YtdbbacpofgjgoaaProg
import Derived.Test.YtdbbacpofgjgoaaShort
import Derived.Test.YtdbbacpofgjgoaaCtlN
import Derived.Test.YtdbbacpofgjgoaaCtlH
namespace Go.Proofs.Ytdbbacpofgjgoaa.Ct
set_option linter.unusedVariables false
set_option linter.unusedSimpArgs false
open Go.RowKit Go.Proofs.Ytdbbacpofgjgoaa.Ba Go.Proofs.Ytdbbacpofgjgoaa.Mem Go.Proofs.Ytdbbacpofgjgoaa.Ty Go.Proofs.Ytdbbacpofgjgoaa.Mo Go.Proofs.Ytdbbacpofgjgoaa.St Go.Proofs.Ytdbbacpofgjgoaa.Sc Go.Proofs.Ytdbbacpofgjgoaa.Pl
open Go.Proofs.Ytdbbacpofgjgoaa.Do
set_option maxRecDepth 100000
attribute [local irreducible] Go.wpList
theorem mayV2 (c : CfgV) (x : CarV) (b : Bool) (w : World) (h : mayB c x = b) : Calls Try.prog 38 #[.agg (cfgA c), .agg (carA x)] w fun e w' => e = .returned (.bool b) ∧ Since w w' := by subst h; exact mayT c x w
theorem dw_hd (n : Int) : dwV n = Do.hd n := by unfold dwV m1 Do.hd; repeat' split <;> omega
/-- How many ticks a door takes still to open; to close. -/
def opN (a D : Int) : Int := if a < D then D - a else 1
def clN (a : Int) : Int := if 1 < a then a else 1
/-- How many ticks the car takes still. -/
def rem (c : CfgV) (x : CarV) : Int :=
  if fr x.un x.ta = 0 then (if x.ds = 2 then 0 else if x.ds = 0 then Do.hd c.dr else opN x.da (Do.hd c.dr))
  else fr x.un x.ta + Do.hd c.dr + (if x.ds = 0 then 0 else if x.ds = 3 then clN x.da else if x.ds = 2 then Do.hd c.dr else opN x.da (Do.hd c.dr) + Do.hd c.dr)
def GoI (c : CfgV) (x : CarV) : Prop := mayB c x = true ∧ (x.mo = 1 ∧ x.ho = true ∧ x.br = false ∧ x.bl = false)
theorem fr_zero (u f : Int) : fr u f = 0 ↔ u = 4 * f := by unfold fr; split <;> omega
theorem go_facts {c : CfgV} {x : CarV} (h : mayB c x = true) (hm : x.mo = 1) : (gd x.ds x.da c.dr = true) ∧ 0 ≤ x.un ∧ x.un ≤ 4 * (fl c.fl - 1) ∧ (x.ds = 0 ∨ lvB x.un = true) ∧ 0 ≤ x.ta ∧ x.ta < fl c.fl := by
  obtain ⟨hg, _, _, ht⟩ := (mayB_iff c x).1 h
  obtain ⟨g1, g2, g3, g4, g5⟩ := (goodB_iff c x).1 hg
  refine ⟨g1, g2, g3, g5, ?_⟩
  rcases ht with ht | ht
  · exact absurd hm ht
  · exact ht
theorem rem_lo {c : CfgV} {x : CarV} (h : mayB c x = true) (hm : x.mo = 1) : 0 ≤ rem c x ∧ rem c x ≤ fr x.un x.ta + 3 * Do.hd c.dr := by
  obtain ⟨g1, _⟩ := go_facts h hm
  have := hd_lo c.dr
  have hf := fr_lo x.un x.ta
  rw [gd_iff] at g1
  unfold rem opN clN
  (repeat' split) <;> omega
theorem rem_zero {c : CfgV} {x : CarV} (h : mayB c x = true) (hm : x.mo = 1) (hz : rem c x = 0) : x.un = 4 * x.ta ∧ x.ds = 2 := by
  obtain ⟨g1, _⟩ := go_facts h hm
  have h1 := hd_lo c.dr
  have hf := fr_lo x.un x.ta
  rw [gd_iff] at g1
  have key : fr x.un x.ta = 0 ∧ x.ds = 2 := by
    unfold rem opN clN at hz
    (repeat' split at hz) <;> omega
  exact ⟨(fr_zero _ _).1 key.1, key.2⟩
/-- What a leased car that holds, and that nothing blocks, is a tick later. -/
theorem go_step {c : CfgV} {x : CarV} (h : GoI c x) : ((tkV c x).ta = x.ta) ∧
    (fr x.un x.ta = 0 → (tkV c x).un = x.un ∧ (tkV c x).ds = tS (if x.ds = 0 ∨ x.ds = 3 then 1 else x.ds) x.da c.dr false ∧ (tkV c x).da = tA (if x.ds = 0 ∨ x.ds = 3 then 1 else x.ds) x.da c.dr false) ∧
    (0 < fr x.un x.ta → x.ds = 0 → fr (tkV c x).un x.ta = fr x.un x.ta - 1 ∧ (tkV c x).ds = 0) ∧
    (0 < fr x.un x.ta → x.ds ≠ 0 → (tkV c x).un = x.un ∧ (tkV c x).ds = tS (if x.ds = 2 then 3 else x.ds) x.da c.dr false ∧ (tkV c x).da = tA (if x.ds = 2 then 3 else x.ds) x.da c.dr false) := by
  obtain ⟨hm, h1, h2, h3, h4⟩ := h
  obtain ⟨g1, g2, g3, g4, g5, g6⟩ := go_facts hm h1
  have hv := tk_lead (c := c) h3 h1
  have h64 := fl_hi c.fl
  have hgd := (gd_iff _ _ _).1 g1
  refine ⟨by have := (tk_same c x).2.2.2.2.2.1; exact this, ?_, ?_, ?_⟩
  · intro hz
    have hu := (fr_zero _ _).1 hz
    obtain ⟨l1, l2, l3, l4⟩ := ld_hold hu rfl h2
    have hlv := (far_lv x.ta g5 (by omega)).1
    have hgo : goesB c x 0 (ldO x) false = false := by unfold goesB; simp
    have e0 : dS0 x (ldO x) false = if x.ds = 0 ∨ x.ds = 3 then 1 else x.ds := by
      unfold dS0 toldS
      rw [h3, hu, hlv, l3]
      by_cases d0 : x.ds = 0
      · simp [d0, oS]
      · by_cases d3 : x.ds = 3
        · simp [d3, oS]
        · simp [d0, d3]
    rw [hv, l1, l2, l4]
    refine ⟨?_, ?_, ?_⟩
    · show un1 c x 0 (ldO x) false = x.un
      unfold un1; rw [hgo]; simp
    · show tS (dS0 x (ldO x) false) x.da c.dr x.bl = _
      rw [e0, h4]
    · show tA (dS0 x (ldO x) false) x.da c.dr x.bl = _
      rw [e0, h4]
  · intro hz d0
    have hne : ¬ tw x.un x.ta = 0 := by have := tw_some x.un x.ta hz; omega
    have e : ldT x = false := decide_eq_false hne
    have l1 : ldX x = { x with ju := -1 } := by simp [ldX, e, d0]
    have l2 : ldR x = tw x.un x.ta := by simp [ldR, e, d0]
    have l3 : ldO x = false := by simp [ldO, e]
    have l4 : ldK x = false := by simp [ldK, d0]
    have hds : dS1 c { x with ju := -1 } false false = 0 := by
      unfold dS1 dS0 toldS
      simp [h3, d0, tS]
    have hgo : goesB c { x with ju := -1 } (tw x.un x.ta) false false = true := by
      unfold goesB
      rw [hds]
      have := tw_some x.un x.ta hz
      simp only [h3, d0, decide_eq_true_eq]
      exact ⟨trivial, trivial, trivial, this⟩
    rw [hv, l1, l2, l3, l4]
    refine ⟨?_, hds⟩
    show fr (un1 c { x with ju := -1 } (tw x.un x.ta) false false) x.ta = _
    unfold un1
    rw [hgo, if_pos rfl]
    show fr (mv x.un (tw x.un x.ta) c.fl) x.ta = _
    unfold mv tw
    unfold fr at hz ⊢
    (repeat' split) <;> (repeat' split at hz) <;> omega
  · intro hz d0
    have hne : ¬ tw x.un x.ta = 0 := by have := tw_some x.un x.ta hz; omega
    have e : ldT x = false := decide_eq_false hne
    have l1 : ldX x = x := by simp [ldX, d0]
    have l2 : ldR x = 0 := by simp [ldR, d0]
    have l3 : ldO x = false := by simp [ldO, e]
    have l4 : ldK x = decide (x.ds = 2) := by simp [ldK, e, h4]
    have hgo : goesB c x 0 false (decide (x.ds = 2)) = false := by unfold goesB; simp
    have e0 : dS0 x false (decide (x.ds = 2)) = if x.ds = 2 then 3 else x.ds := by
      unfold dS0 toldS
      rw [h3]
      by_cases d2 : x.ds = 2
      · simp [d2, cS]
      · simp [d2]
    rw [hv, l1, l2, l3, l4]
    refine ⟨?_, ?_, ?_⟩
    · show un1 c x 0 false (decide (x.ds = 2)) = x.un
      unfold un1; rw [hgo]; simp
    · show tS (dS0 x false (decide (x.ds = 2))) x.da c.dr x.bl = _
      rw [e0, h4]
    · show tA (dS0 x false (decide (x.ds = 2))) x.da c.dr x.bl = _
      rw [e0, h4]
theorem rem_next {c : CfgV} {x : CarV} (h : GoI c x) : rem c (tkV c x) + 1 ≤ rem c x ∨ (rem c x = 0 ∧ rem c (tkV c x) = 0) := by
  obtain ⟨s0, s1, s2, s3⟩ := go_step h
  obtain ⟨g1, -⟩ := go_facts h.1 h.2.1
  have hD := hd_lo c.dr
  have hf := fr_lo x.un x.ta
  rw [gd_iff] at g1
  rcases Int.lt_or_le 0 (fr x.un x.ta) with hz | hz
  · by_cases d0 : x.ds = 0
    · obtain ⟨a1, a2⟩ := s2 hz d0
      left
      unfold rem opN clN
      rw [s0, a1, a2]
      simp only [d0, if_true]
      (repeat' split) <;> omega
    · obtain ⟨a1, a2, a3⟩ := s3 hz d0
      left
      unfold rem
      rw [s0, a1, a2, a3]
      unfold tS tA opN clN
      rcases g1 with ⟨q1, q2⟩ | ⟨q1, q2⟩ | ⟨q1 | q1, q2, q3⟩
      · exact absurd q1 d0
      · rw [q1, q2]; simp; (repeat' split) <;> omega
      · rw [q1]; simp; (repeat' split) <;> omega
      · rw [q1]; simp; (repeat' split) <;> omega
  · have hz0 : fr x.un x.ta = 0 := by omega
    obtain ⟨a1, a2, a3⟩ := s1 hz0
    unfold rem
    rw [s0, a1, a2, a3, hz0]
    unfold tS tA opN
    rcases g1 with ⟨q1, q2⟩ | ⟨q1, q2⟩ | ⟨q1 | q1, q2, q3⟩
    · left; rw [q1, q2]; simp; (repeat' split) <;> omega
    · right; rw [q1, q2]; simp
    · left; rw [q1]; simp; (repeat' split) <;> omega
    · left; rw [q1]; simp; (repeat' split) <;> omega
theorem goI_next {c : CfgV} {x : CarV} (h : GoI c x) : GoI c (tkV c x) ∧ (tkV c x).ta = x.ta := by
  obtain ⟨hm, h1, h2, h3, h4⟩ := h
  obtain ⟨e1, e2, e3, e4, e5, e6, e7, e8⟩ := tk_same c x
  exact ⟨⟨tk_may c x hm, e5.trans h1, e8.trans h2, e4.trans h3, e7.trans h4⟩, e6⟩
theorem tickG {c : CfgV} {x : CarV} (h : GoI c x) (w : World) : Calls Try.prog 40 #[.agg (cfgA c), .agg (carA x)] w fun e w' => e = .returned (.tuple #[.agg (carA (tkV c x)), .agg #[.int .i64 0, .int .i64 0], .bool false]) ∧ Since w w' := by
  have ht := may_ta h.1 h.2.1
  have q := tick_ld c x w h.2.2.2.1 h.2.1 ht.1 ht.2 (may_bd h.1).1
  rw [tk_lead h.2.2.2.1 h.2.1]
  exact q
end Go.Proofs.Ytdbbacpofgjgoaa.Ct
