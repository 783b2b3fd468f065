/-
  Plain facts on cars: how one is behind a step; which ones are good, and safe.
  No condition.
-/
import Derived.Test.YtdbbacpofgjgoaaDoorMath
import Derived.Test.YtdbbacpofgjgoaaMotMath
import Derived.Test.YtdbbacpofgjgoaaTyp
namespace Go.Proofs.Ytdbbacpofgjgoaa.Pl
set_option linter.unusedVariables false
set_option linter.unusedSimpArgs false
open Go.Proofs.Ytdbbacpofgjgoaa.Do Go.Proofs.Ytdbbacpofgjgoaa.Mo Go.Proofs.Ytdbbacpofgjgoaa.Ty
def newC : CarV := ⟨0, 0, 0, 0, 0, -1, 0, false, false, 0, 0, false, 0, 0, 0⟩
/-- The door's state, as it is told. -/
def toldS (ds un : Int) (o k : Bool) : Int := if o = true ∧ lvB un = true then oS ds else if k = true then cS ds else ds
/-- The door's state ahead of its tick; behind it; its place. -/
def dS0 (x : CarV) (o k : Bool) : Int := if x.br = true then x.ds else toldS x.ds x.un o k
def dS1 (c : CfgV) (x : CarV) (o k : Bool) : Int := tS (dS0 x o k) x.da c.dr x.bl
def dA1 (c : CfgV) (x : CarV) (o k : Bool) : Int := tA (dS0 x o k) x.da c.dr x.bl
/-- Does it move? -/
def goesB (c : CfgV) (x : CarV) (r : Int) (o k : Bool) : Bool := decide (x.br = false ∧ x.ds = 0 ∧ dS1 c x o k = 0 ∧ (r = 1 ∨ r = 2))
def wy1 (c : CfgV) (x : CarV) (r : Int) (o k : Bool) : Int := if goesB c x r o k = true then r else x.wy
def un1 (c : CfgV) (x : CarV) (r : Int) (o k : Bool) : Int := if goesB c x r o k = true then mv x.un r c.fl else x.un
def stepV (c : CfgV) (x : CarV) (r : Int) (o k : Bool) : CarV := { x with ds := dS1 c x o k, da := dA1 c x o k, wy := wy1 c x r o k, un := un1 c x r o k }
def safeB (x : CarV) : Bool := decide (x.ds = 0 ∨ lvB x.un = true)
def goodB (c : CfgV) (x : CarV) : Bool := decide (gd x.ds x.da c.dr = true ∧ 0 ≤ x.un ∧ x.un ≤ 4 * (fl c.fl - 1) ∧ (x.wy = 0 ∨ x.wy = 1 ∨ x.wy = 2) ∧ (x.ds = 0 ∨ lvB x.un = true))
theorem goodB_iff (c : CfgV) (x : CarV) : goodB c x = true ↔ (gd x.ds x.da c.dr = true ∧ 0 ≤ x.un ∧ x.un ≤ 4 * (fl c.fl - 1) ∧ (x.wy = 0 ∨ x.wy = 1 ∨ x.wy = 2) ∧ (x.ds = 0 ∨ lvB x.un = true)) := by unfold goodB; simp
theorem safeB_iff (x : CarV) : safeB x = true ↔ (x.ds = 0 ∨ lvB x.un = true) := by unfold safeB; simp
theorem gd_told (ds da t un : Int) (o k : Bool) (h : gd ds da t = true) : gd (toldS ds un o k) da t = true := by
  unfold toldS
  split
  · exact gd_open _ _ _ h
  · split
    · exact gd_close _ _ _ h
    · exact h
theorem gd_0 (x : CarV) (t : Int) (o k : Bool) (h : gd x.ds x.da t = true) : gd (dS0 x o k) x.da t = true := by
  unfold dS0; split
  · exact h
  · exact gd_told _ _ _ _ _ _ h
/-- From a closed door, told to open away from a floor, it stays closed. -/
theorem stays_shut (c : CfgV) (x : CarV) (o k : Bool) (h : gd x.ds x.da c.dr = true) (h0 : x.ds = 0) (hl : lvB x.un = false) : dS1 c x o k = 0 := by
  have : dS0 x o k = 0 := by
    unfold dS0 toldS cS
    rw [hl, h0]; simp
  unfold dS1; rw [this]; unfold tS; simp
theorem good_step (c : CfgV) (x : CarV) (r : Int) (o k : Bool) (h : goodB c x = true) : goodB c (stepV c x r o k) = true := by
  rw [goodB_iff] at h ⊢
  obtain ⟨h1, h2, h3, h4, h5⟩ := h
  have g1 : gd (dS1 c x o k) (dA1 c x o k) c.dr = true := gd_tick _ _ _ _ (gd_0 x _ o k h1)
  refine ⟨g1, ?_, ?_, ?_, ?_⟩
  · show 0 ≤ un1 c x r o k
    unfold un1; split
    · exact (mv_in _ _ _ h2 h3).1
    · exact h2
  · show un1 c x r o k ≤ _
    unfold un1; split
    · exact (mv_in _ _ _ h2 h3).2
    · exact h3
  · show wy1 c x r o k = 0 ∨ wy1 c x r o k = 1 ∨ wy1 c x r o k = 2
    unfold wy1; split
    · rename_i hg; unfold goesB at hg; simp at hg; omega
    · exact h4
  · show dS1 c x o k = 0 ∨ lvB (un1 c x r o k) = true
    by_cases hg : goesB c x r o k = true
    · left; unfold goesB at hg; simp at hg; exact hg.2.2.1
    · have e : un1 c x r o k = x.un := by unfold un1; rw [if_neg hg]
      rw [e]
      rcases h5 with h5 | h5
      · by_cases hl : lvB x.un = true
        · exact .inr hl
        · exact .inl (stays_shut c x o k h1 h5 (by simpa using hl))
      · exact .inr h5
theorem good_safe (c : CfgV) (x : CarV) (h : goodB c x = true) : safeB x = true := by
  rw [goodB_iff] at h; rw [safeB_iff]; exact h.2.2.2.2
theorem good_bd (c : CfgV) (x : CarV) (h : goodB c x = true) : 0 ≤ x.da ∧ x.da ≤ 1000 ∧ 0 ≤ x.un ∧ x.un ≤ 252 := by
  rw [goodB_iff] at h
  have := gd_bd _ _ _ h.1
  have := fl_hi c.fl
  omega
end Go.Proofs.Ytdbbacpofgjgoaa.Pl
