/-
  Plain facts on places: floors, units, ways.
  No condition.
-/
namespace Go.Proofs.Ytdbbacpofgjgoaa.Mo
set_option linter.unusedVariables false
set_option linter.unusedSimpArgs false
def fl (n : Int) : Int := if n < 2 then 2 else if 64 < n then 64 else n
theorem fl_lo (n : Int) : 2 ≤ fl n := by unfold fl; repeat' split <;> omega
theorem fl_hi (n : Int) : fl n ≤ 64 := by unfold fl; repeat' split <;> omega
def lvB (u : Int) : Bool := decide (0 ≤ u ∧ u ≤ 252 ∧ u % 4 = 0)
def lvN (u : Int) : Int := if lvB u = true then u / 4 else 0
theorem lvB_iff (u : Int) : lvB u = true ↔ (0 ≤ u ∧ u ≤ 252 ∧ u % 4 = 0) := by unfold lvB; simp
theorem lvN_lo (u : Int) : 0 ≤ lvN u := by unfold lvN; split <;> (try rw [lvB_iff] at *) <;> omega
theorem lvN_hi (u : Int) : lvN u ≤ 63 := by unfold lvN; split <;> (try rw [lvB_iff] at *) <;> omega
def mv (u w f : Int) : Int := if w = 1 ∧ u < 4 * (fl f - 1) then u + 1 else if w = 2 ∧ 0 < u then u - 1 else u
def tw (u f : Int) : Int := if u < 4 * f then 1 else if 4 * f < u then 2 else 0
def fr (u f : Int) : Int := if u - 4 * f < 0 then 4 * f - u else u - 4 * f
theorem fr_lo (u f : Int) : 0 ≤ fr u f := by unfold fr; split <;> omega
theorem mv_in (u w f : Int) (h0 : 0 ≤ u) (h1 : u ≤ 4 * (fl f - 1)) : 0 ≤ mv u w f ∧ mv u w f ≤ 4 * (fl f - 1) := by unfold mv; have := fl_lo f; repeat' split <;> omega
theorem mv_near (u w f : Int) : mv u w f - u ≤ 1 ∧ u - mv u w f ≤ 1 := by unfold mv; repeat' split <;> omega
/-- One unit nearer. -/
theorem tw_some (x f : Int) (h : 0 < fr x f) : tw x f = 1 ∨ tw x f = 2 := by unfold tw; unfold fr at h; repeat' split <;> omega
theorem tw_none (x f : Int) (h : fr x f = 0) : tw x f = 0 ∧ x = 4 * f := by unfold tw; unfold fr at h; split at h <;> (refine ⟨?_, by omega⟩; repeat' split <;> omega)
theorem nearer (x f : Int) (h0 : 0 ≤ x) (h1 : x ≤ 252) (f0 : 0 ≤ f) (f1 : f ≤ 63) (h : 0 < fr x f) : fr (mv x (tw x f) 64) f = fr x f - 1 ∧ 0 ≤ mv x (tw x f) 64 ∧ mv x (tw x f) 64 ≤ 252 := by
  have e : fl 64 = 64 := by decide
  unfold fr at h
  unfold mv tw fr
  rw [e]
  rcases (show x < 4 * f ∨ 4 * f < x by split at h <;> omega) with hl | hl
  · simp [hl]
    split <;> (try split) <;> (try split) <;> omega
  · have hn : ¬ x < 4 * f := by omega
    simp [hl, hn]
    split <;> (try split) <;> (try split) <;> omega
theorem far_lv (f : Int) (f0 : 0 ≤ f) (f1 : f ≤ 63) : lvB (4 * f) = true ∧ lvN (4 * f) = f := by
  have h : lvB (4 * f) = true := by rw [lvB_iff]; omega
  refine ⟨h, ?_⟩
  unfold lvN; rw [if_pos h]; omega
end Go.Proofs.Ytdbbacpofgjgoaa.Mo
