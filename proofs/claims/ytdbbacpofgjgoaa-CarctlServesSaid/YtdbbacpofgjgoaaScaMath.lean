/-
  Plain facts on where a car goes next.
  No condition.
-/
import Derived.Test.YtdbbacpofgjgoaaScaRef
namespace Go.Proofs.Ytdbbacpofgjgoaa.Sc
set_option linter.unusedVariables false
set_option linter.unusedSimpArgs false
open Go.Proofs.Ytdbbacpofgjgoaa.St
theorem nx_sv {p u d f way j : Int} (h : nxO p u d f way j = true) : svB p u d f j = true := by
  unfold nxO at h
  split at h
  · exact h
  · unfold onO at h; simp at h; exact h.1
theorem sv_he {p u d f j : Int} (h : svB p u d f j = true) : heB p u d f = true := by unfold svB at h; simp at h; exact h.1
theorem nx_he {p u d f way j : Int} (h : nxO p u d f way j = true) : heB p u d f = true := sv_he (nx_sv h)
theorem nx_leaves {p u d f way : Int} (h : nxO p u d f way f = true) : ahB (al p u d) f 1 = false ∧ ahB (al p u d) f 2 = false := by
  have h1 := nx_sv h
  unfold svB at h1; simp at h1; exact h1.2
/-- Something elsewhere is ahead one way or the other. -/
theorem ahead_some {p u d f : Int} (hp : R p) (hu : R u) (hd : R d) (h : heB p u d f = false) (hf : 0 ≤ f ∧ f < 64) (hne : ¬ (p = 0 ∧ u = 0 ∧ d = 0)) : ahB (al p u d) f 1 = true ∨ ahB (al p u d) f 2 = true := by
  have hx := al_R hp hu hd
  have : ∃ i, i < 64 ∧ tb (al p u d) i = true := by
    apply Classical.byContradiction
    intro hn
    apply hne
    have z : ∀ i, i < 64 → tb p i = false ∧ tb u i = false ∧ tb d i = false := by
      intro i hi
      have h1 : tb (al p u d) i = false := by
        cases e : tb (al p u d) i
        · rfl
        · exact absurd ⟨i, hi, e⟩ hn
      rw [al_tb hp hu hd] at h1
      simp at h1
      exact ⟨h1.1.1, h1.1.2, h1.2⟩
    exact ⟨(zero_of hp).2 fun i hi => (z i hi).1, (zero_of hu).2 fun i hi => (z i hi).2.1, (zero_of hd).2 fun i hi => (z i hi).2.2⟩
  obtain ⟨i, hi, hb⟩ := this
  have hfi : f ≠ i := by
    intro e
    subst e
    unfold heB at h
    rw [mem_at _ _ hi] at h
    rw [h] at hb; cases hb
  rcases Int.lt_or_gt_of_ne hfi with h1 | h1
  · left; rw [ah_up, List.any_eq_true]; exact ⟨i, by simpa using hi, by simp [hb, h1]⟩
  · right; rw [ah_down, List.any_eq_true]; exact ⟨i, by simpa using hi, by simp [hb]; omega⟩
theorem fst2_or {a b : Bool} {x y : Int} (h : a = true ∨ b = true) : (fst2 a b x y = x ∧ a = true) ∨ (fst2 a b x y = y ∧ b = true) := by
  unfold fst2
  cases a
  · right; simp at h; simp [h]
  · left; simp
theorem nx_goes {p u d f way j : Int} (hp : R p) (hu : R u) (hd : R d) (hw : way = 0 ∨ way = 1 ∨ way = 2) (hf : 0 ≤ f ∧ f < 64) (hne : ¬ (p = 0 ∧ u = 0 ∧ d = 0)) (h : nxO p u d f way j = false) :
    (nxW p u d f way j = 1 ∨ nxW p u d f way j = 2) ∧ ahB (al p u d) f (nxW p u d f way j) = true := by
  have two : svB p u d f j = false → ahB (al p u d) f 1 = true ∨ ahB (al p u d) f 2 = true := by
    intro hs
    cases he : heB p u d f
    · exact ahead_some hp hu hd he hf hne
    · unfold svB at hs
      rw [he] at hs
      simp at hs
      cases e1 : ahB (al p u d) f 1
      · right
        cases e2 : ahB (al p u d) f 2
        · have := hs.2 e1; rw [e2] at this; cases this
        · rfl
      · exact .inl rfl
  rcases hw with rfl | hw
  · have hs : svB p u d f j = false := by unfold nxO at h; simpa using h
    have e : nxW p u d f 0 j = fst2 (ahB (al p u d) f 1) (ahB (al p u d) f 2) 1 2 := by unfold nxW stW; simp [hs]
    rw [e]
    rcases fst2_or (x := 1) (y := 2) (two hs) with ⟨e1, e2⟩ | ⟨e1, e2⟩ <;> rw [e1] <;> simp [e2]
  · have hz : way ≠ 0 := by omega
    have ho : onO p u d f way j = false := by unfold nxO at h; rwa [if_neg hz] at h
    have hW : nxW p u d f way j = onW p u d f way j := if_neg hz
    rw [hW]
    have both : ∀ {P : Int → Prop}, P 1 → P 2 → P way ∧ P (ot way) := by
      intro P h1 h2
      rcases hw with rfl | rfl <;> exact ⟨by assumption, by assumption⟩
    cases hs : svB p u d f j
    · have e : onW p u d f way j = fst2 (ahB (al p u d) f way) (ahB (al p u d) f (ot way)) way (ot way) := by unfold onW; rw [hs]; simp
      rw [e]
      have h2 : ahB (al p u d) f way = true ∨ ahB (al p u d) f (ot way) = true := by
        rcases hw with rfl | rfl
        · exact two hs
        · exact (two hs).symm
      have hot : ot way = 1 ∨ ot way = 2 := by rcases hw with rfl | rfl <;> simp [ot]
      rcases fst2_or (x := way) (y := ot way) h2 with ⟨e1, e2⟩ | ⟨e1, e2⟩
      · rw [e1]; exact ⟨hw, e2⟩
      · rw [e1]; exact ⟨hot, e2⟩
    · unfold onO at ho
      rw [hs] at ho
      simp at ho
      obtain ⟨⟨ha, hpr⟩, hon⟩ := ho
      have e : onW p u d f way j = way := by
        unfold onW
        rw [hs]
        simp [ha, hon, fst2]
      rw [e]
      exact ⟨hw, hon⟩
theorem nx_keeps {p u d f way j : Int} (hw : way = 1 ∨ way = 2) (h : ahB (al p u d) f way = true) : nxW p u d f way j = way := by
  have hz : way ≠ 0 := by omega
  have hW : nxW p u d f way j = onW p u d f way j := if_neg hz
  rw [hW]
  unfold onW fst2
  simp [h]
theorem nx_turn {p u d f way j : Int} (hw : way = 1 ∨ way = 2) (h : nxO p u d f way j = true) (k : atB u d f way = true) : nxW p u d f way j = way := by
  have hz : way ≠ 0 := by omega
  have hW : nxW p u d f way j = onW p u d f way j := if_neg hz
  rw [hW]
  unfold onW
  rw [nx_sv h]
  simp [k]
theorem nx_none (f way j : Int) : nxW 0 0 0 f way j = 0 ∧ nxO 0 0 0 f way j = false := by
  have ha : al 0 0 0 = 0 := by decide
  have hm : ∀ g, heB 0 0 0 g = false := by intro g; unfold heB mem; rw [ha]; simp [tb]
  have hb : ∀ way, ahB 0 f way = false := by
    intro way
    have : ∀ P : Nat → Bool, ((List.range 64).any fun i => tb 0 i && P i) = false := by intro P; rw [List.any_eq_false]; intro i _; simp [tb]
    unfold ahB; rw [this, this]; simp
  have hs : svB 0 0 0 f j = false := by unfold svB; rw [hm]; rfl
  refine ⟨?_, ?_⟩
  · unfold nxW stW onW fst2; rw [hs, ha]; simp [hb]
  · unfold nxO onO; rw [hs]; simp
end Go.Proofs.Ytdbbacpofgjgoaa.Sc
