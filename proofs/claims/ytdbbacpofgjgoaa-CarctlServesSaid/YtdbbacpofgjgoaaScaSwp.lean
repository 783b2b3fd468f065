/-
  How far a car goes still that goes as it is told: each stop's bound of moves.
  No condition.
-/
import Derived.Test.YtdbbacpofgjgoaaScaMath
namespace Go.Proofs.Ytdbbacpofgjgoaa.Sc
set_option linter.unusedVariables false
set_option linter.unusedSimpArgs false
open Go.Proofs.Ytdbbacpofgjgoaa.St
theorem al_has {p u d : Int} (hp : R p) (hu : R u) (hd : R d) (i : Nat) : tb (al p u d) i = true ↔ (tb p i = true ∨ tb u i = true ∨ tb d i = true) := by
  rw [al_tb hp hu hd]; simp [or_assoc]
theorem ah1_iff {p u d : Int} (hp : R p) (hu : R u) (hd : R d) (f : Int) : ahB (al p u d) f 1 = true ↔ ∃ i, i < 64 ∧ (tb p i = true ∨ tb u i = true ∨ tb d i = true) ∧ f < (i : Int) := by
  rw [ah_up, List.any_eq_true]
  constructor
  · rintro ⟨i, hi, hb⟩
    simp only [Bool.and_eq_true, decide_eq_true_eq] at hb
    exact ⟨i, by simpa using hi, (al_has hp hu hd i).1 hb.1, hb.2⟩
  · rintro ⟨i, hi, hb, hf⟩
    exact ⟨i, by simpa using hi, by simp only [Bool.and_eq_true, decide_eq_true_eq]; exact ⟨(al_has hp hu hd i).2 hb, hf⟩⟩
theorem ah2_iff {p u d : Int} (hp : R p) (hu : R u) (hd : R d) (f : Int) : ahB (al p u d) f 2 = true ↔ ∃ i, i < 64 ∧ (tb p i = true ∨ tb u i = true ∨ tb d i = true) ∧ (i : Int) < f := by
  rw [ah_down, List.any_eq_true]
  constructor
  · rintro ⟨i, hi, hb⟩
    simp only [Bool.and_eq_true, decide_eq_true_eq] at hb
    exact ⟨i, by simpa using hi, (al_has hp hu hd i).1 hb.1, hb.2⟩
  · rintro ⟨i, hi, hb, hf⟩
    exact ⟨i, by simpa using hi, by simp only [Bool.and_eq_true, decide_eq_true_eq]; exact ⟨(al_has hp hu hd i).2 hb, hf⟩⟩
theorem he_or {p u d : Int} (hp : R p) (hu : R u) (hd : R d) (f : Int) : heB p u d f = (mem p f || mem u f || mem d f) := al_mem hp hu hd f
theorem pr_mem {p : Int} (hp : R p) (f : Int) : heB p 0 0 f = mem p f := by
  rw [he_or hp R.zero R.zero]; simp [mem, tb]
theorem at1 (u d f : Int) : atB u d f 1 = mem u f := by unfold atB; simp
theorem at2 (u d f : Int) : atB u d f 2 = mem d f := by unfold atB; simp
/-- The plain words behind where it goes: a, b: is there one ahead, behind; h: one here; t, s: a call here that way, the other way; q: pressed; e: did it open here just now? -/
def pO (a b h t q e : Bool) : Bool := (h && (!e || (!a && !b))) && (t || (q && a) || !a)
def pW (a b h t s q e : Bool) (x y : Int) : Int :=
  if (h && (!e || (!a && !b))) = true then (if t = true ∨ (q = true ∧ a = true) then x else if a = false ∧ s = true then y else if a = false then x else fst2 a b x y) else fst2 a b x y
theorem on1 (p u d f j : Int) : nxO p u d f 1 j = pO (ahB (al p u d) f 1) (ahB (al p u d) f 2) (heB p u d f) (atB u d f 1) (heB p 0 0 f) (f == j) ∧ nxW p u d f 1 j = pW (ahB (al p u d) f 1) (ahB (al p u d) f 2) (heB p u d f) (atB u d f 1) (atB u d f 2) (heB p 0 0 f) (f == j) 1 2 := by
  unfold nxO nxW onO onW svB pO pW ot
  simp
theorem on2 (p u d f j : Int) : nxO p u d f 2 j = pO (ahB (al p u d) f 2) (ahB (al p u d) f 1) (heB p u d f) (atB u d f 2) (heB p 0 0 f) (f == j) ∧ nxW p u d f 2 j = pW (ahB (al p u d) f 2) (ahB (al p u d) f 1) (heB p u d f) (atB u d f 2) (atB u d f 1) (heB p 0 0 f) (f == j) 2 1 := by
  unfold nxO nxW onO onW svB pO pW ot
  rw [Bool.and_comm (!ahB (al p u d) f 1) (!ahB (al p u d) f 2)]
  simp
theorem p_move {a b h t s q e : Bool} {x y : Int} (hq : q = true → h = true) (ht : t = true → h = true) (ho : pO a b h t q e = false) :
    (pW a b h t s q e x y = x ∧ a = true ∧ (e = false → q = false ∧ t = false)) ∨ (pW a b h t s q e x y = y ∧ a = false ∧ b = true ∧ (e = false → h = false)) ∨ (pW a b h t s q e x y = 0 ∧ a = false ∧ b = false ∧ h = false) := by
  revert hq ht ho
  cases a <;> cases b <;> cases h <;> cases t <;> cases q <;> cases e <;> simp [pO, pW, fst2]
theorem p_open {a b h t s q e : Bool} {x y : Int} (ho : pO a b h t q e = true) :
    h = true ∧ ((pW a b h t s q e x y = x ∧ (t = true ∨ (q = true ∧ a = true) ∨ (a = false ∧ s = false))) ∨ (pW a b h t s q e x y = y ∧ a = false ∧ t = false ∧ s = true)) := by
  revert ho
  cases a <;> cases b <;> cases h <;> cases t <;> cases s <;> cases q <;> cases e <;> simp [pO, pW, fst2]
/-- The moves' bound for a press, a call up, a call down at floor g, from floor f, going w; m: the highest floor. -/
def Bp (m f w g : Int) : Int := if w = 1 then (if f ≤ g then g - f else (m - f) + (m - g)) else (if g ≤ f then f - g else f + g)
def Bu (m f w g : Int) : Int := if w = 1 then (if f ≤ g then g - f else (m - f) + m + g) else f + g
def Bd (m f w g : Int) : Int := if w = 1 then (m - f) + (m - g) else (if g ≤ f then f - g else f + m + (m - g))
theorem B_hi {m f w g : Int} (h0 : 0 ≤ f) (h1 : f ≤ m) (g0 : 0 ≤ g) (g1 : g ≤ m) : Bp m f w g ≤ 2 * m ∧ Bu m f w g ≤ 2 * m ∧ Bd m f w g ≤ 2 * m := by
  unfold Bp Bu Bd
  refine ⟨?_, ?_, ?_⟩ <;> (repeat' split) <;> omega
/-- What holds of a car that goes as it is told: at most n moves are to come. -/
def Sw (m p u d f w j n : Int) : Prop :=
  (0 ≤ f ∧ f ≤ m ∧ m ≤ 63 ∧ 0 ≤ n) ∧ (w = 0 ∨ w = 1 ∨ w = 2) ∧ (R p ∧ R u ∧ R d) ∧ (∀ g : Nat, g < 64 → (tb p g = true ∨ tb u g = true ∨ tb d g = true) → (g : Int) ≤ m) ∧
  (j = f → mem p f = false ∧ (¬ w = 2 → mem u f = false) ∧ (¬ w = 1 → mem d f = false)) ∧ (w = 0 → 4 * m + 1 ≤ n) ∧
  (¬ w = 0 → ∀ g : Nat, g < 64 → (tb p g = true → Bp m f w g ≤ n) ∧
    (tb u g = true → Bu m f w g ≤ n ∧ ((tb d g = true ∨ (j = f ∧ (g : Int) = f ∧ w = 2 ∧ ahB (al p u d) f 2 = false)) → Bu m f w g + 2 * m ≤ n)) ∧
    (tb d g = true → Bd m f w g ≤ n ∧ ((tb u g = true ∨ (j = f ∧ (g : Int) = f ∧ w = 1 ∧ ahB (al p u d) f 1 = false)) → Bd m f w g + 2 * m ≤ n)))
theorem tb_of {x f : Int} {g : Nat} (hg : (g : Int) = f) (h : mem x f = false) (hb : tb x g = true) (h64 : g < 64) : False := by
  subst hg
  rw [mem_at _ _ h64, hb] at h
  cases h
/-- It goes nowhere: nothing is left. -/
theorem sw_none {p u d f w j : Int} (hp : R p) (hu : R u) (hd : R d) (hf : 0 ≤ f ∧ f < 64) (hw : w = 0 ∨ w = 1 ∨ w = 2) (ho : nxO p u d f w j = false) (hx : nxW p u d f w j = 0) : p = 0 ∧ u = 0 ∧ d = 0 := by
  apply Classical.byContradiction
  intro hn
  have := (nx_goes hp hu hd hw hf hn ho).1
  omega
/-- It moves: one of the moves is gone. -/
theorem sw_move {m p u d f w j n : Int} (h : Sw m p u d f w j n) (ho : nxO p u d f w j = false) (hx : ¬ nxW p u d f w j = 0) :
    Sw m p u d (if nxW p u d f w j = 1 then f + 1 else f - 1) (nxW p u d f w j) (-1) (n - 1) := by
  obtain ⟨⟨f0, f1, m1, n0⟩, hw, ⟨hp, hu, hd⟩, hr, hj, h0, hb⟩ := h
  have hz : ¬ (p = 0 ∧ u = 0 ∧ d = 0) := by
    rintro ⟨rfl, rfl, rfl⟩
    exact hx (nx_none f w j).1
  obtain ⟨hx12, hah⟩ := nx_goes hp hu hd hw ⟨f0, by omega⟩ hz ho
  -- where it comes to is a floor
  have hf' : 0 ≤ (if nxW p u d f w j = 1 then f + 1 else f - 1) ∧ (if nxW p u d f w j = 1 then f + 1 else f - 1) ≤ m := by
    rcases hx12 with e | e
    · rw [e] at hah ⊢
      obtain ⟨i, hi, hb', hl⟩ := (ah1_iff hp hu hd f).1 hah
      have := hr i hi hb'
      simp; omega
    · rw [e] at hah ⊢
      obtain ⟨i, hi, hb', hl⟩ := (ah2_iff hp hu hd f).1 hah
      simp; omega
  have hjn : ¬ (-1 : Int) = (if nxW p u d f w j = 1 then f + 1 else f - 1) := by have := hf'.1; omega
  have hpr : heB p 0 0 f = true → heB p u d f = true := by rw [pr_mem hp, he_or hp hu hd]; intro h; simp [h]
  have ht1 : atB u d f 1 = true → heB p u d f = true := by rw [at1, he_or hp hu hd]; intro h; simp [h]
  have ht2 : atB u d f 2 = true → heB p u d f = true := by rw [at2, he_or hp hu hd]; intro h; simp [h]
  have hn1 : 0 ≤ n - 1 := by
    rcases hw with rfl | hw'
    · have := h0 rfl; omega
    · have hw0 : ¬ w = 0 := by omega
      obtain ⟨i, hi, hb', hl⟩ : ∃ i : Nat, i < 64 ∧ (tb p i = true ∨ tb u i = true ∨ tb d i = true) ∧ ¬ (i : Int) = f := by
        rcases hx12 with e | e
        · rw [e] at hah
          obtain ⟨i, hi, hb', hl⟩ := (ah1_iff hp hu hd f).1 hah
          exact ⟨i, hi, hb', by omega⟩
        · rw [e] at hah
          obtain ⟨i, hi, hb', hl⟩ := (ah2_iff hp hu hd f).1 hah
          exact ⟨i, hi, hb', by omega⟩
      have hm := hr i hi hb'
      obtain ⟨b1, b2, b3⟩ := hb hw0 i hi
      have i0 : (0 : Int) ≤ i := by omega
      rcases hb' with h | h | h
      · have := b1 h; unfold Bp at this; (repeat' split at this) <;> omega
      · have := (b2 h).1; unfold Bu at this; (repeat' split at this) <;> omega
      · have := (b3 h).1; unfold Bd at this; (repeat' split at this) <;> omega
  refine ⟨⟨hf'.1, hf'.2, m1, hn1⟩, by omega, ⟨hp, hu, hd⟩, hr, fun h => absurd h hjn, fun h => absurd h hx, fun _ g hg => ?_⟩
  have g0 : (0 : Int) ≤ g := by omega
  rcases hw with rfl | rfl | rfl
  · -- from standing still: whatever the bound, it is below 4 m
    have hn4 := h0 rfl
    refine ⟨fun hb' => ?_, fun hb' => ?_, fun hb' => ?_⟩
    · have := (B_hi (w := nxW p u d f 0 j) hf'.1 hf'.2 g0 (hr g hg (.inl hb'))).1; omega
    · have := (B_hi (w := nxW p u d f 0 j) hf'.1 hf'.2 g0 (hr g hg (.inr (.inl hb')))).2.1; constructor <;> (try intro _) <;> omega
    · have := (B_hi (w := nxW p u d f 0 j) hf'.1 hf'.2 g0 (hr g hg (.inr (.inr hb')))).2.2; constructor <;> (try intro _) <;> omega
  · obtain ⟨b1, b2, b3⟩ := hb (by decide) g hg
    obtain ⟨eO, eW⟩ := on1 p u d f j
    rw [eO] at ho
    rw [eW] at hx ⊢
    rcases p_move (s := atB u d f 2) (x := 1) (y := 2) hpr ht1 ho with ⟨e, ha, hq⟩ | ⟨e, ha, hb2, hq⟩ | ⟨e, _⟩
    · rw [e]
      have np : tb p g = true → ¬ (g : Int) = f := fun k e1 => by
        by_cases hjf : f = j
        · exact tb_of e1 (hj hjf.symm).1 k hg
        · have := (hq (by simpa using hjf)).1; rw [pr_mem hp] at this; exact tb_of e1 this k hg
      have nu : tb u g = true → ¬ (g : Int) = f := fun k e1 => by
        by_cases hjf : f = j
        · exact tb_of e1 ((hj hjf.symm).2.1 (by decide)) k hg
        · have := (hq (by simpa using hjf)).2; rw [at1] at this; exact tb_of e1 this k hg
      simp only [if_true]
      refine ⟨fun hb' => ?_, fun hb' => ⟨?_, fun hc => ?_⟩, fun hb' => ⟨?_, fun hc => ?_⟩⟩
      · have k1 := b1 hb'; have k2 := np hb'; unfold Bp at k1 ⊢; simp only [if_true] at k1 ⊢; (repeat' split) <;> (repeat' split at k1) <;> omega
      · have k1 := (b2 hb').1; have k2 := nu hb'; unfold Bu at k1 ⊢; simp only [if_true] at k1 ⊢; (repeat' split) <;> (repeat' split at k1) <;> omega
      · have k1 := (b2 hb').2 (.inl (by rcases hc with hc | ⟨hc, _⟩; exact hc; omega)); have k2 := nu hb'; unfold Bu at k1 ⊢; simp only [if_true] at k1 ⊢; (repeat' split) <;> (repeat' split at k1) <;> omega
      · have k1 := (b3 hb').1; unfold Bd at k1 ⊢; simp only [if_true] at k1 ⊢; omega
      · have k1 := (b3 hb').2 (.inl (by rcases hc with hc | ⟨hc, _⟩; exact hc; omega)); unfold Bd at k1 ⊢; simp only [if_true] at k1 ⊢; omega
    · rw [e]
      have up : (tb p g = true ∨ tb u g = true ∨ tb d g = true) → (g : Int) ≤ f := fun k => by
        apply Classical.byContradiction
        intro hgt
        have := (ah1_iff hp hu hd f).2 ⟨g, hg, k, by omega⟩
        rw [ha] at this; cases this
      have here : ¬ f = j → (tb p g = true ∨ tb u g = true ∨ tb d g = true) → ¬ (g : Int) = f := fun hjf k e1 => by
        have hh := hq (by simpa using hjf)
        rw [he_or hp hu hd] at hh
        simp only [Bool.or_eq_false_iff] at hh
        rcases k with k | k | k
        · exact tb_of e1 hh.1.1 k hg
        · exact tb_of e1 hh.1.2 k hg
        · exact tb_of e1 hh.2 k hg
      have np : tb p g = true → ¬ (g : Int) = f := fun k => by
        by_cases hjf : f = j
        · exact fun e1 => tb_of e1 (hj hjf.symm).1 k hg
        · exact here hjf (.inl k)
      have nu : tb u g = true → ¬ (g : Int) = f := fun k => by
        by_cases hjf : f = j
        · exact fun e1 => tb_of e1 ((hj hjf.symm).2.1 (by decide)) k hg
        · exact here hjf (.inr (.inl k))
      simp only [show ¬ ((2 : Int) = 1) by decide, if_false]
      refine ⟨fun hb' => ?_, fun hb' => ⟨?_, fun hc => ?_⟩, fun hb' => ⟨?_, fun hc => ?_⟩⟩
      · have k1 := b1 hb'; have k2 := np hb'; have k3 := up (.inl hb'); unfold Bp at k1 ⊢; simp at k1 ⊢; (repeat' split) <;> (repeat' split at k1) <;> omega
      · have k1 := (b2 hb').1; have k2 := nu hb'; have k3 := up (.inr (.inl hb')); unfold Bu at k1 ⊢; simp at k1 ⊢; (repeat' split at k1) <;> omega
      · have k1 := (b2 hb').2 (.inl (by rcases hc with hc | ⟨hc, _⟩; exact hc; omega)); have k2 := nu hb'; have k3 := up (.inr (.inl hb')); unfold Bu at k1 ⊢; simp at k1 ⊢; (repeat' split at k1) <;> omega
      · have k3 := up (.inr (.inr hb'))
        by_cases e1 : (g : Int) = f
        · have hjf : f = j := Classical.byContradiction fun hjf => here hjf (.inr (.inr hb')) e1
          have k1 := (b3 hb').2 (.inr ⟨hjf.symm, e1, rfl, ha⟩); unfold Bd at k1 ⊢; simp at k1 ⊢; (repeat' split) <;> omega
        · have k1 := (b3 hb').1; unfold Bd at k1 ⊢; simp at k1 ⊢; (repeat' split) <;> omega
      · have hc' : tb u g = true := by rcases hc with hc | ⟨hc, _⟩; exact hc; omega
        have k2 := nu hc'
        have k3 := up (.inr (.inr hb'))
        have k1 := (b3 hb').2 (.inl hc'); unfold Bd at k1 ⊢; simp at k1 ⊢; (repeat' split) <;> omega
    · exact absurd e hx
  · obtain ⟨b1, b2, b3⟩ := hb (by decide) g hg
    obtain ⟨eO, eW⟩ := on2 p u d f j
    rw [eO] at ho
    rw [eW] at hx ⊢
    rcases p_move (s := atB u d f 1) (x := 2) (y := 1) hpr ht2 ho with ⟨e, ha, hq⟩ | ⟨e, ha, hb2, hq⟩ | ⟨e, _⟩
    · rw [e]
      have np : tb p g = true → ¬ (g : Int) = f := fun k e1 => by
        by_cases hjf : f = j
        · exact tb_of e1 (hj hjf.symm).1 k hg
        · have := (hq (by simpa using hjf)).1; rw [pr_mem hp] at this; exact tb_of e1 this k hg
      have nd : tb d g = true → ¬ (g : Int) = f := fun k e1 => by
        by_cases hjf : f = j
        · exact tb_of e1 ((hj hjf.symm).2.2 (by decide)) k hg
        · have := (hq (by simpa using hjf)).2; rw [at2] at this; exact tb_of e1 this k hg
      have gm : (tb p g = true ∨ tb u g = true ∨ tb d g = true) → (g : Int) ≤ m := hr g hg
      simp only [show ¬ ((2 : Int) = 1) by decide, if_false]
      refine ⟨fun hb' => ?_, fun hb' => ⟨?_, fun hc => ?_⟩, fun hb' => ⟨?_, fun hc => ?_⟩⟩
      · have k1 := b1 hb'; have k2 := np hb'; unfold Bp at k1 ⊢; simp at k1 ⊢; (repeat' split) <;> (repeat' split at k1) <;> omega
      · have k1 := (b2 hb').1; unfold Bu at k1 ⊢; simp at k1 ⊢; omega
      · have k1 := (b2 hb').2 (.inl (by rcases hc with hc | ⟨hc, _⟩; exact hc; omega)); unfold Bu at k1 ⊢; simp at k1 ⊢; omega
      · have k1 := (b3 hb').1; have k2 := nd hb'; unfold Bd at k1 ⊢; simp at k1 ⊢; (repeat' split) <;> (repeat' split at k1) <;> omega
      · have k1 := (b3 hb').2 (.inl (by rcases hc with hc | ⟨hc, _⟩; exact hc; omega)); have k2 := nd hb'; unfold Bd at k1 ⊢; simp at k1 ⊢; (repeat' split) <;> (repeat' split at k1) <;> omega
    · rw [e]
      have up : (tb p g = true ∨ tb u g = true ∨ tb d g = true) → f ≤ (g : Int) := fun k => by
        apply Classical.byContradiction
        intro hgt
        have := (ah2_iff hp hu hd f).2 ⟨g, hg, k, by omega⟩
        rw [ha] at this; cases this
      have gm : (tb p g = true ∨ tb u g = true ∨ tb d g = true) → (g : Int) ≤ m := hr g hg
      have here : ¬ f = j → (tb p g = true ∨ tb u g = true ∨ tb d g = true) → ¬ (g : Int) = f := fun hjf k e1 => by
        have hh := hq (by simpa using hjf)
        rw [he_or hp hu hd] at hh
        simp only [Bool.or_eq_false_iff] at hh
        rcases k with k | k | k
        · exact tb_of e1 hh.1.1 k hg
        · exact tb_of e1 hh.1.2 k hg
        · exact tb_of e1 hh.2 k hg
      have np : tb p g = true → ¬ (g : Int) = f := fun k => by
        by_cases hjf : f = j
        · exact fun e1 => tb_of e1 (hj hjf.symm).1 k hg
        · exact here hjf (.inl k)
      have nd : tb d g = true → ¬ (g : Int) = f := fun k => by
        by_cases hjf : f = j
        · exact fun e1 => tb_of e1 ((hj hjf.symm).2.2 (by decide)) k hg
        · exact here hjf (.inr (.inr k))
      simp only [if_true]
      refine ⟨fun hb' => ?_, fun hb' => ⟨?_, fun hc => ?_⟩, fun hb' => ⟨?_, fun hc => ?_⟩⟩
      · have k1 := b1 hb'; have k2 := np hb'; have k3 := up (.inl hb'); have k4 := gm (.inl hb'); unfold Bp at k1 ⊢; simp at k1 ⊢; (repeat' split) <;> (repeat' split at k1) <;> omega
      · have k3 := up (.inr (.inl hb')); have k4 := gm (.inr (.inl hb'))
        by_cases e1 : (g : Int) = f
        · have hjf : f = j := Classical.byContradiction fun hjf => here hjf (.inr (.inl hb')) e1
          have k1 := (b2 hb').2 (.inr ⟨hjf.symm, e1, rfl, ha⟩); unfold Bu at k1 ⊢; simp at k1 ⊢; (repeat' split) <;> omega
        · have k1 := (b2 hb').1; unfold Bu at k1 ⊢; simp at k1 ⊢; (repeat' split) <;> omega
      · have hc' : tb d g = true := by rcases hc with hc | ⟨hc, _⟩; exact hc; omega
        have k2 := nd hc'
        have k3 := up (.inr (.inl hb')); have k4 := gm (.inr (.inl hb'))
        have k1 := (b2 hb').2 (.inl hc'); unfold Bu at k1 ⊢; simp at k1 ⊢; (repeat' split) <;> omega
      · have k1 := (b3 hb').1; have k2 := nd hb'; have k3 := up (.inr (.inr hb')); have k4 := gm (.inr (.inr hb')); unfold Bd at k1 ⊢; simp at k1 ⊢; (repeat' split at k1) <;> omega
      · have k1 := (b3 hb').2 (.inl (by rcases hc with hc | ⟨hc, _⟩; exact hc; omega)); have k2 := nd hb'; have k3 := up (.inr (.inr hb')); have k4 := gm (.inr (.inr hb')); unfold Bd at k1 ⊢; simp at k1 ⊢; (repeat' split at k1) <;> omega
    · exact absurd e hx
/-- How many bits. -/
def bc (x : Int) : Nat := (List.range 64).countP fun i => tb x i
theorem bc_hi (x : Int) : bc x ≤ 64 := by
  unfold bc
  refine Nat.le_trans List.countP_le_length ?_
  simp
theorem cp_le {P Q : Nat → Bool} (h : ∀ i, P i = true → Q i = true) : ∀ l : List Nat, l.countP P ≤ l.countP Q
  | [] => by simp
  | a :: l => by
    have ih := cp_le h l
    rw [List.countP_cons, List.countP_cons]
    cases e : P a
    · simp; omega
    · rw [h a e]; simp; exact ih
theorem cp_lt {P Q : Nat → Bool} (h : ∀ i, P i = true → Q i = true) {k : Nat} (h1 : Q k = true) (h2 : P k = false) : ∀ l : List Nat, k ∈ l → l.countP P < l.countP Q
  | [], hk => by cases hk
  | a :: l, hk => by
    rw [List.countP_cons, List.countP_cons]
    have ih := cp_le h l
    rcases List.mem_cons.1 hk with rfl | hk
    · rw [h1, h2]; simp; omega
    · have := cp_lt h h1 h2 l hk
      cases e : P a
      · simp; omega
      · rw [h a e]; simp; exact this
theorem an_bit {x f : Int} (hx : R x) (hf : 0 ≤ f ∧ f < 64) (g : Nat) : tb (bits .andNot .u64 x (bit f)) g = true ↔ (tb x g = true ∧ ¬ (g : Int) = f) := by
  rw [an_tb hx (bit_R f), bit_tb]
  simp
  intro _
  omega
theorem bc_an {x f : Int} (hx : R x) (hf : 0 ≤ f ∧ f < 64) : bc (bits .andNot .u64 x (bit f)) ≤ bc x := cp_le (fun i hi => ((an_bit hx hf i).1 hi).1) _
theorem bc_an_lt {x f : Int} (hx : R x) (hf : 0 ≤ f ∧ f < 64) (hm : mem x f = true) : bc (bits .andNot .u64 x (bit f)) < bc x := by
  obtain ⟨k, rfl⟩ : ∃ k : Nat, f = k := ⟨f.toNat, by omega⟩
  have hk : k < 64 := by omega
  rw [mem_at _ _ hk] at hm
  refine cp_lt (fun i hi => ((an_bit hx hf i).1 hi).1) hm ?_ _ (by simpa using hk)
  rw [Bool.eq_false_iff]
  intro h
  exact ((an_bit hx hf k).1 h).2 rfl
theorem clU_bit {x f w : Int} (hx : R x) (hf : 0 ≤ f ∧ f < 64) (g : Nat) : tb (clU x f w) g = true ↔ (tb x g = true ∧ ¬ ((g : Int) = f ∧ w = 1)) := by
  unfold clU
  split
  · rename_i e; rw [an_bit hx hf]; simp [e]
  · rename_i e; simp [e]
theorem clD_bit {x f w : Int} (hx : R x) (hf : 0 ≤ f ∧ f < 64) (g : Nat) : tb (clD x f w) g = true ↔ (tb x g = true ∧ ¬ ((g : Int) = f ∧ w = 2)) := by
  unfold clD
  split
  · rename_i e; rw [an_bit hx hf]; simp [e]
  · rename_i e; simp [e]
theorem clU_R {x : Int} (hx : R x) (f w : Int) : R (clU x f w) := by unfold clU; split; exact an_R hx (bit_R f); exact hx
theorem clD_R {x : Int} (hx : R x) (f w : Int) : R (clD x f w) := by unfold clD; split; exact an_R hx (bit_R f); exact hx
theorem clP_R {x : Int} (hx : R x) (f : Int) : R (clP x f) := an_R hx (bit_R f)
theorem mem_of {x f : Int} (hf : 0 ≤ f ∧ f < 64) : mem x f = tb x f.toNat := by
  obtain ⟨k, rfl⟩ : ∃ k : Nat, f = k := ⟨f.toNat, by omega⟩
  rw [mem_at _ _ (by omega)]; rfl
/-- What it opened for: of three kinds of bits one here is gone. -/
def Hit (p u d f x : Int) : Prop := mem p f = true ∨ (x = 1 ∧ mem u f = true) ∨ (x = 2 ∧ mem d f = true)
theorem bc_open {p u d f x : Int} (hp : R p) (hu : R u) (hd : R d) (hf : 0 ≤ f ∧ f < 64) (h : Hit p u d f x) : bc (clP p f) + bc (clU u f x) + bc (clD d f x) < bc p + bc u + bc d := by
  have a1 := bc_an hp hf
  have a2 : bc (clU u f x) ≤ bc u := by unfold clU; split; exact bc_an hu hf; exact Nat.le_refl _
  have a3 : bc (clD d f x) ≤ bc d := by unfold clD; split; exact bc_an hd hf; exact Nat.le_refl _
  rcases h with h | ⟨e, h⟩ | ⟨e, h⟩
  · have := bc_an_lt hp hf h; unfold clP; omega
  · have : bc (clU u f x) < bc u := by unfold clU; rw [if_pos e]; exact bc_an_lt hu hf h
    unfold clP; omega
  · have : bc (clD d f x) < bc d := by unfold clD; rw [if_pos e]; exact bc_an_lt hd hf h
    unfold clP; omega
/-- It opens: no more moves are to come than were, and a bit is gone. -/
theorem sw_open0 {m p u d f w j n : Int} (f0 : 0 ≤ f) (f1 : f ≤ m) (m1 : m ≤ 63) (n0 : 0 ≤ n) (hw : w = 0 ∨ w = 1 ∨ w = 2) (hp : R p) (hu : R u) (hd : R d) (hr : ∀ g : Nat, g < 64 → (tb p g = true ∨ tb u g = true ∨ tb d g = true) → (g : Int) ≤ m) (h0 : w = 0 → 4 * m + 1 ≤ n)
    (hb : ¬ w = 0 → ∀ g : Nat, g < 64 → (tb p g = true → Bp m f w g ≤ n) ∧
    (tb u g = true → Bu m f w g ≤ n ∧ ((tb d g = true ∨ (j = f ∧ (g : Int) = f ∧ w = 2 ∧ ahB (al p u d) f 2 = false)) → Bu m f w g + 2 * m ≤ n)) ∧
    (tb d g = true → Bd m f w g ≤ n ∧ ((tb u g = true ∨ (j = f ∧ (g : Int) = f ∧ w = 1 ∧ ahB (al p u d) f 1 = false)) → Bd m f w g + 2 * m ≤ n))) (ho : nxO p u d f w j = true) :
    Sw m (clP p f) (clU u f (nxW p u d f w j)) (clD d f (nxW p u d f w j)) f (nxW p u d f w j) f n ∧ Hit p u d f (nxW p u d f w j) := by
  have hf : 0 ≤ f ∧ f < 64 := ⟨f0, by omega⟩
  obtain ⟨x, hx⟩ : ∃ x, x = nxW p u d f w j := ⟨_, rfl⟩
  rw [← hx]
  have hhe := nx_he ho
  rw [he_or hp hu hd] at hhe
  -- what x is
  have key : (w = 0 ∧ ((x = 1 ∧ mem u f = true) ∨ (x = 2 ∧ mem u f = false ∧ mem d f = true) ∨ (x = 0 ∧ mem u f = false ∧ mem d f = false ∧ mem p f = true))) ∨
      (w = 1 ∧ ((x = 1 ∧ (mem u f = true ∨ (mem p f = true ∧ ahB (al p u d) f 1 = true) ∨ (mem d f = false ∧ mem p f = true))) ∨ (x = 2 ∧ ahB (al p u d) f 1 = false ∧ mem u f = false ∧ mem d f = true))) ∨
      (w = 2 ∧ ((x = 2 ∧ (mem d f = true ∨ (mem p f = true ∧ ahB (al p u d) f 2 = true) ∨ (mem u f = false ∧ mem p f = true))) ∨ (x = 1 ∧ ahB (al p u d) f 2 = false ∧ mem d f = false ∧ mem u f = true))) := by
    rcases hw with rfl | rfl | rfl
    · left
      refine ⟨rfl, ?_⟩
      have hs : svB p u d f j = true := by unfold nxO at ho; simpa using ho
      have e : x = fst2 (atB u d f 1) (atB u d f 2) 1 2 := by rw [hx]; unfold nxW stW; simp [hs]
      rw [at1, at2] at e
      unfold fst2 at e
      cases h1 : mem u f <;> cases h2 : mem d f <;> rw [h1, h2] at e hhe <;> simp at e hhe ⊢ <;> first | exact ⟨e, hhe⟩ | exact e | omega
    · right; left
      refine ⟨rfl, ?_⟩
      obtain ⟨eO, eW⟩ := on1 p u d f j
      rw [eO] at ho; rw [eW] at hx
      obtain ⟨_, hc⟩ := p_open (s := atB u d f 2) (x := 1) (y := 2) ho
      rw [← hx, at1, at2, pr_mem hp] at hc
      rcases hc with ⟨e, hc⟩ | ⟨e, ha, ht, hs⟩
      · left; refine ⟨e, ?_⟩
        rcases hc with hc | hc | ⟨_, hc⟩
        · exact .inl hc
        · exact .inr (.inl hc)
        · cases hq : mem u f
          · right; right; refine ⟨hc, ?_⟩; rw [hq, hc] at hhe; simpa using hhe
          · exact .inl rfl
      · exact .inr ⟨e, ha, ht, hs⟩
    · right; right
      refine ⟨rfl, ?_⟩
      obtain ⟨eO, eW⟩ := on2 p u d f j
      rw [eO] at ho; rw [eW] at hx
      obtain ⟨_, hc⟩ := p_open (s := atB u d f 1) (x := 2) (y := 1) ho
      rw [← hx, at1, at2, pr_mem hp] at hc
      rcases hc with ⟨e, hc⟩ | ⟨e, ha, ht, hs⟩
      · left; refine ⟨e, ?_⟩
        rcases hc with hc | hc | ⟨_, hc⟩
        · exact .inl hc
        · exact .inr (.inl hc)
        · cases hq : mem d f
          · right; right; refine ⟨hc, ?_⟩; rw [hq, hc] at hhe; simpa using hhe
          · exact .inl rfl
      · exact .inr ⟨e, ha, ht, hs⟩
  clear ho hhe hx
  have cP : ∀ g : Nat, tb (clP p f) g = true ↔ (tb p g = true ∧ ¬ (g : Int) = f) := an_bit hp hf
  have cU := fun g => clU_bit (w := x) hu hf g
  have cD := fun g => clD_bit (w := x) hd hf g
  have hP := clP_R hp f
  have hU := clU_R hu f x
  have hD := clD_R hd f x
  have sub : ∀ g : Nat, (tb (clP p f) g = true ∨ tb (clU u f x) g = true ∨ tb (clD d f x) g = true) → (tb p g = true ∨ tb u g = true ∨ tb d g = true) := fun g k => by
    rcases k with k | k | k
    · exact .inl ((cP g).1 k).1
    · exact .inr (.inl ((cU g).1 k).1)
    · exact .inr (.inr ((cD g).1 k).1)
  have away : ∀ g : Nat, ¬ (g : Int) = f → (tb p g = true ∨ tb u g = true ∨ tb d g = true) → (tb (clP p f) g = true ∨ tb (clU u f x) g = true ∨ tb (clD d f x) g = true) := fun g hg k => by
    rcases k with k | k | k
    · exact .inl ((cP g).2 ⟨k, hg⟩)
    · exact .inr (.inl ((cU g).2 ⟨k, fun q => hg q.1⟩))
    · exact .inr (.inr ((cD g).2 ⟨k, fun q => hg q.1⟩))
  have ah1 : ahB (al (clP p f) (clU u f x) (clD d f x)) f 1 = ahB (al p u d) f 1 := by
    rw [Bool.eq_iff_iff, ah1_iff hP hU hD, ah1_iff hp hu hd]
    exact ⟨fun ⟨i, hi, k, hl⟩ => ⟨i, hi, sub i k, hl⟩, fun ⟨i, hi, k, hl⟩ => ⟨i, hi, away i (by omega) k, hl⟩⟩
  have ah2 : ahB (al (clP p f) (clU u f x) (clD d f x)) f 2 = ahB (al p u d) f 2 := by
    rw [Bool.eq_iff_iff, ah2_iff hP hU hD, ah2_iff hp hu hd]
    exact ⟨fun ⟨i, hi, k, hl⟩ => ⟨i, hi, sub i k, hl⟩, fun ⟨i, hi, k, hl⟩ => ⟨i, hi, away i (by omega) k, hl⟩⟩
  have toN : (f.toNat : Int) = f := by omega
  have mP : mem (clP p f) f = false := by
    rw [mem_of hf, Bool.eq_false_iff]; intro k; exact ((cP _).1 k).2 toN
  have mU : ∀ {b}, mem u f = b → (x = 1 → mem (clU u f x) f = false) ∧ (¬ x = 1 → mem (clU u f x) f = b) := fun e => by
    refine ⟨fun k => ?_, fun k => ?_⟩
    · rw [mem_of hf, Bool.eq_false_iff]; intro q; exact ((cU _).1 q).2 ⟨toN, k⟩
    · unfold clU; rw [if_neg k]; exact e
  have mD : ∀ {b}, mem d f = b → (x = 2 → mem (clD d f x) f = false) ∧ (¬ x = 2 → mem (clD d f x) f = b) := fun e => by
    refine ⟨fun k => ?_, fun k => ?_⟩
    · rw [mem_of hf, Bool.eq_false_iff]; intro q; exact ((cD _).1 q).2 ⟨toN, k⟩
    · unfold clD; rw [if_neg k]; exact e
  have hx3 : x = 0 ∨ x = 1 ∨ x = 2 := by
    rcases key with ⟨_, ⟨e, _⟩ | ⟨e, _⟩ | ⟨e, _⟩⟩ | ⟨_, ⟨e, _⟩ | ⟨e, _⟩⟩ | ⟨_, ⟨e, _⟩ | ⟨e, _⟩⟩ <;> omega
  have hx0 : x = 0 → w = 0 := fun k => by
    rcases key with ⟨e0, _⟩ | ⟨_, ⟨e, _⟩ | ⟨e, _⟩⟩ | ⟨_, ⟨e, _⟩ | ⟨e, _⟩⟩ <;> omega
  refine ⟨⟨⟨f0, f1, m1, n0⟩, hx3, ⟨hP, hU, hD⟩, fun g hg k => hr g hg (sub g k), fun _ => ⟨mP, fun k => ?_, fun k => ?_⟩, fun k => ?_, fun k g hg => ?_⟩, ?_⟩
  · rcases key with ⟨_, ⟨e, _⟩ | ⟨e, _⟩ | ⟨e, e2, _⟩⟩ | ⟨_, ⟨e, _⟩ | ⟨e, _⟩⟩ | ⟨_, ⟨e, _⟩ | ⟨e, _⟩⟩
    · exact (mU rfl).1 e
    · exact absurd e k
    · exact (mU e2).2 (by omega)
    · exact (mU rfl).1 e
    · exact absurd e k
    · exact absurd e k
    · exact (mU rfl).1 e
  · rcases key with ⟨_, ⟨e, _⟩ | ⟨e, _⟩ | ⟨e, _, e2, _⟩⟩ | ⟨_, ⟨e, _⟩ | ⟨e, _⟩⟩ | ⟨_, ⟨e, _⟩ | ⟨e, _⟩⟩
    · exact absurd e k
    · exact (mD rfl).1 e
    · exact (mD e2).2 (by omega)
    · exact absurd e k
    · exact (mD rfl).1 e
    · exact (mD rfl).1 e
    · exact absurd e k
  · exact h0 (hx0 k)
  · have g0 : (0 : Int) ≤ g := by omega
    by_cases hw0 : w = 0
    · have hn4 := h0 hw0
      refine ⟨fun hb' => ?_, fun hb' => ?_, fun hb' => ?_⟩
      · have := (B_hi (w := x) f0 f1 g0 (hr g hg (sub g (.inl hb')))).1; omega
      · have := (B_hi (w := x) f0 f1 g0 (hr g hg (sub g (.inr (.inl hb'))))).2.1; constructor <;> (try intro _) <;> omega
      · have := (B_hi (w := x) f0 f1 g0 (hr g hg (sub g (.inr (.inr hb'))))).2.2; constructor <;> (try intro _) <;> omega
    · obtain ⟨b1, b2, b3⟩ := hb hw0 g hg
      have gm : (tb p g = true ∨ tb u g = true ∨ tb d g = true) → (g : Int) ≤ m := hr g hg
      have hereU : ∀ {b}, mem u f = b → (g : Int) = f → tb u g = b := fun e e1 => by rw [← e, mem_of hf, show f.toNat = g by omega]
      have hereD : ∀ {b}, mem d f = b → (g : Int) = f → tb d g = b := fun e e1 => by rw [← e, mem_of hf, show f.toNat = g by omega]
      by_cases hxw : x = w
      · -- it keeps its way
        subst hxw
        refine ⟨fun hb' => b1 ((cP g).1 hb').1, fun hb' => ⟨(b2 ((cU g).1 hb').1).1, fun hc => ?_⟩, fun hb' => ⟨(b3 ((cD g).1 hb').1).1, fun hc => ?_⟩⟩
        · refine (b2 ((cU g).1 hb').1).2 (.inl ?_)
          rcases hc with hc | ⟨_, e1, e2, e3⟩
          · exact ((cD g).1 hc).1
          · rw [ah2] at e3
            rcases key with ⟨e, _⟩ | ⟨e, _⟩ | ⟨_, ⟨_, k2⟩ | ⟨e, _⟩⟩
            · omega
            · omega
            · rcases k2 with k2 | ⟨_, k2⟩ | ⟨k2, _⟩
              · exact hereD k2 e1
              · rw [k2] at e3; cases e3
              · have := hereU k2 e1; rw [((cU g).1 hb').1] at this; cases this
            · omega
        · refine (b3 ((cD g).1 hb').1).2 (.inl ?_)
          rcases hc with hc | ⟨_, e1, e2, e3⟩
          · exact ((cU g).1 hc).1
          · rw [ah1] at e3
            rcases key with ⟨e, _⟩ | ⟨_, ⟨_, k2⟩ | ⟨e, _⟩⟩ | ⟨e, _⟩
            · omega
            · rcases k2 with k2 | ⟨_, k2⟩ | ⟨k2, _⟩
              · exact hereU k2 e1
              · rw [k2] at e3; cases e3
              · have := hereD k2 e1; rw [((cD g).1 hb').1] at this; cases this
            · omega
            · omega
      · -- it turns
        rcases key with ⟨e, _⟩ | ⟨e, ⟨e2, _⟩ | ⟨e2, ha, hu0, hd0⟩⟩ | ⟨e, ⟨e2, _⟩ | ⟨e2, ha, hd0, hu0⟩⟩
        · exact absurd e hw0
        · omega
        · subst e
          have up : (tb p g = true ∨ tb u g = true ∨ tb d g = true) → (g : Int) ≤ f := fun k => by
            apply Classical.byContradiction
            intro hgt
            have := (ah1_iff hp hu hd f).2 ⟨g, hg, k, by omega⟩
            rw [ha] at this; cases this
          subst e2
          refine ⟨fun hb' => ?_, fun hb' => ⟨?_, fun hc => ?_⟩, fun hb' => ⟨?_, fun hc => ?_⟩⟩
          · have q := (cP g).1 hb'; have k1 := b1 q.1; have k3 := up (.inl q.1); have k2 := q.2; unfold Bp at k1 ⊢; simp at k1 ⊢; (repeat' split) <;> (repeat' split at k1) <;> omega
          · have q := (cU g).1 hb'; have k1 := (b2 q.1).1; have k3 := up (.inr (.inl q.1)); have k2 : ¬ (g : Int) = f := (fun e1 => by have := hereU hu0 e1; rw [q.1] at this; cases this); unfold Bu at k1 ⊢; simp at k1 ⊢; (repeat' split at k1) <;> omega
          · have q := (cU g).1 hb'; have k3 := up (.inr (.inl q.1)); have k2 : ¬ (g : Int) = f := (fun e1 => by have := hereU hu0 e1; rw [q.1] at this; cases this)
            have hc' : tb d g = true := by rcases hc with hc | ⟨_, e1, _⟩; exact ((cD g).1 hc).1; exact absurd e1 k2
            have k1 := (b2 q.1).2 (.inl hc'); unfold Bu at k1 ⊢; simp at k1 ⊢; (repeat' split at k1) <;> omega
          · have q := (cD g).1 hb'; have k1 := (b3 q.1).1; have k3 := up (.inr (.inr q.1)); have k2 : ¬ (g : Int) = f := (fun e1 => q.2 ⟨e1, rfl⟩); unfold Bd at k1 ⊢; simp at k1 ⊢; (repeat' split) <;> omega
          · have q := (cD g).1 hb'; have k3 := up (.inr (.inr q.1)); have k2 : ¬ (g : Int) = f := (fun e1 => q.2 ⟨e1, rfl⟩)
            have hc' : tb u g = true := by rcases hc with hc | ⟨_, e1, _⟩; exact ((cU g).1 hc).1; exact absurd e1 k2
            have k1 := (b3 q.1).2 (.inl hc'); unfold Bd at k1 ⊢; simp at k1 ⊢; (repeat' split) <;> omega
        · omega
        · subst e
          have up : (tb p g = true ∨ tb u g = true ∨ tb d g = true) → f ≤ (g : Int) := fun k => by
            apply Classical.byContradiction
            intro hgt
            have := (ah2_iff hp hu hd f).2 ⟨g, hg, k, by omega⟩
            rw [ha] at this; cases this
          subst e2
          refine ⟨fun hb' => ?_, fun hb' => ⟨?_, fun hc => ?_⟩, fun hb' => ⟨?_, fun hc => ?_⟩⟩
          · have q := (cP g).1 hb'; have k1 := b1 q.1; have k3 := up (.inl q.1); have k2 := q.2; have k4 := gm (.inl q.1); unfold Bp at k1 ⊢; simp at k1 ⊢; (repeat' split) <;> (repeat' split at k1) <;> omega
          · have q := (cU g).1 hb'; have k1 := (b2 q.1).1; have k3 := up (.inr (.inl q.1)); have k4 := gm (.inr (.inl q.1)); have k2 : ¬ (g : Int) = f := (fun e1 => q.2 ⟨e1, rfl⟩); unfold Bu at k1 ⊢; simp at k1 ⊢; (repeat' split) <;> omega
          · have q := (cU g).1 hb'; have k3 := up (.inr (.inl q.1)); have k4 := gm (.inr (.inl q.1)); have k2 : ¬ (g : Int) = f := (fun e1 => q.2 ⟨e1, rfl⟩)
            have hc' : tb d g = true := by rcases hc with hc | ⟨_, e1, _⟩; exact ((cD g).1 hc).1; exact absurd e1 k2
            have k1 := (b2 q.1).2 (.inl hc'); unfold Bu at k1 ⊢; simp at k1 ⊢; (repeat' split) <;> omega
          · have q := (cD g).1 hb'; have k1 := (b3 q.1).1; have k3 := up (.inr (.inr q.1)); have k4 := gm (.inr (.inr q.1)); have k2 : ¬ (g : Int) = f := (fun e1 => by have := hereD hd0 e1; rw [q.1] at this; cases this); unfold Bd at k1 ⊢; simp at k1 ⊢; (repeat' split at k1) <;> omega
          · have q := (cD g).1 hb'; have k3 := up (.inr (.inr q.1)); have k4 := gm (.inr (.inr q.1)); have k2 : ¬ (g : Int) = f := (fun e1 => by have := hereD hd0 e1; rw [q.1] at this; cases this)
            have hc' : tb u g = true := by rcases hc with hc | ⟨_, e1, _⟩; exact ((cU g).1 hc).1; exact absurd e1 k2
            have k1 := (b3 q.1).2 (.inl hc'); unfold Bd at k1 ⊢; simp at k1 ⊢; (repeat' split at k1) <;> omega
  · rcases key with ⟨_, ⟨e, k⟩ | ⟨e, _, k⟩ | ⟨e, _, _, k⟩⟩ | ⟨_, ⟨e, k | ⟨k, _⟩ | ⟨_, k⟩⟩ | ⟨e, _, _, k⟩⟩ | ⟨_, ⟨e, k | ⟨k, _⟩ | ⟨_, k⟩⟩ | ⟨e, _, _, k⟩⟩
    · exact .inr (.inl ⟨e, k⟩)
    · exact .inr (.inr ⟨e, k⟩)
    · exact .inl k
    · exact .inr (.inl ⟨e, k⟩)
    · exact .inl k
    · exact .inl k
    · exact .inr (.inr ⟨e, k⟩)
    · exact .inr (.inr ⟨e, k⟩)
    · exact .inl k
    · exact .inl k
    · exact .inr (.inl ⟨e, k⟩)
theorem sw_open {m p u d f w j n : Int} (h : Sw m p u d f w j n) (ho : nxO p u d f w j = true) :
    Sw m (clP p f) (clU u f (nxW p u d f w j)) (clD d f (nxW p u d f w j)) f (nxW p u d f w j) f n ∧ Hit p u d f (nxW p u d f w j) := by
  obtain ⟨⟨f0, f1, m1, n0⟩, hw, ⟨hp, hu, hd⟩, hr, -, h0, hb⟩ := h
  exact sw_open0 f0 f1 m1 n0 hw hp hu hd hr h0 hb ho
/-- Any car at first. -/
theorem sw_first {m p u d f w : Int} (hp : R p) (hu : R u) (hd : R d) (f0 : 0 ≤ f) (f1 : f ≤ m) (m1 : m ≤ 63) (hw : w = 0 ∨ w = 1 ∨ w = 2) (hr : ∀ g : Nat, g < 64 → (tb p g = true ∨ tb u g = true ∨ tb d g = true) → (g : Int) ≤ m) :
    Sw m p u d f w (-1) (4 * m + 1) := by
  refine ⟨⟨f0, f1, m1, by omega⟩, hw, ⟨hp, hu, hd⟩, hr, fun h => by omega, fun _ => Int.le_refl _, fun _ g hg => ?_⟩
  have g0 : (0 : Int) ≤ g := by omega
  refine ⟨fun hb' => ?_, fun hb' => ?_, fun hb' => ?_⟩
  · have := (B_hi (w := w) f0 f1 g0 (hr g hg (.inl hb'))).1; omega
  · have := (B_hi (w := w) f0 f1 g0 (hr g hg (.inr (.inl hb')))).2.1; constructor <;> (try intro _) <;> omega
  · have := (B_hi (w := w) f0 f1 g0 (hr g hg (.inr (.inr hb')))).2.2; constructor <;> (try intro _) <;> omega
/-- A car that goes as it is told; or one of which it isn't known where it opened last. -/
def GL (m p u d f w j n : Int) : Prop := Sw m p u d f w j n ∨ (n = 4 * m + 2 ∧ (0 ≤ f ∧ f ≤ m ∧ m ≤ 63) ∧ (w = 0 ∨ w = 1 ∨ w = 2) ∧ (R p ∧ R u ∧ R d) ∧ (∀ g : Nat, g < 64 → (tb p g = true ∨ tb u g = true ∨ tb d g = true) → (g : Int) ≤ m))
theorem gl_facts {m p u d f w j n : Int} (h : GL m p u d f w j n) : (0 ≤ f ∧ f ≤ m ∧ m ≤ 63) ∧ 0 ≤ n ∧ (w = 0 ∨ w = 1 ∨ w = 2) ∧ (R p ∧ R u ∧ R d) := by
  rcases h with ⟨⟨f0, f1, m1, n0⟩, hw, hR, _⟩ | ⟨e, hf, hw, hR, _⟩
  · exact ⟨⟨f0, f1, m1⟩, n0, hw, hR⟩
  · exact ⟨hf, by omega, hw, hR⟩
theorem gl_move {m p u d f w j n : Int} (h : GL m p u d f w j n) (ho : nxO p u d f w j = false) (hx : ¬ nxW p u d f w j = 0) :
    Sw m p u d (if nxW p u d f w j = 1 then f + 1 else f - 1) (nxW p u d f w j) (-1) (n - 1) ∧ (nxW p u d f w j = 1 ∨ nxW p u d f w j = 2) := by
  obtain ⟨⟨f0, f1, m1⟩, n0, hw, hp, hu, hd⟩ := gl_facts h
  have hz : ¬ (p = 0 ∧ u = 0 ∧ d = 0) := by
    rintro ⟨rfl, rfl, rfl⟩
    exact hx (nx_none f w j).1
  obtain ⟨hx12, hah⟩ := nx_goes hp hu hd hw ⟨f0, by omega⟩ hz ho
  refine ⟨?_, hx12⟩
  rcases h with h | ⟨e, _, _, _, hr⟩
  · exact sw_move h ho hx
  · have hf' : 0 ≤ (if nxW p u d f w j = 1 then f + 1 else f - 1) ∧ (if nxW p u d f w j = 1 then f + 1 else f - 1) ≤ m := by
      rcases hx12 with e | e
      · rw [e] at hah ⊢
        obtain ⟨i, hi, hb', hl⟩ := (ah1_iff hp hu hd f).1 hah
        have := hr i hi hb'
        simp; omega
      · rw [e] at hah ⊢
        obtain ⟨i, hi, hb', hl⟩ := (ah2_iff hp hu hd f).1 hah
        simp; omega
    have := sw_first (w := nxW p u d f w j) hp hu hd hf'.1 hf'.2 m1 (by omega) hr
    rw [show n - 1 = 4 * m + 1 by omega]
    exact this
theorem gl_open {m p u d f w j n : Int} (h : GL m p u d f w j n) (ho : nxO p u d f w j = true) :
    ∃ n', n' ≤ n ∧ Sw m (clP p f) (clU u f (nxW p u d f w j)) (clD d f (nxW p u d f w j)) f (nxW p u d f w j) f n' ∧ Hit p u d f (nxW p u d f w j) := by
  rcases h with h | ⟨e, ⟨f0, f1, m1⟩, hw, ⟨hp, hu, hd⟩, hr⟩
  · exact ⟨n, Int.le_refl _, sw_open h ho⟩
  · refine ⟨4 * m + 1, by omega, sw_open0 f0 f1 m1 (by omega) hw hp hu hd hr (fun _ => Int.le_refl _) (fun _ g hg => ?_) ho⟩
    have g0 : (0 : Int) ≤ g := by omega
    refine ⟨fun hb' => ?_, fun hb' => ?_, fun hb' => ?_⟩
    · have := (B_hi (w := w) f0 f1 g0 (hr g hg (.inl hb'))).1; omega
    · have := (B_hi (w := w) f0 f1 g0 (hr g hg (.inr (.inl hb')))).2.1; constructor <;> (try intro _) <;> omega
    · have := (B_hi (w := w) f0 f1 g0 (hr g hg (.inr (.inr hb')))).2.2; constructor <;> (try intro _) <;> omega
theorem cp_few : ∀ M : Nat, M ≤ 12 → (List.range 64).countP (fun i => decide (i < M)) = M := by decide
theorem bc_few {x : Int} {M : Nat} (hM : M ≤ 12) (h : ∀ g : Nat, g < 64 → tb x g = true → g < M) (hR : R x) : bc x ≤ M := by
  rw [← cp_few M hM]
  refine cp_le (fun i hi => ?_) _
  have h64 : i < 64 := by
    apply Classical.byContradiction
    intro hn
    rw [tb_hi hR (by omega)] at hi
    cases hi
  simpa using h i h64 hi
end Go.Proofs.Ytdbbacpofgjgoaa.Sc
