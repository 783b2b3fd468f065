/-
  What is wanted by the last of these texts, part 10.
  No condition.
-/
import Derived.Test.YtggafipgfgbbiaaKLp9
namespace Go.Proofs.Ytggafipgfgbbiaa.Le
set_option linter.unusedVariables false
set_option linter.unusedSimpArgs false
open Go.RowKit Go.Proofs.Ytggafipgfgbbiaa.Ba Go.Proofs.Ytggafipgfgbbiaa.Mem Go.Proofs.Ytggafipgfgbbiaa.Ty
open Go.Proofs.Ytggafipgfgbbiaa.Ls (LV leaC)
open Go.Proofs.Ytggafipgfgbbiaa.Fl (mayB btw btw_lo cnt)
/-- The last place among the first n. -/
def lastP (ls : List LeaseV) (p : LeaseV → Bool) : Nat → Int
  | 0 => -1
  | k + 1 => if p (ls.getD k zeroL) = true then (k : Int) else lastP ls p k
def OneP (ls : List LeaseV) (p : LeaseV → Bool) : Prop := ∀ i j, ∀ hi : i < ls.length, ∀ hj : j < ls.length, p ls[i] = true → p ls[j] = true → i = j
theorem getD_at {ls : List LeaseV} {k : Nat} (h : k < ls.length) : ls.getD k zeroL = ls[k] := by simp [List.getD, h]
theorem getD_some {ls : List LeaseV} {k : Nat} {x : LeaseV} (h : ls[k]? = some x) : ls.getD k zeroL = x := by simp [List.getD, h]
theorem last_in {ls : List LeaseV} {p : LeaseV → Bool} (hu : OneP ls p) : ∀ n, n ≤ ls.length → lastP ls p n = match atP ls p with | some k => if k < n then (k : Int) else -1 | none => -1
  | 0, _ => by unfold lastP; split <;> rfl
  | n + 1, hn => by
    have ih := last_in hu n (by omega)
    unfold lastP
    rw [getD_at (by omega)]
    split
    · rename_i he
      cases hk : atP ls p with
      | none => rw [atP_none hk n (by omega)] at he; cases he
      | some k =>
        obtain ⟨k1, k2, _⟩ := atP_some hk
        have : k = n := hu k n k1 (by omega) (k2 k1) he
        subst this
        simp
    · rename_i he
      rw [ih]
      cases hk : atP ls p with
      | none => rfl
      | some k =>
        obtain ⟨k1, k2, _⟩ := atP_some hk
        have : k ≠ n := by rintro rfl; exact he (k2 k1)
        simp only []
        by_cases h : k < n
        · rw [if_pos h, if_pos (by omega)]
        · rw [if_neg h, if_neg (by omega)]
theorem last_all {ls : List LeaseV} {p : LeaseV → Bool} (hu : OneP ls p) : lastP ls p ls.length = oI (atP ls p) := by
  rw [last_in hu _ (Nat.le_refl _)]
  cases hk : atP ls p with
  | none => rfl
  | some k => simp [oI, (atP_some hk).1]
theorem last_hit {ls : List LeaseV} {p : LeaseV → Bool} {k : Nat} {x : LeaseV} (h : ls[k]? = some x) (e : p x = true) : (k : Int) = lastP ls p (k + 1) := by
  show _ = (if p (ls.getD k zeroL) = true then (k : Int) else lastP ls p k)
  rw [getD_some h, if_pos e]
theorem last_miss {ls : List LeaseV} {p : LeaseV → Bool} {k : Nat} {x : LeaseV} (h : ls[k]? = some x) (e : p x = false) : lastP ls p k = lastP ls p (k + 1) := by
  show _ = (if p (ls.getD k zeroL) = true then (k : Int) else lastP ls p k)
  rw [getD_some h, e]; rfl
/-- No two of one session, no two of one car; no fleet more than its quota. -/
def US (ls : List LeaseV) : Prop := (ls.map LeaseV.se).Nodup ∧ (ls.map LeaseV.ca).Nodup
theorem nodup_at {f : LeaseV → Int} {ls : List LeaseV} (h : (ls.map f).Nodup) {i j : Nat} (hi : i < ls.length) (hj : j < ls.length) (e : f ls[i] = f ls[j]) : i = j := by
  have hp := List.pairwise_iff_getElem.1 h
  rcases Nat.lt_trichotomy i j with h | h | h
  · exact absurd (by rw [List.getElem_map, List.getElem_map]; exact e) (hp i j (by simpa using hi) (by simpa using hj) h)
  · exact h
  · exact absurd (by rw [List.getElem_map, List.getElem_map]; exact e.symm) (hp j i (by simpa using hj) (by simpa using hi) h)
theorem one_S {ls : List LeaseV} (h : US ls) (s : Int) : OneP ls (isS s) := fun i j hi hj h1 h2 => nodup_at h.1 hi hj (by
  have a : (ls[i]).se = s := by simpa [isS] using h1
  have b : (ls[j]).se = s := by simpa [isS] using h2
  rw [a, b])
theorem one_C {ls : List LeaseV} (h : US ls) (s : Int) : OneP ls (isC s) := fun i j hi hj h1 h2 => nodup_at h.2 hi hj (by
  have a : (ls[i]).ca = s := by simpa [isC] using h1
  have b : (ls[j]).ca = s := by simpa [isC] using h2
  rw [a, b])
theorem isT_iff {x l : LeaseV} : isT x l = true ↔ l.se = x.se ∧ l.ca = x.ca ∧ l.fl = x.fl := by unfold isT; simp [and_assoc]
theorem one_T {ls : List LeaseV} (h : US ls) (x : LeaseV) : OneP ls (isT x) := fun i j hi hj h1 h2 => nodup_at h.1 hi hj ((isT_iff.1 h1).1.trans (isT_iff.1 h2).1.symm)
theorem at_iff {ls : List LeaseV} {p : LeaseV → Bool} : (∃ k, atP ls p = some k) ↔ ∃ a ∈ ls, p a = true := by
  constructor
  · rintro ⟨k, hk⟩
    obtain ⟨k1, k2, _⟩ := atP_some hk
    exact ⟨_, List.getElem_mem k1, k2 k1⟩
  · rintro ⟨a, ha, hp⟩
    cases e : atP ls p with
    | some k => exact ⟨k, rfl⟩
    | none =>
      obtain ⟨j, hj, rfl⟩ := List.mem_iff_getElem.1 ha
      rw [atP_none e j hj] at hp; cases hp
theorem at_P {ls : List LeaseV} {x : LeaseV} : (∃ k, atP ls (isP x) = some k) ↔ (∃ k, atP ls (isS x.se) = some k) ∨ (∃ k, atP ls (isC x.ca) = some k) := by
  rw [at_iff, at_iff, at_iff]
  constructor
  · rintro ⟨a, ha, hp⟩
    unfold isP at hp
    rcases Bool.or_eq_true _ _ ▸ hp with h | h
    · exact .inl ⟨a, ha, h⟩
    · exact .inr ⟨a, ha, h⟩
  · rintro (⟨a, ha, h⟩ | ⟨a, ha, h⟩)
    · exact ⟨a, ha, by unfold isP; unfold isS at h; rw [h]; rfl⟩
    · exact ⟨a, ha, by unfold isP; unfold isC at h; rw [h]; simp⟩
theorem none_of {ls : List LeaseV} {p : LeaseV → Bool} (h : ¬ ∃ k, atP ls p = some k) : atP ls p = none := by
  cases e : atP ls p with
  | none => rfl
  | some k => exact absurd ⟨k, e⟩ h
/-- How many of a fleet. -/
def cn (ls : List LeaseV) (f : Int) : Int := cnt (fun i => ls.getD i zeroL) f ls.length
theorem cnt_take (ls : List LeaseV) (f : Int) : ∀ n, n ≤ ls.length → cnt (fun i => ls.getD i zeroL) f n = (((ls.take n).map LeaseV.fl).count f : Int)
  | 0, _ => by simp [cnt]
  | n + 1, hn => by
    have ih := cnt_take ls f n (by omega)
    unfold cnt
    rw [ih, getD_at (by omega), List.take_succ_eq_append_getElem (by omega), List.map_append, List.count_append]
    by_cases e : (ls[n]).fl = f
    · rw [if_pos e]; simp [e]
    · rw [if_neg e]; simp [List.count_cons, e]
theorem cn_eq (ls : List LeaseV) (f : Int) : cn ls f = ((ls.map LeaseV.fl).count f : Int) := by
  unfold cn
  rw [cnt_take ls f _ (Nat.le_refl _), List.take_length]
def QI (c : CfgV) (ls : List LeaseV) : Prop := ∀ f, cn ls f ≤ btw c.qo 1 8
theorem QI.zero (c : CfgV) : QI c [] := fun f => by
  have := btw_lo c.qo 1 8 (by decide)
  show (0 : Int) ≤ _
  omega
theorem QI.add {c : CfgV} {ls : List LeaseV} {x : LeaseV} (h : QI c ls) (hx : cn ls x.fl < btw c.qo 1 8) : QI c (ls ++ [x]) := fun f => by
  have h1 := h f
  rw [cn_eq] at h1 hx ⊢
  rw [List.map_append, List.count_append]
  by_cases e : x.fl = f
  · subst e; simp at hx ⊢; omega
  · simp [List.count_cons, e]; omega
theorem QI.cut {c : CfgV} {ls : List LeaseV} {k : Nat} (h : QI c ls) : QI c (ls.eraseIdx k) := fun f => by
  have h1 := h f
  rw [cn_eq] at h1 ⊢
  have h2 := ((List.eraseIdx_sublist ls k).map LeaseV.fl).count_le f
  omega
theorem US.cut {ls : List LeaseV} {k : Nat} (h : US ls) : US (ls.eraseIdx k) := ⟨((List.eraseIdx_sublist _ _).map _).nodup h.1, ((List.eraseIdx_sublist _ _).map _).nodup h.2⟩
theorem US.add {ls : List LeaseV} {x : LeaseV} (h : US ls) (h1 : atP ls (isS x.se) = none) (h2 : atP ls (isC x.ca) = none) : US (ls ++ [x]) := by
  have key : ∀ (f : LeaseV → Int), (ls.map f).Nodup → (∀ a ∈ ls, f a ≠ f x) → ((ls ++ [x]).map f).Nodup := fun f hf hne => by
    rw [List.map_append, List.nodup_append]
    refine ⟨hf, by simp, fun p hp q hq e => ?_⟩
    obtain ⟨z, hz, rfl⟩ := List.mem_map.1 hp
    have e2 : q = f x := by simpa using hq
    exact hne z hz (e.trans e2)
  refine ⟨key _ h.1 fun a ha e => ?_, key _ h.2 fun a ha e => ?_⟩
  · obtain ⟨k, hk⟩ := at_iff.2 ⟨a, ha, show isS x.se a = true by simp [isS, e]⟩
    rw [h1] at hk; cases hk
  · obtain ⟨k, hk⟩ := at_iff.2 ⟨a, ha, show isC x.ca a = true by simp [isC, e]⟩
    rw [h2] at hk; cases hk
theorem map_set {f : LeaseV → Int} {ls : List LeaseV} {k : Nat} {x : LeaseV} (hk : k < ls.length) (e : f ls[k] = f x) : (ls.set k x).map f = ls.map f := by
  apply List.ext_getElem?
  intro j
  rw [List.getElem?_map, List.getElem?_map, List.getElem?_set]
  split
  · rename_i h; subst h; simp [hk, e]
  · rfl
theorem set_same {ls : List LeaseV} {k : Nat} {x : LeaseV} (h : atP ls (isT x) = some k) : (ls.set k x).map LeaseV.se = ls.map LeaseV.se ∧ (ls.set k x).map LeaseV.ca = ls.map LeaseV.ca ∧ (ls.set k x).map LeaseV.fl = ls.map LeaseV.fl := by
  obtain ⟨k1, k2, _⟩ := atP_some h
  obtain ⟨e1, e2, e3⟩ := isT_iff.1 (k2 k1)
  exact ⟨map_set k1 e1, map_set k1 e2, map_set k1 e3⟩
theorem US.set {ls : List LeaseV} {k : Nat} {x : LeaseV} (hu : US ls) (h : atP ls (isT x) = some k) : US (ls.set k x) := by
  obtain ⟨e1, e2, _⟩ := set_same h
  unfold US; rw [e1, e2]; exact hu
theorem QI.set {c : CfgV} {ls : List LeaseV} {k : Nat} {x : LeaseV} (hq : QI c ls) (h : atP ls (isT x) = some k) : QI c (ls.set k x) := fun f => by
  have h1 := hq f
  rw [cn_eq] at h1 ⊢
  rw [(set_same h).2.2]; exact h1
/-- Of and Car find each. -/
theorem of_at {ls : List LeaseV} {k : Nat} {x : LeaseV} (hu : US ls) (hx : ls[k]? = some x) : atV ls (atP ls (isS x.se)) = (x, true) := by
  obtain ⟨hk, rfl⟩ := List.getElem?_eq_some_iff.1 hx
  obtain ⟨j, hj⟩ := at_iff.2 ⟨ls[k], List.getElem_mem hk, show isS (ls[k]).se ls[k] = true by simp [isS]⟩
  obtain ⟨j1, j2, _⟩ := atP_some hj
  have : j = k := one_S hu _ j k j1 hk (j2 j1) (by simp [isS])
  subst this
  rw [hj]
  simp [atV, hk]
theorem car_at {ls : List LeaseV} {k : Nat} {x : LeaseV} (hu : US ls) (hx : ls[k]? = some x) : atV ls (atP ls (isC x.ca)) = (x, true) := by
  obtain ⟨hk, rfl⟩ := List.getElem?_eq_some_iff.1 hx
  obtain ⟨j, hj⟩ := at_iff.2 ⟨ls[k], List.getElem_mem hk, show isC (ls[k]).ca ls[k] = true by simp [isC]⟩
  obtain ⟨j1, j2, _⟩ := atP_some hj
  have : j = k := one_C hu _ j k j1 hk (j2 j1) (by simp [isC])
  subst this
  rw [hj]
  simp [atV, hk]
theorem put_eq {c : CfgV} {ls : List LeaseV} {x : LeaseV} {n : Int} (hn : n ≠ 0) (h : putE c ls x = n) : putE c ls x = n ∧ putL c ls x = ls := ⟨h, by unfold putL; rw [h, if_neg hn]⟩
theorem put1 {c : CfgV} {ls : List LeaseV} {x : LeaseV} (h : goodB c x = false) : putE c ls x = 1 ∧ putL c ls x = ls := put_eq (by decide) (by unfold putE; rw [if_pos h])
theorem put7 {c : CfgV} {ls : List LeaseV} {x : LeaseV} (h : goodB c x = true) (hf : (∃ k, atP ls (isS x.se) = some k) ∨ (∃ k, atP ls (isC x.ca) = some k)) : putE c ls x = 7 ∧ putL c ls x = ls := by
  obtain ⟨k, hk⟩ := at_P.2 hf
  exact put_eq (by decide) (by unfold putE; rw [if_neg (by rw [h]; decide), if_pos (by rw [hk]; rfl)])
theorem put5 {c : CfgV} {ls : List LeaseV} {x : LeaseV} (h : goodB c x = true) (h1 : atP ls (isS x.se) = none) (h2 : atP ls (isC x.ca) = none) (hq : btw c.qo 1 8 ≤ cn ls x.fl) : putE c ls x = 5 ∧ putL c ls x = ls := by
  have hp : atP ls (isP x) = none := none_of fun h => by
    rcases at_P.1 h with ⟨k, hk⟩ | ⟨k, hk⟩
    · rw [h1] at hk; cases hk
    · rw [h2] at hk; cases hk
  refine put_eq (by decide) ?_
  unfold putE
  rw [if_neg (by rw [h]; decide), if_neg (by rw [hp]; simp), if_pos (by unfold full; rw [decide_eq_false (by have q := hq; unfold cn at q; omega)]; rfl)]
theorem put0 {c : CfgV} {ls : List LeaseV} {x : LeaseV} (h : goodB c x = true) (h1 : atP ls (isS x.se) = none) (h2 : atP ls (isC x.ca) = none) (hq : cn ls x.fl < btw c.qo 1 8) : putE c ls x = 0 ∧ putL c ls x = ls ++ [x] := by
  have hp : atP ls (isP x) = none := none_of fun h => by
    rcases at_P.1 h with ⟨k, hk⟩ | ⟨k, hk⟩
    · rw [h1] at hk; cases hk
    · rw [h2] at hk; cases hk
  have e : putE c ls x = 0 := by
    unfold putE
    rw [if_neg (by rw [h]; decide), if_neg (by rw [hp]; simp), if_neg (by unfold full; rw [decide_eq_true (by have q := hq; unfold cn at q; exact q)]; decide)]
  exact ⟨e, by unfold putL; rw [e, if_pos rfl]⟩
/-- What Set and End make. -/
def setE (c : CfgV) (ls : List LeaseV) (x : LeaseV) : Int := if goodB c x = false then 1 else if (atP ls (isT x)).isSome then 0 else 6
def setL (c : CfgV) (ls : List LeaseV) (x : LeaseV) : List LeaseV := if goodB c x = false then ls else match atP ls (isT x) with | some k => ls.set k x | none => ls
theorem set1 {c : CfgV} {ls : List LeaseV} {x : LeaseV} (h : goodB c x = false) : setE c ls x = 1 ∧ setL c ls x = ls := ⟨by unfold setE; rw [if_pos h], by unfold setL; rw [if_pos h]⟩
theorem set6 {c : CfgV} {ls : List LeaseV} {x : LeaseV} (h : goodB c x = true) (hf : atP ls (isT x) = none) : setE c ls x = 6 ∧ setL c ls x = ls := ⟨by unfold setE; rw [if_neg (by rw [h]; decide), hf]; rfl, by unfold setL; rw [if_neg (by rw [h]; decide), hf]⟩
theorem set0 {c : CfgV} {ls : List LeaseV} {x : LeaseV} {k : Nat} (h : goodB c x = true) (hf : atP ls (isT x) = some k) : setE c ls x = 0 ∧ setL c ls x = ls.set k x := ⟨by unfold setE; rw [if_neg (by rw [h]; decide), hf]; rfl, by unfold setL; rw [if_neg (by rw [h]; decide), hf]⟩
end Go.Proofs.Ytggafipgfgbbiaa.Le
