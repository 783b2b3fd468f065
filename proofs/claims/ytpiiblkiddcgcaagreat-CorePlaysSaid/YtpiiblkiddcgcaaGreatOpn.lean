/-
  Arguments that are structs by value, opened by their type alone: the cells, one by one.
  No condition.
-/
import Derived.WalkKit
import Derived.ProofKit
import Derived.OpenShut
namespace Go.Proofs.YtpiiblkiddcgcaaGreat.Opn
set_option linter.unusedVariables false
set_option linter.unusedSimpArgs false
open Go.RowKit
section
variable {P : Program} {W : World} {base : Nat}
/-- The cells of a struct that came in, each fit for its type. -/
theorem open_agg {t : TypeId} {v : Value} {ts : List TypeId} {fs} (hu : P.underlying t = some (.struct fs)) (hts : P.cellTypes P.depth t = some ts) (hn : P.cellsOf t = ts.length) (h : Value.okWide P W .any base t v) :
    ∃ cs : Array Value, v = .agg cs ∧ cs.size = ts.length ∧ ∀ (i : Nat) (u : TypeId), ts[i]? = some u → ∃ c, cs[i]? = some c ∧ Cell.okWide P W .any base u c := by
  unfold Value.okWide at h
  rw [hu] at h
  obtain ⟨cs, rfl, hsz, ts', hts', _, hc⟩ := h
  rw [hts] at hts'
  obtain rfl : ts = ts' := by injection hts'
  refine ⟨cs, rfl, by omega, fun i u hi => ?_⟩
  obtain ⟨hlt, _⟩ := List.getElem?_eq_some_iff.1 hi
  have hcs : cs[i]? = some (cs[i]'(by omega)) := Array.getElem?_eq_getElem (by omega)
  obtain ⟨u', hu', hok⟩ := hc i _ hcs
  rw [Nat.mod_eq_of_lt hlt, hi] at hu'
  obtain rfl : u = u' := by injection hu'
  exact ⟨_, hcs, hok⟩
theorem cell_int {u : TypeId} {k : IntKind} {c : Value} (hu : P.underlying u = some (.int k)) (h : Cell.okWide P W .any base u c) : ∃ x, c = .int k x ∧ (Lit.int k x).wf = true := by
  unfold Cell.okWide at h
  rw [hu] at h
  simp only at h
  unfold Cell.ok at h
  rw [hu] at h
  cases c with
  | int k' x =>
    simp only at h
    obtain ⟨rfl, hx⟩ := h
    exact ⟨x, rfl, by simpa [Lit.wf, IntKind.has] using hx⟩
  | _ => simp at h
theorem cell_bool {u : TypeId} {c : Value} (hu : P.underlying u = some .bool) (h : Cell.okWide P W .any base u c) : ∃ x, c = .bool x := by
  unfold Cell.okWide at h
  rw [hu] at h
  simp only at h
  unfold Cell.ok at h
  rw [hu] at h
  cases c with
  | bool x => exact ⟨x, rfl⟩
  | _ => simp at h
/-- An array of known cells. -/
theorem arr_of {cs : Array Value} {l : List Value} (hn : cs.size = l.length) (h : ∀ (i : Nat) (c : Value), l[i]? = some c → cs[i]? = some c) : cs = l.toArray := by
  apply Array.ext_getElem?
  intro i
  rcases Nat.lt_or_ge i l.length with hi | hi
  · have e := List.getElem?_eq_getElem hi
    rw [h i _ e]
    simp [hi]
  · rw [Array.getElem?_eq_none (by omega)]
    simp [hi]
/-- Cells from a place on. -/
def Each (cs : Array Value) (i : Nat) (l : List Value) : Prop := ∀ (j : Nat) (c : Value), l[j]? = some c → cs[i + j]? = some c
theorem each_nil {cs : Array Value} {i : Nat} : Each cs i [] := fun _ _ h => by simp at h
theorem each_cons {cs : Array Value} {i : Nat} {c : Value} {l : List Value} (h : cs[i]? = some c) (k : Each cs (i + 1) l) : Each cs i (c :: l) := by
  intro j d hd
  cases j with
  | zero =>
    have : c = d := by simpa using hd
    subst this; exact h
  | succ j =>
    have e : i + (j + 1) = i + 1 + j := by omega
    rw [e]
    exact k j d (by simpa using hd)
theorem arr_each {cs : Array Value} {l : List Value} (hn : cs.size = l.length) (h : Each cs 0 l) : cs = l.toArray :=
  arr_of hn fun i c hi => by have := h i c hi; rwa [Nat.zero_add] at this
/-- A struct of numbers of one kind. -/
theorem open_ints_agg {t e : TypeId} {k : IntKind} {v : Value} {n : Nat} {fs} (hu : P.underlying t = some (.struct fs)) (hts : P.cellTypes P.depth t = some (List.replicate n e)) (hn : P.cellsOf t = n) (he : P.underlying e = some (.int k)) (h : Value.okWide P W .any base t v) :
    ∃ xs : List Int, xs.length = n ∧ v = .agg (xs.map (Value.int k)).toArray ∧ ∀ x ∈ xs, (Lit.int k x).wf = true := by
  obtain ⟨cs, rfl, hsz, hc⟩ := open_agg hu hts (by rw [hn, List.length_replicate]) h
  rw [List.length_replicate] at hsz
  have each : ∀ i, i < n → ∃ x, cs[i]? = some (.int k x) ∧ (Lit.int k x).wf = true := fun i hi => by
    obtain ⟨c, h1, h2⟩ := hc i e (by simp [hi])
    obtain ⟨x, rfl, hx⟩ := cell_int he h2
    exact ⟨x, h1, hx⟩
  have build : ∀ m, m ≤ n → ∃ xs : List Int, xs.length = m ∧ (∀ (i : Nat) (x : Int), xs[i]? = some x → cs[i]? = some (.int k x)) ∧ ∀ x ∈ xs, (Lit.int k x).wf = true := by
    intro m
    induction m with
    | zero => intro _; exact ⟨[], rfl, by simp, by simp⟩
    | succ m ih =>
      intro hm
      obtain ⟨xs, h1, h2, h3⟩ := ih (by omega)
      obtain ⟨x, hx, hw⟩ := each m (by omega)
      refine ⟨xs ++ [x], by simp [h1], fun i y hy => ?_, fun y hy => ?_⟩
      · rcases Nat.lt_or_ge i xs.length with hi | hi
        · rw [List.getElem?_append_left hi] at hy; exact h2 i y hy
        · rw [List.getElem?_append_right hi] at hy
          have h0 : i - xs.length = 0 := by
            rcases Nat.eq_zero_or_pos (i - xs.length) with h | h
            · exact h
            · rw [List.getElem?_eq_none (by simp; omega)] at hy; cases hy
          rw [h0] at hy
          have : x = y := by simpa using hy
          subst this
          rw [show i = m by omega]; exact hx
      · rcases List.mem_append.1 hy with h | h
        · exact h3 y h
        · simp at h; subst h; exact hw
  obtain ⟨xs, h1, h2, h3⟩ := build n (Nat.le_refl _)
  refine ⟨xs, h1, ?_, h3⟩
  congr 1
  apply arr_of (by simp [hsz, h1])
  intro i c hi
  rw [List.getElem?_map] at hi
  cases hx : xs[i]? with
  | none => rw [hx] at hi; cases hi
  | some x =>
    rw [hx] at hi
    obtain rfl : Value.int k x = c := by injection hi
    exact h2 i x hx
end
end Go.Proofs.YtpiiblkiddcgcaaGreat.Opn
