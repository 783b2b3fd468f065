/-
  Slices of moves that came in; kept over new memory.
  No condition.
-/
import Derived.Test.YtlihhjcneedgnaaRows
import Derived.Test.YtlihhjcneedgnaaRow
import Derived.Deep.Slices
namespace Go.Proofs.Ytlihhjcneedgnaa.Mv
set_option linter.unusedVariables false
set_option linter.unusedSimpArgs false
open Go.RowKit Go.Proofs.Ytlihhjcneedgnaa.Ba Go.Proofs.Ytlihhjcneedgnaa.Mem
/-- A command's fields. -/
structure MvV where
  k : Int
  e : Int
  n : Int
def mvC (x : MvV) : List Value := [.int .i64 x.k, .int .i64 x.e, .int .i64 x.n]
instance : Inhabited MvV := ⟨⟨0, 0, 0⟩⟩
section
variable {H : Type} {enc : TypeId × Value → H} {w : World} {base : Nat} {spare : Nat → Bool} {held : Bool}
set_option maxRecDepth 100000 in
theorem mv_of {fuel : Nat} {cs : List Value} {x : DataW H × List MemPlace} (h : DataW.trod enc Try.prog w base spare held fuel 33 cs = some x) : ∃ l : MvV, cs = mvC l := by
  have e1 : Try.prog.cellsOf 3 = 1 := by kernel_rfl
  obtain ⟨xs, n, rfl, _, hl, hx, hf⟩ := DataW.trod_struct Try.underlying33 h
  have hl' : cs.length = 3 := hl.trans (by kernel_rfl)
  match cs, hl' with
  | [a0, a1, a2], _ =>
    have hx' : xs.length = 3 := hx
    match xs, hx' with
    | [y0, y1, y2], _ =>
      have g0 := hf 0 _ rfl
      have g1 := hf 1 _ rfl
      have g2 := hf 2 _ rfl
      simp [e1] at g0 g1 g2
      obtain ⟨v0, q0, _⟩ := DataW.trod_int Try.underlying3 g0
      obtain ⟨v1, q1, _⟩ := DataW.trod_int Try.underlying3 g1
      obtain ⟨v2, q2, _⟩ := DataW.trod_int Try.underlying3 g2
      simp at q0 q1 q2
      exact ⟨⟨v0, v1, v2⟩, by simp [mvC, *]⟩
/-- The slice (address a, n elements) reads as these commands. -/
def MV (w : World) (a : Option Addr) (n : Nat) (ls : Nat → MvV) : Prop :=
  n = 0 ∨ ∃ b off, a = some ⟨b, off, none⟩ ∧ b < w.heap.size ∧ ∀ i, i < n → ∀ j v, (mvC (ls i))[j]? = some v → w.cell? ⟨b, off + i * 3 + j, none⟩ = some v
theorem MV.keep {w w' : World} {a : Option Addr} {n : Nat} {ls : Nat → MvV} (k : Since w w') (h : MV w a n ls) : MV w' a n ls := by
  rcases h with h | ⟨b, off, e, hb, hc⟩
  · exact .inl h
  · exact .inr ⟨b, off, e, Nat.lt_of_lt_of_le hb k.size, fun i hi j v hj => keep_cell k (hc i hi j v hj)⟩
theorem MV.at_ {w : World} {a : Option Addr} {n : Nat} {ls : Nat → MvV} (h : MV w a n ls) {k : Nat} (hk : k < n) : ∃ b off, a = some ⟨b, off, none⟩ ∧ b < w.heap.size ∧ ∀ i, i < n → ∀ j v, (mvC (ls i))[j]? = some v → w.cell? ⟨b, off + i * 3 + j, none⟩ = some v := by
  rcases h with h | h
  · omega
  · exact h
theorem MV.open_ {fuel : Nat} {a : Option Addr} {len cap : Nat} {x : DataW H × List MemPlace} (h : DataW.trod enc Try.prog w base spare held fuel 22 [.slice a len cap] = some x) : ∃ ls, MV w a len ls ∧ len ≤ 9223372036854775807 := by
  have ce : Try.prog.cellsOf 33 = 3 := by kernel_rfl
  rcases Go.Deep.open_slice Try.underlying22 h with ⟨hcs, _⟩ | ⟨a', len', cap', m, n, D, Pl, hcs, hb, hlc, hcm, hm, _, hx⟩
  · simp at hcs
    obtain ⟨rfl, rfl, rfl⟩ := hcs
    exact ⟨default, .inl rfl, by omega⟩
  · simp at hcs
    obtain ⟨rfl, rfl, rfl⟩ := hcs
    have hlm : len ≤ m := by rw [hm]; split <;> omega
    have each : ∀ i, i < len → ∃ l : MvV, ∀ j v, (mvC l)[j]? = some v → w.cell? ((a'.add (i * 3)).add j) = some v := by
      intro i hi
      obtain ⟨cs', h1, h2⟩ := hx i (by omega)
      rw [ce] at h1
      obtain ⟨_, hlen, hcell⟩ := World.cells?_some h1
      obtain ⟨l, rfl⟩ := mv_of h2
      refine ⟨l, fun j v hj => ?_⟩
      have hj3 : j < 3 := by
        obtain ⟨hlt, _⟩ := List.getElem?_eq_some_iff.1 hj
        simpa [mvC] using hlt
      rw [hcell j hj3, hj]
    obtain ⟨ls, hls⟩ := Go.Deep.choose_lt each
    refine ⟨ls, ?_, by unfold maxLen at hcm; omega⟩
    rcases Nat.eq_zero_or_pos len with h0 | h0
    · exact .inl h0
    · obtain ⟨b, off, idx⟩ := a'
      have c0 := hls 0 h0 0 _ rfl
      cases idx with
      | none =>
        rw [Go.WideShapes.add_plain, Go.WideShapes.add_plain] at c0
        refine .inr ⟨b, off, rfl, World.block_lt_of_cell? _ _ c0, fun i hi j v hj => ?_⟩
        have := hls i hi j v hj
        rw [Go.WideShapes.add_plain, Go.WideShapes.add_plain] at this
        exact this
      | some q =>
        exfalso
        simp [World.cell?, Addr.add] at c0
        split at c0 <;> simp at c0
end
end Go.Proofs.Ytlihhjcneedgnaa.Mv
