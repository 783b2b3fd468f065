/-
  Slices of asks that came in, read one by one; kept over new memory.
  No condition.
-/
import Derived.Test.YtggafipgfgbbiaaRows
import Derived.Test.YtggafipgfgbbiaaRow
import Derived.Test.YtggafipgfgbbiaaTyp
import Derived.Deep.Slices
namespace Go.Proofs.Ytggafipgfgbbiaa.Al
set_option linter.unusedVariables false
set_option linter.unusedSimpArgs false
open Go.RowKit Go.Proofs.Ytggafipgfgbbiaa.Ba Go.Proofs.Ytggafipgfgbbiaa.Mem Go.Proofs.Ytggafipgfgbbiaa.Ty
def askC (l : AskV) : List Value := [.int .i64 l.se, .int .i64 l.fl, .int .i64 l.fm, .int .i64 l.to, .int .i64 l.ma]
instance : Inhabited AskV := ⟨⟨0, 0, 0, 0, 0⟩⟩
set_option maxRecDepth 100000
section
variable {H : Type} {enc : TypeId × Value → H} {w : World} {base : Nat} {spare : Nat → Bool} {held : Bool}
theorem ask_of {fuel : Nat} {cs : List Value} {x : DataW H × List MemPlace} (h : DataW.trod enc Try.prog w base spare held fuel 30 cs = some x) : ∃ l : AskV, cs = askC l := by
  have e1 : Try.prog.cellsOf 3 = 1 := by kernel_rfl
  obtain ⟨xs, n, rfl, _, hl, hx, hf⟩ := DataW.trod_struct Try.underlying30 h
  have hl' : cs.length = 5 := hl.trans (by kernel_rfl)
  match cs, hl' with
  | [a0, a1, a2, a3, a4], _ =>
    have hx' : xs.length = 5 := hx
    match xs, hx' with
    | [y0, y1, y2, y3, y4], _ =>
      have g0 := hf 0 _ rfl
      have g1 := hf 1 _ rfl
      have g2 := hf 2 _ rfl
      have g3 := hf 3 _ rfl
      have g4 := hf 4 _ rfl
      simp [e1] at g0 g1 g2 g3 g4
      obtain ⟨v0, q0, _⟩ := DataW.trod_int Try.underlying3 g0
      obtain ⟨v1, q1, _⟩ := DataW.trod_int Try.underlying3 g1
      obtain ⟨v2, q2, _⟩ := DataW.trod_int Try.underlying3 g2
      obtain ⟨v3, q3, _⟩ := DataW.trod_int Try.underlying3 g3
      obtain ⟨v4, q4, _⟩ := DataW.trod_int Try.underlying3 g4
      simp at q0 q1 q2 q3 q4
      exact ⟨⟨v0, v1, v2, v3, v4⟩, by simp [askC, *]⟩
/-- The slice (address a, n elements) reads as these. -/
def Asks (w : World) (a : Option Addr) (n : Nat) (ls : Nat → AskV) : Prop :=
  n = 0 ∨ ∃ b off, a = some ⟨b, off, none⟩ ∧ b < w.heap.size ∧ ∀ i, i < n → ∀ j v, (askC (ls i))[j]? = some v → w.cell? ⟨b, off + i * 5 + j, none⟩ = some v
theorem Asks.at_ {w : World} {a : Option Addr} {n : Nat} {ls : Nat → AskV} (h : Asks w a n ls) {k : Nat} (hk : k < n) : ∃ b off, a = some ⟨b, off, none⟩ ∧ b < w.heap.size ∧ ∀ i, i < n → ∀ j v, (askC (ls i))[j]? = some v → w.cell? ⟨b, off + i * 5 + j, none⟩ = some v := by
  rcases h with h | h
  · omega
  · exact h
theorem Asks.open_ {fuel : Nat} {a : Option Addr} {len cap : Nat} {x : DataW H × List MemPlace} (h : DataW.trod enc Try.prog w base spare held fuel 35 [.slice a len cap] = some x) : ∃ ls, Asks w a len ls ∧ len ≤ 9223372036854775807 := by
  have ce : Try.prog.cellsOf 30 = 5 := by kernel_rfl
  rcases Go.Deep.open_slice Try.underlying35 h with ⟨hcs, _⟩ | ⟨a', len', cap', m, n, D, Pl, hcs, hb, hlc, hcm, hm, _, hx⟩
  · simp at hcs
    obtain ⟨rfl, rfl, rfl⟩ := hcs
    exact ⟨default, .inl rfl, by omega⟩
  · simp at hcs
    obtain ⟨rfl, rfl, rfl⟩ := hcs
    have hlm : len ≤ m := by rw [hm]; split <;> omega
    have each : ∀ i, i < len → ∃ l : AskV, ∀ j v, (askC l)[j]? = some v → w.cell? ((a'.add (i * 5)).add j) = some v := by
      intro i hi
      obtain ⟨cs', h1, h2⟩ := hx i (by omega)
      rw [ce] at h1
      obtain ⟨_, hlen, hcell⟩ := World.cells?_some h1
      obtain ⟨l, rfl⟩ := ask_of h2
      refine ⟨l, fun j v hj => ?_⟩
      have hj9 : j < 5 := by
        obtain ⟨hlt, _⟩ := List.getElem?_eq_some_iff.1 hj
        simpa [askC] using hlt
      rw [hcell j hj9, hj]
    obtain ⟨ls, hls⟩ := Go.Deep.choose_lt each
    refine ⟨ls, ?_, by unfold maxLen at hcm; omega⟩
    rcases Nat.eq_zero_or_pos len with h0 | h0
    · exact .inl h0
    · obtain ⟨b, off, idx⟩ := a'
      have c0 := hls 0 h0 0 _ rfl
      cases idx with
      | none =>
        rw [Go.WideShapes.add_plain, Go.WideShapes.add_plain] at c0
        refine .inr ⟨b, off, rfl, World.block_lt_of_cell? _ _ c0, fun i hi j v hj => ?_⟩
        have := hls i hi j v hj
        rw [Go.WideShapes.add_plain, Go.WideShapes.add_plain] at this
        exact this
      | some q =>
        exfalso
        simp [World.cell?, Addr.add] at c0
        split at c0 <;> simp at c0
end
end Go.Proofs.Ytggafipgfgbbiaa.Al
