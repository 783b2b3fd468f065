/-
  Slices of leases that came in, read lease by lease; kept over new memory.
  No condition.
-/
import Derived.Test.YtggafipgfgbbiaaRows
import Derived.Test.YtggafipgfgbbiaaRow
import Derived.Test.YtggafipgfgbbiaaTyp
import Derived.Deep.Slices
set_option maxRecDepth 100000
namespace Go.Proofs.Ytggafipgfgbbiaa.Ls
set_option linter.unusedVariables false
set_option linter.unusedSimpArgs false
open Go.RowKit Go.Proofs.Ytggafipgfgbbiaa.Ba Go.Proofs.Ytggafipgfgbbiaa.Ty Go.Proofs.Ytggafipgfgbbiaa.Mem
def leaC (l : LeaseV) : List Value := [.int .i64 l.se, .int .i64 l.fl, .int .i64 l.fm, .int .i64 l.to, .int .i64 l.ma, .int .i64 l.ca, .int .i64 l.ph, .int .i64 l.un, .int .i64 l.re, .int .i64 l.gr]
instance : Inhabited LeaseV := ⟨⟨0, 0, 0, 0, 0, 0, 0, 0, 0, 0⟩⟩
section
variable {H : Type} {enc : TypeId × Value → H} {w : World} {base : Nat} {spare : Nat → Bool} {held : Bool}
theorem lease_of {fuel : Nat} {cs : List Value} {x : DataW H × List MemPlace} (h : DataW.trod enc Try.prog w base spare held fuel 56 cs = some x) : ∃ l : LeaseV, cs = leaC l := by
  have e1 : Try.prog.cellsOf 3 = 1 := by kernel_rfl
  have e5 : Try.prog.cellsOf 30 = 5 := by kernel_rfl
  obtain ⟨xs, n, rfl, _, hl, hx, hf⟩ := DataW.trod_struct Try.underlying56 h
  have hl' : cs.length = 10 := hl.trans (by kernel_rfl)
  match cs, hl' with
  | [a0, a1, a2, a3, a4, a5, a6, a7, a8, a9], _ =>
    have hx' : xs.length = 6 := hx
    match xs, hx' with
    | [y0, y1, y2, y3, y4, y5], _ =>
      have g0 := hf 0 _ rfl
      have g1 := hf 1 _ rfl
      have g2 := hf 2 _ rfl
      have g3 := hf 3 _ rfl
      have g4 := hf 4 _ rfl
      have g5 := hf 5 _ rfl
      simp [e1, e5] at g0 g1 g2 g3 g4 g5
      obtain ⟨zs, m, rfl, _, _, hz, hg⟩ := DataW.trod_struct Try.underlying30 g0
      have hz' : zs.length = 5 := hz
      match zs, hz' with
      | [z0, z1, z2, z3, z4], _ =>
        have k0 := hg 0 _ rfl
        have k1 := hg 1 _ rfl
        have k2 := hg 2 _ rfl
        have k3 := hg 3 _ rfl
        have k4 := hg 4 _ rfl
        simp [e1] at k0 k1 k2 k3 k4
        obtain ⟨v0, q0, _⟩ := DataW.trod_int Try.underlying3 k0
        obtain ⟨v1, q1, _⟩ := DataW.trod_int Try.underlying3 k1
        obtain ⟨v2, q2, _⟩ := DataW.trod_int Try.underlying3 k2
        obtain ⟨v3, q3, _⟩ := DataW.trod_int Try.underlying3 k3
        obtain ⟨v4, q4, _⟩ := DataW.trod_int Try.underlying3 k4
        obtain ⟨v5, q5, _⟩ := DataW.trod_int Try.underlying3 g1
        obtain ⟨v6, q6, _⟩ := DataW.trod_int Try.underlying3 g2
        obtain ⟨v7, q7, _⟩ := DataW.trod_int Try.underlying3 g3
        obtain ⟨v8, q8, _⟩ := DataW.trod_int Try.underlying3 g4
        obtain ⟨v9, q9, _⟩ := DataW.trod_int Try.underlying3 g5
        simp at q0 q1 q2 q3 q4 q5 q6 q7 q8 q9
        exact ⟨⟨v0, v1, v2, v3, v4, v5, v6, v7, v8, v9⟩, by simp [leaC, *]⟩
/-- The slice (address a, n elements) reads as these leases. -/
def LV (w : World) (a : Option Addr) (n : Nat) (ls : Nat → LeaseV) : Prop :=
  n = 0 ∨ ∃ b off, a = some ⟨b, off, none⟩ ∧ b < w.heap.size ∧ ∀ i, i < n → ∀ j v, (leaC (ls i))[j]? = some v → w.cell? ⟨b, off + i * 10 + j, none⟩ = some v
theorem LV.keep {w w' : World} {a : Option Addr} {n : Nat} {ls : Nat → LeaseV} (k : Since w w') (h : LV w a n ls) : LV w' a n ls := by
  rcases h with h | ⟨b, off, e, hb, hc⟩
  · exact .inl h
  · exact .inr ⟨b, off, e, Nat.lt_of_lt_of_le hb k.size, fun i hi j v hj => keep_cell k (hc i hi j v hj)⟩
theorem LV.open_ {fuel : Nat} {a : Option Addr} {len cap : Nat} {x : DataW H × List MemPlace} (h : DataW.trod enc Try.prog w base spare held fuel 24 [.slice a len cap] = some x) : ∃ ls, LV w a len ls ∧ len ≤ 9223372036854775807 := by
  have ce : Try.prog.cellsOf 56 = 10 := by kernel_rfl
  rcases Go.Deep.open_slice Try.underlying24 h with ⟨hcs, _⟩ | ⟨a', len', cap', m, n, D, Pl, hcs, hb, hlc, hcm, hm, _, hx⟩
  · simp at hcs
    obtain ⟨rfl, rfl, rfl⟩ := hcs
    exact ⟨default, .inl rfl, by omega⟩
  · simp at hcs
    obtain ⟨rfl, rfl, rfl⟩ := hcs
    have hlm : len ≤ m := by rw [hm]; split <;> omega
    have each : ∀ i, i < len → ∃ l : LeaseV, ∀ j v, (leaC l)[j]? = some v → w.cell? ((a'.add (i * 10)).add j) = some v := by
      intro i hi
      obtain ⟨cs', h1, h2⟩ := hx i (by omega)
      rw [ce] at h1
      obtain ⟨_, hlen, hcell⟩ := World.cells?_some h1
      obtain ⟨l, rfl⟩ := lease_of h2
      refine ⟨l, fun j v hj => ?_⟩
      have hj10 : j < 10 := by
        obtain ⟨hlt, _⟩ := List.getElem?_eq_some_iff.1 hj
        simpa [leaC] using hlt
      rw [hcell j hj10, hj]
    obtain ⟨ls, hls⟩ := Go.Deep.choose_lt each
    refine ⟨ls, ?_, by unfold maxLen at hcm; omega⟩
    rcases Nat.eq_zero_or_pos len with h0 | h0
    · exact .inl h0
    · obtain ⟨b, off, idx⟩ := a'
      have c0 := hls 0 h0 0 _ rfl
      cases idx with
      | none =>
        rw [Go.WideShapes.add_plain, Go.WideShapes.add_plain] at c0
        refine .inr ⟨b, off, rfl, World.block_lt_of_cell? _ _ c0, fun i hi j v hj => ?_⟩
        have := hls i hi j v hj
        rw [Go.WideShapes.add_plain, Go.WideShapes.add_plain] at this
        exact this
      | some q =>
        exfalso
        simp [World.cell?, Addr.add] at c0
        split at c0 <;> simp at c0
end
end Go.Proofs.Ytggafipgfgbbiaa.Ls
