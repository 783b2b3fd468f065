/-
  Slices of a net's calls that came in, read one by one; kept over new memory.
  No condition.
-/
import Derived.Test.YtlihhjcneedgnaaRows
import Derived.Test.YtlihhjcneedgnaaNet
import Derived.Deep.Slices
import Derived.ChangeSlices
namespace Go.Proofs.Ytlihhjcneedgnaa.Nt
set_option linter.unusedVariables false
set_option linter.unusedSimpArgs false
open Go.RowKit Go.Proofs.Ytlihhjcneedgnaa.Ba Go.Proofs.Ytlihhjcneedgnaa.Mem
open Go.Proofs.Ytlihhjcneedgnaa.Byt (BV isB cells)
structure NopV where
  k : Int
  tt : Int
  ix : Int
  A : Option Addr
  n : Nat
  c : Nat
  zs : List Int
instance : Inhabited NopV := ⟨⟨0, 0, 0, none, 0, 0, []⟩⟩
def nopC (o : NopV) : List Value := [.int .i64 o.k, .int .i64 o.tt, .int .i64 o.ix, .slice o.A o.n o.c]
/-- What is known of one that came in. -/
def NopOk (w : World) (o : NopV) : Prop := BV w o.A o.n o.zs ∧ (Lit.int .i64 o.tt).wf = true ∧ o.n ≤ 9223372036854775807
set_option maxRecDepth 100000
theorem BV.of_ints {w : World} {x : Addr} {zs : List Int} {len : Nat} (hlz : len ≤ zs.length) (hm : len ≤ 9223372036854775807) (hc : ∀ i, i < zs.length → w.cell? (x.add i) = some (.int .u8 (zs.getD i 0))) (hw : ∀ n ∈ zs, (Lit.int .u8 n).wf = true) : BV w (some x) len (zs.take len) := by
  refine ⟨by rw [List.length_take]; omega, hm, fun z hz' => ?_, ?_⟩
  · have := bounds_u8 (hw z (List.mem_of_mem_take hz'))
    unfold isB; omega
  · rcases Nat.eq_zero_or_pos len with h0 | h0
    · exact .inl h0
    · obtain ⟨b, off, rfl, hc'⟩ := ints_at hc (by omega)
      refine .inr ⟨b, off, rfl, ?_, fun j hj => ?_⟩
      · have := hc' 0 (by omega)
        exact World.block_lt_of_cell? _ _ this
      · rw [hc' j (by omega)]
        congr 2
        simp [List.getD, List.getElem?_take, hj]
section
variable {H : Type} {enc : TypeId × Value → H} {w : World} {base : Nat} {spare : Nat → Bool} {held : Bool}
theorem nop_of {fuel : Nat} {cs : List Value} {x : DataW H × List MemPlace} (h : DataW.trod enc Try.prog w base spare held fuel 57 cs = some x) : ∃ o : NopV, cs = nopC o ∧ NopOk w o := by
  have e1 : Try.prog.cellsOf 3 = 1 := by kernel_rfl
  have es : Try.prog.cellsOf 55 = 1 := by kernel_rfl
  obtain ⟨xs, n, rfl, _, hl, hx, hf⟩ := DataW.trod_struct Try.underlying57 h
  have hl' : cs.length = 4 := hl.trans (by kernel_rfl)
  match cs, hl' with
  | [a0, a1, a2, a3], _ =>
    have hx' : xs.length = 4 := hx
    match xs, hx' with
    | [y0, y1, y2, y3], _ =>
      have g0 := hf 0 _ rfl
      have g1 := hf 1 _ rfl
      have g2 := hf 2 _ rfl
      have g3 := hf 3 _ rfl
      simp [e1, es] at g0 g1 g2 g3
      obtain ⟨v0, q0, _⟩ := DataW.trod_int Try.underlying3 g0
      obtain ⟨v1, q1, _, k1⟩ := DataW.trod_int Try.underlying3 g1
      obtain ⟨v2, q2, _⟩ := DataW.trod_int Try.underlying3 g2
      simp at q0 q1 q2
      subst q0 q1 q2
      rcases Go.ChangeShapes.open_ints Try.underlying55 Try.underlying5 (by kernel_rfl) g3 with ⟨hcs, _⟩ | ⟨x, l2, c, zs, hcs, _, hlc, hm2, hz, _, hcl, hw⟩
      · simp at hcs
        subst hcs
        exact ⟨⟨v0, v1, v2, none, 0, 0, []⟩, rfl, BV.nil _ _, k1, by simp⟩
      · simp at hcs
        subst hcs
        have hm3 : l2 ≤ 9223372036854775807 := by unfold maxLen at hm2; omega
        exact ⟨⟨v0, v1, v2, some x, l2, c, zs.take l2⟩, rfl, BV.of_ints (by show l2 ≤ zs.length; rw [hz]; split <;> omega) hm3 hcl hw, k1, hm3⟩
/-- The slice (address a, n elements) reads as these calls. -/
def Nops (w : World) (a : Option Addr) (n : Nat) (ls : Nat → NopV) : Prop :=
  n = 0 ∨ ∃ b off, a = some ⟨b, off, none⟩ ∧ b < w.heap.size ∧ ∀ i, i < n → (∀ j v, (nopC (ls i))[j]? = some v → w.cell? ⟨b, off + i * 4 + j, none⟩ = some v) ∧ NopOk w (ls i)
theorem Nops.at_ {w : World} {a : Option Addr} {n : Nat} {ls : Nat → NopV} (h : Nops w a n ls) {k : Nat} (hk : k < n) : ∃ b off, a = some ⟨b, off, none⟩ ∧ b < w.heap.size ∧ ∀ i, i < n → (∀ j v, (nopC (ls i))[j]? = some v → w.cell? ⟨b, off + i * 4 + j, none⟩ = some v) ∧ NopOk w (ls i) := by
  rcases h with h | h
  · omega
  · exact h
theorem Nops.open_ {fuel : Nat} {a : Option Addr} {len cap : Nat} {x : DataW H × List MemPlace} (h : DataW.trod enc Try.prog w base spare held fuel 51 [.slice a len cap] = some x) : ∃ ls, Nops w a len ls ∧ len ≤ 9223372036854775807 := by
  have ce : Try.prog.cellsOf 57 = 4 := by kernel_rfl
  rcases Go.Deep.open_slice Try.underlying51 h with ⟨hcs, _⟩ | ⟨a', len', cap', m, n, D, Pl, hcs, hb, hlc, hcm, hm, _, hx⟩
  · simp at hcs
    obtain ⟨rfl, rfl, rfl⟩ := hcs
    exact ⟨default, .inl rfl, by omega⟩
  · simp at hcs
    obtain ⟨rfl, rfl, rfl⟩ := hcs
    have hlm : len ≤ m := by rw [hm]; split <;> omega
    have each : ∀ i, i < len → ∃ l : NopV, (∀ j v, (nopC l)[j]? = some v → w.cell? ((a'.add (i * 4)).add j) = some v) ∧ NopOk w l := by
      intro i hi
      obtain ⟨cs', h1, h2⟩ := hx i (by omega)
      rw [ce] at h1
      obtain ⟨_, hlen, hcell⟩ := World.cells?_some h1
      obtain ⟨l, rfl, h3⟩ := nop_of h2
      refine ⟨l, fun j v hj => ?_, h3⟩
      have hj9 : j < 4 := by
        obtain ⟨hlt, _⟩ := List.getElem?_eq_some_iff.1 hj
        simpa [nopC] using hlt
      rw [hcell j hj9, hj]
    obtain ⟨ls, hls⟩ := Go.Deep.choose_lt each
    refine ⟨ls, ?_, by unfold maxLen at hcm; omega⟩
    rcases Nat.eq_zero_or_pos len with h0 | h0
    · exact .inl h0
    · obtain ⟨b, off, idx⟩ := a'
      have c0 := (hls 0 h0).1 0 _ rfl
      cases idx with
      | none =>
        rw [Go.WideShapes.add_plain, Go.WideShapes.add_plain] at c0
        refine .inr ⟨b, off, rfl, World.block_lt_of_cell? _ _ c0, fun i hi => ⟨fun j v hj => ?_, (hls i hi).2⟩⟩
        have := (hls i hi).1 j v hj
        rw [Go.WideShapes.add_plain, Go.WideShapes.add_plain] at this
        exact this
      | some q =>
        exfalso
        simp [World.cell?, Addr.add] at c0
        split at c0 <;> simp at c0
end
end Go.Proofs.Ytlihhjcneedgnaa.Nt
