/-
  Slices of cars that came in, read car by car; kept over new memory.
  No condition.
-/
import Derived.Test.YtdbbacpofgjgoaaRows
import Derived.Test.YtdbbacpofgjgoaaRow
import Derived.Test.YtdbbacpofgjgoaaTyp
import Derived.Deep.Slices
namespace Go.Proofs.Ytdbbacpofgjgoaa.Cs
set_option linter.unusedVariables false
set_option linter.unusedSimpArgs false
open Go.RowKit Go.Proofs.Ytdbbacpofgjgoaa.Ba Go.Proofs.Ytdbbacpofgjgoaa.Ty Go.Proofs.Ytdbbacpofgjgoaa.Mem
def carC (x : CarV) : List Value := [.int .i64 x.ds, .int .i64 x.da, .int .i64 x.un, .int .i64 x.wy, .int .i64 x.ti, .int .i64 x.ju, .int .i64 x.lo, .bool x.bl, .bool x.br, .int .i64 x.mo, .int .i64 x.ta, .bool x.ho, .int .u64 x.sp, .int .u64 x.su, .int .u64 x.sd]
/-- Its stops are numbers of 64 bits. -/
def fitC (x : CarV) : Prop := (Lit.int .u64 x.sp).wf = true ∧ (Lit.int .u64 x.su).wf = true ∧ (Lit.int .u64 x.sd).wf = true
instance : Inhabited CarV := ⟨⟨0, 0, 0, 0, 0, 0, 0, false, false, 0, 0, false, 0, 0, 0⟩⟩
set_option maxRecDepth 100000
section
variable {H : Type} {enc : TypeId × Value → H} {w : World} {base : Nat} {spare : Nat → Bool} {held : Bool}
theorem car_of {fuel : Nat} {cs : List Value} {x : DataW H × List MemPlace} (h : DataW.trod enc Try.prog w base spare held fuel 30 cs = some x) : ∃ l : CarV, cs = carC l ∧ fitC l := by
  have e1 : Try.prog.cellsOf 3 = 1 := by kernel_rfl
  have eb : Try.prog.cellsOf 4 = 1 := by kernel_rfl
  have eu : Try.prog.cellsOf 26 = 1 := by kernel_rfl
  have e2 : Try.prog.cellsOf 25 = 2 := by kernel_rfl
  have e3 : Try.prog.cellsOf 28 = 3 := by kernel_rfl
  obtain ⟨xs, n, rfl, _, hl, hx, hf⟩ := DataW.trod_struct Try.underlying30 h
  have hl' : cs.length = 15 := hl.trans (by kernel_rfl)
  match cs, hl' with
  | [a0, a1, a2, a3, a4, a5, a6, a7, a8, a9, a10, a11, a12, a13, a14], _ =>
    have hx' : xs.length = 12 := hx
    match xs, hx' with
    | [y0, y1, y2, y3, y4, y5, y6, y7, y8, y9, y10, y11], _ =>
      have g0 := hf 0 _ rfl
      have g1 := hf 1 _ rfl
      have g2 := hf 2 _ rfl
      have g3 := hf 3 _ rfl
      have g4 := hf 4 _ rfl
      have g5 := hf 5 _ rfl
      have g6 := hf 6 _ rfl
      have g7 := hf 7 _ rfl
      have g8 := hf 8 _ rfl
      have g9 := hf 9 _ rfl
      have g10 := hf 10 _ rfl
      have g11 := hf 11 _ rfl
      simp [e1, eb, e2, e3] at g0 g1 g2 g3 g4 g5 g6 g7 g8 g9 g10 g11
      obtain ⟨zs, m, rfl, _, _, hz, hg⟩ := DataW.trod_struct Try.underlying25 g0
      have hz' : zs.length = 2 := hz
      obtain ⟨us, m', hm', _, _, hu, hh⟩ := DataW.trod_struct Try.underlying28 g11
      have hu' : us.length = 3 := hu
      match zs, hz', us, hu' with
      | [z0, z1], _, [u0, u1, u2], _ =>
        have k0 := hg 0 _ rfl
        have k1 := hg 1 _ rfl
        have s0 := hh 0 _ rfl
        have s1 := hh 1 _ rfl
        have s2 := hh 2 _ rfl
        simp [e1] at k0 k1
        simp [eu] at s0 s1 s2
        obtain ⟨v0, q0, _, w0⟩ := DataW.trod_int Try.underlying3 k0
        obtain ⟨v1, q1, _, w1⟩ := DataW.trod_int Try.underlying3 k1
        obtain ⟨v2, q2, _, w2⟩ := DataW.trod_int Try.underlying3 g1
        obtain ⟨v3, q3, _, w3⟩ := DataW.trod_int Try.underlying3 g2
        obtain ⟨v4, q4, _, w4⟩ := DataW.trod_int Try.underlying3 g3
        obtain ⟨v5, q5, _, w5⟩ := DataW.trod_int Try.underlying3 g4
        obtain ⟨v6, q6, _, w6⟩ := DataW.trod_int Try.underlying3 g5
        obtain ⟨v7, q7, _⟩ := DataW.trod_bool Try.underlying4 g6
        obtain ⟨v8, q8, _⟩ := DataW.trod_bool Try.underlying4 g7
        obtain ⟨v9, q9, _, w9⟩ := DataW.trod_int Try.underlying3 g8
        obtain ⟨v10, q10, _, w10⟩ := DataW.trod_int Try.underlying3 g9
        obtain ⟨v11, q11, _⟩ := DataW.trod_bool Try.underlying4 g10
        obtain ⟨v12, q12, _, w12⟩ := DataW.trod_int Try.underlying26 s0
        obtain ⟨v13, q13, _, w13⟩ := DataW.trod_int Try.underlying26 s1
        obtain ⟨v14, q14, _, w14⟩ := DataW.trod_int Try.underlying26 s2
        simp at q0 q1 q2 q3 q4 q5 q6 q7 q8 q9 q10 q11 q12 q13 q14
        exact ⟨⟨v0, v1, v2, v3, v4, v5, v6, v7, v8, v9, v10, v11, v12, v13, v14⟩, by simp [carC, *], w12, w13, w14⟩
/-- The slice (address a, n elements) reads as these cars. -/
def CV (w : World) (a : Option Addr) (n : Nat) (ls : Nat → CarV) : Prop :=
  n = 0 ∨ ∃ b off, a = some ⟨b, off, none⟩ ∧ b < w.heap.size ∧ ∀ i, i < n → ∀ j v, (carC (ls i))[j]? = some v → w.cell? ⟨b, off + i * 15 + j, none⟩ = some v
theorem CV.keep {w w' : World} {a : Option Addr} {n : Nat} {ls : Nat → CarV} (k : Since w w') (h : CV w a n ls) : CV w' a n ls := by
  rcases h with h | ⟨b, off, e, hb, hc⟩
  · exact .inl h
  · exact .inr ⟨b, off, e, Nat.lt_of_lt_of_le hb k.size, fun i hi j v hj => keep_cell k (hc i hi j v hj)⟩
theorem CV.at_ {w : World} {a : Option Addr} {n : Nat} {ls : Nat → CarV} (h : CV w a n ls) {k : Nat} (hk : k < n) : ∃ b off, a = some ⟨b, off, none⟩ ∧ b < w.heap.size ∧ ∀ i, i < n → ∀ j v, (carC (ls i))[j]? = some v → w.cell? ⟨b, off + i * 15 + j, none⟩ = some v := by
  rcases h with h | h
  · omega
  · exact h
theorem CV.open_ {fuel : Nat} {a : Option Addr} {len cap : Nat} {x : DataW H × List MemPlace} (h : DataW.trod enc Try.prog w base spare held fuel 58 [.slice a len cap] = some x) : ∃ ls, CV w a len ls ∧ len ≤ 9223372036854775807 ∧ ∀ i, i < len → fitC (ls i) := by
  have ce : Try.prog.cellsOf 30 = 15 := by kernel_rfl
  rcases Go.Deep.open_slice Try.underlying58 h with ⟨hcs, _⟩ | ⟨a', len', cap', m, n, D, Pl, hcs, hb, hlc, hcm, hm, _, hx⟩
  · simp at hcs
    obtain ⟨rfl, rfl, rfl⟩ := hcs
    exact ⟨default, .inl rfl, by omega, fun i hi => by omega⟩
  · simp at hcs
    obtain ⟨rfl, rfl, rfl⟩ := hcs
    have hlm : len ≤ m := by rw [hm]; split <;> omega
    have each : ∀ i, i < len → ∃ l : CarV, (∀ j v, (carC l)[j]? = some v → w.cell? ((a'.add (i * 15)).add j) = some v) ∧ fitC l := by
      intro i hi
      obtain ⟨cs', h1, h2⟩ := hx i (by omega)
      rw [ce] at h1
      obtain ⟨_, hlen, hcell⟩ := World.cells?_some h1
      obtain ⟨l, rfl, hfit⟩ := car_of h2
      refine ⟨l, fun j v hj => ?_, hfit⟩
      have hj15 : j < 15 := by
        obtain ⟨hlt, _⟩ := List.getElem?_eq_some_iff.1 hj
        simpa [carC] using hlt
      rw [hcell j hj15, hj]
    obtain ⟨ls, hls⟩ := Go.Deep.choose_lt each
    refine ⟨ls, ?_, by unfold maxLen at hcm; omega, fun i hi => (hls i hi).2⟩
    rcases Nat.eq_zero_or_pos len with h0 | h0
    · exact .inl h0
    · obtain ⟨b, off, idx⟩ := a'
      have c0 := (hls 0 h0).1 0 _ rfl
      cases idx with
      | none =>
        rw [Go.WideShapes.add_plain, Go.WideShapes.add_plain] at c0
        refine .inr ⟨b, off, rfl, World.block_lt_of_cell? _ _ c0, fun i hi j v hj => ?_⟩
        have := (hls i hi).1 j v hj
        rw [Go.WideShapes.add_plain, Go.WideShapes.add_plain] at this
        exact this
      | some q =>
        exfalso
        simp [World.cell?, Addr.add] at c0
        split at c0 <;> simp at c0
end
end Go.Proofs.Ytdbbacpofgjgoaa.Cs
