/-
  Slices of a queue's calls that came in, read one by one; kept over new memory.
  No condition.
-/
import Derived.Test.YtggafipgfgbbiaaRows
import Derived.Test.YtggafipgfgbbiaaQue
import Derived.Test.YtggafipgfgbbiaaAskL
import Derived.Deep.Slices
import Derived.ChangeSlices
namespace Go.Proofs.Ytggafipgfgbbiaa.Qu
set_option linter.unusedVariables false
set_option linter.unusedSimpArgs false
open Go.RowKit Go.Proofs.Ytggafipgfgbbiaa.Ba Go.Proofs.Ytggafipgfgbbiaa.Mem Go.Proofs.Ytggafipgfgbbiaa.Ty
structure QopV where
  k : Int
  a : AskV
  A : Option Addr
  n : Nat
  c : Nat
  zs : List Int
instance : Inhabited QopV := ⟨⟨0, ⟨0, 0, 0, 0, 0⟩, none, 0, 0, []⟩⟩
def qopC (o : QopV) : List Value := [.int .i64 o.k, .int .i64 o.a.se, .int .i64 o.a.fl, .int .i64 o.a.fm, .int .i64 o.a.to, .int .i64 o.a.ma, .slice o.A o.n o.c]
set_option maxRecDepth 100000
theorem IV.of_ints {w : World} {x : Addr} {zs : List Int} {len : Nat} (hlz : len ≤ zs.length) (hc : ∀ i, i < zs.length → w.cell? (x.add i) = some (.int .i64 (zs.getD i 0))) : IV w (some x) len (zs.take len) := by
  refine ⟨by rw [List.length_take]; omega, ?_⟩
  rcases Nat.eq_zero_or_pos len with h0 | h0
  · exact .inl h0
  · obtain ⟨b, off, rfl, hc'⟩ := ints_at hc (by omega)
    refine .inr ⟨b, off, rfl, ?_, fun j hj => ?_⟩
    · have := hc' 0 (by omega)
      exact World.block_lt_of_cell? _ _ this
    · rw [hc' j (by omega)]
      congr 2
      simp [List.getD, List.getElem?_take, hj]
section
variable {H : Type} {enc : TypeId × Value → H} {w : World} {base : Nat} {spare : Nat → Bool} {held : Bool}
theorem qop_of {fuel : Nat} {cs : List Value} {x : DataW H × List MemPlace} (h : DataW.trod enc Try.prog w base spare held fuel 38 cs = some x) : ∃ o : QopV, cs = qopC o ∧ IV w o.A o.n o.zs ∧ o.n ≤ 9223372036854775807 := by
  have e1 : Try.prog.cellsOf 3 = 1 := by kernel_rfl
  have e5 : Try.prog.cellsOf 30 = 5 := by kernel_rfl
  have es : Try.prog.cellsOf 36 = 1 := by kernel_rfl
  obtain ⟨xs, n, rfl, _, hl, hx, hf⟩ := DataW.trod_struct Try.underlying38 h
  have hl' : cs.length = 7 := hl.trans (by kernel_rfl)
  match cs, hl' with
  | [a0, a1, a2, a3, a4, a5, a6], _ =>
    have hx' : xs.length = 3 := hx
    match xs, hx' with
    | [y0, y1, y2], _ =>
      have g0 := hf 0 _ rfl
      have g1 := hf 1 _ rfl
      have g2 := hf 2 _ rfl
      simp [e1, e5, es] at g0 g1 g2
      obtain ⟨v0, q0, _⟩ := DataW.trod_int Try.underlying3 g0
      obtain ⟨l, hl⟩ := Al.ask_of g1
      simp at q0
      unfold Al.askC at hl
      injection hl with h1 hl
      injection hl with h2 hl
      injection hl with h3 hl
      injection hl with h4 hl
      injection hl with h5 hl
      subst q0 h1 h2 h3 h4 h5
      rcases Go.ChangeShapes.open_ints Try.underlying36 Try.underlying3 (by kernel_rfl) g2 with ⟨hcs, _⟩ | ⟨x, l2, c, zs, hcs, _, hlc, hm2, hz, _, hcl, hw⟩
      · simp at hcs
        subst hcs
        exact ⟨⟨v0, l, none, 0, 0, []⟩, rfl, IV.nil _ _, by simp⟩
      · simp at hcs
        subst hcs
        exact ⟨⟨v0, l, some x, l2, c, zs.take l2⟩, rfl, IV.of_ints (by show l2 ≤ zs.length; rw [hz]; split <;> omega) hcl, by unfold maxLen at hm2; show l2 ≤ _; omega⟩
/-- The slice (address a, n elements) reads as these calls. -/
def Qops (w : World) (a : Option Addr) (n : Nat) (ls : Nat → QopV) : Prop :=
  n = 0 ∨ ∃ b off, a = some ⟨b, off, none⟩ ∧ b < w.heap.size ∧ ∀ i, i < n → (∀ j v, (qopC (ls i))[j]? = some v → w.cell? ⟨b, off + i * 7 + j, none⟩ = some v) ∧ IV w (ls i).A (ls i).n (ls i).zs ∧ (ls i).n ≤ 9223372036854775807
theorem Qops.at_ {w : World} {a : Option Addr} {n : Nat} {ls : Nat → QopV} (h : Qops w a n ls) {k : Nat} (hk : k < n) : ∃ b off, a = some ⟨b, off, none⟩ ∧ b < w.heap.size ∧ ∀ i, i < n → (∀ j v, (qopC (ls i))[j]? = some v → w.cell? ⟨b, off + i * 7 + j, none⟩ = some v) ∧ IV w (ls i).A (ls i).n (ls i).zs ∧ (ls i).n ≤ 9223372036854775807 := by
  rcases h with h | h
  · omega
  · exact h
theorem Qops.open_ {fuel : Nat} {a : Option Addr} {len cap : Nat} {x : DataW H × List MemPlace} (h : DataW.trod enc Try.prog w base spare held fuel 32 [.slice a len cap] = some x) : ∃ ls, Qops w a len ls ∧ len ≤ 9223372036854775807 := by
  have ce : Try.prog.cellsOf 38 = 7 := by kernel_rfl
  rcases Go.Deep.open_slice Try.underlying32 h with ⟨hcs, _⟩ | ⟨a', len', cap', m, n, D, Pl, hcs, hb, hlc, hcm, hm, _, hx⟩
  · simp at hcs
    obtain ⟨rfl, rfl, rfl⟩ := hcs
    exact ⟨default, .inl rfl, by omega⟩
  · simp at hcs
    obtain ⟨rfl, rfl, rfl⟩ := hcs
    have hlm : len ≤ m := by rw [hm]; split <;> omega
    have each : ∀ i, i < len → ∃ l : QopV, (∀ j v, (qopC l)[j]? = some v → w.cell? ((a'.add (i * 7)).add j) = some v) ∧ IV w l.A l.n l.zs ∧ l.n ≤ 9223372036854775807 := by
      intro i hi
      obtain ⟨cs', h1, h2⟩ := hx i (by omega)
      rw [ce] at h1
      obtain ⟨_, hlen, hcell⟩ := World.cells?_some h1
      obtain ⟨l, rfl, h3⟩ := qop_of h2
      refine ⟨l, fun j v hj => ?_, h3⟩
      have hj9 : j < 7 := by
        obtain ⟨hlt, _⟩ := List.getElem?_eq_some_iff.1 hj
        simpa [qopC] using hlt
      rw [hcell j hj9, hj]
    obtain ⟨ls, hls⟩ := Go.Deep.choose_lt each
    refine ⟨ls, ?_, by unfold maxLen at hcm; omega⟩
    rcases Nat.eq_zero_or_pos len with h0 | h0
    · exact .inl h0
    · obtain ⟨b, off, idx⟩ := a'
      have c0 := (hls 0 h0).1 0 _ rfl
      cases idx with
      | none =>
        rw [Go.WideShapes.add_plain, Go.WideShapes.add_plain] at c0
        refine .inr ⟨b, off, rfl, World.block_lt_of_cell? _ _ c0, fun i hi => ⟨fun j v hj => ?_, (hls i hi).2⟩⟩
        have := (hls i hi).1 j v hj
        rw [Go.WideShapes.add_plain, Go.WideShapes.add_plain] at this
        exact this
      | some q =>
        exfalso
        simp [World.cell?, Addr.add] at c0
        split at c0 <;> simp at c0
end
end Go.Proofs.Ytggafipgfgbbiaa.Qu
