/-
  Slices of truth values that came in; kept over new memory.
  No condition.
-/
import Derived.Test.YtdbbacpofgjgoaaRows
import Derived.Test.YtdbbacpofgjgoaaRow
import Derived.Deep.Slices
namespace Go.Proofs.Ytdbbacpofgjgoaa.Bo
set_option linter.unusedVariables false
set_option linter.unusedSimpArgs false
open Go.RowKit Go.Proofs.Ytdbbacpofgjgoaa.Ba Go.Proofs.Ytdbbacpofgjgoaa.Mem
section
variable {H : Type} {enc : TypeId × Value → H} {w : World} {base : Nat} {spare : Nat → Bool} {held : Bool}
/-- The slice (address a, n elements) reads as these truth values. -/
def BoV (w : World) (a : Option Addr) (n : Nat) (bs : Nat → Bool) : Prop :=
  n = 0 ∨ ∃ b off, a = some ⟨b, off, none⟩ ∧ b < w.heap.size ∧ ∀ i, i < n → w.cell? ⟨b, off + i, none⟩ = some (.bool (bs i))
theorem BoV.keep {w w' : World} {a : Option Addr} {n : Nat} {bs : Nat → Bool} (k : Since w w') (h : BoV w a n bs) : BoV w' a n bs := by
  rcases h with h | ⟨b, off, e, hb, hc⟩
  · exact .inl h
  · exact .inr ⟨b, off, e, Nat.lt_of_lt_of_le hb k.size, fun i hi => keep_cell k (hc i hi)⟩
theorem BoV.open_ {fuel : Nat} {a : Option Addr} {len cap : Nat} {x : DataW H × List MemPlace} (h : DataW.trod enc Try.prog w base spare held fuel 39 [.slice a len cap] = some x) : ∃ bs, BoV w a len bs ∧ len ≤ 9223372036854775807 := by
  have ce : Try.prog.cellsOf 4 = 1 := by kernel_rfl
  rcases Go.Deep.open_slice Try.underlying39 h with ⟨hcs, _⟩ | ⟨a', len', cap', m, n, D, Pl, hcs, hb, hlc, hcm, hm, _, hx⟩
  · simp at hcs
    obtain ⟨rfl, rfl, rfl⟩ := hcs
    exact ⟨fun _ => false, .inl rfl, by omega⟩
  · simp at hcs
    obtain ⟨rfl, rfl, rfl⟩ := hcs
    have hlm : len ≤ m := by rw [hm]; split <;> omega
    have each : ∀ i, i < len → ∃ v : Bool, w.cell? ((a'.add (i * 1)).add 0) = some (.bool v) := by
      intro i hi
      obtain ⟨cs', h1, h2⟩ := hx i (by omega)
      rw [ce] at h1
      obtain ⟨_, hlen, hcell⟩ := World.cells?_some h1
      obtain ⟨v, rfl, _⟩ := DataW.trod_bool Try.underlying4 h2
      exact ⟨v, by rw [hcell 0 (by omega)]; rfl⟩
    obtain ⟨bs, hbs⟩ := Go.Deep.choose_lt each
    refine ⟨bs, ?_, by unfold maxLen at hcm; omega⟩
    rcases Nat.eq_zero_or_pos len with h0 | h0
    · exact .inl h0
    · obtain ⟨b, off, idx⟩ := a'
      have c0 := hbs 0 h0
      cases idx with
      | none =>
        rw [Go.WideShapes.add_plain, Go.WideShapes.add_plain] at c0
        refine .inr ⟨b, off, rfl, World.block_lt_of_cell? _ _ c0, fun i hi => ?_⟩
        have := hbs i hi
        rw [Go.WideShapes.add_plain, Go.WideShapes.add_plain] at this
        simpa using this
      | some q =>
        exfalso
        simp [World.cell?, Addr.add] at c0
        split at c0 <;> simp at c0
end
end Go.Proofs.Ytdbbacpofgjgoaa.Bo
