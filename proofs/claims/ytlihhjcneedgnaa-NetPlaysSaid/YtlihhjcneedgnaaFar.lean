/-
  Bytes that lie elsewhere than in a block that is stored into.
  No condition.
-/
import Derived.Test.YtlihhjcneedgnaaOwn
namespace Go.Proofs.Ytlihhjcneedgnaa.Ba
set_option linter.unusedVariables false
set_option linter.unusedSimpArgs false
open Go.RowKit Go.Proofs.Ytlihhjcneedgnaa.Mem
open Go.Proofs.Ytlihhjcneedgnaa.Byt (BV isB cells)
/-- The block g is not the one where the slice lies. -/
def Far (A : Option Addr) (n g : Nat) : Prop := n = 0 ∨ ∀ b off, A = some ⟨b, off, none⟩ → b ≠ g
theorem bv_far {w : World} {A : Option Addr} {n g : Nat} {zs : List Int} (h : BV w A n zs) (hg : w.heap.size ≤ g) : Far A n g := by
  rcases h.2.2.2 with h0 | ⟨b, off, rfl, hb, _⟩
  · exact .inl h0
  · refine .inr fun b' off' he hbg => ?_
    simp only [Option.some.injEq, Addr.mk.injEq, and_true] at he
    omega
theorem cell_row_far {w : World} {g b off : Nat} (hb : b ≠ g) (cs : Array Value) : (w.setRow g cs).cell? ⟨b, off, none⟩ = w.cell? ⟨b, off, none⟩ := by
  exact cell_setRow_other w g cs ⟨b, off, none⟩ hb
theorem bv_row_far {w : World} {A : Option Addr} {n g : Nat} {zs : List Int} (h : BV w A n zs) (hf : Far A n g) (cs : Array Value) : BV (w.setRow g cs) A n zs := by
  refine ⟨h.1, h.2.1, h.2.2.1, ?_⟩
  rcases h.2.2.2 with h0 | ⟨b, off, rfl, hb, hc⟩
  · exact .inl h0
  · rcases hf with h0 | hf
    · exact .inl h0
    · have hne := hf b off rfl
      exact .inr ⟨b, off, rfl, by rw [size_setRow]; exact hb, fun j hj => by rw [cell_row_far hne]; exact hc j hj⟩
end Go.Proofs.Ytlihhjcneedgnaa.Ba
