/-
  A local of some cells behind two stores into it.
  No condition.
-/
import Derived.Test.YtdbbacpofgjgoaaLoc
namespace Go.Proofs.Ytdbbacpofgjgoaa.Ba
set_option linter.unusedVariables false
set_option linter.unusedSimpArgs false
open Go.RowKit
theorem set_two_ne {W : World} {b i : Nat} {x : Value} (u v : Value) (hi : 2 ≤ i) (h : W.cell? ⟨b, i, none⟩ = some x) : ((W.setCell ⟨b, 0, none⟩ u).setCell ⟨b, 1, none⟩ v).cell? ⟨b, i, none⟩ = some x := by
  rw [set_ne _ (by omega), set_ne _ (by omega)]; exact h
theorem set_two_far {W : World} {b c i : Nat} {x : Value} (u v : Value) (hb : b ≠ c) (h : W.cell? ⟨c, i, none⟩ = some x) : ((W.setCell ⟨b, 0, none⟩ u).setCell ⟨b, 1, none⟩ v).cell? ⟨c, i, none⟩ = some x := by
  rw [set_far _ hb, set_far _ hb]; exact h
end Go.Proofs.Ytdbbacpofgjgoaa.Ba
