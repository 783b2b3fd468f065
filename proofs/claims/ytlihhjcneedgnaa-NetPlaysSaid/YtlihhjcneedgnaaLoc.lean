/-
  A local of some cells behind stores into it.
  No condition.
-/
import Derived.Test.YtlihhjcneedgnaaBase
namespace Go.Proofs.Ytlihhjcneedgnaa.Ba
set_option linter.unusedVariables false
set_option linter.unusedSimpArgs false
open Go.RowKit
theorem set_same {W : World} {a : Addr} {u x : Value} (h : W.cell? a = some x) : (W.setCell a u).cell? a = some u := by
  exact World.cell?_setCell_same _ _ _ h
theorem set_ne {W : World} {b i j : Nat} (u : Value) (h : i ≠ j) : (W.setCell ⟨b, i, none⟩ u).cell? ⟨b, j, none⟩ = W.cell? ⟨b, j, none⟩ :=
  World.cell?_setCell_other W ⟨b, i, none⟩ ⟨b, j, none⟩ u (fun e => h (by first | exact (congrArg Addr.off e).symm | exact congrArg Addr.off e | exact (congrArg Addr.block e).symm | exact congrArg Addr.block e))
theorem set_far {W : World} {b c i j : Nat} (u : Value) (h : b ≠ c) : (W.setCell ⟨b, i, none⟩ u).cell? ⟨c, j, none⟩ = W.cell? ⟨c, j, none⟩ :=
  World.cell?_setCell_other W ⟨b, i, none⟩ ⟨c, j, none⟩ u (fun e => h (by first | exact (congrArg Addr.off e).symm | exact congrArg Addr.off e | exact (congrArg Addr.block e).symm | exact congrArg Addr.block e))
theorem keep_alloc {w W : World} {o : Obj} {a : Addr} {v : Value} (k : Since (w.alloc o) W) (h : w.cell? a = some v) : W.cell? a = some v :=
  keep_cell (Since.trans ((Since.refl w).alloc o) k) h
theorem new_alloc {w W : World} {cs : Array Value} {t : TypeId} {i : Nat} {v : Value} (k : Since (w.alloc (.cells cs t)) W) (h : cs[i]? = some v) : W.cell? ⟨w.heap.size, i, none⟩ = some v :=
  keep_cell k ((World.cell?_alloc_new w cs t i).trans h)
theorem keep_frz {w W : World} {a : Addr} {v : Value} (k : Since w W) (h : w.cell? a = some v) (f : w.frozen? a = false) : W.frozen? a = false :=
  (k.frozen (World.block_lt_of_cell? _ _ h)).trans f
theorem keep_frz_alloc {w W : World} {o : Obj} {a : Addr} {v : Value} (k : Since (w.alloc o) W) (h : w.cell? a = some v) (f : w.frozen? a = false) : W.frozen? a = false :=
  keep_frz (Since.trans ((Since.refl w).alloc o) k) h f
theorem new_frz {w W : World} {cs : Array Value} {t : TypeId} {i : Nat} (k : Since (w.alloc (.cells cs t)) W) : W.frozen? ⟨w.heap.size, i, none⟩ = false :=
  (k.frozen (by simp)).trans (by simp [go_sem])
theorem set_frz {w : World} {b : Nat} {i : Nat} {a : Addr} {v : Value} (f : w.frozen? a = false) : (w.setCell ⟨b, i, none⟩ v).frozen? a = false := by
  simpa using f
theorem set_two {W : World} {b : Nat} {x y : Value} (u v : Value) (h0 : W.cell? ⟨b, 0, none⟩ = some x) (h1 : W.cell? ⟨b, 1, none⟩ = some y) :
    ((W.setCell ⟨b, 0, none⟩ u).setCell ⟨b, 1, none⟩ v).cell? ⟨b, 0, none⟩ = some u ∧ ((W.setCell ⟨b, 0, none⟩ u).setCell ⟨b, 1, none⟩ v).cell? ⟨b, 1, none⟩ = some v :=
  ⟨by rw [set_ne _ (by omega)]; exact set_same h0, set_same (x := y) (by rw [set_ne _ (by omega)]; exact h1)⟩
end Go.Proofs.Ytlihhjcneedgnaa.Ba
