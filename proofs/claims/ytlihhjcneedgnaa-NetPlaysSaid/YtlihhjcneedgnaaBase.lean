/-
  Small words that every text here uses: equal answers, calls that leave the world alone inside a region that draws its order, new memory at most, the narrow kinds' wraps.
  No condition.
-/
import Derived.WalkKit
import Derived.WalkLawsBesides
import Derived.IntWalk
import Derived.Below
import Derived.Lib.Hide
import Derived.Outline
import Derived.BigQuiet
import Derived.Deep.QuietTactic
import Derived.Deep.RegionHeld3
import Derived.OpenShut
import Derived.Deep.DeepCutAuto
namespace Go.Proofs.Ytlihhjcneedgnaa.Ba
set_option linter.unusedVariables false
set_option linter.unusedSimpArgs false
open Go.RowKit
theorem ret_int {k : IntKind} {a b : Int} (h : a = b) : Ending.returned (.int k a) = .returned (.int k b) := by rw [h]
theorem ret_bool {a b : Bool} (h : a = b) : Ending.returned (.bool a) = .returned (.bool b) := by rw [h]
theorem quiet_eq {P : Program} {f : FuncId} {args : Array Value} {w : World} {n : Nat} {v : Value}
    (h : Calls P f args (w.drewN n) fun e w' => e = .returned v ∧ w.drewN n = w') : Calls P f args (w.drewN n) fun e w'' => e = .returned v ∧ ∃ m, w'' = w.drewN m :=
  h.mono fun _ _ ⟨he, hm⟩ => ⟨he, n, hm.symm⟩
theorem u16_wrap (n : Int) : IntKind.u16.wrap n = n % 65536 := by
  simp [IntKind.wrap, IntKind.bits, IntKind.signed]
theorem i16_wrap (n : Int) : IntKind.i16.wrap n = (n + 32768) % 65536 - 32768 := by
  simp only [IntKind.wrap, IntKind.bits, IntKind.signed]; simp; split <;> omega
theorem tmod_k (x k : Int) : x.tmod k = if 0 ≤ x then x % k else -((-x) % k) := by
  split
  · rename_i h; exact Int.tmod_eq_emod_of_nonneg h
  · rename_i h
    have : x = -(-x) := by omega
    rw [this, Int.neg_tmod, Int.tmod_eq_emod_of_nonneg (by omega)]; simp
/-- W' is W with new memory at most. -/
def Since (W W' : World) : Prop := Below W.heap.size W W'
theorem Since.refl (W : World) : Since W W := Below.refl _ _
theorem Since.drew {W w : World} (h : Since W w) : Since W w.drew := Below.drew h
theorem Since.drewN {W w : World} (h : Since W w) (n : Nat) : Since W (w.drewN n) := Below.trans (show Below W.heap.size W w from h) ⟨rfl, rfl, rfl, Nat.le_refl _, fun _ _ => rfl⟩
theorem Since.trans {a b c : World} (h : Since a b) (k : Since b c) : Since a c := Below.trans (show Below a.heap.size a b from h) (Below.mono k (show Below a.heap.size a b from h).size)
theorem Since.alloc {W w : World} (h : Since W w) (o : Obj) : Since W (w.alloc o) := Below.alloc h (show Below W.heap.size W w from h).size o
theorem Since.setCell {W w : World} (h : Since W w) {p : Addr} (hp : W.heap.size ≤ p.block) (u : Value) : Since W (w.setCell p u) := Below.setCell h hp u
theorem Since.size {W w : World} (h : Since W w) : W.heap.size ≤ w.heap.size := (show Below W.heap.size W w from h).size
theorem Since.below {W w : World} (h : Since W w) : Below W.heap.size W w := h
theorem Since.cell {W w : World} (h : Since W w) {p : Addr} (hp : p.block < W.heap.size) : w.cell? p = W.cell? p := (show Below W.heap.size W w from h).cell hp
theorem Since.frozen {W w : World} (h : Since W w) {p : Addr} (hp : p.block < W.heap.size) : w.frozen? p = W.frozen? p := (show Below W.heap.size W w from h).frozen hp
/-- What was there reads as it did, cell by cell, for the walk. -/
theorem Since.cf {W w : World} (h : Since W w) : (∀ b o, b < W.heap.size → w.cell? ⟨b, o, none⟩ = W.cell? ⟨b, o, none⟩) ∧ (∀ b o, b < W.heap.size → w.frozen? ⟨b, o, none⟩ = W.frozen? ⟨b, o, none⟩) :=
  ⟨fun b o k => h.cell (p := ⟨b, o, none⟩) k, fun b o k => h.frozen (p := ⟨b, o, none⟩) k⟩
/-- A cell that was there is as it was. -/
theorem keep_cell {W W' : World} {a : Addr} {v : Value} (k : Since W W') (h : W.cell? a = some v) : W'.cell? a = some v := by
  rw [k.cell (World.block_lt_of_cell? _ _ h)]; exact h
end Go.Proofs.Ytlihhjcneedgnaa.Ba
