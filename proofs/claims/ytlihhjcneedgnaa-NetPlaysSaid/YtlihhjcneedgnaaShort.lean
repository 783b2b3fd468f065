/-
  A walk's steps with their side conditions filled in: short forms.
  No condition.
-/
import Derived.Test.YtlihhjcneedgnaaStp
import Derived.OrdersHeld
import Derived.Deep.RegionHeld
import Derived.WalkKit
namespace Go.Proofs.Ytlihhjcneedgnaa.Ba
set_option linter.unusedVariables false
set_option linter.unusedSimpArgs false
open Go.RowKit Go.Proofs.Ytlihhjcneedgnaa.Mem
section
variable {P : Program} {md : Region.Mode} {ops : Array Oper} {Q : Exit → Act → World → Prop} {S : World → Prop} {oi : Oper} {fuel : Nat} {listed : Array Bool} {a : Act} {w : World}
/-- What stays over new memory, and holds now. -/
def KeepS (S : World → Prop) (w : World) : Prop := (∀ W W' : World, Since W W' → S W → S W') ∧ S w
theorem KeepS.at_ (_ : KeepS S w) (W : World) (h : S W) : S W := h
theorem wp_held {id : Nat} (h : KeepS S w) (hm : P.follows .mixedOrders = true) (k : S w.drew → wpAnyH P .any ops Q S ops.size (Array.replicate ops.size false) a w.drew) : (Code.region id ops true).wp P Q a w :=
  wp_region_held_drew hm (h.1 _ _ ((Since.refl w).drew) h.2) k
/-- An operation that isn't carried out. -/
theorem tkU (i : Nat) (hS : S w) (hi : ops[i]? = some oi := by first | (simp only [gA, gB, gC]; done) | (simp only [gA, gB, gC]; exact rfl))
    (hs : Region.noSelect ops = true := by kernel_rfl) (hf : Region.free md ops listed i = true := by kernel_rfl) (hr : (Region.ready md ops listed).contains i = true := by kernel_rfl)
    (hQ : ∀ c a w, Q (.panic c) (a.put oi.dst undef) w → Q (.panic c) a w := by exact fun _ _ _ h => h) (hy : YieldsIf P ops S oi undef a := by exact Or.inr ⟨rfl, rfl⟩)
    (h : wpAnyH P md ops Q S fuel (listed.setIfInBounds i true) (a.put oi.dst undef) w) : wpAnyH P md ops Q S (fuel + 1) listed a w :=
  wpAnyH_take hi hs hf hr hQ hy hS h
/-- One that yields v. -/
theorem tkQ (i : Nat) (v : Value) (hS : S w) (hi : ops[i]? = some oi := by first | (simp only [gA, gB, gC]; done) | (simp only [gA, gB, gC]; exact rfl))
    (he : ∀ w, S w → (execOp a.eval oi).run P w = .ok (.value v) w := by intro w hSw; first | rfl | (go_simp; (try with_reducible rfl)))
    (hs : Region.noSelect ops = true := by kernel_rfl) (hf : Region.free md ops listed i = true := by kernel_rfl) (hr : (Region.ready md ops listed).contains i = true := by kernel_rfl)
    (hQ : ∀ c a w, Q (.panic c) (a.put oi.dst v) w → Q (.panic c) a w := by exact fun _ _ _ h => h) (hw : Region.wanted oi (yielded ops a.tmps) = true := by rfl)
    (h : wpAnyH P md ops Q S fuel (listed.setIfInBounds i true) (a.put oi.dst v) w) : wpAnyH P md ops Q S (fuel + 1) listed a w :=
  wpAnyH_take hi hs hf hr hQ (Or.inl ⟨hw, he⟩) hS h
end
section
variable {P : Program} {ops : Array Oper} {rest : List Oper} {o : Oper} {a : Act} {w : World} {Q : Exit → Act → World → Prop}
/-- An index into a slice. -/
theorem exec_ix {b off len cap i s : Nat} {k : IntKind} {I : Int} (t e : TypeId) (x y : Operand) (ho : o.op = .indexAddr t x y) (hx : a.eval x = .slice (some ⟨b, off, none⟩) len cap) (hy : a.eval y = .int k I) (hI : I = i) (hlt : i < len)
    (ht : P.underlying t = some (.slice e)) (hs : (P.info? e).map (·.size) = some s) : (execOp a.eval o).run P w = .ok (.value (.pointer (some ⟨b, off + i * s, none⟩))) w := by
  subst hI
  obtain ⟨j, hi2, hs2⟩ : ∃ i, P.info? e = some i ∧ i.size = s := by
    cases hq : P.info? e with
    | none => simp [hq] at hs
    | some i => exact ⟨i, rfl, by simpa [hq] using hs⟩
  unfold execOp
  simp only [ho, hx, hy]
  simp [Instr.indexAt, asIntOf, run_underlying ht, sizeOf, typeInfo, hi2, hs2, hlt, Go.WideShapes.add_plain]
theorem tkL (v : Value) (he : (execOp a.eval o).run P w = .ok (.value v) w := by first | rfl | (go_simp; (try with_reducible rfl))) (hw : Region.wanted o (yielded ops a.tmps) = true := by rfl)
    (h : wpList P ops Q rest (a.put o.dst v) w) : wpList P ops Q (o :: rest) a w := wpList_q hw v he h
end
end Go.Proofs.Ytlihhjcneedgnaa.Ba
