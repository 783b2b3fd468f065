/-
  Loads of memory that came in, cell by cell; sums that fit.
  No condition.
-/
import Derived.Test.YtlihhjcneedgnaaStp
namespace Go.Proofs.Ytlihhjcneedgnaa.Ba
set_option linter.unusedVariables false
set_option linter.unusedSimpArgs false
open Go.RowKit Go.Proofs.Ytlihhjcneedgnaa.Mem
theorem wr64 (x : Int) (h0 : -9223372036854775808 ≤ x) (h1 : x ≤ 9223372036854775807) : IntKind.i64.wrap x = x := by
  simp only [IntKind.wrap, IntKind.bits, IntKind.signed]; simp; omega
section
variable {P : Program} {o : Oper} {a : Act} {w : World} {K : Act → World → Prop} {Q : Exit → Act → World → Prop}
/-- A cell, or a range of cells, of memory that came in is loaded. -/
theorem exec_at {p : Addr} {v : Value} (ty : TypeId) (x : Operand) (d : TypeDesc) (hc : w.cell? p = some v) (ho : o.op = .load ty x) (hx : a.eval x = .pointer (some p))
    (hu : P.underlying ty = some d) (hd : (match d with | .struct _ | .array _ _ => true | _ => false) = false) : (execOp a.eval o).run P w = .ok (.value v) w := by
  have hagg : (isAgg ty).run P w = .ok false w := by
    unfold isAgg
    rw [Sem.run_bind, run_underlying hu w]
    cases d <;> simp_all
  unfold execOp
  simp only [ho, hx, Instr.loadAt, Instr.sureAddr, Sem.run_bind, Sem.run_pure, Result.andThen_ok]
  simp [loadVar, Sem.run_bind, hagg, hc]
theorem exec_rng {b i : Nat} {l : List Value} (ty : TypeId) (x : Operand) (d : TypeDesc) (hc : ∀ j v, l[j]? = some v → w.cell? ⟨b, i + j, none⟩ = some v) (ho : o.op = .load ty x) (hx : a.eval x = .pointer (some ⟨b, i, none⟩))
    (hu : P.underlying ty = some d) (hd : d.isRow = true) (hi : (P.info? ty).map (·.size) = some l.length) : (execOp a.eval o).run P w = .ok (.value (.agg l.toArray)) w := by
  unfold execOp
  simp only [ho, hx, Instr.loadAt, Instr.sureAddr, Sem.run_bind, Sem.run_pure, Result.andThen_ok, run_loadVar_mid w b i ty l d (fun j v hv => hc j v hv) hu hd hi]
end
end Go.Proofs.Ytlihhjcneedgnaa.Ba
