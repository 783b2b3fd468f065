/-
  Whole rows that stand: kept over new memory; loaded at once, in a region too.
  No condition.
-/
import Derived.Test.YtlihhjcneedgnaaLoc
import Derived.Test.YtlihhjcneedgnaaMem
import Derived.Laws.CopyOwn
namespace Go.Proofs.Ytlihhjcneedgnaa.Ba
set_option linter.unusedVariables false
set_option linter.unusedSimpArgs false
open Go.RowKit Go.Proofs.Ytlihhjcneedgnaa.Mem
theorem keep_blk {W W' : World} {g : Nat} {t : TypeId} {cs : Array Value} (k : Since W W') (h : Blk W g t cs) : Blk W' g t cs := h.below k h.lt
theorem keep_blk_alloc {W W' : World} {o : Obj} {g : Nat} {t : TypeId} {cs : Array Value} (k : Since (W.alloc o) W') (h : Blk W g t cs) : Blk W' g t cs := keep_blk k (h.alloc o)
theorem new_blk {W W' : World} {t : TypeId} {cs : Array Value} (k : Since (W.alloc (.cells cs t)) W') : Blk W' W.heap.size t cs := keep_blk k (Blk.new W t cs)
/-- A whole struct is loaded. -/
theorem exec_load_row {P : Program} {o : Oper} {a : Act} {w : World} {g : Nat} {t : TypeId} {cs : Array Value} (ty : TypeId) (x : Operand) (d : TypeDesc) (hg : Blk w g t cs) (ho : o.op = .load ty x) (hx : a.eval x = .pointer (some ⟨g, 0, none⟩))
    (hu : P.underlying ty = some d) (hd : (match d with | .struct _ | .array _ _ => true | _ => false) = true) (hi : (P.info? ty).map (·.size) = some cs.size) : (execOp a.eval o).run P w = .ok (.value (.agg cs)) w := by
  unfold execOp
  simp only [ho, hx, Instr.loadAt, Instr.sureAddr, Sem.run_bind, Sem.run_pure, Result.andThen_ok, run_loadVar_row w g t ty cs (0, 0) d hg hu hd hi]
/-- The same for a guarded one that is wanted. -/
theorem wpList_load_row_g {P : Program} {ops : Array Oper} {rest : List Oper} {o : Oper} {a : Act} {w : World} {Q : Exit → Act → World → Prop} (hw : Region.wanted o (yielded ops a.tmps) = true) (ty : TypeId) (x : Operand) (ho : o.op = .load ty x)
    (g : Nat) (hx : a.eval x = .pointer (some ⟨g, 0, none⟩)) (t : TypeId) (cs : Array Value) (d : TypeDesc) (hg : Blk w g t cs)
    (hu : P.underlying ty = some d) (hd : (match d with | .struct _ | .array _ _ => true | _ => false) = true) (hi : (P.info? ty).map (·.size) = some cs.size)
    (h : wpList P ops Q rest (a.put o.dst (.agg cs)) w) : wpList P ops Q (o :: rest) a w := by
  unfold wpList
  rw [if_pos hw]
  exact .inl (wp_load_row ty x ho g hx t cs (0, 0) d hg hu hd hi h)
/-- A step that yields, of a region in the text's order. -/
theorem wpList_q {P : Program} {ops : Array Oper} {rest : List Oper} {o : Oper} {a : Act} {w : World} {Q : Exit → Act → World → Prop} (hw : Region.wanted o (yielded ops a.tmps) = true) (v : Value) (he : (execOp a.eval o).run P w = .ok (.value v) w)
    (h : wpList P ops Q rest (a.put o.dst v) w) : wpList P ops Q (o :: rest) a w :=
  wpList_step fun K hK => by
    rw [if_pos hw]
    unfold Oper.wp
    rw [he]
    exact hK _ _ h
/-- A step that yields and leaves a world that is said. -/
theorem wpList_mk {P : Program} {ops : Array Oper} {rest : List Oper} {o : Oper} {a : Act} {w : World} {Q : Exit → Act → World → Prop} (hg : o.guard = none) (v : Value) (w' : World) (he : (execOp a.eval o).run P w = .ok (.value v) w')
    (h : wpList P ops Q rest (a.put o.dst v) w') : wpList P ops Q (o :: rest) a w :=
  wpList_plain hg fun K hK => by
    unfold Oper.wp
    rw [he]
    exact hK _ _ h
theorem Since.setRow {W w : World} (h : Since W w) {g : Nat} (hg : W.heap.size ≤ g) (cs : Array Value) : Since W (w.setRow g cs) := below_setRow (show Below W.heap.size W w from h) hg cs
theorem Blk.row {w : World} {g : Nat} {t : TypeId} {cs : Array Value} (h : Blk w g t cs) (cs' : Array Value) : Blk (w.setRow g cs') g t cs' := setRow_heap w g cs cs' t (0, 0) h
theorem Blk.row_far {w : World} {g k : Nat} {t : TypeId} {cs : Array Value} (h : Blk w g t cs) (hk : g ≠ k) (cs' : Array Value) : Blk (w.setRow k cs') g t cs := (setRow_other w k g cs' hk).trans h
end Go.Proofs.Ytlihhjcneedgnaa.Ba
