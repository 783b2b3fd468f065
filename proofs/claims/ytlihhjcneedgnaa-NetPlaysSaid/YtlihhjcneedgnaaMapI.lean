/-
  Maps from whole numbers, as functions: made, looked up, stored into, deleted from.
  No condition.
-/
import Derived.Test.YtlihhjcneedgnaaUpd
import Derived.Test.YtlihhjcneedgnaaStp
import Derived.Maps.OwnSet
namespace Go.Proofs.Ytlihhjcneedgnaa.Mp
set_option linter.unusedVariables false
set_option linter.unusedSimpArgs false
open Go.RowKit Go.Proofs.Ytlihhjcneedgnaa.Ba Go.Proofs.Ytlihhjcneedgnaa.Mem
open Go.Maps (Keyed IsMap)
/-- How an element reads: as itself. -/
def rv (v : Value) : Option (DataW Value × List MemPlace) := some (.held v, [])
/-- Block b of w is a map from ints, of at most n entries; m: what each key has. -/
def MapF (P : Program) (k : TypeId) (w : World) (b n : Nat) (m : Int → Option Value) : Prop :=
  ∃ D : DataW Value, w.ownsMap P k rv b n D ∧ IsMap D ∧ ∀ x, (Lit.int .i64 x).wf = true → ∀ z, D.atKey (.int .i64 x) z = match m x with | some v => .held v | none => z
def setK (m : Int → Option Value) (x : Int) (v : Option Value) : Int → Option Value := fun y => if y = x then v else m y
section
variable {P : Program} {k e t : TypeId} {w w' : World} {b n : Nat} {m : Int → Option Value} {S : List Nat}
theorem MapF.lt (h : MapF P k w b n m) : b < w.heap.size := by
  obtain ⟨D, h1, _⟩ := h
  exact h1.lt
theorem MapF.upd (u : Upd S w w') (h : MapF P k w b n m) (hb : b ∉ S) : MapF P k w' b n m := by
  obtain ⟨D, ⟨es, clock, h1, h2⟩, h3⟩ := h
  have hlt : b < w.heap.size := (Array.getElem?_eq_some_iff.1 h1).1
  exact ⟨D, ⟨es, clock, (u.block b hlt hb).trans h1, h2⟩, h3⟩
theorem MapF.keep (s : Since w w') (h : MapF P k w b n m) : MapF P k w' b n m := h.upd (Upd.of_since (S := []) s) (by simp)
theorem MapF.mono (h : MapF P k w b n m) {n' : Nat} (hn : n ≤ n') : MapF P k w b n' m := by
  obtain ⟨D, h1, h2⟩ := h
  exact ⟨D, h1.mono hn, h2⟩
theorem key_lit (x : Int) : WideAt.IsKeyLit (.int .i64 x) := by first | trivial | simp [WideAt.IsKeyLit]
theorem grown_upd (g : w.grownBy w' (some b)) : Upd [b] w w' :=
  ⟨g.os, g.tape, g.output, g.size, fun j hj hn => g.block j hj (fun e => hn (by injection e with e; simp [e]))⟩
theorem ne_lit {x y : Int} (h : y ≠ x) : (Lit.int .i64 y) ≠ .int .i64 x := fun e => h (by injection e)
variable {o : Oper} {a : Act} {K : Act → World → Prop} {Q : Exit → Act → World → Prop}
theorem exec_look (mm x : Operand) (ty : TypeId) (ho : o.op = .lookup ty mm x false) (hk : P.underlying k = some (.int .i64)) (ht : P.underlying ty = some (.map k e)) {z : Value} (hz : (zeroValue e).run P w = .ok z w) (h : MapF P k w b n m) (hm : a.eval mm = .map (some b))
    {i : Int} (hx : a.eval x = .int .i64 i) (hw : (Lit.int .i64 i).wf = true) {v : Value} (hv : (m i).getD z = v) : (execOp a.eval o).run P w = .ok (.value v) w := by
  obtain ⟨D, h1, _, h3⟩ := h
  obtain ⟨v', ps, hrun, hat⟩ := h1.lookup (Go.Maps.int_keyed hk) ht hz (zd := .held z) (zp := []) rfl (Go.Maps.keyOf_int_mk hk hw)
  have e : v' = v := by
    rw [h3 i hw] at hat
    have hat2 := (Prod.mk.injEq _ _ _ _).mp (Option.some.inj hat) |>.1
    subst hv
    cases hmi : m i with
    | none => rw [hmi] at hat2; injection hat2 with hat2
    | some u => rw [hmi] at hat2; injection hat2 with hat2
  subst e
  simp [execOp, ho, hm, hx, hrun, Result.andThen]
theorem wp_mapput (mm x v : Operand) (ty : TypeId) (ho : o.op = .mapUpdate ty mm x v) (hk : P.underlying k = some (.int .i64)) (ht : P.underlying ty = some (.map k e)) (h : MapF P k w b n m) (hn : n < 1000000) (hm : a.eval mm = .map (some b)) {i : Int} (hx : a.eval x = .int .i64 i) (hw : (Lit.int .i64 i).wf = true) {u : Value} (hv : a.eval v = u)
    (hK : ∀ w', MapF P k w' b (n + 1) (setK m i (some u)) → Upd [b] w w' → K (a.put o.dst undef) w') : o.wp P a w K Q := by
  obtain ⟨D, h1, h2, h3⟩ := h
  obtain ⟨w', hrun, r1, r2⟩ := h1.update (Go.Maps.int_keyed hk) ht (by unfold maxLen; omega) (Go.Maps.keyOf_int_mk hk hw) (val := u) (d := .held u) (ps := []) rfl
  unfold Oper.wp
  simp [execOp, ho, hm, hx, hv, hrun, Result.andThen]
  refine hK w' ⟨D.put (.int .i64 i) (.held u), r1, h2.put _ _, fun y hy z => ?_⟩ (grown_upd r2)
  unfold setK
  by_cases e : y = i
  · subst e; rw [if_pos rfl, Go.Maps.atKey_put_same h2 (key_lit y)]
  · rw [if_neg e, Go.Maps.atKey_put_other (ne_lit e), h3 y hy z]
theorem wp_mapdel (mm x : Operand) (ty : TypeId) (ho : o.op = .call { callee := .builtin .delete, args := #[mm, x], argTypes := #[ty, k] }) (hk : P.underlying k = some (.int .i64)) (ht : P.underlying ty = some (.map k e)) (h : MapF P k w b n m) (hm : a.eval mm = .map (some b)) {i : Int} (hx : a.eval x = .int .i64 i) (hw : (Lit.int .i64 i).wf = true)
    (hK : ∀ w', MapF P k w' b n (setK m i none) → Upd [b] w w' → K (a.put o.dst (.tuple #[])) w') : o.wp P a w K Q := by
  obtain ⟨D, h1, h2, h3⟩ := h
  obtain ⟨w', hrun, r1, r2⟩ := h1.drop (Go.Maps.int_keyed hk) ht (Go.Maps.keyOf_int_mk hk hw) o.type
  unfold Oper.wp
  simp [execOp, ho, resolve, invoke, builtin, hm, hx, hrun, Result.andThen]
  refine hK w' ⟨D.del (.int .i64 i), r1, h2.del _, fun y hy z => ?_⟩ (grown_upd r2.grown)
  unfold setK
  by_cases e : y = i
  · subst e; rw [if_pos rfl, Go.Maps.atKey_del_same]
  · rw [if_neg e, Go.Maps.atKey_del_other (ne_lit e), h3 y hy z]
theorem wp_mapnew (ty : TypeId) (ho : o.op = .makeMap ty none) (hK : ∀ b w', w.heap.size ≤ b → MapF P k w' b 0 (fun _ => none) → Since w w' → K (a.put o.dst (.map (some b))) w') : o.wp P a w K Q := by
  unfold Oper.wp
  simp [execOp, ho, run_makeMap, Result.andThen]
  refine hK _ _ (Nat.le_refl _) ⟨.map [], World.ownsMap_made _ _ _ _, Go.Maps.isMap_empty, fun x _ z => ?_⟩ ((Since.refl w).alloc _)
  simp [DataW.atKey]
end
end Go.Proofs.Ytlihhjcneedgnaa.Mp
