/-
  Steps of a region by what is known of whole blocks: loads and stores of cells, of parts, of whole rows; in the text's order, and in whatever order.
  No condition.
-/
import Derived.Test.YtlihhjcneedgnaaRow
import Derived.Deep.MidRow
namespace Go.Proofs.Ytlihhjcneedgnaa.Ba
set_option linter.unusedVariables false
set_option linter.unusedSimpArgs false
open Go.RowKit Go.Proofs.Ytlihhjcneedgnaa.Mem
theorem sA {α : Type} (l : List α) (i : Nat) (a : α) : l.toArray.setIfInBounds i a = (l.set i a).toArray := by simp
theorem sB {α : Type} (x : α) (l : List α) (a : α) : (x :: l).set 0 a = a :: l := rfl
theorem sC {α : Type} (x : α) (l : List α) (n : Nat) (a : α) : (x :: l).set (n + 1) a = x :: l.set n a := rfl
theorem gA {α : Type} (l : List α) (i : Nat) : l.toArray[i]? = l[i]? := by simp
theorem gB {α : Type} (x : α) (l : List α) : (x :: l)[0]? = some x := by simp
theorem gC {α : Type} (x : α) (l : List α) (i : Nat) : (x :: l)[i + 1]? = l[i]? := by simp
theorem size_alloc (w : World) (o : Obj) : (w.alloc o).heap.size = w.heap.size + 1 := by simp
theorem Blk.at_ {w : World} {n : Nat} (h : w.heap.size = n) (t : TypeId) (cs : Array Value) : Blk (w.alloc (.cells cs t)) n t cs := h ▸ Blk.new w t cs
/-- A block of so many cells, whatever they hold. -/
def HasRow (w : World) (g : Nat) (t : TypeId) (n : Nat) : Prop := ∃ old : Array Value, Blk w g t old ∧ old.size = n
theorem HasRow.of {w : World} {g n : Nat} {t : TypeId} {cs : Array Value} (h : Blk w g t cs) (hn : cs.size = n) : HasRow w g t n := ⟨cs, h, hn⟩
theorem HasRow.keep {W W' : World} {g n : Nat} {t : TypeId} (k : Since W W') (h : HasRow W g t n) : HasRow W' g t n := by
  obtain ⟨old, B, hn⟩ := h
  exact ⟨old, keep_blk k B, hn⟩
theorem HasRow.row_far {w : World} {g k n : Nat} {t : TypeId} (h : HasRow w g t n) (hk : g ≠ k) (cs' : Array Value) : HasRow (w.setRow k cs') g t n := by
  obtain ⟨old, B, hn⟩ := h
  exact ⟨old, Blk.row_far B hk cs', hn⟩
section
variable {P : Program} {o : Oper} {a : Act} {w : World} {K : Act → World → Prop} {Q : Exit → Act → World → Prop}
theorem range_of {g i n : Nat} {t : TypeId} {cs : Array Value} {l : List Value} (h : Blk w g t cs) (hl : (cs.toList.drop i).take n = l) (hn : l.length = n) : w.rangeAt g i l := fun j v hv => by
  rw [Blk.cell h]
  have hj : j < n := by rw [← hn]; exact (List.getElem?_eq_some_iff.1 hv).1
  rw [← hl, List.getElem?_take, if_pos hj, List.getElem?_drop] at hv
  simpa using hv
/-- A cell is loaded. -/
theorem exec_cell {g i : Nat} {t : TypeId} {cs : Array Value} {v : Value} (ty : TypeId) (x : Operand) (d : TypeDesc) (hg : Blk w g t cs) (hv : cs[i]? = some v) (ho : o.op = .load ty x) (hx : a.eval x = .pointer (some ⟨g, i, none⟩))
    (hu : P.underlying ty = some d) (hd : (match d with | .struct _ | .array _ _ => true | _ => false) = false) : (execOp a.eval o).run P w = .ok (.value v) w := by
  have hc : w.cell? ⟨g, i, none⟩ = some v := (Blk.cell hg i).trans hv
  have hagg : (isAgg ty).run P w = .ok false w := by
    unfold isAgg
    rw [Sem.run_bind, run_underlying hu w]
    cases d <;> simp_all
  unfold execOp
  simp only [ho, hx, Instr.loadAt, Instr.sureAddr, Sem.run_bind, Sem.run_pure, Result.andThen_ok]
  simp [loadVar, Sem.run_bind, hagg, hc]
/-- A part of a block is loaded. -/
theorem exec_part {g i n : Nat} {t : TypeId} {cs : Array Value} {l : List Value} (ty : TypeId) (x : Operand) (d : TypeDesc) (hg : Blk w g t cs) (hl : (cs.toList.drop i).take n = l) (hn : l.length = n) (ho : o.op = .load ty x) (hx : a.eval x = .pointer (some ⟨g, i, none⟩))
    (hu : P.underlying ty = some d) (hd : d.isRow = true) (hi : (P.info? ty).map (·.size) = some l.length) : (execOp a.eval o).run P w = .ok (.value (.agg l.toArray)) w := by
  unfold execOp
  simp only [ho, hx, Instr.loadAt, Instr.sureAddr, Sem.run_bind, Sem.run_pure, Result.andThen_ok, run_loadVar_mid w g i ty l d (range_of hg hl hn) hu hd hi]
/-- A cell is stored. -/
theorem wp_st_cell (ty : TypeId) (x y : Operand) (ho : o.op = .store ty x y) {g i : Nat} {t : TypeId} {cs : Array Value} (cs' : Array Value) (v : Value) (hx : a.eval x = .pointer (some ⟨g, i, none⟩)) (hy : a.eval y = v) (hg : Blk w g t cs)
    (hlt : i < cs.size) (hcs : cs.setIfInBounds i v = cs') (h1 : v.oneCell' = true) (hi : (P.info? ty).map (·.size) = some 1) (h : ∀ w', w' = w.setRow g cs' → K (a.put o.dst undef) w') : o.wp P a w K Q := by
  have hcell : w.cell? ⟨g, i, none⟩ = some cs[i] := by rw [Blk.cell hg]; simp [hlt]
  have hfro : w.frozen? ⟨g, i, none⟩ = false := Blk.frozen hg i
  have hst : (store ⟨g, i, none⟩ v).run P w = .ok () (w.setRow g cs') := by
    rw [run_store P w _ v _ h1, hcell]
    simp [hfro, setCell_eq_setRow w g i cs t (0, 0) v hg, hcs]
  have hsv : (storeVar ty ⟨g, i, none⟩ v).run P w = .ok () (w.setRow g cs') := by
    cases hq : P.info? ty with
    | none => simp [hq] at hi
    | some inf =>
      have hs : inf.size = 1 := by simpa [hq] using hi
      have hvc : v.cells = #[v] := by cases v <;> simp_all [Value.oneCell', Value.cells]
      have hadd : (⟨g, i, none⟩ : Addr).add 0 = ⟨g, i, none⟩ := by simp [Addr.add]
      simp [storeVar, sizeOf, typeInfo, hq, hvc, hs, storeCells, hadd, hst]
  unfold Oper.wp execOp
  simp only [ho, hx, hy, Instr.storeAt, Instr.sureAddr, Sem.run_bind, Sem.run_pure, Result.andThen_ok, hsv]
  exact h _ rfl
/-- A whole row is stored. -/
theorem wp_st_row (ty : TypeId) (x y : Operand) (ho : o.op = .store ty x y) {g n : Nat} {t : TypeId} (cells : Array Value) (hx : a.eval x = .pointer (some ⟨g, 0, none⟩)) (hy : a.eval y = .agg cells) (hg : HasRow w g t n)
    (hn : cells.size = n) (h1 : cells.all (·.oneCell') = true) (hi : (P.info? ty).map (·.size) = some cells.size) (h : ∀ w', w' = w.setRow g cells → K (a.put o.dst undef) w') : o.wp P a w K Q := by
  obtain ⟨old, B, hs⟩ := hg
  exact wp_store_row ty x y ho g cells hx hy t old B hi (by omega) h1 (h _ rfl)
/-- A step that makes a block. -/
theorem wp_new (mk : Nat → Value) (t : TypeId) (cs : Array Value) (he : ∀ b, b = w.heap.size → (execOp a.eval o).run P w = .ok (.value (mk b)) (w.alloc (.cells cs t)))
    (h : ∀ b w', w.heap.size ≤ b → Blk w' b t cs → Since w w' → K (a.put o.dst (mk b)) w') : o.wp P a w K Q := by
  unfold Oper.wp
  rw [he _ rfl]
  exact h _ _ (Nat.le_refl _) (Blk.new w t cs) ((Since.refl w).alloc _)
/-- A wanted step, by its own law. -/
theorem wpList_wp {ops : Array Oper} {rest : List Oper} (hw : Region.wanted o (yielded ops a.tmps) = true) (h : ∀ K : Act → World → Prop, Hid (∀ a w, wpList P ops Q rest a w → K a w) → o.wp P a w K Q) : wpList P ops Q (o :: rest) a w :=
  wpList_step fun K hK => by rw [if_pos hw]; exact h K (Lib.hid hK)
/-- A step that is not wanted. -/
theorem wpList_no {ops : Array Oper} {rest : List Oper} (hw : Region.wanted o (yielded ops a.tmps) = false) (h : wpList P ops Q rest (a.put o.dst undef) w) : wpList P ops Q (o :: rest) a w :=
  wpList_step fun K hK => by rw [if_neg (by rw [hw]; decide)]; exact hK _ _ h
end
section
variable {P : Program} {fn : Func}
/-- A struct and two plain results. -/
theorem results_row3 {p q r : Tmp} {ty : TypeId} (h : fn.results = #[.cell p ty, .tmp q, .tmp r]) (tmps : Array Value) (w : World) (g : Nat) (t : TypeId) (cs : Array Value) (d : TypeDesc) (u v : Value)
    (hp : tmps.getD p undef = .pointer (some ⟨g, 0, none⟩)) (hq : tmps.getD q undef = u) (hr : tmps.getD r undef = v) (hg : Blk w g t cs)
    (hu : P.underlying ty = some d) (hd : (match d with | .struct _ | .array _ _ => true | _ => false) = true) (hi : (P.info? ty).map (·.size) = some cs.size) :
    (results fn tmps).run P w = .ok (.tuple #[.agg cs, u, v]) w := by
  have hp' : tmps[p]?.getD undef = .pointer (some ⟨g, 0, none⟩) := by simpa using hp
  have hq' : tmps[q]?.getD undef = u := by simpa using hq
  have hr' : tmps[r]?.getD undef = v := by simpa using hr
  simp [results, h, hp', hq', hr', asAddr, run_loadVar_row w g t ty cs (0, 0) d hg hu hd hi]
/-- A struct and one plain result. -/
theorem results_row2 {p q : Tmp} {ty : TypeId} (h : fn.results = #[.cell p ty, .tmp q]) (tmps : Array Value) (w : World) (g : Nat) (t : TypeId) (cs : Array Value) (d : TypeDesc) (u : Value)
    (hp : tmps.getD p undef = .pointer (some ⟨g, 0, none⟩)) (hq : tmps.getD q undef = u) (hg : Blk w g t cs)
    (hu : P.underlying ty = some d) (hd : (match d with | .struct _ | .array _ _ => true | _ => false) = true) (hi : (P.info? ty).map (·.size) = some cs.size) :
    (results fn tmps).run P w = .ok (.tuple #[.agg cs, u]) w := by
  have hp' : tmps[p]?.getD undef = .pointer (some ⟨g, 0, none⟩) := by simpa using hp
  have hq' : tmps[q]?.getD undef = u := by simpa using hq
  simp [results, h, hp', hq', asAddr, run_loadVar_row w g t ty cs (0, 0) d hg hu hd hi]
end
end Go.Proofs.Ytlihhjcneedgnaa.Ba
