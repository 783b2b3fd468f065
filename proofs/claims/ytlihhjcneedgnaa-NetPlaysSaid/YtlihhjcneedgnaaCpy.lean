/-
  copy of structs into a row.
  No condition.
-/
import Derived.Test.YtlihhjcneedgnaaEl
import Derived.Laws.CopyRow
import Derived.Laws.MakeOwn
namespace Go.Proofs.Ytlihhjcneedgnaa.Ba
set_option linter.unusedVariables false
set_option linter.unusedSimpArgs false
open Go.RowKit Go.Proofs.Ytlihhjcneedgnaa.Mem
def copyR (cur : Array Value) (o : Nat) (cs : List Value) : Array Value := (cur.toList.take o ++ cs ++ cur.toList.drop (o + cs.length)).toArray
theorem copyR_size {cur : Array Value} {o n : Nat} {cs : List Value} (h : o + cs.length ≤ cur.size) (hn : cur.size = n) : (copyR cur o cs).size = n := by
  subst hn
  simp only [copyR, List.size_toArray, List.length_append, List.length_take, List.length_drop, Array.length_toList]
  omega
theorem copyR_take {cur : Array Value} {o : Nat} {cs : List Value} (h : o + cs.length ≤ cur.size) : (copyR cur o cs).toList.take (o + cs.length) = cur.toList.take o ++ cs := by
  have e : (cur.toList.take o ++ cs).length = o + cs.length := by simp; omega
  simp only [copyR, List.toList_toArray]
  rw [← e]
  exact List.take_left
section
variable {P : Program} {o : Oper} {a : Act} {w : World} {K : Act → World → Prop} {Q : Exit → Act → World → Prop}
/-- Structs are copied into a row. -/
theorem wp_copy_k (d s : Operand) (dT sT elem : TypeId) (ho : o.op = .call { callee := .builtin .copy, args := #[d, s], argTypes := #[dT, sT] }) (hu : P.underlying dT = some (.slice elem)) {k : Nat} (hs : (P.info? elem).map (·.size) = some k)
    {g off dLen dCap sLen sCap m : Nat} {A : Addr} {cur : Array Value} {t : TypeId} (cs : List Value) (hd : a.eval d = .slice (some ⟨g, off, none⟩) dLen dCap) (hsv : a.eval s = .slice (some A) sLen sCap)
    (hg : Blk w g t cur) (hm : Nat.min sLen dLen = m) (hn : cs.length = m * k) (hsrc : ∀ j v, cs[j]? = some v → w.cell? (A.add j) = some v) (hfit : off + cs.length ≤ cur.size) (h1 : ∀ v ∈ cs, v.oneCell' = true)
    (h : ∀ w', w' = w.setRow g (copyR cur off cs) → K (a.put o.dst (.int .i64 (m : Int))) w') : o.wp P a w K Q := by
  have hl := run_loadCells_list (P := P) w A cs hsrc
  have hst := run_storeCells_at P g off t cs 0 cur w hg (by simpa using hfit) h1
  have hrun : (Builtin.copy_ #[dT, sT] o.type #[.slice (some ⟨g, off, none⟩) dLen dCap, .slice (some A) sLen sCap]).run P w = .ok (.int .i64 (m : Int)) (w.setRow g (copyR cur off cs)) := by
    cases hq : P.info? elem with
    | none => simp [hq] at hs
    | some i =>
      have hi : i.size = k := by simpa [hq] using hs
      simp [Builtin.copy_, run_underlying hu, Builtin.lenOf, Builtin.firstCells, sizeOf, typeInfo, hq, hi, hm, ← hn, hl, hst, copyR, goInt]
  unfold Oper.wp execOp
  simp only [ho, resolve, invoke, builtin, Sem.run_bind, Sem.run_pure, Result.andThen_ok, List.map_toArray, List.map_cons, List.map_nil, hd, hsv, hrun]
  exact h _ rfl
/-- A slice of zeros is made. -/
theorem wp_make (t e : TypeId) (x y : Operand) (ho : o.op = .makeSlice t x y) {z : Value} {k bytes : Nat} (ht : P.underlying t = some (.slice e)) (hinf : (P.info? e).map (fun i => (i.zero, i.size, i.bytes)) = some (some z, k, bytes)) (n : Nat) {kx ky : IntKind}
    (hx : a.eval x = .int kx (n : Int)) (hy : a.eval y = .int ky (n : Int)) (hn : n ≤ 1000000) (hb : bytes ≤ 1000) (hz : z.cells.size = k)
    (h : ∀ b cur w', w.heap.size ≤ b → Blk w' b e cur → cur.size = n * k → Since w w' → K (a.put o.dst (.slice (some ⟨b, 0, none⟩) n n)) w') : o.wp P a w K Q := by
  obtain ⟨i, hi, hz0, h2, h3⟩ := info3 hinf
  have hbn : bytes * n ≤ 1000 * 1000000 := Nat.mul_le_mul hb hn
  have hbi : (bytes : Int) * (n : Int) ≤ 1000000000 := by rw [← Int.natCast_mul]; omega
  have hr := run_make (P := P) w t e i z ht hi hz0 kx ky (n : Int) (n : Int) (by omega) (Int.le_refl _) (by rw [h3]; omega) (by omega)
  unfold Oper.wp execOp
  simp only [ho, hx, hy, Sem.run_bind, hr, Sem.run_pure, Result.andThen_ok, Int.toNat_natCast]
  exact h w.heap.size (madeCells z.cells (n * i.size)) _ (Nat.le_refl _) (Blk.new w e _) (by rw [size_madeCells, h2]) ((Since.refl w).alloc _)
end
theorem src_blk {w : World} {b : Nat} {t : TypeId} {l : List Value} (h : Blk w b t l.toArray) : ∀ j v, l[j]? = some v → w.cell? ((⟨b, 0, none⟩ : Addr).add j) = some v := fun j v hj => by
  rw [Go.WideShapes.add_plain, Nat.zero_add, h.cell]
  simpa using hj
theorem src_row {w : World} {b n : Nat} {t : TypeId} {cur : Array Value} {l : List Value} (h : Blk w b t cur) (hl : cur.toList.take n = l) : ∀ j v, l[j]? = some v → w.cell? ((⟨b, 0, none⟩ : Addr).add j) = some v := fun j v hj => by
  rw [Go.WideShapes.add_plain, Nat.zero_add, h.cell]
  subst hl
  rw [List.getElem?_take] at hj
  split at hj
  · simpa using hj
  · cases hj
theorem reps {α : Type} {enc : α → List Value} {k : Nat} (hk : ∀ a, (enc a).length = k) (x : α) (n m : Nat) (h : m ≤ n) : (rowsOf enc (List.replicate n x)).take (m * k) = rowsOf enc (List.replicate m x) := by
  rw [rowsOf_take hk (by simpa using h), List.take_replicate, Nat.min_eq_left h]
theorem reps_add {α : Type} {enc : α → List Value} (x : α) (n m : Nat) : rowsOf enc (List.replicate n x) ++ rowsOf enc (List.replicate m x) = rowsOf enc (List.replicate (n + m) x) := by
  rw [← rowsOf_append, List.replicate_append_replicate]
end Go.Proofs.Ytlihhjcneedgnaa.Ba
