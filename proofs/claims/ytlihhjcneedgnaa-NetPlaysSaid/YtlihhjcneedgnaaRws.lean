/-
  Rows of structs as lists of what they hold: cut, set, cleared behind their end; appends that must take new memory.
  No condition.
-/
import Derived.Test.YtlihhjcneedgnaaUpd
namespace Go.Proofs.Ytlihhjcneedgnaa.Ba
set_option linter.unusedVariables false
set_option linter.unusedSimpArgs false
open Go.RowKit Go.Proofs.Ytlihhjcneedgnaa.Mem
def rowsOf {α : Type} (enc : α → List Value) (ls : List α) : List Value := ls.flatMap enc
section
variable {α : Type} {enc : α → List Value} {k : Nat}
theorem rowsOf_nil : rowsOf enc [] = [] := rfl
theorem rowsOf_cons (a : α) (l : List α) : rowsOf enc (a :: l) = enc a ++ rowsOf enc l := by simp [rowsOf]
theorem rowsOf_append (xs ys : List α) : rowsOf enc (xs ++ ys) = rowsOf enc xs ++ rowsOf enc ys := by simp [rowsOf]
theorem rowsOf_one (a : α) : rowsOf enc [a] = enc a := by simp [rowsOf]
theorem rowsOf_len (hk : ∀ a, (enc a).length = k) : ∀ ls : List α, (rowsOf enc ls).length = ls.length * k
  | [] => by simp [rowsOf]
  | a :: l => by
    rw [rowsOf_cons, List.length_append, rowsOf_len hk l, hk, List.length_cons, Nat.succ_mul, Nat.add_comm]
theorem rowsOf_split (i : Nat) (ls : List α) : rowsOf enc ls = rowsOf enc (ls.take i) ++ rowsOf enc (ls.drop i) := by
  rw [← rowsOf_append, List.take_append_drop]
theorem rowsOf_take (hk : ∀ a, (enc a).length = k) {i : Nat} {ls : List α} (hi : i ≤ ls.length) : (rowsOf enc ls).take (i * k) = rowsOf enc (ls.take i) := by
  rw [rowsOf_split i ls]
  exact List.take_left' (by rw [rowsOf_len hk, List.length_take, Nat.min_eq_left hi])
theorem rowsOf_drop (hk : ∀ a, (enc a).length = k) {i : Nat} {ls : List α} (hi : i ≤ ls.length) : (rowsOf enc ls).drop (i * k) = rowsOf enc (ls.drop i) := by
  rw [rowsOf_split i ls]
  exact List.drop_left' (by rw [rowsOf_len hk, List.length_take, Nat.min_eq_left hi])
theorem rowsOf_at (hk : ∀ a, (enc a).length = k) {i : Nat} {ls : List α} (hi : i < ls.length) : ((rowsOf enc ls).drop (i * k)).take k = enc ls[i] := by
  rw [rowsOf_drop hk (by omega), List.drop_eq_getElem_cons hi, rowsOf_cons]
  exact List.take_left' (hk _)
theorem rowsOf_one' (h1 : ∀ a, ∀ u ∈ enc a, u.oneCell' = true) (ls : List α) : ∀ u ∈ rowsOf enc ls, u.oneCell' = true := by
  intro u hu
  obtain ⟨a, _, ha⟩ := List.mem_flatMap.1 hu
  exact h1 a u ha
theorem rowsOf_set (hk : ∀ a, (enc a).length = k) {i : Nat} {ls : List α} (hi : i < ls.length) (a : α) :
    rowsOf enc (ls.set i a) = (rowsOf enc ls).take (i * k) ++ (enc a ++ (rowsOf enc ls).drop (i * k + k)) := by
  rw [List.set_eq_take_append_cons_drop, if_pos hi, rowsOf_append, rowsOf_cons, rowsOf_take hk (by omega), ← Nat.succ_mul, rowsOf_drop hk (by omega)]
theorem putAt_list : ∀ (vs : List Value) (cs : Array Value) (o : Nat), o + vs.length ≤ cs.size → (putAt cs o vs).toList = cs.toList.take o ++ (vs ++ cs.toList.drop (o + vs.length))
  | [], cs, o, _ => by simp [putAt]
  | v :: r, cs, o, h => by
    simp only [List.length_cons] at h
    show (putAt (cs.setIfInBounds o v) (o + 1) r).toList = _
    rw [putAt_list r _ _ (by simp; omega)]
    have h0 : o < cs.toList.length := by simp; omega
    simp only [Array.toList_setIfInBounds, List.length_cons]
    rw [List.set_eq_take_append_cons_drop, if_pos h0]
    have hl : (cs.toList.take o).length = o := by rw [List.length_take]; omega
    rw [List.take_append, List.drop_append, hl, List.take_of_length_le (by omega), List.drop_eq_nil_of_le (as := cs.toList.take o) (by omega)]
    rw [show o + 1 - o = 1 by omega, show o + 1 + r.length - o = r.length + 1 by omega]
    simp only [List.take_succ_cons, List.take_zero, List.drop_succ_cons, List.nil_append, List.drop_drop, List.append_assoc, List.cons_append]
    rw [show o + 1 + r.length = o + (r.length + 1) by omega]
theorem putAt_size (cs : Array Value) (o : Nat) (vs : List Value) (h : o + vs.length ≤ cs.size) : (putAt cs o vs).size = cs.size := by
  have := congrArg List.length (putAt_list vs cs o h)
  simp only [Array.length_toList, List.length_append, List.length_take, List.length_drop] at this
  omega
end
section
variable {α : Type} {enc : α → List Value} {k : Nat} {w : World} {base : Nat} {e : TypeId} {n c : Nat} {A : Option Addr} {ls : List α}
theorem own_n (hk : ∀ a, (enc a).length = k) (hk0 : 0 < k) (h : w.ownsRow base e k (.slice A n c) n (rowsOf enc ls)) : ls.length = n := by
  have := h.1
  rw [rowsOf_len hk] at this
  exact Nat.eq_of_mul_eq_mul_right hk0 this
/-- The first rows alone. -/
theorem own_prefix {xs : List Value} {size : Nat} (h : w.ownsRow base e size (.slice A n c) n xs) {i : Nat} (hi : i ≤ n) : w.ownsRow base e size (.slice A i c) i (xs.take (i * size)) := by
  refine ⟨by rw [List.length_take, h.1]; exact Nat.min_eq_left (Nat.mul_le_mul_right _ hi), ?_⟩
  rcases h.2 with ⟨hv, hn⟩ | ⟨g, cap, cur, hv, hb, hg, hc, hm, hs, ht⟩
  · simp at hv
    obtain ⟨rfl, rfl, rfl⟩ := hv
    exact .inl ⟨by congr; omega, by omega⟩
  · simp at hv
    obtain ⟨rfl, rfl⟩ := hv
    refine .inr ⟨g, c, cur, rfl, hb, hg, by omega, hm, hs, ?_⟩
    rw [← ht, List.take_take, Nat.min_eq_left (Nat.mul_le_mul_right _ hi)]
/-- A row is set: the cells of the block are laid anew from it on. -/
theorem own_set {g : Nat} (hk : ∀ a, (enc a).length = k) (hk0 : 0 < k) (h : w.ownsRow base e k (.slice (some ⟨g, 0, none⟩) n c) n (rowsOf enc ls)) {i : Nat} (hi : i < ls.length) (a : α) :
    ∃ cur : Array Value, Blk w g e cur ∧ i * k + k ≤ cur.size ∧ (w.setRow g (putAt cur (i * k) (enc a))).ownsRow base e k (.slice (some ⟨g, 0, none⟩) n c) n (rowsOf enc (ls.set i a)) := by
  have hn := own_n hk hk0 h
  rcases h.2 with ⟨hv, _⟩ | ⟨g', cap, cur, hv, hb, hg, hc, hm, hs, ht⟩
  · simp at hv
  · simp at hv
    obtain ⟨rfl, rfl⟩ := hv
    have hik : i * k + k ≤ n * k := by rw [← Nat.succ_mul]; exact Nat.mul_le_mul_right _ (by omega)
    have hnc : n * k ≤ cur.size := by rw [hs]; exact Nat.mul_le_mul_right _ hc
    have hfit : i * k + (enc a).length ≤ cur.size := by rw [hk]; omega
    refine ⟨cur, hg, by omega, by rw [rowsOf_len hk, List.length_set, hn], .inr ⟨g, c, _, rfl, hb, Blk.row hg _, hc, hm, by rw [putAt_size _ _ _ hfit, hs], ?_⟩⟩
    rw [putAt_list _ _ _ hfit, rowsOf_set hk hi, ← ht, hk]
    have e1 : (cur.toList.take (i * k)).length = i * k := by rw [List.length_take, Array.length_toList]; omega
    have t1 : (cur.toList.take (i * k)).take (n * k) = cur.toList.take (i * k) := List.take_of_length_le (by omega)
    have t2 : (enc a).take (n * k - i * k) = enc a := List.take_of_length_le (by rw [hk]; omega)
    rw [List.take_append, t1, e1, List.take_append, t2, hk, List.take_take, Nat.min_eq_left (by omega), List.drop_take, show n * k - i * k - k = n * k - (i * k + k) by omega]
/-- Cells laid behind the end change nothing of a row. -/
theorem own_behind {g size : Nat} {xs : List Value} (h : w.ownsRow base e size (.slice (some ⟨g, 0, none⟩) n c) n xs) {o : Nat} (ho : n * size ≤ o) (vs : List Value) :
    ∃ cur : Array Value, Blk w g e cur ∧ cur.size = c * size ∧ (o + vs.length ≤ c * size → (w.setRow g (cur.toList.take o ++ vs ++ cur.toList.drop (o + vs.length)).toArray).ownsRow base e size (.slice (some ⟨g, 0, none⟩) n c) n xs) := by
  rcases h.2 with ⟨hv, _⟩ | ⟨g', cap, cur, hv, hb, hg, hc, hm, hs, ht⟩
  · simp at hv
  · simp at hv
    obtain ⟨rfl, rfl⟩ := hv
    refine ⟨cur, hg, hs, fun hfit => ⟨h.1, .inr ⟨g, c, _, rfl, hb, Blk.row hg _, hc, hm, ?_, ?_⟩⟩⟩
    · simp only [List.size_toArray, List.length_append, List.length_take, List.length_drop, Array.length_toList]
      omega
    · have e1 : (cur.toList.take o).length = o := by rw [List.length_take, Array.length_toList]; omega
      show ((cur.toList.take o ++ vs) ++ cur.toList.drop (o + vs.length)).take (n * size) = xs
      rw [List.append_assoc, List.take_append_of_le_length (by omega), List.take_take, Nat.min_eq_left ho, ht]
end
section
variable {P : Program} {o : Oper} {a : Act} {w : World} {K : Act → World → Prop} {Q : Exit → Act → World → Prop}
/-- One struct is stored into a row of the call's own. -/
theorem wp_set_row {α : Type} {enc : α → List Value} {k : Nat} (ty : TypeId) (x y : Operand) (ho : o.op = .store ty x y) {g i base : Nat} {e : TypeId} {n c : Nat} {ls : List α} (hk : ∀ a, (enc a).length = k) (hk0 : 0 < k) (h1 : ∀ a, ∀ u ∈ enc a, u.oneCell' = true)
    (hown : w.ownsRow base e k (.slice (some ⟨g, 0, none⟩) n c) n (rowsOf enc ls)) (hi : i < ls.length) (v : α) (hx : a.eval x = .pointer (some ⟨g, i * k, none⟩)) (hy : a.eval y = .agg (enc v).toArray) (hinf : (P.info? ty).map (·.size) = some k)
    (h : ∀ w', w'.ownsRow base e k (.slice (some ⟨g, 0, none⟩) n c) n (rowsOf enc (ls.set i v)) → Upd [g] w w' → K (a.put o.dst undef) w') : o.wp P a w K Q := by
  obtain ⟨cur, B, hfit, hnew⟩ := own_set hk hk0 hown hi v
  refine wp_st_part ty x y ho (putAt cur (i * k) (enc v)) (enc v).toArray hx hy B (by simp [hk]; omega) (by simp) ?_ (by simpa [hk] using hinf) ?_
  · simp only [List.all_toArray, List.all_eq_true]; exact h1 v
  · rintro w' rfl
    exact h _ hnew ((Upd.refl _ w).setRow (.inl (by simp)) _)
theorem zeroCells_len (z : Array Value) (n : Nat) : (Builtin.zeroCells z n).size = n * z.size := by simp [Builtin.zeroCells]
theorem zeroCells_one (z : Array Value) (hz : ∀ u ∈ z, u.oneCell' = true) (n : Nat) : ∀ u ∈ (Builtin.zeroCells z n).toList, u.oneCell' = true := by
  intro u hu
  simp only [Builtin.zeroCells, Array.toList_map, List.mem_map] at hu
  obtain ⟨i, hi, rfl⟩ := hu
  have hi' : i < n * z.size := by simpa using hi
  have hz0 : 0 < z.size := by rcases Nat.eq_zero_or_pos z.size with h | h; · rw [h] at hi'; omega
                              · exact h
  have hlt : i % z.size < z.size := Nat.mod_lt _ hz0
  rw [getElem!_pos z _ hlt]
  exact hz _ (Array.getElem_mem hlt)
/-- What lies behind the end of a row of the call's own is cleared. -/
theorem wp_clear_behind (x : Operand) (t : TypeId) (ho : o.op = .call { callee := .builtin .clear, args := #[x], argTypes := #[t] })
    (base : Nat) (e : TypeId) (z : Value) (size bytes : Nat) (ht : P.underlying t = some (.slice e)) (hinf : (P.info? e).map (fun i => (i.zero, i.size, i.bytes)) = some (some z, size, bytes))
    (hzs : z.cells.size = size) (hz1 : ∀ u ∈ z.cells, u.oneCell' = true) (g n c : Nat) (xs : List Value) (hown : w.ownsRow base e size (.slice (some ⟨g, 0, none⟩) n c) n xs)
    (m cx : Nat) (hm : 0 < m) (hfit : n + m ≤ c) (hx : a.eval x = .slice (some ⟨g, n * size, none⟩) m cx)
    (h : ∀ w', w'.ownsRow base e size (.slice (some ⟨g, 0, none⟩) n c) n xs → Upd [g] w w' → K (a.put o.dst (.tuple #[])) w') : o.wp P a w K Q := by
  obtain ⟨i, hi, hz, h2, h3⟩ := info3 hinf
  obtain ⟨cur, B, hcs, hnew⟩ := own_behind hown (Nat.le_refl (n * size)) (Builtin.zeroCells z.cells m).toList
  have hlen : (Builtin.zeroCells z.cells m).toList.length = m * size := by rw [Array.length_toList, zeroCells_len, hzs]
  have hfit2 : n * size + (Builtin.zeroCells z.cells m).toList.length ≤ c * size := by rw [hlen, ← Nat.add_mul]; exact Nat.mul_le_mul_right _ hfit
  have hrun : (Builtin.clear_ #[t] o.type #[.slice (some ⟨g, n * size, none⟩) m cx]).run P w = .ok (.tuple #[]) (w.setRow g (cur.toList.take (n * size) ++ (Builtin.zeroCells z.cells m).toList ++ cur.toList.drop (n * size + (Builtin.zeroCells z.cells m).toList.length)).toArray) := by
    have hst := run_storeCells_at P g (n * size) e (Builtin.zeroCells z.cells m).toList 0 cur w B (by rw [hcs]; simpa using hfit2) (zeroCells_one _ hz1 _)
    simp only [Nat.add_zero] at hst
    obtain ⟨m', rfl⟩ : ∃ m', m = m' + 1 := ⟨m - 1, by omega⟩
    simp [Builtin.clear_, run_underlying ht, zeroValue, typeInfo, hi, hz, hst]
  unfold Oper.wp execOp
  simp only [ho, resolve, invoke, builtin, Sem.run_bind, Sem.run_pure, Result.andThen_ok, List.map_toArray, List.map_cons, List.map_nil, hx, hrun]
  exact h _ (hnew hfit2) ((Upd.refl _ w).setRow (.inl (by simp)) _)
/-- An append to a slice without room takes new memory. -/
theorem wp_append_full (s x : Operand) (t : TypeId) (ho : o.op = .call { callee := .builtin .append, args := #[s, x], argTypes := #[t, t] })
    (base : Nat) (e : TypeId) (z : Value) (size bytes : Nat) (ht : P.underlying t = some (.slice e)) (hinf : (P.info? e).map (fun i => (i.zero, i.size, i.bytes)) = some (some z, size, bytes))
    (hzs : z.cells.size = size) (hby : bytes ≤ 1000)
    (ad : Addr) (n c0 : Nat) (xs : List Value) (hs : a.eval s = .slice (some ad) n c0) (hxs : ∀ j v, xs[j]? = some v → w.cell? (ad.add j) = some v) (hxl : xs.length = n * size)
    (B : Nat) (A : Option Addr) (m c : Nat) (ys : List Value) (hx : a.eval x = .slice A m c) (hy : Reads w B size A m ys) (hfull : c0 < n + m) (hnc : n ≤ c0) (hnm : n + m ≤ 1000000) (hbase : base ≤ w.heap.size)
    (n2 : Nat) (zs : List Value) (hn2 : n + m = n2) (hzs2 : xs ++ ys = zs)
    (h : ∀ A' c' w', w'.ownsRow base e size (.slice A' n2 c') n2 zs → Since w w' → (∀ g ∈ blkOf A', w.heap.size ≤ g) → K (a.put o.dst (.slice A' n2 c')) w') : o.wp P a w K Q := by
  subst hn2 hzs2
  obtain ⟨i, hi, hz, h2, h3⟩ := info3 hinf
  obtain ⟨ad2, rfl, _, hcy⟩ := hy.2 (by omega)
  have hfitb : (n + m) * bytes ≤ 140737488355328 := by
    calc (n + m) * bytes ≤ 1000000 * 1000 := Nat.mul_le_mul hnm hby
      _ ≤ 140737488355328 := by decide
  have hr := run_append_grow (P := P) w t o.type e i z ht hi hz ad n c0 xs (by rw [h2]; exact hxl) hxs ad2 m c ys (by rw [h2]; exact hy.1) hcy hfull (by omega) (by rw [h3]; exact growslice_fits (by omega) hfitb)
  have hge := grownCap_ge w (n + m) c0 e
  have hcm : grownCap w (n + m) c0 e ≤ maxLen := grownCap_le_maxLen w (n + m) c0 e (by unfold maxLen; omega)
  unfold Oper.wp execOp
  simp only [ho, resolve, invoke, builtin, Sem.run_bind, Sem.run_pure, Result.andThen_ok, List.map_toArray, List.map_cons, List.map_nil, hs, hx, hr]
  refine h _ _ _ ⟨by rw [List.length_append, hxl, hy.1, Nat.add_mul], .inr ⟨w.heap.size, _, _, rfl, hbase, heap_alloc_new w.drew _, hge, hcm, ?_, ?_⟩⟩ (((Since.refl w).drew).alloc _) (by simp [blkOf])
  · simp only [Array.size_append, List.size_toArray, zeroCells_len, hzs, hxl, hy.1, ← Nat.add_mul]
    congr 1
    omega
  · have hlen : (xs ++ ys).length = (n + m) * size := by rw [List.length_append, hxl, hy.1, Nat.add_mul]
    simp only [Array.toList_append]
    rw [← hlen]
    exact List.take_left
end

section
variable {P : Program} {o : Oper} {a : Act} {w : World} {K : Act → World → Prop} {Q : Exit → Act → World → Prop}
theorem sb_lh (w : World) {len cap l h : Nat} (kl kh : IntKind) {L H : Int} (hL : L = l) (hH : H = h) (h1 : l ≤ h) (h2 : h ≤ cap) : (Instr.sliceBounds true len cap (some (.int kl L)) (some (.int kh H)) none).run P w = .ok (l, h, cap) w := by
  subst hL hH
  simp [Instr.sliceBounds, run_sliceBound, h1, h2]
theorem sb_h (w : World) {len cap h : Nat} (kh : IntKind) {H : Int} (hH : H = h) (h2 : h ≤ cap) : (Instr.sliceBounds true len cap none (some (.int kh H)) none).run P w = .ok (0, h, cap) w := by
  subst hH
  simp [Instr.sliceBounds, run_sliceBound, h2]
theorem sb_l (w : World) {len cap l : Nat} (kl : IntKind) {L : Int} (hL : L = l) (h1 : l ≤ len) : (Instr.sliceBounds true len cap (some (.int kl L)) none none).run P w = .ok (l, len, cap) w := by
  subst hL
  simp [Instr.sliceBounds, run_sliceBound, h1]
theorem sb_hm (w : World) {len cap h m : Nat} (kh km : IntKind) {H M : Int} (hH : H = h) (hM : M = m) (h2 : h ≤ m) (h3 : m ≤ cap) : (Instr.sliceBounds true len cap none (some (.int kh H)) (some (.int km M))).run P w = .ok (0, h, m) w := by
  subst hH hM
  simp [Instr.sliceBounds, run_sliceBound, h2, h3]
theorem sb_lhm (w : World) {len cap l h m : Nat} (kl kh km : IntKind) {L H M : Int} (hL : L = l) (hH : H = h) (hM : M = m) (h1 : l ≤ h) (h2 : h ≤ m) (h3 : m ≤ cap) : (Instr.sliceBounds true len cap (some (.int kl L)) (some (.int kh H)) (some (.int km M))).run P w = .ok (l, h, m) w := by
  subst hL hH hM
  simp [Instr.sliceBounds, run_sliceBound, h1, h2, h3]
/-- A slice is cut. -/
theorem exec_slice {A A' : Option Addr} {len cap l h m n' c' s : Nat} (t e : TypeId) (x : Operand) (lo hi mx : Option Operand) (ho : o.op = .slice t x lo hi mx) (hx : a.eval x = .slice A len cap) (ht : P.underlying t = some (.slice e)) (hs : (P.info? e).map (·.size) = some s)
    (hb : (Instr.sliceBounds true len cap (lo.map a.eval) (hi.map a.eval) (mx.map a.eval)).run P w = .ok (l, h, m) w) (hA : (if m = l then A else A.map (·.add (l * s))) = A') (hn : h - l = n') (hc : m - l = c') : (execOp a.eval o).run P w = .ok (.value (.slice A' n' c')) w := by
  subst hA hn hc
  obtain ⟨i, hi2, hs2⟩ : ∃ i, P.info? e = some i ∧ i.size = s := by
    cases hq : P.info? e with
    | none => simp [hq] at hs
    | some i => exact ⟨i, rfl, by simpa [hq] using hs⟩
  unfold execOp
  simp only [ho, hx]
  simp [Instr.sliceAt, Instr.slice, run_underlying ht, hb, sizeOf, typeInfo, hi2, hs2]
/-- A slice is indexed. -/
theorem exec_index {b off len cap i s : Nat} {k : IntKind} {I : Int} (t e : TypeId) (x y : Operand) (ho : o.op = .indexAddr t x y) (hx : a.eval x = .slice (some ⟨b, off, none⟩) len cap) (hy : a.eval y = .int k I) (hI : I = i) (hlt : i < len)
    (ht : P.underlying t = some (.slice e)) (hs : (P.info? e).map (·.size) = some s) : (execOp a.eval o).run P w = .ok (.value (.pointer (some ⟨b, off + i * s, none⟩))) w := by
  subst hI
  obtain ⟨j, hi2, hs2⟩ : ∃ i, P.info? e = some i ∧ i.size = s := by
    cases hq : P.info? e with
    | none => simp [hq] at hs
    | some i => exact ⟨i, rfl, by simpa [hq] using hs⟩
  unfold execOp
  simp only [ho, hx, hy]
  simp [Instr.indexAt, asIntOf, run_underlying ht, sizeOf, typeInfo, hi2, hs2, hlt, Go.WideShapes.add_plain]
/-- An append that has room. -/
theorem wp_append_room (s x : Operand) (t : TypeId) (ho : o.op = .call { callee := .builtin .append, args := #[s, x], argTypes := #[t, t] })
    (base : Nat) (e : TypeId) (size : Nat) (ht : P.underlying t = some (.slice e)) (hs : (P.info? e).map (·.size) = some size)
    (g n cap : Nat) (xs : List Value) (hsv : a.eval s = .slice (some ⟨g, 0, none⟩) n cap) (hown : w.ownsRow base e size (.slice (some ⟨g, 0, none⟩) n cap) n xs)
    (B : Nat) (A : Option Addr) (m c : Nat) (ys : List Value) (hx : a.eval x = .slice A m c) (hy : Reads w B size A m ys) (h1 : ∀ u ∈ ys, u.oneCell' = true) (hroom : n + m ≤ cap)
    (n2 : Nat) (zs : List Value) (hn2 : n + m = n2) (hzs : xs ++ ys = zs)
    (h : ∀ w', w'.ownsRow base e size (.slice (some ⟨g, 0, none⟩) n2 cap) n2 zs → Upd [g] w w' → K (a.put o.dst (.slice (some ⟨g, 0, none⟩) n2 cap)) w') : o.wp P a w K Q := by
  subst hn2 hzs
  obtain ⟨i, hi2, hs2⟩ : ∃ i, P.info? e = some i ∧ i.size = size := by
    cases hq : P.info? e with
    | none => simp [hq] at hs
    | some i => exact ⟨i, rfl, by simpa [hq] using hs⟩
  have key : ∃ w', (Builtin.append_ #[t, t] o.type #[.slice (some ⟨g, 0, none⟩) n cap, .slice A m c]).run P w = .ok (.slice (some ⟨g, 0, none⟩) (n + m) cap) w' ∧
      w'.ownsRow base e size (.slice (some ⟨g, 0, none⟩) (n + m) cap) (n + m) (xs ++ ys) ∧ w.grownBy w' (some g) := by
    rcases A with _ | ad
    · have hm : m = 0 := by
        rcases Nat.eq_zero_or_pos m with h0 | h0
        · exact h0
        · obtain ⟨ad, h, _⟩ := hy.2 h0
          cases h
      subst hm
      have hn : ys = [] := List.eq_nil_of_length_eq_zero (by simpa using hy.1)
      subst hn
      exact ⟨w, run_append_of_nil w base t o.type e i size ht hi2 _ n xs hown c, by simpa using hown, World.grownBy.refl w _⟩
    · have hcells : ∀ j u, ys[j]? = some u → w.cell? (ad.add j) = some u := by
        intro j u hu
        rcases Nat.eq_zero_or_pos m with h0 | h0
        · subst h0
          have hn : ys = [] := List.eq_nil_of_length_eq_zero (by simpa using hy.1)
          subst hn
          simp at hu
        · obtain ⟨ad', h, _, hc⟩ := hy.2 h0
          injection h with h
          subst h
          exact hc j u hu
      exact run_append_fits w base t o.type e i size ht hi2 hs2 g n cap xs hown ad m c ys hy.1 hcells h1 hroom
  obtain ⟨w', hr, h2, h3⟩ := key
  unfold Oper.wp execOp
  simp only [ho, resolve, invoke, builtin, Sem.run_bind, Sem.run_pure, Result.andThen_ok, List.map_toArray, List.map_cons, List.map_nil, hsv, hx, hr]
  refine h w' h2 ?_
  have := Upd.of_grown (A := some ⟨g, 0, none⟩) (n := n) (c := cap) (w := w) (w' := w') (by simpa [Value.ownBlock] using h3)
  simpa [blkOf] using this
/-- Where a slice that is cut from its l-th element on begins. -/
def cutA (c l : Nat) (A : Option Addr) (s : Nat) : Option Addr := if c = l then A else A.map (·.add (l * s))
theorem reads_cut {w : World} {B size n k cap : Nat} {A : Option Addr} {xs : List Value} (h : Reads w B size A n xs) (hk : k ≤ n) (hc : n ≤ cap) : Reads w B size (cutA cap k A size) (n - k) (xs.drop (k * size)) := Reads.cut h hk hc
theorem own_base {w : World} {lo lo' n c size : Nat} {e : TypeId} {A : Option Addr} {xs : List Value} (h : w.ownsRow lo e size (.slice A n c) n xs) (hb : lo' ≤ lo) : w.ownsRow lo' e size (.slice A n c) n xs := by
  refine ⟨h.1, ?_⟩
  rcases h.2 with h2 | ⟨g, cap, cur, hv, hbg, rest⟩
  · exact .inl h2
  · exact .inr ⟨g, cap, cur, hv, by omega, rest⟩
theorem own_empty {g lo size : Nat} {e : TypeId} (h : Blk w g e #[]) (hb : lo ≤ g) : w.ownsRow lo e size (.slice (some ⟨g, 0, none⟩) 0 0) 0 [] :=
  ⟨by simp, .inr ⟨g, 0, #[], rfl, hb, h, by omega, by unfold maxLen; omega, by simp, by simp⟩⟩
theorem own_addr {w : World} {lo n c size : Nat} {e : TypeId} {A : Option Addr} {xs : List Value} (h : w.ownsRow lo e size (.slice A n c) n xs) (hn : 0 < n) : ∃ g, A = some ⟨g, 0, none⟩ := by
  rcases own_at h with ⟨_, h0, _⟩ | ⟨g, _, rfl, _⟩
  · omega
  · exact ⟨g, rfl⟩
theorem erase_rows {α : Type} {enc : α → List Value} {k : Nat} (hk : ∀ a, (enc a).length = k) {ls : List α} {i : Nat} (hi : i < ls.length) : (rowsOf enc ls).take (i * k) ++ (rowsOf enc ls).drop ((i + 1) * k) = rowsOf enc (ls.eraseIdx i) := by
  rw [rowsOf_take hk (by omega), rowsOf_drop hk (by omega), ← rowsOf_append, List.eraseIdx_eq_take_drop_succ]
theorem own_reads_since {w w' : World} {B size n : Nat} {A : Option Addr} {xs : List Value} (k : Since w w') (hB : B ≤ w.heap.size) (h : Reads w B size A n xs) : Reads w' B size A n xs := h.below (k.below.mono hB)
theorem reads_blk {g m size : Nat} {t : TypeId} {cs : List Value} (h : Blk w g t cs.toArray) (hl : cs.length = m * size) : Reads w w.heap.size size (some ⟨g, 0, none⟩) m cs :=
  ⟨hl, fun _ => ⟨_, rfl, h.lt, fun j u hu => by rw [Go.WideShapes.add_plain, Nat.zero_add, h.cell]; simpa using hu⟩⟩
theorem HasRow.upd {S : List Nat} {w' : World} {g n : Nat} {t : TypeId} (k : Upd S w w') (h : HasRow w g t n) (hg : g ∉ S) : HasRow w' g t n := by
  obtain ⟨old, B, hn⟩ := h
  exact ⟨old, k.blk B hg, hn⟩
theorem Upd.setRowS {S : List Nat} {w W : World} {g : Nat} (h : Upd S w W) (hg : g ∈ S) (cs : Array Value) : Upd S w (W.setRow g cs) := h.setRow (.inl hg) cs
theorem nin_next {S S' : List Nat} {n b : Nat} (h : ∀ g ∈ S', g ∈ S ∨ n ≤ g) (hb : b ∉ S) (hlt : b < n) : b ∉ S' := fun hm => by
  rcases h b hm with h1 | h1
  · exact hb h1
  · omega
theorem dis_next {T S S' : List Nat} {n : Nat} (h : ∀ g ∈ S', g ∈ S ∨ n ≤ g) (hd : ∀ g ∈ T, g ∉ S) (hlt : ∀ g ∈ T, g < n) : ∀ g ∈ T, g ∉ S' := fun g hg hm => by
  rcases h g hm with h1 | h1
  · exact hd g hg h1
  · have := hlt g hg; omega
/-- What is new of an object's blocks lies above all that was there. -/
theorem far_trans {S S1 S2 : List Nat} {n n1 : Nat} (h : ∀ g ∈ S1, g ∈ S ∨ n ≤ g) (k : ∀ g ∈ S2, g ∈ S1 ∨ n1 ≤ g) (hn : n ≤ n1) : ∀ g ∈ S2, g ∈ S ∨ n ≤ g := fun g hg => by
  rcases k g hg with h1 | h1
  · exact h g h1
  · exact .inr (by omega)
end
end Go.Proofs.Ytlihhjcneedgnaa.Ba
