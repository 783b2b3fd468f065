/-
  What is wanted by the last of these texts, part 1.
  No condition.
-/
import Derived.Test.YtpacieocmogjeaaKGv0
import Derived.Test.YtpacieocmogjeaaRows
namespace Go.Proofs.Ytpacieocmogjeaa.Ba
set_option linter.unusedVariables false
set_option linter.unusedSimpArgs false
open Go.RowKit Go.Proofs.Ytpacieocmogjeaa.Mem
def rowsOf {α : Type} (enc : α → List Value) (ls : List α) : List Value := ls.flatMap enc
section
variable {α : Type} {enc : α → List Value} {k : Nat}
theorem rowsOf_cons (a : α) (l : List α) : rowsOf enc (a :: l) = enc a ++ rowsOf enc l := by simp [rowsOf]
theorem rowsOf_append (xs ys : List α) : rowsOf enc (xs ++ ys) = rowsOf enc xs ++ rowsOf enc ys := by simp [rowsOf]
theorem rowsOf_one (a : α) : rowsOf enc [a] = enc a := by simp [rowsOf]
theorem rowsOf_len (hk : ∀ a, (enc a).length = k) : ∀ ls : List α, (rowsOf enc ls).length = ls.length * k
  | [] => by simp [rowsOf]
  | a :: l => by
    rw [rowsOf_cons, List.length_append, rowsOf_len hk l, hk, List.length_cons, Nat.succ_mul, Nat.add_comm]
theorem rowsOf_split (i : Nat) (ls : List α) : rowsOf enc ls = rowsOf enc (ls.take i) ++ rowsOf enc (ls.drop i) := by
  rw [← rowsOf_append, List.take_append_drop]
theorem rowsOf_take (hk : ∀ a, (enc a).length = k) {i : Nat} {ls : List α} (hi : i ≤ ls.length) : (rowsOf enc ls).take (i * k) = rowsOf enc (ls.take i) := by
  rw [rowsOf_split i ls]
  exact List.take_left' (by rw [rowsOf_len hk, List.length_take, Nat.min_eq_left hi])
theorem rowsOf_drop (hk : ∀ a, (enc a).length = k) {i : Nat} {ls : List α} (hi : i ≤ ls.length) : (rowsOf enc ls).drop (i * k) = rowsOf enc (ls.drop i) := by
  rw [rowsOf_split i ls]
  exact List.drop_left' (by rw [rowsOf_len hk, List.length_take, Nat.min_eq_left hi])
theorem rowsOf_at (hk : ∀ a, (enc a).length = k) {i : Nat} {ls : List α} (hi : i < ls.length) : ((rowsOf enc ls).drop (i * k)).take k = enc ls[i] := by
  rw [rowsOf_drop hk (by omega), List.drop_eq_getElem_cons hi, rowsOf_cons]
  exact List.take_left' (hk _)
theorem rowsOf_one' (h1 : ∀ a, ∀ u ∈ enc a, u.oneCell' = true) (ls : List α) : ∀ u ∈ rowsOf enc ls, u.oneCell' = true := by
  intro u hu
  obtain ⟨a, _, ha⟩ := List.mem_flatMap.1 hu
  exact h1 a u ha
theorem rowsOf_set (hk : ∀ a, (enc a).length = k) {i : Nat} {ls : List α} (hi : i < ls.length) (a : α) :
    rowsOf enc (ls.set i a) = (rowsOf enc ls).take (i * k) ++ (enc a ++ (rowsOf enc ls).drop (i * k + k)) := by
  rw [List.set_eq_take_append_cons_drop, if_pos hi, rowsOf_append, rowsOf_cons, rowsOf_take hk (by omega), ← Nat.succ_mul, rowsOf_drop hk (by omega)]
end
section
variable {α : Type} {enc : α → List Value} {k : Nat} {w : World} {base : Nat} {e : TypeId} {n c : Nat} {A : Option Addr} {ls : List α}
/-- The first rows alone. -/
theorem own_prefix {xs : List Value} {size : Nat} (h : w.ownsRow base e size (.slice A n c) n xs) {i : Nat} (hi : i ≤ n) : w.ownsRow base e size (.slice A i c) i (xs.take (i * size)) := by
  refine ⟨by rw [List.length_take, h.1]; exact Nat.min_eq_left (Nat.mul_le_mul_right _ hi), ?_⟩
  rcases h.2 with ⟨hv, hn⟩ | ⟨g, cap, cur, hv, hb, hg, hc, hm, hs, ht⟩
  · simp at hv
    obtain ⟨rfl, rfl, rfl⟩ := hv
    exact .inl ⟨by congr; omega, by omega⟩
  · simp at hv
    obtain ⟨rfl, rfl⟩ := hv
    refine .inr ⟨g, c, cur, rfl, hb, hg, by omega, hm, hs, ?_⟩
    rw [← ht, List.take_take, Nat.min_eq_left (Nat.mul_le_mul_right _ hi)]
/-- Cells laid behind the end change nothing of a row. -/
theorem own_behind {g size : Nat} {xs : List Value} (h : w.ownsRow base e size (.slice (some ⟨g, 0, none⟩) n c) n xs) {o : Nat} (ho : n * size ≤ o) (vs : List Value) :
    ∃ cur : Array Value, Blk w g e cur ∧ cur.size = c * size ∧ (o + vs.length ≤ c * size → (w.setRow g (cur.toList.take o ++ vs ++ cur.toList.drop (o + vs.length)).toArray).ownsRow base e size (.slice (some ⟨g, 0, none⟩) n c) n xs) := by
  rcases h.2 with ⟨hv, _⟩ | ⟨g', cap, cur, hv, hb, hg, hc, hm, hs, ht⟩
  · simp at hv
  · simp at hv
    obtain ⟨rfl, rfl⟩ := hv
    refine ⟨cur, hg, hs, fun hfit => ⟨h.1, .inr ⟨g, c, _, rfl, hb, Blk.row hg _, hc, hm, ?_, ?_⟩⟩⟩
    · simp only [List.size_toArray, List.length_append, List.length_take, List.length_drop, Array.length_toList]
      omega
    · have e1 : (cur.toList.take o).length = o := by rw [List.length_take, Array.length_toList]; omega
      show ((cur.toList.take o ++ vs) ++ cur.toList.drop (o + vs.length)).take (n * size) = xs
      rw [List.append_assoc, List.take_append_of_le_length (by omega), List.take_take, Nat.min_eq_left ho, ht]
end
section
variable {P : Program} {o : Oper} {a : Act} {w : World} {K : Act → World → Prop} {Q : Exit → Act → World → Prop}
theorem zeroCells_len (z : Array Value) (n : Nat) : (Builtin.zeroCells z n).size = n * z.size := by simp [Builtin.zeroCells]
theorem zeroCells_one (z : Array Value) (hz : ∀ u ∈ z, u.oneCell' = true) (n : Nat) : ∀ u ∈ (Builtin.zeroCells z n).toList, u.oneCell' = true := by
  intro u hu
  simp only [Builtin.zeroCells, Array.toList_map, List.mem_map] at hu
  obtain ⟨i, hi, rfl⟩ := hu
  have hi' : i < n * z.size := by simpa using hi
  have hz0 : 0 < z.size := by rcases Nat.eq_zero_or_pos z.size with h | h; · rw [h] at hi'; omega
                              · exact h
  have hlt : i % z.size < z.size := Nat.mod_lt _ hz0
  rw [getElem!_pos z _ hlt]
  exact hz _ (Array.getElem_mem hlt)
/-- What lies behind the end of a row of the call's own is cleared. -/
theorem wp_clear_behind (x : Operand) (t : TypeId) (ho : o.op = .call { callee := .builtin .clear, args := #[x], argTypes := #[t] })
    (base : Nat) (e : TypeId) (z : Value) (size bytes : Nat) (ht : P.underlying t = some (.slice e)) (hinf : (P.info? e).map (fun i => (i.zero, i.size, i.bytes)) = some (some z, size, bytes))
    (hzs : z.cells.size = size) (hz1 : ∀ u ∈ z.cells, u.oneCell' = true) (g n c : Nat) (xs : List Value) (hown : w.ownsRow base e size (.slice (some ⟨g, 0, none⟩) n c) n xs)
    (m cx : Nat) (hm : 0 < m) (hfit : n + m ≤ c) (hx : a.eval x = .slice (some ⟨g, n * size, none⟩) m cx)
    (h : ∀ w', w'.ownsRow base e size (.slice (some ⟨g, 0, none⟩) n c) n xs → Upd [g] w w' → K (a.put o.dst (.tuple #[])) w') : o.wp P a w K Q := by
  obtain ⟨i, hi, hz, h2, h3⟩ := info3 hinf
  obtain ⟨cur, B, hcs, hnew⟩ := own_behind hown (Nat.le_refl (n * size)) (Builtin.zeroCells z.cells m).toList
  have hlen : (Builtin.zeroCells z.cells m).toList.length = m * size := by rw [Array.length_toList, zeroCells_len, hzs]
  have hfit2 : n * size + (Builtin.zeroCells z.cells m).toList.length ≤ c * size := by rw [hlen, ← Nat.add_mul]; exact Nat.mul_le_mul_right _ hfit
  have hrun : (Builtin.clear_ #[t] o.type #[.slice (some ⟨g, n * size, none⟩) m cx]).run P w = .ok (.tuple #[]) (w.setRow g (cur.toList.take (n * size) ++ (Builtin.zeroCells z.cells m).toList ++ cur.toList.drop (n * size + (Builtin.zeroCells z.cells m).toList.length)).toArray) := by
    have hst := run_storeCells_at P g (n * size) e (Builtin.zeroCells z.cells m).toList 0 cur w B (by rw [hcs]; simpa using hfit2) (zeroCells_one _ hz1 _)
    simp only [Nat.add_zero] at hst
    obtain ⟨m', rfl⟩ : ∃ m', m = m' + 1 := ⟨m - 1, by omega⟩
    simp [Builtin.clear_, run_underlying ht, zeroValue, typeInfo, hi, hz, hst]
  unfold Oper.wp execOp
  simp only [ho, resolve, invoke, builtin, Sem.run_bind, Sem.run_pure, Result.andThen_ok, List.map_toArray, List.map_cons, List.map_nil, hx, hrun]
  exact h _ (hnew hfit2) ((Upd.refl _ w).setRow (.inl (by simp)) _)
end

section
variable {P : Program} {o : Oper} {a : Act} {w : World} {K : Act → World → Prop} {Q : Exit → Act → World → Prop}
theorem sb_lh (w : World) {len cap l h : Nat} (kl kh : IntKind) {L H : Int} (hL : L = l) (hH : H = h) (h1 : l ≤ h) (h2 : h ≤ cap) : (Instr.sliceBounds true len cap (some (.int kl L)) (some (.int kh H)) none).run P w = .ok (l, h, cap) w := by
  subst hL hH
  simp [Instr.sliceBounds, run_sliceBound, h1, h2]
theorem sb_h (w : World) {len cap h : Nat} (kh : IntKind) {H : Int} (hH : H = h) (h2 : h ≤ cap) : (Instr.sliceBounds true len cap none (some (.int kh H)) none).run P w = .ok (0, h, cap) w := by
  subst hH
  simp [Instr.sliceBounds, run_sliceBound, h2]
theorem sb_l (w : World) {len cap l : Nat} (kl : IntKind) {L : Int} (hL : L = l) (h1 : l ≤ len) : (Instr.sliceBounds true len cap (some (.int kl L)) none none).run P w = .ok (l, len, cap) w := by
  subst hL
  simp [Instr.sliceBounds, run_sliceBound, h1]
theorem sb_lhm (w : World) {len cap l h m : Nat} (kl kh km : IntKind) {L H M : Int} (hL : L = l) (hH : H = h) (hM : M = m) (h1 : l ≤ h) (h2 : h ≤ m) (h3 : m ≤ cap) : (Instr.sliceBounds true len cap (some (.int kl L)) (some (.int kh H)) (some (.int km M))).run P w = .ok (l, h, m) w := by
  subst hL hH hM
  simp [Instr.sliceBounds, run_sliceBound, h1, h2, h3]
/-- A slice is cut. -/
theorem exec_slice {A A' : Option Addr} {len cap l h m n' c' s : Nat} (t e : TypeId) (x : Operand) (lo hi mx : Option Operand) (ho : o.op = .slice t x lo hi mx) (hx : a.eval x = .slice A len cap) (ht : P.underlying t = some (.slice e)) (hs : (P.info? e).map (·.size) = some s)
    (hb : (Instr.sliceBounds true len cap (lo.map a.eval) (hi.map a.eval) (mx.map a.eval)).run P w = .ok (l, h, m) w) (hA : (if m = l then A else A.map (·.add (l * s))) = A') (hn : h - l = n') (hc : m - l = c') : (execOp a.eval o).run P w = .ok (.value (.slice A' n' c')) w := by
  subst hA hn hc
  obtain ⟨i, hi2, hs2⟩ : ∃ i, P.info? e = some i ∧ i.size = s := by
    cases hq : P.info? e with
    | none => simp [hq] at hs
    | some i => exact ⟨i, rfl, by simpa [hq] using hs⟩
  unfold execOp
  simp only [ho, hx]
  simp [Instr.sliceAt, Instr.slice, run_underlying ht, hb, sizeOf, typeInfo, hi2, hs2]
/-- A slice is indexed. -/
theorem exec_index {b off len cap i s : Nat} {k : IntKind} {I : Int} (t e : TypeId) (x y : Operand) (ho : o.op = .indexAddr t x y) (hx : a.eval x = .slice (some ⟨b, off, none⟩) len cap) (hy : a.eval y = .int k I) (hI : I = i) (hlt : i < len)
    (ht : P.underlying t = some (.slice e)) (hs : (P.info? e).map (·.size) = some s) : (execOp a.eval o).run P w = .ok (.value (.pointer (some ⟨b, off + i * s, none⟩))) w := by
  subst hI
  obtain ⟨j, hi2, hs2⟩ : ∃ i, P.info? e = some i ∧ i.size = s := by
    cases hq : P.info? e with
    | none => simp [hq] at hs
    | some i => exact ⟨i, rfl, by simpa [hq] using hs⟩
  unfold execOp
  simp only [ho, hx, hy]
  simp [Instr.indexAt, asIntOf, run_underlying ht, sizeOf, typeInfo, hi2, hs2, hlt, Go.WideShapes.add_plain]
/-- An append that has room. -/
theorem wp_append_room (s x : Operand) (t : TypeId) (ho : o.op = .call { callee := .builtin .append, args := #[s, x], argTypes := #[t, t] })
    (base : Nat) (e : TypeId) (size : Nat) (ht : P.underlying t = some (.slice e)) (hs : (P.info? e).map (·.size) = some size)
    (g n cap : Nat) (xs : List Value) (hsv : a.eval s = .slice (some ⟨g, 0, none⟩) n cap) (hown : w.ownsRow base e size (.slice (some ⟨g, 0, none⟩) n cap) n xs)
    (B : Nat) (A : Option Addr) (m c : Nat) (ys : List Value) (hx : a.eval x = .slice A m c) (hy : Reads w B size A m ys) (h1 : ∀ u ∈ ys, u.oneCell' = true) (hroom : n + m ≤ cap)
    (n2 : Nat) (zs : List Value) (hn2 : n + m = n2) (hzs : xs ++ ys = zs)
    (h : ∀ w', w'.ownsRow base e size (.slice (some ⟨g, 0, none⟩) n2 cap) n2 zs → Upd [g] w w' → K (a.put o.dst (.slice (some ⟨g, 0, none⟩) n2 cap)) w') : o.wp P a w K Q := by
  subst hn2 hzs
  obtain ⟨i, hi2, hs2⟩ : ∃ i, P.info? e = some i ∧ i.size = size := by
    cases hq : P.info? e with
    | none => simp [hq] at hs
    | some i => exact ⟨i, rfl, by simpa [hq] using hs⟩
  have key : ∃ w', (Builtin.append_ #[t, t] o.type #[.slice (some ⟨g, 0, none⟩) n cap, .slice A m c]).run P w = .ok (.slice (some ⟨g, 0, none⟩) (n + m) cap) w' ∧
      w'.ownsRow base e size (.slice (some ⟨g, 0, none⟩) (n + m) cap) (n + m) (xs ++ ys) ∧ w.grownBy w' (some g) := by
    rcases A with _ | ad
    · have hm : m = 0 := by
        rcases Nat.eq_zero_or_pos m with h0 | h0
        · exact h0
        · obtain ⟨ad, h, _⟩ := hy.2 h0
          cases h
      subst hm
      have hn : ys = [] := List.eq_nil_of_length_eq_zero (by simpa using hy.1)
      subst hn
      exact ⟨w, run_append_of_nil w base t o.type e i size ht hi2 _ n xs hown c, by simpa using hown, World.grownBy.refl w _⟩
    · have hcells : ∀ j u, ys[j]? = some u → w.cell? (ad.add j) = some u := by
        intro j u hu
        rcases Nat.eq_zero_or_pos m with h0 | h0
        · subst h0
          have hn : ys = [] := List.eq_nil_of_length_eq_zero (by simpa using hy.1)
          subst hn
          simp at hu
        · obtain ⟨ad', h, _, hc⟩ := hy.2 h0
          injection h with h
          subst h
          exact hc j u hu
      exact run_append_fits w base t o.type e i size ht hi2 hs2 g n cap xs hown ad m c ys hy.1 hcells h1 hroom
  obtain ⟨w', hr, h2, h3⟩ := key
  unfold Oper.wp execOp
  simp only [ho, resolve, invoke, builtin, Sem.run_bind, Sem.run_pure, Result.andThen_ok, List.map_toArray, List.map_cons, List.map_nil, hsv, hx, hr]
  refine h w' h2 ?_
  have := Upd.of_grown (A := some ⟨g, 0, none⟩) (n := n) (c := cap) (w := w) (w' := w') (by simpa [Value.ownBlock] using h3)
  simpa [blkOf] using this
/-- Where a slice that is cut from its l-th element on begins. -/
def cutA (c l : Nat) (A : Option Addr) (s : Nat) : Option Addr := if c = l then A else A.map (·.add (l * s))
theorem reads_cut {w : World} {B size n k cap : Nat} {A : Option Addr} {xs : List Value} (h : Reads w B size A n xs) (hk : k ≤ n) (hc : n ≤ cap) : Reads w B size (cutA cap k A size) (n - k) (xs.drop (k * size)) := Reads.cut h hk hc
theorem own_base {w : World} {lo lo' n c size : Nat} {e : TypeId} {A : Option Addr} {xs : List Value} (h : w.ownsRow lo e size (.slice A n c) n xs) (hb : lo' ≤ lo) : w.ownsRow lo' e size (.slice A n c) n xs := by
  refine ⟨h.1, ?_⟩
  rcases h.2 with h2 | ⟨g, cap, cur, hv, hbg, rest⟩
  · exact .inl h2
  · exact .inr ⟨g, cap, cur, hv, by omega, rest⟩
theorem own_empty {g lo size : Nat} {e : TypeId} (h : Blk w g e #[]) (hb : lo ≤ g) : w.ownsRow lo e size (.slice (some ⟨g, 0, none⟩) 0 0) 0 [] :=
  ⟨by simp, .inr ⟨g, 0, #[], rfl, hb, h, by omega, by unfold maxLen; omega, by simp, by simp⟩⟩
theorem own_addr {w : World} {lo n c size : Nat} {e : TypeId} {A : Option Addr} {xs : List Value} (h : w.ownsRow lo e size (.slice A n c) n xs) (hn : 0 < n) : ∃ g, A = some ⟨g, 0, none⟩ := by
  rcases own_at h with ⟨_, h0, _⟩ | ⟨g, _, rfl, _⟩
  · omega
  · exact ⟨g, rfl⟩
theorem erase_rows {α : Type} {enc : α → List Value} {k : Nat} (hk : ∀ a, (enc a).length = k) {ls : List α} {i : Nat} (hi : i < ls.length) : (rowsOf enc ls).take (i * k) ++ (rowsOf enc ls).drop ((i + 1) * k) = rowsOf enc (ls.eraseIdx i) := by
  rw [rowsOf_take hk (by omega), rowsOf_drop hk (by omega), ← rowsOf_append, List.eraseIdx_eq_take_drop_succ]
theorem own_reads_since {w w' : World} {B size n : Nat} {A : Option Addr} {xs : List Value} (k : Since w w') (hB : B ≤ w.heap.size) (h : Reads w B size A n xs) : Reads w' B size A n xs := h.below (k.below.mono hB)
theorem reads_blk {g m size : Nat} {t : TypeId} {cs : List Value} (h : Blk w g t cs.toArray) (hl : cs.length = m * size) : Reads w w.heap.size size (some ⟨g, 0, none⟩) m cs :=
  ⟨hl, fun _ => ⟨_, rfl, h.lt, fun j u hu => by rw [Go.WideShapes.add_plain, Nat.zero_add, h.cell]; simpa using hu⟩⟩
theorem HasRow.upd {S : List Nat} {w' : World} {g n : Nat} {t : TypeId} (k : Upd S w w') (h : HasRow w g t n) (hg : g ∉ S) : HasRow w' g t n := by
  obtain ⟨old, B, hn⟩ := h
  exact ⟨old, k.blk B hg, hn⟩
theorem nin_next {S S' : List Nat} {n b : Nat} (h : ∀ g ∈ S', g ∈ S ∨ n ≤ g) (hb : b ∉ S) (hlt : b < n) : b ∉ S' := fun hm => by
  rcases h b hm with h1 | h1
  · exact hb h1
  · omega
theorem dis_next {T S S' : List Nat} {n : Nat} (h : ∀ g ∈ S', g ∈ S ∨ n ≤ g) (hd : ∀ g ∈ T, g ∉ S) (hlt : ∀ g ∈ T, g < n) : ∀ g ∈ T, g ∉ S' := fun g hg hm => by
  rcases h g hm with h1 | h1
  · exact hd g hg h1
  · have := hlt g hg; omega
end
end Go.Proofs.Ytpacieocmogjeaa.Ba
namespace Go.Proofs.Ytpacieocmogjeaa.Ba
set_option linter.unusedVariables false
set_option linter.unusedSimpArgs false
open Go.RowKit Go.Proofs.Ytpacieocmogjeaa.Mem
/-- P, then the element's cells, then S. -/
def el (P : List Value) (cs : Array Value) (S : List Value) : Array Value := (P ++ cs.toList ++ S).toArray
section
variable {P S : List Value} {cs cs' : Array Value} {off j n : Nat} {v : Value} {l vs : List Value}
theorem el_at (hp : P.length = off) (h : cs[j]? = some v) : (el P cs S)[off + j]? = some v := by
  subst hp
  have hj : j < cs.size := by
    rcases Nat.lt_or_ge j cs.size with h1 | h1
    · exact h1
    · rw [Array.getElem?_eq_none h1] at h; cases h
  simp only [el, List.getElem?_toArray, List.append_assoc]
  rw [List.getElem?_append_right (by omega), Nat.add_sub_cancel_left, List.getElem?_append_left (by simpa using hj)]
  simpa using h
theorem el_size : (el P cs S).size = P.length + cs.size + S.length := by simp [el]; omega
theorem el_lt (hp : P.length = off) (h : j < cs.size) : off + j < (el P cs S).size := by rw [el_size]; omega
theorem el_le (hp : P.length = off) (h : j + n ≤ cs.size) : off + j + n ≤ (el P cs S).size := by rw [el_size]; omega
theorem el_set (hp : P.length = off) (h : j < cs.size) (hc : cs.setIfInBounds j v = cs') : (el P cs S).setIfInBounds (off + j) v = el P cs' S := by
  subst hp hc
  unfold el
  rw [List.setIfInBounds_toArray, List.append_assoc, List.append_assoc, List.set_append_right _ _ (by omega), Nat.add_sub_cancel_left, List.set_append_left _ _ (by simpa using h)]
  simp
theorem el_put : ∀ {vs : List Value} {j : Nat} {cs cs' : Array Value}, P.length = off → j + vs.length ≤ cs.size → putAt cs j vs = cs' → putAt (el P cs S) (off + j) vs = el P cs' S
  | [], _, _, _, _, _, hc => by subst hc; rfl
  | v :: r, j, cs, cs', hp, h, hc => by
    simp only [List.length_cons] at h
    unfold putAt at hc ⊢
    rw [el_set hp (by omega) rfl, Nat.add_assoc]
    exact el_put hp (by simp; omega) hc
theorem el_part (hp : P.length = off) (hl : (cs.toList.drop j).take n = l) (h : j + n ≤ cs.size) : ((el P cs S).toList.drop (off + j)).take n = l := by
  subst hp hl
  simp only [el, List.append_assoc]
  rw [List.drop_append, Nat.add_sub_cancel_left, List.drop_eq_nil_of_le (by omega), List.nil_append, List.drop_append_of_le_length (by simp; omega), List.take_append_of_le_length (by simp; omega)]
end
/-- A row's element by itself, and how the row is with another one in its place. -/
theorem own_el {α : Type} {enc : α → List Value} {k : Nat} (hk : ∀ a, (enc a).length = k) {w : World} {lo g n c i : Nat} {e : TypeId} {ls : List α}
    (h : w.ownsRow lo e k (.slice (some ⟨g, 0, none⟩) n c) n (rowsOf enc ls)) (hi : i < ls.length) :
    ∃ P S : List Value, P.length = 0 + i * k ∧ Blk w g e (el P (enc ls[i]).toArray S) ∧ ∀ a w', Blk w' g e (el P (enc a).toArray S) → w'.ownsRow lo e k (.slice (some ⟨g, 0, none⟩) n c) n (rowsOf enc (ls.set i a)) := by
  have hr := rowsOf_len hk ls
  rcases own_at h with ⟨h0, _⟩ | ⟨g', cur, hA, hb, B, hn, hc, hs, ht⟩
  · cases h0
  · have hg : g' = g := by injection hA with hA; injection hA with hA; exact hA.symm
    subst hg
    have hlen : (rowsOf enc ls).length = n * k := h.1
    have hnl : ls.length * k = n * k := by rw [← hr, hlen]
    have hik : i * k + k ≤ n * k := by rw [← hnl, ← Nat.succ_mul]; exact Nat.mul_le_mul_right _ hi
    have hck : n * k ≤ c * k := Nat.mul_le_mul_right _ hn
    have hcl : cur.toList.length = c * k := by simpa using hs
    have hel : (cur.toList.drop (i * k)).take k = enc ls[i] := by
      have h1 := rowsOf_at hk hi
      rw [← h1, ← ht, List.drop_take, List.take_take, Nat.min_eq_left (by omega)]
    refine ⟨cur.toList.take (i * k), cur.toList.drop (i * k + k), by rw [List.length_take, Nat.zero_add]; omega, ?_, ?_⟩
    · have : el (cur.toList.take (i * k)) (enc ls[i]).toArray (cur.toList.drop (i * k + k)) = cur := by
        unfold el
        rw [← hel]
        apply Array.ext'
        simp only [List.toList_toArray]
        rw [← List.drop_drop, List.append_assoc, List.take_append_drop, List.take_append_drop]
      rw [this]; exact B
    · intro a w' B'
      have hal := hk a
      refine ⟨by rw [rowsOf_len hk, List.length_set]; exact hnl, .inr ⟨g', c, _, rfl, hb, B', hn, hc, ?_, ?_⟩⟩
      · rw [el_size]; simp only [List.length_take, List.length_drop, List.size_toArray, hal, hcl]; omega
      · simp only [el, List.toList_toArray]
        have hL1 : (cur.toList.take (i * k)).length = i * k := by rw [List.length_take]; omega
        rw [rowsOf_set hk hi a, ← ht, List.take_take, Nat.min_eq_left (by omega), List.append_assoc, List.take_append, hL1, List.take_of_length_le (by omega), List.take_append, hal, List.take_of_length_le (l := enc a) (by omega), List.drop_take, Nat.sub_sub]
end Go.Proofs.Ytpacieocmogjeaa.Ba
namespace Go.Proofs.Ytpacieocmogjeaa.Ty
set_option linter.unusedVariables false
set_option linter.unusedSimpArgs false
/-- All that is known of a car. -/
structure CarV where
  ds : Int
  da : Int
  un : Int
  wy : Int
  ti : Int
  ju : Int
  lo : Int
  bl : Bool
  br : Bool
  mo : Int
  ta : Int
  ho : Bool
  sp : Int
  su : Int
  sd : Int
/-- A setting. -/
structure CfgV where
  ca : Int
  fl : Int
  ft : Int
  se : Int
  dr : Int
  dw : Int
  ho : Int
  re : Int
  yi : Int
  qu : Int
  qo : Int
  lo : Int
  sl : Int
  rt : Int
  cp : Int
  tr : Int
  de : Int
  wi : Int
end Go.Proofs.Ytpacieocmogjeaa.Ty
namespace Go.Proofs.Ytpacieocmogjeaa.Do
set_option linter.unusedVariables false
set_option linter.unusedSimpArgs false
/-- A timer's ticks. -/
def hd (t : Int) : Int := if t < 1 then 1 else if 1000 < t then 1000 else t
theorem hd_lo (t : Int) : 1 ≤ hd t := by unfold hd; repeat' split <;> omega
theorem hd_hi (t : Int) : hd t ≤ 1000 := by unfold hd; repeat' split <;> omega
def gd (s a t : Int) : Bool := decide ((s = 0 ∧ a = 0) ∨ (s = 2 ∧ a = hd t) ∨ ((s = 1 ∨ s = 3) ∧ 0 ≤ a ∧ a ≤ hd t))
theorem gd_iff (s a t : Int) : gd s a t = true ↔ ((s = 0 ∧ a = 0) ∨ (s = 2 ∧ a = hd t) ∨ ((s = 1 ∨ s = 3) ∧ 0 ≤ a ∧ a ≤ hd t)) := by unfold gd; simp
theorem gd_bd (s a t : Int) (h : gd s a t = true) : 0 ≤ s ∧ s ≤ 3 ∧ 0 ≤ a ∧ a ≤ 1000 := by
  have := hd_lo t; have := hd_hi t; rw [gd_iff] at h; omega
/-- Told to open; told to close. -/
def oS (s : Int) : Int := if s = 0 ∨ s = 3 then 1 else s
def cS (s : Int) : Int := if s = 1 ∨ s = 2 then 3 else s
/-- A tick: the state; the place. -/
def tS (s a t : Int) (b : Bool) : Int := if s = 3 ∧ b = true then 1 else if s = 3 ∧ a ≤ 1 then 0 else if s = 3 then 3 else if s = 1 ∧ hd t ≤ a + 1 then 2 else s
def tA (s a t : Int) (b : Bool) : Int := if s = 3 ∧ b = true then a else if s = 3 ∧ a ≤ 1 then 0 else if s = 3 then a - 1 else if s = 1 ∧ hd t ≤ a + 1 then hd t else if s = 1 then a + 1 else a
/-- Opening, closing, by one. -/
def pS (s a t : Int) : Int := if t ≤ a + 1 then 2 else s
def pA (a t : Int) : Int := if t ≤ a + 1 then t else a + 1
def qS (s a : Int) : Int := if a ≤ 1 then 0 else s
def qA (a : Int) : Int := if a ≤ 1 then 0 else a - 1
theorem tS_1 (a t : Int) (b : Bool) : tS 1 a t b = pS 1 a (hd t) := by unfold tS pS; simp
theorem tA_1 (a t : Int) (b : Bool) : tA 1 a t b = pA a (hd t) := by unfold tA pA; simp
theorem tS_3 (a t : Int) : tS 3 a t false = qS 3 a := by unfold tS qS; simp
theorem tA_3 (a t : Int) : tA 3 a t false = qA a := by unfold tA qA; simp
theorem tS_b (a t : Int) : tS 3 a t true = oS 3 := by unfold tS oS; simp
theorem tA_b (a t : Int) : tA 3 a t true = a := by unfold tA; simp
theorem tS_o (s a t : Int) (b : Bool) (h1 : s ≠ 1) (h3 : s ≠ 3) : tS s a t b = s := by unfold tS; simp [h1, h3]
theorem tA_o (s a t : Int) (b : Bool) (h1 : s ≠ 1) (h3 : s ≠ 3) : tA s a t b = a := by unfold tA; simp [h1, h3]
theorem gd_open (s a t : Int) (h : gd s a t = true) : gd (oS s) a t = true := by
  rw [gd_iff] at *; unfold oS; have := hd_lo t; split <;> omega
theorem gd_close (s a t : Int) (h : gd s a t = true) : gd (cS s) a t = true := by
  rw [gd_iff] at *; unfold cS; have := hd_lo t; split <;> omega
theorem gd_tick (s a t : Int) (b : Bool) (h : gd s a t = true) : gd (tS s a t b) (tA s a t b) t = true := by
  rw [gd_iff] at *; unfold tS tA; have := hd_lo t; have := hd_hi t
  cases b <;> simp <;> (repeat' split) <;> omega
end Go.Proofs.Ytpacieocmogjeaa.Do
namespace Go.Proofs.Ytpacieocmogjeaa.Do
set_option linter.unusedVariables false
set_option linter.unusedSimpArgs false
open Go.RowKit Go.Proofs.Ytpacieocmogjeaa.Ba
theorem heldT (n : Int) (w : World) : Calls Try.prog 100 #[.int .i64 n] w fun e w' => e = .returned (.int .i64 (hd n)) ∧ w = w' := by
  by_cases h0 : n < 1
  · go_enter Try.func100, Try.ntmps100
    go_wp2
    go_ret
    exact ⟨ret_int (by unfold hd; repeat' split <;> omega), rfl⟩
  · by_cases h1 : 1000 < n
    · go_enter Try.func100, Try.ntmps100
      go_wp2
      go_ret
      exact ⟨ret_int (by unfold hd; repeat' split <;> omega), rfl⟩
    · go_enter Try.func100, Try.ntmps100
      go_wp2
      go_ret
      exact ⟨ret_int (by unfold hd; repeat' split <;> omega), rfl⟩
/-- The world behind a call that has made its argument's block and its answer's. -/
def two (w : World) (s a : Int) : World := (w.alloc (.cells #[.int .i64 s, .int .i64 a] 25)).alloc (.cells #[.int .i64 s, .int .i64 a] 25)
theorem two_since (w : World) (s a : Int) : Since w (two w s a) := ((Since.refl _).alloc _).alloc _
theorem openX (s a : Int) (w : World) : Calls Try.prog 97 #[.agg #[.int .i64 s, .int .i64 a]] w fun e w' => e = .returned (.agg #[.int .i64 (oS s), .int .i64 a]) ∧ w' = two w (oS s) a := by
  by_cases h0 : s = 0 ∨ s = 3
  · have HE := Lib.hid (show oS s = 1 by unfold oS; rw [if_pos h0])
    rcases h0 with h0 | h0
    all_goals
      subst h0
      go_enter Try.func97, Try.ntmps97
      go_wp2
      exact bodyPost_ret (v := .agg #[.int .i64 1, .int .i64 a]) (by simp [results, Try.results97, go_sem]) rfl ⟨by rw [HE.out], by rw [HE.out]; rfl⟩
  · have HE := Lib.hid (show oS s = s by unfold oS; rw [if_neg h0])
    have h1 : (s == 0) = false := by simp; omega
    have h2 : (s == 3) = false := by simp; omega
    go_enter Try.func97, Try.ntmps97
    go_wp2
    exact bodyPost_ret (v := .agg #[.int .i64 s, .int .i64 a]) (by simp [results, Try.results97, go_sem]) rfl ⟨by rw [HE.out], by rw [HE.out]; rfl⟩
theorem openD (s a : Int) (w : World) : Calls Try.prog 97 #[.agg #[.int .i64 s, .int .i64 a]] w fun e w' => e = .returned (.agg #[.int .i64 (oS s), .int .i64 a]) ∧ Since w w' :=
  (openX s a w).mono fun _ _ ⟨h, k⟩ => ⟨h, by rw [k]; exact two_since _ _ _⟩
theorem closeX (s a : Int) (w : World) : Calls Try.prog 98 #[.agg #[.int .i64 s, .int .i64 a]] w fun e w' => e = .returned (.agg #[.int .i64 (cS s), .int .i64 a]) ∧ w' = two w (cS s) a := by
  by_cases h0 : s = 2 ∨ s = 1
  · have HE := Lib.hid (show cS s = 3 by unfold cS; rw [if_pos (by omega)])
    rcases h0 with h0 | h0
    all_goals
      subst h0
      go_enter Try.func98, Try.ntmps98
      go_wp2
      exact bodyPost_ret (v := .agg #[.int .i64 3, .int .i64 a]) (by simp [results, Try.results98, go_sem]) rfl ⟨by rw [HE.out], by rw [HE.out]; rfl⟩
  · have HE := Lib.hid (show cS s = s by unfold cS; rw [if_neg (by omega)])
    have h1 : (s == 2) = false := by simp; omega
    have h2 : (s == 1) = false := by simp; omega
    go_enter Try.func98, Try.ntmps98
    go_wp2
    exact bodyPost_ret (v := .agg #[.int .i64 s, .int .i64 a]) (by simp [results, Try.results98, go_sem]) rfl ⟨by rw [HE.out], by rw [HE.out]; rfl⟩
theorem closeD (s a : Int) (w : World) : Calls Try.prog 98 #[.agg #[.int .i64 s, .int .i64 a]] w fun e w' => e = .returned (.agg #[.int .i64 (cS s), .int .i64 a]) ∧ Since w w' :=
  (closeX s a w).mono fun _ _ ⟨h, k⟩ => ⟨h, by rw [k]; exact two_since _ _ _⟩
theorem openedD (s a t : Int) (ha : 0 ≤ a) (ha2 : a ≤ 1000) (ht : 1 ≤ t) (w : World) : Calls Try.prog 99 #[.agg #[.int .i64 s, .int .i64 a], .int .i64 t] w fun e w' => e = .returned (.agg #[.int .i64 (pS s a t), .int .i64 (pA a t)]) ∧ Since w w' := by
  rcases Int.lt_trichotomy t (a + 1) with hl | hl | hl
  · have h1 : ((if t < a + 1 then t else a + 1) == t) = true := by rw [if_pos hl]; simp
    have HS := Lib.hid (show pS s a t = 2 by unfold pS; rw [if_pos (by omega)])
    have HA := Lib.hid (show pA a t = t by unfold pA; rw [if_pos (by omega)])
    go_enter Try.func99, Try.ntmps99
    go_wp2
    exact bodyPost_ret (v := .agg #[.int .i64 2, .int .i64 t]) (by simp [results, Try.results99, go_sem]) rfl ⟨by rw [HS.out, HA.out], ((Since.refl _).alloc _).alloc _⟩
  · subst hl
    have HS := Lib.hid (show pS s a (a + 1) = 2 by unfold pS; rw [if_pos (by omega)])
    have HA := Lib.hid (show pA a (a + 1) = a + 1 by unfold pA; rw [if_pos (by omega)])
    go_enter Try.func99, Try.ntmps99
    go_wp2
    exact bodyPost_ret (v := .agg #[.int .i64 2, .int .i64 (a + 1)]) (by simp [results, Try.results99, go_sem]) rfl ⟨by rw [HS.out, HA.out], ((Since.refl _).alloc _).alloc _⟩
  · have h1 : ((a + 1) == t) = false := by simp; omega
    have HS := Lib.hid (show pS s a t = s by unfold pS; rw [if_neg (by omega)])
    have HA := Lib.hid (show pA a t = a + 1 by unfold pA; rw [if_neg (by omega)])
    go_enter Try.func99, Try.ntmps99
    go_wp2
    exact bodyPost_ret (v := .agg #[.int .i64 s, .int .i64 (a + 1)]) (by simp [results, Try.results99, go_sem]) rfl ⟨by rw [HS.out, HA.out], ((Since.refl _).alloc _).alloc _⟩
theorem closedD (s a : Int) (ha : 0 ≤ a) (ha2 : a ≤ 1000) (w : World) : Calls Try.prog 101 #[.agg #[.int .i64 s, .int .i64 a]] w fun e w' => e = .returned (.agg #[.int .i64 (qS s a), .int .i64 (qA a)]) ∧ Since w w' := by
  rcases (show a = 0 ∨ a = 1 ∨ 1 < a by omega) with hl | hl | hl
  · subst hl
    go_enter Try.func101, Try.ntmps101
    go_wp2
    exact bodyPost_ret (v := .agg #[.int .i64 0, .int .i64 0]) (by simp [results, Try.results101, go_sem]) rfl ⟨rfl, ((Since.refl _).alloc _).alloc _⟩
  · subst hl
    go_enter Try.func101, Try.ntmps101
    go_wp2
    exact bodyPost_ret (v := .agg #[.int .i64 0, .int .i64 0]) (by simp [results, Try.results101, go_sem]) rfl ⟨rfl, ((Since.refl _).alloc _).alloc _⟩
  · have h1 : ((a - 1) == 0) = false := by simp; omega
    have HS := Lib.hid (show qS s a = s by unfold qS; rw [if_neg (by omega)])
    have HA := Lib.hid (show qA a = a - 1 by unfold qA; rw [if_neg (by omega)])
    go_enter Try.func101, Try.ntmps101
    go_wp2
    exact bodyPost_ret (v := .agg #[.int .i64 s, .int .i64 (a - 1)]) (by simp [results, Try.results101, go_sem]) rfl ⟨by rw [HS.out, HA.out], ((Since.refl _).alloc _).alloc _⟩
theorem tickD (s a t : Int) (b : Bool) (ha : 0 ≤ a) (ha2 : a ≤ 1000) (w : World) : Calls Try.prog 89 #[.agg #[.int .i64 s, .int .i64 a], .int .i64 t, .bool b] w fun e w' => e = .returned (.agg #[.int .i64 (tS s a t b), .int .i64 (tA s a t b)]) ∧ Since w w' := by
  have l1 := hd_lo t
  by_cases h1 : s = 1
  · subst h1
    have HS := Lib.hid (tS_1 a t b)
    have HA := Lib.hid (tA_1 a t b)
    go_enter Try.func89, Try.ntmps89
    go_wp2
    go_region_with (first | (go_at_call 100; refine (heldT _ _).mono ?_; rintro e w' ⟨rfl, rfl⟩) | (go_at_call 99; refine (openedD _ _ _ (by assumption) (by assumption) (by assumption) _).mono ?_; rintro e w1 ⟨rfl, hb1⟩; obtain ⟨hc1, hf1⟩ := hb1.cf))
    all_goals go_wp2
    all_goals exact bodyPost_ret (v := .agg #[.int .i64 (pS 1 a (hd t)), .int .i64 (pA a (hd t))]) (by simp [results, Try.results89, go_sem, hc1]) rfl ⟨by rw [HS.out, HA.out], (by repeat (first | exact Since.refl _ | assumption | refine Since.setCell ?_ (by first | (simp; done) | (simp; omega)) _ | refine Since.drew ?_ | refine Since.drewN ?_ _ | refine Since.alloc ?_ _ | refine Since.trans ?_ (by assumption) | refine Since.trans ?_ (Hid.out (by assumption))))⟩
  · have h1' : (s == 1) = false := by simpa using h1
    by_cases h3 : s = 3
    · subst h3
      cases b
      · have HS := Lib.hid (tS_3 a t)
        have HA := Lib.hid (tA_3 a t)
        go_enter Try.func89, Try.ntmps89
        go_wp2_with (first | (go_at_call 101; refine (closedD _ _ (by assumption) (by assumption) _).mono ?_; rintro e w1 ⟨rfl, hb1⟩; obtain ⟨hc1, hf1⟩ := hb1.cf))
        exact bodyPost_ret (v := .agg #[.int .i64 (qS 3 a), .int .i64 (qA a)]) (by simp [results, Try.results89, go_sem, hc1]) rfl ⟨by rw [HS.out, HA.out], (by repeat (first | exact Since.refl _ | assumption | refine Since.setCell ?_ (by first | (simp; done) | (simp; omega)) _ | refine Since.drew ?_ | refine Since.drewN ?_ _ | refine Since.alloc ?_ _ | refine Since.trans ?_ (by assumption) | refine Since.trans ?_ (Hid.out (by assumption))))⟩
      · have HS := Lib.hid (tS_b a t)
        have HA := Lib.hid (tA_b a t)
        go_enter Try.func89, Try.ntmps89
        go_wp2_with (first | (go_at_call 97; refine (openD _ _ _).mono ?_; rintro e w1 ⟨rfl, hb1⟩; obtain ⟨hc1, hf1⟩ := hb1.cf))
        exact bodyPost_ret (v := .agg #[.int .i64 (oS 3), .int .i64 a]) (by simp [results, Try.results89, go_sem, hc1]) rfl ⟨by rw [HS.out, HA.out], (by repeat (first | exact Since.refl _ | assumption | refine Since.setCell ?_ (by first | (simp; done) | (simp; omega)) _ | refine Since.drew ?_ | refine Since.drewN ?_ _ | refine Since.alloc ?_ _ | refine Since.trans ?_ (by assumption) | refine Since.trans ?_ (Hid.out (by assumption))))⟩
    · have h3' : (s == 3) = false := by simpa using h3
      have HS := Lib.hid (tS_o s a t b h1 h3)
      have HA := Lib.hid (tA_o s a t b h1 h3)
      go_enter Try.func89, Try.ntmps89
      go_wp2
      exact bodyPost_ret (v := .agg #[.int .i64 s, .int .i64 a]) (by simp [results, Try.results89, go_sem]) rfl ⟨by rw [HS.out, HA.out], ((Since.refl _).alloc _).alloc _⟩
theorem spanR (n : Int) (w : World) : Calls Try.prog 33 #[.int .i64 n] w fun e w' => e = .returned (.int .i64 (hd n)) ∧ w = w' := by
  by_cases h0 : n < 1
  · go_enter Try.func33, Try.ntmps33
    go_wp2
    go_ret
    exact ⟨ret_int (by unfold hd; repeat' split <;> omega), rfl⟩
  · by_cases h1 : 1000 < n
    · go_enter Try.func33, Try.ntmps33
      go_wp2
      go_ret
      exact ⟨ret_int (by unfold hd; repeat' split <;> omega), rfl⟩
    · go_enter Try.func33, Try.ntmps33
      go_wp2
      go_ret
      exact ⟨ret_int (by unfold hd; repeat' split <;> omega), rfl⟩
end Go.Proofs.Ytpacieocmogjeaa.Do
namespace Go.Proofs.Ytpacieocmogjeaa.Mo
set_option linter.unusedVariables false
set_option linter.unusedSimpArgs false
def fl (n : Int) : Int := if n < 2 then 2 else if 64 < n then 64 else n
theorem fl_lo (n : Int) : 2 ≤ fl n := by unfold fl; repeat' split <;> omega
theorem fl_hi (n : Int) : fl n ≤ 64 := by unfold fl; repeat' split <;> omega
def lvB (u : Int) : Bool := decide (0 ≤ u ∧ u ≤ 252 ∧ u % 4 = 0)
def lvN (u : Int) : Int := if lvB u = true then u / 4 else 0
def mv (u w f : Int) : Int := if w = 1 ∧ u < 4 * (fl f - 1) then u + 1 else if w = 2 ∧ 0 < u then u - 1 else u
def tw (u f : Int) : Int := if u < 4 * f then 1 else if 4 * f < u then 2 else 0
def fr (u f : Int) : Int := if u - 4 * f < 0 then 4 * f - u else u - 4 * f
theorem mv_in (u w f : Int) (h0 : 0 ≤ u) (h1 : u ≤ 4 * (fl f - 1)) : 0 ≤ mv u w f ∧ mv u w f ≤ 4 * (fl f - 1) := by unfold mv; have := fl_lo f; repeat' split <;> omega
end Go.Proofs.Ytpacieocmogjeaa.Mo
namespace Go.Proofs.Ytpacieocmogjeaa.Mo
set_option linter.unusedVariables false
set_option linter.unusedSimpArgs false
open Go.RowKit Go.Proofs.Ytpacieocmogjeaa.Ba
theorem floorsT (n : Int) (w : World) : Calls Try.prog 30 #[.int .i64 n] w fun e w' => e = .returned (.int .i64 (fl n)) ∧ w = w' := by
  by_cases h0 : n < 2
  · go_enter Try.func30, Try.ntmps30
    go_wp2
    go_ret
    exact ⟨ret_int (by unfold fl; repeat' split <;> omega), rfl⟩
  · by_cases h1 : 64 < n
    · go_enter Try.func30, Try.ntmps30
      go_wp2
      go_ret
      exact ⟨ret_int (by unfold fl; repeat' split <;> omega), rfl⟩
    · go_enter Try.func30, Try.ntmps30
      go_wp2
      go_ret
      exact ⟨ret_int (by unfold fl; repeat' split <;> omega), rfl⟩
theorem placeT (n : Int) (h0 : -1099511627776 ≤ n) (h1 : n ≤ 1099511627776) (w : World) : Calls Try.prog 52 #[.int .i64 n] w fun e w' => e = .returned (.int .i64 (4 * n)) ∧ w = w' := by
  go_enter Try.func52, Try.ntmps52
  go_wp2
  go_ret
  exact ⟨rfl, rfl⟩
theorem ret_lv {a : Int} {b : Bool} {u : Int} (h : b = lvB u) (k : a = lvN u) : Ending.returned (.tuple #[.int .i64 a, .bool b]) = .returned (.tuple #[.int .i64 (lvN u), .bool (lvB u)]) := by rw [h, k]
theorem levelT (u : Int) (w : World) : Calls Try.prog 68 #[.int .i64 u] w fun e w' => e = .returned (.tuple #[.int .i64 (lvN u), .bool (lvB u)]) ∧ w = w' := by
  by_cases h0 : u < 0
  · have hB : lvB u = false := by unfold lvB; simp; omega
    have hN : lvN u = 0 := by unfold lvN; rw [hB]; simp
    have HB := Lib.hid hB
    have HN := Lib.hid hN
    clear hB hN
    go_enter Try.func68, Try.ntmps68
    go_wp2_with (first | (go_at_call 52; refine (placeT _ (by omega) (by omega) _).mono ?_; rintro e w' ⟨rfl, rfl⟩))
    go_ret2
    exact ⟨ret_lv HB.out.symm HN.out.symm, rfl⟩
  · by_cases h1 : 252 < u
    · have hB : lvB u = false := by unfold lvB; simp; omega
      have hN : lvN u = 0 := by unfold lvN; rw [hB]; simp
      have HB := Lib.hid hB
      have HN := Lib.hid hN
      clear hB hN
      go_enter Try.func68, Try.ntmps68
      go_wp2_with (first | (go_at_call 52; refine (placeT _ (by omega) (by omega) _).mono ?_; rintro e w' ⟨rfl, rfl⟩))
      go_ret2
      exact ⟨ret_lv HB.out.symm HN.out.symm, rfl⟩
    · by_cases h2 : u % 4 = 0
      · have hB : lvB u = true := by unfold lvB; simp; omega
        have hN : lvN u = u / 4 := by unfold lvN; rw [hB]; simp
        have HB := Lib.hid hB
        have HN := Lib.hid hN
        clear hB hN
        have h2' : (u % 4 != 0) = false := by simp [h2]
        clear h2
        go_enter Try.func68, Try.ntmps68
        go_wp2_with (first | (go_at_call 52; refine (placeT _ (by omega) (by omega) _).mono ?_; rintro e w' ⟨rfl, rfl⟩))
        go_ret2
        exact ⟨ret_lv HB.out.symm HN.out.symm, rfl⟩
      · have hB : lvB u = false := by unfold lvB; simp; omega
        have hN : lvN u = 0 := by unfold lvN; rw [hB]; simp
        have HB := Lib.hid hB
        have HN := Lib.hid hN
        clear hB hN
        have h2' : (u % 4 != 0) = true := by simp [h2]
        go_enter Try.func68, Try.ntmps68
        go_wp2_with (first | (go_at_call 52; refine (placeT _ (by omega) (by omega) _).mono ?_; rintro e w' ⟨rfl, rfl⟩))
        go_ret2
        exact ⟨ret_lv HB.out.symm HN.out.symm, rfl⟩
theorem moveT (u way f : Int) (h0 : -9223372036854775808 ≤ u) (h1 : u ≤ 9223372036854775807) (w : World) : Calls Try.prog 90 #[.int .i64 u, .int .i64 way, .int .i64 f] w fun e w' => e = .returned (.int .i64 (mv u way f)) ∧ w = w' := by
  have f1 := fl_lo f
  have f2 := fl_hi f
  go_enter Try.func90, Try.ntmps90
  go_wp2_with (first | (go_at_call 52; refine (placeT _ (by omega) (by omega) _).mono ?_; rintro e w' ⟨rfl, rfl⟩) | (go_at_call 30; refine (floorsT _ _).mono ?_; rintro e w' ⟨rfl, rfl⟩))
  all_goals
    go_ret
    exact ⟨ret_int (by unfold mv; (try simp at *); repeat' split <;> omega), rfl⟩
theorem towardT (u f : Int) (h0 : -1099511627776 ≤ f) (h1 : f ≤ 1099511627776) (w : World) : Calls Try.prog 78 #[.int .i64 u, .int .i64 f] w fun e w' => e = .returned (.int .i64 (tw u f)) ∧ w = w' := by
  go_enter Try.func78, Try.ntmps78
  go_wp2_with (first | (go_at_call 52; refine (placeT _ (by omega) (by omega) _).mono ?_; rintro e w' ⟨rfl, rfl⟩))
  all_goals
    go_ret
    exact ⟨ret_int (by unfold tw; repeat' split <;> omega), rfl⟩
theorem farT (u f : Int) (h0 : -1099511627776 ≤ f) (h1 : f ≤ 1099511627776) (h2 : -1099511627776 ≤ u) (h3 : u ≤ 1099511627776) (w : World) : Calls Try.prog 27 #[.int .i64 u, .int .i64 f] w fun e w' => e = .returned (.int .i64 (fr u f)) ∧ w = w' := by
  by_cases hl : u - 4 * f < 4 * f - u
  · go_enter Try.func27, Try.ntmps27
    go_wp2_with (first | (go_at_call 52; refine (placeT _ (by omega) (by omega) _).mono ?_; rintro e w' ⟨rfl, rfl⟩))
    go_ret
    exact ⟨ret_int (by unfold fr; split <;> omega), rfl⟩
  · go_enter Try.func27, Try.ntmps27
    go_wp2_with (first | (go_at_call 52; refine (placeT _ (by omega) (by omega) _).mono ?_; rintro e w' ⟨rfl, rfl⟩))
    go_ret
    exact ⟨ret_int (by unfold fr; split <;> omega), rfl⟩
end Go.Proofs.Ytpacieocmogjeaa.Mo
namespace Go.Proofs.Ytpacieocmogjeaa.Pl
set_option linter.unusedVariables false
set_option linter.unusedSimpArgs false
open Go.Proofs.Ytpacieocmogjeaa.Do Go.Proofs.Ytpacieocmogjeaa.Mo Go.Proofs.Ytpacieocmogjeaa.Ty
/-- The door's state, as it is told. -/
def toldS (ds un : Int) (o k : Bool) : Int := if o = true ∧ lvB un = true then oS ds else if k = true then cS ds else ds
/-- The door's state ahead of its tick; behind it; its place. -/
def dS0 (x : CarV) (o k : Bool) : Int := if x.br = true then x.ds else toldS x.ds x.un o k
def dS1 (c : CfgV) (x : CarV) (o k : Bool) : Int := tS (dS0 x o k) x.da c.dr x.bl
def dA1 (c : CfgV) (x : CarV) (o k : Bool) : Int := tA (dS0 x o k) x.da c.dr x.bl
/-- Does it move? -/
def goesB (c : CfgV) (x : CarV) (r : Int) (o k : Bool) : Bool := decide (x.br = false ∧ x.ds = 0 ∧ dS1 c x o k = 0 ∧ (r = 1 ∨ r = 2))
def wy1 (c : CfgV) (x : CarV) (r : Int) (o k : Bool) : Int := if goesB c x r o k = true then r else x.wy
def un1 (c : CfgV) (x : CarV) (r : Int) (o k : Bool) : Int := if goesB c x r o k = true then mv x.un r c.fl else x.un
def stepV (c : CfgV) (x : CarV) (r : Int) (o k : Bool) : CarV := { x with ds := dS1 c x o k, da := dA1 c x o k, wy := wy1 c x r o k, un := un1 c x r o k }
def goodB (c : CfgV) (x : CarV) : Bool := decide (gd x.ds x.da c.dr = true ∧ 0 ≤ x.un ∧ x.un ≤ 4 * (fl c.fl - 1) ∧ (x.wy = 0 ∨ x.wy = 1 ∨ x.wy = 2) ∧ (x.ds = 0 ∨ lvB x.un = true))
theorem goodB_iff (c : CfgV) (x : CarV) : goodB c x = true ↔ (gd x.ds x.da c.dr = true ∧ 0 ≤ x.un ∧ x.un ≤ 4 * (fl c.fl - 1) ∧ (x.wy = 0 ∨ x.wy = 1 ∨ x.wy = 2) ∧ (x.ds = 0 ∨ lvB x.un = true)) := by unfold goodB; simp
theorem gd_told (ds da t un : Int) (o k : Bool) (h : gd ds da t = true) : gd (toldS ds un o k) da t = true := by
  unfold toldS
  split
  · exact gd_open _ _ _ h
  · split
    · exact gd_close _ _ _ h
    · exact h
theorem gd_0 (x : CarV) (t : Int) (o k : Bool) (h : gd x.ds x.da t = true) : gd (dS0 x o k) x.da t = true := by
  unfold dS0; split
  · exact h
  · exact gd_told _ _ _ _ _ _ h
/-- From a closed door, told to open away from a floor, it stays closed. -/
theorem stays_shut (c : CfgV) (x : CarV) (o k : Bool) (h : gd x.ds x.da c.dr = true) (h0 : x.ds = 0) (hl : lvB x.un = false) : dS1 c x o k = 0 := by
  have : dS0 x o k = 0 := by
    unfold dS0 toldS cS
    rw [hl, h0]; simp
  unfold dS1; rw [this]; unfold tS; simp
theorem good_step (c : CfgV) (x : CarV) (r : Int) (o k : Bool) (h : goodB c x = true) : goodB c (stepV c x r o k) = true := by
  rw [goodB_iff] at h ⊢
  obtain ⟨h1, h2, h3, h4, h5⟩ := h
  have g1 : gd (dS1 c x o k) (dA1 c x o k) c.dr = true := gd_tick _ _ _ _ (gd_0 x _ o k h1)
  refine ⟨g1, ?_, ?_, ?_, ?_⟩
  · show 0 ≤ un1 c x r o k
    unfold un1; split
    · exact (mv_in _ _ _ h2 h3).1
    · exact h2
  · show un1 c x r o k ≤ _
    unfold un1; split
    · exact (mv_in _ _ _ h2 h3).2
    · exact h3
  · show wy1 c x r o k = 0 ∨ wy1 c x r o k = 1 ∨ wy1 c x r o k = 2
    unfold wy1; split
    · rename_i hg; unfold goesB at hg; simp at hg; omega
    · exact h4
  · show dS1 c x o k = 0 ∨ lvB (un1 c x r o k) = true
    by_cases hg : goesB c x r o k = true
    · left; unfold goesB at hg; simp at hg; exact hg.2.2.1
    · have e : un1 c x r o k = x.un := by unfold un1; rw [if_neg hg]
      rw [e]
      rcases h5 with h5 | h5
      · by_cases hl : lvB x.un = true
        · exact .inr hl
        · exact .inl (stays_shut c x o k h1 h5 (by simpa using hl))
      · exact .inr h5
theorem good_bd (c : CfgV) (x : CarV) (h : goodB c x = true) : 0 ≤ x.da ∧ x.da ≤ 1000 ∧ 0 ≤ x.un ∧ x.un ≤ 252 := by
  rw [goodB_iff] at h
  have := gd_bd _ _ _ h.1
  have := fl_hi c.fl
  omega
end Go.Proofs.Ytpacieocmogjeaa.Pl
namespace Go.Proofs.Ytpacieocmogjeaa.Pl
set_option linter.unusedVariables false
set_option linter.unusedSimpArgs false
open Go.RowKit Go.Proofs.Ytpacieocmogjeaa.Ba Go.Proofs.Ytpacieocmogjeaa.Do Go.Proofs.Ytpacieocmogjeaa.Mo Go.Proofs.Ytpacieocmogjeaa.Ty
set_option maxRecDepth 100000
theorem newT (w : World) : Calls Try.prog 35 #[] w fun e w' => e = .returned (.agg #[.int .i64 0, .int .i64 0, .int .i64 0, .int .i64 0, .int .i64 0, .int .i64 (-1), .int .i64 0, .bool false, .bool false, .int .i64 0, .int .i64 0, .bool false, .int .u64 0, .int .u64 0, .int .u64 0]) ∧ Since w w' := by
  go_enter Try.func35, Try.ntmps35
  go_wp2
  exact bodyPost_ret (v := .agg #[.int .i64 0, .int .i64 0, .int .i64 0, .int .i64 0, .int .i64 0, .int .i64 (-1), .int .i64 0, .bool false, .bool false, .int .i64 0, .int .i64 0, .bool false, .int .u64 0, .int .u64 0, .int .u64 0]) (by simp [results, Try.results35, go_sem]) rfl ⟨rfl, (by repeat (first | exact Since.refl _ | assumption | refine Since.setCell ?_ (by first | (simp; done) | (simp; omega)) _ | refine Since.drew ?_ | refine Since.drewN ?_ _ | refine Since.alloc ?_ _ | refine Since.trans ?_ (by assumption) | refine Since.trans ?_ (Hid.out (by assumption))))⟩
theorem closedT (x : CarV) (w : World) : Calls Try.prog 87 #[.agg #[.int .i64 x.ds, .int .i64 x.da, .int .i64 x.un, .int .i64 x.wy, .int .i64 x.ti, .int .i64 x.ju, .int .i64 x.lo, .bool x.bl, .bool x.br, .int .i64 x.mo, .int .i64 x.ta, .bool x.ho, .int .u64 x.sp, .int .u64 x.su, .int .u64 x.sd]] w fun e w' => e = .returned (.bool (x.ds == 0)) ∧ Since w w' := by
  go_enter Try.func87, Try.ntmps87
  go_wp2
  go_ret
  exact ⟨rfl, (by repeat (first | exact Since.refl _ | assumption | refine Since.setCell ?_ (by first | (simp; done) | (simp; omega)) _ | refine Since.drew ?_ | refine Since.drewN ?_ _ | refine Since.alloc ?_ _ | refine Since.trans ?_ (by assumption) | refine Since.trans ?_ (Hid.out (by assumption))))⟩
theorem atFloorT (x : CarV) (w : World) : Calls Try.prog 96 #[.agg #[.int .i64 x.ds, .int .i64 x.da, .int .i64 x.un, .int .i64 x.wy, .int .i64 x.ti, .int .i64 x.ju, .int .i64 x.lo, .bool x.bl, .bool x.br, .int .i64 x.mo, .int .i64 x.ta, .bool x.ho, .int .u64 x.sp, .int .u64 x.su, .int .u64 x.sd]] w fun e w' => e = .returned (.bool (lvB x.un)) ∧ Since w w' := by
  go_enter Try.func96, Try.ntmps96
  go_wp2_with (first | (go_at_call 68; refine (levelT _ _).mono ?_; rintro e w' ⟨rfl, rfl⟩))
  go_ret
  exact ⟨rfl, (by repeat (first | exact Since.refl _ | assumption | refine Since.setCell ?_ (by first | (simp; done) | (simp; omega)) _ | refine Since.drew ?_ | refine Since.drewN ?_ _ | refine Since.alloc ?_ _ | refine Since.trans ?_ (by assumption) | refine Since.trans ?_ (Hid.out (by assumption))))⟩
theorem toldT (x : CarV) (r : Int) (o k : Bool) (w : World) : Calls Try.prog 88 #[.agg #[.int .i64 x.ds, .int .i64 x.da, .int .i64 x.un, .int .i64 x.wy, .int .i64 x.ti, .int .i64 x.ju, .int .i64 x.lo, .bool x.bl, .bool x.br, .int .i64 x.mo, .int .i64 x.ta, .bool x.ho, .int .u64 x.sp, .int .u64 x.su, .int .u64 x.sd], .agg #[.int .i64 r, .bool o, .bool k]] w fun e w' => e = .returned (.agg #[.int .i64 (toldS x.ds x.un o k), .int .i64 x.da]) ∧ Since w w' := by
  cases o
  · cases k
    · have HT := Lib.hid (show toldS x.ds x.un false false = x.ds by unfold toldS; simp)
      go_enter Try.func88, Try.ntmps88
      go_wp2
      exact bodyPost_ret (v := .agg #[.int .i64 x.ds, .int .i64 x.da]) (by simp [results, Try.results88, go_sem]) rfl ⟨by rw [HT.out], (by repeat (first | exact Since.refl _ | assumption | refine Since.setCell ?_ (by first | (simp; done) | (simp; omega)) _ | refine Since.drew ?_ | refine Since.drewN ?_ _ | refine Since.alloc ?_ _ | refine Since.trans ?_ (by assumption) | refine Since.trans ?_ (Hid.out (by assumption))))⟩
    · have HT := Lib.hid (show toldS x.ds x.un false true = cS x.ds by unfold toldS; simp)
      go_enter Try.func88, Try.ntmps88
      go_wp2_with (first | (go_at_call 98; refine (closeD _ _ _).mono ?_; rintro e w1 ⟨rfl, hb1⟩; have hq0 : w.heap.size < w1.heap.size := (by have := hb1.size; (try simp at this); omega); have hq2 : w.heap.size + 2 < w1.heap.size := (by have := hb1.size; (try simp at this); omega); obtain ⟨hc1, hf1⟩ := hb1.cf))
      exact bodyPost_ret (v := .agg #[.int .i64 (cS x.ds), .int .i64 x.da]) (by simp [results, Try.results88, go_sem, hc1]) rfl ⟨by rw [HT.out], (by repeat (first | exact Since.refl _ | assumption | refine Since.setCell ?_ (by first | (simp; done) | (simp; omega)) _ | refine Since.drew ?_ | refine Since.drewN ?_ _ | refine Since.alloc ?_ _ | refine Since.trans ?_ (by assumption) | refine Since.trans ?_ (Hid.out (by assumption))))⟩
  · cases hl : lvB x.un
    · cases k
      · have HT := Lib.hid (show toldS x.ds x.un true false = x.ds by unfold toldS; simp [hl])
        go_enter Try.func88, Try.ntmps88
        go_wp2_with (first | (go_at_call 96; refine (atFloorT _ _).mono ?_; rintro e w1 ⟨rfl, hb1⟩; have hq0 : w.heap.size < w1.heap.size := (by have := hb1.size; (try simp at this); omega); have hq1 : w.heap.size + 1 < w1.heap.size := (by have := hb1.size; (try simp at this); omega); have hq2 : w.heap.size + 2 < w1.heap.size := (by have := hb1.size; (try simp at this); omega); obtain ⟨hc1, hf1⟩ := hb1.cf))
        exact bodyPost_ret (v := .agg #[.int .i64 x.ds, .int .i64 x.da]) (by simp [results, Try.results88, go_sem, hc1]) rfl ⟨by rw [HT.out], (by repeat (first | exact Since.refl _ | assumption | refine Since.setCell ?_ (by first | (simp; done) | (simp; omega)) _ | refine Since.drew ?_ | refine Since.drewN ?_ _ | refine Since.alloc ?_ _ | refine Since.trans ?_ (by assumption) | refine Since.trans ?_ (Hid.out (by assumption))))⟩
      · have HT := Lib.hid (show toldS x.ds x.un true true = cS x.ds by unfold toldS; simp [hl])
        go_enter Try.func88, Try.ntmps88
        go_wp2_with (first | (go_at_call 96; refine (atFloorT _ _).mono ?_; rintro e w1 ⟨rfl, hb1⟩; have hq0 : w.heap.size < w1.heap.size := (by have := hb1.size; (try simp at this); omega); have hq1 : w.heap.size + 1 < w1.heap.size := (by have := hb1.size; (try simp at this); omega); have hq2 : w.heap.size + 2 < w1.heap.size := (by have := hb1.size; (try simp at this); omega); obtain ⟨hc1, hf1⟩ := hb1.cf) | (go_at_call 98; refine (closeD _ _ _).mono ?_; rintro e w2 ⟨rfl, hb2⟩; have hq0 : w.heap.size < w2.heap.size := (by have := hb2.size; (try simp at this); omega); have hq2 : w.heap.size + 2 < w2.heap.size := (by have := hb2.size; (try simp at this); omega); obtain ⟨hc2, hf2⟩ := hb2.cf))
        exact bodyPost_ret (v := .agg #[.int .i64 (cS x.ds), .int .i64 x.da]) (by simp [results, Try.results88, go_sem, *]) rfl ⟨by rw [HT.out], (by repeat (first | exact Since.refl _ | assumption | refine Since.setCell ?_ (by first | (simp; done) | (simp; omega)) _ | refine Since.drew ?_ | refine Since.drewN ?_ _ | refine Since.alloc ?_ _ | refine Since.trans ?_ (by assumption) | refine Since.trans ?_ (Hid.out (by assumption))))⟩
    · have HT := Lib.hid (show toldS x.ds x.un true k = oS x.ds by unfold toldS; simp [hl])
      go_enter Try.func88, Try.ntmps88
      go_wp2_with (first | (go_at_call 96; refine (atFloorT _ _).mono ?_; rintro e w1 ⟨rfl, hb1⟩; have hq0 : w.heap.size < w1.heap.size := (by have := hb1.size; (try simp at this); omega); have hq1 : w.heap.size + 1 < w1.heap.size := (by have := hb1.size; (try simp at this); omega); have hq2 : w.heap.size + 2 < w1.heap.size := (by have := hb1.size; (try simp at this); omega); obtain ⟨hc1, hf1⟩ := hb1.cf) | (go_at_call 97; refine (openD _ _ _).mono ?_; rintro e w2 ⟨rfl, hb2⟩; have hq0 : w.heap.size < w2.heap.size := (by have := hb2.size; (try simp at this); omega); have hq2 : w.heap.size + 2 < w2.heap.size := (by have := hb2.size; (try simp at this); omega); obtain ⟨hc2, hf2⟩ := hb2.cf))
      exact bodyPost_ret (v := .agg #[.int .i64 (oS x.ds), .int .i64 x.da]) (by simp [results, Try.results88, go_sem, *]) rfl ⟨by rw [HT.out], (by repeat (first | exact Since.refl _ | assumption | refine Since.setCell ?_ (by first | (simp; done) | (simp; omega)) _ | refine Since.drew ?_ | refine Since.drewN ?_ _ | refine Since.alloc ?_ _ | refine Since.trans ?_ (by assumption) | refine Since.trans ?_ (Hid.out (by assumption))))⟩
end Go.Proofs.Ytpacieocmogjeaa.Pl
namespace Go.Proofs.Ytpacieocmogjeaa.Ba
set_option linter.unusedVariables false
set_option linter.unusedSimpArgs false
open Go.RowKit
theorem set_two_ne {W : World} {b i : Nat} {x : Value} (u v : Value) (hi : 2 ≤ i) (h : W.cell? ⟨b, i, none⟩ = some x) : ((W.setCell ⟨b, 0, none⟩ u).setCell ⟨b, 1, none⟩ v).cell? ⟨b, i, none⟩ = some x := by
  rw [set_ne _ (by omega), set_ne _ (by omega)]; exact h
theorem set_two_far {W : World} {b c i : Nat} {x : Value} (u v : Value) (hb : b ≠ c) (h : W.cell? ⟨c, i, none⟩ = some x) : ((W.setCell ⟨b, 0, none⟩ u).setCell ⟨b, 1, none⟩ v).cell? ⟨c, i, none⟩ = some x := by
  rw [set_far _ hb, set_far _ hb]; exact h
end Go.Proofs.Ytpacieocmogjeaa.Ba
namespace Go.Proofs.Ytpacieocmogjeaa.Pl
set_option linter.unusedVariables false
set_option linter.unusedSimpArgs false
open Go.RowKit Go.Proofs.Ytpacieocmogjeaa.Ba Go.Proofs.Ytpacieocmogjeaa.Do Go.Proofs.Ytpacieocmogjeaa.Mo Go.Proofs.Ytpacieocmogjeaa.Ty
theorem closedK (ds da un wy ti ju lo : Int) (bl br : Bool) (mo ta : Int) (ho : Bool) (sp su sd : Int) (w : World) : Calls Try.prog 87 #[.agg #[.int .i64 ds, .int .i64 da, .int .i64 un, .int .i64 wy, .int .i64 ti, .int .i64 ju, .int .i64 lo, .bool bl, .bool br, .int .i64 mo, .int .i64 ta, .bool ho, .int .u64 sp, .int .u64 su, .int .u64 sd]] w fun e w' => e = .returned (.bool (ds == 0)) ∧ Since w w' := closedT ⟨ds, da, un, wy, ti, ju, lo, bl, br, mo, ta, ho, sp, su, sd⟩ w
end Go.Proofs.Ytpacieocmogjeaa.Pl
