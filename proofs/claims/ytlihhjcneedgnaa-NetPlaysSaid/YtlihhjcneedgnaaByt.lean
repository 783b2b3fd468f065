/-
  Slices of bytes that read as a list of numbers: kept over new memory, out of a row of the call's own, cut.
  No condition.
-/
import Derived.Test.YtlihhjcneedgnaaMem
import Derived.OpenShut
import Derived.Laws.BytesArg
import Derived.ChangeKeysEq
namespace Go.Proofs.Ytlihhjcneedgnaa.Byt
set_option linter.unusedVariables false
set_option linter.unusedSimpArgs false
open Go.RowKit
open Go.Proofs.Ytlihhjcneedgnaa.Mem

def isB (x : Int) : Prop := 0 ≤ x ∧ x < 256
def cells (zs : List Int) : List Value := zs.map (Value.int .u8)
theorem cells_append (xs ys : List Int) : cells (xs ++ ys) = cells xs ++ cells ys := List.map_append
theorem cells_one (zs : List Int) : ∀ u ∈ cells zs, u.oneCell' = true := by
  intro u hu
  obtain ⟨z, _, rfl⟩ := List.mem_map.1 hu
  rfl
/-- The slice (address a, n elements) reads as the bytes zs. -/
def BV (w : World) (a : Option Addr) (n : Nat) (zs : List Int) : Prop :=
  zs.length = n ∧ n ≤ 9223372036854775807 ∧ (∀ z ∈ zs, isB z) ∧ (n = 0 ∨ ∃ b off, a = some ⟨b, off, none⟩ ∧ b < w.heap.size ∧ ∀ j, j < n → w.cell? ⟨b, off + j, none⟩ = some (.int .u8 (zs.getD j 0)))
section
variable {w w' : World} {a : Option Addr} {n : Nat} {zs : List Int}
theorem BV.nil (w : World) (a : Option Addr) : BV w a 0 [] := ⟨rfl, by omega, by simp, .inl rfl⟩
theorem BV.below (h : BV w a n zs) (hb : Below w.heap.size w w') : BV w' a n zs := by
  obtain ⟨h1, h2, h3, h4⟩ := h
  refine ⟨h1, h2, h3, ?_⟩
  rcases h4 with h4 | ⟨b, off, e, hlt, hc⟩
  · exact .inl h4
  · exact .inr ⟨b, off, e, Nat.lt_of_lt_of_le hlt hb.size, fun j hj => (hb.cell (p := ⟨b, off + j, none⟩) hlt).trans (hc j hj)⟩
theorem BV.alloc (h : BV w a n zs) (o : Obj) : BV (w.alloc o) a n zs := h.below ((Below.refl _ _).alloc (Nat.le_refl _) _)
theorem BV.drew (h : BV w a n zs) : BV w.drew a n zs := h
theorem BV.drewN (h : BV w a n zs) (k : Nat) : BV (w.drewN k) a n zs := h
theorem BV.addr (h : BV w a n zs) (hn : n ≠ 0) : ∃ b off, a = some ⟨b, off, none⟩ ∧ b < w.heap.size ∧ ∀ j, j < n → w.cell? ⟨b, off + j, none⟩ = some (.int .u8 (zs.getD j 0)) := by
  rcases h.2.2.2 with h0 | h0
  · exact absurd h0 hn
  · exact h0
theorem cells_get (zs : List Int) (j : Nat) (u : Value) (h : (cells zs)[j]? = some u) : j < zs.length ∧ u = .int .u8 (zs.getD j 0) := by
  unfold cells at h
  rw [List.getElem?_map] at h
  cases e : zs[j]? with
  | none => rw [e] at h; cases h
  | some z =>
    rw [e] at h
    obtain ⟨hj, _⟩ := List.getElem?_eq_some_iff.1 e
    refine ⟨hj, ?_⟩
    simp [List.getD, e]
    simpa using h.symm
theorem cells_at (zs : List Int) (j : Nat) (h : j < zs.length) : (cells zs)[j]? = some (.int .u8 (zs.getD j 0)) := by
  unfold cells
  simp [List.getElem?_map, List.getD, h]
theorem BV.reads (h : BV w a n zs) : Reads w w.heap.size 1 a n (cells zs) := by
  obtain ⟨h1, _, _, h4⟩ := h
  refine ⟨by simp [cells, h1], fun hn => ?_⟩
  rcases h4 with h4 | ⟨b, off, e, hlt, hc⟩
  · omega
  · refine ⟨⟨b, off, none⟩, e, hlt, fun j u hu => ?_⟩
    obtain ⟨hj, rfl⟩ := cells_get _ _ _ hu
    rw [Go.WideShapes.add_plain]
    exact hc j (by omega)
theorem BV.of_own {base : Nat} {e : TypeId} {A : Option Addr} {c : Nat} (h : w.ownsRow base e 1 (.slice A n c) n (cells zs)) (hB : ∀ z ∈ zs, isB z) : BV w A n zs := by
  have hl : zs.length = n := by have := h.1; simpa [cells] using this
  rcases Nat.eq_zero_or_pos n with h0 | h0
  · subst h0
    exact ⟨hl, by omega, hB, .inl rfl⟩
  · obtain ⟨g, cap, hv, _, hlt⟩ := h.form h0
    have hA : A = some ⟨g, 0, none⟩ := by injection hv
    subst hA
    have hr := Reads.of_own h
    obtain ⟨ad, e1, hb, hc⟩ := hr.2 h0
    obtain rfl : (⟨g, 0, none⟩ : Addr) = ad := by injection e1
    have hm : n ≤ maxLen := by
      rcases h.2 with ⟨hv', h'⟩ | ⟨_, cap', _, _, _, _, hn, hc', _⟩
      · omega
      · omega
    refine ⟨hl, by unfold maxLen at hm; omega, hB, .inr ⟨g, 0, rfl, hlt, fun j hj => ?_⟩⟩
    have := hc j _ (cells_at zs j (by omega))
    rw [Go.WideShapes.add_plain] at this
    exact this
/-- Out of what the frame tells of a slice that came in. -/
theorem BV.of_row {len cap : Nat} (h : (a = none ∧ len = 0 ∧ cap = 0 ∧ zs = []) ∨
    ∃ x, a = some x ∧ len ≤ cap ∧ cap ≤ maxLen ∧ zs.length = cap ∧ (∀ i, i < zs.length → w.cell? (x.add i) = some (.int .u8 (zs.getD i 0))) ∧ ∀ n ∈ zs, (Lit.int .u8 n).wf = true) : BV w a len (zs.take len) := by
  rcases h with ⟨rfl, rfl, rfl, rfl⟩ | ⟨x, rfl, hlc, hm, hz, hc, hw⟩
  · exact BV.nil _ _
  · have hB : ∀ z ∈ zs, isB z := fun z hz' => by
      have := bounds_u8 (hw z hz')
      unfold isB; omega
    refine ⟨by rw [List.length_take]; omega, by unfold maxLen at hm; omega, fun z hz' => hB z (List.mem_of_mem_take hz'), ?_⟩
    rcases Nat.eq_zero_or_pos len with h0 | h0
    · exact .inl h0
    · obtain ⟨b, off, rfl, hc'⟩ := ints_at hc (by omega)
      refine .inr ⟨b, off, rfl, ?_, fun j hj => ?_⟩
      · have := hc' 0 (by omega)
        exact World.block_lt_of_cell? _ _ this
      · rw [hc' j (by omega)]
        congr 2
        simp [List.getD, List.getElem?_take, hj]
theorem row_cap {len cap : Nat} {k : IntKind} (h : (a = none ∧ len = 0 ∧ cap = 0 ∧ zs = []) ∨
    ∃ x, a = some x ∧ len ≤ cap ∧ cap ≤ maxLen ∧ zs.length = cap ∧ (∀ i, i < zs.length → w.cell? (x.add i) = some (.int k (zs.getD i 0))) ∧ ∀ n ∈ zs, (Lit.int k n).wf = true) : len ≤ cap := by
  rcases h with ⟨_, rfl, rfl, _⟩ | ⟨_, _, h, _⟩
  · exact Nat.le_refl _
  · exact h
theorem BV.cut {k : Nat} (h : BV w a n zs) (hk : k ≤ n) : BV w a k (zs.take k) := by
  obtain ⟨h1, h2, h3, h4⟩ := h
  refine ⟨by rw [List.length_take]; omega, by omega, fun z hz => h3 z (List.mem_of_mem_take hz), ?_⟩
  rcases h4 with h4 | ⟨b, off, e, hlt, hc⟩
  · exact .inl (by omega)
  · refine .inr ⟨b, off, e, hlt, fun j hj => ?_⟩
    rw [hc j (by omega)]
    congr 2
    simp [List.getD, List.getElem?_take, hj]
end
/-- The bytes as a string. -/
theorem BV.str {P : Program} {w : World} {a : Option Addr} {n : Nat} {zs : List Int} (h : BV w a n zs) (src e dst : TypeId) (hs : P.underlying src = some (.slice e)) (he : P.underlying e = some (.int .u8)) (hd : P.underlying dst = some .string) (cap : Nat) :
    (convert src dst (.slice a n cap)).run P w = .ok (.string (strOfNums zs)) w := by
  rcases h.2.2.2 with h0 | ⟨b, off, rfl, _, hc⟩
  · subst h0
    have hz : zs = [] := List.eq_nil_of_length_eq_zero h.1
    subst hz
    rw [run_convert_bytes_string w src dst e _ 0 cap hs he hd]
    cases a <;> simp [Conv.bytesToString, loadCells]
    all_goals rfl
  · exact run_convert_bytes_arg w src e hs he b off n cap zs h.1 hc dst hd
theorem strOfNums_eq {x y : List Int} (hx : ∀ z ∈ x, isB z) (hy : ∀ z ∈ y, isB z) : strOfNums x = strOfNums y ↔ x = y := by
  refine ⟨fun h => ?_, fun h => by rw [h]⟩
  have h1 := congrArg (fun s : ByteArray => s.data.toList) h
  simp only [strOfNums_data] at h1
  have key : ∀ (l m : List Int), (∀ z ∈ l, isB z) → (∀ z ∈ m, isB z) → l.map (fun n => UInt8.ofNat n.toNat) = m.map (fun n => UInt8.ofNat n.toNat) → l = m := by
    intro l
    induction l with
    | nil => intro m _ _ h; cases m with
      | nil => rfl
      | cons _ _ => simp at h
    | cons a l ih => intro m hl hm h; cases m with
      | nil => simp at h
      | cons b m =>
        simp only [List.map_cons, List.cons.injEq] at h
        have ha := hl a (by simp)
        have hb := hm b (by simp)
        have e1 := congrArg UInt8.toNat h.1
        simp only [UInt8.toNat_ofNat'] at e1
        have : a = b := by
          have := ha.1; have := ha.2; have := hb.1; have := hb.2; omega
        rw [this, ih m (fun z hz => hl z (by simp [hz])) (fun z hz => hm z (by simp [hz])) h.2]
  exact key x y hx hy h1
theorem ba_beq (s t : ByteArray) : (s == t) = decide (s = t) := by
  have h1 : (s == t) = (s.data == t.data) := by
    first | rfl | (cases s; cases t; rfl) | (cases s; cases t; simp [BEq.beq])
  rw [h1, Bool.eq_iff_iff, beq_iff_eq, decide_eq_true_iff]
  constructor
  · intro h; cases s; cases t; simp_all
  · intro h; rw [h]
theorem str_ne {x y : List Int} (hx : ∀ z ∈ x, isB z) (hy : ∀ z ∈ y, isB z) : (strOfNums x != strOfNums y) = !decide (y = x) := by
  rw [bne, ba_beq]
  congr 1
  rw [decide_eq_decide, strOfNums_eq hx hy]
  exact eq_comm
/-- Two texts' test, as a walk writes it. -/
theorem str_tl {x y : List Int} (hx : ∀ z ∈ x, isB z) (hy : ∀ z ∈ y, isB z) : ((strOfNums x).toList == (strOfNums y).toList) = decide (y = x) := by
  rw [Bool.eq_iff_iff, beq_iff_eq, decide_eq_true_iff, ByteArray.toList_eq, ByteArray.toList_eq]
  constructor
  · intro h; exact ((strOfNums_eq hx hy).1 (Go.WideShapes.bytes_inj h)).symm
  · intro h; rw [h]
/-- Cut at the front. -/
theorem BV.drop {w : World} {b off n : Nat} {zs : List Int} {k : Nat} (h : BV w (some ⟨b, off, none⟩) n zs) (hk : k ≤ n) : BV w (some ⟨b, off + k, none⟩) (n - k) (zs.drop k) := by
  obtain ⟨h1, h2, h3, h4⟩ := h
  refine ⟨by rw [List.length_drop]; omega, by omega, fun z hz => h3 z (List.mem_of_mem_drop hz), ?_⟩
  rcases h4 with h4 | ⟨b', off', e, hlt, hc⟩
  · exact .inl (by omega)
  · simp only [Option.some.injEq, Addr.mk.injEq, and_true] at e
    obtain ⟨rfl, rfl⟩ := e
    refine .inr ⟨b, off + k, rfl, hlt, fun j hj => ?_⟩
    rw [Nat.add_assoc, hc (k + j) (by omega)]
    congr 2
    simp [List.getD, List.getElem?_drop]
/-- W' is W with new memory at most. -/
def Since (W W' : World) : Prop := Below W.heap.size W W'
theorem Since.refl (W : World) : Since W W := Below.refl _ _
theorem Since.drew (W : World) : Since W W.drew := (Below.refl _ _).drew
theorem Since.trans {a b c : World} (h : Since a b) (k : Below b.heap.size b c) : Since a c := Below.trans (show Below a.heap.size a b from h) (k.mono (show Below a.heap.size a b from h).size)
theorem BV.since {w w' : World} {a : Option Addr} {n : Nat} {zs : List Int} (h : BV w a n zs) (k : Since w w') : BV w' a n zs := h.below k
section
variable {P : Program} (w : World)
/-- A row of the call's own is a slice value; where it lies. -/
theorem own_form {base : Nat} {e : TypeId} {size n : Nat} {v : Value} {xs : List Value} (h : w.ownsRow base e size v n xs) : ∃ A c, v = .slice A n c := by
  rcases h.2 with ⟨rfl, rfl⟩ | ⟨g, cap, _, rfl, _⟩
  · exact ⟨none, 0, rfl⟩
  · exact ⟨_, _, rfl⟩
theorem own_block {base : Nat} {e : TypeId} {size n : Nat} {v : Value} {xs : List Value} (h : w.ownsRow base e size v n xs) : ∀ k, v.ownBlock = some k → base ≤ k := by
  intro k hk
  rcases h.2 with ⟨rfl, _⟩ | ⟨g, cap, _, rfl, hb, _⟩
  · cases hk
  · have : g = k := by simpa [Value.ownBlock] using hk
    omega
/-- A row of the call's own stays over new memory. -/
theorem own_below {w w' : World} {base : Nat} {e : TypeId} {size n : Nat} {v : Value} {xs : List Value} (h : w.ownsRow base e size v n xs) (hb : Below w.heap.size w w') : w'.ownsRow base e size v n xs := by
  refine ⟨h.1, ?_⟩
  rcases h.2 with h0 | ⟨g, cap, cur, hv, hg, hh, h4, h5, h6, h7⟩
  · exact .inl h0
  · have hlt : g < w.heap.size := by
      rcases Nat.lt_or_ge g w.heap.size with hl | hl
      · exact hl
      · rw [Array.getElem?_eq_none hl] at hh; cases hh
    exact .inr ⟨g, cap, cur, hv, hg, (hb.block g hlt).trans hh, h4, h5, h6, h7⟩
theorem own_mono {w : World} {base base' : Nat} {e : TypeId} {size n : Nat} {v : Value} {xs : List Value} (h : w.ownsRow base e size v n xs) (hb : base' ≤ base) : w.ownsRow base' e size v n xs := by
  refine ⟨h.1, ?_⟩
  rcases h.2 with h0 | ⟨g, cap, cur, hv, hg, h3⟩
  · exact .inl h0
  · exact .inr ⟨g, cap, cur, hv, Nat.le_trans hb hg, h3⟩
/-- A row of another element's type stays where one is written. -/
theorem own_other {w w' : World} {base base' : Nat} {e e' : TypeId} {size size' n n' : Nat} {v v' : Value} {xs xs' : List Value} (h : w.ownsRow base e size v n xs) (h' : w.ownsRow base' e' size' v' n' xs') (hne : e ≠ e')
    (hg : w.grownBy w' v'.ownBlock) : w'.ownsRow base e size v n xs := by
  refine h.kept hg ?_
  rcases h.2 with ⟨rfl, _⟩ | ⟨g, cap, cur, rfl, _, hh, _⟩
  · exact .inl rfl
  · right
    intro hc
    rcases h'.2 with ⟨rfl, _⟩ | ⟨g', cap', cur', rfl, _, hh', _⟩
    · cases hc
    · have : g = g' := by simpa [Value.ownBlock] using hc
      subst this
      rw [hh] at hh'
      injection hh' with h1
      injection h1 with _ h2
      exact hne h2
/-- An empty row that a literal has just made. -/
theorem own_empty (e : TypeId) (size : Nat) : (w.alloc (.cells #[] e)).ownsRow w.heap.size e size (.slice (some ⟨w.heap.size, 0, none⟩) 0 0) 0 [] := by
  refine ⟨by simp, .inr ⟨w.heap.size, 0, #[], rfl, Nat.le_refl _, heap_alloc_new w _, by omega, by unfold maxLen; omega, by simp, by simp⟩⟩
theorem made_zero (n : Nat) : (madeCells (Value.int .u8 0).cells (n * 1)).toList = cells (List.replicate n 0) := by
  simp [cells, madeCells, Value.cells]
  apply List.ext_getElem
  · simp
  · intro i h1 h2
    simp [Nat.mod_one]
/-- Bytes appended to a row of the call's own. -/
theorem wpList_append_b {ops : Array Oper} {rest : List Oper} {o : Oper} {a : Act} {Q : Exit → Act → World → Prop} (hgd : o.guard = none) (s x : Operand) (t : TypeId)
    (ho : o.op = .call { callee := .builtin .append, args := #[s, x], argTypes := #[t, t] })
    (base : Nat) (e : TypeId) (ht : P.underlying t = some (.slice e)) (hinf : (P.info? e).map (fun i => (i.zero, i.size, i.bytes)) = some (some (.int .u8 0), 1, 1))
    (v : Value) (n : Nat) (xs : List Int) (hs : a.eval s = v) (hown : w.ownsRow base e 1 v n (cells xs))
    (A : Option Addr) (m c : Nat) (ys : List Int) (hx : a.eval x = .slice A m c) (hy : BV w A m ys) (hnm : n + m ≤ 140737488355328) (hbase : base ≤ w.heap.size)
    (h : ∀ A' c' w', w'.ownsRow base e 1 (.slice A' (n + m) c') (n + m) (cells (xs ++ ys)) → w.grownBy w' v.ownBlock → Below base w w' → wpList P ops Q rest (a.put o.dst (.slice A' (n + m) c')) w') : wpList P ops Q (o :: rest) a w := by
  obtain ⟨i, hi, hz, h1, h2⟩ := info_parts hinf
  refine wpList_append_any w hgd s x t ho base e i _ 1 1 ht hi hz h1 h2 rfl (by omega) v n (cells xs) hs hown w.heap.size A m c (cells ys) hx hy.reads (cells_one ys) (by unfold maxLen; omega) (by omega) hbase ?_
  intro v' w' hown' hg hat
  obtain ⟨A', c', rfl⟩ := own_form w' hown'
  exact h A' c' w' (by rw [cells_append]; exact hown') hg ((Below.refl _ _).grown hg hbase (own_block w hown))
/-- One value, laid in a block of its own just ahead, appended to a row of the call's own. -/
theorem wpList_append_1 {W0 : World} {ops : Array Oper} {rest : List Oper} {o : Oper} {a : Act} {Q : Exit → Act → World → Prop} (hgd : o.guard = none) (s x : Operand) (t : TypeId)
    (ho : o.op = .call { callee := .builtin .append, args := #[s, x], argTypes := #[t, t] })
    (base : Nat) (e : TypeId) (z : Value) (bytes : Nat) (ht : P.underlying t = some (.slice e)) (hinf : (P.info? e).map (fun i => (i.zero, i.size, i.bytes)) = some (some z, 1, bytes)) (hzs : z.cells.size = 1)
    (v : Value) (n : Nat) (xs : List Value) (hs : a.eval s = v) (hown : W0.ownsRow base e 1 v n xs)
    (u : Value) (hu : u.oneCell' = true) (hx : a.eval x = .slice (some ⟨W0.heap.size, 0, none⟩) 1 1) (h63 : n + 1 ≤ maxLen) (hbytes : (n + 1) * bytes ≤ 140737488355328) (hbase : base ≤ W0.heap.size)
    (h : ∀ v' w', w'.ownsRow base e 1 v' (n + 1) (xs ++ [u]) → (W0.alloc (.cells #[u] e)).grownBy w' v.ownBlock → Below base (W0.alloc (.cells #[u] e)) w' → wpList P ops Q rest (a.put o.dst v') w') :
    wpList P ops Q (o :: rest) a (W0.alloc (.cells #[u] e)) := by
  obtain ⟨i, hi, hz, h1, h2⟩ := info_parts hinf
  have hr : Reads (W0.alloc (.cells #[u] e)) (W0.alloc (.cells #[u] e)).heap.size 1 (some ⟨W0.heap.size, 0, none⟩) 1 [u] := by
    refine ⟨rfl, fun _ => ⟨_, rfl, by simp, fun j y hj => ?_⟩⟩
    have hj0 : j = 0 := by
      rcases Nat.eq_zero_or_pos j with h0 | h0
      · exact h0
      · rw [List.getElem?_eq_none (by simp; omega)] at hj; cases hj
    subst hj0
    rw [Go.WideShapes.add_plain, cell_of_row (W0.alloc (.cells #[u] e)) W0.heap.size (0 + 0) _ _ _ (heap_alloc_new W0 _)]
    simpa using hj
  refine wpList_append_any (W0.alloc (.cells #[u] e)) hgd s x t ho base e i _ 1 bytes ht hi hz h1 h2 hzs (by omega) v n xs hs (hown.alloc _) _ _ 1 1 [u] hx hr (by intro y hy; simp at hy; subst hy; exact hu) h63 hbytes (by simp; omega) ?_
  intro v' w' hown' hg hat
  exact h v' w' hown' hg ((Below.refl _ _).grown hg (by simp; omega) (own_block W0 hown))
end
end Go.Proofs.Ytlihhjcneedgnaa.Byt
