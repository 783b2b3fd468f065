/-
  Rows of the call's own beside whole blocks: kept over new memory, made, appended to, with the world behind it named.
  No condition.
-/
import Derived.Test.YtlihhjcneedgnaaStp
import Derived.Test.YtlihhjcneedgnaaExt
import Derived.Test.YtlihhjcneedgnaaByt
namespace Go.Proofs.Ytlihhjcneedgnaa.Ba
set_option linter.unusedVariables false
set_option linter.unusedSimpArgs false
open Go.RowKit Go.Proofs.Ytlihhjcneedgnaa.Mem
open Go.Proofs.Ytlihhjcneedgnaa.Byt (BV isB cells)
theorem u8_mod (x : Int) : IntKind.u8.wrap (x % 256) = x % 256 := by
  simp only [IntKind.wrap, IntKind.bits, IntKind.signed]; simp
theorem since_below {W w w' : World} {B : Nat} (h : Since W w) (k : Below B w w') (hB : W.heap.size ≤ B) : Since W w' := Below.trans (show Below W.heap.size W w from h) (k.mono hB)
theorem keep_own {w w' : World} {base : Nat} {e : TypeId} {size n : Nat} {v : Value} {xs : List Value} (k : Since w w') (h : w.ownsRow base e size v n xs) : w'.ownsRow base e size v n xs := Byt.own_below h k
theorem keep_bv {w w' : World} {a : Option Addr} {n : Nat} {zs : List Int} (k : Since w w') (h : BV w a n zs) : BV w' a n zs := h.below k
theorem own_new {w : World} {g base n : Nat} {t : TypeId} {cs : List Value} (h : Blk w g t cs.toArray) (hb : base ≤ g) (hl : cs.length = n) (hn : n ≤ 1000000) : w.ownsRow base t 1 (.slice (some ⟨g, 0, none⟩) n n) n cs :=
  ⟨by simp [hl], .inr ⟨g, n, cs.toArray, rfl, hb, h, Nat.le_refl _, by unfold maxLen; omega, by simp [hl], by simp [← hl]⟩⟩
theorem bv_blk {w : World} {g n : Nat} {t : TypeId} {zs : List Int} (h : Blk w g t (cells zs).toArray) (hl : zs.length = n) (hn : n ≤ 1000000) (hB : ∀ z ∈ zs, isB z) : BV w (some ⟨g, 0, none⟩) n zs := by
  refine ⟨hl, by omega, hB, .inr ⟨g, 0, rfl, h.lt, fun j hj => ?_⟩⟩
  rw [h.cell, Nat.zero_add]
  simpa using Byt.cells_at zs j (by omega)
theorem bv_own {w : World} {base n c : Nat} {e : TypeId} {A : Option Addr} {zs : List Int} (h : w.ownsRow base e 1 (.slice A n c) n (cells zs)) (hB : ∀ z ∈ zs, isB z) : BV w A n zs := BV.of_own h hB
theorem own_len {w : World} {base n c : Nat} {e : TypeId} {A : Option Addr} {zs : List Int} (h : w.ownsRow base e 1 (.slice A n c) n (cells zs)) : zs.length = n := by have := h.1; simpa [cells] using this
theorem own_cap {w : World} {base n c : Nat} {e : TypeId} {A : Option Addr} {xs : List Value} (h : w.ownsRow base e 1 (.slice A n c) n xs) : n ≤ c := by
  rcases h.2 with ⟨hv, hn⟩ | ⟨g, cap, cur, hv, _, _, hc, _⟩
  · simp at hv; omega
  · simp at hv; omega
/-- Nothing changed below a block, nor any block of another type. -/
def Grw (e : TypeId) (B : Nat) (w w' : World) : Prop := Below B w w' ∧ ∀ g t cs, Blk w g t cs → t ≠ e → Blk w' g t cs
theorem Grw.refl (e : TypeId) (B : Nat) (w : World) : Grw e B w w := ⟨Below.refl _ _, fun _ _ _ h _ => h⟩
theorem Grw.trans {e : TypeId} {B : Nat} {a b c : World} (h : Grw e B a b) (k : Grw e B b c) : Grw e B a c := ⟨Below.trans h.1 k.1, fun g t cs hb ht => k.2 g t cs (h.2 g t cs hb ht) ht⟩
theorem Grw.since {e : TypeId} {B : Nat} {a b c : World} (h : Grw e B a b) (k : Since b c) (hB : B ≤ b.heap.size) : Grw e B a c := ⟨Below.trans h.1 (Below.mono k hB), fun g t cs hb ht => keep_blk k (h.2 g t cs hb ht)⟩
theorem Grw.blk {e : TypeId} {B : Nat} {w w' : World} {g : Nat} {t : TypeId} {cs : Array Value} (h : Grw e B w w') (hb : Blk w g t cs) (ht : t ≠ e) : Blk w' g t cs := h.2 g t cs hb ht
theorem keep_low {w w' : World} {B : Nat} {a : Option Addr} {n : Nat} {xs : List Value} (k : Below B w w') (h : Reads w B 1 a n xs) : Reads w' B 1 a n xs := h.below k
section
variable {P : Program} {o : Oper} {a : Act} {w : World} {K : Act → World → Prop} {Q : Exit → Act → World → Prop}
/-- A step that yields. -/
theorem wp_q (v : Value) (he : (execOp a.eval o).run P w = .ok (.value v) w) (h : K (a.put o.dst v) w) : o.wp P a w K Q := by
  unfold Oper.wp
  rw [he]
  exact h
/-- Bytes as a text. -/
theorem exec_str {zs : List Int} {A : Option Addr} {n c : Nat} (src e dst : TypeId) (x : Operand) (h : BV w A n zs) (ho : o.op = .convert src dst x) (hx : a.eval x = .slice A n c)
    (hs : P.underlying src = some (.slice e)) (he : P.underlying e = some (.int .u8)) (hd : P.underlying dst = some .string) : (execOp a.eval o).run P w = .ok (.value (.string (strOfNums zs))) w := by
  unfold execOp
  simp only [ho, hx, Sem.run_bind, Sem.run_pure, BV.str h src e dst hs he hd c, Result.andThen_ok]
/-- Bytes are appended to a row of the call's own. -/
theorem wp_append_bytes (s x : Operand) (t : TypeId) (ho : o.op = .call { callee := .builtin .append, args := #[s, x], argTypes := #[t, t] })
    (base : Nat) (e : TypeId) (ht : P.underlying t = some (.slice e)) (hinf : (P.info? e).map (fun i => (i.zero, i.size, i.bytes)) = some (some (.int .u8 0), 1, 1))
    (v : Value) (n : Nat) (xs : List Int) (hs : a.eval s = v) (hown : w.ownsRow base e 1 v n (cells xs))
    (A : Option Addr) (m c : Nat) (ys : List Int) (hx : a.eval x = .slice A m c) (hy : BV w A m ys) (hnm : n + m ≤ 140737488355328) (hbase : base ≤ w.heap.size)
    (n2 : Nat) (zs : List Int) (hn2 : n + m = n2) (hzs : xs ++ ys = zs)
    (h : ∀ A' c' w', w'.ownsRow base e 1 (.slice A' n2 c') n2 (cells zs) → Grw e base w w' → K (a.put o.dst (.slice A' n2 c')) w') : o.wp P a w K Q := by
  subst hn2 hzs
  obtain ⟨i, hi, hz, h1, h2⟩ := info_parts hinf
  refine wp_append_any w s x t ho base e i _ 1 1 ht hi hz h1 h2 rfl (by omega) v n (cells xs) hs hown w.heap.size A m c (cells ys) hx hy.reads (Byt.cells_one ys) (by unfold maxLen; omega) (by omega) hbase ?_
  intro v' w' hown' hg hat
  obtain ⟨A', c', rfl⟩ := Byt.own_form w' hown'
  exact h A' c' w' (by rw [Byt.cells_append]; exact hown') ⟨(Below.refl _ _).grown hg hbase (Byt.own_block w hown), fun g t cs hb ht => Blk.grown hb hg (fun hk => own_blk_ne hown hb (fun h => ht h.symm) hk.symm)⟩
end
end Go.Proofs.Ytlihhjcneedgnaa.Ba
namespace Go.Proofs.Ytlihhjcneedgnaa.Ba
open Go.RowKit Go.Proofs.Ytlihhjcneedgnaa.Mem
/-- W is w but from block B on, and but for blocks of type e. -/
def From (e : TypeId) (B : Nat) (w W : World) : Prop := Grw e B w W ∧ B ≤ w.heap.size
section
variable {e : TypeId} {B : Nat} {w W W' : World}
theorem From.refl (e : TypeId) (h : B ≤ w.heap.size) : From e B w w := ⟨Grw.refl _ _ _, h⟩
theorem From.size (h : From e B w W) : B ≤ W.heap.size := Nat.le_trans h.2 h.1.1.size
theorem From.trans (h : From e B w W) (k : Since W W') : From e B w W' := ⟨Grw.since h.1 k h.size, h.2⟩
theorem From.grw (h : From e B w W) (k : Grw e B W W') : From e B w W' := ⟨Grw.trans h.1 k, h.2⟩
theorem From.drew (h : From e B w W) : From e B w W.drew := h.trans ((Since.refl W).drew)
end
theorem since_grw {W w w' : World} {e : TypeId} {B : Nat} (h : Since W w) (k : Grw e B w w') (hB : W.heap.size ≤ B) : Since W w' := since_below h k.1 hB
theorem keep_lo {B : Nat} {w w' : World} (k : Since w w') (h : B ≤ w.heap.size) : B ≤ w'.heap.size := Nat.le_trans h k.size
theorem Grw.lo {e : TypeId} {B B' : Nat} {w w' : World} (k : Grw e B w w') (h : B' ≤ w.heap.size) : B' ≤ w'.heap.size := Nat.le_trans h k.1.size
/-- Values laid into a row from a place on. -/
def putAt (cs : Array Value) (o : Nat) : List Value → Array Value
  | [] => cs
  | v :: r => putAt (cs.setIfInBounds o v) (o + 1) r
theorem setCells_row {g : Nat} {t : TypeId} : ∀ (vs : List Value) (o : Nat) (w : World) (cs : Array Value), Blk w g t cs → w.setCells g o vs = w.setRow g (putAt cs o vs)
  | [], _, w, cs, h => (setRow_self w g cs t (0, 0) h).symm
  | v :: r, o, w, cs, h => by
    show (w.setCell ⟨g, o, none⟩ v).setCells g (o + 1) r = _
    rw [setCell_eq_setRow w g o cs t (0, 0) v h, setCells_row r (o + 1) _ _ (Blk.row h _), setRow_setRow]
    rfl
section
variable {P : Program} {o : Oper} {a : Act} {w : World} {K : Act → World → Prop} {Q : Exit → Act → World → Prop}
/-- A part of a block is stored. -/
theorem wp_st_part (ty : TypeId) (x y : Operand) (ho : o.op = .store ty x y) {g i : Nat} {t : TypeId} {cs : Array Value} (cs' cells : Array Value) (hx : a.eval x = .pointer (some ⟨g, i, none⟩)) (hy : a.eval y = .agg cells) (hg : Blk w g t cs)
    (hlt : i + cells.size ≤ cs.size) (hcs : putAt cs i cells.toList = cs') (h1 : cells.all (·.oneCell') = true) (hi : (P.info? ty).map (·.size) = some cells.size) (h : ∀ w', w' = w.setRow g cs' → K (a.put o.dst undef) w') : o.wp P a w K Q := by
  refine wp_store_mid ty x y ho g i cells hx hy (fun j hj => ⟨?_, Blk.frozen hg _⟩) hi h1 (h _ ?_)
  · rw [Blk.cell hg]; simp; omega
  · rw [setCells_row _ _ _ _ hg, hcs]
end
end Go.Proofs.Ytlihhjcneedgnaa.Ba
