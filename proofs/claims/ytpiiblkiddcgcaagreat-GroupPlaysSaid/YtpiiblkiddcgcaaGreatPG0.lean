/-
  Wanted: part 0.
  No condition.
-/
import Derived.WalkKit
import Derived.WalkLawsBesides
import Derived.IntWalk
import Derived.Below
import Derived.Lib.Hide
import Derived.Outline
import Derived.BigQuiet
import Derived.Deep.QuietTactic
import Derived.Deep.RegionHeld3
import Derived.OpenShut
import Derived.Deep.DeepCutAuto
import Derived.Laws.OwnMore
import Derived.Deep.AppendLies
import Derived.Deep.Draws
import Derived.Laws.Rows
import Derived.Maps.AppendAt
import Derived.RegionTactic
import Derived.OwnWalk
import Derived.Laws.CopyOwn
import Derived.Deep.MidRow
import Derived.OrdersHeld
import Derived.Deep.RegionHeld
import Derived.Deep.Cut
import Derived.Laws.BytesArg
import Derived.ChangeKeysEq
set_option linter.all false
namespace Go.Proofs.YtpiiblkiddcgcaaGreat
namespace Ba
open Go.RowKit
theorem ret_int {k : IntKind} {a b : Int} (h : a = b) : Ending.returned (.int k a) = .returned (.int k b) := by rw [h]
theorem ret_bool {a b : Bool} (h : a = b) : Ending.returned (.bool a) = .returned (.bool b) := by rw [h]
theorem quiet_eq {P : Program} {f : FuncId} {args : Array Value} {w : World} {n : Nat} {v : Value}
  (h : Calls P f args (w.drewN n) fun e w' => e = .returned v ∧ w.drewN n = w') : Calls P f args (w.drewN n) fun e w'' => e = .returned v ∧ ∃ m, w'' = w.drewN m :=
 h.mono fun _ _ ⟨he, hm⟩ => ⟨he, n, hm.symm⟩
def Since (W W' : World) : Prop := Below W.heap.size W W'
theorem Since.refl (W : World) : Since W W := Below.refl _ _
theorem Since.drew {W w : World} (h : Since W w) : Since W w.drew := Below.drew h
theorem Since.drewN {W w : World} (h : Since W w) (n : Nat) : Since W (w.drewN n) := Below.trans (show Below W.heap.size W w from h) ⟨rfl, rfl, rfl, Nat.le_refl _, fun _ _ => rfl⟩
theorem Since.trans {a b c : World} (h : Since a b) (k : Since b c) : Since a c := Below.trans (show Below a.heap.size a b from h) (Below.mono k (show Below a.heap.size a b from h).size)
theorem Since.alloc {W w : World} (h : Since W w) (o : Obj) : Since W (w.alloc o) := Below.alloc h (show Below W.heap.size W w from h).size o
theorem Since.size {W w : World} (h : Since W w) : W.heap.size ≤ w.heap.size := (show Below W.heap.size W w from h).size
theorem Since.below {W w : World} (h : Since W w) : Below W.heap.size W w := h
theorem Since.cell {W w : World} (h : Since W w) {p : Addr} (hp : p.block < W.heap.size) : w.cell? p = W.cell? p := (show Below W.heap.size W w from h).cell hp
theorem Since.frozen {W w : World} (h : Since W w) {p : Addr} (hp : p.block < W.heap.size) : w.frozen? p = W.frozen? p := (show Below W.heap.size W w from h).frozen hp
theorem Since.cf {W w : World} (h : Since W w) : (∀ b o, b < W.heap.size → w.cell? ⟨b, o, none⟩ = W.cell? ⟨b, o, none⟩) ∧ (∀ b o, b < W.heap.size → w.frozen? ⟨b, o, none⟩ = W.frozen? ⟨b, o, none⟩) :=
 ⟨fun b o k => h.cell (p := ⟨b, o, none⟩) k, fun b o k => h.frozen (p := ⟨b, o, none⟩) k⟩
theorem keep_cell {W W' : World} {a : Addr} {v : Value} (k : Since W W') (h : W.cell? a = some v) : W'.cell? a = some v := by
 rw [k.cell (World.block_lt_of_cell? _ _ h)]; exact h
theorem sn_ {w w' : World} (h : Since w w' := by repeat (first | exact Since.refl _ | assumption | refine Since.setCell ?_ (by first | (simp; done) | (simp; omega)) _ | refine Since.drew ?_ | refine Since.drewN ?_ _ | refine Since.alloc ?_ _ | refine Since.trans ?_ (by assumption) | refine Since.trans ?_ (Hid.out (by assumption)))) : Since w w' := h
end Ba
namespace Ba
open Go.RowKit
theorem set_same {W : World} {a : Addr} {u x : Value} (h : W.cell? a = some x) : (W.setCell a u).cell? a = some u := by
 exact World.cell?_setCell_same _ _ _ h
theorem new_alloc {w W : World} {cs : Array Value} {t : TypeId} {i : Nat} {v : Value} (k : Since (w.alloc (.cells cs t)) W) (h : cs[i]? = some v) : W.cell? ⟨w.heap.size, i, none⟩ = some v :=
 keep_cell k ((World.cell?_alloc_new w cs t i).trans h)
theorem keep_frz {w W : World} {a : Addr} {v : Value} (k : Since w W) (h : w.cell? a = some v) (f : w.frozen? a = false) : W.frozen? a = false :=
 (k.frozen (World.block_lt_of_cell? _ _ h)).trans f
end Ba
namespace Mem
open Go.RowKit
theorem block_of_add (a : Addr) (n : Nat) : (a.add n).block = a.block := by unfold Addr.add; split <;> rfl
theorem add_of_add (a : Addr) (i j : Nat) : (a.add i).add j = a.add (i + j) := by
 unfold Addr.add
 by_cases hi : i = 0 <;> by_cases hj : j = 0 <;> simp [hi, hj, Nat.add_assoc]
def Reads (w : World) (B size : Nat) (A : Option Addr) (n : Nat) (xs : List Value) : Prop :=
 xs.length = n * size ∧ (0 < n → ∃ ad, A = some ad ∧ ad.block < B ∧ ∀ j u, xs[j]? = some u → w.cell? (ad.add j) = some u)
section
variable {w w' : World} {B B' size n : Nat} {A : Option Addr} {xs : List Value}
theorem Reads.keep (h : Reads w B size A n xs) (hk : ∀ p : Addr, p.block < B → w'.cell? p = w.cell? p) : Reads w' B size A n xs :=
 ⟨h.1, fun hn => by
  obtain ⟨ad, e, hb, hc⟩ := h.2 hn
  exact ⟨ad, e, hb, fun j u hu => (hk _ (by rw [block_of_add]; exact hb)).trans (hc j u hu)⟩⟩
theorem Reads.below (h : Reads w B size A n xs) (hb : Below B w w') : Reads w' B size A n xs := h.keep fun _ hp => hb.cell hp
theorem Reads.cut (h : Reads w B size A n xs) {k cap : Nat} (hk : k ≤ n) (hc : n ≤ cap) :
  Reads w B size (if cap = k then A else A.map (·.add (k * size))) (n - k) (xs.drop (k * size)) := by
 refine ⟨by rw [List.length_drop, h.1, Nat.sub_mul], fun hn => ?_⟩
 obtain ⟨ad, rfl, hb, hcell⟩ := h.2 (by omega)
 rw [if_neg (by omega)]
 refine ⟨ad.add (k * size), rfl, by rw [block_of_add]; exact hb, fun j u hu => ?_⟩
 rw [add_of_add]
 exact hcell _ u (by rw [← hu, List.getElem?_drop])
theorem Reads.of_own {base : Nat} {e : TypeId} {c : Nat} (h : w.ownsRow base e size (.slice A n c) n xs) : Reads w w.heap.size size A n xs := by
 refine ⟨h.1, fun hn => ?_⟩
 obtain ⟨g, cap, hv, _, hlt⟩ := h.form hn
 have hA : A = some ⟨g, 0, none⟩ := by injection hv
 subst hA
 exact ⟨_, rfl, hlt, h.cells (g := g) rfl⟩
end
def Blk (w : World) (g : Nat) (t : TypeId) (cs : Array Value) : Prop := w.heap[g]? = some (.cells cs t (0, 0))
section
variable {w w' : World} {g : Nat} {t : TypeId} {cs : Array Value}
theorem Blk.lt (h : Blk w g t cs) : g < w.heap.size := by
 rcases Nat.lt_or_ge g w.heap.size with hlt | hge
 ·exact hlt
 ·unfold Blk at h; rw [Array.getElem?_eq_none hge] at h; cases h
theorem Blk.cell (h : Blk w g t cs) (i : Nat) : w.cell? ⟨g, i, none⟩ = cs[i]? := cell_of_row w g i cs t (0, 0) h
theorem Blk.frozen (h : Blk w g t cs) (i : Nat) : w.frozen? ⟨g, i, none⟩ = false := by
 unfold Blk at h
 simp [World.frozen?, h]
theorem Blk.new (w : World) (t : TypeId) (cs : Array Value) : Blk (w.alloc (.cells cs t)) w.heap.size t cs := heap_alloc_new w _
theorem Blk.below {B : Nat} (h : Blk w g t cs) (hb : Below B w w') (hg : g < B) : Blk w' g t cs := (hb.block g hg).trans h
theorem Blk.ne_ {g' : Nat} {t' : TypeId} {cs' : Array Value} (h : Blk w g t cs) (h' : Blk w g' t' cs') (hne : t ≠ t') : g ≠ g' := by
 rintro rfl
 unfold Blk at h h'
 rw [h] at h'
 injection h' with h'
 injection h' with _ ht
 exact hne ht
end
section
variable {P : Program} (w : World)
theorem run_append_of_nil (base : Nat) (t ty e : TypeId) (i : TypeInfo) (size : Nat) (ht : P.underlying t = some (.slice e)) (hi : P.info? e = some i)
  (v : Value) (n : Nat) (xs : List Value) (hown : w.ownsRow base e size v n xs) (c : Nat) : (Builtin.append_ #[t, t] ty #[v, .slice none 0 c]).run P w = .ok v w := by
 rcases hown.2 with ⟨rfl, rfl⟩ | ⟨g, cap, cur, rfl, _, _, hnc, _⟩
 ·simp [Builtin.append_, run_underlying ht, sizeOf, typeInfo, hi, Builtin.lenOf, Builtin.firstCells]
 ·simp [Builtin.append_, run_underlying ht, sizeOf, typeInfo, hi, Builtin.lenOf, Builtin.firstCells, hnc, storeCells]
theorem run_append_any (base : Nat) (t ty e : TypeId) (i : TypeInfo) (z : Value) (size bytes : Nat) (ht : P.underlying t = some (.slice e)) (hi : P.info? e = some i) (hz : i.zero = some z)
  (hsize : i.size = size) (hby : i.bytes = bytes) (hzs : z.cells.size = size) (hsz : 0 < size)
  (v : Value) (n : Nat) (xs : List Value) (hown : w.ownsRow base e size v n xs)
  (B : Nat) (A : Option Addr) (m c : Nat) (news : List Value) (hr : Reads w B size A m news) (h1 : ∀ u ∈ news, u.oneCell' = true)
  (h63 : n + m ≤ maxLen) (hbytes : (n + m) * bytes ≤ 140737488355328) (hbase : base ≤ w.heap.size) :
  ∃ v' w', (Builtin.append_ #[t, t] ty #[v, .slice A m c]).run P w = .ok v' w' ∧ w'.ownsRow base e size v' (n + m) (xs ++ news) ∧ w.grownBy w' v.ownBlock ∧
   (v'.ownBlock = v.ownBlock ∨ v'.ownBlock = some w.heap.size) := by
 rcases A with _ | ad
 ·have hm : m = 0 := by
   rcases Nat.eq_zero_or_pos m with h0 | h0
   ·exact h0
   ·obtain ⟨ad, h, _⟩ := hr.2 h0
    cases h
  subst hm
  have hn : news = [] := List.eq_nil_of_length_eq_zero (by simpa using hr.1)
  subst hn
  exact ⟨v, w, run_append_of_nil w base t ty e i size ht hi v n xs hown c, by simpa using hown, World.grownBy.refl w _, .inl rfl⟩
 ·have hcells : ∀ j u, news[j]? = some u → w.cell? (ad.add j) = some u := by
   intro j u hu
   rcases Nat.eq_zero_or_pos m with h0 | h0
   ·subst h0
    have hn : news = [] := List.eq_nil_of_length_eq_zero (by simpa using hr.1)
    subst hn
    simp at hu
   ·obtain ⟨ad', h, _, hc⟩ := hr.2 h0
    injection h with h
    subst h
    exact hc j u hu
  obtain ⟨v', w', hrun, h2, h3, _, h5⟩ := run_append_own_at (P := P) w base t ty e i z size bytes ht hi hz hsize hby hzs hsz v n xs hown ad m c news hr.1 hcells h1 h63 hbytes hbase
  exact ⟨v', w', hrun, h2, h3, h5⟩
theorem wp_append_any {o : Oper} {a : Act} {K : Act → World → Prop} {Q : Exit → Act → World → Prop} (s x : Operand) (t : TypeId)
  (ho : o.op = .call { callee := .builtin .append, args := #[s, x], argTypes := #[t, t] })
  (base : Nat) (e : TypeId) (i : TypeInfo) (z : Value) (size bytes : Nat) (ht : P.underlying t = some (.slice e)) (hi : P.info? e = some i) (hz : i.zero = some z)
  (hsize : i.size = size) (hby : i.bytes = bytes) (hzs : z.cells.size = size) (hsz : 0 < size)
  (v : Value) (n : Nat) (xs : List Value) (hs : a.eval s = v) (hown : w.ownsRow base e size v n xs)
  (B : Nat) (A : Option Addr) (m c : Nat) (news : List Value) (hx : a.eval x = .slice A m c) (hr : Reads w B size A m news) (h1 : ∀ u ∈ news, u.oneCell' = true)
  (h63 : n + m ≤ maxLen) (hbytes : (n + m) * bytes ≤ 140737488355328) (hbase : base ≤ w.heap.size)
  (h : ∀ v' w', w'.ownsRow base e size v' (n + m) (xs ++ news) → w.grownBy w' v.ownBlock → (v'.ownBlock = v.ownBlock ∨ v'.ownBlock = some w.heap.size) → K (a.put o.dst v') w') : o.wp P a w K Q := by
 obtain ⟨v', w', hrun, h2, h3, h4⟩ := run_append_any (P := P) w base t o.type e i z size bytes ht hi hz hsize hby hzs hsz v n xs hown B A m c news hr h1 h63 hbytes hbase
 unfold Oper.wp execOp
 simp only [ho, resolve, invoke, builtin, Sem.run_bind, Sem.run_pure, Result.andThen_ok, List.map_toArray, List.map_cons, List.map_nil, hs, hx, hrun]
 exact h v' w' h2 h3 h4
end
end Mem
namespace Ba
open Go.RowKit Mem
theorem keep_blk {W W' : World} {g : Nat} {t : TypeId} {cs : Array Value} (k : Since W W') (h : Blk W g t cs) : Blk W' g t cs := h.below k h.lt
theorem wpList_q {P : Program} {ops : Array Oper} {rest : List Oper} {o : Oper} {a : Act} {w : World} {Q : Exit → Act → World → Prop} (hw : Region.wanted o (yielded ops a.tmps) = true) (v : Value) (he : (execOp a.eval o).run P w = .ok (.value v) w)
  (h : wpList P ops Q rest (a.put o.dst v) w) : wpList P ops Q (o :: rest) a w :=
 wpList_step fun K hK => by
  rw [if_pos hw]
  unfold Oper.wp
  rw [he]
  exact hK _ _ h
theorem Since.setRow {W w : World} (h : Since W w) {g : Nat} (hg : W.heap.size ≤ g) (cs : Array Value) : Since W (w.setRow g cs) := below_setRow (show Below W.heap.size W w from h) hg cs
theorem Blk.row {w : World} {g : Nat} {t : TypeId} {cs : Array Value} (h : Blk w g t cs) (cs' : Array Value) : Blk (w.setRow g cs') g t cs' := setRow_heap w g cs cs' t (0, 0) h
theorem Blk.row_far {w : World} {g k : Nat} {t : TypeId} {cs : Array Value} (h : Blk w g t cs) (hk : g ≠ k) (cs' : Array Value) : Blk (w.setRow k cs') g t cs := (setRow_other w k g cs' hk).trans h
end Ba
namespace Ba
open Go.RowKit Mem
theorem sA {α : Type} (l : List α) (i : Nat) (a : α) : l.toArray.setIfInBounds i a = (l.set i a).toArray := by simp
theorem sB {α : Type} (x : α) (l : List α) (a : α) : (x :: l).set 0 a = a :: l := rfl
theorem sC {α : Type} (x : α) (l : List α) (n : Nat) (a : α) : (x :: l).set (n + 1) a = x :: l.set n a := rfl
theorem gA {α : Type} (l : List α) (i : Nat) : l.toArray[i]? = l[i]? := by simp
theorem gB {α : Type} (x : α) (l : List α) : (x :: l)[0]? = some x := by simp
theorem gC {α : Type} (x : α) (l : List α) (i : Nat) : (x :: l)[i + 1]? = l[i]? := by simp
def HasRow (w : World) (g : Nat) (t : TypeId) (n : Nat) : Prop := ∃ old : Array Value, Blk w g t old ∧ old.size = n
theorem HasRow.of {w : World} {g n : Nat} {t : TypeId} {cs : Array Value} (h : Blk w g t cs) (hn : cs.size = n) : HasRow w g t n := ⟨cs, h, hn⟩
theorem HasRow.keep {W W' : World} {g n : Nat} {t : TypeId} (k : Since W W') (h : HasRow W g t n) : HasRow W' g t n := by
 obtain ⟨old, B, hn⟩ := h
 exact ⟨old, keep_blk k B, hn⟩
section
variable {P : Program} {o : Oper} {a : Act} {w : World} {K : Act → World → Prop} {Q : Exit → Act → World → Prop}
theorem range_of {g i n : Nat} {t : TypeId} {cs : Array Value} {l : List Value} (h : Blk w g t cs) (hl : (cs.toList.drop i).take n = l) (hn : l.length = n) : w.rangeAt g i l := fun j v hv => by
 rw [Blk.cell h]
 have hj : j < n := by rw [← hn]; exact (List.getElem?_eq_some_iff.1 hv).1
 rw [← hl, List.getElem?_take, if_pos hj, List.getElem?_drop] at hv
 simpa using hv
theorem exec_cell {g i : Nat} {t : TypeId} {cs : Array Value} {v : Value} (ty : TypeId) (x : Operand) (d : TypeDesc) (hg : Blk w g t cs) (hv : cs[i]? = some v) (ho : o.op = .load ty x) (hx : a.eval x = .pointer (some ⟨g, i, none⟩))
  (hu : P.underlying ty = some d) (hd : (match d with | .struct _ | .array _ _ => true | _ => false) = false) : (execOp a.eval o).run P w = .ok (.value v) w := by
 have hc : w.cell? ⟨g, i, none⟩ = some v := (Blk.cell hg i).trans hv
 have hagg : (isAgg ty).run P w = .ok false w := by
  unfold isAgg
  rw [Sem.run_bind, run_underlying hu w]
  cases d <;> simp_all
 unfold execOp
 simp only [ho, hx, Instr.loadAt, Instr.sureAddr, Sem.run_bind, Sem.run_pure, Result.andThen_ok]
 simp [loadVar, Sem.run_bind, hagg, hc]
theorem exec_part {g i n : Nat} {t : TypeId} {cs : Array Value} {l : List Value} (ty : TypeId) (x : Operand) (d : TypeDesc) (hg : Blk w g t cs) (hl : (cs.toList.drop i).take n = l) (hn : l.length = n) (ho : o.op = .load ty x) (hx : a.eval x = .pointer (some ⟨g, i, none⟩))
  (hu : P.underlying ty = some d) (hd : d.isRow = true) (hi : (P.info? ty).map (·.size) = some l.length) : (execOp a.eval o).run P w = .ok (.value (.agg l.toArray)) w := by
 unfold execOp
 simp only [ho, hx, Instr.loadAt, Instr.sureAddr, Sem.run_bind, Sem.run_pure, Result.andThen_ok, run_loadVar_mid w g i ty l d (range_of hg hl hn) hu hd hi]
theorem wp_st_cell (ty : TypeId) (x y : Operand) (ho : o.op = .store ty x y) {g i : Nat} {t : TypeId} {cs : Array Value} (cs' : Array Value) (v : Value) (hx : a.eval x = .pointer (some ⟨g, i, none⟩)) (hy : a.eval y = v) (hg : Blk w g t cs)
  (hlt : i < cs.size) (hcs : cs.setIfInBounds i v = cs') (h1 : v.oneCell' = true) (hi : (P.info? ty).map (·.size) = some 1) (h : ∀ w', w' = w.setRow g cs' → K (a.put o.dst undef) w') : o.wp P a w K Q := by
 have hcell : w.cell? ⟨g, i, none⟩ = some cs[i] := by rw [Blk.cell hg]; simp [hlt]
 have hfro : w.frozen? ⟨g, i, none⟩ = false := Blk.frozen hg i
 have hst : (store ⟨g, i, none⟩ v).run P w = .ok () (w.setRow g cs') := by
  rw [run_store P w _ v _ h1, hcell]
  simp [hfro, setCell_eq_setRow w g i cs t (0, 0) v hg, hcs]
 have hsv : (storeVar ty ⟨g, i, none⟩ v).run P w = .ok () (w.setRow g cs') := by
  cases hq : P.info? ty with
  | none => simp [hq] at hi
  | some inf =>
   have hs : inf.size = 1 := by simpa [hq] using hi
   have hvc : v.cells = #[v] := by cases v <;> simp_all [Value.oneCell', Value.cells]
   have hadd : (⟨g, i, none⟩ : Addr).add 0 = ⟨g, i, none⟩ := by simp [Addr.add]
   simp [storeVar, sizeOf, typeInfo, hq, hvc, hs, storeCells, hadd, hst]
 unfold Oper.wp execOp
 simp only [ho, hx, hy, Instr.storeAt, Instr.sureAddr, Sem.run_bind, Sem.run_pure, Result.andThen_ok, hsv]
 exact h _ rfl
theorem wp_new (mk : Nat → Value) (t : TypeId) (cs : Array Value) (he : ∀ b, b = w.heap.size → (execOp a.eval o).run P w = .ok (.value (mk b)) (w.alloc (.cells cs t)))
  (h : ∀ b w', w.heap.size ≤ b → Blk w' b t cs → Since w w' → K (a.put o.dst (mk b)) w') : o.wp P a w K Q := by
 unfold Oper.wp
 rw [he _ rfl]
 exact h _ _ (Nat.le_refl _) (Blk.new w t cs) ((Since.refl w).alloc _)
theorem wpList_wp {ops : Array Oper} {rest : List Oper} (hw : Region.wanted o (yielded ops a.tmps) = true) (h : ∀ K : Act → World → Prop, Hid (∀ a w, wpList P ops Q rest a w → K a w) → o.wp P a w K Q) : wpList P ops Q (o :: rest) a w :=
 wpList_step fun K hK => by rw [if_pos hw]; exact h K (Lib.hid hK)
end
section
variable {P : Program} {fn : Func}
end
end Ba
namespace Ba
open Go.RowKit Mem
section
variable {P : Program} {md : Region.Mode} {ops : Array Oper} {Q : Exit → Act → World → Prop} {S : World → Prop} {oi : Oper} {fuel : Nat} {listed : Array Bool} {a : Act} {w : World}
def KeepS (S : World → Prop) (w : World) : Prop := (∀ W W' : World, Since W W' → S W → S W') ∧ S w
theorem KeepS.at_ (_ : KeepS S w) (W : World) (h : S W) : S W := h
theorem wp_held {id : Nat} (h : KeepS S w) (hm : P.follows .mixedOrders = true) (k : S w.drew → wpAnyH P .any ops Q S ops.size (Array.replicate ops.size false) a w.drew) : (Code.region id ops true).wp P Q a w :=
 wp_region_held_drew hm (h.1 _ _ ((Since.refl w).drew) h.2) k
theorem tkQ (i : Nat) (v : Value) (hS : S w) (hi : ops[i]? = some oi := by first | (simp only [gA, gB, gC]; done) | (simp only [gA, gB, gC]; exact rfl))
  (he : ∀ w, S w → (execOp a.eval oi).run P w = .ok (.value v) w := by intro w hSw; first | rfl | (go_simp; (try with_reducible rfl)))
  (hs : Region.noSelect ops = true := by kernel_rfl) (hf : Region.free md ops listed i = true := by kernel_rfl) (hr : (Region.ready md ops listed).contains i = true := by kernel_rfl)
  (hQ : ∀ c a w, Q (.panic c) (a.put oi.dst v) w → Q (.panic c) a w := by exact fun _ _ _ h => h) (hw : Region.wanted oi (yielded ops a.tmps) = true := by rfl)
  (h : wpAnyH P md ops Q S fuel (listed.setIfInBounds i true) (a.put oi.dst v) w) : wpAnyH P md ops Q S (fuel + 1) listed a w :=
 wpAnyH_take hi hs hf hr hQ (Or.inl ⟨hw, he⟩) hS h
end
section
variable {P : Program} {ops : Array Oper} {rest : List Oper} {o : Oper} {a : Act} {w : World} {Q : Exit → Act → World → Prop}
theorem tkL (v : Value) (he : (execOp a.eval o).run P w = .ok (.value v) w := by first | rfl | (go_simp; (try with_reducible rfl))) (hw : Region.wanted o (yielded ops a.tmps) = true := by rfl)
  (h : wpList P ops Q rest (a.put o.dst v) w) : wpList P ops Q (o :: rest) a w := wpList_q hw v he h
end
end Ba
namespace Ba
open Go.RowKit Mem
def FitsL (fr : Array Value) : List (Nat × Value) → Prop
 | [] => True
 | (k, v) :: m => fr[k]? = some v ∧ FitsL fr m
def Fits (fr : Array Value) (n : Nat) (m : List (Nat × Value)) : Prop := fr.size = n ∧ FitsL fr m
def look (k : Nat) (d : Value) : List (Nat × Value) → Value
 | [] => d
 | (j, v) :: m => bif Nat.beq j k then v else look k d m
def fill (n : Nat) (u : Nat → Value) (m : List (Nat × Value)) : Array Value := ((List.range n).map (fun i => look i (u i) m)).toArray
theorem look_fits {fr : Array Value} {k : Nat} {d : Value} (hd : fr[k]? = some d) : ∀ {m : List (Nat × Value)}, FitsL fr m → look k d m = d
 | [], _ => rfl
 | (j, v) :: m, ⟨h1, h2⟩ => by
  unfold look
  cases hb : Nat.beq j k with
  | false => exact look_fits hd h2
  | true =>
   have := Nat.eq_of_beq_eq_true hb
   subst this
   rw [h1] at hd
   exact Option.some.inj hd
theorem Fits.open_ {fr : Array Value} {n : Nat} {m : List (Nat × Value)} (h : Fits fr n m) : ∃ u : Nat → Value, fr = fill n u m := by
 obtain ⟨hs, hm⟩ := h
 refine ⟨fun k => (fr[k]?).getD undef, ?_⟩
 apply Array.ext
 ·simp [fill, hs]
 ·intro i h1 h2
  have e : fr[i]? = some fr[i] := by simp [h1]
  have : (fill n (fun k => (fr[k]?).getD undef) m)[i] = look i ((fr[i]?).getD undef) m := by simp [fill]
  rw [this, e]
  exact (look_fits (by rw [e]; first | done | rfl) hm).symm
section
variable {P : Program} {a : Act} {w : World} {ds : List Deferred}
theorem least_of {p : Nat → Prop} : ∀ n, p n → ∃ m, p m ∧ ∀ k, p k → m ≤ k := by
 intro n
 induction n using Nat.strongRecOn with
 | _ n ih =>
  intro hn
  by_cases h : ∃ k, k < n ∧ p k
  ·obtain ⟨k, hk, hp⟩ := h; exact ih k hk hp
  ·exact ⟨n, hn, fun k hk => Nat.le_of_not_lt fun hl => h ⟨k, hl, hk⟩⟩
theorem wp_uloop {c : Code} {Q : Exit → Act → World → Prop} (R : Nat → Array Value → World → Prop) {fr0 : Array Value} (n0 : Nat) (h0 : R n0 fr0 w)
  (round : ∀ n fr wr, R n fr wr → ∀ (J K' : Act → World → Prop), (∀ n' fr' w', n' < n → R n' fr' w' → J ⟨fr', ds⟩ w') → (∀ a' w', Met J a' w' → K' a' w') → c.wp P (Exit.then K' Q) ⟨fr, ds⟩ wr) :
  (Code.loop c).wp P Q ⟨fr0, ds⟩ w := by
 classical
 let p : Act → World → Nat → Prop := fun a w n => ∃ fr, a = ⟨fr, ds⟩ ∧ R n fr w
 refine wp_loop (fun a w => ∃ n, p a w n) (fun a w => if h : ∃ m, p a w m ∧ ∀ k, p a w k → m ≤ k then h.choose else 0) ⟨n0, fr0, rfl, h0⟩ ?_
 rintro a w ⟨n1, hp1⟩
 have hm := least_of (p := p a w) n1 hp1
 obtain ⟨⟨fr, e, hr⟩, hmin⟩ := hm.choose_spec
 rw [dif_pos hm]
 generalize hm.choose = n at hr hmin
 subst e
 refine wp_mono (round n fr w hr (fun a' w' => ∃ n' fr', n' < n ∧ a' = ⟨fr', ds⟩ ∧ R n' fr' w') (fun a' w' => ∃ n' fr', n' < n ∧ a' = ⟨fr', ds⟩ ∧ R n' fr' w') (fun n' fr' w' h1 h2 => ⟨n', fr', h1, rfl, h2⟩) (fun _ _ h => h)) ?_
 intro e a' w' hq
 cases e with
 | normal =>
  obtain ⟨n', fr', hlt, e', hr'⟩ := hq
  have hm' := least_of (p := p a' w') n' ⟨fr', e', hr'⟩
  refine ⟨⟨n', fr', e', hr'⟩, ?_⟩
  rw [dif_pos hm']
  exact Nat.lt_of_le_of_lt (hm'.choose_spec.2 n' ⟨fr', e', hr'⟩) hlt
 | exit id => exact hq
 | goto l => exact hq
 | ret => exact hq
 | panic ch => exact hq
 | outgrown => exact hq
end
end Ba
namespace Ba
open Go.RowKit Mem
theorem wr64 (x : Int) (h0 : -9223372036854775808 ≤ x) (h1 : x ≤ 9223372036854775807) : IntKind.i64.wrap x = x := by
 simp only [IntKind.wrap, IntKind.bits, IntKind.signed]; simp; omega
section
variable {P : Program} {o : Oper} {a : Act} {w : World} {K : Act → World → Prop} {Q : Exit → Act → World → Prop}
end
end Ba
namespace Byt
open Go.RowKit
open Mem
section
variable {w w' : World} {a : Option Addr} {n : Nat} {zs : List Int}
end
section
variable {P : Program} (w : World)
theorem own_form {base : Nat} {e : TypeId} {size n : Nat} {v : Value} {xs : List Value} (h : w.ownsRow base e size v n xs) : ∃ A c, v = .slice A n c := by
 rcases h.2 with ⟨rfl, rfl⟩ | ⟨g, cap, _, rfl, _⟩
 ·exact ⟨none, 0, rfl⟩
 ·exact ⟨_, _, rfl⟩
end
end Byt
namespace Ba
open Go.RowKit Mem
section
variable {P : Program} {o : Oper} {a : Act} {w : World} {K : Act → World → Prop} {Q : Exit → Act → World → Prop}
theorem wp_q (v : Value) (he : (execOp a.eval o).run P w = .ok (.value v) w) (h : K (a.put o.dst v) w) : o.wp P a w K Q := by
 unfold Oper.wp
 rw [he]
 exact h
end
end Ba
namespace Ba
open Go.RowKit Mem
section
variable {e : TypeId} {B : Nat} {w W W' : World}
end
def putAt (cs : Array Value) (o : Nat) : List Value → Array Value
 | [] => cs
 | v :: r => putAt (cs.setIfInBounds o v) (o + 1) r
theorem setCells_row {g : Nat} {t : TypeId} : ∀ (vs : List Value) (o : Nat) (w : World) (cs : Array Value), Blk w g t cs → w.setCells g o vs = w.setRow g (putAt cs o vs)
 | [], _, w, cs, h => (setRow_self w g cs t (0, 0) h).symm
 | v :: r, o, w, cs, h => by
  show (w.setCell ⟨g, o, none⟩ v).setCells g (o + 1) r = _
  rw [setCell_eq_setRow w g o cs t (0, 0) v h, setCells_row r (o + 1) _ _ (Blk.row h _), setRow_setRow]
  rfl
section
variable {P : Program} {o : Oper} {a : Act} {w : World} {K : Act → World → Prop} {Q : Exit → Act → World → Prop}
theorem wp_st_part (ty : TypeId) (x y : Operand) (ho : o.op = .store ty x y) {g i : Nat} {t : TypeId} {cs : Array Value} (cs' cells : Array Value) (hx : a.eval x = .pointer (some ⟨g, i, none⟩)) (hy : a.eval y = .agg cells) (hg : Blk w g t cs)
  (hlt : i + cells.size ≤ cs.size) (hcs : putAt cs i cells.toList = cs') (h1 : cells.all (·.oneCell') = true) (hi : (P.info? ty).map (·.size) = some cells.size) (h : ∀ w', w' = w.setRow g cs' → K (a.put o.dst undef) w') : o.wp P a w K Q := by
 refine wp_store_mid ty x y ho g i cells hx hy (fun j hj => ⟨?_, Blk.frozen hg _⟩) hi h1 (h _ ?_)
 ·rw [Blk.cell hg]; simp; omega
 ·rw [setCells_row _ _ _ _ hg, hcs]
end
end Ba
namespace Ba
open Go.RowKit Mem
end Ba
namespace Ba
open Go.RowKit Mem
def blkOf : Option Addr → List Nat
 | some a => [a.block]
 | none => []
structure Upd (S : List Nat) (w w' : World) : Prop where
 os : w'.os = w.os
 tape : w'.tape = w.tape
 output : w'.output = w.output
 size : w.heap.size ≤ w'.heap.size
 block : ∀ k, k < w.heap.size → k ∉ S → w'.heap[k]? = w.heap[k]?
section
variable {S T : List Nat} {W w w' a b c : World} {g : Nat} {t : TypeId} {cs : Array Value}
theorem Upd.refl (S : List Nat) (w : World) : Upd S w w := ⟨rfl, rfl, rfl, Nat.le_refl _, fun _ _ _ => rfl⟩
theorem Upd.of_since (h : Since w w') : Upd S w w' := ⟨h.below.os, h.below.tape, h.below.output, h.below.size, fun k hk _ => h.below.block k hk⟩
theorem Upd.mono (h : Upd S w w') (hs : ∀ k ∈ S, k < w.heap.size → k ∈ T) : Upd T w w' := ⟨h.os, h.tape, h.output, h.size, fun k hk hn => h.block k hk (fun hS => hn (hs k hS hk))⟩
theorem Upd.comp (h : Upd S a b) (k : Upd T b c) (hT : ∀ g ∈ T, g ∈ S ∨ a.heap.size ≤ g) : Upd S a c :=
 ⟨k.os.trans h.os, k.tape.trans h.tape, k.output.trans h.output, Nat.le_trans h.size k.size, fun g hg hn =>
  (k.block g (Nat.lt_of_lt_of_le hg h.size) (fun hgT => by rcases hT g hgT with h1 | h1; exact hn h1; omega)).trans (h.block g hg hn)⟩
theorem Upd.trans (h : Upd S a b) (k : Since b c) : Upd S a c := h.comp (Upd.of_since (S := []) k) (fun _ hg => by cases hg)
theorem Upd.setRow (h : Upd S w W) (hg : g ∈ S ∨ w.heap.size ≤ g) (cs : Array Value) : Upd S w (W.setRow g cs) :=
 ⟨h.os, h.tape, h.output, by rw [size_setRow]; exact h.size, fun k hk hn => (setRow_other W g k cs (by rintro rfl; rcases hg with h1 | h1; exact hn h1; omega)).trans (h.block k hk hn)⟩
theorem Since.upd (h : Since W w) (k : Upd S w w') (hS : ∀ g ∈ S, W.heap.size ≤ g) : Since W w' :=
 ⟨k.os.trans h.below.os, k.tape.trans h.below.tape, k.output.trans h.below.output, Nat.le_trans h.size k.size, fun g hg =>
  (k.block g (Nat.lt_of_lt_of_le hg h.size) (fun hgS => by have := hS g hgS; omega)).trans (h.below.block g hg)⟩
theorem Upd.since (h : Upd [] w w') : Since w w' := (Since.refl w).upd h (fun _ hg => by cases hg)
theorem Upd.blk (k : Upd S w w') (h : Blk w g t cs) (hg : g ∉ S) : Blk w' g t cs := (k.block g h.lt hg).trans h
theorem Upd.of_grown {A : Option Addr} {n c : Nat} (h : w.grownBy w' (Value.slice A n c).ownBlock) : Upd (blkOf A) w w' := by
 refine ⟨h.os, h.tape, h.output, h.size, fun k hk hn => h.block k hk (fun he => hn ?_)⟩
 cases A with
 | none => simp [Value.ownBlock] at he
 | some a => simp [Value.ownBlock] at he; simp [blkOf, he]
variable {base : Nat} {e : TypeId} {size n c : Nat} {A : Option Addr} {xs : List Value}
theorem own_at (h : w.ownsRow base e size (.slice A n c) n xs) : (A = none ∧ n = 0 ∧ xs = []) ∨ ∃ g cur, A = some ⟨g, 0, none⟩ ∧ base ≤ g ∧ Blk w g e cur ∧ n ≤ c ∧ c ≤ maxLen ∧ cur.size = c * size ∧ cur.toList.take (n * size) = xs := by
 rcases h.2 with ⟨hv, hn⟩ | ⟨g, cap, cur, hv, hb, hg, hc, hm, hs, ht⟩
 ·simp at hv
  exact .inl ⟨hv.1, hn, List.eq_nil_of_length_eq_zero (by have := h.1; simpa [hn] using this)⟩
 ·simp at hv
  obtain ⟨rfl, rfl⟩ := hv
  exact .inr ⟨g, cur, rfl, hb, hg, hc, hm, hs, ht⟩
theorem own_low (h : w.ownsRow base e size (.slice A n c) n xs) : ∀ g ∈ blkOf A, base ≤ g := by
 rcases own_at h with ⟨rfl, _⟩ | ⟨g, cur, rfl, hb, _⟩
 ·simp [blkOf]
 ·simp [blkOf, hb]
theorem own_lt (h : w.ownsRow base e size (.slice A n c) n xs) : ∀ g ∈ blkOf A, g < w.heap.size := by
 rcases own_at h with ⟨rfl, _⟩ | ⟨g, cur, rfl, _, hg, _⟩
 ·simp [blkOf]
 ·simp [blkOf, hg.lt]
theorem own_ne_ty (h : w.ownsRow base e size (.slice A n c) n xs) (hb : Blk w g t cs) (hne : t ≠ e) : g ∉ blkOf A := by
 rcases own_at h with ⟨rfl, _⟩ | ⟨k, cur, rfl, _, hg, _⟩
 ·simp [blkOf]
 ·have := Blk.ne_ hb hg hne
  simpa [blkOf] using this
theorem Upd.own (k : Upd S w w') (h : w.ownsRow base e size (.slice A n c) n xs) (hA : ∀ g ∈ blkOf A, g ∉ S) : w'.ownsRow base e size (.slice A n c) n xs := by
 refine ⟨h.1, ?_⟩
 rcases own_at h with ⟨rfl, rfl, _⟩ | ⟨g, cur, rfl, hb, hg, hc, hm, hs, ht⟩
 ·rcases h.2 with h2 | ⟨_, _, _, hv, _⟩
  ·exact .inl h2
  ·simp at hv
 ·exact .inr ⟨g, c, cur, rfl, hb, k.blk hg (hA g (by simp [blkOf])), hc, hm, hs, ht⟩
theorem own_reads (h : w.ownsRow base e size (.slice A n c) n xs) : Reads w w.heap.size size A n xs := Reads.of_own h
end
section
variable {P : Program} {o : Oper} {a : Act} {w : World} {K : Act → World → Prop} {Q : Exit → Act → World → Prop}
theorem info3 {e : TypeId} {z : Value} {size bytes : Nat} (h : (P.info? e).map (fun i => (i.zero, i.size, i.bytes)) = some (some z, size, bytes)) : ∃ i, P.info? e = some i ∧ i.zero = some z ∧ i.size = size ∧ i.bytes = bytes := by
 cases hq : P.info? e with
 | none => simp [hq] at h
 | some i => simp [hq] at h; exact ⟨i, rfl, h.1, h.2.1, h.2.2⟩
theorem wp_append_row (s x : Operand) (t : TypeId) (ho : o.op = .call { callee := .builtin .append, args := #[s, x], argTypes := #[t, t] })
  (base : Nat) (e : TypeId) (z : Value) (size bytes : Nat) (ht : P.underlying t = some (.slice e)) (hinf : (P.info? e).map (fun i => (i.zero, i.size, i.bytes)) = some (some z, size, bytes))
  (hzs : z.cells.size = size) (hsz : 0 < size) (hby : bytes ≤ 1000)
  (A0 : Option Addr) (n c0 : Nat) (xs : List Value) (hs : a.eval s = .slice A0 n c0) (hown : w.ownsRow base e size (.slice A0 n c0) n xs)
  (B : Nat) (A : Option Addr) (m c : Nat) (ys : List Value) (hx : a.eval x = .slice A m c) (hy : Reads w B size A m ys) (h1 : ∀ u ∈ ys, u.oneCell' = true) (hnm : n + m ≤ 1000000) (hbase : base ≤ w.heap.size)
  (n2 : Nat) (zs : List Value) (hn2 : n + m = n2) (hzs2 : xs ++ ys = zs)
  (h : ∀ A' c' w', w'.ownsRow base e size (.slice A' n2 c') n2 zs → Upd (blkOf A0) w w' → (∀ g ∈ blkOf A', g ∈ blkOf A0 ∨ w.heap.size ≤ g) → K (a.put o.dst (.slice A' n2 c')) w') : o.wp P a w K Q := by
 subst hn2 hzs2
 obtain ⟨i, hi, hz, h2, h3⟩ := info3 hinf
 refine wp_append_any w s x t ho base e i z size bytes ht hi hz h2 h3 hzs hsz (.slice A0 n c0) n xs hs hown B A m c ys hx hy h1 (by unfold maxLen; omega) ?_ hbase ?_
 ·calc (n + m) * bytes ≤ 1000000 * 1000 := Nat.mul_le_mul hnm hby
   _ ≤ 140737488355328 := by decide
 intro v' w' hown' hg hat
 obtain ⟨A', c', rfl⟩ := Byt.own_form w' hown'
 refine h A' c' w' hown' (Upd.of_grown hg) fun g hgA => ?_
 cases A' with
 | none => simp [blkOf] at hgA
 | some ad =>
  simp [blkOf] at hgA
  subst hgA
  rcases hat with h4 | h4
  ·cases A0 with
   | none => simp [Value.ownBlock] at h4
   | some ad0 => simp [Value.ownBlock] at h4; simp [blkOf, h4]
  ·simp [Value.ownBlock] at h4
   exact .inr (by omega)
end
end Ba
namespace Ba
open Go.RowKit Mem
def rowsOf {α : Type} (enc : α → List Value) (ls : List α) : List Value := ls.flatMap enc
section
variable {α : Type} {enc : α → List Value} {k : Nat}
theorem rowsOf_cons (a : α) (l : List α) : rowsOf enc (a :: l) = enc a ++ rowsOf enc l := by simp [rowsOf]
theorem rowsOf_append (xs ys : List α) : rowsOf enc (xs ++ ys) = rowsOf enc xs ++ rowsOf enc ys := by simp [rowsOf]
theorem rowsOf_one (a : α) : rowsOf enc [a] = enc a := by simp [rowsOf]
theorem rowsOf_len (hk : ∀ a, (enc a).length = k) : ∀ ls : List α, (rowsOf enc ls).length = ls.length * k
 | [] => by simp [rowsOf]
 | a :: l => by
  rw [rowsOf_cons, List.length_append, rowsOf_len hk l, hk, List.length_cons, Nat.succ_mul, Nat.add_comm]
theorem rowsOf_split (i : Nat) (ls : List α) : rowsOf enc ls = rowsOf enc (ls.take i) ++ rowsOf enc (ls.drop i) := by
 rw [← rowsOf_append, List.take_append_drop]
theorem rowsOf_take (hk : ∀ a, (enc a).length = k) {i : Nat} {ls : List α} (hi : i ≤ ls.length) : (rowsOf enc ls).take (i * k) = rowsOf enc (ls.take i) := by
 rw [rowsOf_split i ls]
 exact List.take_left' (by rw [rowsOf_len hk, List.length_take, Nat.min_eq_left hi])
theorem rowsOf_drop (hk : ∀ a, (enc a).length = k) {i : Nat} {ls : List α} (hi : i ≤ ls.length) : (rowsOf enc ls).drop (i * k) = rowsOf enc (ls.drop i) := by
 rw [rowsOf_split i ls]
 exact List.drop_left' (by rw [rowsOf_len hk, List.length_take, Nat.min_eq_left hi])
theorem rowsOf_at (hk : ∀ a, (enc a).length = k) {i : Nat} {ls : List α} (hi : i < ls.length) : ((rowsOf enc ls).drop (i * k)).take k = enc ls[i] := by
 rw [rowsOf_drop hk (by omega), List.drop_eq_getElem_cons hi, rowsOf_cons]
 exact List.take_left' (hk _)
theorem rowsOf_one' (h1 : ∀ a, ∀ u ∈ enc a, u.oneCell' = true) (ls : List α) : ∀ u ∈ rowsOf enc ls, u.oneCell' = true := by
 intro u hu
 obtain ⟨a, _, ha⟩ := List.mem_flatMap.1 hu
 exact h1 a u ha
theorem rowsOf_set (hk : ∀ a, (enc a).length = k) {i : Nat} {ls : List α} (hi : i < ls.length) (a : α) :
  rowsOf enc (ls.set i a) = (rowsOf enc ls).take (i * k) ++ (enc a ++ (rowsOf enc ls).drop (i * k + k)) := by
 rw [List.set_eq_take_append_cons_drop, if_pos hi, rowsOf_append, rowsOf_cons, rowsOf_take hk (by omega), ← Nat.succ_mul, rowsOf_drop hk (by omega)]
theorem putAt_list : ∀ (vs : List Value) (cs : Array Value) (o : Nat), o + vs.length ≤ cs.size → (putAt cs o vs).toList = cs.toList.take o ++ (vs ++ cs.toList.drop (o + vs.length))
 | [], cs, o, _ => by simp [putAt]
 | v :: r, cs, o, h => by
  simp only [List.length_cons] at h
  show (putAt (cs.setIfInBounds o v) (o + 1) r).toList = _
  rw [putAt_list r _ _ (by simp; omega)]
  have h0 : o < cs.toList.length := by simp; omega
  simp only [Array.toList_setIfInBounds, List.length_cons]
  rw [List.set_eq_take_append_cons_drop, if_pos h0]
  have hl : (cs.toList.take o).length = o := by rw [List.length_take]; omega
  rw [List.take_append, List.drop_append, hl, List.take_of_length_le (by omega), List.drop_eq_nil_of_le («as» := cs.toList.take o) (by omega)]
  rw [show o + 1 - o = 1 by omega, show o + 1 + r.length - o = r.length + 1 by omega]
  simp only [List.take_succ_cons, List.take_zero, List.drop_succ_cons, List.nil_append, List.drop_drop, List.append_assoc, List.cons_append]
  rw [show o + 1 + r.length = o + (r.length + 1) by omega]
theorem putAt_size (cs : Array Value) (o : Nat) (vs : List Value) (h : o + vs.length ≤ cs.size) : (putAt cs o vs).size = cs.size := by
 have := congrArg List.length (putAt_list vs cs o h)
 simp only [Array.length_toList, List.length_append, List.length_take, List.length_drop] at this
 omega
end
section
variable {α : Type} {enc : α → List Value} {k : Nat} {w : World} {base : Nat} {e : TypeId} {n c : Nat} {A : Option Addr} {ls : List α}
theorem own_n (hk : ∀ a, (enc a).length = k) (hk0 : 0 < k) (h : w.ownsRow base e k (.slice A n c) n (rowsOf enc ls)) : ls.length = n := by
 have := h.1
 rw [rowsOf_len hk] at this
 exact Nat.eq_of_mul_eq_mul_right hk0 this
theorem own_prefix {xs : List Value} {size : Nat} (h : w.ownsRow base e size (.slice A n c) n xs) {i : Nat} (hi : i ≤ n) : w.ownsRow base e size (.slice A i c) i (xs.take (i * size)) := by
 refine ⟨by rw [List.length_take, h.1]; exact Nat.min_eq_left (Nat.mul_le_mul_right _ hi), ?_⟩
 rcases h.2 with ⟨hv, hn⟩ | ⟨g, cap, cur, hv, hb, hg, hc, hm, hs, ht⟩
 ·simp at hv
  obtain ⟨rfl, rfl, rfl⟩ := hv
  exact .inl ⟨by congr; omega, by omega⟩
 ·simp at hv
  obtain ⟨rfl, rfl⟩ := hv
  refine .inr ⟨g, c, cur, rfl, hb, hg, by omega, hm, hs, ?_⟩
  rw [← ht, List.take_take, Nat.min_eq_left (Nat.mul_le_mul_right _ hi)]
theorem own_set {g : Nat} (hk : ∀ a, (enc a).length = k) (hk0 : 0 < k) (h : w.ownsRow base e k (.slice (some ⟨g, 0, none⟩) n c) n (rowsOf enc ls)) {i : Nat} (hi : i < ls.length) (a : α) :
  ∃ cur : Array Value, Blk w g e cur ∧ i * k + k ≤ cur.size ∧ (w.setRow g (putAt cur (i * k) (enc a))).ownsRow base e k (.slice (some ⟨g, 0, none⟩) n c) n (rowsOf enc (ls.set i a)) := by
 have hn := own_n hk hk0 h
 rcases h.2 with ⟨hv, _⟩ | ⟨g', cap, cur, hv, hb, hg, hc, hm, hs, ht⟩
 ·simp at hv
 ·simp at hv
  obtain ⟨rfl, rfl⟩ := hv
  have hik : i * k + k ≤ n * k := by rw [← Nat.succ_mul]; exact Nat.mul_le_mul_right _ (by omega)
  have hnc : n * k ≤ cur.size := by rw [hs]; exact Nat.mul_le_mul_right _ hc
  have hfit : i * k + (enc a).length ≤ cur.size := by rw [hk]; omega
  refine ⟨cur, hg, by omega, by rw [rowsOf_len hk, List.length_set, hn], .inr ⟨g, c, _, rfl, hb, Blk.row hg _, hc, hm, by rw [putAt_size _ _ _ hfit, hs], ?_⟩⟩
  rw [putAt_list _ _ _ hfit, rowsOf_set hk hi, ← ht, hk]
  have e1 : (cur.toList.take (i * k)).length = i * k := by rw [List.length_take, Array.length_toList]; omega
  have t1 : (cur.toList.take (i * k)).take (n * k) = cur.toList.take (i * k) := List.take_of_length_le (by omega)
  have t2 : (enc a).take (n * k - i * k) = enc a := List.take_of_length_le (by rw [hk]; omega)
  rw [List.take_append, t1, e1, List.take_append, t2, hk, List.take_take, Nat.min_eq_left (by omega), List.drop_take, show n * k - i * k - k = n * k - (i * k + k) by omega]
theorem own_behind {g size : Nat} {xs : List Value} (h : w.ownsRow base e size (.slice (some ⟨g, 0, none⟩) n c) n xs) {o : Nat} (ho : n * size ≤ o) (vs : List Value) :
  ∃ cur : Array Value, Blk w g e cur ∧ cur.size = c * size ∧ (o + vs.length ≤ c * size → (w.setRow g (cur.toList.take o ++ vs ++ cur.toList.drop (o + vs.length)).toArray).ownsRow base e size (.slice (some ⟨g, 0, none⟩) n c) n xs) := by
 rcases h.2 with ⟨hv, _⟩ | ⟨g', cap, cur, hv, hb, hg, hc, hm, hs, ht⟩
 ·simp at hv
 ·simp at hv
  obtain ⟨rfl, rfl⟩ := hv
  refine ⟨cur, hg, hs, fun hfit => ⟨h.1, .inr ⟨g, c, _, rfl, hb, Blk.row hg _, hc, hm, ?_, ?_⟩⟩⟩
  ·simp only [List.size_toArray, List.length_append, List.length_take, List.length_drop, Array.length_toList]
   omega
  ·have e1 : (cur.toList.take o).length = o := by rw [List.length_take, Array.length_toList]; omega
   show ((cur.toList.take o ++ vs) ++ cur.toList.drop (o + vs.length)).take (n * size) = xs
   rw [List.append_assoc, List.take_append_of_le_length (by omega), List.take_take, Nat.min_eq_left ho, ht]
end
section
variable {P : Program} {o : Oper} {a : Act} {w : World} {K : Act → World → Prop} {Q : Exit → Act → World → Prop}
theorem wp_set_row {α : Type} {enc : α → List Value} {k : Nat} (ty : TypeId) (x y : Operand) (ho : o.op = .store ty x y) {g i base : Nat} {e : TypeId} {n c : Nat} {ls : List α} (hk : ∀ a, (enc a).length = k) (hk0 : 0 < k) (h1 : ∀ a, ∀ u ∈ enc a, u.oneCell' = true)
  (hown : w.ownsRow base e k (.slice (some ⟨g, 0, none⟩) n c) n (rowsOf enc ls)) (hi : i < ls.length) (v : α) (hx : a.eval x = .pointer (some ⟨g, i * k, none⟩)) (hy : a.eval y = .agg (enc v).toArray) (hinf : (P.info? ty).map (·.size) = some k)
  (h : ∀ w', w'.ownsRow base e k (.slice (some ⟨g, 0, none⟩) n c) n (rowsOf enc (ls.set i v)) → Upd [g] w w' → K (a.put o.dst undef) w') : o.wp P a w K Q := by
 obtain ⟨cur, B, hfit, hnew⟩ := own_set hk hk0 hown hi v
 refine wp_st_part ty x y ho (putAt cur (i * k) (enc v)) (enc v).toArray hx hy B (by simp [hk]; omega) (by simp) ?_ (by simpa [hk] using hinf) ?_
 ·simp only [List.all_toArray, List.all_eq_true]; exact h1 v
 ·rintro w' rfl
  exact h _ hnew ((Upd.refl _ w).setRow (.inl (by simp)) _)
theorem zeroCells_len (z : Array Value) (n : Nat) : (Builtin.zeroCells z n).size = n * z.size := by simp [Builtin.zeroCells]
theorem zeroCells_one (z : Array Value) (hz : ∀ u ∈ z, u.oneCell' = true) (n : Nat) : ∀ u ∈ (Builtin.zeroCells z n).toList, u.oneCell' = true := by
  intro u hu
  simp only [Builtin.zeroCells, Array.toList_map, List.mem_map] at hu
  obtain ⟨i, hi, rfl⟩ := hu
  have hi' : i < n * z.size := by simpa using hi
  have hz0 : 0 < z.size := by rcases Nat.eq_zero_or_pos z.size with h | h; · rw [h] at hi'; omega
                              · exact h
  have hlt : i % z.size < z.size := Nat.mod_lt _ hz0
  rw [getElem!_pos z _ hlt]
  exact hz _ (Array.getElem_mem hlt)
theorem wp_clear_behind (x : Operand) (t : TypeId) (ho : o.op = .call { callee := .builtin .clear, args := #[x], argTypes := #[t] })
  (base : Nat) (e : TypeId) (z : Value) (size bytes : Nat) (ht : P.underlying t = some (.slice e)) (hinf : (P.info? e).map (fun i => (i.zero, i.size, i.bytes)) = some (some z, size, bytes))
  (hzs : z.cells.size = size) (hz1 : ∀ u ∈ z.cells, u.oneCell' = true) (g n c : Nat) (xs : List Value) (hown : w.ownsRow base e size (.slice (some ⟨g, 0, none⟩) n c) n xs)
  (m cx : Nat) (hm : 0 < m) (hfit : n + m ≤ c) (hx : a.eval x = .slice (some ⟨g, n * size, none⟩) m cx)
  (h : ∀ w', w'.ownsRow base e size (.slice (some ⟨g, 0, none⟩) n c) n xs → Upd [g] w w' → K (a.put o.dst (.tuple #[])) w') : o.wp P a w K Q := by
 obtain ⟨i, hi, hz, h2, h3⟩ := info3 hinf
 obtain ⟨cur, B, hcs, hnew⟩ := own_behind hown (Nat.le_refl (n * size)) (Builtin.zeroCells z.cells m).toList
 have hlen : (Builtin.zeroCells z.cells m).toList.length = m * size := by rw [Array.length_toList, zeroCells_len, hzs]
 have hfit2 : n * size + (Builtin.zeroCells z.cells m).toList.length ≤ c * size := by rw [hlen, ← Nat.add_mul]; exact Nat.mul_le_mul_right _ hfit
 have hrun : (Builtin.clear_ #[t] o.type #[.slice (some ⟨g, n * size, none⟩) m cx]).run P w = .ok (.tuple #[]) (w.setRow g (cur.toList.take (n * size) ++ (Builtin.zeroCells z.cells m).toList ++ cur.toList.drop (n * size + (Builtin.zeroCells z.cells m).toList.length)).toArray) := by
  have hst := run_storeCells_at P g (n * size) e (Builtin.zeroCells z.cells m).toList 0 cur w B (by rw [hcs]; simpa using hfit2) (zeroCells_one _ hz1 _)
  simp only [Nat.add_zero] at hst
  obtain ⟨m', rfl⟩ : ∃ m', m = m' + 1 := ⟨m - 1, by omega⟩
  simp [Builtin.clear_, run_underlying ht, zeroValue, typeInfo, hi, hz, hst]
 unfold Oper.wp execOp
 simp only [ho, resolve, invoke, builtin, Sem.run_bind, Sem.run_pure, Result.andThen_ok, List.map_toArray, List.map_cons, List.map_nil, hx, hrun]
 exact h _ (hnew hfit2) ((Upd.refl _ w).setRow (.inl (by simp)) _)
end
section
variable {P : Program} {o : Oper} {a : Act} {w : World} {K : Act → World → Prop} {Q : Exit → Act → World → Prop}
theorem sb_lh (w : World) {len cap l h : Nat} (kl kh : IntKind) {L H : Int} (hL : L = l) (hH : H = h) (h1 : l ≤ h) (h2 : h ≤ cap) : (Instr.sliceBounds true len cap (some (.int kl L)) (some (.int kh H)) none).run P w = .ok (l, h, cap) w := by
 subst hL hH
 simp [Instr.sliceBounds, run_sliceBound, h1, h2]
theorem sb_h (w : World) {len cap h : Nat} (kh : IntKind) {H : Int} (hH : H = h) (h2 : h ≤ cap) : (Instr.sliceBounds true len cap none (some (.int kh H)) none).run P w = .ok (0, h, cap) w := by
 subst hH
 simp [Instr.sliceBounds, run_sliceBound, h2]
theorem sb_l (w : World) {len cap l : Nat} (kl : IntKind) {L : Int} (hL : L = l) (h1 : l ≤ len) : (Instr.sliceBounds true len cap (some (.int kl L)) none none).run P w = .ok (l, len, cap) w := by
 subst hL
 simp [Instr.sliceBounds, run_sliceBound, h1]
theorem sb_lhm (w : World) {len cap l h m : Nat} (kl kh km : IntKind) {L H M : Int} (hL : L = l) (hH : H = h) (hM : M = m) (h1 : l ≤ h) (h2 : h ≤ m) (h3 : m ≤ cap) : (Instr.sliceBounds true len cap (some (.int kl L)) (some (.int kh H)) (some (.int km M))).run P w = .ok (l, h, m) w := by
 subst hL hH hM
 simp [Instr.sliceBounds, run_sliceBound, h1, h2, h3]
theorem exec_slice {A A' : Option Addr} {len cap l h m n' c' s : Nat} (t e : TypeId) (x : Operand) (lo hi mx : Option Operand) (ho : o.op = .slice t x lo hi mx) (hx : a.eval x = .slice A len cap) (ht : P.underlying t = some (.slice e)) (hs : (P.info? e).map (·.size) = some s)
  (hb : (Instr.sliceBounds true len cap (lo.map a.eval) (hi.map a.eval) (mx.map a.eval)).run P w = .ok (l, h, m) w) (hA : (if m = l then A else A.map (·.add (l * s))) = A') (hn : h - l = n') (hc : m - l = c') : (execOp a.eval o).run P w = .ok (.value (.slice A' n' c')) w := by
 subst hA hn hc
 obtain ⟨i, hi2, hs2⟩ : ∃ i, P.info? e = some i ∧ i.size = s := by
  cases hq : P.info? e with
  | none => simp [hq] at hs
  | some i => exact ⟨i, rfl, by simpa [hq] using hs⟩
 unfold execOp
 simp only [ho, hx]
 simp [Instr.sliceAt, Instr.slice, run_underlying ht, hb, sizeOf, typeInfo, hi2, hs2]
theorem wp_append_room (s x : Operand) (t : TypeId) (ho : o.op = .call { callee := .builtin .append, args := #[s, x], argTypes := #[t, t] })
  (base : Nat) (e : TypeId) (size : Nat) (ht : P.underlying t = some (.slice e)) (hs : (P.info? e).map (·.size) = some size)
  (g n cap : Nat) (xs : List Value) (hsv : a.eval s = .slice (some ⟨g, 0, none⟩) n cap) (hown : w.ownsRow base e size (.slice (some ⟨g, 0, none⟩) n cap) n xs)
  (B : Nat) (A : Option Addr) (m c : Nat) (ys : List Value) (hx : a.eval x = .slice A m c) (hy : Reads w B size A m ys) (h1 : ∀ u ∈ ys, u.oneCell' = true) (hroom : n + m ≤ cap)
  (n2 : Nat) (zs : List Value) (hn2 : n + m = n2) (hzs : xs ++ ys = zs)
  (h : ∀ w', w'.ownsRow base e size (.slice (some ⟨g, 0, none⟩) n2 cap) n2 zs → Upd [g] w w' → K (a.put o.dst (.slice (some ⟨g, 0, none⟩) n2 cap)) w') : o.wp P a w K Q := by
 subst hn2 hzs
 obtain ⟨i, hi2, hs2⟩ : ∃ i, P.info? e = some i ∧ i.size = size := by
  cases hq : P.info? e with
  | none => simp [hq] at hs
  | some i => exact ⟨i, rfl, by simpa [hq] using hs⟩
 have key : ∃ w', (Builtin.append_ #[t, t] o.type #[.slice (some ⟨g, 0, none⟩) n cap, .slice A m c]).run P w = .ok (.slice (some ⟨g, 0, none⟩) (n + m) cap) w' ∧
   w'.ownsRow base e size (.slice (some ⟨g, 0, none⟩) (n + m) cap) (n + m) (xs ++ ys) ∧ w.grownBy w' (some g) := by
  rcases A with _ | ad
  ·have hm : m = 0 := by
    rcases Nat.eq_zero_or_pos m with h0 | h0
    ·exact h0
    ·obtain ⟨ad, h, _⟩ := hy.2 h0
     cases h
   subst hm
   have hn : ys = [] := List.eq_nil_of_length_eq_zero (by simpa using hy.1)
   subst hn
   exact ⟨w, run_append_of_nil w base t o.type e i size ht hi2 _ n xs hown c, by simpa using hown, World.grownBy.refl w _⟩
  ·have hcells : ∀ j u, ys[j]? = some u → w.cell? (ad.add j) = some u := by
    intro j u hu
    rcases Nat.eq_zero_or_pos m with h0 | h0
    ·subst h0
     have hn : ys = [] := List.eq_nil_of_length_eq_zero (by simpa using hy.1)
     subst hn
     simp at hu
    ·obtain ⟨ad', h, _, hc⟩ := hy.2 h0
     injection h with h
     subst h
     exact hc j u hu
   exact run_append_fits w base t o.type e i size ht hi2 hs2 g n cap xs hown ad m c ys hy.1 hcells h1 hroom
 obtain ⟨w', hr, h2, h3⟩ := key
 unfold Oper.wp execOp
 simp only [ho, resolve, invoke, builtin, Sem.run_bind, Sem.run_pure, Result.andThen_ok, List.map_toArray, List.map_cons, List.map_nil, hsv, hx, hr]
 refine h w' h2 ?_
 have := Upd.of_grown (A := some ⟨g, 0, none⟩) (n := n) (c := cap) (w := w) (w' := w') (by simpa [Value.ownBlock] using h3)
 simpa [blkOf] using this
def cutA (c l : Nat) (A : Option Addr) (s : Nat) : Option Addr := if c = l then A else A.map (·.add (l * s))
theorem reads_cut {w : World} {B size n k cap : Nat} {A : Option Addr} {xs : List Value} (h : Reads w B size A n xs) (hk : k ≤ n) (hc : n ≤ cap) : Reads w B size (cutA cap k A size) (n - k) (xs.drop (k * size)) := Reads.cut h hk hc
theorem own_base {w : World} {lo lo' n c size : Nat} {e : TypeId} {A : Option Addr} {xs : List Value} (h : w.ownsRow lo e size (.slice A n c) n xs) (hb : lo' ≤ lo) : w.ownsRow lo' e size (.slice A n c) n xs := by
 refine ⟨h.1, ?_⟩
 rcases h.2 with h2 | ⟨g, cap, cur, hv, hbg, rest⟩
 ·exact .inl h2
 ·exact .inr ⟨g, cap, cur, hv, by omega, rest⟩
theorem own_empty {g lo size : Nat} {e : TypeId} (h : Blk w g e #[]) (hb : lo ≤ g) : w.ownsRow lo e size (.slice (some ⟨g, 0, none⟩) 0 0) 0 [] :=
 ⟨by simp, .inr ⟨g, 0, #[], rfl, hb, h, by omega, by unfold maxLen; omega, by simp, by simp⟩⟩
theorem own_addr {w : World} {lo n c size : Nat} {e : TypeId} {A : Option Addr} {xs : List Value} (h : w.ownsRow lo e size (.slice A n c) n xs) (hn : 0 < n) : ∃ g, A = some ⟨g, 0, none⟩ := by
 rcases own_at h with ⟨_, h0, _⟩ | ⟨g, _, rfl, _⟩
 ·omega
 ·exact ⟨g, rfl⟩
theorem erase_rows {α : Type} {enc : α → List Value} {k : Nat} (hk : ∀ a, (enc a).length = k) {ls : List α} {i : Nat} (hi : i < ls.length) : (rowsOf enc ls).take (i * k) ++ (rowsOf enc ls).drop ((i + 1) * k) = rowsOf enc (ls.eraseIdx i) := by
 rw [rowsOf_take hk (by omega), rowsOf_drop hk (by omega), ← rowsOf_append, List.eraseIdx_eq_take_drop_succ]
theorem own_reads_since {w w' : World} {B size n : Nat} {A : Option Addr} {xs : List Value} (k : Since w w') (hB : B ≤ w.heap.size) (h : Reads w B size A n xs) : Reads w' B size A n xs := h.below (k.below.mono hB)
theorem reads_blk {g m size : Nat} {t : TypeId} {cs : List Value} (h : Blk w g t cs.toArray) (hl : cs.length = m * size) : Reads w w.heap.size size (some ⟨g, 0, none⟩) m cs :=
 ⟨hl, fun _ => ⟨_, rfl, h.lt, fun j u hu => by rw [Go.WideShapes.add_plain, Nat.zero_add, h.cell]; simpa using hu⟩⟩
end
end Ba
namespace Ba
open Go.RowKit Mem
def el (P : List Value) (cs : Array Value) (S : List Value) : Array Value := (P ++ cs.toList ++ S).toArray
section
variable {P S : List Value} {cs cs' : Array Value} {off j n : Nat} {v : Value} {l vs : List Value}
theorem el_at (hp : P.length = off) (h : cs[j]? = some v) : (el P cs S)[off + j]? = some v := by
 subst hp
 have hj : j < cs.size := by
  rcases Nat.lt_or_ge j cs.size with h1 | h1
  ·exact h1
  ·rw [Array.getElem?_eq_none h1] at h; cases h
 simp only [el, List.getElem?_toArray, List.append_assoc]
 rw [List.getElem?_append_right (by omega), Nat.add_sub_cancel_left, List.getElem?_append_left (by simpa using hj)]
 simpa using h
theorem el_size : (el P cs S).size = P.length + cs.size + S.length := by simp [el]; omega
theorem el_lt (hp : P.length = off) (h : j < cs.size) : off + j < (el P cs S).size := by rw [el_size]; omega
theorem el_le (hp : P.length = off) (h : j + n ≤ cs.size) : off + j + n ≤ (el P cs S).size := by rw [el_size]; omega
theorem el_set (hp : P.length = off) (h : j < cs.size) (hc : cs.setIfInBounds j v = cs') : (el P cs S).setIfInBounds (off + j) v = el P cs' S := by
 subst hp hc
 unfold el
 rw [List.setIfInBounds_toArray, List.append_assoc, List.append_assoc, List.set_append_right _ _ (by omega), Nat.add_sub_cancel_left, List.set_append_left _ _ (by simpa using h)]
 simp
theorem el_put : ∀ {vs : List Value} {j : Nat} {cs cs' : Array Value}, P.length = off → j + vs.length ≤ cs.size → putAt cs j vs = cs' → putAt (el P cs S) (off + j) vs = el P cs' S
 | [], _, _, _, _, _, hc => by subst hc; rfl
 | v :: r, j, cs, cs', hp, h, hc => by
  simp only [List.length_cons] at h
  unfold putAt at hc ⊢
  rw [el_set hp (by omega) rfl, Nat.add_assoc]
  exact el_put hp (by simp; omega) hc
theorem el_part (hp : P.length = off) (hl : (cs.toList.drop j).take n = l) (h : j + n ≤ cs.size) : ((el P cs S).toList.drop (off + j)).take n = l := by
 subst hp hl
 simp only [el, List.append_assoc]
 rw [List.drop_append, Nat.add_sub_cancel_left, List.drop_eq_nil_of_le (by omega), List.nil_append, List.drop_append_of_le_length (by simp; omega), List.take_append_of_le_length (by simp; omega)]
end
theorem own_el {α : Type} {enc : α → List Value} {k : Nat} (hk : ∀ a, (enc a).length = k) {w : World} {lo g n c i : Nat} {e : TypeId} {ls : List α}
  (h : w.ownsRow lo e k (.slice (some ⟨g, 0, none⟩) n c) n (rowsOf enc ls)) (hi : i < ls.length) :
  ∃ P S : List Value, P.length = 0 + i * k ∧ Blk w g e (el P (enc ls[i]).toArray S) ∧ ∀ a w', Blk w' g e (el P (enc a).toArray S) → w'.ownsRow lo e k (.slice (some ⟨g, 0, none⟩) n c) n (rowsOf enc (ls.set i a)) := by
 have hr := rowsOf_len hk ls
 rcases own_at h with ⟨h0, _⟩ | ⟨g', cur, hA, hb, B, hn, hc, hs, ht⟩
 ·cases h0
 ·have hg : g' = g := by injection hA with hA; injection hA with hA; exact hA.symm
  subst hg
  have hlen : (rowsOf enc ls).length = n * k := h.1
  have hnl : ls.length * k = n * k := by rw [← hr, hlen]
  have hik : i * k + k ≤ n * k := by rw [← hnl, ← Nat.succ_mul]; exact Nat.mul_le_mul_right _ hi
  have hck : n * k ≤ c * k := Nat.mul_le_mul_right _ hn
  have hcl : cur.toList.length = c * k := by simpa using hs
  have hel : (cur.toList.drop (i * k)).take k = enc ls[i] := by
   have h1 := rowsOf_at hk hi
   rw [← h1, ← ht, List.drop_take, List.take_take, Nat.min_eq_left (by omega)]
  refine ⟨cur.toList.take (i * k), cur.toList.drop (i * k + k), by rw [List.length_take, Nat.zero_add]; omega, ?_, ?_⟩
  ·have : el (cur.toList.take (i * k)) (enc ls[i]).toArray (cur.toList.drop (i * k + k)) = cur := by
    unfold el
    rw [← hel]
    apply Array.ext'
    simp only [List.toList_toArray]
    rw [← List.drop_drop, List.append_assoc, List.take_append_drop, List.take_append_drop]
   rw [this]; exact B
  ·intro a w' B'
   have hal := hk a
   refine ⟨by rw [rowsOf_len hk, List.length_set]; exact hnl, .inr ⟨g', c, _, rfl, hb, B', hn, hc, ?_, ?_⟩⟩
   ·rw [el_size]; simp only [List.length_take, List.length_drop, List.size_toArray, hal, hcl]; omega
   ·simp only [el, List.toList_toArray]
    have hL1 : (cur.toList.take (i * k)).length = i * k := by rw [List.length_take]; omega
    rw [rowsOf_set hk hi a, ← ht, List.take_take, Nat.min_eq_left (by omega), List.append_assoc, List.take_append, hL1, List.take_of_length_le (by omega), List.take_append, hal, List.take_of_length_le (l := enc a) (by omega), List.drop_take, Nat.sub_sub]
end Ba
end Go.Proofs.YtpiiblkiddcgcaaGreat
