/-
  What is wanted by the last of these texts, part 0.
  No condition.
-/
import Derived.WalkKit
import Derived.ProofKit
import Derived.OpenShut
import Derived.WalkLawsBesides
import Derived.IntWalk
import Derived.Below
import Derived.Lib.Hide
import Derived.Outline
import Derived.BigQuiet
import Derived.Deep.QuietTactic
import Derived.Deep.RegionHeld3
import Derived.Deep.DeepCutAuto
import Derived.Laws.OwnMore
import Derived.Deep.AppendLies
import Derived.Deep.Draws
import Derived.Laws.Rows
import Derived.Maps.AppendAt
import Derived.RegionTactic
import Derived.OwnWalk
import Derived.Laws.CopyOwn
import Derived.Deep.MidRow
import Derived.OrdersHeld
import Derived.Deep.RegionHeld
import Derived.Deep.Cut
import Derived.Laws.BytesArg
import Derived.ChangeKeysEq
namespace Go.Proofs.Ytggafipgfgbbiaa.Opn
set_option linter.unusedVariables false
set_option linter.unusedSimpArgs false
open Go.RowKit
section
variable {P : Program} {W : World} {base : Nat}
/-- The cells of a struct that came in, each fit for its type. -/
theorem open_agg {t : TypeId} {v : Value} {ts : List TypeId} {fs} (hu : P.underlying t = some (.struct fs)) (hts : P.cellTypes P.depth t = some ts) (hn : P.cellsOf t = ts.length) (h : Value.okWide P W .any base t v) :
    ∃ cs : Array Value, v = .agg cs ∧ cs.size = ts.length ∧ ∀ (i : Nat) (u : TypeId), ts[i]? = some u → ∃ c, cs[i]? = some c ∧ Cell.okWide P W .any base u c := by
  unfold Value.okWide at h
  rw [hu] at h
  obtain ⟨cs, rfl, hsz, ts', hts', _, hc⟩ := h
  rw [hts] at hts'
  obtain rfl : ts = ts' := by injection hts'
  refine ⟨cs, rfl, by omega, fun i u hi => ?_⟩
  obtain ⟨hlt, _⟩ := List.getElem?_eq_some_iff.1 hi
  have hcs : cs[i]? = some (cs[i]'(by omega)) := Array.getElem?_eq_getElem (by omega)
  obtain ⟨u', hu', hok⟩ := hc i _ hcs
  rw [Nat.mod_eq_of_lt hlt, hi] at hu'
  obtain rfl : u = u' := by injection hu'
  exact ⟨_, hcs, hok⟩
theorem cell_int {u : TypeId} {k : IntKind} {c : Value} (hu : P.underlying u = some (.int k)) (h : Cell.okWide P W .any base u c) : ∃ x, c = .int k x ∧ (Lit.int k x).wf = true := by
  unfold Cell.okWide at h
  rw [hu] at h
  simp only at h
  unfold Cell.ok at h
  rw [hu] at h
  cases c with
  | int k' x =>
    simp only at h
    obtain ⟨rfl, hx⟩ := h
    exact ⟨x, rfl, by simpa [Lit.wf, IntKind.has] using hx⟩
  | _ => simp at h
/-- An array of known cells. -/
theorem arr_of {cs : Array Value} {l : List Value} (hn : cs.size = l.length) (h : ∀ (i : Nat) (c : Value), l[i]? = some c → cs[i]? = some c) : cs = l.toArray := by
  apply Array.ext_getElem?
  intro i
  rcases Nat.lt_or_ge i l.length with hi | hi
  · have e := List.getElem?_eq_getElem hi
    rw [h i _ e]
    simp [hi]
  · rw [Array.getElem?_eq_none (by omega)]
    simp [hi]
/-- Cells from a place on. -/
def Each (cs : Array Value) (i : Nat) (l : List Value) : Prop := ∀ (j : Nat) (c : Value), l[j]? = some c → cs[i + j]? = some c
theorem each_nil {cs : Array Value} {i : Nat} : Each cs i [] := fun _ _ h => by simp at h
theorem each_cons {cs : Array Value} {i : Nat} {c : Value} {l : List Value} (h : cs[i]? = some c) (k : Each cs (i + 1) l) : Each cs i (c :: l) := by
  intro j d hd
  cases j with
  | zero =>
    have : c = d := by simpa using hd
    subst this; exact h
  | succ j =>
    have e : i + (j + 1) = i + 1 + j := by omega
    rw [e]
    exact k j d (by simpa using hd)
theorem arr_each {cs : Array Value} {l : List Value} (hn : cs.size = l.length) (h : Each cs 0 l) : cs = l.toArray :=
  arr_of hn fun i c hi => by have := h i c hi; rwa [Nat.zero_add] at this
end
end Go.Proofs.Ytggafipgfgbbiaa.Opn
namespace Go.Proofs.Ytggafipgfgbbiaa.Ba
set_option linter.unusedVariables false
set_option linter.unusedSimpArgs false
open Go.RowKit
theorem ret_int {k : IntKind} {a b : Int} (h : a = b) : Ending.returned (.int k a) = .returned (.int k b) := by rw [h]
theorem ret_bool {a b : Bool} (h : a = b) : Ending.returned (.bool a) = .returned (.bool b) := by rw [h]
theorem quiet_eq {P : Program} {f : FuncId} {args : Array Value} {w : World} {n : Nat} {v : Value}
    (h : Calls P f args (w.drewN n) fun e w' => e = .returned v ∧ w.drewN n = w') : Calls P f args (w.drewN n) fun e w'' => e = .returned v ∧ ∃ m, w'' = w.drewN m :=
  h.mono fun _ _ ⟨he, hm⟩ => ⟨he, n, hm.symm⟩
/-- W' is W with new memory at most. -/
def Since (W W' : World) : Prop := Below W.heap.size W W'
theorem Since.refl (W : World) : Since W W := Below.refl _ _
theorem Since.drew {W w : World} (h : Since W w) : Since W w.drew := Below.drew h
theorem Since.drewN {W w : World} (h : Since W w) (n : Nat) : Since W (w.drewN n) := Below.trans (show Below W.heap.size W w from h) ⟨rfl, rfl, rfl, Nat.le_refl _, fun _ _ => rfl⟩
theorem Since.trans {a b c : World} (h : Since a b) (k : Since b c) : Since a c := Below.trans (show Below a.heap.size a b from h) (Below.mono k (show Below a.heap.size a b from h).size)
theorem Since.alloc {W w : World} (h : Since W w) (o : Obj) : Since W (w.alloc o) := Below.alloc h (show Below W.heap.size W w from h).size o
theorem Since.setCell {W w : World} (h : Since W w) {p : Addr} (hp : W.heap.size ≤ p.block) (u : Value) : Since W (w.setCell p u) := Below.setCell h hp u
theorem Since.size {W w : World} (h : Since W w) : W.heap.size ≤ w.heap.size := (show Below W.heap.size W w from h).size
theorem Since.below {W w : World} (h : Since W w) : Below W.heap.size W w := h
theorem Since.cell {W w : World} (h : Since W w) {p : Addr} (hp : p.block < W.heap.size) : w.cell? p = W.cell? p := (show Below W.heap.size W w from h).cell hp
theorem Since.frozen {W w : World} (h : Since W w) {p : Addr} (hp : p.block < W.heap.size) : w.frozen? p = W.frozen? p := (show Below W.heap.size W w from h).frozen hp
/-- A cell that was there is as it was. -/
theorem keep_cell {W W' : World} {a : Addr} {v : Value} (k : Since W W') (h : W.cell? a = some v) : W'.cell? a = some v := by
  rw [k.cell (World.block_lt_of_cell? _ _ h)]; exact h
end Go.Proofs.Ytggafipgfgbbiaa.Ba
namespace Go.Proofs.Ytggafipgfgbbiaa.Ba
set_option linter.unusedVariables false
set_option linter.unusedSimpArgs false
open Go.RowKit
theorem set_same {W : World} {a : Addr} {u x : Value} (h : W.cell? a = some x) : (W.setCell a u).cell? a = some u := by
  exact World.cell?_setCell_same _ _ _ h
end Go.Proofs.Ytggafipgfgbbiaa.Ba
namespace Go.Proofs.Ytggafipgfgbbiaa.Mem
set_option linter.unusedVariables false
set_option linter.unusedSimpArgs false
open Go.RowKit
theorem block_of_add (a : Addr) (n : Nat) : (a.add n).block = a.block := by unfold Addr.add; split <;> rfl
theorem add_of_add (a : Addr) (i j : Nat) : (a.add i).add j = a.add (i + j) := by
  unfold Addr.add
  by_cases hi : i = 0 <;> by_cases hj : j = 0 <;> simp [hi, hj, Nat.add_assoc]

def Reads (w : World) (B size : Nat) (A : Option Addr) (n : Nat) (xs : List Value) : Prop :=
  xs.length = n * size ∧ (0 < n → ∃ ad, A = some ad ∧ ad.block < B ∧ ∀ j u, xs[j]? = some u → w.cell? (ad.add j) = some u)

section
variable {w w' : World} {B B' size n : Nat} {A : Option Addr} {xs : List Value}
theorem Reads.at_ {k : Nat} (h : Reads w B 1 A n xs) (hk : k < n) : ∃ ad u, A = some ad ∧ ad.block < B ∧ xs[k]? = some u ∧ w.cell? (ad.add k) = some u := by
  obtain ⟨ad, e, hb, hc⟩ := h.2 (by omega)
  have hl : k < xs.length := by have := h.1; omega
  exact ⟨ad, xs[k], e, hb, List.getElem?_eq_getElem hl, hc k _ (List.getElem?_eq_getElem hl)⟩
theorem Reads.keep (h : Reads w B size A n xs) (hk : ∀ p : Addr, p.block < B → w'.cell? p = w.cell? p) : Reads w' B size A n xs :=
  ⟨h.1, fun hn => by
    obtain ⟨ad, e, hb, hc⟩ := h.2 hn
    exact ⟨ad, e, hb, fun j u hu => (hk _ (by rw [block_of_add]; exact hb)).trans (hc j u hu)⟩⟩
theorem Reads.below (h : Reads w B size A n xs) (hb : Below B w w') : Reads w' B size A n xs := h.keep fun _ hp => hb.cell hp
theorem Reads.drew (h : Reads w B size A n xs) : Reads w.drew B size A n xs := h
theorem Reads.drewN (h : Reads w B size A n xs) (k : Nat) : Reads (w.drewN k) B size A n xs := h
theorem Reads.alloc (h : Reads w B size A n xs) (hB : B ≤ w.heap.size) (o : Obj) : Reads (w.alloc o) B size A n xs := h.keep fun p hp => World.cell?_alloc_lt w o p (by omega)
theorem Reads.setCell (h : Reads w B size A n xs) {p : Addr} (hB : B ≤ p.block) (u : Value) : Reads (w.setCell p u) B size A n xs :=
  h.keep fun q hq => World.cell?_setCell_other w p q u (fun e => by subst e; omega)
theorem Reads.cut (h : Reads w B size A n xs) {k cap : Nat} (hk : k ≤ n) (hc : n ≤ cap) :
    Reads w B size (if cap = k then A else A.map (·.add (k * size))) (n - k) (xs.drop (k * size)) := by
  refine ⟨by rw [List.length_drop, h.1, Nat.sub_mul], fun hn => ?_⟩
  obtain ⟨ad, rfl, hb, hcell⟩ := h.2 (by omega)
  rw [if_neg (by omega)]
  refine ⟨ad.add (k * size), rfl, by rw [block_of_add]; exact hb, fun j u hu => ?_⟩
  rw [add_of_add]
  exact hcell _ u (by rw [← hu, List.getElem?_drop])
theorem Reads.of_own {base : Nat} {e : TypeId} {c : Nat} (h : w.ownsRow base e size (.slice A n c) n xs) : Reads w w.heap.size size A n xs := by
  refine ⟨h.1, fun hn => ?_⟩
  obtain ⟨g, cap, hv, _, hlt⟩ := h.form hn
  have hA : A = some ⟨g, 0, none⟩ := by injection hv
  subst hA
  exact ⟨_, rfl, hlt, h.cells (g := g) rfl⟩
end

def Blk (w : World) (g : Nat) (t : TypeId) (cs : Array Value) : Prop := w.heap[g]? = some (.cells cs t (0, 0))

section
variable {w w' : World} {g : Nat} {t : TypeId} {cs : Array Value}
theorem Blk.lt (h : Blk w g t cs) : g < w.heap.size := by
  rcases Nat.lt_or_ge g w.heap.size with hlt | hge
  · exact hlt
  · unfold Blk at h; rw [Array.getElem?_eq_none hge] at h; cases h
theorem Blk.cell (h : Blk w g t cs) (i : Nat) : w.cell? ⟨g, i, none⟩ = cs[i]? := cell_of_row w g i cs t (0, 0) h
theorem Blk.frozen (h : Blk w g t cs) (i : Nat) : w.frozen? ⟨g, i, none⟩ = false := by
  unfold Blk at h
  simp [World.frozen?, h]
theorem Blk.new (w : World) (t : TypeId) (cs : Array Value) : Blk (w.alloc (.cells cs t)) w.heap.size t cs := heap_alloc_new w _
theorem Blk.drew (h : Blk w g t cs) : Blk w.drew g t cs := h
theorem Blk.drewN (h : Blk w g t cs) (n : Nat) : Blk (w.drewN n) g t cs := h
theorem Blk.alloc (h : Blk w g t cs) (o : Obj) : Blk (w.alloc o) g t cs := (Below.heap_alloc w o g h.lt).trans h
theorem Blk.far (h : Blk w g t cs) {p : Addr} (hp : g ≠ p.block) (u : Value) : Blk (w.setCell p u) g t cs := (Below.heap_setCell w p u g hp).trans h
theorem Blk.below {B : Nat} (h : Blk w g t cs) (hb : Below B w w') (hg : g < B) : Blk w' g t cs := (hb.block g hg).trans h
theorem Blk.ne_ {g' : Nat} {t' : TypeId} {cs' : Array Value} (h : Blk w g t cs) (h' : Blk w g' t' cs') (hne : t ≠ t') : g ≠ g' := by
  rintro rfl
  unfold Blk at h h'
  rw [h] at h'
  injection h' with h'
  injection h' with _ ht
  exact hne ht
end

section
variable {P : Program} (w : World)

theorem run_append_of_nil (base : Nat) (t ty e : TypeId) (i : TypeInfo) (size : Nat) (ht : P.underlying t = some (.slice e)) (hi : P.info? e = some i)
    (v : Value) (n : Nat) (xs : List Value) (hown : w.ownsRow base e size v n xs) (c : Nat) : (Builtin.append_ #[t, t] ty #[v, .slice none 0 c]).run P w = .ok v w := by
  rcases hown.2 with ⟨rfl, rfl⟩ | ⟨g, cap, cur, rfl, _, _, hnc, _⟩
  · simp [Builtin.append_, run_underlying ht, sizeOf, typeInfo, hi, Builtin.lenOf, Builtin.firstCells]
  · simp [Builtin.append_, run_underlying ht, sizeOf, typeInfo, hi, Builtin.lenOf, Builtin.firstCells, hnc, storeCells]

theorem run_append_any (base : Nat) (t ty e : TypeId) (i : TypeInfo) (z : Value) (size bytes : Nat) (ht : P.underlying t = some (.slice e)) (hi : P.info? e = some i) (hz : i.zero = some z)
    (hsize : i.size = size) (hby : i.bytes = bytes) (hzs : z.cells.size = size) (hsz : 0 < size)
    (v : Value) (n : Nat) (xs : List Value) (hown : w.ownsRow base e size v n xs)
    (B : Nat) (A : Option Addr) (m c : Nat) (news : List Value) (hr : Reads w B size A m news) (h1 : ∀ u ∈ news, u.oneCell' = true)
    (h63 : n + m ≤ maxLen) (hbytes : (n + m) * bytes ≤ 140737488355328) (hbase : base ≤ w.heap.size) :
    ∃ v' w', (Builtin.append_ #[t, t] ty #[v, .slice A m c]).run P w = .ok v' w' ∧ w'.ownsRow base e size v' (n + m) (xs ++ news) ∧ w.grownBy w' v.ownBlock ∧
      (v'.ownBlock = v.ownBlock ∨ v'.ownBlock = some w.heap.size) := by
  rcases A with _ | ad
  · have hm : m = 0 := by
      rcases Nat.eq_zero_or_pos m with h0 | h0
      · exact h0
      · obtain ⟨ad, h, _⟩ := hr.2 h0
        cases h
    subst hm
    have hn : news = [] := List.eq_nil_of_length_eq_zero (by simpa using hr.1)
    subst hn
    exact ⟨v, w, run_append_of_nil w base t ty e i size ht hi v n xs hown c, by simpa using hown, World.grownBy.refl w _, .inl rfl⟩
  · have hcells : ∀ j u, news[j]? = some u → w.cell? (ad.add j) = some u := by
      intro j u hu
      rcases Nat.eq_zero_or_pos m with h0 | h0
      · subst h0
        have hn : news = [] := List.eq_nil_of_length_eq_zero (by simpa using hr.1)
        subst hn
        simp at hu
      · obtain ⟨ad', h, _, hc⟩ := hr.2 h0
        injection h with h
        subst h
        exact hc j u hu
    obtain ⟨v', w', hrun, h2, h3, _, h5⟩ := run_append_own_at (P := P) w base t ty e i z size bytes ht hi hz hsize hby hzs hsz v n xs hown ad m c news hr.1 hcells h1 h63 hbytes hbase
    exact ⟨v', w', hrun, h2, h3, h5⟩

theorem wp_append_any {o : Oper} {a : Act} {K : Act → World → Prop} {Q : Exit → Act → World → Prop} (s x : Operand) (t : TypeId)
    (ho : o.op = .call { callee := .builtin .append, args := #[s, x], argTypes := #[t, t] })
    (base : Nat) (e : TypeId) (i : TypeInfo) (z : Value) (size bytes : Nat) (ht : P.underlying t = some (.slice e)) (hi : P.info? e = some i) (hz : i.zero = some z)
    (hsize : i.size = size) (hby : i.bytes = bytes) (hzs : z.cells.size = size) (hsz : 0 < size)
    (v : Value) (n : Nat) (xs : List Value) (hs : a.eval s = v) (hown : w.ownsRow base e size v n xs)
    (B : Nat) (A : Option Addr) (m c : Nat) (news : List Value) (hx : a.eval x = .slice A m c) (hr : Reads w B size A m news) (h1 : ∀ u ∈ news, u.oneCell' = true)
    (h63 : n + m ≤ maxLen) (hbytes : (n + m) * bytes ≤ 140737488355328) (hbase : base ≤ w.heap.size)
    (h : ∀ v' w', w'.ownsRow base e size v' (n + m) (xs ++ news) → w.grownBy w' v.ownBlock → (v'.ownBlock = v.ownBlock ∨ v'.ownBlock = some w.heap.size) → K (a.put o.dst v') w') : o.wp P a w K Q := by
  obtain ⟨v', w', hrun, h2, h3, h4⟩ := run_append_any (P := P) w base t o.type e i z size bytes ht hi hz hsize hby hzs hsz v n xs hown B A m c news hr h1 h63 hbytes hbase
  unfold Oper.wp execOp
  simp only [ho, resolve, invoke, builtin, Sem.run_bind, Sem.run_pure, Result.andThen_ok, List.map_toArray, List.map_cons, List.map_nil, hs, hx, hrun]
  exact h v' w' h2 h3 h4

end
end Go.Proofs.Ytggafipgfgbbiaa.Mem
namespace Go.Proofs.Ytggafipgfgbbiaa.Ba
set_option linter.unusedVariables false
set_option linter.unusedSimpArgs false
open Go.RowKit Go.Proofs.Ytggafipgfgbbiaa.Mem
theorem keep_blk {W W' : World} {g : Nat} {t : TypeId} {cs : Array Value} (k : Since W W') (h : Blk W g t cs) : Blk W' g t cs := h.below k h.lt
/-- A whole struct is loaded. -/
theorem exec_load_row {P : Program} {o : Oper} {a : Act} {w : World} {g : Nat} {t : TypeId} {cs : Array Value} (ty : TypeId) (x : Operand) (d : TypeDesc) (hg : Blk w g t cs) (ho : o.op = .load ty x) (hx : a.eval x = .pointer (some ⟨g, 0, none⟩))
    (hu : P.underlying ty = some d) (hd : (match d with | .struct _ | .array _ _ => true | _ => false) = true) (hi : (P.info? ty).map (·.size) = some cs.size) : (execOp a.eval o).run P w = .ok (.value (.agg cs)) w := by
  unfold execOp
  simp only [ho, hx, Instr.loadAt, Instr.sureAddr, Sem.run_bind, Sem.run_pure, Result.andThen_ok, run_loadVar_row w g t ty cs (0, 0) d hg hu hd hi]
/-- A step that yields, of a region in the text's order. -/
theorem wpList_q {P : Program} {ops : Array Oper} {rest : List Oper} {o : Oper} {a : Act} {w : World} {Q : Exit → Act → World → Prop} (hw : Region.wanted o (yielded ops a.tmps) = true) (v : Value) (he : (execOp a.eval o).run P w = .ok (.value v) w)
    (h : wpList P ops Q rest (a.put o.dst v) w) : wpList P ops Q (o :: rest) a w :=
  wpList_step fun K hK => by
    rw [if_pos hw]
    unfold Oper.wp
    rw [he]
    exact hK _ _ h
theorem Since.setRow {W w : World} (h : Since W w) {g : Nat} (hg : W.heap.size ≤ g) (cs : Array Value) : Since W (w.setRow g cs) := below_setRow (show Below W.heap.size W w from h) hg cs
theorem Blk.row {w : World} {g : Nat} {t : TypeId} {cs : Array Value} (h : Blk w g t cs) (cs' : Array Value) : Blk (w.setRow g cs') g t cs' := setRow_heap w g cs cs' t (0, 0) h
theorem Blk.row_far {w : World} {g k : Nat} {t : TypeId} {cs : Array Value} (h : Blk w g t cs) (hk : g ≠ k) (cs' : Array Value) : Blk (w.setRow k cs') g t cs := (setRow_other w k g cs' hk).trans h
end Go.Proofs.Ytggafipgfgbbiaa.Ba
namespace Go.Proofs.Ytggafipgfgbbiaa.Ba
set_option linter.unusedVariables false
set_option linter.unusedSimpArgs false
open Go.RowKit Go.Proofs.Ytggafipgfgbbiaa.Mem
theorem sA {α : Type} (l : List α) (i : Nat) (a : α) : l.toArray.setIfInBounds i a = (l.set i a).toArray := by simp
theorem sB {α : Type} (x : α) (l : List α) (a : α) : (x :: l).set 0 a = a :: l := rfl
theorem sC {α : Type} (x : α) (l : List α) (n : Nat) (a : α) : (x :: l).set (n + 1) a = x :: l.set n a := rfl
theorem gA {α : Type} (l : List α) (i : Nat) : l.toArray[i]? = l[i]? := by simp
theorem gB {α : Type} (x : α) (l : List α) : (x :: l)[0]? = some x := by simp
theorem gC {α : Type} (x : α) (l : List α) (i : Nat) : (x :: l)[i + 1]? = l[i]? := by simp
theorem size_alloc (w : World) (o : Obj) : (w.alloc o).heap.size = w.heap.size + 1 := by simp
theorem Blk.at_ {w : World} {n : Nat} (h : w.heap.size = n) (t : TypeId) (cs : Array Value) : Blk (w.alloc (.cells cs t)) n t cs := h ▸ Blk.new w t cs
/-- A block of so many cells, whatever they hold. -/
def HasRow (w : World) (g : Nat) (t : TypeId) (n : Nat) : Prop := ∃ old : Array Value, Blk w g t old ∧ old.size = n
theorem HasRow.of {w : World} {g n : Nat} {t : TypeId} {cs : Array Value} (h : Blk w g t cs) (hn : cs.size = n) : HasRow w g t n := ⟨cs, h, hn⟩
theorem HasRow.keep {W W' : World} {g n : Nat} {t : TypeId} (k : Since W W') (h : HasRow W g t n) : HasRow W' g t n := by
  obtain ⟨old, B, hn⟩ := h
  exact ⟨old, keep_blk k B, hn⟩
theorem HasRow.row_far {w : World} {g k n : Nat} {t : TypeId} (h : HasRow w g t n) (hk : g ≠ k) (cs' : Array Value) : HasRow (w.setRow k cs') g t n := by
  obtain ⟨old, B, hn⟩ := h
  exact ⟨old, Blk.row_far B hk cs', hn⟩
section
variable {P : Program} {o : Oper} {a : Act} {w : World} {K : Act → World → Prop} {Q : Exit → Act → World → Prop}
theorem range_of {g i n : Nat} {t : TypeId} {cs : Array Value} {l : List Value} (h : Blk w g t cs) (hl : (cs.toList.drop i).take n = l) (hn : l.length = n) : w.rangeAt g i l := fun j v hv => by
  rw [Blk.cell h]
  have hj : j < n := by rw [← hn]; exact (List.getElem?_eq_some_iff.1 hv).1
  rw [← hl, List.getElem?_take, if_pos hj, List.getElem?_drop] at hv
  simpa using hv
/-- A cell is loaded. -/
theorem exec_cell {g i : Nat} {t : TypeId} {cs : Array Value} {v : Value} (ty : TypeId) (x : Operand) (d : TypeDesc) (hg : Blk w g t cs) (hv : cs[i]? = some v) (ho : o.op = .load ty x) (hx : a.eval x = .pointer (some ⟨g, i, none⟩))
    (hu : P.underlying ty = some d) (hd : (match d with | .struct _ | .array _ _ => true | _ => false) = false) : (execOp a.eval o).run P w = .ok (.value v) w := by
  have hc : w.cell? ⟨g, i, none⟩ = some v := (Blk.cell hg i).trans hv
  have hagg : (isAgg ty).run P w = .ok false w := by
    unfold isAgg
    rw [Sem.run_bind, run_underlying hu w]
    cases d <;> simp_all
  unfold execOp
  simp only [ho, hx, Instr.loadAt, Instr.sureAddr, Sem.run_bind, Sem.run_pure, Result.andThen_ok]
  simp [loadVar, Sem.run_bind, hagg, hc]
/-- A part of a block is loaded. -/
theorem exec_part {g i n : Nat} {t : TypeId} {cs : Array Value} {l : List Value} (ty : TypeId) (x : Operand) (d : TypeDesc) (hg : Blk w g t cs) (hl : (cs.toList.drop i).take n = l) (hn : l.length = n) (ho : o.op = .load ty x) (hx : a.eval x = .pointer (some ⟨g, i, none⟩))
    (hu : P.underlying ty = some d) (hd : d.isRow = true) (hi : (P.info? ty).map (·.size) = some l.length) : (execOp a.eval o).run P w = .ok (.value (.agg l.toArray)) w := by
  unfold execOp
  simp only [ho, hx, Instr.loadAt, Instr.sureAddr, Sem.run_bind, Sem.run_pure, Result.andThen_ok, run_loadVar_mid w g i ty l d (range_of hg hl hn) hu hd hi]
/-- A cell is stored. -/
theorem wp_st_cell (ty : TypeId) (x y : Operand) (ho : o.op = .store ty x y) {g i : Nat} {t : TypeId} {cs : Array Value} (cs' : Array Value) (v : Value) (hx : a.eval x = .pointer (some ⟨g, i, none⟩)) (hy : a.eval y = v) (hg : Blk w g t cs)
    (hlt : i < cs.size) (hcs : cs.setIfInBounds i v = cs') (h1 : v.oneCell' = true) (hi : (P.info? ty).map (·.size) = some 1) (h : ∀ w', w' = w.setRow g cs' → K (a.put o.dst undef) w') : o.wp P a w K Q := by
  have hcell : w.cell? ⟨g, i, none⟩ = some cs[i] := by rw [Blk.cell hg]; simp [hlt]
  have hfro : w.frozen? ⟨g, i, none⟩ = false := Blk.frozen hg i
  have hst : (store ⟨g, i, none⟩ v).run P w = .ok () (w.setRow g cs') := by
    rw [run_store P w _ v _ h1, hcell]
    simp [hfro, setCell_eq_setRow w g i cs t (0, 0) v hg, hcs]
  have hsv : (storeVar ty ⟨g, i, none⟩ v).run P w = .ok () (w.setRow g cs') := by
    cases hq : P.info? ty with
    | none => simp [hq] at hi
    | some inf =>
      have hs : inf.size = 1 := by simpa [hq] using hi
      have hvc : v.cells = #[v] := by cases v <;> simp_all [Value.oneCell', Value.cells]
      have hadd : (⟨g, i, none⟩ : Addr).add 0 = ⟨g, i, none⟩ := by simp [Addr.add]
      simp [storeVar, sizeOf, typeInfo, hq, hvc, hs, storeCells, hadd, hst]
  unfold Oper.wp execOp
  simp only [ho, hx, hy, Instr.storeAt, Instr.sureAddr, Sem.run_bind, Sem.run_pure, Result.andThen_ok, hsv]
  exact h _ rfl
/-- A whole row is stored. -/
theorem wp_st_row (ty : TypeId) (x y : Operand) (ho : o.op = .store ty x y) {g n : Nat} {t : TypeId} (cells : Array Value) (hx : a.eval x = .pointer (some ⟨g, 0, none⟩)) (hy : a.eval y = .agg cells) (hg : HasRow w g t n)
    (hn : cells.size = n) (h1 : cells.all (·.oneCell') = true) (hi : (P.info? ty).map (·.size) = some cells.size) (h : ∀ w', w' = w.setRow g cells → K (a.put o.dst undef) w') : o.wp P a w K Q := by
  obtain ⟨old, B, hs⟩ := hg
  exact wp_store_row ty x y ho g cells hx hy t old B hi (by omega) h1 (h _ rfl)
/-- A step that makes a block. -/
theorem wp_new (mk : Nat → Value) (t : TypeId) (cs : Array Value) (he : ∀ b, b = w.heap.size → (execOp a.eval o).run P w = .ok (.value (mk b)) (w.alloc (.cells cs t)))
    (h : ∀ b w', w.heap.size ≤ b → Blk w' b t cs → Since w w' → K (a.put o.dst (mk b)) w') : o.wp P a w K Q := by
  unfold Oper.wp
  rw [he _ rfl]
  exact h _ _ (Nat.le_refl _) (Blk.new w t cs) ((Since.refl w).alloc _)
/-- A wanted step, by its own law. -/
theorem wpList_wp {ops : Array Oper} {rest : List Oper} (hw : Region.wanted o (yielded ops a.tmps) = true) (h : ∀ K : Act → World → Prop, Hid (∀ a w, wpList P ops Q rest a w → K a w) → o.wp P a w K Q) : wpList P ops Q (o :: rest) a w :=
  wpList_step fun K hK => by rw [if_pos hw]; exact h K (Lib.hid hK)
/-- A step that is not wanted. -/
theorem wpList_no {ops : Array Oper} {rest : List Oper} (hw : Region.wanted o (yielded ops a.tmps) = false) (h : wpList P ops Q rest (a.put o.dst undef) w) : wpList P ops Q (o :: rest) a w :=
  wpList_step fun K hK => by rw [if_neg (by rw [hw]; decide)]; exact hK _ _ h
end
section
variable {P : Program} {fn : Func}
/-- A struct and one plain result. -/
theorem results_row2 {p q : Tmp} {ty : TypeId} (h : fn.results = #[.cell p ty, .tmp q]) (tmps : Array Value) (w : World) (g : Nat) (t : TypeId) (cs : Array Value) (d : TypeDesc) (u : Value)
    (hp : tmps.getD p undef = .pointer (some ⟨g, 0, none⟩)) (hq : tmps.getD q undef = u) (hg : Blk w g t cs)
    (hu : P.underlying ty = some d) (hd : (match d with | .struct _ | .array _ _ => true | _ => false) = true) (hi : (P.info? ty).map (·.size) = some cs.size) :
    (results fn tmps).run P w = .ok (.tuple #[.agg cs, u]) w := by
  have hp' : tmps[p]?.getD undef = .pointer (some ⟨g, 0, none⟩) := by simpa using hp
  have hq' : tmps[q]?.getD undef = u := by simpa using hq
  simp [results, h, hp', hq', asAddr, run_loadVar_row w g t ty cs (0, 0) d hg hu hd hi]
end
end Go.Proofs.Ytggafipgfgbbiaa.Ba
namespace Go.Proofs.Ytggafipgfgbbiaa.Ba
set_option linter.unusedVariables false
set_option linter.unusedSimpArgs false
open Go.RowKit Go.Proofs.Ytggafipgfgbbiaa.Mem
section
variable {P : Program} {md : Region.Mode} {ops : Array Oper} {Q : Exit → Act → World → Prop} {S : World → Prop} {oi : Oper} {fuel : Nat} {listed : Array Bool} {a : Act} {w : World}
/-- What stays over new memory, and holds now. -/
def KeepS (S : World → Prop) (w : World) : Prop := (∀ W W' : World, Since W W' → S W → S W') ∧ S w
theorem KeepS.at_ (_ : KeepS S w) (W : World) (h : S W) : S W := h
theorem wp_held {id : Nat} (h : KeepS S w) (hm : P.follows .mixedOrders = true) (k : S w.drew → wpAnyH P .any ops Q S ops.size (Array.replicate ops.size false) a w.drew) : (Code.region id ops true).wp P Q a w :=
  wp_region_held_drew hm (h.1 _ _ ((Since.refl w).drew) h.2) k
/-- An operation that isn't carried out. -/
theorem tkU (i : Nat) (hS : S w) (hi : ops[i]? = some oi := by first | (simp only [gA, gB, gC]; done) | (simp only [gA, gB, gC]; exact rfl))
    (hs : Region.noSelect ops = true := by kernel_rfl) (hf : Region.free md ops listed i = true := by kernel_rfl) (hr : (Region.ready md ops listed).contains i = true := by kernel_rfl)
    (hQ : ∀ c a w, Q (.panic c) (a.put oi.dst undef) w → Q (.panic c) a w := by exact fun _ _ _ h => h) (hy : YieldsIf P ops S oi undef a := by exact Or.inr ⟨rfl, rfl⟩)
    (h : wpAnyH P md ops Q S fuel (listed.setIfInBounds i true) (a.put oi.dst undef) w) : wpAnyH P md ops Q S (fuel + 1) listed a w :=
  wpAnyH_take hi hs hf hr hQ hy hS h
/-- One that yields v. -/
theorem tkQ (i : Nat) (v : Value) (hS : S w) (hi : ops[i]? = some oi := by first | (simp only [gA, gB, gC]; done) | (simp only [gA, gB, gC]; exact rfl))
    (he : ∀ w, S w → (execOp a.eval oi).run P w = .ok (.value v) w := by intro w hSw; first | rfl | (go_simp; (try with_reducible rfl)))
    (hs : Region.noSelect ops = true := by kernel_rfl) (hf : Region.free md ops listed i = true := by kernel_rfl) (hr : (Region.ready md ops listed).contains i = true := by kernel_rfl)
    (hQ : ∀ c a w, Q (.panic c) (a.put oi.dst v) w → Q (.panic c) a w := by exact fun _ _ _ h => h) (hw : Region.wanted oi (yielded ops a.tmps) = true := by rfl)
    (h : wpAnyH P md ops Q S fuel (listed.setIfInBounds i true) (a.put oi.dst v) w) : wpAnyH P md ops Q S (fuel + 1) listed a w :=
  wpAnyH_take hi hs hf hr hQ (Or.inl ⟨hw, he⟩) hS h
end
section
variable {P : Program} {ops : Array Oper} {rest : List Oper} {o : Oper} {a : Act} {w : World} {Q : Exit → Act → World → Prop}
theorem tkL (v : Value) (he : (execOp a.eval o).run P w = .ok (.value v) w := by first | rfl | (go_simp; (try with_reducible rfl))) (hw : Region.wanted o (yielded ops a.tmps) = true := by rfl)
    (h : wpList P ops Q rest (a.put o.dst v) w) : wpList P ops Q (o :: rest) a w := wpList_q hw v he h
end
end Go.Proofs.Ytggafipgfgbbiaa.Ba
namespace Go.Proofs.Ytggafipgfgbbiaa.Ba
set_option linter.unusedVariables false
set_option linter.unusedSimpArgs false
open Go.RowKit Go.Proofs.Ytggafipgfgbbiaa.Mem
/-- These slots hold these values. -/
def FitsL (fr : Array Value) : List (Nat × Value) → Prop
  | [] => True
  | (k, v) :: m => fr[k]? = some v ∧ FitsL fr m
/-- A frame of n slots, of which these hold these values. -/
def Fits (fr : Array Value) (n : Nat) (m : List (Nat × Value)) : Prop := fr.size = n ∧ FitsL fr m
def look (k : Nat) (d : Value) : List (Nat × Value) → Value
  | [] => d
  | (j, v) :: m => bif Nat.beq j k then v else look k d m
/-- The frame of n slots with these values, and u elsewhere. -/
def fill (n : Nat) (u : Nat → Value) (m : List (Nat × Value)) : Array Value := ((List.range n).map (fun i => look i (u i) m)).toArray
theorem look_fits {fr : Array Value} {k : Nat} {d : Value} (hd : fr[k]? = some d) : ∀ {m : List (Nat × Value)}, FitsL fr m → look k d m = d
  | [], _ => rfl
  | (j, v) :: m, ⟨h1, h2⟩ => by
    unfold look
    cases hb : Nat.beq j k with
    | false => exact look_fits hd h2
    | true =>
      have := Nat.eq_of_beq_eq_true hb
      subst this
      rw [h1] at hd
      exact Option.some.inj hd
theorem Fits.open_ {fr : Array Value} {n : Nat} {m : List (Nat × Value)} (h : Fits fr n m) : ∃ u : Nat → Value, fr = fill n u m := by
  obtain ⟨hs, hm⟩ := h
  refine ⟨fun k => (fr[k]?).getD undef, ?_⟩
  apply Array.ext
  · simp [fill, hs]
  · intro i h1 h2
    have e : fr[i]? = some fr[i] := by simp [h1]
    have : (fill n (fun k => (fr[k]?).getD undef) m)[i] = look i ((fr[i]?).getD undef) m := by simp [fill]
    rw [this, e]
    exact (look_fits (by rw [e]; first | done | rfl) hm).symm
section
variable {P : Program} {a : Act} {w : World} {ds : List Deferred}
/-- A cut: R tells of the frames and worlds behind s. -/
theorem wp_ucut {s : Code} {K : Act → World → Prop} {Q' : Exit → Act → World → Prop} (R : Array Value → World → Prop)
    (rest : ∀ fr w', R fr w' → K ⟨fr, ds⟩ w')
    (first : ∀ (J K' : Act → World → Prop), (∀ fr w', R fr w' → J ⟨fr, ds⟩ w') → (∀ a' w', Met J a' w' → K' a' w') → s.wp P (Exit.then K' Q') a w) : s.wp P (Exit.then K Q') a w :=
  wp_cut (fun a' w' => ∃ fr, a' = ⟨fr, ds⟩ ∧ R fr w') (fun a' w' ⟨fr, e, h⟩ => by rw [e]; exact rest fr w' h)
    (fun J K' h1 h2 => first J K' (fun fr w' h => h1 _ _ ⟨fr, rfl, h⟩) h2)
theorem least_of {p : Nat → Prop} : ∀ n, p n → ∃ m, p m ∧ ∀ k, p k → m ≤ k := by
  intro n
  induction n using Nat.strongRecOn with
  | _ n ih =>
    intro hn
    by_cases h : ∃ k, k < n ∧ p k
    · obtain ⟨k, hk, hp⟩ := h; exact ih k hk hp
    · exact ⟨n, hn, fun k hk => Nat.le_of_not_lt fun hl => h ⟨k, hl, hk⟩⟩
/-- A loop: R n: what holds at a round's head where n bounds the rounds to come. -/
theorem wp_uloop {c : Code} {Q : Exit → Act → World → Prop} (R : Nat → Array Value → World → Prop) {fr0 : Array Value} (n0 : Nat) (h0 : R n0 fr0 w)
    (round : ∀ n fr wr, R n fr wr → ∀ (J K' : Act → World → Prop), (∀ n' fr' w', n' < n → R n' fr' w' → J ⟨fr', ds⟩ w') → (∀ a' w', Met J a' w' → K' a' w') → c.wp P (Exit.then K' Q) ⟨fr, ds⟩ wr) :
    (Code.loop c).wp P Q ⟨fr0, ds⟩ w := by
  classical
  let p : Act → World → Nat → Prop := fun a w n => ∃ fr, a = ⟨fr, ds⟩ ∧ R n fr w
  refine wp_loop (fun a w => ∃ n, p a w n) (fun a w => if h : ∃ m, p a w m ∧ ∀ k, p a w k → m ≤ k then h.choose else 0) ⟨n0, fr0, rfl, h0⟩ ?_
  rintro a w ⟨n1, hp1⟩
  have hm := least_of (p := p a w) n1 hp1
  obtain ⟨⟨fr, e, hr⟩, hmin⟩ := hm.choose_spec
  rw [dif_pos hm]
  generalize hm.choose = n at hr hmin
  subst e
  refine wp_mono (round n fr w hr (fun a' w' => ∃ n' fr', n' < n ∧ a' = ⟨fr', ds⟩ ∧ R n' fr' w') (fun a' w' => ∃ n' fr', n' < n ∧ a' = ⟨fr', ds⟩ ∧ R n' fr' w') (fun n' fr' w' h1 h2 => ⟨n', fr', h1, rfl, h2⟩) (fun _ _ h => h)) ?_
  intro e a' w' hq
  cases e with
  | normal =>
    obtain ⟨n', fr', hlt, e', hr'⟩ := hq
    have hm' := least_of (p := p a' w') n' ⟨fr', e', hr'⟩
    refine ⟨⟨n', fr', e', hr'⟩, ?_⟩
    rw [dif_pos hm']
    exact Nat.lt_of_le_of_lt (hm'.choose_spec.2 n' ⟨fr', e', hr'⟩) hlt
  | exit id => exact hq
  | goto l => exact hq
  | ret => exact hq
  | panic ch => exact hq
  | outgrown => exact hq
end
end Go.Proofs.Ytggafipgfgbbiaa.Ba
namespace Go.Proofs.Ytggafipgfgbbiaa.Ba
set_option linter.unusedVariables false
set_option linter.unusedSimpArgs false
open Go.RowKit Go.Proofs.Ytggafipgfgbbiaa.Mem
theorem wr64 (x : Int) (h0 : -9223372036854775808 ≤ x) (h1 : x ≤ 9223372036854775807) : IntKind.i64.wrap x = x := by
  simp only [IntKind.wrap, IntKind.bits, IntKind.signed]; simp; omega
section
variable {P : Program} {o : Oper} {a : Act} {w : World} {K : Act → World → Prop} {Q : Exit → Act → World → Prop}
/-- A cell, or a range of cells, of memory that came in is loaded. -/
theorem exec_at {p : Addr} {v : Value} (ty : TypeId) (x : Operand) (d : TypeDesc) (hc : w.cell? p = some v) (ho : o.op = .load ty x) (hx : a.eval x = .pointer (some p))
    (hu : P.underlying ty = some d) (hd : (match d with | .struct _ | .array _ _ => true | _ => false) = false) : (execOp a.eval o).run P w = .ok (.value v) w := by
  have hagg : (isAgg ty).run P w = .ok false w := by
    unfold isAgg
    rw [Sem.run_bind, run_underlying hu w]
    cases d <;> simp_all
  unfold execOp
  simp only [ho, hx, Instr.loadAt, Instr.sureAddr, Sem.run_bind, Sem.run_pure, Result.andThen_ok]
  simp [loadVar, Sem.run_bind, hagg, hc]
theorem exec_rng {b i : Nat} {l : List Value} (ty : TypeId) (x : Operand) (d : TypeDesc) (hc : ∀ j v, l[j]? = some v → w.cell? ⟨b, i + j, none⟩ = some v) (ho : o.op = .load ty x) (hx : a.eval x = .pointer (some ⟨b, i, none⟩))
    (hu : P.underlying ty = some d) (hd : d.isRow = true) (hi : (P.info? ty).map (·.size) = some l.length) : (execOp a.eval o).run P w = .ok (.value (.agg l.toArray)) w := by
  unfold execOp
  simp only [ho, hx, Instr.loadAt, Instr.sureAddr, Sem.run_bind, Sem.run_pure, Result.andThen_ok, run_loadVar_mid w b i ty l d (fun j v hv => hc j v hv) hu hd hi]
end
end Go.Proofs.Ytggafipgfgbbiaa.Ba
namespace Go.Proofs.Ytggafipgfgbbiaa.Byt
set_option linter.unusedVariables false
set_option linter.unusedSimpArgs false
open Go.RowKit
open Go.Proofs.Ytggafipgfgbbiaa.Mem

def isB (x : Int) : Prop := 0 ≤ x ∧ x < 256
def cells (zs : List Int) : List Value := zs.map (Value.int .u8)
/-- The slice (address a, n elements) reads as the bytes zs. -/
def BV (w : World) (a : Option Addr) (n : Nat) (zs : List Int) : Prop :=
  zs.length = n ∧ n ≤ 9223372036854775807 ∧ (∀ z ∈ zs, isB z) ∧ (n = 0 ∨ ∃ b off, a = some ⟨b, off, none⟩ ∧ b < w.heap.size ∧ ∀ j, j < n → w.cell? ⟨b, off + j, none⟩ = some (.int .u8 (zs.getD j 0)))
section
variable {w w' : World} {a : Option Addr} {n : Nat} {zs : List Int}
theorem BV.nil (w : World) (a : Option Addr) : BV w a 0 [] := ⟨rfl, by omega, by simp, .inl rfl⟩
theorem BV.below (h : BV w a n zs) (hb : Below w.heap.size w w') : BV w' a n zs := by
  obtain ⟨h1, h2, h3, h4⟩ := h
  refine ⟨h1, h2, h3, ?_⟩
  rcases h4 with h4 | ⟨b, off, e, hlt, hc⟩
  · exact .inl h4
  · exact .inr ⟨b, off, e, Nat.lt_of_lt_of_le hlt hb.size, fun j hj => (hb.cell (p := ⟨b, off + j, none⟩) hlt).trans (hc j hj)⟩
theorem BV.alloc (h : BV w a n zs) (o : Obj) : BV (w.alloc o) a n zs := h.below ((Below.refl _ _).alloc (Nat.le_refl _) _)
theorem BV.drew (h : BV w a n zs) : BV w.drew a n zs := h
theorem BV.drewN (h : BV w a n zs) (k : Nat) : BV (w.drewN k) a n zs := h
theorem cells_at (zs : List Int) (j : Nat) (h : j < zs.length) : (cells zs)[j]? = some (.int .u8 (zs.getD j 0)) := by
  unfold cells
  simp [List.getElem?_map, List.getD, h]
theorem BV.of_own {base : Nat} {e : TypeId} {A : Option Addr} {c : Nat} (h : w.ownsRow base e 1 (.slice A n c) n (cells zs)) (hB : ∀ z ∈ zs, isB z) : BV w A n zs := by
  have hl : zs.length = n := by have := h.1; simpa [cells] using this
  rcases Nat.eq_zero_or_pos n with h0 | h0
  · subst h0
    exact ⟨hl, by omega, hB, .inl rfl⟩
  · obtain ⟨g, cap, hv, _, hlt⟩ := h.form h0
    have hA : A = some ⟨g, 0, none⟩ := by injection hv
    subst hA
    have hr := Reads.of_own h
    obtain ⟨ad, e1, hb, hc⟩ := hr.2 h0
    obtain rfl : (⟨g, 0, none⟩ : Addr) = ad := by injection e1
    have hm : n ≤ maxLen := by
      rcases h.2 with ⟨hv', h'⟩ | ⟨_, cap', _, _, _, _, hn, hc', _⟩
      · omega
      · omega
    refine ⟨hl, by unfold maxLen at hm; omega, hB, .inr ⟨g, 0, rfl, hlt, fun j hj => ?_⟩⟩
    have := hc j _ (cells_at zs j (by omega))
    rw [Go.WideShapes.add_plain] at this
    exact this
theorem BV.cut {k : Nat} (h : BV w a n zs) (hk : k ≤ n) : BV w a k (zs.take k) := by
  obtain ⟨h1, h2, h3, h4⟩ := h
  refine ⟨by rw [List.length_take]; omega, by omega, fun z hz => h3 z (List.mem_of_mem_take hz), ?_⟩
  rcases h4 with h4 | ⟨b, off, e, hlt, hc⟩
  · exact .inl (by omega)
  · refine .inr ⟨b, off, e, hlt, fun j hj => ?_⟩
    rw [hc j (by omega)]
    congr 2
    simp [List.getD, List.getElem?_take, hj]
end
/-- Cut at the front. -/
theorem BV.drop {w : World} {b off n : Nat} {zs : List Int} {k : Nat} (h : BV w (some ⟨b, off, none⟩) n zs) (hk : k ≤ n) : BV w (some ⟨b, off + k, none⟩) (n - k) (zs.drop k) := by
  obtain ⟨h1, h2, h3, h4⟩ := h
  refine ⟨by rw [List.length_drop]; omega, by omega, fun z hz => h3 z (List.mem_of_mem_drop hz), ?_⟩
  rcases h4 with h4 | ⟨b', off', e, hlt, hc⟩
  · exact .inl (by omega)
  · simp only [Option.some.injEq, Addr.mk.injEq, and_true] at e
    obtain ⟨rfl, rfl⟩ := e
    refine .inr ⟨b, off + k, rfl, hlt, fun j hj => ?_⟩
    rw [Nat.add_assoc, hc (k + j) (by omega)]
    congr 2
    simp [List.getD, List.getElem?_drop]
/-- W' is W with new memory at most. -/
def Since (W W' : World) : Prop := Below W.heap.size W W'
theorem Since.refl (W : World) : Since W W := Below.refl _ _
theorem Since.drew (W : World) : Since W W.drew := (Below.refl _ _).drew
theorem Since.trans {a b c : World} (h : Since a b) (k : Below b.heap.size b c) : Since a c := Below.trans (show Below a.heap.size a b from h) (k.mono (show Below a.heap.size a b from h).size)
theorem BV.since {w w' : World} {a : Option Addr} {n : Nat} {zs : List Int} (h : BV w a n zs) (k : Since w w') : BV w' a n zs := h.below k
section
variable {P : Program} (w : World)
/-- A row of the call's own is a slice value; where it lies. -/
theorem own_form {base : Nat} {e : TypeId} {size n : Nat} {v : Value} {xs : List Value} (h : w.ownsRow base e size v n xs) : ∃ A c, v = .slice A n c := by
  rcases h.2 with ⟨rfl, rfl⟩ | ⟨g, cap, _, rfl, _⟩
  · exact ⟨none, 0, rfl⟩
  · exact ⟨_, _, rfl⟩
/-- A row of the call's own stays over new memory. -/
theorem own_below {w w' : World} {base : Nat} {e : TypeId} {size n : Nat} {v : Value} {xs : List Value} (h : w.ownsRow base e size v n xs) (hb : Below w.heap.size w w') : w'.ownsRow base e size v n xs := by
  refine ⟨h.1, ?_⟩
  rcases h.2 with h0 | ⟨g, cap, cur, hv, hg, hh, h4, h5, h6, h7⟩
  · exact .inl h0
  · have hlt : g < w.heap.size := by
      rcases Nat.lt_or_ge g w.heap.size with hl | hl
      · exact hl
      · rw [Array.getElem?_eq_none hl] at hh; cases hh
    exact .inr ⟨g, cap, cur, hv, hg, (hb.block g hlt).trans hh, h4, h5, h6, h7⟩
/-- An empty row that a literal has just made. -/
theorem own_empty (e : TypeId) (size : Nat) : (w.alloc (.cells #[] e)).ownsRow w.heap.size e size (.slice (some ⟨w.heap.size, 0, none⟩) 0 0) 0 [] := by
  refine ⟨by simp, .inr ⟨w.heap.size, 0, #[], rfl, Nat.le_refl _, heap_alloc_new w _, by omega, by unfold maxLen; omega, by simp, by simp⟩⟩
end
end Go.Proofs.Ytggafipgfgbbiaa.Byt
namespace Go.Proofs.Ytggafipgfgbbiaa.Ba
set_option linter.unusedVariables false
set_option linter.unusedSimpArgs false
open Go.RowKit Go.Proofs.Ytggafipgfgbbiaa.Mem
open Go.Proofs.Ytggafipgfgbbiaa.Byt (BV isB cells)
theorem keep_own {w w' : World} {base : Nat} {e : TypeId} {size n : Nat} {v : Value} {xs : List Value} (k : Since w w') (h : w.ownsRow base e size v n xs) : w'.ownsRow base e size v n xs := Byt.own_below h k
/-- Nothing changed below a block, nor any block of another type. -/
def Grw (e : TypeId) (B : Nat) (w w' : World) : Prop := Below B w w' ∧ ∀ g t cs, Blk w g t cs → t ≠ e → Blk w' g t cs
theorem Grw.refl (e : TypeId) (B : Nat) (w : World) : Grw e B w w := ⟨Below.refl _ _, fun _ _ _ h _ => h⟩
theorem Grw.trans {e : TypeId} {B : Nat} {a b c : World} (h : Grw e B a b) (k : Grw e B b c) : Grw e B a c := ⟨Below.trans h.1 k.1, fun g t cs hb ht => k.2 g t cs (h.2 g t cs hb ht) ht⟩
theorem Grw.since {e : TypeId} {B : Nat} {a b c : World} (h : Grw e B a b) (k : Since b c) (hB : B ≤ b.heap.size) : Grw e B a c := ⟨Below.trans h.1 (Below.mono k hB), fun g t cs hb ht => keep_blk k (h.2 g t cs hb ht)⟩
theorem Grw.blk {e : TypeId} {B : Nat} {w w' : World} {g : Nat} {t : TypeId} {cs : Array Value} (h : Grw e B w w') (hb : Blk w g t cs) (ht : t ≠ e) : Blk w' g t cs := h.2 g t cs hb ht
section
variable {P : Program} {o : Oper} {a : Act} {w : World} {K : Act → World → Prop} {Q : Exit → Act → World → Prop}
/-- A step that yields. -/
theorem wp_q (v : Value) (he : (execOp a.eval o).run P w = .ok (.value v) w) (h : K (a.put o.dst v) w) : o.wp P a w K Q := by
  unfold Oper.wp
  rw [he]
  exact h
end
end Go.Proofs.Ytggafipgfgbbiaa.Ba
namespace Go.Proofs.Ytggafipgfgbbiaa.Ba
open Go.RowKit Go.Proofs.Ytggafipgfgbbiaa.Mem
/-- W is w but from block B on, and but for blocks of type e. -/
def From (e : TypeId) (B : Nat) (w W : World) : Prop := Grw e B w W ∧ B ≤ w.heap.size
section
variable {e : TypeId} {B : Nat} {w W W' : World}
theorem From.refl (e : TypeId) (h : B ≤ w.heap.size) : From e B w w := ⟨Grw.refl _ _ _, h⟩
theorem From.size (h : From e B w W) : B ≤ W.heap.size := Nat.le_trans h.2 h.1.1.size
theorem From.trans (h : From e B w W) (k : Since W W') : From e B w W' := ⟨Grw.since h.1 k h.size, h.2⟩
theorem From.drew (h : From e B w W) : From e B w W.drew := h.trans ((Since.refl W).drew)
end
theorem Grw.lo {e : TypeId} {B B' : Nat} {w w' : World} (k : Grw e B w w') (h : B' ≤ w.heap.size) : B' ≤ w'.heap.size := Nat.le_trans h k.1.size
/-- Values laid into a row from a place on. -/
def putAt (cs : Array Value) (o : Nat) : List Value → Array Value
  | [] => cs
  | v :: r => putAt (cs.setIfInBounds o v) (o + 1) r
theorem setCells_row {g : Nat} {t : TypeId} : ∀ (vs : List Value) (o : Nat) (w : World) (cs : Array Value), Blk w g t cs → w.setCells g o vs = w.setRow g (putAt cs o vs)
  | [], _, w, cs, h => (setRow_self w g cs t (0, 0) h).symm
  | v :: r, o, w, cs, h => by
    show (w.setCell ⟨g, o, none⟩ v).setCells g (o + 1) r = _
    rw [setCell_eq_setRow w g o cs t (0, 0) v h, setCells_row r (o + 1) _ _ (Blk.row h _), setRow_setRow]
    rfl
section
variable {P : Program} {o : Oper} {a : Act} {w : World} {K : Act → World → Prop} {Q : Exit → Act → World → Prop}
/-- A part of a block is stored. -/
theorem wp_st_part (ty : TypeId) (x y : Operand) (ho : o.op = .store ty x y) {g i : Nat} {t : TypeId} {cs : Array Value} (cs' cells : Array Value) (hx : a.eval x = .pointer (some ⟨g, i, none⟩)) (hy : a.eval y = .agg cells) (hg : Blk w g t cs)
    (hlt : i + cells.size ≤ cs.size) (hcs : putAt cs i cells.toList = cs') (h1 : cells.all (·.oneCell') = true) (hi : (P.info? ty).map (·.size) = some cells.size) (h : ∀ w', w' = w.setRow g cs' → K (a.put o.dst undef) w') : o.wp P a w K Q := by
  refine wp_store_mid ty x y ho g i cells hx hy (fun j hj => ⟨?_, Blk.frozen hg _⟩) hi h1 (h _ ?_)
  · rw [Blk.cell hg]; simp; omega
  · rw [setCells_row _ _ _ _ hg, hcs]
end
end Go.Proofs.Ytggafipgfgbbiaa.Ba
namespace Go.Proofs.Ytggafipgfgbbiaa.Ba
set_option linter.unusedVariables false
set_option linter.unusedSimpArgs false
open Go.RowKit Go.Proofs.Ytggafipgfgbbiaa.Mem
open Go.Proofs.Ytggafipgfgbbiaa.Byt (BV isB cells)
end Go.Proofs.Ytggafipgfgbbiaa.Ba
namespace Go.Proofs.Ytggafipgfgbbiaa.Ba
set_option linter.unusedVariables false
set_option linter.unusedSimpArgs false
open Go.RowKit Go.Proofs.Ytggafipgfgbbiaa.Mem
open Go.Proofs.Ytggafipgfgbbiaa.Byt (BV isB cells)
def blkOf : Option Addr → List Nat
  | some a => [a.block]
  | none => []
/-- Nothing changed but the blocks of S, and new ones. -/
structure Upd (S : List Nat) (w w' : World) : Prop where
  os : w'.os = w.os
  tape : w'.tape = w.tape
  output : w'.output = w.output
  size : w.heap.size ≤ w'.heap.size
  block : ∀ k, k < w.heap.size → k ∉ S → w'.heap[k]? = w.heap[k]?
section
variable {S T : List Nat} {W w w' a b c : World} {g : Nat} {t : TypeId} {cs : Array Value}
theorem Upd.refl (S : List Nat) (w : World) : Upd S w w := ⟨rfl, rfl, rfl, Nat.le_refl _, fun _ _ _ => rfl⟩
theorem Upd.of_since (h : Since w w') : Upd S w w' := ⟨h.below.os, h.below.tape, h.below.output, h.below.size, fun k hk _ => h.below.block k hk⟩
theorem Upd.mono (h : Upd S w w') (hs : ∀ k ∈ S, k < w.heap.size → k ∈ T) : Upd T w w' := ⟨h.os, h.tape, h.output, h.size, fun k hk hn => h.block k hk (fun hS => hn (hs k hS hk))⟩
theorem Upd.comp (h : Upd S a b) (k : Upd T b c) (hT : ∀ g ∈ T, g ∈ S ∨ a.heap.size ≤ g) : Upd S a c :=
  ⟨k.os.trans h.os, k.tape.trans h.tape, k.output.trans h.output, Nat.le_trans h.size k.size, fun g hg hn =>
    (k.block g (Nat.lt_of_lt_of_le hg h.size) (fun hgT => by rcases hT g hgT with h1 | h1; exact hn h1; omega)).trans (h.block g hg hn)⟩
theorem Upd.trans (h : Upd S a b) (k : Since b c) : Upd S a c := h.comp (Upd.of_since (S := []) k) (fun _ hg => by cases hg)
theorem Upd.drew (h : Upd S w W) : Upd S w W.drew := h.trans ((Since.refl W).drew)
theorem Upd.setRow (h : Upd S w W) (hg : g ∈ S ∨ w.heap.size ≤ g) (cs : Array Value) : Upd S w (W.setRow g cs) :=
  ⟨h.os, h.tape, h.output, by rw [size_setRow]; exact h.size, fun k hk hn => (setRow_other W g k cs (by rintro rfl; rcases hg with h1 | h1; exact hn h1; omega)).trans (h.block k hk hn)⟩
theorem Since.upd (h : Since W w) (k : Upd S w w') (hS : ∀ g ∈ S, W.heap.size ≤ g) : Since W w' :=
  ⟨k.os.trans h.below.os, k.tape.trans h.below.tape, k.output.trans h.below.output, Nat.le_trans h.size k.size, fun g hg =>
    (k.block g (Nat.lt_of_lt_of_le hg h.size) (fun hgS => by have := hS g hgS; omega)).trans (h.below.block g hg)⟩
theorem Upd.since (h : Upd [] w w') : Since w w' := (Since.refl w).upd h (fun _ hg => by cases hg)
theorem Upd.blk (k : Upd S w w') (h : Blk w g t cs) (hg : g ∉ S) : Blk w' g t cs := (k.block g h.lt hg).trans h
theorem Upd.of_grown {A : Option Addr} {n c : Nat} (h : w.grownBy w' (Value.slice A n c).ownBlock) : Upd (blkOf A) w w' := by
  refine ⟨h.os, h.tape, h.output, h.size, fun k hk hn => h.block k hk (fun he => hn ?_)⟩
  cases A with
  | none => simp [Value.ownBlock] at he
  | some a => simp [Value.ownBlock] at he; simp [blkOf, he]
variable {base : Nat} {e : TypeId} {size n c : Nat} {A : Option Addr} {xs : List Value}
theorem own_at (h : w.ownsRow base e size (.slice A n c) n xs) : (A = none ∧ n = 0 ∧ xs = []) ∨ ∃ g cur, A = some ⟨g, 0, none⟩ ∧ base ≤ g ∧ Blk w g e cur ∧ n ≤ c ∧ c ≤ maxLen ∧ cur.size = c * size ∧ cur.toList.take (n * size) = xs := by
  rcases h.2 with ⟨hv, hn⟩ | ⟨g, cap, cur, hv, hb, hg, hc, hm, hs, ht⟩
  · simp at hv
    exact .inl ⟨hv.1, hn, List.eq_nil_of_length_eq_zero (by have := h.1; simpa [hn] using this)⟩
  · simp at hv
    obtain ⟨rfl, rfl⟩ := hv
    exact .inr ⟨g, cur, rfl, hb, hg, hc, hm, hs, ht⟩
theorem own_low (h : w.ownsRow base e size (.slice A n c) n xs) : ∀ g ∈ blkOf A, base ≤ g := by
  rcases own_at h with ⟨rfl, _⟩ | ⟨g, cur, rfl, hb, _⟩
  · simp [blkOf]
  · simp [blkOf, hb]
theorem own_lt (h : w.ownsRow base e size (.slice A n c) n xs) : ∀ g ∈ blkOf A, g < w.heap.size := by
  rcases own_at h with ⟨rfl, _⟩ | ⟨g, cur, rfl, _, hg, _⟩
  · simp [blkOf]
  · simp [blkOf, hg.lt]
theorem own_far (h : w.ownsRow base e size (.slice A n c) n xs) (hg : w.heap.size ≤ g) : g ∉ blkOf A := fun hA => by have := own_lt h g hA; omega
theorem own_ne_ty (h : w.ownsRow base e size (.slice A n c) n xs) (hb : Blk w g t cs) (hne : t ≠ e) : g ∉ blkOf A := by
  rcases own_at h with ⟨rfl, _⟩ | ⟨k, cur, rfl, _, hg, _⟩
  · simp [blkOf]
  · have := Blk.ne_ hb hg hne
    simpa [blkOf] using this
theorem Upd.own (k : Upd S w w') (h : w.ownsRow base e size (.slice A n c) n xs) (hA : ∀ g ∈ blkOf A, g ∉ S) : w'.ownsRow base e size (.slice A n c) n xs := by
  refine ⟨h.1, ?_⟩
  rcases own_at h with ⟨rfl, rfl, _⟩ | ⟨g, cur, rfl, hb, hg, hc, hm, hs, ht⟩
  · rcases h.2 with h2 | ⟨_, _, _, hv, _⟩
    · exact .inl h2
    · simp at hv
  · exact .inr ⟨g, c, cur, rfl, hb, k.blk hg (hA g (by simp [blkOf])), hc, hm, hs, ht⟩
theorem own_row_far (h : w.ownsRow base e size (.slice A n c) n xs) (hg : g ∉ blkOf A) (cs : Array Value) : (w.setRow g cs).ownsRow base e size (.slice A n c) n xs :=
  (Upd.setRow (S := [g]) (Upd.refl _ w) (.inl (by simp)) cs).own h (fun k hk hkg => by simp at hkg; exact hg (hkg ▸ hk))
theorem own_reads (h : w.ownsRow base e size (.slice A n c) n xs) : Reads w w.heap.size size A n xs := Reads.of_own h
theorem own_cap2 (h : w.ownsRow base e size (.slice A n c) n xs) : n ≤ c := by
  rcases own_at h with ⟨rfl, rfl, _⟩ | ⟨g, cur, rfl, _, _, hc, _⟩
  · omega
  · exact hc
/-- The cells of the i-th row. -/
theorem own_rng (h : w.ownsRow base e size (.slice (some ⟨g, 0, none⟩) n c) n xs) {i m : Nat} {l : List Value} (hl : (xs.drop i).take m = l) : ∀ j v, l[j]? = some v → w.cell? ⟨g, i + j, none⟩ = some v := fun j v hv => by
  have hx : xs[i + j]? = some v := by
    rw [← hl, List.getElem?_take] at hv
    split at hv
    · rwa [List.getElem?_drop] at hv
    · cases hv
  have := h.cells (g := g) rfl (i + j) v hx
  rw [Go.WideShapes.add_plain, Nat.zero_add] at this
  exact this
end
section
variable {P : Program} {o : Oper} {a : Act} {w : World} {K : Act → World → Prop} {Q : Exit → Act → World → Prop}
theorem info3 {e : TypeId} {z : Value} {size bytes : Nat} (h : (P.info? e).map (fun i => (i.zero, i.size, i.bytes)) = some (some z, size, bytes)) : ∃ i, P.info? e = some i ∧ i.zero = some z ∧ i.size = size ∧ i.bytes = bytes := by
  cases hq : P.info? e with
  | none => simp [hq] at h
  | some i => simp [hq] at h; exact ⟨i, rfl, h.1, h.2.1, h.2.2⟩
/-- Structs are appended to a row of the call's own. -/
theorem wp_append_row (s x : Operand) (t : TypeId) (ho : o.op = .call { callee := .builtin .append, args := #[s, x], argTypes := #[t, t] })
    (base : Nat) (e : TypeId) (z : Value) (size bytes : Nat) (ht : P.underlying t = some (.slice e)) (hinf : (P.info? e).map (fun i => (i.zero, i.size, i.bytes)) = some (some z, size, bytes))
    (hzs : z.cells.size = size) (hsz : 0 < size) (hby : bytes ≤ 1000)
    (A0 : Option Addr) (n c0 : Nat) (xs : List Value) (hs : a.eval s = .slice A0 n c0) (hown : w.ownsRow base e size (.slice A0 n c0) n xs)
    (B : Nat) (A : Option Addr) (m c : Nat) (ys : List Value) (hx : a.eval x = .slice A m c) (hy : Reads w B size A m ys) (h1 : ∀ u ∈ ys, u.oneCell' = true) (hnm : n + m ≤ 1000000) (hbase : base ≤ w.heap.size)
    (n2 : Nat) (zs : List Value) (hn2 : n + m = n2) (hzs2 : xs ++ ys = zs)
    (h : ∀ A' c' w', w'.ownsRow base e size (.slice A' n2 c') n2 zs → Upd (blkOf A0) w w' → (∀ g ∈ blkOf A', g ∈ blkOf A0 ∨ w.heap.size ≤ g) → K (a.put o.dst (.slice A' n2 c')) w') : o.wp P a w K Q := by
  subst hn2 hzs2
  obtain ⟨i, hi, hz, h2, h3⟩ := info3 hinf
  refine wp_append_any w s x t ho base e i z size bytes ht hi hz h2 h3 hzs hsz (.slice A0 n c0) n xs hs hown B A m c ys hx hy h1 (by unfold maxLen; omega) ?_ hbase ?_
  · calc (n + m) * bytes ≤ 1000000 * 1000 := Nat.mul_le_mul hnm hby
      _ ≤ 140737488355328 := by decide
  intro v' w' hown' hg hat
  obtain ⟨A', c', rfl⟩ := Byt.own_form w' hown'
  refine h A' c' w' hown' (Upd.of_grown hg) fun g hgA => ?_
  cases A' with
  | none => simp [blkOf] at hgA
  | some ad =>
    simp [blkOf] at hgA
    subst hgA
    rcases hat with h4 | h4
    · cases A0 with
      | none => simp [Value.ownBlock] at h4
      | some ad0 => simp [Value.ownBlock] at h4; simp [blkOf, h4]
    · simp [Value.ownBlock] at h4
      exact .inr (by omega)
end
end Go.Proofs.Ytggafipgfgbbiaa.Ba
