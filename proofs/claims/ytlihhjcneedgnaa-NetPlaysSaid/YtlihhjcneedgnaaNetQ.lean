/-
  NetPlays: walked.
  Conditions: what stands ahead of each.
-/
import Derived.Test.YtlihhjcneedgnaaProg
import Derived.Test.YtlihhjcneedgnaaShort
import Derived.Test.YtlihhjcneedgnaaNetE
import Derived.Test.YtlihhjcneedgnaaNetM
import Derived.Test.YtlihhjcneedgnaaNop
import Derived.Test.YtlihhjcneedgnaaCut
import Derived.Deep.CutBlock
namespace Go.Proofs.Ytlihhjcneedgnaa.Nt
set_option linter.unusedVariables false
set_option linter.unusedSimpArgs false
open Go.RowKit Go.Proofs.Ytlihhjcneedgnaa.Ba Go.Proofs.Ytlihhjcneedgnaa.Mem
open Go.Proofs.Ytlihhjcneedgnaa.Byt (BV isB cells)
open Go.Proofs.Ytlihhjcneedgnaa.Mp (MapF setK exec_look wp_mapput wp_mapdel wp_mapnew)
set_option maxRecDepth 100000
attribute [local irreducible] Go.wpList
theorem NC.more {lo q N N' : Nat} {ends room : Int} {c : Int → List (List Int)} {S : List Nat} {w : World} (h : NC lo q ends room N c S w) (hN : N ≤ N') : NC lo q ends room N' c S w := by
  obtain ⟨b, ws, h, hc⟩ := h
  exact ⟨b, ws, h.more hN, hc⟩
def inB (m : Nat) (x : Int) : Bool := decide (0 ≤ x ∧ x < (m : Int))
theorem inB_t {m : Nat} {x : Int} (h0 : 0 ≤ x) (h1 : x < (m : Int)) : inB m x = true := decide_eq_true ⟨h0, h1⟩
theorem inB_f {m : Nat} {x : Int} (h : ¬ (0 ≤ x ∧ x < (m : Int))) : inB m x = false := decide_eq_false h
theorem wp_make0 {P : Program} {o : Oper} {a : Act} {w : World} {K : Act → World → Prop} {Q : Exit → Act → World → Prop} (t e : TypeId) (x y : Operand) (ho : o.op = .makeSlice t x y) {z : Value} {k bytes : Nat} (ht : P.underlying t = some (.slice e)) (hinf : (P.info? e).map (fun i => (i.zero, i.size, i.bytes)) = some (some z, k, bytes)) (n : Nat) {kx ky : IntKind}
    (hx : a.eval x = .int kx (n : Int)) (hy : a.eval y = .int ky (n : Int)) (hn : n ≤ 1000000) (hb : bytes ≤ 1000)
    (h : ∀ b w', w.heap.size ≤ b → Blk w' b e (madeCells z.cells (n * k)) → Since w w' → K (a.put o.dst (.slice (some ⟨b, 0, none⟩) n n)) w') : o.wp P a w K Q := by
  obtain ⟨i, hi, hz0, h2, h3⟩ := info3 hinf
  have hbn : bytes * n ≤ 1000 * 1000000 := Nat.mul_le_mul hb hn
  have hbi : (bytes : Int) * (n : Int) ≤ 1000000000 := by rw [← Int.natCast_mul]; omega
  have hr := run_make (P := P) w t e i z ht hi hz0 kx ky (n : Int) (n : Int) (by omega) (Int.le_refl _) (by rw [h3]; omega) (by omega)
  unfold Oper.wp execOp
  simp only [ho, hx, hy, Sem.run_bind, hr, Sem.run_pure, Result.andThen_ok, Int.toNat_natCast]
  subst h2
  exact h w.heap.size _ (Nat.le_refl _) (Blk.new w e _) ((Since.refl w).alloc _)
def rows0 (m : Nat) : List RowS := List.replicate m ⟨none, 0, 0, []⟩
theorem made_rows (n : Nat) : madeCells (Value.slice none 0 0).cells (n * 1) = (rowsOf rowC (rows0 n)).toArray := by
  apply Array.ext'
  simp only [List.toList_toArray]
  have e : rowsOf rowC (rows0 n) = List.replicate n (.slice none 0 0) := by
    unfold rows0
    induction n with
    | zero => rfl
    | succ n ih => rw [List.replicate_succ, rowsOf_cons, ih]; rfl
  rw [e]
  simp [madeCells, Value.cells]
  apply List.ext_getElem
  · simp
  · intro i h1 h2
    simp [Nat.mod_one]
theorem rows0_blk (n : Nat) : (rows0 n).flatMap blkR = [] := by
  unfold rows0
  induction n with
  | zero => rfl
  | succ n ih => rw [List.replicate_succ, List.flatMap_cons, ih]; rfl
theorem mo0 {w : World} {lo g n : Nat} (h0 : lo ≤ g) (hB : Blk w g 58 (madeCells (Value.slice none 0 0).cells (n * 1))) : MO lo g (rows0 n) [g] w :=
  ⟨h0, by rw [rows0_blk], by rw [← made_rows]; exact hB, fun r hr => by rw [rows0, List.mem_replicate] at hr; rw [hr.2]; exact World.ownsRow_nil _ _ _ _, by rw [rows0_blk]; exact List.nodup_nil⟩
theorem same0 {n : Nat} : Same (rows0 n) (fun _ => []) := by
  refine ⟨fun i r hr => ?_, fun _ _ => rfl⟩
  rw [rows0, List.getElem?_replicate] at hr
  split at hr
  · cases hr; rfl
  · cases hr
theorem mo_cell {w : World} {lo g t : Nat} {rs : List RowS} {r : RowS} {S : List Nat} (h : MO lo g rs S w) (ht : rs[t]? = some r) : w.cell? ⟨g, 0 + t * 1, none⟩ = some (.slice r.A r.n r.c) := by
  have q := (h.open_ ht).1
  rw [q.cell]
  have e := el_at (P := rowsOf rowC (rs.take t)) (S := rowsOf rowC (rs.drop (t + 1))) (cs := #[.slice r.A r.n r.c]) (j := 0) (v := .slice r.A r.n r.c) (take_len ht) rfl
  exact e
theorem mo_len {w : World} {lo g t : Nat} {rs : List RowS} {r : RowS} {S : List Nat} {c : Int → List (List Int)} (h : MO lo g rs S w) (ht : rs[t]? = some r) (hs : Same rs c) : r.n = (c (t : Int)).length := by
  rw [← hs.1 t r ht]
  exact (own_n strC_len (by decide) (h.open_ ht).2.1).symm
theorem loseCK (lo q : Nat) (ends room : Int) (N : Nat) (c : Int → List (List Int)) (S : List Nat) (x k : Int) (k0 : Nat) (w : World) (h : NC lo q ends room N c S w) (hx : (Lit.int .i64 x).wf = true) (hl : (c x).length ≤ 10000) (hk : k0 < (c x).length) (hN : N < 1000000) (e : k = (k0 : Int)) :
    Calls Try.prog 25 #[.pointer (some ⟨q, 0, none⟩), .int .i64 x, .int .i64 k] w fun e w' => ∃ S', e = .returned (.bool true) ∧ NC lo q ends room (N + 1) (delC c x k0) S' w' ∧ Upd S w w' ∧ ∀ g ∈ S', g ∈ S ∨ w.heap.size ≤ g := by
  subst e
  exact (loseCT lo q ends room N c S x k0 w h hx hl hk hN).mono (fun e w1 hh => ⟨S, hh.1, hh.2.1, hh.2.2, fun g hg => .inl hg⟩)
theorem takeCK (lo q : Nat) (ends room : Int) (N : Nat) (c : Int → List (List Int)) (S : List Nat) (x k : Int) (k0 : Nat) (w : World) (h : NC lo q ends room N c S w) (hx : (Lit.int .i64 x).wf = true) (hl : (c x).length ≤ 10000) (hk : k0 < (c x).length) (hN : N < 1000000) (e : k = (k0 : Int)) :
    Calls Try.prog 24 #[.pointer (some ⟨q, 0, none⟩), .int .i64 x, .int .i64 k] w fun e w' => ∃ A n c' S', e = .returned (.tuple #[.slice A n c', .bool true]) ∧ NC lo q ends room (N + 1) (delC c x k0) S' w' ∧ ItAt lo w' ⟨A, n, c', (c x).getD k0 []⟩ ∧ (∀ g ∈ blkOf A, g ∉ S') ∧ (∀ g ∈ S', g ∈ S) ∧ Upd S w w' := by
  subst e; exact takeCT lo q ends room N c S x k0 w h hx hl hk hN
theorem twinCK (lo q : Nat) (ends room : Int) (N : Nat) (c : Int → List (List Int)) (S : List Nat) (x k : Int) (k0 : Nat) (w : World) (h : NC lo q ends room N c S w) (hx : (Lit.int .i64 x).wf = true) (hl : (c x).length ≤ 10000) (hk : k0 < (c x).length) (hN : N < 1000000) (hlo : lo ≤ w.heap.size) (e : k = (k0 : Int)) :
    Calls Try.prog 26 #[.pointer (some ⟨q, 0, none⟩), .int .i64 x, .int .i64 k] w fun e w' => ∃ S', e = .returned (.bool (okP c ends room x)) ∧ NC lo q ends room (N + 1) (putC c (okP c ends room x) x ((c x).getD k0 [])) S' w' ∧ Upd S w w' ∧ ∀ g ∈ S', g ∈ S ∨ w.heap.size ≤ g := by
  subst e; exact twinCT lo q ends room N c S x k0 w h hx hl hk hN hlo
theorem set_dis {rs : List RowS} {g t : Nat} {r' : RowS} {S : List Nat} (ht : t < rs.length) (hg : g ∉ S) (hr : ∀ x ∈ blkOf r'.A, x ∉ S) (hx : ∀ x ∈ restB rs t, x ∉ S) : ∀ x ∈ g :: (rs.set t r').flatMap blkR, x ∉ S := by
  intro x hm
  rcases List.mem_cons.1 hm with rfl | hm
  · exact hg
  · obtain ⟨a, ha, hxa⟩ := List.mem_flatMap.1 hm
    obtain ⟨i, hi⟩ := List.mem_iff_getElem?.1 ha
    by_cases hit : i = t
    · subst hit; rw [List.getElem?_set_self ht] at hi; cases hi; exact hr x hxa
    · rw [List.getElem?_set_ne (Ne.symm hit)] at hi
      exact hx x (mem_rest hit hi hxa)
theorem same_put {rs : List RowS} {c : Int → List (List Int)} {t : Nat} {r : RowS} {A : Option Addr} {n cc : Nat} {ok : Bool} {x : Int} {z : List Int} (h : Same rs c) (ht : rs[t]? = some r) (hx : x = (t : Int)) (hok : ok = true) : Same (rs.set t ⟨A, n, cc, r.zss ++ [z]⟩) (putC c ok x z) := by
  subst hx hok
  refine h.set (List.getElem?_eq_some_iff.1 ht).1 ?_ (fun y hy => ?_)
  · unfold putC; rw [if_pos ⟨rfl, rfl⟩, h.1 t r ht]
  · unfold putC; rw [if_neg (fun hh => hy hh.2)]
theorem same_del {rs : List RowS} {c : Int → List (List Int)} {t j : Nat} {r : RowS} {A : Option Addr} {n cc : Nat} {x : Int} (h : Same rs c) (ht : rs[t]? = some r) (hx : x = (t : Int)) : Same (rs.set t ⟨A, n, cc, r.zss.eraseIdx j⟩) (delC c x j) := by
  subst hx
  refine h.set (List.getElem?_eq_some_iff.1 ht).1 ?_ (fun y hy => ?_)
  · unfold delC; rw [if_pos rfl, h.1 t r ht]
  · unfold delC; rw [if_neg hy]
theorem put_len {c : Int → List (List Int)} {ok : Bool} {x : Int} {z : List Int} {i : Nat} (h : ∀ x, (c x).length ≤ i) : ∀ y, (putC c ok x z y).length ≤ i + 1 := fun y => by
  unfold putC
  split
  · rw [List.length_append]; have := h x; simp; omega
  · have := h y; omega
theorem del_len {c : Int → List (List Int)} {x : Int} {j i : Nat} (h : ∀ x, (c x).length ≤ i) : ∀ y, (delC c x j y).length ≤ i + 1 := fun y => by
  unfold delC
  split
  · have := h x; have := List.length_eraseIdx_le (c x) j; omega
  · have := h y; omega
theorem str_at {w : World} {lo n cc k : Nat} {A : Addr} {zss : List (List Int)} {g : Nat} (hA : A = ⟨g, 0, none⟩) (h : w.ownsRow lo 9 1 (.slice (some A) n cc) n (rowsOf strC zss)) (hk : k < zss.length) : w.cell? ⟨g, 0 + k * 1, none⟩ = some (.string (strOfNums (zss.getD k []))) := by
  subst hA
  have q := own_rng h (i := k * 1) (m := 1) (l := strC (zss.getD k [])) (by rw [rowsOf_at strC_len hk]; simp [List.getD, hk]) 0 _ rfl
  rw [Nat.zero_add]; exact q
theorem mo_str {w : World} {lo g gr t j rn rc : Nat} {rs : List RowS} {S : List Nat} {c : Int → List (List Int)} {rz : List (List Int)} {x : Int} (h : MO lo g rs S w) (ht : rs[t]? = some ⟨some ⟨gr, 0, none⟩, rn, rc, rz⟩) (hs : Same rs c) (hx : x = (t : Int)) (hj : j < (c x).length) : w.cell? ⟨gr, 0 + j * 1, none⟩ = some (.string (strOfNums ((c x).getD j []))) := by
  subst hx
  have e : rz = c (t : Int) := hs.1 t _ ht
  subst e
  exact str_at rfl (h.open_ ht).2.1 hj
def GotOk (k2 : Bool) (lo : Nat) (A : Option Addr) (n c : Nat) (zs : List Int) (w : World) : Prop := k2 = true → w.ownsRow lo 5 1 (.slice A n c) n (cells zs) ∧ ∀ z ∈ zs, isB z
theorem GotOk.keep {k2 : Bool} {lo n c : Nat} {A : Option Addr} {zs : List Int} {w w' : World} (k : Since w w') (h : GotOk k2 lo A n c zs w) : GotOk k2 lo A n c zs w' := fun e => ⟨keep_own k (h e).1, (h e).2⟩
theorem got_y {k2 : Bool} {lo n c : Nat} {A : Option Addr} {zs : List Int} {w : World} (h : ItAt lo w ⟨A, n, c, zs⟩) : GotOk k2 lo A n c zs w := fun _ => ⟨h.1, h.2.1⟩
theorem got_n {lo n c : Nat} {A : Option Addr} {zs : List Int} {w : World} : GotOk false lo A n c zs w := fun e => by cases e
theorem str_neq {s : ByteArray} : (s != s) = false := by
  have h := Go.Proofs.Ytlihhjcneedgnaa.Byt.ba_beq s s
  simp [bne, h]
end Go.Proofs.Ytlihhjcneedgnaa.Nt
