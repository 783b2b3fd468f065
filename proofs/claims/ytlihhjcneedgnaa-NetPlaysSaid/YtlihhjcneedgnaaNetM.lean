/-
  A model of a net: a row of rows of strings, all of the call's own; one row taken out of it, put back.
  No condition.
-/
import Derived.Test.YtlihhjcneedgnaaProg
import Derived.Test.YtlihhjcneedgnaaRws
import Derived.Test.YtlihhjcneedgnaaEl
import Derived.Test.YtlihhjcneedgnaaNet
namespace Go.Proofs.Ytlihhjcneedgnaa.Nt
set_option linter.unusedVariables false
set_option linter.unusedSimpArgs false
open Go.RowKit Go.Proofs.Ytlihhjcneedgnaa.Ba Go.Proofs.Ytlihhjcneedgnaa.Mem
structure RowS where
  A : Option Addr
  n : Nat
  c : Nat
  zss : List (List Int)
def rowC (r : RowS) : List Value := [.slice r.A r.n r.c]
def strC (z : List Int) : List Value := [.string (strOfNums z)]
theorem rowC_len (r : RowS) : (rowC r).length = 1 := rfl
theorem strC_len (z : List Int) : (strC z).length = 1 := rfl
theorem strC_one (z : List Int) : ∀ u ∈ strC z, u.oneCell' = true := by
  intro u hu; rw [strC, List.mem_singleton] at hu; rw [hu]; rfl
theorem strs_one (l : List (List Int)) : ∀ u ∈ rowsOf strC l, u.oneCell' = true := rowsOf_one' strC_one l
def blkR (r : RowS) : List Nat := blkOf r.A
def RAt (lo : Nat) (r : RowS) (w : World) : Prop := w.ownsRow lo 9 1 (.slice r.A r.n r.c) r.n (rowsOf strC r.zss)
/-- The rows but the one at t. -/
def Rest (lo : Nat) (rs : List RowS) (t : Nat) (w : World) : Prop := ∀ i r, i ≠ t → rs[i]? = some r → RAt lo r w
def restB (rs : List RowS) (t : Nat) : List Nat := (rs.eraseIdx t).flatMap blkR
def MO (lo g : Nat) (rs : List RowS) (S : List Nat) (w : World) : Prop := lo ≤ g ∧ S = g :: rs.flatMap blkR ∧ Blk w g 58 (rowsOf rowC rs).toArray ∧ (∀ r ∈ rs, RAt lo r w) ∧ (rs.flatMap blkR).Nodup
section
variable {w w' : World} {lo g t : Nat} {rs : List RowS} {r : RowS} {S T : List Nat}
theorem RAt.upd (k : Upd T w w') (h : RAt lo r w) (hT : ∀ g ∈ blkR r, g ∉ T) : RAt lo r w' := k.own h hT
theorem RAt.ne {cs : Array Value} {ty : TypeId} (h : RAt lo r w) (hB : Blk w g ty cs) (hne : ty ≠ 9) : g ∉ blkR r := own_ne_ty h hB hne
theorem mem_rest {i x : Nat} (hi : i ≠ t) (hr : rs[i]? = some r) (hx : x ∈ blkR r) : x ∈ restB rs t :=
  List.mem_flatMap.2 ⟨r, by rw [List.mem_eraseIdx_iff_getElem?]; exact ⟨i, hi, hr⟩, hx⟩
theorem of_rest {x : Nat} (h : x ∈ restB rs t) : ∃ i r, i ≠ t ∧ rs[i]? = some r ∧ x ∈ blkR r := by
  obtain ⟨r, hr, hx⟩ := List.mem_flatMap.1 h
  rw [List.mem_eraseIdx_iff_getElem?] at hr
  obtain ⟨i, hi, hr⟩ := hr
  exact ⟨i, r, hi, hr, hx⟩
theorem Rest.upd (k : Upd T w w') (h : Rest lo rs t w) (hT : ∀ g ∈ restB rs t, g ∉ T) : Rest lo rs t w' := fun i r hi hr => (h i r hi hr).upd k (fun x hx => hT x (mem_rest hi hr hx))
theorem Rest.keep (k : Since w w') (h : Rest lo rs t w) : Rest lo rs t w' := h.upd (Upd.of_since (S := []) k) (fun _ _ => by simp)
theorem Rest.lt (h : Rest lo rs t w) : ∀ x ∈ restB rs t, x < w.heap.size := fun x hx => by
  obtain ⟨i, r, hi, hr, hx⟩ := of_rest hx
  exact own_lt (h i r hi hr) x hx
theorem Rest.low (h : Rest lo rs t w) : ∀ x ∈ restB rs t, lo ≤ x := fun x hx => by
  obtain ⟨i, r, hi, hr, hx⟩ := of_rest hx
  exact own_low (h i r hi hr) x hx
theorem Rest.far (h : Rest lo rs t w) (hb : w.heap.size ≤ g) : g ∉ restB rs t := fun hm => by have := h.lt g hm; omega
theorem Rest.row_far (h : Rest lo rs t w) (hb : g ∉ restB rs t) (cs : Array Value) : Rest lo rs t (w.setRow g cs) :=
  h.upd (T := [g]) ((Upd.refl _ w).setRow (.inl (by simp)) cs) (fun x hx hgb => hb (by rw [← List.mem_singleton.1 hgb]; exact hx))
theorem MO.upd (k : Upd T w w') (h : MO lo g rs S w) (hT : ∀ x ∈ S, x ∉ T) : MO lo g rs S w' := by
  obtain ⟨h0, rfl, hB, hR, hn⟩ := h
  exact ⟨h0, rfl, k.blk hB (hT g List.mem_cons_self), fun r hr => (hR r hr).upd k (fun x hx => hT x (List.mem_cons_of_mem _ (List.mem_flatMap.2 ⟨r, hr, hx⟩))), hn⟩
theorem MO.keep (k : Since w w') (h : MO lo g rs S w) : MO lo g rs S w' := h.upd (Upd.of_since (S := []) k) (fun _ _ => by simp)
theorem MO.lt (h : MO lo g rs S w) : ∀ x ∈ S, x < w.heap.size := fun x hx => by
  obtain ⟨h0, rfl, hB, hR, hn⟩ := h
  rcases List.mem_cons.1 hx with rfl | hx
  · exact hB.lt
  · obtain ⟨r, hr, hx⟩ := List.mem_flatMap.1 hx
    exact own_lt (hR r hr) x hx
theorem MO.low (h : MO lo g rs S w) : ∀ x ∈ S, lo ≤ x := fun x hx => by
  obtain ⟨h0, rfl, hB, hR, hn⟩ := h
  rcases List.mem_cons.1 hx with rfl | hx
  · exact h0
  · obtain ⟨r, hr, hx⟩ := List.mem_flatMap.1 hx
    exact own_low (hR r hr) x hx
theorem MO.far {x : Nat} (h : MO lo g rs S w) (hb : w.heap.size ≤ x) : x ∉ S := fun hm => by have := h.lt x hm; omega
theorem MO.row_far {x : Nat} (h : MO lo g rs S w) (hb : x ∉ S) (cs : Array Value) : MO lo g rs S (w.setRow x cs) :=
  h.upd (T := [x]) ((Upd.refl _ w).setRow (.inl (by simp)) cs) (fun y hy hgb => hb (by rw [← List.mem_singleton.1 hgb]; exact hy))
theorem rows_el (h : rs[t]? = some r) : (rowsOf rowC rs).toArray = el (rowsOf rowC (rs.take t)) #[.slice r.A r.n r.c] (rowsOf rowC (rs.drop (t + 1))) := by
  obtain ⟨h1, h2⟩ := List.getElem?_eq_some_iff.1 h
  have e : rs = rs.take t ++ r :: rs.drop (t + 1) := by rw [← h2, List.getElem_cons_drop, List.take_append_drop]
  unfold el
  conv => lhs; rw [e]
  rw [rowsOf_append, rowsOf_cons]
  simp [rowC]
theorem take_len (h : rs[t]? = some r) : (rowsOf rowC (rs.take t)).length = 0 + t * 1 := by
  obtain ⟨h1, h2⟩ := List.getElem?_eq_some_iff.1 h
  rw [rowsOf_len rowC_len, List.length_take]; omega
/-- The row at t by itself. -/
theorem MO.open_ (h : MO lo g rs S w) (ht : rs[t]? = some r) : Blk w g 58 (el (rowsOf rowC (rs.take t)) #[.slice r.A r.n r.c] (rowsOf rowC (rs.drop (t + 1)))) ∧ RAt lo r w ∧ Rest lo rs t w ∧ (∀ x ∈ blkR r, x ∉ restB rs t) ∧ g ∉ restB rs t ∧ g ∉ blkR r := by
  obtain ⟨h0, rfl, hB, hR, hn⟩ := h
  refine ⟨by rw [← rows_el ht]; exact hB, hR r (List.mem_of_getElem? ht), fun i r' _ hr => hR r' (List.mem_of_getElem? hr), ?_, ?_, (hR r (List.mem_of_getElem? ht)).ne hB (by decide)⟩
  · intro x hx hm
    obtain ⟨h1, h2⟩ := List.getElem?_eq_some_iff.1 ht
    have e : rs = rs.take t ++ r :: rs.drop (t + 1) := by rw [← h2, List.getElem_cons_drop, List.take_append_drop]
    have e2 : rs.eraseIdx t = rs.take t ++ rs.drop (t + 1) := List.eraseIdx_eq_take_drop_succ _ _
    rw [e, List.flatMap_append, List.flatMap_cons] at hn
    unfold restB at hm
    rw [e2, List.flatMap_append] at hm
    obtain ⟨_, n2, n3⟩ := List.nodup_append.1 hn
    obtain ⟨_, _, n4⟩ := List.nodup_append.1 n2
    rcases List.mem_append.1 hm with hm | hm
    · exact n3 x hm x (List.mem_append_left _ hx) rfl
    · exact n4 x hx x hm rfl
  · intro hm
    obtain ⟨i, r', hi, hr, hx⟩ := of_rest hm
    exact (hR r' (List.mem_of_getElem? hr)).ne hB (by decide) hx
/-- Put back. -/
theorem MO.close {r' : RowS} (h0 : lo ≤ g) (ht : rs[t]? = some r) (hnd : (rs.flatMap blkR).Nodup) (hB : Blk w g 58 (el (rowsOf rowC (rs.take t)) #[.slice r'.A r'.n r'.c] (rowsOf rowC (rs.drop (t + 1))))) (hR : RAt lo r' w) (hrest : Rest lo rs t w) (hd : ∀ x ∈ blkR r', x ∉ restB rs t) : MO lo g (rs.set t r') (g :: (rs.set t r').flatMap blkR) w := by
  obtain ⟨h1, h2⟩ := List.getElem?_eq_some_iff.1 ht
  have e : rs.set t r' = rs.take t ++ r' :: rs.drop (t + 1) := by rw [List.set_eq_take_append_cons_drop, if_pos h1]
  have e1 : rs = rs.take t ++ r :: rs.drop (t + 1) := by rw [← h2, List.getElem_cons_drop, List.take_append_drop]
  have e2 : rs.eraseIdx t = rs.take t ++ rs.drop (t + 1) := List.eraseIdx_eq_take_drop_succ _ _
  have hs : (rs.set t r')[t]? = some r' := by rw [List.getElem?_set_self h1]
  refine ⟨h0, rfl, ?_, fun x hx => ?_, ?_⟩
  · have e3 := rows_el hs
    have e4 : (rs.set t r').take t = rs.take t := by rw [List.take_set_of_le (Nat.le_refl t)]
    have e5 : (rs.set t r').drop (t + 1) = rs.drop (t + 1) := by rw [List.drop_set_of_lt (Nat.lt_succ_self t)]
    rw [e3, e4, e5]; exact hB
  · obtain ⟨i, hi⟩ := List.mem_iff_getElem?.1 hx
    by_cases hit : i = t
    · subst hit; rw [hs] at hi; cases hi; exact hR
    · rw [List.getElem?_set_ne (Ne.symm hit)] at hi
      exact hrest i x hit hi
  · unfold restB at hd
    rw [e2, List.flatMap_append] at hd
    rw [e1, List.flatMap_append, List.flatMap_cons] at hnd
    rw [e, List.flatMap_append, List.flatMap_cons]
    obtain ⟨n1, n2, n3⟩ := List.nodup_append.1 hnd
    obtain ⟨_, n5, _⟩ := List.nodup_append.1 n2
    refine List.nodup_append.2 ⟨n1, List.nodup_append.2 ⟨?_, n5, fun a ha b hb hab => hd a ha (List.mem_append_right _ (hab ▸ hb))⟩, fun a ha b hb hab => ?_⟩
    · unfold blkR blkOf
      rcases r'.A with _ | ⟨_, _, _⟩ <;> simp
    · subst hab
      rcases List.mem_append.1 hb with hb | hb
      · exact hd a hb (List.mem_append_left _ ha)
      · exact n3 a ha a (List.mem_append_right _ hb) rfl
end
/-- The model's rows read as what lies on the ways; nothing lies on any other. -/
def Same (rs : List RowS) (c : Int → List (List Int)) : Prop := (∀ (i : Nat) (r : RowS), rs[i]? = some r → r.zss = c (i : Int)) ∧ ∀ x, (x < 0 ∨ (rs.length : Int) ≤ x) → c x = []
theorem Same.set {rs : List RowS} {c : Int → List (List Int)} {t : Nat} {r' : RowS} (h : Same rs c) (ht : t < rs.length) {c' : Int → List (List Int)} (h1 : c' (t : Int) = r'.zss) (h2 : ∀ x, x ≠ (t : Int) → c' x = c x) : Same (rs.set t r') c' := by
  refine ⟨fun i r hr => ?_, fun x hx => ?_⟩
  · by_cases hi : i = t
    · subst hi; rw [List.getElem?_set_self ht] at hr; cases hr; exact h1.symm
    · rw [List.getElem?_set_ne (Ne.symm hi)] at hr
      rw [h2 _ (by omega)]; exact h.1 i r hr
  · rw [List.length_set] at hx
    rw [h2 x (by omega)]; exact h.2 x hx
end Go.Proofs.Ytlihhjcneedgnaa.Nt
