/-
  One element of a row of structs, by itself: loads and stores of its cells.
  No condition.
-/
import Derived.Test.YtlihhjcneedgnaaCut
import Derived.Test.YtlihhjcneedgnaaRws
namespace Go.Proofs.Ytlihhjcneedgnaa.Ba
set_option linter.unusedVariables false
set_option linter.unusedSimpArgs false
open Go.RowKit Go.Proofs.Ytlihhjcneedgnaa.Mem
/-- P, then the element's cells, then S. -/
def el (P : List Value) (cs : Array Value) (S : List Value) : Array Value := (P ++ cs.toList ++ S).toArray
section
variable {P S : List Value} {cs cs' : Array Value} {off j n : Nat} {v : Value} {l vs : List Value}
theorem el_at (hp : P.length = off) (h : cs[j]? = some v) : (el P cs S)[off + j]? = some v := by
  subst hp
  have hj : j < cs.size := by
    rcases Nat.lt_or_ge j cs.size with h1 | h1
    · exact h1
    · rw [Array.getElem?_eq_none h1] at h; cases h
  simp only [el, List.getElem?_toArray, List.append_assoc]
  rw [List.getElem?_append_right (by omega), Nat.add_sub_cancel_left, List.getElem?_append_left (by simpa using hj)]
  simpa using h
theorem el_size : (el P cs S).size = P.length + cs.size + S.length := by simp [el]; omega
theorem el_lt (hp : P.length = off) (h : j < cs.size) : off + j < (el P cs S).size := by rw [el_size]; omega
theorem el_le (hp : P.length = off) (h : j + n ≤ cs.size) : off + j + n ≤ (el P cs S).size := by rw [el_size]; omega
theorem el_set (hp : P.length = off) (h : j < cs.size) (hc : cs.setIfInBounds j v = cs') : (el P cs S).setIfInBounds (off + j) v = el P cs' S := by
  subst hp hc
  unfold el
  rw [List.setIfInBounds_toArray, List.append_assoc, List.append_assoc, List.set_append_right _ _ (by omega), Nat.add_sub_cancel_left, List.set_append_left _ _ (by simpa using h)]
  simp
theorem el_put : ∀ {vs : List Value} {j : Nat} {cs cs' : Array Value}, P.length = off → j + vs.length ≤ cs.size → putAt cs j vs = cs' → putAt (el P cs S) (off + j) vs = el P cs' S
  | [], _, _, _, _, _, hc => by subst hc; rfl
  | v :: r, j, cs, cs', hp, h, hc => by
    simp only [List.length_cons] at h
    unfold putAt at hc ⊢
    rw [el_set hp (by omega) rfl, Nat.add_assoc]
    exact el_put hp (by simp; omega) hc
theorem el_part (hp : P.length = off) (hl : (cs.toList.drop j).take n = l) (h : j + n ≤ cs.size) : ((el P cs S).toList.drop (off + j)).take n = l := by
  subst hp hl
  simp only [el, List.append_assoc]
  rw [List.drop_append, Nat.add_sub_cancel_left, List.drop_eq_nil_of_le (by omega), List.nil_append, List.drop_append_of_le_length (by simp; omega), List.take_append_of_le_length (by simp; omega)]
end
/-- A row's element by itself, and how the row is with another one in its place. -/
theorem own_el {α : Type} {enc : α → List Value} {k : Nat} (hk : ∀ a, (enc a).length = k) {w : World} {lo g n c i : Nat} {e : TypeId} {ls : List α}
    (h : w.ownsRow lo e k (.slice (some ⟨g, 0, none⟩) n c) n (rowsOf enc ls)) (hi : i < ls.length) :
    ∃ P S : List Value, P.length = 0 + i * k ∧ Blk w g e (el P (enc ls[i]).toArray S) ∧ ∀ a w', Blk w' g e (el P (enc a).toArray S) → w'.ownsRow lo e k (.slice (some ⟨g, 0, none⟩) n c) n (rowsOf enc (ls.set i a)) := by
  have hr := rowsOf_len hk ls
  rcases own_at h with ⟨h0, _⟩ | ⟨g', cur, hA, hb, B, hn, hc, hs, ht⟩
  · cases h0
  · have hg : g' = g := by injection hA with hA; injection hA with hA; exact hA.symm
    subst hg
    have hlen : (rowsOf enc ls).length = n * k := h.1
    have hnl : ls.length * k = n * k := by rw [← hr, hlen]
    have hik : i * k + k ≤ n * k := by rw [← hnl, ← Nat.succ_mul]; exact Nat.mul_le_mul_right _ hi
    have hck : n * k ≤ c * k := Nat.mul_le_mul_right _ hn
    have hcl : cur.toList.length = c * k := by simpa using hs
    have hel : (cur.toList.drop (i * k)).take k = enc ls[i] := by
      have h1 := rowsOf_at hk hi
      rw [← h1, ← ht, List.drop_take, List.take_take, Nat.min_eq_left (by omega)]
    refine ⟨cur.toList.take (i * k), cur.toList.drop (i * k + k), by rw [List.length_take, Nat.zero_add]; omega, ?_, ?_⟩
    · have : el (cur.toList.take (i * k)) (enc ls[i]).toArray (cur.toList.drop (i * k + k)) = cur := by
        unfold el
        rw [← hel]
        apply Array.ext'
        simp only [List.toList_toArray]
        rw [← List.drop_drop, List.append_assoc, List.take_append_drop, List.take_append_drop]
      rw [this]; exact B
    · intro a w' B'
      have hal := hk a
      refine ⟨by rw [rowsOf_len hk, List.length_set]; exact hnl, .inr ⟨g', c, _, rfl, hb, B', hn, hc, ?_, ?_⟩⟩
      · rw [el_size]; simp only [List.length_take, List.length_drop, List.size_toArray, hal, hcl]; omega
      · simp only [el, List.toList_toArray]
        have hL1 : (cur.toList.take (i * k)).length = i * k := by rw [List.length_take]; omega
        rw [rowsOf_set hk hi a, ← ht, List.take_take, Nat.min_eq_left (by omega), List.append_assoc, List.take_append, hL1, List.take_of_length_le (by omega), List.take_append, hal, List.take_of_length_le (l := enc a) (by omega), List.drop_take, Nat.sub_sub]
end Go.Proofs.Ytlihhjcneedgnaa.Ba
