/-
  Objects that change: which blocks a step leaves alone; rows of structs of the call's own, appended to, stored into.
  No condition.
-/
import Derived.Test.YtlihhjcneedgnaaFar
namespace Go.Proofs.Ytlihhjcneedgnaa.Ba
set_option linter.unusedVariables false
set_option linter.unusedSimpArgs false
open Go.RowKit Go.Proofs.Ytlihhjcneedgnaa.Mem
open Go.Proofs.Ytlihhjcneedgnaa.Byt (BV isB cells)
def blkOf : Option Addr → List Nat
  | some a => [a.block]
  | none => []
/-- Nothing changed but the blocks of S, and new ones. -/
structure Upd (S : List Nat) (w w' : World) : Prop where
  os : w'.os = w.os
  tape : w'.tape = w.tape
  output : w'.output = w.output
  size : w.heap.size ≤ w'.heap.size
  block : ∀ k, k < w.heap.size → k ∉ S → w'.heap[k]? = w.heap[k]?
section
variable {S T : List Nat} {W w w' a b c : World} {g : Nat} {t : TypeId} {cs : Array Value}
theorem Upd.refl (S : List Nat) (w : World) : Upd S w w := ⟨rfl, rfl, rfl, Nat.le_refl _, fun _ _ _ => rfl⟩
theorem Upd.of_since (h : Since w w') : Upd S w w' := ⟨h.below.os, h.below.tape, h.below.output, h.below.size, fun k hk _ => h.below.block k hk⟩
theorem Upd.mono (h : Upd S w w') (hs : ∀ k ∈ S, k < w.heap.size → k ∈ T) : Upd T w w' := ⟨h.os, h.tape, h.output, h.size, fun k hk hn => h.block k hk (fun hS => hn (hs k hS hk))⟩
theorem Upd.comp (h : Upd S a b) (k : Upd T b c) (hT : ∀ g ∈ T, g ∈ S ∨ a.heap.size ≤ g) : Upd S a c :=
  ⟨k.os.trans h.os, k.tape.trans h.tape, k.output.trans h.output, Nat.le_trans h.size k.size, fun g hg hn =>
    (k.block g (Nat.lt_of_lt_of_le hg h.size) (fun hgT => by rcases hT g hgT with h1 | h1; exact hn h1; omega)).trans (h.block g hg hn)⟩
theorem Upd.trans (h : Upd S a b) (k : Since b c) : Upd S a c := h.comp (Upd.of_since (S := []) k) (fun _ hg => by cases hg)
theorem Upd.drew (h : Upd S w W) : Upd S w W.drew := h.trans ((Since.refl W).drew)
theorem Upd.setRow (h : Upd S w W) (hg : g ∈ S ∨ w.heap.size ≤ g) (cs : Array Value) : Upd S w (W.setRow g cs) :=
  ⟨h.os, h.tape, h.output, by rw [size_setRow]; exact h.size, fun k hk hn => (setRow_other W g k cs (by rintro rfl; rcases hg with h1 | h1; exact hn h1; omega)).trans (h.block k hk hn)⟩
theorem Since.upd (h : Since W w) (k : Upd S w w') (hS : ∀ g ∈ S, W.heap.size ≤ g) : Since W w' :=
  ⟨k.os.trans h.below.os, k.tape.trans h.below.tape, k.output.trans h.below.output, Nat.le_trans h.size k.size, fun g hg =>
    (k.block g (Nat.lt_of_lt_of_le hg h.size) (fun hgS => by have := hS g hgS; omega)).trans (h.below.block g hg)⟩
theorem Upd.since (h : Upd [] w w') : Since w w' := (Since.refl w).upd h (fun _ hg => by cases hg)
theorem Upd.blk (k : Upd S w w') (h : Blk w g t cs) (hg : g ∉ S) : Blk w' g t cs := (k.block g h.lt hg).trans h
theorem Upd.of_grown {A : Option Addr} {n c : Nat} (h : w.grownBy w' (Value.slice A n c).ownBlock) : Upd (blkOf A) w w' := by
  refine ⟨h.os, h.tape, h.output, h.size, fun k hk hn => h.block k hk (fun he => hn ?_)⟩
  cases A with
  | none => simp [Value.ownBlock] at he
  | some a => simp [Value.ownBlock] at he; simp [blkOf, he]
variable {base : Nat} {e : TypeId} {size n c : Nat} {A : Option Addr} {xs : List Value}
theorem own_at (h : w.ownsRow base e size (.slice A n c) n xs) : (A = none ∧ n = 0 ∧ xs = []) ∨ ∃ g cur, A = some ⟨g, 0, none⟩ ∧ base ≤ g ∧ Blk w g e cur ∧ n ≤ c ∧ c ≤ maxLen ∧ cur.size = c * size ∧ cur.toList.take (n * size) = xs := by
  rcases h.2 with ⟨hv, hn⟩ | ⟨g, cap, cur, hv, hb, hg, hc, hm, hs, ht⟩
  · simp at hv
    exact .inl ⟨hv.1, hn, List.eq_nil_of_length_eq_zero (by have := h.1; simpa [hn] using this)⟩
  · simp at hv
    obtain ⟨rfl, rfl⟩ := hv
    exact .inr ⟨g, cur, rfl, hb, hg, hc, hm, hs, ht⟩
theorem own_low (h : w.ownsRow base e size (.slice A n c) n xs) : ∀ g ∈ blkOf A, base ≤ g := by
  rcases own_at h with ⟨rfl, _⟩ | ⟨g, cur, rfl, hb, _⟩
  · simp [blkOf]
  · simp [blkOf, hb]
theorem own_lt (h : w.ownsRow base e size (.slice A n c) n xs) : ∀ g ∈ blkOf A, g < w.heap.size := by
  rcases own_at h with ⟨rfl, _⟩ | ⟨g, cur, rfl, _, hg, _⟩
  · simp [blkOf]
  · simp [blkOf, hg.lt]
theorem own_far (h : w.ownsRow base e size (.slice A n c) n xs) (hg : w.heap.size ≤ g) : g ∉ blkOf A := fun hA => by have := own_lt h g hA; omega
theorem own_ne_ty (h : w.ownsRow base e size (.slice A n c) n xs) (hb : Blk w g t cs) (hne : t ≠ e) : g ∉ blkOf A := by
  rcases own_at h with ⟨rfl, _⟩ | ⟨k, cur, rfl, _, hg, _⟩
  · simp [blkOf]
  · have := Blk.ne_ hb hg hne
    simpa [blkOf] using this
theorem far_next {A A' : Option Addr} (hA : ∀ g ∈ blkOf A', g ∈ blkOf A ∨ w.heap.size ≤ g) (hb : g ∉ blkOf A) (hlt : g < w.heap.size) : g ∉ blkOf A' := fun h => by
  rcases hA g h with h1 | h1
  · exact hb h1
  · omega
theorem Upd.own (k : Upd S w w') (h : w.ownsRow base e size (.slice A n c) n xs) (hA : ∀ g ∈ blkOf A, g ∉ S) : w'.ownsRow base e size (.slice A n c) n xs := by
  refine ⟨h.1, ?_⟩
  rcases own_at h with ⟨rfl, rfl, _⟩ | ⟨g, cur, rfl, hb, hg, hc, hm, hs, ht⟩
  · rcases h.2 with h2 | ⟨_, _, _, hv, _⟩
    · exact .inl h2
    · simp at hv
  · exact .inr ⟨g, c, cur, rfl, hb, k.blk hg (hA g (by simp [blkOf])), hc, hm, hs, ht⟩
theorem own_row_far (h : w.ownsRow base e size (.slice A n c) n xs) (hg : g ∉ blkOf A) (cs : Array Value) : (w.setRow g cs).ownsRow base e size (.slice A n c) n xs :=
  (Upd.setRow (S := [g]) (Upd.refl _ w) (.inl (by simp)) cs).own h (fun k hk hkg => by simp at hkg; exact hg (hkg ▸ hk))
theorem own_reads (h : w.ownsRow base e size (.slice A n c) n xs) : Reads w w.heap.size size A n xs := Reads.of_own h
theorem own_cap2 (h : w.ownsRow base e size (.slice A n c) n xs) : n ≤ c := by
  rcases own_at h with ⟨rfl, rfl, _⟩ | ⟨g, cur, rfl, _, _, hc, _⟩
  · omega
  · exact hc
/-- The cells of the i-th row. -/
theorem own_rng (h : w.ownsRow base e size (.slice (some ⟨g, 0, none⟩) n c) n xs) {i m : Nat} {l : List Value} (hl : (xs.drop i).take m = l) : ∀ j v, l[j]? = some v → w.cell? ⟨g, i + j, none⟩ = some v := fun j v hv => by
  have hx : xs[i + j]? = some v := by
    rw [← hl, List.getElem?_take] at hv
    split at hv
    · rwa [List.getElem?_drop] at hv
    · cases hv
  have := h.cells (g := g) rfl (i + j) v hx
  rw [Go.WideShapes.add_plain, Nat.zero_add] at this
  exact this
end
section
variable {P : Program} {o : Oper} {a : Act} {w : World} {K : Act → World → Prop} {Q : Exit → Act → World → Prop}
theorem info3 {e : TypeId} {z : Value} {size bytes : Nat} (h : (P.info? e).map (fun i => (i.zero, i.size, i.bytes)) = some (some z, size, bytes)) : ∃ i, P.info? e = some i ∧ i.zero = some z ∧ i.size = size ∧ i.bytes = bytes := by
  cases hq : P.info? e with
  | none => simp [hq] at h
  | some i => simp [hq] at h; exact ⟨i, rfl, h.1, h.2.1, h.2.2⟩
/-- Structs are appended to a row of the call's own. -/
theorem wp_append_row (s x : Operand) (t : TypeId) (ho : o.op = .call { callee := .builtin .append, args := #[s, x], argTypes := #[t, t] })
    (base : Nat) (e : TypeId) (z : Value) (size bytes : Nat) (ht : P.underlying t = some (.slice e)) (hinf : (P.info? e).map (fun i => (i.zero, i.size, i.bytes)) = some (some z, size, bytes))
    (hzs : z.cells.size = size) (hsz : 0 < size) (hby : bytes ≤ 1000)
    (A0 : Option Addr) (n c0 : Nat) (xs : List Value) (hs : a.eval s = .slice A0 n c0) (hown : w.ownsRow base e size (.slice A0 n c0) n xs)
    (B : Nat) (A : Option Addr) (m c : Nat) (ys : List Value) (hx : a.eval x = .slice A m c) (hy : Reads w B size A m ys) (h1 : ∀ u ∈ ys, u.oneCell' = true) (hnm : n + m ≤ 1000000) (hbase : base ≤ w.heap.size)
    (n2 : Nat) (zs : List Value) (hn2 : n + m = n2) (hzs2 : xs ++ ys = zs)
    (h : ∀ A' c' w', w'.ownsRow base e size (.slice A' n2 c') n2 zs → Upd (blkOf A0) w w' → (∀ g ∈ blkOf A', g ∈ blkOf A0 ∨ w.heap.size ≤ g) → K (a.put o.dst (.slice A' n2 c')) w') : o.wp P a w K Q := by
  subst hn2 hzs2
  obtain ⟨i, hi, hz, h2, h3⟩ := info3 hinf
  refine wp_append_any w s x t ho base e i z size bytes ht hi hz h2 h3 hzs hsz (.slice A0 n c0) n xs hs hown B A m c ys hx hy h1 (by unfold maxLen; omega) ?_ hbase ?_
  · calc (n + m) * bytes ≤ 1000000 * 1000 := Nat.mul_le_mul hnm hby
      _ ≤ 140737488355328 := by decide
  intro v' w' hown' hg hat
  obtain ⟨A', c', rfl⟩ := Byt.own_form w' hown'
  refine h A' c' w' hown' (Upd.of_grown hg) fun g hgA => ?_
  cases A' with
  | none => simp [blkOf] at hgA
  | some ad =>
    simp [blkOf] at hgA
    subst hgA
    rcases hat with h4 | h4
    · cases A0 with
      | none => simp [Value.ownBlock] at h4
      | some ad0 => simp [Value.ownBlock] at h4; simp [blkOf, h4]
    · simp [Value.ownBlock] at h4
      exact .inr (by omega)
end
end Go.Proofs.Ytlihhjcneedgnaa.Ba
