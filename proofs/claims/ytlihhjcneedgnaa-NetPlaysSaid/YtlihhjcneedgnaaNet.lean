/-
  A net as an object: the ways with something on them, each with its rows of bytes; all in blocks of its own.
  No condition.
-/
import Derived.Test.YtlihhjcneedgnaaProg
import Derived.Test.YtlihhjcneedgnaaRws
import Derived.Test.YtlihhjcneedgnaaMapI
namespace Go.Proofs.Ytlihhjcneedgnaa.Nt
set_option linter.unusedVariables false
set_option linter.unusedSimpArgs false
open Go.RowKit Go.Proofs.Ytlihhjcneedgnaa.Ba Go.Proofs.Ytlihhjcneedgnaa.Mem
open Go.Proofs.Ytlihhjcneedgnaa.Byt (BV isB cells)
open Go.Proofs.Ytlihhjcneedgnaa.Mp (MapF setK)
/-- Bytes that lie on a way; a way. -/
structure ItV where
  A : Option Addr
  n : Nat
  c : Nat
  zs : List Int
structure WayV where
  g : Nat
  c : Nat
  its : List ItV
def itv (s : ItV) : List Value := [.slice s.A s.n s.c]
def wayv (W : WayV) : Value := .slice (some ⟨W.g, 0, none⟩) W.its.length W.c
theorem itv_len (s : ItV) : (itv s).length = 1 := rfl
theorem itv_one (s : ItV) : ∀ u ∈ itv s, u.oneCell' = true := by
  intro u hu
  rw [itv, List.mem_singleton] at hu
  rw [hu]; rfl
theorem its_one (ls : List ItV) : ∀ u ∈ rowsOf itv ls, u.oneCell' = true := rowsOf_one' itv_one ls
def blkI (s : ItV) : List Nat := blkOf s.A
def blkW (W : WayV) : List Nat := W.g :: W.its.flatMap blkI
def ItAt (lo : Nat) (w : World) (s : ItV) : Prop := w.ownsRow lo 5 1 (.slice s.A s.n s.c) s.n (cells s.zs) ∧ (∀ z ∈ s.zs, isB z) ∧ s.n ≤ 1000000
def ItsAt (lo : Nat) (ls : List ItV) (w : World) : Prop := ∀ s ∈ ls, ItAt lo w s
def RowAt (lo : Nat) (A : Option Addr) (n c : Nat) (ls : List ItV) (w : World) : Prop := w.ownsRow lo 55 1 (.slice A n c) n (rowsOf itv ls)
/-- The ways, but for their map. -/
def WaysAt (lo : Nat) (ws : Int → Option WayV) (w : World) : Prop := ∀ x W, ws x = some W → W.its ≠ [] ∧ RowAt lo (some ⟨W.g, 0, none⟩) W.its.length W.c W.its w ∧ ItsAt lo W.its w
/-- No two of their blocks are one. -/
def Apart (ws : Int → Option WayV) : Prop := (∀ x y W V, ws x = some W → ws y = some V → x ≠ y → ∀ g ∈ blkW W, g ∉ blkW V) ∧ ∀ x W, ws x = some W → (blkW W).Nodup
def cont (ws : Int → Option WayV) (x : Int) : List (List Int) := match ws x with | some W => W.its.map ItV.zs | none => []
def NO (lo q b : Nat) (ends room : Int) (N : Nat) (ws : Int → Option WayV) (S : List Nat) (w : World) : Prop :=
  (q ∈ S ∧ b ∈ S ∧ (∀ g ∈ S, lo ≤ g ∧ g < w.heap.size) ∧ ∀ x W, ws x = some W → ∀ g ∈ blkW W, g ∈ S) ∧ Blk w q 92 #[.int .i64 ends, .int .i64 room, .map (some b)] ∧ MapF Try.prog 3 w b N (fun x => (ws x).map wayv) ∧ WaysAt lo ws w ∧ Apart ws
section
variable {w w' : World} {lo q b g N : Nat} {ends room : Int} {ws : Int → Option WayV} {S T : List Nat} {ls : List ItV} {s : ItV}
theorem ItAt.upd (k : Upd T w w') (h : ItAt lo w s) (hT : ∀ g ∈ blkI s, g ∉ T) : ItAt lo w' s := ⟨k.own h.1 hT, h.2⟩
theorem ItsAt.upd (k : Upd T w w') (h : ItsAt lo ls w) (hT : ∀ g ∈ ls.flatMap blkI, g ∉ T) : ItsAt lo ls w' := fun s hs => (h s hs).upd k (fun g hg => hT g (List.mem_flatMap.2 ⟨s, hs, hg⟩))
theorem ItsAt.keep (k : Since w w') (h : ItsAt lo ls w) : ItsAt lo ls w' := h.upd (Upd.of_since (S := []) k) (fun _ _ => by simp)
theorem ItsAt.lt (h : ItsAt lo ls w) : ∀ g ∈ ls.flatMap blkI, g < w.heap.size := fun g hg => by
  obtain ⟨s, hs, h2⟩ := List.mem_flatMap.1 hg
  exact own_lt (h s hs).1 g h2
theorem WaysAt.upd (k : Upd T w w') (h : WaysAt lo ws w) (hT : ∀ x W, ws x = some W → ∀ g ∈ blkW W, g ∉ T) : WaysAt lo ws w' := fun x W hx => by
  obtain ⟨h1, h2, h3⟩ := h x W hx
  exact ⟨h1, k.own h2 (fun g hg => hT x W hx g (by simp [blkOf] at hg; rw [hg]; exact List.mem_cons_self)), h3.upd k (fun g hg => hT x W hx g (List.mem_cons_of_mem _ hg))⟩
theorem NO.upd (k : Upd T w w') (h : NO lo q b ends room N ws S w) (hT : ∀ g ∈ S, g ∉ T) : NO lo q b ends room N ws S w' := by
  obtain ⟨⟨h1, h2, h3, h4⟩, h5, h6, h7, h8⟩ := h
  exact ⟨⟨h1, h2, fun g hg => ⟨(h3 g hg).1, Nat.lt_of_lt_of_le (h3 g hg).2 k.size⟩, h4⟩, k.blk h5 (hT q h1), h6.upd k (hT b h2), h7.upd k (fun x W hx g hg => hT g (h4 x W hx g hg)), h8⟩
theorem NO.keep (k : Since w w') (h : NO lo q b ends room N ws S w) : NO lo q b ends room N ws S w' := h.upd (Upd.of_since (S := []) k) (fun _ _ => by simp)
theorem NO.lt (h : NO lo q b ends room N ws S w) : ∀ g ∈ S, g < w.heap.size := fun g hg => (h.1.2.2.1 g hg).2
theorem NO.low (h : NO lo q b ends room N ws S w) : ∀ g ∈ S, lo ≤ g := fun g hg => (h.1.2.2.1 g hg).1
theorem NO.far (h : NO lo q b ends room N ws S w) (hb : w.heap.size ≤ g) : g ∉ S := fun hm => by have := h.lt g hm; omega
theorem NO.row_far (h : NO lo q b ends room N ws S w) (hb : g ∉ S) (cs : Array Value) : NO lo q b ends room N ws S (w.setRow g cs) :=
  h.upd (T := [g]) ((Upd.refl _ w).setRow (.inl (by simp)) cs) (fun x hx hgb => hb (by simpa using (List.mem_singleton.1 hgb) ▸ hx))
theorem NO.more {N' : Nat} (h : NO lo q b ends room N ws S w) (hN : N ≤ N') : NO lo q b ends room N' ws S w := ⟨h.1, h.2.1, h.2.2.1.mono hN, h.2.2.2⟩
/-- A block of cells is no map's. -/
theorem map_ne {P : Program} {k t : TypeId} {n : Nat} {m : Int → Option Value} {cs : Array Value} (h : MapF P k w b n m) (hB : Blk w g t cs) : b ≠ g := by
  rintro rfl
  obtain ⟨D, ⟨es, clock, h1, _⟩, _⟩ := h
  unfold Blk at hB
  rw [h1] at hB
  cases hB
theorem map_own {P : Program} {k e : TypeId} {n n' c size base : Nat} {A : Option Addr} {xs : List Value} {m : Int → Option Value} (h : MapF P k w b n m) (ho : w.ownsRow base e size (.slice A n' c) n' xs) : b ∉ blkOf A := by
  rcases own_at ho with ⟨rfl, _⟩ | ⟨g', cur, rfl, _, hB, _⟩
  · simp [blkOf]
  · intro hm
    simp [blkOf] at hm
    exact map_ne h hB hm
theorem map_its {P : Program} {k : TypeId} {n : Nat} {m : Int → Option Value} (h : MapF P k w b n m) (hi : ItsAt lo ls w) : ∀ g ∈ ls.flatMap blkI, g ≠ b := by
  rintro g hg rfl
  obtain ⟨s, hs, h2⟩ := List.mem_flatMap.1 hg
  exact map_own h (hi s hs).1 h2
theorem its_ty {t : TypeId} {cs : Array Value} (hi : ItsAt lo ls w) (hB : Blk w g t cs) (hne : t ≠ 5) : g ∉ ls.flatMap blkI := fun hg => by
  obtain ⟨s, hs, h2⟩ := List.mem_flatMap.1 hg
  exact own_ne_ty (hi s hs).1 hB hne h2
/-- What of the ways is not x's. -/
def but (ws : Int → Option WayV) (x : Int) : Int → Option WayV := fun y => if y = x then none else ws y
/-- The blocks of these. -/
def BlkIn (ws : Int → Option WayV) (g : Nat) : Prop := ∃ x W, ws x = some W ∧ g ∈ blkW W
theorem but_some {x y : Int} {W : WayV} (h : but ws x y = some W) : y ≠ x ∧ ws y = some W := by
  unfold but at h
  split at h
  · cases h
  · rename_i hne; exact ⟨hne, h⟩
theorem WaysAt.but (h : WaysAt lo ws w) (x : Int) : WaysAt lo (but ws x) w := fun y W hy => h y W (but_some hy).2
/-- A way changes: what is then. -/
theorem NO.put {N' : Nat} {x : Int} {W' : WayV} {S' : List Nat} (h : NO lo q b ends room N ws S w) (hS : ∀ g ∈ S, g ∈ S') (hW : ∀ g ∈ blkW W', g ∈ S') (hlt : ∀ g ∈ S', lo ≤ g ∧ g < w'.heap.size)
    (hQ : Blk w' q 92 #[.int .i64 ends, .int .i64 room, .map (some b)]) (hM : MapF Try.prog 3 w' b N' (setK (fun x => (ws x).map wayv) x (some (wayv W')))) (hR : WaysAt lo (but ws x) w') (hne : W'.its ≠ []) (hrow : RowAt lo (some ⟨W'.g, 0, none⟩) W'.its.length W'.c W'.its w') (hits : ItsAt lo W'.its w')
    (hnd : (blkW W').Nodup) (hap : ∀ y V, ws y = some V → y ≠ x → ∀ g ∈ blkW W', g ∉ blkW V) : NO lo q b ends room N' (fun y => if y = x then some W' else ws y) S' w' := by
  obtain ⟨⟨h1, h2, h3, h4⟩, h5, h6, h7, h8⟩ := h
  refine ⟨⟨hS q h1, hS b h2, hlt, fun y V hy g hg => ?_⟩, hQ, ?_, fun y V hy => ?_, fun y z V U hy hz hyz g hg => ?_, fun y V hy => ?_⟩
  · simp only at hy
    split at hy
    · cases hy; exact hW g hg
    · exact hS g (h4 y V hy g hg)
  · have e : (fun y => (if y = x then some W' else ws y).map wayv) = setK (fun y => (ws y).map wayv) x (some (wayv W')) := by
      funext y
      unfold setK
      by_cases e : y = x
      · rw [if_pos e, if_pos e]; rfl
      · rw [if_neg e, if_neg e]
    rw [e]; exact hM
  · simp only at hy
    split at hy
    · cases hy; exact ⟨hne, hrow, hits⟩
    · rename_i e; exact hR y V (by unfold but; rw [if_neg e]; exact hy)
  · simp only at hy hz
    split at hy <;> split at hz
    · omega
    · rename_i e1 e2; cases hy; exact hap z U hz e2 g hg
    · rename_i e1 e2; cases hz; exact fun hg2 => hap y V hy e1 g hg2 hg
    · exact h8.1 y z V U hy hz hyz g hg
  · simp only at hy
    split at hy
    · cases hy; exact hnd
    · exact h8.2 y V hy
/-- A way goes. -/
theorem NO.del {N' : Nat} {x : Int} (h : NO lo q b ends room N ws S w) (hlt : ∀ g ∈ S, lo ≤ g ∧ g < w'.heap.size)
    (hQ : Blk w' q 92 #[.int .i64 ends, .int .i64 room, .map (some b)]) (hM : MapF Try.prog 3 w' b N' (setK (fun x => (ws x).map wayv) x none)) (hR : WaysAt lo (but ws x) w') : NO lo q b ends room N' (but ws x) S w' := by
  obtain ⟨⟨h1, h2, h3, h4⟩, h5, h6, h7, h8⟩ := h
  refine ⟨⟨h1, h2, hlt, fun y V hy g hg => h4 y V (but_some hy).2 g hg⟩, hQ, ?_, hR, fun y z V U hy hz hyz g hg => h8.1 y z V U (but_some hy).2 (but_some hz).2 hyz g hg, fun y V hy => h8.2 y V (but_some hy).2⟩
  have e : (fun y => (but ws x y).map wayv) = setK (fun y => (ws y).map wayv) x none := by
    funext y
    unfold setK but
    by_cases e : y = x
    · rw [if_pos e, if_pos e]; rfl
    · rw [if_neg e, if_neg e]
  rw [e]; exact hM
end
end Go.Proofs.Ytlihhjcneedgnaa.Nt
