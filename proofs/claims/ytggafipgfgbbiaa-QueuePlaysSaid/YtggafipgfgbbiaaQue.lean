/-
  A queue as an object: what it holds, in which blocks; what its calls answer.
  No condition.
-/
import Derived.Test.YtggafipgfgbbiaaRws
import Derived.Test.YtggafipgfgbbiaaTyp
namespace Go.Proofs.Ytggafipgfgbbiaa.Qu
set_option linter.unusedVariables false
set_option linter.unusedSimpArgs false
open Go.RowKit Go.Proofs.Ytggafipgfgbbiaa.Ba Go.Proofs.Ytggafipgfgbbiaa.Mem Go.Proofs.Ytggafipgfgbbiaa.Ty
def btw (n lo hi : Int) : Int := if n < lo then lo else if hi < n then hi else n
def askC (a : AskV) : List Value := [.int .i64 a.se, .int .i64 a.fl, .int .i64 a.fm, .int .i64 a.to, .int .i64 a.ma]
theorem askC_len (a : AskV) : (askC a).length = 5 := rfl
theorem askC_one (a : AskV) : ∀ u ∈ askC a, u.oneCell' = true := by
  intro u hu
  simp only [askC, List.mem_cons, List.not_mem_nil, or_false] at hu
  rcases hu with rfl | rfl | rfl | rfl | rfl <;> rfl
theorem asks_one (ls : List AskV) : ∀ u ∈ rowsOf askC ls, u.oneCell' = true := rowsOf_one' askC_one ls
/-- The queue q of world w: its room, who waits; S: its blocks, all from lo on. -/
def QO (lo q : Nat) (room : Int) (ls : List AskV) (S : List Nat) (w : World) : Prop :=
  lo ≤ q ∧ ∃ A c, S = q :: blkOf A ∧ Blk w q 96 #[.int .i64 room, .slice A ls.length c] ∧ w.ownsRow lo 30 5 (.slice A ls.length c) ls.length (rowsOf askC ls)
section
variable {w w' : World} {lo q b : Nat} {room : Int} {ls : List AskV} {S T : List Nat}
theorem QO.keep (k : Since w w') (h : QO lo q room ls S w) : QO lo q room ls S w' := by
  obtain ⟨h0, A, c, rfl, B, O⟩ := h
  exact ⟨h0, A, c, rfl, keep_blk k B, keep_own k O⟩
theorem QO.upd (k : Upd T w w') (h : QO lo q room ls S w) (hT : ∀ g ∈ S, g ∉ T) : QO lo q room ls S w' := by
  obtain ⟨h0, A, c, rfl, B, O⟩ := h
  exact ⟨h0, A, c, rfl, k.blk B (hT _ (by simp)), k.own O (fun g hg => hT g (by simp [hg]))⟩
theorem QO.low (h : QO lo q room ls S w) : ∀ g ∈ S, lo ≤ g := by
  obtain ⟨h0, A, c, rfl, B, O⟩ := h
  intro g hg
  rcases List.mem_cons.1 hg with rfl | hg
  · exact h0
  · exact own_low O g hg
theorem QO.lt (h : QO lo q room ls S w) : ∀ g ∈ S, g < w.heap.size := by
  obtain ⟨h0, A, c, rfl, B, O⟩ := h
  intro g hg
  rcases List.mem_cons.1 hg with rfl | hg
  · exact B.lt
  · exact own_lt O g hg
theorem QO.far (h : QO lo q room ls S w) (hb : w.heap.size ≤ b) : b ∉ S := fun hm => by have := h.lt b hm; omega
theorem QO.row_far (h : QO lo q room ls S w) (hb : b ∉ S) (cs : Array Value) : QO lo q room ls S (w.setRow b cs) :=
  h.upd (T := [b]) ((Upd.refl _ w).setRow (.inl (by simp)) cs) (fun g hg hgb => hb (by simpa using (List.mem_singleton.1 hgb) ▸ hg))
end
def isS (s : Int) (a : AskV) : Bool := a.se == s
def atS (ls : List AskV) (s : Int) : Option Nat := ls.findIdx? (isS s)
theorem atS_some {ls : List AskV} {s : Int} {k : Nat} (h : atS ls s = some k) : k < ls.length ∧ (∀ hk : k < ls.length, (ls[k]).se = s) ∧ ∀ j, j < k → ∀ hj : j < ls.length, (ls[j]).se ≠ s := by
  obtain ⟨hk, h1, h2⟩ := List.findIdx?_eq_some_iff_getElem.1 h
  refine ⟨hk, fun _ => by simpa [isS] using h1, fun j hj _ => ?_⟩
  have := h2 j hj
  simpa [isS] using this
theorem atS_none {ls : List AskV} {s : Int} (h : atS ls s = none) : ∀ a ∈ ls, a.se ≠ s := by
  intro a ha
  have := List.findIdx?_eq_none_iff.1 h a ha
  simpa [isS] using this
/-- What Put answers, and who waits then. -/
def putE (room : Int) (ls : List AskV) (a : AskV) : Int := if (atS ls a.se).isSome then 7 else if room ≤ (ls.length : Int) then 5 else 0
def putL (room : Int) (ls : List AskV) (a : AskV) : List AskV := if putE room ls a = 0 then ls ++ [a] else ls
def dropL (ls : List AskV) (s : Int) : List AskV := match atS ls s with | some k => ls.eraseIdx k | none => ls
theorem row_at {w : World} {g lo n c i : Nat} {ls : List AskV} (h : w.ownsRow lo 30 5 (.slice (some ⟨g, 0, none⟩) n c) n (rowsOf askC ls)) (hi : i < ls.length) :
    ∀ j v, (askC ls[i])[j]? = some v → w.cell? ⟨g, i * 5 + j, none⟩ = some v := own_rng h (rowsOf_at askC_len hi)
end Go.Proofs.Ytggafipgfgbbiaa.Qu
namespace Go.Proofs.Ytggafipgfgbbiaa.Qu
open Go.RowKit Go.Proofs.Ytggafipgfgbbiaa.Ba Go.Proofs.Ytggafipgfgbbiaa.Mem Go.Proofs.Ytggafipgfgbbiaa.Ty
/-- The slice (address a, n elements) reads as these integers. -/
def IV (w : World) (a : Option Addr) (n : Nat) (zs : List Int) : Prop :=
  zs.length = n ∧ (n = 0 ∨ ∃ b off, a = some ⟨b, off, none⟩ ∧ b < w.heap.size ∧ ∀ j, j < n → w.cell? ⟨b, off + j, none⟩ = some (.int .i64 (zs.getD j 0)))
section
variable {w w' : World} {a : Option Addr} {n : Nat} {zs : List Int}
theorem IV.nil (w : World) (a : Option Addr) : IV w a 0 [] := ⟨rfl, .inl rfl⟩
theorem IV.keep (k : Since w w') (h : IV w a n zs) : IV w' a n zs := by
  obtain ⟨h1, h4⟩ := h
  refine ⟨h1, ?_⟩
  rcases h4 with h4 | ⟨b, off, e, hlt, hc⟩
  · exact .inl h4
  · exact .inr ⟨b, off, e, Nat.lt_of_lt_of_le hlt k.size, fun j hj => keep_cell k (hc j hj)⟩
theorem IV.at_ (h : IV w a n zs) {j : Nat} (hj : j < n) : ∃ b off, a = some ⟨b, off, none⟩ ∧ ∀ j, j < n → w.cell? ⟨b, off + j, none⟩ = some (.int .i64 (zs.getD j 0)) := by
  rcases h.2 with h4 | ⟨b, off, e, _, hc⟩
  · omega
  · exact ⟨b, off, e, hc⟩
def icells (zs : List Int) : List Value := zs.map (Value.int .i64)
theorem icells_one (zs : List Int) : ∀ u ∈ icells zs, u.oneCell' = true := by
  intro u hu
  obtain ⟨z, _, rfl⟩ := List.mem_map.1 hu
  rfl
theorem icells_at (zs : List Int) (j : Nat) (h : j < zs.length) : (icells zs)[j]? = some (.int .i64 (zs.getD j 0)) := by
  unfold icells
  simp [List.getD, h]
theorem IV.blk {g : Nat} {t : TypeId} (h : Blk w g t (icells zs).toArray) : IV w (some ⟨g, 0, none⟩) zs.length zs := by
  refine ⟨rfl, .inr ⟨g, 0, rfl, h.lt, fun j hj => ?_⟩⟩
  rw [h.cell, Nat.zero_add]
  simpa using icells_at zs j hj
theorem IV.own {lo c : Nat} {e : TypeId} (h : w.ownsRow lo e 1 (.slice a n c) n (icells zs)) : IV w a n zs := by
  have hl : zs.length = n := by have := h.1; simpa [icells] using this
  rcases Nat.eq_zero_or_pos n with h0 | h0
  · exact ⟨hl, .inl h0⟩
  · obtain ⟨g, rfl⟩ := own_addr h h0
    obtain ⟨_, _⟩ := own_at h |>.resolve_left (by simp)
    refine ⟨hl, .inr ⟨g, 0, rfl, own_lt h g (by simp [blkOf]), fun j hj => ?_⟩⟩
    have := own_rng h (i := 0) (m := n) (l := icells zs) (by rw [List.drop_zero]; exact List.take_of_length_le (by simp [icells, hl])) j _ (icells_at zs j (by omega))
    simpa using this
theorem IV.reads (h : IV w a n zs) : Reads w w.heap.size 1 a n (icells zs) := by
  refine ⟨by simp [icells, h.1], fun hn => ?_⟩
  rcases h.2 with h4 | ⟨b, off, e, hlt, hc⟩
  · omega
  · refine ⟨⟨b, off, none⟩, e, hlt, fun j u hu => ?_⟩
    have hj : j < zs.length := by have := (List.getElem?_eq_some_iff.1 hu).1; simpa [icells] using this
    rw [icells_at zs j hj] at hu
    rw [Go.WideShapes.add_plain, hc j (by have := h.1; omega)]
    exact hu
end
def atI (zs : List Int) (v : Int) : Option Nat := zs.findIdx? (fun z => z == v)
theorem atI_some {zs : List Int} {v : Int} {k : Nat} (h : atI zs v = some k) : k < zs.length ∧ zs.getD k 0 = v ∧ ∀ j, j < k → zs.getD j 0 ≠ v := by
  obtain ⟨hk, h1, h2⟩ := List.findIdx?_eq_some_iff_getElem.1 h
  refine ⟨hk, by simpa [List.getD, hk] using h1, fun j hj => ?_⟩
  have hj2 : j < zs.length := by omega
  have := h2 j hj
  simpa [List.getD, hj2] using this
theorem atI_none {zs : List Int} {v : Int} (h : atI zs v = none) : ∀ j, j < zs.length → zs.getD j 0 ≠ v := by
  intro j hj
  have := List.findIdx?_eq_none_iff.1 h zs[j] (List.getElem_mem hj)
  simpa [List.getD, hj] using this
/-- The first that waits and is of none of these fleets. -/
def okF (zs : List Int) (a : AskV) : Bool := !(atI zs a.fl).isSome
def atF (ls : List AskV) (zs : List Int) : Option Nat := ls.findIdx? (okF zs)
theorem atF_some {ls : List AskV} {zs : List Int} {k : Nat} (h : atF ls zs = some k) : k < ls.length ∧ (∀ hk : k < ls.length, (atI zs (ls[k]).fl).isSome = false) ∧ ∀ j, j < k → ∀ hj : j < ls.length, (atI zs (ls[j]).fl).isSome = true := by
  obtain ⟨hk, h1, h2⟩ := List.findIdx?_eq_some_iff_getElem.1 h
  refine ⟨hk, fun _ => by simpa [okF] using h1, fun j hj _ => ?_⟩
  have := h2 j hj
  unfold okF at this
  revert this
  cases (atI zs (ls[j]).fl).isSome <;> simp
theorem atF_none {ls : List AskV} {zs : List Int} (h : atF ls zs = none) : ∀ j, ∀ hj : j < ls.length, (atI zs (ls[j]).fl).isSome = true := by
  intro j hj
  have := List.findIdx?_eq_none_iff.1 h ls[j] (List.getElem_mem hj)
  unfold okF at this
  revert this
  cases (atI zs (ls[j]).fl).isSome <;> simp
end Go.Proofs.Ytggafipgfgbbiaa.Qu
