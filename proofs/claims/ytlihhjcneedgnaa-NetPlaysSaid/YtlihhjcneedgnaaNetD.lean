/-
  A net as its contents: the calls, told by what lies on the ways.
  No condition.
-/
import Derived.Test.YtlihhjcneedgnaaNetC
namespace Go.Proofs.Ytlihhjcneedgnaa.Nt
set_option linter.unusedVariables false
set_option linter.unusedSimpArgs false
open Go.RowKit Go.Proofs.Ytlihhjcneedgnaa.Ba Go.Proofs.Ytlihhjcneedgnaa.Mem
open Go.Proofs.Ytlihhjcneedgnaa.Byt (BV isB cells)
open Go.Proofs.Ytlihhjcneedgnaa.Mp (MapF setK)
def NC (lo q : Nat) (ends room : Int) (N : Nat) (c : Int → List (List Int)) (S : List Nat) (w : World) : Prop := ∃ b ws, NO lo q b ends room N ws S w ∧ cont ws = c
section
variable {w w' : World} {lo q g N : Nat} {ends room : Int} {c : Int → List (List Int)} {S T : List Nat} {x : Int}
theorem NC.upd (k : Upd T w w') (h : NC lo q ends room N c S w) (hT : ∀ g ∈ S, g ∉ T) : NC lo q ends room N c S w' := by
  obtain ⟨b, ws, h, hc⟩ := h
  exact ⟨b, ws, h.upd k hT, hc⟩
theorem NC.keep (k : Since w w') (h : NC lo q ends room N c S w) : NC lo q ends room N c S w' := h.upd (Upd.of_since (S := []) k) (fun _ _ => by simp)
theorem NC.lt (h : NC lo q ends room N c S w) : ∀ g ∈ S, g < w.heap.size := by obtain ⟨b, ws, h, _⟩ := h; exact h.lt
theorem NC.low (h : NC lo q ends room N c S w) : ∀ g ∈ S, lo ≤ g := by obtain ⟨b, ws, h, _⟩ := h; exact h.low
theorem NC.far (h : NC lo q ends room N c S w) (hb : w.heap.size ≤ g) : g ∉ S := fun hm => by have := h.lt g hm; omega
theorem NC.row_far (h : NC lo q ends room N c S w) (hb : g ∉ S) (cs : Array Value) : NC lo q ends room N c S (w.setRow g cs) := by
  obtain ⟨b, ws, h, hc⟩ := h
  exact ⟨b, ws, h.row_far hb cs, hc⟩
end
theorem fit_wf {x : Int} (h0 : -9223372036854775808 ≤ x) (h1 : x ≤ 9223372036854775807) : (Lit.int .i64 x).wf = true := by
  have e : IntKind.i64.min = -9223372036854775808 := by rfl
  simp [Lit.wf]
  rw [e]
  exact ⟨h0, h1⟩
def okP (c : Int → List (List Int)) (ends room x : Int) : Bool := decide (0 ≤ x ∧ x < ends ∧ ((c x).length : Int) < room)
def hasC (c : Int → List (List Int)) (x k : Int) : Bool := decide (0 ≤ k ∧ k < ((c x).length : Int))
theorem okP_eq {ws : Int → Option WayV} {ends room x : Int} : putB ws ends room x = okP (cont ws) ends room x := by
  unfold putB okP; rw [cont_len]
theorem hasC_eq {ws : Int → Option WayV} {x k : Int} : hasB ws x k = hasC (cont ws) x k := by
  unfold hasB hasC; rw [cont_len]
theorem newC (ends room : Int) (w : World) : Calls Try.prog 22 #[.int .i64 ends, .int .i64 room] w fun e w' => ∃ q S, e = .returned (.pointer (some ⟨q, 0, none⟩)) ∧ NC w.heap.size q ends room 0 (fun _ => []) S w' ∧ Since w w' := by
  refine (newT ends room w).mono ?_
  rintro e w1 ⟨q, b, rfl, h, hb⟩
  exact ⟨q, [q, b], rfl, ⟨b, _, h, rfl⟩, hb⟩
theorem lenC (lo q : Nat) (ends room : Int) (N : Nat) (c : Int → List (List Int)) (S : List Nat) (x : Int) (w : World) (h : NC lo q ends room N c S w) (hx : (Lit.int .i64 x).wf = true) :
    Calls Try.prog 27 #[.pointer (some ⟨q, 0, none⟩), .int .i64 x] w fun e w' => e = .returned (.int .i64 ((c x).length : Int)) ∧ w = w' := by
  obtain ⟨b, ws, h, rfl⟩ := h
  rw [← cont_len]
  exact lenT q b ends room N ws x w h.2.1 h.2.2.1 hx
theorem putCT (lo q : Nat) (ends room : Int) (N : Nat) (c : Int → List (List Int)) (S : List Nat) (x : Int) (A0 : Option Addr) (n0 c0 : Nat) (zs : List Int) (w : World) (h : NC lo q ends room N c S w) (hx : (Lit.int .i64 x).wf = true) (hl : ((c x).length : Int) ≤ 10000) (hb : BV w A0 n0 zs) (hn : n0 ≤ 1000000) (hN : N < 1000000) (hlo : lo ≤ w.heap.size) (hd : ∀ g ∈ blkOf A0, g ∉ S) :
    Calls Try.prog 23 #[.pointer (some ⟨q, 0, none⟩), .int .i64 x, .slice A0 n0 c0] w fun e w' => ∃ S', e = .returned (.bool (okP c ends room x)) ∧ NC lo q ends room (N + 1) (putC c (okP c ends room x) x zs) S' w' ∧ Upd S w w' ∧ ∀ g ∈ S', g ∈ S ∨ w.heap.size ≤ g := by
  obtain ⟨b, ws, h, rfl⟩ := h
  rw [← okP_eq]
  refine (putT lo q b ends room N ws x A0 n0 c0 zs S w h hx (by rw [cont_len]; exact hl) hb hn hN hlo (fun g hg => ⟨fun e => hd g hg (by rw [e]; exact h.1.2.1), fun W hW e => hd g hg (h.1.2.2.2 x W hW g (by rw [e]; exact List.mem_cons_self))⟩)).mono ?_
  rintro e w1 ⟨ws', S', rfl, hN, hc, hu, hf⟩
  exact ⟨S', rfl, ⟨b, ws', hN, hc⟩, hu, hf⟩
theorem way_of {ws : Int → Option WayV} {x : Int} {k0 : Nat} (hk : k0 < (cont ws x).length) : ∃ W s, ws x = some W ∧ W.its[k0]? = some s ∧ (cont ws x).getD k0 [] = s.zs ∧ W.its.length = (cont ws x).length ∧ k0 < W.its.length := by
  cases hw : ws x with
  | none => unfold cont at hk; rw [hw] at hk; simp at hk
  | some W =>
    have e : cont ws x = W.its.map ItV.zs := by unfold cont; rw [hw]
    rw [e] at hk ⊢
    rw [List.length_map] at hk
    refine ⟨W, W.its[k0], rfl, List.getElem?_eq_getElem hk, ?_, by rw [List.length_map], hk⟩
    simp [List.getD, hk]
theorem has_nat {c : Int → List (List Int)} {x k : Int} (h : hasC c x k = true) : ∃ k0 : Nat, k = (k0 : Int) ∧ k0 < (c x).length := by
  unfold hasC at h
  have h := of_decide_eq_true h
  exact ⟨k.toNat, by omega, by omega⟩
/-- What of the object's blocks is then: all but those. -/
def less (S : List Nat) (A : Option Addr) : List Nat := S.filter (fun g => decide (g ∉ blkOf A))
theorem mem_less {S : List Nat} {A : Option Addr} {g : Nat} : g ∈ less S A ↔ g ∈ S ∧ g ∉ blkOf A := by
  unfold less; rw [List.mem_filter]; simp
theorem erase_out {α β : Type} {f : α → List β} : ∀ {l : List α} {k : Nat} {s : α}, (l.flatMap f).Nodup → l[k]? = some s → ∀ g ∈ f s, g ∉ (l.eraseIdx k).flatMap f
  | [], _, _, _, h, _, _ => by simp at h
  | a :: l, 0, s, hn, h, g, hg => by
    simp at h; subst h
    rw [List.flatMap_cons] at hn
    intro hm
    exact (List.nodup_append.1 hn).2.2 g hg g hm rfl
  | a :: l, k + 1, s, hn, h, g, hg => by
    rw [List.getElem?_cons_succ] at h
    rw [List.flatMap_cons] at hn
    rw [List.eraseIdx_cons_succ, List.flatMap_cons, List.mem_append, not_or]
    obtain ⟨_, h2, h3⟩ := List.nodup_append.1 hn
    exact ⟨fun ha => h3 g ha g (List.mem_flatMap.2 ⟨s, List.mem_of_getElem? h, hg⟩) rfl, erase_out h2 h g hg⟩
theorem NO.less {w w' : World} {lo q b N N' k0 : Nat} {ends room : Int} {ws : Int → Option WayV} {S : List Nat} {x : Int} {W : WayV} {s : ItV} (h : NO lo q b ends room N ws S w) (hw : ws x = some W) (hs : W.its[k0]? = some s) (h' : NO lo q b ends room N' (loseW ws x k0) S w') : NO lo q b ends room N' (loseW ws x k0) (less S s.A) w' := by
  have hin := its_in (List.mem_of_getElem? hs)
  have hqt : q ∉ blkOf s.A := own_ne_ty ((h.row hw).2.2 s (List.mem_of_getElem? hs)).1 h.2.1 (by decide)
  have hbt : b ∉ blkOf s.A := map_own h.2.2.1 ((h.row hw).2.2 s (List.mem_of_getElem? hs)).1
  refine ⟨⟨mem_less.2 ⟨h'.1.1, hqt⟩, mem_less.2 ⟨h'.1.2.1, hbt⟩, fun g hg => h'.1.2.2.1 g (mem_less.1 hg).1, fun y V hy g hg => mem_less.2 ⟨h'.1.2.2.2 y V hy g hg, fun hgs => ?_⟩⟩, h'.2⟩
  unfold loseW at hy
  split at hy
  · rw [hw] at hy
    simp only at hy
    split at hy
    · cases hy
    · cases hy
      rcases List.mem_cons.1 hg with e | hg
      · have := h.its_out hw g (hin g hgs)
        rw [e] at this
        exact this (by simp)
      · exact erase_out (List.nodup_cons.1 (h.2.2.2.2.2 x W hw)).2 hs g hgs hg
  · rename_i hne
    exact h.2.2.2.2.1 y x V W hy hw hne g hg (List.mem_cons_of_mem _ (hin g hgs))
theorem loseCT (lo q : Nat) (ends room : Int) (N : Nat) (c : Int → List (List Int)) (S : List Nat) (x : Int) (k0 : Nat) (w : World) (h : NC lo q ends room N c S w) (hx : (Lit.int .i64 x).wf = true) (hl : (c x).length ≤ 10000) (hk : k0 < (c x).length) (hN : N < 1000000) :
    Calls Try.prog 25 #[.pointer (some ⟨q, 0, none⟩), .int .i64 x, .int .i64 (k0 : Int)] w fun e w' => e = .returned (.bool true) ∧ NC lo q ends room (N + 1) (delC c x k0) S w' ∧ Upd S w w' := by
  obtain ⟨b, ws, h, rfl⟩ := h
  obtain ⟨W, s, hw, hs, _, hlen, hk'⟩ := way_of hk
  refine (loseHit lo q b ends room N ws x S W k0 w h hx hw hk' (by omega) hN).mono ?_
  rintro e w1 ⟨rfl, hN, hu⟩
  refine ⟨rfl, ⟨b, _, hN, cont_lose hw hk'⟩, hu.mono (fun g hg _ => ?_)⟩
  rcases List.mem_cons.1 hg with rfl | hg
  · exact h.1.2.1
  · rw [List.mem_singleton.1 hg]; exact h.1.2.2.2 x W hw _ List.mem_cons_self
theorem takeCT (lo q : Nat) (ends room : Int) (N : Nat) (c : Int → List (List Int)) (S : List Nat) (x : Int) (k0 : Nat) (w : World) (h : NC lo q ends room N c S w) (hx : (Lit.int .i64 x).wf = true) (hl : (c x).length ≤ 10000) (hk : k0 < (c x).length) (hN : N < 1000000) :
    Calls Try.prog 24 #[.pointer (some ⟨q, 0, none⟩), .int .i64 x, .int .i64 (k0 : Int)] w fun e w' => ∃ A n c' S', e = .returned (.tuple #[.slice A n c', .bool true]) ∧ NC lo q ends room (N + 1) (delC c x k0) S' w' ∧ ItAt lo w' ⟨A, n, c', (c x).getD k0 []⟩ ∧ (∀ g ∈ blkOf A, g ∉ S') ∧ (∀ g ∈ S', g ∈ S) ∧ Upd S w w' := by
  obtain ⟨b, ws, h, rfl⟩ := h
  obtain ⟨W, s, hw, hs, hz, hlen, hk'⟩ := way_of hk
  refine (takeHit lo q b ends room N ws x S W s k0 w h hx hw hs (by omega) hN).mono ?_
  rintro e w1 ⟨rfl, hN, hu⟩
  rw [hz]
  have hin := its_in (List.mem_of_getElem? hs)
  refine ⟨s.A, s.n, s.c, less S s.A, rfl, ⟨b, _, NO.less h hw hs hN, cont_lose hw hk'⟩, ((h.row hw).2.2 s (List.mem_of_getElem? hs)).upd hu (fun g hg => h.its_out hw g (hin g hg)), fun g hg hm => (mem_less.1 hm).2 hg, fun g hg => (mem_less.1 hg).1, hu.mono (fun g hg _ => ?_)⟩
  rcases List.mem_cons.1 hg with rfl | hg
  · exact h.1.2.1
  · rw [List.mem_singleton.1 hg]; exact h.1.2.2.2 x W hw _ List.mem_cons_self
theorem twinCT (lo q : Nat) (ends room : Int) (N : Nat) (c : Int → List (List Int)) (S : List Nat) (x : Int) (k0 : Nat) (w : World) (h : NC lo q ends room N c S w) (hx : (Lit.int .i64 x).wf = true) (hl : (c x).length ≤ 10000) (hk : k0 < (c x).length) (hN : N < 1000000) (hlo : lo ≤ w.heap.size) :
    Calls Try.prog 26 #[.pointer (some ⟨q, 0, none⟩), .int .i64 x, .int .i64 (k0 : Int)] w fun e w' => ∃ S', e = .returned (.bool (okP c ends room x)) ∧ NC lo q ends room (N + 1) (putC c (okP c ends room x) x ((c x).getD k0 [])) S' w' ∧ Upd S w w' ∧ ∀ g ∈ S', g ∈ S ∨ w.heap.size ≤ g := by
  obtain ⟨b, ws, h, rfl⟩ := h
  obtain ⟨W, s, hw, hs, hz, hlen, hk'⟩ := way_of hk
  rw [hz, ← okP_eq]
  refine (twinHit lo q b ends room N ws x S W s k0 w h hx hw hs (by omega) hN hlo).mono ?_
  rintro e w1 ⟨ws', S', rfl, hN, hc, hu, hf⟩
  exact ⟨S', rfl, ⟨b, ws', hN, hc⟩, hu, hf⟩
theorem noneC {lo q N : Nat} {ends room : Int} {c : Int → List (List Int)} {S : List Nat} {x k : Int} {w : World} (h : NC lo q ends room N c S w) (hf : hasC c x k = false) : ∃ b ws, Blk w q 92 #[.int .i64 ends, .int .i64 room, .map (some b)] ∧ MapF Try.prog 3 w b N (fun x => (ws x).map wayv) ∧ hasB ws x k = false := by
  obtain ⟨b, ws, h, rfl⟩ := h
  exact ⟨b, ws, h.2.1, h.2.2.1, by rw [hasC_eq]; exact hf⟩
theorem loseN (lo q : Nat) (ends room : Int) (N : Nat) (c : Int → List (List Int)) (S : List Nat) (x k : Int) (w : World) (h : NC lo q ends room N c S w) (hx : (Lit.int .i64 x).wf = true) (hf : hasC c x k = false) :
    Calls Try.prog 25 #[.pointer (some ⟨q, 0, none⟩), .int .i64 x, .int .i64 k] w fun e w' => e = .returned (.bool false) ∧ w = w' := by
  obtain ⟨b, ws, h1, h2, h3⟩ := noneC h hf
  exact loseMiss q b ends room N ws x k w h1 h2 hx h3
theorem takeN (lo q : Nat) (ends room : Int) (N : Nat) (c : Int → List (List Int)) (S : List Nat) (x k : Int) (w : World) (h : NC lo q ends room N c S w) (hx : (Lit.int .i64 x).wf = true) (hf : hasC c x k = false) :
    Calls Try.prog 24 #[.pointer (some ⟨q, 0, none⟩), .int .i64 x, .int .i64 k] w fun e w' => e = .returned (.tuple #[.slice none 0 0, .bool false]) ∧ w = w' := by
  obtain ⟨b, ws, h1, h2, h3⟩ := noneC h hf
  exact takeMiss q b ends room N ws x k w h1 h2 hx h3
theorem twinN (lo q : Nat) (ends room : Int) (N : Nat) (c : Int → List (List Int)) (S : List Nat) (x k : Int) (w : World) (h : NC lo q ends room N c S w) (hx : (Lit.int .i64 x).wf = true) (hf : hasC c x k = false) :
    Calls Try.prog 26 #[.pointer (some ⟨q, 0, none⟩), .int .i64 x, .int .i64 k] w fun e w' => e = .returned (.bool false) ∧ w = w' := by
  obtain ⟨b, ws, h1, h2, h3⟩ := noneC h hf
  exact twinMiss q b ends room N ws x k w h1 h2 hx h3
end Go.Proofs.Ytlihhjcneedgnaa.Nt
