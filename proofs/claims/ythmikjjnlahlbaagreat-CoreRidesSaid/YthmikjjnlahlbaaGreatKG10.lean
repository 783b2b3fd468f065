/-
  What is wanted by the last of these texts, part 10.
  No condition.
-/
import Derived.Test.YthmikjjnlahlbaaGreatKG9
namespace Go.Proofs.YthmikjjnlahlbaaGreat.Co
set_option linter.unusedSectionVars false
set_option linter.unusedVariables false
set_option linter.unusedSimpArgs false
open Go.RowKit Go.Proofs.YthmikjjnlahlbaaGreat.Ba Go.Proofs.YthmikjjnlahlbaaGreat.Mem Go.Proofs.YthmikjjnlahlbaaGreat.En Go.Proofs.YthmikjjnlahlbaaGreat.Ty Go.Proofs.YthmikjjnlahlbaaGreat.Mo
open Go.Proofs.YthmikjjnlahlbaaGreat.Gr (GrV GO CarsAt WaitsAt carL waitL WaitV pairO newG okT okW)
open Go.Proofs.YthmikjjnlahlbaaGreat.Qu (QO askE intE askC btw)
open Go.Proofs.YthmikjjnlahlbaaGreat.Le (TO)
open Go.Proofs.YthmikjjnlahlbaaGreat.Fl (leaE)
open Go.Proofs.YthmikjjnlahlbaaGreat.Ri (MsgV msgC)
open Go.Proofs.YthmikjjnlahlbaaGreat.Et (carsO)
set_option maxRecDepth 100000
attribute [local irreducible] Go.Calls
structure KV where
  G : GrV
  Q : List AskV
  L : List LeaseV
structure Pt where
  g : Nat
  q : Nat
  t : Nat
def room (K : KV) : Int := btw K.G.c.qu 0 64
def P0 (b : Nat) : Value := .pointer (some ⟨b, 0, none⟩)
def coreA (c : CfgV) (p : Pt) : Array Value := #[.int .i64 c.ca, .int .i64 c.fl, .int .i64 c.ft, .int .i64 c.se, .int .i64 c.dr, .int .i64 c.dw, .int .i64 c.ho, .int .i64 c.re, .int .i64 c.yi, .int .i64 c.qu, .int .i64 c.qo, .int .i64 c.lo, .int .i64 c.sl, .int .i64 c.rt, .int .i64 c.cp, .int .i64 c.tr, .int .i64 c.de, .int .i64 c.wi, P0 p.g, P0 p.q, P0 p.t]
def coreS (c : CfgV) (p : Pt) : List SV := [.i .i64 c.ca, .i .i64 c.fl, .i .i64 c.ft, .i .i64 c.se, .i .i64 c.dr, .i .i64 c.dw, .i .i64 c.ho, .i .i64 c.re, .i .i64 c.yi, .i .i64 c.qu, .i .i64 c.qo, .i .i64 c.lo, .i .i64 c.sl, .i .i64 c.rt, .i .i64 c.cp, .i .i64 c.tr, .i .i64 c.de, .i .i64 c.wi, .v (.pointer (some ⟨p.g, 0, none⟩)), .v (.pointer (some ⟨p.q, 0, none⟩)), .v (.pointer (some ⟨p.t, 0, none⟩))]
/-- The core's parts: its group, its queue, its leases; S: their blocks. -/
def BD (lo : Nat) (p : Pt) (K : KV) (S : List Nat) (w : World) : Prop :=
  ∃ S1 S2 S3, S = S1 ++ (S2 ++ S3) ∧ GO lo p.g K.G S1 w ∧ QO lo p.q (room K) K.Q S2 w ∧ TO lo p.t K.G.c K.L S3 w ∧ (∀ x ∈ S1, x ∉ S2) ∧ (∀ x ∈ S1, x ∉ S3) ∧ ∀ x ∈ S2, x ∉ S3
section
variable {w w' : World} {lo lo' q : Nat} {p : Pt} {K : KV} {S T : List Nat}
theorem BD.upd (k : Upd T w w') (h : BD lo p K S w) (hT : ∀ g ∈ S, g ∉ T) : BD lo p K S w' := by
  obtain ⟨S1, S2, S3, rfl, h1, h2, h3, d⟩ := h
  exact ⟨S1, S2, S3, rfl, h1.upd k (fun g hg => hT g (by simp [hg])), h2.upd k (fun g hg => hT g (by simp [hg])), h3.upd k (fun g hg => hT g (by simp [hg])), d⟩
theorem BD.lt (h : BD lo p K S w) : ∀ g ∈ S, g < w.heap.size := by
  obtain ⟨S1, S2, S3, rfl, h1, h2, h3, d⟩ := h
  intro g hg
  rcases List.mem_append.1 hg with hg | hg
  · exact h1.lt g hg
  rcases List.mem_append.1 hg with hg | hg
  · exact h2.lt g hg
  · exact h3.lt g hg
theorem BD.low (h : BD lo p K S w) : ∀ g ∈ S, lo ≤ g := by
  obtain ⟨S1, S2, S3, rfl, h1, h2, h3, d⟩ := h
  intro g hg
  rcases List.mem_append.1 hg with hg | hg
  · exact h1.low g hg
  rcases List.mem_append.1 hg with hg | hg
  · exact h2.low g hg
  · exact h3.low g hg
theorem BD.base (h : BD lo p K S w) (hb : lo' ≤ lo) : BD lo' p K S w := by
  obtain ⟨S1, S2, S3, rfl, h1, h2, h3, d⟩ := h
  exact ⟨S1, S2, S3, rfl, h1.base hb, h2.base hb, h3.base hb, d⟩
theorem BD.far {cs : Array Value} (h : BD lo p K S w) (hk : Blk w q 115 cs) : q ∉ S := by
  obtain ⟨S1, S2, S3, rfl, ⟨_, A1, c1, A2, c2, rfl, B1, O1, O2⟩, ⟨_, A3, c3, rfl, B3, O3⟩, ⟨_, A4, c4, rfl, B4, O4⟩, d⟩ := h
  intro hm
  simp only [List.mem_append, List.mem_cons] at hm
  rcases hm with (h | h | h) | (h | h) | (h | h)
  · exact Blk.ne_ hk B1 (by decide) h
  · exact own_ne_ty O1 hk (by decide) h
  · exact own_ne_ty O2 hk (by decide) h
  · exact Blk.ne_ hk B3 (by decide) h
  · exact own_ne_ty O3 hk (by decide) h
  · exact Blk.ne_ hk B4 (by decide) h
  · exact own_ne_ty O4 hk (by decide) h
end
/-- The parts, as one object. -/
def bdO (lo : Nat) (p : Pt) (K : KV) (S : List Nat) (rw : Bool) : Asr := ⟨S, rw, BD lo p K S, fun k h hs => hs.upd k h, fun h => h.lt⟩
section
variable {P : Program} {F : FuncId} {args : Array Value} {w : World} {lo : Nat} {p : Pt} {K : KV} {S : List Nat} {V : Value}
theorem BD.grp (h : BD lo p K S w) {G' : GrV} (hcc : G'.c = K.G.c) (hc : ∀ S1, GO lo p.g K.G S1 w → Calls P F args w fun e w' => e = .returned V ∧ ∃ S', GO lo p.g G' S' w' ∧ Upd S1 w w' ∧ ∀ g ∈ S', g ∈ S1 ∨ w.heap.size ≤ g) :
    Calls P F args w fun e w' => ∃ S', e = .returned V ∧ BD lo p { K with G := G' } S' w' ∧ Upd S w w' ∧ ∀ g ∈ S', g ∈ S ∨ w.heap.size ≤ g := by
  obtain ⟨S1, S2, S3, rfl, h1, h2, h3, d1, d2, d3⟩ := h
  refine (hc S1 h1).mono ?_
  rintro e w' ⟨rfl, S', g1, g2, g3⟩
  have n2 : ∀ x ∈ S', x ∉ S2 := fun x hx hx2 => (g3 x hx).elim (fun h => d1 x h hx2) (fun h => by have := h2.lt x hx2; omega)
  have n3 : ∀ x ∈ S', x ∉ S3 := fun x hx hx2 => (g3 x hx).elim (fun h => d2 x h hx2) (fun h => by have := h3.lt x hx2; omega)
  refine ⟨S' ++ (S2 ++ S3), rfl, ⟨S', S2, S3, rfl, g1, ?_, ?_, n2, n3, d3⟩, g2.mono (fun k hk _ => List.mem_append.2 (.inl hk)), fun g hg => ?_⟩
  · have := h2.upd g2 (fun g hg hg1 => d1 g hg1 hg)
    simpa [room, hcc] using this
  · have := h3.upd g2 (fun g hg hg1 => d2 g hg1 hg)
    rw [← hcc] at this; exact this
  · rcases List.mem_append.1 hg with hg | hg
    · exact (g3 g hg).imp (fun h => List.mem_append.2 (.inl h)) id
    · exact .inl (List.mem_append.2 (.inr hg))
theorem BD.que (h : BD lo p K S w) {Q' : List AskV} (hc : ∀ S1, QO lo p.q (room K) K.Q S1 w → Calls P F args w fun e w' => e = .returned V ∧ ∃ S', QO lo p.q (room K) Q' S' w' ∧ Upd S1 w w' ∧ ∀ g ∈ S', g ∈ S1 ∨ w.heap.size ≤ g) :
    Calls P F args w fun e w' => ∃ S', e = .returned V ∧ BD lo p { K with Q := Q' } S' w' ∧ Upd S w w' ∧ ∀ g ∈ S', g ∈ S ∨ w.heap.size ≤ g := by
  obtain ⟨S1, S2, S3, rfl, h1, h2, h3, d1, d2, d3⟩ := h
  refine (hc S2 h2).mono ?_
  rintro e w' ⟨rfl, S', g1, g2, g3⟩
  have n1 : ∀ x ∈ S1, x ∉ S' := fun x hx hx2 => (g3 x hx2).elim (fun h => d1 x hx h) (fun h => by have := h1.lt x hx; omega)
  have n3 : ∀ x ∈ S', x ∉ S3 := fun x hx hx2 => (g3 x hx).elim (fun h => d3 x h hx2) (fun h => by have := h3.lt x hx2; omega)
  refine ⟨S1 ++ (S' ++ S3), rfl, ⟨S1, S', S3, rfl, h1.upd g2 (fun g hg hg1 => d1 g hg hg1), g1, h3.upd g2 (fun g hg hg1 => d3 g hg1 hg), n1, d2, n3⟩, g2.mono (fun k hk _ => List.mem_append.2 (.inr (List.mem_append.2 (.inl hk)))), fun g hg => ?_⟩
  simp only [List.mem_append] at hg ⊢
  rcases hg with hg | hg | hg
  · exact .inl (.inl hg)
  · exact (g3 g hg).imp (fun h => .inr (.inl h)) id
  · exact .inl (.inr (.inr hg))
theorem BD.tab (h : BD lo p K S w) {L' : List LeaseV} (hc : ∀ S1, TO lo p.t K.G.c K.L S1 w → Calls P F args w fun e w' => e = .returned V ∧ ∃ S', TO lo p.t K.G.c L' S' w' ∧ Upd S1 w w' ∧ ∀ g ∈ S', g ∈ S1 ∨ w.heap.size ≤ g) :
    Calls P F args w fun e w' => ∃ S', e = .returned V ∧ BD lo p { K with L := L' } S' w' ∧ Upd S w w' ∧ ∀ g ∈ S', g ∈ S ∨ w.heap.size ≤ g := by
  obtain ⟨S1, S2, S3, rfl, h1, h2, h3, d1, d2, d3⟩ := h
  refine (hc S3 h3).mono ?_
  rintro e w' ⟨rfl, S', g1, g2, g3⟩
  have n1 : ∀ x ∈ S1, x ∉ S' := fun x hx hx2 => (g3 x hx2).elim (fun h => d2 x hx h) (fun h => by have := h1.lt x hx; omega)
  have n2 : ∀ x ∈ S2, x ∉ S' := fun x hx hx2 => (g3 x hx2).elim (fun h => d3 x hx h) (fun h => by have := h2.lt x hx; omega)
  refine ⟨S1 ++ (S2 ++ S'), rfl, ⟨S1, S2, S', rfl, h1.upd g2 (fun g hg hg1 => d2 g hg hg1), h2.upd g2 (fun g hg hg1 => d3 g hg hg1), g1, d1, n1, n2⟩, g2.mono (fun k hk _ => List.mem_append.2 (.inr (List.mem_append.2 (.inr hk)))), fun g hg => ?_⟩
  simp only [List.mem_append] at hg ⊢
  rcases hg with hg | hg | hg
  · exact .inl (.inl hg)
  · exact .inl (.inr (.inl hg))
  · exact (g3 g hg).imp (fun h => .inr (.inr h)) id
end
/-- Where a row of new elements lies. -/
abbrev Nr := Nat × Option Addr × Nat
abbrev NrA (n0 : Nat) := {x : Nr // n0 ≤ x.1}
section
variable {P : Program} {F : FuncId} {args : Array Value} {w1 : World} {n0 n : Nat}
theorem toN {α : Type} {E : Ek α} {ls : List α} (h : Calls P F args w1 fun e w' => ∃ A' c', e = .returned (.slice A' n c') ∧ E.At w1.heap.size A' n c' ls w' ∧ Since w1 w') (h0 : n0 ≤ w1.heap.size) :
    Calls P F args w1 fun e w' => ∃ x : NrA n0, e = .returned (.slice x.1.2.1 n x.1.2.2) ∧ (rwO E x.1.1 x.1.2.1 n x.1.2.2 ls true).st w' ∧ Since w1 w' ∧ ∀ g ∈ (rwO E x.1.1 x.1.2.1 n x.1.2.2 ls true).F, w1.heap.size ≤ g := by
  refine h.mono ?_
  rintro e w' ⟨A', c', rfl, hO, hs⟩
  exact ⟨⟨(w1.heap.size, A', c'), h0⟩, rfl, hO, hs, own_low hO⟩
theorem toNC {ls : List CarV} (h : Calls P F args w1 fun e w' => ∃ A' c', e = .returned (.slice A' n c') ∧ CarsAt w1.heap.size A' n c' ls w' ∧ Since w1 w') (h0 : n0 ≤ w1.heap.size) :
    Calls P F args w1 fun e w' => ∃ x : NrA n0, e = .returned (.slice x.1.2.1 n x.1.2.2) ∧ (carsO x.1.1 x.1.2.1 n x.1.2.2 ls true).st w' ∧ Since w1 w' ∧ ∀ g ∈ (carsO x.1.1 x.1.2.1 n x.1.2.2 ls true).F, w1.heap.size ≤ g := by
  refine h.mono ?_
  rintro e w' ⟨A', c', rfl, hO, hs⟩
  exact ⟨⟨(w1.heap.size, A', c'), h0⟩, rfl, hO, hs, own_low hO⟩
/-- The same where there is an element. -/
abbrev NgA (n0 : Nat) := {x : Nat × Nat × Nat // n0 ≤ x.1}
theorem toNg {α : Type} {E : Ek α} {ls : List α} (hn : 0 < n) (h : Calls P F args w1 fun e w' => ∃ A' c', e = .returned (.slice A' n c') ∧ E.At w1.heap.size A' n c' ls w' ∧ Since w1 w') (h0 : n0 ≤ w1.heap.size) :
    Calls P F args w1 fun e w' => ∃ x : NgA n0, e = .returned (.slice (some ⟨x.1.2.1, 0, none⟩) n x.1.2.2) ∧ (rwO E x.1.1 (some ⟨x.1.2.1, 0, none⟩) n x.1.2.2 ls true).st w' ∧ Since w1 w' ∧ ∀ g ∈ (rwO E x.1.1 (some ⟨x.1.2.1, 0, none⟩) n x.1.2.2 ls true).F, w1.heap.size ≤ g := by
  refine h.mono ?_
  rintro e w' ⟨A', c', rfl, hO, hs⟩
  obtain ⟨g, rfl⟩ := own_addr hO hn
  exact ⟨⟨(w1.heap.size, g, c'), h0⟩, rfl, hO, hs, own_low hO⟩
theorem toNCg {ls : List CarV} (hn : 0 < n) (h : Calls P F args w1 fun e w' => ∃ A' c', e = .returned (.slice A' n c') ∧ CarsAt w1.heap.size A' n c' ls w' ∧ Since w1 w') (h0 : n0 ≤ w1.heap.size) :
    Calls P F args w1 fun e w' => ∃ x : NgA n0, e = .returned (.slice (some ⟨x.1.2.1, 0, none⟩) n x.1.2.2) ∧ (carsO x.1.1 (some ⟨x.1.2.1, 0, none⟩) n x.1.2.2 ls true).st w' ∧ Since w1 w' ∧ ∀ g ∈ (carsO x.1.1 (some ⟨x.1.2.1, 0, none⟩) n x.1.2.2 ls true).F, w1.heap.size ≤ g := by
  refine h.mono ?_
  rintro e w' ⟨A', c', rfl, hO, hs⟩
  obtain ⟨g, rfl⟩ := own_addr hO hn
  exact ⟨⟨(w1.heap.size, g, c'), h0⟩, rfl, hO, hs, own_low hO⟩
theorem Hold.ob {X : Cx} {m : List Row} {ob : List Asr} {w : World} (h : Hold X m ob w) {A : Asr} (i : Nat) (hA : ob[i]? = some A) : A.st w := h.obj A (List.mem_of_getElem? hA)
theorem toNW {ls : List WaitV} (h : Calls P F args w1 fun e w' => ∃ A' c', e = .returned (.slice A' n c') ∧ WaitsAt w1.heap.size A' n c' ls w' ∧ Since w1 w') (h0 : n0 ≤ w1.heap.size) :
    Calls P F args w1 fun e w' => ∃ x : NrA n0, e = .returned (.slice x.1.2.1 n x.1.2.2) ∧ (Gr.waitsO x.1.1 x.1.2.1 n x.1.2.2 ls true).st w' ∧ Since w1 w' ∧ ∀ g ∈ (Gr.waitsO x.1.1 x.1.2.1 n x.1.2.2 ls true).F, w1.heap.size ≤ g := by
  refine h.mono ?_
  rintro e w' ⟨A', c', rfl, hO, hs⟩
  exact ⟨⟨(w1.heap.size, A', c'), h0⟩, rfl, hO, hs, own_low hO⟩
end
section
variable {w : World} {lo : Nat} {p : Pt} {K : KV} {S : List Nat}
theorem BD.cars (h : BD lo p K S w) (hl : K.G.cars.length ≤ 10000) : Calls Tryz.prog 32 #[.pointer (some ⟨p.g, 0, none⟩)] w fun e w' => ∃ A' c', e = .returned (.slice A' K.G.cars.length c') ∧ CarsAt w.heap.size A' K.G.cars.length c' K.G.cars w' ∧ Since w w' := by
  obtain ⟨S1, S2, S3, rfl, h1, h2, h3, d⟩ := h
  exact Gr.carsT lo p.g K.G S1 w h1 (by omega)
theorem BD.waits (h : BD lo p K S w) (hl : K.G.waits.length ≤ 10000) : Calls Tryz.prog 56 #[.pointer (some ⟨p.g, 0, none⟩)] w fun e w' => ∃ A' c', e = .returned (.slice A' K.G.waits.length c') ∧ WaitsAt w.heap.size A' K.G.waits.length c' K.G.waits w' ∧ Since w w' := by
  obtain ⟨S1, S2, S3, rfl, h1, h2, h3, d⟩ := h
  exact Gr.waitsT lo p.g K.G S1 w h1 (by omega)
theorem BD.now (h : BD lo p K S w) : Calls Tryz.prog 35 #[.pointer (some ⟨p.g, 0, none⟩)] w fun e w' => e = .returned (.int .i64 K.G.now) ∧ Since w w' := by
  obtain ⟨S1, S2, S3, rfl, h1, h2, h3, d⟩ := h
  exact Gr.nowT lo p.g K.G S1 w h1
theorem BD.leases (h : BD lo p K S w) (hl : K.L.length ≤ 10000) : Calls Tryz.prog 74 #[.pointer (some ⟨p.t, 0, none⟩)] w fun e w' => ∃ A' c', e = .returned (.slice A' K.L.length c') ∧ leaE.At w.heap.size A' K.L.length c' K.L w' ∧ Since w w' := by
  obtain ⟨S1, S2, S3, rfl, h1, h2, ⟨_, A, c, rfl, B, O⟩, d⟩ := h
  exact Le.listT w B O hl
theorem BD.of (h : BD lo p K S w) (hl : K.L.length ≤ 10000) (s : Int) : Calls Tryz.prog 95 #[.pointer (some ⟨p.t, 0, none⟩), .int .i64 s] w fun e w' => e = .returned (.tuple #[.agg #[.int .i64 (Le.ofL K.L s).se, .int .i64 (Le.ofL K.L s).fl, .int .i64 (Le.ofL K.L s).fm, .int .i64 (Le.ofL K.L s).to, .int .i64 (Le.ofL K.L s).ma, .int .i64 (Le.ofL K.L s).ca, .int .i64 (Le.ofL K.L s).ph, .int .i64 (Le.ofL K.L s).un, .int .i64 (Le.ofL K.L s).re, .int .i64 (Le.ofL K.L s).gr], .bool (Le.hasL K.L s)]) ∧ Since w w' := by
  obtain ⟨S1, S2, S3, rfl, h1, h2, ⟨_, A, c, rfl, B, O⟩, d⟩ := h
  exact Le.ofT w B O hl s
theorem BD.asks (h : BD lo p K S w) (hl : K.Q.length ≤ 10000) : Calls Tryz.prog 97 #[.pointer (some ⟨p.q, 0, none⟩)] w fun e w' => ∃ A' c', e = .returned (.slice A' K.Q.length c') ∧ askE.At w.heap.size A' K.Q.length c' K.Q w' ∧ Since w w' := by
  obtain ⟨S1, S2, S3, rfl, h1, ⟨_, A, c, rfl, B, O⟩, h3, d⟩ := h
  exact Qu.listT w B O (by omega)
theorem BD.ahead (h : BD lo p K S w) (hl : K.Q.length ≤ 10000) (s : Int) : Calls Tryz.prog 161 #[.pointer (some ⟨p.q, 0, none⟩), .int .i64 s] w fun e w' => e = .returned (.tuple #[.int .i64 (Qu.oM (Qu.atS K.Q s)), .bool (Qu.atS K.Q s).isSome]) ∧ Since w w' := by
  obtain ⟨S1, S2, S3, rfl, h1, ⟨_, A, c, rfl, B, O⟩, h3, d⟩ := h
  exact Qu.aheadT s w B O (by omega)
theorem BD.first {lo2 n2 c2 : Nat} {A2 : Option Addr} {zs : List Int} (h : BD lo p K S w) (hl : K.Q.length ≤ 10000) (hz : intE.At lo2 A2 n2 c2 zs w) (hn : zs.length = n2) (hl2 : n2 ≤ 1000000) : Calls Tryz.prog 144 #[.pointer (some ⟨p.q, 0, none⟩), .slice A2 n2 c2] w fun e w' => e = .returned (.tuple #[.agg #[.int .i64 (Qu.firstA K.Q zs).se, .int .i64 (Qu.firstA K.Q zs).fl, .int .i64 (Qu.firstA K.Q zs).fm, .int .i64 (Qu.firstA K.Q zs).to, .int .i64 (Qu.firstA K.Q zs).ma], .bool (Qu.atF K.Q zs).isSome]) ∧ Since w w' := by
  obtain ⟨S1, S2, S3, rfl, h1, ⟨_, A, c, rfl, B, O⟩, h3, d⟩ := h
  exact Qu.firstT w B O (by omega) hz hn hl2
end
/-- How a call of the core is entered, and how it ends. -/
theorem hold_k {q lo n : Nat} {p : Pt} {K : KV} {S : List Nat} {w : World} (hk : Blk w q 115 (coreA K.G.c p)) (hb : BD lo p K S w) : Hold ⟨Tryz.prog, tab, S, w, n, []⟩ [⟨q, 115, true, 0, [], coreS K.G.c p, [], false⟩] [bdO lo p K S true] w :=
  Hold.addObj (hold_q (S := S) (coreS K.G.c p) hk) (bdO lo p K S true) hb (fun _ g hg => .inl hg) (by intro r hr _; rw [List.mem_singleton] at hr; subst hr; exact hb.far hk) (by intro A hA; cases hA)
theorem fin_k {lo n : Nat} {p : Pt} {K : KV} {S S1 : List Nat} {w : World} {V : Value} {v : SV} {fr : List (Nat × SV)} {m : List Row} {obr : List Asr} {st : St} (hst : st = ⟨fr, m, bdO lo p K S1 true :: obr⟩) (hv : ∀ m, den m v = V) :
    Fin ⟨Tryz.prog, tab, S, w, n, []⟩ (fun e w' => e = .returned V ∧ ∃ S', BD lo p K S' w' ∧ Upd S w w' ∧ ∀ g ∈ S', g ∈ S ∨ w.heap.size ≤ g) v st := by
  subst hst
  exact fin fun w' hH => ⟨by rw [hv], S1, hH.obj _ (List.mem_cons_self ..), hH.upd, hH.own _ (List.mem_cons_self ..) rfl⟩
structure EvV where
  s : Int
  m : MsgV
def msgL (m : MsgV) : List Value := [.int .i64 m.ki, .int .i64 m.a, .int .i64 m.b, .int .i64 m.c]
def evC (e : EvV) : List Value := [.int .i64 e.s, .int .i64 e.m.ki, .int .i64 e.m.a, .int .i64 e.m.b, .int .i64 e.m.c]
def msgE : Ek MsgV := ⟨48, 4, msgL, fun _ => rfl, by
  intro a u hu
  simp only [msgL, List.mem_cons, List.not_mem_nil, or_false] at hu
  rcases hu with rfl | rfl | rfl | rfl <;> rfl⟩
def evE : Ek EvV := ⟨81, 5, evC, fun _ => rfl, by
  intro a u hu
  simp only [evC, List.mem_cons, List.not_mem_nil, or_false] at hu
  rcases hu with rfl | rfl | rfl | rfl | rfl <;> rfl⟩
theorem Ek.of_blk {α : Type} {E : Ek α} {w : World} {g lo : Nat} {x : α} (h : Blk w g E.t (E.c x).toArray) (hlo : lo ≤ g) (hk : E.k ≤ 1000) : E.At lo (some ⟨g, 0, none⟩) 1 1 [x] w := by
  refine ⟨by simp [rowsOf, E.len], .inr ⟨g, 1, (E.c x).toArray, rfl, hlo, h, Nat.le_refl _, by unfold maxLen; omega, by simp [E.len], ?_⟩⟩
  simp only [Nat.one_mul, rowsOf, List.flatMap_cons, List.flatMap_nil, List.append_nil]
  exact List.take_of_length_le (by simp [E.len])
def evs (s : Int) (ms : List MsgV) : List EvV := ms.map (EvV.mk s)
set_option maxHeartbeats 1000000 in
theorem eventsT {lo n c : Nat} {A : Option Addr} {ms : List MsgV} (s : Int) (w : World) (ho : msgE.At lo A n c ms w) (hn : ms.length = n) (hl : n ≤ 100000) : Calls Tryz.prog 77 #[.int .i64 s, .slice A n c] w fun e w' => ∃ A' c', e = .returned (.slice A' n c') ∧ evE.At w.heap.size A' n c' (evs s ms) w' ∧ Since w w' := by
  obtain ⟨g, hA⟩ := Ek.addr ho
  refine entH tab_ok (Hold.addObj (Hold.addObj (Hold.nil _ tab [] _ w) (rwO msgE lo A n c ms false) ho (by intro k; cases k) (by intro r hr; cases hr) (by intro A hA; cases hA)) (rwO evE w.heap.size none 0 0 [] true) (Ek.nil _ _ _) (by intro _ g hg; cases hg) (by intro r _ _ hg; cases hg) (by intro A hA _ g hg hg2; cases hg2)) [.i .i64 s, .v (.slice A n c)] Tryz.func77 Tryz.ntmps77 rfl rfl ?_
  repeat' ((conv => whnf); first | refine sgo ⟨tab_ok⟩ ?_ | refine br_not ?_ | refine br_t rfl ?_ | refine br_f rfl ?_ | refine br_t (by assumption) ?_ | refine br_f (by assumption) ?_ | refine br_t (decide_eq_true (by assumption)) ?_ | refine br_f (decide_eq_false (by assumption)) ?_ | refine br_t (beq_iff_eq.2 (by assumption)) ?_ | refine br_f (beq_eq_false_iff_ne.2 (by assumption)) ?_ | intro b | refine drA ⟨tab_ok⟩ [] ?_ | refine kpt ?_ | refine br_dec (fun h => ?_) (fun h => ?_) | refine br_eq (fun h => ?_) (fun h => ?_) | refine br_b (fun h => ?_) (fun h => ?_) | refine fin_s ?_ | refine fin_r ?_ ?_ | refine fin_e ?_ ?_)
  conv => whnf
  refine lp ⟨tab_ok⟩ (ι := {x : (Nat × Option Addr × Nat) × List EvV // x.1.1 ≤ n ∧ evs s (ms.take x.1.1) = x.2}) (fun x => match x with | ⟨((k, A3, c3), es), _⟩ => ⟨[(0, .i .i64 s), (5, .v (.slice A3 k c3)), (8, .v (.slice A n c)), (9, .i .i64 n), (10, .i .i64 (k : Int))], [], [rwO msgE lo A n c ms false, rwO evE w.heap.size A3 k c3 es true]⟩) (fun x => n - x.1.1.1) ⟨((0, none, 0), []), Nat.zero_le _, by simp [evs]⟩ (wk ?_) ?_
  · repeat' (first | exact trivial | rfl | ((conv => whnf); refine And.intro ?_ ?_))
  rintro ⟨⟨⟨k, A3, c3⟩, es⟩, hk, he⟩
  have hk : k ≤ n := hk
  have he : evs s (ms.take k) = es := he
  by_cases hlt : k < n
  · obtain ⟨x, hx⟩ : ∃ x, ms[k]? = some x := ⟨_, List.getElem?_eq_getElem (by omega)⟩
    obtain rfl := hA (by omega)
    have he2 : evs s (ms.take (k + 1)) = es ++ [EvV.mk s x] := by
      obtain ⟨hkl, rfl⟩ := List.getElem?_eq_some_iff.1 hx
      show (ms.take (k + 1)).map _ = _
      rw [List.take_succ_eq_append_getElem hkl, List.map_append, ← he]; rfl
    repeat' ((conv => whnf); first | refine sgo ⟨tab_ok⟩ ?_ | refine br_not ?_ | refine br_t rfl ?_ | refine br_f rfl ?_ | refine br_t (by assumption) ?_ | refine br_f (by assumption) ?_ | refine br_t (decide_eq_true (by assumption)) ?_ | refine br_f (decide_eq_false (by assumption)) ?_ | refine br_t (beq_iff_eq.2 (by assumption)) ?_ | refine br_f (beq_eq_false_iff_ne.2 (by assumption)) ?_ | intro b | refine drA ⟨tab_ok⟩ [] ?_ | refine kpt ?_ | refine br_t (decide_eq_true (by omega)) ?_ | refine br_f (decide_eq_false (by omega)) ?_ | refine wr_i ?_ | refine opiv ⟨tab_ok⟩ (by rfl) (by rfl) (by rfl) (by rfl) (by rfl) (by rfl) ⟨by omega, by omega⟩ ?_ | refine opix (g := g) (off := 0 + k * 4) [.i .i64 x.ki, .i .i64 x.a, .i .i64 x.b, .i .i64 x.c] (fun w hH => Ek.rng (hH.obj (rwO msgE lo (some ⟨g, 0, none⟩) n c ms false) (List.mem_cons_self ..)) hx) ⟨tab_ok⟩ (by rfl) (by rfl) (by show Addr.add ⟨g, 0, none⟩ (k * 4) = _; rw [Go.WideShapes.add_plain]) ?_ | refine opb1 (e := 81) ⟨tab_ok⟩ [.i .i64 s, .i .i64 x.ki, .i .i64 x.a, .i .i64 x.b, .i .i64 x.c] (by rfl) (by rfl) ?_ | refine opap 1 1 (e := 81) (lo := w.heap.size) (size := 5) (bytes := 40) (z := .agg #[.int .i64 0, .int .i64 0, .int .i64 0, .int .i64 0, .int .i64 0]) (A := rwO evE w.heap.size A3 k c3 es true) (vals := rowsOf evC es) (cells := evC (EvV.mk s x)) (zs := rowsOf evC (es ++ [EvV.mk s x])) (n2 := k + 1) (fun A' c' => rwO evE w.heap.size A' (k + 1) c' (es ++ [EvV.mk s x]) true) (by rfl) (by rfl) (by rfl) (by rfl) rfl rfl (fun w h => h) (fun A' c' w h => h) (fun _ _ => rfl) (by rfl) (by rfl) (by rfl) (by rfl) Tryz.underlying51 (by kernel_rfl) rfl (by decide) (by decide) (evE.one _) (by omega) (fun w hH => hH.upd.size) rfl (by rw [rowsOf_append, rowsOf_one]) (fun A' c' => ?_) | refine back ⟨((k + 1, A', c'), es ++ [EvV.mk s x]), by show k + 1 ≤ _; omega, he2⟩ (wk ?_) ?_ | refine fin_s ?_ | refine fin_r ?_ ?_ | refine fin_e ?_ ?_)
    all_goals first | (show n - (k + 1) < n - k; omega) | skip
    all_goals (repeat' (first | exact trivial | rfl | ((conv => whnf); refine And.intro ?_ ?_)))
  · obtain rfl : k = n := by omega
    repeat' ((conv => whnf); first | refine sgo ⟨tab_ok⟩ ?_ | refine br_not ?_ | refine br_t rfl ?_ | refine br_f rfl ?_ | refine br_t (by assumption) ?_ | refine br_f (by assumption) ?_ | refine br_t (decide_eq_true (by assumption)) ?_ | refine br_f (decide_eq_false (by assumption)) ?_ | refine br_t (beq_iff_eq.2 (by assumption)) ?_ | refine br_f (beq_eq_false_iff_ne.2 (by assumption)) ?_ | intro b | refine drA ⟨tab_ok⟩ [] ?_ | refine kpt ?_ | refine br_t (decide_eq_true (by omega)) ?_ | refine br_f (decide_eq_false (by omega)) ?_ | refine wr_i ?_ | refine fin fun w' hH => ?_ | refine fin_s ?_ | refine fin_r ?_ ?_ | refine fin_e ?_ ?_)
    have hO := hH.obj (rwO evE w.heap.size A3 k c3 es true) (List.mem_cons_of_mem _ (List.mem_cons_self ..))
    rw [List.take_of_length_le (by omega)] at he
    rw [he]
    exact ⟨A3, c3, rfl, hO, hH.upd.since⟩
def newK (c : CfgV) : KV := ⟨newG c, [], []⟩
end Go.Proofs.YthmikjjnlahlbaaGreat.Co
namespace Go.Proofs.YthmikjjnlahlbaaGreat.Co
set_option linter.unusedSectionVars false
set_option linter.unusedVariables false
set_option linter.unusedSimpArgs false
open Go.RowKit Go.Proofs.YthmikjjnlahlbaaGreat.Ba Go.Proofs.YthmikjjnlahlbaaGreat.Mem Go.Proofs.YthmikjjnlahlbaaGreat.En Go.Proofs.YthmikjjnlahlbaaGreat.Ty Go.Proofs.YthmikjjnlahlbaaGreat.Mo
open Go.Proofs.YthmikjjnlahlbaaGreat.Gr (GrV GO CarsAt WaitsAt carL waitL WaitV pairO newG okT okW aimR giveR)
open Go.Proofs.YthmikjjnlahlbaaGreat.Qu (QO askE intE askC btw putE putL dropL atS oM)
open Go.Proofs.YthmikjjnlahlbaaGreat.Le (TO hasL ofL setL setE endL zeroL)
open Go.Proofs.YthmikjjnlahlbaaGreat.Fl (leaE mayB mayT)
open Go.Proofs.YthmikjjnlahlbaaGreat.Ri (MsgV msgC Said tickV hearV Ms aimF aimT)
open Go.Proofs.YthmikjjnlahlbaaGreat.Et (carsO)
set_option maxRecDepth 100000
attribute [local irreducible] Go.Calls mayB hasL ofL putE atS oM
def ansM (K : KV) (a : AskV) : MsgV :=
  if mayB K.G.c a = true then (if hasL K.L a.se = true then ⟨7, 5, 0, 0⟩ else if putE (room K) K.Q a = 7 then ⟨7, 5, 0, 0⟩ else if putE (room K) K.Q a = 5 then ⟨6, 0, 0, 0⟩ else ⟨5, oM (atS (putL (room K) K.Q a) a.se), 0, 0⟩) else ⟨7, 0, 0, 0⟩
def ansQ (K : KV) (a : AskV) : List AskV := if mayB K.G.c a = true then (if hasL K.L a.se = true then K.Q else putL (room K) K.Q a) else K.Q
def ansK (K : KV) (a : AskV) : KV := { K with Q := ansQ K a }
section
variable {q lo : Nat} {p : Pt} {K : KV} {S : List Nat} {w : World}
theorem answerT (hk : Blk w q 115 (coreA K.G.c p)) (hb : BD lo p K S w) (h1 : K.Q.length ≤ 1000) (h2 : K.L.length ≤ 10000) (a : AskV) :
    Calls Tryz.prog 92 #[.pointer (some ⟨q, 0, none⟩), .agg #[.int .i64 a.se, .int .i64 a.fl, .int .i64 a.fm, .int .i64 a.to, .int .i64 a.ma]] w fun e w' => e = .returned (.agg (msgC (ansM K a))) ∧ ∃ S', BD lo p (ansK K a) S' w' ∧ Upd S w w' ∧ ∀ g ∈ S', g ∈ S ∨ w.heap.size ≤ g := by
  unfold ansM ansK ansQ
  by_cases hm : mayB K.G.c a = true
  · simp only [hm, if_true]
    by_cases hL : hasL K.L a.se = true
    · simp only [hL, if_true]
      refine entH tab_ok (hold_k hk hb) [.p 0 0, .a [.i .i64 a.se, .i .i64 a.fl, .i .i64 a.fm, .i .i64 a.to, .i .i64 a.ma]] Tryz.func92 Tryz.ntmps92 rfl rfl ?_
      repeat' ((conv => whnf); first | refine sgo ⟨tab_ok⟩ ?_ | refine br_not ?_ | refine br_t rfl ?_ | refine br_f rfl ?_ | refine br_t (by assumption) ?_ | refine br_f (by assumption) ?_ | refine br_t (decide_eq_true (by assumption)) ?_ | refine br_f (decide_eq_false (by assumption)) ?_ | refine br_t (beq_iff_eq.2 (by assumption)) ?_ | refine br_f (beq_eq_false_iff_ne.2 (by assumption)) ?_ | intro b | refine drA ⟨tab_ok⟩ [] ?_ | refine kpt ?_ | refine And.intro ?_ ?_ | refine br_t (by assumption) ?_ | refine br_not (br_t (by assumption) ?_) | refine callS (f := 159) (.b (mayB K.G.c a)) (mayT K.G.c a) ?_ | refine callH (f := 95) (.t [.a [.i .i64 (ofL K.L a.se).se, .i .i64 (ofL K.L a.se).fl, .i .i64 (ofL K.L a.se).fm, .i .i64 (ofL K.L a.se).to, .i .i64 (ofL K.L a.se).ma, .i .i64 (ofL K.L a.se).ca, .i .i64 (ofL K.L a.se).ph, .i .i64 (ofL K.L a.se).un, .i .i64 (ofL K.L a.se).re, .i .i64 (ofL K.L a.se).gr], .b (hasL K.L a.se)]) (fun w hH => (hH.obj (bdO lo p K S true) (List.mem_singleton.2 rfl)).of h2 a.se) ?_ | refine fin_k (by rfl) (by intro m; rfl) | refine fin_s ?_ | refine fin_r ?_ ?_ | refine fin_e ?_ ?_)
    · have hL : hasL K.L a.se = false := by simpa using hL
      simp only [hL, Bool.false_eq_true, if_false]
      by_cases h7 : putE (room K) K.Q a = 7
      · simp only [h7, if_true]
        refine entH tab_ok (hold_k hk hb) [.p 0 0, .a [.i .i64 a.se, .i .i64 a.fl, .i .i64 a.fm, .i .i64 a.to, .i .i64 a.ma]] Tryz.func92 Tryz.ntmps92 rfl rfl ?_
        repeat' ((conv => whnf); first | refine sgo ⟨tab_ok⟩ ?_ | refine br_not ?_ | refine br_t rfl ?_ | refine br_f rfl ?_ | refine br_t (by assumption) ?_ | refine br_f (by assumption) ?_ | refine br_t (decide_eq_true (by assumption)) ?_ | refine br_f (decide_eq_false (by assumption)) ?_ | refine br_t (beq_iff_eq.2 (by assumption)) ?_ | refine br_f (beq_eq_false_iff_ne.2 (by assumption)) ?_ | intro b | refine drA ⟨tab_ok⟩ [] ?_ | refine kpt ?_ | refine And.intro ?_ ?_ | refine br_not (br_t (by assumption) ?_) | refine br_f (by assumption) ?_ | refine callS (f := 159) (.b (mayB K.G.c a)) (mayT K.G.c a) ?_ | refine callH (f := 95) (.t [.a [.i .i64 (ofL K.L a.se).se, .i .i64 (ofL K.L a.se).fl, .i .i64 (ofL K.L a.se).fm, .i .i64 (ofL K.L a.se).to, .i .i64 (ofL K.L a.se).ma, .i .i64 (ofL K.L a.se).ca, .i .i64 (ofL K.L a.se).ph, .i .i64 (ofL K.L a.se).un, .i .i64 (ofL K.L a.se).re, .i .i64 (ofL K.L a.se).gr], .b (hasL K.L a.se)]) (fun w hH => (hH.obj (bdO lo p K S true) (List.mem_singleton.2 rfl)).of h2 a.se) ?_ | refine callO (f := 160) (A := bdO lo p K S true) 0 (fun _ => .i .i64 7) (fun S' => bdO lo p { K with Q := putL (room K) K.Q a } S' true) (fun w hH hA => by have := BD.que hA (fun S1 hq => Qu.putQ hq (by omega) a); rw [h7] at this; exact this) (fun S' => ?_) | refine fin_k (by rfl) (by intro m; rfl) | refine fin_s ?_ | refine fin_r ?_ ?_ | refine fin_e ?_ ?_)
      · simp only [h7, if_false]
        by_cases h5 : putE (room K) K.Q a = 5
        · simp only [h5, if_true]
          refine entH tab_ok (hold_k hk hb) [.p 0 0, .a [.i .i64 a.se, .i .i64 a.fl, .i .i64 a.fm, .i .i64 a.to, .i .i64 a.ma]] Tryz.func92 Tryz.ntmps92 rfl rfl ?_
          repeat' ((conv => whnf); first | refine sgo ⟨tab_ok⟩ ?_ | refine br_not ?_ | refine br_t rfl ?_ | refine br_f rfl ?_ | refine br_t (by assumption) ?_ | refine br_f (by assumption) ?_ | refine br_t (decide_eq_true (by assumption)) ?_ | refine br_f (decide_eq_false (by assumption)) ?_ | refine br_t (beq_iff_eq.2 (by assumption)) ?_ | refine br_f (beq_eq_false_iff_ne.2 (by assumption)) ?_ | intro b | refine drA ⟨tab_ok⟩ [] ?_ | refine kpt ?_ | refine And.intro ?_ ?_ | refine br_not (br_t (by assumption) ?_) | refine br_f (by assumption) ?_ | refine callS (f := 159) (.b (mayB K.G.c a)) (mayT K.G.c a) ?_ | refine callH (f := 95) (.t [.a [.i .i64 (ofL K.L a.se).se, .i .i64 (ofL K.L a.se).fl, .i .i64 (ofL K.L a.se).fm, .i .i64 (ofL K.L a.se).to, .i .i64 (ofL K.L a.se).ma, .i .i64 (ofL K.L a.se).ca, .i .i64 (ofL K.L a.se).ph, .i .i64 (ofL K.L a.se).un, .i .i64 (ofL K.L a.se).re, .i .i64 (ofL K.L a.se).gr], .b (hasL K.L a.se)]) (fun w hH => (hH.obj (bdO lo p K S true) (List.mem_singleton.2 rfl)).of h2 a.se) ?_ | refine callO (f := 160) (A := bdO lo p K S true) 0 (fun _ => .i .i64 5) (fun S' => bdO lo p { K with Q := putL (room K) K.Q a } S' true) (fun w hH hA => by have := BD.que hA (fun S1 hq => Qu.putQ hq (by omega) a); rw [h5] at this; exact this) (fun S' => ?_) | refine fin_k (by rfl) (by intro m; rfl) | refine fin_s ?_ | refine fin_r ?_ ?_ | refine fin_e ?_ ?_)
        · simp only [h5, if_false]
          have hlq : (putL (room K) K.Q a).length ≤ 10000 := by
            unfold putL; split
            · rw [List.length_append]; simp; omega
            · omega
          have hq := beq_eq_false_iff_ne.2 h7
          have hq5 := beq_eq_false_iff_ne.2 h5
          refine entH tab_ok (hold_k hk hb) [.p 0 0, .a [.i .i64 a.se, .i .i64 a.fl, .i .i64 a.fm, .i .i64 a.to, .i .i64 a.ma]] Tryz.func92 Tryz.ntmps92 rfl rfl ?_
          repeat' ((conv => whnf); first | refine sgo ⟨tab_ok⟩ ?_ | refine br_not ?_ | refine br_t rfl ?_ | refine br_f rfl ?_ | refine br_t (by assumption) ?_ | refine br_f (by assumption) ?_ | refine br_t (decide_eq_true (by assumption)) ?_ | refine br_f (decide_eq_false (by assumption)) ?_ | refine br_t (beq_iff_eq.2 (by assumption)) ?_ | refine br_f (beq_eq_false_iff_ne.2 (by assumption)) ?_ | intro b | refine drA ⟨tab_ok⟩ [] ?_ | refine kpt ?_ | refine And.intro ?_ ?_ | refine br_not (br_t (by assumption) ?_) | refine br_f (by assumption) ?_ | refine callS (f := 159) (.b (mayB K.G.c a)) (mayT K.G.c a) ?_ | refine callH (f := 95) (.t [.a [.i .i64 (ofL K.L a.se).se, .i .i64 (ofL K.L a.se).fl, .i .i64 (ofL K.L a.se).fm, .i .i64 (ofL K.L a.se).to, .i .i64 (ofL K.L a.se).ma, .i .i64 (ofL K.L a.se).ca, .i .i64 (ofL K.L a.se).ph, .i .i64 (ofL K.L a.se).un, .i .i64 (ofL K.L a.se).re, .i .i64 (ofL K.L a.se).gr], .b (hasL K.L a.se)]) (fun w hH => (hH.obj (bdO lo p K S true) (List.mem_singleton.2 rfl)).of h2 a.se) ?_ | refine callO (f := 160) (A := bdO lo p K S true) 0 (fun _ => .i .i64 (putE (room K) K.Q a)) (fun S' => bdO lo p { K with Q := putL (room K) K.Q a } S' true) (fun w hH hA => BD.que hA (fun S1 hq => Qu.putQ hq (by omega) a)) (fun S' => ?_) | refine callH (f := 161) (.t [.i .i64 (oM (atS (putL (room K) K.Q a) a.se)), .b (atS (putL (room K) K.Q a) a.se).isSome]) (fun w hH => (hH.obj (bdO lo p { K with Q := putL (room K) K.Q a } S' true) (List.mem_singleton.2 rfl)).ahead hlq a.se) ?_ | refine fin_k (by rfl) (by intro m; rfl) | refine fin_s ?_ | refine fin_r ?_ ?_ | refine fin_e ?_ ?_)
  · have hm : mayB K.G.c a = false := by simpa using hm
    simp only [hm, Bool.false_eq_true, if_false]
    refine entH tab_ok (hold_k hk hb) [.p 0 0, .a [.i .i64 a.se, .i .i64 a.fl, .i .i64 a.fm, .i .i64 a.to, .i .i64 a.ma]] Tryz.func92 Tryz.ntmps92 rfl rfl ?_
    repeat' ((conv => whnf); first | refine sgo ⟨tab_ok⟩ ?_ | refine br_not ?_ | refine br_t rfl ?_ | refine br_f rfl ?_ | refine br_t (by assumption) ?_ | refine br_f (by assumption) ?_ | refine br_t (decide_eq_true (by assumption)) ?_ | refine br_f (decide_eq_false (by assumption)) ?_ | refine br_t (beq_iff_eq.2 (by assumption)) ?_ | refine br_f (beq_eq_false_iff_ne.2 (by assumption)) ?_ | intro b | refine drA ⟨tab_ok⟩ [] ?_ | refine kpt ?_ | refine And.intro ?_ ?_ | refine br_not (br_f (by assumption) ?_) | refine br_f (by assumption) ?_ | refine callS (f := 159) (.b (mayB K.G.c a)) (mayT K.G.c a) ?_ | refine fin_k (by rfl) (by intro m; rfl) | refine fin_s ?_ | refine fin_r ?_ ?_ | refine fin_e ?_ ?_)
attribute [local irreducible] ansM
/-- It ends with events in new blocks besides. -/
theorem fin_ke {lo n n1 k lo3 c3 : Nat} {A3 : Option Addr} {p : Pt} {K : KV} {S S1 : List Nat} {w : World} {es : List EvV} {fr : List (Nat × SV)} {m : List Row} {ob : List Asr} {st : St} (hst : st = ⟨fr, m, ob⟩) (h0 : ob[0]? = some (bdO lo p K S1 true)) (hk : ob[k + 1]? = some (rwO evE lo3 A3 n1 c3 es true)) (hlo : w.heap.size ≤ lo3) :
    Fin ⟨Tryz.prog, tab, S, w, n, []⟩ (fun e w' => ∃ (S' : List Nat) (x : Nr), e = .returned (.slice x.2.1 n1 x.2.2) ∧ BD lo p K S' w' ∧ (rwO evE x.1 x.2.1 n1 x.2.2 es true).st w' ∧ Upd S w w' ∧ (∀ g ∈ S', g ∈ S ∨ w.heap.size ≤ g) ∧ ∀ g ∈ blkOf x.2.1, w.heap.size ≤ g ∧ g ∉ S') (.v (.slice A3 n1 c3)) st := by
  subst hst
  have m0 := List.mem_of_getElem? h0
  have m1 := List.mem_of_getElem? hk
  refine fin fun w' hH => ⟨S1, (lo3, A3, c3), rfl, hH.obj _ m0, hH.obj _ m1, hH.upd, hH.own _ m0 rfl, fun g hg => ⟨Nat.le_trans hlo (own_low (hH.obj _ m1) g hg), fun hg2 => ?_⟩⟩
  exact pair_at (R := DisR) (fun _ _ h => h.symm) hH.dis h0 hk (by omega) (.inl rfl) g hg2 hg
theorem askT (hk : Blk w q 115 (coreA K.G.c p)) (hb : BD lo p K S w) (h1 : K.Q.length ≤ 1000) (h2 : K.L.length ≤ 10000) (a : AskV) :
    Calls Tryz.prog 39 #[.pointer (some ⟨q, 0, none⟩), .agg #[.int .i64 a.se, .int .i64 a.fl, .int .i64 a.fm, .int .i64 a.to, .int .i64 a.ma]] w fun e w' => ∃ (S' : List Nat) (x : Nr), e = .returned (.slice x.2.1 1 x.2.2) ∧ BD lo p (ansK K a) S' w' ∧ (rwO evE x.1 x.2.1 1 x.2.2 (evs a.se [ansM K a]) true).st w' ∧ Upd S w w' ∧ (∀ g ∈ S', g ∈ S ∨ w.heap.size ≤ g) ∧ ∀ g ∈ blkOf x.2.1, w.heap.size ≤ g ∧ g ∉ S' := by
  refine entH tab_ok (hold_k hk hb) [.p 0 0, .a [.i .i64 a.se, .i .i64 a.fl, .i .i64 a.fm, .i .i64 a.to, .i .i64 a.ma]] Tryz.func39 Tryz.ntmps39 rfl rfl ?_
  repeat' ((conv => whnf); first | refine sgo ⟨tab_ok⟩ ?_ | refine br_not ?_ | refine br_t rfl ?_ | refine br_f rfl ?_ | refine br_t (by assumption) ?_ | refine br_f (by assumption) ?_ | refine br_t (decide_eq_true (by assumption)) ?_ | refine br_f (decide_eq_false (by assumption)) ?_ | refine br_t (beq_iff_eq.2 (by assumption)) ?_ | refine br_f (beq_eq_false_iff_ne.2 (by assumption)) ?_ | intro b | refine drA ⟨tab_ok⟩ [] ?_ | refine kpt ?_ | refine callO (f := 92) (A := bdO lo p K S true) 0 (fun _ => .a [.i .i64 (ansM K a).ki, .i .i64 (ansM K a).a, .i .i64 (ansM K a).b, .i .i64 (ansM K a).c]) (fun S' => bdO lo p (ansK K a) S' true) (fun w hH hA => (answerT (hH.row 0 _ rfl rfl) hA h1 h2 a).mono (by rintro e w' ⟨rfl, S', h⟩; exact ⟨S', rfl, h⟩)) (fun S' => ?_) | refine opb1 (e := 48) ⟨tab_ok⟩ [.i .i64 (ansM K a).ki, .i .i64 (ansM K a).a, .i .i64 (ansM K a).b, .i .i64 (ansM K a).c] (by rfl) (by rfl) ?_ | refine callN (f := 77) (ι := NrA w.heap.size) (fun x => .v (.slice x.1.2.1 1 x.1.2.2)) (fun x => rwO evE x.1.1 x.1.2.1 1 x.1.2.2 (evs a.se [ansM K a]) true) (fun w1 hH => toN (eventsT (lo := 0) (ms := [ansM K a]) a.se w1 (Ek.of_blk (hH.row 2 _ rfl rfl) (Nat.zero_le _) (by decide)) rfl (by decide)) hH.upd.size) (fun x => ?_) | refine fin_ke (k := 0) (by rfl) (by rfl) (by rfl) x.2 | refine fin_s ?_ | refine fin_r ?_ ?_ | refine fin_e ?_ ?_)
end
end Go.Proofs.YthmikjjnlahlbaaGreat.Co
namespace Go.Proofs.YthmikjjnlahlbaaGreat.Co
set_option linter.unusedSectionVars false
set_option linter.unusedVariables false
set_option linter.unusedSimpArgs false
open Go.RowKit Go.Proofs.YthmikjjnlahlbaaGreat.Ba Go.Proofs.YthmikjjnlahlbaaGreat.Mem Go.Proofs.YthmikjjnlahlbaaGreat.En Go.Proofs.YthmikjjnlahlbaaGreat.Ty Go.Proofs.YthmikjjnlahlbaaGreat.Mo
open Go.Proofs.YthmikjjnlahlbaaGreat.Gr (GrV GO CarsAt WaitsAt carL waitL WaitV pairO newG okT okW aimR giveR aimG giveG one)
open Go.Proofs.YthmikjjnlahlbaaGreat.Qu (QO askE intE askC btw putE putL dropL atS oM)
open Go.Proofs.YthmikjjnlahlbaaGreat.Le (TO hasL ofL setL setE endL zeroL)
open Go.Proofs.YthmikjjnlahlbaaGreat.Fl (leaE mayB mayT)
open Go.Proofs.YthmikjjnlahlbaaGreat.Ri (MsgV msgC Said tickV hearV Ms aimF aimT)
open Go.Proofs.YthmikjjnlahlbaaGreat.Et (carsO car_at)
set_option maxRecDepth 100000
attribute [local irreducible] Go.Calls mayB hasL ofL putE atS oM
theorem one_c (G : GrV) (i : Int) (f : CarV → CarV × Int) : (one G i f).1.c = G.c := by unfold one; split <;> rfl
theorem give_c (G : GrV) (i : Int) : (giveR G i).1.c = G.c := one_c _ _ _
theorem aim_c (G : GrV) (i f : Int) (y : Bool) : (aimR G i f y).1.c = G.c := by unfold aimR; split; exact one_c _ _ _; rfl
attribute [local irreducible] giveR aimR endL setL setE aimF
def endK (K : KV) (s : Int) : KV := if hasL K.L s = true then ⟨(giveR K.G (ofL K.L s).ca).1, K.Q, endL K.L s⟩ else K
def setK (K : KV) (l : LeaseV) (o : Bool) : KV := if o = true then endK K l.se else ⟨(aimR K.G l.ca (aimF l) true).1, K.Q, setL K.G.c K.L l⟩
def goneK (K : KV) (s : Int) : KV := { endK K s with Q := dropL K.Q s }
theorem end_no {ls : List LeaseV} {s : Int} (h : hasL ls s = false) : endL ls s = ls := by
  unfold hasL at h; unfold endL
  split
  · rename_i k hk; rw [hk] at h; cases h
  · rfl
theorem endK_c (K : KV) (s : Int) : (endK K s).G.c = K.G.c := by unfold endK; split; exact give_c _ _; rfl
theorem setK_c (K : KV) (l : LeaseV) (o : Bool) : (setK K l o).G.c = K.G.c := by unfold setK; split; exact endK_c _ _; exact aim_c _ _ _ _
section
variable {q lo : Nat} {p : Pt} {K : KV} {S : List Nat} {w : World}
theorem endT (hk : Blk w q 115 (coreA K.G.c p)) (hb : BD lo p K S w) (h2 : K.L.length ≤ 10000) (s : Int) :
    Calls Tryz.prog 93 #[.pointer (some ⟨q, 0, none⟩), .int .i64 s] w fun e w' => e = .returned (.tuple #[]) ∧ ∃ S', BD lo p (endK K s) S' w' ∧ Upd S w w' ∧ ∀ g ∈ S', g ∈ S ∨ w.heap.size ≤ g := by
  unfold endK
  cases hL : hasL K.L s with
  | false =>
    rw [if_neg (by decide)]
    refine entH tab_ok (hold_k hk hb) [.p 0 0, .i .i64 s] Tryz.func93 Tryz.ntmps93 rfl rfl ?_
    repeat' ((conv => whnf); first | refine sgo ⟨tab_ok⟩ ?_ | refine br_not ?_ | refine br_t rfl ?_ | refine br_f rfl ?_ | refine br_t (by assumption) ?_ | refine br_f (by assumption) ?_ | refine br_t (decide_eq_true (by assumption)) ?_ | refine br_f (decide_eq_false (by assumption)) ?_ | refine br_t (beq_iff_eq.2 (by assumption)) ?_ | refine br_f (beq_eq_false_iff_ne.2 (by assumption)) ?_ | intro b | refine drA ⟨tab_ok⟩ [] ?_ | refine kpt ?_ | refine callO (f := 162) (A := bdO lo p K S true) 0 (fun _ => .t [.a [.i .i64 (ofL K.L s).se, .i .i64 (ofL K.L s).fl, .i .i64 (ofL K.L s).fm, .i .i64 (ofL K.L s).to, .i .i64 (ofL K.L s).ma, .i .i64 (ofL K.L s).ca, .i .i64 (ofL K.L s).ph, .i .i64 (ofL K.L s).un, .i .i64 (ofL K.L s).re, .i .i64 (ofL K.L s).gr], .b false]) (fun S' => bdO lo p K S' true) (fun w hH hA => by have := BD.tab hA (fun S1 hq => Le.endT hq h2 s); rw [hL, end_no hL] at this; exact this) (fun S' => ?_) | refine fin_k (by rfl) (by intro m; rfl) | refine fin_s ?_ | refine fin_r ?_ ?_ | refine fin_e ?_ ?_)
  | true =>
    rw [if_pos rfl]
    refine entH tab_ok (hold_k hk hb) [.p 0 0, .i .i64 s] Tryz.func93 Tryz.ntmps93 rfl rfl ?_
    repeat' ((conv => whnf); first | refine sgo ⟨tab_ok⟩ ?_ | refine br_not ?_ | refine br_t rfl ?_ | refine br_f rfl ?_ | refine br_t (by assumption) ?_ | refine br_f (by assumption) ?_ | refine br_t (decide_eq_true (by assumption)) ?_ | refine br_f (decide_eq_false (by assumption)) ?_ | refine br_t (beq_iff_eq.2 (by assumption)) ?_ | refine br_f (beq_eq_false_iff_ne.2 (by assumption)) ?_ | intro b | refine drA ⟨tab_ok⟩ [] ?_ | refine kpt ?_ | refine callO (f := 162) (A := bdO lo p K S true) 0 (fun _ => .t [.a [.i .i64 (ofL K.L s).se, .i .i64 (ofL K.L s).fl, .i .i64 (ofL K.L s).fm, .i .i64 (ofL K.L s).to, .i .i64 (ofL K.L s).ma, .i .i64 (ofL K.L s).ca, .i .i64 (ofL K.L s).ph, .i .i64 (ofL K.L s).un, .i .i64 (ofL K.L s).re, .i .i64 (ofL K.L s).gr], .b true]) (fun S' => bdO lo p { K with L := endL K.L s } S' true) (fun w hH hA => by have := BD.tab hA (fun S1 hq => Le.endT hq h2 s); rw [hL] at this; exact this) (fun S' => ?_) | refine callO (f := 64) (A := bdO lo p { K with L := endL K.L s } S' true) 0 (fun _ => .i .i64 (giveR K.G (ofL K.L s).ca).2) (fun S' => bdO lo p ⟨(giveR K.G (ofL K.L s).ca).1, K.Q, endL K.L s⟩ S' true) (fun w hH hA => BD.grp hA (give_c _ _) (fun S1 hq => giveG hq (ofL K.L s).ca)) (fun S'' => ?_) | refine fin_k (by rfl) (by intro m; rfl) | refine fin_s ?_ | refine fin_r ?_ ?_ | refine fin_e ?_ ?_)
attribute [local irreducible] endK
theorem settleT (hk : Blk w q 115 (coreA K.G.c p)) (hb : BD lo p K S w) (h2 : K.L.length ≤ 10000) (l : LeaseV) (o : Bool) :
    Calls Tryz.prog 76 #[.pointer (some ⟨q, 0, none⟩), .agg #[.int .i64 l.se, .int .i64 l.fl, .int .i64 l.fm, .int .i64 l.to, .int .i64 l.ma, .int .i64 l.ca, .int .i64 l.ph, .int .i64 l.un, .int .i64 l.re, .int .i64 l.gr], .bool o] w fun e w' => e = .returned (.tuple #[]) ∧ ∃ S', BD lo p (setK K l o) S' w' ∧ Upd S w w' ∧ ∀ g ∈ S', g ∈ S ∨ w.heap.size ≤ g := by
  unfold setK
  cases o with
  | true =>
    rw [if_pos rfl]
    refine entH tab_ok (hold_k hk hb) [.p 0 0, .a [.i .i64 l.se, .i .i64 l.fl, .i .i64 l.fm, .i .i64 l.to, .i .i64 l.ma, .i .i64 l.ca, .i .i64 l.ph, .i .i64 l.un, .i .i64 l.re, .i .i64 l.gr], .b true] Tryz.func76 Tryz.ntmps76 rfl rfl ?_
    repeat' ((conv => whnf); first | refine sgo ⟨tab_ok⟩ ?_ | refine br_not ?_ | refine br_t rfl ?_ | refine br_f rfl ?_ | refine br_t (by assumption) ?_ | refine br_f (by assumption) ?_ | refine br_t (decide_eq_true (by assumption)) ?_ | refine br_f (decide_eq_false (by assumption)) ?_ | refine br_t (beq_iff_eq.2 (by assumption)) ?_ | refine br_f (beq_eq_false_iff_ne.2 (by assumption)) ?_ | intro b | refine drA ⟨tab_ok⟩ [] ?_ | refine kpt ?_ | refine callO (f := 93) (A := bdO lo p K S true) 0 (fun _ => .t []) (fun S' => bdO lo p (endK K l.se) S' true) (fun w hH hA => (endT (hH.row 0 _ rfl rfl) hA h2 l.se).mono (by rintro e w' ⟨rfl, S', h⟩; exact ⟨S', rfl, h⟩)) (fun S' => ?_) | refine fin_k (by rfl) (by intro m; rfl) | refine fin_s ?_ | refine fin_r ?_ ?_ | refine fin_e ?_ ?_)
  | false =>
    rw [if_neg (by decide)]
    refine entH tab_ok (hold_k hk hb) [.p 0 0, .a [.i .i64 l.se, .i .i64 l.fl, .i .i64 l.fm, .i .i64 l.to, .i .i64 l.ma, .i .i64 l.ca, .i .i64 l.ph, .i .i64 l.un, .i .i64 l.re, .i .i64 l.gr], .b false] Tryz.func76 Tryz.ntmps76 rfl rfl ?_
    repeat' ((conv => whnf); first | refine sgo ⟨tab_ok⟩ ?_ | refine br_not ?_ | refine br_t rfl ?_ | refine br_f rfl ?_ | refine br_t (by assumption) ?_ | refine br_f (by assumption) ?_ | refine br_t (decide_eq_true (by assumption)) ?_ | refine br_f (decide_eq_false (by assumption)) ?_ | refine br_t (beq_iff_eq.2 (by assumption)) ?_ | refine br_f (beq_eq_false_iff_ne.2 (by assumption)) ?_ | intro b | refine drA ⟨tab_ok⟩ [] ?_ | refine kpt ?_ | refine callO (f := 141) (A := bdO lo p K S true) 0 (fun _ => .i .i64 (setE K.G.c K.L l)) (fun S' => bdO lo p { K with L := setL K.G.c K.L l } S' true) (fun w hH hA => BD.tab hA (fun S1 hq => Le.setT hq h2 l)) (fun S' => ?_) | refine callS (f := 142) (.t [.i .i64 (aimF l), .b true]) (aimT l) ?_ | refine callO (f := 63) (A := bdO lo p { K with L := setL K.G.c K.L l } S' true) 0 (fun _ => .i .i64 (aimR K.G l.ca (aimF l) true).2) (fun S' => bdO lo p ⟨(aimR K.G l.ca (aimF l) true).1, K.Q, setL K.G.c K.L l⟩ S' true) (fun w hH hA => BD.grp hA (aim_c _ _ _ _) (fun S1 hq => aimG hq l.ca (aimF l) true)) (fun S'' => ?_) | refine fin_k (by rfl) (by intro m; rfl) | refine fin_s ?_ | refine fin_r ?_ ?_ | refine fin_e ?_ ?_)
/-- What a lease's step says, as a row. -/
theorem saidN {F : FuncId} {args : Array Value} {w1 : World} {n0 : Nat} {r : LeaseV × Option MsgV × Bool} (h : Calls Tryz.prog F args w1 (Said w1 r)) (h0 : n0 ≤ w1.heap.size) :
    Calls Tryz.prog F args w1 fun e w' => ∃ x : NrA n0, e = .returned (.tuple #[.agg #[.int .i64 r.1.se, .int .i64 r.1.fl, .int .i64 r.1.fm, .int .i64 r.1.to, .int .i64 r.1.ma, .int .i64 r.1.ca, .int .i64 r.1.ph, .int .i64 r.1.un, .int .i64 r.1.re, .int .i64 r.1.gr], .slice x.1.2.1 r.2.1.toList.length x.1.2.2, .bool r.2.2]) ∧ (rwO msgE x.1.1 x.1.2.1 r.2.1.toList.length x.1.2.2 r.2.1.toList true).st w' ∧ Since w1 w' ∧ ∀ g ∈ (rwO msgE x.1.1 x.1.2.1 r.2.1.toList.length x.1.2.2 r.2.1.toList true).F, w1.heap.size ≤ g := by
  refine h.mono ?_
  rintro e w' ⟨v, rfl, hm, hs⟩
  obtain ⟨l, o, b⟩ := r
  cases o with
  | none =>
    have hm : v = .slice none 0 0 := hm
    subst hm
    exact ⟨⟨(w1.heap.size, none, 0), h0⟩, rfl, Ek.nil _ _ _, hs, by intro g hg; cases hg⟩
  | some m =>
    obtain ⟨b1, rfl, hb1, B⟩ := hm
    have hO : msgE.At w1.heap.size (some ⟨b1, 0, none⟩) 1 1 [m] w' := Ek.of_blk B hb1 (by decide)
    exact ⟨⟨(w1.heap.size, some ⟨b1, 0, none⟩, 1), h0⟩, rfl, hO, hs, own_low hO⟩
def carAt (K : KV) (l : LeaseV) : CarV := K.G.cars.getD l.ca.toNat Gr.zeroX
/-- Each lease's car is there. -/
def inC (K : KV) (l : LeaseV) : Prop := 0 ≤ l.ca ∧ l.ca < (K.G.cars.length : Int)
theorem inC.at_ {K : KV} {l : LeaseV} (h : inC K l) : K.G.cars[l.ca.toNat]? = some (carAt K l) := by
  have : l.ca.toNat < K.G.cars.length := by unfold inC at h; omega
  simp [carAt, List.getD, this]
def hearR (K : KV) (l : LeaseV) (m : MsgV) : LeaseV × Option MsgV × Bool := hearV K.G.c l (carAt K l) K.G.now m
def hearK (K : KV) (s : Int) (m : MsgV) : KV := if hasL K.L s = true then setK K (hearR K (ofL K.L s) m).1 (hearR K (ofL K.L s) m).2.2 else K
def hearM (K : KV) (s : Int) (m : MsgV) : List MsgV := if hasL K.L s = true then (hearR K (ofL K.L s) m).2.1.toList else [⟨7, 0, 0, 0⟩]
attribute [local irreducible] setK hearR
set_option maxHeartbeats 2000000 in
theorem hearT (hk : Blk w q 115 (coreA K.G.c p)) (hb : BD lo p K S w) (h0 : K.G.cars.length ≤ 10000) (h2 : K.L.length ≤ 10000) (s : Int) (m : MsgV) (hin : hasL K.L s = true → inC K (ofL K.L s)) :
    Calls Tryz.prog 43 #[.pointer (some ⟨q, 0, none⟩), .int .i64 s, .agg (msgC m)] w fun e w' => ∃ (S' : List Nat) (x : Nr), e = .returned (.slice x.2.1 (hearM K s m).length x.2.2) ∧ BD lo p (hearK K s m) S' w' ∧ (rwO evE x.1 x.2.1 (hearM K s m).length x.2.2 (evs s (hearM K s m)) true).st w' ∧ Upd S w w' ∧ (∀ g ∈ S', g ∈ S ∨ w.heap.size ≤ g) ∧ ∀ g ∈ blkOf x.2.1, w.heap.size ≤ g ∧ g ∉ S' := by
  unfold hearK hearM
  cases hL : hasL K.L s with
  | false =>
    rw [if_neg (by decide), if_neg (by decide)]
    refine entH tab_ok (hold_k hk hb) [.p 0 0, .i .i64 s, .a [.i .i64 m.ki, .i .i64 m.a, .i .i64 m.b, .i .i64 m.c]] Tryz.func43 Tryz.ntmps43 rfl rfl ?_
    repeat' ((conv => whnf); first | refine sgo ⟨tab_ok⟩ ?_ | refine br_not ?_ | refine br_t rfl ?_ | refine br_f rfl ?_ | refine br_t (by assumption) ?_ | refine br_f (by assumption) ?_ | refine br_t (decide_eq_true (by assumption)) ?_ | refine br_f (decide_eq_false (by assumption)) ?_ | refine br_t (beq_iff_eq.2 (by assumption)) ?_ | refine br_f (beq_eq_false_iff_ne.2 (by assumption)) ?_ | intro b | refine drA ⟨tab_ok⟩ [] ?_ | refine kpt ?_ | refine callH (f := 95) (.t [.a [.i .i64 (ofL K.L s).se, .i .i64 (ofL K.L s).fl, .i .i64 (ofL K.L s).fm, .i .i64 (ofL K.L s).to, .i .i64 (ofL K.L s).ma, .i .i64 (ofL K.L s).ca, .i .i64 (ofL K.L s).ph, .i .i64 (ofL K.L s).un, .i .i64 (ofL K.L s).re, .i .i64 (ofL K.L s).gr], .b false]) (fun w hH => by have := (hH.obj (bdO lo p K S true) (List.mem_singleton.2 rfl)).of h2 s; rw [hL] at this; exact this) ?_ | refine opb1 (e := 48) ⟨tab_ok⟩ [.i .i64 7, .i .i64 0, .i .i64 0, .i .i64 0] (by rfl) (by rfl) ?_ | refine callN (f := 77) (ι := NrA w.heap.size) (fun x => .v (.slice x.1.2.1 1 x.1.2.2)) (fun x => rwO evE x.1.1 x.1.2.1 1 x.1.2.2 (evs s [⟨7, 0, 0, 0⟩]) true) (fun w1 hH => toN (eventsT (lo := 0) (ms := [⟨7, 0, 0, 0⟩]) s w1 (Ek.of_blk (hH.row 3 _ rfl rfl) (Nat.zero_le _) (by decide)) rfl (by decide)) hH.upd.size) (fun x => ?_) | refine fin_ke (k := 0) (by rfl) (by rfl) (by rfl) x.2 | refine fin_s ?_ | refine fin_r ?_ ?_ | refine fin_e ?_ ?_)
  | true =>
    rw [if_pos rfl, if_pos rfl]
    have hi := hin hL
    obtain ⟨k, hka⟩ : ∃ k : Nat, (ofL K.L s).ca = (k : Int) := ⟨_, (Int.toNat_of_nonneg hi.1).symm⟩
    have hx := hi.at_
    rw [hka] at hx
    have hx : K.G.cars[k]? = some (carAt K (ofL K.L s)) := by simpa using hx
    obtain ⟨hkl, _⟩ := List.getElem?_eq_some_iff.1 hx
    generalize hl : ofL K.L s = l at *
    generalize hxx : carAt K l = x at *
    have hr : hearR K l m = hearV K.G.c l x K.G.now m := by unfold hearR; rw [hxx]
    refine entH tab_ok (hold_k hk hb) [.p 0 0, .i .i64 s, .a [.i .i64 m.ki, .i .i64 m.a, .i .i64 m.b, .i .i64 m.c]] Tryz.func43 Tryz.ntmps43 rfl rfl ?_
    repeat' ((conv => whnf); first | refine sgo ⟨tab_ok⟩ ?_ | refine br_not ?_ | refine br_t rfl ?_ | refine br_f rfl ?_ | refine br_t (by assumption) ?_ | refine br_f (by assumption) ?_ | refine br_t (decide_eq_true (by assumption)) ?_ | refine br_f (decide_eq_false (by assumption)) ?_ | refine br_t (beq_iff_eq.2 (by assumption)) ?_ | refine br_f (beq_eq_false_iff_ne.2 (by assumption)) ?_ | intro b | refine drA ⟨tab_ok⟩ [13] ?_ | refine kpt ?_ | refine And.intro ?_ ?_ | refine callH (f := 95) (.t [.a [.i .i64 l.se, .i .i64 l.fl, .i .i64 l.fm, .i .i64 l.to, .i .i64 l.ma, .i .i64 l.ca, .i .i64 l.ph, .i .i64 l.un, .i .i64 l.re, .i .i64 l.gr], .b true]) (fun w hH => by have := (Hold.ob hH (A := bdO lo p K S true) 0 rfl).of h2 s; rw [hL, hl] at this; exact this) ?_ | refine callN (f := 32) (ι := NgA w.heap.size) (fun x => .v (.slice (some ⟨x.1.2.1, 0, none⟩) K.G.cars.length x.1.2.2)) (fun x => carsO x.1.1 (some ⟨x.1.2.1, 0, none⟩) K.G.cars.length x.1.2.2 K.G.cars true) (fun w1 hH => toNCg (by omega) ((Hold.ob hH (A := bdO lo p K S true) 0 rfl).cars h0) hH.upd.size) (fun cs => ?_) | refine puiv ⟨tab_ok⟩ (by rfl) (by rfl) (by rfl) (by rfl) (by rfl) (by rfl) ⟨by omega, by omega⟩ ?_ | refine opix (g := cs.1.2.1) (off := 0 + k * 15) [.i .i64 x.ds, .i .i64 x.da, .i .i64 x.un, .i .i64 x.wy, .i .i64 x.ti, .i .i64 x.ju, .i .i64 x.lo, .b x.bl, .b x.br, .i .i64 x.mo, .i .i64 x.ta, .b x.ho, .i .u64 x.sp, .i .u64 x.su, .i .u64 x.sd] (fun w hH => car_at (Hold.ob hH (A := carsO cs.1.1 (some ⟨cs.1.2.1, 0, none⟩) K.G.cars.length cs.1.2.2 K.G.cars true) 1 rfl) hx) ⟨tab_ok⟩ (by rfl) (by rfl) (by show Addr.add ⟨_, 0, none⟩ (l.ca.toNat * 15) = _; rw [hka, Int.toNat_natCast, Go.WideShapes.add_plain]) ?_ | refine callH (f := 35) (.i .i64 K.G.now) (fun w hH => (Hold.ob hH (A := bdO lo p K S true) 0 rfl).now) ?_ | refine callN (f := 96) (ι := NrA w.heap.size) (fun x => .t [.a [.i .i64 (hearR K l m).1.se, .i .i64 (hearR K l m).1.fl, .i .i64 (hearR K l m).1.fm, .i .i64 (hearR K l m).1.to, .i .i64 (hearR K l m).1.ma, .i .i64 (hearR K l m).1.ca, .i .i64 (hearR K l m).1.ph, .i .i64 (hearR K l m).1.un, .i .i64 (hearR K l m).1.re, .i .i64 (hearR K l m).1.gr], .v (.slice x.1.2.1 (hearR K l m).2.1.toList.length x.1.2.2), .b (hearR K l m).2.2]) (fun x => rwO msgE x.1.1 x.1.2.1 (hearR K l m).2.1.toList.length x.1.2.2 (hearR K l m).2.1.toList true) (fun w1 hH => saidN (by rw [hr]; exact Ri.hearT K.G.c l x K.G.now m w1) hH.upd.size) (fun ms => ?_) | refine callO (f := 76) (A := bdO lo p K S true) 0 (fun _ => .t []) (fun S' => bdO lo p (setK K (hearR K l m).1 (hearR K l m).2.2) S' true) (fun w hH hA => (settleT (hH.row 0 _ rfl rfl) hA h2 _ _).mono (by rintro e w' ⟨rfl, S', h⟩; exact ⟨S', rfl, h⟩)) (fun S' => ?_) | refine callN (f := 77) (ι := NrA w.heap.size) (fun x => .v (.slice x.1.2.1 (hearR K l m).2.1.toList.length x.1.2.2)) (fun x => rwO evE x.1.1 x.1.2.1 (hearR K l m).2.1.toList.length x.1.2.2 (evs s (hearR K l m).2.1.toList) true) (fun w1 hH => toN (eventsT s w1 (Hold.ob hH (A := rwO msgE ms.1.1 ms.1.2.1 (hearR K l m).2.1.toList.length ms.1.2.2 (hearR K l m).2.1.toList true) 2 rfl) rfl (by have : (hearR K l m).2.1.toList.length ≤ 1 := (by cases (hearR K l m).2.1 <;> simp); omega)) hH.upd.size) (fun es => ?_) | refine fin_ke (k := 2) (by rfl) (by rfl) (by rfl) es.2 | refine fin_s ?_ | refine fin_r ?_ ?_ | refine fin_e ?_ ?_)
end
end Go.Proofs.YthmikjjnlahlbaaGreat.Co
namespace Go.Proofs.YthmikjjnlahlbaaGreat.Co
set_option linter.unusedSectionVars false
set_option linter.unusedVariables false
set_option linter.unusedSimpArgs false
open Go.RowKit Go.Proofs.YthmikjjnlahlbaaGreat.Ba Go.Proofs.YthmikjjnlahlbaaGreat.Mem Go.Proofs.YthmikjjnlahlbaaGreat.En Go.Proofs.YthmikjjnlahlbaaGreat.Ty Go.Proofs.YthmikjjnlahlbaaGreat.Mo Go.Proofs.YthmikjjnlahlbaaGreat.St
open Go.Proofs.YthmikjjnlahlbaaGreat.Gr (GrV GO CarsAt WaitsAt carL waitL waitA WaitV pairO newG okT okW idB idlT waitsO wait_at)
open Go.Proofs.YthmikjjnlahlbaaGreat.Qu (QO askE intE askC btw putE putL dropL atS oM)
open Go.Proofs.YthmikjjnlahlbaaGreat.Le (TO hasL ofL setL setE endL zeroL)
open Go.Proofs.YthmikjjnlahlbaaGreat.Fl (leaE mayB mayT freeB freeT)
open Go.Proofs.YthmikjjnlahlbaaGreat.Ri (MsgV msgC sp spanT sp_lo sp_hi)
open Go.Proofs.YthmikjjnlahlbaaGreat.Et (carsO car_at fr_bd)
set_option maxRecDepth 100000
attribute [local irreducible] Go.Calls
theorem cp_take {α : Type} {ls : List α} {p : α → Bool} {k : Nat} {x : α} (hx : ls[k]? = some x) : (ls.take (k + 1)).countP p = (ls.take k).countP p + if p x = true then 1 else 0 := by
  obtain ⟨hk, rfl⟩ := List.getElem?_eq_some_iff.1 hx
  rw [List.take_succ_eq_append_getElem hk, List.countP_append]
  simp [List.countP_cons]
theorem cp_le {α : Type} (ls : List α) (p : α → Bool) (k : Nat) : (ls.take k).countP p ≤ k := by
  have := List.countP_le_length (p := p) (l := ls.take k)
  rw [List.length_take] at this; omega
theorem countW {lo n c : Nat} {A : Option Addr} {ls : List WaitV} (F : FuncId) (c1 c2 : Value) (p : WaitV → Bool) (w : World) (ho : WaitsAt lo A n c ls w) (hn : ls.length = n) (hl : n ≤ 1000000) (hp : ∀ l ∈ ls, ∀ w1 : World, Since w w1 → Calls Tryz.prog F #[.agg (waitA l), c1, c2] w1 fun e w2 => e = .returned (.bool (p l)) ∧ Since w1 w2) (hcf : ∀ (args : Array Value) (w1 : World), (callFunc F args).run Tryz.prog w1 = .ok (.enter F args) w1) :
    Calls Tryz.prog 197 #[.slice A n c, .func (.func F) #[] #[c1, c2]] w fun e w' => e = .returned (.int .i64 (ls.countP p : Nat)) ∧ Since w w' := by
  obtain ⟨g, hA⟩ : ∃ g, 0 < n → A = some ⟨g, 0, none⟩ := by
    rcases own_at ho with ⟨_, h0, _⟩ | ⟨g, _, h1, _⟩
    · exact ⟨0, fun k => by omega⟩
    · exact ⟨g, fun _ => h1⟩
  refine entH tab_ok (Hold.addObj (Hold.nil _ tab [] _ w) (waitsO lo A n c ls false) ho (by intro k; cases k) (by intro r hr; cases hr) (by intro A hA; cases hA)) [.v (.slice A n c), .f F [.v c1, .v c2]] Tryz.func197 Tryz.ntmps197 rfl rfl ?_
  repeat' ((conv => whnf); first | refine sgo ⟨tab_ok⟩ ?_ | refine br_not ?_ | refine br_t rfl ?_ | refine br_f rfl ?_ | refine br_t (by assumption) ?_ | refine br_f (by assumption) ?_ | refine br_t (decide_eq_true (by assumption)) ?_ | refine br_f (decide_eq_false (by assumption)) ?_ | refine br_t (beq_iff_eq.2 (by assumption)) ?_ | refine br_f (beq_eq_false_iff_ne.2 (by assumption)) ?_ | intro b | refine drA ⟨tab_ok⟩ [] ?_ | refine kpt ?_ | refine br_dec (fun h => ?_) (fun h => ?_) | refine br_eq (fun h => ?_) (fun h => ?_) | refine br_b (fun h => ?_) (fun h => ?_) | refine fin_s ?_ | refine fin_r ?_ ?_ | refine fin_e ?_ ?_)
  conv => whnf
  refine lp ⟨tab_ok⟩ (ι := {k : Nat // k ≤ n}) (fun x => match x with | ⟨k, _⟩ => ⟨[(1, .f F [.v c1, .v c2]), (5, .i .i64 ((ls.take k).countP p : Nat)), (8, .v (.slice A n c)), (9, .i .i64 n), (10, .i .i64 (k : Int))], [], [waitsO lo A n c ls false]⟩) (fun x => n - x.1) ⟨0, Nat.zero_le _⟩ (wk ?_) ?_
  · repeat' (first | exact trivial | rfl | ((conv => whnf); refine And.intro ?_ ?_))
  rintro ⟨k, hk⟩
  have hck := cp_le ls p k
  by_cases hlt : k < n
  · obtain ⟨x, hx⟩ : ∃ x, ls[k]? = some x := ⟨_, List.getElem?_eq_getElem (by omega)⟩
    obtain rfl := hA (by omega)
    have hc := cp_take (p := p) hx
    have hmem := List.mem_of_getElem? hx
    cases hpx : p x with
    | true =>
      rw [if_pos hpx] at hc
      repeat' ((conv => whnf); first | refine sgo ⟨tab_ok⟩ ?_ | refine br_not ?_ | refine br_t rfl ?_ | refine br_f rfl ?_ | refine br_t (by assumption) ?_ | refine br_f (by assumption) ?_ | refine br_t (decide_eq_true (by assumption)) ?_ | refine br_f (decide_eq_false (by assumption)) ?_ | refine br_t (beq_iff_eq.2 (by assumption)) ?_ | refine br_f (beq_eq_false_iff_ne.2 (by assumption)) ?_ | intro b2 | refine drA ⟨tab_ok⟩ [] ?_ | refine kpt ?_ | refine br_t (decide_eq_true (by omega)) ?_ | refine br_f (decide_eq_false (by omega)) ?_ | refine wr_i ?_ | refine opiv ⟨tab_ok⟩ (by rfl) (by rfl) (by rfl) (by rfl) (by rfl) (by rfl) ⟨by omega, by omega⟩ ?_ | refine opix (g := g) (off := 0 + k * 4) [.i .i64 x.fl, .i .i64 x.wy, .i .i64 x.ca, .i .i64 x.si] (fun w hH => wait_at (hH.obj (waitsO lo (some ⟨g, 0, none⟩) n c ls false) (List.mem_singleton.2 rfl)) hx) ⟨tab_ok⟩ (by rfl) (by rfl) (by show Addr.add ⟨g, 0, none⟩ (k * 4) = _; rw [Go.WideShapes.add_plain]) ?_ | refine callHF hcf (.b true) (fun w hH => by have := hp x hmem w (hH.out rfl); rw [hpx] at this; exact this) ?_ | refine back ⟨k + 1, by omega⟩ (wk ?_) ?_ | refine fin_s ?_ | refine fin_r ?_ ?_ | refine fin_e ?_ ?_)
      all_goals first | (show n - (k + 1) < n - k; omega) | skip
      all_goals (repeat' (first | exact trivial | rfl | ((conv => whnf); refine And.intro ?_ ?_)))
      all_goals (simp only [den]; rw [hc]; rfl)
    | false =>
      rw [if_neg (by rw [hpx]; decide)] at hc
      repeat' ((conv => whnf); first | refine sgo ⟨tab_ok⟩ ?_ | refine br_not ?_ | refine br_t rfl ?_ | refine br_f rfl ?_ | refine br_t (by assumption) ?_ | refine br_f (by assumption) ?_ | refine br_t (decide_eq_true (by assumption)) ?_ | refine br_f (decide_eq_false (by assumption)) ?_ | refine br_t (beq_iff_eq.2 (by assumption)) ?_ | refine br_f (beq_eq_false_iff_ne.2 (by assumption)) ?_ | intro b2 | refine drA ⟨tab_ok⟩ [] ?_ | refine kpt ?_ | refine br_t (decide_eq_true (by omega)) ?_ | refine br_f (decide_eq_false (by omega)) ?_ | refine wr_i ?_ | refine opiv ⟨tab_ok⟩ (by rfl) (by rfl) (by rfl) (by rfl) (by rfl) (by rfl) ⟨by omega, by omega⟩ ?_ | refine opix (g := g) (off := 0 + k * 4) [.i .i64 x.fl, .i .i64 x.wy, .i .i64 x.ca, .i .i64 x.si] (fun w hH => wait_at (hH.obj (waitsO lo (some ⟨g, 0, none⟩) n c ls false) (List.mem_singleton.2 rfl)) hx) ⟨tab_ok⟩ (by rfl) (by rfl) (by show Addr.add ⟨g, 0, none⟩ (k * 4) = _; rw [Go.WideShapes.add_plain]) ?_ | refine callHF hcf (.b false) (fun w hH => by have := hp x hmem w (hH.out rfl); rw [hpx] at this; exact this) ?_ | refine back ⟨k + 1, by omega⟩ (wk ?_) ?_ | refine fin_s ?_ | refine fin_r ?_ ?_ | refine fin_e ?_ ?_)
      all_goals first | (show n - (k + 1) < n - k; omega) | skip
      all_goals (repeat' (first | exact trivial | rfl | ((conv => whnf); refine And.intro ?_ ?_)))
      all_goals (simp only [den]; rw [hc]; rfl)
  · repeat' ((conv => whnf); first | refine sgo ⟨tab_ok⟩ ?_ | refine br_not ?_ | refine br_t rfl ?_ | refine br_f rfl ?_ | refine br_t (by assumption) ?_ | refine br_f (by assumption) ?_ | refine br_t (decide_eq_true (by assumption)) ?_ | refine br_f (decide_eq_false (by assumption)) ?_ | refine br_t (beq_iff_eq.2 (by assumption)) ?_ | refine br_f (beq_eq_false_iff_ne.2 (by assumption)) ?_ | intro b2 | refine drA ⟨tab_ok⟩ [] ?_ | refine kpt ?_ | refine br_t (decide_eq_true (by omega)) ?_ | refine br_f (decide_eq_false (by omega)) ?_ | refine wr_i ?_ | refine fin_s ?_ | refine fin_r ?_ ?_ | refine fin_e ?_ ?_)
    obtain rfl : k = n := by omega
    rw [List.take_of_length_le (by omega)]; rfl
theorem countC {lo n c : Nat} {A : Option Addr} {ls : List CarV} (F : FuncId) (p : CarV → Bool) (w : World) (ho : CarsAt lo A n c ls w) (hn : ls.length = n) (hl : n ≤ 1000000) (hp : ∀ (l : CarV) (w1 : World), Calls Tryz.prog F #[.agg #[.int .i64 l.ds, .int .i64 l.da, .int .i64 l.un, .int .i64 l.wy, .int .i64 l.ti, .int .i64 l.ju, .int .i64 l.lo, .bool l.bl, .bool l.br, .int .i64 l.mo, .int .i64 l.ta, .bool l.ho, .int .u64 l.sp, .int .u64 l.su, .int .u64 l.sd]] w1 fun e w2 => e = .returned (.bool (p l)) ∧ Since w1 w2) (hcf : ∀ (args : Array Value) (w1 : World), (callFunc F args).run Tryz.prog w1 = .ok (.enter F args) w1) :
    Calls Tryz.prog 199 #[.slice A n c, .func (.func F) #[] #[]] w fun e w' => e = .returned (.int .i64 (ls.countP p : Nat)) ∧ Since w w' := by
  obtain ⟨g, hA⟩ : ∃ g, 0 < n → A = some ⟨g, 0, none⟩ := by
    rcases own_at ho with ⟨_, h0, _⟩ | ⟨g, _, h1, _⟩
    · exact ⟨0, fun k => by omega⟩
    · exact ⟨g, fun _ => h1⟩
  refine entH tab_ok (Hold.addObj (Hold.nil _ tab [] _ w) (carsO lo A n c ls false) ho (by intro k; cases k) (by intro r hr; cases hr) (by intro A hA; cases hA)) [.v (.slice A n c), .f F []] Tryz.func199 Tryz.ntmps199 rfl rfl ?_
  repeat' ((conv => whnf); first | refine sgo ⟨tab_ok⟩ ?_ | refine br_not ?_ | refine br_t rfl ?_ | refine br_f rfl ?_ | refine br_t (by assumption) ?_ | refine br_f (by assumption) ?_ | refine br_t (decide_eq_true (by assumption)) ?_ | refine br_f (decide_eq_false (by assumption)) ?_ | refine br_t (beq_iff_eq.2 (by assumption)) ?_ | refine br_f (beq_eq_false_iff_ne.2 (by assumption)) ?_ | intro b | refine drA ⟨tab_ok⟩ [] ?_ | refine kpt ?_ | refine br_dec (fun h => ?_) (fun h => ?_) | refine br_eq (fun h => ?_) (fun h => ?_) | refine br_b (fun h => ?_) (fun h => ?_) | refine fin_s ?_ | refine fin_r ?_ ?_ | refine fin_e ?_ ?_)
  conv => whnf
  refine lp ⟨tab_ok⟩ (ι := {k : Nat // k ≤ n}) (fun x => match x with | ⟨k, _⟩ => ⟨[(1, .f F []), (5, .i .i64 ((ls.take k).countP p : Nat)), (8, .v (.slice A n c)), (9, .i .i64 n), (10, .i .i64 (k : Int))], [], [carsO lo A n c ls false]⟩) (fun x => n - x.1) ⟨0, Nat.zero_le _⟩ (wk ?_) ?_
  · repeat' (first | exact trivial | rfl | ((conv => whnf); refine And.intro ?_ ?_))
  rintro ⟨k, hk⟩
  have hck := cp_le ls p k
  by_cases hlt : k < n
  · obtain ⟨x, hx⟩ : ∃ x, ls[k]? = some x := ⟨_, List.getElem?_eq_getElem (by omega)⟩
    obtain rfl := hA (by omega)
    have hc := cp_take (p := p) hx
    cases hpx : p x with
    | true =>
      rw [if_pos hpx] at hc
      repeat' ((conv => whnf); first | refine sgo ⟨tab_ok⟩ ?_ | refine br_not ?_ | refine br_t rfl ?_ | refine br_f rfl ?_ | refine br_t (by assumption) ?_ | refine br_f (by assumption) ?_ | refine br_t (decide_eq_true (by assumption)) ?_ | refine br_f (decide_eq_false (by assumption)) ?_ | refine br_t (beq_iff_eq.2 (by assumption)) ?_ | refine br_f (beq_eq_false_iff_ne.2 (by assumption)) ?_ | intro b2 | refine drA ⟨tab_ok⟩ [] ?_ | refine kpt ?_ | refine br_t (decide_eq_true (by omega)) ?_ | refine br_f (decide_eq_false (by omega)) ?_ | refine wr_i ?_ | refine opiv ⟨tab_ok⟩ (by rfl) (by rfl) (by rfl) (by rfl) (by rfl) (by rfl) ⟨by omega, by omega⟩ ?_ | refine opix (g := g) (off := 0 + k * 15) [.i .i64 x.ds, .i .i64 x.da, .i .i64 x.un, .i .i64 x.wy, .i .i64 x.ti, .i .i64 x.ju, .i .i64 x.lo, .b x.bl, .b x.br, .i .i64 x.mo, .i .i64 x.ta, .b x.ho, .i .u64 x.sp, .i .u64 x.su, .i .u64 x.sd] (fun w hH => car_at (hH.obj (carsO lo (some ⟨g, 0, none⟩) n c ls false) (List.mem_singleton.2 rfl)) hx) ⟨tab_ok⟩ (by rfl) (by rfl) (by show Addr.add ⟨g, 0, none⟩ (k * 15) = _; rw [Go.WideShapes.add_plain]) ?_ | refine callHF hcf (.b true) (fun w hH => by have := hp x w; rw [hpx] at this; exact this) ?_ | refine back ⟨k + 1, by omega⟩ (wk ?_) ?_ | refine fin_s ?_ | refine fin_r ?_ ?_ | refine fin_e ?_ ?_)
      all_goals first | (show n - (k + 1) < n - k; omega) | skip
      all_goals (repeat' (first | exact trivial | rfl | ((conv => whnf); refine And.intro ?_ ?_)))
      all_goals (simp only [den]; rw [hc]; rfl)
    | false =>
      rw [if_neg (by rw [hpx]; decide)] at hc
      repeat' ((conv => whnf); first | refine sgo ⟨tab_ok⟩ ?_ | refine br_not ?_ | refine br_t rfl ?_ | refine br_f rfl ?_ | refine br_t (by assumption) ?_ | refine br_f (by assumption) ?_ | refine br_t (decide_eq_true (by assumption)) ?_ | refine br_f (decide_eq_false (by assumption)) ?_ | refine br_t (beq_iff_eq.2 (by assumption)) ?_ | refine br_f (beq_eq_false_iff_ne.2 (by assumption)) ?_ | intro b2 | refine drA ⟨tab_ok⟩ [] ?_ | refine kpt ?_ | refine br_t (decide_eq_true (by omega)) ?_ | refine br_f (decide_eq_false (by omega)) ?_ | refine wr_i ?_ | refine opiv ⟨tab_ok⟩ (by rfl) (by rfl) (by rfl) (by rfl) (by rfl) (by rfl) ⟨by omega, by omega⟩ ?_ | refine opix (g := g) (off := 0 + k * 15) [.i .i64 x.ds, .i .i64 x.da, .i .i64 x.un, .i .i64 x.wy, .i .i64 x.ti, .i .i64 x.ju, .i .i64 x.lo, .b x.bl, .b x.br, .i .i64 x.mo, .i .i64 x.ta, .b x.ho, .i .u64 x.sp, .i .u64 x.su, .i .u64 x.sd] (fun w hH => car_at (hH.obj (carsO lo (some ⟨g, 0, none⟩) n c ls false) (List.mem_singleton.2 rfl)) hx) ⟨tab_ok⟩ (by rfl) (by rfl) (by show Addr.add ⟨g, 0, none⟩ (k * 15) = _; rw [Go.WideShapes.add_plain]) ?_ | refine callHF hcf (.b false) (fun w hH => by have := hp x w; rw [hpx] at this; exact this) ?_ | refine back ⟨k + 1, by omega⟩ (wk ?_) ?_ | refine fin_s ?_ | refine fin_r ?_ ?_ | refine fin_e ?_ ?_)
      all_goals first | (show n - (k + 1) < n - k; omega) | skip
      all_goals (repeat' (first | exact trivial | rfl | ((conv => whnf); refine And.intro ?_ ?_)))
      all_goals (simp only [den]; rw [hc]; rfl)
  · repeat' ((conv => whnf); first | refine sgo ⟨tab_ok⟩ ?_ | refine br_not ?_ | refine br_t rfl ?_ | refine br_f rfl ?_ | refine br_t (by assumption) ?_ | refine br_f (by assumption) ?_ | refine br_t (decide_eq_true (by assumption)) ?_ | refine br_f (decide_eq_false (by assumption)) ?_ | refine br_t (beq_iff_eq.2 (by assumption)) ?_ | refine br_f (beq_eq_false_iff_ne.2 (by assumption)) ?_ | intro b2 | refine drA ⟨tab_ok⟩ [] ?_ | refine kpt ?_ | refine br_t (decide_eq_true (by omega)) ?_ | refine br_f (decide_eq_false (by omega)) ?_ | refine wr_i ?_ | refine fin_s ?_ | refine fin_r ?_ ?_ | refine fin_e ?_ ?_)
    obtain rfl : k = n := by omega
    rw [List.take_of_length_le (by omega)]; rfl
def oldW (K : KV) (a : WaitV) : Bool := decide (K.G.now - a.si > sp K.G.c.yi)
def nrmC (x : CarV) : Bool := x.mo == 0 && !x.br
def pfB (K : KV) : Bool := decide ((K.G.waits.countP (oldW K) : Int) > 0) || decide ((K.G.cars.countP nrmC : Int) < 2)
def okS (K : KV) (a : WaitV) : Prop := 0 ≤ a.si ∧ a.si ≤ 1099511627776
def okN (K : KV) : Prop := 0 ≤ K.G.now ∧ K.G.now ≤ 1099511627776
theorem pf1T (K : KV) (a : WaitV) (cp cq : Nat) (w : World) (h1 : Blk w cp 3 #[.int .i64 K.G.now]) (h2 : Blk w cq 3 #[.int .i64 (sp K.G.c.yi)]) (hne : cp ≠ cq) (ha : okS K a) (hn : okN K) : Calls Tryz.prog 198 #[.agg (waitA a), .pointer (some ⟨cp, 0, none⟩), .pointer (some ⟨cq, 0, none⟩)] w fun e w' => e = .returned (.bool (oldW K a)) ∧ Since w w' := by
  obtain ⟨a1, a2⟩ := ha
  obtain ⟨n1, n2⟩ := hn
  refine entH tab_ok (Hold.addRow (hold_q (S := []) [.i .i64 K.G.now] h1) ⟨cq, 3, true, 0, [], [.i .i64 (sp K.G.c.yi)], [], false⟩ h2 (by intro h; cases h) (by intro r hr _; rw [List.mem_singleton] at hr; subst hr; exact hne) (by intro A hA; cases hA)) [.a [.i .i64 a.fl, .i .i64 a.wy, .i .i64 a.ca, .i .i64 a.si], .p 0 0, .p 1 0] Tryz.func198 Tryz.ntmps198 rfl rfl ?_
  repeat' ((conv => whnf); first | refine sgo ⟨tab_ok⟩ ?_ | refine br_not ?_ | refine br_t rfl ?_ | refine br_f rfl ?_ | refine br_t (by assumption) ?_ | refine br_f (by assumption) ?_ | refine br_t (decide_eq_true (by assumption)) ?_ | refine br_f (decide_eq_false (by assumption)) ?_ | refine br_t (beq_iff_eq.2 (by assumption)) ?_ | refine br_f (beq_eq_false_iff_ne.2 (by assumption)) ?_ | intro b | refine drA ⟨tab_ok⟩ [] ?_ | refine kpt ?_ | refine wr_i ?_ | refine fin_s ?_ | refine fin_r ?_ ?_ | refine fin_e ?_ ?_)
  all_goals rfl
theorem pf2T (x : CarV) (w : World) : Calls Tryz.prog 200 #[.agg #[.int .i64 x.ds, .int .i64 x.da, .int .i64 x.un, .int .i64 x.wy, .int .i64 x.ti, .int .i64 x.ju, .int .i64 x.lo, .bool x.bl, .bool x.br, .int .i64 x.mo, .int .i64 x.ta, .bool x.ho, .int .u64 x.sp, .int .u64 x.su, .int .u64 x.sd]] w fun e w' => e = .returned (.bool (nrmC x)) ∧ Since w w' := by
  refine ent tab_ok [.a [.i .i64 x.ds, .i .i64 x.da, .i .i64 x.un, .i .i64 x.wy, .i .i64 x.ti, .i .i64 x.ju, .i .i64 x.lo, .b x.bl, .b x.br, .i .i64 x.mo, .i .i64 x.ta, .b x.ho, .i .u64 x.sp, .i .u64 x.su, .i .u64 x.sd]] Tryz.func200 Tryz.ntmps200 rfl rfl ?_
  repeat' ((conv => whnf); first | refine sgo ⟨tab_ok⟩ ?_ | refine br_not ?_ | refine br_t rfl ?_ | refine br_f rfl ?_ | refine br_t (by assumption) ?_ | refine br_f (by assumption) ?_ | refine br_t (decide_eq_true (by assumption)) ?_ | refine br_f (decide_eq_false (by assumption)) ?_ | refine br_t (beq_iff_eq.2 (by assumption)) ?_ | refine br_f (beq_eq_false_iff_ne.2 (by assumption)) ?_ | intro b | refine drA ⟨tab_ok⟩ [] ?_ | refine kpt ?_ | refine br_dec (fun h => ?_) (fun h => ?_) | refine br_eq (fun h => ?_) (fun h => ?_) | refine br_b (fun h => ?_) (fun h => ?_) | refine fin_s ?_ | refine fin_r ?_ ?_ | refine fin_e ?_ ?_)
  all_goals (unfold nrmC; simp [den, *])
attribute [local irreducible] oldW nrmC sp
section
variable {q lo : Nat} {p : Pt} {K : KV} {S : List Nat} {w : World}
/-- A core that is only read. -/
theorem hold_kr {n : Nat} (hk : Blk w q 115 (coreA K.G.c p)) (hb : BD lo p K S w) : Hold ⟨Tryz.prog, tab, [], w, n, []⟩ [⟨q, 115, true, 0, [], coreS K.G.c p, [], false⟩] [bdO lo p K S false] w :=
  Hold.addObj (hold_q (S := []) (coreS K.G.c p) hk) (bdO lo p K S false) hb (by intro k; cases k) (by intro r hr _; rw [List.mem_singleton] at hr; subst hr; exact hb.far hk) (by intro A hA; cases hA)
set_option maxHeartbeats 1000000 in
theorem peopleT (hk : Blk w q 115 (coreA K.G.c p)) (hb : BD lo p K S w) (h0 : K.G.cars.length ≤ 10000) (h1 : K.G.waits.length ≤ 10000) (hs : ∀ a ∈ K.G.waits, okS K a) (hn : okN K) :
    Calls Tryz.prog 143 #[.pointer (some ⟨q, 0, none⟩)] w fun e w' => e = .returned (.bool (pfB K)) ∧ Since w w' := by
  refine entH tab_ok (hold_kr hk hb) [.p 0 0] Tryz.func143 Tryz.ntmps143 rfl rfl ?_
  repeat' ((conv => whnf); first | refine sgo ⟨tab_ok⟩ ?_ | refine br_not ?_ | refine br_t rfl ?_ | refine br_f rfl ?_ | refine br_t (by assumption) ?_ | refine br_f (by assumption) ?_ | refine br_t (decide_eq_true (by assumption)) ?_ | refine br_f (decide_eq_false (by assumption)) ?_ | refine br_t (beq_iff_eq.2 (by assumption)) ?_ | refine br_f (beq_eq_false_iff_ne.2 (by assumption)) ?_ | intro b | refine drA ⟨tab_ok⟩ [] ?_ | refine kpt ?_ | refine br_dec (fun h => ?_) (fun h => ?_) | refine br_eq (fun h => ?_) (fun h => ?_) | refine br_b (fun h => ?_) (fun h => ?_) | refine And.intro ?_ ?_ | refine callH (f := 35) (.i .i64 K.G.now) (fun w hH => (Hold.ob hH (A := bdO lo p K S false) 0 rfl).now) ?_ | refine callS (f := 193) (.i .i64 (sp K.G.c.yi)) (spanT _) ?_ | refine callN (f := 56) (ι := NrA w.heap.size) (fun x => .v (.slice x.1.2.1 K.G.waits.length x.1.2.2)) (fun x => waitsO x.1.1 x.1.2.1 K.G.waits.length x.1.2.2 K.G.waits true) (fun w1 hH => toNW ((Hold.ob hH (A := bdO lo p K S false) 0 rfl).waits h1) hH.upd.size) (fun ws => ?_) | refine callH (f := 197) (.i .i64 (K.G.waits.countP (oldW K) : Nat)) (fun w hH => countW 198 _ _ (oldW K) w (Hold.ob hH (A := waitsO ws.1.1 ws.1.2.1 K.G.waits.length ws.1.2.2 K.G.waits true) 1 rfl) rfl (by omega) (fun a ha w1 hs1 => pf1T K a _ _ w1 (keep_blk hs1 (hH.row 1 _ rfl rfl)) (keep_blk hs1 (hH.row 2 _ rfl rfl)) (hH.ne 1 2 _ _ rfl rfl rfl rfl (by decide)) (hs a ha) hn) (entC (by kernel_rfl))) ?_ | refine callH (f := 197) (.i .i64 (K.G.waits.countP (oldW K) : Nat)) (fun w hH => countW 198 _ _ (oldW K) w (Hold.ob hH (A := waitsO ws.1.1 ws.1.2.1 K.G.waits.length ws.1.2.2 K.G.waits true) 1 rfl) rfl (by omega) (fun a ha w1 hs1 => pf1T K a _ _ w1 (keep_blk hs1 (hH.row 2 _ rfl rfl)) (keep_blk hs1 (hH.row 1 _ rfl rfl)) (hH.ne 2 1 _ _ rfl rfl rfl rfl (by decide)) (hs a ha) hn) (entC (by kernel_rfl))) ?_ | refine callN (f := 32) (ι := NrA w.heap.size) (fun x => .v (.slice x.1.2.1 K.G.cars.length x.1.2.2)) (fun x => carsO x.1.1 x.1.2.1 K.G.cars.length x.1.2.2 K.G.cars true) (fun w1 hH => toNC ((Hold.ob hH (A := bdO lo p K S false) 0 rfl).cars h0) hH.upd.size) (fun cs => ?_) | refine callH (f := 199) (.i .i64 (K.G.cars.countP nrmC : Nat)) (fun w hH => countC 200 nrmC w (Hold.ob hH (A := carsO cs.1.1 cs.1.2.1 K.G.cars.length cs.1.2.2 K.G.cars true) 2 rfl) rfl (by omega) (fun x w1 => pf2T x w1) (entC (by kernel_rfl))) ?_ | refine fin_s ?_ | refine fin_r ?_ ?_ | refine fin_e ?_ ?_)
  all_goals (simp only [den, pfB, h, decide_true, decide_false, Bool.true_or, Bool.false_or])
/-- A slice of one cell written out. -/
theorem opbi {X : Cx} {s : St} (hX : X.Ok) {o : Oper} {K : St → Prop} {t e : TypeId} {x : Operand} (v : SV) (ho : o.op = .buildSlice t 1 #[(0, x)]) (hx : evO x s.fr = some v)
    (h : nw s e [v] fun j s' => put X.n o.dst (.s j 0 1 1) s' K)
    (ht : (match tyO t X.tab with | some y => y.sl && Nat.beq y.el e | none => false) = true := by rfl) (hn : (match tyO e X.tab with | some y => Nat.beq y.size 1 && !y.row | none => false) = true := by rfl) (h1 : ∀ m, (den m v).cells = #[den m v] := by intro m; rfl) (hc : okL s.m.length [v] = true := by rfl) : OpVC X o s K := by
  cases hy : tyO t X.tab with
  | none => simp [hy] at ht
  | some y =>
    cases hz : tyO e X.tab with
    | none => simp [hz] at hn
    | some z =>
      simp only [hy, hz, Bool.and_eq_true] at ht hn
      obtain ⟨d, i, T⟩ := (hX.tab _ _ hy).out
      obtain ⟨d', i', T'⟩ := (hX.tab _ _ hz).out
      have hel := Nat.eq_of_beq_eq_true ht.2
      have hsz := Nat.eq_of_beq_eq_true hn.1
      have hu : X.P.underlying t = some (.slice e) := by rw [T.un, T.sl ht.1, hel]
      refine opbs [v] ho hu T'.inf T'.zero (by rw [T'.size]; omega) (by rw [T'.size]; omega) (fun a hf => ?_) h hc
      have he := (evO_of hf hx).2
      have := Go.Great.fill_whole (s := i'.size) (by rw [T'.size]; omega) [den s.m v] ((Array.range (1 * i'.size)).map ((zeroV z).cells[· % (zeroV z).cells.size]!)) (by intro u hu; rw [List.mem_singleton] at hu; subst hu; rw [h1, T'.size, hsz]; rfl) (by simp)
      simpa [he, denL, h1] using this
/-- The fleets that may have no lease more, of the first k. -/
def fullL (K : KV) : Nat → List Int
  | 0 => []
  | k + 1 => if freeB K.G.c K.L (k : Int) = true then fullL K k else fullL K k ++ [(k : Int)]
theorem full_len (K : KV) : ∀ k, (fullL K k).length ≤ k
  | 0 => Nat.le_refl _
  | k + 1 => by
    have := full_len K k
    unfold fullL; split
    · omega
    · simp; omega
attribute [local irreducible] freeB
set_option maxHeartbeats 1000000 in
theorem fullT (hk : Blk w q 115 (coreA K.G.c p)) (hb : BD lo p K S w) (h1 : K.L.length ≤ 10000) :
    Calls Tryz.prog 145 #[.pointer (some ⟨q, 0, none⟩)] w fun e w' => ∃ A' c', e = .returned (.slice A' (fullL K 8).length c') ∧ intE.At w.heap.size A' (fullL K 8).length c' (fullL K 8) w' ∧ Since w w' := by
  refine entH tab_ok (Hold.addObj (hold_kr hk hb) (rwO intE w.heap.size none 0 0 [] true) (Ek.nil _ _ _) (by intro _ g hg; cases hg) (by intro r _ _ hg; cases hg) (by intro A hA _ g hg hg2; cases hg2)) [.p 0 0] Tryz.func145 Tryz.ntmps145 rfl rfl ?_
  repeat' ((conv => whnf); first | refine sgo ⟨tab_ok⟩ ?_ | refine br_not ?_ | refine br_t rfl ?_ | refine br_f rfl ?_ | refine br_t (by assumption) ?_ | refine br_f (by assumption) ?_ | refine br_t (decide_eq_true (by assumption)) ?_ | refine br_f (decide_eq_false (by assumption)) ?_ | refine br_t (beq_iff_eq.2 (by assumption)) ?_ | refine br_f (beq_eq_false_iff_ne.2 (by assumption)) ?_ | intro b | refine drA ⟨tab_ok⟩ [] ?_ | refine kpt ?_ | refine br_dec (fun h => ?_) (fun h => ?_) | refine br_eq (fun h => ?_) (fun h => ?_) | refine br_b (fun h => ?_) (fun h => ?_) | refine callN (f := 74) (ι := NrA w.heap.size) (fun x => .v (.slice x.1.2.1 K.L.length x.1.2.2)) (fun x => rwO leaE x.1.1 x.1.2.1 K.L.length x.1.2.2 K.L true) (fun w1 hH => toN ((Hold.ob hH (A := bdO lo p K S false) 0 rfl).leases h1) hH.upd.size) (fun ls => ?_) | refine fin_s ?_ | refine fin_r ?_ ?_ | refine fin_e ?_ ?_)
  conv => whnf
  refine lp ⟨tab_ok⟩ (ι := {x : (Nat × Option Addr × Nat) × List Int // x.1.1 ≤ 8 ∧ fullL K x.1.1 = x.2}) (fun x => match x with | ⟨((k, A3, c3), zs), _⟩ => ⟨[(0, .p 0 0), (3, .v (.slice A3 zs.length c3)), (4, .v (.slice ls.1.2.1 K.L.length ls.1.2.2)), (11, .i .i64 (k : Int))], [⟨q, 115, true, 0, [], coreS K.G.c p, [], false⟩], [bdO lo p K S false, rwO intE w.heap.size A3 zs.length c3 zs true, rwO leaE ls.1.1 ls.1.2.1 K.L.length ls.1.2.2 K.L true]⟩) (fun x => 8 - x.1.1.1) ⟨((0, none, 0), []), Nat.zero_le _, rfl⟩ (wk ?_) ?_
  · repeat' (first | exact trivial | rfl | ((conv => whnf); refine And.intro ?_ ?_))
  rintro ⟨⟨⟨k, A3, c3⟩, zs⟩, hk8, hz⟩
  have hk8 : k ≤ 8 := hk8
  have hz : fullL K k = zs := hz
  have hzl : zs.length ≤ k := by rw [← hz]; exact full_len K k
  by_cases hlt : k < 8
  · cases hf : freeB K.G.c K.L (k : Int) with
    | true =>
      have hz2 : fullL K (k + 1) = zs := by unfold fullL; rw [if_pos hf, hz]
      repeat' ((conv => whnf); first | refine sgo ⟨tab_ok⟩ ?_ | refine br_not ?_ | refine br_t rfl ?_ | refine br_f rfl ?_ | refine br_t (by assumption) ?_ | refine br_f (by assumption) ?_ | refine br_t (decide_eq_true (by assumption)) ?_ | refine br_f (decide_eq_false (by assumption)) ?_ | refine br_t (beq_iff_eq.2 (by assumption)) ?_ | refine br_f (beq_eq_false_iff_ne.2 (by assumption)) ?_ | intro b | refine drA ⟨tab_ok⟩ [] ?_ | refine kpt ?_ | refine br_t (decide_eq_true (by omega)) ?_ | refine br_f (decide_eq_false (by omega)) ?_ | refine wr_i ?_ | refine callH (f := 202) (.b true) (fun w hH => by have := freeT K.G.c (k : Int) w (Hold.ob hH (A := rwO leaE ls.1.1 ls.1.2.1 K.L.length ls.1.2.2 K.L true) 2 rfl) rfl (by omega); rw [hf] at this; exact this) ?_ | refine back ⟨((k + 1, A3, c3), zs), by show k + 1 ≤ _; omega, hz2⟩ (wk ?_) ?_ | refine fin_s ?_ | refine fin_r ?_ ?_ | refine fin_e ?_ ?_)
      all_goals first | (show 8 - (k + 1) < 8 - k; omega) | skip
      all_goals (repeat' (first | exact trivial | rfl | ((conv => whnf); refine And.intro ?_ ?_)))
    | false =>
      have hz2 : fullL K (k + 1) = zs ++ [(k : Int)] := by unfold fullL; rw [if_neg (by rw [hf]; decide), hz]
      repeat' ((conv => whnf); first | refine sgo ⟨tab_ok⟩ ?_ | refine br_not ?_ | refine br_t rfl ?_ | refine br_f rfl ?_ | refine br_t (by assumption) ?_ | refine br_f (by assumption) ?_ | refine br_t (decide_eq_true (by assumption)) ?_ | refine br_f (decide_eq_false (by assumption)) ?_ | refine br_t (beq_iff_eq.2 (by assumption)) ?_ | refine br_f (beq_eq_false_iff_ne.2 (by assumption)) ?_ | intro b | refine drA ⟨tab_ok⟩ [] ?_ | refine kpt ?_ | refine br_t (decide_eq_true (by omega)) ?_ | refine br_f (decide_eq_false (by omega)) ?_ | refine wr_i ?_ | refine callH (f := 202) (.b false) (fun w hH => by have := freeT K.G.c (k : Int) w (Hold.ob hH (A := rwO leaE ls.1.1 ls.1.2.1 K.L.length ls.1.2.2 K.L true) 2 rfl) rfl (by omega); rw [hf] at this; exact this) ?_ | refine opbi (e := 3) ⟨tab_ok⟩ (.i .i64 (k : Int)) (by rfl) (by rfl) ?_ | refine opap 1 1 (e := 3) (lo := w.heap.size) (size := 1) (bytes := 8) (z := .int .i64 0) (A := rwO intE w.heap.size A3 zs.length c3 zs true) (vals := rowsOf intE.c zs) (cells := intE.c (k : Int)) (zs := rowsOf intE.c (zs ++ [(k : Int)])) (n2 := (zs ++ [(k : Int)]).length) (fun A' c' => rwO intE w.heap.size A' (zs ++ [(k : Int)]).length c' (zs ++ [(k : Int)]) true) (by rfl) (by rfl) (by rfl) (by rfl) rfl rfl (fun w h => h) (fun A' c' w h => h) (fun _ _ => rfl) (by rfl) (by rfl) (by rfl) (by rfl) Tryz.underlying174 (by kernel_rfl) rfl (by decide) (by decide) (intE.one _) (by omega) (fun w hH => hH.upd.size) (by simp) (by rw [rowsOf_append, rowsOf_one]) (fun A' c' => ?_) | refine back ⟨((k + 1, A', c'), zs ++ [(k : Int)]), by show k + 1 ≤ _; omega, hz2⟩ (wk ?_) ?_ | refine fin_s ?_ | refine fin_r ?_ ?_ | refine fin_e ?_ ?_)
      all_goals first | (show 8 - (k + 1) < 8 - k; omega) | skip
      all_goals (repeat' (first | exact trivial | rfl | ((conv => whnf); refine And.intro ?_ ?_)))
  · obtain rfl : k = 8 := by omega
    repeat' ((conv => whnf); first | refine sgo ⟨tab_ok⟩ ?_ | refine br_not ?_ | refine br_t rfl ?_ | refine br_f rfl ?_ | refine br_t (by assumption) ?_ | refine br_f (by assumption) ?_ | refine br_t (decide_eq_true (by assumption)) ?_ | refine br_f (decide_eq_false (by assumption)) ?_ | refine br_t (beq_iff_eq.2 (by assumption)) ?_ | refine br_f (beq_eq_false_iff_ne.2 (by assumption)) ?_ | intro b | refine drA ⟨tab_ok⟩ [] ?_ | refine kpt ?_ | refine br_t (decide_eq_true (by omega)) ?_ | refine br_f (decide_eq_false (by omega)) ?_ | refine wr_i ?_ | refine fin fun w' hH => ?_ | refine fin_s ?_ | refine fin_r ?_ ?_ | refine fin_e ?_ ?_)
    have hO := Hold.ob hH (A := rwO intE w.heap.size A3 zs.length c3 zs true) 1 rfl
    rw [hz]
    exact ⟨A3, c3, rfl, hO, hH.upd.since⟩
/-- The nearest of the first k cars that may be leased, and how far it is. -/
def canB (x : CarV) : Bool := idB x && !x.bl && !decide (x.lo > 0)
def nrL (f : Int) (ls : List CarV) : Nat → Int × Int
  | 0 => (-1, 0)
  | k + 1 => match ls[k]? with
    | none => nrL f ls k
    | some x => if canB x = true ∧ ((nrL f ls k).1 < 0 ∨ fr x.un f < (nrL f ls k).2) then ((k : Int), fr x.un f) else nrL f ls k
def nearI (K : KV) (f : Int) : Int := (nrL f K.G.cars K.G.cars.length).1
attribute [local irreducible] idB fr
set_option maxHeartbeats 2000000 in
theorem nearT (hk : Blk w q 115 (coreA K.G.c p)) (hb : BD lo p K S w) (h1 : K.G.cars.length ≤ 10000) (h2 : 0 < K.G.cars.length) (f : Int) (hf : 0 ≤ f ∧ f ≤ 63) (hok : ∀ x ∈ K.G.cars, okT x) :
    Calls Tryz.prog 146 #[.pointer (some ⟨q, 0, none⟩), .int .i64 f] w fun e w' => e = .returned (.int .i64 (nearI K f)) ∧ Since w w' := by
  refine entH tab_ok (hold_kr hk hb) [.p 0 0, .i .i64 f] Tryz.func146 Tryz.ntmps146 rfl rfl ?_
  repeat' ((conv => whnf); first | refine sgo ⟨tab_ok⟩ ?_ | refine br_not ?_ | refine br_t rfl ?_ | refine br_f rfl ?_ | refine br_t (by assumption) ?_ | refine br_f (by assumption) ?_ | refine br_t (decide_eq_true (by assumption)) ?_ | refine br_f (decide_eq_false (by assumption)) ?_ | refine br_t (beq_iff_eq.2 (by assumption)) ?_ | refine br_f (beq_eq_false_iff_ne.2 (by assumption)) ?_ | intro b | refine drA ⟨tab_ok⟩ [] ?_ | refine kpt ?_ | refine br_dec (fun h => ?_) (fun h => ?_) | refine br_eq (fun h => ?_) (fun h => ?_) | refine br_b (fun h => ?_) (fun h => ?_) | refine callN (f := 32) (ι := NgA w.heap.size) (fun x => .v (.slice (some ⟨x.1.2.1, 0, none⟩) K.G.cars.length x.1.2.2)) (fun x => carsO x.1.1 (some ⟨x.1.2.1, 0, none⟩) K.G.cars.length x.1.2.2 K.G.cars true) (fun w1 hH => toNCg h2 ((Hold.ob hH (A := bdO lo p K S false) 0 rfl).cars h1) hH.upd.size) (fun cs => ?_) | refine fin_s ?_ | refine fin_r ?_ ?_ | refine fin_e ?_ ?_)
  conv => whnf
  refine lp ⟨tab_ok⟩ (ι := {k : Nat // k ≤ K.G.cars.length}) (fun x => match x with | ⟨k, _⟩ => ⟨[(1, .i .i64 f), (5, .i .i64 (nrL f K.G.cars k).1), (6, .i .i64 (nrL f K.G.cars k).2), (14, .v (.slice (some ⟨cs.1.2.1, 0, none⟩) K.G.cars.length cs.1.2.2)), (15, .i .i64 K.G.cars.length), (16, .i .i64 (k : Int))], [], [bdO lo p K S false, carsO cs.1.1 (some ⟨cs.1.2.1, 0, none⟩) K.G.cars.length cs.1.2.2 K.G.cars true]⟩) (fun x => K.G.cars.length - x.1) ⟨0, Nat.zero_le _⟩ (wk ?_) ?_
  · repeat' (first | exact trivial | rfl | ((conv => whnf); refine And.intro ?_ ?_))
  rintro ⟨k, hk9⟩
  by_cases hlt : k < K.G.cars.length
  · obtain ⟨x, hx⟩ : ∃ x, K.G.cars[k]? = some x := ⟨_, List.getElem?_eq_getElem (by omega)⟩
    have hkx := hok x (List.mem_of_getElem? hx)
    have hr := hkx.2.1
    have hu := hkx.2.2.2.2.1
    repeat' ((conv => whnf); first | refine sgo ⟨tab_ok⟩ ?_ | refine br_not ?_ | refine br_t rfl ?_ | refine br_f rfl ?_ | refine br_t (by assumption) ?_ | refine br_f (by assumption) ?_ | refine br_t (decide_eq_true (by assumption)) ?_ | refine br_f (decide_eq_false (by assumption)) ?_ | refine br_t (beq_iff_eq.2 (by assumption)) ?_ | refine br_f (beq_eq_false_iff_ne.2 (by assumption)) ?_ | intro b2 | refine drA ⟨tab_ok⟩ [] ?_ | refine kpt ?_ | refine br_t (decide_eq_true (by omega)) ?_ | refine br_f (decide_eq_false (by omega)) ?_ | refine wr_i ?_ | refine opiv ⟨tab_ok⟩ (by rfl) (by rfl) (by rfl) (by rfl) (by rfl) (by rfl) ⟨by omega, by omega⟩ ?_ | refine opix (g := cs.1.2.1) (off := 0 + k * 15) [.i .i64 x.ds, .i .i64 x.da, .i .i64 x.un, .i .i64 x.wy, .i .i64 x.ti, .i .i64 x.ju, .i .i64 x.lo, .b x.bl, .b x.br, .i .i64 x.mo, .i .i64 x.ta, .b x.ho, .i .u64 x.sp, .i .u64 x.su, .i .u64 x.sd] (fun w hH => car_at (Hold.ob hH (A := carsO cs.1.1 (some ⟨cs.1.2.1, 0, none⟩) K.G.cars.length cs.1.2.2 K.G.cars true) 1 rfl) hx) ⟨tab_ok⟩ (by rfl) (by rfl) (by show Addr.add ⟨_, 0, none⟩ (k * 15) = _; rw [Go.WideShapes.add_plain]) ?_ | refine callS (f := 128) (.b (idB x)) (fun w => idlT x w hr.1 hr.2.1 hr.2.2) ?_ | refine callS (f := 203) (.i .i64 (fr x.un f)) (farT _ _ (by omega) (by omega)) ?_ | refine back ⟨k + 1, by omega⟩ (wk ?_) ?_ | refine br_dec (fun h => ?_) (fun h => ?_) | refine br_eq (fun h => ?_) (fun h => ?_) | refine br_b (fun h => ?_) (fun h => ?_) | refine fin_s ?_ | refine fin_r ?_ ?_ | refine fin_e ?_ ?_)
    all_goals first | (show K.G.cars.length - (k + 1) < K.G.cars.length - k; omega) | skip
    all_goals (repeat' (first | exact trivial | rfl | ((conv => whnf); refine And.intro ?_ ?_)))
    all_goals (simp only [den, nrL, hx, canB])
    all_goals (simp [*]; done)
  · repeat' ((conv => whnf); first | refine sgo ⟨tab_ok⟩ ?_ | refine br_not ?_ | refine br_t rfl ?_ | refine br_f rfl ?_ | refine br_t (by assumption) ?_ | refine br_f (by assumption) ?_ | refine br_t (decide_eq_true (by assumption)) ?_ | refine br_f (decide_eq_false (by assumption)) ?_ | refine br_t (beq_iff_eq.2 (by assumption)) ?_ | refine br_f (beq_eq_false_iff_ne.2 (by assumption)) ?_ | intro b2 | refine drA ⟨tab_ok⟩ [] ?_ | refine kpt ?_ | refine br_t (decide_eq_true (by omega)) ?_ | refine br_f (decide_eq_false (by omega)) ?_ | refine wr_i ?_ | refine fin_s ?_ | refine fin_r ?_ ?_ | refine fin_e ?_ ?_)
    obtain rfl : k = K.G.cars.length := by omega
    rfl
end
end Go.Proofs.YthmikjjnlahlbaaGreat.Co
namespace Go.Proofs.YthmikjjnlahlbaaGreat.Co
set_option linter.unusedSectionVars false
set_option linter.unusedVariables false
set_option linter.unusedSimpArgs false
open Go.RowKit Go.Proofs.YthmikjjnlahlbaaGreat.Ba Go.Proofs.YthmikjjnlahlbaaGreat.Mem Go.Proofs.YthmikjjnlahlbaaGreat.En Go.Proofs.YthmikjjnlahlbaaGreat.Ty Go.Proofs.YthmikjjnlahlbaaGreat.Mo Go.Proofs.YthmikjjnlahlbaaGreat.St
open Go.Proofs.YthmikjjnlahlbaaGreat.Gr (GrV GO CarsAt WaitsAt carL waitL waitA WaitV pairO newG okT okW waitsO wait_at takeR takeG)
open Go.Proofs.YthmikjjnlahlbaaGreat.Qu (QO askE intE askC btw putE putL dropL atS oM firstA atF)
open Go.Proofs.YthmikjjnlahlbaaGreat.Le (TO hasL ofL setL setE endL zeroL)
open Go.Proofs.YthmikjjnlahlbaaGreat.Fl (leaE mayB mayT freeB freeT)
open Go.Proofs.YthmikjjnlahlbaaGreat.Ri (MsgV msgC trV tripT)
open Go.Proofs.YthmikjjnlahlbaaGreat.Et (carsO car_at)
open Go.Proofs.YthmikjjnlahlbaaGreat.Tm (cl)
open Go.Proofs.YthmikjjnlahlbaaGreat.Tw (addT)
set_option maxRecDepth 100000
attribute [local irreducible] Go.Calls
/-- What a walk of the core asks of what it holds. -/
structure KH (K : KV) : Prop where
  okc : ∀ x ∈ K.G.cars, okT x
  okw : ∀ a ∈ K.G.waits, okW a
  oks : ∀ a ∈ K.G.waits, okS K a
  now : okN K
  c0 : 0 < K.G.cars.length
  c1 : K.G.cars.length ≤ 8
  lw : K.G.waits.length ≤ 10000
  lq : K.Q.length ≤ 1000
  okq : ∀ a ∈ K.Q, 0 ≤ a.fm ∧ a.fm ≤ 63
  ll : K.L.length ≤ 10000
  okl : ∀ l ∈ K.L, inC K l
theorem take_c (G : GrV) (i f : Int) : (takeR G i f).1.c = G.c := by unfold takeR; split; exact one_c _ _ _; rfl
def grL (K : KV) (a : AskV) : LeaseV := ⟨a.se, a.fl, a.fm, a.to, a.ma, nearI K a.fm, 1, cl (cl K.G.now + cl (trV K.G.c)), 0, K.G.now⟩
/-- Whom a grant would take; nobody, if there is none. -/
def grA (K : KV) : Option AskV := if pfB K = true then none else if (atF K.Q (fullL K 8)).isSome = true then (if nearI K (firstA K.Q (fullL K 8)).fm < 0 then none else some (firstA K.Q (fullL K 8))) else none
def grK (K : KV) (a : AskV) : KV := ⟨(takeR K.G (nearI K a.fm) a.fm).1, dropL K.Q a.se, Le.putL K.G.c K.L (grL K a)⟩
def grantK (K : KV) : KV := match grA K with | none => K | some a => grK K a
def grantE (K : KV) : List EvV := match grA K with | none => [] | some a => [⟨a.se, ⟨4, nearI K a.fm, 0, 0⟩⟩]
attribute [local irreducible] pfB fullL atF firstA nearI takeR dropL Le.putL trV cl
theorem fin_k0 {lo n : Nat} {p : Pt} {K : KV} {S S1 : List Nat} {w : World} {fr : List (Nat × SV)} {m : List Row} {obr : List Asr} {st : St} (hst : st = ⟨fr, m, bdO lo p K S1 true :: obr⟩) :
    Fin ⟨Tryz.prog, tab, S, w, n, []⟩ (fun e w' => ∃ (S' : List Nat) (x : Nr), e = .returned (.slice x.2.1 0 x.2.2) ∧ BD lo p K S' w' ∧ (rwO evE x.1 x.2.1 0 x.2.2 [] true).st w' ∧ Upd S w w' ∧ (∀ g ∈ S', g ∈ S ∨ w.heap.size ≤ g) ∧ ∀ g ∈ blkOf x.2.1, w.heap.size ≤ g ∧ g ∉ S') (.v (.slice none 0 0)) st := by
  subst hst
  exact fin fun w' hH => ⟨S1, (0, none, 0), rfl, hH.obj _ (List.mem_cons_self ..), Ek.nil _ _ _, hH.upd, hH.own _ (List.mem_cons_self ..) rfl, by intro g hg; cases hg⟩
section
variable {q lo : Nat} {p : Pt} {K : KV} {S : List Nat} {w : World}
theorem first_mem {ls : List AskV} {zs : List Int} (h : (atF ls zs).isSome = true) : firstA ls zs ∈ ls := by
  cases hk : atF ls zs with
  | none => rw [hk] at h; cases h
  | some k =>
    obtain ⟨hl, _⟩ := Qu.atF_some hk
    have : firstA ls zs = ls[k] := by unfold firstA; rw [hk]; simp [List.getD, hl]
    rw [this]; exact List.getElem_mem hl
set_option maxHeartbeats 4000000 in
theorem grantT (hk : Blk w q 115 (coreA K.G.c p)) (hb : BD lo p K S w) (H : KH K) :
    Calls Tryz.prog 78 #[.pointer (some ⟨q, 0, none⟩)] w fun e w' => ∃ (S' : List Nat) (x : Nr), e = .returned (.slice x.2.1 (grantE K).length x.2.2) ∧ BD lo p (grantK K) S' w' ∧ (rwO evE x.1 x.2.1 (grantE K).length x.2.2 (grantE K) true).st w' ∧ Upd S w w' ∧ (∀ g ∈ S', g ∈ S ∨ w.heap.size ≤ g) ∧ ∀ g ∈ blkOf x.2.1, w.heap.size ≤ g ∧ g ∉ S' := by
  have hrg : ∀ x ∈ K.G.cars, R x.sp ∧ R x.su ∧ R x.sd := fun x hx => (H.okc x hx).2.1
  cases hp : pfB K with
  | true =>
    have e1 : grA K = none := by unfold grA; rw [if_pos hp]
    rw [show grantK K = K by unfold grantK; rw [e1], show grantE K = [] by unfold grantE; rw [e1]]
    refine entH tab_ok (hold_k hk hb) [.p 0 0] Tryz.func78 Tryz.ntmps78 rfl rfl ?_
    repeat' ((conv => whnf); first | refine sgo ⟨tab_ok⟩ ?_ | refine br_not ?_ | refine br_t rfl ?_ | refine br_f rfl ?_ | refine br_t (by assumption) ?_ | refine br_f (by assumption) ?_ | refine br_t (decide_eq_true (by assumption)) ?_ | refine br_f (decide_eq_false (by assumption)) ?_ | refine br_t (beq_iff_eq.2 (by assumption)) ?_ | refine br_f (beq_eq_false_iff_ne.2 (by assumption)) ?_ | intro b | refine drA ⟨tab_ok⟩ [] ?_ | refine kpt ?_ | refine callH (f := 143) (.b true) (fun w hH => by have := peopleT (hH.row 0 _ rfl rfl) (Hold.ob hH (A := bdO lo p K S true) 0 rfl) (by have := H.c1; omega) H.lw H.oks H.now; rw [hp] at this; exact this) ?_ | refine fin_k0 (by rfl) | refine fin_s ?_ | refine fin_r ?_ ?_ | refine fin_e ?_ ?_)
  | false =>
    cases hf : (atF K.Q (fullL K 8)).isSome with
    | false =>
      have e1 : grA K = none := by unfold grA; rw [if_neg (by rw [hp]; decide), if_neg (by rw [hf]; decide)]
      rw [show grantK K = K by unfold grantK; rw [e1], show grantE K = [] by unfold grantE; rw [e1]]
      refine entH tab_ok (hold_k hk hb) [.p 0 0] Tryz.func78 Tryz.ntmps78 rfl rfl ?_
      repeat' ((conv => whnf); first | refine sgo ⟨tab_ok⟩ ?_ | refine br_not ?_ | refine br_t rfl ?_ | refine br_f rfl ?_ | refine br_t (by assumption) ?_ | refine br_f (by assumption) ?_ | refine br_t (decide_eq_true (by assumption)) ?_ | refine br_f (decide_eq_false (by assumption)) ?_ | refine br_t (beq_iff_eq.2 (by assumption)) ?_ | refine br_f (beq_eq_false_iff_ne.2 (by assumption)) ?_ | intro b | refine drA ⟨tab_ok⟩ [] ?_ | refine kpt ?_ | refine And.intro ?_ ?_ | refine callH (f := 143) (.b false) (fun w hH => by have := peopleT (hH.row 0 _ rfl rfl) (Hold.ob hH (A := bdO lo p K S true) 0 rfl) (by have := H.c1; omega) H.lw H.oks H.now; rw [hp] at this; exact this) ?_ | refine callN (f := 145) (ι := NrA w.heap.size) (fun x => .v (.slice x.1.2.1 (fullL K 8).length x.1.2.2)) (fun x => rwO intE x.1.1 x.1.2.1 (fullL K 8).length x.1.2.2 (fullL K 8) true) (fun w1 hH => toN (fullT (hH.row 0 _ rfl rfl) (Hold.ob hH (A := bdO lo p K S true) 0 rfl) H.ll) hH.upd.size) (fun zs => ?_) | refine callH (f := 144) (.t [.a [.i .i64 (firstA K.Q (fullL K 8)).se, .i .i64 (firstA K.Q (fullL K 8)).fl, .i .i64 (firstA K.Q (fullL K 8)).fm, .i .i64 (firstA K.Q (fullL K 8)).to, .i .i64 (firstA K.Q (fullL K 8)).ma], .b false]) (fun w hH => by have := (Hold.ob hH (A := bdO lo p K S true) 0 rfl).first (by have := H.lq; omega) (Hold.ob hH (A := rwO intE zs.1.1 zs.1.2.1 (fullL K 8).length zs.1.2.2 (fullL K 8) true) 1 rfl) rfl (by have := full_len K 8; omega); rw [hf] at this; exact this) ?_ | refine fin_k0 (by rfl) | refine fin_s ?_ | refine fin_r ?_ ?_ | refine fin_e ?_ ?_)
    | true =>
      have hmem := first_mem hf
      generalize ha : firstA K.Q (fullL K 8) = a at *
      have hfm := H.okq a hmem
      by_cases hn : nearI K a.fm < 0
      · have e1 : grA K = none := by unfold grA; rw [if_neg (by rw [hp]; decide), if_pos hf, ha, if_pos hn]
        rw [show grantK K = K by unfold grantK; rw [e1], show grantE K = [] by unfold grantE; rw [e1]]
        refine entH tab_ok (hold_k hk hb) [.p 0 0] Tryz.func78 Tryz.ntmps78 rfl rfl ?_
        repeat' ((conv => whnf); first | refine sgo ⟨tab_ok⟩ ?_ | refine br_not ?_ | refine br_t rfl ?_ | refine br_f rfl ?_ | refine br_t (by assumption) ?_ | refine br_f (by assumption) ?_ | refine br_t (decide_eq_true (by assumption)) ?_ | refine br_f (decide_eq_false (by assumption)) ?_ | refine br_t (beq_iff_eq.2 (by assumption)) ?_ | refine br_f (beq_eq_false_iff_ne.2 (by assumption)) ?_ | intro b | refine drA ⟨tab_ok⟩ [] ?_ | refine kpt ?_ | refine br_t (decide_eq_true (by omega)) ?_ | refine br_f (decide_eq_false (by omega)) ?_ | refine And.intro ?_ ?_ | refine callH (f := 143) (.b false) (fun w hH => by have := peopleT (hH.row 0 _ rfl rfl) (Hold.ob hH (A := bdO lo p K S true) 0 rfl) (by have := H.c1; omega) H.lw H.oks H.now; rw [hp] at this; exact this) ?_ | refine callN (f := 145) (ι := NrA w.heap.size) (fun x => .v (.slice x.1.2.1 (fullL K 8).length x.1.2.2)) (fun x => rwO intE x.1.1 x.1.2.1 (fullL K 8).length x.1.2.2 (fullL K 8) true) (fun w1 hH => toN (fullT (hH.row 0 _ rfl rfl) (Hold.ob hH (A := bdO lo p K S true) 0 rfl) H.ll) hH.upd.size) (fun zs => ?_) | refine callH (f := 144) (.t [.a [.i .i64 a.se, .i .i64 a.fl, .i .i64 a.fm, .i .i64 a.to, .i .i64 a.ma], .b true]) (fun w hH => by have := (Hold.ob hH (A := bdO lo p K S true) 0 rfl).first (by have := H.lq; omega) (Hold.ob hH (A := rwO intE zs.1.1 zs.1.2.1 (fullL K 8).length zs.1.2.2 (fullL K 8) true) 1 rfl) rfl (by have := full_len K 8; omega); rw [hf, ha] at this; exact this) ?_ | refine callH (f := 146) (.i .i64 (nearI K a.fm)) (fun w hH => nearT (hH.row 0 _ rfl rfl) (Hold.ob hH (A := bdO lo p K S true) 0 rfl) (by have := H.c1; omega) H.c0 a.fm hfm H.okc) ?_ | refine fin_k0 (by rfl) | refine fin_s ?_ | refine fin_r ?_ ?_ | refine fin_e ?_ ?_)
      · have e1 : grA K = some a := by unfold grA; rw [if_neg (by rw [hp]; decide), if_pos hf, ha, if_neg hn]
        rw [show grantK K = grK K a by unfold grantK; rw [e1], show grantE K = [⟨a.se, ⟨4, nearI K a.fm, 0, 0⟩⟩] by unfold grantE; rw [e1]]
        unfold grK
        refine entH tab_ok (hold_k hk hb) [.p 0 0] Tryz.func78 Tryz.ntmps78 rfl rfl ?_
        repeat' ((conv => whnf); first | refine sgo ⟨tab_ok⟩ ?_ | refine br_not ?_ | refine br_t rfl ?_ | refine br_f rfl ?_ | refine br_t (by assumption) ?_ | refine br_f (by assumption) ?_ | refine br_t (decide_eq_true (by assumption)) ?_ | refine br_f (decide_eq_false (by assumption)) ?_ | refine br_t (beq_iff_eq.2 (by assumption)) ?_ | refine br_f (beq_eq_false_iff_ne.2 (by assumption)) ?_ | intro b | refine drA ⟨tab_ok⟩ [] ?_ | refine kpt ?_ | refine br_t (decide_eq_true (by omega)) ?_ | refine br_f (decide_eq_false (by omega)) ?_ | refine And.intro ?_ ?_ | refine callH (f := 143) (.b false) (fun w hH => by have := peopleT (hH.row 0 _ rfl rfl) (Hold.ob hH (A := bdO lo p K S true) 0 rfl) (by have := H.c1; omega) H.lw H.oks H.now; rw [hp] at this; exact this) ?_ | refine callN (f := 145) (ι := NrA w.heap.size) (fun x => .v (.slice x.1.2.1 (fullL K 8).length x.1.2.2)) (fun x => rwO intE x.1.1 x.1.2.1 (fullL K 8).length x.1.2.2 (fullL K 8) true) (fun w1 hH => toN (fullT (hH.row 0 _ rfl rfl) (Hold.ob hH (A := bdO lo p K S true) 0 rfl) H.ll) hH.upd.size) (fun zs => ?_) | refine callH (f := 144) (.t [.a [.i .i64 a.se, .i .i64 a.fl, .i .i64 a.fm, .i .i64 a.to, .i .i64 a.ma], .b true]) (fun w hH => by have := (Hold.ob hH (A := bdO lo p K S true) 0 rfl).first (by have := H.lq; omega) (Hold.ob hH (A := rwO intE zs.1.1 zs.1.2.1 (fullL K 8).length zs.1.2.2 (fullL K 8) true) 1 rfl) rfl (by have := full_len K 8; omega); rw [hf, ha] at this; exact this) ?_ | refine callH (f := 146) (.i .i64 (nearI K a.fm)) (fun w hH => nearT (hH.row 0 _ rfl rfl) (Hold.ob hH (A := bdO lo p K S true) 0 rfl) (by have := H.c1; omega) H.c0 a.fm hfm H.okc) ?_ | refine callH (f := 35) (.i .i64 K.G.now) (fun w hH => (Hold.ob hH (A := bdO lo p K S true) 0 rfl).now) ?_ | refine callO (f := 62) (A := bdO lo p K S true) 0 (fun _ => .i .i64 (takeR K.G (nearI K a.fm) a.fm).2) (fun S' => bdO lo p ⟨(takeR K.G (nearI K a.fm) a.fm).1, K.Q, K.L⟩ S' true) (fun w hH hA => BD.grp hA (take_c _ _ _) (fun S1 hq => takeG hq hrg (nearI K a.fm) a.fm)) (fun S1 => ?_) | refine callO (f := 94) (A := bdO lo p ⟨(takeR K.G (nearI K a.fm) a.fm).1, K.Q, K.L⟩ S1 true) 0 (fun _ => .b (atS K.Q a.se).isSome) (fun S' => bdO lo p ⟨(takeR K.G (nearI K a.fm) a.fm).1, dropL K.Q a.se, K.L⟩ S' true) (fun w hH hA => BD.que hA (fun S1 hq => Qu.dropQ hq (by have := H.lq; show K.Q.length ≤ _; omega) a.se)) (fun S2 => ?_) | refine callS (f := 148) (.i .i64 (trV K.G.c)) (tripT K.G.c) ?_ | refine callS (f := 49) (.i .i64 (cl (cl _ + cl _))) (addT _ _) ?_ | refine callO (f := 147) (A := bdO lo p ⟨(takeR K.G (nearI K a.fm) a.fm).1, dropL K.Q a.se, K.L⟩ S2 true) 0 (fun _ => .i .i64 (Le.putE K.G.c K.L (grL K a))) (fun S' => bdO lo p ⟨(takeR K.G (nearI K a.fm) a.fm).1, dropL K.Q a.se, Le.putL K.G.c K.L (grL K a)⟩ S' true) (fun w hH hA => by have := BD.tab hA (fun S1 hq => Le.putT hq H.ll (grL K a)); simp only [take_c] at this; exact this) (fun S3 => ?_) | refine opb1 (e := 48) ⟨tab_ok⟩ [.i .i64 4, .i .i64 (nearI K a.fm), .i .i64 0, .i .i64 0] (by rfl) (by rfl) ?_ | refine callN (f := 77) (ι := NrA w.heap.size) (fun x => .v (.slice x.1.2.1 1 x.1.2.2)) (fun x => rwO evE x.1.1 x.1.2.1 1 x.1.2.2 (evs a.se [⟨4, nearI K a.fm, 0, 0⟩]) true) (fun w1 hH => toN (eventsT (lo := 0) (ms := [⟨4, nearI K a.fm, 0, 0⟩]) a.se w1 (Ek.of_blk (hH.row 2 _ rfl rfl) (Nat.zero_le _) (by decide)) rfl (by decide)) hH.upd.size) (fun es => ?_) | refine fin_ke (k := 1) (by rfl) (by rfl) (by rfl) es.2 | refine fin_s ?_ | refine fin_r ?_ ?_ | refine fin_e ?_ ?_)
end
end Go.Proofs.YthmikjjnlahlbaaGreat.Co
