/-
  What is wanted by the last of these texts, part 19.
  No condition.
-/
import Derived.Test.YtpacieocmogjeaaKGv18
import Derived.Test.YtpacieocmogjeaaKGv14
import Derived.Test.YtpacieocmogjeaaKGv11
import Derived.Test.YtpacieocmogjeaaRows
import Derived.Test.YtpacieocmogjeaaKGv0
import Derived.Deep.Slices
namespace Go.Proofs.Ytpacieocmogjeaa.Gr
set_option linter.unusedVariables false
set_option linter.unusedSimpArgs false
open Go.RowKit Go.Proofs.Ytpacieocmogjeaa.Ba Go.Proofs.Ytpacieocmogjeaa.Mem Go.Proofs.Ytpacieocmogjeaa.Ty Go.Proofs.Ytpacieocmogjeaa.Mo Go.Proofs.Ytpacieocmogjeaa.St
open Go.Proofs.Ytpacieocmogjeaa.Ct (cfgA carA dwV)
def givX (c : CfgV) (x : CarV) : CarV := { x with mo := 0, ta := 0, ho := false, ju := -1, ti := dwV c.dw, wy := if lvB x.un = true then 0 else x.wy }
def fltX (x : CarV) : CarV := { x with br := true, sp := 0, su := 0, sd := 0 }
/-- A call on one car. -/
def one (G : GrV) (i : Int) (f : CarV → CarV × Int) : GrV × Int :=
  if h : 0 ≤ i ∧ i.toNat < G.cars.length then (G.car i.toNat (f (G.cars[i.toNat]'h.2)).1, (f (G.cars[i.toNat]'h.2)).2) else (G, 1)
def hallR (G : GrV) (f wy : Int) : GrV × Int := if hasC G.c f wy = true then (if atP G.waits (isW f wy) = none then ({ G with waits := G.waits ++ [⟨f, wy, -1, G.now⟩] }, 0) else (G, 0)) else (G, 1)
def pressR (G : GrV) (i v : Int) : GrV × Int := if hasF G.c v = true then one G i (fun x => (pressX v x, pressE x)) else (G, 1)
def loadR (G : GrV) (i v : Int) : GrV × Int := one G i (fun x => ({ x with lo := v }, 0))
def curtR (G : GrV) (i : Int) (y : Bool) : GrV × Int := one G i (fun x => ({ x with bl := y }, 0))
def takeR (G : GrV) (i v : Int) : GrV × Int := if hasF G.c v = true then one G i (fun x => if idB x = true then ({ x with mo := 1, ta := v, ho := true }, 0) else (x, 7)) else (G, 1)
def aimR (G : GrV) (i v : Int) (y : Bool) : GrV × Int := if hasF G.c v = true then one G i (fun x => if x.mo = 1 then ({ x with ta := v, ho := y }, 0) else (x, 7)) else (G, 1)
def giveR (G : GrV) (i : Int) : GrV × Int := one G i (fun x => if x.mo = 1 then (givX G.c x, 0) else (x, 7))
def faultR (G : GrV) (i : Int) (y : Bool) : GrV × Int :=
  if y = true then (if 0 ≤ i ∧ i.toNat < G.cars.length then ({ (one G i (fun x => (fltX x, 0))).1 with waits := G.waits.map (disW i) }, 0) else (G, 1)) else one G i (fun x => ({ x with br := false }, 0))
section
variable {lo q : Nat} {G : GrV} {S : List Nat} {w : World} {F : FuncId} {args : Array Value}
theorem sinceG (hg : GO lo q G S w) {r : Int} (h : Calls Try.prog F args w fun e w' => e = .returned (.int .i64 r) ∧ Since w w') :
    Calls Try.prog F args w fun e w' => e = .returned (.int .i64 r) ∧ ∃ S', GO lo q G S' w' ∧ Upd S w w' ∧ ∀ g ∈ S', g ∈ S ∨ w.heap.size ≤ g :=
  h.mono (by rintro e w' ⟨rfl, hs⟩; exact ⟨rfl, S, hg.keep hs, Upd.of_since hs, fun _ h => .inl h⟩)
theorem updG {G' : GrV} {r : Int} (h : Calls Try.prog F args w fun e w' => e = .returned (.int .i64 r) ∧ GO lo q G' S w' ∧ Upd S w w') :
    Calls Try.prog F args w fun e w' => e = .returned (.int .i64 r) ∧ ∃ S', GO lo q G' S' w' ∧ Upd S w w' ∧ ∀ g ∈ S', g ∈ S ∨ w.heap.size ≤ g :=
  h.mono (by rintro e w' ⟨rfl, hs, hu⟩; exact ⟨rfl, S, hs, hu, fun _ h => .inl h⟩)
theorem oneG (hg : GO lo q G S w) (i : Int) (f : CarV → CarV × Int)
    (hL : ∀ A n c1 v2, Blk w q 67 (grpA G (.slice A n c1) v2) → i < 0 → Calls Try.prog F args w fun e w' => e = .returned (.int .i64 1) ∧ Since w w')
    (hH : ∀ A n c1 v2, Blk w q 67 (grpA G (.slice A n c1) v2) → 0 ≤ i → (n : Int) ≤ i → Calls Try.prog F args w fun e w' => e = .returned (.int .i64 1) ∧ Since w w')
    (hI : ∀ k : Nat, i = (k : Int) → ∀ hk : k < G.cars.length, Calls Try.prog F args w fun e w' => e = .returned (.int .i64 (f (G.cars[k]'hk)).2) ∧ GO lo q (G.car k (f (G.cars[k]'hk)).1) S w' ∧ Upd S w w') :
    Calls Try.prog F args w fun e w' => e = .returned (.int .i64 (one G i f).2) ∧ ∃ S', GO lo q (one G i f).1 S' w' ∧ Upd S w w' ∧ ∀ g ∈ S', g ∈ S ∨ w.heap.size ≤ g := by
  by_cases h : 0 ≤ i ∧ i.toNat < G.cars.length
  · have e : one G i f = (G.car i.toNat (f (G.cars[i.toNat]'h.2)).1, (f (G.cars[i.toNat]'h.2)).2) := dif_pos h
    rw [e]
    exact updG (hI i.toNat (by omega) h.2)
  · have e : one G i f = (G, 1) := dif_neg h
    rw [e]
    obtain ⟨h0, A1, c1, A2, c2, _, B, O1, O2⟩ := id hg
    by_cases hi : i < 0
    · exact sinceG hg (hL _ _ _ _ B hi)
    · exact sinceG hg (hH _ _ _ _ B (by omega) (by omega))
theorem grp_blk (hg : GO lo q G S w) : ∃ A1 c1 A2 c2, Blk w q 67 (grpA G (.slice A1 G.cars.length c1) (.slice A2 G.waits.length c2)) := by
  obtain ⟨h0, A1, c1, A2, c2, _, B, O1, O2⟩ := hg
  exact ⟨_, _, _, _, B⟩
theorem pressG (hg : GO lo q G S w) (i v : Int) : Calls Try.prog 36 #[.pointer (some ⟨q, 0, none⟩), .int .i64 i, .int .i64 v] w fun e w' => e = .returned (.int .i64 (pressR G i v).2) ∧ ∃ S', GO lo q (pressR G i v).1 S' w' ∧ Upd S w w' ∧ ∀ g ∈ S', g ∈ S ∨ w.heap.size ≤ g := by
  unfold pressR
  cases hf : hasF G.c v
  · obtain ⟨_, _, _, _, B⟩ := grp_blk hg
    exact sinceG hg (pressF q G _ _ i v w B hf)
  · rw [if_pos rfl]
    exact oneG hg i _ (fun A n c1 v2 B h => pressL q G A n c1 v2 i v w B hf h) (fun A n c1 v2 B h h2 => pressH q G A n c1 v2 i v w B hf h h2) (fun k e hk => by subst e; exact pressI lo q G S k v w hg hk hf)
theorem loadG (hg : GO lo q G S w) (i v : Int) : Calls Try.prog 37 #[.pointer (some ⟨q, 0, none⟩), .int .i64 i, .int .i64 v] w fun e w' => e = .returned (.int .i64 (loadR G i v).2) ∧ ∃ S', GO lo q (loadR G i v).1 S' w' ∧ Upd S w w' ∧ ∀ g ∈ S', g ∈ S ∨ w.heap.size ≤ g :=
  oneG hg i _ (fun A n c1 v2 B h => loadL q G A n c1 v2 i v w B h) (fun A n c1 v2 B h h2 => loadH q G A n c1 v2 i v w B h h2) (fun k e hk => by subst e; exact loadI lo q G S k v w hg hk)
theorem curtG (hg : GO lo q G S w) (i : Int) (v : Bool) : Calls Try.prog 38 #[.pointer (some ⟨q, 0, none⟩), .int .i64 i, .bool v] w fun e w' => e = .returned (.int .i64 (curtR G i v).2) ∧ ∃ S', GO lo q (curtR G i v).1 S' w' ∧ Upd S w w' ∧ ∀ g ∈ S', g ∈ S ∨ w.heap.size ≤ g :=
  oneG hg i _ (fun A n c1 v2 B h => curtainL q G A n c1 v2 i v w B h) (fun A n c1 v2 B h h2 => curtainH q G A n c1 v2 i v w B h h2) (fun k e hk => by subst e; exact curtainI lo q G S k v w hg hk)
theorem takeG (hg : GO lo q G S w) (hR : ∀ x ∈ G.cars, R x.sp ∧ R x.su ∧ R x.sd) (i v : Int) : Calls Try.prog 40 #[.pointer (some ⟨q, 0, none⟩), .int .i64 i, .int .i64 v] w fun e w' => e = .returned (.int .i64 (takeR G i v).2) ∧ ∃ S', GO lo q (takeR G i v).1 S' w' ∧ Upd S w w' ∧ ∀ g ∈ S', g ∈ S ∨ w.heap.size ≤ g := by
  unfold takeR
  cases hf : hasF G.c v
  · obtain ⟨_, _, _, _, B⟩ := grp_blk hg
    exact sinceG hg (takeF q G _ _ i v w B hf)
  · rw [if_pos rfl]
    refine oneG hg i _ (fun A n c1 v2 B h => takeL q G A n c1 v2 i v w B hf h) (fun A n c1 v2 B h h2 => takeH q G A n c1 v2 i v w B hf h h2) (fun k e hk => ?_)
    subst e
    have hr := hR _ (List.getElem_mem hk)
    cases hb : idB (G.cars[k]'hk)
    · simp only [Bool.false_eq_true, if_false]
      exact takeIB lo q G S k v w hg hk hf hr hb
    · simp only [if_true]
      exact takeIA lo q G S k v w hg hk hf hr hb
theorem aimG (hg : GO lo q G S w) (i v : Int) (u : Bool) : Calls Try.prog 41 #[.pointer (some ⟨q, 0, none⟩), .int .i64 i, .int .i64 v, .bool u] w fun e w' => e = .returned (.int .i64 (aimR G i v u).2) ∧ ∃ S', GO lo q (aimR G i v u).1 S' w' ∧ Upd S w w' ∧ ∀ g ∈ S', g ∈ S ∨ w.heap.size ≤ g := by
  unfold aimR
  cases hf : hasF G.c v
  · obtain ⟨_, _, _, _, B⟩ := grp_blk hg
    exact sinceG hg (aimF q G _ _ i v u w B hf)
  · rw [if_pos rfl]
    refine oneG hg i _ (fun A n c1 v2 B h => aimL q G A n c1 v2 i v u w B hf h) (fun A n c1 v2 B h h2 => aimH q G A n c1 v2 i v u w B hf h h2) (fun k e hk => ?_)
    subst e
    by_cases hb : (G.cars[k]'hk).mo = 1
    · rw [if_pos hb]
      exact aimIA lo q G S k v u w hg hk hf hb
    · rw [if_neg hb]
      exact aimIB lo q G S k v u w hg hk hf hb
theorem giveG (hg : GO lo q G S w) (i : Int) : Calls Try.prog 42 #[.pointer (some ⟨q, 0, none⟩), .int .i64 i] w fun e w' => e = .returned (.int .i64 (giveR G i).2) ∧ ∃ S', GO lo q (giveR G i).1 S' w' ∧ Upd S w w' ∧ ∀ g ∈ S', g ∈ S ∨ w.heap.size ≤ g := by
  refine oneG hg i _ (fun A n c1 v2 B h => giveL q G A n c1 v2 i w B h) (fun A n c1 v2 B h h2 => giveH q G A n c1 v2 i w B h h2) (fun k e hk => ?_)
  subst e
  by_cases hb : (G.cars[k]'hk).mo = 1
  · cases hl : lvB (G.cars[k]'hk).un
    · simp only [hb, if_true, givX, hl, Bool.false_eq_true, if_false]
      exact giveIC lo q G S k w hg hk hb hl
    · simp only [hb, if_true, givX, hl]
      exact giveIA lo q G S k w hg hk hb hl
  · simp only [hb, if_false]
    exact giveIB lo q G S k w hg hk hb
theorem faultG (hg : GO lo q G S w) (hl : G.waits.length ≤ 10000) (i : Int) (v : Bool) : Calls Try.prog 39 #[.pointer (some ⟨q, 0, none⟩), .int .i64 i, .bool v] w fun e w' => e = .returned (.int .i64 (faultR G i v).2) ∧ ∃ S', GO lo q (faultR G i v).1 S' w' ∧ Upd S w w' ∧ ∀ g ∈ S', g ∈ S ∨ w.heap.size ≤ g := by
  cases v
  · unfold faultR
    rw [if_neg (by decide)]
    exact oneG hg i _ (fun A n c1 v2 B h => faultL q G A n c1 v2 i false w B h) (fun A n c1 v2 B h h2 => faultH q G A n c1 v2 i false w B h h2) (fun k e hk => by subst e; exact faultIF lo q G S k w hg hk)
  · unfold faultR
    rw [if_pos rfl]
    by_cases h : 0 ≤ i ∧ i.toNat < G.cars.length
    · rw [if_pos h]
      have e : one G i (fun x => (fltX x, 0)) = (G.car i.toNat (fltX (G.cars[i.toNat]'h.2)), 0) := dif_pos h
      rw [e]
      have q1 := faultIT lo q G S i.toNat w hg h.2 hl
      rw [show ((i.toNat : Nat) : Int) = i by omega] at q1
      exact updG q1
    · rw [if_neg h]
      obtain ⟨h0, A1, c1, A2, c2, _, B, O1, O2⟩ := id hg
      by_cases hi : i < 0
      · exact sinceG hg (faultL q G _ _ _ _ i true w B hi)
      · exact sinceG hg (faultH q G _ _ _ _ i true w B (by omega) (by omega))
theorem hallG (hg : GO lo q G S w) (hl : G.waits.length ≤ 10000) (f wy : Int) : Calls Try.prog 24 #[.pointer (some ⟨q, 0, none⟩), .int .i64 f, .int .i64 wy] w fun e w' => e = .returned (.int .i64 (hallR G f wy).2) ∧ ∃ S', GO lo q (hallR G f wy).1 S' w' ∧ Upd S w w' ∧ ∀ g ∈ S', g ∈ S ∨ w.heap.size ≤ g := by
  unfold hallR
  cases hc : hasC G.c f wy
  · exact updG (hallA lo q G S f wy w hg hl hc)
  · rw [if_pos rfl]
    cases hf : atP G.waits (isW f wy) with
    | none => rw [if_pos rfl]; exact hallC lo q G S f wy w hg hl hc hf
    | some k => rw [if_neg (by simp)]; exact updG (hallB lo q G S f wy k w hg hl hc hf)
end
end Go.Proofs.Ytpacieocmogjeaa.Gr
namespace Go.Proofs.Ytpacieocmogjeaa.Gr
set_option linter.unusedVariables false
set_option linter.unusedSimpArgs false
open Go.RowKit Go.Proofs.Ytpacieocmogjeaa.Ba Go.Proofs.Ytpacieocmogjeaa.Mem Go.Proofs.Ytpacieocmogjeaa.Ty Go.Proofs.Ytpacieocmogjeaa.Mo Go.Proofs.Ytpacieocmogjeaa.St Go.Proofs.Ytpacieocmogjeaa.Pl Go.Proofs.Ytpacieocmogjeaa.Sc
open Go.Proofs.Ytpacieocmogjeaa.Ct (cfgA carA dwV bdX tkV tkF tkW tkS tkX goX goS goF goW svX ldX stX nW nO mayB mayB_iff tk_may tk_ti tk_R tk_shut tk_same may_ta may_bd dw_in)
open Go.Proofs.Ytpacieocmogjeaa.Et (bl)
/-- What holds of a car behind T ticks at most. -/
def SafeX (c : CfgV) (T : Nat) (x : CarV) : Prop := mayB c x = true ∧ (R x.sp ∧ R x.su ∧ R x.sd) ∧ -(T : Int) ≤ x.ti ∧ x.ti ≤ 2000
section
variable {c : CfgV} {T : Nat} {x : CarV}
theorem SafeX.more {U : Nat} (h : SafeX c T x) (hU : T ≤ U) : SafeX c U x := ⟨h.1, h.2.1, by have := h.2.2.1; omega, h.2.2.2⟩
theorem SafeX.ok (h : SafeX c T x) (hT : T ≤ 1000000) : okT x := by
  obtain ⟨h1, h2, h3, h4⟩ := h
  have hb := may_bd h1
  have hw := ((goodB_iff c x).1 ((mayB_iff c x).1 h1).1).2.2.2.1
  exact ⟨hb.1, h2, fun hm => may_ta h1 hm, by omega, hb.2, by omega⟩
theorem SafeX.load (h : SafeX c T x) (v : Int) : SafeX c T { x with lo := v } := h
theorem SafeX.curt (h : SafeX c T x) (v : Bool) : SafeX c T { x with bl := v } := h
theorem SafeX.br (h : SafeX c T x) (v : Bool) : SafeX c T { x with br := v } := h
theorem SafeX.stops (h : SafeX c T x) {p u d : Int} (hr : R p ∧ R u ∧ R d) : SafeX c T { x with sp := p, su := u, sd := d } := ⟨h.1, hr, h.2.2⟩
theorem SafeX.press (h : SafeX c T x) (v : Int) : SafeX c T (pressX v x) := by
  unfold pressX
  split
  · exact h
  · exact h.stops (p := bits .or .u64 x.sp (bit v)) ⟨or_R h.2.1.1 (bit_R v), h.2.1.2⟩
theorem SafeX.flt (h : SafeX c T x) : SafeX c T (fltX x) := (h.br true).stops ⟨R.zero, R.zero, R.zero⟩
theorem SafeX.take (h : SafeX c T x) {v : Int} (hf : hasF c v = true) (hi : idB x = true) : SafeX c T { x with mo := 1, ta := v, ho := true } := by
  obtain ⟨h1, h2⟩ := h
  refine ⟨?_, h2⟩
  rw [mayB_iff] at h1 ⊢
  unfold hasF at hf; unfold idB at hi
  have hf := of_decide_eq_true hf
  have hi := of_decide_eq_true hi
  exact ⟨h1.1, .inr rfl, .inl hi.2.2.1, .inr hf⟩
theorem SafeX.aim (h : SafeX c T x) {v : Int} {y : Bool} (hf : hasF c v = true) : SafeX c T { x with ta := v, ho := y } := by
  obtain ⟨h1, h2⟩ := h
  refine ⟨?_, h2⟩
  rw [mayB_iff] at h1 ⊢
  unfold hasF at hf
  have hf := of_decide_eq_true hf
  exact ⟨h1.1, h1.2.1, h1.2.2.1, .inr hf⟩
theorem SafeX.giv (h : SafeX c T x) : SafeX c T (givX c x) := by
  obtain ⟨h1, h2, h3, h4⟩ := h
  have hd := dw_in c.dw
  refine ⟨?_, h2, by show _ ≤ dwV c.dw; omega, by show dwV c.dw ≤ _; omega⟩
  rw [mayB_iff] at h1 ⊢
  obtain ⟨g, g2, g3, g4⟩ := h1
  rw [goodB_iff] at g
  have key : ∀ wy : Int, (wy = 0 ∨ wy = 1 ∨ wy = 2) → (lvB x.un = true ∨ ¬ wy = 0) → (goodB c { x with mo := 0, ta := 0, ho := false, ju := -1, ti := dwV c.dw, wy := wy } = true ∧ ((0 : Int) = 0 ∨ (0 : Int) = 1) ∧ (lvB x.un = true ∨ ¬ wy = 0) ∧ (¬ (0 : Int) = 1 ∨ (0 ≤ (0 : Int) ∧ (0 : Int) < fl c.fl))) := fun wy h5 h6 =>
    ⟨(goodB_iff c _).2 ⟨g.1, g.2.1, g.2.2.1, h5, g.2.2.2.2⟩, .inl rfl, h6, .inl (by decide)⟩
  cases hl : lvB x.un
  · have e : givX c x = { x with mo := 0, ta := 0, ho := false, ju := -1, ti := dwV c.dw } := by unfold givX; rw [hl]; rfl
    rw [e]
    exact key x.wy g.2.2.2.1 g3
  · have e : givX c x = { x with mo := 0, ta := 0, ho := false, ju := -1, ti := dwV c.dw, wy := 0 } := by unfold givX; rw [hl]; rfl
    rw [e]
    exact key 0 (.inl rfl) (.inl hl)
theorem SafeX.hall (h : SafeX c T x) (a : WaitV) : SafeX c T (hallX a x) := by
  refine h.stops (p := x.sp) ⟨h.2.1.1, ?_, ?_⟩
  · unfold haU; split
    · exact or_R h.2.1.2.1 (bit_R _)
    · exact h.2.1.2.1
  · unfold haD; split
    · exact or_R h.2.1.2.2 (bit_R _)
    · exact h.2.1.2.2
theorem SafeX.tick (h : SafeX c T x) : SafeX c (T + 1) (tkV c x) := by
  obtain ⟨h1, h2, h3, h4⟩ := h
  have q := tk_R c x h2.1 h2.2.1 h2.2.2
  have t := tk_ti c x T h3 (by omega) h4
  exact ⟨tk_may c x h1, q, by have := t.1; push_cast; exact this, t.2⟩
theorem SafeX.zero : SafeX c T zeroX := by
  refine ⟨?_, ⟨R.zero, R.zero, R.zero⟩, by show _ ≤ (0 : Int); omega, by show (0 : Int) ≤ _; omega⟩
  rw [mayB_iff, goodB_iff]
  have := fl_lo c.fl
  exact ⟨⟨by simp [zeroX, Do.gd], by decide, by show (0 : Int) ≤ _; omega, .inl rfl, .inl rfl⟩, .inl rfl, .inl (by decide), .inl (by decide)⟩
end
section
variable {G : GrV} {i : Int} {f : CarV → CarV × Int}
theorem one_same : (one G i f).1.c = G.c ∧ (one G i f).1.waits = G.waits ∧ (one G i f).1.now = G.now ∧ (one G i f).1.cars.length = G.cars.length := by
  unfold one; split
  · exact ⟨rfl, rfl, rfl, by simp [GrV.car]⟩
  · exact ⟨rfl, rfl, rfl, rfl⟩
theorem one_cars {P : CarV → Prop} (h : ∀ x ∈ G.cars, P x) (hf : ∀ x ∈ G.cars, P x → P (f x).1) : ∀ x ∈ (one G i f).1.cars, P x := by
  unfold one; split
  · rename_i hk
    intro x hx
    rcases List.mem_or_eq_of_mem_set hx with h1 | h1
    · exact h x h1
    · rw [h1]; exact hf _ (List.getElem_mem hk.2) (h _ (List.getElem_mem hk.2))
  · exact h
/-- What is at a place behind a call on one car. -/
theorem one_at {k : Nat} {x : CarV} (h : G.cars[k]? = some x) : (one G i f).1.cars[k]? = some (if (k : Int) = i then (f x).1 else x) := by
  obtain ⟨hk, rfl⟩ := List.getElem?_eq_some_iff.1 h
  unfold one
  by_cases hi : (k : Int) = i
  · rw [if_pos hi, dif_pos (by omega)]
    have e : i.toNat = k := by omega
    simp only [GrV.car]
    rw [List.getElem?_set]
    simp [e, hk]
  · rw [if_neg hi]
    split
    · simp only [GrV.car]
      rw [List.getElem?_set, if_neg (by omega)]
      exact h
    · exact h
end
/-- A call by its kind. -/
def doR (G : GrV) (k a b : Int) (y : Bool) : GrV × Int :=
  if k = 1 then hallR G a b else if k = 2 then pressR G a b else if k = 3 then loadR G a b else if k = 4 then curtR G a y else if k = 5 then faultR G a y else if k = 6 then takeR G a b else if k = 7 then aimR G a b y else if k = 8 then giveR G a else (G, 0)
/-- What holds of the group at any time. -/
def GI (c : CfgV) (n T : Nat) (G : GrV) : Prop := G.c = c ∧ G.cars.length = ncars c ∧ (∀ x ∈ G.cars, SafeX c T x) ∧ (∀ a ∈ G.waits, okW a) ∧ G.waits.length ≤ n
theorem GI.zero (c : CfgV) : GI c 0 0 (newG c) := by
  refine ⟨rfl, by simp [newG], fun x hx => ?_, fun a ha => by simp [newG] at ha, Nat.le_refl _⟩
  have := List.eq_of_mem_replicate (show x ∈ List.replicate (ncars c) zeroX from hx)
  rw [this]; exact SafeX.zero
theorem hasC_ok {c : CfgV} {f wy : Int} (h : hasC c f wy = true) : (0 ≤ f ∧ f ≤ 63) ∧ 1 ≤ wy ∧ wy ≤ 2 := by
  have key : ∀ v, hasF c v = true → 0 ≤ v ∧ v ≤ 63 := fun v h => by
    have := of_decide_eq_true (show decide _ = true from h)
    have := fl_hi c.fl
    omega
  unfold hasC at h
  split at h
  · simp only [Bool.and_eq_true] at h; have := key _ h.1; omega
  · split at h
    · simp only [Bool.and_eq_true] at h; have := key _ h.1; omega
    · cases h
section
variable {c : CfgV} {n T : Nat} {G : GrV}
theorem GI.more {m : Nat} (h : GI c n T G) (hm : n ≤ m) : GI c m T G := ⟨h.1, h.2.1, h.2.2.1, h.2.2.2.1, Nat.le_trans h.2.2.2.2 hm⟩
theorem GI.one (h : GI c n T G) (i : Int) (f : CarV → CarV × Int) (hf : ∀ x ∈ G.cars, SafeX c T x → SafeX c T (f x).1) : GI c n T (one G i f).1 := by
  obtain ⟨h1, h2, h3, h4, h5⟩ := h
  have e := one_same (G := G) (i := i) (f := f)
  exact ⟨e.1.trans h1, e.2.2.2.trans h2, one_cars h3 hf, by rw [e.2.1]; exact h4, by rw [e.2.1]; exact h5⟩
theorem GI.do_ (h : GI c n T G) (k a b : Int) (y : Bool) : GI c (n + 1) T (doR G k a b y).1 := by
  have hn := h.more (Nat.le_succ n)
  unfold doR
  split
  · unfold hallR
    split
    · rename_i hc
      split
      · obtain ⟨h1, h2, h3, h4, h5⟩ := h
        refine ⟨h1, h2, h3, fun z hz => ?_, by simp; omega⟩
        rcases List.mem_append.1 hz with hz | hz
        · exact h4 z hz
        · rw [List.mem_singleton.1 hz]; exact hasC_ok hc
      · exact hn
    · exact hn
  split
  · unfold pressR; split
    · exact hn.one _ _ fun x _ hx => hx.press b
    · exact hn
  split
  · exact hn.one _ _ fun x _ hx => hx.load b
  split
  · exact hn.one _ _ fun x _ hx => hx.curt y
  split
  · unfold faultR
    split
    · split
      · have q := hn.one a (fun x => (fltX x, 0)) fun x _ hx => hx.flt
        refine ⟨q.1, q.2.1, q.2.2.1, fun z hz => ?_, by simpa using hn.2.2.2.2⟩
        obtain ⟨u, hu, rfl⟩ := List.mem_map.1 hz
        have := hn.2.2.2.1 u hu
        unfold disW; split <;> exact this
      · exact hn
    · exact hn.one _ _ fun x _ hx => hx.br false
  split
  · unfold takeR; split
    · rename_i hf
      refine hn.one _ _ fun x _ hx => ?_
      by_cases hi : idB x = true
      · rw [if_pos hi]; exact hx.take (h.1 ▸ hf) hi
      · rw [if_neg hi]; exact hx
    · exact hn
  split
  · unfold aimR; split
    · rename_i hf
      refine hn.one _ _ fun x _ hx => ?_
      by_cases hi : x.mo = 1
      · rw [if_pos hi]; exact hx.aim (h.1 ▸ hf)
      · rw [if_neg hi]; exact hx
    · exact hn
  split
  · unfold giveR
    refine hn.one _ _ fun x _ hx => ?_
    by_cases hi : x.mo = 1
    · rw [if_pos hi, h.1]; exact hx.giv
    · rw [if_neg hi]; exact hx
  · exact hn
end
/-- Two cars that differ in hall calls alone. -/
def Near (x y : CarV) : Prop := y = { x with su := y.su, sd := y.sd }
theorem Near.refl (x : CarV) : Near x x := rfl
theorem Near.hall {x y : CarV} (h : Near x y) (a : WaitV) : Near x (hallX a y) := by unfold Near at h ⊢; rw [h]; rfl
/-- The cars' places behind the calls' assigning: near, and all rules for hall calls kept. -/
theorem giveC_at {cs : List CarV} {a : WaitV} {b : Int} {k : Nat} {x : CarV} (h : cs[k]? = some x) : (giveC cs a b)[k]? = some (if (k : Int) = b then hallX a x else x) := by
  unfold giveC
  split
  · rw [List.getElem?_modify, h]
    by_cases e : (k : Int) = b
    · rw [if_pos e]
      show some (if b.toNat = k then hallX a x else x) = _
      rw [if_pos (by omega)]
    · rw [if_neg e]
      show some (if b.toNat = k then hallX a x else x) = _
      rw [if_neg (by omega)]
  · rw [if_neg (by omega)]; exact h
theorem asgS_at {c : CfgV} {p : List WaitV × List CarV} {i k : Nat} {x : CarV} (h : p.2[k]? = some x) : ∃ y, (asgStep c p i).2[k]? = some y ∧ (y = x ∨ ∃ a, y = hallX a x) := by
  unfold asgStep
  split
  · exact ⟨x, h, .inl rfl⟩
  · split
    · refine ⟨_, giveC_at h, ?_⟩
      split
      · exact .inr ⟨_, rfl⟩
      · exact .inl rfl
    · exact ⟨x, h, .inl rfl⟩
theorem asg_at {c : CfgV} {ws : List WaitV} {cs : List CarV} {k : Nat} {x : CarV} (h : cs[k]? = some x) : ∀ i, ∃ y, (asgN c ws cs i).2[k]? = some y ∧ Near x y
  | 0 => ⟨x, h, Near.refl x⟩
  | i + 1 => by
    obtain ⟨y, h1, h2⟩ := asg_at h i
    obtain ⟨z, h3, h4⟩ := asgS_at (c := c) (i := i) h1
    rcases h4 with rfl | ⟨a, rfl⟩
    · exact ⟨_, h3, h2⟩
    · exact ⟨_, h3, h2.hall a⟩
theorem asg_safe {c : CfgV} {T : Nat} {ws : List WaitV} {cs : List CarV} (h : ∀ x ∈ cs, SafeX c T x) : ∀ i, ∀ x ∈ (asgN c ws cs i).2, SafeX c T x
  | 0 => h
  | i + 1 => by
    have ih := asg_safe (c := c) (ws := ws) h i
    show ∀ x ∈ (asgStep c _ i).2, _
    unfold asgStep
    split
    · exact ih
    · split
      · intro x hx
        unfold giveC at hx
        split at hx
        · obtain ⟨j, hj, rfl⟩ := List.mem_iff_getElem.1 hx
          rw [List.getElem_modify]
          split
          · exact (ih _ (List.getElem_mem _)).hall _
          · exact ih _ (List.getElem_mem _)
        · exact ih x hx
      · exact ih
/-- A car's place behind its tick. -/
theorem tk_on (c : CfgV) (cs : List CarV) (ws : List WaitV) {k : Nat} {x : CarV} (h : cs[k]? = some x) : ∀ i, (tkN c cs ws i).1[k]? = some (if k < i then tkV c x else x)
  | 0 => by rw [if_neg (by omega)]; exact h
  | i + 1 => by
    have ih := tk_on c cs ws h i
    by_cases e : i = k
    · subst e
      rw [if_neg (by omega)] at ih
      rw [if_pos (by omega)]
      show (tkStep c _ i).1[i]? = _
      have hi : i < (tkN c cs ws i).1.length := (List.getElem?_eq_some_iff.1 ih).1
      unfold tkStep
      rw [ih]
      simp only []
      split <;> simp [List.getElem?_set, hi]
    · rw [show (tkN c cs ws (i + 1)).1[k]? = (tkN c cs ws i).1[k]? from tkS_at c _ i k e, ih]
      by_cases h2 : k < i
      · rw [if_pos h2, if_pos (by omega)]
      · rw [if_neg h2, if_neg (by omega)]
theorem tkN_sub (c : CfgV) (cs : List CarV) (ws : List WaitV) : ∀ i, ((tkN c cs ws i).2.1).Sublist ws
  | 0 => List.Sublist.refl _
  | i + 1 => by
    refine List.Sublist.trans ?_ (tkN_sub c cs ws i)
    show ((tkStep c _ i).2.1).Sublist _
    unfold tkStep
    split
    · exact List.Sublist.refl _
    · split
      · exact List.Sublist.refl _
      · exact List.eraseIdx_sublist _ _
/-- A car behind a tick of its group. -/
theorem tick_at {G : GrV} {k : Nat} {x : CarV} (h : G.cars[k]? = some x) : ∃ y, (asgN G.c G.waits G.cars G.waits.length).2[k]? = some y ∧ Near x y ∧ (tickG G).cars[k]? = some (tkV G.c y) := by
  obtain ⟨y, h1, h2⟩ := asg_at (c := G.c) (ws := G.waits) h G.waits.length
  refine ⟨y, h1, h2, ?_⟩
  have q := tk_on G.c _ (asgN G.c G.waits G.cars G.waits.length).1 h1 G.cars.length
  rw [if_pos (List.getElem?_eq_some_iff.1 h).1] at q
  exact q
theorem tick_len (G : GrV) : (tickG G).cars.length = G.cars.length := (tk_len _ _ _ _).trans (asg_len _ _ _ _).2
theorem GI.tick {c : CfgV} {n T : Nat} {G : GrV} (h : GI c n T G) : GI c n (T + 1) (tickG G) := by
  obtain ⟨h1, h2, h3, h4, h5⟩ := h
  have ha := asg_safe (c := G.c) (ws := G.waits) (h1 ▸ h3) G.waits.length
  have hw := tkN_sub G.c (asgN G.c G.waits G.cars G.waits.length).2 (asgN G.c G.waits G.cars G.waits.length).1 G.cars.length
  have hl := (asg_len G.c G.waits G.cars G.waits.length).1
  refine ⟨h1, (tick_len G).trans h2, fun z hz => ?_, fun a haw => ?_, Nat.le_trans hw.length_le (by omega)⟩
  · obtain ⟨k, hk, rfl⟩ := List.mem_iff_getElem.1 hz
    have hk2 : k < G.cars.length := by rw [← tick_len G]; exact hk
    obtain ⟨y, g1, _, g3⟩ := tick_at (List.getElem?_eq_getElem hk2)
    have e : (tickG G).cars[k] = tkV G.c y := Option.some.inj ((List.getElem?_eq_getElem hk).symm.trans g3)
    rw [e, ← h1]
    have := (ha y (List.mem_of_getElem? g1)).tick
    rw [h1] at this ⊢; exact this
  · have key : ∀ i, ∀ b ∈ (asgN G.c G.waits G.cars i).1, okW b := by
      intro i
      induction i with
      | zero => exact h4
      | succ i ih =>
        show ∀ b ∈ (asgStep G.c _ i).1, okW b
        unfold asgStep
        split
        · exact ih
        · rename_i z hz
          split
          · intro b hb
            rcases List.mem_or_eq_of_mem_set hb with h | h
            · exact ih b h
            · rw [h]; exact ih z (List.mem_of_getElem? hz)
          · exact ih
    exact key _ a (hw.subset haw)
end Go.Proofs.Ytpacieocmogjeaa.Gr
namespace Go.Proofs.Ytpacieocmogjeaa.Go16
set_option linter.unusedVariables false
set_option linter.unusedSimpArgs false
open Go.RowKit Go.Proofs.Ytpacieocmogjeaa.Ba Go.Proofs.Ytpacieocmogjeaa.Mem
/-- A call's fields. -/
structure OpV where
  k : Int
  a : Int
  b : Int
  y : Bool
def opC (x : OpV) : List Value := [.int .i64 x.k, .int .i64 x.a, .int .i64 x.b, .bool x.y]
instance : Inhabited OpV := ⟨⟨0, 0, 0, false⟩⟩
section
variable {H : Type} {enc : TypeId × Value → H} {w : World} {base : Nat} {spare : Nat → Bool} {held : Bool}
set_option maxRecDepth 100000 in
theorem op_of {fuel : Nat} {cs : List Value} {x : DataW H × List MemPlace} (h : DataW.trod enc Try.prog w base spare held fuel 46 cs = some x) : ∃ l : OpV, cs = opC l := by
  have e1 : Try.prog.cellsOf 3 = 1 := by kernel_rfl
  have eb : Try.prog.cellsOf 4 = 1 := by kernel_rfl
  obtain ⟨xs, n, rfl, _, hl, hx, hf⟩ := DataW.trod_struct Try.underlying46 h
  have hl' : cs.length = 4 := hl.trans (by kernel_rfl)
  match cs, hl' with
  | [a0, a1, a2, a3], _ =>
    have hx' : xs.length = 4 := hx
    match xs, hx' with
    | [y0, y1, y2, y3], _ =>
      have g0 := hf 0 _ rfl
      have g1 := hf 1 _ rfl
      have g2 := hf 2 _ rfl
      have g3 := hf 3 _ rfl
      simp [e1, eb] at g0 g1 g2 g3
      obtain ⟨v0, q0, _⟩ := DataW.trod_int Try.underlying3 g0
      obtain ⟨v1, q1, _⟩ := DataW.trod_int Try.underlying3 g1
      obtain ⟨v2, q2, _⟩ := DataW.trod_int Try.underlying3 g2
      obtain ⟨v3, q3, _⟩ := DataW.trod_bool Try.underlying4 g3
      simp at q0 q1 q2 q3
      exact ⟨⟨v0, v1, v2, v3⟩, by simp [opC, *]⟩
/-- The slice (address a, n elements) reads as these calls. -/
def OV (w : World) (a : Option Addr) (n : Nat) (ls : Nat → OpV) : Prop :=
  n = 0 ∨ ∃ b off, a = some ⟨b, off, none⟩ ∧ b < w.heap.size ∧ ∀ i, i < n → ∀ j v, (opC (ls i))[j]? = some v → w.cell? ⟨b, off + i * 4 + j, none⟩ = some v
theorem OV.keep {w w' : World} {a : Option Addr} {n : Nat} {ls : Nat → OpV} (k : Since w w') (h : OV w a n ls) : OV w' a n ls := by
  rcases h with h | ⟨b, off, e, hb, hc⟩
  · exact .inl h
  · exact .inr ⟨b, off, e, Nat.lt_of_lt_of_le hb k.size, fun i hi j v hj => keep_cell k (hc i hi j v hj)⟩
theorem OV.at_ {w : World} {a : Option Addr} {n : Nat} {ls : Nat → OpV} (h : OV w a n ls) {k : Nat} (hk : k < n) : ∃ b off, a = some ⟨b, off, none⟩ ∧ b < w.heap.size ∧ ∀ i, i < n → ∀ j v, (opC (ls i))[j]? = some v → w.cell? ⟨b, off + i * 4 + j, none⟩ = some v := by
  rcases h with h | h
  · omega
  · exact h
theorem OV.open_ {fuel : Nat} {a : Option Addr} {len cap : Nat} {x : DataW H × List MemPlace} (h : DataW.trod enc Try.prog w base spare held fuel 42 [.slice a len cap] = some x) : ∃ ls, OV w a len ls ∧ len ≤ 9223372036854775807 := by
  have ce : Try.prog.cellsOf 46 = 4 := by kernel_rfl
  rcases Go.Deep.open_slice Try.underlying42 h with ⟨hcs, _⟩ | ⟨a', len', cap', m, n, D, Pl, hcs, hb, hlc, hcm, hm, _, hx⟩
  · simp at hcs
    obtain ⟨rfl, rfl, rfl⟩ := hcs
    exact ⟨default, .inl rfl, by omega⟩
  · simp at hcs
    obtain ⟨rfl, rfl, rfl⟩ := hcs
    have hlm : len ≤ m := by rw [hm]; split <;> omega
    have each : ∀ i, i < len → ∃ l : OpV, ∀ j v, (opC l)[j]? = some v → w.cell? ((a'.add (i * 4)).add j) = some v := by
      intro i hi
      obtain ⟨cs', h1, h2⟩ := hx i (by omega)
      rw [ce] at h1
      obtain ⟨_, hlen, hcell⟩ := World.cells?_some h1
      obtain ⟨l, rfl⟩ := op_of h2
      refine ⟨l, fun j v hj => ?_⟩
      have hj3 : j < 4 := by
        obtain ⟨hlt, _⟩ := List.getElem?_eq_some_iff.1 hj
        simpa [opC] using hlt
      rw [hcell j hj3, hj]
    obtain ⟨ls, hls⟩ := Go.Deep.choose_lt each
    refine ⟨ls, ?_, by unfold maxLen at hcm; omega⟩
    rcases Nat.eq_zero_or_pos len with h0 | h0
    · exact .inl h0
    · obtain ⟨b, off, idx⟩ := a'
      have c0 := hls 0 h0 0 _ rfl
      cases idx with
      | none =>
        rw [Go.WideShapes.add_plain, Go.WideShapes.add_plain] at c0
        refine .inr ⟨b, off, rfl, World.block_lt_of_cell? _ _ c0, fun i hi j v hj => ?_⟩
        have := hls i hi j v hj
        rw [Go.WideShapes.add_plain, Go.WideShapes.add_plain] at this
        exact this
      | some q =>
        exfalso
        simp [World.cell?, Addr.add] at c0
        split at c0 <;> simp at c0
end
end Go.Proofs.Ytpacieocmogjeaa.Go16
