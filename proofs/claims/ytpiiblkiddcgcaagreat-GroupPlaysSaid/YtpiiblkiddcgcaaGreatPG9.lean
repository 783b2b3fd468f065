/-
  Wanted: part 9.
  No condition.
-/
import Derived.Test.YtpiiblkiddcgcaaGreatPG8
set_option linter.all false
namespace Go.Proofs.YtpiiblkiddcgcaaGreat
namespace Rg
open Go.RowKit Ba Mem En Mo Go.Proofs.YtpiiblkiddcgcaaGreat.Ty Go.Proofs.YtpiiblkiddcgcaaGreat.St Gr
open Ct (cfgA carA mayB_iff)
open Et (carsO car_at)
open Go16 (OpV opC)
set_option maxRecDepth 100000
attribute [local irreducible] Go.Calls
def IV (c : CfgV) (n T : Nat) (G : GrV) : Prop := GI c n T G ∧ WQ G.waits ∧ 0 ≤ G.now ∧ G.now ≤ (T : Int)
theorem IV.new (c : CfgV) : IV c 0 0 (newG c) := ⟨GI.zero c, ⟨(by intro a ha; cases ha), List.nodup_nil⟩, Int.le_refl _, Int.le_refl _⟩
theorem one_now {G : GrV} {i : Int} {f : CarV → CarV × Int} : (one G i f).1.now = G.now := (one_same (G := G) (i := i) (f := f)).2.2.1
theorem do_now (G : GrV) (k a b : Int) (y : Bool) : (doR G k a b y).1.now = G.now := by
 unfold doR
 split
 ·unfold Gr.hallR; (repeat' split) <;> rfl
 split
 ·unfold Gr.pressR; split; exact one_now; rfl
 split
 ·exact one_now
 split
 ·exact one_now
 split
 ·unfold faultR; split
  ·split
   ·exact one_now
   ·rfl
  ·exact one_now
 split
 ·unfold Gr.takeR; split; exact one_now; rfl
 split
 ·unfold Gr.aimR; split; exact one_now; rfl
 split
 ·exact one_now
 ·rfl
section
variable {c : CfgV} {n T : Nat} {G : GrV}
theorem IV.do_ (h : IV c n T G) (k a b : Int) (y : Bool) : IV c (n + 1) T (doR G k a b y).1 := ⟨h.1.do_ k a b y, h.2.1.do_ k a b y, by rw [do_now]; exact h.2.2⟩
theorem IV.tick (h : IV c n T G) (hT : T ≤ 1000000) : IV c n (T + 1) (tickG G) := ⟨h.1.tick, tick_WQ h.2.1, by
 have e : (tickG G).now = nowV G.now := by unfold tickG nowV; rfl
 rw [e, now_next h.2.2.1 (by have := h.2.2.2; omega)]
 have := h.2.2; push_cast; omega⟩
theorem IV.more {m U : Nat} (h : IV c n T G) (hm : n ≤ m) (hU : T ≤ U) : IV c m U G := ⟨⟨h.1.1, h.1.2.1, fun x hx => (h.1.2.2.1 x hx).more hU, h.1.2.2.2.1, Nat.le_trans h.1.2.2.2.2 hm⟩, h.2.1, h.2.2.1, by have := h.2.2.2; omega⟩
theorem IV.ok (h : IV c n T G) (hT : T ≤ 1000000) : ∀ x ∈ G.cars, okT x := fun x hx => (h.1.2.2.1 x hx).ok hT
theorem IV.rs (h : IV c n T G) : ∀ x ∈ G.cars, R x.sp ∧ R x.su ∧ R x.sd := fun x hx => (h.1.2.2.1 x hx).2.1
theorem IV.mo (h : IV c n T G) : ∀ x ∈ G.cars, x.mo = 0 ∨ x.mo = 1 := fun x hx => ((mayB_iff c x).1 (h.1.2.2.1 x hx).1).2.1
theorem IV.len (h : IV c n T G) : 0 < G.cars.length ∧ G.cars.length ≤ 8 ∧ G.waits.length ≤ n := by
 have := ncars_bd c; have := h.1.2.1; have := h.1.2.2.2.2; omega
end
section
variable {lo q lw n T : Nat} {c : CfgV} {G : GrV} {w : World}
theorem tickON {S : List Nat} (hA : GO lo q G S w) (h : IV c n T G) (hn : n ≤ 10000) (hT : T ≤ 1000000) (hlw : lw ≤ w.heap.size) : Calls Tryz.prog 8 #[.pointer (some ⟨q, 0, none⟩)] w fun e w' => ∃ x : Option Addr × Nat, e = .returned (.slice x.1 (tickP G).2.2.length x.2) ∧ (gG lo q (tickG G) S true).st w' ∧ (waitsO lw x.1 (tickP G).2.2.length x.2 (tickP G).2.2 true).st w' ∧ Upd (gG lo q G S true).F w w' ∧ (∀ g ∈ (gG lo q (tickG G) S true).F, g ∈ (gG lo q G S true).F ∨ w.heap.size ≤ g) ∧ ∀ g ∈ (waitsO lw x.1 (tickP G).2.2.length x.2 (tickP G).2.2 true).F, w.heap.size ≤ g ∧ g ∉ (gG lo q (tickG G) S true).F := by
 have hl := h.len
 refine (tickGT hA (by omega) (by omega) (h.ok hT) h.1.2.2.2.1).mono ?_
 rintro e w' ⟨A', c', rfl, h1, h2, h3⟩
 refine ⟨(A', c'), rfl, h2, own_base h1 hlw, h3, fun g hg => .inl hg, fun g hg => ?_⟩
 have h4 := own_low h1 g hg
 exact ⟨h4, fun hS => by have := hA.lt g hS; omega⟩
theorem tickRON {P : RP} (hA : RO lo q G P w) (h : IV c n T G) (hn : n ≤ 10000) (hT : T ≤ 1000000) (hlw : lw ≤ w.heap.size) : Calls Tryz.prog 9 #[.pointer (some ⟨q, 0, none⟩)] w fun e w' => ∃ x : RP × Option Addr × Nat, e = .returned (.slice x.2.1 (tickP G).2.2.length x.2.2) ∧ (rgO lo q (tickG G) x.1 true).st w' ∧ (waitsO lw x.2.1 (tickP G).2.2.length x.2.2 (tickP G).2.2 true).st w' ∧ Upd (rgO lo q G P true).F w w' ∧ (∀ g ∈ (rgO lo q (tickG G) x.1 true).F, g ∈ (rgO lo q G P true).F ∨ w.heap.size ≤ g) ∧ ∀ g ∈ (waitsO lw x.2.1 (tickP G).2.2.length x.2.2 (tickP G).2.2 true).F, w.heap.size ≤ g ∧ g ∉ (rgO lo q (tickG G) x.1 true).F := by
 have hl := h.len
 refine (tickRG hA (by omega) (by omega) hl.1 (h.1.1 ▸ h.1.2.2.1) hT h.1.2.2.2.1 h.2.1 h.2.2.1 (by have := h.2.2.2; omega)).mono ?_
 rintro e w' ⟨x, rfl, h1, h2, h3, h4, h5⟩
 exact ⟨x, rfl, h1, own_base h2 hlw, h3, h4, h5⟩
theorem doON {S : List Nat} (hA : GO lo q G S w) (h : IV c n T G) (hn : n ≤ 10000) (o : OpV) : Calls Tryz.prog 11 #[.pointer (some ⟨q, 0, none⟩), .agg #[.int .i64 o.k, .int .i64 o.a, .int .i64 o.b, .bool o.y]] w fun e w' => ∃ S' : List Nat, e = .returned (.int .i64 (doR G o.k o.a o.b o.y).2) ∧ (gG lo q (doR G o.k o.a o.b o.y).1 S' true).st w' ∧ Upd (gG lo q G S true).F w w' ∧ ∀ g ∈ (gG lo q (doR G o.k o.a o.b o.y).1 S' true).F, g ∈ (gG lo q G S true).F ∨ w.heap.size ≤ g := by
 have hl := h.len
 exact doG hA (by omega) h.rs o.k o.a o.b o.y
theorem modON {P : RP} (hA : RO lo q G P w) (h : IV c n T G) (hn : n ≤ 10000) (o : OpV) : Calls Tryz.prog 12 #[.pointer (some ⟨q, 0, none⟩), .agg #[.int .i64 o.k, .int .i64 o.a, .int .i64 o.b, .bool o.y]] w fun e w' => ∃ P' : RP, e = .returned (.int .i64 (doR G o.k o.a o.b o.y).2) ∧ (rgO lo q (doR G o.k o.a o.b o.y).1 P' true).st w' ∧ Upd (rgO lo q G P true).F w w' ∧ ∀ g ∈ (rgO lo q (doR G o.k o.a o.b o.y).1 P' true).F, g ∈ (rgO lo q G P true).F ∨ w.heap.size ≤ g := by
 have hl := h.len
 exact modelG hA (by omega) h.mo h.rs o.k o.a o.b o.y
end
def gA : CfgV := ⟨2, 5, 0, 0, 2, 3, 0, 0, 0, 0, 0, 300, 0, 0, 0, 0, 0, 0⟩
theorem config16 (w : World) : Calls Tryz.prog 50 #[] w fun e w' => e = .returned (.agg (cfgA gA)) ∧ Since w w' := by
 refine ent tab_ok [] Tryz.func50 Tryz.ntmps50 rfl rfl ?_
 repeat' (first | refine gs_ ?_ | ((conv => whnf); first | intro b | refine fin_s ?_))
 all_goals rfl
def gA1 : GrV := (doR (newG gA) 1 0 1 false).1
theorem gA_1 : (doR (newG gA) 1 0 1 false).2 = 0 := by decide +kernel
theorem gA_2 : (doR gA1 1 4 1 false).2 = 1 ∧ (doR gA1 1 4 1 false).1 = gA1 := by
 have h : (doR gA1 1 4 1 false).2 = 1 := by decide +kernel
 have h2 : hasC gA1.c 4 1 = false := by decide +kernel
 exact ⟨h, by show (Gr.hallR gA1 4 1).1 = gA1; unfold Gr.hallR; rw [h2]; rfl⟩
theorem gA_3 : ∃ a, (tickP gA1).2.2 = [a] ∧ a.fl = 0 ∧ a.wy = 1 := by
 have h : (tickP gA1).2.2.map (fun a => (a.fl, a.wy)) = [(0, 1)] := by decide +kernel
 cases e : (tickP gA1).2.2 with
 | nil => rw [e] at h; cases h
 | cons a r =>
  rw [e] at h
  cases r with
  | nil => simp at h; exact ⟨a, rfl, h⟩
  | cons => simp at h
theorem gA_4 : (tickG gA1).cars.length = 2 ∧ (tickG gA1).waits.length = 0 ∧ (tickG gA1).now = 1 := by decide +kernel
theorem gA_i : IV gA 1 0 gA1 := (IV.new gA).do_ 1 0 1 false
attribute [local irreducible] gA1 tickP tickG newG doR
set_option maxHeartbeats 4000000 in
theorem ans16 (w : World) : Calls Tryz.prog 13 #[] w fun e w' => e = .returned (.bool true) ∧ Since w w' := by
  obtain ⟨a, ha, ha1, ha2⟩ := gA_3
  obtain ⟨k1, k2, k3⟩ := gA_4
  have e1 : Gr.hallR (newG gA) 0 1 = (gA1, 0) := by have h1 := gA_1; have h2 : doR (newG gA) 1 0 1 false = Gr.hallR (newG gA) 0 1 := by unfold doR; rfl
                                                    rw [← h2]; exact Prod.ext (by unfold gA1; rfl) h1
  have e2 : Gr.hallR gA1 4 1 = (gA1, 1) := by have h1 := gA_2; have h2 : doR gA1 1 4 1 false = Gr.hallR gA1 4 1 := by unfold doR; rfl
                                              rw [← h2]; exact Prod.ext h1.2 h1.1
  have hl0 : (newG gA).waits.length ≤ 10000 := by have := (IV.new gA).len; omega
  have hl1 : gA1.waits.length ≤ 10000 := by have := gA_i.len; omega
  have c1 : ∀ lo q S w1, GO lo q (newG gA) S w1 → Calls Tryz.prog 36 #[.pointer (some ⟨q, 0, none⟩), .int .i64 0, .int .i64 1] w1 (GX lo q S w1 (.int .i64 0) gA1) := fun lo q S w1 h => by have := hallG h hl0 0 1; rw [e1] at this; exact this.mono (fun e w' h => toGX h)
  have c2 : ∀ lo q S w1, GO lo q gA1 S w1 → Calls Tryz.prog 36 #[.pointer (some ⟨q, 0, none⟩), .int .i64 4, .int .i64 1] w1 (GX lo q S w1 (.int .i64 1) gA1) := fun lo q S w1 h => by have := hallG h hl1 4 1; rw [e2] at this; exact this.mono (fun e w' h => toGX h)
  obtain ⟨G2, hG2⟩ : ∃ G2, G2 = tickG gA1 := ⟨_, rfl⟩
  rw [← hG2] at k1 k2 k3
  have c3 : ∀ lo q S lw w1, GO lo q gA1 S w1 → lw ≤ w1.heap.size → Calls Tryz.prog 8 #[.pointer (some ⟨q, 0, none⟩)] w1 fun e w' => ∃ x : Nat × Nat, e = .returned (.slice (some ⟨x.1, 0, none⟩) 1 x.2) ∧ (gG lo q G2 S true).st w' ∧ (waitsO lw (some ⟨x.1, 0, none⟩) 1 x.2 [a] true).st w' ∧ Upd (gG lo q gA1 S true).F w1 w' ∧ (∀ g ∈ (gG lo q G2 S true).F, g ∈ (gG lo q gA1 S true).F ∨ w1.heap.size ≤ g) ∧ ∀ g ∈ (waitsO lw (some ⟨x.1, 0, none⟩) 1 x.2 [a] true).F, w1.heap.size ≤ g ∧ g ∉ (gG lo q G2 S true).F := fun lo q S lw w1 h hlw => by
    have := tickON h gA_i (by omega) (by omega) hlw
    rw [ha, ← hG2] at this
    refine this.mono ?_
    rintro e w' ⟨⟨A', c'⟩, h1, h2, h3, h4⟩
    obtain ⟨g, hg⟩ := own_addr (show WaitsAt lw A' 1 c' [a] w' from h3) (by omega)
    subst hg
    exact ⟨(g, c'), h1, h2, h3, h4⟩
  have c4 : ∀ lo q S w1, GO lo q G2 S w1 → Calls Tryz.prog 33 #[.pointer (some ⟨q, 0, none⟩)] w1 fun e w' => ∃ x : Option Addr × Nat, e = .returned (.slice x.1 2 x.2) ∧ Since w1 w' := fun lo q S w1 h => by
    have := carsT lo q G2 S w1 h (by omega)
    rw [k1] at this
    exact this.mono (by rintro e w' ⟨A', c', h1, h2, h3⟩; exact ⟨(A', c'), h1, h3⟩)
  have c5 : ∀ lo q S w1, GO lo q G2 S w1 → Calls Tryz.prog 35 #[.pointer (some ⟨q, 0, none⟩)] w1 fun e w' => ∃ x : Option Addr × Nat, e = .returned (.slice x.1 0 x.2) ∧ Since w1 w' := fun lo q S w1 h => by
    have := waitsT lo q G2 S w1 h (by omega)
    rw [k2] at this
    exact this.mono (by rintro e w' ⟨A', c', h1, h2, h3⟩; exact ⟨(A', c'), h1, h3⟩)
  have c6 : ∀ lo q S w1, GO lo q G2 S w1 → Calls Tryz.prog 34 #[.pointer (some ⟨q, 0, none⟩)] w1 fun e w' => e = .returned (.int .i64 1) ∧ Since w1 w' := fun lo q S w1 h => by
    have := nowT lo q G2 S w1 h
    rw [k3] at this; exact this
  refine ent tab_ok [] Tryz.func13 Tryz.ntmps13 rfl rfl ?_
  repeat' (first | refine gs_ ?_ | ((conv => whnf); first | refine bto ?_ | refine bfo ?_ | refine callS (f := 50) (.a (sCfg gA)) (config16) ?_ | refine callN (f := 5) (ι := {x : Nat × Nat × List Nat // w.heap.size ≤ x.1}) (fun x => .v (.pointer (some ⟨x.1.2.1, 0, none⟩))) (fun x => gG x.1.1 x.1.2.1 (newG gA) x.1.2.2 true) (fun w1 hH => (newT gA w1).mono (by rintro e w' ⟨q, S', rfl, h1, h2⟩; exact ⟨⟨(w1.heap.size, q, S'), hH.upd.size⟩, rfl, h1, h2, h1.low⟩)) (fun x => ?_) | refine callO (f := 36) (A := gG x.1.1 x.1.2.1 (newG gA) x.1.2.2 true) 0 (ι := List Nat) (fun _ => .i .i64 0) (fun S1 => gG x.1.1 x.1.2.1 gA1 S1 true) (fun w1 hH hG => c1 _ _ _ w1 hG) (fun S1 => ?_) | refine callO (f := 36) (A := gG x.1.1 x.1.2.1 gA1 S1 true) 0 (ι := List Nat) (fun _ => .i .i64 1) (fun S2 => gG x.1.1 x.1.2.1 gA1 S2 true) (fun w1 hH hG => c2 _ _ _ w1 hG) (fun S2 => ?_) | refine callON (f := 8) (A := gG x.1.1 x.1.2.1 gA1 S2 true) 0 (ι := Nat × Nat) (fun y => .v (.slice (some ⟨y.1, 0, none⟩) 1 y.2)) (fun y => gG x.1.1 x.1.2.1 G2 S2 true) (fun y => waitsO w.heap.size (some ⟨y.1, 0, none⟩) 1 y.2 [a] true) (fun w1 hH hG => c3 _ _ _ _ w1 hG hH.upd.size) (fun y => ?_) | refine opiv ⟨tab_ok⟩ (by rfl) (by rfl) (by rfl) (by rfl) (by rfl) (by rfl) ⟨by decide, by decide⟩ ?_ | refine opfv ⟨tab_ok⟩ (by rfl) (by rfl) (by rfl) (by rfl) ?_ | refine opix (g := y.1) (off := 0 + 0 * 4 + 0) [.i .i64 a.fl, .i .i64 a.wy] (fun w1 hH => rng_sub (i := 0) (n := 2) (wait_at (k := 0) (x := a) (hob hH (A := waitsO w.heap.size (some ⟨y.1, 0, none⟩) 1 y.2 [a] true) 1 rfl) rfl) rfl) ⟨tab_ok⟩ (by rfl) (by rfl) (by simp only [Go.WideShapes.add_plain]; rfl) ?_ | refine br_t (show ((a.fl == 0) && ((a.wy == 1) && true)) = true by rw [ha1, ha2]; rfl) ?_ | refine br_t rfl ?_ | refine callN (f := 33) (ι := Option Addr × Nat) (fun z => .v (.slice z.1 2 z.2)) (fun z => carsO w.heap.size none 0 0 [] true) (fun w1 hH => (c4 _ _ _ w1 (hob hH (A := gG x.1.1 x.1.2.1 G2 S2 true) 0 rfl)).mono (by rintro e w' ⟨z, h1, h2⟩; exact ⟨z, h1, World.ownsRow_nil _ _ _ _, h2, (by intro g hg; cases hg)⟩)) (fun z => ?_) | refine callN (f := 35) (ι := Option Addr × Nat) (fun z => .v (.slice z.1 0 z.2)) (fun z => carsO w.heap.size none 0 0 [] true) (fun w1 hH => (c5 _ _ _ w1 (hob hH (A := gG x.1.1 x.1.2.1 G2 S2 true) 0 rfl)).mono (by rintro e w' ⟨z, h1, h2⟩; exact ⟨z, h1, World.ownsRow_nil _ _ _ _, h2, (by intro g hg; cases hg)⟩)) (fun z2 => ?_) | refine callH (f := 34) (.i .i64 1) (fun w1 hH => c6 _ _ _ w1 (hob hH (A := gG x.1.1 x.1.2.1 G2 S2 true) 0 rfl)) ?_ | refine fin_s ?_))
  all_goals (conv => whnf)
  all_goals rfl
end Rg
namespace Rg
open Go.RowKit Ba Mem En Mo Go.Proofs.YtpiiblkiddcgcaaGreat.Ty Go.Proofs.YtpiiblkiddcgcaaGreat.St Gr
open Ct (cfgA carA)
open Go16 (OpV opC)
set_option maxRecDepth 100000
attribute [local irreducible] Go.Calls tickP tickG newG doR IV
theorem dis_at {X : Cx} {m : List Row} {ob : List Asr} {w : World} (h : Hold X m ob w) {A B : Asr} (i j : Nat) (hA : ob[i]? = some A) (hB : ob[j]? = some B) (hne : i ≠ j) (hr : A.rw = true) : ∀ g ∈ A.F, g ∉ B.F :=
 pair_at (R := DisR) (fun _ _ h => h.symm) h.dis hA hB hne (.inl hr)
theorem hold_gops {a : Option Addr} {len nt : Nat} {os : Nat → OpV} {w : World} (h : gopE.Rd a len os w) : Hold ⟨Tryz.prog, tab, [], w, nt, []⟩ [] [rdO gopE a len os] w :=
 Hold.addObj (ob := []) (Hold.nil _ tab [] _ w) (rdO gopE a len os) h (by intro k; cases k) (by intro r hr; cases hr) (by intro A hA; cases hA)
set_option maxHeartbeats 8000000 in
theorem playsF (c : CfgV) {a : Option Addr} {len cap : Nat} {os : Nat → OpV} {w : World} (h : gopE.Rd a len os w) (hlen : len ≤ 9223372036854775807) : Calls Tryz.prog 3 #[(aCfg c), .slice a len cap] w fun e w' => e = .returned (.bool true) ∧ Since w w' := by
 obtain ⟨gb, off, hb⟩ := Ek.rd_addr h
 refine entH tab_ok (hold_gops h) [.a (sCfg c), .v (.slice a len cap)] Tryz.func3 Tryz.ntmps3 rfl rfl ?_
 repeat' (first | refine gs_ ?_ | ((conv => whnf); first | intro b0 | refine callN (f := 5) (ι := {x : Nat × Nat × List Nat // w.heap.size ≤ x.1}) (fun x => .v (.pointer (some ⟨x.1.2.1, 0, none⟩))) (fun x => gG x.1.1 x.1.2.1 (newG c) x.1.2.2 true) (fun w1 hH => (newT c w1).mono (by rintro e w' ⟨q, S', rfl, h1, h2⟩; exact ⟨⟨(w1.heap.size, q, S'), hH.upd.size⟩, rfl, h1, h2, h1.low⟩)) (fun x => ?_) | refine callN (f := 6) (ι := {x : Nat × Nat × RP // w.heap.size ≤ x.1}) (fun x => .v (.pointer (some ⟨x.1.2.1, 0, none⟩))) (fun x => rgO x.1.1 x.1.2.1 (newG c) x.1.2.2 true) (fun w1 hH => (newGR c w1).mono (by rintro e w' ⟨⟨q, P'⟩, rfl, h1, h2⟩; exact ⟨⟨(w1.heap.size, q, P'), hH.upd.size⟩, rfl, h1, h2, h1.low⟩)) (fun y => ?_) | refine fin_s ?_))
 conv => whnf
 obtain ⟨⟨lo, q, S0⟩, hlo⟩ := x
 obtain ⟨⟨lo2, q2, P0⟩, hlo2⟩ := y
 refine lp ⟨tab_ok⟩ (ι := {x : (Nat × List Nat × RP) × GrV // (x.1.1 ≤ 80 ∧ x.1.1 ≤ len) ∧ IV c x.1.1 (50 * x.1.1) x.2}) (fun x => match x with | ⟨((i, S, P), G), _⟩ => ⟨[(1, .v (.slice a len cap)), (5, .v (.pointer (some ⟨q, 0, none⟩))), (6, .v (.pointer (some ⟨q2, 0, none⟩))), (7, .i .i64 (i : Int))], [⟨b0, 23, true, 0, [], (sCfg c), [], true⟩], [rdO gopE a len os, gG lo q G S true, rgO lo2 q2 G P true]⟩) (fun x => 80 - x.1.1.1) ⟨((0, S0, P0), newG c), ⟨Nat.zero_le _, Nat.zero_le _⟩, IV.new c⟩ (wk ?_) ?_
 ·repeat' (first | exact trivial | rfl | ((conv => whnf); refine And.intro ?_ ?_))
 rintro ⟨⟨⟨i, S, P⟩, G⟩, ⟨hi80, hil⟩, HI⟩
 have hi80 : i ≤ 80 := hi80
 have hil : i ≤ len := hil
 have HI : IV c i (50 * i) G := HI
 by_cases hlt : i < len
 ·by_cases h8 : i < 80
  ·have hb := hb (by omega)
   subst hb
   have hln := HI.len
   by_cases h9 : (os i).k = 9
   ·repeat' (first | refine gs_ ?_ | ((conv => whnf); first | intro b1 | refine bto ?_ | refine bfo ?_ | refine br_t (beq_iff_eq.2 h9) ?_ | refine opiv ⟨tab_ok⟩ (by rfl) (by rfl) (by rfl) (by rfl) (by rfl) (by rfl) ⟨by omega, by omega⟩ ?_ | refine opix (g := gb) (off := off + i * 4) [.i .i64 (os i).k, .i .i64 (os i).a, .i .i64 (os i).b, .b (os i).y] (fun w1 hH => Ek.rd_rng (hob hH (A := rdO gopE (some ⟨gb, off, none⟩) len os) 0 rfl) hlt) ⟨tab_ok⟩ (by rfl) (by rfl) (by simp only [Go.WideShapes.add_plain]; rfl) ?_ | refine fin_s ?_))
    conv => whnf
    refine lp ⟨tab_ok⟩ (ι := {x : (Nat × List Nat × RP) × GrV // x.1.1 ≤ 50 ∧ IV c i (50 * i + x.1.1) x.2}) (fun x => match x with | ⟨((n, Sn, Pn), Gn), _⟩ => ⟨[(1, .v (.slice (some ⟨gb, off, none⟩) len cap)), (5, .v (.pointer (some ⟨q, 0, none⟩))), (6, .v (.pointer (some ⟨q2, 0, none⟩))), (7, .i .i64 (i : Int)), (8, .p 1 0), (9, .i .i64 (n : Int))], [⟨b0, 23, true, 0, [], (sCfg c), [], true⟩, ⟨b1, 30, true, 0, [], [.i .i64 (os i).k, .i .i64 (os i).a, .i .i64 (os i).b, .b (os i).y], [], true⟩], [rdO gopE (some ⟨gb, off, none⟩) len os, gG lo q Gn Sn true, rgO lo2 q2 Gn Pn true]⟩) (fun x => 50 - x.1.1.1) ⟨((0, S, P), G), Nat.zero_le _, HI⟩ (wk ?_) ?_
    ·repeat' (first | exact trivial | rfl | ((conv => whnf); refine And.intro ?_ ?_))
    rintro ⟨⟨⟨n, Sn, Pn⟩, Gn⟩, hn50, HN⟩
    have hn50 : n ≤ 50 := hn50
    have HN : IV c i (50 * i + n) Gn := HN
    have HX : IV c (i + 1) (50 * (i + 1)) Gn := HN.more (by omega) (by omega)
    have HT : IV c i (50 * i + (n + 1)) (tickG Gn) := HN.tick (by omega)
    have hln := HT.len
    have hlt2 : (tickP Gn).2.2.length ≤ 10000 := by
     have h1 : (tickP Gn).2.2.length ≤ Gn.cars.length := by unfold tickP; exact (tk_wl _ _ _ _).2
     have := HN.len; omega
    by_cases hna : (n : Int) < (os i).a
    ·by_cases hn5 : n < 50
     ·repeat' (first | refine gs_ ?_ | ((conv => whnf); first | refine bto ?_ | refine bfo ?_ | refine wr_i ?_ | refine callON (f := 8) (A := gG lo q Gn Sn true) 1 (ι := Option Addr × Nat) (fun x => .v (.slice x.1 (tickP Gn).2.2.length x.2)) (fun _ => gG lo q (tickG Gn) Sn true) (fun x => waitsO w.heap.size x.1 (tickP Gn).2.2.length x.2 (tickP Gn).2.2 true) (fun w1 hH hA => tickON hA HN (by omega) (by omega) hH.upd.size) (fun x => ?_) | refine callON (f := 9) (A := rgO lo2 q2 Gn Pn true) 2 (ι := RP × Option Addr × Nat) (fun y => .v (.slice y.2.1 (tickP Gn).2.2.length y.2.2)) (fun y => rgO lo2 q2 (tickG Gn) y.1 true) (fun y => waitsO w.heap.size y.2.1 (tickP Gn).2.2.length y.2.2 (tickP Gn).2.2 true) (fun w1 hH hA => tickRON hA HN (by omega) (by omega) hH.upd.size) (fun y => ?_) | refine callH (f := 7) (.b true) (fun w1 hH => sameW hlt2 (hob hH (A := waitsO w.heap.size x.1 (tickP Gn).2.2.length x.2 (tickP Gn).2.2 true) 3 rfl) (hob hH (A := waitsO w.heap.size y.2.1 (tickP Gn).2.2.length y.2.2 (tickP Gn).2.2 true) 4 rfl)) ?_ | refine callH (f := 10) (.b true) (fun w1 hH => alikeG (hob hH (A := gG lo q (tickG Gn) Sn true) 1 rfl) (hob hH (A := rgO lo2 q2 (tickG Gn) y.1 true) 2 rfl) (dis_at hH (A := gG lo q (tickG Gn) Sn true) (B := rgO lo2 q2 (tickG Gn) y.1 true) 1 2 rfl rfl (by decide) rfl) (by omega) (by omega)) ?_ | refine back ⟨((n + 1, Sn, y.1), tickG Gn), by show n + 1 ≤ 50; omega, HT⟩ (wkd ?_) ?_ | refine fin_s ?_))
      all_goals first | (show 50 - (n + 1) < 50 - n; omega) | skip
      all_goals (repeat' (first | exact trivial | rfl | ((conv => whnf); refine And.intro ?_ ?_)))
     ·obtain rfl : n = 50 := by omega
      repeat' (first | refine gs_ ?_ | ((conv => whnf); first | refine bto ?_ | refine bfo ?_ | refine wr_i ?_ | refine br_f (decide_eq_false (show ¬ ((50 : Nat) : Int) < 50 by decide)) ?_ | refine back ⟨((i + 1, Sn, Pn), Gn), ⟨by show i + 1 ≤ 80; omega, by show i + 1 ≤ len; omega⟩, HX⟩ (wkd ?_) ?_ | refine fin_s ?_))
      all_goals first | (show 80 - (i + 1) < 80 - i; omega) | skip
      all_goals (repeat' (first | exact trivial | rfl | ((conv => whnf); refine And.intro ?_ ?_)))
    ·repeat' (first | refine gs_ ?_ | ((conv => whnf); first | refine bto ?_ | refine bfo ?_ | refine wr_i ?_ | refine back ⟨((i + 1, Sn, Pn), Gn), ⟨by show i + 1 ≤ 80; omega, by show i + 1 ≤ len; omega⟩, HX⟩ (wkd ?_) ?_ | refine fin_s ?_))
     all_goals first | (show 80 - (i + 1) < 80 - i; omega) | skip
     all_goals (repeat' (first | exact trivial | rfl | ((conv => whnf); refine And.intro ?_ ?_)))
   ·obtain ⟨Q, hQ⟩ : ∃ Q, Q = doR G (os i).k (os i).a (os i).b (os i).y := ⟨_, rfl⟩
    have HD : IV c (i + 1) (50 * i) Q.1 := by rw [hQ]; exact HI.do_ _ _ _ _
    have HX : IV c (i + 1) (50 * (i + 1)) Q.1 := HD.more (Nat.le_refl _) (by omega)
    have hln := HD.len
    have c1 : ∀ w1, (gG lo q G S true).st w1 → _ := fun w1 hA => doON (w := w1) hA HI (by omega) (os i)
    have c2 : ∀ w1, (rgO lo2 q2 G P true).st w1 → _ := fun w1 hA => modON (w := w1) hA HI (by omega) (os i)
    rw [← hQ] at c1 c2
    repeat' (first | refine gs_ ?_ | ((conv => whnf); first | intro b1 | refine bto ?_ | refine bfo ?_ | refine wr_i ?_ | refine br_f (beq_eq_false_iff_ne.2 h9) ?_ | refine opiv ⟨tab_ok⟩ (by rfl) (by rfl) (by rfl) (by rfl) (by rfl) (by rfl) ⟨by omega, by omega⟩ ?_ | refine opix (g := gb) (off := off + i * 4) [.i .i64 (os i).k, .i .i64 (os i).a, .i .i64 (os i).b, .b (os i).y] (fun w1 hH => Ek.rd_rng (hob hH (A := rdO gopE (some ⟨gb, off, none⟩) len os) 0 rfl) hlt) ⟨tab_ok⟩ (by rfl) (by rfl) (by simp only [Go.WideShapes.add_plain]; rfl) ?_ | refine callO (f := 11) (A := gG lo q G S true) 1 (ι := List Nat) (fun _ => .i .i64 Q.2) (fun S' => gG lo q Q.1 S' true) (fun w1 hH hA => c1 w1 hA) (fun S' => ?_) | refine callO (f := 12) (A := rgO lo2 q2 G P true) 2 (ι := RP) (fun _ => .i .i64 Q.2) (fun P' => rgO lo2 q2 Q.1 P' true) (fun w1 hH hA => c2 w1 hA) (fun P' => ?_) | refine br_t (beq_self_eq_true _) ?_ | refine callH (f := 10) (.b true) (fun w1 hH => alikeG (hob hH (A := gG lo q Q.1 S' true) 1 rfl) (hob hH (A := rgO lo2 q2 Q.1 P' true) 2 rfl) (dis_at hH (A := gG lo q Q.1 S' true) (B := rgO lo2 q2 Q.1 P' true) 1 2 rfl rfl (by decide) rfl) (by omega) (by omega)) ?_ | refine back ⟨((i + 1, S', P'), Q.1), ⟨by show i + 1 ≤ 80; omega, by show i + 1 ≤ len; omega⟩, HX⟩ (wkd ?_) ?_ | refine fin_s ?_))
    all_goals first | (show 80 - (i + 1) < 80 - i; omega) | skip
    all_goals (repeat' (first | exact trivial | rfl | ((conv => whnf); refine And.intro ?_ ?_)))
  ·obtain rfl : i = 80 := by omega
   repeat' (first | refine gs_ ?_ | ((conv => whnf); first | refine bto ?_ | refine bfo ?_ | refine wr_i ?_ | refine br_f (decide_eq_false (show ¬ ((80 : Nat) : Int) < 80 by decide)) ?_ | refine callS (f := 13) (.b true) (ans16) ?_ | refine fin_s ?_))
   all_goals rfl
 ·repeat' (first | refine gs_ ?_ | ((conv => whnf); first | refine bto ?_ | refine bfo ?_ | refine wr_i ?_ | refine callS (f := 13) (.b true) (ans16) ?_ | refine fin_s ?_))
  all_goals rfl
theorem playsL {H : Type} {enc : TypeId × Value → H} {x : DataW H × List MemPlace} (c : CfgV) (a : Option Addr) (len cap : Nat) (w : World) (hx : ∃ m, DataW.trod enc Tryz.prog w 0 (fun _ => true) true m 24 (Value.cells (.slice a len cap)).toList = some x) :
  Calls Tryz.prog 3 #[(aCfg c), .slice a len cap] w fun e w' => e = .returned (.bool true) ∧ Since w w' := by
 obtain ⟨m, hm⟩ := hx
 obtain ⟨os, ho, hl⟩ := gop_open hm
 exact playsF c ho hl
end Rg
end Go.Proofs.YtpiiblkiddcgcaaGreat
