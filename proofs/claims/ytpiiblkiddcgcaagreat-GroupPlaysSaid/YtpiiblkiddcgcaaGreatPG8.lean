/-
  Wanted: part 8.
  No condition.
-/
import Derived.Test.YtpiiblkiddcgcaaGreatPG7
import Derived.Test.YtpiiblkiddcgcaaGreatRows
import Derived.Test.YtpiiblkiddcgcaaGreatPG0
import Derived.Deep.Slices
import Derived.Test.YtpiiblkiddcgcaaGreatPG6
set_option linter.all false
namespace Go.Proofs.YtpiiblkiddcgcaaGreat
namespace Rg
open Go.RowKit Ba Mem En Mo Go.Proofs.YtpiiblkiddcgcaaGreat.Ty Go.Proofs.YtpiiblkiddcgcaaGreat.St Gr
open Ct (cfgA carA)
open Et (carsO car_at blL coV)
open Rf (costR)
set_option maxRecDepth 100000
attribute [local irreducible] Go.Calls coV
set_option maxHeartbeats 4000000
def asgG (G : GrV) : GrV := { G with cars := (asgN G.c G.waits G.cars G.waits.length).2, waits := (asgN G.c G.waits G.cars G.waits.length).1 }
theorem asg_no {c : CfgV} {p : List WaitV × List CarV} {i : Nat} {a : WaitV} (ha : p.1[i]? = some a) (h : ¬ a.ca = -1) : asgStep c p i = p := by
 unfold asgStep; rw [ha]; simp [h]
theorem asg_none {c : CfgV} {p : List WaitV × List CarV} {i : Nat} {a : WaitV} (ha : p.1[i]? = some a) (h : a.ca = -1) (hb : bestI c p.2 a = -1) : asgStep c p i = p := by
 unfold asgStep; rw [ha]; simp only [h, if_true, hb]
 have e : ({ a with ca := -1 } : WaitV) = a := by rw [← h]
 rw [e, Gr.set_same ha]
 unfold giveC
 rw [if_neg (by decide)]
theorem asg_some {c : CfgV} {p : List WaitV × List CarV} {i b : Nat} {a : WaitV} {y : CarV} (ha : p.1[i]? = some a) (h : a.ca = -1) (hb : bestI c p.2 a = (b : Int)) (hy : p.2[b]? = some y) : asgStep c p i = (p.1.set i { a with ca := (b : Int) }, p.2.set b (hallX a y)) := by
 unfold asgStep; rw [ha]; simp only [h, if_true, hb]
 unfold giveC
 rw [if_pos (by omega), Int.toNat_natCast, mod_set _ hy]
theorem assignR {lo q : Nat} {G : GrV} {P : RP} {w : World} (hg : RO lo q G P w) (hl : G.waits.length ≤ 10000) (hlc : G.cars.length ≤ 10000) (hpos : 0 < G.cars.length) (hk1 : ∀ x ∈ G.cars, okT x) (hk2 : ∀ a ∈ G.waits, okW a) (hWQ : WQ G.waits) : Calls Tryz.prog 31 #[.pointer (some ⟨q, 0, none⟩)] w (RX lo q P w (.tuple #[]) (asgG G)) := by
 have h0 := hg.1
 have hlo : lo ≤ w.heap.size := Nat.le_of_lt (Nat.lt_of_le_of_lt h0 hg.2.1.lt)
 obtain ⟨A1, c1, A2, c2⟩ := P
 have hok := fun i => asg_ok (c := G.c) hk2 hk1 i
 have hwq := fun i => asg_WQ (c := G.c) (cs := G.cars) hWQ i
 have hlen := fun i => asg_len G.c G.waits G.cars i
 obtain ⟨g, hgA⟩ := own_addr hg.2.2.1 hpos
 have hgA : A1 = some ⟨g, 0, none⟩ := hgA
 subst hgA
 refine entH tab_ok (hold_ro hg) [.p 0 0] Tryz.func31 Tryz.ntmps31 rfl rfl ?_
 repeat' (first | refine gs_ ?_ | ((conv => whnf); first | refine fin_s ?_))
 conv => whnf
 refine lpS ⟨tab_ok⟩ (ι := {x : Nat × Nat × Option Addr × Nat // x.1 ≤ G.waits.length ∧ lo ≤ x.2.1}) (fun y => match y with | ⟨(i, l, A3, c3), _⟩ => ⟨[(0, .p 0 0), (2, .i .i64 (i : Int))], roM q G (some ⟨g, 0, none⟩) G.cars.length c1 A3 G.waits.length c3, [carsO lo (some ⟨g, 0, none⟩) G.cars.length c1 (asgN G.c G.waits G.cars i).2 true, waitsO l A3 G.waits.length c3 (asgN G.c G.waits G.cars i).1 true]⟩) (fun y => G.waits.length - y.1.1) ⟨(0, lo, A2, c2), Nat.zero_le _, Nat.le_refl _⟩ (wk ?_) ?_
 ·repeat' (first | exact trivial | rfl | ((conv => whnf); refine And.intro ?_ ?_))
 rintro ⟨⟨i, l, A3, c3⟩, hi, hl3⟩
 have hi : i ≤ G.waits.length := hi
 have hl3 : lo ≤ l := hl3
 by_cases hlt : i < G.waits.length
 ·refine sm_know (p := ∃ g2, A3 = some ⟨g2, 0, none⟩) (fun w1 hH => own_addr (hob hH (A := waitsO l A3 G.waits.length c3 (asgN G.c G.waits G.cars i).1 true) 1 rfl) (by omega)) (fun hA3 => ?_)
  obtain ⟨g2, rfl⟩ := hA3
  have hs : asgN G.c G.waits G.cars (i + 1) = asgStep G.c (asgN G.c G.waits G.cars i) i := rfl
  obtain ⟨hk2', hk1'⟩ := hok i
  obtain ⟨hn1, hn2⟩ := hlen i
  have hca := (hwq i).1
  obtain ⟨ws, cs, hp⟩ : ∃ ws cs, asgN G.c G.waits G.cars i = (ws, cs) := ⟨_, _, rfl⟩
  rw [hp] at hs hk2' hk1' hn1 hn2 hca
  have hn1 : ws.length = G.waits.length := hn1
  have hn2 : cs.length = G.cars.length := hn2
  refine sm_hold _ [carsO lo (some ⟨g, 0, none⟩) G.cars.length c1 cs true, waitsO l (some ⟨g2, 0, none⟩) G.waits.length c3 ws true] (by rfl) (fun w1 hH => by have hH : Hold _ _ [carsO lo (some ⟨g, 0, none⟩) G.cars.length c1 (asgN G.c G.waits G.cars i).2 true, waitsO l (some ⟨g2, 0, none⟩) G.waits.length c3 (asgN G.c G.waits G.cars i).1 true] w1 := hH; rw [hp] at hH; exact hH) ?_
  refine sm_run ⟨tab_ok⟩ ?_
  obtain ⟨a, ha⟩ : ∃ a, ws[i]? = some a := ⟨_, List.getElem?_eq_getElem (by omega)⟩
  have hka := hk2' a (List.mem_of_getElem? ha)
  have hca := hca a (List.mem_of_getElem? ha)
  by_cases hc : a.ca = -1
  ·repeat' (first | refine gs_ ?_ | ((conv => whnf); first | intro b1 | refine bto ?_ | refine bfo ?_ | refine wr_i ?_ | refine opiv ⟨tab_ok⟩ (by rfl) (by rfl) (by rfl) (by rfl) (by rfl) (by rfl) ⟨by omega, by omega⟩ ?_ | refine puiv ⟨tab_ok⟩ (by rfl) (by rfl) (by rfl) (by rfl) (by rfl) (by rfl) ⟨by omega, by omega⟩ ?_ | refine opfv ⟨tab_ok⟩ (by rfl) (by rfl) (by rfl) (by rfl) ?_ | refine pufv ⟨tab_ok⟩ (by rfl) (by rfl) (by rfl) (by rfl) ?_ | refine opix (g := g2) (off := 0 + i * 4) [.i .i64 a.fl, .i .i64 a.wy, .i .i64 a.ca, .i .i64 a.si] (fun w1 hH => wait_at (hob hH (A := waitsO l (some ⟨g2, 0, none⟩) G.waits.length c3 ws true) 1 rfl) ha) ⟨tab_ok⟩ (by rfl) (by rfl) (by simp only [Go.WideShapes.add_plain]; rfl) ?_ | refine fin_s ?_))
   conv => whnf
   refine lp ⟨tab_ok⟩ (ι := {x : Nat × Int // x.1 ≤ G.cars.length ∧ x.2 = (blL G.c a.fl a.wy cs x.1).1}) (fun y => match y with | ⟨(n, v), _⟩ => ⟨[(0, .p 0 0), (2, .i .i64 (i : Int)), (3, .p 1 0), (4, .i .i64 v), (5, .i .i64 (n : Int))], [⟨q, 72, true, 0, [], [.i .i64 G.c.ca, .i .i64 G.c.fl, .i .i64 G.c.ft, .i .i64 G.c.se, .i .i64 G.c.dr, .i .i64 G.c.dw, .i .i64 G.c.ho, .i .i64 G.c.re, .i .i64 G.c.yi, .i .i64 G.c.qu, .i .i64 G.c.qo, .i .i64 G.c.lo, .i .i64 G.c.sl, .i .i64 G.c.rt, .i .i64 G.c.cp, .i .i64 G.c.tr, .i .i64 G.c.de, .i .i64 G.c.wi, .v (.slice (some ⟨g, 0, none⟩) G.cars.length c1), .v (.slice (some ⟨g2, 0, none⟩) G.waits.length c3), .i .i64 G.now], [], true⟩, ⟨b1, 76, true, 0, [], [.i .i64 a.fl, .i .i64 a.wy, .i .i64 a.ca, .i .i64 a.si], [], true⟩], [carsO lo (some ⟨g, 0, none⟩) G.cars.length c1 cs true, waitsO l (some ⟨g2, 0, none⟩) G.waits.length c3 ws true]⟩) (fun y => G.cars.length - y.1.1) ⟨(0, -1), Nat.zero_le _, rfl⟩ (wk ?_) ?_
   ·repeat' (first | exact trivial | rfl | ((conv => whnf); refine And.intro ?_ ?_))
   rintro ⟨⟨n, v⟩, hn, hv⟩
   have hn : n ≤ G.cars.length := hn
   have hv : v = (blL G.c a.fl a.wy cs n).1 := hv
   have hr := bl_rng G.c a.fl a.wy cs n
   rw [← hv] at hr
   by_cases hnl : n < G.cars.length
   ·obtain ⟨x, hx⟩ : ∃ x, cs[n]? = some x := ⟨_, List.getElem?_eq_getElem (by omega)⟩
    have hkx := hk1' x (List.mem_of_getElem? hx)
    have hnx := bl_next (c := G.c) (f := a.fl) (cw := a.wy) hx
    rw [← hv] at hnx
    by_cases hA : x.mo = 0 ∧ x.br = false
    ·by_cases hvn : v < 0
     ·have hb : (n : Int) = (blL G.c a.fl a.wy cs (n + 1)).1 := by rw [hnx, if_pos ⟨hA, .inl hvn⟩]
      repeat' (first | refine gq_ ?_ | ((conv => whnf); first | intro b5 | refine drA (id := 10) ⟨tab_ok⟩ [30] ?_ | refine drA ⟨tab_ok⟩ [] ?_ | refine bto ?_ | refine bfo ?_ | refine wr_i ?_ | refine And.intro ?_ ?_ | refine opiv ⟨tab_ok⟩ (by rfl) (by rfl) (by rfl) (by rfl) (by rfl) (by rfl) ⟨by omega, by omega⟩ ?_ | refine puiv ⟨tab_ok⟩ (by rfl) (by rfl) (by rfl) (by rfl) (by rfl) (by rfl) ⟨by omega, by omega⟩ ?_ | refine opfv ⟨tab_ok⟩ (by rfl) (by rfl) (by rfl) (by rfl) ?_ | refine pufv ⟨tab_ok⟩ (by rfl) (by rfl) (by rfl) (by rfl) ?_ | refine opix (g := g) (off := 0 + n * 15) (sCar x) (fun w1 hH => car_at (hob hH (A := carsO lo (some ⟨g, 0, none⟩) G.cars.length c1 cs true) 0 rfl) hx) ⟨tab_ok⟩ (by rfl) (by rfl) (by simp only [Go.WideShapes.add_plain]; rfl) ?_ | refine br_t (beq_iff_eq.2 hA.1) ?_ | refine br_f hA.2 ?_ | refine back ⟨(n + 1, (n : Int)), by show n + 1 ≤ _; omega, hb⟩ (wk ?_) ?_ | refine fin_s ?_))
      all_goals first | (show G.cars.length - (n + 1) < G.cars.length - n; omega) | skip
      all_goals (repeat' (first | exact trivial | rfl | ((conv => whnf); refine And.intro ?_ ?_)))
     ·obtain ⟨b, hvb⟩ : ∃ b : Nat, v = (b : Int) := ⟨v.toNat, by omega⟩
      have hbc := bl_cost G.c a.fl a.wy cs n (by rw [← hv]; omega)
      rw [← hv, hvb, Int.toNat_natCast] at hbc
      obtain ⟨y, hy, hyc⟩ := hbc
      have hky := hk1' y (List.mem_of_getElem? hy)
      subst hvb
      have hbn : b < G.cars.length := by omega
      have c1x := costR G.c x a.fl a.wy (by have := hka.2; omega) hkx.2.2.2.2.1.1 hkx.2.2.2.2.1.2 hka.1.1 hka.1.2 hkx.2.1.1 hkx.2.1.2.1 hkx.2.1.2.2
      have c1y := costR G.c y a.fl a.wy (by have := hka.2; omega) hky.2.2.2.2.1.1 hky.2.2.2.2.1.2 hka.1.1 hka.1.2 hky.2.1.1 hky.2.1.2.1 hky.2.1.2.2
      by_cases hcl : coV G.c x a.fl a.wy < coV G.c y a.fl a.wy
      ·have hb : (n : Int) = (blL G.c a.fl a.wy cs (n + 1)).1 := by rw [hnx, if_pos ⟨hA, .inr (by rw [hyc]; exact hcl)⟩]
       repeat' (first | refine gq_ ?_ | ((conv => whnf); first | intro b5 | refine drA (id := 10) ⟨tab_ok⟩ [30] ?_ | refine drA ⟨tab_ok⟩ [] ?_ | refine bto ?_ | refine bfo ?_ | refine wr_i ?_ | refine And.intro ?_ ?_ | refine opiv ⟨tab_ok⟩ (by rfl) (by rfl) (by rfl) (by rfl) (by rfl) (by rfl) ⟨by omega, by omega⟩ ?_ | refine puiv ⟨tab_ok⟩ (by rfl) (by rfl) (by rfl) (by rfl) (by rfl) (by rfl) ⟨by omega, by omega⟩ ?_ | refine opfv ⟨tab_ok⟩ (by rfl) (by rfl) (by rfl) (by rfl) ?_ | refine pufv ⟨tab_ok⟩ (by rfl) (by rfl) (by rfl) (by rfl) ?_ | refine opix (g := g) (off := 0 + n * 15) (sCar x) (fun w1 hH => car_at (hob hH (A := carsO lo (some ⟨g, 0, none⟩) G.cars.length c1 cs true) 0 rfl) hx) ⟨tab_ok⟩ (by rfl) (by rfl) (by simp only [Go.WideShapes.add_plain]; rfl) ?_ | refine opix (g := g) (off := 0 + b * 15) (sCar y) (fun w1 hH => car_at (hob hH (A := carsO lo (some ⟨g, 0, none⟩) G.cars.length c1 cs true) 0 rfl) hy) ⟨tab_ok⟩ (by rfl) (by rfl) (by simp only [Go.WideShapes.add_plain]; rfl) ?_ | refine callS (f := 86) (.i .i64 (coV G.c x a.fl a.wy)) (c1x) ?_ | refine callS (f := 86) (.i .i64 (coV G.c y a.fl a.wy)) (c1y) ?_ | refine br_t (beq_iff_eq.2 hA.1) ?_ | refine br_f hA.2 ?_ | refine back ⟨(n + 1, (n : Int)), by show n + 1 ≤ _; omega, hb⟩ (wk ?_) ?_ | refine fin_s ?_))
       all_goals first | (show G.cars.length - (n + 1) < G.cars.length - n; omega) | skip
       all_goals (repeat' (first | exact trivial | rfl | ((conv => whnf); refine And.intro ?_ ?_)))
      ·have hb : (b : Int) = (blL G.c a.fl a.wy cs (n + 1)).1 := by rw [hnx, if_neg]; rintro ⟨_, h | h⟩; omega; rw [hyc] at h; exact hcl h
       repeat' (first | refine gq_ ?_ | ((conv => whnf); first | intro b5 | refine drA (id := 10) ⟨tab_ok⟩ [30] ?_ | refine drA ⟨tab_ok⟩ [] ?_ | refine bto ?_ | refine bfo ?_ | refine wr_i ?_ | refine And.intro ?_ ?_ | refine opiv ⟨tab_ok⟩ (by rfl) (by rfl) (by rfl) (by rfl) (by rfl) (by rfl) ⟨by omega, by omega⟩ ?_ | refine puiv ⟨tab_ok⟩ (by rfl) (by rfl) (by rfl) (by rfl) (by rfl) (by rfl) ⟨by omega, by omega⟩ ?_ | refine opfv ⟨tab_ok⟩ (by rfl) (by rfl) (by rfl) (by rfl) ?_ | refine pufv ⟨tab_ok⟩ (by rfl) (by rfl) (by rfl) (by rfl) ?_ | refine opix (g := g) (off := 0 + n * 15) (sCar x) (fun w1 hH => car_at (hob hH (A := carsO lo (some ⟨g, 0, none⟩) G.cars.length c1 cs true) 0 rfl) hx) ⟨tab_ok⟩ (by rfl) (by rfl) (by simp only [Go.WideShapes.add_plain]; rfl) ?_ | refine opix (g := g) (off := 0 + b * 15) (sCar y) (fun w1 hH => car_at (hob hH (A := carsO lo (some ⟨g, 0, none⟩) G.cars.length c1 cs true) 0 rfl) hy) ⟨tab_ok⟩ (by rfl) (by rfl) (by simp only [Go.WideShapes.add_plain]; rfl) ?_ | refine callS (f := 86) (.i .i64 (coV G.c x a.fl a.wy)) (c1x) ?_ | refine callS (f := 86) (.i .i64 (coV G.c y a.fl a.wy)) (c1y) ?_ | refine br_t (beq_iff_eq.2 hA.1) ?_ | refine br_f hA.2 ?_ | refine back ⟨(n + 1, (b : Int)), by show n + 1 ≤ _; omega, hb⟩ (wk ?_) ?_ | refine fin_s ?_))
       all_goals first | (show G.cars.length - (n + 1) < G.cars.length - n; omega) | skip
       all_goals (repeat' (first | exact trivial | rfl | ((conv => whnf); refine And.intro ?_ ?_)))
    ·have hb : v = (blL G.c a.fl a.wy cs (n + 1)).1 := by rw [hnx, if_neg (fun h => hA h.1)]
     have hA2 : (x.mo == 0) = true → x.br = false → False := fun h1 h2 => hA ⟨beq_iff_eq.1 h1, h2⟩
     repeat' (first | refine gq_ ?_ | ((conv => whnf); first | intro b5 | refine drA (id := 10) ⟨tab_ok⟩ [30] ?_ | refine drA ⟨tab_ok⟩ [] ?_ | refine bto ?_ | refine bfo ?_ | refine wr_i ?_ | refine And.intro ?_ ?_ | refine opiv ⟨tab_ok⟩ (by rfl) (by rfl) (by rfl) (by rfl) (by rfl) (by rfl) ⟨by omega, by omega⟩ ?_ | refine puiv ⟨tab_ok⟩ (by rfl) (by rfl) (by rfl) (by rfl) (by rfl) (by rfl) ⟨by omega, by omega⟩ ?_ | refine opfv ⟨tab_ok⟩ (by rfl) (by rfl) (by rfl) (by rfl) ?_ | refine pufv ⟨tab_ok⟩ (by rfl) (by rfl) (by rfl) (by rfl) ?_ | refine opix (g := g) (off := 0 + n * 15) (sCar x) (fun w1 hH => car_at (hob hH (A := carsO lo (some ⟨g, 0, none⟩) G.cars.length c1 cs true) 0 rfl) hx) ⟨tab_ok⟩ (by rfl) (by rfl) (by simp only [Go.WideShapes.add_plain]; rfl) ?_ | refine back ⟨(n + 1, v), by show n + 1 ≤ _; omega, hb⟩ (wk ?_) ?_ | refine br_b (fun h => ?_) (fun h => ?_) | (exfalso; exact hA2 (by assumption) (by assumption)) | refine fin_s ?_))
     all_goals first | (show G.cars.length - (n + 1) < G.cars.length - n; omega) | skip
     all_goals (repeat' (first | exact trivial | rfl | ((conv => whnf); refine And.intro ?_ ?_)))
   ·obtain rfl : n = G.cars.length := by omega
    have hbI : bestI G.c cs a = v := by rw [bestI_eq (show cs.length = G.cars.length from hn2), hv]
    by_cases hvn : v < 0
    ·have he : asgN G.c G.waits G.cars (i + 1) = (ws, cs) := by rw [hs]; exact asg_none (p := (ws, cs)) ha hc (by rw [hbI]; omega)
     repeat' (first | refine gs_ ?_ | ((conv => whnf); first | intro b5 | refine bto ?_ | refine bfo ?_ | refine wr_i ?_ | refine back ⟨(i + 1, l, some ⟨g2, 0, none⟩, c3), by show i + 1 ≤ _; omega, hl3⟩ (wk ?_ (by rfl) (by rfl) (by show [carsO _ _ _ _ (asgN G.c G.waits G.cars (i + 1)).2 true, waitsO _ _ _ _ (asgN G.c G.waits G.cars (i + 1)).1 true] = _; rw [he])) ?_ | refine fin_s ?_))
     all_goals first | (show G.waits.length - (i + 1) < G.waits.length - i; omega) | skip
     all_goals (repeat' (first | exact trivial | rfl | ((conv => whnf); refine And.intro ?_ ?_)))
    ·obtain ⟨b, hvb⟩ : ∃ b : Nat, v = (b : Int) := ⟨v.toNat, by omega⟩
     have hbn : b < G.cars.length := by omega
     obtain ⟨y, hy⟩ : ∃ y, cs[b]? = some y := ⟨_, List.getElem?_eq_getElem (by omega)⟩
     subst hvb
     have he : asgN G.c G.waits G.cars (i + 1) = (ws.set i { a with ca := (b : Int) }, cs.set b (hallX a y)) := by rw [hs]; exact asg_some (p := (ws, cs)) ha hc hbI hy
     have hE : ∀ w, (waitsO l (some ⟨g2, 0, none⟩) G.waits.length c3 ws true).st w → Reads w w.heap.size 4 (some ⟨g2, 0, none⟩) G.waits.length (rowsOf waitL ws) := fun w h => own_reads h
     by_cases hwy : a.wy = 1
     ·have hyy : hallX a y = { y with su := bits .or .u64 y.su (bit a.fl) } := by unfold hallX haU haD; rw [if_pos hwy, if_neg (by omega)]
      repeat' (first | refine gq_ ?_ | ((conv => whnf); first | intro b5 | refine drA (id := 16) ⟨tab_ok⟩ [13, 22] ?_ | refine drA ⟨tab_ok⟩ [] ?_ | refine bto ?_ | refine bfo ?_ | refine wr_i ?_ | refine And.intro ?_ ?_ | (refine op_know (p := ∃ g5, A5 = some ⟨g5, 0, none⟩) (fun w1 hH => own_addr (hob hH (A := waitsO w.heap.size A5 G.waits.length c5 ws true) 2 rfl) (by omega)) (fun hA5 => ?_); obtain ⟨g5, rfl⟩ := hA5) | refine opiv ⟨tab_ok⟩ (by rfl) (by rfl) (by rfl) (by rfl) (by rfl) (by rfl) ⟨by omega, by omega⟩ ?_ | refine puiv ⟨tab_ok⟩ (by rfl) (by rfl) (by rfl) (by rfl) (by rfl) (by rfl) ⟨by omega, by omega⟩ ?_ | refine opfv ⟨tab_ok⟩ (by rfl) (by rfl) (by rfl) (by rfl) ?_ | refine pufv ⟨tab_ok⟩ (by rfl) (by rfl) (by rfl) (by rfl) ?_ | refine opb0 waitE (by rfl) Tryz.underlying32 (by kernel_rfl) (fun g0 => ?_) | refine opao 2 1 (e := 76) (lo := w.heap.size) (size := 4) (bytes := 32) (z := .agg #[.int .i64 0, .int .i64 0, .int .i64 0, .int .i64 0]) (A := rwO waitE w.heap.size (some ⟨g0, 0, none⟩) 0 0 [] true) (E := waitsO l (some ⟨g2, 0, none⟩) G.waits.length c3 ws true) (vals := []) (cells := rowsOf waitL ws) (zs := rowsOf waitL ws) (n2 := G.waits.length) (fun A' c' => waitsO w.heap.size A' G.waits.length c' ws true) (by rfl) (by rfl) (by rfl) (by rfl) (by rfl) rfl rfl (fun w h => h) (fun A' c' w h => h) (fun _ _ => rfl) hE Tryz.underlying32 (by kernel_rfl) rfl (by decide) (by decide) (waits_one _) (by omega) (fun w hH => hH.upd.size) (by omega) (by rfl) (fun A5 c5 => ?_) | refine opsc ⟨tab_ok⟩ 2 i 2 waitE (A := waitsO w.heap.size (some ⟨g5, 0, none⟩) G.waits.length c5 ws true) (waitsO w.heap.size (some ⟨g5, 0, none⟩) G.waits.length c5 (ws.set i { a with ca := (b : Int) }) true) a { a with ca := (b : Int) } (by rfl) (by rfl) (by simp only [Go.WideShapes.add_plain]; rfl) (by rfl) (by rfl) rfl (fun w h => h) ha (by decide) (by rfl) (fun w w' _ h _ => h) (List.mem_singleton.2 rfl) (fun g h => h) ?_ | refine br_t (beq_iff_eq.2 hwy) ?_ | refine callQ (f := 87) (.i .u64 (bit a.fl)) (fun w => bitR _ w) ?_ | refine opxc (g := g) (off := 0 + b * 15 + 12 + 1) (.i .u64 y.su) (fun w1 hH => cell_k (k := 13) (car_at (hob hH (A := carsO lo (some ⟨g, 0, none⟩) G.cars.length c1 cs true) 0 rfl) hy) rfl) ⟨tab_ok⟩ (by rfl) (by rfl) (by simp only [Go.WideShapes.add_plain]; rfl) ?_ | refine opsc ⟨tab_ok⟩ 0 b 13 carE (A := carsO lo (some ⟨g, 0, none⟩) G.cars.length c1 cs true) (carsO lo (some ⟨g, 0, none⟩) G.cars.length c1 (cs.set b { y with su := bits .or .u64 y.su (bit a.fl) }) true) y { y with su := bits .or .u64 y.su (bit a.fl) } (by rfl) (by rfl) (by simp only [Go.WideShapes.add_plain]; rfl) (by rfl) (by rfl) rfl (fun w h => h) hy (by decide) (by rfl) (fun w w' _ h _ => h) (List.mem_singleton.2 rfl) (fun g h => h) ?_ | refine back ⟨(i + 1, w.heap.size, some ⟨g5, 0, none⟩, c5), by show i + 1 ≤ _; omega, hlo⟩ (wkh [carsO lo (some ⟨g, 0, none⟩) G.cars.length c1 (cs.set b { y with su := bits .or .u64 y.su (bit a.fl) }) true, waitsO w.heap.size (some ⟨g5, 0, none⟩) G.waits.length c5 (ws.set i { a with ca := (b : Int) }) true] (fun w1 hH => hH.sub (List.Sublist.cons₂ _ (List.Sublist.cons _ (List.Sublist.refl _)))) (wk ?_ (by rfl) (by rfl) (by show [carsO _ _ _ _ (asgN G.c G.waits G.cars (i + 1)).2 true, waitsO _ _ _ _ (asgN G.c G.waits G.cars (i + 1)).1 true] = _; rw [he, hyy]))) ?_ | refine fin_s ?_))
      all_goals first | (show G.waits.length - (i + 1) < G.waits.length - i; omega) | skip
      all_goals (repeat' (first | exact trivial | rfl | ((conv => whnf); refine And.intro ?_ ?_)))
     ·have hwy2 : a.wy = 2 := by have := hka.2; omega
      have hyy : hallX a y = { y with sd := bits .or .u64 y.sd (bit a.fl) } := by unfold hallX haU haD; rw [if_neg hwy, if_pos hwy2]
      repeat' (first | refine gq_ ?_ | ((conv => whnf); first | intro b5 | refine drA (id := 17) ⟨tab_ok⟩ [13, 22] ?_ | refine drA ⟨tab_ok⟩ [] ?_ | refine bto ?_ | refine bfo ?_ | refine wr_i ?_ | refine And.intro ?_ ?_ | (refine op_know (p := ∃ g5, A5 = some ⟨g5, 0, none⟩) (fun w1 hH => own_addr (hob hH (A := waitsO w.heap.size A5 G.waits.length c5 ws true) 2 rfl) (by omega)) (fun hA5 => ?_); obtain ⟨g5, rfl⟩ := hA5) | refine opiv ⟨tab_ok⟩ (by rfl) (by rfl) (by rfl) (by rfl) (by rfl) (by rfl) ⟨by omega, by omega⟩ ?_ | refine puiv ⟨tab_ok⟩ (by rfl) (by rfl) (by rfl) (by rfl) (by rfl) (by rfl) ⟨by omega, by omega⟩ ?_ | refine opfv ⟨tab_ok⟩ (by rfl) (by rfl) (by rfl) (by rfl) ?_ | refine pufv ⟨tab_ok⟩ (by rfl) (by rfl) (by rfl) (by rfl) ?_ | refine opb0 waitE (by rfl) Tryz.underlying32 (by kernel_rfl) (fun g0 => ?_) | refine opao 2 1 (e := 76) (lo := w.heap.size) (size := 4) (bytes := 32) (z := .agg #[.int .i64 0, .int .i64 0, .int .i64 0, .int .i64 0]) (A := rwO waitE w.heap.size (some ⟨g0, 0, none⟩) 0 0 [] true) (E := waitsO l (some ⟨g2, 0, none⟩) G.waits.length c3 ws true) (vals := []) (cells := rowsOf waitL ws) (zs := rowsOf waitL ws) (n2 := G.waits.length) (fun A' c' => waitsO w.heap.size A' G.waits.length c' ws true) (by rfl) (by rfl) (by rfl) (by rfl) (by rfl) rfl rfl (fun w h => h) (fun A' c' w h => h) (fun _ _ => rfl) hE Tryz.underlying32 (by kernel_rfl) rfl (by decide) (by decide) (waits_one _) (by omega) (fun w hH => hH.upd.size) (by omega) (by rfl) (fun A5 c5 => ?_) | refine opsc ⟨tab_ok⟩ 2 i 2 waitE (A := waitsO w.heap.size (some ⟨g5, 0, none⟩) G.waits.length c5 ws true) (waitsO w.heap.size (some ⟨g5, 0, none⟩) G.waits.length c5 (ws.set i { a with ca := (b : Int) }) true) a { a with ca := (b : Int) } (by rfl) (by rfl) (by simp only [Go.WideShapes.add_plain]; rfl) (by rfl) (by rfl) rfl (fun w h => h) ha (by decide) (by rfl) (fun w w' _ h _ => h) (List.mem_singleton.2 rfl) (fun g h => h) ?_ | refine br_f (beq_eq_false_iff_ne.2 hwy) ?_ | refine callQ (f := 87) (.i .u64 (bit a.fl)) (fun w => bitR _ w) ?_ | refine opxc (g := g) (off := 0 + b * 15 + 12 + 2) (.i .u64 y.sd) (fun w1 hH => cell_k (k := 14) (car_at (hob hH (A := carsO lo (some ⟨g, 0, none⟩) G.cars.length c1 cs true) 0 rfl) hy) rfl) ⟨tab_ok⟩ (by rfl) (by rfl) (by simp only [Go.WideShapes.add_plain]; rfl) ?_ | refine opsc ⟨tab_ok⟩ 0 b 14 carE (A := carsO lo (some ⟨g, 0, none⟩) G.cars.length c1 cs true) (carsO lo (some ⟨g, 0, none⟩) G.cars.length c1 (cs.set b { y with sd := bits .or .u64 y.sd (bit a.fl) }) true) y { y with sd := bits .or .u64 y.sd (bit a.fl) } (by rfl) (by rfl) (by simp only [Go.WideShapes.add_plain]; rfl) (by rfl) (by rfl) rfl (fun w h => h) hy (by decide) (by rfl) (fun w w' _ h _ => h) (List.mem_singleton.2 rfl) (fun g h => h) ?_ | refine back ⟨(i + 1, w.heap.size, some ⟨g5, 0, none⟩, c5), by show i + 1 ≤ _; omega, hlo⟩ (wkh [carsO lo (some ⟨g, 0, none⟩) G.cars.length c1 (cs.set b { y with sd := bits .or .u64 y.sd (bit a.fl) }) true, waitsO w.heap.size (some ⟨g5, 0, none⟩) G.waits.length c5 (ws.set i { a with ca := (b : Int) }) true] (fun w1 hH => hH.sub (List.Sublist.cons₂ _ (List.Sublist.cons _ (List.Sublist.refl _)))) (wk ?_ (by rfl) (by rfl) (by show [carsO _ _ _ _ (asgN G.c G.waits G.cars (i + 1)).2 true, waitsO _ _ _ _ (asgN G.c G.waits G.cars (i + 1)).1 true] = _; rw [he, hyy]))) ?_ | refine fin_s ?_))
      all_goals first | (show G.waits.length - (i + 1) < G.waits.length - i; omega) | skip
      all_goals (repeat' (first | exact trivial | rfl | ((conv => whnf); refine And.intro ?_ ?_)))
  ·have he : asgN G.c G.waits G.cars (i + 1) = (ws, cs) := by rw [hs]; exact asg_no (p := (ws, cs)) ha hc
   repeat' (first | refine gs_ ?_ | ((conv => whnf); first | intro b | refine bto ?_ | refine bfo ?_ | refine wr_i ?_ | refine opiv ⟨tab_ok⟩ (by rfl) (by rfl) (by rfl) (by rfl) (by rfl) (by rfl) ⟨by omega, by omega⟩ ?_ | refine puiv ⟨tab_ok⟩ (by rfl) (by rfl) (by rfl) (by rfl) (by rfl) (by rfl) ⟨by omega, by omega⟩ ?_ | refine opfv ⟨tab_ok⟩ (by rfl) (by rfl) (by rfl) (by rfl) ?_ | refine pufv ⟨tab_ok⟩ (by rfl) (by rfl) (by rfl) (by rfl) ?_ | refine opix (g := g2) (off := 0 + i * 4) [.i .i64 a.fl, .i .i64 a.wy, .i .i64 a.ca, .i .i64 a.si] (fun w1 hH => wait_at (hob hH (A := waitsO l (some ⟨g2, 0, none⟩) G.waits.length c3 ws true) 1 rfl) ha) ⟨tab_ok⟩ (by rfl) (by rfl) (by simp only [Go.WideShapes.add_plain]; rfl) ?_ | refine back ⟨(i + 1, l, some ⟨g2, 0, none⟩, c3), by show i + 1 ≤ _; omega, hl3⟩ (wk ?_ (by rfl) (by rfl) (by show [carsO _ _ _ _ (asgN G.c G.waits G.cars (i + 1)).2 true, waitsO _ _ _ _ (asgN G.c G.waits G.cars (i + 1)).1 true] = _; rw [he])) ?_ | refine fin_s ?_))
   all_goals first | (show G.waits.length - (i + 1) < G.waits.length - i; omega) | skip
   all_goals (repeat' (first | exact trivial | rfl | ((conv => whnf); refine And.intro ?_ ?_)))
 ·obtain rfl : i = G.waits.length := by omega
  refine sm_run ⟨tab_ok⟩ ?_
  repeat' (first | refine gs_ ?_ | ((conv => whnf); first | intro b | refine bto ?_ | refine bfo ?_ | refine wr_i ?_ | refine fin_ro 0 1 (by rfl) (by rfl) (by rfl) (by rfl) h0 (Nat.le_refl _) hl3 (hlen _).2.symm (hlen _).1.symm (by rfl) (by rfl) (by rfl) | refine fin_s ?_))
end Rg
namespace Rg
open Go.RowKit Ba Mem En Mo Go.Proofs.YtpiiblkiddcgcaaGreat.Ty Go.Proofs.YtpiiblkiddcgcaaGreat.St Gr
open Ct (cfgA carA tkV tkF tkW tkS mayB_iff)
open Et (carsO car_at)
open Rf (tickR)
set_option maxRecDepth 100000
attribute [local irreducible] Go.Calls isW tkV tkF tkW tkS asgN bestI
set_option maxHeartbeats 4000000
theorem now_next {n : Int} (h0 : 0 ≤ n) (h1 : n ≤ 1000000) : nowV n = n + 1 := by
 unfold nowV
 have e : ∀ x : Int, 0 ≤ x → x ≤ 1000002 → Tm.cl x = x := fun x h2 h3 => by unfold Tm.cl; rw [if_neg (by omega), if_neg (by omega)]
 rw [e n h0 (by omega), e 1 (by omega) (by omega), e (n + 1) (by omega) (by omega)]
attribute [local irreducible] nowV
theorem tickRG {lo q T : Nat} {G : GrV} {P : RP} {w : World} (hg : RO lo q G P w) (hl : G.waits.length ≤ 10000) (hlc : G.cars.length ≤ 10000) (hpos : 0 < G.cars.length) (hS : ∀ x ∈ G.cars, SafeX G.c T x) (hT : T ≤ 1000000) (hk2 : ∀ a ∈ G.waits, okW a) (hWQ : WQ G.waits) (hn0 : 0 ≤ G.now) (hn1 : G.now ≤ 1000000) :
  Calls Tryz.prog 9 #[.pointer (some ⟨q, 0, none⟩)] w fun e w' => ∃ y : RP × Option Addr × Nat, e = .returned (.slice y.2.1 (tickP G).2.2.length y.2.2) ∧ RO lo q (tickG G) y.1 w' ∧ WaitsAt w.heap.size y.2.1 (tickP G).2.2.length y.2.2 (tickP G).2.2 w' ∧ Upd (FP q P) w w' ∧ (∀ g ∈ FP q y.1, g ∈ FP q P ∨ w.heap.size ≤ g) ∧ ∀ g ∈ blkOf y.2.1, w.heap.size ≤ g ∧ g ∉ FP q y.1 := by
 have h0 := hg.1
 have hlo : lo ≤ w.heap.size := Nat.le_of_lt (Nat.lt_of_le_of_lt h0 hg.2.1.lt)
 obtain ⟨A1, c1, A2, c2⟩ := P
 have hk1 : ∀ x ∈ G.cars, okT x := fun x hx => (hS x hx).ok hT
 have hnow := now_next hn0 hn1
 obtain ⟨D, hD⟩ : ∃ D, D = asgG { G with now := G.now + 1 } := ⟨_, rfl⟩
 have hDc : D.c = G.c := by rw [hD]; rfl
 have hDn : D.now = nowV G.now := by rw [hD, hnow]; rfl
 have hD1 : (asgN G.c G.waits G.cars G.waits.length).2 = D.cars := by rw [hD]; rfl
 have hD2 : (asgN G.c G.waits G.cars G.waits.length).1 = D.waits := by rw [hD]; rfl
 have hl1 : D.cars.length = G.cars.length := by rw [← hD1]; exact (asg_len G.c G.waits G.cars _).2
 have hl2 : D.waits.length = G.waits.length := by rw [← hD2]; exact (asg_len G.c G.waits G.cars _).1
 have hSD : ∀ x ∈ D.cars, SafeX D.c T x := by rw [← hD1, hDc]; exact asg_safe hS _
 have hWD : WQ D.waits := by rw [← hD2]; exact asg_WQ hWQ _
 have htp : tickP G = tkN D.c D.cars D.waits D.cars.length := by unfold tickP; rw [hD1, hD2, hDc, hl1]
 have htg : tickG G = ⟨D.c, (tickP G).1, (tickP G).2.1, D.now⟩ := by unfold tickG; rw [hDc, hDn]; unfold nowV; rfl
 have hlw : ∀ w1, Upd (FP q ⟨A1, c1, A2, c2⟩) w w1 → w.heap.size ≤ w1.heap.size := fun w1 h => h.size
 have hlw0 : lo ≤ w.heap.size := hlo
 have hcA : ∀ w1, Blk w1 q 72 (grpA { G with now := G.now + 1 } (.slice A1 G.cars.length c1) (.slice A2 G.waits.length c2)) → (pairO (carsO lo A1 G.cars.length c1 G.cars true) (waitsO lo A2 G.waits.length c2 G.waits true)).st w1 → Calls Tryz.prog 31 #[.pointer (some ⟨q, 0, none⟩)] w1 fun e w' => ∃ x : RP, e = .returned (.tuple #[]) ∧ Blk w' q 72 (grpA D (.slice x.A1 D.cars.length x.c1) (.slice x.A2 D.waits.length x.c2)) ∧ (pairO (carsO lo x.A1 D.cars.length x.c1 D.cars true) (waitsO lo x.A2 D.waits.length x.c2 D.waits true)).st w' ∧ Upd (q :: (blkOf A1 ++ blkOf A2)) w1 w' ∧ ∀ g ∈ (blkOf x.A1 ++ blkOf x.A2), g ∈ (blkOf A1 ++ blkOf A2) ∨ w1.heap.size ≤ g := fun w1 hB hA => by
  have hg1 : RO lo q { G with now := G.now + 1 } ⟨A1, c1, A2, c2⟩ w1 := ⟨h0, hB, hA.1, hA.2⟩
  have := assignR hg1 hl hlc hpos hk1 hk2 hWQ
  rw [← hD] at this
  exact this.mono (fun e w' h => h.parts)
 refine entH tab_ok (Hold.pair (hold_ro hg) rfl rfl) [.p 0 0] Tryz.func9 Tryz.ntmps9 rfl rfl ?_
 repeat' (first | refine gs_ ?_ | ((conv => whnf); first | refine br_t (decide_eq_true (show G.now < 1099511627776 by omega)) ?_ | refine wr (wrG _ (by omega) (by omega)) ?_ | refine fin_s ?_))
 conv => whnf
 refine callRO (f := 31) 0 0 (A := pairO (carsO lo A1 G.cars.length c1 G.cars true) (waitsO lo A2 G.waits.length c2 G.waits true)) (ι := RP) (fun _ => .t []) (fun P' => [.i .i64 D.c.ca, .i .i64 D.c.fl, .i .i64 D.c.ft, .i .i64 D.c.se, .i .i64 D.c.dr, .i .i64 D.c.dw, .i .i64 D.c.ho, .i .i64 D.c.re, .i .i64 D.c.yi, .i .i64 D.c.qu, .i .i64 D.c.qo, .i .i64 D.c.lo, .i .i64 D.c.sl, .i .i64 D.c.rt, .i .i64 D.c.cp, .i .i64 D.c.tr, .i .i64 D.c.de, .i .i64 D.c.wi, .v (.slice P'.A1 D.cars.length P'.c1), .v (.slice P'.A2 D.waits.length P'.c2), .i .i64 D.now]) (fun P' => pairO (carsO lo P'.A1 D.cars.length P'.c1 D.cars true) (waitsO lo P'.A2 D.waits.length P'.c2 D.waits true)) (fun w1 hH hB hA hne => ?_) (fun P' => ?_)
 ·refine (hcA w1 hB hA).mono (fun e w' h => ?_)
  exact h
 repeat' (first | refine gs_ ?_ | ((conv => whnf); first | refine fin_s ?_))
 conv => whnf
 obtain ⟨A1', c1', A2', c2'⟩ := P'
 have hpos2 : 0 < D.cars.length := by omega
 refine sm_know (p := ∃ g, A1' = some ⟨g, 0, none⟩) (fun w1 hH => own_addr (hob hH (A := pairO (carsO lo A1' D.cars.length c1' D.cars true) (waitsO lo A2' D.waits.length c2' D.waits true)) 0 rfl).1 hpos2) (fun hA1 => ?_)
 obtain ⟨g, rfl⟩ := hA1
 generalize c1' = c1
 obtain ⟨lw, hlwe⟩ : ∃ lw, lw = w.heap.size := ⟨_, rfl⟩
 rw [← hlwe] at hlw hlw0 ⊢
 refine sm_hold _ [carsO lo (some ⟨g, 0, none⟩) D.cars.length c1 D.cars true, waitsO lo A2' D.waits.length c2' D.waits true, waitsO lw none 0 0 [] true] (by rfl) (fun w1 hH => Hold.addObj (Hold.unpair hH rfl rfl (fun h1 h2 b hb => by
  rcases own_at h1 with ⟨h, _⟩ | ⟨g1, cur, h, _, B1, _⟩
  ·cases h
  ·cases h
   have e : b = g := by simpa [carsO, blkOf] using hb
   subst e
   exact own_ne_ty h2 B1 (by decide))) (waitsO lw none 0 0 [] true) (World.ownsRow_nil _ _ _ _) (by intro _ g hg; cases hg) (by intro r _ _ hg; cases hg) (by intro A hA _ g hg hg2; cases hg2)) ?_
 refine lpS ⟨tab_ok⟩ (ι := {y : Nat × Nat × Option Addr × Nat × Option Addr × Nat × List CarV × List WaitV × List WaitV // (y.1 ≤ D.cars.length ∧ lo ≤ y.2.1) ∧ tkN D.c D.cars D.waits y.1 = y.2.2.2.2.2.2}) (fun y => match y with | ⟨(n, l, A3, c3, Ao, co, tc, tw, ts), _⟩ => ⟨[(0, .p 0 0), (3, .v (.slice Ao ts.length co)), (4, .i .i64 (n : Int))], [⟨q, 72, true, 0, [], [.i .i64 D.c.ca, .i .i64 D.c.fl, .i .i64 D.c.ft, .i .i64 D.c.se, .i .i64 D.c.dr, .i .i64 D.c.dw, .i .i64 D.c.ho, .i .i64 D.c.re, .i .i64 D.c.yi, .i .i64 D.c.qu, .i .i64 D.c.qo, .i .i64 D.c.lo, .i .i64 D.c.sl, .i .i64 D.c.rt, .i .i64 D.c.cp, .i .i64 D.c.tr, .i .i64 D.c.de, .i .i64 D.c.wi, .v (.slice (some ⟨g, 0, none⟩) D.cars.length c1), .v (.slice A3 tw.length c3), .i .i64 D.now], [], true⟩], [carsO lo (some ⟨g, 0, none⟩) D.cars.length c1 tc true, waitsO l A3 tw.length c3 tw true, waitsO lw Ao ts.length co ts true]⟩) (fun y => D.cars.length - y.1.1) ⟨(0, lo, A2', c2', none, 0, D.cars, D.waits, []), ⟨Nat.zero_le _, Nat.le_refl _⟩, rfl⟩ (wk ?_) ?_
 ·repeat' (first | exact trivial | rfl | ((conv => whnf); refine And.intro ?_ ?_))
 rintro ⟨⟨n, l, A3, c3, Ao, co, tc, tw, ts⟩, ⟨hn, hl3⟩, hTN⟩
 have hn : n ≤ D.cars.length := hn
 have hl3 : lo ≤ l := hl3
 have hTN : tkN D.c D.cars D.waits n = (tc, tw, ts) := hTN
 have l1 : tc.length = D.cars.length := by have := tk_len D.c D.cars D.waits n; rw [hTN] at this; exact this
 have l2 : tw.length ≤ D.waits.length ∧ ts.length ≤ n := by have := tk_wl D.c D.cars D.waits n; rw [hTN] at this; exact this
 have hWn : WQ tw := by have := tkN_WQ (c := D.c) (cs := D.cars) hWD n; rw [hTN] at this; exact this
 by_cases hlt : n < D.cars.length
 ·obtain ⟨x, hx⟩ : ∃ x, tc[n]? = some x := ⟨_, List.getElem?_eq_getElem (by omega)⟩
  have hxD : D.cars[n]? = some x := by have := tk_at D.c D.cars D.waits n n (Nat.le_refl _); rw [hTN] at this; rw [← this]; exact hx
  have hSx := hSD x (List.mem_of_getElem? hxD)
  have hs : tkN D.c D.cars D.waits (n + 1) = tkStep D.c (tc, tw, ts) n := by rw [← hTN]; rfl
  obtain ⟨z, hz⟩ : ∃ z, z = tkV D.c x := ⟨_, rfl⟩
  have cT := tickR D.c x hSx.1 hSx.2.1.1 hSx.2.1.2.1 hSx.2.1.2.2 (by have := hSx.2.2.1; omega) (by have := hSx.2.2.2; omega)
  rw [← hz] at cT
  refine sm_know (p := 0 < tw.length → ∃ g2, A3 = some ⟨g2, 0, none⟩) (fun w1 hH h => own_addr (hob hH (A := waitsO l A3 tw.length c3 tw true) 1 rfl) h) (fun hA3 => ?_)
  refine sm_run ⟨tab_ok⟩ ?_
  repeat' (first | refine gq_ ?_ | ((conv => whnf); first | refine bto ?_ | refine bfo ?_ | refine wr_i ?_ | refine fin_s ?_))
  conv => whnf
  refine sm_meet (ι := Bool × Nat × Nat) (fun y => match y with | (false, b1, b2) => ⟨[(0, .p 0 0), (3, .v (.slice Ao ts.length co)), (4, .i .i64 (n : Int)), (5, .p 1 0), (6, .p 2 0), (7, .b (tkS x))], [⟨q, 72, true, 0, [], [.i .i64 D.c.ca, .i .i64 D.c.fl, .i .i64 D.c.ft, .i .i64 D.c.se, .i .i64 D.c.dr, .i .i64 D.c.dw, .i .i64 D.c.ho, .i .i64 D.c.re, .i .i64 D.c.yi, .i .i64 D.c.qu, .i .i64 D.c.qo, .i .i64 D.c.lo, .i .i64 D.c.sl, .i .i64 D.c.rt, .i .i64 D.c.cp, .i .i64 D.c.tr, .i .i64 D.c.de, .i .i64 D.c.wi, .v (.slice (some ⟨g, 0, none⟩) D.cars.length c1), .v (.slice A3 tw.length c3), .i .i64 D.now], [], true⟩, ⟨b1, 67, true, 0, [], (sCar z), [], true⟩, ⟨b2, 74, true, 0, [], [.i .i64 (tkF x), .i .i64 (tkW x)], [], true⟩], [carsO lo (some ⟨g, 0, none⟩) D.cars.length c1 tc true, waitsO l A3 tw.length c3 tw true, waitsO lw Ao ts.length co ts true]⟩ | (true, b1, b2) => ⟨[(0, .p 0 0), (3, .v (.slice Ao ts.length co)), (4, .i .i64 (n : Int)), (5, .p 2 0), (6, .p 1 0), (7, .b (tkS x))], [⟨q, 72, true, 0, [], [.i .i64 D.c.ca, .i .i64 D.c.fl, .i .i64 D.c.ft, .i .i64 D.c.se, .i .i64 D.c.dr, .i .i64 D.c.dw, .i .i64 D.c.ho, .i .i64 D.c.re, .i .i64 D.c.yi, .i .i64 D.c.qu, .i .i64 D.c.qo, .i .i64 D.c.lo, .i .i64 D.c.sl, .i .i64 D.c.rt, .i .i64 D.c.cp, .i .i64 D.c.tr, .i .i64 D.c.de, .i .i64 D.c.wi, .v (.slice (some ⟨g, 0, none⟩) D.cars.length c1), .v (.slice A3 tw.length c3), .i .i64 D.now], [], true⟩, ⟨b1, 74, true, 0, [], [.i .i64 (tkF x), .i .i64 (tkW x)], [], true⟩, ⟨b2, 67, true, 0, [], (sCar z), [], true⟩], [carsO lo (some ⟨g, 0, none⟩) D.cars.length c1 tc true, waitsO l A3 tw.length c3 tw true, waitsO lw Ao ts.length co ts true]⟩) ?_ ?_
  ·repeat' (first | refine gq_ ?_ | ((conv => whnf); first | ((fail_if_success (have := b1)); intro b1) | intro b2 | refine drA (id := 8) ⟨tab_ok⟩ [10] ?_ | refine bto ?_ | refine bfo ?_ | refine wr_i ?_ | refine And.intro ?_ ?_ | refine opiv ⟨tab_ok⟩ (by rfl) (by rfl) (by rfl) (by rfl) (by rfl) (by rfl) ⟨by omega, by omega⟩ ?_ | refine puiv ⟨tab_ok⟩ (by rfl) (by rfl) (by rfl) (by rfl) (by rfl) (by rfl) ⟨by omega, by omega⟩ ?_ | refine opfv ⟨tab_ok⟩ (by rfl) (by rfl) (by rfl) (by rfl) ?_ | refine pufv ⟨tab_ok⟩ (by rfl) (by rfl) (by rfl) (by rfl) ?_ | refine opix (g := g) (off := 0 + n * 15) (sCar x) (fun w1 hH => car_at (hob hH (A := carsO lo (some ⟨g, 0, none⟩) D.cars.length c1 tc true) 0 rfl) hx) ⟨tab_ok⟩ (by rfl) (by rfl) (by simp only [Go.WideShapes.add_plain]; rfl) ?_ | refine callS (f := 32) (.t [.a (sCar z), .a [.i .i64 (tkF x), .i .i64 (tkW x)], .b (tkS x)]) (cT) ?_ | refine meet (false, b1, b2) (wk ?_ (by rfl) (by rfl) (by rfl)) | refine meet (true, b1, b2) (wk ?_ (by rfl) (by rfl) (by rfl)) | refine fin_s ?_))
   all_goals (repeat' (first | exact trivial | rfl | ((conv => whnf); refine And.intro ?_ ?_)))
  rintro ⟨o, b1, b2⟩
  have heN : tkS x = false → tkN D.c D.cars D.waits (n + 1) = (tc.set n z, tw, ts) := fun hsv => by rw [hs, tkS_no hx hsv, hz]
  have heY : tkS x = true → tkN D.c D.cars D.waits (n + 1) = (tc.set n z, tw.filter (fun a => !isW (tkF x) (tkW x) a), ts ++ tw.filter (isW (tkF x) (tkW x))) := fun hsv => by rw [hs, tkS_part hWn.2 hx hsv, hz]
  cases o with
  | false =>
   cases hsv : tkS x with
   | false =>
    have heT := heN hsv
    repeat' (first | refine gq_ ?_ | ((conv => whnf); first | refine drA (id := 9) ⟨tab_ok⟩ [7] ?_ | refine drA ⟨tab_ok⟩ [] ?_ | refine bto ?_ | refine bfo ?_ | refine wr_i ?_ | refine And.intro ?_ ?_ | refine opiv ⟨tab_ok⟩ (by rfl) (by rfl) (by rfl) (by rfl) (by rfl) (by rfl) ⟨by omega, by omega⟩ ?_ | refine puiv ⟨tab_ok⟩ (by rfl) (by rfl) (by rfl) (by rfl) (by rfl) (by rfl) ⟨by omega, by omega⟩ ?_ | refine opfv ⟨tab_ok⟩ (by rfl) (by rfl) (by rfl) (by rfl) ?_ | refine pufv ⟨tab_ok⟩ (by rfl) (by rfl) (by rfl) (by rfl) ?_ | refine opst ⟨tab_ok⟩ 0 n carE z (sCar z) (g := g) (lo := lo) (n := D.cars.length) (c := c1) (ls := tc) (by rfl) (by rfl) (by simp only [Go.WideShapes.add_plain, Nat.zero_add]; rfl) (by rfl) (by rfl) (by rfl) (by omega) (by decide) (by rfl) ?_ | refine back ⟨(n + 1, l, A3, c3, Ao, co, tc.set n z, tw, ts), ⟨by show n + 1 ≤ _; omega, hl3⟩, heT⟩ (wk ?_) ?_ | refine fin_s ?_))
    all_goals first | (show D.cars.length - (n + 1) < D.cars.length - n; omega) | skip
    all_goals (repeat' (first | exact trivial | rfl | ((conv => whnf); refine And.intro ?_ ?_)))
   | true =>
    have heT := heY hsv
    repeat' (first | refine gq_ ?_ | ((conv => whnf); first | refine drA (id := 9) ⟨tab_ok⟩ [7] ?_ | refine drA ⟨tab_ok⟩ [] ?_ | refine bto ?_ | refine bfo ?_ | refine wr_i ?_ | refine And.intro ?_ ?_ | refine opiv ⟨tab_ok⟩ (by rfl) (by rfl) (by rfl) (by rfl) (by rfl) (by rfl) ⟨by omega, by omega⟩ ?_ | refine puiv ⟨tab_ok⟩ (by rfl) (by rfl) (by rfl) (by rfl) (by rfl) (by rfl) ⟨by omega, by omega⟩ ?_ | refine opfv ⟨tab_ok⟩ (by rfl) (by rfl) (by rfl) (by rfl) ?_ | refine pufv ⟨tab_ok⟩ (by rfl) (by rfl) (by rfl) (by rfl) ?_ | refine opst ⟨tab_ok⟩ 0 n carE z (sCar z) (g := g) (lo := lo) (n := D.cars.length) (c := c1) (ls := tc) (by rfl) (by rfl) (by simp only [Go.WideShapes.add_plain, Nat.zero_add]; rfl) (by rfl) (by rfl) (by rfl) (by omega) (by decide) (by rfl) ?_ | refine fin_s ?_))
    conv => whnf
    refine sm_hold _ [carsO lo (some ⟨g, 0, none⟩) D.cars.length c1 (tc.set n z) true, waitsO l A3 tw.length c3 tw true, waitsO lw Ao ts.length co ts true, waitsO lw none 0 0 [] true] (by rfl) (fun w1 hH => Hold.addObj (ob := [carsO lo (some ⟨g, 0, none⟩) D.cars.length c1 (tc.set n z) true, waitsO l A3 tw.length c3 tw true, waitsO lw Ao ts.length co ts true]) hH (waitsO lw none 0 0 [] true) (World.ownsRow_nil _ _ _ _) (by intro _ g hg; cases hg) (by intro r _ _ hg; cases hg) (by intro A hA _ g hg hg2; cases hg2)) ?_
    refine lp ⟨tab_ok⟩ (ι := {y : Nat × Option Addr × Nat × Option Addr × Nat × List WaitV × List WaitV // y.1 ≤ tw.length ∧ y.2.2.2.2.2.1 = (tw.take y.1).filter (fun a => !isW (tkF x) (tkW x) a) ∧ y.2.2.2.2.2.2 = ts ++ (tw.take y.1).filter (isW (tkF x) (tkW x))}) (fun y => match y with | ⟨(k, Ar, cr, Ap, cp, pr, po), _⟩ => ⟨[(0, .p 0 0), (3, .v (.slice Ap po.length cp)), (4, .i .i64 (n : Int)), (6, .p 2 0), (8, .v (.slice Ar pr.length cr)), (9, .i .i64 (k : Int))], [⟨q, 72, true, 0, [], [.i .i64 D.c.ca, .i .i64 D.c.fl, .i .i64 D.c.ft, .i .i64 D.c.se, .i .i64 D.c.dr, .i .i64 D.c.dw, .i .i64 D.c.ho, .i .i64 D.c.re, .i .i64 D.c.yi, .i .i64 D.c.qu, .i .i64 D.c.qo, .i .i64 D.c.lo, .i .i64 D.c.sl, .i .i64 D.c.rt, .i .i64 D.c.cp, .i .i64 D.c.tr, .i .i64 D.c.de, .i .i64 D.c.wi, .v (.slice (some ⟨g, 0, none⟩) D.cars.length c1), .v (.slice A3 tw.length c3), .i .i64 D.now], [], true⟩, ⟨b1, 67, true, 0, [], (sCar z), [], true⟩, ⟨b2, 74, true, 0, [], [.i .i64 (tkF x), .i .i64 (tkW x)], [], true⟩], [carsO lo (some ⟨g, 0, none⟩) D.cars.length c1 (tc.set n z) true, waitsO l A3 tw.length c3 tw true, waitsO lw Ap po.length cp po true, waitsO lw Ar pr.length cr pr true]⟩) (fun y => tw.length - y.1.1) ⟨(0, none, 0, Ao, co, [], ts), Nat.zero_le _, by simp, by simp⟩ (wk ?_) ?_
    ·repeat' (first | exact trivial | rfl | ((conv => whnf); refine And.intro ?_ ?_))
    rintro ⟨⟨k, Ar, cr, Ap, cp, pr, po⟩, hk, hpr, hpo⟩
    have hk : k ≤ tw.length := hk
    have hpr : pr = (tw.take k).filter (fun a => !isW (tkF x) (tkW x) a) := hpr
    have hpo : po = ts ++ (tw.take k).filter (isW (tkF x) (tkW x)) := hpo
    have hprl : pr.length ≤ 10000 := by rw [hpr]; have := List.length_filter_le (fun a => !isW (tkF x) (tkW x) a) (tw.take k); simp at this; omega
    have hpol : po.length ≤ 20000 := by rw [hpo, List.length_append]; have := List.length_filter_le (isW (tkF x) (tkW x)) (tw.take k); simp at this; omega
    by_cases hkl : k < tw.length
    ·obtain ⟨a, ha⟩ : ∃ a, tw[k]? = some a := ⟨_, List.getElem?_eq_getElem hkl⟩
     obtain ⟨g2, hA3⟩ := hA3 (by omega)
     subst hA3
     have hnx : tw.take (k + 1) = tw.take k ++ [a] := by rw [List.take_succ, ha]; rfl
     cases hW : isW (tkF x) (tkW x) a with
     | true =>
      have e1 : po ++ [a] = ts ++ (tw.take (k + 1)).filter (isW (tkF x) (tkW x)) := by rw [hnx, List.filter_append, List.filter_cons_of_pos hW, hpo, List.append_assoc]; rfl
      have e2 : pr = (tw.take (k + 1)).filter (fun a => !isW (tkF x) (tkW x) a) := by rw [hnx, List.filter_append, List.filter_cons_of_neg (by rw [hW]; decide), hpr]; simp
      have hE : ((a.fl == tkF x) && ((a.wy == tkW x) && true)) = true := by rw [Bool.and_true]; have h := hW; unfold isW at h; exact h
      repeat' (first | refine gq_ ?_ | ((conv => whnf); first | refine drA (id := 15) ⟨tab_ok⟩ [7] ?_ | refine drA ⟨tab_ok⟩ [] ?_ | refine bto ?_ | refine bfo ?_ | refine wr_i ?_ | refine And.intro ?_ ?_ | refine opiv ⟨tab_ok⟩ (by rfl) (by rfl) (by rfl) (by rfl) (by rfl) (by rfl) ⟨by omega, by omega⟩ ?_ | refine puiv ⟨tab_ok⟩ (by rfl) (by rfl) (by rfl) (by rfl) (by rfl) (by rfl) ⟨by omega, by omega⟩ ?_ | refine opfv ⟨tab_ok⟩ (by rfl) (by rfl) (by rfl) (by rfl) ?_ | refine pufv ⟨tab_ok⟩ (by rfl) (by rfl) (by rfl) (by rfl) ?_ | refine opix (g := g2) (off := 0 + k * 4 + 0) [.i .i64 a.fl, .i .i64 a.wy] (fun w1 hH => rng_sub (i := 0) (n := 2) (wait_at (hob hH (A := waitsO l (some ⟨g2, 0, none⟩) tw.length c3 tw true) 1 rfl) ha) rfl) ⟨tab_ok⟩ (by rfl) (by rfl) (by simp only [Go.WideShapes.add_plain]; rfl) ?_ | refine opix (g := g2) (off := 0 + k * 4) [.i .i64 a.fl, .i .i64 a.wy, .i .i64 a.ca, .i .i64 a.si] (fun w1 hH => wait_at (hob hH (A := waitsO l (some ⟨g2, 0, none⟩) tw.length c3 tw true) 1 rfl) ha) ⟨tab_ok⟩ (by rfl) (by rfl) (by simp only [Go.WideShapes.add_plain]; rfl) ?_ | refine opb1 (e := 76) ⟨tab_ok⟩ [.i .i64 a.fl, .i .i64 a.wy, .i .i64 a.ca, .i .i64 a.si] (by rfl) (by rfl) ?_ | intro b9 | refine br_t hE ?_ | refine opap 2 3 (e := 76) (lo := lw) (size := 4) (bytes := 32) (z := .agg #[.int .i64 0, .int .i64 0, .int .i64 0, .int .i64 0]) (A := waitsO lw Ap po.length cp po true) (vals := rowsOf waitL po) (cells := waitL a) (zs := rowsOf waitL (po ++ [a])) (n2 := (po ++ [a]).length) (fun B' d' => waitsO lw B' (po ++ [a]).length d' (po ++ [a]) true) (by rfl) (by rfl) (by rfl) (by rfl) rfl rfl (fun w h => h) (fun A' c' w h => h) (fun _ _ => rfl) (by rfl) (by rfl) (by rfl) (by rfl) Tryz.underlying32 (by kernel_rfl) rfl (by decide) (by decide) (waitL_one _) (by omega) (fun w1 hH => hlw w1 hH.upd) (by simp) (by rw [rowsOf_append, rowsOf_one]) (fun B' d' => ?_) | refine back ⟨(k + 1, Ar, cr, B', d', pr, po ++ [a]), by show k + 1 ≤ _; omega, e2, e1⟩ (wk ?_) ?_ | refine fin_s ?_))
      all_goals first | (show tw.length - (k + 1) < tw.length - k; omega) | skip
      all_goals (repeat' (first | exact trivial | rfl | ((conv => whnf); refine And.intro ?_ ?_)))
     | false =>
      have e1 : po = ts ++ (tw.take (k + 1)).filter (isW (tkF x) (tkW x)) := by rw [hnx, List.filter_append, List.filter_cons_of_neg (by rw [hW]; decide), hpo]; simp
      have e2 : pr ++ [a] = (tw.take (k + 1)).filter (fun a => !isW (tkF x) (tkW x) a) := by rw [hnx, List.filter_append, List.filter_cons_of_pos (by rw [hW]; rfl), hpr]; rfl
      have hE : ((a.fl == tkF x) && ((a.wy == tkW x) && true)) = false := by rw [Bool.and_true]; have h := hW; unfold isW at h; exact h
      repeat' (first | refine gq_ ?_ | ((conv => whnf); first | refine drA (id := 15) ⟨tab_ok⟩ [7] ?_ | refine drA ⟨tab_ok⟩ [] ?_ | refine bto ?_ | refine bfo ?_ | refine wr_i ?_ | refine And.intro ?_ ?_ | refine opiv ⟨tab_ok⟩ (by rfl) (by rfl) (by rfl) (by rfl) (by rfl) (by rfl) ⟨by omega, by omega⟩ ?_ | refine puiv ⟨tab_ok⟩ (by rfl) (by rfl) (by rfl) (by rfl) (by rfl) (by rfl) ⟨by omega, by omega⟩ ?_ | refine opfv ⟨tab_ok⟩ (by rfl) (by rfl) (by rfl) (by rfl) ?_ | refine pufv ⟨tab_ok⟩ (by rfl) (by rfl) (by rfl) (by rfl) ?_ | refine opix (g := g2) (off := 0 + k * 4 + 0) [.i .i64 a.fl, .i .i64 a.wy] (fun w1 hH => rng_sub (i := 0) (n := 2) (wait_at (hob hH (A := waitsO l (some ⟨g2, 0, none⟩) tw.length c3 tw true) 1 rfl) ha) rfl) ⟨tab_ok⟩ (by rfl) (by rfl) (by simp only [Go.WideShapes.add_plain]; rfl) ?_ | refine opix (g := g2) (off := 0 + k * 4) [.i .i64 a.fl, .i .i64 a.wy, .i .i64 a.ca, .i .i64 a.si] (fun w1 hH => wait_at (hob hH (A := waitsO l (some ⟨g2, 0, none⟩) tw.length c3 tw true) 1 rfl) ha) ⟨tab_ok⟩ (by rfl) (by rfl) (by simp only [Go.WideShapes.add_plain]; rfl) ?_ | refine opb1 (e := 76) ⟨tab_ok⟩ [.i .i64 a.fl, .i .i64 a.wy, .i .i64 a.ca, .i .i64 a.si] (by rfl) (by rfl) ?_ | intro b9 | refine br_f hE ?_ | refine opap 3 3 (e := 76) (lo := lw) (size := 4) (bytes := 32) (z := .agg #[.int .i64 0, .int .i64 0, .int .i64 0, .int .i64 0]) (A := waitsO lw Ar pr.length cr pr true) (vals := rowsOf waitL pr) (cells := waitL a) (zs := rowsOf waitL (pr ++ [a])) (n2 := (pr ++ [a]).length) (fun B' d' => waitsO lw B' (pr ++ [a]).length d' (pr ++ [a]) true) (by rfl) (by rfl) (by rfl) (by rfl) rfl rfl (fun w h => h) (fun A' c' w h => h) (fun _ _ => rfl) (by rfl) (by rfl) (by rfl) (by rfl) Tryz.underlying32 (by kernel_rfl) rfl (by decide) (by decide) (waitL_one _) (by omega) (fun w1 hH => hlw w1 hH.upd) (by simp) (by rw [rowsOf_append, rowsOf_one]) (fun B' d' => ?_) | refine back ⟨(k + 1, B', d', Ap, cp, pr ++ [a], po), by show k + 1 ≤ _; omega, e2, e1⟩ (wk ?_) ?_ | refine fin_s ?_))
      all_goals first | (show tw.length - (k + 1) < tw.length - k; omega) | skip
      all_goals (repeat' (first | exact trivial | rfl | ((conv => whnf); refine And.intro ?_ ?_)))
    ·obtain rfl : k = tw.length := by omega
     rw [List.take_length] at hpr hpo
     have heT2 : tkN D.c D.cars D.waits (n + 1) = (tc.set n z, pr, po) := by rw [heT, hpr, hpo]
     repeat' (first | refine gs_ ?_ | ((conv => whnf); first | refine bto ?_ | refine bfo ?_ | refine wr_i ?_ | refine back ⟨(n + 1, lw, Ar, cr, Ap, cp, tc.set n z, pr, po), ⟨by show n + 1 ≤ _; omega, hlw0⟩, heT2⟩ (wkh [carsO lo (some ⟨g, 0, none⟩) D.cars.length c1 (tc.set n z) true, waitsO lw Ar pr.length cr pr true, waitsO lw Ap po.length cp po true] (fun w1 hH => (hH.sub (List.Sublist.cons₂ _ (List.Sublist.cons _ (List.Sublist.refl _)))).perm (List.Perm.cons _ (List.Perm.swap _ _ _))) (wk ?_)) ?_ | refine fin_s ?_))
     all_goals first | (show D.cars.length - (n + 1) < D.cars.length - n; omega) | skip
     all_goals (repeat' (first | exact trivial | rfl | ((conv => whnf); refine And.intro ?_ ?_)))
  | true =>
   cases hsv : tkS x with
   | false =>
    have heT := heN hsv
    repeat' (first | refine gq_ ?_ | ((conv => whnf); first | refine drA (id := 9) ⟨tab_ok⟩ [7] ?_ | refine drA ⟨tab_ok⟩ [] ?_ | refine bto ?_ | refine bfo ?_ | refine wr_i ?_ | refine And.intro ?_ ?_ | refine opiv ⟨tab_ok⟩ (by rfl) (by rfl) (by rfl) (by rfl) (by rfl) (by rfl) ⟨by omega, by omega⟩ ?_ | refine puiv ⟨tab_ok⟩ (by rfl) (by rfl) (by rfl) (by rfl) (by rfl) (by rfl) ⟨by omega, by omega⟩ ?_ | refine opfv ⟨tab_ok⟩ (by rfl) (by rfl) (by rfl) (by rfl) ?_ | refine pufv ⟨tab_ok⟩ (by rfl) (by rfl) (by rfl) (by rfl) ?_ | refine opst ⟨tab_ok⟩ 0 n carE z (sCar z) (g := g) (lo := lo) (n := D.cars.length) (c := c1) (ls := tc) (by rfl) (by rfl) (by simp only [Go.WideShapes.add_plain, Nat.zero_add]; rfl) (by rfl) (by rfl) (by rfl) (by omega) (by decide) (by rfl) ?_ | refine back ⟨(n + 1, l, A3, c3, Ao, co, tc.set n z, tw, ts), ⟨by show n + 1 ≤ _; omega, hl3⟩, heT⟩ (wk ?_) ?_ | refine fin_s ?_))
    all_goals first | (show D.cars.length - (n + 1) < D.cars.length - n; omega) | skip
    all_goals (repeat' (first | exact trivial | rfl | ((conv => whnf); refine And.intro ?_ ?_)))
   | true =>
    have heT := heY hsv
    repeat' (first | refine gq_ ?_ | ((conv => whnf); first | refine drA (id := 9) ⟨tab_ok⟩ [7] ?_ | refine drA ⟨tab_ok⟩ [] ?_ | refine bto ?_ | refine bfo ?_ | refine wr_i ?_ | refine And.intro ?_ ?_ | refine opiv ⟨tab_ok⟩ (by rfl) (by rfl) (by rfl) (by rfl) (by rfl) (by rfl) ⟨by omega, by omega⟩ ?_ | refine puiv ⟨tab_ok⟩ (by rfl) (by rfl) (by rfl) (by rfl) (by rfl) (by rfl) ⟨by omega, by omega⟩ ?_ | refine opfv ⟨tab_ok⟩ (by rfl) (by rfl) (by rfl) (by rfl) ?_ | refine pufv ⟨tab_ok⟩ (by rfl) (by rfl) (by rfl) (by rfl) ?_ | refine opst ⟨tab_ok⟩ 0 n carE z (sCar z) (g := g) (lo := lo) (n := D.cars.length) (c := c1) (ls := tc) (by rfl) (by rfl) (by simp only [Go.WideShapes.add_plain, Nat.zero_add]; rfl) (by rfl) (by rfl) (by rfl) (by omega) (by decide) (by rfl) ?_ | refine fin_s ?_))
    conv => whnf
    refine sm_hold _ [carsO lo (some ⟨g, 0, none⟩) D.cars.length c1 (tc.set n z) true, waitsO l A3 tw.length c3 tw true, waitsO lw Ao ts.length co ts true, waitsO lw none 0 0 [] true] (by rfl) (fun w1 hH => Hold.addObj (ob := [carsO lo (some ⟨g, 0, none⟩) D.cars.length c1 (tc.set n z) true, waitsO l A3 tw.length c3 tw true, waitsO lw Ao ts.length co ts true]) hH (waitsO lw none 0 0 [] true) (World.ownsRow_nil _ _ _ _) (by intro _ g hg; cases hg) (by intro r _ _ hg; cases hg) (by intro A hA _ g hg hg2; cases hg2)) ?_
    refine lp ⟨tab_ok⟩ (ι := {y : Nat × Option Addr × Nat × Option Addr × Nat × List WaitV × List WaitV // y.1 ≤ tw.length ∧ y.2.2.2.2.2.1 = (tw.take y.1).filter (fun a => !isW (tkF x) (tkW x) a) ∧ y.2.2.2.2.2.2 = ts ++ (tw.take y.1).filter (isW (tkF x) (tkW x))}) (fun y => match y with | ⟨(k, Ar, cr, Ap, cp, pr, po), _⟩ => ⟨[(0, .p 0 0), (3, .v (.slice Ap po.length cp)), (4, .i .i64 (n : Int)), (6, .p 1 0), (8, .v (.slice Ar pr.length cr)), (9, .i .i64 (k : Int))], [⟨q, 72, true, 0, [], [.i .i64 D.c.ca, .i .i64 D.c.fl, .i .i64 D.c.ft, .i .i64 D.c.se, .i .i64 D.c.dr, .i .i64 D.c.dw, .i .i64 D.c.ho, .i .i64 D.c.re, .i .i64 D.c.yi, .i .i64 D.c.qu, .i .i64 D.c.qo, .i .i64 D.c.lo, .i .i64 D.c.sl, .i .i64 D.c.rt, .i .i64 D.c.cp, .i .i64 D.c.tr, .i .i64 D.c.de, .i .i64 D.c.wi, .v (.slice (some ⟨g, 0, none⟩) D.cars.length c1), .v (.slice A3 tw.length c3), .i .i64 D.now], [], true⟩, ⟨b1, 74, true, 0, [], [.i .i64 (tkF x), .i .i64 (tkW x)], [], true⟩, ⟨b2, 67, true, 0, [], (sCar z), [], true⟩], [carsO lo (some ⟨g, 0, none⟩) D.cars.length c1 (tc.set n z) true, waitsO l A3 tw.length c3 tw true, waitsO lw Ap po.length cp po true, waitsO lw Ar pr.length cr pr true]⟩) (fun y => tw.length - y.1.1) ⟨(0, none, 0, Ao, co, [], ts), Nat.zero_le _, by simp, by simp⟩ (wk ?_) ?_
    ·repeat' (first | exact trivial | rfl | ((conv => whnf); refine And.intro ?_ ?_))
    rintro ⟨⟨k, Ar, cr, Ap, cp, pr, po⟩, hk, hpr, hpo⟩
    have hk : k ≤ tw.length := hk
    have hpr : pr = (tw.take k).filter (fun a => !isW (tkF x) (tkW x) a) := hpr
    have hpo : po = ts ++ (tw.take k).filter (isW (tkF x) (tkW x)) := hpo
    have hprl : pr.length ≤ 10000 := by rw [hpr]; have := List.length_filter_le (fun a => !isW (tkF x) (tkW x) a) (tw.take k); simp at this; omega
    have hpol : po.length ≤ 20000 := by rw [hpo, List.length_append]; have := List.length_filter_le (isW (tkF x) (tkW x)) (tw.take k); simp at this; omega
    by_cases hkl : k < tw.length
    ·obtain ⟨a, ha⟩ : ∃ a, tw[k]? = some a := ⟨_, List.getElem?_eq_getElem hkl⟩
     obtain ⟨g2, hA3⟩ := hA3 (by omega)
     subst hA3
     have hnx : tw.take (k + 1) = tw.take k ++ [a] := by rw [List.take_succ, ha]; rfl
     cases hW : isW (tkF x) (tkW x) a with
     | true =>
      have e1 : po ++ [a] = ts ++ (tw.take (k + 1)).filter (isW (tkF x) (tkW x)) := by rw [hnx, List.filter_append, List.filter_cons_of_pos hW, hpo, List.append_assoc]; rfl
      have e2 : pr = (tw.take (k + 1)).filter (fun a => !isW (tkF x) (tkW x) a) := by rw [hnx, List.filter_append, List.filter_cons_of_neg (by rw [hW]; decide), hpr]; simp
      have hE : ((a.fl == tkF x) && ((a.wy == tkW x) && true)) = true := by rw [Bool.and_true]; have h := hW; unfold isW at h; exact h
      repeat' (first | refine gq_ ?_ | ((conv => whnf); first | refine drA (id := 15) ⟨tab_ok⟩ [7] ?_ | refine drA ⟨tab_ok⟩ [] ?_ | refine bto ?_ | refine bfo ?_ | refine wr_i ?_ | refine And.intro ?_ ?_ | refine opiv ⟨tab_ok⟩ (by rfl) (by rfl) (by rfl) (by rfl) (by rfl) (by rfl) ⟨by omega, by omega⟩ ?_ | refine puiv ⟨tab_ok⟩ (by rfl) (by rfl) (by rfl) (by rfl) (by rfl) (by rfl) ⟨by omega, by omega⟩ ?_ | refine opfv ⟨tab_ok⟩ (by rfl) (by rfl) (by rfl) (by rfl) ?_ | refine pufv ⟨tab_ok⟩ (by rfl) (by rfl) (by rfl) (by rfl) ?_ | refine opix (g := g2) (off := 0 + k * 4 + 0) [.i .i64 a.fl, .i .i64 a.wy] (fun w1 hH => rng_sub (i := 0) (n := 2) (wait_at (hob hH (A := waitsO l (some ⟨g2, 0, none⟩) tw.length c3 tw true) 1 rfl) ha) rfl) ⟨tab_ok⟩ (by rfl) (by rfl) (by simp only [Go.WideShapes.add_plain]; rfl) ?_ | refine opix (g := g2) (off := 0 + k * 4) [.i .i64 a.fl, .i .i64 a.wy, .i .i64 a.ca, .i .i64 a.si] (fun w1 hH => wait_at (hob hH (A := waitsO l (some ⟨g2, 0, none⟩) tw.length c3 tw true) 1 rfl) ha) ⟨tab_ok⟩ (by rfl) (by rfl) (by simp only [Go.WideShapes.add_plain]; rfl) ?_ | refine opb1 (e := 76) ⟨tab_ok⟩ [.i .i64 a.fl, .i .i64 a.wy, .i .i64 a.ca, .i .i64 a.si] (by rfl) (by rfl) ?_ | intro b9 | refine br_t hE ?_ | refine opap 2 3 (e := 76) (lo := lw) (size := 4) (bytes := 32) (z := .agg #[.int .i64 0, .int .i64 0, .int .i64 0, .int .i64 0]) (A := waitsO lw Ap po.length cp po true) (vals := rowsOf waitL po) (cells := waitL a) (zs := rowsOf waitL (po ++ [a])) (n2 := (po ++ [a]).length) (fun B' d' => waitsO lw B' (po ++ [a]).length d' (po ++ [a]) true) (by rfl) (by rfl) (by rfl) (by rfl) rfl rfl (fun w h => h) (fun A' c' w h => h) (fun _ _ => rfl) (by rfl) (by rfl) (by rfl) (by rfl) Tryz.underlying32 (by kernel_rfl) rfl (by decide) (by decide) (waitL_one _) (by omega) (fun w1 hH => hlw w1 hH.upd) (by simp) (by rw [rowsOf_append, rowsOf_one]) (fun B' d' => ?_) | refine back ⟨(k + 1, Ar, cr, B', d', pr, po ++ [a]), by show k + 1 ≤ _; omega, e2, e1⟩ (wk ?_) ?_ | refine fin_s ?_))
      all_goals first | (show tw.length - (k + 1) < tw.length - k; omega) | skip
      all_goals (repeat' (first | exact trivial | rfl | ((conv => whnf); refine And.intro ?_ ?_)))
     | false =>
      have e1 : po = ts ++ (tw.take (k + 1)).filter (isW (tkF x) (tkW x)) := by rw [hnx, List.filter_append, List.filter_cons_of_neg (by rw [hW]; decide), hpo]; simp
      have e2 : pr ++ [a] = (tw.take (k + 1)).filter (fun a => !isW (tkF x) (tkW x) a) := by rw [hnx, List.filter_append, List.filter_cons_of_pos (by rw [hW]; rfl), hpr]; rfl
      have hE : ((a.fl == tkF x) && ((a.wy == tkW x) && true)) = false := by rw [Bool.and_true]; have h := hW; unfold isW at h; exact h
      repeat' (first | refine gq_ ?_ | ((conv => whnf); first | refine drA (id := 15) ⟨tab_ok⟩ [7] ?_ | refine drA ⟨tab_ok⟩ [] ?_ | refine bto ?_ | refine bfo ?_ | refine wr_i ?_ | refine And.intro ?_ ?_ | refine opiv ⟨tab_ok⟩ (by rfl) (by rfl) (by rfl) (by rfl) (by rfl) (by rfl) ⟨by omega, by omega⟩ ?_ | refine puiv ⟨tab_ok⟩ (by rfl) (by rfl) (by rfl) (by rfl) (by rfl) (by rfl) ⟨by omega, by omega⟩ ?_ | refine opfv ⟨tab_ok⟩ (by rfl) (by rfl) (by rfl) (by rfl) ?_ | refine pufv ⟨tab_ok⟩ (by rfl) (by rfl) (by rfl) (by rfl) ?_ | refine opix (g := g2) (off := 0 + k * 4 + 0) [.i .i64 a.fl, .i .i64 a.wy] (fun w1 hH => rng_sub (i := 0) (n := 2) (wait_at (hob hH (A := waitsO l (some ⟨g2, 0, none⟩) tw.length c3 tw true) 1 rfl) ha) rfl) ⟨tab_ok⟩ (by rfl) (by rfl) (by simp only [Go.WideShapes.add_plain]; rfl) ?_ | refine opix (g := g2) (off := 0 + k * 4) [.i .i64 a.fl, .i .i64 a.wy, .i .i64 a.ca, .i .i64 a.si] (fun w1 hH => wait_at (hob hH (A := waitsO l (some ⟨g2, 0, none⟩) tw.length c3 tw true) 1 rfl) ha) ⟨tab_ok⟩ (by rfl) (by rfl) (by simp only [Go.WideShapes.add_plain]; rfl) ?_ | refine opb1 (e := 76) ⟨tab_ok⟩ [.i .i64 a.fl, .i .i64 a.wy, .i .i64 a.ca, .i .i64 a.si] (by rfl) (by rfl) ?_ | intro b9 | refine br_f hE ?_ | refine opap 3 3 (e := 76) (lo := lw) (size := 4) (bytes := 32) (z := .agg #[.int .i64 0, .int .i64 0, .int .i64 0, .int .i64 0]) (A := waitsO lw Ar pr.length cr pr true) (vals := rowsOf waitL pr) (cells := waitL a) (zs := rowsOf waitL (pr ++ [a])) (n2 := (pr ++ [a]).length) (fun B' d' => waitsO lw B' (pr ++ [a]).length d' (pr ++ [a]) true) (by rfl) (by rfl) (by rfl) (by rfl) rfl rfl (fun w h => h) (fun A' c' w h => h) (fun _ _ => rfl) (by rfl) (by rfl) (by rfl) (by rfl) Tryz.underlying32 (by kernel_rfl) rfl (by decide) (by decide) (waitL_one _) (by omega) (fun w1 hH => hlw w1 hH.upd) (by simp) (by rw [rowsOf_append, rowsOf_one]) (fun B' d' => ?_) | refine back ⟨(k + 1, B', d', Ap, cp, pr ++ [a], po), by show k + 1 ≤ _; omega, e2, e1⟩ (wk ?_) ?_ | refine fin_s ?_))
      all_goals first | (show tw.length - (k + 1) < tw.length - k; omega) | skip
      all_goals (repeat' (first | exact trivial | rfl | ((conv => whnf); refine And.intro ?_ ?_)))
    ·obtain rfl : k = tw.length := by omega
     rw [List.take_length] at hpr hpo
     have heT2 : tkN D.c D.cars D.waits (n + 1) = (tc.set n z, pr, po) := by rw [heT, hpr, hpo]
     repeat' (first | refine gs_ ?_ | ((conv => whnf); first | refine bto ?_ | refine bfo ?_ | refine wr_i ?_ | refine back ⟨(n + 1, lw, Ar, cr, Ap, cp, tc.set n z, pr, po), ⟨by show n + 1 ≤ _; omega, hlw0⟩, heT2⟩ (wkh [carsO lo (some ⟨g, 0, none⟩) D.cars.length c1 (tc.set n z) true, waitsO lw Ar pr.length cr pr true, waitsO lw Ap po.length cp po true] (fun w1 hH => (hH.sub (List.Sublist.cons₂ _ (List.Sublist.cons _ (List.Sublist.refl _)))).perm (List.Perm.cons _ (List.Perm.swap _ _ _))) (wk ?_)) ?_ | refine fin_s ?_))
     all_goals first | (show D.cars.length - (n + 1) < D.cars.length - n; omega) | skip
     all_goals (repeat' (first | exact trivial | rfl | ((conv => whnf); refine And.intro ?_ ?_)))
 ·obtain rfl : n = D.cars.length := by omega
  have hTP : tickP G = (tc, tw, ts) := htp.trans hTN
  refine sm_run ⟨tab_ok⟩ ?_
  repeat' (first | refine gs_ ?_ | ((conv => whnf); first | refine bto ?_ | refine bfo ?_ | refine wr_i ?_ | refine fin fun w' hH => ?_ | refine fin_s ?_))
  have oc : CarsAt lo (some ⟨g, 0, none⟩) D.cars.length c1 tc w' := hob hH (A := carsO lo (some ⟨g, 0, none⟩) D.cars.length c1 tc true) 0 rfl
  have ow : WaitsAt l A3 tw.length c3 tw w' := hob hH (A := waitsO l A3 tw.length c3 tw true) 1 rfl
  have oo : WaitsAt lw Ao ts.length co ts w' := hob hH (A := waitsO lw Ao ts.length co ts true) 2 rfl
  have hb : Blk w' q 72 (grpA D (.slice (some ⟨g, 0, none⟩) D.cars.length c1) (.slice A3 tw.length c3)) := by
   have h := hH.row 0 _ rfl rfl
   rw [rowA_nil rfl rfl] at h
   exact h
  rw [htg, hTP]
  refine ⟨(⟨some ⟨g, 0, none⟩, c1, A3, c3⟩, Ao, co), rfl, ⟨h0, ?_, ?_, own_base ow hl3⟩, oo, hH.upd, fun b hb' => ?_, fun b hb' => ⟨?_, fun hb2 => ?_⟩⟩
  ·show Blk w' q _ (grpA _ (.slice _ tc.length c1) _)
   rw [l1]; exact hb
  ·show CarsAt lo _ tc.length c1 tc w'
   rw [l1]; exact oc
  ·rcases List.mem_cons.1 hb' with rfl | hb'
   ·have := (hH.wf 0 _ rfl rfl).2.2 rfl
    rw [hlwe]; exact this
   ·rcases List.mem_append.1 hb' with h | h
    ·have := hH.own (carsO lo (some ⟨g, 0, none⟩) D.cars.length c1 tc true) (List.mem_cons_self ..) rfl b h
     rw [hlwe]; exact this
    ·have := hH.own (waitsO l A3 tw.length c3 tw true) (List.mem_cons_of_mem _ (List.mem_cons_self ..)) rfl b h
     rw [hlwe]; exact this
  ·exact own_low oo b hb'
  ·rcases List.mem_cons.1 hb2 with rfl | hb2
   ·exact own_ne_ty oo hb (by decide) hb'
   ·have dd := hH.dis
    rcases List.mem_append.1 hb2 with h | h
    ·exact (List.pairwise_cons.1 dd).1 (waitsO lw Ao ts.length co ts true) (List.mem_cons_of_mem _ (List.mem_cons_self ..)) (.inl rfl) b h hb'
    ·exact (List.pairwise_cons.1 (List.pairwise_cons.1 dd).2).1 (waitsO lw Ao ts.length co ts true) (List.mem_cons_self ..) (.inl rfl) b h hb'
end Rg
namespace Go16
open Go.RowKit Ba Mem
structure OpV where
 k : Int
 a : Int
 b : Int
 y : Bool
def opC (x : OpV) : List Value := [.int .i64 x.k, .int .i64 x.a, .int .i64 x.b, .bool x.y]
instance : Inhabited OpV := ⟨⟨0, 0, 0, false⟩⟩
section
variable {H : Type} {enc : TypeId × Value → H} {w : World} {base : Nat} {spare : Nat → Bool} {held : Bool}
set_option maxRecDepth 100000 in
theorem op_of {fuel : Nat} {cs : List Value} {x : DataW H × List MemPlace} (h : DataW.trod enc Tryz.prog w base spare held fuel 30 cs = some x) : ∃ l : OpV, cs = opC l := by
 have e1 : Tryz.prog.cellsOf 3 = 1 := by kernel_rfl
 have eb : Tryz.prog.cellsOf 4 = 1 := by kernel_rfl
 obtain ⟨xs, n, rfl, _, hl, hx, hf⟩ := DataW.trod_struct Tryz.underlying30 h
 have hl' : cs.length = 4 := hl.trans (by kernel_rfl)
 match cs, hl' with
 | [a0, a1, a2, a3], _ =>
  have hx' : xs.length = 4 := hx
  match xs, hx' with
  | [y0, y1, y2, y3], _ =>
   have g0 := hf 0 _ rfl
   have g1 := hf 1 _ rfl
   have g2 := hf 2 _ rfl
   have g3 := hf 3 _ rfl
   simp [e1, eb] at g0 g1 g2 g3
   obtain ⟨v0, q0, _⟩ := DataW.trod_int Tryz.underlying3 g0
   obtain ⟨v1, q1, _⟩ := DataW.trod_int Tryz.underlying3 g1
   obtain ⟨v2, q2, _⟩ := DataW.trod_int Tryz.underlying3 g2
   obtain ⟨v3, q3, _⟩ := DataW.trod_bool Tryz.underlying4 g3
   simp at q0 q1 q2 q3
   exact ⟨⟨v0, v1, v2, v3⟩, by simp [opC, *]⟩
end
end Go16
namespace En
open Go.RowKit Ba Mem
def Ek.Rd {α : Type} (E : Ek α) (a : Option Addr) (n : Nat) (ls : Nat → α) (w : World) : Prop :=
 n = 0 ∨ ∃ b off, a = some ⟨b, off, none⟩ ∧ b < w.heap.size ∧ ∀ i, i < n → ∀ j v, (E.c (ls i))[j]? = some v → w.cell? ⟨b, off + i * E.k + j, none⟩ = some v
theorem upd_cell {T : List Nat} {w w' : World} {b i : Nat} {v : Value} (k : Upd T w w') (hb : b < w.heap.size) (hT : b ∉ T) (h : w.cell? ⟨b, i, none⟩ = some v) : w'.cell? ⟨b, i, none⟩ = some v := by
 have := k.block b hb hT
 unfold World.cell? at h ⊢
 rw [this]; exact h
def rdF (a : Option Addr) (n : Nat) : List Nat := match n with | 0 => [] | _ + 1 => blkOf a
def rdO {α : Type} (E : Ek α) (a : Option Addr) (n : Nat) (ls : Nat → α) : Asr := ⟨rdF a n, false, E.Rd a n ls, fun k h hs => by
 rcases hs with rfl | ⟨b, off, rfl, hb, hc⟩
 ·exact .inl rfl
 ·cases n with
  | zero => exact .inl rfl
  | succ n => exact .inr ⟨b, off, rfl, Nat.lt_of_lt_of_le hb k.size, fun i hi j v hj => upd_cell k hb (h b (by simp [rdF, blkOf])) (hc i hi j v hj)⟩, fun h g hg => by
 cases n with
 | zero => cases hg
 | succ n =>
  rcases h with h | ⟨b, off, rfl, hb, hc⟩
  ·cases h
  ·have : g = b := by simpa [rdF, blkOf] using hg
   omega⟩
theorem Ek.rd_addr {α : Type} {E : Ek α} {a : Option Addr} {n : Nat} {ls : Nat → α} {w : World} (h : E.Rd a n ls w) : ∃ b off, 0 < n → a = some ⟨b, off, none⟩ := by
 rcases h with rfl | ⟨b, off, rfl, _⟩
 ·exact ⟨0, 0, fun h => by omega⟩
 ·exact ⟨b, off, fun _ => rfl⟩
theorem Ek.rd_rng {α : Type} {E : Ek α} {b off n k : Nat} {ls : Nat → α} {w : World} (h : E.Rd (some ⟨b, off, none⟩) n ls w) (hk : k < n) : w.rangeAt b (off + k * E.k) (E.c (ls k)) := fun j v hj => by
 rcases h with rfl | ⟨b', off', e, _, hc⟩
 ·omega
 ·cases e; exact hc k hk j v hj
end En
namespace Rg
open Go.RowKit Ba Mem En
open Go16 (OpV opC op_of)
def gopE : Ek OpV := ⟨30, 4, opC, fun _ => rfl, by
 intro a u hu
 simp only [opC, List.mem_cons, List.not_mem_nil, or_false] at hu
 rcases hu with rfl | rfl | rfl | rfl <;> rfl⟩
set_option maxRecDepth 100000
section
variable {H : Type} {enc : TypeId × Value → H} {w : World} {base : Nat} {spare : Nat → Bool} {held : Bool}
theorem gop_open {fuel : Nat} {a : Option Addr} {len cap : Nat} {x : DataW H × List MemPlace} (h : DataW.trod enc Tryz.prog w base spare held fuel 24 [.slice a len cap] = some x) : ∃ ls, gopE.Rd a len ls w ∧ len ≤ 9223372036854775807 := by
 have ce : Tryz.prog.cellsOf 30 = 4 := by kernel_rfl
 rcases Go.Deep.open_slice Tryz.underlying24 h with ⟨hcs, _⟩ | ⟨a', len', cap', m, n, D, Pl, hcs, hb, hlc, hcm, hm, _, hx⟩
 ·simp at hcs
  obtain ⟨rfl, rfl, rfl⟩ := hcs
  exact ⟨default, .inl rfl, by omega⟩
 ·simp at hcs
  obtain ⟨rfl, rfl, rfl⟩ := hcs
  have hlm : len ≤ m := by rw [hm]; split <;> omega
  have each : ∀ i, i < len → ∃ l : OpV, ∀ j v, (opC l)[j]? = some v → w.cell? ((a'.add (i * 4)).add j) = some v := by
   intro i hi
   obtain ⟨cs', h1, h2⟩ := hx i (by omega)
   rw [ce] at h1
   obtain ⟨_, hlen, hcell⟩ := World.cells?_some h1
   obtain ⟨l, rfl⟩ := op_of h2
   refine ⟨l, fun j v hj => ?_⟩
   have hj9 : j < 4 := by
    obtain ⟨hlt, _⟩ := List.getElem?_eq_some_iff.1 hj
    simpa [opC] using hlt
   rw [hcell j hj9, hj]
  obtain ⟨ls, hls⟩ := Go.Deep.choose_lt each
  refine ⟨ls, ?_, by unfold maxLen at hcm; omega⟩
  rcases Nat.eq_zero_or_pos len with h0 | h0
  ·exact .inl h0
  ·obtain ⟨b, off, idx⟩ := a'
   have c0 := hls 0 h0 0 _ rfl
   cases idx with
   | none =>
    rw [Go.WideShapes.add_plain, Go.WideShapes.add_plain] at c0
    refine .inr ⟨b, off, rfl, World.block_lt_of_cell? _ _ c0, fun i hi j v hj => ?_⟩
    have := hls i hi j v hj
    rw [Go.WideShapes.add_plain, Go.WideShapes.add_plain] at this
    exact this
   | some q =>
    exfalso
    simp [World.cell?, Addr.add] at c0
    split at c0 <;> simp at c0
end
end Rg
namespace Rg
open Go.RowKit Ba Mem En Mo Go.Proofs.YtpiiblkiddcgcaaGreat.Ty Go.Proofs.YtpiiblkiddcgcaaGreat.St Gr
open Ct (cfgA carA mayB_iff)
open Et (carsO car_at)
open Go16 (OpV opC)
set_option maxRecDepth 100000
attribute [local irreducible] Go.Calls Gr.hallR Gr.pressR Gr.loadR Gr.curtR Gr.faultR Gr.takeR Gr.aimR Gr.giveR
set_option maxHeartbeats 1000000
theorem GO.lt' {lo q : Nat} {G : GrV} {S : List Nat} {w : World} (h : GO lo q G S w) : ∀ g ∈ S, g < w.heap.size := by
 obtain ⟨h0, A1, c1, A2, c2, rfl, B, O1, O2⟩ := h
 intro g hg
 rcases List.mem_cons.1 hg with rfl | hg
 ·exact B.lt
 ·exact (List.mem_append.1 hg).elim (own_lt O1 g) (own_lt O2 g)
def gG (lo q : Nat) (G : GrV) (S : List Nat) (rw : Bool) : Asr := ⟨S, rw, GO lo q G S, fun k h hs => hs.upd k h, fun h => GO.lt' h⟩
theorem hold_gG {lo q n : Nat} {G : GrV} {S : List Nat} {w : World} (h : GO lo q G S w) : Hold ⟨Tryz.prog, tab, S, w, n, []⟩ [] [gG lo q G S true] w :=
 Hold.addObj (ob := []) (Hold.nil _ tab S n w) (gG lo q G S true) h (fun _ g hg => .inl hg) (by intro r hr; cases hr) (by intro A hA; cases hA)
def GX (lo q : Nat) (S : List Nat) (w : World) (v : Value) (G : GrV) (e : Ending) (w' : World) : Prop := ∃ S' : List Nat, e = .returned v ∧ GO lo q G S' w' ∧ Upd S w w' ∧ ∀ g ∈ S', g ∈ S ∨ w.heap.size ≤ g
theorem toGX {lo q : Nat} {S : List Nat} {w w' : World} {v : Value} {G : GrV} {e : Ending} (h : e = .returned v ∧ ∃ S', GO lo q G S' w' ∧ Upd S w w' ∧ ∀ g ∈ S', g ∈ S ∨ w.heap.size ≤ g) : GX lo q S w v G e w' := by
 obtain ⟨h1, S', h2, h3, h4⟩ := h
 exact ⟨S', h1, h2, h3, h4⟩
theorem fin_gx {lo q n : Nat} {G : GrV} {S S' : List Nat} {w : World} {V : Value} {v : SV} {st : St} (hi : st.ob[0]? = some (gG lo q G S' true)) (hv : den st.m v = V) : Fin ⟨Tryz.prog, tab, S, w, n, []⟩ (GX lo q S w V G) v st :=
 fin fun w' hH => ⟨S', by rw [hv], hob hH 0 hi, hH.upd, hH.own _ (List.mem_of_getElem? hi) rfl⟩
theorem doG {lo q : Nat} {G : GrV} {S : List Nat} {w : World} (hG : GO lo q G S w) (hl : G.waits.length ≤ 10000) (hRs : ∀ x ∈ G.cars, R x.sp ∧ R x.su ∧ R x.sd) (k a b : Int) (y : Bool) : Calls Tryz.prog 11 #[.pointer (some ⟨q, 0, none⟩), .agg #[.int .i64 k, .int .i64 a, .int .i64 b, .bool y]] w (GX lo q S w (.int .i64 (doR G k a b y).2) (doR G k a b y).1) := by
 by_cases h1 : k = 1
 ·subst h1
  obtain ⟨Q, hQ⟩ : ∃ Q, Q = Gr.hallR G a b := ⟨_, rfl⟩
  rw [show doR G 1 a b y = Q from hQ.symm]
  refine entH tab_ok (hold_gG hG) [.v (.pointer (some ⟨q, 0, none⟩)), .a [.i .i64 1, .i .i64 a, .i .i64 b, .b y]] Tryz.func11 Tryz.ntmps11 rfl rfl ?_
  repeat' (first | refine gs_ ?_ | ((conv => whnf); first | intro b1 | refine callO (f := 36) (A := gG lo q G S true) 0 (ι := List Nat) (fun _ => .i .i64 Q.2) (fun S' => gG lo q Q.1 S' true) (fun w1 hH hG => by subst hQ; exact (hallG hG (by omega) a b).mono (fun e w' h => toGX h)) (fun S' => ?_) | refine fin_gx (by rfl) (by rfl) | refine fin_s ?_))
 by_cases h2 : k = 2
 ·subst h2
  obtain ⟨Q, hQ⟩ : ∃ Q, Q = Gr.pressR G a b := ⟨_, rfl⟩
  rw [show doR G 2 a b y = Q from hQ.symm]
  refine entH tab_ok (hold_gG hG) [.v (.pointer (some ⟨q, 0, none⟩)), .a [.i .i64 2, .i .i64 a, .i .i64 b, .b y]] Tryz.func11 Tryz.ntmps11 rfl rfl ?_
  repeat' (first | refine gs_ ?_ | ((conv => whnf); first | intro b1 | refine callO (f := 37) (A := gG lo q G S true) 0 (ι := List Nat) (fun _ => .i .i64 Q.2) (fun S' => gG lo q Q.1 S' true) (fun w1 hH hG => by subst hQ; exact (pressG hG a b).mono (fun e w' h => toGX h)) (fun S' => ?_) | refine fin_gx (by rfl) (by rfl) | refine fin_s ?_))
 by_cases h3 : k = 3
 ·subst h3
  obtain ⟨Q, hQ⟩ : ∃ Q, Q = Gr.loadR G a b := ⟨_, rfl⟩
  rw [show doR G 3 a b y = Q from hQ.symm]
  refine entH tab_ok (hold_gG hG) [.v (.pointer (some ⟨q, 0, none⟩)), .a [.i .i64 3, .i .i64 a, .i .i64 b, .b y]] Tryz.func11 Tryz.ntmps11 rfl rfl ?_
  repeat' (first | refine gs_ ?_ | ((conv => whnf); first | intro b1 | refine callO (f := 38) (A := gG lo q G S true) 0 (ι := List Nat) (fun _ => .i .i64 Q.2) (fun S' => gG lo q Q.1 S' true) (fun w1 hH hG => by subst hQ; exact (loadG hG a b).mono (fun e w' h => toGX h)) (fun S' => ?_) | refine fin_gx (by rfl) (by rfl) | refine fin_s ?_))
 by_cases h4 : k = 4
 ·subst h4
  obtain ⟨Q, hQ⟩ : ∃ Q, Q = Gr.curtR G a y := ⟨_, rfl⟩
  rw [show doR G 4 a b y = Q from hQ.symm]
  refine entH tab_ok (hold_gG hG) [.v (.pointer (some ⟨q, 0, none⟩)), .a [.i .i64 4, .i .i64 a, .i .i64 b, .b y]] Tryz.func11 Tryz.ntmps11 rfl rfl ?_
  repeat' (first | refine gs_ ?_ | ((conv => whnf); first | intro b1 | refine callO (f := 39) (A := gG lo q G S true) 0 (ι := List Nat) (fun _ => .i .i64 Q.2) (fun S' => gG lo q Q.1 S' true) (fun w1 hH hG => by subst hQ; exact (curtG hG a y).mono (fun e w' h => toGX h)) (fun S' => ?_) | refine fin_gx (by rfl) (by rfl) | refine fin_s ?_))
 by_cases h5 : k = 5
 ·subst h5
  obtain ⟨Q, hQ⟩ : ∃ Q, Q = Gr.faultR G a y := ⟨_, rfl⟩
  rw [show doR G 5 a b y = Q from hQ.symm]
  refine entH tab_ok (hold_gG hG) [.v (.pointer (some ⟨q, 0, none⟩)), .a [.i .i64 5, .i .i64 a, .i .i64 b, .b y]] Tryz.func11 Tryz.ntmps11 rfl rfl ?_
  repeat' (first | refine gs_ ?_ | ((conv => whnf); first | intro b1 | refine callO (f := 40) (A := gG lo q G S true) 0 (ι := List Nat) (fun _ => .i .i64 Q.2) (fun S' => gG lo q Q.1 S' true) (fun w1 hH hG => by subst hQ; exact (faultG hG (by omega) a y).mono (fun e w' h => toGX h)) (fun S' => ?_) | refine fin_gx (by rfl) (by rfl) | refine fin_s ?_))
 by_cases h6 : k = 6
 ·subst h6
  obtain ⟨Q, hQ⟩ : ∃ Q, Q = Gr.takeR G a b := ⟨_, rfl⟩
  rw [show doR G 6 a b y = Q from hQ.symm]
  refine entH tab_ok (hold_gG hG) [.v (.pointer (some ⟨q, 0, none⟩)), .a [.i .i64 6, .i .i64 a, .i .i64 b, .b y]] Tryz.func11 Tryz.ntmps11 rfl rfl ?_
  repeat' (first | refine gs_ ?_ | ((conv => whnf); first | intro b1 | refine callO (f := 41) (A := gG lo q G S true) 0 (ι := List Nat) (fun _ => .i .i64 Q.2) (fun S' => gG lo q Q.1 S' true) (fun w1 hH hG => by subst hQ; exact (takeG hG hRs a b).mono (fun e w' h => toGX h)) (fun S' => ?_) | refine fin_gx (by rfl) (by rfl) | refine fin_s ?_))
 by_cases h7 : k = 7
 ·subst h7
  obtain ⟨Q, hQ⟩ : ∃ Q, Q = Gr.aimR G a b y := ⟨_, rfl⟩
  rw [show doR G 7 a b y = Q from hQ.symm]
  refine entH tab_ok (hold_gG hG) [.v (.pointer (some ⟨q, 0, none⟩)), .a [.i .i64 7, .i .i64 a, .i .i64 b, .b y]] Tryz.func11 Tryz.ntmps11 rfl rfl ?_
  repeat' (first | refine gs_ ?_ | ((conv => whnf); first | intro b1 | refine callO (f := 42) (A := gG lo q G S true) 0 (ι := List Nat) (fun _ => .i .i64 Q.2) (fun S' => gG lo q Q.1 S' true) (fun w1 hH hG => by subst hQ; exact (aimG hG a b y).mono (fun e w' h => toGX h)) (fun S' => ?_) | refine fin_gx (by rfl) (by rfl) | refine fin_s ?_))
 by_cases h8 : k = 8
 ·subst h8
  obtain ⟨Q, hQ⟩ : ∃ Q, Q = Gr.giveR G a := ⟨_, rfl⟩
  rw [show doR G 8 a b y = Q from hQ.symm]
  refine entH tab_ok (hold_gG hG) [.v (.pointer (some ⟨q, 0, none⟩)), .a [.i .i64 8, .i .i64 a, .i .i64 b, .b y]] Tryz.func11 Tryz.ntmps11 rfl rfl ?_
  repeat' (first | refine gs_ ?_ | ((conv => whnf); first | intro b1 | refine callO (f := 43) (A := gG lo q G S true) 0 (ι := List Nat) (fun _ => .i .i64 Q.2) (fun S' => gG lo q Q.1 S' true) (fun w1 hH hG => by subst hQ; exact (giveG hG a).mono (fun e w' h => toGX h)) (fun S' => ?_) | refine fin_gx (by rfl) (by rfl) | refine fin_s ?_))
 rw [show doR G k a b y = (G, 0) by unfold doR; rw [if_neg h1, if_neg h2, if_neg h3, if_neg h4, if_neg h5, if_neg h6, if_neg h7, if_neg h8]]
 refine entH tab_ok (hold_gG hG) [.v (.pointer (some ⟨q, 0, none⟩)), .a [.i .i64 k, .i .i64 a, .i .i64 b, .b y]] Tryz.func11 Tryz.ntmps11 rfl rfl ?_
 repeat' (first | refine gs_ ?_ | ((conv => whnf); first | intro b1 | refine br_f (beq_eq_false_iff_ne.2 h1) ?_ | refine br_f (beq_eq_false_iff_ne.2 h2) ?_ | refine br_f (beq_eq_false_iff_ne.2 h3) ?_ | refine br_f (beq_eq_false_iff_ne.2 h4) ?_ | refine br_f (beq_eq_false_iff_ne.2 h5) ?_ | refine br_f (beq_eq_false_iff_ne.2 h6) ?_ | refine br_f (beq_eq_false_iff_ne.2 h7) ?_ | refine br_f (beq_eq_false_iff_ne.2 h8) ?_ | refine fin_gx (by rfl) (by rfl) | refine fin_s ?_))
theorem modelG {lo q : Nat} {G : GrV} {P : RP} {w : World} (hR : RO lo q G P w) (hl : G.waits.length ≤ 10000) (hmo : ∀ x ∈ G.cars, x.mo = 0 ∨ x.mo = 1) (hRs : ∀ x ∈ G.cars, R x.sp ∧ R x.su ∧ R x.sd) (k a b : Int) (y : Bool) : Calls Tryz.prog 12 #[.pointer (some ⟨q, 0, none⟩), .agg #[.int .i64 k, .int .i64 a, .int .i64 b, .bool y]] w (RX lo q P w (.int .i64 (doR G k a b y).2) (doR G k a b y).1) := by
 have h0 := hR.1
 obtain ⟨A1, c1, A2, c2⟩ := P
 by_cases h1 : k = 1
 ·subst h1
  obtain ⟨Q, hQ⟩ : ∃ Q, Q = Gr.hallR G a b := ⟨_, rfl⟩
  rw [show doR G 1 a b y = Q from hQ.symm]
  have hc : ∀ w1, RO lo q G ⟨A1, c1, A2, c2⟩ w1 → Calls Tryz.prog 44 #[.pointer (some ⟨q, 0, none⟩), .int .i64 a, .int .i64 b] w1 (RX lo q ⟨A1, c1, A2, c2⟩ w1 (.int .i64 Q.2) Q.1) := fun w1 hR => by subst hQ; exact hallGR hR (by omega) a b
  refine entH tab_ok (Hold.pair (hold_ro hR) rfl rfl) [.p 0 0, .a [.i .i64 1, .i .i64 a, .i .i64 b, .b y]] Tryz.func12 Tryz.ntmps12 rfl rfl ?_
  repeat' (first | refine gs_ ?_ | ((conv => whnf); first | intro b1 | refine b3_ (fun h => ?_) (fun h => ?_) | refine callRO (f := 44) 0 0 (A := pairO (carsO lo A1 G.cars.length c1 G.cars true) (waitsO lo A2 G.waits.length c2 G.waits true)) (ι := RP) (fun _ => .i .i64 Q.2) (fun P' => [.i .i64 Q.1.c.ca, .i .i64 Q.1.c.fl, .i .i64 Q.1.c.ft, .i .i64 Q.1.c.se, .i .i64 Q.1.c.dr, .i .i64 Q.1.c.dw, .i .i64 Q.1.c.ho, .i .i64 Q.1.c.re, .i .i64 Q.1.c.yi, .i .i64 Q.1.c.qu, .i .i64 Q.1.c.qo, .i .i64 Q.1.c.lo, .i .i64 Q.1.c.sl, .i .i64 Q.1.c.rt, .i .i64 Q.1.c.cp, .i .i64 Q.1.c.tr, .i .i64 Q.1.c.de, .i .i64 Q.1.c.wi, .v (.slice P'.A1 Q.1.cars.length P'.c1), .v (.slice P'.A2 Q.1.waits.length P'.c2), .i .i64 Q.1.now]) (fun P' => pairO (carsO lo P'.A1 Q.1.cars.length P'.c1 Q.1.cars true) (waitsO lo P'.A2 Q.1.waits.length P'.c2 Q.1.waits true)) (fun w1 hH hB hA hne => ?_) (fun P' => ?_) | refine fin_rp (by rfl) (by rfl) (by rfl) h0 (by rfl) (by rfl) (by rfl) (by rfl) (by rfl) | refine fin_s ?_))
  all_goals (refine (hc w1 ⟨h0, hB, hA.1, hA.2⟩).mono (fun e w' h => ?_); exact h.parts)
 by_cases h2 : k = 2
 ·subst h2
  obtain ⟨Q, hQ⟩ : ∃ Q, Q = Gr.pressR G a b := ⟨_, rfl⟩
  rw [show doR G 2 a b y = Q from hQ.symm]
  have hc : ∀ w1, RO lo q G ⟨A1, c1, A2, c2⟩ w1 → Calls Tryz.prog 45 #[.pointer (some ⟨q, 0, none⟩), .int .i64 a, .int .i64 b] w1 (RX lo q ⟨A1, c1, A2, c2⟩ w1 (.int .i64 Q.2) Q.1) := fun w1 hR => by subst hQ; exact pressGR hR hmo a b
  refine entH tab_ok (Hold.pair (hold_ro hR) rfl rfl) [.p 0 0, .a [.i .i64 2, .i .i64 a, .i .i64 b, .b y]] Tryz.func12 Tryz.ntmps12 rfl rfl ?_
  repeat' (first | refine gs_ ?_ | ((conv => whnf); first | intro b1 | refine b3_ (fun h => ?_) (fun h => ?_) | refine callRO (f := 45) 0 0 (A := pairO (carsO lo A1 G.cars.length c1 G.cars true) (waitsO lo A2 G.waits.length c2 G.waits true)) (ι := RP) (fun _ => .i .i64 Q.2) (fun P' => [.i .i64 Q.1.c.ca, .i .i64 Q.1.c.fl, .i .i64 Q.1.c.ft, .i .i64 Q.1.c.se, .i .i64 Q.1.c.dr, .i .i64 Q.1.c.dw, .i .i64 Q.1.c.ho, .i .i64 Q.1.c.re, .i .i64 Q.1.c.yi, .i .i64 Q.1.c.qu, .i .i64 Q.1.c.qo, .i .i64 Q.1.c.lo, .i .i64 Q.1.c.sl, .i .i64 Q.1.c.rt, .i .i64 Q.1.c.cp, .i .i64 Q.1.c.tr, .i .i64 Q.1.c.de, .i .i64 Q.1.c.wi, .v (.slice P'.A1 Q.1.cars.length P'.c1), .v (.slice P'.A2 Q.1.waits.length P'.c2), .i .i64 Q.1.now]) (fun P' => pairO (carsO lo P'.A1 Q.1.cars.length P'.c1 Q.1.cars true) (waitsO lo P'.A2 Q.1.waits.length P'.c2 Q.1.waits true)) (fun w1 hH hB hA hne => ?_) (fun P' => ?_) | refine fin_rp (by rfl) (by rfl) (by rfl) h0 (by rfl) (by rfl) (by rfl) (by rfl) (by rfl) | refine fin_s ?_))
  all_goals (refine (hc w1 ⟨h0, hB, hA.1, hA.2⟩).mono (fun e w' h => ?_); exact h.parts)
 by_cases h3 : k = 3
 ·subst h3
  rw [show doR G 3 a b y = Gr.loadR G a b from rfl]
  have hun : Gr.loadR G a b = one G a (fun x => ({ x with lo := b }, 0)) := by unfold Gr.loadR; rfl
  rw [hun]
  by_cases hi : a < 0 ∨ (G.cars.length : Int) ≤ a
  ·rw [one_out hi]
   refine entH tab_ok (hold_ro hR) [.p 0 0, .a [.i .i64 3, .i .i64 a, .i .i64 b, .b y]] Tryz.func12 Tryz.ntmps12 rfl rfl ?_
   repeat' (first | refine gs_ ?_ | ((conv => whnf); first | intro b1 | refine bto ?_ | refine bfo ?_ | refine fin_ro 0 1 (by rfl) (by rfl) (by rfl) (by rfl) h0 (Nat.le_refl _) (Nat.le_refl _) (by rfl) (by rfl) (by rfl) (by rfl) (by rfl) | refine b3_ (fun h => ?_) (fun h => ?_) | refine fin_s ?_))
  ·obtain ⟨i, rfl⟩ : ∃ i : Nat, a = (i : Int) := ⟨a.toNat, by omega⟩
   have hi2 : i < G.cars.length := by omega
   obtain ⟨x, hx⟩ : ∃ x, G.cars[i]? = some x := ⟨_, List.getElem?_eq_getElem hi2⟩
   have hxk : G.cars[i] = x := (List.getElem?_eq_some_iff.1 hx).2
   obtain ⟨g, hgA⟩ := own_addr hR.2.2.1 (by omega)
   have hgA : A1 = some ⟨g, 0, none⟩ := hgA
   subst hgA
   rw [one_in hi2, hxk]
   refine entH tab_ok (hold_ro hR) [.p 0 0, .a [.i .i64 3, .i .i64 (i : Int), .i .i64 b, .b y]] Tryz.func12 Tryz.ntmps12 rfl rfl ?_
   repeat' (first | refine gq_ ?_ | ((conv => whnf); first | intro b1 | refine drA (id := 10) ⟨tab_ok⟩ [10] ?_ | refine drA ⟨tab_ok⟩ [] ?_ | refine bto ?_ | refine bfo ?_ | refine opiv ⟨tab_ok⟩ (by rfl) (by rfl) (by rfl) (by rfl) (by rfl) (by rfl) ⟨by omega, by omega⟩ ?_ | refine puiv ⟨tab_ok⟩ (by rfl) (by rfl) (by rfl) (by rfl) (by rfl) (by rfl) ⟨by omega, by omega⟩ ?_ | refine opfv ⟨tab_ok⟩ (by rfl) (by rfl) (by rfl) (by rfl) ?_ | refine pufv ⟨tab_ok⟩ (by rfl) (by rfl) (by rfl) (by rfl) ?_ | refine opsc ⟨tab_ok⟩ 0 i 6 carE (A := carsO lo (some ⟨g, 0, none⟩) G.cars.length c1 G.cars true) (carsO lo (some ⟨g, 0, none⟩) G.cars.length c1 (G.cars.set i { x with lo := b }) true) x { x with lo := b } (by rfl) (by rfl) (by simp only [Go.WideShapes.add_plain]; rfl) (by rfl) (by rfl) rfl (fun w h => h) hx (by decide) (by rfl) (fun w w' _ h _ => h) (List.mem_singleton.2 rfl) (fun g h => h) ?_ | refine fin_ro 0 1 (by rfl) (by rfl) (by rfl) (by rfl) h0 (Nat.le_refl _) (Nat.le_refl _) (by simp [GrV.car]) (by rfl) (by rfl) (by rfl) (by rfl) | refine fin_s ?_))
 by_cases h4 : k = 4
 ·subst h4
  rw [show doR G 4 a b y = Gr.curtR G a y from rfl]
  have hun : Gr.curtR G a y = one G a (fun x => ({ x with bl := y }, 0)) := by unfold Gr.curtR; rfl
  rw [hun]
  by_cases hi : a < 0 ∨ (G.cars.length : Int) ≤ a
  ·rw [one_out hi]
   refine entH tab_ok (hold_ro hR) [.p 0 0, .a [.i .i64 4, .i .i64 a, .i .i64 b, .b y]] Tryz.func12 Tryz.ntmps12 rfl rfl ?_
   repeat' (first | refine gs_ ?_ | ((conv => whnf); first | intro b1 | refine bto ?_ | refine bfo ?_ | refine fin_ro 0 1 (by rfl) (by rfl) (by rfl) (by rfl) h0 (Nat.le_refl _) (Nat.le_refl _) (by rfl) (by rfl) (by rfl) (by rfl) (by rfl) | refine b3_ (fun h => ?_) (fun h => ?_) | refine fin_s ?_))
  ·obtain ⟨i, rfl⟩ : ∃ i : Nat, a = (i : Int) := ⟨a.toNat, by omega⟩
   have hi2 : i < G.cars.length := by omega
   obtain ⟨x, hx⟩ : ∃ x, G.cars[i]? = some x := ⟨_, List.getElem?_eq_getElem hi2⟩
   have hxk : G.cars[i] = x := (List.getElem?_eq_some_iff.1 hx).2
   obtain ⟨g, hgA⟩ := own_addr hR.2.2.1 (by omega)
   have hgA : A1 = some ⟨g, 0, none⟩ := hgA
   subst hgA
   rw [one_in hi2, hxk]
   refine entH tab_ok (hold_ro hR) [.p 0 0, .a [.i .i64 4, .i .i64 (i : Int), .i .i64 b, .b y]] Tryz.func12 Tryz.ntmps12 rfl rfl ?_
   repeat' (first | refine gq_ ?_ | ((conv => whnf); first | intro b1 | refine drA (id := 14) ⟨tab_ok⟩ [10] ?_ | refine drA ⟨tab_ok⟩ [] ?_ | refine bto ?_ | refine bfo ?_ | refine opiv ⟨tab_ok⟩ (by rfl) (by rfl) (by rfl) (by rfl) (by rfl) (by rfl) ⟨by omega, by omega⟩ ?_ | refine puiv ⟨tab_ok⟩ (by rfl) (by rfl) (by rfl) (by rfl) (by rfl) (by rfl) ⟨by omega, by omega⟩ ?_ | refine opfv ⟨tab_ok⟩ (by rfl) (by rfl) (by rfl) (by rfl) ?_ | refine pufv ⟨tab_ok⟩ (by rfl) (by rfl) (by rfl) (by rfl) ?_ | refine opsc ⟨tab_ok⟩ 0 i 7 carE (A := carsO lo (some ⟨g, 0, none⟩) G.cars.length c1 G.cars true) (carsO lo (some ⟨g, 0, none⟩) G.cars.length c1 (G.cars.set i { x with bl := y }) true) x { x with bl := y } (by rfl) (by rfl) (by simp only [Go.WideShapes.add_plain]; rfl) (by rfl) (by rfl) rfl (fun w h => h) hx (by decide) (by rfl) (fun w w' _ h _ => h) (List.mem_singleton.2 rfl) (fun g h => h) ?_ | refine fin_ro 0 1 (by rfl) (by rfl) (by rfl) (by rfl) h0 (Nat.le_refl _) (Nat.le_refl _) (by simp [GrV.car]) (by rfl) (by rfl) (by rfl) (by rfl) | refine fin_s ?_))
 by_cases h5 : k = 5
 ·subst h5
  obtain ⟨Q, hQ⟩ : ∃ Q, Q = Gr.faultR G a y := ⟨_, rfl⟩
  rw [show doR G 5 a b y = Q from hQ.symm]
  have hc : ∀ w1, RO lo q G ⟨A1, c1, A2, c2⟩ w1 → Calls Tryz.prog 46 #[.pointer (some ⟨q, 0, none⟩), .int .i64 a, .bool y] w1 (RX lo q ⟨A1, c1, A2, c2⟩ w1 (.int .i64 Q.2) Q.1) := fun w1 hR => by subst hQ; exact faultGR hR (by omega) a y
  refine entH tab_ok (Hold.pair (hold_ro hR) rfl rfl) [.p 0 0, .a [.i .i64 5, .i .i64 a, .i .i64 b, .b y]] Tryz.func12 Tryz.ntmps12 rfl rfl ?_
  repeat' (first | refine gs_ ?_ | ((conv => whnf); first | intro b1 | refine b3_ (fun h => ?_) (fun h => ?_) | refine callRO (f := 46) 0 0 (A := pairO (carsO lo A1 G.cars.length c1 G.cars true) (waitsO lo A2 G.waits.length c2 G.waits true)) (ι := RP) (fun _ => .i .i64 Q.2) (fun P' => [.i .i64 Q.1.c.ca, .i .i64 Q.1.c.fl, .i .i64 Q.1.c.ft, .i .i64 Q.1.c.se, .i .i64 Q.1.c.dr, .i .i64 Q.1.c.dw, .i .i64 Q.1.c.ho, .i .i64 Q.1.c.re, .i .i64 Q.1.c.yi, .i .i64 Q.1.c.qu, .i .i64 Q.1.c.qo, .i .i64 Q.1.c.lo, .i .i64 Q.1.c.sl, .i .i64 Q.1.c.rt, .i .i64 Q.1.c.cp, .i .i64 Q.1.c.tr, .i .i64 Q.1.c.de, .i .i64 Q.1.c.wi, .v (.slice P'.A1 Q.1.cars.length P'.c1), .v (.slice P'.A2 Q.1.waits.length P'.c2), .i .i64 Q.1.now]) (fun P' => pairO (carsO lo P'.A1 Q.1.cars.length P'.c1 Q.1.cars true) (waitsO lo P'.A2 Q.1.waits.length P'.c2 Q.1.waits true)) (fun w1 hH hB hA hne => ?_) (fun P' => ?_) | refine fin_rp (by rfl) (by rfl) (by rfl) h0 (by rfl) (by rfl) (by rfl) (by rfl) (by rfl) | refine fin_s ?_))
  all_goals (refine (hc w1 ⟨h0, hB, hA.1, hA.2⟩).mono (fun e w' h => ?_); exact h.parts)
 by_cases h6 : k = 6
 ·subst h6
  obtain ⟨Q, hQ⟩ : ∃ Q, Q = Gr.takeR G a b := ⟨_, rfl⟩
  rw [show doR G 6 a b y = Q from hQ.symm]
  have hc : ∀ w1, RO lo q G ⟨A1, c1, A2, c2⟩ w1 → Calls Tryz.prog 47 #[.pointer (some ⟨q, 0, none⟩), .int .i64 a, .int .i64 b] w1 (RX lo q ⟨A1, c1, A2, c2⟩ w1 (.int .i64 Q.2) Q.1) := fun w1 hR => by subst hQ; exact takeGR hR hRs a b
  refine entH tab_ok (Hold.pair (hold_ro hR) rfl rfl) [.p 0 0, .a [.i .i64 6, .i .i64 a, .i .i64 b, .b y]] Tryz.func12 Tryz.ntmps12 rfl rfl ?_
  repeat' (first | refine gs_ ?_ | ((conv => whnf); first | intro b1 | refine b3_ (fun h => ?_) (fun h => ?_) | refine callRO (f := 47) 0 0 (A := pairO (carsO lo A1 G.cars.length c1 G.cars true) (waitsO lo A2 G.waits.length c2 G.waits true)) (ι := RP) (fun _ => .i .i64 Q.2) (fun P' => [.i .i64 Q.1.c.ca, .i .i64 Q.1.c.fl, .i .i64 Q.1.c.ft, .i .i64 Q.1.c.se, .i .i64 Q.1.c.dr, .i .i64 Q.1.c.dw, .i .i64 Q.1.c.ho, .i .i64 Q.1.c.re, .i .i64 Q.1.c.yi, .i .i64 Q.1.c.qu, .i .i64 Q.1.c.qo, .i .i64 Q.1.c.lo, .i .i64 Q.1.c.sl, .i .i64 Q.1.c.rt, .i .i64 Q.1.c.cp, .i .i64 Q.1.c.tr, .i .i64 Q.1.c.de, .i .i64 Q.1.c.wi, .v (.slice P'.A1 Q.1.cars.length P'.c1), .v (.slice P'.A2 Q.1.waits.length P'.c2), .i .i64 Q.1.now]) (fun P' => pairO (carsO lo P'.A1 Q.1.cars.length P'.c1 Q.1.cars true) (waitsO lo P'.A2 Q.1.waits.length P'.c2 Q.1.waits true)) (fun w1 hH hB hA hne => ?_) (fun P' => ?_) | refine fin_rp (by rfl) (by rfl) (by rfl) h0 (by rfl) (by rfl) (by rfl) (by rfl) (by rfl) | refine fin_s ?_))
  all_goals (refine (hc w1 ⟨h0, hB, hA.1, hA.2⟩).mono (fun e w' h => ?_); exact h.parts)
 by_cases h7 : k = 7
 ·subst h7
  obtain ⟨Q, hQ⟩ : ∃ Q, Q = Gr.aimR G a b y := ⟨_, rfl⟩
  rw [show doR G 7 a b y = Q from hQ.symm]
  have hc : ∀ w1, RO lo q G ⟨A1, c1, A2, c2⟩ w1 → Calls Tryz.prog 48 #[.pointer (some ⟨q, 0, none⟩), .int .i64 a, .int .i64 b, .bool y] w1 (RX lo q ⟨A1, c1, A2, c2⟩ w1 (.int .i64 Q.2) Q.1) := fun w1 hR => by subst hQ; exact aimGR hR a b y
  refine entH tab_ok (Hold.pair (hold_ro hR) rfl rfl) [.p 0 0, .a [.i .i64 7, .i .i64 a, .i .i64 b, .b y]] Tryz.func12 Tryz.ntmps12 rfl rfl ?_
  repeat' (first | refine gs_ ?_ | ((conv => whnf); first | intro b1 | refine b3_ (fun h => ?_) (fun h => ?_) | refine callRO (f := 48) 0 0 (A := pairO (carsO lo A1 G.cars.length c1 G.cars true) (waitsO lo A2 G.waits.length c2 G.waits true)) (ι := RP) (fun _ => .i .i64 Q.2) (fun P' => [.i .i64 Q.1.c.ca, .i .i64 Q.1.c.fl, .i .i64 Q.1.c.ft, .i .i64 Q.1.c.se, .i .i64 Q.1.c.dr, .i .i64 Q.1.c.dw, .i .i64 Q.1.c.ho, .i .i64 Q.1.c.re, .i .i64 Q.1.c.yi, .i .i64 Q.1.c.qu, .i .i64 Q.1.c.qo, .i .i64 Q.1.c.lo, .i .i64 Q.1.c.sl, .i .i64 Q.1.c.rt, .i .i64 Q.1.c.cp, .i .i64 Q.1.c.tr, .i .i64 Q.1.c.de, .i .i64 Q.1.c.wi, .v (.slice P'.A1 Q.1.cars.length P'.c1), .v (.slice P'.A2 Q.1.waits.length P'.c2), .i .i64 Q.1.now]) (fun P' => pairO (carsO lo P'.A1 Q.1.cars.length P'.c1 Q.1.cars true) (waitsO lo P'.A2 Q.1.waits.length P'.c2 Q.1.waits true)) (fun w1 hH hB hA hne => ?_) (fun P' => ?_) | refine fin_rp (by rfl) (by rfl) (by rfl) h0 (by rfl) (by rfl) (by rfl) (by rfl) (by rfl) | refine fin_s ?_))
  all_goals (refine (hc w1 ⟨h0, hB, hA.1, hA.2⟩).mono (fun e w' h => ?_); exact h.parts)
 by_cases h8 : k = 8
 ·subst h8
  obtain ⟨Q, hQ⟩ : ∃ Q, Q = Gr.giveR G a := ⟨_, rfl⟩
  rw [show doR G 8 a b y = Q from hQ.symm]
  have hc : ∀ w1, RO lo q G ⟨A1, c1, A2, c2⟩ w1 → Calls Tryz.prog 49 #[.pointer (some ⟨q, 0, none⟩), .int .i64 a] w1 (RX lo q ⟨A1, c1, A2, c2⟩ w1 (.int .i64 Q.2) Q.1) := fun w1 hR => by subst hQ; exact giveGR hR a
  refine entH tab_ok (Hold.pair (hold_ro hR) rfl rfl) [.p 0 0, .a [.i .i64 8, .i .i64 a, .i .i64 b, .b y]] Tryz.func12 Tryz.ntmps12 rfl rfl ?_
  repeat' (first | refine gs_ ?_ | ((conv => whnf); first | intro b1 | refine b3_ (fun h => ?_) (fun h => ?_) | refine callRO (f := 49) 0 0 (A := pairO (carsO lo A1 G.cars.length c1 G.cars true) (waitsO lo A2 G.waits.length c2 G.waits true)) (ι := RP) (fun _ => .i .i64 Q.2) (fun P' => [.i .i64 Q.1.c.ca, .i .i64 Q.1.c.fl, .i .i64 Q.1.c.ft, .i .i64 Q.1.c.se, .i .i64 Q.1.c.dr, .i .i64 Q.1.c.dw, .i .i64 Q.1.c.ho, .i .i64 Q.1.c.re, .i .i64 Q.1.c.yi, .i .i64 Q.1.c.qu, .i .i64 Q.1.c.qo, .i .i64 Q.1.c.lo, .i .i64 Q.1.c.sl, .i .i64 Q.1.c.rt, .i .i64 Q.1.c.cp, .i .i64 Q.1.c.tr, .i .i64 Q.1.c.de, .i .i64 Q.1.c.wi, .v (.slice P'.A1 Q.1.cars.length P'.c1), .v (.slice P'.A2 Q.1.waits.length P'.c2), .i .i64 Q.1.now]) (fun P' => pairO (carsO lo P'.A1 Q.1.cars.length P'.c1 Q.1.cars true) (waitsO lo P'.A2 Q.1.waits.length P'.c2 Q.1.waits true)) (fun w1 hH hB hA hne => ?_) (fun P' => ?_) | refine fin_rp (by rfl) (by rfl) (by rfl) h0 (by rfl) (by rfl) (by rfl) (by rfl) (by rfl) | refine fin_s ?_))
  all_goals (refine (hc w1 ⟨h0, hB, hA.1, hA.2⟩).mono (fun e w' h => ?_); exact h.parts)
 rw [show doR G k a b y = (G, 0) by unfold doR; rw [if_neg h1, if_neg h2, if_neg h3, if_neg h4, if_neg h5, if_neg h6, if_neg h7, if_neg h8]]
 refine entH tab_ok (hold_ro hR) [.p 0 0, .a [.i .i64 k, .i .i64 a, .i .i64 b, .b y]] Tryz.func12 Tryz.ntmps12 rfl rfl ?_
 repeat' (first | refine gs_ ?_ | ((conv => whnf); first | intro b1 | refine br_f (beq_eq_false_iff_ne.2 h1) ?_ | refine br_f (beq_eq_false_iff_ne.2 h2) ?_ | refine br_f (beq_eq_false_iff_ne.2 h3) ?_ | refine br_f (beq_eq_false_iff_ne.2 h4) ?_ | refine br_f (beq_eq_false_iff_ne.2 h5) ?_ | refine br_f (beq_eq_false_iff_ne.2 h6) ?_ | refine br_f (beq_eq_false_iff_ne.2 h7) ?_ | refine br_f (beq_eq_false_iff_ne.2 h8) ?_ | refine b3_ (fun h => ?_) (fun h => ?_) | refine fin_ro 0 1 (by rfl) (by rfl) (by rfl) (by rfl) h0 (Nat.le_refl _) (Nat.le_refl _) (by rfl) (by rfl) (by rfl) (by rfl) (by rfl) | refine fin_s ?_))
theorem two_w {la lb ca cb n nt : Nat} {A B : Option Addr} {xs ys : List WaitV} {w : World} (ha : WaitsAt la A n ca xs w) (hb : WaitsAt lb B n cb ys w) : Hold ⟨Tryz.prog, tab, [], w, nt, []⟩ [] [waitsO la A n ca xs false, waitsO lb B n cb ys false] w :=
 Hold.addObj (Hold.addObj (Hold.nil _ tab [] _ w) (waitsO la A n ca xs false) ha (by intro k; cases k) (by intro r hr; cases hr) (by intro A hA; cases hA)) (waitsO lb B n cb ys false) hb (by intro k; cases k) (by intro r hr; cases hr) (by intro G hG k; rcases List.mem_append.1 hG with hG | hG; cases hG; rw [List.mem_singleton] at hG; subst hG; rcases k with k | k <;> cases k)
theorem sameW {la lb ca cb : Nat} {A B : Option Addr} {ls : List WaitV} {w : World} (hl : ls.length ≤ 10000) (ha : WaitsAt la A ls.length ca ls w) (hb : WaitsAt lb B ls.length cb ls w) : Calls Tryz.prog 7 #[.slice A ls.length ca, .slice B ls.length cb] w fun e w' => e = .returned (.bool true) ∧ Since w w' := by
 obtain ⟨g, hg⟩ : ∃ g, 0 < ls.length → A = some ⟨g, 0, none⟩ := by
  rcases own_at ha with ⟨_, h0, _⟩ | ⟨g, _, h1, _⟩
  ·exact ⟨0, fun k => by omega⟩
  ·exact ⟨g, fun _ => h1⟩
 obtain ⟨g2, hg2⟩ : ∃ g, 0 < ls.length → B = some ⟨g, 0, none⟩ := by
  rcases own_at hb with ⟨_, h0, _⟩ | ⟨g, _, h1, _⟩
  ·exact ⟨0, fun k => by omega⟩
  ·exact ⟨g, fun _ => h1⟩
 refine entH tab_ok (two_w ha hb) [.v (.slice A ls.length ca), .v (.slice B ls.length cb)] Tryz.func7 Tryz.ntmps7 rfl rfl ?_
 repeat' (first | refine gs_ ?_ | ((conv => whnf); first | intro b | refine br_t (beq_self_eq_true _) ?_ | refine fin_s ?_))
 conv => whnf
 refine lp ⟨tab_ok⟩ (ι := {k : Nat // k ≤ ls.length}) (fun x => match x with | ⟨k, _⟩ => ⟨[(0, .v (.slice A ls.length ca)), (1, .v (.slice B ls.length cb)), (5, .i .i64 (k : Int))], [], [waitsO la A ls.length ca ls false, waitsO lb B ls.length cb ls false]⟩) (fun k => ls.length - k.1) ⟨0, Nat.zero_le _⟩ (wk ?_) ?_
 ·repeat' (first | exact trivial | rfl | ((conv => whnf); refine And.intro ?_ ?_))
 rintro ⟨k, hkl⟩
 by_cases hlt : k < ls.length
 ·obtain ⟨x, hx⟩ : ∃ x, ls[k]? = some x := ⟨_, List.getElem?_eq_getElem (by omega)⟩
  have hg := hg (by omega)
  have hg2 := hg2 (by omega)
  subst hg hg2
  repeat' (first | refine gq_ ?_ | ((conv => whnf); first | intro b | refine bto ?_ | refine bfo ?_ | refine wr_i ?_ | refine drA ⟨tab_ok⟩ [3, 7] ?_ | refine And.intro ?_ ?_ | refine opiv ⟨tab_ok⟩ (by rfl) (by rfl) (by rfl) (by rfl) (by rfl) (by rfl) ⟨by omega, by omega⟩ ?_ | refine puiv ⟨tab_ok⟩ (by rfl) (by rfl) (by rfl) (by rfl) (by rfl) (by rfl) ⟨by omega, by omega⟩ ?_ | refine opfv ⟨tab_ok⟩ (by rfl) (by rfl) (by rfl) (by rfl) ?_ | refine pufv ⟨tab_ok⟩ (by rfl) (by rfl) (by rfl) (by rfl) ?_ | refine opix (g := g) (off := 0 + k * 4) [.i .i64 x.fl, .i .i64 x.wy, .i .i64 x.ca, .i .i64 x.si] (fun w hH => wait_at (hob hH (A := waitsO la (some ⟨g, 0, none⟩) ls.length ca ls false) 0 rfl) hx) ⟨tab_ok⟩ (by rfl) (by rfl) (by simp only [Go.WideShapes.add_plain]; rfl) ?_ | refine opix (g := g2) (off := 0 + k * 4) [.i .i64 x.fl, .i .i64 x.wy, .i .i64 x.ca, .i .i64 x.si] (fun w hH => wait_at (hob hH (A := waitsO lb (some ⟨g2, 0, none⟩) ls.length cb ls false) 1 rfl) hx) ⟨tab_ok⟩ (by rfl) (by rfl) (by simp only [Go.WideShapes.add_plain]; rfl) ?_ | refine br_t (by simp only [beq_self_eq_true, Bool.and_self]) ?_ | refine back ⟨k + 1, by omega⟩ (wk ?_) ?_ | refine fin_s ?_))
  all_goals first | (show ls.length - (k + 1) < ls.length - k; omega) | skip
  all_goals (repeat' (first | exact trivial | rfl | ((conv => whnf); refine And.intro ?_ ?_)))
 ·repeat' (first | refine gs_ ?_ | ((conv => whnf); first | intro b | refine bto ?_ | refine bfo ?_ | refine fin_s ?_))
  all_goals rfl
theorem hold_two {lo q lo2 q2 n : Nat} {G : GrV} {S : List Nat} {P : RP} {w : World} (hg : GO lo q G S w) (hr : RO lo2 q2 G P w) (hd : ∀ b ∈ S, b ∉ FP q2 P) : Hold ⟨Tryz.prog, tab, [], w, n, []⟩ [⟨q2, 72, true, 0, [], [.i .i64 G.c.ca, .i .i64 G.c.fl, .i .i64 G.c.ft, .i .i64 G.c.se, .i .i64 G.c.dr, .i .i64 G.c.dw, .i .i64 G.c.ho, .i .i64 G.c.re, .i .i64 G.c.yi, .i .i64 G.c.qu, .i .i64 G.c.qo, .i .i64 G.c.lo, .i .i64 G.c.sl, .i .i64 G.c.rt, .i .i64 G.c.cp, .i .i64 G.c.tr, .i .i64 G.c.de, .i .i64 G.c.wi, .v (.slice P.A1 G.cars.length P.c1), .v (.slice P.A2 G.waits.length P.c2), .i .i64 G.now], [], false⟩] [gG lo q G S false, carsO lo2 P.A1 G.cars.length P.c1 G.cars false, waitsO lo2 P.A2 G.waits.length P.c2 G.waits false] w := by
 obtain ⟨h0, B, O1, O2⟩ := hr
 refine Hold.addObj (Hold.addObj (Hold.addObj (hold_q (S := []) [.i .i64 G.c.ca, .i .i64 G.c.fl, .i .i64 G.c.ft, .i .i64 G.c.se, .i .i64 G.c.dr, .i .i64 G.c.dw, .i .i64 G.c.ho, .i .i64 G.c.re, .i .i64 G.c.yi, .i .i64 G.c.qu, .i .i64 G.c.qo, .i .i64 G.c.lo, .i .i64 G.c.sl, .i .i64 G.c.rt, .i .i64 G.c.cp, .i .i64 G.c.tr, .i .i64 G.c.de, .i .i64 G.c.wi, .v (.slice P.A1 G.cars.length P.c1), .v (.slice P.A2 G.waits.length P.c2), .i .i64 G.now] B) (gG lo q G S false) hg (by intro k; cases k) (by intro r hr _ hm; rw [List.mem_singleton] at hr; subst hr; exact hd _ hm (List.mem_cons_self ..)) (by intro A hA; cases hA)) (carsO lo2 P.A1 G.cars.length P.c1 G.cars false) O1 (by intro k; cases k) (by intro r hr _; rw [List.mem_singleton] at hr; subst hr; exact own_ne_ty O1 B (by decide)) (by intro A hA k; rcases k with k | k; simp at hA; subst hA; cases k; cases k)) (waitsO lo2 P.A2 G.waits.length P.c2 G.waits false) O2 (by intro k; cases k) (by intro r hr _; rw [List.mem_singleton] at hr; subst hr; exact own_ne_ty O2 B (by decide)) (by intro A hA k; rcases k with k | k; simp at hA; rcases hA with rfl | rfl <;> cases k; cases k)
set_option maxHeartbeats 4000000 in
theorem alikeG {lo q lo2 q2 : Nat} {G : GrV} {S : List Nat} {P : RP} {w : World} (hg : GO lo q G S w) (hr : RO lo2 q2 G P w) (hd : ∀ b ∈ S, b ∉ FP q2 P) (hl : G.waits.length ≤ 10000) (hlc : G.cars.length ≤ 10000) : Calls Tryz.prog 10 #[.pointer (some ⟨q, 0, none⟩), .pointer (some ⟨q2, 0, none⟩)] w fun e w' => e = .returned (.bool true) ∧ Since w w' := by
 obtain ⟨A1, c1, A2, c2⟩ := P
 obtain ⟨g2, hg2⟩ : ∃ g, 0 < G.cars.length → A1 = some ⟨g, 0, none⟩ := by
  rcases own_at hr.2.2.1 with ⟨_, h0, _⟩ | ⟨g, _, h1, _⟩
  ·exact ⟨0, fun k => by omega⟩
  ·exact ⟨g, fun _ => h1⟩
 refine entH tab_ok (hold_two hg hr hd) [.v (.pointer (some ⟨q, 0, none⟩)), .p 0 0] Tryz.func10 Tryz.ntmps10 rfl rfl ?_
 repeat' (first | refine gs_ ?_ | ((conv => whnf); first | refine callN (f := 33) (ι := {x : Nat × Option Addr × Nat // w.heap.size ≤ x.1}) (fun x => .v (.slice x.1.2.1 G.cars.length x.1.2.2)) (fun x => carsO x.1.1 x.1.2.1 G.cars.length x.1.2.2 G.cars true) (fun w1 hH => (carsT lo q G S w1 (hob hH (A := gG lo q G S false) 0 rfl) (by omega)).mono (by rintro e w' ⟨A', c', rfl, hO, hs⟩; exact ⟨⟨(w1.heap.size, A', c'), hH.upd.size⟩, rfl, hO, hs, own_low hO⟩)) (fun x => ?_) | refine callN (f := 35) (ι := {x : Nat × Option Addr × Nat // w.heap.size ≤ x.1}) (fun x => .v (.slice x.1.2.1 G.waits.length x.1.2.2)) (fun x => waitsO x.1.1 x.1.2.1 G.waits.length x.1.2.2 G.waits true) (fun w1 hH => (waitsT lo q G S w1 (hob hH (A := gG lo q G S false) 0 rfl) (by omega)).mono (by rintro e w' ⟨A', c', rfl, hO, hs⟩; exact ⟨⟨(w1.heap.size, A', c'), hH.upd.size⟩, rfl, hO, hs, own_low hO⟩)) (fun z => ?_) | refine callH (f := 34) (.i .i64 G.now) (fun w1 hH => nowT lo q G S w1 (hob hH (A := gG lo q G S false) 0 rfl)) ?_ | refine callH (f := 7) (.b true) (fun w1 hH => sameW hl (hob hH (A := waitsO z.1.1 z.1.2.1 G.waits.length z.1.2.2 G.waits true) 4 rfl) (hob hH (A := waitsO lo2 A2 G.waits.length c2 G.waits false) 2 rfl)) ?_ | refine br_t (beq_self_eq_true _) ?_ | refine And.intro ?_ ?_ | refine fin_s ?_))
 conv => whnf
 obtain ⟨⟨la, A, ca⟩, hla⟩ := x
 obtain ⟨⟨lz, Z, cz⟩, hlz⟩ := z
 refine sm_know (p := ∃ g, 0 < G.cars.length → A = some ⟨g, 0, none⟩) (fun w1 hH => by
  rcases own_at (hob hH (A := carsO la A G.cars.length ca G.cars true) 3 rfl) with ⟨_, h0, _⟩ | ⟨g, _, h1, _⟩
  ·exact ⟨0, fun k => by omega⟩
  ·exact ⟨g, fun _ => h1⟩) (fun hA => ?_)
 obtain ⟨g, hg1⟩ := hA
 refine lp ⟨tab_ok⟩ (ι := {k : Nat // k ≤ G.cars.length}) (fun y => match y with | ⟨k, _⟩ => ⟨[(1, .p 0 0), (5, .v (.slice A G.cars.length ca)), (6, .i .i64 (k : Int))], [⟨q2, 72, true, 0, [], [.i .i64 G.c.ca, .i .i64 G.c.fl, .i .i64 G.c.ft, .i .i64 G.c.se, .i .i64 G.c.dr, .i .i64 G.c.dw, .i .i64 G.c.ho, .i .i64 G.c.re, .i .i64 G.c.yi, .i .i64 G.c.qu, .i .i64 G.c.qo, .i .i64 G.c.lo, .i .i64 G.c.sl, .i .i64 G.c.rt, .i .i64 G.c.cp, .i .i64 G.c.tr, .i .i64 G.c.de, .i .i64 G.c.wi, .v (.slice A1 G.cars.length c1), .v (.slice A2 G.waits.length c2), .i .i64 G.now], [], false⟩], [gG lo q G S false, carsO lo2 A1 G.cars.length c1 G.cars false, waitsO lo2 A2 G.waits.length c2 G.waits false, carsO la A G.cars.length ca G.cars true, waitsO lz Z G.waits.length cz G.waits true]⟩) (fun y => G.cars.length - y.1) ⟨0, Nat.zero_le _⟩ (wk ?_) ?_
 ·repeat' (first | exact trivial | rfl | ((conv => whnf); refine And.intro ?_ ?_))
 rintro ⟨k, hkl⟩
 by_cases hlt : k < G.cars.length
 ·obtain ⟨x, hx⟩ : ∃ x, G.cars[k]? = some x := ⟨_, List.getElem?_eq_getElem (by omega)⟩
  have hg1 := hg1 (by omega)
  have hg2 := hg2 (by omega)
  subst hg1 hg2
  repeat' (first | refine gq_ ?_ | ((conv => whnf); first | intro b | refine bto ?_ | refine bfo ?_ | refine wr_i ?_ | refine drA ⟨tab_ok⟩ [3, 10] ?_ | refine And.intro ?_ ?_ | refine opiv ⟨tab_ok⟩ (by rfl) (by rfl) (by rfl) (by rfl) (by rfl) (by rfl) ⟨by omega, by omega⟩ ?_ | refine puiv ⟨tab_ok⟩ (by rfl) (by rfl) (by rfl) (by rfl) (by rfl) (by rfl) ⟨by omega, by omega⟩ ?_ | refine opfv ⟨tab_ok⟩ (by rfl) (by rfl) (by rfl) (by rfl) ?_ | refine pufv ⟨tab_ok⟩ (by rfl) (by rfl) (by rfl) (by rfl) ?_ | refine opix (g := g) (off := 0 + k * 15) (sCar x) (fun w hH => car_at (hob hH (A := carsO la (some ⟨g, 0, none⟩) G.cars.length ca G.cars true) 3 rfl) hx) ⟨tab_ok⟩ (by rfl) (by rfl) (by simp only [Go.WideShapes.add_plain]; rfl) ?_ | refine opix (g := g2) (off := 0 + k * 15) (sCar x) (fun w hH => car_at (hob hH (A := carsO lo2 (some ⟨g2, 0, none⟩) G.cars.length c1 G.cars false) 1 rfl) hx) ⟨tab_ok⟩ (by rfl) (by rfl) (by simp only [Go.WideShapes.add_plain]; rfl) ?_ | refine br_t (by simp only [beq_self_eq_true, Bool.and_self]) ?_ | refine back ⟨k + 1, by omega⟩ (wk ?_) ?_ | refine fin_s ?_))
  all_goals first | (show G.cars.length - (k + 1) < G.cars.length - k; omega) | skip
  all_goals (repeat' (first | exact trivial | rfl | ((conv => whnf); refine And.intro ?_ ?_)))
 ·repeat' (first | refine gs_ ?_ | ((conv => whnf); first | intro b | refine bto ?_ | refine bfo ?_ | refine fin_s ?_))
  all_goals rfl
end Rg
end Go.Proofs.YtpiiblkiddcgcaaGreat
