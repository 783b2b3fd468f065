/-
  Whatever comes in: CoreGone answers true.
  No condition.
-/
import Derived.Test.YthmikjjnlahlbaaGreatKG12
import Derived.WalkKit
import Derived.ProofKit
import Derived.OpenShut
import Derived.Test.YthmikjjnlahlbaaGreatRows
import Derived.Lib.Hide
import Derived.ShutString
import Derived.ChangeOld
import Derived.Below
import Derived.SizedLaws
namespace Go.Proofs.YthmikjjnlahlbaaGreat.Lc
set_option linter.unusedSectionVars false
set_option linter.unusedVariables false
set_option linter.unusedSimpArgs false
open Go.RowKit Go.Proofs.YthmikjjnlahlbaaGreat.Ba Go.Proofs.YthmikjjnlahlbaaGreat.Mem Go.Proofs.YthmikjjnlahlbaaGreat.En Go.Proofs.YthmikjjnlahlbaaGreat.Ty Go.Proofs.YthmikjjnlahlbaaGreat.Mo Go.Proofs.YthmikjjnlahlbaaGreat.St Go.Proofs.YthmikjjnlahlbaaGreat.Co
open Go.Proofs.YthmikjjnlahlbaaGreat.Fl (leaE)
open Go.Proofs.YthmikjjnlahlbaaGreat.Qu (askE)
open Go.Proofs.YthmikjjnlahlbaaGreat.Gr (waitsO tickP)
set_option maxRecDepth 100000
attribute [local irreducible] Go.Calls doK doE tickK tickE goneK newK tickP
theorem filter_next {α : Type} {p : α → Int} {s : Int} {ls : List α} {j : Nat} {l : α} (h : ls[j]? = some l) : (ls.take (j + 1)).filter (fun l => p l != s) = (ls.take j).filter (fun l => p l != s) ++ (if p l = s then [] else [l]) := by
  obtain ⟨hj, rfl⟩ := List.getElem?_eq_some_iff.1 h
  rw [List.take_succ_eq_append_getElem hj, List.filter_append]
  congr 1
  by_cases e : p ls[j] = s
  · rw [if_pos e, List.filter_cons_of_neg (by simp [e])]; rfl
  · rw [if_neg e, List.filter_cons_of_pos (by simpa using e)]; rfl
theorem hold_ops {a : Option Addr} {len nt : Nat} {os : Nat → KopV} {w : World} (h : kopE.Rd a len os w) : Hold ⟨Tryz.prog, tab, [], w, nt, []⟩ [] [rdO kopE a len os, rwO leaE w.heap.size none 0 0 [] true, rwO askE w.heap.size none 0 0 [] true] w :=
  Hold.addObj (Hold.addObj (Hold.addObj (Hold.nil _ tab [] _ w) (rdO kopE a len os) h (by intro k; cases k) (by intro r hr; cases hr) (by intro A hA; cases hA)) (rwO leaE w.heap.size none 0 0 [] true) (Ek.nil _ _ _) (by intro _ g hg; cases hg) (by intro r _ _ hg; cases hg) (by intro A hA _ g hg hg2; cases hg2)) (rwO askE w.heap.size none 0 0 [] true) (Ek.nil _ _ _) (by intro _ g hg; cases hg) (by intro r _ _ hg; cases hg) (by intro A hA _ g hg hg2; cases hg2)
set_option maxHeartbeats 8000000 in
theorem goneF1 (c : CfgV) (s : Int) {a : Option Addr} {len cap : Nat} {os : Nat → KopV} {w : World} (h : kopE.Rd a len os w) (hlen : len ≤ 9223372036854775807) : Calls Tryz.prog 10 #[.agg #[.int .i64 c.ca, .int .i64 c.fl, .int .i64 c.ft, .int .i64 c.se, .int .i64 c.dr, .int .i64 c.dw, .int .i64 c.ho, .int .i64 c.re, .int .i64 c.yi, .int .i64 c.qu, .int .i64 c.qo, .int .i64 c.lo, .int .i64 c.sl, .int .i64 c.rt, .int .i64 c.cp, .int .i64 c.tr, .int .i64 c.de, .int .i64 c.wi], .slice a len cap, .int .i64 s] w fun e w' => e = .returned (.bool true) ∧ Since w w' := by
  obtain ⟨gb, off, hb⟩ := Ek.rd_addr h
  refine entH tab_ok (hold_ops h) [.a [.i .i64 c.ca, .i .i64 c.fl, .i .i64 c.ft, .i .i64 c.se, .i .i64 c.dr, .i .i64 c.dw, .i .i64 c.ho, .i .i64 c.re, .i .i64 c.yi, .i .i64 c.qu, .i .i64 c.qo, .i .i64 c.lo, .i .i64 c.sl, .i .i64 c.rt, .i .i64 c.cp, .i .i64 c.tr, .i .i64 c.de, .i .i64 c.wi], .v (.slice a len cap), .i .i64 s] Tryz.func10 Tryz.ntmps10 rfl rfl ?_
  repeat' ((conv => whnf); first | refine sgo ⟨tab_ok⟩ ?_ | refine br_not ?_ | refine br_t rfl ?_ | refine br_f rfl ?_ | refine br_t (by assumption) ?_ | refine br_f (by assumption) ?_ | refine br_t (decide_eq_true (by assumption)) ?_ | refine br_f (decide_eq_false (by assumption)) ?_ | refine br_t (beq_iff_eq.2 (by assumption)) ?_ | refine br_f (beq_eq_false_iff_ne.2 (by assumption)) ?_ | intro b | refine drA ⟨tab_ok⟩ [] ?_ | refine kpt ?_ | refine callN (f := 20) (ι := {x : Nat × Nat × Pt × List Nat // w.heap.size ≤ x.1}) (fun x => .v (.pointer (some ⟨x.1.2.1, 0, none⟩))) (fun x => kO x.1.1 x.1.2.1 x.1.2.2.1 (newK c) x.1.2.2.2 true) (fun w1 hH => (newW c w1).mono (by rintro e w' ⟨q, p, S', rfl, h1, h2⟩; exact ⟨⟨(w1.heap.size, q, p, S'), hH.upd.size⟩, rfl, h1, h2, h1.low⟩)) (fun x => ?_) | refine fin_s ?_ | refine fin_r ?_ ?_ | refine fin_e ?_ ?_)
  conv => whnf
  obtain ⟨⟨lo, q, p, S0⟩, hlo⟩ := x
  refine lp ⟨tab_ok⟩ (ι := {x : (Nat × List Nat) × KV // (x.1.1 ≤ 60 ∧ x.1.1 ≤ len) ∧ KI c x.1.1 (50 * x.1.1) (50 * x.1.1) x.2 ∧ UQ x.2}) (fun x => match x with | ⟨((k, Sk), K), _⟩ => ⟨[(1, .v (.slice a len cap)), (2, .i .i64 s), (7, .v (.pointer (some ⟨q, 0, none⟩))), (8, .i .i64 (k : Int))], [], [rdO kopE a len os, rwO leaE w.heap.size none 0 0 [] true, rwO askE w.heap.size none 0 0 [] true, kO lo q p K Sk true]⟩) (fun x => 60 - x.1.1.1) ⟨((0, S0), newK c), ⟨Nat.zero_le _, Nat.zero_le _⟩, KI.new c, UQ.new c⟩ (wkd ?_) ?_
  · repeat' (first | exact trivial | rfl | ((conv => whnf); refine And.intro ?_ ?_))
  rintro ⟨⟨⟨k, Sk⟩, K⟩, ⟨hk60, hkl⟩, HK, HU⟩
  have hk60 : k ≤ 60 := hk60
  have hkl : k ≤ len := hkl
  have HK : KI c k (50 * k) (50 * k) K := HK
  have HU : UQ K := HU
  by_cases hlt : k < len
  · by_cases h6 : k < 60
    · have hb := hb (by omega)
      subst hb
      have HK2 : KI c (k + 1) (50 * k) (50 * k) (doK K (os k)) := KI.do_ HK (os k)
      have HU2 : UQ (doK K (os k)) := HU.do_ (os k)
      repeat' ((conv => whnf); first | refine sgo ⟨tab_ok⟩ ?_ | refine br_not ?_ | refine br_t rfl ?_ | refine br_f rfl ?_ | refine br_t (by assumption) ?_ | refine br_f (by assumption) ?_ | refine br_t (decide_eq_true (by assumption)) ?_ | refine br_f (decide_eq_false (by assumption)) ?_ | refine br_t (beq_iff_eq.2 (by assumption)) ?_ | refine br_f (beq_eq_false_iff_ne.2 (by assumption)) ?_ | intro b | refine drA ⟨tab_ok⟩ [] ?_ | refine kpt ?_ | refine br_t (decide_eq_true (by omega)) ?_ | refine br_f (decide_eq_false (by omega)) ?_ | refine opiv ⟨tab_ok⟩ (by rfl) (by rfl) (by rfl) (by rfl) (by rfl) (by rfl) ⟨by omega, by omega⟩ ?_ | refine puiv ⟨tab_ok⟩ (by rfl) (by rfl) (by rfl) (by rfl) (by rfl) (by rfl) ⟨by omega, by omega⟩ ?_ | refine opix (g := gb) (off := off + k * 12) [.i .i64 (os k).k, .i .i64 (os k).a, .i .i64 (os k).b, .i .i64 (os k).q.se, .i .i64 (os k).q.fl, .i .i64 (os k).q.fm, .i .i64 (os k).q.to, .i .i64 (os k).q.ma, .i .i64 (os k).m.ki, .i .i64 (os k).m.a, .i .i64 (os k).m.b, .i .i64 (os k).m.c] (fun w hH => Ek.rd_rng (Hold.ob hH (A := rdO kopE (some ⟨gb, off, none⟩) len os) 0 rfl) hlt) ⟨tab_ok⟩ (by rfl) (by rfl) (by simp only [Go.WideShapes.add_plain]; rfl) ?_ | refine callON (f := 27) (A := kO lo q p K Sk true) 3 (ι := List Nat × Option Addr × Nat) (fun x => .v (.slice x.2.1 (doE K (os k)).length x.2.2)) (fun x => kO lo q p (doK K (os k)) x.1 true) (fun x => rwO evE w.heap.size x.2.1 (doE K (os k)).length x.2.2 (doE K (os k)) true) (fun w1 hH hA => toD (Φ := fun S' => KW lo q p (doK K (os k)) S') (doT hA HK (by omega) (by omega) (os k)) hH.upd.size) (fun y => ?_) | refine fin_s ?_ | refine fin_r ?_ ?_ | refine fin_e ?_ ?_)
      conv => whnf
      obtain ⟨S2, A2, c2⟩ := y
      refine lp ⟨tab_ok⟩ (ι := {x : (Nat × List Nat) × KV // x.1.1 ≤ 50 ∧ KI c (k + 1) (50 * k + x.1.1) (50 * k + x.1.1) x.2 ∧ UQ x.2}) (fun x => match x with | ⟨((n, Sn), Kn), _⟩ => ⟨[(1, .v (.slice (some ⟨gb, off, none⟩) len cap)), (2, .i .i64 s), (7, .v (.pointer (some ⟨q, 0, none⟩))), (8, .i .i64 (k : Int)), (9, .i .i64 (n : Int))], [], [rdO kopE (some ⟨gb, off, none⟩) len os, rwO leaE w.heap.size none 0 0 [] true, rwO askE w.heap.size none 0 0 [] true, kO lo q p Kn Sn true]⟩) (fun x => 50 - x.1.1.1) ⟨((0, S2), doK K (os k)), Nat.zero_le _, HK2, HU2⟩ (wkd ?_) ?_
      · repeat' (first | exact trivial | rfl | ((conv => whnf); refine And.intro ?_ ?_))
      rintro ⟨⟨⟨n, Sn⟩, Kn⟩, hn50, HN, HV⟩
      have hn50 : n ≤ 50 := hn50
      have HN : KI c (k + 1) (50 * k + n) (50 * k + n) Kn := HN
      have HV : UQ Kn := HV
      have HX : KI c (k + 1) (50 * (k + 1)) (50 * (k + 1)) Kn := HN.more (Nat.le_refl _) (by omega) (by omega)
      by_cases h9 : (os k).k = 9
      · by_cases hna : (n : Int) < (os k).a
        · by_cases hn5 : n < 50
          · have HT : KT Kn := HN.kt (by omega) (by omega) (by omega)
            have HN2 := HN.tick
            have HV2 := HV.tick
            repeat' ((conv => whnf); first | refine sgo ⟨tab_ok⟩ ?_ | refine br_not ?_ | refine br_t rfl ?_ | refine br_f rfl ?_ | refine br_t (by assumption) ?_ | refine br_f (by assumption) ?_ | refine br_t (decide_eq_true (by assumption)) ?_ | refine br_f (decide_eq_false (by assumption)) ?_ | refine br_t (beq_iff_eq.2 (by assumption)) ?_ | refine br_f (beq_eq_false_iff_ne.2 (by assumption)) ?_ | intro b | refine drA ⟨tab_ok⟩ [] ?_ | refine kpt ?_ | refine br_t (decide_eq_true (by omega)) ?_ | refine br_f (decide_eq_false (by omega)) ?_ | refine wr_i ?_ | refine br_f (beq_eq_false_iff_ne.2 h9) ?_ | refine opiv ⟨tab_ok⟩ (by rfl) (by rfl) (by rfl) (by rfl) (by rfl) (by rfl) ⟨by omega, by omega⟩ ?_ | refine puiv ⟨tab_ok⟩ (by rfl) (by rfl) (by rfl) (by rfl) (by rfl) (by rfl) ⟨by omega, by omega⟩ ?_ | refine opfv ⟨tab_ok⟩ (by rfl) (by rfl) (by rfl) (by rfl) ?_ | refine pufv ⟨tab_ok⟩ (by rfl) (by rfl) (by rfl) (by rfl) ?_ | refine opxc (g := gb) (off := off + k * 12 + 0) (.i .i64 (os k).k) (fun w hH => rng_sub (n := 1) (Ek.rd_rng (Hold.ob hH (A := rdO kopE (some ⟨gb, off, none⟩) len os) 0 rfl) hlt) rfl) ⟨tab_ok⟩ (by rfl) (by rfl) (by simp only [Go.WideShapes.add_plain]; rfl) ?_ | refine opxc (g := gb) (off := off + k * 12 + 1) (.i .i64 (os k).a) (fun w hH => rng_sub (n := 1) (Ek.rd_rng (Hold.ob hH (A := rdO kopE (some ⟨gb, off, none⟩) len os) 0 rfl) hlt) rfl) ⟨tab_ok⟩ (by rfl) (by rfl) (by simp only [Go.WideShapes.add_plain]; rfl) ?_ | refine callO2N (f := 22) (A := kO lo q p Kn Sn true) 3 (ι := List Nat × Nr × Nr) (fun z => .t [.v (.slice z.2.1.2.1 (tickE Kn).length z.2.1.2.2), .v (.slice z.2.2.2.1 (tickP Kn.G).2.2.length z.2.2.2.2)]) (fun z => kO lo q p (tickK Kn) z.1 true) (fun z => rwO evE z.2.1.1 z.2.1.2.1 (tickE Kn).length z.2.1.2.2 (tickE Kn) true) (fun z => waitsO z.2.2.1 z.2.2.2.1 (tickP Kn.G).2.2.length z.2.2.2.2 (tickP Kn.G).2.2 true) (fun w1 hH hA => Co.tickW hA HT) (fun z => ?_) | refine back ⟨((n + 1, z.1), tickK Kn), by show n + 1 ≤ 50; omega, HN2, HV2⟩ (wkd ?_) ?_ | refine fin_s ?_ | refine fin_r ?_ ?_ | refine fin_e ?_ ?_)
            all_goals first | (show 50 - (n + 1) < 50 - n; omega) | skip
            all_goals (repeat' (first | exact trivial | rfl | ((conv => whnf); refine And.intro ?_ ?_)))
          · (repeat' ((conv => whnf); first | refine sgo ⟨tab_ok⟩ ?_ | refine br_not ?_ | refine br_t rfl ?_ | refine br_f rfl ?_ | refine br_t (by assumption) ?_ | refine br_f (by assumption) ?_ | refine br_t (decide_eq_true (by assumption)) ?_ | refine br_f (decide_eq_false (by assumption)) ?_ | refine br_t (beq_iff_eq.2 (by assumption)) ?_ | refine br_f (beq_eq_false_iff_ne.2 (by assumption)) ?_ | intro b | refine drA ⟨tab_ok⟩ [] ?_ | refine kpt ?_ | refine br_t (decide_eq_true (by omega)) ?_ | refine br_f (decide_eq_false (by omega)) ?_ | refine wr_i ?_ | refine br_f (beq_eq_false_iff_ne.2 h9) ?_ | refine opiv ⟨tab_ok⟩ (by rfl) (by rfl) (by rfl) (by rfl) (by rfl) (by rfl) ⟨by omega, by omega⟩ ?_ | refine puiv ⟨tab_ok⟩ (by rfl) (by rfl) (by rfl) (by rfl) (by rfl) (by rfl) ⟨by omega, by omega⟩ ?_ | refine opfv ⟨tab_ok⟩ (by rfl) (by rfl) (by rfl) (by rfl) ?_ | refine pufv ⟨tab_ok⟩ (by rfl) (by rfl) (by rfl) (by rfl) ?_ | refine opxc (g := gb) (off := off + k * 12 + 0) (.i .i64 (os k).k) (fun w hH => rng_sub (n := 1) (Ek.rd_rng (Hold.ob hH (A := rdO kopE (some ⟨gb, off, none⟩) len os) 0 rfl) hlt) rfl) ⟨tab_ok⟩ (by rfl) (by rfl) (by simp only [Go.WideShapes.add_plain]; rfl) ?_ | refine opxc (g := gb) (off := off + k * 12 + 1) (.i .i64 (os k).a) (fun w hH => rng_sub (n := 1) (Ek.rd_rng (Hold.ob hH (A := rdO kopE (some ⟨gb, off, none⟩) len os) 0 rfl) hlt) rfl) ⟨tab_ok⟩ (by rfl) (by rfl) (by simp only [Go.WideShapes.add_plain]; rfl) ?_ | refine back ⟨((k + 1, Sn), Kn), ⟨by show k + 1 ≤ 60; omega, by show k + 1 ≤ len; omega⟩, HX, HV⟩ (wkd ?_) ?_ | refine fin_s ?_ | refine fin_r ?_ ?_ | refine fin_e ?_ ?_); all_goals (first | (show 60 - (k + 1) < 60 - k; omega) | skip); all_goals (repeat' (first | exact trivial | rfl | ((conv => whnf); refine And.intro ?_ ?_))))
        · (repeat' ((conv => whnf); first | refine sgo ⟨tab_ok⟩ ?_ | refine br_not ?_ | refine br_t rfl ?_ | refine br_f rfl ?_ | refine br_t (by assumption) ?_ | refine br_f (by assumption) ?_ | refine br_t (decide_eq_true (by assumption)) ?_ | refine br_f (decide_eq_false (by assumption)) ?_ | refine br_t (beq_iff_eq.2 (by assumption)) ?_ | refine br_f (beq_eq_false_iff_ne.2 (by assumption)) ?_ | intro b | refine drA ⟨tab_ok⟩ [] ?_ | refine kpt ?_ | refine br_t (decide_eq_true (by omega)) ?_ | refine br_f (decide_eq_false (by omega)) ?_ | refine wr_i ?_ | refine br_f (beq_eq_false_iff_ne.2 h9) ?_ | refine opiv ⟨tab_ok⟩ (by rfl) (by rfl) (by rfl) (by rfl) (by rfl) (by rfl) ⟨by omega, by omega⟩ ?_ | refine puiv ⟨tab_ok⟩ (by rfl) (by rfl) (by rfl) (by rfl) (by rfl) (by rfl) ⟨by omega, by omega⟩ ?_ | refine opfv ⟨tab_ok⟩ (by rfl) (by rfl) (by rfl) (by rfl) ?_ | refine pufv ⟨tab_ok⟩ (by rfl) (by rfl) (by rfl) (by rfl) ?_ | refine opxc (g := gb) (off := off + k * 12 + 0) (.i .i64 (os k).k) (fun w hH => rng_sub (n := 1) (Ek.rd_rng (Hold.ob hH (A := rdO kopE (some ⟨gb, off, none⟩) len os) 0 rfl) hlt) rfl) ⟨tab_ok⟩ (by rfl) (by rfl) (by simp only [Go.WideShapes.add_plain]; rfl) ?_ | refine opxc (g := gb) (off := off + k * 12 + 1) (.i .i64 (os k).a) (fun w hH => rng_sub (n := 1) (Ek.rd_rng (Hold.ob hH (A := rdO kopE (some ⟨gb, off, none⟩) len os) 0 rfl) hlt) rfl) ⟨tab_ok⟩ (by rfl) (by rfl) (by simp only [Go.WideShapes.add_plain]; rfl) ?_ | refine back ⟨((k + 1, Sn), Kn), ⟨by show k + 1 ≤ 60; omega, by show k + 1 ≤ len; omega⟩, HX, HV⟩ (wkd ?_) ?_ | refine fin_s ?_ | refine fin_r ?_ ?_ | refine fin_e ?_ ?_); all_goals (first | (show 60 - (k + 1) < 60 - k; omega) | skip); all_goals (repeat' (first | exact trivial | rfl | ((conv => whnf); refine And.intro ?_ ?_))))
      · (repeat' ((conv => whnf); first | refine sgo ⟨tab_ok⟩ ?_ | refine br_not ?_ | refine br_t rfl ?_ | refine br_f rfl ?_ | refine br_t (by assumption) ?_ | refine br_f (by assumption) ?_ | refine br_t (decide_eq_true (by assumption)) ?_ | refine br_f (decide_eq_false (by assumption)) ?_ | refine br_t (beq_iff_eq.2 (by assumption)) ?_ | refine br_f (beq_eq_false_iff_ne.2 (by assumption)) ?_ | intro b | refine drA ⟨tab_ok⟩ [] ?_ | refine kpt ?_ | refine br_t (decide_eq_true (by omega)) ?_ | refine br_f (decide_eq_false (by omega)) ?_ | refine wr_i ?_ | refine br_f (beq_eq_false_iff_ne.2 h9) ?_ | refine opiv ⟨tab_ok⟩ (by rfl) (by rfl) (by rfl) (by rfl) (by rfl) (by rfl) ⟨by omega, by omega⟩ ?_ | refine puiv ⟨tab_ok⟩ (by rfl) (by rfl) (by rfl) (by rfl) (by rfl) (by rfl) ⟨by omega, by omega⟩ ?_ | refine opfv ⟨tab_ok⟩ (by rfl) (by rfl) (by rfl) (by rfl) ?_ | refine pufv ⟨tab_ok⟩ (by rfl) (by rfl) (by rfl) (by rfl) ?_ | refine opxc (g := gb) (off := off + k * 12 + 0) (.i .i64 (os k).k) (fun w hH => rng_sub (n := 1) (Ek.rd_rng (Hold.ob hH (A := rdO kopE (some ⟨gb, off, none⟩) len os) 0 rfl) hlt) rfl) ⟨tab_ok⟩ (by rfl) (by rfl) (by simp only [Go.WideShapes.add_plain]; rfl) ?_ | refine opxc (g := gb) (off := off + k * 12 + 1) (.i .i64 (os k).a) (fun w hH => rng_sub (n := 1) (Ek.rd_rng (Hold.ob hH (A := rdO kopE (some ⟨gb, off, none⟩) len os) 0 rfl) hlt) rfl) ⟨tab_ok⟩ (by rfl) (by rfl) (by simp only [Go.WideShapes.add_plain]; rfl) ?_ | refine back ⟨((k + 1, Sn), Kn), ⟨by show k + 1 ≤ 60; omega, by show k + 1 ≤ len; omega⟩, HX, HV⟩ (wkd ?_) ?_ | refine fin_s ?_ | refine fin_r ?_ ?_ | refine fin_e ?_ ?_); all_goals (first | (show 60 - (k + 1) < 60 - k; omega) | skip); all_goals (repeat' (first | exact trivial | rfl | ((conv => whnf); refine And.intro ?_ ?_))))
    · have hL := HK.ll
      have hQ := HK.lq
      have hL2 := (KI.gone HK s).ll
      have hQ2 := (KI.gone HK s).lq
      repeat' ((conv => whnf); first | refine sgo ⟨tab_ok⟩ ?_ | refine br_not ?_ | refine br_t rfl ?_ | refine br_f rfl ?_ | refine br_t (by assumption) ?_ | refine br_f (by assumption) ?_ | refine br_t (decide_eq_true (by assumption)) ?_ | refine br_f (decide_eq_false (by assumption)) ?_ | refine br_t (beq_iff_eq.2 (by assumption)) ?_ | refine br_f (beq_eq_false_iff_ne.2 (by assumption)) ?_ | intro b | refine drA ⟨tab_ok⟩ [] ?_ | refine kpt ?_ | refine br_t (decide_eq_true (by omega)) ?_ | refine br_f (decide_eq_false (by omega)) ?_ | refine wr_i ?_ | refine callN (f := 30) (ι := NrP w.heap.size (K).L.length) (fun x => .v (.slice x.1.2.1 (K).L.length x.1.2.2)) (fun x => rwO leaE x.1.1 x.1.2.1 (K).L.length x.1.2.2 (K).L true) (fun w1 hH => toNp (leasesK (Hold.ob hH (A := kO lo q p (K) Sk true) 3 rfl) (by omega)) hH.upd.size) (fun u => ?_) | refine callN (f := 44) (ι := NrP w.heap.size (K).Q.length) (fun x => .v (.slice x.1.2.1 (K).Q.length x.1.2.2)) (fun x => rwO askE x.1.1 x.1.2.1 (K).Q.length x.1.2.2 (K).Q true) (fun w1 hH => toNp (queueK (Hold.ob hH (A := kO lo q p (K) Sk true) 3 rfl) (by omega)) hH.upd.size) (fun v => ?_) | refine callO (f := 42) (A := kO lo q p K Sk true) 3 (fun _ => .t []) (fun S' => kO lo q p (goneK K s) S' true) (fun w hH hA => goneW hA (by omega) (by omega) s) (fun S1 => ?_) | refine fin_s ?_ | refine fin_r ?_ ?_ | refine fin_e ?_ ?_)
      conv => whnf
      obtain ⟨⟨l0, A0, c0⟩, hl0, hA0⟩ := u
      obtain ⟨⟨l1, A1, c1⟩, hl1, hA1⟩ := v
      have hA0 : 0 < K.L.length → ∃ g, A0 = some ⟨g, 0, none⟩ := hA0
      have hA1 : 0 < K.Q.length → ∃ g, A1 = some ⟨g, 0, none⟩ := hA1
      refine lp ⟨tab_ok⟩ (ι := {x : (Nat × Option Addr × Nat) × List LeaseV // x.1.1 ≤ K.L.length ∧ x.2 = (K.L.take x.1.1).filter (fun l => l.se != s)}) (fun x => match x with | ⟨((j, A3, c3), hs), _⟩ => ⟨[(2, .i .i64 s), (7, .v (.pointer (some ⟨q, 0, none⟩))), (10, .v (.slice A0 K.L.length c0)), (11, .v (.slice A1 K.Q.length c1)), (12, .v (.slice A3 hs.length c3)), (13, .v (.slice none 0 0)), (14, .i .i64 (j : Int))], [], [rdO kopE a len os, rwO leaE w.heap.size A3 hs.length c3 hs true, rwO askE w.heap.size none 0 0 [] true, kO lo q p (goneK K s) S1 true, rwO leaE l0 A0 K.L.length c0 K.L true, rwO askE l1 A1 K.Q.length c1 K.Q true]⟩) (fun x => K.L.length - x.1.1.1) ⟨((0, none, 0), []), Nat.zero_le _, by simp⟩ (wkd ?_) ?_
      · repeat' (first | exact trivial | rfl | ((conv => whnf); refine And.intro ?_ ?_))
      rintro ⟨⟨⟨j, A3, c3⟩, hs⟩, hjl, hhs⟩
      have hjl : j ≤ K.L.length := hjl
      have hhs : hs = (K.L.take j).filter (fun l => l.se != s) := hhs
      by_cases hj : j < K.L.length
      · obtain ⟨l, hl⟩ : ∃ l, K.L[j]? = some l := ⟨_, List.getElem?_eq_getElem (by omega)⟩
        obtain ⟨gL, hgL⟩ := hA0 (by omega)
        subst hgL
        have hn : hs.length ≤ 10000 := by rw [hhs]; have := List.length_filter_le (fun l : LeaseV => l.se != s) (K.L.take j); rw [List.length_take] at this; omega
        by_cases he : l.se = s
        · have hx : hs = (K.L.take (j + 1)).filter (fun l => l.se != s) := by rw [filter_next hl, if_pos he, List.append_nil]; exact hhs
          repeat' ((conv => whnf); first | refine sgo ⟨tab_ok⟩ ?_ | refine br_not ?_ | refine br_t rfl ?_ | refine br_f rfl ?_ | refine br_t (by assumption) ?_ | refine br_f (by assumption) ?_ | refine br_t (decide_eq_true (by assumption)) ?_ | refine br_f (decide_eq_false (by assumption)) ?_ | refine br_t (beq_iff_eq.2 (by assumption)) ?_ | refine br_f (beq_eq_false_iff_ne.2 (by assumption)) ?_ | intro b | refine drA ⟨tab_ok⟩ [] ?_ | refine kpt ?_ | refine br_t (decide_eq_true (by omega)) ?_ | refine br_f (decide_eq_false (by omega)) ?_ | refine wr_i ?_ | refine opiv ⟨tab_ok⟩ (by rfl) (by rfl) (by rfl) (by rfl) (by rfl) (by rfl) ⟨by omega, by omega⟩ ?_ | refine puiv ⟨tab_ok⟩ (by rfl) (by rfl) (by rfl) (by rfl) (by rfl) (by rfl) ⟨by omega, by omega⟩ ?_ | refine opfv ⟨tab_ok⟩ (by rfl) (by rfl) (by rfl) (by rfl) ?_ | refine pufv ⟨tab_ok⟩ (by rfl) (by rfl) (by rfl) (by rfl) ?_ | refine opxc (g := gL) (off := 0 + j * 10 + 0) (.i .i64 l.se) (fun w hH => rng_sub (n := 1) (Ek.rng (Hold.ob hH (A := rwO leaE l0 (some ⟨gL, 0, none⟩) K.L.length c0 K.L true) 4 rfl) hl) rfl) ⟨tab_ok⟩ (by rfl) (by rfl) (by simp only [Go.WideShapes.add_plain]; rfl) ?_ | refine opix (g := gL) (off := 0 + j * 10) [.i .i64 l.se, .i .i64 l.fl, .i .i64 l.fm, .i .i64 l.to, .i .i64 l.ma, .i .i64 l.ca, .i .i64 l.ph, .i .i64 l.un, .i .i64 l.re, .i .i64 l.gr] (fun w hH => Ek.rng (Hold.ob hH (A := rwO leaE l0 (some ⟨gL, 0, none⟩) K.L.length c0 K.L true) 4 rfl) hl) ⟨tab_ok⟩ (by rfl) (by rfl) (by simp only [Go.WideShapes.add_plain]; rfl) ?_ | refine back ⟨((j + 1, A3, c3), hs), by show j + 1 ≤ _; omega, hx⟩ (wkd ?_) ?_ | refine fin_s ?_ | refine fin_r ?_ ?_ | refine fin_e ?_ ?_)
          all_goals first | (show K.L.length - (j + 1) < K.L.length - j; omega) | skip
          all_goals (repeat' (first | exact trivial | rfl | ((conv => whnf); refine And.intro ?_ ?_)))
        · have hx : hs ++ [l] = (K.L.take (j + 1)).filter (fun l => l.se != s) := by rw [filter_next hl, if_neg he, hhs]
          repeat' ((conv => whnf); first | refine sgo ⟨tab_ok⟩ ?_ | refine br_not ?_ | refine br_t rfl ?_ | refine br_f rfl ?_ | refine br_t (by assumption) ?_ | refine br_f (by assumption) ?_ | refine br_t (decide_eq_true (by assumption)) ?_ | refine br_f (decide_eq_false (by assumption)) ?_ | refine br_t (beq_iff_eq.2 (by assumption)) ?_ | refine br_f (beq_eq_false_iff_ne.2 (by assumption)) ?_ | intro b | refine drA ⟨tab_ok⟩ [] ?_ | refine kpt ?_ | refine br_t (decide_eq_true (by omega)) ?_ | refine br_f (decide_eq_false (by omega)) ?_ | refine wr_i ?_ | refine opiv ⟨tab_ok⟩ (by rfl) (by rfl) (by rfl) (by rfl) (by rfl) (by rfl) ⟨by omega, by omega⟩ ?_ | refine puiv ⟨tab_ok⟩ (by rfl) (by rfl) (by rfl) (by rfl) (by rfl) (by rfl) ⟨by omega, by omega⟩ ?_ | refine opfv ⟨tab_ok⟩ (by rfl) (by rfl) (by rfl) (by rfl) ?_ | refine pufv ⟨tab_ok⟩ (by rfl) (by rfl) (by rfl) (by rfl) ?_ | refine opxc (g := gL) (off := 0 + j * 10 + 0) (.i .i64 l.se) (fun w hH => rng_sub (n := 1) (Ek.rng (Hold.ob hH (A := rwO leaE l0 (some ⟨gL, 0, none⟩) K.L.length c0 K.L true) 4 rfl) hl) rfl) ⟨tab_ok⟩ (by rfl) (by rfl) (by simp only [Go.WideShapes.add_plain]; rfl) ?_ | refine opix (g := gL) (off := 0 + j * 10) [.i .i64 l.se, .i .i64 l.fl, .i .i64 l.fm, .i .i64 l.to, .i .i64 l.ma, .i .i64 l.ca, .i .i64 l.ph, .i .i64 l.un, .i .i64 l.re, .i .i64 l.gr] (fun w hH => Ek.rng (Hold.ob hH (A := rwO leaE l0 (some ⟨gL, 0, none⟩) K.L.length c0 K.L true) 4 rfl) hl) ⟨tab_ok⟩ (by rfl) (by rfl) (by simp only [Go.WideShapes.add_plain]; rfl) ?_ | refine opb1 (e := 65) ⟨tab_ok⟩ [.i .i64 l.se, .i .i64 l.fl, .i .i64 l.fm, .i .i64 l.to, .i .i64 l.ma, .i .i64 l.ca, .i .i64 l.ph, .i .i64 l.un, .i .i64 l.re, .i .i64 l.gr] (by rfl) (by rfl) ?_ | refine opap 1 0 (e := 65) (lo := w.heap.size) (size := 10) (bytes := 80) (z := .agg #[.int .i64 0, .int .i64 0, .int .i64 0, .int .i64 0, .int .i64 0, .int .i64 0, .int .i64 0, .int .i64 0, .int .i64 0, .int .i64 0]) (A := rwO leaE w.heap.size A3 hs.length c3 hs true) (vals := rowsOf leaE.c hs) (cells := leaE.c l) (zs := rowsOf leaE.c (hs ++ [l])) (n2 := (hs ++ [l]).length) (fun A' c' => rwO leaE w.heap.size A' (hs ++ [l]).length c' (hs ++ [l]) true) (by rfl) (by rfl) (by rfl) (by rfl) rfl rfl (fun w h => h) (fun A' c' w h => h) (fun _ _ => rfl) (by rfl) (by rfl) (by rfl) (by rfl) Tryz.underlying59 (by kernel_rfl) rfl (by decide) (by decide) (leaE.one _) (by omega) (fun w hH => hH.upd.size) (by simp) (by rw [rowsOf_append, rowsOf_one]) (fun A' c' => ?_) | refine back ⟨((j + 1, A', c'), hs ++ [l]), by show j + 1 ≤ _; omega, hx⟩ (wkd ?_) ?_ | refine fin_s ?_ | refine fin_r ?_ ?_ | refine fin_e ?_ ?_)
          all_goals first | (show K.L.length - (j + 1) < K.L.length - j; omega) | skip
          all_goals (repeat' (first | exact trivial | rfl | ((conv => whnf); refine And.intro ?_ ?_)))
      · have hh : hs = (goneK K s).L := by rw [hhs, gone_L HU, List.take_of_length_le (by omega)]
        subst hh
        repeat' ((conv => whnf); first | refine sgo ⟨tab_ok⟩ ?_ | refine br_not ?_ | refine br_t rfl ?_ | refine br_f rfl ?_ | refine br_t (by assumption) ?_ | refine br_f (by assumption) ?_ | refine br_t (decide_eq_true (by assumption)) ?_ | refine br_f (decide_eq_false (by assumption)) ?_ | refine br_t (beq_iff_eq.2 (by assumption)) ?_ | refine br_f (beq_eq_false_iff_ne.2 (by assumption)) ?_ | intro b | refine drA ⟨tab_ok⟩ [] ?_ | refine kpt ?_ | refine br_t (decide_eq_true (by omega)) ?_ | refine br_f (decide_eq_false (by omega)) ?_ | refine wr_i ?_ | refine fin_s ?_ | refine fin_r ?_ ?_ | refine fin_e ?_ ?_)
        conv => whnf
        refine lp ⟨tab_ok⟩ (ι := {x : (Nat × Option Addr × Nat) × List AskV // x.1.1 ≤ K.Q.length ∧ x.2 = (K.Q.take x.1.1).filter (fun l => l.se != s)}) (fun x => match x with | ⟨((j2, A4, c4), zs), _⟩ => ⟨[(2, .i .i64 s), (7, .v (.pointer (some ⟨q, 0, none⟩))), (10, .v (.slice A0 K.L.length c0)), (11, .v (.slice A1 K.Q.length c1)), (12, .v (.slice A3 (goneK K s).L.length c3)), (13, .v (.slice A4 zs.length c4)), (15, .i .i64 (j2 : Int))], [], [rdO kopE a len os, rwO leaE w.heap.size A3 (goneK K s).L.length c3 (goneK K s).L true, rwO askE w.heap.size A4 zs.length c4 zs true, kO lo q p (goneK K s) S1 true, rwO leaE l0 A0 K.L.length c0 K.L true, rwO askE l1 A1 K.Q.length c1 K.Q true]⟩) (fun x => K.Q.length - x.1.1.1) ⟨((0, none, 0), []), Nat.zero_le _, by simp⟩ (wkd ?_) ?_
        · repeat' (first | exact trivial | rfl | ((conv => whnf); refine And.intro ?_ ?_))
        rintro ⟨⟨⟨j2, A4, c4⟩, zs⟩, hjl, hhs⟩
        have hjl : j2 ≤ K.Q.length := hjl
        have hhs : zs = (K.Q.take j2).filter (fun l => l.se != s) := hhs
        by_cases hj : j2 < K.Q.length
        · obtain ⟨l, hl⟩ : ∃ l, K.Q[j2]? = some l := ⟨_, List.getElem?_eq_getElem (by omega)⟩
          obtain ⟨gL, hgL⟩ := hA1 (by omega)
          subst hgL
          have hn : zs.length ≤ 10000 := by rw [hhs]; have := List.length_filter_le (fun l : AskV => l.se != s) (K.Q.take j2); rw [List.length_take] at this; omega
          by_cases he : l.se = s
          · have hx : zs = (K.Q.take (j2 + 1)).filter (fun l => l.se != s) := by rw [filter_next hl, if_pos he, List.append_nil]; exact hhs
            repeat' ((conv => whnf); first | refine sgo ⟨tab_ok⟩ ?_ | refine br_not ?_ | refine br_t rfl ?_ | refine br_f rfl ?_ | refine br_t (by assumption) ?_ | refine br_f (by assumption) ?_ | refine br_t (decide_eq_true (by assumption)) ?_ | refine br_f (decide_eq_false (by assumption)) ?_ | refine br_t (beq_iff_eq.2 (by assumption)) ?_ | refine br_f (beq_eq_false_iff_ne.2 (by assumption)) ?_ | intro b | refine drA ⟨tab_ok⟩ [] ?_ | refine kpt ?_ | refine br_t (decide_eq_true (by omega)) ?_ | refine br_f (decide_eq_false (by omega)) ?_ | refine wr_i ?_ | refine opiv ⟨tab_ok⟩ (by rfl) (by rfl) (by rfl) (by rfl) (by rfl) (by rfl) ⟨by omega, by omega⟩ ?_ | refine puiv ⟨tab_ok⟩ (by rfl) (by rfl) (by rfl) (by rfl) (by rfl) (by rfl) ⟨by omega, by omega⟩ ?_ | refine opfv ⟨tab_ok⟩ (by rfl) (by rfl) (by rfl) (by rfl) ?_ | refine pufv ⟨tab_ok⟩ (by rfl) (by rfl) (by rfl) (by rfl) ?_ | refine opxc (g := gL) (off := 0 + j2 * 5 + 0) (.i .i64 l.se) (fun w hH => rng_sub (n := 1) (Ek.rng (Hold.ob hH (A := rwO askE l1 (some ⟨gL, 0, none⟩) K.Q.length c1 K.Q true) 5 rfl) hl) rfl) ⟨tab_ok⟩ (by rfl) (by rfl) (by simp only [Go.WideShapes.add_plain]; rfl) ?_ | refine opix (g := gL) (off := 0 + j2 * 5) [.i .i64 l.se, .i .i64 l.fl, .i .i64 l.fm, .i .i64 l.to, .i .i64 l.ma] (fun w hH => Ek.rng (Hold.ob hH (A := rwO askE l1 (some ⟨gL, 0, none⟩) K.Q.length c1 K.Q true) 5 rfl) hl) ⟨tab_ok⟩ (by rfl) (by rfl) (by simp only [Go.WideShapes.add_plain]; rfl) ?_ | refine back ⟨((j2 + 1, A4, c4), zs), by show j2 + 1 ≤ _; omega, hx⟩ (wkd ?_) ?_ | refine fin_s ?_ | refine fin_r ?_ ?_ | refine fin_e ?_ ?_)
            all_goals first | (show K.Q.length - (j2 + 1) < K.Q.length - j2; omega) | skip
            all_goals (repeat' (first | exact trivial | rfl | ((conv => whnf); refine And.intro ?_ ?_)))
          · have hx : zs ++ [l] = (K.Q.take (j2 + 1)).filter (fun l => l.se != s) := by rw [filter_next hl, if_neg he, hhs]
            repeat' ((conv => whnf); first | refine sgo ⟨tab_ok⟩ ?_ | refine br_not ?_ | refine br_t rfl ?_ | refine br_f rfl ?_ | refine br_t (by assumption) ?_ | refine br_f (by assumption) ?_ | refine br_t (decide_eq_true (by assumption)) ?_ | refine br_f (decide_eq_false (by assumption)) ?_ | refine br_t (beq_iff_eq.2 (by assumption)) ?_ | refine br_f (beq_eq_false_iff_ne.2 (by assumption)) ?_ | intro b | refine drA ⟨tab_ok⟩ [] ?_ | refine kpt ?_ | refine br_t (decide_eq_true (by omega)) ?_ | refine br_f (decide_eq_false (by omega)) ?_ | refine wr_i ?_ | refine opiv ⟨tab_ok⟩ (by rfl) (by rfl) (by rfl) (by rfl) (by rfl) (by rfl) ⟨by omega, by omega⟩ ?_ | refine puiv ⟨tab_ok⟩ (by rfl) (by rfl) (by rfl) (by rfl) (by rfl) (by rfl) ⟨by omega, by omega⟩ ?_ | refine opfv ⟨tab_ok⟩ (by rfl) (by rfl) (by rfl) (by rfl) ?_ | refine pufv ⟨tab_ok⟩ (by rfl) (by rfl) (by rfl) (by rfl) ?_ | refine opxc (g := gL) (off := 0 + j2 * 5 + 0) (.i .i64 l.se) (fun w hH => rng_sub (n := 1) (Ek.rng (Hold.ob hH (A := rwO askE l1 (some ⟨gL, 0, none⟩) K.Q.length c1 K.Q true) 5 rfl) hl) rfl) ⟨tab_ok⟩ (by rfl) (by rfl) (by simp only [Go.WideShapes.add_plain]; rfl) ?_ | refine opix (g := gL) (off := 0 + j2 * 5) [.i .i64 l.se, .i .i64 l.fl, .i .i64 l.fm, .i .i64 l.to, .i .i64 l.ma] (fun w hH => Ek.rng (Hold.ob hH (A := rwO askE l1 (some ⟨gL, 0, none⟩) K.Q.length c1 K.Q true) 5 rfl) hl) ⟨tab_ok⟩ (by rfl) (by rfl) (by simp only [Go.WideShapes.add_plain]; rfl) ?_ | refine opb1 (e := 46) ⟨tab_ok⟩ [.i .i64 l.se, .i .i64 l.fl, .i .i64 l.fm, .i .i64 l.to, .i .i64 l.ma] (by rfl) (by rfl) ?_ | refine opap 2 0 (e := 46) (lo := w.heap.size) (size := 5) (bytes := 40) (z := .agg #[.int .i64 0, .int .i64 0, .int .i64 0, .int .i64 0, .int .i64 0]) (A := rwO askE w.heap.size A4 zs.length c4 zs true) (vals := rowsOf askE.c zs) (cells := askE.c l) (zs := rowsOf askE.c (zs ++ [l])) (n2 := (zs ++ [l]).length) (fun A' c' => rwO askE w.heap.size A' (zs ++ [l]).length c' (zs ++ [l]) true) (by rfl) (by rfl) (by rfl) (by rfl) rfl rfl (fun w h => h) (fun A' c' w h => h) (fun _ _ => rfl) (by rfl) (by rfl) (by rfl) (by rfl) Tryz.underlying84 (by kernel_rfl) rfl (by decide) (by decide) (askE.one _) (by omega) (fun w hH => hH.upd.size) (by simp) (by rw [rowsOf_append, rowsOf_one]) (fun A' c' => ?_) | refine back ⟨((j2 + 1, A', c'), zs ++ [l]), by show j2 + 1 ≤ _; omega, hx⟩ (wkd ?_) ?_ | refine fin_s ?_ | refine fin_r ?_ ?_ | refine fin_e ?_ ?_)
            all_goals first | (show K.Q.length - (j2 + 1) < K.Q.length - j2; omega) | skip
            all_goals (repeat' (first | exact trivial | rfl | ((conv => whnf); refine And.intro ?_ ?_)))
        · have hh : zs = (goneK K s).Q := by rw [hhs, gone_Q HU, List.take_of_length_le (by omega)]
          subst hh
          repeat' ((conv => whnf); first | refine sgo ⟨tab_ok⟩ ?_ | refine br_not ?_ | refine br_t rfl ?_ | refine br_f rfl ?_ | refine br_t (by assumption) ?_ | refine br_f (by assumption) ?_ | refine br_t (decide_eq_true (by assumption)) ?_ | refine br_f (decide_eq_false (by assumption)) ?_ | refine br_t (beq_iff_eq.2 (by assumption)) ?_ | refine br_f (beq_eq_false_iff_ne.2 (by assumption)) ?_ | intro b | refine drA ⟨tab_ok⟩ [] ?_ | refine kpt ?_ | refine br_t (decide_eq_true (by omega)) ?_ | refine br_f (decide_eq_false (by omega)) ?_ | refine wr_i ?_ | refine callS (f := 29) (.b true) (ansT) ?_ | refine callN (f := 30) (ι := NrP w.heap.size (goneK K s).L.length) (fun x => .v (.slice x.1.2.1 (goneK K s).L.length x.1.2.2)) (fun x => rwO leaE x.1.1 x.1.2.1 (goneK K s).L.length x.1.2.2 (goneK K s).L true) (fun w1 hH => toNp (leasesK (Hold.ob hH (A := kO lo q p (goneK K s) S1 true) 3 rfl) (by omega)) hH.upd.size) (fun u2 => ?_) | refine callN (f := 44) (ι := NrP w.heap.size (goneK K s).Q.length) (fun x => .v (.slice x.1.2.1 (goneK K s).Q.length x.1.2.2)) (fun x => rwO askE x.1.1 x.1.2.1 (goneK K s).Q.length x.1.2.2 (goneK K s).Q true) (fun w1 hH => toNp (queueK (Hold.ob hH (A := kO lo q p (goneK K s) S1 true) 3 rfl) (by omega)) hH.upd.size) (fun v2 => ?_) | refine callH (f := 45) (.b true) (fun w9 hH => sameL (by omega) (Hold.ob hH (A := rwO leaE u2.1.1 u2.1.2.1 (goneK K s).L.length u2.1.2.2 (goneK K s).L true) 6 rfl) (Hold.ob hH (A := rwO leaE w.heap.size A3 (goneK K s).L.length c3 (goneK K s).L true) 1 rfl)) ?_ | refine callH (f := 46) (.b true) (fun w9 hH => sameA (by omega) (Hold.ob hH (A := rwO askE v2.1.1 v2.1.2.1 (goneK K s).Q.length v2.1.2.2 (goneK K s).Q true) 7 rfl) (Hold.ob hH (A := rwO askE w.heap.size A4 (goneK K s).Q.length c4 (goneK K s).Q true) 2 rfl)) ?_ | refine fin_s ?_ | refine fin_r ?_ ?_ | refine fin_e ?_ ?_)
          all_goals rfl
  · have hL := HK.ll
    have hQ := HK.lq
    have hL2 := (KI.gone HK s).ll
    have hQ2 := (KI.gone HK s).lq
    repeat' ((conv => whnf); first | refine sgo ⟨tab_ok⟩ ?_ | refine br_not ?_ | refine br_t rfl ?_ | refine br_f rfl ?_ | refine br_t (by assumption) ?_ | refine br_f (by assumption) ?_ | refine br_t (decide_eq_true (by assumption)) ?_ | refine br_f (decide_eq_false (by assumption)) ?_ | refine br_t (beq_iff_eq.2 (by assumption)) ?_ | refine br_f (beq_eq_false_iff_ne.2 (by assumption)) ?_ | intro b | refine drA ⟨tab_ok⟩ [] ?_ | refine kpt ?_ | refine br_t (decide_eq_true (by omega)) ?_ | refine br_f (decide_eq_false (by omega)) ?_ | refine wr_i ?_ | refine callN (f := 30) (ι := NrP w.heap.size (K).L.length) (fun x => .v (.slice x.1.2.1 (K).L.length x.1.2.2)) (fun x => rwO leaE x.1.1 x.1.2.1 (K).L.length x.1.2.2 (K).L true) (fun w1 hH => toNp (leasesK (Hold.ob hH (A := kO lo q p (K) Sk true) 3 rfl) (by omega)) hH.upd.size) (fun u => ?_) | refine callN (f := 44) (ι := NrP w.heap.size (K).Q.length) (fun x => .v (.slice x.1.2.1 (K).Q.length x.1.2.2)) (fun x => rwO askE x.1.1 x.1.2.1 (K).Q.length x.1.2.2 (K).Q true) (fun w1 hH => toNp (queueK (Hold.ob hH (A := kO lo q p (K) Sk true) 3 rfl) (by omega)) hH.upd.size) (fun v => ?_) | refine callO (f := 42) (A := kO lo q p K Sk true) 3 (fun _ => .t []) (fun S' => kO lo q p (goneK K s) S' true) (fun w hH hA => goneW hA (by omega) (by omega) s) (fun S1 => ?_) | refine fin_s ?_ | refine fin_r ?_ ?_ | refine fin_e ?_ ?_)
    conv => whnf
    obtain ⟨⟨l0, A0, c0⟩, hl0, hA0⟩ := u
    obtain ⟨⟨l1, A1, c1⟩, hl1, hA1⟩ := v
    have hA0 : 0 < K.L.length → ∃ g, A0 = some ⟨g, 0, none⟩ := hA0
    have hA1 : 0 < K.Q.length → ∃ g, A1 = some ⟨g, 0, none⟩ := hA1
    refine lp ⟨tab_ok⟩ (ι := {x : (Nat × Option Addr × Nat) × List LeaseV // x.1.1 ≤ K.L.length ∧ x.2 = (K.L.take x.1.1).filter (fun l => l.se != s)}) (fun x => match x with | ⟨((j, A3, c3), hs), _⟩ => ⟨[(2, .i .i64 s), (7, .v (.pointer (some ⟨q, 0, none⟩))), (10, .v (.slice A0 K.L.length c0)), (11, .v (.slice A1 K.Q.length c1)), (12, .v (.slice A3 hs.length c3)), (13, .v (.slice none 0 0)), (14, .i .i64 (j : Int))], [], [rdO kopE a len os, rwO leaE w.heap.size A3 hs.length c3 hs true, rwO askE w.heap.size none 0 0 [] true, kO lo q p (goneK K s) S1 true, rwO leaE l0 A0 K.L.length c0 K.L true, rwO askE l1 A1 K.Q.length c1 K.Q true]⟩) (fun x => K.L.length - x.1.1.1) ⟨((0, none, 0), []), Nat.zero_le _, by simp⟩ (wkd ?_) ?_
    · repeat' (first | exact trivial | rfl | ((conv => whnf); refine And.intro ?_ ?_))
    rintro ⟨⟨⟨j, A3, c3⟩, hs⟩, hjl, hhs⟩
    have hjl : j ≤ K.L.length := hjl
    have hhs : hs = (K.L.take j).filter (fun l => l.se != s) := hhs
    by_cases hj : j < K.L.length
    · obtain ⟨l, hl⟩ : ∃ l, K.L[j]? = some l := ⟨_, List.getElem?_eq_getElem (by omega)⟩
      obtain ⟨gL, hgL⟩ := hA0 (by omega)
      subst hgL
      have hn : hs.length ≤ 10000 := by rw [hhs]; have := List.length_filter_le (fun l : LeaseV => l.se != s) (K.L.take j); rw [List.length_take] at this; omega
      by_cases he : l.se = s
      · have hx : hs = (K.L.take (j + 1)).filter (fun l => l.se != s) := by rw [filter_next hl, if_pos he, List.append_nil]; exact hhs
        repeat' ((conv => whnf); first | refine sgo ⟨tab_ok⟩ ?_ | refine br_not ?_ | refine br_t rfl ?_ | refine br_f rfl ?_ | refine br_t (by assumption) ?_ | refine br_f (by assumption) ?_ | refine br_t (decide_eq_true (by assumption)) ?_ | refine br_f (decide_eq_false (by assumption)) ?_ | refine br_t (beq_iff_eq.2 (by assumption)) ?_ | refine br_f (beq_eq_false_iff_ne.2 (by assumption)) ?_ | intro b | refine drA ⟨tab_ok⟩ [] ?_ | refine kpt ?_ | refine br_t (decide_eq_true (by omega)) ?_ | refine br_f (decide_eq_false (by omega)) ?_ | refine wr_i ?_ | refine opiv ⟨tab_ok⟩ (by rfl) (by rfl) (by rfl) (by rfl) (by rfl) (by rfl) ⟨by omega, by omega⟩ ?_ | refine puiv ⟨tab_ok⟩ (by rfl) (by rfl) (by rfl) (by rfl) (by rfl) (by rfl) ⟨by omega, by omega⟩ ?_ | refine opfv ⟨tab_ok⟩ (by rfl) (by rfl) (by rfl) (by rfl) ?_ | refine pufv ⟨tab_ok⟩ (by rfl) (by rfl) (by rfl) (by rfl) ?_ | refine opxc (g := gL) (off := 0 + j * 10 + 0) (.i .i64 l.se) (fun w hH => rng_sub (n := 1) (Ek.rng (Hold.ob hH (A := rwO leaE l0 (some ⟨gL, 0, none⟩) K.L.length c0 K.L true) 4 rfl) hl) rfl) ⟨tab_ok⟩ (by rfl) (by rfl) (by simp only [Go.WideShapes.add_plain]; rfl) ?_ | refine opix (g := gL) (off := 0 + j * 10) [.i .i64 l.se, .i .i64 l.fl, .i .i64 l.fm, .i .i64 l.to, .i .i64 l.ma, .i .i64 l.ca, .i .i64 l.ph, .i .i64 l.un, .i .i64 l.re, .i .i64 l.gr] (fun w hH => Ek.rng (Hold.ob hH (A := rwO leaE l0 (some ⟨gL, 0, none⟩) K.L.length c0 K.L true) 4 rfl) hl) ⟨tab_ok⟩ (by rfl) (by rfl) (by simp only [Go.WideShapes.add_plain]; rfl) ?_ | refine back ⟨((j + 1, A3, c3), hs), by show j + 1 ≤ _; omega, hx⟩ (wkd ?_) ?_ | refine fin_s ?_ | refine fin_r ?_ ?_ | refine fin_e ?_ ?_)
        all_goals first | (show K.L.length - (j + 1) < K.L.length - j; omega) | skip
        all_goals (repeat' (first | exact trivial | rfl | ((conv => whnf); refine And.intro ?_ ?_)))
      · have hx : hs ++ [l] = (K.L.take (j + 1)).filter (fun l => l.se != s) := by rw [filter_next hl, if_neg he, hhs]
        repeat' ((conv => whnf); first | refine sgo ⟨tab_ok⟩ ?_ | refine br_not ?_ | refine br_t rfl ?_ | refine br_f rfl ?_ | refine br_t (by assumption) ?_ | refine br_f (by assumption) ?_ | refine br_t (decide_eq_true (by assumption)) ?_ | refine br_f (decide_eq_false (by assumption)) ?_ | refine br_t (beq_iff_eq.2 (by assumption)) ?_ | refine br_f (beq_eq_false_iff_ne.2 (by assumption)) ?_ | intro b | refine drA ⟨tab_ok⟩ [] ?_ | refine kpt ?_ | refine br_t (decide_eq_true (by omega)) ?_ | refine br_f (decide_eq_false (by omega)) ?_ | refine wr_i ?_ | refine opiv ⟨tab_ok⟩ (by rfl) (by rfl) (by rfl) (by rfl) (by rfl) (by rfl) ⟨by omega, by omega⟩ ?_ | refine puiv ⟨tab_ok⟩ (by rfl) (by rfl) (by rfl) (by rfl) (by rfl) (by rfl) ⟨by omega, by omega⟩ ?_ | refine opfv ⟨tab_ok⟩ (by rfl) (by rfl) (by rfl) (by rfl) ?_ | refine pufv ⟨tab_ok⟩ (by rfl) (by rfl) (by rfl) (by rfl) ?_ | refine opxc (g := gL) (off := 0 + j * 10 + 0) (.i .i64 l.se) (fun w hH => rng_sub (n := 1) (Ek.rng (Hold.ob hH (A := rwO leaE l0 (some ⟨gL, 0, none⟩) K.L.length c0 K.L true) 4 rfl) hl) rfl) ⟨tab_ok⟩ (by rfl) (by rfl) (by simp only [Go.WideShapes.add_plain]; rfl) ?_ | refine opix (g := gL) (off := 0 + j * 10) [.i .i64 l.se, .i .i64 l.fl, .i .i64 l.fm, .i .i64 l.to, .i .i64 l.ma, .i .i64 l.ca, .i .i64 l.ph, .i .i64 l.un, .i .i64 l.re, .i .i64 l.gr] (fun w hH => Ek.rng (Hold.ob hH (A := rwO leaE l0 (some ⟨gL, 0, none⟩) K.L.length c0 K.L true) 4 rfl) hl) ⟨tab_ok⟩ (by rfl) (by rfl) (by simp only [Go.WideShapes.add_plain]; rfl) ?_ | refine opb1 (e := 65) ⟨tab_ok⟩ [.i .i64 l.se, .i .i64 l.fl, .i .i64 l.fm, .i .i64 l.to, .i .i64 l.ma, .i .i64 l.ca, .i .i64 l.ph, .i .i64 l.un, .i .i64 l.re, .i .i64 l.gr] (by rfl) (by rfl) ?_ | refine opap 1 0 (e := 65) (lo := w.heap.size) (size := 10) (bytes := 80) (z := .agg #[.int .i64 0, .int .i64 0, .int .i64 0, .int .i64 0, .int .i64 0, .int .i64 0, .int .i64 0, .int .i64 0, .int .i64 0, .int .i64 0]) (A := rwO leaE w.heap.size A3 hs.length c3 hs true) (vals := rowsOf leaE.c hs) (cells := leaE.c l) (zs := rowsOf leaE.c (hs ++ [l])) (n2 := (hs ++ [l]).length) (fun A' c' => rwO leaE w.heap.size A' (hs ++ [l]).length c' (hs ++ [l]) true) (by rfl) (by rfl) (by rfl) (by rfl) rfl rfl (fun w h => h) (fun A' c' w h => h) (fun _ _ => rfl) (by rfl) (by rfl) (by rfl) (by rfl) Tryz.underlying59 (by kernel_rfl) rfl (by decide) (by decide) (leaE.one _) (by omega) (fun w hH => hH.upd.size) (by simp) (by rw [rowsOf_append, rowsOf_one]) (fun A' c' => ?_) | refine back ⟨((j + 1, A', c'), hs ++ [l]), by show j + 1 ≤ _; omega, hx⟩ (wkd ?_) ?_ | refine fin_s ?_ | refine fin_r ?_ ?_ | refine fin_e ?_ ?_)
        all_goals first | (show K.L.length - (j + 1) < K.L.length - j; omega) | skip
        all_goals (repeat' (first | exact trivial | rfl | ((conv => whnf); refine And.intro ?_ ?_)))
    · have hh : hs = (goneK K s).L := by rw [hhs, gone_L HU, List.take_of_length_le (by omega)]
      subst hh
      repeat' ((conv => whnf); first | refine sgo ⟨tab_ok⟩ ?_ | refine br_not ?_ | refine br_t rfl ?_ | refine br_f rfl ?_ | refine br_t (by assumption) ?_ | refine br_f (by assumption) ?_ | refine br_t (decide_eq_true (by assumption)) ?_ | refine br_f (decide_eq_false (by assumption)) ?_ | refine br_t (beq_iff_eq.2 (by assumption)) ?_ | refine br_f (beq_eq_false_iff_ne.2 (by assumption)) ?_ | intro b | refine drA ⟨tab_ok⟩ [] ?_ | refine kpt ?_ | refine br_t (decide_eq_true (by omega)) ?_ | refine br_f (decide_eq_false (by omega)) ?_ | refine wr_i ?_ | refine fin_s ?_ | refine fin_r ?_ ?_ | refine fin_e ?_ ?_)
      conv => whnf
      refine lp ⟨tab_ok⟩ (ι := {x : (Nat × Option Addr × Nat) × List AskV // x.1.1 ≤ K.Q.length ∧ x.2 = (K.Q.take x.1.1).filter (fun l => l.se != s)}) (fun x => match x with | ⟨((j2, A4, c4), zs), _⟩ => ⟨[(2, .i .i64 s), (7, .v (.pointer (some ⟨q, 0, none⟩))), (10, .v (.slice A0 K.L.length c0)), (11, .v (.slice A1 K.Q.length c1)), (12, .v (.slice A3 (goneK K s).L.length c3)), (13, .v (.slice A4 zs.length c4)), (15, .i .i64 (j2 : Int))], [], [rdO kopE a len os, rwO leaE w.heap.size A3 (goneK K s).L.length c3 (goneK K s).L true, rwO askE w.heap.size A4 zs.length c4 zs true, kO lo q p (goneK K s) S1 true, rwO leaE l0 A0 K.L.length c0 K.L true, rwO askE l1 A1 K.Q.length c1 K.Q true]⟩) (fun x => K.Q.length - x.1.1.1) ⟨((0, none, 0), []), Nat.zero_le _, by simp⟩ (wkd ?_) ?_
      · repeat' (first | exact trivial | rfl | ((conv => whnf); refine And.intro ?_ ?_))
      rintro ⟨⟨⟨j2, A4, c4⟩, zs⟩, hjl, hhs⟩
      have hjl : j2 ≤ K.Q.length := hjl
      have hhs : zs = (K.Q.take j2).filter (fun l => l.se != s) := hhs
      by_cases hj : j2 < K.Q.length
      · obtain ⟨l, hl⟩ : ∃ l, K.Q[j2]? = some l := ⟨_, List.getElem?_eq_getElem (by omega)⟩
        obtain ⟨gL, hgL⟩ := hA1 (by omega)
        subst hgL
        have hn : zs.length ≤ 10000 := by rw [hhs]; have := List.length_filter_le (fun l : AskV => l.se != s) (K.Q.take j2); rw [List.length_take] at this; omega
        by_cases he : l.se = s
        · have hx : zs = (K.Q.take (j2 + 1)).filter (fun l => l.se != s) := by rw [filter_next hl, if_pos he, List.append_nil]; exact hhs
          repeat' ((conv => whnf); first | refine sgo ⟨tab_ok⟩ ?_ | refine br_not ?_ | refine br_t rfl ?_ | refine br_f rfl ?_ | refine br_t (by assumption) ?_ | refine br_f (by assumption) ?_ | refine br_t (decide_eq_true (by assumption)) ?_ | refine br_f (decide_eq_false (by assumption)) ?_ | refine br_t (beq_iff_eq.2 (by assumption)) ?_ | refine br_f (beq_eq_false_iff_ne.2 (by assumption)) ?_ | intro b | refine drA ⟨tab_ok⟩ [] ?_ | refine kpt ?_ | refine br_t (decide_eq_true (by omega)) ?_ | refine br_f (decide_eq_false (by omega)) ?_ | refine wr_i ?_ | refine opiv ⟨tab_ok⟩ (by rfl) (by rfl) (by rfl) (by rfl) (by rfl) (by rfl) ⟨by omega, by omega⟩ ?_ | refine puiv ⟨tab_ok⟩ (by rfl) (by rfl) (by rfl) (by rfl) (by rfl) (by rfl) ⟨by omega, by omega⟩ ?_ | refine opfv ⟨tab_ok⟩ (by rfl) (by rfl) (by rfl) (by rfl) ?_ | refine pufv ⟨tab_ok⟩ (by rfl) (by rfl) (by rfl) (by rfl) ?_ | refine opxc (g := gL) (off := 0 + j2 * 5 + 0) (.i .i64 l.se) (fun w hH => rng_sub (n := 1) (Ek.rng (Hold.ob hH (A := rwO askE l1 (some ⟨gL, 0, none⟩) K.Q.length c1 K.Q true) 5 rfl) hl) rfl) ⟨tab_ok⟩ (by rfl) (by rfl) (by simp only [Go.WideShapes.add_plain]; rfl) ?_ | refine opix (g := gL) (off := 0 + j2 * 5) [.i .i64 l.se, .i .i64 l.fl, .i .i64 l.fm, .i .i64 l.to, .i .i64 l.ma] (fun w hH => Ek.rng (Hold.ob hH (A := rwO askE l1 (some ⟨gL, 0, none⟩) K.Q.length c1 K.Q true) 5 rfl) hl) ⟨tab_ok⟩ (by rfl) (by rfl) (by simp only [Go.WideShapes.add_plain]; rfl) ?_ | refine back ⟨((j2 + 1, A4, c4), zs), by show j2 + 1 ≤ _; omega, hx⟩ (wkd ?_) ?_ | refine fin_s ?_ | refine fin_r ?_ ?_ | refine fin_e ?_ ?_)
          all_goals first | (show K.Q.length - (j2 + 1) < K.Q.length - j2; omega) | skip
          all_goals (repeat' (first | exact trivial | rfl | ((conv => whnf); refine And.intro ?_ ?_)))
        · have hx : zs ++ [l] = (K.Q.take (j2 + 1)).filter (fun l => l.se != s) := by rw [filter_next hl, if_neg he, hhs]
          repeat' ((conv => whnf); first | refine sgo ⟨tab_ok⟩ ?_ | refine br_not ?_ | refine br_t rfl ?_ | refine br_f rfl ?_ | refine br_t (by assumption) ?_ | refine br_f (by assumption) ?_ | refine br_t (decide_eq_true (by assumption)) ?_ | refine br_f (decide_eq_false (by assumption)) ?_ | refine br_t (beq_iff_eq.2 (by assumption)) ?_ | refine br_f (beq_eq_false_iff_ne.2 (by assumption)) ?_ | intro b | refine drA ⟨tab_ok⟩ [] ?_ | refine kpt ?_ | refine br_t (decide_eq_true (by omega)) ?_ | refine br_f (decide_eq_false (by omega)) ?_ | refine wr_i ?_ | refine opiv ⟨tab_ok⟩ (by rfl) (by rfl) (by rfl) (by rfl) (by rfl) (by rfl) ⟨by omega, by omega⟩ ?_ | refine puiv ⟨tab_ok⟩ (by rfl) (by rfl) (by rfl) (by rfl) (by rfl) (by rfl) ⟨by omega, by omega⟩ ?_ | refine opfv ⟨tab_ok⟩ (by rfl) (by rfl) (by rfl) (by rfl) ?_ | refine pufv ⟨tab_ok⟩ (by rfl) (by rfl) (by rfl) (by rfl) ?_ | refine opxc (g := gL) (off := 0 + j2 * 5 + 0) (.i .i64 l.se) (fun w hH => rng_sub (n := 1) (Ek.rng (Hold.ob hH (A := rwO askE l1 (some ⟨gL, 0, none⟩) K.Q.length c1 K.Q true) 5 rfl) hl) rfl) ⟨tab_ok⟩ (by rfl) (by rfl) (by simp only [Go.WideShapes.add_plain]; rfl) ?_ | refine opix (g := gL) (off := 0 + j2 * 5) [.i .i64 l.se, .i .i64 l.fl, .i .i64 l.fm, .i .i64 l.to, .i .i64 l.ma] (fun w hH => Ek.rng (Hold.ob hH (A := rwO askE l1 (some ⟨gL, 0, none⟩) K.Q.length c1 K.Q true) 5 rfl) hl) ⟨tab_ok⟩ (by rfl) (by rfl) (by simp only [Go.WideShapes.add_plain]; rfl) ?_ | refine opb1 (e := 46) ⟨tab_ok⟩ [.i .i64 l.se, .i .i64 l.fl, .i .i64 l.fm, .i .i64 l.to, .i .i64 l.ma] (by rfl) (by rfl) ?_ | refine opap 2 0 (e := 46) (lo := w.heap.size) (size := 5) (bytes := 40) (z := .agg #[.int .i64 0, .int .i64 0, .int .i64 0, .int .i64 0, .int .i64 0]) (A := rwO askE w.heap.size A4 zs.length c4 zs true) (vals := rowsOf askE.c zs) (cells := askE.c l) (zs := rowsOf askE.c (zs ++ [l])) (n2 := (zs ++ [l]).length) (fun A' c' => rwO askE w.heap.size A' (zs ++ [l]).length c' (zs ++ [l]) true) (by rfl) (by rfl) (by rfl) (by rfl) rfl rfl (fun w h => h) (fun A' c' w h => h) (fun _ _ => rfl) (by rfl) (by rfl) (by rfl) (by rfl) Tryz.underlying84 (by kernel_rfl) rfl (by decide) (by decide) (askE.one _) (by omega) (fun w hH => hH.upd.size) (by simp) (by rw [rowsOf_append, rowsOf_one]) (fun A' c' => ?_) | refine back ⟨((j2 + 1, A', c'), zs ++ [l]), by show j2 + 1 ≤ _; omega, hx⟩ (wkd ?_) ?_ | refine fin_s ?_ | refine fin_r ?_ ?_ | refine fin_e ?_ ?_)
          all_goals first | (show K.Q.length - (j2 + 1) < K.Q.length - j2; omega) | skip
          all_goals (repeat' (first | exact trivial | rfl | ((conv => whnf); refine And.intro ?_ ?_)))
      · have hh : zs = (goneK K s).Q := by rw [hhs, gone_Q HU, List.take_of_length_le (by omega)]
        subst hh
        repeat' ((conv => whnf); first | refine sgo ⟨tab_ok⟩ ?_ | refine br_not ?_ | refine br_t rfl ?_ | refine br_f rfl ?_ | refine br_t (by assumption) ?_ | refine br_f (by assumption) ?_ | refine br_t (decide_eq_true (by assumption)) ?_ | refine br_f (decide_eq_false (by assumption)) ?_ | refine br_t (beq_iff_eq.2 (by assumption)) ?_ | refine br_f (beq_eq_false_iff_ne.2 (by assumption)) ?_ | intro b | refine drA ⟨tab_ok⟩ [] ?_ | refine kpt ?_ | refine br_t (decide_eq_true (by omega)) ?_ | refine br_f (decide_eq_false (by omega)) ?_ | refine wr_i ?_ | refine callS (f := 29) (.b true) (ansT) ?_ | refine callN (f := 30) (ι := NrP w.heap.size (goneK K s).L.length) (fun x => .v (.slice x.1.2.1 (goneK K s).L.length x.1.2.2)) (fun x => rwO leaE x.1.1 x.1.2.1 (goneK K s).L.length x.1.2.2 (goneK K s).L true) (fun w1 hH => toNp (leasesK (Hold.ob hH (A := kO lo q p (goneK K s) S1 true) 3 rfl) (by omega)) hH.upd.size) (fun u2 => ?_) | refine callN (f := 44) (ι := NrP w.heap.size (goneK K s).Q.length) (fun x => .v (.slice x.1.2.1 (goneK K s).Q.length x.1.2.2)) (fun x => rwO askE x.1.1 x.1.2.1 (goneK K s).Q.length x.1.2.2 (goneK K s).Q true) (fun w1 hH => toNp (queueK (Hold.ob hH (A := kO lo q p (goneK K s) S1 true) 3 rfl) (by omega)) hH.upd.size) (fun v2 => ?_) | refine callH (f := 45) (.b true) (fun w9 hH => sameL (by omega) (Hold.ob hH (A := rwO leaE u2.1.1 u2.1.2.1 (goneK K s).L.length u2.1.2.2 (goneK K s).L true) 6 rfl) (Hold.ob hH (A := rwO leaE w.heap.size A3 (goneK K s).L.length c3 (goneK K s).L true) 1 rfl)) ?_ | refine callH (f := 46) (.b true) (fun w9 hH => sameA (by omega) (Hold.ob hH (A := rwO askE v2.1.1 v2.1.2.1 (goneK K s).Q.length v2.1.2.2 (goneK K s).Q true) 7 rfl) (Hold.ob hH (A := rwO askE w.heap.size A4 (goneK K s).Q.length c4 (goneK K s).Q true) 2 rfl)) ?_ | refine fin_s ?_ | refine fin_r ?_ ?_ | refine fin_e ?_ ?_)
        all_goals rfl
theorem goneF {H : Type} {enc : TypeId × Value → H} {x : DataW H × List MemPlace} (c : CfgV) (s : Int) (a : Option Addr) (len cap : Nat) (w : World) (hx : ∃ m, DataW.trod enc Tryz.prog w 0 (fun _ => true) true m 40 (Value.cells (.slice a len cap)).toList = some x) :
    Calls Tryz.prog 10 #[.agg #[.int .i64 c.ca, .int .i64 c.fl, .int .i64 c.ft, .int .i64 c.se, .int .i64 c.dr, .int .i64 c.dw, .int .i64 c.ho, .int .i64 c.re, .int .i64 c.yi, .int .i64 c.qu, .int .i64 c.qo, .int .i64 c.lo, .int .i64 c.sl, .int .i64 c.rt, .int .i64 c.cp, .int .i64 c.tr, .int .i64 c.de, .int .i64 c.wi], .slice a len cap, .int .i64 s] w fun e w' => e = .returned (.bool true) ∧ Since w w' := by
  obtain ⟨m, hm⟩ := hx
  obtain ⟨os, ho, hl⟩ := kop_open hm
  exact goneF1 c s ho hl
end Go.Proofs.YthmikjjnlahlbaaGreat.Lc
namespace Go.Proofs.YthmikjjnlahlbaaGreat.Opn
set_option linter.unusedSectionVars false
set_option linter.unusedVariables false
set_option linter.unusedSimpArgs false
open Go.RowKit
section
variable {P : Program} {W : World} {base : Nat}
/-- The cells of a struct that came in, each fit for its type. -/
theorem open_agg {t : TypeId} {v : Value} {ts : List TypeId} {fs} (hu : P.underlying t = some (.struct fs)) (hts : P.cellTypes P.depth t = some ts) (hn : P.cellsOf t = ts.length) (h : Value.okWide P W .any base t v) :
    ∃ cs : Array Value, v = .agg cs ∧ cs.size = ts.length ∧ ∀ (i : Nat) (u : TypeId), ts[i]? = some u → ∃ c, cs[i]? = some c ∧ Cell.okWide P W .any base u c := by
  unfold Value.okWide at h
  rw [hu] at h
  obtain ⟨cs, rfl, hsz, ts', hts', _, hc⟩ := h
  rw [hts] at hts'
  obtain rfl : ts = ts' := by injection hts'
  refine ⟨cs, rfl, by omega, fun i u hi => ?_⟩
  obtain ⟨hlt, _⟩ := List.getElem?_eq_some_iff.1 hi
  have hcs : cs[i]? = some (cs[i]'(by omega)) := Array.getElem?_eq_getElem (by omega)
  obtain ⟨u', hu', hok⟩ := hc i _ hcs
  rw [Nat.mod_eq_of_lt hlt, hi] at hu'
  obtain rfl : u = u' := by injection hu'
  exact ⟨_, hcs, hok⟩
theorem cell_int {u : TypeId} {k : IntKind} {c : Value} (hu : P.underlying u = some (.int k)) (h : Cell.okWide P W .any base u c) : ∃ x, c = .int k x ∧ (Lit.int k x).wf = true := by
  unfold Cell.okWide at h
  rw [hu] at h
  simp only at h
  unfold Cell.ok at h
  rw [hu] at h
  cases c with
  | int k' x =>
    simp only at h
    obtain ⟨rfl, hx⟩ := h
    exact ⟨x, rfl, by simpa [Lit.wf, IntKind.has] using hx⟩
  | _ => simp at h
/-- An array of known cells. -/
theorem arr_of {cs : Array Value} {l : List Value} (hn : cs.size = l.length) (h : ∀ (i : Nat) (c : Value), l[i]? = some c → cs[i]? = some c) : cs = l.toArray := by
  apply Array.ext_getElem?
  intro i
  rcases Nat.lt_or_ge i l.length with hi | hi
  · have e := List.getElem?_eq_getElem hi
    rw [h i _ e]
    simp [hi]
  · rw [Array.getElem?_eq_none (by omega)]
    simp [hi]
/-- Cells from a place on. -/
def Each (cs : Array Value) (i : Nat) (l : List Value) : Prop := ∀ (j : Nat) (c : Value), l[j]? = some c → cs[i + j]? = some c
theorem each_nil {cs : Array Value} {i : Nat} : Each cs i [] := fun _ _ h => by simp at h
theorem each_cons {cs : Array Value} {i : Nat} {c : Value} {l : List Value} (h : cs[i]? = some c) (k : Each cs (i + 1) l) : Each cs i (c :: l) := by
  intro j d hd
  cases j with
  | zero =>
    have : c = d := by simpa using hd
    subst this; exact h
  | succ j =>
    have e : i + (j + 1) = i + 1 + j := by omega
    rw [e]
    exact k j d (by simpa using hd)
theorem arr_each {cs : Array Value} {l : List Value} (hn : cs.size = l.length) (h : Each cs 0 l) : cs = l.toArray :=
  arr_of hn fun i c hi => by have := h i c hi; rwa [Nat.zero_add] at this
end
end Go.Proofs.YthmikjjnlahlbaaGreat.Opn
namespace Go.Proofs.YthmikjjnlahlbaaGreat.coreGone
set_option linter.unusedSectionVars false
set_option linter.unusedVariables false
set_option linter.unusedSimpArgs false
open Go.Proofs.YthmikjjnlahlbaaGreat Go.Proofs.YthmikjjnlahlbaaGreat.Lc
open Go.ChangeShapes Go.WideShapes Go.ChangeAt Go.RowKit
open Go.ChangeMaps (open_string shut_string)
set_option linter.unusedVariables false

theorem own : ownKnob Tryz.prog.godebug = none := by kernel_rfl
theorem laidOut : laidOutB Tryz.prog = true := by kernel_rfl

set_option maxRecDepth 100000 in
theorem lifted (os : Os) (started : os.Started) (H : Type) (enc : TypeId × Value → H) :
    ReturnsInHanded {} Tryz.checked os 10 .any (Rows.coreGoneSpec.pre6 enc Tryz.prog Tryz.f10 Rows.coreGoneRow.domain false) (Rows.coreGoneSpec.post enc Tryz.prog Tryz.f10 false true false false) := by
  refine returnsInHanded_of_change_sized (C := Tryz.checked) own started (by kernel_rfl) Tryz.func10
    (ChangeSpec.witness6 (enc := enc) (C := Tryz.checked) false ⟨#[], #[.agg #[.int .i64 0, .int .i64 0, .int .i64 0, .int .i64 0, .int .i64 0, .int .i64 0, .int .i64 0, .int .i64 0, .int .i64 0, .int .i64 0, .int .i64 0, .int .i64 0, .int .i64 0, .int .i64 0, .int .i64 0, .int .i64 0, .int .i64 0, .int .i64 0], .slice none 0 0, .int .i64 0], []⟩ 8 (by kernel_rfl) (by kernel_rfl) (by kernel_rfl) (by kernel_rfl)) ?_
  intro W base args ds gs before hval0 hW hcnd hsz0 _
  have hsz : (DataW.weightsEach Tryz.prog (Tryz.f10.params.toList ++ Rows.coreGoneSpec.plain.varTypes Tryz.prog) (ds ++ gs)).all (· ≤ reachBytes) = true := hsz0
  have hval : ∀ (j : Nat) t v, Tryz.f10.params[j]? = some t → args[j]? = some v → Value.okWide Tryz.prog W .any base t v := hval0
  have hW' := hW
  obtain ⟨p, q, hA0, hV, rfl, hfz, hnd⟩ := hW
  have hA : DataW.TrodAll enc Tryz.prog W 0 (fun _ => true) true Tryz.f10.params.toList args.toList ds p := hA0
  rw [Tryz.params10] at hA hval hsz
  obtain ⟨v0, vs0, d0, ds0, p0, q0, hargs, rfl, rfl, h0, r0⟩ := trodAll_cons hA
  obtain ⟨v1, vs1, d1, ds1, p1, q1, rfl, rfl, rfl, h1, r1⟩ := trodAll_cons r0
  obtain ⟨v2, vs2, d2, ds2, p2, q2, rfl, rfl, rfl, h2, r2⟩ := trodAll_cons r1
  obtain ⟨rfl, rfl, rfl⟩ := trodAll_nil r2
  obtain rfl : args = #[v0, v1, v2] := by cases args; simp_all
  obtain ⟨rfl, rfl⟩ := trodVars_none hV
  have k0 := h0
  have lt0 : ∀ x ∈ p0, x.block < W.heap.size := by obtain ⟨m, hm⟩ := k0; exact DataW.trod_lt m _ _ _ hm
  obtain ⟨cs0, rfl, hsz0, hcc0⟩ := Opn.open_agg (ts := [3, 3, 3, 3, 3, 3, 3, 3, 3, 3, 3, 3, 3, 3, 3, 3, 3, 3]) Tryz.underlying23 (by kernel_rfl) (by kernel_rfl) (hval 0 23 v0 rfl rfl)
  obtain ⟨c0_0, hc0_0, ho0_0⟩ := hcc0 0 3 rfl
  obtain ⟨x0_0, rfl, w0_0⟩ := Opn.cell_int Tryz.underlying3 ho0_0
  obtain ⟨c0_1, hc0_1, ho0_1⟩ := hcc0 1 3 rfl
  obtain ⟨x0_1, rfl, w0_1⟩ := Opn.cell_int Tryz.underlying3 ho0_1
  obtain ⟨c0_2, hc0_2, ho0_2⟩ := hcc0 2 3 rfl
  obtain ⟨x0_2, rfl, w0_2⟩ := Opn.cell_int Tryz.underlying3 ho0_2
  obtain ⟨c0_3, hc0_3, ho0_3⟩ := hcc0 3 3 rfl
  obtain ⟨x0_3, rfl, w0_3⟩ := Opn.cell_int Tryz.underlying3 ho0_3
  obtain ⟨c0_4, hc0_4, ho0_4⟩ := hcc0 4 3 rfl
  obtain ⟨x0_4, rfl, w0_4⟩ := Opn.cell_int Tryz.underlying3 ho0_4
  obtain ⟨c0_5, hc0_5, ho0_5⟩ := hcc0 5 3 rfl
  obtain ⟨x0_5, rfl, w0_5⟩ := Opn.cell_int Tryz.underlying3 ho0_5
  obtain ⟨c0_6, hc0_6, ho0_6⟩ := hcc0 6 3 rfl
  obtain ⟨x0_6, rfl, w0_6⟩ := Opn.cell_int Tryz.underlying3 ho0_6
  obtain ⟨c0_7, hc0_7, ho0_7⟩ := hcc0 7 3 rfl
  obtain ⟨x0_7, rfl, w0_7⟩ := Opn.cell_int Tryz.underlying3 ho0_7
  obtain ⟨c0_8, hc0_8, ho0_8⟩ := hcc0 8 3 rfl
  obtain ⟨x0_8, rfl, w0_8⟩ := Opn.cell_int Tryz.underlying3 ho0_8
  obtain ⟨c0_9, hc0_9, ho0_9⟩ := hcc0 9 3 rfl
  obtain ⟨x0_9, rfl, w0_9⟩ := Opn.cell_int Tryz.underlying3 ho0_9
  obtain ⟨c0_10, hc0_10, ho0_10⟩ := hcc0 10 3 rfl
  obtain ⟨x0_10, rfl, w0_10⟩ := Opn.cell_int Tryz.underlying3 ho0_10
  obtain ⟨c0_11, hc0_11, ho0_11⟩ := hcc0 11 3 rfl
  obtain ⟨x0_11, rfl, w0_11⟩ := Opn.cell_int Tryz.underlying3 ho0_11
  obtain ⟨c0_12, hc0_12, ho0_12⟩ := hcc0 12 3 rfl
  obtain ⟨x0_12, rfl, w0_12⟩ := Opn.cell_int Tryz.underlying3 ho0_12
  obtain ⟨c0_13, hc0_13, ho0_13⟩ := hcc0 13 3 rfl
  obtain ⟨x0_13, rfl, w0_13⟩ := Opn.cell_int Tryz.underlying3 ho0_13
  obtain ⟨c0_14, hc0_14, ho0_14⟩ := hcc0 14 3 rfl
  obtain ⟨x0_14, rfl, w0_14⟩ := Opn.cell_int Tryz.underlying3 ho0_14
  obtain ⟨c0_15, hc0_15, ho0_15⟩ := hcc0 15 3 rfl
  obtain ⟨x0_15, rfl, w0_15⟩ := Opn.cell_int Tryz.underlying3 ho0_15
  obtain ⟨c0_16, hc0_16, ho0_16⟩ := hcc0 16 3 rfl
  obtain ⟨x0_16, rfl, w0_16⟩ := Opn.cell_int Tryz.underlying3 ho0_16
  obtain ⟨c0_17, hc0_17, ho0_17⟩ := hcc0 17 3 rfl
  obtain ⟨x0_17, rfl, w0_17⟩ := Opn.cell_int Tryz.underlying3 ho0_17
  obtain rfl : cs0 = #[.int .i64 x0_0, .int .i64 x0_1, .int .i64 x0_2, .int .i64 x0_3, .int .i64 x0_4, .int .i64 x0_5, .int .i64 x0_6, .int .i64 x0_7, .int .i64 x0_8, .int .i64 x0_9, .int .i64 x0_10, .int .i64 x0_11, .int .i64 x0_12, .int .i64 x0_13, .int .i64 x0_14, .int .i64 x0_15, .int .i64 x0_16, .int .i64 x0_17] := Opn.arr_each (l := [.int .i64 x0_0, .int .i64 x0_1, .int .i64 x0_2, .int .i64 x0_3, .int .i64 x0_4, .int .i64 x0_5, .int .i64 x0_6, .int .i64 x0_7, .int .i64 x0_8, .int .i64 x0_9, .int .i64 x0_10, .int .i64 x0_11, .int .i64 x0_12, .int .i64 x0_13, .int .i64 x0_14, .int .i64 x0_15, .int .i64 x0_16, .int .i64 x0_17]) hsz0 (by
    refine Opn.each_cons hc0_0 ?_
    refine Opn.each_cons hc0_1 ?_
    refine Opn.each_cons hc0_2 ?_
    refine Opn.each_cons hc0_3 ?_
    refine Opn.each_cons hc0_4 ?_
    refine Opn.each_cons hc0_5 ?_
    refine Opn.each_cons hc0_6 ?_
    refine Opn.each_cons hc0_7 ?_
    refine Opn.each_cons hc0_8 ?_
    refine Opn.each_cons hc0_9 ?_
    refine Opn.each_cons hc0_10 ?_
    refine Opn.each_cons hc0_11 ?_
    refine Opn.each_cons hc0_12 ?_
    refine Opn.each_cons hc0_13 ?_
    refine Opn.each_cons hc0_14 ?_
    refine Opn.each_cons hc0_15 ?_
    refine Opn.each_cons hc0_16 ?_
    refine Opn.each_cons hc0_17 ?_
    exact Opn.each_nil)
  obtain ⟨a1, len1, cap1, rfl⟩ := okWide_slice Tryz.underlying40 (hval 1 40 v1 rfl rfl)
  have k1 := h1
  have lt1 : ∀ x ∈ p1, x.block < W.heap.size := by obtain ⟨m, hm⟩ := k1; exact DataW.trod_lt m _ _ _ hm
  have k2 := h2
  have lt2 : ∀ x ∈ p2, x.block < W.heap.size := by obtain ⟨m, hm⟩ := k2; exact DataW.trod_lt m _ _ _ hm
  obtain ⟨a2, rfl, rfl, rfl, w2⟩ := open_int Tryz.underlying3 (hval 2 3 v2 rfl rfl) h2
  clear hA0 hval0
  refine (Lc.goneF ⟨x0_0, x0_1, x0_2, x0_3, x0_4, x0_5, x0_6, x0_7, x0_8, x0_9, x0_10, x0_11, x0_12, x0_13, x0_14, x0_15, x0_16, x0_17⟩ a2 a1 len1 cap1 W h1).mono fun e W' ⟨he, bel⟩ => ?_
  subst he
  exact ⟨_, rfl, _, _, _, [], _, [], hW', trodAll_mk1 (shut_bool Tryz.underlying4 _), (trodAll_cons_mk (Below.trod laidOut (by kernel_rfl) (of_decide_eq_true (by kernel_rfl)) k0 bel lt0) (trodAll_cons_mk (Below.trod laidOut (by kernel_rfl) (of_decide_eq_true (by kernel_rfl)) k1 bel lt1) (trodAll_cons_mk (Below.trod laidOut (by kernel_rfl) (of_decide_eq_true (by kernel_rfl)) k2 bel lt2) trodAll_mk0))), rfl, Below.frame bel _, fun h => by cases h⟩

theorem over : Rows.coreGoneRow.holds Tryz.pinned (OpenSpec.ofChange Rows.coreGoneSpec) :=
  OpenClaim.holds_of_wide 10 Tryz.f10 rfl rfl rfl rfl rfl rfl rfl ⟨rfl, rfl, rfl, rfl, rfl⟩ rfl rfl rfl rfl rfl (by kernel_rfl) Tryz.func10 (by kernel_rfl)
    (of_decide_eq_true (by kernel_rfl)) (by unfold Func.isWrapper; first | (rw [if_pos (by decide +kernel)]; kernel_rfl) | (rw [if_neg (by decide +kernel)]; exact ⟨rfl, rfl⟩))
    (fun os started H enc _ => lifted os started H enc)

/-- THE STATEMENT -/
theorem proved : Rows.CoreGoneSaid := over
#print axioms proved
end Go.Proofs.YthmikjjnlahlbaaGreat.coreGone
