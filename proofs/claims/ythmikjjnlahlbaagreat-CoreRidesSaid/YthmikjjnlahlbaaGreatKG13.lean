/-
  Whatever comes in: CoreRides answers true.
  No condition.
-/
import Derived.Test.YthmikjjnlahlbaaGreatKG12
import Derived.WalkKit
import Derived.ProofKit
import Derived.OpenShut
import Derived.Test.YthmikjjnlahlbaaGreatRows
import Derived.Lib.Hide
import Derived.ShutString
import Derived.ChangeOld
import Derived.Below
import Derived.SizedLaws
namespace Go.Proofs.YthmikjjnlahlbaaGreat.Lc
set_option linter.unusedSectionVars false
set_option linter.unusedVariables false
set_option linter.unusedSimpArgs false
open Go.RowKit Go.Proofs.YthmikjjnlahlbaaGreat.Ba Go.Proofs.YthmikjjnlahlbaaGreat.Mem Go.Proofs.YthmikjjnlahlbaaGreat.En Go.Proofs.YthmikjjnlahlbaaGreat.Ty Go.Proofs.YthmikjjnlahlbaaGreat.Mo Go.Proofs.YthmikjjnlahlbaaGreat.St Go.Proofs.YthmikjjnlahlbaaGreat.Co
open Go.Proofs.YthmikjjnlahlbaaGreat.Fl (leaE)
open Go.Proofs.YthmikjjnlahlbaaGreat.Gr (waitsO tickP)
set_option maxRecDepth 100000
attribute [local irreducible] Go.Calls doK doE tickK tickE newK tickP boundV
end Go.Proofs.YthmikjjnlahlbaaGreat.Lc
namespace Go.Proofs.YthmikjjnlahlbaaGreat.Lc
set_option linter.unusedSectionVars false
set_option linter.unusedVariables false
set_option linter.unusedSimpArgs false
open Go.RowKit Go.Proofs.YthmikjjnlahlbaaGreat.Ba Go.Proofs.YthmikjjnlahlbaaGreat.Mem Go.Proofs.YthmikjjnlahlbaaGreat.En Go.Proofs.YthmikjjnlahlbaaGreat.Ty Go.Proofs.YthmikjjnlahlbaaGreat.Mo Go.Proofs.YthmikjjnlahlbaaGreat.St Go.Proofs.YthmikjjnlahlbaaGreat.Co
open Go.Proofs.YthmikjjnlahlbaaGreat.Ri (trV)
open Go.Proofs.YthmikjjnlahlbaaGreat.Qu (btw)
open Go.Proofs.YthmikjjnlahlbaaGreat.Fl (mayB belB)
open Go.Proofs.YthmikjjnlahlbaaGreat.Ce (ms)
open Go.Proofs.YthmikjjnlahlbaaGreat.Fl (leaE)
open Go.Proofs.YthmikjjnlahlbaaGreat.Gr (waitsO tickP)
set_option maxRecDepth 100000
attribute [local irreducible] Go.Calls
theorem massRT (n : Int) (w : World) : Calls Tryz.prog 91 #[.int .i64 n] w fun e w' => e = .returned (.int .i64 (ms n)) ∧ Since w w' := by
  refine ent tab_ok [.i .i64 n] Tryz.func91 Tryz.ntmps91 rfl rfl ?_
  repeat' ((conv => whnf); first | refine sgo ⟨tab_ok⟩ ?_ | refine br_not ?_ | refine br_t rfl ?_ | refine br_f rfl ?_ | refine br_t (by assumption) ?_ | refine br_f (by assumption) ?_ | refine br_t (decide_eq_true (by assumption)) ?_ | refine br_f (decide_eq_false (by assumption)) ?_ | refine br_t (beq_iff_eq.2 (by assumption)) ?_ | refine br_f (beq_eq_false_iff_ne.2 (by assumption)) ?_ | refine drA ⟨tab_ok⟩ [] ?_ | refine kpt ?_ | refine br_dec (fun h => ?_) (fun h => ?_) | refine br_eq (fun h => ?_) (fun h => ?_) | refine br_b (fun h => ?_) (fun h => ?_) | refine fin_s ?_ | refine fin_r ?_ ?_ | refine fin_e ?_ ?_)
  all_goals (refine congrArg (Value.int .i64) ?_; unfold ms; (repeat' split) <;> omega)
theorem roomRT (n : Int) (w : World) : Calls Tryz.prog 38 #[.int .i64 n] w fun e w' => e = .returned (.int .i64 (btw n 0 64)) ∧ Since w w' := by
  refine ent tab_ok [.i .i64 n] Tryz.func38 Tryz.ntmps38 rfl rfl ?_
  repeat' ((conv => whnf); first | refine sgo ⟨tab_ok⟩ ?_ | refine br_not ?_ | refine br_t rfl ?_ | refine br_f rfl ?_ | refine br_t (by assumption) ?_ | refine br_f (by assumption) ?_ | refine br_t (decide_eq_true (by assumption)) ?_ | refine br_f (decide_eq_false (by assumption)) ?_ | refine br_t (beq_iff_eq.2 (by assumption)) ?_ | refine br_f (beq_eq_false_iff_ne.2 (by assumption)) ?_ | refine drA ⟨tab_ok⟩ [] ?_ | refine kpt ?_ | refine callS (f := 87) (.i .i64 (btw n 0 64)) (nearestT n 0 64) ?_ | refine fin_s ?_ | refine fin_r ?_ ?_ | refine fin_e ?_ ?_)
  all_goals rfl
section
attribute [local irreducible] btw ms fl
set_option maxHeartbeats 4000000 in
theorem mayRT (c : CfgV) (a : AskV) (w : World) : Calls Tryz.prog 37 #[.agg #[.int .i64 c.ca, .int .i64 c.fl, .int .i64 c.ft, .int .i64 c.se, .int .i64 c.dr, .int .i64 c.dw, .int .i64 c.ho, .int .i64 c.re, .int .i64 c.yi, .int .i64 c.qu, .int .i64 c.qo, .int .i64 c.lo, .int .i64 c.sl, .int .i64 c.rt, .int .i64 c.cp, .int .i64 c.tr, .int .i64 c.de, .int .i64 c.wi], .agg #[.int .i64 a.se, .int .i64 a.fl, .int .i64 a.fm, .int .i64 a.to, .int .i64 a.ma]] w fun e w' => e = .returned (.bool (mayB c a)) ∧ Since w w' := by
  refine ent tab_ok [.a [.i .i64 c.ca, .i .i64 c.fl, .i .i64 c.ft, .i .i64 c.se, .i .i64 c.dr, .i .i64 c.dw, .i .i64 c.ho, .i .i64 c.re, .i .i64 c.yi, .i .i64 c.qu, .i .i64 c.qo, .i .i64 c.lo, .i .i64 c.sl, .i .i64 c.rt, .i .i64 c.cp, .i .i64 c.tr, .i .i64 c.de, .i .i64 c.wi], .a [.i .i64 a.se, .i .i64 a.fl, .i .i64 a.fm, .i .i64 a.to, .i .i64 a.ma]] Tryz.func37 Tryz.ntmps37 rfl rfl ?_
  repeat' ((conv => whnf); first | refine sgo ⟨tab_ok⟩ ?_ | refine br_not ?_ | refine br_t rfl ?_ | refine br_f rfl ?_ | refine br_t (by assumption) ?_ | refine br_f (by assumption) ?_ | refine br_t (decide_eq_true (by assumption)) ?_ | refine br_f (decide_eq_false (by assumption)) ?_ | refine br_t (beq_iff_eq.2 (by assumption)) ?_ | refine br_f (beq_eq_false_iff_ne.2 (by assumption)) ?_ | intro b | refine drA ⟨tab_ok⟩ [] ?_ | refine kpt ?_ | refine br_dec (fun h => ?_) (fun h => ?_) | refine br_eq (fun h => ?_) (fun h => ?_) | refine br_b (fun h => ?_) (fun h => ?_) | refine br_ne (fun h => ?_) (fun h => ?_) | refine callS (f := 87) (.i .i64 (btw _ _ _)) (nearestT _ _ _) ?_ | refine callS (f := 90) (.i .i64 (fl _)) (floorsT _) ?_ | refine callS (f := 91) (.i .i64 (ms _)) (massRT _) ?_ | refine fin_s ?_ | refine fin_r ?_ ?_ | refine fin_e ?_ ?_)
  all_goals (unfold mayB belB; simp [den, *])
end
def c2 (c : CfgV) : CfgV := { c with ca := if 2 > c.ca then 2 else c.ca }
theorem newK_len (c : CfgV) : (newK c).Q.length ≤ 1000 ∧ (newK c).L.length ≤ 10000 := ⟨by show (0 : Nat) ≤ _; omega, by show (0 : Nat) ≤ _; omega⟩
attribute [local irreducible] doK doE tickK tickE newK k0 tickP mayB btw trV obK obE ansM
set_option maxHeartbeats 8000000 in
theorem ridesNo (c : CfgV) (a : AskV) (w : World) (hno : ¬ (mayB (c2 c) a = true ∧ ¬ btw c.qu 0 64 < 1 ∧ ¬ c.dr > 5)) : Calls Tryz.prog 8 #[.agg #[.int .i64 c.ca, .int .i64 c.fl, .int .i64 c.ft, .int .i64 c.se, .int .i64 c.dr, .int .i64 c.dw, .int .i64 c.ho, .int .i64 c.re, .int .i64 c.yi, .int .i64 c.qu, .int .i64 c.qo, .int .i64 c.lo, .int .i64 c.sl, .int .i64 c.rt, .int .i64 c.cp, .int .i64 c.tr, .int .i64 c.de, .int .i64 c.wi], .agg #[.int .i64 a.se, .int .i64 a.fl, .int .i64 a.fm, .int .i64 a.to, .int .i64 a.ma]] w fun e w' => e = .returned (.bool true) ∧ Since w w' := by
  by_cases hm : mayB (c2 c) a = true
  case neg =>
    have hm' : mayB (c2 c) a = false := by simpa using hm
    refine ent tab_ok [.a [.i .i64 c.ca, .i .i64 c.fl, .i .i64 c.ft, .i .i64 c.se, .i .i64 c.dr, .i .i64 c.dw, .i .i64 c.ho, .i .i64 c.re, .i .i64 c.yi, .i .i64 c.qu, .i .i64 c.qo, .i .i64 c.lo, .i .i64 c.sl, .i .i64 c.rt, .i .i64 c.cp, .i .i64 c.tr, .i .i64 c.de, .i .i64 c.wi], .a [.i .i64 a.se, .i .i64 a.fl, .i .i64 a.fm, .i .i64 a.to, .i .i64 a.ma]] Tryz.func8 Tryz.ntmps8 rfl rfl ?_
    repeat' ((conv => whnf); first | refine sgo ⟨tab_ok⟩ ?_ | refine br_not ?_ | refine br_t rfl ?_ | refine br_f rfl ?_ | refine br_t (by assumption) ?_ | refine br_f (by assumption) ?_ | refine br_t (decide_eq_true (by assumption)) ?_ | refine br_f (decide_eq_false (by assumption)) ?_ | refine br_t (beq_iff_eq.2 (by assumption)) ?_ | refine br_f (beq_eq_false_iff_ne.2 (by assumption)) ?_ | intro b | refine drA ⟨tab_ok⟩ [] ?_ | refine kpt ?_ | refine callS (f := 37) (.b false) (fun w => by have := mayRT (c2 c) a w; rw [hm'] at this; exact this) ?_ | refine callS (f := 29) (.b true) (ansT) ?_ | refine fin_s ?_ | refine fin_r ?_ ?_ | refine fin_e ?_ ?_)
    all_goals rfl
  by_cases hq : btw c.qu 0 64 < 1
  · refine ent tab_ok [.a [.i .i64 c.ca, .i .i64 c.fl, .i .i64 c.ft, .i .i64 c.se, .i .i64 c.dr, .i .i64 c.dw, .i .i64 c.ho, .i .i64 c.re, .i .i64 c.yi, .i .i64 c.qu, .i .i64 c.qo, .i .i64 c.lo, .i .i64 c.sl, .i .i64 c.rt, .i .i64 c.cp, .i .i64 c.tr, .i .i64 c.de, .i .i64 c.wi], .a [.i .i64 a.se, .i .i64 a.fl, .i .i64 a.fm, .i .i64 a.to, .i .i64 a.ma]] Tryz.func8 Tryz.ntmps8 rfl rfl ?_
    repeat' ((conv => whnf); first | refine sgo ⟨tab_ok⟩ ?_ | refine br_not ?_ | refine br_t rfl ?_ | refine br_f rfl ?_ | refine br_t (by assumption) ?_ | refine br_f (by assumption) ?_ | refine br_t (decide_eq_true (by assumption)) ?_ | refine br_f (decide_eq_false (by assumption)) ?_ | refine br_t (beq_iff_eq.2 (by assumption)) ?_ | refine br_f (beq_eq_false_iff_ne.2 (by assumption)) ?_ | intro b | refine drA ⟨tab_ok⟩ [] ?_ | refine kpt ?_ | refine br_t (decide_eq_true (by omega)) ?_ | refine br_f (decide_eq_false (by omega)) ?_ | refine callS (f := 37) (.b true) (fun w => by have := mayRT (c2 c) a w; rw [hm] at this; exact this) ?_ | refine callS (f := 38) (.i .i64 (btw c.qu 0 64)) (roomRT c.qu) ?_ | refine callS (f := 29) (.b true) (ansT) ?_ | refine fin_s ?_ | refine fin_r ?_ ?_ | refine fin_e ?_ ?_)
    all_goals rfl
  by_cases hd : c.dr > 5
  · refine ent tab_ok [.a [.i .i64 c.ca, .i .i64 c.fl, .i .i64 c.ft, .i .i64 c.se, .i .i64 c.dr, .i .i64 c.dw, .i .i64 c.ho, .i .i64 c.re, .i .i64 c.yi, .i .i64 c.qu, .i .i64 c.qo, .i .i64 c.lo, .i .i64 c.sl, .i .i64 c.rt, .i .i64 c.cp, .i .i64 c.tr, .i .i64 c.de, .i .i64 c.wi], .a [.i .i64 a.se, .i .i64 a.fl, .i .i64 a.fm, .i .i64 a.to, .i .i64 a.ma]] Tryz.func8 Tryz.ntmps8 rfl rfl ?_
    repeat' ((conv => whnf); first | refine sgo ⟨tab_ok⟩ ?_ | refine br_not ?_ | refine br_t rfl ?_ | refine br_f rfl ?_ | refine br_t (by assumption) ?_ | refine br_f (by assumption) ?_ | refine br_t (decide_eq_true (by assumption)) ?_ | refine br_f (decide_eq_false (by assumption)) ?_ | refine br_t (beq_iff_eq.2 (by assumption)) ?_ | refine br_f (beq_eq_false_iff_ne.2 (by assumption)) ?_ | intro b | refine drA ⟨tab_ok⟩ [] ?_ | refine kpt ?_ | refine br_t (decide_eq_true (by omega)) ?_ | refine br_f (decide_eq_false (by omega)) ?_ | refine callS (f := 37) (.b true) (fun w => by have := mayRT (c2 c) a w; rw [hm] at this; exact this) ?_ | refine callS (f := 38) (.i .i64 (btw c.qu 0 64)) (roomRT c.qu) ?_ | refine callS (f := 29) (.b true) (ansT) ?_ | refine fin_s ?_ | refine fin_r ?_ ?_ | refine fin_e ?_ ?_)
    all_goals rfl
  exact absurd ⟨hm, hq, hd⟩ hno
set_option maxHeartbeats 8000000 in
theorem ridesF (c : CfgV) (a : AskV) (w : World) : Calls Tryz.prog 8 #[.agg #[.int .i64 c.ca, .int .i64 c.fl, .int .i64 c.ft, .int .i64 c.se, .int .i64 c.dr, .int .i64 c.dw, .int .i64 c.ho, .int .i64 c.re, .int .i64 c.yi, .int .i64 c.qu, .int .i64 c.qo, .int .i64 c.lo, .int .i64 c.sl, .int .i64 c.rt, .int .i64 c.cp, .int .i64 c.tr, .int .i64 c.de, .int .i64 c.wi], .agg #[.int .i64 a.se, .int .i64 a.fl, .int .i64 a.fm, .int .i64 a.to, .int .i64 a.ma]] w fun e w' => e = .returned (.bool true) ∧ Since w w' := by
  by_cases hno : mayB (c2 c) a = true ∧ ¬ btw c.qu 0 64 < 1 ∧ ¬ c.dr > 5
  case neg => exact ridesNo c a w hno
  obtain ⟨hm, hq, hd⟩ := hno
  have hq1 : 1 ≤ btw (c2 c).qu 0 64 := by show 1 ≤ btw c.qu 0 64; omega
  have hca : 2 ≤ (c2 c).ca := by show 2 ≤ (if 2 > c.ca then 2 else c.ca); split <;> omega
  have hk0 := ans_k0 hm hq1
  have ht1 := Ri.tr_lo (c2 c)
  have ht2 := Ri.tr_hi (c2 c)
  have htr : trV c = trV (c2 c) := by unfold trV; rfl
  refine ent tab_ok [.a [.i .i64 c.ca, .i .i64 c.fl, .i .i64 c.ft, .i .i64 c.se, .i .i64 c.dr, .i .i64 c.dw, .i .i64 c.ho, .i .i64 c.re, .i .i64 c.yi, .i .i64 c.qu, .i .i64 c.qo, .i .i64 c.lo, .i .i64 c.sl, .i .i64 c.rt, .i .i64 c.cp, .i .i64 c.tr, .i .i64 c.de, .i .i64 c.wi], .a [.i .i64 a.se, .i .i64 a.fl, .i .i64 a.fm, .i .i64 a.to, .i .i64 a.ma]] Tryz.func8 Tryz.ntmps8 rfl rfl ?_
  repeat' ((conv => whnf); first | refine sgo ⟨tab_ok⟩ ?_ | refine br_not ?_ | refine br_t rfl ?_ | refine br_f rfl ?_ | refine br_t (by assumption) ?_ | refine br_f (by assumption) ?_ | refine br_t (decide_eq_true (by assumption)) ?_ | refine br_f (decide_eq_false (by assumption)) ?_ | refine br_t (beq_iff_eq.2 (by assumption)) ?_ | refine br_f (beq_eq_false_iff_ne.2 (by assumption)) ?_ | (first | (have _t := bc; clear _t; intro ba) | intro bc) | refine drA ⟨tab_ok⟩ [] ?_ | refine kpt ?_ | refine br_t (decide_eq_true (by omega)) ?_ | refine br_f (decide_eq_false (by omega)) ?_ | refine callS (f := 37) (.b true) (fun w => by have := mayRT (c2 c) a w; rw [hm] at this; exact this) ?_ | refine callS (f := 38) (.i .i64 (btw c.qu 0 64)) (roomRT c.qu) ?_ | refine callN (f := 20) (ι := {x : Nat × Nat × Pt × List Nat // w.heap.size ≤ x.1}) (fun x => .v (.pointer (some ⟨x.1.2.1, 0, none⟩))) (fun x => kO x.1.1 x.1.2.1 x.1.2.2.1 (newK (c2 c)) x.1.2.2.2 true) (fun w1 hH => (newW (c2 c) w1).mono (by rintro e w' ⟨q, p, S', rfl, h1, h2⟩; exact ⟨⟨(w1.heap.size, q, p, S'), hH.upd.size⟩, rfl, h1, h2, h1.low⟩)) (fun x => ?_) | refine callON (f := 39) (A := kO x.1.1 x.1.2.1 x.1.2.2.1 (newK (c2 c)) x.1.2.2.2 true) 0 (ι := List Nat × Option Addr × Nat) (fun y => .v (.slice y.2.1 1 y.2.2)) (fun y => kO x.1.1 x.1.2.1 x.1.2.2.1 (k0 (c2 c) a) y.1 true) (fun y => rwO evE w.heap.size y.2.1 1 y.2.2 (evs a.se [ansM (newK (c2 c)) a]) true) (fun w1 hH hA => toD (Φ := fun S' => KW x.1.1 x.1.2.1 x.1.2.2.1 (k0 (c2 c) a) S') (by have := Co.askK hA (newK_len (c2 c)).1 (newK_len (c2 c)).2 a; rw [hk0] at this; exact this) hH.upd.size) (fun y => ?_) | refine fin_s ?_ | refine fin_r ?_ ?_ | refine fin_e ?_ ?_)
  conv => whnf
  obtain ⟨⟨lo, q, p, S0⟩, hlo⟩ := x
  obtain ⟨Sa, Aa, ca⟩ := y
  refine lp ⟨tab_ok⟩ (ι := {x : (Nat × List Nat) × KV // JI (c2 c) a x.1.1 x.2}) (fun x => match x with | ⟨((k, Sk), K), _⟩ => ⟨[(2, .p 0 0), (3, .p 1 0), (5, .v (.pointer (some ⟨q, 0, none⟩))), (6, .i .i64 (k : Int))], [⟨bc, 23, true, 0, [], [.i .i64 (c2 c).ca, .i .i64 (c2 c).fl, .i .i64 (c2 c).ft, .i .i64 (c2 c).se, .i .i64 (c2 c).dr, .i .i64 (c2 c).dw, .i .i64 (c2 c).ho, .i .i64 (c2 c).re, .i .i64 (c2 c).yi, .i .i64 (c2 c).qu, .i .i64 (c2 c).qo, .i .i64 (c2 c).lo, .i .i64 (c2 c).sl, .i .i64 (c2 c).rt, .i .i64 (c2 c).cp, .i .i64 (c2 c).tr, .i .i64 (c2 c).de, .i .i64 (c2 c).wi], [], true⟩, ⟨ba, 46, true, 0, [], [.i .i64 a.se, .i .i64 a.fl, .i .i64 a.fm, .i .i64 a.to, .i .i64 a.ma], [], true⟩], [kO lo q p K Sk true]⟩) (fun x => 20000 - x.1.1.1) ⟨((0, Sa), k0 (c2 c) a), .inl ⟨rfl, rfl⟩⟩ (wkd ?_) ?_
  · repeat' (first | exact trivial | rfl | ((conv => whnf); refine And.intro ?_ ?_))
  rintro ⟨⟨⟨k, Sk⟩, K⟩, HJ⟩
  have HJ : JI (c2 c) a k K := HJ
  have hlt := HJ.lt
  have HP := HJ.pi hm hq1
  have HT : KT K := HP.k.kt (by decide) (by omega) (by omega)
  have HN2 := HP.tick (by omega)
  have hL := HN2.k.ll
  rcases HJ.next hm hq1 hca with ⟨e1, hJ2⟩ | ⟨e1, hJ2⟩ | ⟨e1, hL0⟩
  · repeat' ((conv => whnf); first | refine sgo ⟨tab_ok⟩ ?_ | refine br_not ?_ | refine br_t rfl ?_ | refine br_f rfl ?_ | refine br_t (by assumption) ?_ | refine br_f (by assumption) ?_ | refine br_t (decide_eq_true (by assumption)) ?_ | refine br_f (decide_eq_false (by assumption)) ?_ | refine br_t (beq_iff_eq.2 (by assumption)) ?_ | refine br_f (beq_eq_false_iff_ne.2 (by assumption)) ?_ | intro b | refine drA ⟨tab_ok⟩ [] ?_ | refine kpt ?_ | refine br_t (decide_eq_true (by omega)) ?_ | refine br_f (decide_eq_false (by omega)) ?_ | refine wr_i ?_ | refine callS (f := 40) (.i .i64 (trV (c2 c))) (fun w => tripRT (c2 c) w) ?_ | refine callO2N (f := 22) (A := kO lo q p K Sk true) 0 (ι := List Nat × Nr × Nr) (fun z => .t [.v (.slice z.2.1.2.1 (tickE K).length z.2.1.2.2), .v (.slice z.2.2.2.1 (tickP K.G).2.2.length z.2.2.2.2)]) (fun z => kO lo q p (tickK K) z.1 true) (fun z => rwO evE z.2.1.1 z.2.1.2.1 (tickE K).length z.2.1.2.2 (tickE K) true) (fun z => waitsO z.2.2.1 z.2.2.2.1 (tickP K.G).2.2.length z.2.2.2.2 (tickP K.G).2.2 true) (fun w1 hH hA => Co.tickW hA HT) (fun z => ?_) | refine callON (f := 41) (A := kO lo q p (tickK K) z.1 true) 0 (ι := List Nat × Option Addr × Nat) (fun x => .v (.slice x.2.1 0 x.2.2)) (fun x => kO lo q p (obK (tickK K)) x.1 true) (fun x => rwO evE w.heap.size x.2.1 0 x.2.2 [] true) (fun w1 hH hA => toD (Φ := fun S' => KW lo q p (obK (tickK K)) S') (by have := obeysT hA HN2.k (by omega); rw [e1] at this; exact this) hH.upd.size) (fun u => ?_) | refine fin_s ?_ | refine fin_r ?_ ?_ | refine fin_e ?_ ?_)
    conv => whnf
    obtain ⟨S5, A5, c5⟩ := u
    obtain ⟨S4, e4, w4⟩ := z
    refine lp ⟨tab_ok⟩ (ι := Unit) (fun _ => ⟨[(2, .p 0 0), (3, .p 1 0), (5, .v (.pointer (some ⟨q, 0, none⟩))), (6, .i .i64 (k : Int)), (7, .v (.slice A5 0 c5)), (8, .i .i64 0)], [⟨bc, 23, true, 0, [], [.i .i64 (c2 c).ca, .i .i64 (c2 c).fl, .i .i64 (c2 c).ft, .i .i64 (c2 c).se, .i .i64 (c2 c).dr, .i .i64 (c2 c).dw, .i .i64 (c2 c).ho, .i .i64 (c2 c).re, .i .i64 (c2 c).yi, .i .i64 (c2 c).qu, .i .i64 (c2 c).qo, .i .i64 (c2 c).lo, .i .i64 (c2 c).sl, .i .i64 (c2 c).rt, .i .i64 (c2 c).cp, .i .i64 (c2 c).tr, .i .i64 (c2 c).de, .i .i64 (c2 c).wi], [], true⟩, ⟨ba, 46, true, 0, [], [.i .i64 a.se, .i .i64 a.fl, .i .i64 a.fm, .i .i64 a.to, .i .i64 a.ma], [], true⟩], [kO lo q p (obK (tickK K)) S5 true]⟩) (fun _ => 0) () (wkd ?_) ?_
    · repeat' (first | exact trivial | rfl | ((conv => whnf); refine And.intro ?_ ?_))
    rintro ⟨⟩
    repeat' ((conv => whnf); first | refine sgo ⟨tab_ok⟩ ?_ | refine br_not ?_ | refine br_t rfl ?_ | refine br_f rfl ?_ | refine br_t (by assumption) ?_ | refine br_f (by assumption) ?_ | refine br_t (decide_eq_true (by assumption)) ?_ | refine br_f (decide_eq_false (by assumption)) ?_ | refine br_t (beq_iff_eq.2 (by assumption)) ?_ | refine br_f (beq_eq_false_iff_ne.2 (by assumption)) ?_ | intro b | refine drA ⟨tab_ok⟩ [] ?_ | refine kpt ?_ | refine br_t (decide_eq_true (by omega)) ?_ | refine br_f (decide_eq_false (by omega)) ?_ | refine wr_i ?_ | refine back ⟨((k + 1, S5), obK (tickK K)), hJ2⟩ (wkd ?_) ?_ | refine fin_s ?_ | refine fin_r ?_ ?_ | refine fin_e ?_ ?_)
    all_goals first | (show 20000 - (k + 1) < 20000 - k; omega) | skip
    all_goals (repeat' (first | exact trivial | rfl | ((conv => whnf); refine And.intro ?_ ?_)))
  · repeat' ((conv => whnf); first | refine sgo ⟨tab_ok⟩ ?_ | refine br_not ?_ | refine br_t rfl ?_ | refine br_f rfl ?_ | refine br_t (by assumption) ?_ | refine br_f (by assumption) ?_ | refine br_t (decide_eq_true (by assumption)) ?_ | refine br_f (decide_eq_false (by assumption)) ?_ | refine br_t (beq_iff_eq.2 (by assumption)) ?_ | refine br_f (beq_eq_false_iff_ne.2 (by assumption)) ?_ | intro b | refine drA ⟨tab_ok⟩ [] ?_ | refine kpt ?_ | refine br_t (decide_eq_true (by omega)) ?_ | refine br_f (decide_eq_false (by omega)) ?_ | refine wr_i ?_ | refine callS (f := 40) (.i .i64 (trV (c2 c))) (fun w => tripRT (c2 c) w) ?_ | refine callO2N (f := 22) (A := kO lo q p K Sk true) 0 (ι := List Nat × Nr × Nr) (fun z => .t [.v (.slice z.2.1.2.1 (tickE K).length z.2.1.2.2), .v (.slice z.2.2.2.1 (tickP K.G).2.2.length z.2.2.2.2)]) (fun z => kO lo q p (tickK K) z.1 true) (fun z => rwO evE z.2.1.1 z.2.1.2.1 (tickE K).length z.2.1.2.2 (tickE K) true) (fun z => waitsO z.2.2.1 z.2.2.2.1 (tickP K.G).2.2.length z.2.2.2.2 (tickP K.G).2.2 true) (fun w1 hH hA => Co.tickW hA HT) (fun z => ?_) | refine callON (f := 41) (A := kO lo q p (tickK K) z.1 true) 0 (ι := List Nat × Nat × Nat × Nat) (fun x => .v (.slice (some ⟨x.2.2.1, 0, none⟩) 1 x.2.2.2)) (fun x => kO lo q p (obK (tickK K)) x.1 true) (fun x => rwO evE x.2.1 (some ⟨x.2.2.1, 0, none⟩) 1 x.2.2.2 _ true) (fun w1 hH hA => toEg (Φ := fun S' => KW lo q p (obK (tickK K)) S') (by decide) (by have := obeysT hA HN2.k (by omega); rw [e1] at this; exact this)) (fun u => ?_) | refine fin_s ?_ | refine fin_r ?_ ?_ | refine fin_e ?_ ?_)
    conv => whnf
    obtain ⟨S5, l5, g5, c5⟩ := u
    obtain ⟨S4, e4, w4⟩ := z
    refine lp ⟨tab_ok⟩ (ι := {j : Nat // j ≤ 1}) (fun x => match x with | ⟨j, _⟩ => ⟨[(2, .p 0 0), (3, .p 1 0), (5, .v (.pointer (some ⟨q, 0, none⟩))), (6, .i .i64 (k : Int)), (7, .v (.slice (some ⟨g5, 0, none⟩) 1 c5)), (8, .i .i64 (j : Int))], [⟨bc, 23, true, 0, [], [.i .i64 (c2 c).ca, .i .i64 (c2 c).fl, .i .i64 (c2 c).ft, .i .i64 (c2 c).se, .i .i64 (c2 c).dr, .i .i64 (c2 c).dw, .i .i64 (c2 c).ho, .i .i64 (c2 c).re, .i .i64 (c2 c).yi, .i .i64 (c2 c).qu, .i .i64 (c2 c).qo, .i .i64 (c2 c).lo, .i .i64 (c2 c).sl, .i .i64 (c2 c).rt, .i .i64 (c2 c).cp, .i .i64 (c2 c).tr, .i .i64 (c2 c).de, .i .i64 (c2 c).wi], [], true⟩, ⟨ba, 46, true, 0, [], [.i .i64 a.se, .i .i64 a.fl, .i .i64 a.fm, .i .i64 a.to, .i .i64 a.ma], [], true⟩], [kO lo q p (obK (tickK K)) S5 true, rwO evE e4.1 e4.2.1 (tickE K).length e4.2.2 (tickE K) true, waitsO w4.1 w4.2.1 (tickP K.G).2.2.length w4.2.2 (tickP K.G).2.2 true, rwO evE l5 (some ⟨g5, 0, none⟩) 1 c5 [⟨a.se, ⟨10, 0, 0, 0⟩⟩] true]⟩) (fun x => 1 - x.1) ⟨0, Nat.zero_le _⟩ (wkd ?_) ?_
    · repeat' (first | exact trivial | rfl | ((conv => whnf); refine And.intro ?_ ?_))
    rintro ⟨j, hj⟩
    have hj : j ≤ 1 := hj
    by_cases hj0 : j = 0
    · subst hj0
      repeat' ((conv => whnf); first | refine sgo ⟨tab_ok⟩ ?_ | refine br_not ?_ | refine br_t rfl ?_ | refine br_f rfl ?_ | refine br_t (by assumption) ?_ | refine br_f (by assumption) ?_ | refine br_t (decide_eq_true (by assumption)) ?_ | refine br_f (decide_eq_false (by assumption)) ?_ | refine br_t (beq_iff_eq.2 (by assumption)) ?_ | refine br_f (beq_eq_false_iff_ne.2 (by assumption)) ?_ | intro b | refine drA ⟨tab_ok⟩ [5, 12] ?_ | refine And.intro ?_ ?_ | refine kpt ?_ | refine br_t (decide_eq_true (by omega)) ?_ | refine br_f (decide_eq_false (by omega)) ?_ | refine wr_i ?_ | refine opiv ⟨tab_ok⟩ (by rfl) (by rfl) (by rfl) (by rfl) (by rfl) (by rfl) ⟨by omega, by omega⟩ ?_ | refine puiv ⟨tab_ok⟩ (by rfl) (by rfl) (by rfl) (by rfl) (by rfl) (by rfl) ⟨by omega, by omega⟩ ?_ | refine opfv ⟨tab_ok⟩ (by rfl) (by rfl) (by rfl) (by rfl) ?_ | refine pufv ⟨tab_ok⟩ (by rfl) (by rfl) (by rfl) (by rfl) ?_ | refine opxc (g := g5) (off := 0 + 0 * 5 + 1) (.i .i64 10) (fun w hH => rng_sub (n := 1) (Ek.rng (Hold.ob hH (A := rwO evE l5 (some ⟨g5, 0, none⟩) 1 c5 [⟨a.se, ⟨10, 0, 0, 0⟩⟩] true) 3 rfl) rfl) rfl) ⟨tab_ok⟩ (by rfl) (by rfl) (by rfl) ?_ | refine opxc (g := g5) (off := 0 + 0 * 5 + 0) (.i .i64 a.se) (fun w hH => rng_sub (n := 1) (Ek.rng (Hold.ob hH (A := rwO evE l5 (some ⟨g5, 0, none⟩) 1 c5 [⟨a.se, ⟨10, 0, 0, 0⟩⟩] true) 3 rfl) rfl) rfl) ⟨tab_ok⟩ (by rfl) (by rfl) (by rfl) ?_ | refine back ⟨1, by omega⟩ (wkd ?_) ?_ | refine fin_s ?_ | refine fin_r ?_ ?_ | refine fin_e ?_ ?_)
      all_goals first | (show 1 - 1 < 1 - 0; omega) | skip
      all_goals (repeat' (first | exact trivial | rfl | ((conv => whnf); refine And.intro ?_ ?_)))
    · obtain rfl : j = 1 := by omega
      repeat' ((conv => whnf); first | refine sgo ⟨tab_ok⟩ ?_ | refine br_not ?_ | refine br_t rfl ?_ | refine br_f rfl ?_ | refine br_t (by assumption) ?_ | refine br_f (by assumption) ?_ | refine br_t (decide_eq_true (by assumption)) ?_ | refine br_f (decide_eq_false (by assumption)) ?_ | refine br_t (beq_iff_eq.2 (by assumption)) ?_ | refine br_f (beq_eq_false_iff_ne.2 (by assumption)) ?_ | intro b | refine drA ⟨tab_ok⟩ [] ?_ | refine kpt ?_ | refine br_t (decide_eq_true (by omega)) ?_ | refine br_f (decide_eq_false (by omega)) ?_ | refine wr_i ?_ | refine back ⟨((k + 1, S5), obK (tickK K)), hJ2⟩ (wkd ?_) ?_ | refine fin_s ?_ | refine fin_r ?_ ?_ | refine fin_e ?_ ?_)
      all_goals first | (show 20000 - (k + 1) < 20000 - k; omega) | skip
      all_goals (repeat' (first | exact trivial | rfl | ((conv => whnf); refine And.intro ?_ ?_)))
  · repeat' ((conv => whnf); first | refine sgo ⟨tab_ok⟩ ?_ | refine br_not ?_ | refine br_t rfl ?_ | refine br_f rfl ?_ | refine br_t (by assumption) ?_ | refine br_f (by assumption) ?_ | refine br_t (decide_eq_true (by assumption)) ?_ | refine br_f (decide_eq_false (by assumption)) ?_ | refine br_t (beq_iff_eq.2 (by assumption)) ?_ | refine br_f (beq_eq_false_iff_ne.2 (by assumption)) ?_ | intro b | refine drA ⟨tab_ok⟩ [] ?_ | refine kpt ?_ | refine br_t (decide_eq_true (by omega)) ?_ | refine br_f (decide_eq_false (by omega)) ?_ | refine wr_i ?_ | refine callS (f := 40) (.i .i64 (trV (c2 c))) (fun w => tripRT (c2 c) w) ?_ | refine callO2N (f := 22) (A := kO lo q p K Sk true) 0 (ι := List Nat × Nr × Nr) (fun z => .t [.v (.slice z.2.1.2.1 (tickE K).length z.2.1.2.2), .v (.slice z.2.2.2.1 (tickP K.G).2.2.length z.2.2.2.2)]) (fun z => kO lo q p (tickK K) z.1 true) (fun z => rwO evE z.2.1.1 z.2.1.2.1 (tickE K).length z.2.1.2.2 (tickE K) true) (fun z => waitsO z.2.2.1 z.2.2.2.1 (tickP K.G).2.2.length z.2.2.2.2 (tickP K.G).2.2 true) (fun w1 hH hA => Co.tickW hA HT) (fun z => ?_) | refine callON (f := 41) (A := kO lo q p (tickK K) z.1 true) 0 (ι := List Nat × Nat × Nat × Nat) (fun x => .v (.slice (some ⟨x.2.2.1, 0, none⟩) 1 x.2.2.2)) (fun x => kO lo q p (obK (tickK K)) x.1 true) (fun x => rwO evE x.2.1 (some ⟨x.2.2.1, 0, none⟩) 1 x.2.2.2 _ true) (fun w1 hH hA => toEg (Φ := fun S' => KW lo q p (obK (tickK K)) S') (by decide) (by have := obeysT hA HN2.k (by omega); rw [e1] at this; exact this)) (fun u => ?_) | refine fin_s ?_ | refine fin_r ?_ ?_ | refine fin_e ?_ ?_)
    conv => whnf
    obtain ⟨S5, l5, g5, c5⟩ := u
    obtain ⟨S4, e4, w4⟩ := z
    refine lp ⟨tab_ok⟩ (ι := Unit) (fun _ => ⟨[(2, .p 0 0), (3, .p 1 0), (5, .v (.pointer (some ⟨q, 0, none⟩))), (6, .i .i64 (k : Int)), (7, .v (.slice (some ⟨g5, 0, none⟩) 1 c5)), (8, .i .i64 0)], [⟨bc, 23, true, 0, [], [.i .i64 (c2 c).ca, .i .i64 (c2 c).fl, .i .i64 (c2 c).ft, .i .i64 (c2 c).se, .i .i64 (c2 c).dr, .i .i64 (c2 c).dw, .i .i64 (c2 c).ho, .i .i64 (c2 c).re, .i .i64 (c2 c).yi, .i .i64 (c2 c).qu, .i .i64 (c2 c).qo, .i .i64 (c2 c).lo, .i .i64 (c2 c).sl, .i .i64 (c2 c).rt, .i .i64 (c2 c).cp, .i .i64 (c2 c).tr, .i .i64 (c2 c).de, .i .i64 (c2 c).wi], [], true⟩, ⟨ba, 46, true, 0, [], [.i .i64 a.se, .i .i64 a.fl, .i .i64 a.fm, .i .i64 a.to, .i .i64 a.ma], [], true⟩], [kO lo q p (obK (tickK K)) S5 true, rwO evE e4.1 e4.2.1 (tickE K).length e4.2.2 (tickE K) true, waitsO w4.1 w4.2.1 (tickP K.G).2.2.length w4.2.2 (tickP K.G).2.2 true, rwO evE l5 (some ⟨g5, 0, none⟩) 1 c5 [⟨a.se, ⟨14, 0, 0, 0⟩⟩] true]⟩) (fun _ => 0) () (wkd ?_) ?_
    · repeat' (first | exact trivial | rfl | ((conv => whnf); refine And.intro ?_ ?_))
    rintro ⟨⟩
    repeat' ((conv => whnf); first | refine sgo ⟨tab_ok⟩ ?_ | refine br_not ?_ | refine br_t rfl ?_ | refine br_f rfl ?_ | refine br_t (by assumption) ?_ | refine br_f (by assumption) ?_ | refine br_t (decide_eq_true (by assumption)) ?_ | refine br_f (decide_eq_false (by assumption)) ?_ | refine br_t (beq_iff_eq.2 (by assumption)) ?_ | refine br_f (beq_eq_false_iff_ne.2 (by assumption)) ?_ | intro b | refine drA ⟨tab_ok⟩ [] ?_ | refine kpt ?_ | refine br_t (decide_eq_true (by omega)) ?_ | refine br_f (decide_eq_false (by omega)) ?_ | refine wr_i ?_ | refine opiv ⟨tab_ok⟩ (by rfl) (by rfl) (by rfl) (by rfl) (by rfl) (by rfl) ⟨by omega, by omega⟩ ?_ | refine puiv ⟨tab_ok⟩ (by rfl) (by rfl) (by rfl) (by rfl) (by rfl) (by rfl) ⟨by omega, by omega⟩ ?_ | refine opfv ⟨tab_ok⟩ (by rfl) (by rfl) (by rfl) (by rfl) ?_ | refine pufv ⟨tab_ok⟩ (by rfl) (by rfl) (by rfl) (by rfl) ?_ | refine opxc (g := g5) (off := 0 + 0 * 5 + 1) (.i .i64 14) (fun w hH => rng_sub (n := 1) (Ek.rng (Hold.ob hH (A := rwO evE l5 (some ⟨g5, 0, none⟩) 1 c5 [⟨a.se, ⟨14, 0, 0, 0⟩⟩] true) 3 rfl) rfl) rfl) ⟨tab_ok⟩ (by rfl) (by rfl) (by rfl) ?_ | refine callS (f := 29) (.b true) (ansT) ?_ | refine callN (f := 30) (ι := NrP w.heap.size 0) (fun x => .v (.slice x.1.2.1 0 x.1.2.2)) (fun x => rwO leaE x.1.1 x.1.2.1 0 x.1.2.2 [] true) (fun w1 hH => toNp (by have := leasesK (Hold.ob hH (A := kO lo q p (obK (tickK K)) S5 true) 0 rfl) (by rw [hL0]; decide); rw [hL0] at this; exact this) hH.upd.size) (fun u => ?_) | refine fin_s ?_ | refine fin_r ?_ ?_ | refine fin_e ?_ ?_)
    all_goals rfl
end Go.Proofs.YthmikjjnlahlbaaGreat.Lc
namespace Go.Proofs.YthmikjjnlahlbaaGreat.Opn
set_option linter.unusedSectionVars false
set_option linter.unusedVariables false
set_option linter.unusedSimpArgs false
open Go.RowKit
section
variable {P : Program} {W : World} {base : Nat}
/-- The cells of a struct that came in, each fit for its type. -/
theorem open_agg {t : TypeId} {v : Value} {ts : List TypeId} {fs} (hu : P.underlying t = some (.struct fs)) (hts : P.cellTypes P.depth t = some ts) (hn : P.cellsOf t = ts.length) (h : Value.okWide P W .any base t v) :
    ∃ cs : Array Value, v = .agg cs ∧ cs.size = ts.length ∧ ∀ (i : Nat) (u : TypeId), ts[i]? = some u → ∃ c, cs[i]? = some c ∧ Cell.okWide P W .any base u c := by
  unfold Value.okWide at h
  rw [hu] at h
  obtain ⟨cs, rfl, hsz, ts', hts', _, hc⟩ := h
  rw [hts] at hts'
  obtain rfl : ts = ts' := by injection hts'
  refine ⟨cs, rfl, by omega, fun i u hi => ?_⟩
  obtain ⟨hlt, _⟩ := List.getElem?_eq_some_iff.1 hi
  have hcs : cs[i]? = some (cs[i]'(by omega)) := Array.getElem?_eq_getElem (by omega)
  obtain ⟨u', hu', hok⟩ := hc i _ hcs
  rw [Nat.mod_eq_of_lt hlt, hi] at hu'
  obtain rfl : u = u' := by injection hu'
  exact ⟨_, hcs, hok⟩
theorem cell_int {u : TypeId} {k : IntKind} {c : Value} (hu : P.underlying u = some (.int k)) (h : Cell.okWide P W .any base u c) : ∃ x, c = .int k x ∧ (Lit.int k x).wf = true := by
  unfold Cell.okWide at h
  rw [hu] at h
  simp only at h
  unfold Cell.ok at h
  rw [hu] at h
  cases c with
  | int k' x =>
    simp only at h
    obtain ⟨rfl, hx⟩ := h
    exact ⟨x, rfl, by simpa [Lit.wf, IntKind.has] using hx⟩
  | _ => simp at h
/-- An array of known cells. -/
theorem arr_of {cs : Array Value} {l : List Value} (hn : cs.size = l.length) (h : ∀ (i : Nat) (c : Value), l[i]? = some c → cs[i]? = some c) : cs = l.toArray := by
  apply Array.ext_getElem?
  intro i
  rcases Nat.lt_or_ge i l.length with hi | hi
  · have e := List.getElem?_eq_getElem hi
    rw [h i _ e]
    simp [hi]
  · rw [Array.getElem?_eq_none (by omega)]
    simp [hi]
/-- Cells from a place on. -/
def Each (cs : Array Value) (i : Nat) (l : List Value) : Prop := ∀ (j : Nat) (c : Value), l[j]? = some c → cs[i + j]? = some c
theorem each_nil {cs : Array Value} {i : Nat} : Each cs i [] := fun _ _ h => by simp at h
theorem each_cons {cs : Array Value} {i : Nat} {c : Value} {l : List Value} (h : cs[i]? = some c) (k : Each cs (i + 1) l) : Each cs i (c :: l) := by
  intro j d hd
  cases j with
  | zero =>
    have : c = d := by simpa using hd
    subst this; exact h
  | succ j =>
    have e : i + (j + 1) = i + 1 + j := by omega
    rw [e]
    exact k j d (by simpa using hd)
theorem arr_each {cs : Array Value} {l : List Value} (hn : cs.size = l.length) (h : Each cs 0 l) : cs = l.toArray :=
  arr_of hn fun i c hi => by have := h i c hi; rwa [Nat.zero_add] at this
end
end Go.Proofs.YthmikjjnlahlbaaGreat.Opn
namespace Go.Proofs.YthmikjjnlahlbaaGreat.coreRides
set_option linter.unusedSectionVars false
set_option linter.unusedVariables false
set_option linter.unusedSimpArgs false
open Go.Proofs.YthmikjjnlahlbaaGreat Go.Proofs.YthmikjjnlahlbaaGreat.Lc
open Go.ChangeShapes Go.WideShapes Go.ChangeAt Go.RowKit
open Go.ChangeMaps (open_string shut_string)
set_option linter.unusedVariables false

theorem own : ownKnob Tryz.prog.godebug = none := by kernel_rfl
theorem laidOut : laidOutB Tryz.prog = true := by kernel_rfl

set_option maxRecDepth 100000 in
theorem lifted (os : Os) (started : os.Started) (H : Type) (enc : TypeId × Value → H) :
    ReturnsInHanded {} Tryz.checked os 8 .any (Rows.coreRidesSpec.pre6 enc Tryz.prog Tryz.f8 Rows.coreRidesRow.domain false) (Rows.coreRidesSpec.post enc Tryz.prog Tryz.f8 false true false false) := by
  refine returnsInHanded_of_change (C := Tryz.checked) own started (by kernel_rfl) Tryz.func8
    (ChangeSpec.witness6 (enc := enc) (C := Tryz.checked) false ⟨#[], #[.agg #[.int .i64 0, .int .i64 0, .int .i64 0, .int .i64 0, .int .i64 0, .int .i64 0, .int .i64 0, .int .i64 0, .int .i64 0, .int .i64 0, .int .i64 0, .int .i64 0, .int .i64 0, .int .i64 0, .int .i64 0, .int .i64 0, .int .i64 0, .int .i64 0], .agg #[.int .i64 0, .int .i64 0, .int .i64 0, .int .i64 0, .int .i64 0]], []⟩ 8 (by kernel_rfl) (by kernel_rfl) (by kernel_rfl) (by kernel_rfl)) ?_
  intro W base args ds gs before hval0 hW hcnd _
  have hval : ∀ (j : Nat) t v, Tryz.f8.params[j]? = some t → args[j]? = some v → Value.okWide Tryz.prog W .any base t v := hval0
  have hW' := hW
  obtain ⟨p, q, hA0, hV, rfl, hfz, hnd⟩ := hW
  have hA : DataW.TrodAll enc Tryz.prog W 0 (fun _ => true) true Tryz.f8.params.toList args.toList ds p := hA0
  rw [Tryz.params8] at hA hval
  obtain ⟨v0, vs0, d0, ds0, p0, q0, hargs, rfl, rfl, h0, r0⟩ := trodAll_cons hA
  obtain ⟨v1, vs1, d1, ds1, p1, q1, rfl, rfl, rfl, h1, r1⟩ := trodAll_cons r0
  obtain ⟨rfl, rfl, rfl⟩ := trodAll_nil r1
  obtain rfl : args = #[v0, v1] := by cases args; simp_all
  obtain ⟨rfl, rfl⟩ := trodVars_none hV
  have k0 := h0
  have lt0 : ∀ x ∈ p0, x.block < W.heap.size := by obtain ⟨m, hm⟩ := k0; exact DataW.trod_lt m _ _ _ hm
  obtain ⟨cs0, rfl, hsz0, hcc0⟩ := Opn.open_agg (ts := [3, 3, 3, 3, 3, 3, 3, 3, 3, 3, 3, 3, 3, 3, 3, 3, 3, 3]) Tryz.underlying23 (by kernel_rfl) (by kernel_rfl) (hval 0 23 v0 rfl rfl)
  obtain ⟨c0_0, hc0_0, ho0_0⟩ := hcc0 0 3 rfl
  obtain ⟨x0_0, rfl, w0_0⟩ := Opn.cell_int Tryz.underlying3 ho0_0
  obtain ⟨c0_1, hc0_1, ho0_1⟩ := hcc0 1 3 rfl
  obtain ⟨x0_1, rfl, w0_1⟩ := Opn.cell_int Tryz.underlying3 ho0_1
  obtain ⟨c0_2, hc0_2, ho0_2⟩ := hcc0 2 3 rfl
  obtain ⟨x0_2, rfl, w0_2⟩ := Opn.cell_int Tryz.underlying3 ho0_2
  obtain ⟨c0_3, hc0_3, ho0_3⟩ := hcc0 3 3 rfl
  obtain ⟨x0_3, rfl, w0_3⟩ := Opn.cell_int Tryz.underlying3 ho0_3
  obtain ⟨c0_4, hc0_4, ho0_4⟩ := hcc0 4 3 rfl
  obtain ⟨x0_4, rfl, w0_4⟩ := Opn.cell_int Tryz.underlying3 ho0_4
  obtain ⟨c0_5, hc0_5, ho0_5⟩ := hcc0 5 3 rfl
  obtain ⟨x0_5, rfl, w0_5⟩ := Opn.cell_int Tryz.underlying3 ho0_5
  obtain ⟨c0_6, hc0_6, ho0_6⟩ := hcc0 6 3 rfl
  obtain ⟨x0_6, rfl, w0_6⟩ := Opn.cell_int Tryz.underlying3 ho0_6
  obtain ⟨c0_7, hc0_7, ho0_7⟩ := hcc0 7 3 rfl
  obtain ⟨x0_7, rfl, w0_7⟩ := Opn.cell_int Tryz.underlying3 ho0_7
  obtain ⟨c0_8, hc0_8, ho0_8⟩ := hcc0 8 3 rfl
  obtain ⟨x0_8, rfl, w0_8⟩ := Opn.cell_int Tryz.underlying3 ho0_8
  obtain ⟨c0_9, hc0_9, ho0_9⟩ := hcc0 9 3 rfl
  obtain ⟨x0_9, rfl, w0_9⟩ := Opn.cell_int Tryz.underlying3 ho0_9
  obtain ⟨c0_10, hc0_10, ho0_10⟩ := hcc0 10 3 rfl
  obtain ⟨x0_10, rfl, w0_10⟩ := Opn.cell_int Tryz.underlying3 ho0_10
  obtain ⟨c0_11, hc0_11, ho0_11⟩ := hcc0 11 3 rfl
  obtain ⟨x0_11, rfl, w0_11⟩ := Opn.cell_int Tryz.underlying3 ho0_11
  obtain ⟨c0_12, hc0_12, ho0_12⟩ := hcc0 12 3 rfl
  obtain ⟨x0_12, rfl, w0_12⟩ := Opn.cell_int Tryz.underlying3 ho0_12
  obtain ⟨c0_13, hc0_13, ho0_13⟩ := hcc0 13 3 rfl
  obtain ⟨x0_13, rfl, w0_13⟩ := Opn.cell_int Tryz.underlying3 ho0_13
  obtain ⟨c0_14, hc0_14, ho0_14⟩ := hcc0 14 3 rfl
  obtain ⟨x0_14, rfl, w0_14⟩ := Opn.cell_int Tryz.underlying3 ho0_14
  obtain ⟨c0_15, hc0_15, ho0_15⟩ := hcc0 15 3 rfl
  obtain ⟨x0_15, rfl, w0_15⟩ := Opn.cell_int Tryz.underlying3 ho0_15
  obtain ⟨c0_16, hc0_16, ho0_16⟩ := hcc0 16 3 rfl
  obtain ⟨x0_16, rfl, w0_16⟩ := Opn.cell_int Tryz.underlying3 ho0_16
  obtain ⟨c0_17, hc0_17, ho0_17⟩ := hcc0 17 3 rfl
  obtain ⟨x0_17, rfl, w0_17⟩ := Opn.cell_int Tryz.underlying3 ho0_17
  obtain rfl : cs0 = #[.int .i64 x0_0, .int .i64 x0_1, .int .i64 x0_2, .int .i64 x0_3, .int .i64 x0_4, .int .i64 x0_5, .int .i64 x0_6, .int .i64 x0_7, .int .i64 x0_8, .int .i64 x0_9, .int .i64 x0_10, .int .i64 x0_11, .int .i64 x0_12, .int .i64 x0_13, .int .i64 x0_14, .int .i64 x0_15, .int .i64 x0_16, .int .i64 x0_17] := Opn.arr_each (l := [.int .i64 x0_0, .int .i64 x0_1, .int .i64 x0_2, .int .i64 x0_3, .int .i64 x0_4, .int .i64 x0_5, .int .i64 x0_6, .int .i64 x0_7, .int .i64 x0_8, .int .i64 x0_9, .int .i64 x0_10, .int .i64 x0_11, .int .i64 x0_12, .int .i64 x0_13, .int .i64 x0_14, .int .i64 x0_15, .int .i64 x0_16, .int .i64 x0_17]) hsz0 (by
    refine Opn.each_cons hc0_0 ?_
    refine Opn.each_cons hc0_1 ?_
    refine Opn.each_cons hc0_2 ?_
    refine Opn.each_cons hc0_3 ?_
    refine Opn.each_cons hc0_4 ?_
    refine Opn.each_cons hc0_5 ?_
    refine Opn.each_cons hc0_6 ?_
    refine Opn.each_cons hc0_7 ?_
    refine Opn.each_cons hc0_8 ?_
    refine Opn.each_cons hc0_9 ?_
    refine Opn.each_cons hc0_10 ?_
    refine Opn.each_cons hc0_11 ?_
    refine Opn.each_cons hc0_12 ?_
    refine Opn.each_cons hc0_13 ?_
    refine Opn.each_cons hc0_14 ?_
    refine Opn.each_cons hc0_15 ?_
    refine Opn.each_cons hc0_16 ?_
    refine Opn.each_cons hc0_17 ?_
    exact Opn.each_nil)
  have k1 := h1
  have lt1 : ∀ x ∈ p1, x.block < W.heap.size := by obtain ⟨m, hm⟩ := k1; exact DataW.trod_lt m _ _ _ hm
  obtain ⟨cs1, rfl, hsz1, hcc1⟩ := Opn.open_agg (ts := [3, 3, 3, 3, 3]) Tryz.underlying46 (by kernel_rfl) (by kernel_rfl) (hval 1 46 v1 rfl rfl)
  obtain ⟨c1_0, hc1_0, ho1_0⟩ := hcc1 0 3 rfl
  obtain ⟨x1_0, rfl, w1_0⟩ := Opn.cell_int Tryz.underlying3 ho1_0
  obtain ⟨c1_1, hc1_1, ho1_1⟩ := hcc1 1 3 rfl
  obtain ⟨x1_1, rfl, w1_1⟩ := Opn.cell_int Tryz.underlying3 ho1_1
  obtain ⟨c1_2, hc1_2, ho1_2⟩ := hcc1 2 3 rfl
  obtain ⟨x1_2, rfl, w1_2⟩ := Opn.cell_int Tryz.underlying3 ho1_2
  obtain ⟨c1_3, hc1_3, ho1_3⟩ := hcc1 3 3 rfl
  obtain ⟨x1_3, rfl, w1_3⟩ := Opn.cell_int Tryz.underlying3 ho1_3
  obtain ⟨c1_4, hc1_4, ho1_4⟩ := hcc1 4 3 rfl
  obtain ⟨x1_4, rfl, w1_4⟩ := Opn.cell_int Tryz.underlying3 ho1_4
  obtain rfl : cs1 = #[.int .i64 x1_0, .int .i64 x1_1, .int .i64 x1_2, .int .i64 x1_3, .int .i64 x1_4] := Opn.arr_each (l := [.int .i64 x1_0, .int .i64 x1_1, .int .i64 x1_2, .int .i64 x1_3, .int .i64 x1_4]) hsz1 (by
    refine Opn.each_cons hc1_0 ?_
    refine Opn.each_cons hc1_1 ?_
    refine Opn.each_cons hc1_2 ?_
    refine Opn.each_cons hc1_3 ?_
    refine Opn.each_cons hc1_4 ?_
    exact Opn.each_nil)
  clear hA0 hval0
  refine (Lc.ridesF ⟨x0_0, x0_1, x0_2, x0_3, x0_4, x0_5, x0_6, x0_7, x0_8, x0_9, x0_10, x0_11, x0_12, x0_13, x0_14, x0_15, x0_16, x0_17⟩ ⟨x1_0, x1_1, x1_2, x1_3, x1_4⟩ W).mono fun e W' ⟨he, bel⟩ => ?_
  subst he
  exact ⟨_, rfl, _, _, _, [], _, [], hW', trodAll_mk1 (shut_bool Tryz.underlying4 _), (trodAll_cons_mk (Below.trod laidOut (by kernel_rfl) (of_decide_eq_true (by kernel_rfl)) k0 bel lt0) (trodAll_cons_mk (Below.trod laidOut (by kernel_rfl) (of_decide_eq_true (by kernel_rfl)) k1 bel lt1) trodAll_mk0)), rfl, Below.frame bel _, fun h => by cases h⟩

theorem over : Rows.coreRidesRow.holds Tryz.pinned (OpenSpec.ofChange Rows.coreRidesSpec) :=
  OpenClaim.holds_of_wide 8 Tryz.f8 rfl rfl rfl rfl rfl rfl rfl ⟨rfl, rfl, rfl, rfl, rfl⟩ rfl rfl rfl rfl rfl (by kernel_rfl) Tryz.func8 (by kernel_rfl)
    (of_decide_eq_true (by kernel_rfl)) (by unfold Func.isWrapper; first | (rw [if_pos (by decide +kernel)]; kernel_rfl) | (rw [if_neg (by decide +kernel)]; exact ⟨rfl, rfl⟩))
    (fun os started H enc _ => lifted os started H enc)

/-- THE STATEMENT -/
theorem proved : Rows.CoreRidesSaid := over
#print axioms proved
end Go.Proofs.YthmikjjnlahlbaaGreat.coreRides
