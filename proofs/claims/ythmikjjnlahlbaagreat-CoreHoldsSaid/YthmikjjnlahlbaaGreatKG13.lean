/-
  Whatever comes in: CoreHolds answers true.
  No condition.
-/
import Derived.Test.YthmikjjnlahlbaaGreatKG12
import Derived.WalkKit
import Derived.ProofKit
import Derived.OpenShut
import Derived.Test.YthmikjjnlahlbaaGreatRows
import Derived.Lib.Hide
import Derived.ShutString
import Derived.ChangeOld
import Derived.Below
import Derived.SizedLaws
namespace Go.Proofs.YthmikjjnlahlbaaGreat.Lc
set_option linter.unusedSectionVars false
set_option linter.unusedVariables false
set_option linter.unusedSimpArgs false
open Go.RowKit Go.Proofs.YthmikjjnlahlbaaGreat.Ba Go.Proofs.YthmikjjnlahlbaaGreat.Mem Go.Proofs.YthmikjjnlahlbaaGreat.En Go.Proofs.YthmikjjnlahlbaaGreat.Ty Go.Proofs.YthmikjjnlahlbaaGreat.Mo Go.Proofs.YthmikjjnlahlbaaGreat.St Go.Proofs.YthmikjjnlahlbaaGreat.Co
open Go.Proofs.YthmikjjnlahlbaaGreat.Ri (trV sp rn)
open Go.Proofs.YthmikjjnlahlbaaGreat.Qu (btw)
set_option maxRecDepth 100000
attribute [local irreducible] Go.Calls
theorem nearestT (n lo hi : Int) (w : World) : Calls Tryz.prog 87 #[.int .i64 n, .int .i64 lo, .int .i64 hi] w fun e w' => e = .returned (.int .i64 (btw n lo hi)) ∧ Since w w' := by
  refine ent tab_ok [.i .i64 n, .i .i64 lo, .i .i64 hi] Tryz.func87 Tryz.ntmps87 rfl rfl ?_
  repeat' ((conv => whnf); first | refine sgo ⟨tab_ok⟩ ?_ | refine br_not ?_ | refine br_t rfl ?_ | refine br_f rfl ?_ | refine br_t (by assumption) ?_ | refine br_f (by assumption) ?_ | refine br_t (decide_eq_true (by assumption)) ?_ | refine br_f (decide_eq_false (by assumption)) ?_ | refine br_t (beq_iff_eq.2 (by assumption)) ?_ | refine br_f (beq_eq_false_iff_ne.2 (by assumption)) ?_ | refine drA ⟨tab_ok⟩ [] ?_ | refine kpt ?_ | refine br_dec (fun h => ?_) (fun h => ?_) | refine br_eq (fun h => ?_) (fun h => ?_) | refine br_b (fun h => ?_) (fun h => ?_) | refine fin_s ?_ | refine fin_r ?_ ?_ | refine fin_e ?_ ?_)
  all_goals (refine congrArg (Value.int .i64) ?_; unfold btw; (repeat' split) <;> omega)
theorem spanT (n : Int) (w : World) : Calls Tryz.prog 88 #[.int .i64 n] w fun e w' => e = .returned (.int .i64 (sp n)) ∧ Since w w' := by
  refine ent tab_ok [.i .i64 n] Tryz.func88 Tryz.ntmps88 rfl rfl ?_
  repeat' ((conv => whnf); first | refine sgo ⟨tab_ok⟩ ?_ | refine br_not ?_ | refine br_t rfl ?_ | refine br_f rfl ?_ | refine br_t (by assumption) ?_ | refine br_f (by assumption) ?_ | refine br_t (decide_eq_true (by assumption)) ?_ | refine br_f (decide_eq_false (by assumption)) ?_ | refine br_t (beq_iff_eq.2 (by assumption)) ?_ | refine br_f (beq_eq_false_iff_ne.2 (by assumption)) ?_ | refine drA ⟨tab_ok⟩ [] ?_ | refine kpt ?_ | refine callS (f := 87) (.i .i64 (btw n 1 1000)) (nearestT n 1 1000) ?_ | refine fin_s ?_ | refine fin_r ?_ ?_ | refine fin_e ?_ ?_)
  all_goals rfl
theorem floorsT (n : Int) (w : World) : Calls Tryz.prog 90 #[.int .i64 n] w fun e w' => e = .returned (.int .i64 (fl n)) ∧ Since w w' := by
  refine ent tab_ok [.i .i64 n] Tryz.func90 Tryz.ntmps90 rfl rfl ?_
  repeat' ((conv => whnf); first | refine sgo ⟨tab_ok⟩ ?_ | refine br_not ?_ | refine br_t rfl ?_ | refine br_f rfl ?_ | refine br_t (by assumption) ?_ | refine br_f (by assumption) ?_ | refine br_t (decide_eq_true (by assumption)) ?_ | refine br_f (decide_eq_false (by assumption)) ?_ | refine br_t (beq_iff_eq.2 (by assumption)) ?_ | refine br_f (beq_eq_false_iff_ne.2 (by assumption)) ?_ | refine drA ⟨tab_ok⟩ [] ?_ | refine kpt ?_ | refine br_dec (fun h => ?_) (fun h => ?_) | refine br_eq (fun h => ?_) (fun h => ?_) | refine br_b (fun h => ?_) (fun h => ?_) | refine fin_s ?_ | refine fin_r ?_ ?_ | refine fin_e ?_ ?_)
  all_goals (refine congrArg (Value.int .i64) ?_; unfold fl; (repeat' split) <;> omega)
theorem quotaT (c : CfgV) (w : World) : Calls Tryz.prog 34 #[.agg #[.int .i64 c.ca, .int .i64 c.fl, .int .i64 c.ft, .int .i64 c.se, .int .i64 c.dr, .int .i64 c.dw, .int .i64 c.ho, .int .i64 c.re, .int .i64 c.yi, .int .i64 c.qu, .int .i64 c.qo, .int .i64 c.lo, .int .i64 c.sl, .int .i64 c.rt, .int .i64 c.cp, .int .i64 c.tr, .int .i64 c.de, .int .i64 c.wi]] w fun e w' => e = .returned (.int .i64 (btw c.qo 1 8)) ∧ Since w w' := by
  refine ent tab_ok [.a [.i .i64 c.ca, .i .i64 c.fl, .i .i64 c.ft, .i .i64 c.se, .i .i64 c.dr, .i .i64 c.dw, .i .i64 c.ho, .i .i64 c.re, .i .i64 c.yi, .i .i64 c.qu, .i .i64 c.qo, .i .i64 c.lo, .i .i64 c.sl, .i .i64 c.rt, .i .i64 c.cp, .i .i64 c.tr, .i .i64 c.de, .i .i64 c.wi]] Tryz.func34 Tryz.ntmps34 rfl rfl ?_
  repeat' ((conv => whnf); first | refine sgo ⟨tab_ok⟩ ?_ | refine br_not ?_ | refine br_t rfl ?_ | refine br_f rfl ?_ | refine br_t (by assumption) ?_ | refine br_f (by assumption) ?_ | refine br_t (decide_eq_true (by assumption)) ?_ | refine br_f (decide_eq_false (by assumption)) ?_ | refine br_t (beq_iff_eq.2 (by assumption)) ?_ | refine br_f (beq_eq_false_iff_ne.2 (by assumption)) ?_ | intro b | refine drA ⟨tab_ok⟩ [] ?_ | refine kpt ?_ | refine callS (f := 87) (.i .i64 (btw c.qo 1 8)) (nearestT c.qo 1 8) ?_ | refine fin_s ?_ | refine fin_r ?_ ?_ | refine fin_e ?_ ?_)
  all_goals rfl
end Go.Proofs.YthmikjjnlahlbaaGreat.Lc
namespace Go.Proofs.YthmikjjnlahlbaaGreat.Lc
set_option linter.unusedSectionVars false
set_option linter.unusedVariables false
set_option linter.unusedSimpArgs false
open Go.RowKit Go.Proofs.YthmikjjnlahlbaaGreat.Ba Go.Proofs.YthmikjjnlahlbaaGreat.Mem Go.Proofs.YthmikjjnlahlbaaGreat.En Go.Proofs.YthmikjjnlahlbaaGreat.Ty Go.Proofs.YthmikjjnlahlbaaGreat.Mo Go.Proofs.YthmikjjnlahlbaaGreat.St Go.Proofs.YthmikjjnlahlbaaGreat.Co
open Go.Proofs.YthmikjjnlahlbaaGreat.Fl (leaE)
open Go.Proofs.YthmikjjnlahlbaaGreat.Gr (waitsO tickP)
set_option maxRecDepth 100000
attribute [local irreducible] Go.Calls doK doE tickK tickE newK tickP boundV
theorem hold_op {a : Option Addr} {len nt : Nat} {os : Nat → KopV} {w : World} (h : kopE.Rd a len os w) : Hold ⟨Tryz.prog, tab, [], w, nt, []⟩ [] [rdO kopE a len os] w :=
  Hold.addObj (Hold.nil _ tab [] _ w) (rdO kopE a len os) h (by intro k; cases k) (by intro r hr; cases hr) (by intro A hA; cases hA)
end Go.Proofs.YthmikjjnlahlbaaGreat.Lc
namespace Go.Proofs.YthmikjjnlahlbaaGreat.Lc
set_option linter.unusedSectionVars false
set_option linter.unusedVariables false
set_option linter.unusedSimpArgs false
open Go.RowKit Go.Proofs.YthmikjjnlahlbaaGreat.Ba Go.Proofs.YthmikjjnlahlbaaGreat.Mem Go.Proofs.YthmikjjnlahlbaaGreat.En Go.Proofs.YthmikjjnlahlbaaGreat.Ty Go.Proofs.YthmikjjnlahlbaaGreat.Mo Go.Proofs.YthmikjjnlahlbaaGreat.St Go.Proofs.YthmikjjnlahlbaaGreat.Co
open Go.Proofs.YthmikjjnlahlbaaGreat.Gr (GrV one giveR aimR takeR tickG)
def carE : Ek CarV := ⟨72, 15, Gr.carL, Gr.carL_len, Gr.carL_one⟩
theorem carsW {lo q : Nat} {p : Pt} {K : KV} {S : List Nat} {w : World} (h : KW lo q p K S w) (hl : K.G.cars.length ≤ 10000) : Calls Tryz.prog 32 #[.pointer (some ⟨p.g, 0, none⟩)] w fun e w' => ∃ A' c', e = .returned (.slice A' K.G.cars.length c') ∧ carE.At w.heap.size A' K.G.cars.length c' K.G.cars w' ∧ Since w w' := by
  obtain ⟨S0, hk, hb⟩ := h.rd
  exact hb.cars hl
/-- The same places and doors. -/
def SU (G G' : GrV) : Prop := G'.cars.length = G.cars.length ∧ ∀ (i : Nat) (x : CarV), G.cars[i]? = some x → ∃ y, G'.cars[i]? = some y ∧ y.ds = x.ds ∧ y.un = x.un
theorem SU.refl (G : GrV) : SU G G := ⟨rfl, fun i x h => ⟨x, h, rfl, rfl⟩⟩
theorem SU.trans {G G' G'' : GrV} (h : SU G G') (k : SU G' G'') : SU G G'' := ⟨k.1.trans h.1, fun i x hx => by
  obtain ⟨y, h1, h2, h3⟩ := h.2 i x hx
  obtain ⟨z, k1, k2, k3⟩ := k.2 i y h1
  exact ⟨z, k1, k2.trans h2, k3.trans h3⟩⟩
theorem SU.one {G : GrV} (i : Int) (f : CarV → CarV × Int) (hf : ∀ x, (f x).1.ds = x.ds ∧ (f x).1.un = x.un) : SU G (one G i f).1 :=
  ⟨Gr.one_same.2.2.2, fun k x h => ⟨_, Gr.one_at h, by split; exact (hf x).1; rfl, by split; exact (hf x).2; rfl⟩⟩
theorem su_end (K : KV) (s : Int) : SU K.G (Co.endK K s).G := by
  unfold Co.endK; split
  · exact SU.one _ _ (fun x => by show (Gr.givX _ x).ds = _ ∧ (Gr.givX _ x).un = _; unfold Gr.givX; split <;> exact ⟨rfl, rfl⟩)
  · exact SU.refl _
theorem su_set (K : KV) (l : LeaseV) (o : Bool) : SU K.G (setK K l o).G := by
  unfold setK; split
  · exact su_end _ _
  · show SU K.G (aimR _ _ _ _).1
    unfold aimR; split
    · exact SU.one _ _ (fun x => by show (Gr.aimX _ _ x).ds = _ ∧ (Gr.aimX _ _ x).un = _; unfold Gr.aimX; split <;> exact ⟨rfl, rfl⟩)
    · exact SU.refl _
theorem su_fold (K : KV) (k : Nat) : SU (tickG K.G) (foldK K k).1.G := by
  have key : ∀ (ls : List LeaseV) (x : KV × List EvV), SU x.1.G (ls.foldl stepK x).1.G := by
    intro ls
    induction ls with
    | nil => intro x; exact SU.refl _
    | cons l r ih => intro x; rw [List.foldl_cons]; exact SU.trans (su_set x.1 _ _) (ih (stepK x l))
  exact key _ (tkK1 K, [])
theorem su_grant (K : KV) : SU K.G (grantK K).G := by
  unfold grantK; split
  · exact SU.refl _
  · rename_i a _
    show SU K.G (takeR _ _ _).1
    unfold takeR; split
    · exact SU.one _ _ (fun x => by show (Gr.takeX _ x).ds = _ ∧ (Gr.takeX _ x).un = _; unfold Gr.takeX; split <;> exact ⟨rfl, rfl⟩)
    · exact SU.refl _
theorem su_tick (K : KV) : SU (tickG K.G) (tickK K).G := (su_fold K _).trans (su_grant _)
theorem tick_moves {c : CfgV} {n T m : Nat} {K : KV} (h : KI c n T m K) {k : Nat} {x z : CarV} (hx : K.G.cars[k]? = some x) (hz : (tickK K).G.cars[k]? = some z) (hne : x.un ≠ z.un) : x.ds = 0 ∧ z.ds = 0 := by
  have hk : k < (tickG K.G).cars.length := by rw [Gr.tick_len]; exact (List.getElem?_eq_some_iff.1 hx).1
  have hy := List.getElem?_eq_getElem hk
  obtain ⟨z', h1, h2, h3⟩ := (su_tick K).2 k _ hy
  rw [hz] at h1
  have e := Option.some.inj h1
  subst e
  have := (Gr.tick_safe h.g hx hy).1 (by rw [← h3]; exact hne)
  exact ⟨this.1, h2.trans this.2⟩
theorem tick_clen (K : KV) : (tickK K).G.cars.length = K.G.cars.length := (su_tick K).1.trans (Gr.tick_len _)
end Go.Proofs.YthmikjjnlahlbaaGreat.Lc
namespace Go.Proofs.YthmikjjnlahlbaaGreat.Lc
set_option linter.unusedSectionVars false
set_option linter.unusedVariables false
set_option linter.unusedSimpArgs false
open Go.RowKit Go.Proofs.YthmikjjnlahlbaaGreat.Ba Go.Proofs.YthmikjjnlahlbaaGreat.Mem Go.Proofs.YthmikjjnlahlbaaGreat.En Go.Proofs.YthmikjjnlahlbaaGreat.Ty Go.Proofs.YthmikjjnlahlbaaGreat.Mo Go.Proofs.YthmikjjnlahlbaaGreat.St Go.Proofs.YthmikjjnlahlbaaGreat.Co
open Go.Proofs.YthmikjjnlahlbaaGreat.Fl (leaE)
open Go.Proofs.YthmikjjnlahlbaaGreat.Gr (waitsO tickP)
open Go.Proofs.YthmikjjnlahlbaaGreat.Ri (opB aimF)
set_option maxRecDepth 100000
attribute [local irreducible] Go.Calls doK doE tickK tickE newK tickP opB aimF
set_option maxHeartbeats 8000000 in
theorem holdsF1 (c : CfgV) {a : Option Addr} {len cap : Nat} {os : Nat → KopV} {w : World} (h : kopE.Rd a len os w) (hlen : len ≤ 9223372036854775807) : Calls Tryz.prog 6 #[.agg #[.int .i64 c.ca, .int .i64 c.fl, .int .i64 c.ft, .int .i64 c.se, .int .i64 c.dr, .int .i64 c.dw, .int .i64 c.ho, .int .i64 c.re, .int .i64 c.yi, .int .i64 c.qu, .int .i64 c.qo, .int .i64 c.lo, .int .i64 c.sl, .int .i64 c.rt, .int .i64 c.cp, .int .i64 c.tr, .int .i64 c.de, .int .i64 c.wi], .slice a len cap] w fun e w' => e = .returned (.bool true) ∧ Since w w' := by
  obtain ⟨gb, off, hb⟩ := Ek.rd_addr h
  refine entH tab_ok (hold_op h) [.a [.i .i64 c.ca, .i .i64 c.fl, .i .i64 c.ft, .i .i64 c.se, .i .i64 c.dr, .i .i64 c.dw, .i .i64 c.ho, .i .i64 c.re, .i .i64 c.yi, .i .i64 c.qu, .i .i64 c.qo, .i .i64 c.lo, .i .i64 c.sl, .i .i64 c.rt, .i .i64 c.cp, .i .i64 c.tr, .i .i64 c.de, .i .i64 c.wi], .v (.slice a len cap)] Tryz.func6 Tryz.ntmps6 rfl rfl ?_
  repeat' ((conv => whnf); first | refine sgo ⟨tab_ok⟩ ?_ | refine br_not ?_ | refine br_t rfl ?_ | refine br_f rfl ?_ | refine br_t (by assumption) ?_ | refine br_f (by assumption) ?_ | refine br_t (decide_eq_true (by assumption)) ?_ | refine br_f (decide_eq_false (by assumption)) ?_ | refine br_t (beq_iff_eq.2 (by assumption)) ?_ | refine br_f (beq_eq_false_iff_ne.2 (by assumption)) ?_ | intro bc | refine drA ⟨tab_ok⟩ [] ?_ | refine kpt ?_ | refine callN (f := 20) (ι := {x : Nat × Nat × Pt × List Nat // w.heap.size ≤ x.1}) (fun x => .v (.pointer (some ⟨x.1.2.1, 0, none⟩))) (fun x => kO x.1.1 x.1.2.1 x.1.2.2.1 (newK c) x.1.2.2.2 true) (fun w1 hH => (newW c w1).mono (by rintro e w' ⟨q, p, S', rfl, h1, h2⟩; exact ⟨⟨(w1.heap.size, q, p, S'), hH.upd.size⟩, rfl, h1, h2, h1.low⟩)) (fun x => ?_) | refine fin_s ?_ | refine fin_r ?_ ?_ | refine fin_e ?_ ?_)
  conv => whnf
  obtain ⟨⟨lo, q, p, S0⟩, hlo⟩ := x
  refine lp ⟨tab_ok⟩ (ι := {x : (Nat × List Nat) × KV // (x.1.1 ≤ 60 ∧ x.1.1 ≤ len) ∧ PI c x.1.1 (50 * x.1.1) x.2 ∧ CI [] x.2}) (fun x => match x with | ⟨((k, Sk), K), _⟩ => ⟨[(1, .v (.slice a len cap)), (2, .p 0 0), (5, .v (.pointer (some ⟨q, 0, none⟩))), (6, .i .i64 (k : Int))], [⟨bc, 23, true, 0, [], [.i .i64 c.ca, .i .i64 c.fl, .i .i64 c.ft, .i .i64 c.se, .i .i64 c.dr, .i .i64 c.dw, .i .i64 c.ho, .i .i64 c.re, .i .i64 c.yi, .i .i64 c.qu, .i .i64 c.qo, .i .i64 c.lo, .i .i64 c.sl, .i .i64 c.rt, .i .i64 c.cp, .i .i64 c.tr, .i .i64 c.de, .i .i64 c.wi], [], true⟩], [rdO kopE a len os, kO lo q p K Sk true]⟩) (fun x => 60 - x.1.1.1) ⟨((0, S0), newK c), ⟨Nat.zero_le _, Nat.zero_le _⟩, PI.new c, CI.new c⟩ (wkd ?_) ?_
  · repeat' (first | exact trivial | rfl | ((conv => whnf); refine And.intro ?_ ?_))
  rintro ⟨⟨⟨k, Sk⟩, K⟩, ⟨hk60, hkl⟩, HP, HC⟩
  have hk60 : k ≤ 60 := hk60
  have hkl : k ≤ len := hkl
  have HP : PI c k (50 * k) K := HP
  have HC : CI [] K := HC
  by_cases hlt : k < len
  · by_cases h6 : k < 60
    · have hb := hb (by omega)
      subst hb
      have HP2 : PI c (k + 1) (50 * k) (doK K (os k)) := HP.do_ (by omega) (os k)
      have HC2 : CI [] (doK K (os k)) := HC.do_ (by omega) HP (os k)
      repeat' ((conv => whnf); first | refine sgo ⟨tab_ok⟩ ?_ | refine br_not ?_ | refine br_t rfl ?_ | refine br_f rfl ?_ | refine br_t (by assumption) ?_ | refine br_f (by assumption) ?_ | refine br_t (decide_eq_true (by assumption)) ?_ | refine br_f (decide_eq_false (by assumption)) ?_ | refine br_t (beq_iff_eq.2 (by assumption)) ?_ | refine br_f (beq_eq_false_iff_ne.2 (by assumption)) ?_ | intro bo | refine drA ⟨tab_ok⟩ [] ?_ | refine kpt ?_ | refine br_t (decide_eq_true (by omega)) ?_ | refine br_f (decide_eq_false (by omega)) ?_ | refine opiv ⟨tab_ok⟩ (by rfl) (by rfl) (by rfl) (by rfl) (by rfl) (by rfl) ⟨by omega, by omega⟩ ?_ | refine puiv ⟨tab_ok⟩ (by rfl) (by rfl) (by rfl) (by rfl) (by rfl) (by rfl) ⟨by omega, by omega⟩ ?_ | refine opix (g := gb) (off := off + k * 12) [.i .i64 (os k).k, .i .i64 (os k).a, .i .i64 (os k).b, .i .i64 (os k).q.se, .i .i64 (os k).q.fl, .i .i64 (os k).q.fm, .i .i64 (os k).q.to, .i .i64 (os k).q.ma, .i .i64 (os k).m.ki, .i .i64 (os k).m.a, .i .i64 (os k).m.b, .i .i64 (os k).m.c] (fun w hH => Ek.rd_rng (Hold.ob hH (A := rdO kopE (some ⟨gb, off, none⟩) len os) 0 rfl) hlt) ⟨tab_ok⟩ (by rfl) (by rfl) (by simp only [Go.WideShapes.add_plain]; rfl) ?_ | refine callON (f := 27) (A := kO lo q p K Sk true) 1 (ι := List Nat × Option Addr × Nat) (fun x => .v (.slice x.2.1 (doE K (os k)).length x.2.2)) (fun x => kO lo q p (doK K (os k)) x.1 true) (fun x => rwO evE w.heap.size x.2.1 (doE K (os k)).length x.2.2 (doE K (os k)) true) (fun w1 hH hA => toD (Φ := fun S' => KW lo q p (doK K (os k)) S') (doT hA HP.k (by omega) (by omega) (os k)) hH.upd.size) (fun y => ?_) | refine fin_s ?_ | refine fin_r ?_ ?_ | refine fin_e ?_ ?_)
      conv => whnf
      obtain ⟨S2, A2, c2⟩ := y
      refine lp ⟨tab_ok⟩ (ι := {x : (Nat × List Nat) × KV // x.1.1 ≤ 50 ∧ PI c (k + 1) (50 * k + x.1.1) x.2 ∧ CI [] x.2}) (fun x => match x with | ⟨((n, Sn), Kn), _⟩ => ⟨[(1, .v (.slice (some ⟨gb, off, none⟩) len cap)), (2, .p 0 0), (5, .v (.pointer (some ⟨q, 0, none⟩))), (6, .i .i64 (k : Int)), (7, .p 1 0), (8, .i .i64 (n : Int))], [⟨bc, 23, true, 0, [], [.i .i64 c.ca, .i .i64 c.fl, .i .i64 c.ft, .i .i64 c.se, .i .i64 c.dr, .i .i64 c.dw, .i .i64 c.ho, .i .i64 c.re, .i .i64 c.yi, .i .i64 c.qu, .i .i64 c.qo, .i .i64 c.lo, .i .i64 c.sl, .i .i64 c.rt, .i .i64 c.cp, .i .i64 c.tr, .i .i64 c.de, .i .i64 c.wi], [], true⟩, ⟨bo, 50, true, 0, [], [.i .i64 (os k).k, .i .i64 (os k).a, .i .i64 (os k).b, .i .i64 (os k).q.se, .i .i64 (os k).q.fl, .i .i64 (os k).q.fm, .i .i64 (os k).q.to, .i .i64 (os k).q.ma, .i .i64 (os k).m.ki, .i .i64 (os k).m.a, .i .i64 (os k).m.b, .i .i64 (os k).m.c], [], true⟩], [rdO kopE (some ⟨gb, off, none⟩) len os, kO lo q p Kn Sn true]⟩) (fun x => 50 - x.1.1.1) ⟨((0, S2), doK K (os k)), Nat.zero_le _, HP2, HC2⟩ (wkd ?_) ?_
      · repeat' (first | exact trivial | rfl | ((conv => whnf); refine And.intro ?_ ?_))
      rintro ⟨⟨⟨n, Sn⟩, Kn⟩, hn50, HN, HD⟩
      have hn50 : n ≤ 50 := hn50
      have HN : PI c (k + 1) (50 * k + n) Kn := HN
      have HD : CI [] Kn := HD
      have HX : PI c (k + 1) (50 * (k + 1)) Kn := HN.more (Nat.le_refl _) (by omega)
      by_cases h9 : (os k).k = 9
      · by_cases hna : (n : Int) < (os k).a
        · by_cases hn5 : n < 50
          · have HT : KT Kn := HN.k.kt (by omega) (by omega) (by omega)
            have HN2 := HN.tick (by omega)
            have HD2 := HD.tick HN (by omega)
            have hL := HN2.k.ll
            have hcl := HN.k.len
            have hcb := Gr.ncars_bd c
            have hce := tick_clen Kn
            repeat' ((conv => whnf); first | refine sgo ⟨tab_ok⟩ ?_ | refine br_not ?_ | refine br_t rfl ?_ | refine br_f rfl ?_ | refine br_t (by assumption) ?_ | refine br_f (by assumption) ?_ | refine br_t (decide_eq_true (by assumption)) ?_ | refine br_f (decide_eq_false (by assumption)) ?_ | refine br_t (beq_iff_eq.2 (by assumption)) ?_ | refine br_f (beq_eq_false_iff_ne.2 (by assumption)) ?_ | intro b | refine drA ⟨tab_ok⟩ [] ?_ | refine kpt ?_ | refine br_t (decide_eq_true (by omega)) ?_ | refine br_f (decide_eq_false (by omega)) ?_ | refine wr_i ?_ | refine br_t (beq_self_eq_true _) ?_ | refine callO2N (f := 22) (A := kO lo q p Kn Sn true) 1 (ι := List Nat × Nr × Nr) (fun z => .t [.v (.slice z.2.1.2.1 (tickE Kn).length z.2.1.2.2), .v (.slice z.2.2.2.1 (tickP Kn.G).2.2.length z.2.2.2.2)]) (fun z => kO lo q p (tickK Kn) z.1 true) (fun z => rwO evE z.2.1.1 z.2.1.2.1 (tickE Kn).length z.2.1.2.2 (tickE Kn) true) (fun z => waitsO z.2.2.1 z.2.2.2.1 (tickP Kn.G).2.2.length z.2.2.2.2 (tickP Kn.G).2.2 true) (fun w1 hH hA => Co.tickW hA HT) (fun z => ?_) | refine callH (f := 31) (.v (.pointer (some ⟨p.g, 0, none⟩))) (fun w hH => groupK (Hold.ob hH (A := kO lo q p Kn Sn true) 1 rfl)) ?_ | refine callH (f := 31) (.v (.pointer (some ⟨p.g, 0, none⟩))) (fun w hH => groupK (Hold.ob hH (A := kO lo q p (tickK Kn) z.1 true) 1 rfl)) ?_ | refine callN (f := 32) (ι := NrP w.heap.size Kn.G.cars.length) (fun x => .v (.slice x.1.2.1 Kn.G.cars.length x.1.2.2)) (fun x => rwO carE x.1.1 x.1.2.1 Kn.G.cars.length x.1.2.2 Kn.G.cars true) (fun w1 hH => toNp (carsW (Hold.ob hH (A := kO lo q p Kn Sn true) 1 rfl) (by omega)) hH.upd.size) (fun ua => ?_) | refine callN (f := 32) (ι := NrP w.heap.size Kn.G.cars.length) (fun x => .v (.slice x.1.2.1 Kn.G.cars.length x.1.2.2)) (fun x => rwO carE x.1.1 x.1.2.1 Kn.G.cars.length x.1.2.2 (tickK Kn).G.cars true) (fun w1 hH => toNp (by have := carsW (Hold.ob hH (A := kO lo q p (tickK Kn) z.1 true) 1 rfl) (by omega); rw [hce] at this; exact this) hH.upd.size) (fun ub => ?_) | refine callN (f := 30) (ι := NrP w.heap.size (tickK Kn).L.length) (fun x => .v (.slice x.1.2.1 (tickK Kn).L.length x.1.2.2)) (fun x => rwO leaE x.1.1 x.1.2.1 (tickK Kn).L.length x.1.2.2 (tickK Kn).L true) (fun w1 hH => toNp (leasesK (Hold.ob hH (A := kO lo q p (tickK Kn) z.1 true) 1 rfl) (by omega)) hH.upd.size) (fun u => ?_) | refine fin_s ?_ | refine fin_r ?_ ?_ | refine fin_e ?_ ?_)
            conv => whnf
            obtain ⟨⟨la, Aa, ca⟩, hla, hAa⟩ := ua
            obtain ⟨⟨lb, Ab, cb⟩, hlb, hAb⟩ := ub
            obtain ⟨⟨l0, A0, c0⟩, hl0, hA0⟩ := u
            obtain ⟨S4, e4, w4⟩ := z
            obtain ⟨N, hN⟩ : ∃ N, N = Kn.G.cars.length := ⟨_, rfl⟩
            have hAa : 0 < Kn.G.cars.length → ∃ g, Aa = some ⟨g, 0, none⟩ := hAa
            have hAb : 0 < Kn.G.cars.length → ∃ g, Ab = some ⟨g, 0, none⟩ := hAb
            have hA0 : 0 < (tickK Kn).L.length → ∃ g, A0 = some ⟨g, 0, none⟩ := hA0
            obtain ⟨ga, hga⟩ := hAa (by omega)
            obtain ⟨gc, hgc⟩ := hAb (by omega)
            subst hga hgc
            refine lp ⟨tab_ok⟩ (ι := {j : Nat // j ≤ Kn.G.cars.length}) (fun x => match x with | ⟨j, _⟩ => ⟨[(1, .v (.slice (some ⟨gb, off, none⟩) len cap)), (2, .p 0 0), (5, .v (.pointer (some ⟨q, 0, none⟩))), (6, .i .i64 (k : Int)), (7, .p 1 0), (8, .i .i64 (n : Int)), (9, .v (.slice (some ⟨ga, 0, none⟩) Kn.G.cars.length ca)), (10, .v (.slice (some ⟨gc, 0, none⟩) Kn.G.cars.length cb)), (11, .v (.slice A0 (tickK Kn).L.length c0)), (12, .i .i64 (j : Int))], [⟨bc, 23, true, 0, [], [.i .i64 c.ca, .i .i64 c.fl, .i .i64 c.ft, .i .i64 c.se, .i .i64 c.dr, .i .i64 c.dw, .i .i64 c.ho, .i .i64 c.re, .i .i64 c.yi, .i .i64 c.qu, .i .i64 c.qo, .i .i64 c.lo, .i .i64 c.sl, .i .i64 c.rt, .i .i64 c.cp, .i .i64 c.tr, .i .i64 c.de, .i .i64 c.wi], [], true⟩, ⟨bo, 50, true, 0, [], [.i .i64 (os k).k, .i .i64 (os k).a, .i .i64 (os k).b, .i .i64 (os k).q.se, .i .i64 (os k).q.fl, .i .i64 (os k).q.fm, .i .i64 (os k).q.to, .i .i64 (os k).q.ma, .i .i64 (os k).m.ki, .i .i64 (os k).m.a, .i .i64 (os k).m.b, .i .i64 (os k).m.c], [], true⟩], [rdO kopE (some ⟨gb, off, none⟩) len os, kO lo q p (tickK Kn) S4 true, rwO carE la (some ⟨ga, 0, none⟩) Kn.G.cars.length ca Kn.G.cars true, rwO evE e4.1 e4.2.1 (tickE Kn).length e4.2.2 (tickE Kn) true, waitsO w4.1 w4.2.1 (tickP Kn.G).2.2.length w4.2.2 (tickP Kn.G).2.2 true, rwO carE lb (some ⟨gc, 0, none⟩) Kn.G.cars.length cb (tickK Kn).G.cars true, rwO leaE l0 A0 (tickK Kn).L.length c0 (tickK Kn).L true]⟩) (fun x => Kn.G.cars.length - x.1) ⟨0, Nat.zero_le _⟩ (wkd ?_) ?_
            · repeat' (first | exact trivial | rfl | ((conv => whnf); refine And.intro ?_ ?_))
            rintro ⟨j, hjl⟩
            have hjl : j ≤ Kn.G.cars.length := hjl
            by_cases hj : j < Kn.G.cars.length
            · obtain ⟨x, hx⟩ : ∃ x, Kn.G.cars[j]? = some x := ⟨_, List.getElem?_eq_getElem (by omega)⟩
              obtain ⟨y, hy⟩ : ∃ y, (tickK Kn).G.cars[j]? = some y := ⟨_, List.getElem?_eq_getElem (by omega)⟩
              have hmv := tick_moves HN.k hx hy
              by_cases hu : x.un = y.un
              · repeat' ((conv => whnf); first | refine sgo ⟨tab_ok⟩ ?_ | refine br_not ?_ | refine br_t rfl ?_ | refine br_f rfl ?_ | refine br_t (by assumption) ?_ | refine br_f (by assumption) ?_ | refine br_t (decide_eq_true (by assumption)) ?_ | refine br_f (decide_eq_false (by assumption)) ?_ | refine br_t (beq_iff_eq.2 (by assumption)) ?_ | refine br_f (beq_eq_false_iff_ne.2 (by assumption)) ?_ | intro b | refine drA ⟨tab_ok⟩ [4, 9, 17, 25] ?_ | refine And.intro ?_ ?_ | refine kpt ?_ | refine br_t (decide_eq_true (by omega)) ?_ | refine br_f (decide_eq_false (by omega)) ?_ | refine wr_i ?_ | refine opiv ⟨tab_ok⟩ (by rfl) (by rfl) (by rfl) (by rfl) (by rfl) (by rfl) ⟨by omega, by omega⟩ ?_ | refine puiv ⟨tab_ok⟩ (by rfl) (by rfl) (by rfl) (by rfl) (by rfl) (by rfl) ⟨by omega, by omega⟩ ?_ | refine opfv ⟨tab_ok⟩ (by rfl) (by rfl) (by rfl) (by rfl) ?_ | refine pufv ⟨tab_ok⟩ (by rfl) (by rfl) (by rfl) (by rfl) ?_ | refine br_t (beq_iff_eq.2 hu) ?_ | refine br_f (beq_eq_false_iff_ne.2 hu) ?_ | refine br_t (beq_iff_eq.2 hd1) ?_ | refine br_t (beq_iff_eq.2 hd2) ?_ | refine opxc (g := ga) (off := 0 + j * 15 + 2) (.i .i64 x.un) (fun w hH => rng_sub (n := 1) (Ek.rng (Hold.ob hH (A := rwO carE la (some ⟨ga, 0, none⟩) Kn.G.cars.length ca Kn.G.cars true) 2 rfl) hx) rfl) ⟨tab_ok⟩ (by rfl) (by rfl) (by simp only [Go.WideShapes.add_plain]; rfl) ?_ | refine opxc (g := gc) (off := 0 + j * 15 + 2) (.i .i64 y.un) (fun w hH => rng_sub (n := 1) (Ek.rng (Hold.ob hH (A := rwO carE lb (some ⟨gc, 0, none⟩) Kn.G.cars.length cb (tickK Kn).G.cars true) 5 rfl) hy) rfl) ⟨tab_ok⟩ (by rfl) (by rfl) (by simp only [Go.WideShapes.add_plain]; rfl) ?_ | refine opxc (g := ga) (off := 0 + j * 15 + 0) (.i .i64 x.ds) (fun w hH => rng_sub (n := 1) (Ek.rng (Hold.ob hH (A := rwO carE la (some ⟨ga, 0, none⟩) Kn.G.cars.length ca Kn.G.cars true) 2 rfl) hx) rfl) ⟨tab_ok⟩ (by rfl) (by rfl) (by simp only [Go.WideShapes.add_plain]; rfl) ?_ | refine opxc (g := gc) (off := 0 + j * 15 + 0) (.i .i64 y.ds) (fun w hH => rng_sub (n := 1) (Ek.rng (Hold.ob hH (A := rwO carE lb (some ⟨gc, 0, none⟩) Kn.G.cars.length cb (tickK Kn).G.cars true) 5 rfl) hy) rfl) ⟨tab_ok⟩ (by rfl) (by rfl) (by simp only [Go.WideShapes.add_plain]; rfl) ?_ | refine back ⟨j + 1, by show j + 1 ≤ _; omega⟩ (wkd ?_) ?_ | refine fin_s ?_ | refine fin_r ?_ ?_ | refine fin_e ?_ ?_)
                all_goals first | (show Kn.G.cars.length - (j + 1) < Kn.G.cars.length - j; omega) | skip
                all_goals (repeat' (first | exact trivial | rfl | ((conv => whnf); refine And.intro ?_ ?_)))
              · obtain ⟨hd1, hd2⟩ := hmv hu
                repeat' ((conv => whnf); first | refine sgo ⟨tab_ok⟩ ?_ | refine br_not ?_ | refine br_t rfl ?_ | refine br_f rfl ?_ | refine br_t (by assumption) ?_ | refine br_f (by assumption) ?_ | refine br_t (decide_eq_true (by assumption)) ?_ | refine br_f (decide_eq_false (by assumption)) ?_ | refine br_t (beq_iff_eq.2 (by assumption)) ?_ | refine br_f (beq_eq_false_iff_ne.2 (by assumption)) ?_ | intro b | refine drA ⟨tab_ok⟩ [4, 9, 17, 25] ?_ | refine And.intro ?_ ?_ | refine kpt ?_ | refine br_t (decide_eq_true (by omega)) ?_ | refine br_f (decide_eq_false (by omega)) ?_ | refine wr_i ?_ | refine opiv ⟨tab_ok⟩ (by rfl) (by rfl) (by rfl) (by rfl) (by rfl) (by rfl) ⟨by omega, by omega⟩ ?_ | refine puiv ⟨tab_ok⟩ (by rfl) (by rfl) (by rfl) (by rfl) (by rfl) (by rfl) ⟨by omega, by omega⟩ ?_ | refine opfv ⟨tab_ok⟩ (by rfl) (by rfl) (by rfl) (by rfl) ?_ | refine pufv ⟨tab_ok⟩ (by rfl) (by rfl) (by rfl) (by rfl) ?_ | refine br_t (beq_iff_eq.2 hu) ?_ | refine br_f (beq_eq_false_iff_ne.2 hu) ?_ | refine br_t (beq_iff_eq.2 hd1) ?_ | refine br_t (beq_iff_eq.2 hd2) ?_ | refine opxc (g := ga) (off := 0 + j * 15 + 2) (.i .i64 x.un) (fun w hH => rng_sub (n := 1) (Ek.rng (Hold.ob hH (A := rwO carE la (some ⟨ga, 0, none⟩) Kn.G.cars.length ca Kn.G.cars true) 2 rfl) hx) rfl) ⟨tab_ok⟩ (by rfl) (by rfl) (by simp only [Go.WideShapes.add_plain]; rfl) ?_ | refine opxc (g := gc) (off := 0 + j * 15 + 2) (.i .i64 y.un) (fun w hH => rng_sub (n := 1) (Ek.rng (Hold.ob hH (A := rwO carE lb (some ⟨gc, 0, none⟩) Kn.G.cars.length cb (tickK Kn).G.cars true) 5 rfl) hy) rfl) ⟨tab_ok⟩ (by rfl) (by rfl) (by simp only [Go.WideShapes.add_plain]; rfl) ?_ | refine opxc (g := ga) (off := 0 + j * 15 + 0) (.i .i64 x.ds) (fun w hH => rng_sub (n := 1) (Ek.rng (Hold.ob hH (A := rwO carE la (some ⟨ga, 0, none⟩) Kn.G.cars.length ca Kn.G.cars true) 2 rfl) hx) rfl) ⟨tab_ok⟩ (by rfl) (by rfl) (by simp only [Go.WideShapes.add_plain]; rfl) ?_ | refine opxc (g := gc) (off := 0 + j * 15 + 0) (.i .i64 y.ds) (fun w hH => rng_sub (n := 1) (Ek.rng (Hold.ob hH (A := rwO carE lb (some ⟨gc, 0, none⟩) Kn.G.cars.length cb (tickK Kn).G.cars true) 5 rfl) hy) rfl) ⟨tab_ok⟩ (by rfl) (by rfl) (by simp only [Go.WideShapes.add_plain]; rfl) ?_ | refine back ⟨j + 1, by show j + 1 ≤ _; omega⟩ (wkd ?_) ?_ | refine fin_s ?_ | refine fin_r ?_ ?_ | refine fin_e ?_ ?_)
                all_goals first | (show Kn.G.cars.length - (j + 1) < Kn.G.cars.length - j; omega) | skip
                all_goals (repeat' (first | exact trivial | rfl | ((conv => whnf); refine And.intro ?_ ?_)))
            · repeat' ((conv => whnf); first | refine sgo ⟨tab_ok⟩ ?_ | refine br_not ?_ | refine br_t rfl ?_ | refine br_f rfl ?_ | refine br_t (by assumption) ?_ | refine br_f (by assumption) ?_ | refine br_t (decide_eq_true (by assumption)) ?_ | refine br_f (decide_eq_false (by assumption)) ?_ | refine br_t (beq_iff_eq.2 (by assumption)) ?_ | refine br_f (beq_eq_false_iff_ne.2 (by assumption)) ?_ | intro b | refine drA ⟨tab_ok⟩ [] ?_ | refine kpt ?_ | refine br_t (decide_eq_true (by omega)) ?_ | refine br_f (decide_eq_false (by omega)) ?_ | refine wr_i ?_ | refine fin_s ?_ | refine fin_r ?_ ?_ | refine fin_e ?_ ?_)
              conv => whnf
              refine lp ⟨tab_ok⟩ (ι := {j : Nat // j ≤ (tickK Kn).L.length}) (fun x => match x with | ⟨j, _⟩ => ⟨[(1, .v (.slice (some ⟨gb, off, none⟩) len cap)), (2, .p 0 0), (5, .v (.pointer (some ⟨q, 0, none⟩))), (6, .i .i64 (k : Int)), (7, .p 1 0), (8, .i .i64 (n : Int)), (9, .v (.slice (some ⟨ga, 0, none⟩) Kn.G.cars.length ca)), (10, .v (.slice (some ⟨gc, 0, none⟩) Kn.G.cars.length cb)), (11, .v (.slice A0 (tickK Kn).L.length c0)), (13, .i .i64 (j : Int))], [⟨bc, 23, true, 0, [], [.i .i64 c.ca, .i .i64 c.fl, .i .i64 c.ft, .i .i64 c.se, .i .i64 c.dr, .i .i64 c.dw, .i .i64 c.ho, .i .i64 c.re, .i .i64 c.yi, .i .i64 c.qu, .i .i64 c.qo, .i .i64 c.lo, .i .i64 c.sl, .i .i64 c.rt, .i .i64 c.cp, .i .i64 c.tr, .i .i64 c.de, .i .i64 c.wi], [], true⟩, ⟨bo, 50, true, 0, [], [.i .i64 (os k).k, .i .i64 (os k).a, .i .i64 (os k).b, .i .i64 (os k).q.se, .i .i64 (os k).q.fl, .i .i64 (os k).q.fm, .i .i64 (os k).q.to, .i .i64 (os k).q.ma, .i .i64 (os k).m.ki, .i .i64 (os k).m.a, .i .i64 (os k).m.b, .i .i64 (os k).m.c], [], true⟩], [rdO kopE (some ⟨gb, off, none⟩) len os, kO lo q p (tickK Kn) S4 true, rwO carE la (some ⟨ga, 0, none⟩) Kn.G.cars.length ca Kn.G.cars true, rwO evE e4.1 e4.2.1 (tickE Kn).length e4.2.2 (tickE Kn) true, waitsO w4.1 w4.2.1 (tickP Kn.G).2.2.length w4.2.2 (tickP Kn.G).2.2 true, rwO carE lb (some ⟨gc, 0, none⟩) Kn.G.cars.length cb (tickK Kn).G.cars true, rwO leaE l0 A0 (tickK Kn).L.length c0 (tickK Kn).L true]⟩) (fun x => (tickK Kn).L.length - x.1) ⟨0, Nat.zero_le _⟩ (wkd ?_) ?_
              · repeat' (first | exact trivial | rfl | ((conv => whnf); refine And.intro ?_ ?_))
              rintro ⟨i, hil⟩
              have hil : i ≤ (tickK Kn).L.length := hil
              by_cases hi : i < (tickK Kn).L.length
              · obtain ⟨l, hl⟩ : ∃ l, (tickK Kn).L[i]? = some l := ⟨_, List.getElem?_eq_getElem (by omega)⟩
                obtain ⟨gL, hgL⟩ := hA0 (by omega)
                subst hgL
                have hlm := List.mem_of_getElem? hl
                obtain ⟨x, hx, hb⟩ := HD2.a l hlm
                have hca := HN2.k.okl l hlm
                have hop := hb.op (fun h => by cases h)
                by_cases h2 : l.ph = 2
                · have hds : x.ds = 2 := by have := hop (.inl h2); unfold Ri.opB at this; simp only [Bool.and_eq_true, beq_iff_eq] at this; exact this.2
                  by_cases hbr : x.br = true
                  · repeat' ((conv => whnf); first | refine sgo ⟨tab_ok⟩ ?_ | refine br_not ?_ | refine br_t rfl ?_ | refine br_f rfl ?_ | refine br_t (by assumption) ?_ | refine br_f (by assumption) ?_ | refine br_t (decide_eq_true (by assumption)) ?_ | refine br_f (decide_eq_false (by assumption)) ?_ | refine br_t (beq_iff_eq.2 (by assumption)) ?_ | refine br_f (beq_eq_false_iff_ne.2 (by assumption)) ?_ | intro b | refine drA ⟨tab_ok⟩ [] ?_ | refine kpt ?_ | refine br_t (decide_eq_true (by omega)) ?_ | refine br_f (decide_eq_false (by omega)) ?_ | refine wr_i ?_ | refine br_t (beq_iff_eq.2 h2) ?_ | refine br_f (beq_eq_false_iff_ne.2 h2) ?_ | refine br_t (beq_iff_eq.2 h4) ?_ | refine br_f (beq_eq_false_iff_ne.2 h4) ?_ | refine br_t (beq_iff_eq.2 hds) ?_ | refine opiv ⟨tab_ok⟩ (by rfl) (by rfl) (by rfl) (by rfl) (by rfl) (by rfl) ⟨by omega, by omega⟩ ?_ | refine puiv ⟨tab_ok⟩ (by rfl) (by rfl) (by rfl) (by rfl) (by rfl) (by rfl) ⟨by omega, by omega⟩ ?_ | refine opfv ⟨tab_ok⟩ (by rfl) (by rfl) (by rfl) (by rfl) ?_ | refine pufv ⟨tab_ok⟩ (by rfl) (by rfl) (by rfl) (by rfl) ?_ | refine opxc (g := gL) (off := 0 + i * 10 + 5) (.i .i64 l.ca) (fun w hH => rng_sub (n := 1) (Ek.rng (Hold.ob hH (A := rwO leaE l0 (some ⟨gL, 0, none⟩) (tickK Kn).L.length c0 (tickK Kn).L true) 6 rfl) hl) rfl) ⟨tab_ok⟩ (by rfl) (by rfl) (by simp only [Go.WideShapes.add_plain]; rfl) ?_ | refine opxc (g := gL) (off := 0 + i * 10 + 6) (.i .i64 l.ph) (fun w hH => rng_sub (n := 1) (Ek.rng (Hold.ob hH (A := rwO leaE l0 (some ⟨gL, 0, none⟩) (tickK Kn).L.length c0 (tickK Kn).L true) 6 rfl) hl) rfl) ⟨tab_ok⟩ (by rfl) (by rfl) (by simp only [Go.WideShapes.add_plain]; rfl) ?_ | refine opix (g := gc) (off := 0 + l.ca.toNat * 15) [.i .i64 x.ds, .i .i64 x.da, .i .i64 x.un, .i .i64 x.wy, .i .i64 x.ti, .i .i64 x.ju, .i .i64 x.lo, .b x.bl, .b x.br, .i .i64 x.mo, .i .i64 x.ta, .b x.ho, .i .u64 x.sp, .i .u64 x.su, .i .u64 x.sd] (fun w hH => Ek.rng (Hold.ob hH (A := rwO carE lb (some ⟨gc, 0, none⟩) Kn.G.cars.length cb (tickK Kn).G.cars true) 5 rfl) hx) ⟨tab_ok⟩ (by rfl) (by rfl) (by rw [Go.WideShapes.add_plain]) ?_ | refine back ⟨i + 1, by show i + 1 ≤ _; omega⟩ (wkd ?_) ?_ | refine fin_s ?_ | refine fin_r ?_ ?_ | refine fin_e ?_ ?_)
                    all_goals first | (show (tickK Kn).L.length - (i + 1) < (tickK Kn).L.length - i; omega) | skip
                    all_goals (repeat' (first | exact trivial | rfl | ((conv => whnf); refine And.intro ?_ ?_)))
                  · have hbr : x.br = false := by simpa using hbr
                    repeat' ((conv => whnf); first | refine sgo ⟨tab_ok⟩ ?_ | refine br_not ?_ | refine br_t rfl ?_ | refine br_f rfl ?_ | refine br_t (by assumption) ?_ | refine br_f (by assumption) ?_ | refine br_t (decide_eq_true (by assumption)) ?_ | refine br_f (decide_eq_false (by assumption)) ?_ | refine br_t (beq_iff_eq.2 (by assumption)) ?_ | refine br_f (beq_eq_false_iff_ne.2 (by assumption)) ?_ | intro b | refine drA ⟨tab_ok⟩ [] ?_ | refine kpt ?_ | refine br_t (decide_eq_true (by omega)) ?_ | refine br_f (decide_eq_false (by omega)) ?_ | refine wr_i ?_ | refine br_t (beq_iff_eq.2 h2) ?_ | refine br_f (beq_eq_false_iff_ne.2 h2) ?_ | refine br_t (beq_iff_eq.2 h4) ?_ | refine br_f (beq_eq_false_iff_ne.2 h4) ?_ | refine br_t (beq_iff_eq.2 hds) ?_ | refine opiv ⟨tab_ok⟩ (by rfl) (by rfl) (by rfl) (by rfl) (by rfl) (by rfl) ⟨by omega, by omega⟩ ?_ | refine puiv ⟨tab_ok⟩ (by rfl) (by rfl) (by rfl) (by rfl) (by rfl) (by rfl) ⟨by omega, by omega⟩ ?_ | refine opfv ⟨tab_ok⟩ (by rfl) (by rfl) (by rfl) (by rfl) ?_ | refine pufv ⟨tab_ok⟩ (by rfl) (by rfl) (by rfl) (by rfl) ?_ | refine opxc (g := gL) (off := 0 + i * 10 + 5) (.i .i64 l.ca) (fun w hH => rng_sub (n := 1) (Ek.rng (Hold.ob hH (A := rwO leaE l0 (some ⟨gL, 0, none⟩) (tickK Kn).L.length c0 (tickK Kn).L true) 6 rfl) hl) rfl) ⟨tab_ok⟩ (by rfl) (by rfl) (by simp only [Go.WideShapes.add_plain]; rfl) ?_ | refine opxc (g := gL) (off := 0 + i * 10 + 6) (.i .i64 l.ph) (fun w hH => rng_sub (n := 1) (Ek.rng (Hold.ob hH (A := rwO leaE l0 (some ⟨gL, 0, none⟩) (tickK Kn).L.length c0 (tickK Kn).L true) 6 rfl) hl) rfl) ⟨tab_ok⟩ (by rfl) (by rfl) (by simp only [Go.WideShapes.add_plain]; rfl) ?_ | refine opix (g := gc) (off := 0 + l.ca.toNat * 15) [.i .i64 x.ds, .i .i64 x.da, .i .i64 x.un, .i .i64 x.wy, .i .i64 x.ti, .i .i64 x.ju, .i .i64 x.lo, .b x.bl, .b x.br, .i .i64 x.mo, .i .i64 x.ta, .b x.ho, .i .u64 x.sp, .i .u64 x.su, .i .u64 x.sd] (fun w hH => Ek.rng (Hold.ob hH (A := rwO carE lb (some ⟨gc, 0, none⟩) Kn.G.cars.length cb (tickK Kn).G.cars true) 5 rfl) hx) ⟨tab_ok⟩ (by rfl) (by rfl) (by rw [Go.WideShapes.add_plain]) ?_ | refine back ⟨i + 1, by show i + 1 ≤ _; omega⟩ (wkd ?_) ?_ | refine fin_s ?_ | refine fin_r ?_ ?_ | refine fin_e ?_ ?_)
                    all_goals first | (show (tickK Kn).L.length - (i + 1) < (tickK Kn).L.length - i; omega) | skip
                    all_goals (repeat' (first | exact trivial | rfl | ((conv => whnf); refine And.intro ?_ ?_)))
                · by_cases h4 : l.ph = 4
                  · have hds : x.ds = 2 := by have := hop (.inr h4); unfold Ri.opB at this; simp only [Bool.and_eq_true, beq_iff_eq] at this; exact this.2
                    by_cases hbr : x.br = true
                    · repeat' ((conv => whnf); first | refine sgo ⟨tab_ok⟩ ?_ | refine br_not ?_ | refine br_t rfl ?_ | refine br_f rfl ?_ | refine br_t (by assumption) ?_ | refine br_f (by assumption) ?_ | refine br_t (decide_eq_true (by assumption)) ?_ | refine br_f (decide_eq_false (by assumption)) ?_ | refine br_t (beq_iff_eq.2 (by assumption)) ?_ | refine br_f (beq_eq_false_iff_ne.2 (by assumption)) ?_ | intro b | refine drA ⟨tab_ok⟩ [] ?_ | refine kpt ?_ | refine br_t (decide_eq_true (by omega)) ?_ | refine br_f (decide_eq_false (by omega)) ?_ | refine wr_i ?_ | refine br_t (beq_iff_eq.2 h2) ?_ | refine br_f (beq_eq_false_iff_ne.2 h2) ?_ | refine br_t (beq_iff_eq.2 h4) ?_ | refine br_f (beq_eq_false_iff_ne.2 h4) ?_ | refine br_t (beq_iff_eq.2 hds) ?_ | refine opiv ⟨tab_ok⟩ (by rfl) (by rfl) (by rfl) (by rfl) (by rfl) (by rfl) ⟨by omega, by omega⟩ ?_ | refine puiv ⟨tab_ok⟩ (by rfl) (by rfl) (by rfl) (by rfl) (by rfl) (by rfl) ⟨by omega, by omega⟩ ?_ | refine opfv ⟨tab_ok⟩ (by rfl) (by rfl) (by rfl) (by rfl) ?_ | refine pufv ⟨tab_ok⟩ (by rfl) (by rfl) (by rfl) (by rfl) ?_ | refine opxc (g := gL) (off := 0 + i * 10 + 5) (.i .i64 l.ca) (fun w hH => rng_sub (n := 1) (Ek.rng (Hold.ob hH (A := rwO leaE l0 (some ⟨gL, 0, none⟩) (tickK Kn).L.length c0 (tickK Kn).L true) 6 rfl) hl) rfl) ⟨tab_ok⟩ (by rfl) (by rfl) (by simp only [Go.WideShapes.add_plain]; rfl) ?_ | refine opxc (g := gL) (off := 0 + i * 10 + 6) (.i .i64 l.ph) (fun w hH => rng_sub (n := 1) (Ek.rng (Hold.ob hH (A := rwO leaE l0 (some ⟨gL, 0, none⟩) (tickK Kn).L.length c0 (tickK Kn).L true) 6 rfl) hl) rfl) ⟨tab_ok⟩ (by rfl) (by rfl) (by simp only [Go.WideShapes.add_plain]; rfl) ?_ | refine opix (g := gc) (off := 0 + l.ca.toNat * 15) [.i .i64 x.ds, .i .i64 x.da, .i .i64 x.un, .i .i64 x.wy, .i .i64 x.ti, .i .i64 x.ju, .i .i64 x.lo, .b x.bl, .b x.br, .i .i64 x.mo, .i .i64 x.ta, .b x.ho, .i .u64 x.sp, .i .u64 x.su, .i .u64 x.sd] (fun w hH => Ek.rng (Hold.ob hH (A := rwO carE lb (some ⟨gc, 0, none⟩) Kn.G.cars.length cb (tickK Kn).G.cars true) 5 rfl) hx) ⟨tab_ok⟩ (by rfl) (by rfl) (by rw [Go.WideShapes.add_plain]) ?_ | refine back ⟨i + 1, by show i + 1 ≤ _; omega⟩ (wkd ?_) ?_ | refine fin_s ?_ | refine fin_r ?_ ?_ | refine fin_e ?_ ?_)
                      all_goals first | (show (tickK Kn).L.length - (i + 1) < (tickK Kn).L.length - i; omega) | skip
                      all_goals (repeat' (first | exact trivial | rfl | ((conv => whnf); refine And.intro ?_ ?_)))
                    · have hbr : x.br = false := by simpa using hbr
                      repeat' ((conv => whnf); first | refine sgo ⟨tab_ok⟩ ?_ | refine br_not ?_ | refine br_t rfl ?_ | refine br_f rfl ?_ | refine br_t (by assumption) ?_ | refine br_f (by assumption) ?_ | refine br_t (decide_eq_true (by assumption)) ?_ | refine br_f (decide_eq_false (by assumption)) ?_ | refine br_t (beq_iff_eq.2 (by assumption)) ?_ | refine br_f (beq_eq_false_iff_ne.2 (by assumption)) ?_ | intro b | refine drA ⟨tab_ok⟩ [] ?_ | refine kpt ?_ | refine br_t (decide_eq_true (by omega)) ?_ | refine br_f (decide_eq_false (by omega)) ?_ | refine wr_i ?_ | refine br_t (beq_iff_eq.2 h2) ?_ | refine br_f (beq_eq_false_iff_ne.2 h2) ?_ | refine br_t (beq_iff_eq.2 h4) ?_ | refine br_f (beq_eq_false_iff_ne.2 h4) ?_ | refine br_t (beq_iff_eq.2 hds) ?_ | refine opiv ⟨tab_ok⟩ (by rfl) (by rfl) (by rfl) (by rfl) (by rfl) (by rfl) ⟨by omega, by omega⟩ ?_ | refine puiv ⟨tab_ok⟩ (by rfl) (by rfl) (by rfl) (by rfl) (by rfl) (by rfl) ⟨by omega, by omega⟩ ?_ | refine opfv ⟨tab_ok⟩ (by rfl) (by rfl) (by rfl) (by rfl) ?_ | refine pufv ⟨tab_ok⟩ (by rfl) (by rfl) (by rfl) (by rfl) ?_ | refine opxc (g := gL) (off := 0 + i * 10 + 5) (.i .i64 l.ca) (fun w hH => rng_sub (n := 1) (Ek.rng (Hold.ob hH (A := rwO leaE l0 (some ⟨gL, 0, none⟩) (tickK Kn).L.length c0 (tickK Kn).L true) 6 rfl) hl) rfl) ⟨tab_ok⟩ (by rfl) (by rfl) (by simp only [Go.WideShapes.add_plain]; rfl) ?_ | refine opxc (g := gL) (off := 0 + i * 10 + 6) (.i .i64 l.ph) (fun w hH => rng_sub (n := 1) (Ek.rng (Hold.ob hH (A := rwO leaE l0 (some ⟨gL, 0, none⟩) (tickK Kn).L.length c0 (tickK Kn).L true) 6 rfl) hl) rfl) ⟨tab_ok⟩ (by rfl) (by rfl) (by simp only [Go.WideShapes.add_plain]; rfl) ?_ | refine opix (g := gc) (off := 0 + l.ca.toNat * 15) [.i .i64 x.ds, .i .i64 x.da, .i .i64 x.un, .i .i64 x.wy, .i .i64 x.ti, .i .i64 x.ju, .i .i64 x.lo, .b x.bl, .b x.br, .i .i64 x.mo, .i .i64 x.ta, .b x.ho, .i .u64 x.sp, .i .u64 x.su, .i .u64 x.sd] (fun w hH => Ek.rng (Hold.ob hH (A := rwO carE lb (some ⟨gc, 0, none⟩) Kn.G.cars.length cb (tickK Kn).G.cars true) 5 rfl) hx) ⟨tab_ok⟩ (by rfl) (by rfl) (by rw [Go.WideShapes.add_plain]) ?_ | refine back ⟨i + 1, by show i + 1 ≤ _; omega⟩ (wkd ?_) ?_ | refine fin_s ?_ | refine fin_r ?_ ?_ | refine fin_e ?_ ?_)
                      all_goals first | (show (tickK Kn).L.length - (i + 1) < (tickK Kn).L.length - i; omega) | skip
                      all_goals (repeat' (first | exact trivial | rfl | ((conv => whnf); refine And.intro ?_ ?_)))
                  · repeat' ((conv => whnf); first | refine sgo ⟨tab_ok⟩ ?_ | refine br_not ?_ | refine br_t rfl ?_ | refine br_f rfl ?_ | refine br_t (by assumption) ?_ | refine br_f (by assumption) ?_ | refine br_t (decide_eq_true (by assumption)) ?_ | refine br_f (decide_eq_false (by assumption)) ?_ | refine br_t (beq_iff_eq.2 (by assumption)) ?_ | refine br_f (beq_eq_false_iff_ne.2 (by assumption)) ?_ | intro b | refine drA ⟨tab_ok⟩ [] ?_ | refine kpt ?_ | refine br_t (decide_eq_true (by omega)) ?_ | refine br_f (decide_eq_false (by omega)) ?_ | refine wr_i ?_ | refine br_t (beq_iff_eq.2 h2) ?_ | refine br_f (beq_eq_false_iff_ne.2 h2) ?_ | refine br_t (beq_iff_eq.2 h4) ?_ | refine br_f (beq_eq_false_iff_ne.2 h4) ?_ | refine br_t (beq_iff_eq.2 hds) ?_ | refine opiv ⟨tab_ok⟩ (by rfl) (by rfl) (by rfl) (by rfl) (by rfl) (by rfl) ⟨by omega, by omega⟩ ?_ | refine puiv ⟨tab_ok⟩ (by rfl) (by rfl) (by rfl) (by rfl) (by rfl) (by rfl) ⟨by omega, by omega⟩ ?_ | refine opfv ⟨tab_ok⟩ (by rfl) (by rfl) (by rfl) (by rfl) ?_ | refine pufv ⟨tab_ok⟩ (by rfl) (by rfl) (by rfl) (by rfl) ?_ | refine opxc (g := gL) (off := 0 + i * 10 + 5) (.i .i64 l.ca) (fun w hH => rng_sub (n := 1) (Ek.rng (Hold.ob hH (A := rwO leaE l0 (some ⟨gL, 0, none⟩) (tickK Kn).L.length c0 (tickK Kn).L true) 6 rfl) hl) rfl) ⟨tab_ok⟩ (by rfl) (by rfl) (by simp only [Go.WideShapes.add_plain]; rfl) ?_ | refine opxc (g := gL) (off := 0 + i * 10 + 6) (.i .i64 l.ph) (fun w hH => rng_sub (n := 1) (Ek.rng (Hold.ob hH (A := rwO leaE l0 (some ⟨gL, 0, none⟩) (tickK Kn).L.length c0 (tickK Kn).L true) 6 rfl) hl) rfl) ⟨tab_ok⟩ (by rfl) (by rfl) (by simp only [Go.WideShapes.add_plain]; rfl) ?_ | refine opix (g := gc) (off := 0 + l.ca.toNat * 15) [.i .i64 x.ds, .i .i64 x.da, .i .i64 x.un, .i .i64 x.wy, .i .i64 x.ti, .i .i64 x.ju, .i .i64 x.lo, .b x.bl, .b x.br, .i .i64 x.mo, .i .i64 x.ta, .b x.ho, .i .u64 x.sp, .i .u64 x.su, .i .u64 x.sd] (fun w hH => Ek.rng (Hold.ob hH (A := rwO carE lb (some ⟨gc, 0, none⟩) Kn.G.cars.length cb (tickK Kn).G.cars true) 5 rfl) hx) ⟨tab_ok⟩ (by rfl) (by rfl) (by rw [Go.WideShapes.add_plain]) ?_ | refine back ⟨i + 1, by show i + 1 ≤ _; omega⟩ (wkd ?_) ?_ | refine fin_s ?_ | refine fin_r ?_ ?_ | refine fin_e ?_ ?_)
                    all_goals first | (show (tickK Kn).L.length - (i + 1) < (tickK Kn).L.length - i; omega) | skip
                    all_goals (repeat' (first | exact trivial | rfl | ((conv => whnf); refine And.intro ?_ ?_)))
              · repeat' ((conv => whnf); first | refine sgo ⟨tab_ok⟩ ?_ | refine br_not ?_ | refine br_t rfl ?_ | refine br_f rfl ?_ | refine br_t (by assumption) ?_ | refine br_f (by assumption) ?_ | refine br_t (decide_eq_true (by assumption)) ?_ | refine br_f (decide_eq_false (by assumption)) ?_ | refine br_t (beq_iff_eq.2 (by assumption)) ?_ | refine br_f (beq_eq_false_iff_ne.2 (by assumption)) ?_ | intro b | refine drA ⟨tab_ok⟩ [] ?_ | refine kpt ?_ | refine br_t (decide_eq_true (by omega)) ?_ | refine br_f (decide_eq_false (by omega)) ?_ | refine wr_i ?_ | refine back ⟨((n + 1, S4), tickK Kn), by show n + 1 ≤ 50; omega, HN2, HD2⟩ (wkd ?_) ?_ | refine fin_s ?_ | refine fin_r ?_ ?_ | refine fin_e ?_ ?_)
                all_goals first | (show 50 - (n + 1) < 50 - n; omega) | skip
                all_goals (repeat' (first | exact trivial | rfl | ((conv => whnf); refine And.intro ?_ ?_)))
          · (repeat' ((conv => whnf); first | refine sgo ⟨tab_ok⟩ ?_ | refine br_not ?_ | refine br_t rfl ?_ | refine br_f rfl ?_ | refine br_t (by assumption) ?_ | refine br_f (by assumption) ?_ | refine br_t (decide_eq_true (by assumption)) ?_ | refine br_f (decide_eq_false (by assumption)) ?_ | refine br_t (beq_iff_eq.2 (by assumption)) ?_ | refine br_f (beq_eq_false_iff_ne.2 (by assumption)) ?_ | intro b | refine drA ⟨tab_ok⟩ [] ?_ | refine kpt ?_ | refine br_t (decide_eq_true (by omega)) ?_ | refine br_f (decide_eq_false (by omega)) ?_ | refine wr_i ?_ | refine br_f (beq_eq_false_iff_ne.2 h9) ?_ | refine back ⟨((k + 1, Sn), Kn), ⟨by show k + 1 ≤ 60; omega, by show k + 1 ≤ len; omega⟩, HX, HD⟩ (wkd ?_) ?_ | refine fin_s ?_ | refine fin_r ?_ ?_ | refine fin_e ?_ ?_); all_goals (first | (show 60 - (k + 1) < 60 - k; omega) | skip); all_goals (repeat' (first | exact trivial | rfl | ((conv => whnf); refine And.intro ?_ ?_))))
        · (repeat' ((conv => whnf); first | refine sgo ⟨tab_ok⟩ ?_ | refine br_not ?_ | refine br_t rfl ?_ | refine br_f rfl ?_ | refine br_t (by assumption) ?_ | refine br_f (by assumption) ?_ | refine br_t (decide_eq_true (by assumption)) ?_ | refine br_f (decide_eq_false (by assumption)) ?_ | refine br_t (beq_iff_eq.2 (by assumption)) ?_ | refine br_f (beq_eq_false_iff_ne.2 (by assumption)) ?_ | intro b | refine drA ⟨tab_ok⟩ [] ?_ | refine kpt ?_ | refine br_t (decide_eq_true (by omega)) ?_ | refine br_f (decide_eq_false (by omega)) ?_ | refine wr_i ?_ | refine br_f (beq_eq_false_iff_ne.2 h9) ?_ | refine back ⟨((k + 1, Sn), Kn), ⟨by show k + 1 ≤ 60; omega, by show k + 1 ≤ len; omega⟩, HX, HD⟩ (wkd ?_) ?_ | refine fin_s ?_ | refine fin_r ?_ ?_ | refine fin_e ?_ ?_); all_goals (first | (show 60 - (k + 1) < 60 - k; omega) | skip); all_goals (repeat' (first | exact trivial | rfl | ((conv => whnf); refine And.intro ?_ ?_))))
      · (repeat' ((conv => whnf); first | refine sgo ⟨tab_ok⟩ ?_ | refine br_not ?_ | refine br_t rfl ?_ | refine br_f rfl ?_ | refine br_t (by assumption) ?_ | refine br_f (by assumption) ?_ | refine br_t (decide_eq_true (by assumption)) ?_ | refine br_f (decide_eq_false (by assumption)) ?_ | refine br_t (beq_iff_eq.2 (by assumption)) ?_ | refine br_f (beq_eq_false_iff_ne.2 (by assumption)) ?_ | intro b | refine drA ⟨tab_ok⟩ [] ?_ | refine kpt ?_ | refine br_t (decide_eq_true (by omega)) ?_ | refine br_f (decide_eq_false (by omega)) ?_ | refine wr_i ?_ | refine br_f (beq_eq_false_iff_ne.2 h9) ?_ | refine back ⟨((k + 1, Sn), Kn), ⟨by show k + 1 ≤ 60; omega, by show k + 1 ≤ len; omega⟩, HX, HD⟩ (wkd ?_) ?_ | refine fin_s ?_ | refine fin_r ?_ ?_ | refine fin_e ?_ ?_); all_goals (first | (show 60 - (k + 1) < 60 - k; omega) | skip); all_goals (repeat' (first | exact trivial | rfl | ((conv => whnf); refine And.intro ?_ ?_))))
    · repeat' ((conv => whnf); first | refine sgo ⟨tab_ok⟩ ?_ | refine br_not ?_ | refine br_t rfl ?_ | refine br_f rfl ?_ | refine br_t (by assumption) ?_ | refine br_f (by assumption) ?_ | refine br_t (decide_eq_true (by assumption)) ?_ | refine br_f (decide_eq_false (by assumption)) ?_ | refine br_t (beq_iff_eq.2 (by assumption)) ?_ | refine br_f (beq_eq_false_iff_ne.2 (by assumption)) ?_ | intro b | refine drA ⟨tab_ok⟩ [] ?_ | refine kpt ?_ | refine br_t (decide_eq_true (by omega)) ?_ | refine br_f (decide_eq_false (by omega)) ?_ | refine wr_i ?_ | refine callS (f := 29) (.b true) (ansT) ?_ | refine fin_s ?_ | refine fin_r ?_ ?_ | refine fin_e ?_ ?_)
      all_goals rfl
  · repeat' ((conv => whnf); first | refine sgo ⟨tab_ok⟩ ?_ | refine br_not ?_ | refine br_t rfl ?_ | refine br_f rfl ?_ | refine br_t (by assumption) ?_ | refine br_f (by assumption) ?_ | refine br_t (decide_eq_true (by assumption)) ?_ | refine br_f (decide_eq_false (by assumption)) ?_ | refine br_t (beq_iff_eq.2 (by assumption)) ?_ | refine br_f (beq_eq_false_iff_ne.2 (by assumption)) ?_ | intro b | refine drA ⟨tab_ok⟩ [] ?_ | refine kpt ?_ | refine br_t (decide_eq_true (by omega)) ?_ | refine br_f (decide_eq_false (by omega)) ?_ | refine wr_i ?_ | refine callS (f := 29) (.b true) (ansT) ?_ | refine fin_s ?_ | refine fin_r ?_ ?_ | refine fin_e ?_ ?_)
    all_goals rfl
theorem holdsF {H : Type} {enc : TypeId × Value → H} {x : DataW H × List MemPlace} (c : CfgV) (a : Option Addr) (len cap : Nat) (w : World) (hx : ∃ m, DataW.trod enc Tryz.prog w 0 (fun _ => true) true m 40 (Value.cells (.slice a len cap)).toList = some x) :
    Calls Tryz.prog 6 #[.agg #[.int .i64 c.ca, .int .i64 c.fl, .int .i64 c.ft, .int .i64 c.se, .int .i64 c.dr, .int .i64 c.dw, .int .i64 c.ho, .int .i64 c.re, .int .i64 c.yi, .int .i64 c.qu, .int .i64 c.qo, .int .i64 c.lo, .int .i64 c.sl, .int .i64 c.rt, .int .i64 c.cp, .int .i64 c.tr, .int .i64 c.de, .int .i64 c.wi], .slice a len cap] w fun e w' => e = .returned (.bool true) ∧ Since w w' := by
  obtain ⟨m, hm⟩ := hx
  obtain ⟨os, ho, hl⟩ := kop_open hm
  exact holdsF1 c ho hl
end Go.Proofs.YthmikjjnlahlbaaGreat.Lc
namespace Go.Proofs.YthmikjjnlahlbaaGreat.Opn
set_option linter.unusedSectionVars false
set_option linter.unusedVariables false
set_option linter.unusedSimpArgs false
open Go.RowKit
section
variable {P : Program} {W : World} {base : Nat}
/-- The cells of a struct that came in, each fit for its type. -/
theorem open_agg {t : TypeId} {v : Value} {ts : List TypeId} {fs} (hu : P.underlying t = some (.struct fs)) (hts : P.cellTypes P.depth t = some ts) (hn : P.cellsOf t = ts.length) (h : Value.okWide P W .any base t v) :
    ∃ cs : Array Value, v = .agg cs ∧ cs.size = ts.length ∧ ∀ (i : Nat) (u : TypeId), ts[i]? = some u → ∃ c, cs[i]? = some c ∧ Cell.okWide P W .any base u c := by
  unfold Value.okWide at h
  rw [hu] at h
  obtain ⟨cs, rfl, hsz, ts', hts', _, hc⟩ := h
  rw [hts] at hts'
  obtain rfl : ts = ts' := by injection hts'
  refine ⟨cs, rfl, by omega, fun i u hi => ?_⟩
  obtain ⟨hlt, _⟩ := List.getElem?_eq_some_iff.1 hi
  have hcs : cs[i]? = some (cs[i]'(by omega)) := Array.getElem?_eq_getElem (by omega)
  obtain ⟨u', hu', hok⟩ := hc i _ hcs
  rw [Nat.mod_eq_of_lt hlt, hi] at hu'
  obtain rfl : u = u' := by injection hu'
  exact ⟨_, hcs, hok⟩
theorem cell_int {u : TypeId} {k : IntKind} {c : Value} (hu : P.underlying u = some (.int k)) (h : Cell.okWide P W .any base u c) : ∃ x, c = .int k x ∧ (Lit.int k x).wf = true := by
  unfold Cell.okWide at h
  rw [hu] at h
  simp only at h
  unfold Cell.ok at h
  rw [hu] at h
  cases c with
  | int k' x =>
    simp only at h
    obtain ⟨rfl, hx⟩ := h
    exact ⟨x, rfl, by simpa [Lit.wf, IntKind.has] using hx⟩
  | _ => simp at h
/-- An array of known cells. -/
theorem arr_of {cs : Array Value} {l : List Value} (hn : cs.size = l.length) (h : ∀ (i : Nat) (c : Value), l[i]? = some c → cs[i]? = some c) : cs = l.toArray := by
  apply Array.ext_getElem?
  intro i
  rcases Nat.lt_or_ge i l.length with hi | hi
  · have e := List.getElem?_eq_getElem hi
    rw [h i _ e]
    simp [hi]
  · rw [Array.getElem?_eq_none (by omega)]
    simp [hi]
/-- Cells from a place on. -/
def Each (cs : Array Value) (i : Nat) (l : List Value) : Prop := ∀ (j : Nat) (c : Value), l[j]? = some c → cs[i + j]? = some c
theorem each_nil {cs : Array Value} {i : Nat} : Each cs i [] := fun _ _ h => by simp at h
theorem each_cons {cs : Array Value} {i : Nat} {c : Value} {l : List Value} (h : cs[i]? = some c) (k : Each cs (i + 1) l) : Each cs i (c :: l) := by
  intro j d hd
  cases j with
  | zero =>
    have : c = d := by simpa using hd
    subst this; exact h
  | succ j =>
    have e : i + (j + 1) = i + 1 + j := by omega
    rw [e]
    exact k j d (by simpa using hd)
theorem arr_each {cs : Array Value} {l : List Value} (hn : cs.size = l.length) (h : Each cs 0 l) : cs = l.toArray :=
  arr_of hn fun i c hi => by have := h i c hi; rwa [Nat.zero_add] at this
end
end Go.Proofs.YthmikjjnlahlbaaGreat.Opn
namespace Go.Proofs.YthmikjjnlahlbaaGreat.coreHolds
set_option linter.unusedSectionVars false
set_option linter.unusedVariables false
set_option linter.unusedSimpArgs false
open Go.Proofs.YthmikjjnlahlbaaGreat Go.Proofs.YthmikjjnlahlbaaGreat.Lc
open Go.ChangeShapes Go.WideShapes Go.ChangeAt Go.RowKit
open Go.ChangeMaps (open_string shut_string)
set_option linter.unusedVariables false

theorem own : ownKnob Tryz.prog.godebug = none := by kernel_rfl
theorem laidOut : laidOutB Tryz.prog = true := by kernel_rfl

set_option maxRecDepth 100000 in
theorem lifted (os : Os) (started : os.Started) (H : Type) (enc : TypeId × Value → H) :
    ReturnsInHanded {} Tryz.checked os 6 .any (Rows.coreHoldsSpec.pre6 enc Tryz.prog Tryz.f6 Rows.coreHoldsRow.domain false) (Rows.coreHoldsSpec.post enc Tryz.prog Tryz.f6 false true false false) := by
  refine returnsInHanded_of_change_sized (C := Tryz.checked) own started (by kernel_rfl) Tryz.func6
    (ChangeSpec.witness6 (enc := enc) (C := Tryz.checked) false ⟨#[], #[.agg #[.int .i64 0, .int .i64 0, .int .i64 0, .int .i64 0, .int .i64 0, .int .i64 0, .int .i64 0, .int .i64 0, .int .i64 0, .int .i64 0, .int .i64 0, .int .i64 0, .int .i64 0, .int .i64 0, .int .i64 0, .int .i64 0, .int .i64 0, .int .i64 0], .slice none 0 0], []⟩ 8 (by kernel_rfl) (by kernel_rfl) (by kernel_rfl) (by kernel_rfl)) ?_
  intro W base args ds gs before hval0 hW hcnd hsz0 _
  have hsz : (DataW.weightsEach Tryz.prog (Tryz.f6.params.toList ++ Rows.coreHoldsSpec.plain.varTypes Tryz.prog) (ds ++ gs)).all (· ≤ reachBytes) = true := hsz0
  have hval : ∀ (j : Nat) t v, Tryz.f6.params[j]? = some t → args[j]? = some v → Value.okWide Tryz.prog W .any base t v := hval0
  have hW' := hW
  obtain ⟨p, q, hA0, hV, rfl, hfz, hnd⟩ := hW
  have hA : DataW.TrodAll enc Tryz.prog W 0 (fun _ => true) true Tryz.f6.params.toList args.toList ds p := hA0
  rw [Tryz.params6] at hA hval hsz
  obtain ⟨v0, vs0, d0, ds0, p0, q0, hargs, rfl, rfl, h0, r0⟩ := trodAll_cons hA
  obtain ⟨v1, vs1, d1, ds1, p1, q1, rfl, rfl, rfl, h1, r1⟩ := trodAll_cons r0
  obtain ⟨rfl, rfl, rfl⟩ := trodAll_nil r1
  obtain rfl : args = #[v0, v1] := by cases args; simp_all
  obtain ⟨rfl, rfl⟩ := trodVars_none hV
  have k0 := h0
  have lt0 : ∀ x ∈ p0, x.block < W.heap.size := by obtain ⟨m, hm⟩ := k0; exact DataW.trod_lt m _ _ _ hm
  obtain ⟨cs0, rfl, hsz0, hcc0⟩ := Opn.open_agg (ts := [3, 3, 3, 3, 3, 3, 3, 3, 3, 3, 3, 3, 3, 3, 3, 3, 3, 3]) Tryz.underlying23 (by kernel_rfl) (by kernel_rfl) (hval 0 23 v0 rfl rfl)
  obtain ⟨c0_0, hc0_0, ho0_0⟩ := hcc0 0 3 rfl
  obtain ⟨x0_0, rfl, w0_0⟩ := Opn.cell_int Tryz.underlying3 ho0_0
  obtain ⟨c0_1, hc0_1, ho0_1⟩ := hcc0 1 3 rfl
  obtain ⟨x0_1, rfl, w0_1⟩ := Opn.cell_int Tryz.underlying3 ho0_1
  obtain ⟨c0_2, hc0_2, ho0_2⟩ := hcc0 2 3 rfl
  obtain ⟨x0_2, rfl, w0_2⟩ := Opn.cell_int Tryz.underlying3 ho0_2
  obtain ⟨c0_3, hc0_3, ho0_3⟩ := hcc0 3 3 rfl
  obtain ⟨x0_3, rfl, w0_3⟩ := Opn.cell_int Tryz.underlying3 ho0_3
  obtain ⟨c0_4, hc0_4, ho0_4⟩ := hcc0 4 3 rfl
  obtain ⟨x0_4, rfl, w0_4⟩ := Opn.cell_int Tryz.underlying3 ho0_4
  obtain ⟨c0_5, hc0_5, ho0_5⟩ := hcc0 5 3 rfl
  obtain ⟨x0_5, rfl, w0_5⟩ := Opn.cell_int Tryz.underlying3 ho0_5
  obtain ⟨c0_6, hc0_6, ho0_6⟩ := hcc0 6 3 rfl
  obtain ⟨x0_6, rfl, w0_6⟩ := Opn.cell_int Tryz.underlying3 ho0_6
  obtain ⟨c0_7, hc0_7, ho0_7⟩ := hcc0 7 3 rfl
  obtain ⟨x0_7, rfl, w0_7⟩ := Opn.cell_int Tryz.underlying3 ho0_7
  obtain ⟨c0_8, hc0_8, ho0_8⟩ := hcc0 8 3 rfl
  obtain ⟨x0_8, rfl, w0_8⟩ := Opn.cell_int Tryz.underlying3 ho0_8
  obtain ⟨c0_9, hc0_9, ho0_9⟩ := hcc0 9 3 rfl
  obtain ⟨x0_9, rfl, w0_9⟩ := Opn.cell_int Tryz.underlying3 ho0_9
  obtain ⟨c0_10, hc0_10, ho0_10⟩ := hcc0 10 3 rfl
  obtain ⟨x0_10, rfl, w0_10⟩ := Opn.cell_int Tryz.underlying3 ho0_10
  obtain ⟨c0_11, hc0_11, ho0_11⟩ := hcc0 11 3 rfl
  obtain ⟨x0_11, rfl, w0_11⟩ := Opn.cell_int Tryz.underlying3 ho0_11
  obtain ⟨c0_12, hc0_12, ho0_12⟩ := hcc0 12 3 rfl
  obtain ⟨x0_12, rfl, w0_12⟩ := Opn.cell_int Tryz.underlying3 ho0_12
  obtain ⟨c0_13, hc0_13, ho0_13⟩ := hcc0 13 3 rfl
  obtain ⟨x0_13, rfl, w0_13⟩ := Opn.cell_int Tryz.underlying3 ho0_13
  obtain ⟨c0_14, hc0_14, ho0_14⟩ := hcc0 14 3 rfl
  obtain ⟨x0_14, rfl, w0_14⟩ := Opn.cell_int Tryz.underlying3 ho0_14
  obtain ⟨c0_15, hc0_15, ho0_15⟩ := hcc0 15 3 rfl
  obtain ⟨x0_15, rfl, w0_15⟩ := Opn.cell_int Tryz.underlying3 ho0_15
  obtain ⟨c0_16, hc0_16, ho0_16⟩ := hcc0 16 3 rfl
  obtain ⟨x0_16, rfl, w0_16⟩ := Opn.cell_int Tryz.underlying3 ho0_16
  obtain ⟨c0_17, hc0_17, ho0_17⟩ := hcc0 17 3 rfl
  obtain ⟨x0_17, rfl, w0_17⟩ := Opn.cell_int Tryz.underlying3 ho0_17
  obtain rfl : cs0 = #[.int .i64 x0_0, .int .i64 x0_1, .int .i64 x0_2, .int .i64 x0_3, .int .i64 x0_4, .int .i64 x0_5, .int .i64 x0_6, .int .i64 x0_7, .int .i64 x0_8, .int .i64 x0_9, .int .i64 x0_10, .int .i64 x0_11, .int .i64 x0_12, .int .i64 x0_13, .int .i64 x0_14, .int .i64 x0_15, .int .i64 x0_16, .int .i64 x0_17] := Opn.arr_each (l := [.int .i64 x0_0, .int .i64 x0_1, .int .i64 x0_2, .int .i64 x0_3, .int .i64 x0_4, .int .i64 x0_5, .int .i64 x0_6, .int .i64 x0_7, .int .i64 x0_8, .int .i64 x0_9, .int .i64 x0_10, .int .i64 x0_11, .int .i64 x0_12, .int .i64 x0_13, .int .i64 x0_14, .int .i64 x0_15, .int .i64 x0_16, .int .i64 x0_17]) hsz0 (by
    refine Opn.each_cons hc0_0 ?_
    refine Opn.each_cons hc0_1 ?_
    refine Opn.each_cons hc0_2 ?_
    refine Opn.each_cons hc0_3 ?_
    refine Opn.each_cons hc0_4 ?_
    refine Opn.each_cons hc0_5 ?_
    refine Opn.each_cons hc0_6 ?_
    refine Opn.each_cons hc0_7 ?_
    refine Opn.each_cons hc0_8 ?_
    refine Opn.each_cons hc0_9 ?_
    refine Opn.each_cons hc0_10 ?_
    refine Opn.each_cons hc0_11 ?_
    refine Opn.each_cons hc0_12 ?_
    refine Opn.each_cons hc0_13 ?_
    refine Opn.each_cons hc0_14 ?_
    refine Opn.each_cons hc0_15 ?_
    refine Opn.each_cons hc0_16 ?_
    refine Opn.each_cons hc0_17 ?_
    exact Opn.each_nil)
  obtain ⟨a1, len1, cap1, rfl⟩ := okWide_slice Tryz.underlying40 (hval 1 40 v1 rfl rfl)
  have k1 := h1
  have lt1 : ∀ x ∈ p1, x.block < W.heap.size := by obtain ⟨m, hm⟩ := k1; exact DataW.trod_lt m _ _ _ hm
  clear hA0 hval0
  refine (Lc.holdsF ⟨x0_0, x0_1, x0_2, x0_3, x0_4, x0_5, x0_6, x0_7, x0_8, x0_9, x0_10, x0_11, x0_12, x0_13, x0_14, x0_15, x0_16, x0_17⟩ a1 len1 cap1 W h1).mono fun e W' ⟨he, bel⟩ => ?_
  subst he
  exact ⟨_, rfl, _, _, _, [], _, [], hW', trodAll_mk1 (shut_bool Tryz.underlying4 _), (trodAll_cons_mk (Below.trod laidOut (by kernel_rfl) (of_decide_eq_true (by kernel_rfl)) k0 bel lt0) (trodAll_cons_mk (Below.trod laidOut (by kernel_rfl) (of_decide_eq_true (by kernel_rfl)) k1 bel lt1) trodAll_mk0)), rfl, Below.frame bel _, fun h => by cases h⟩

theorem over : Rows.coreHoldsRow.holds Tryz.pinned (OpenSpec.ofChange Rows.coreHoldsSpec) :=
  OpenClaim.holds_of_wide 6 Tryz.f6 rfl rfl rfl rfl rfl rfl rfl ⟨rfl, rfl, rfl, rfl, rfl⟩ rfl rfl rfl rfl rfl (by kernel_rfl) Tryz.func6 (by kernel_rfl)
    (of_decide_eq_true (by kernel_rfl)) (by unfold Func.isWrapper; first | (rw [if_pos (by decide +kernel)]; kernel_rfl) | (rw [if_neg (by decide +kernel)]; exact ⟨rfl, rfl⟩))
    (fun os started H enc _ => lifted os started H enc)

/-- THE STATEMENT -/
theorem proved : Rows.CoreHoldsSaid := over
#print axioms proved
end Go.Proofs.YthmikjjnlahlbaaGreat.coreHolds
