/-
  What is wanted by the last of these texts, part 13.
  No condition.
-/
import Derived.Test.YthmikjjnlahlbaaGreatKG12
namespace Go.Proofs.YthmikjjnlahlbaaGreat.Lc
set_option linter.unusedSectionVars false
set_option linter.unusedVariables false
set_option linter.unusedSimpArgs false
open Go.RowKit Go.Proofs.YthmikjjnlahlbaaGreat.Ba Go.Proofs.YthmikjjnlahlbaaGreat.Mem Go.Proofs.YthmikjjnlahlbaaGreat.En Go.Proofs.YthmikjjnlahlbaaGreat.Ty Go.Proofs.YthmikjjnlahlbaaGreat.Mo Go.Proofs.YthmikjjnlahlbaaGreat.St Go.Proofs.YthmikjjnlahlbaaGreat.Co
open Go.Proofs.YthmikjjnlahlbaaGreat.Ri (trV sp rn)
open Go.Proofs.YthmikjjnlahlbaaGreat.Qu (btw)
set_option maxRecDepth 100000
attribute [local irreducible] Go.Calls
theorem nearestT (n lo hi : Int) (w : World) : Calls Tryz.prog 87 #[.int .i64 n, .int .i64 lo, .int .i64 hi] w fun e w' => e = .returned (.int .i64 (btw n lo hi)) ∧ Since w w' := by
  refine ent tab_ok [.i .i64 n, .i .i64 lo, .i .i64 hi] Tryz.func87 Tryz.ntmps87 rfl rfl ?_
  repeat' ((conv => whnf); first | refine sgo ⟨tab_ok⟩ ?_ | refine br_not ?_ | refine br_t rfl ?_ | refine br_f rfl ?_ | refine br_t (by assumption) ?_ | refine br_f (by assumption) ?_ | refine br_t (decide_eq_true (by assumption)) ?_ | refine br_f (decide_eq_false (by assumption)) ?_ | refine br_t (beq_iff_eq.2 (by assumption)) ?_ | refine br_f (beq_eq_false_iff_ne.2 (by assumption)) ?_ | refine drA ⟨tab_ok⟩ [] ?_ | refine kpt ?_ | refine br_dec (fun h => ?_) (fun h => ?_) | refine br_eq (fun h => ?_) (fun h => ?_) | refine br_b (fun h => ?_) (fun h => ?_) | refine fin_s ?_ | refine fin_r ?_ ?_ | refine fin_e ?_ ?_)
  all_goals (refine congrArg (Value.int .i64) ?_; unfold btw; (repeat' split) <;> omega)
theorem spanT (n : Int) (w : World) : Calls Tryz.prog 88 #[.int .i64 n] w fun e w' => e = .returned (.int .i64 (sp n)) ∧ Since w w' := by
  refine ent tab_ok [.i .i64 n] Tryz.func88 Tryz.ntmps88 rfl rfl ?_
  repeat' ((conv => whnf); first | refine sgo ⟨tab_ok⟩ ?_ | refine br_not ?_ | refine br_t rfl ?_ | refine br_f rfl ?_ | refine br_t (by assumption) ?_ | refine br_f (by assumption) ?_ | refine br_t (decide_eq_true (by assumption)) ?_ | refine br_f (decide_eq_false (by assumption)) ?_ | refine br_t (beq_iff_eq.2 (by assumption)) ?_ | refine br_f (beq_eq_false_iff_ne.2 (by assumption)) ?_ | refine drA ⟨tab_ok⟩ [] ?_ | refine kpt ?_ | refine callS (f := 87) (.i .i64 (btw n 1 1000)) (nearestT n 1 1000) ?_ | refine fin_s ?_ | refine fin_r ?_ ?_ | refine fin_e ?_ ?_)
  all_goals rfl
theorem floorsT (n : Int) (w : World) : Calls Tryz.prog 90 #[.int .i64 n] w fun e w' => e = .returned (.int .i64 (fl n)) ∧ Since w w' := by
  refine ent tab_ok [.i .i64 n] Tryz.func90 Tryz.ntmps90 rfl rfl ?_
  repeat' ((conv => whnf); first | refine sgo ⟨tab_ok⟩ ?_ | refine br_not ?_ | refine br_t rfl ?_ | refine br_f rfl ?_ | refine br_t (by assumption) ?_ | refine br_f (by assumption) ?_ | refine br_t (decide_eq_true (by assumption)) ?_ | refine br_f (decide_eq_false (by assumption)) ?_ | refine br_t (beq_iff_eq.2 (by assumption)) ?_ | refine br_f (beq_eq_false_iff_ne.2 (by assumption)) ?_ | refine drA ⟨tab_ok⟩ [] ?_ | refine kpt ?_ | refine br_dec (fun h => ?_) (fun h => ?_) | refine br_eq (fun h => ?_) (fun h => ?_) | refine br_b (fun h => ?_) (fun h => ?_) | refine fin_s ?_ | refine fin_r ?_ ?_ | refine fin_e ?_ ?_)
  all_goals (refine congrArg (Value.int .i64) ?_; unfold fl; (repeat' split) <;> omega)
theorem quotaT (c : CfgV) (w : World) : Calls Tryz.prog 34 #[.agg #[.int .i64 c.ca, .int .i64 c.fl, .int .i64 c.ft, .int .i64 c.se, .int .i64 c.dr, .int .i64 c.dw, .int .i64 c.ho, .int .i64 c.re, .int .i64 c.yi, .int .i64 c.qu, .int .i64 c.qo, .int .i64 c.lo, .int .i64 c.sl, .int .i64 c.rt, .int .i64 c.cp, .int .i64 c.tr, .int .i64 c.de, .int .i64 c.wi]] w fun e w' => e = .returned (.int .i64 (btw c.qo 1 8)) ∧ Since w w' := by
  refine ent tab_ok [.a [.i .i64 c.ca, .i .i64 c.fl, .i .i64 c.ft, .i .i64 c.se, .i .i64 c.dr, .i .i64 c.dw, .i .i64 c.ho, .i .i64 c.re, .i .i64 c.yi, .i .i64 c.qu, .i .i64 c.qo, .i .i64 c.lo, .i .i64 c.sl, .i .i64 c.rt, .i .i64 c.cp, .i .i64 c.tr, .i .i64 c.de, .i .i64 c.wi]] Tryz.func34 Tryz.ntmps34 rfl rfl ?_
  repeat' ((conv => whnf); first | refine sgo ⟨tab_ok⟩ ?_ | refine br_not ?_ | refine br_t rfl ?_ | refine br_f rfl ?_ | refine br_t (by assumption) ?_ | refine br_f (by assumption) ?_ | refine br_t (decide_eq_true (by assumption)) ?_ | refine br_f (decide_eq_false (by assumption)) ?_ | refine br_t (beq_iff_eq.2 (by assumption)) ?_ | refine br_f (beq_eq_false_iff_ne.2 (by assumption)) ?_ | intro b | refine drA ⟨tab_ok⟩ [] ?_ | refine kpt ?_ | refine callS (f := 87) (.i .i64 (btw c.qo 1 8)) (nearestT c.qo 1 8) ?_ | refine fin_s ?_ | refine fin_r ?_ ?_ | refine fin_e ?_ ?_)
  all_goals rfl
end Go.Proofs.YthmikjjnlahlbaaGreat.Lc
namespace Go.Proofs.YthmikjjnlahlbaaGreat.Lc
set_option linter.unusedSectionVars false
set_option linter.unusedVariables false
set_option linter.unusedSimpArgs false
open Go.RowKit Go.Proofs.YthmikjjnlahlbaaGreat.Ba Go.Proofs.YthmikjjnlahlbaaGreat.Mem Go.Proofs.YthmikjjnlahlbaaGreat.En Go.Proofs.YthmikjjnlahlbaaGreat.Ty Go.Proofs.YthmikjjnlahlbaaGreat.Mo Go.Proofs.YthmikjjnlahlbaaGreat.St Go.Proofs.YthmikjjnlahlbaaGreat.Co
open Go.Proofs.YthmikjjnlahlbaaGreat.Fl (leaE)
open Go.Proofs.YthmikjjnlahlbaaGreat.Gr (waitsO tickP)
set_option maxRecDepth 100000
attribute [local irreducible] Go.Calls doK doE tickK tickE newK tickP boundV
theorem hold_op {a : Option Addr} {len nt : Nat} {os : Nat → KopV} {w : World} (h : kopE.Rd a len os w) : Hold ⟨Tryz.prog, tab, [], w, nt, []⟩ [] [rdO kopE a len os] w :=
  Hold.addObj (Hold.nil _ tab [] _ w) (rdO kopE a len os) h (by intro k; cases k) (by intro r hr; cases hr) (by intro A hA; cases hA)
end Go.Proofs.YthmikjjnlahlbaaGreat.Lc
namespace Go.Proofs.YthmikjjnlahlbaaGreat.Lc
set_option linter.unusedSectionVars false
set_option linter.unusedVariables false
set_option linter.unusedSimpArgs false
open Go.RowKit Go.Proofs.YthmikjjnlahlbaaGreat.Ba Go.Proofs.YthmikjjnlahlbaaGreat.Mem Go.Proofs.YthmikjjnlahlbaaGreat.En Go.Proofs.YthmikjjnlahlbaaGreat.Ty Go.Proofs.YthmikjjnlahlbaaGreat.Mo Go.Proofs.YthmikjjnlahlbaaGreat.St Go.Proofs.YthmikjjnlahlbaaGreat.Co
open Go.Proofs.YthmikjjnlahlbaaGreat.Gr (GrV one giveR aimR takeR tickG)
def carE : Ek CarV := ⟨72, 15, Gr.carL, Gr.carL_len, Gr.carL_one⟩
theorem carsW {lo q : Nat} {p : Pt} {K : KV} {S : List Nat} {w : World} (h : KW lo q p K S w) (hl : K.G.cars.length ≤ 10000) : Calls Tryz.prog 32 #[.pointer (some ⟨p.g, 0, none⟩)] w fun e w' => ∃ A' c', e = .returned (.slice A' K.G.cars.length c') ∧ carE.At w.heap.size A' K.G.cars.length c' K.G.cars w' ∧ Since w w' := by
  obtain ⟨S0, hk, hb⟩ := h.rd
  exact hb.cars hl
/-- The same places and doors. -/
def SU (G G' : GrV) : Prop := G'.cars.length = G.cars.length ∧ ∀ (i : Nat) (x : CarV), G.cars[i]? = some x → ∃ y, G'.cars[i]? = some y ∧ y.ds = x.ds ∧ y.un = x.un
theorem SU.refl (G : GrV) : SU G G := ⟨rfl, fun i x h => ⟨x, h, rfl, rfl⟩⟩
theorem SU.trans {G G' G'' : GrV} (h : SU G G') (k : SU G' G'') : SU G G'' := ⟨k.1.trans h.1, fun i x hx => by
  obtain ⟨y, h1, h2, h3⟩ := h.2 i x hx
  obtain ⟨z, k1, k2, k3⟩ := k.2 i y h1
  exact ⟨z, k1, k2.trans h2, k3.trans h3⟩⟩
theorem SU.one {G : GrV} (i : Int) (f : CarV → CarV × Int) (hf : ∀ x, (f x).1.ds = x.ds ∧ (f x).1.un = x.un) : SU G (one G i f).1 :=
  ⟨Gr.one_same.2.2.2, fun k x h => ⟨_, Gr.one_at h, by split; exact (hf x).1; rfl, by split; exact (hf x).2; rfl⟩⟩
end Go.Proofs.YthmikjjnlahlbaaGreat.Lc
namespace Go.Proofs.YthmikjjnlahlbaaGreat.Lc
set_option linter.unusedSectionVars false
set_option linter.unusedVariables false
set_option linter.unusedSimpArgs false
open Go.RowKit Go.Proofs.YthmikjjnlahlbaaGreat.Ba Go.Proofs.YthmikjjnlahlbaaGreat.Mem Go.Proofs.YthmikjjnlahlbaaGreat.En Go.Proofs.YthmikjjnlahlbaaGreat.Ty Go.Proofs.YthmikjjnlahlbaaGreat.Mo Go.Proofs.YthmikjjnlahlbaaGreat.St Go.Proofs.YthmikjjnlahlbaaGreat.Co
open Go.Proofs.YthmikjjnlahlbaaGreat.Fl (leaE cn_take cn_le)
set_option maxRecDepth 100000
attribute [local irreducible] Go.Calls
theorem one_row {α : Type} {E : Ek α} {la ca n nt : Nat} {A : Option Addr} {xs : List α} {w : World} (ha : E.At la A n ca xs w) : Hold ⟨Tryz.prog, tab, [], w, nt, []⟩ [] [rwO E la A n ca xs false] w :=
  Hold.addObj (Hold.nil _ tab [] _ w) (rwO E la A n ca xs false) ha (by intro k; cases k) (by intro r hr; cases hr) (by intro A hA; cases hA)
set_option maxHeartbeats 4000000 in
theorem countRT {la ca : Nat} {A : Option Addr} {ls : List LeaseV} (f : Int) {w : World} (hl : ls.length ≤ 10000) (ha : leaE.At la A ls.length ca ls w) : Calls Tryz.prog 33 #[.slice A ls.length ca, .int .i64 f] w fun e w' => e = .returned (.int .i64 (Fl.cn ls f : Nat)) ∧ Since w w' := by
  obtain ⟨g, hg⟩ := Ek.addr ha
  refine entH tab_ok (one_row ha) [.v (.slice A ls.length ca), .i .i64 f] Tryz.func33 Tryz.ntmps33 rfl rfl ?_
  repeat' ((conv => whnf); first | refine sgo ⟨tab_ok⟩ ?_ | refine br_not ?_ | refine br_t rfl ?_ | refine br_f rfl ?_ | refine br_t (by assumption) ?_ | refine br_f (by assumption) ?_ | refine br_t (decide_eq_true (by assumption)) ?_ | refine br_f (decide_eq_false (by assumption)) ?_ | refine br_t (beq_iff_eq.2 (by assumption)) ?_ | refine br_f (beq_eq_false_iff_ne.2 (by assumption)) ?_ | intro b | refine drA ⟨tab_ok⟩ [] ?_ | refine kpt ?_ | refine fin_s ?_ | refine fin_r ?_ ?_ | refine fin_e ?_ ?_)
  conv => whnf
  refine lp ⟨tab_ok⟩ (ι := {x : Nat × Nat // x.1 ≤ ls.length ∧ Fl.cn (ls.take x.1) f = x.2}) (fun x => match x with | ⟨(k, m), _⟩ => ⟨[(0, .v (.slice A ls.length ca)), (1, .i .i64 f), (5, .i .i64 (m : Int)), (6, .i .i64 (k : Int))], [], [rwO leaE la A ls.length ca ls false]⟩) (fun x => ls.length - x.1.1) ⟨(0, 0), Nat.zero_le _, rfl⟩ (wk ?_) ?_
  · repeat' (first | exact trivial | rfl | ((conv => whnf); refine And.intro ?_ ?_))
  rintro ⟨⟨k, m⟩, hkl, hm⟩
  have hkl : k ≤ ls.length := hkl
  have hm : Fl.cn (ls.take k) f = m := hm
  by_cases hlt : k < ls.length
  · obtain ⟨l, hl⟩ : ∃ l, ls[k]? = some l := ⟨_, List.getElem?_eq_getElem (by omega)⟩
    have hg := hg (by omega)
    subst hg
    have hcl := cn_le (ls.take k) f
    rw [List.length_take, hm] at hcl
    have hct := cn_take (f := f) hl
    by_cases hf : l.fl = f
    · have e : Fl.cn (ls.take (k + 1)) f = m + 1 := by rw [hct, if_pos hf, hm]
      repeat' ((conv => whnf); first | refine sgo ⟨tab_ok⟩ ?_ | refine br_not ?_ | refine br_t rfl ?_ | refine br_f rfl ?_ | refine br_t (by assumption) ?_ | refine br_f (by assumption) ?_ | refine br_t (decide_eq_true (by assumption)) ?_ | refine br_f (decide_eq_false (by assumption)) ?_ | refine br_t (beq_iff_eq.2 (by assumption)) ?_ | refine br_f (beq_eq_false_iff_ne.2 (by assumption)) ?_ | intro b | refine drA ⟨tab_ok⟩ [] ?_ | refine kpt ?_ | refine br_t (decide_eq_true (by omega)) ?_ | refine br_f (decide_eq_false (by omega)) ?_ | refine wr_i ?_ | refine opiv ⟨tab_ok⟩ (by rfl) (by rfl) (by rfl) (by rfl) (by rfl) (by rfl) ⟨by omega, by omega⟩ ?_ | refine opfv ⟨tab_ok⟩ (by rfl) (by rfl) (by rfl) (by rfl) ?_ | refine opxc (g := g) (off := 0 + k * 10 + 1) (.i .i64 l.fl) (fun w hH => rng_sub (n := 1) (Ek.rng (Hold.ob hH (A := rwO leaE la (some ⟨g, 0, none⟩) ls.length ca ls false) 0 rfl) hl) rfl) ⟨tab_ok⟩ (by rfl) (by rfl) (by simp only [Go.WideShapes.add_plain]; rfl) ?_ | refine back ⟨(k + 1, m + 1), by show k + 1 ≤ _; omega, e⟩ (wkd ?_) ?_ | refine fin_s ?_ | refine fin_r ?_ ?_ | refine fin_e ?_ ?_)
      all_goals first | (show ls.length - (k + 1) < ls.length - k; omega) | skip
      all_goals (repeat' (first | exact trivial | rfl | ((conv => whnf); refine And.intro ?_ ?_)))
    · have e : Fl.cn (ls.take (k + 1)) f = m := by rw [hct, if_neg hf, hm]; rfl
      repeat' ((conv => whnf); first | refine sgo ⟨tab_ok⟩ ?_ | refine br_not ?_ | refine br_t rfl ?_ | refine br_f rfl ?_ | refine br_t (by assumption) ?_ | refine br_f (by assumption) ?_ | refine br_t (decide_eq_true (by assumption)) ?_ | refine br_f (decide_eq_false (by assumption)) ?_ | refine br_t (beq_iff_eq.2 (by assumption)) ?_ | refine br_f (beq_eq_false_iff_ne.2 (by assumption)) ?_ | intro b | refine drA ⟨tab_ok⟩ [] ?_ | refine kpt ?_ | refine br_t (decide_eq_true (by omega)) ?_ | refine br_f (decide_eq_false (by omega)) ?_ | refine wr_i ?_ | refine opiv ⟨tab_ok⟩ (by rfl) (by rfl) (by rfl) (by rfl) (by rfl) (by rfl) ⟨by omega, by omega⟩ ?_ | refine opfv ⟨tab_ok⟩ (by rfl) (by rfl) (by rfl) (by rfl) ?_ | refine opxc (g := g) (off := 0 + k * 10 + 1) (.i .i64 l.fl) (fun w hH => rng_sub (n := 1) (Ek.rng (Hold.ob hH (A := rwO leaE la (some ⟨g, 0, none⟩) ls.length ca ls false) 0 rfl) hl) rfl) ⟨tab_ok⟩ (by rfl) (by rfl) (by simp only [Go.WideShapes.add_plain]; rfl) ?_ | refine back ⟨(k + 1, m), by show k + 1 ≤ _; omega, e⟩ (wkd ?_) ?_ | refine fin_s ?_ | refine fin_r ?_ ?_ | refine fin_e ?_ ?_)
      all_goals first | (show ls.length - (k + 1) < ls.length - k; omega) | skip
      all_goals (repeat' (first | exact trivial | rfl | ((conv => whnf); refine And.intro ?_ ?_)))
  · rw [List.take_of_length_le (by omega)] at hm
    subst hm
    repeat' ((conv => whnf); first | refine sgo ⟨tab_ok⟩ ?_ | refine br_not ?_ | refine br_t rfl ?_ | refine br_f rfl ?_ | refine br_t (by assumption) ?_ | refine br_f (by assumption) ?_ | refine br_t (decide_eq_true (by assumption)) ?_ | refine br_f (decide_eq_false (by assumption)) ?_ | refine br_t (beq_iff_eq.2 (by assumption)) ?_ | refine br_f (beq_eq_false_iff_ne.2 (by assumption)) ?_ | intro b | refine drA ⟨tab_ok⟩ [] ?_ | refine kpt ?_ | refine br_t (decide_eq_true (by omega)) ?_ | refine br_f (decide_eq_false (by omega)) ?_ | refine fin_s ?_ | refine fin_r ?_ ?_ | refine fin_e ?_ ?_)
    all_goals rfl
/-- How many leases a car has. -/
def cc (ls : List LeaseV) (x : Int) : Nat := ls.countP (fun l => l.ca == x)
theorem cc_take {ls : List LeaseV} {x : Int} {k : Nat} {l : LeaseV} (h : ls[k]? = some l) : cc (ls.take (k + 1)) x = cc (ls.take k) x + if l.ca = x then 1 else 0 := by
  obtain ⟨hk, rfl⟩ := List.getElem?_eq_some_iff.1 h
  unfold cc
  rw [List.take_succ_eq_append_getElem hk, List.countP_append, List.countP_cons, List.countP_nil]
  by_cases e : (ls[k]).ca = x
  · rw [if_pos e, if_pos (by simpa using e)]
  · rw [if_neg e, if_neg (by simpa using e)]
theorem cc_one : ∀ {ls : List LeaseV}, (ls.map key).Pairwise KR → ∀ x, cc ls x ≤ 1
  | [], _, _ => by simp [cc]
  | l :: r, h, x => by
    rw [List.map_cons, List.pairwise_cons] at h
    have ih := cc_one h.2 x
    unfold cc at ih ⊢
    rw [List.countP_cons]
    by_cases e : l.ca = x
    · have : r.countP (fun l => l.ca == x) = 0 := List.countP_eq_zero.2 fun y hy hyx => by
        have := (h.1 _ (List.mem_map.2 ⟨y, hy, rfl⟩)).2
        exact this (e.trans (by simpa using hyx : y.ca = x).symm)
      rw [this, if_pos (by simpa using e)]; omega
    · rw [if_neg (by simpa using e)]; omega
theorem cc_pos {ls : List LeaseV} {x : Int} : 0 < cc ls x ↔ ∃ l ∈ ls, l.ca = x := by
  unfold cc
  rw [List.countP_pos_iff]
  constructor
  · rintro ⟨l, h1, h2⟩; exact ⟨l, h1, by simpa using h2⟩
  · rintro ⟨l, h1, h2⟩; exact ⟨l, h1, by simpa using h2⟩
/-- A car is leased just if it has its one lease. -/
theorem cc_car {K : KV} (hU : UQ K) (hC : CI [] K) (hi : ∀ l ∈ K.L, 0 ≤ l.ca) {i : Nat} {x : CarV} (hx : K.G.cars[i]? = some x) : (cc K.L (i : Int) = 1 ∧ x.mo = 1) ∨ (cc K.L (i : Int) = 0 ∧ x.mo ≠ 1) := by
  have h1 := cc_one hU.l (i : Int)
  by_cases hm : x.mo = 1
  · have := (cc_pos (ls := K.L) (x := (i : Int))).2 (hC.b i x hx hm)
    exact .inl ⟨by omega, hm⟩
  · refine .inr ⟨?_, hm⟩
    rcases Nat.eq_zero_or_pos (cc K.L (i : Int)) with h | h
    · exact h
    · obtain ⟨l, hl, e⟩ := cc_pos.1 h
      obtain ⟨y, hy, hb⟩ := hC.a l hl
      rw [show l.ca.toNat = i by omega, hx] at hy
      have := Option.some.inj hy
      subst this
      exact absurd hb.mo hm
end Go.Proofs.YthmikjjnlahlbaaGreat.Lc
