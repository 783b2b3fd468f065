/-
  What a tick leaves of a car that may be: plain facts.
  No condition.
-/
import Derived.Test.YtdbbacpofgjgoaaCtlT
import Derived.Test.YtdbbacpofgjgoaaScaMath
namespace Go.Proofs.Ytdbbacpofgjgoaa.Ct
set_option linter.unusedVariables false
set_option linter.unusedSimpArgs false
open Go.RowKit Go.Proofs.Ytdbbacpofgjgoaa.Ba Go.Proofs.Ytdbbacpofgjgoaa.Mem Go.Proofs.Ytdbbacpofgjgoaa.Ty Go.Proofs.Ytdbbacpofgjgoaa.Do Go.Proofs.Ytdbbacpofgjgoaa.Mo Go.Proofs.Ytdbbacpofgjgoaa.St Go.Proofs.Ytdbbacpofgjgoaa.Sc Go.Proofs.Ytdbbacpofgjgoaa.Pl
theorem wrI (x : Int) (h0 : -9223372036854775808 ≤ x) (h1 : x ≤ 9223372036854775807) : IntKind.i64.wrap x = x := wr x h0 h1
/-- A car that may be. -/
def mayB (c : CfgV) (x : CarV) : Bool := goodB c x && decide ((x.mo = 0 ∨ x.mo = 1) ∧ (lvB x.un = true ∨ ¬ x.wy = 0) ∧ (¬ x.mo = 1 ∨ (0 ≤ x.ta ∧ x.ta < fl c.fl)))
theorem mayB_iff (c : CfgV) (x : CarV) : mayB c x = true ↔ (goodB c x = true ∧ (x.mo = 0 ∨ x.mo = 1) ∧ (lvB x.un = true ∨ ¬ x.wy = 0) ∧ (¬ x.mo = 1 ∨ (0 ≤ x.ta ∧ x.ta < fl c.fl))) := by unfold mayB; simp
/-- A step that is no move leaves place and way; one that is goes by a way. -/
theorem step_un (c : CfgV) (x : CarV) (r : Int) (o k : Bool) : ((stepV c x r o k).un = x.un ∧ (stepV c x r o k).wy = x.wy) ∨ (x.br = false ∧ x.ds = 0 ∧ (stepV c x r o k).ds = 0 ∧ (r = 1 ∨ r = 2) ∧ (stepV c x r o k).wy = r) := by
  show (un1 c x r o k = x.un ∧ wy1 c x r o k = x.wy) ∨ (x.br = false ∧ x.ds = 0 ∧ dS1 c x o k = 0 ∧ (r = 1 ∨ r = 2) ∧ wy1 c x r o k = r)
  unfold un1 wy1
  by_cases g : goesB c x r o k = true
  · rw [if_pos g, if_pos g]
    have g' := of_decide_eq_true (show decide _ = true from g)
    exact .inr ⟨g'.1, g'.2.1, g'.2.2.1, g'.2.2.2, rfl⟩
  · rw [if_neg g, if_neg g]
    exact .inl ⟨rfl, rfl⟩
theorem fst2_in (a b : Bool) (x y : Int) (hx : x = 1 ∨ x = 2) (hy : y = 1 ∨ y = 2) : fst2 a b x y = 0 ∨ fst2 a b x y = 1 ∨ fst2 a b x y = 2 := by
  unfold fst2; repeat' split <;> omega
theorem st_in (p u d f j : Int) : stW p u d f j = 0 ∨ stW p u d f j = 1 ∨ stW p u d f j = 2 := by
  unfold stW fst2; (repeat' split) <;> omega
theorem nx_in {p u d f way j : Int} (h : way = 0 ∨ way = 1 ∨ way = 2) : nxW p u d f way j = 0 ∨ nxW p u d f way j = 1 ∨ nxW p u d f way j = 2 := by
  unfold nxW
  split
  · exact st_in _ _ _ _ _
  · unfold onW ot
    try unfold stW
    try unfold fst2
    (repeat' split) <;> omega
theorem dw_in (n : Int) : 1 ≤ dwV n ∧ dwV n ≤ 1000 := by unfold dwV m1; (repeat' split) <;> omega
/-- What of a car a tick looks at, behind what it is told ahead of its step. -/
theorem tk_same (c : CfgV) (x : CarV) : (tkX c x).ds = x.ds ∧ (tkX c x).da = x.da ∧ (tkX c x).un = x.un ∧ (tkX c x).br = x.br ∧ (tkX c x).mo = x.mo ∧ (tkX c x).ta = x.ta ∧ (tkX c x).bl = x.bl ∧ (tkX c x).ho = x.ho := by
  unfold tkX ldX goX stX svX
  (repeat' split) <;> exact ⟨rfl, rfl, rfl, rfl, rfl, rfl, rfl, rfl⟩
theorem tk_wy (c : CfgV) (x : CarV) (h : x.wy = 0 ∨ x.wy = 1 ∨ x.wy = 2) : ((tkX c x).wy = 0 ∨ (tkX c x).wy = 1 ∨ (tkX c x).wy = 2) ∧ (lvB x.un = false → x.ds = 0 ∨ (tkX c x).wy = x.wy) ∧ (lvB x.un = false → (tkX c x).wy = x.wy) := by
  have hn := nx_in (p := x.sp) (u := x.su) (d := x.sd) (f := lvN x.un) (j := x.ju) h
  refine ⟨?_, ?_, ?_⟩
  · unfold tkX ldX goX stX svX nW
    (repeat' split) <;> first | exact h | exact hn
  · intro hl
    unfold tkX ldX goX stX svX
    rw [hl]
    simp only [if_true]
    (repeat' split) <;> first | exact .inr rfl
  · intro hl
    unfold tkX ldX goX stX svX
    rw [hl]
    simp only [if_true]
    (repeat' split) <;> rfl
theorem tk_ti (c : CfgV) (x : CarV) (n : Int) (h0 : -n ≤ x.ti) (hn : 0 ≤ n) (h1 : x.ti ≤ 2000) : -(n + 1) ≤ (tkX c x).ti ∧ (tkX c x).ti ≤ 2000 := by
  have hd := dw_in c.dw
  unfold tkX ldX goX stX svX
  (repeat' split) <;> (first | omega | (simp only []; omega) | (dsimp only; omega))
theorem tk_R (c : CfgV) (x : CarV) (hp : R x.sp) (hu : R x.su) (hd : R x.sd) : R (tkX c x).sp ∧ R (tkX c x).su ∧ R (tkX c x).sd := by
  have cU : ∀ f w, R (clU x.su f w) := fun f w => by unfold clU; split; exact an_R hu (bit_R f); exact hu
  have cD : ∀ f w, R (clD x.sd f w) := fun f w => by unfold clD; split; exact an_R hd (bit_R f); exact hd
  unfold tkX ldX goX stX svX
  (repeat' split) <;> first | exact ⟨hp, hu, hd⟩ | exact ⟨an_R hp (bit_R _), cU _ _, cD _ _⟩
/-- A car that may be still may be, a tick later. -/
theorem tk_may (c : CfgV) (x : CarV) (h : mayB c x = true) : mayB c (tkV c x) = true := by
  rw [mayB_iff] at h
  obtain ⟨hg, hm, hl, ht⟩ := h
  obtain ⟨e1, e2, e3, e4, e5, e6, e7, e8⟩ := tk_same c x
  have hg0 := (goodB_iff c x).1 hg
  have hw := tk_wy c x hg0.2.2.2.1
  have hgX : goodB c (tkX c x) = true := by
    rw [goodB_iff, e1, e2, e3]
    exact ⟨hg0.1, hg0.2.1, hg0.2.2.1, hw.1, hg0.2.2.2.2⟩
  have hgs := good_step c (tkX c x) (tkR x) (tkO x) (tkK c x) hgX
  rw [mayB_iff]
  refine ⟨hgs, ?_, ?_, ?_⟩
  · show (tkX c x).mo = 0 ∨ (tkX c x).mo = 1
    rw [e5]; exact hm
  · rcases step_un c (tkX c x) (tkR x) (tkO x) (tkK c x) with ⟨h1, h2⟩ | ⟨_, _, _, h4, h5⟩
    · cases hq : lvB x.un with
      | true => left; show lvB (stepV c _ _ _ _).un = true; rw [h1, e3]; exact hq
      | false =>
        right
        show ¬ (stepV c _ _ _ _).wy = 0
        rw [h2, hw.2.2 hq]
        rcases hl with h | h
        · rw [hq] at h; exact absurd h (by decide)
        · exact h
    · right; show ¬ (stepV c _ _ _ _).wy = 0; rw [h5]; omega
  · show ¬ (tkX c x).mo = 1 ∨ (0 ≤ (tkX c x).ta ∧ (tkX c x).ta < fl c.fl)
    rw [e5, e6]; exact ht
/-- It moves only with its door closed. -/
theorem tk_shut (c : CfgV) (x : CarV) (h : ¬ (tkV c x).un = x.un) : x.ds = 0 ∧ (tkV c x).ds = 0 := by
  obtain ⟨e1, e2, e3, e4, e5, e6, e7, e8⟩ := tk_same c x
  rcases step_un c (tkX c x) (tkR x) (tkO x) (tkK c x) with ⟨h1, h2⟩ | ⟨_, h2, h3, _, _⟩
  · exact absurd (h1.trans e3) h
  · exact ⟨e1 ▸ h2, h3⟩
theorem may_ta {c : CfgV} {x : CarV} (h : mayB c x = true) (hm : x.mo = 1) : -1099511627776 ≤ x.ta ∧ x.ta ≤ 1099511627776 := by
  have h1 := ((mayB_iff c x).1 h).2.2.2
  have := fl_hi c.fl
  omega
theorem may_bd {c : CfgV} {x : CarV} (h : mayB c x = true) : bdX x ∧ 0 ≤ x.un ∧ x.un ≤ 252 := by
  have hb := good_bd c x ((mayB_iff c x).1 h).1
  exact ⟨⟨⟨hb.1, hb.2.1⟩, by omega, by omega⟩, hb.2.2.1, hb.2.2.2⟩
end Go.Proofs.Ytdbbacpofgjgoaa.Ct
