/-
  How long a people's car takes still that nothing is wrong with, and to which nothing more comes.
  No condition.
-/
import Derived.Test.YtdbbacpofgjgoaaCtlMath
import Derived.Test.YtdbbacpofgjgoaaScaSwp
namespace Go.Proofs.Ytdbbacpofgjgoaa.Ct
set_option linter.unusedVariables false
set_option linter.unusedSimpArgs false
open Go.Proofs.Ytdbbacpofgjgoaa.Ty Go.Proofs.Ytdbbacpofgjgoaa.Do Go.Proofs.Ytdbbacpofgjgoaa.Mo Go.Proofs.Ytdbbacpofgjgoaa.St Go.Proofs.Ytdbbacpofgjgoaa.Sc Go.Proofs.Ytdbbacpofgjgoaa.Pl
open Go.Proofs.Ytdbbacpofgjgoaa.Ce (ov)
def mm (c : CfgV) : Int := fl c.fl - 1
def kk (c : CfgV) : Int := 2 * Do.hd c.dr + dwV c.dw - 1
def bb (x : CarV) : Int := (bc x.sp + bc x.su + bc x.sd : Nat)
def opN' (a D : Int) : Int := if a < D then D - a else 1
def clN' (a : Int) : Int := if 1 < a then a else 1
/-- How many ticks the door takes still. -/
def rr (c : CfgV) (x : CarV) : Int := if x.ds = 1 then opN' x.da (Do.hd c.dr) + m1 x.ti + Do.hd c.dr - 1 else if x.ds = 2 then m1 x.ti + Do.hd c.dr - 1 else clN' x.da
def Bas (c : CfgV) (x : CarV) : Prop := mayB c x = true ∧ x.mo = 0 ∧ x.br = false ∧ x.bl = false ∧ x.lo = 0 ∧ (-1 ≤ x.ti ∧ x.ti ≤ 1000) ∧ (x.ds = 1 ∨ x.ds = 2 → 0 ≤ x.ti) ∧ (R x.sp ∧ R x.su ∧ R x.sd)
def Idl (x : CarV) : Prop := x.ds = 0 ∧ lvB x.un = true ∧ x.wy = 0 ∧ x.sp = 0 ∧ x.su = 0 ∧ x.sd = 0
def SerA (c : CfgV) (x : CarV) (T n : Int) : Prop := x.ds = 0 ∧ lvB x.un = true ∧ GL (mm c) x.sp x.su x.sd (lvN x.un) x.wy x.ju n ∧ 4 * n + kk c * bb x + 1 ≤ T
def SerM (c : CfgV) (x : CarV) (T n : Int) : Prop := x.ds = 0 ∧ lvB x.un = false ∧ ∃ f, GL (mm c) x.sp x.su x.sd f x.wy x.ju n ∧
  ((x.wy = 1 ∧ 4 * f - 4 < x.un ∧ x.un < 4 * f ∧ (4 * f - x.un) + 4 * n + kk c * bb x + 1 ≤ T) ∨ (x.wy = 2 ∧ 4 * f < x.un ∧ x.un < 4 * f + 4 ∧ (x.un - 4 * f) + 4 * n + kk c * bb x + 1 ≤ T))
def SerO (c : CfgV) (x : CarV) (T n : Int) : Prop := ¬ x.ds = 0 ∧ lvB x.un = true ∧ GL (mm c) x.sp x.su x.sd (lvN x.un) x.wy x.ju n ∧ rr c x + 4 * n + kk c * bb x + 1 ≤ T
/-- It is idle within T ticks. -/
def Ser (c : CfgV) (x : CarV) (T : Int) : Prop := Bas c x ∧ (Idl x ∨ ∃ n, SerA c x T n ∨ SerM c x T n ∨ SerO c x T n)
theorem lv4 {u : Int} (h : lvB u = true) : u = 4 * lvN u := by
  have h' := (lvB_iff u).1 h
  unfold lvN
  rw [if_pos h]
  omega
theorem kk_lo (c : CfgV) : 2 ≤ kk c := by have := hd_lo c.dr; have := dw_in c.dw; unfold kk; omega
theorem bb_lo (x : CarV) : 0 ≤ bb x := by unfold bb; omega
theorem kb_lo (c : CfgV) (x : CarV) : 0 ≤ kk c * bb x := Int.mul_nonneg (by have := kk_lo c; omega) (bb_lo x)
theorem kb_less {c : CfgV} {a b : Int} (h : a + 1 ≤ b) : kk c * a + kk c ≤ kk c * b := by
  have := Int.mul_le_mul_of_nonneg_left h (show 0 ≤ kk c by have := kk_lo c; omega)
  rw [Int.mul_add, Int.mul_one] at this
  exact this
theorem tk_free {c : CfgV} {x : CarV} (h1 : x.br = false) (h2 : x.mo = 0) : tkV c x = if x.ds = 0 then stepV c (goX c x) (goR x) (goO x) false else if x.ds = 2 then stepV c (stX c x) 0 false (stK c x) else stepV c x 0 false false := by
  have hm : ¬ x.mo = 1 := by omega
  unfold tkV tkX tkR tkO tkK
  simp only [h1, hm, Bool.false_eq_true, if_false]
  by_cases h : x.ds = 0
  · simp [h]
  · simp only [h, if_false]
    by_cases h' : x.ds = 2
    · simp [h']
    · simp [h']
theorem st0 (c : CfgV) (x : CarV) (o k : Bool) : (stepV c x 0 o k).un = x.un ∧ (stepV c x 0 o k).wy = x.wy := by
  rcases step_un c x 0 o k with h | ⟨_, _, _, h | h, _⟩
  · exact h
  · omega
  · omega
theorem step_rest (c : CfgV) (x : CarV) (r : Int) (o k : Bool) : (stepV c x r o k).ti = x.ti ∧ (stepV c x r o k).ju = x.ju ∧ (stepV c x r o k).sp = x.sp ∧ (stepV c x r o k).su = x.su ∧ (stepV c x r o k).sd = x.sd ∧ (stepV c x r o k).mo = x.mo ∧ (stepV c x r o k).br = x.br ∧ (stepV c x r o k).bl = x.bl ∧ (stepV c x r o k).lo = x.lo := ⟨rfl, rfl, rfl, rfl, rfl, rfl, rfl, rfl, rfl⟩
/-- It stays good. -/
theorem bas_next {c : CfgV} {x : CarV} (h : Bas c x) (ht : (-1 ≤ (tkV c x).ti ∧ (tkV c x).ti ≤ 1000)) (hd : (tkV c x).ds = 1 ∨ (tkV c x).ds = 2 → 0 ≤ (tkV c x).ti) : Bas c (tkV c x) := by
  obtain ⟨h1, h2, h3, h4, h5, h6, h7, h8, h9, h10⟩ := h
  obtain ⟨e1, e2, e3, e4, e5, e6, e7, e8⟩ := tk_same c x
  have e9 : (tkX c x).lo = x.lo := by unfold tkX ldX goX stX svX; (repeat' split) <;> rfl
  exact ⟨tk_may c x h1, e5.trans h2, e4.trans h3, e7.trans h4, e9.trans h5, ht, hd, tk_R c x h8 h9 h10⟩
/-- A move by one, its door closed. -/
theorem step_move {c : CfgV} {x : CarV} {r : Int} (h1 : x.br = false) (h2 : x.ds = 0) (hr : r = 1 ∨ r = 2) : (stepV c x r false false).ds = 0 ∧ (stepV c x r false false).wy = r ∧ (stepV c x r false false).un = mv x.un r c.fl := by
  have hds : dS1 c x false false = 0 := by unfold dS1 dS0 toldS; simp [h1, h2, tS]
  have hgo : goesB c x r false false = true := by
    unfold goesB
    rw [hds]
    simp only [h1, h2, decide_eq_true_eq]
    exact ⟨trivial, trivial, trivial, hr⟩
  refine ⟨hds, ?_, ?_⟩
  · show wy1 c x r false false = r
    unfold wy1; rw [hgo]; rfl
  · show un1 c x r false false = _
    unfold un1; rw [hgo]; rfl
theorem tS_gd {c : CfgV} {x : CarV} (h : mayB c x = true) : (gd x.ds x.da c.dr = true) ∧ 0 ≤ x.un ∧ x.un ≤ 4 * (fl c.fl - 1) ∧ (x.ds = 0 ∨ lvB x.un = true) := by
  obtain ⟨g1, g2, g3, g4, g5⟩ := (goodB_iff c x).1 ((mayB_iff c x).1 h).1
  exact ⟨g1, g2, g3, g5⟩
theorem ser_A {c : CfgV} {x : CarV} {T n : Int} (hb : Bas c x) (h : SerA c x T n) : Ser c (tkV c x) (T - 1) := by
  obtain ⟨d0, hl, hG, hT⟩ := h
  have hb' := hb
  obtain ⟨h1, h2, h3, h4, h5, h6, h7, hR⟩ := hb
  obtain ⟨g1, u0, u1, _⟩ := tS_gd h1
  obtain ⟨⟨f0, f1, m1'⟩, n0, hw, -⟩ := gl_facts hG
  have hf64 : 0 ≤ lvN x.un ∧ lvN x.un < 64 := ⟨f0, by omega⟩
  have hv := tk_free (c := c) h3 h2
  rw [if_pos d0] at hv
  have hu4 := lv4 hl
  have hD := hd_lo c.dr
  have hW := dw_in c.dw
  have da0 : x.da = 0 := by have := (gd_iff _ _ _).1 g1; omega
  have hk := kb_lo c x
  cases ho : nO x with
  | true =>
    have eX : goX c x = svX c { x with wy := nW x } (lvN x.un) := by simp [goX, hl, ho]
    have eR : goR x = 0 := by simp [goR, hl, ho]
    have eO : goO x = true := by simp [goO, hl, ho]
    obtain ⟨n', hn', hS, hH⟩ := gl_open hG ho
    obtain ⟨X, hX⟩ : ∃ X, X = svX c { x with wy := nW x } (lvN x.un) := ⟨_, rfl⟩
    rw [eX, eR, eO, ← hX] at hv
    have s0 := st0 c X true false
    have sr := step_rest c X 0 true false
    have hds : (tkV c x).ds = (if Do.hd c.dr ≤ 1 then 2 else 1) ∧ (tkV c x).da = (if Do.hd c.dr ≤ 1 then Do.hd c.dr else 1) := by
      rw [hv]
      have e0 : dS0 X true false = 1 := by
        unfold dS0 toldS
        rw [show X.br = false by rw [hX]; exact h3, show lvB X.un = true by rw [hX]; exact hl, show X.ds = 0 by rw [hX]; exact d0]
        simp [oS]
      refine ⟨?_, ?_⟩
      · show tS (dS0 X true false) X.da c.dr X.bl = _
        rw [e0, show X.da = 0 by rw [hX]; exact da0]
        unfold tS
        simp
      · show tA (dS0 X true false) X.da c.dr X.bl = _
        rw [e0, show X.da = 0 by rw [hX]; exact da0]
        unfold tA
        simp
    have eu : (tkV c x).un = x.un := by rw [hv, s0.1, hX]; rfl
    have ew : (tkV c x).wy = nW x := by rw [hv, s0.2, hX]; rfl
    have et : (tkV c x).ti = dwV c.dw := by rw [hv, sr.1, hX]; rfl
    have ej : (tkV c x).ju = lvN x.un := by rw [hv, sr.2.1, hX]; rfl
    have ep : (tkV c x).sp = clP x.sp (lvN x.un) := by rw [hv, sr.2.2.1, hX]; rfl
    have es : (tkV c x).su = clU x.su (lvN x.un) (nW x) := by rw [hv, sr.2.2.2.1, hX]; rfl
    have ed : (tkV c x).sd = clD x.sd (lvN x.un) (nW x) := by rw [hv, sr.2.2.2.2.1, hX]; rfl
    refine ⟨bas_next hb' (by rw [et]; omega) (fun _ => by rw [et]; omega), .inr ⟨n', .inr (.inr ⟨by rw [hds.1]; split <;> omega, by rw [eu]; exact hl, .inl (by rw [ep, es, ed, eu, ew, ej]; exact hS), ?_⟩)⟩⟩
    have hb2 : bb (tkV c x) + 1 ≤ bb x := by
      have := bc_open hR.1 hR.2.1 hR.2.2 hf64 hH
      unfold bb
      rw [ep, es, ed]
      have e : nxW x.sp x.su x.sd (lvN x.un) x.wy x.ju = nW x := rfl
      rw [e] at this
      omega
    have hkb := kb_less (c := c) hb2
    have hrr : rr c (tkV c x) = kk c - 1 := by
      unfold rr kk opN' m1
      rw [hds.1, hds.2, et]
      split <;> (repeat' split) <;> omega
    rw [hrr]
    omega
  | false =>
    have eO : goO x = false := by simp [goO, ho]
    by_cases hz : nW x = 0
    · have hzero := sw_none hR.1 hR.2.1 hR.2.2 hf64 hw ho hz
      have eX : goX c x = { x with wy := nW x } := by simp [goX, hl, ho, hz]
      have eR : goR x = 0 := by simp [goR, hl, ho, hz]
      rw [eX, eR, eO] at hv
      have s0 := st0 c { x with wy := nW x } false false
      have hds : (tkV c x).ds = 0 := by
        rw [hv]
        show tS (dS0 { x with wy := nW x } false false) x.da c.dr x.bl = 0
        unfold dS0 toldS
        simp [h3, d0, tS]
      have et : (tkV c x).ti = x.ti := by rw [hv]; rfl
      exact ⟨bas_next hb' (by rw [et]; exact h6) (fun h => by omega), .inl ⟨hds, by rw [hv, s0.1]; exact hl, by rw [hv, s0.2]; exact hz, by rw [hv]; exact hzero.1, by rw [hv]; exact hzero.2.1, by rw [hv]; exact hzero.2.2⟩⟩
    · have eX : goX c x = { x with ju := -1 } := by simp [goX, hl, ho, hz]
      have eR : goR x = nW x := by simp [goR, hl, ho]
      obtain ⟨hS, h12⟩ := gl_move hG ho hz
      have h12' : nW x = 1 ∨ nW x = 2 := h12
      have eW : nxW x.sp x.su x.sd (lvN x.un) x.wy x.ju = nW x := rfl
      rw [eW] at hS
      rw [eX, eR, eO] at hv
      have sm := step_move (c := c) (x := { x with ju := -1 }) (r := nW x) h3 d0 h12'
      have et : (tkV c x).ti = x.ti := by rw [hv]; rfl
      have hf' := hS.1
      have ebb : bb (tkV c x) = bb x := by rw [hv]; rfl
      have hun : (tkV c x).un = (if nW x = 1 then x.un + 1 else x.un - 1) := by
        rw [hv, sm.2.2]
        show mv x.un (nW x) c.fl = _
        unfold mm at hf'
        unfold mv
        rcases h12' with e | e
        · rw [e] at hf' ⊢; simp at hf' ⊢; intro hq; omega
        · rw [e] at hf' ⊢; simp at hf' ⊢; intro hq; omega
      have hlv : lvB (tkV c x).un = false := by
        rw [Bool.eq_false_iff]
        intro hq
        have := (lvB_iff _).1 hq
        rw [hun] at this
        split at this <;> omega
      refine ⟨bas_next hb' (by rw [et]; exact h6) (fun h => by rw [hv, sm.1] at h; omega), .inr ⟨n - 1, .inr (.inl ⟨by rw [hv]; exact sm.1, hlv, (if nW x = 1 then lvN x.un + 1 else lvN x.un - 1), .inl ?_, ?_⟩)⟩⟩
      · have e1 : (tkV c x).wy = nW x := by rw [hv]; exact sm.2.1
        have e2 : (tkV c x).ju = -1 := by rw [hv]; rfl
        rw [e1, e2, hv]
        exact hS
      · rw [ebb, hun, show (tkV c x).wy = nW x by rw [hv]; exact sm.2.1]
        rcases h12' with e | e
        · left; rw [e]; simp; omega
        · right; rw [e]; simp; omega
theorem ser_M {c : CfgV} {x : CarV} {T n : Int} (hb : Bas c x) (h : SerM c x T n) : Ser c (tkV c x) (T - 1) := by
  obtain ⟨d0, hl, f, hG, hT⟩ := h
  have hb' := hb
  obtain ⟨h1, h2, h3, h4, h5, h6, h7, hR⟩ := hb
  obtain ⟨⟨f0, f1, m1'⟩, n0, hw, -⟩ := gl_facts hG
  have hv := tk_free (c := c) h3 h2
  rw [if_pos d0] at hv
  have eX : goX c x = x := by simp [goX, hl]
  have eR : goR x = x.wy := by simp [goR, hl]
  have eO : goO x = false := by simp [goO, hl]
  rw [eX, eR, eO] at hv
  have h12 : x.wy = 1 ∨ x.wy = 2 := by
    rcases hT with ⟨e, _⟩ | ⟨e, _⟩
    · exact .inl e
    · exact .inr e
  have sm := step_move (c := c) h3 d0 h12
  have et : (tkV c x).ti = x.ti := by rw [hv]; rfl
  have ebb : bb (tkV c x) = bb x := by rw [hv]; rfl
  have ew : (tkV c x).wy = x.wy := by rw [hv]; exact sm.2.1
  have ej : (tkV c x).ju = x.ju := by rw [hv]; rfl
  have eds : (tkV c x).ds = 0 := by rw [hv]; exact sm.1
  have hun : (tkV c x).un = (if x.wy = 1 then x.un + 1 else x.un - 1) := by
    rw [hv, sm.2.2]
    unfold mm at f1
    unfold mv
    rcases hT with ⟨e, a1, a2, _⟩ | ⟨e, a1, a2, _⟩
    · rw [e]; simp; intro hq; omega
    · rw [e]; simp; intro hq; omega
  have hbn := bas_next hb' (by rw [et]; exact h6) (fun h => by rw [eds] at h; omega)
  refine ⟨hbn, .inr ⟨n, ?_⟩⟩
  by_cases harr : (tkV c x).un = 4 * f
  · left
    have hfl := far_lv f f0 (by omega)
    refine ⟨eds, by rw [harr]; exact hfl.1, ?_, ?_⟩
    · rw [harr, hfl.2, ew, ej, hv]; exact hG
    · rw [ebb]
      rcases hT with ⟨e, a1, a2, a3⟩ | ⟨e, a1, a2, a3⟩ <;> omega
  · right; left
    have hlv : lvB (tkV c x).un = false := by
      rw [Bool.eq_false_iff]
      intro hq
      have := (lvB_iff _).1 hq
      rw [hun] at this harr
      rcases hT with ⟨e, a1, a2, a3⟩ | ⟨e, a1, a2, a3⟩ <;> rw [e] at this harr <;> simp at this harr <;> omega
    refine ⟨eds, hlv, f, by rw [ew, ej, hv]; exact hG, ?_⟩
    rw [ebb, ew, hun] 
    rw [hun] at harr
    rcases hT with ⟨e, a1, a2, a3⟩ | ⟨e, a1, a2, a3⟩
    · left; rw [e] at harr ⊢; simp at harr ⊢; omega
    · right; rw [e] at harr ⊢; simp at harr ⊢; omega
theorem ser_O {c : CfgV} {x : CarV} {T n : Int} (hb : Bas c x) (h : SerO c x T n) : Ser c (tkV c x) (T - 1) := by
  obtain ⟨d0, hl, hG, hT⟩ := h
  have hb' := hb
  obtain ⟨h1, h2, h3, h4, h5, h6, h7, hR⟩ := hb
  obtain ⟨g1, u0, u1, _⟩ := tS_gd h1
  have hg := (gd_iff _ _ _).1 g1
  have hv := tk_free (c := c) h3 h2
  rw [if_neg d0] at hv
  have hD := hd_lo c.dr
  have hst : stB c x = false := by
    unfold stB ov Ce.ms
    rw [h4, h5]
    simp
    split <;> (try split) <;> omega
  obtain ⟨k, hk⟩ : ∃ k, k = (if x.ds = 2 then stK c x else false) := ⟨_, rfl⟩
  obtain ⟨X, hX⟩ : ∃ X, X = (if x.ds = 2 then { x with ti := x.ti - 1 } else x) := ⟨_, rfl⟩
  have hvX : tkV c x = stepV c X 0 false k := by
    rw [hv, hX, hk]
    by_cases e : x.ds = 2
    · rw [if_pos e, if_pos e, if_pos e]
      unfold stX
      rw [hst]
      rfl
    · rw [if_neg e, if_neg e, if_neg e]
  have x1 : X.un = x.un ∧ X.wy = x.wy ∧ X.ju = x.ju ∧ X.sp = x.sp ∧ X.su = x.su ∧ X.sd = x.sd ∧ X.ds = x.ds ∧ X.da = x.da ∧ X.bl = x.bl ∧ X.br = x.br := by
    rw [hX]; split <;> exact ⟨rfl, rfl, rfl, rfl, rfl, rfl, rfl, rfl, rfl, rfl⟩
  have xt : X.ti = if x.ds = 2 then x.ti - 1 else x.ti := by rw [hX]; split <;> rfl
  obtain ⟨a1, a2, a3, a4, a5, a6, a7, a8, a9, a10⟩ := x1
  have s0 := st0 c X false k
  have sr := step_rest c X 0 false k
  have e0 : dS0 X false k = if k = true then cS x.ds else x.ds := by
    unfold dS0 toldS
    rw [a10, h3, a7]
    simp
  have hkv : k = decide (x.ds = 2 ∧ x.ti - 1 ≤ 0) := by
    rw [hk]
    unfold stK
    rw [hst]
    by_cases e : x.ds = 2
    · simp [e]
    · simp [e]
  have eds : (tkV c x).ds = tS (if k = true then cS x.ds else x.ds) x.da c.dr false := by
    rw [hvX]
    show tS (dS0 X false k) X.da c.dr X.bl = _
    rw [e0, a8, a9, h4]
  have eda : (tkV c x).da = tA (if k = true then cS x.ds else x.ds) x.da c.dr false := by
    rw [hvX]
    show tA (dS0 X false k) X.da c.dr X.bl = _
    rw [e0, a8, a9, h4]
  have et : (tkV c x).ti = if x.ds = 2 then x.ti - 1 else x.ti := by rw [hvX, sr.1, xt]
  have eu : (tkV c x).un = x.un := by rw [hvX, s0.1, a1]
  have ew : (tkV c x).wy = x.wy := by rw [hvX, s0.2, a2]
  have ej : (tkV c x).ju = x.ju := by rw [hvX, sr.2.1, a3]
  have ep : (tkV c x).sp = x.sp := by rw [hvX, sr.2.2.1, a4]
  have es : (tkV c x).su = x.su := by rw [hvX, sr.2.2.2.1, a5]
  have ed : (tkV c x).sd = x.sd := by rw [hvX, sr.2.2.2.2.1, a6]
  have ebb : bb (tkV c x) = bb x := by unfold bb; rw [ep, es, ed]
  have hGL : GL (mm c) (tkV c x).sp (tkV c x).su (tkV c x).sd (lvN (tkV c x).un) (tkV c x).wy (tkV c x).ju n := by rw [ep, es, ed, eu, ew, ej]; exact hG
  have hlv : lvB (tkV c x).un = true := by rw [eu]; exact hl
  clear hv hvX hX xt s0 sr e0 hk
  have key : (-1 ≤ (tkV c x).ti ∧ (tkV c x).ti ≤ 1000) ∧ ((tkV c x).ds = 1 ∨ (tkV c x).ds = 2 → 0 ≤ (tkV c x).ti) ∧ (((tkV c x).ds = 0 ∧ 1 ≤ rr c x) ∨ (¬ (tkV c x).ds = 0 ∧ rr c (tkV c x) + 1 ≤ rr c x)) := by
    rcases hg with ⟨q1, _⟩ | ⟨q1, q2⟩ | ⟨q1 | q1, q2, q3⟩
    · exact absurd q1 d0
    · have t0 := h7 (.inr q1)
      rw [et, if_pos q1]
      by_cases hk1 : x.ti - 1 ≤ 0
      · have hkt : k = true := by rw [hkv]; simp [q1]; omega
        rw [hkt, if_pos rfl, q1, show cS 2 = 3 by decide] at eds eda
        have eds' : (tkV c x).ds = if x.da ≤ 1 then 0 else 3 := by rw [eds]; unfold tS; simp
        have eda' : (tkV c x).da = if x.da ≤ 1 then 0 else x.da - 1 := by rw [eda]; unfold tA; simp
        refine ⟨by omega, fun hh => ?_, ?_⟩
        · rw [eds'] at hh; split at hh <;> omega
        · by_cases hd1 : x.da ≤ 1
          · left; rw [eds', if_pos hd1]; refine ⟨rfl, ?_⟩; unfold rr m1; rw [q1]; simp; split <;> omega
          · right; rw [eds', if_neg hd1]; refine ⟨by decide, ?_⟩; unfold rr clN' m1; rw [eds', eda', if_neg hd1, if_neg hd1, q1]; simp; (repeat' split) <;> omega
      · have hkt : k = false := by rw [hkv]; simp; intro _; omega
        rw [hkt, if_neg (by decide), q1] at eds eda
        have eds' : (tkV c x).ds = 2 := by rw [eds]; unfold tS; simp
        refine ⟨by omega, fun _ => by omega, .inr ⟨by omega, ?_⟩⟩
        unfold rr m1
        rw [eds', et, if_pos q1, q1]
        simp
        (repeat' split) <;> omega
    · have hkt : k = false := by rw [hkv]; simp [q1]
      rw [hkt, if_neg (by decide), q1] at eds eda
      have t0 := h7 (.inl q1)
      have et' : (tkV c x).ti = x.ti := by rw [et, if_neg (by omega)]
      have eds' : (tkV c x).ds = if Do.hd c.dr ≤ x.da + 1 then 2 else 1 := by rw [eds]; unfold tS; simp
      have eda' : (tkV c x).da = if Do.hd c.dr ≤ x.da + 1 then Do.hd c.dr else x.da + 1 := by rw [eda]; unfold tA; simp
      rw [et']
      refine ⟨h6, fun _ => t0, .inr ⟨by rw [eds']; split <;> decide, ?_⟩⟩
      unfold rr opN' m1
      rw [eds', eda', et', q1]
      by_cases hd1 : Do.hd c.dr ≤ x.da + 1
      · rw [if_pos hd1, if_pos hd1]; simp; (repeat' split) <;> omega
      · rw [if_neg hd1, if_neg hd1]; simp; (repeat' split) <;> omega
    · have hkt : k = false := by rw [hkv]; simp [q1]
      rw [hkt, if_neg (by decide), q1] at eds eda
      have et' : (tkV c x).ti = x.ti := by rw [et, if_neg (by omega)]
      have eds' : (tkV c x).ds = if x.da ≤ 1 then 0 else 3 := by rw [eds]; unfold tS; simp
      have eda' : (tkV c x).da = if x.da ≤ 1 then 0 else x.da - 1 := by rw [eda]; unfold tA; simp
      rw [et']
      refine ⟨h6, fun hh => ?_, ?_⟩
      · rw [eds'] at hh; split at hh <;> omega
      · by_cases hd1 : x.da ≤ 1
        · left; rw [eds', if_pos hd1]; refine ⟨rfl, ?_⟩; unfold rr clN'; rw [q1]; simp; split <;> omega
        · right; rw [eds', if_neg hd1]; refine ⟨by decide, ?_⟩; unfold rr clN'; rw [eds', eda', if_neg hd1, if_neg hd1, q1]; simp; (repeat' split) <;> omega
  refine ⟨bas_next hb' key.1 key.2.1, .inr ⟨n, ?_⟩⟩
  rcases key.2.2 with ⟨z1, z2⟩ | ⟨z1, z2⟩
  · exact .inl ⟨z1, hlv, hGL, by rw [ebb]; omega⟩
  · exact .inr (.inr ⟨z1, hlv, hGL, by rw [ebb]; omega⟩)
theorem ser_I {c : CfgV} {x : CarV} {T : Int} (hb : Bas c x) (h : Idl x) : Ser c (tkV c x) T := by
  obtain ⟨d0, hl, w0, p0, u0, s0'⟩ := h
  have hb' := hb
  obtain ⟨h1, h2, h3, h4, h5, h6, h7, hR⟩ := hb
  have hv := tk_free (c := c) h3 h2
  rw [if_pos d0] at hv
  have hn := nx_none (lvN x.un) x.wy x.ju
  have ho : nO x = false := by unfold nO; rw [p0, u0, s0']; exact hn.2
  have hz : nW x = 0 := by unfold nW; rw [p0, u0, s0']; exact hn.1
  have eX : goX c x = { x with wy := nW x } := by simp [goX, hl, ho, hz]
  have eR : goR x = 0 := by simp [goR, hl, ho, hz]
  have eO : goO x = false := by simp [goO, ho]
  rw [eX, eR, eO] at hv
  have s0 := st0 c { x with wy := nW x } false false
  have hds : (tkV c x).ds = 0 := by
    rw [hv]
    show tS (dS0 { x with wy := nW x } false false) x.da c.dr x.bl = 0
    unfold dS0 toldS
    simp [h3, d0, tS]
  have et : (tkV c x).ti = x.ti := by rw [hv]; rfl
  exact ⟨bas_next hb' (by rw [et]; exact h6) (fun h => by omega), .inl ⟨hds, by rw [hv, s0.1]; exact hl, by rw [hv, s0.2]; exact hz, by rw [hv]; exact p0, by rw [hv]; exact u0, by rw [hv]; exact s0'⟩⟩
theorem ser_next {c : CfgV} {x : CarV} {T : Int} (h : Ser c x T) : Ser c (tkV c x) (T - 1) := by
  obtain ⟨hb, h | ⟨n, h | h | h⟩⟩ := h
  · exact ser_I hb h
  · exact ser_A hb h
  · exact ser_M hb h
  · exact ser_O hb h
theorem rr_lo {c : CfgV} {x : CarV} (h : Bas c x) (hd : ¬ x.ds = 0) : 1 ≤ rr c x := by
  have hg := (gd_iff _ _ _).1 (tS_gd h.1).1
  have := hd_lo c.dr
  unfold rr opN' clN' m1
  (repeat' split) <;> omega
theorem ser_end {c : CfgV} {x : CarV} {T : Int} (h : Ser c x T) (hT : T ≤ 0) : Idl x := by
  obtain ⟨hb, h | ⟨n, ⟨_, _, hG, h⟩ | ⟨_, _, f, hG, h⟩ | ⟨hd, _, hG, h⟩⟩⟩ := h
  · exact h
  · have := (gl_facts hG).2.1; have := kb_lo c x; omega
  · have := (gl_facts hG).2.1; have := kb_lo c x; rcases h with ⟨_, a1, a2, a3⟩ | ⟨_, a1, a2, a3⟩ <;> omega
  · have := (gl_facts hG).2.1; have := kb_lo c x; have := rr_lo hb hd; omega
/-- How many ticks the law gives. -/
def budg (c : CfgV) : Int := 5 * (4 * (fl c.fl - 1) + fl c.fl * (2 * m1 c.dr + m1 c.dw + 4))
theorem ser_first {c : CfgV} {x : CarV} (h : mayB c x = true) (h2 : x.mo = 0) (h3 : x.br = false) (h4 : x.bl = false) (h5 : x.lo = 0) (t0 : 0 ≤ x.ti) (t1 : x.ti ≤ 8) (hR : R x.sp ∧ R x.su ∧ R x.sd) (hF : fl c.fl ≤ 12) (hdr : c.dr ≤ 5) (hdw : c.dw ≤ 8)
    (hm : ∀ g : Nat, g < 64 → (tb x.sp g = true ∨ tb x.su g = true ∨ tb x.sd g = true) → (g : Int) < fl c.fl) : Ser c x (budg c) := by
  have hb : Bas c x := ⟨h, h2, h3, h4, h5, by omega, fun _ => t0, hR⟩
  obtain ⟨g1, u0, u1, hl⟩ := tS_gd h
  have hg := (gd_iff _ _ _).1 g1
  have hw := ((goodB_iff c x).1 ((mayB_iff c x).1 h).1).2.2.2.1
  have hlw := ((mayB_iff c x).1 h).2.2.1
  have hF2 := fl_lo c.fl
  have hD : Do.hd c.dr = m1 c.dr ∧ 1 ≤ m1 c.dr ∧ m1 c.dr ≤ 5 := by unfold Do.hd m1; (repeat' split) <;> omega
  have hW : dwV c.dw = m1 c.dw ∧ 1 ≤ m1 c.dw ∧ m1 c.dw ≤ 8 := by unfold dwV m1; (repeat' split) <;> omega
  have hgl : ∀ f, 0 ≤ f → f ≤ mm c → GL (mm c) x.sp x.su x.sd f x.wy x.ju (4 * mm c + 2) := fun f f0 f1 => .inr ⟨rfl, ⟨f0, f1, by unfold mm; omega⟩, hw, hR, fun g hg' k => by have := hm g hg' k; unfold mm; omega⟩
  have hbb : bb x ≤ 3 * fl c.fl := by
    have q1 := bc_few (M := (fl c.fl).toNat) (by omega) (fun g hg' k => by have := hm g hg' (.inl k); omega) hR.1
    have q2 := bc_few (M := (fl c.fl).toNat) (by omega) (fun g hg' k => by have := hm g hg' (.inr (.inl k)); omega) hR.2.1
    have q3 := bc_few (M := (fl c.fl).toNat) (by omega) (fun g hg' k => by have := hm g hg' (.inr (.inr k)); omega) hR.2.2
    unfold bb
    omega
  have hkb : kk c * bb x ≤ kk c * (3 * fl c.fl) := Int.mul_le_mul_of_nonneg_left hbb (by have := kk_lo c; omega)
  have hsum : kk c * (3 * fl c.fl) + 4 * (4 * mm c + 2) + 1 + 30 ≤ budg c + 3 := by
    unfold budg kk mm
    rw [hD.1, hW.1]
    generalize fl c.fl = F at *
    generalize m1 c.dr = D at *
    generalize m1 c.dw = W at *
    have hcase : F = 2 ∨ F = 3 ∨ F = 4 ∨ F = 5 ∨ F = 6 ∨ F = 7 ∨ F = 8 ∨ F = 9 ∨ F = 10 ∨ F = 11 ∨ F = 12 := by omega
    rcases hcase with rfl | rfl | rfl | rfl | rfl | rfl | rfl | rfl | rfl | rfl | rfl <;> omega
  have hrr : ¬ x.ds = 0 → rr c x ≤ 25 := fun hd => by
    unfold rr opN' clN' m1
    rw [hD.1]
    have := hD.2
    (repeat' split) <;> omega
  refine ⟨hb, .inr ⟨4 * mm c + 2, ?_⟩⟩
  by_cases d0 : x.ds = 0
  · cases hlv : lvB x.un with
    | true =>
      have h4' := lv4 hlv
      exact .inl ⟨d0, hlv, hgl _ (by omega) (by unfold mm; omega), by omega⟩
    | false =>
      have hnl : ¬ x.un % 4 = 0 := by
        intro hq
        have : lvB x.un = true := (lvB_iff _).2 ⟨u0, by omega, hq⟩
        rw [hlv] at this; cases this
      have hw12 : x.wy = 1 ∨ x.wy = 2 := by
        rcases hlw with q | q
        · rw [hlv] at q; cases q
        · omega
      refine .inr (.inl ⟨d0, hlv, ?_⟩)
      rcases hw12 with e | e
      · exact ⟨x.un / 4 + 1, hgl _ (by omega) (by unfold mm; omega), .inl ⟨e, by omega, by omega, by omega⟩⟩
      · exact ⟨x.un / 4, hgl _ (by omega) (by unfold mm; omega), .inr ⟨e, by omega, by omega, by omega⟩⟩
  · have hlv : lvB x.un = true := by
      rcases hl with q | q
      · exact absurd q d0
      · exact q
    have h4' := lv4 hlv
    have := hrr d0
    exact .inr (.inr ⟨d0, hlv, hgl _ (by omega) (by unfold mm; omega), by omega⟩)
end Go.Proofs.Ytdbbacpofgjgoaa.Ct
