/-
  What any call costs any car (layer 15): the program's word, and the reference's.
  Conditions: the car and the call are in a house.
-/
import Derived.Test.YtfbnmoegdbdhjaaEta1
namespace Go.Proofs.Ytfbnmoegdbdhjaa.Et
set_option linter.unusedVariables false
set_option linter.unusedSimpArgs false
open Go.RowKit Go.Proofs.Ytfbnmoegdbdhjaa.Ba Go.Proofs.Ytfbnmoegdbdhjaa.Mo Go.Proofs.Ytfbnmoegdbdhjaa.Ty Go.Proofs.Ytfbnmoegdbdhjaa.Mem Go.Proofs.Ytfbnmoegdbdhjaa.St
open Go.Proofs.Ytfbnmoegdbdhjaa.Do (hd hd_lo hd_hi spanR)
set_option maxRecDepth 100000
def stV (c : CfgV) : Int := 2 * hd c.dr + hd c.dw
def baV (c : CfgV) (x : CarV) (f : Int) : Int := fr x.un f + (cn x.sp + cn x.su + cn x.sd) * stV c
def coV (c : CfgV) (x : CarV) (f cw : Int) : Int := if onB x.wy cw (tw x.un f) = true then baV c x f else baV c x f + 8 * (fl c.fl - 1)
theorem mul_bd (a b A B : Int) (h0 : 0 ≤ a) (h1 : a ≤ A) (k0 : 0 ≤ b) (k1 : b ≤ B) : 0 ≤ a * b ∧ a * b ≤ A * B :=
  ⟨Int.mul_nonneg h0 k0, Int.mul_le_mul h1 k1 k0 (by omega)⟩
theorem st_bd (c : CfgV) : 0 ≤ stV c ∧ stV c ≤ 3000 := by have := hd_lo c.dr; have := hd_hi c.dr; have := hd_lo c.dw; have := hd_hi c.dw; unfold stV; omega
theorem on_bd (x : CarV) : 0 ≤ cn x.sp + cn x.su + cn x.sd ∧ cn x.sp + cn x.su + cn x.sd ≤ 192 := by have := cn_lo x.sp; have := cn_lo x.su; have := cn_lo x.sd; have := cn_hi x.sp; have := cn_hi x.su; have := cn_hi x.sd; omega
theorem fr_bd (u f : Int) (h0 : 0 ≤ u) (h1 : u ≤ 252) (g0 : 0 ≤ f) (g1 : f ≤ 63) : 0 ≤ fr u f ∧ fr u f ≤ 252 := by unfold fr; split <;> omega
theorem ba_bd (c : CfgV) (x : CarV) (f : Int) (h0 : 0 ≤ x.un) (h1 : x.un ≤ 252) (g0 : 0 ≤ f) (g1 : f ≤ 63) : 0 ≤ baV c x f ∧ baV c x f ≤ 600000 := by
  have a := fr_bd x.un f h0 h1 g0 g1
  have b := on_bd x
  have d := st_bd c
  have e := mul_bd _ _ 192 3000 b.1 b.2 d.1 d.2
  unfold baV; omega
/-- The reference's test is the program's. -/
theorem on_ref (x : CarV) (f cw : Int) (g : cw = 1 ∨ cw = 2) : onB x.wy cw (tw x.un f) = decide (x.wy = 0 ∨ (x.wy = cw ∧ ((cw = 1 ∧ x.un ≤ 4 * f) ∨ (cw = 2 ∧ 4 * f ≤ x.un)))) := by
  unfold onB behB tw
  rw [Bool.eq_iff_iff]
  rcases g with rfl | rfl
  all_goals
    simp
    repeat' split
    all_goals simp
    all_goals omega
set_option maxHeartbeats 4000000 in
theorem costT (c : CfgV) (x : CarV) (f cw : Int) (h0 : 0 ≤ x.un) (h1 : x.un ≤ 252) (g0 : 0 ≤ f) (g1 : f ≤ 63) (hp : R x.sp) (hu : R x.su) (hdd : R x.sd) (w : World) : Calls Try.prog 42 #[.agg #[.int .i64 c.ca, .int .i64 c.fl, .int .i64 c.ft, .int .i64 c.se, .int .i64 c.dr, .int .i64 c.dw, .int .i64 c.ho, .int .i64 c.re, .int .i64 c.yi, .int .i64 c.qu, .int .i64 c.qo, .int .i64 c.lo, .int .i64 c.sl, .int .i64 c.rt, .int .i64 c.cp, .int .i64 c.tr, .int .i64 c.de, .int .i64 c.wi], .agg #[.int .i64 x.ds, .int .i64 x.da, .int .i64 x.un, .int .i64 x.wy, .int .i64 x.ti, .int .i64 x.ju, .int .i64 x.lo, .bool x.bl, .bool x.br, .int .i64 x.mo, .int .i64 x.ta, .bool x.ho, .int .u64 x.sp, .int .u64 x.su, .int .u64 x.sd], .agg #[.int .i64 f, .int .i64 cw]] w fun e w' => e = .returned (.int .i64 (coV c x f cw)) ∧ Since w w' := by
  obtain ⟨b0, b1⟩ := ba_bd c x f h0 h1 g0 g1
  obtain ⟨s0, s1⟩ := st_bd c
  obtain ⟨n0, n1⟩ := on_bd x
  obtain ⟨p0, p1⟩ := mul_bd _ _ 192 3000 n0 n1 s0 s1
  obtain ⟨r0, r1⟩ := fr_bd x.un f h0 h1 g0 g1
  have f1 := fl_lo c.fl
  have f2 := fl_hi c.fl
  have e1 := hd_lo c.dr
  have e2 := hd_hi c.dr
  have e3 := hd_lo c.dw
  have e4 := hd_hi c.dw
  go_enter Try.func42, Try.ntmps42
  go_upto_region 1 with fail
  obtain ⟨w1, hw1⟩ : ∃ w1, w1 = ((w.alloc (.cells #[.int .i64 c.ca, .int .i64 c.fl, .int .i64 c.ft, .int .i64 c.se, .int .i64 c.dr, .int .i64 c.dw, .int .i64 c.ho, .int .i64 c.re, .int .i64 c.yi, .int .i64 c.qu, .int .i64 c.qo, .int .i64 c.lo, .int .i64 c.sl, .int .i64 c.rt, .int .i64 c.cp, .int .i64 c.tr, .int .i64 c.de, .int .i64 c.wi] 23)).alloc (.cells #[.int .i64 x.ds, .int .i64 x.da, .int .i64 x.un, .int .i64 x.wy, .int .i64 x.ti, .int .i64 x.ju, .int .i64 x.lo, .bool x.bl, .bool x.br, .int .i64 x.mo, .int .i64 x.ta, .bool x.ho, .int .u64 x.sp, .int .u64 x.su, .int .u64 x.sd] 30)).alloc (.cells #[.int .i64 f, .int .i64 cw] 50) := ⟨_, rfl⟩
  rw [← hw1]
  have BC : Blk w1 w.heap.size 23 #[.int .i64 c.ca, .int .i64 c.fl, .int .i64 c.ft, .int .i64 c.se, .int .i64 c.dr, .int .i64 c.dw, .int .i64 c.ho, .int .i64 c.re, .int .i64 c.yi, .int .i64 c.qu, .int .i64 c.qo, .int .i64 c.lo, .int .i64 c.sl, .int .i64 c.rt, .int .i64 c.cp, .int .i64 c.tr, .int .i64 c.de, .int .i64 c.wi] := by rw [hw1]; exact ((Blk.new w _ _).alloc _).alloc _
  have BX : Blk w1 (w.heap.size + 1) 30 #[.int .i64 x.ds, .int .i64 x.da, .int .i64 x.un, .int .i64 x.wy, .int .i64 x.ti, .int .i64 x.ju, .int .i64 x.lo, .bool x.bl, .bool x.br, .int .i64 x.mo, .int .i64 x.ta, .bool x.ho, .int .u64 x.sp, .int .u64 x.su, .int .u64 x.sd] := by rw [hw1]; have h := (Blk.new (w.alloc (.cells #[.int .i64 c.ca, .int .i64 c.fl, .int .i64 c.ft, .int .i64 c.se, .int .i64 c.dr, .int .i64 c.dw, .int .i64 c.ho, .int .i64 c.re, .int .i64 c.yi, .int .i64 c.qu, .int .i64 c.qo, .int .i64 c.lo, .int .i64 c.sl, .int .i64 c.rt, .int .i64 c.cp, .int .i64 c.tr, .int .i64 c.de, .int .i64 c.wi] 23)) 30 #[.int .i64 x.ds, .int .i64 x.da, .int .i64 x.un, .int .i64 x.wy, .int .i64 x.ti, .int .i64 x.ju, .int .i64 x.lo, .bool x.bl, .bool x.br, .int .i64 x.mo, .int .i64 x.ta, .bool x.ho, .int .u64 x.sp, .int .u64 x.su, .int .u64 x.sd]).alloc (.cells #[.int .i64 f, .int .i64 cw] 50); simpa using h
  have BL : Blk w1 (w.heap.size + 2) 50 #[.int .i64 f, .int .i64 cw] := by rw [hw1]; have h := Blk.new ((w.alloc (.cells #[.int .i64 c.ca, .int .i64 c.fl, .int .i64 c.ft, .int .i64 c.se, .int .i64 c.dr, .int .i64 c.dw, .int .i64 c.ho, .int .i64 c.re, .int .i64 c.yi, .int .i64 c.qu, .int .i64 c.qo, .int .i64 c.lo, .int .i64 c.sl, .int .i64 c.rt, .int .i64 c.cp, .int .i64 c.tr, .int .i64 c.de, .int .i64 c.wi] 23)).alloc (.cells #[.int .i64 x.ds, .int .i64 x.da, .int .i64 x.un, .int .i64 x.wy, .int .i64 x.ti, .int .i64 x.ju, .int .i64 x.lo, .bool x.bl, .bool x.br, .int .i64 x.mo, .int .i64 x.ta, .bool x.ho, .int .u64 x.sp, .int .u64 x.su, .int .u64 x.sd] 30)) 50 #[.int .i64 f, .int .i64 cw]; simpa using h
  have HS1 := Lib.hid (show Since w w1 by rw [hw1]; exact (((Since.refl _).alloc _).alloc _).alloc _)
  clear hw1
  have q0 : w1.cell? ⟨w.heap.size, 1, none⟩ = some (.int .i64 c.fl) := BC.cell 1
  have q1 : w1.cell? ⟨w.heap.size, 4, none⟩ = some (.int .i64 c.dr) := BC.cell 4
  have q2 : w1.cell? ⟨w.heap.size, 5, none⟩ = some (.int .i64 c.dw) := BC.cell 5
  have q3 : w1.cell? ⟨w.heap.size + 1, 2, none⟩ = some (.int .i64 x.un) := BX.cell 2
  have q4 : w1.cell? ⟨w.heap.size + 1, 12, none⟩ = some (.int .u64 x.sp) := BX.cell 12
  have q5 : w1.cell? ⟨w.heap.size + 1, 13, none⟩ = some (.int .u64 x.su) := BX.cell 13
  have q6 : w1.cell? ⟨w.heap.size + 1, 14, none⟩ = some (.int .u64 x.sd) := BX.cell 14
  have q7 : w1.cell? ⟨w.heap.size + 2, 0, none⟩ = some (.int .i64 f) := BL.cell 0
  have HBC := Lib.hid BC; have HBX := Lib.hid BX; have HBL := Lib.hid BL; clear BC BX BL
  go_cut [7] (fun s7 wx => s7 = .int .i64 (stV c) ∧ Hid (Since w1 wx))
  case first =>
    go_quiet ((first | (go_at_call 65; exact quiet_eq (spanT _ _))))
    go_wp2_with fail
    go_meet
    case rel => exact ⟨by unfold stV; simp (disch := omega) only [wr], Lib.hid (by repeat (first | exact Since.refl _ | assumption | refine Since.setCell ?_ (by first | (simp; done) | (simp; omega)) _ | refine Since.drew ?_ | refine Since.drewN ?_ _ | refine Since.alloc ?_ _ | refine Since.trans ?_ (by assumption) | refine Since.trans ?_ (Hid.out (by assumption))))⟩
  case rest =>
    obtain ⟨rfl, H2⟩ := hcut
    replace q0 := keep_cell H2.out q0
    replace q1 := keep_cell H2.out q1
    replace q2 := keep_cell H2.out q2
    replace q3 := keep_cell H2.out q3
    replace q4 := keep_cell H2.out q4
    replace q5 := keep_cell H2.out q5
    replace q6 := keep_cell H2.out q6
    replace q7 := keep_cell H2.out q7
    have HC2 := Lib.hid (keep_blk H2.out HBC.out); have HX2 := Lib.hid (keep_blk H2.out HBX.out); have HL2 := Lib.hid (keep_blk H2.out HBL.out); have HS2 := Lib.hid (HS1.out.trans H2.out)
    clear H2 HBC HBX HBL HS1
    generalize wc = w2 at *
    go_wp2_with fail
    go_cut [8] (fun s8 wx => s8 = .int .i64 (baV c x f) ∧ Hid (Since w2 wx))
    case first =>
      have hrK : ∀ W W' : World, Since W W' → (Since w2 W ∧ W.cell? ⟨w.heap.size + 1, 2, none⟩ = some (.int .i64 x.un) ∧ W.cell? ⟨w.heap.size + 1, 12, none⟩ = some (.int .u64 x.sp) ∧ W.cell? ⟨w.heap.size + 1, 13, none⟩ = some (.int .u64 x.su) ∧ W.cell? ⟨w.heap.size + 1, 14, none⟩ = some (.int .u64 x.sd) ∧ W.cell? ⟨w.heap.size + 2, 0, none⟩ = some (.int .i64 f)) → (Since w2 W' ∧ W'.cell? ⟨w.heap.size + 1, 2, none⟩ = some (.int .i64 x.un) ∧ W'.cell? ⟨w.heap.size + 1, 12, none⟩ = some (.int .u64 x.sp) ∧ W'.cell? ⟨w.heap.size + 1, 13, none⟩ = some (.int .u64 x.su) ∧ W'.cell? ⟨w.heap.size + 1, 14, none⟩ = some (.int .u64 x.sd) ∧ W'.cell? ⟨w.heap.size + 2, 0, none⟩ = some (.int .i64 f)) := fun W W' k ⟨h, h0, h1, h2, h3, h4⟩ => ⟨h.trans k, keep_cell k h0, keep_cell k h1, keep_cell k h2, keep_cell k h3, keep_cell k h4⟩
      have hrS : (fun W : World => Since w2 W ∧ W.cell? ⟨w.heap.size + 1, 2, none⟩ = some (.int .i64 x.un) ∧ W.cell? ⟨w.heap.size + 1, 12, none⟩ = some (.int .u64 x.sp) ∧ W.cell? ⟨w.heap.size + 1, 13, none⟩ = some (.int .u64 x.su) ∧ W.cell? ⟨w.heap.size + 1, 14, none⟩ = some (.int .u64 x.sd) ∧ W.cell? ⟨w.heap.size + 2, 0, none⟩ = some (.int .i64 f)) (w2) := ⟨Since.refl _, by first | assumption | (simp; done), by first | assumption | (simp; done), by first | assumption | (simp; done), by first | assumption | (simp; done), by first | assumption | (simp; done)⟩
      have HRK := Lib.hid hrK
      have HRD := Lib.hid (show (fun W : World => Since w2 W ∧ W.cell? ⟨w.heap.size + 1, 2, none⟩ = some (.int .i64 x.un) ∧ W.cell? ⟨w.heap.size + 1, 12, none⟩ = some (.int .u64 x.sp) ∧ W.cell? ⟨w.heap.size + 1, 13, none⟩ = some (.int .u64 x.su) ∧ W.cell? ⟨w.heap.size + 1, 14, none⟩ = some (.int .u64 x.sd) ∧ W.cell? ⟨w.heap.size + 2, 0, none⟩ = some (.int .i64 f)) (World.drew (w2)) from ⟨(Since.refl _).drew, hrS.2⟩)
      clear hrK hrS
      refine wp_region_held_drew (S := fun W : World => Since w2 W ∧ W.cell? ⟨w.heap.size + 1, 2, none⟩ = some (.int .i64 x.un) ∧ W.cell? ⟨w.heap.size + 1, 12, none⟩ = some (.int .u64 x.sp) ∧ W.cell? ⟨w.heap.size + 1, 13, none⟩ = some (.int .u64 x.su) ∧ W.cell? ⟨w.heap.size + 1, 14, none⟩ = some (.int .u64 x.sd) ∧ W.cell? ⟨w.heap.size + 2, 0, none⟩ = some (.int .i64 f)) (by kernel_rfl) HRD.out (fun hHeld => ?_)
      refine wpAnyH_take (i := 0) (oi := ?op_0) (v := ?vp_0) ?hp_0 (by kernel_rfl) (by kernel_rfl) (by kernel_rfl) ?qp_0 ?yp_0 (by assumption) ?_
      case hp_0 => (first | (simp only [List.getElem?_toArray, List.getElem?_cons_zero, List.getElem?_cons_succ]; done) | (simp only [List.getElem?_toArray, List.getElem?_cons_zero, List.getElem?_cons_succ]; exact rfl))
      case qp_0 => exact fun _ _ _ h => h
      case yp_0 => (refine Or.inl ⟨rfl, ?_⟩; intro w hSw; (try dsimp only at hSw); go_simp; (try with_reducible rfl))
      (try simp only [Act.put, List.setIfInBounds_toArray, List.set_cons_zero, List.set_cons_succ])
      refine wpAnyH_take (i := 1) (oi := ?op_1) (v := .int .i64 x.un) ?hp_1 (by kernel_rfl) (by kernel_rfl) (by kernel_rfl) ?qp_1 ?yp_1 (by assumption) ?_
      case hp_1 => (first | (simp only [List.getElem?_toArray, List.getElem?_cons_zero, List.getElem?_cons_succ]; done) | (simp only [List.getElem?_toArray, List.getElem?_cons_zero, List.getElem?_cons_succ]; exact rfl))
      case qp_1 => exact fun _ _ _ h => h
      case yp_1 => (refine Or.inl ⟨rfl, ?_⟩; intro w hSw; (try dsimp only at hSw); go_simp; (try with_reducible rfl))
      (try simp only [Act.put, List.setIfInBounds_toArray, List.set_cons_zero, List.set_cons_succ])
      refine wpAnyH_take (i := 2) (oi := ?op_2) (v := ?vp_2) ?hp_2 (by kernel_rfl) (by kernel_rfl) (by kernel_rfl) ?qp_2 ?yp_2 (by assumption) ?_
      case hp_2 => (first | (simp only [List.getElem?_toArray, List.getElem?_cons_zero, List.getElem?_cons_succ]; done) | (simp only [List.getElem?_toArray, List.getElem?_cons_zero, List.getElem?_cons_succ]; exact rfl))
      case qp_2 => exact fun _ _ _ h => h
      case yp_2 => (refine Or.inl ⟨rfl, ?_⟩; intro w hSw; (try dsimp only at hSw); go_simp; (try with_reducible rfl))
      (try simp only [Act.put, List.setIfInBounds_toArray, List.set_cons_zero, List.set_cons_succ])
      refine wpAnyH_take (i := 3) (oi := ?op_3) (v := .int .i64 f) ?hp_3 (by kernel_rfl) (by kernel_rfl) (by kernel_rfl) ?qp_3 ?yp_3 (by assumption) ?_
      case hp_3 => (first | (simp only [List.getElem?_toArray, List.getElem?_cons_zero, List.getElem?_cons_succ]; done) | (simp only [List.getElem?_toArray, List.getElem?_cons_zero, List.getElem?_cons_succ]; exact rfl))
      case qp_3 => exact fun _ _ _ h => h
      case yp_3 => (refine Or.inl ⟨rfl, ?_⟩; intro w hSw; (try dsimp only at hSw); go_simp; (try with_reducible rfl))
      (try simp only [Act.put, List.setIfInBounds_toArray, List.set_cons_zero, List.set_cons_succ])
      refine wpAnyH_take (i := 5) (oi := ?op_5) (v := ?vp_5) ?hp_5 (by kernel_rfl) (by kernel_rfl) (by kernel_rfl) ?qp_5 ?yp_5 (by assumption) ?_
      case hp_5 => (first | (simp only [List.getElem?_toArray, List.getElem?_cons_zero, List.getElem?_cons_succ]; done) | (simp only [List.getElem?_toArray, List.getElem?_cons_zero, List.getElem?_cons_succ]; exact rfl))
      case qp_5 => exact fun _ _ _ h => h
      case yp_5 => (refine Or.inl ⟨rfl, ?_⟩; intro w hSw; (try dsimp only at hSw); go_simp; (try with_reducible rfl))
      (try simp only [Act.put, List.setIfInBounds_toArray, List.set_cons_zero, List.set_cons_succ])
      refine wpAnyH_take (i := 6) (oi := ?op_6) (v := .agg #[.int .u64 x.sp, .int .u64 x.su, .int .u64 x.sd]) ?hp_6 (by kernel_rfl) (by kernel_rfl) (by kernel_rfl) ?qp_6 ?yp_6 (by assumption) ?_
      case hp_6 => (first | (simp only [List.getElem?_toArray, List.getElem?_cons_zero, List.getElem?_cons_succ]; done) | (simp only [List.getElem?_toArray, List.getElem?_cons_zero, List.getElem?_cons_succ]; exact rfl))
      case qp_6 => exact fun _ _ _ h => h
      case yp_6 => (refine Or.inl ⟨rfl, ?_⟩; intro w hSw; (try dsimp only at hSw); go_simp; (try with_reducible rfl))
      (try simp only [Act.put, List.setIfInBounds_toArray, List.set_cons_zero, List.set_cons_succ])
      refine wpAnyH_take (i := 8) (oi := ?op_8) (v := .int .i64 (stV c)) ?hp_8 (by kernel_rfl) (by kernel_rfl) (by kernel_rfl) ?qp_8 ?yp_8 (by assumption) ?_
      case hp_8 => (first | (simp only [List.getElem?_toArray, List.getElem?_cons_zero, List.getElem?_cons_succ]; done) | (simp only [List.getElem?_toArray, List.getElem?_cons_zero, List.getElem?_cons_succ]; exact rfl))
      case qp_8 => exact fun _ _ _ h => h
      case yp_8 => (refine Or.inl ⟨rfl, ?_⟩; intro w hSw; (try dsimp only at hSw); go_simp; (try with_reducible rfl))
      (try simp only [Act.put, List.setIfInBounds_toArray, List.set_cons_zero, List.set_cons_succ])
      refine wpAnyH_ready (rs := [4]) (by kernel_rfl) (by simp) ?_
      refine AllReadyH.cons (o := ?op_4) ?hp_4 (fun K hK => ?_) AllReadyH.nil
      case hp_4 => (first | (simp only [List.getElem?_toArray, List.getElem?_cons_zero, List.getElem?_cons_succ]; done) | (simp only [List.getElem?_toArray, List.getElem?_cons_zero, List.getElem?_cons_succ]; exact rfl))
      (try go_simp)
      (go_at_call 66; refine (farT x.un f (by omega) (by omega) (by omega) (by omega) _).mono ?_; rintro e w' ⟨rfl, rfl⟩)
      (try go_wp2_with fail)
      refine hK.out _ _ ?_ (fun hHeld2 => ?_)
      · first | exact HRD.out | exact hHeld | (apply HRK.out; assumption; assumption)
      clear hK K hHeld
      have hHeld := hHeld2
      clear hHeld2
      (try simp only [Act.put, List.setIfInBounds_toArray, List.set_cons_zero, List.set_cons_succ])
      refine wpAnyH_ready (rs := [7]) (by kernel_rfl) (by simp) ?_
      refine AllReadyH.cons (o := ?op_7) ?hp_7 (fun K hK => ?_) AllReadyH.nil
      case hp_7 => (first | (simp only [List.getElem?_toArray, List.getElem?_cons_zero, List.getElem?_cons_succ]; done) | (simp only [List.getElem?_toArray, List.getElem?_cons_zero, List.getElem?_cons_succ]; exact rfl))
      (try go_simp)
      (go_at_call 36; refine (countT x.sp x.su x.sd hp hu hdd _).mono ?_; rintro e w9 ⟨rfl, hb9⟩)
      (try go_wp2_with fail)
      refine hK.out _ _ ?_ (fun hHeld2 => ?_)
      · first | exact HRD.out | exact hHeld | (apply HRK.out; assumption; assumption)
      clear hK K hHeld
      have hHeld := hHeld2
      clear hHeld2
      (try simp only [Act.put, List.setIfInBounds_toArray, List.set_cons_zero, List.set_cons_succ])
      refine wpAnyH_take (i := 9) (oi := ?op_9) (v := ?vp_9) ?hp_9 (by kernel_rfl) (by kernel_rfl) (by kernel_rfl) ?qp_9 ?yp_9 (by assumption) ?_
      case hp_9 => (first | (simp only [List.getElem?_toArray, List.getElem?_cons_zero, List.getElem?_cons_succ]; done) | (simp only [List.getElem?_toArray, List.getElem?_cons_zero, List.getElem?_cons_succ]; exact rfl))
      case qp_9 => exact fun _ _ _ h => h
      case yp_9 => (refine Or.inl ⟨rfl, ?_⟩; intro w hSw; (try dsimp only at hSw); go_simp; (try with_reducible rfl))
      (try simp only [Act.put, List.setIfInBounds_toArray, List.set_cons_zero, List.set_cons_succ])
      refine wpAnyH_take (i := 10) (oi := ?op_10) (v := ?vp_10) ?hp_10 (by kernel_rfl) (by kernel_rfl) (by kernel_rfl) ?qp_10 ?yp_10 (by assumption) ?_
      case hp_10 => (first | (simp only [List.getElem?_toArray, List.getElem?_cons_zero, List.getElem?_cons_succ]; done) | (simp only [List.getElem?_toArray, List.getElem?_cons_zero, List.getElem?_cons_succ]; exact rfl))
      case qp_10 => exact fun _ _ _ h => h
      case yp_10 => (refine Or.inl ⟨rfl, ?_⟩; intro w hSw; (try dsimp only at hSw); go_simp; (try with_reducible rfl))
      (try simp only [Act.put, List.setIfInBounds_toArray, List.set_cons_zero, List.set_cons_succ])
      refine wpAnyH_take (i := 11) (oi := ?op_11) (v := ?vp_11) ?hp_11 (by kernel_rfl) (by kernel_rfl) (by kernel_rfl) ?qp_11 ?yp_11 (by assumption) ?_
      case hp_11 => (first | (simp only [List.getElem?_toArray, List.getElem?_cons_zero, List.getElem?_cons_succ]; done) | (simp only [List.getElem?_toArray, List.getElem?_cons_zero, List.getElem?_cons_succ]; exact rfl))
      case qp_11 => exact fun _ _ _ h => h
      case yp_11 => (refine Or.inl ⟨rfl, ?_⟩; intro w hSw; (try dsimp only at hSw); go_simp; (try with_reducible rfl))
      (try simp only [Act.put, List.setIfInBounds_toArray, List.set_cons_zero, List.set_cons_succ])
      refine wpAnyH_done (by kernel_rfl) ?_ _
      obtain ⟨hs2, _⟩ := hHeld
      have HS2 := Lib.hid hs2
      clear hs2 HRK HRD
      go_wp2_with fail
      go_meet
      case rel => exact ⟨by unfold baV; simp (disch := omega) only [wr], Lib.hid HS2.out⟩
    case rest =>
      obtain ⟨rfl, H3⟩ := hcut
      replace q0 := keep_cell H3.out q0
      replace q1 := keep_cell H3.out q1
      replace q2 := keep_cell H3.out q2
      replace q3 := keep_cell H3.out q3
      replace q4 := keep_cell H3.out q4
      replace q5 := keep_cell H3.out q5
      replace q6 := keep_cell H3.out q6
      replace q7 := keep_cell H3.out q7
      have HX3 := Lib.hid (keep_blk H3.out HX2.out); have HL3 := Lib.hid (keep_blk H3.out HL2.out); have HS3 := Lib.hid (HS2.out.trans H3.out)
      clear H3 HC2 HX2 HL2 HS2 q1 q2 q3 q4 q5 q6 q7
      generalize wc = w3 at *
      go_wp2_with (first | (refine wpList_load_row rfl 30 _ rfl _ rfl 30 _ (0, 0) _ HX3.out Try.underlying30 rfl (by kernel_rfl) ?_) | (refine wpList_load_row rfl 50 _ rfl _ rfl 50 _ (0, 0) _ HL3.out Try.underlying50 rfl (by kernel_rfl) ?_))
      refine (onT x f cw (by omega) (by omega) _).mono ?_
      rintro e w4 ⟨rfl, hb4⟩
      replace q0 := keep_cell hb4 q0
      have HS4 := Lib.hid (HS3.out.trans hb4)
      clear hb4 HS3 HX3 HL3
      cases hon : onB x.wy cw (tw x.un f)
      · have HV := Lib.hid (show coV c x f cw = baV c x f + 8 * (fl c.fl - 1) by unfold coV; rw [hon]; simp)
        go_wp2_with fail
        refine (floorsT _ _).mono ?_
        rintro e w' ⟨rfl, rfl⟩
        go_wp2
        go_ret
        exact ⟨ret_int HV.out.symm, HS4.out⟩
      · have HV := Lib.hid (show coV c x f cw = baV c x f by unfold coV; rw [hon]; simp)
        go_wp2
        go_ret
        exact ⟨ret_int HV.out.symm, HS4.out⟩
set_option maxHeartbeats 4000000 in
theorem costR (c : CfgV) (x : CarV) (f cw : Int) (h0 : 0 ≤ x.un) (h1 : x.un ≤ 252) (g0 : 0 ≤ f) (g1 : f ≤ 63) (k : cw = 1 ∨ cw = 2) (hp : R x.sp) (hu : R x.su) (hdd : R x.sd) (w : World) : Calls Try.prog 43 #[.agg #[.int .i64 c.ca, .int .i64 c.fl, .int .i64 c.ft, .int .i64 c.se, .int .i64 c.dr, .int .i64 c.dw, .int .i64 c.ho, .int .i64 c.re, .int .i64 c.yi, .int .i64 c.qu, .int .i64 c.qo, .int .i64 c.lo, .int .i64 c.sl, .int .i64 c.rt, .int .i64 c.cp, .int .i64 c.tr, .int .i64 c.de, .int .i64 c.wi], .agg #[.int .i64 x.ds, .int .i64 x.da, .int .i64 x.un, .int .i64 x.wy, .int .i64 x.ti, .int .i64 x.ju, .int .i64 x.lo, .bool x.bl, .bool x.br, .int .i64 x.mo, .int .i64 x.ta, .bool x.ho, .int .u64 x.sp, .int .u64 x.su, .int .u64 x.sd], .agg #[.int .i64 f, .int .i64 cw]] w fun e w' => e = .returned (.int .i64 (coV c x f cw)) ∧ Since w w' := by
  obtain ⟨b0, b1⟩ := ba_bd c x f h0 h1 g0 g1
  obtain ⟨s0, s1⟩ := st_bd c
  obtain ⟨n0, n1⟩ := on_bd x
  obtain ⟨p0, p1⟩ := mul_bd _ _ 192 3000 n0 n1 s0 s1
  obtain ⟨r0, r1⟩ := fr_bd x.un f h0 h1 g0 g1
  have f1 := fl_lo c.fl
  have f2 := fl_hi c.fl
  have e1 := hd_lo c.dr
  have e2 := hd_hi c.dr
  have e3 := hd_lo c.dw
  have e4 := hd_hi c.dw
  have HON := Lib.hid (on_ref x f cw k)
  go_enter Try.func43, Try.ntmps43
  go_upto_region 1 with fail
  obtain ⟨w1, hw1⟩ : ∃ w1, w1 = ((w.alloc (.cells #[.int .i64 c.ca, .int .i64 c.fl, .int .i64 c.ft, .int .i64 c.se, .int .i64 c.dr, .int .i64 c.dw, .int .i64 c.ho, .int .i64 c.re, .int .i64 c.yi, .int .i64 c.qu, .int .i64 c.qo, .int .i64 c.lo, .int .i64 c.sl, .int .i64 c.rt, .int .i64 c.cp, .int .i64 c.tr, .int .i64 c.de, .int .i64 c.wi] 23)).alloc (.cells #[.int .i64 x.ds, .int .i64 x.da, .int .i64 x.un, .int .i64 x.wy, .int .i64 x.ti, .int .i64 x.ju, .int .i64 x.lo, .bool x.bl, .bool x.br, .int .i64 x.mo, .int .i64 x.ta, .bool x.ho, .int .u64 x.sp, .int .u64 x.su, .int .u64 x.sd] 30)).alloc (.cells #[.int .i64 f, .int .i64 cw] 50) := ⟨_, rfl⟩
  rw [← hw1]
  have BC : Blk w1 w.heap.size 23 #[.int .i64 c.ca, .int .i64 c.fl, .int .i64 c.ft, .int .i64 c.se, .int .i64 c.dr, .int .i64 c.dw, .int .i64 c.ho, .int .i64 c.re, .int .i64 c.yi, .int .i64 c.qu, .int .i64 c.qo, .int .i64 c.lo, .int .i64 c.sl, .int .i64 c.rt, .int .i64 c.cp, .int .i64 c.tr, .int .i64 c.de, .int .i64 c.wi] := by rw [hw1]; exact ((Blk.new w _ _).alloc _).alloc _
  have BX : Blk w1 (w.heap.size + 1) 30 #[.int .i64 x.ds, .int .i64 x.da, .int .i64 x.un, .int .i64 x.wy, .int .i64 x.ti, .int .i64 x.ju, .int .i64 x.lo, .bool x.bl, .bool x.br, .int .i64 x.mo, .int .i64 x.ta, .bool x.ho, .int .u64 x.sp, .int .u64 x.su, .int .u64 x.sd] := by rw [hw1]; have h := (Blk.new (w.alloc (.cells #[.int .i64 c.ca, .int .i64 c.fl, .int .i64 c.ft, .int .i64 c.se, .int .i64 c.dr, .int .i64 c.dw, .int .i64 c.ho, .int .i64 c.re, .int .i64 c.yi, .int .i64 c.qu, .int .i64 c.qo, .int .i64 c.lo, .int .i64 c.sl, .int .i64 c.rt, .int .i64 c.cp, .int .i64 c.tr, .int .i64 c.de, .int .i64 c.wi] 23)) 30 #[.int .i64 x.ds, .int .i64 x.da, .int .i64 x.un, .int .i64 x.wy, .int .i64 x.ti, .int .i64 x.ju, .int .i64 x.lo, .bool x.bl, .bool x.br, .int .i64 x.mo, .int .i64 x.ta, .bool x.ho, .int .u64 x.sp, .int .u64 x.su, .int .u64 x.sd]).alloc (.cells #[.int .i64 f, .int .i64 cw] 50); simpa using h
  have BL : Blk w1 (w.heap.size + 2) 50 #[.int .i64 f, .int .i64 cw] := by rw [hw1]; have h := Blk.new ((w.alloc (.cells #[.int .i64 c.ca, .int .i64 c.fl, .int .i64 c.ft, .int .i64 c.se, .int .i64 c.dr, .int .i64 c.dw, .int .i64 c.ho, .int .i64 c.re, .int .i64 c.yi, .int .i64 c.qu, .int .i64 c.qo, .int .i64 c.lo, .int .i64 c.sl, .int .i64 c.rt, .int .i64 c.cp, .int .i64 c.tr, .int .i64 c.de, .int .i64 c.wi] 23)).alloc (.cells #[.int .i64 x.ds, .int .i64 x.da, .int .i64 x.un, .int .i64 x.wy, .int .i64 x.ti, .int .i64 x.ju, .int .i64 x.lo, .bool x.bl, .bool x.br, .int .i64 x.mo, .int .i64 x.ta, .bool x.ho, .int .u64 x.sp, .int .u64 x.su, .int .u64 x.sd] 30)) 50 #[.int .i64 f, .int .i64 cw]; simpa using h
  have HS1 := Lib.hid (show Since w w1 by rw [hw1]; exact (((Since.refl _).alloc _).alloc _).alloc _)
  clear hw1
  have q0 : w1.cell? ⟨w.heap.size, 1, none⟩ = some (.int .i64 c.fl) := BC.cell 1
  have q1 : w1.cell? ⟨w.heap.size, 4, none⟩ = some (.int .i64 c.dr) := BC.cell 4
  have q2 : w1.cell? ⟨w.heap.size, 5, none⟩ = some (.int .i64 c.dw) := BC.cell 5
  have q3 : w1.cell? ⟨w.heap.size + 1, 2, none⟩ = some (.int .i64 x.un) := BX.cell 2
  have q4 : w1.cell? ⟨w.heap.size + 1, 3, none⟩ = some (.int .i64 x.wy) := BX.cell 3
  have q5 : w1.cell? ⟨w.heap.size + 1, 12, none⟩ = some (.int .u64 x.sp) := BX.cell 12
  have q6 : w1.cell? ⟨w.heap.size + 1, 13, none⟩ = some (.int .u64 x.su) := BX.cell 13
  have q7 : w1.cell? ⟨w.heap.size + 1, 14, none⟩ = some (.int .u64 x.sd) := BX.cell 14
  have q8 : w1.cell? ⟨w.heap.size + 2, 0, none⟩ = some (.int .i64 f) := BL.cell 0
  have q9 : w1.cell? ⟨w.heap.size + 2, 1, none⟩ = some (.int .i64 cw) := BL.cell 1
  clear BC BX BL
  go_cut [7] (fun s7 wx => s7 = .int .i64 (baV c x f) ∧ Hid (Since w1 wx))
  case first =>
    have hrK : ∀ W W' : World, Since W W' → (Since w1 W ∧ W.cell? ⟨w.heap.size, 1, none⟩ = some (.int .i64 c.fl) ∧ W.cell? ⟨w.heap.size, 4, none⟩ = some (.int .i64 c.dr) ∧ W.cell? ⟨w.heap.size, 5, none⟩ = some (.int .i64 c.dw) ∧ W.cell? ⟨w.heap.size + 1, 2, none⟩ = some (.int .i64 x.un) ∧ W.cell? ⟨w.heap.size + 1, 3, none⟩ = some (.int .i64 x.wy) ∧ W.cell? ⟨w.heap.size + 1, 12, none⟩ = some (.int .u64 x.sp) ∧ W.cell? ⟨w.heap.size + 1, 13, none⟩ = some (.int .u64 x.su) ∧ W.cell? ⟨w.heap.size + 1, 14, none⟩ = some (.int .u64 x.sd) ∧ W.cell? ⟨w.heap.size + 2, 0, none⟩ = some (.int .i64 f) ∧ W.cell? ⟨w.heap.size + 2, 1, none⟩ = some (.int .i64 cw)) → (Since w1 W' ∧ W'.cell? ⟨w.heap.size, 1, none⟩ = some (.int .i64 c.fl) ∧ W'.cell? ⟨w.heap.size, 4, none⟩ = some (.int .i64 c.dr) ∧ W'.cell? ⟨w.heap.size, 5, none⟩ = some (.int .i64 c.dw) ∧ W'.cell? ⟨w.heap.size + 1, 2, none⟩ = some (.int .i64 x.un) ∧ W'.cell? ⟨w.heap.size + 1, 3, none⟩ = some (.int .i64 x.wy) ∧ W'.cell? ⟨w.heap.size + 1, 12, none⟩ = some (.int .u64 x.sp) ∧ W'.cell? ⟨w.heap.size + 1, 13, none⟩ = some (.int .u64 x.su) ∧ W'.cell? ⟨w.heap.size + 1, 14, none⟩ = some (.int .u64 x.sd) ∧ W'.cell? ⟨w.heap.size + 2, 0, none⟩ = some (.int .i64 f) ∧ W'.cell? ⟨w.heap.size + 2, 1, none⟩ = some (.int .i64 cw)) := fun W W' k ⟨h, h0, h1, h2, h3, h4, h5, h6, h7, h8, h9⟩ => ⟨h.trans k, keep_cell k h0, keep_cell k h1, keep_cell k h2, keep_cell k h3, keep_cell k h4, keep_cell k h5, keep_cell k h6, keep_cell k h7, keep_cell k h8, keep_cell k h9⟩
    have hrS : (fun W : World => Since w1 W ∧ W.cell? ⟨w.heap.size, 1, none⟩ = some (.int .i64 c.fl) ∧ W.cell? ⟨w.heap.size, 4, none⟩ = some (.int .i64 c.dr) ∧ W.cell? ⟨w.heap.size, 5, none⟩ = some (.int .i64 c.dw) ∧ W.cell? ⟨w.heap.size + 1, 2, none⟩ = some (.int .i64 x.un) ∧ W.cell? ⟨w.heap.size + 1, 3, none⟩ = some (.int .i64 x.wy) ∧ W.cell? ⟨w.heap.size + 1, 12, none⟩ = some (.int .u64 x.sp) ∧ W.cell? ⟨w.heap.size + 1, 13, none⟩ = some (.int .u64 x.su) ∧ W.cell? ⟨w.heap.size + 1, 14, none⟩ = some (.int .u64 x.sd) ∧ W.cell? ⟨w.heap.size + 2, 0, none⟩ = some (.int .i64 f) ∧ W.cell? ⟨w.heap.size + 2, 1, none⟩ = some (.int .i64 cw)) (w1) := ⟨Since.refl _, by first | assumption | (simp; done), by first | assumption | (simp; done), by first | assumption | (simp; done), by first | assumption | (simp; done), by first | assumption | (simp; done), by first | assumption | (simp; done), by first | assumption | (simp; done), by first | assumption | (simp; done), by first | assumption | (simp; done), by first | assumption | (simp; done)⟩
    have HRK := Lib.hid hrK
    have HRD := Lib.hid (show (fun W : World => Since w1 W ∧ W.cell? ⟨w.heap.size, 1, none⟩ = some (.int .i64 c.fl) ∧ W.cell? ⟨w.heap.size, 4, none⟩ = some (.int .i64 c.dr) ∧ W.cell? ⟨w.heap.size, 5, none⟩ = some (.int .i64 c.dw) ∧ W.cell? ⟨w.heap.size + 1, 2, none⟩ = some (.int .i64 x.un) ∧ W.cell? ⟨w.heap.size + 1, 3, none⟩ = some (.int .i64 x.wy) ∧ W.cell? ⟨w.heap.size + 1, 12, none⟩ = some (.int .u64 x.sp) ∧ W.cell? ⟨w.heap.size + 1, 13, none⟩ = some (.int .u64 x.su) ∧ W.cell? ⟨w.heap.size + 1, 14, none⟩ = some (.int .u64 x.sd) ∧ W.cell? ⟨w.heap.size + 2, 0, none⟩ = some (.int .i64 f) ∧ W.cell? ⟨w.heap.size + 2, 1, none⟩ = some (.int .i64 cw)) (World.drew (w1)) from ⟨(Since.refl _).drew, hrS.2⟩)
    clear hrK hrS
    refine wp_region_held_drew (S := fun W : World => Since w1 W ∧ W.cell? ⟨w.heap.size, 1, none⟩ = some (.int .i64 c.fl) ∧ W.cell? ⟨w.heap.size, 4, none⟩ = some (.int .i64 c.dr) ∧ W.cell? ⟨w.heap.size, 5, none⟩ = some (.int .i64 c.dw) ∧ W.cell? ⟨w.heap.size + 1, 2, none⟩ = some (.int .i64 x.un) ∧ W.cell? ⟨w.heap.size + 1, 3, none⟩ = some (.int .i64 x.wy) ∧ W.cell? ⟨w.heap.size + 1, 12, none⟩ = some (.int .u64 x.sp) ∧ W.cell? ⟨w.heap.size + 1, 13, none⟩ = some (.int .u64 x.su) ∧ W.cell? ⟨w.heap.size + 1, 14, none⟩ = some (.int .u64 x.sd) ∧ W.cell? ⟨w.heap.size + 2, 0, none⟩ = some (.int .i64 f) ∧ W.cell? ⟨w.heap.size + 2, 1, none⟩ = some (.int .i64 cw)) (by kernel_rfl) HRD.out (fun hHeld => ?_)
    refine wpAnyH_take (i := 0) (oi := ?or_0) (v := ?vr_0) ?hr_0 (by kernel_rfl) (by kernel_rfl) (by kernel_rfl) ?qr_0 ?yr_0 (by assumption) ?_
    case hr_0 => (first | (simp only [List.getElem?_toArray, List.getElem?_cons_zero, List.getElem?_cons_succ]; done) | (simp only [List.getElem?_toArray, List.getElem?_cons_zero, List.getElem?_cons_succ]; exact rfl))
    case qr_0 => exact fun _ _ _ h => h
    case yr_0 => (refine Or.inl ⟨rfl, ?_⟩; intro w hSw; (try dsimp only at hSw); go_simp; (try with_reducible rfl))
    (try simp only [Act.put, List.setIfInBounds_toArray, List.set_cons_zero, List.set_cons_succ])
    refine wpAnyH_take (i := 1) (oi := ?or_1) (v := .int .i64 x.un) ?hr_1 (by kernel_rfl) (by kernel_rfl) (by kernel_rfl) ?qr_1 ?yr_1 (by assumption) ?_
    case hr_1 => (first | (simp only [List.getElem?_toArray, List.getElem?_cons_zero, List.getElem?_cons_succ]; done) | (simp only [List.getElem?_toArray, List.getElem?_cons_zero, List.getElem?_cons_succ]; exact rfl))
    case qr_1 => exact fun _ _ _ h => h
    case yr_1 => (refine Or.inl ⟨rfl, ?_⟩; intro w hSw; (try dsimp only at hSw); go_simp; (try with_reducible rfl))
    (try simp only [Act.put, List.setIfInBounds_toArray, List.set_cons_zero, List.set_cons_succ])
    refine wpAnyH_take (i := 2) (oi := ?or_2) (v := ?vr_2) ?hr_2 (by kernel_rfl) (by kernel_rfl) (by kernel_rfl) ?qr_2 ?yr_2 (by assumption) ?_
    case hr_2 => (first | (simp only [List.getElem?_toArray, List.getElem?_cons_zero, List.getElem?_cons_succ]; done) | (simp only [List.getElem?_toArray, List.getElem?_cons_zero, List.getElem?_cons_succ]; exact rfl))
    case qr_2 => exact fun _ _ _ h => h
    case yr_2 => (refine Or.inl ⟨rfl, ?_⟩; intro w hSw; (try dsimp only at hSw); go_simp; (try with_reducible rfl))
    (try simp only [Act.put, List.setIfInBounds_toArray, List.set_cons_zero, List.set_cons_succ])
    refine wpAnyH_take (i := 3) (oi := ?or_3) (v := .int .i64 f) ?hr_3 (by kernel_rfl) (by kernel_rfl) (by kernel_rfl) ?qr_3 ?yr_3 (by assumption) ?_
    case hr_3 => (first | (simp only [List.getElem?_toArray, List.getElem?_cons_zero, List.getElem?_cons_succ]; done) | (simp only [List.getElem?_toArray, List.getElem?_cons_zero, List.getElem?_cons_succ]; exact rfl))
    case qr_3 => exact fun _ _ _ h => h
    case yr_3 => (refine Or.inl ⟨rfl, ?_⟩; intro w hSw; (try dsimp only at hSw); go_simp; (try with_reducible rfl))
    (try simp only [Act.put, List.setIfInBounds_toArray, List.set_cons_zero, List.set_cons_succ])
    refine wpAnyH_take (i := 5) (oi := ?or_5) (v := ?vr_5) ?hr_5 (by kernel_rfl) (by kernel_rfl) (by kernel_rfl) ?qr_5 ?yr_5 (by assumption) ?_
    case hr_5 => (first | (simp only [List.getElem?_toArray, List.getElem?_cons_zero, List.getElem?_cons_succ]; done) | (simp only [List.getElem?_toArray, List.getElem?_cons_zero, List.getElem?_cons_succ]; exact rfl))
    case qr_5 => exact fun _ _ _ h => h
    case yr_5 => (refine Or.inl ⟨rfl, ?_⟩; intro w hSw; (try dsimp only at hSw); go_simp; (try with_reducible rfl))
    (try simp only [Act.put, List.setIfInBounds_toArray, List.set_cons_zero, List.set_cons_succ])
    refine wpAnyH_take (i := 6) (oi := ?or_6) (v := .agg #[.int .u64 x.sp, .int .u64 x.su, .int .u64 x.sd]) ?hr_6 (by kernel_rfl) (by kernel_rfl) (by kernel_rfl) ?qr_6 ?yr_6 (by assumption) ?_
    case hr_6 => (first | (simp only [List.getElem?_toArray, List.getElem?_cons_zero, List.getElem?_cons_succ]; done) | (simp only [List.getElem?_toArray, List.getElem?_cons_zero, List.getElem?_cons_succ]; exact rfl))
    case qr_6 => exact fun _ _ _ h => h
    case yr_6 => (refine Or.inl ⟨rfl, ?_⟩; intro w hSw; (try dsimp only at hSw); go_simp; (try with_reducible rfl))
    (try simp only [Act.put, List.setIfInBounds_toArray, List.set_cons_zero, List.set_cons_succ])
    refine wpAnyH_take (i := 8) (oi := ?or_8) (v := ?vr_8) ?hr_8 (by kernel_rfl) (by kernel_rfl) (by kernel_rfl) ?qr_8 ?yr_8 (by assumption) ?_
    case hr_8 => (first | (simp only [List.getElem?_toArray, List.getElem?_cons_zero, List.getElem?_cons_succ]; done) | (simp only [List.getElem?_toArray, List.getElem?_cons_zero, List.getElem?_cons_succ]; exact rfl))
    case qr_8 => exact fun _ _ _ h => h
    case yr_8 => (refine Or.inl ⟨rfl, ?_⟩; intro w hSw; (try dsimp only at hSw); go_simp; (try with_reducible rfl))
    (try simp only [Act.put, List.setIfInBounds_toArray, List.set_cons_zero, List.set_cons_succ])
    refine wpAnyH_take (i := 9) (oi := ?or_9) (v := .int .i64 c.dr) ?hr_9 (by kernel_rfl) (by kernel_rfl) (by kernel_rfl) ?qr_9 ?yr_9 (by assumption) ?_
    case hr_9 => (first | (simp only [List.getElem?_toArray, List.getElem?_cons_zero, List.getElem?_cons_succ]; done) | (simp only [List.getElem?_toArray, List.getElem?_cons_zero, List.getElem?_cons_succ]; exact rfl))
    case qr_9 => exact fun _ _ _ h => h
    case yr_9 => (refine Or.inl ⟨rfl, ?_⟩; intro w hSw; (try dsimp only at hSw); go_simp; (try with_reducible rfl))
    (try simp only [Act.put, List.setIfInBounds_toArray, List.set_cons_zero, List.set_cons_succ])
    refine wpAnyH_take (i := 12) (oi := ?or_12) (v := ?vr_12) ?hr_12 (by kernel_rfl) (by kernel_rfl) (by kernel_rfl) ?qr_12 ?yr_12 (by assumption) ?_
    case hr_12 => (first | (simp only [List.getElem?_toArray, List.getElem?_cons_zero, List.getElem?_cons_succ]; done) | (simp only [List.getElem?_toArray, List.getElem?_cons_zero, List.getElem?_cons_succ]; exact rfl))
    case qr_12 => exact fun _ _ _ h => h
    case yr_12 => (refine Or.inl ⟨rfl, ?_⟩; intro w hSw; (try dsimp only at hSw); go_simp; (try with_reducible rfl))
    (try simp only [Act.put, List.setIfInBounds_toArray, List.set_cons_zero, List.set_cons_succ])
    refine wpAnyH_take (i := 13) (oi := ?or_13) (v := .int .i64 c.dw) ?hr_13 (by kernel_rfl) (by kernel_rfl) (by kernel_rfl) ?qr_13 ?yr_13 (by assumption) ?_
    case hr_13 => (first | (simp only [List.getElem?_toArray, List.getElem?_cons_zero, List.getElem?_cons_succ]; done) | (simp only [List.getElem?_toArray, List.getElem?_cons_zero, List.getElem?_cons_succ]; exact rfl))
    case qr_13 => exact fun _ _ _ h => h
    case yr_13 => (refine Or.inl ⟨rfl, ?_⟩; intro w hSw; (try dsimp only at hSw); go_simp; (try with_reducible rfl))
    (try simp only [Act.put, List.setIfInBounds_toArray, List.set_cons_zero, List.set_cons_succ])
    refine wpAnyH_ready (rs := [4]) (by kernel_rfl) (by simp) ?_
    refine AllReadyH.cons (o := ?or_4) ?hr_4 (fun K hK => ?_) AllReadyH.nil
    case hr_4 => (first | (simp only [List.getElem?_toArray, List.getElem?_cons_zero, List.getElem?_cons_succ]; done) | (simp only [List.getElem?_toArray, List.getElem?_cons_zero, List.getElem?_cons_succ]; exact rfl))
    (try go_simp)
    (go_at_call 68; refine (farR x.un f (by omega) (by omega) (by omega) (by omega) _).mono ?_; rintro e w' ⟨rfl, rfl⟩)
    (try go_wp2_with fail)
    refine hK.out _ _ ?_ (fun hHeld2 => ?_)
    · first | exact HRD.out | exact hHeld | (apply HRK.out; assumption; assumption)
    clear hK K hHeld
    have hHeld := hHeld2
    clear hHeld2
    (try simp only [Act.put, List.setIfInBounds_toArray, List.set_cons_zero, List.set_cons_succ])
    refine wpAnyH_ready (rs := [7]) (by kernel_rfl) (by simp) ?_
    refine AllReadyH.cons (o := ?or_7) ?hr_7 (fun K hK => ?_) AllReadyH.nil
    case hr_7 => (first | (simp only [List.getElem?_toArray, List.getElem?_cons_zero, List.getElem?_cons_succ]; done) | (simp only [List.getElem?_toArray, List.getElem?_cons_zero, List.getElem?_cons_succ]; exact rfl))
    (try go_simp)
    (go_at_call 69; refine (onesR x.sp x.su x.sd hp hu hdd _).mono ?_; rintro e w9 ⟨rfl, hb9⟩)
    (try go_wp2_with fail)
    refine hK.out _ _ ?_ (fun hHeld2 => ?_)
    · first | exact HRD.out | exact hHeld | (apply HRK.out; assumption; assumption)
    clear hK K hHeld
    have hHeld := hHeld2
    clear hHeld2
    (try simp only [Act.put, List.setIfInBounds_toArray, List.set_cons_zero, List.set_cons_succ])
    refine wpAnyH_ready (rs := [10]) (by kernel_rfl) (by simp) ?_
    refine AllReadyH.cons (o := ?or_10) ?hr_10 (fun K hK => ?_) AllReadyH.nil
    case hr_10 => (first | (simp only [List.getElem?_toArray, List.getElem?_cons_zero, List.getElem?_cons_succ]; done) | (simp only [List.getElem?_toArray, List.getElem?_cons_zero, List.getElem?_cons_succ]; exact rfl))
    (try go_simp)
    (go_at_call 70; refine (spanR _ _).mono ?_; rintro e w' ⟨rfl, rfl⟩)
    (try go_wp2_with fail)
    refine hK.out _ _ ?_ (fun hHeld2 => ?_)
    · first | exact HRD.out | exact hHeld | (apply HRK.out; assumption; assumption)
    clear hK K hHeld
    have hHeld := hHeld2
    clear hHeld2
    (try simp only [Act.put, List.setIfInBounds_toArray, List.set_cons_zero, List.set_cons_succ])
    refine wpAnyH_take (i := 11) (oi := ?or_11) (v := ?vr_11) ?hr_11 (by kernel_rfl) (by kernel_rfl) (by kernel_rfl) ?qr_11 ?yr_11 (by assumption) ?_
    case hr_11 => (first | (simp only [List.getElem?_toArray, List.getElem?_cons_zero, List.getElem?_cons_succ]; done) | (simp only [List.getElem?_toArray, List.getElem?_cons_zero, List.getElem?_cons_succ]; exact rfl))
    case qr_11 => exact fun _ _ _ h => h
    case yr_11 => (refine Or.inl ⟨rfl, ?_⟩; intro w hSw; (try dsimp only at hSw); go_simp; (try with_reducible rfl))
    (try simp only [Act.put, List.setIfInBounds_toArray, List.set_cons_zero, List.set_cons_succ])
    refine wpAnyH_ready (rs := [14]) (by kernel_rfl) (by simp) ?_
    refine AllReadyH.cons (o := ?or_14) ?hr_14 (fun K hK => ?_) AllReadyH.nil
    case hr_14 => (first | (simp only [List.getElem?_toArray, List.getElem?_cons_zero, List.getElem?_cons_succ]; done) | (simp only [List.getElem?_toArray, List.getElem?_cons_zero, List.getElem?_cons_succ]; exact rfl))
    (try go_simp)
    (go_at_call 70; refine (spanR _ _).mono ?_; rintro e w' ⟨rfl, rfl⟩)
    (try go_wp2_with fail)
    refine hK.out _ _ ?_ (fun hHeld2 => ?_)
    · first | exact HRD.out | exact hHeld | (apply HRK.out; assumption; assumption)
    clear hK K hHeld
    have hHeld := hHeld2
    clear hHeld2
    (try simp only [Act.put, List.setIfInBounds_toArray, List.set_cons_zero, List.set_cons_succ])
    refine wpAnyH_take (i := 15) (oi := ?or_15) (v := ?vr_15) ?hr_15 (by kernel_rfl) (by kernel_rfl) (by kernel_rfl) ?qr_15 ?yr_15 (by assumption) ?_
    case hr_15 => (first | (simp only [List.getElem?_toArray, List.getElem?_cons_zero, List.getElem?_cons_succ]; done) | (simp only [List.getElem?_toArray, List.getElem?_cons_zero, List.getElem?_cons_succ]; exact rfl))
    case qr_15 => exact fun _ _ _ h => h
    case yr_15 => (refine Or.inl ⟨rfl, ?_⟩; intro w hSw; (try dsimp only at hSw); go_simp; (try with_reducible rfl))
    (try simp only [Act.put, List.setIfInBounds_toArray, List.set_cons_zero, List.set_cons_succ])
    refine wpAnyH_take (i := 16) (oi := ?or_16) (v := ?vr_16) ?hr_16 (by kernel_rfl) (by kernel_rfl) (by kernel_rfl) ?qr_16 ?yr_16 (by assumption) ?_
    case hr_16 => (first | (simp only [List.getElem?_toArray, List.getElem?_cons_zero, List.getElem?_cons_succ]; done) | (simp only [List.getElem?_toArray, List.getElem?_cons_zero, List.getElem?_cons_succ]; exact rfl))
    case qr_16 => exact fun _ _ _ h => h
    case yr_16 => (refine Or.inl ⟨rfl, ?_⟩; intro w hSw; (try dsimp only at hSw); go_simp; (try with_reducible rfl))
    (try simp only [Act.put, List.setIfInBounds_toArray, List.set_cons_zero, List.set_cons_succ])
    refine wpAnyH_take (i := 17) (oi := ?or_17) (v := ?vr_17) ?hr_17 (by kernel_rfl) (by kernel_rfl) (by kernel_rfl) ?qr_17 ?yr_17 (by assumption) ?_
    case hr_17 => (first | (simp only [List.getElem?_toArray, List.getElem?_cons_zero, List.getElem?_cons_succ]; done) | (simp only [List.getElem?_toArray, List.getElem?_cons_zero, List.getElem?_cons_succ]; exact rfl))
    case qr_17 => exact fun _ _ _ h => h
    case yr_17 => (refine Or.inl ⟨rfl, ?_⟩; intro w hSw; (try dsimp only at hSw); go_simp; (try with_reducible rfl))
    (try simp only [Act.put, List.setIfInBounds_toArray, List.set_cons_zero, List.set_cons_succ])
    refine wpAnyH_take (i := 18) (oi := ?or_18) (v := ?vr_18) ?hr_18 (by kernel_rfl) (by kernel_rfl) (by kernel_rfl) ?qr_18 ?yr_18 (by assumption) ?_
    case hr_18 => (first | (simp only [List.getElem?_toArray, List.getElem?_cons_zero, List.getElem?_cons_succ]; done) | (simp only [List.getElem?_toArray, List.getElem?_cons_zero, List.getElem?_cons_succ]; exact rfl))
    case qr_18 => exact fun _ _ _ h => h
    case yr_18 => (refine Or.inl ⟨rfl, ?_⟩; intro w hSw; (try dsimp only at hSw); go_simp; (try with_reducible rfl))
    (try simp only [Act.put, List.setIfInBounds_toArray, List.set_cons_zero, List.set_cons_succ])
    refine wpAnyH_done (by kernel_rfl) ?_ _
    obtain ⟨hs2, _⟩ := hHeld
    have HS2 := Lib.hid hs2
    clear hs2 HRK HRD
    go_wp2_with fail
    go_meet
    case rel => exact ⟨by unfold baV stV; unfold stV at p0 p1; simp (disch := omega) only [wr], Lib.hid HS2.out⟩
  case rest =>
    obtain ⟨rfl, H3⟩ := hcut
    replace q0 := keep_cell H3.out q0
    replace q1 := keep_cell H3.out q1
    replace q2 := keep_cell H3.out q2
    replace q3 := keep_cell H3.out q3
    replace q4 := keep_cell H3.out q4
    replace q5 := keep_cell H3.out q5
    replace q6 := keep_cell H3.out q6
    replace q7 := keep_cell H3.out q7
    replace q8 := keep_cell H3.out q8
    replace q9 := keep_cell H3.out q9
    have HS3 := Lib.hid (HS1.out.trans H3.out)
    clear H3 HS1 q1 q2 q5 q6 q7
    generalize wc = w3 at *
    generalize hwy : x.wy = wy at *
    generalize hun : x.un = un at *
    by_cases a0 : wy = 0
    · have k0 : (wy == 0) = true := by simpa using a0
      have HV := Lib.hid (show coV c x f cw = baV c x f by unfold coV; rw [hwy, hun, HON.out]; rw [if_pos (decide_eq_true (by exact .inl a0))])
      skip
      go_wp2
      go_ret
      exact ⟨ret_int HV.out.symm, HS3.out⟩
    · have k0 : (wy == 0) = false := by simpa using a0
      by_cases a1 : wy = cw
      · subst a1
        have k1 : (wy == wy) = true := by simp
        rcases k with k | k <;> have HK := Lib.hid k
        · have k2 : (wy == 1) = true := by rw [k]; rfl
          have k3 : (wy == 2) = false := by rw [k]; rfl
          by_cases a2 : un ≤ 4 * f
          · have k4 : decide (un ≤ 4 * f) = true := decide_eq_true a2
            have HV := Lib.hid (show coV c x f wy = baV c x f by unfold coV; rw [hwy, hun, HON.out]; rw [if_pos (decide_eq_true (by omega))])
            skip
            go_wp2
            go_ret
            first | exact ⟨ret_int HV.out.symm, HS3.out⟩ | exact ⟨ret_int (HV.out.symm.trans (by rw [HK.out])), HS3.out⟩
          · have k4 : decide (un ≤ 4 * f) = false := decide_eq_false a2
            have HV := Lib.hid (show coV c x f wy = baV c x f + 8 * (fl c.fl - 1) by unfold coV; rw [hwy, hun, HON.out]; rw [if_neg (by rw [decide_eq_true_eq]; omega)])
            skip
            go_wp2_with fail
            refine (floorsR _ _).mono ?_
            rintro e w' ⟨rfl, rfl⟩
            go_wp2
            go_ret
            first | exact ⟨ret_int HV.out.symm, HS3.out⟩ | exact ⟨ret_int (HV.out.symm.trans (by rw [HK.out])), HS3.out⟩
        · have k2 : (wy == 1) = false := by rw [k]; rfl
          have k3 : (wy == 2) = true := by rw [k]; rfl
          by_cases a2 : 4 * f ≤ un
          · have k4 : decide (4 * f ≤ un) = true := decide_eq_true a2
            have HV := Lib.hid (show coV c x f wy = baV c x f by unfold coV; rw [hwy, hun, HON.out]; rw [if_pos (decide_eq_true (by omega))])
            skip
            go_wp2
            go_ret
            first | exact ⟨ret_int HV.out.symm, HS3.out⟩ | exact ⟨ret_int (HV.out.symm.trans (by rw [HK.out])), HS3.out⟩
          · have k4 : decide (4 * f ≤ un) = false := decide_eq_false a2
            have HV := Lib.hid (show coV c x f wy = baV c x f + 8 * (fl c.fl - 1) by unfold coV; rw [hwy, hun, HON.out]; rw [if_neg (by rw [decide_eq_true_eq]; omega)])
            skip
            go_wp2_with fail
            refine (floorsR _ _).mono ?_
            rintro e w' ⟨rfl, rfl⟩
            go_wp2
            go_ret
            first | exact ⟨ret_int HV.out.symm, HS3.out⟩ | exact ⟨ret_int (HV.out.symm.trans (by rw [HK.out])), HS3.out⟩
      · have k1 : (wy == cw) = false := by simpa using a1
        have HV := Lib.hid (show coV c x f cw = baV c x f + 8 * (fl c.fl - 1) by unfold coV; rw [hwy, hun, HON.out]; rw [if_neg (by rw [decide_eq_true_eq]; omega)])
        skip
        go_wp2_with fail
        refine (floorsR _ _).mono ?_
        rintro e w' ⟨rfl, rfl⟩
        go_wp2
        go_ret
        exact ⟨ret_int HV.out.symm, HS3.out⟩
end Go.Proofs.Ytfbnmoegdbdhjaa.Et
