/-
  EtaMore, walked (layer 15).
  Conditions: each argument fits its kind.
-/
import Derived.Test.YtfbnmoegdbdhjaaEta3
import Derived.BigRegion
namespace Go.Proofs.Ytfbnmoegdbdhjaa.Et
set_option linter.unusedVariables false
set_option linter.unusedSimpArgs false
open Go.RowKit Go.Proofs.Ytfbnmoegdbdhjaa.Ba Go.Proofs.Ytfbnmoegdbdhjaa.Mo Go.Proofs.Ytfbnmoegdbdhjaa.Ty Go.Proofs.Ytfbnmoegdbdhjaa.Mem Go.Proofs.Ytfbnmoegdbdhjaa.St
open Go.Proofs.Ytfbnmoegdbdhjaa.Do (hd hd_lo hd_hi spanR)
set_option maxRecDepth 100000
theorem up_mono (x z : Int) (h : ∀ i, tb x i = true → tb z i = true) : ∀ k : Nat, up x k ≤ up z k
  | 0 => by simp [up]
  | k + 1 => by
    have ih := up_mono x z h k
    have hk := h k
    unfold up
    cases hx : tb x k
    · simp; split <;> omega
    · rw [hx] at hk; rw [hk rfl]; simp; omega
theorem cn_or {x y : Int} (hx : R x) (hy : R y) : cn x ≤ cn (bits .or .u64 x y) := by
  rw [← up_cn x hx, ← up_cn _ (or_R hx hy)]
  exact up_mono _ _ (fun i hi => by rw [or_tb hx hy, hi]; rfl) 64
theorem co_more (c : CfgV) (x : CarV) (f cw b : Int) (hp : R x.sp) : coV c x f cw ≤ coV c ({ x with sp := bits .or .u64 x.sp (bit b) } : CarV) f cw := by
  have h := cn_or hp (bit_R b)
  have s := st_bd c
  have m : (cn x.sp + cn x.su + cn x.sd) * stV c ≤ (cn (bits .or .u64 x.sp (bit b)) + cn x.su + cn x.sd) * stV c := Int.mul_le_mul_of_nonneg_right (by omega) s.1
  unfold coV baV
  show (if onB x.wy cw (tw x.un f) = true then _ else _) ≤ (if onB x.wy cw (tw x.un f) = true then _ else _)
  split <;> (simp only []; omega)
theorem bestN (c : CfgV) (f cw : Int) (w : World) : Calls Try.prog 44 #[.agg #[.int .i64 c.ca, .int .i64 c.fl, .int .i64 c.ft, .int .i64 c.se, .int .i64 c.dr, .int .i64 c.dw, .int .i64 c.ho, .int .i64 c.re, .int .i64 c.yi, .int .i64 c.qu, .int .i64 c.qo, .int .i64 c.lo, .int .i64 c.sl, .int .i64 c.rt, .int .i64 c.cp, .int .i64 c.tr, .int .i64 c.de, .int .i64 c.wi], .slice none 0 0, .agg #[.int .i64 f, .int .i64 cw]] w fun e w' => e = .returned (.int .i64 (-1)) ∧ Since w w' := by
  go_enter Try.func44, Try.ntmps44
  go_wp2_with fail
  refine wp_loop_rounds 1 ?_
  rw [rounds_succ]
  go_wp2
  go_ret
  exact ⟨rfl, (by repeat (first | exact Since.refl _ | assumption | refine Since.setCell ?_ (by first | (simp; done) | (simp; omega)) _ | refine Since.drew ?_ | refine Since.drewN ?_ _ | refine Since.alloc ?_ _ | refine Since.trans ?_ (by assumption) | refine Since.trans ?_ (Hid.out (by assumption))))⟩
set_option maxHeartbeats 1000000 in
theorem bestZ (c : CfgV) (x : CarV) (f cw : Int) (w : World) (g : Nat) (B : Blk w g 30 #[.int .i64 x.ds, .int .i64 x.da, .int .i64 x.un, .int .i64 x.wy, .int .i64 x.ti, .int .i64 x.ju, .int .i64 x.lo, .bool x.bl, .bool true, .int .i64 x.mo, .int .i64 x.ta, .bool x.ho, .int .u64 x.sp, .int .u64 x.su, .int .u64 x.sd]) : Calls Try.prog 44 #[.agg #[.int .i64 c.ca, .int .i64 c.fl, .int .i64 c.ft, .int .i64 c.se, .int .i64 c.dr, .int .i64 c.dw, .int .i64 c.ho, .int .i64 c.re, .int .i64 c.yi, .int .i64 c.qu, .int .i64 c.qo, .int .i64 c.lo, .int .i64 c.sl, .int .i64 c.rt, .int .i64 c.cp, .int .i64 c.tr, .int .i64 c.de, .int .i64 c.wi], .slice (some ⟨g, 0, none⟩) 1 1, .agg #[.int .i64 f, .int .i64 cw]] w fun e w' => e = .returned (.int .i64 (-1)) ∧ Since w w' := by
  obtain ⟨ds, da, un, wy, ti, ju, lo, bl, br, mo, ta, ho, sp, su, sd⟩ := x
  have l0 : w.cell? ⟨g, 0, none⟩ = some (.int .i64 ds) := B.cell 0
  have l1 : w.cell? ⟨g, 1, none⟩ = some (.int .i64 da) := B.cell 1
  have l2 : w.cell? ⟨g, 2, none⟩ = some (.int .i64 un) := B.cell 2
  have l3 : w.cell? ⟨g, 3, none⟩ = some (.int .i64 wy) := B.cell 3
  have l4 : w.cell? ⟨g, 4, none⟩ = some (.int .i64 ti) := B.cell 4
  have l5 : w.cell? ⟨g, 5, none⟩ = some (.int .i64 ju) := B.cell 5
  have l6 : w.cell? ⟨g, 6, none⟩ = some (.int .i64 lo) := B.cell 6
  have l7 : w.cell? ⟨g, 7, none⟩ = some (.bool bl) := B.cell 7
  have l8 : w.cell? ⟨g, 8, none⟩ = some (.bool true) := B.cell 8
  have l9 : w.cell? ⟨g, 9, none⟩ = some (.int .i64 mo) := B.cell 9
  have l10 : w.cell? ⟨g, 10, none⟩ = some (.int .i64 ta) := B.cell 10
  have l11 : w.cell? ⟨g, 11, none⟩ = some (.bool ho) := B.cell 11
  have l12 : w.cell? ⟨g, 12, none⟩ = some (.int .u64 sp) := B.cell 12
  have l13 : w.cell? ⟨g, 13, none⟩ = some (.int .u64 su) := B.cell 13
  have l14 : w.cell? ⟨g, 14, none⟩ = some (.int .u64 sd) := B.cell 14
  have hg : g < w.heap.size := B.lt
  clear B
  by_cases hm : mo = 0
  · subst hm
    go_enter Try.func44, Try.ntmps44
    go_wp2_with fail
    refine wp_loop_rounds 2 ?_
    rw [rounds_succ]
    go_wp2_with fail
    rw [rounds_succ]
    go_wp2
    go_ret
    exact ⟨rfl, (by repeat (first | exact Since.refl _ | assumption | refine Since.setCell ?_ (by first | (simp; done) | (simp; omega)) _ | refine Since.drew ?_ | refine Since.drewN ?_ _ | refine Since.alloc ?_ _ | refine Since.trans ?_ (by assumption) | refine Since.trans ?_ (Hid.out (by assumption))))⟩
  · have hm' : (mo == 0) = false := by simpa using hm
    have hm2 : (mo != 0) = true := by simpa using hm
    clear hm
    go_enter Try.func44, Try.ntmps44
    go_wp2_with fail
    refine wp_loop_rounds 2 ?_
    rw [rounds_succ]
    go_wp2_with fail
    rw [rounds_succ]
    go_wp2
    go_ret
    exact ⟨rfl, (by repeat (first | exact Since.refl _ | assumption | refine Since.setCell ?_ (by first | (simp; done) | (simp; omega)) _ | refine Since.drew ?_ | refine Since.drewN ?_ _ | refine Since.alloc ?_ _ | refine Since.trans ?_ (by assumption) | refine Since.trans ?_ (Hid.out (by assumption))))⟩
set_option maxHeartbeats 4000000 in
theorem more (c : CfgV) (x : CarV) (f cw f8 : Int) (hp : R x.sp) (hu : R x.su) (hdd : R x.sd) (k0 : 0 ≤ f8) (k1 : f8 ≤ 255) (w : World) : Calls Try.prog 16 #[.agg #[.int .i64 c.ca, .int .i64 c.fl, .int .i64 c.ft, .int .i64 c.se, .int .i64 c.dr, .int .i64 c.dw, .int .i64 c.ho, .int .i64 c.re, .int .i64 c.yi, .int .i64 c.qu, .int .i64 c.qo, .int .i64 c.lo, .int .i64 c.sl, .int .i64 c.rt, .int .i64 c.cp, .int .i64 c.tr, .int .i64 c.de, .int .i64 c.wi], .agg #[.int .i64 x.ds, .int .i64 x.da, .int .i64 x.un, .int .i64 x.wy, .int .i64 x.ti, .int .i64 x.ju, .int .i64 x.lo, .bool x.bl, .bool x.br, .int .i64 x.mo, .int .i64 x.ta, .bool x.ho, .int .u64 x.sp, .int .u64 x.su, .int .u64 x.sd], .agg #[.int .i64 f, .int .i64 cw], .int .u8 f8] w fun e w' => e = .returned (.bool true) ∧ Since w w' := by
  have hfe : IntKind.i64.wrap (f8.tmod 64) = f8 % 64 := by rw [Int.tmod_eq_emod_of_nonneg k0]; exact wr _ (by omega) (by omega)
  have HG := Lib.hid (co_more c x f cw (f8 % 64) hp)
  have hpy := Lib.hid (or_R hp (bit_R (f8 % 64)))
  go_enter Try.func16, Try.ntmps16
  go_upto_region 1 with fail
  obtain ⟨w1, hw1⟩ : ∃ w1, w1 = ((w.alloc (.cells #[.int .i64 c.ca, .int .i64 c.fl, .int .i64 c.ft, .int .i64 c.se, .int .i64 c.dr, .int .i64 c.dw, .int .i64 c.ho, .int .i64 c.re, .int .i64 c.yi, .int .i64 c.qu, .int .i64 c.qo, .int .i64 c.lo, .int .i64 c.sl, .int .i64 c.rt, .int .i64 c.cp, .int .i64 c.tr, .int .i64 c.de, .int .i64 c.wi] 23)).alloc (.cells #[.int .i64 x.ds, .int .i64 x.da, .int .i64 x.un, .int .i64 x.wy, .int .i64 x.ti, .int .i64 x.ju, .int .i64 x.lo, .bool x.bl, .bool x.br, .int .i64 x.mo, .int .i64 x.ta, .bool x.ho, .int .u64 x.sp, .int .u64 x.su, .int .u64 x.sd] 30)).alloc (.cells #[.int .i64 f, .int .i64 cw] 50) := ⟨_, rfl⟩
  rw [← hw1]
  have BC : Blk w1 w.heap.size 23 #[.int .i64 c.ca, .int .i64 c.fl, .int .i64 c.ft, .int .i64 c.se, .int .i64 c.dr, .int .i64 c.dw, .int .i64 c.ho, .int .i64 c.re, .int .i64 c.yi, .int .i64 c.qu, .int .i64 c.qo, .int .i64 c.lo, .int .i64 c.sl, .int .i64 c.rt, .int .i64 c.cp, .int .i64 c.tr, .int .i64 c.de, .int .i64 c.wi] := by rw [hw1]; exact ((Blk.new w _ _).alloc _).alloc _
  have BX : Blk w1 (w.heap.size + 1) 30 #[.int .i64 x.ds, .int .i64 x.da, .int .i64 x.un, .int .i64 x.wy, .int .i64 x.ti, .int .i64 x.ju, .int .i64 x.lo, .bool x.bl, .bool x.br, .int .i64 x.mo, .int .i64 x.ta, .bool x.ho, .int .u64 x.sp, .int .u64 x.su, .int .u64 x.sd] := by rw [hw1]; have h := (Blk.new (w.alloc (.cells #[.int .i64 c.ca, .int .i64 c.fl, .int .i64 c.ft, .int .i64 c.se, .int .i64 c.dr, .int .i64 c.dw, .int .i64 c.ho, .int .i64 c.re, .int .i64 c.yi, .int .i64 c.qu, .int .i64 c.qo, .int .i64 c.lo, .int .i64 c.sl, .int .i64 c.rt, .int .i64 c.cp, .int .i64 c.tr, .int .i64 c.de, .int .i64 c.wi] 23)) 30 #[.int .i64 x.ds, .int .i64 x.da, .int .i64 x.un, .int .i64 x.wy, .int .i64 x.ti, .int .i64 x.ju, .int .i64 x.lo, .bool x.bl, .bool x.br, .int .i64 x.mo, .int .i64 x.ta, .bool x.ho, .int .u64 x.sp, .int .u64 x.su, .int .u64 x.sd]).alloc (.cells #[.int .i64 f, .int .i64 cw] 50); simpa using h
  have BL : Blk w1 (w.heap.size + 2) 50 #[.int .i64 f, .int .i64 cw] := by rw [hw1]; have h := Blk.new ((w.alloc (.cells #[.int .i64 c.ca, .int .i64 c.fl, .int .i64 c.ft, .int .i64 c.se, .int .i64 c.dr, .int .i64 c.dw, .int .i64 c.ho, .int .i64 c.re, .int .i64 c.yi, .int .i64 c.qu, .int .i64 c.qo, .int .i64 c.lo, .int .i64 c.sl, .int .i64 c.rt, .int .i64 c.cp, .int .i64 c.tr, .int .i64 c.de, .int .i64 c.wi] 23)).alloc (.cells #[.int .i64 x.ds, .int .i64 x.da, .int .i64 x.un, .int .i64 x.wy, .int .i64 x.ti, .int .i64 x.ju, .int .i64 x.lo, .bool x.bl, .bool x.br, .int .i64 x.mo, .int .i64 x.ta, .bool x.ho, .int .u64 x.sp, .int .u64 x.su, .int .u64 x.sd] 30)) 50 #[.int .i64 f, .int .i64 cw]; simpa using h
  have HS1 := Lib.hid (show Since w w1 by rw [hw1]; exact (((Since.refl _).alloc _).alloc _).alloc _)
  clear hw1
  have HBC := Lib.hid BC; have HBX := Lib.hid BX; have HBL := Lib.hid BL; clear BC BX BL
  go_wp2_with (first | (refine wpList_load_row rfl 30 _ rfl _ rfl 30 _ (0, 0) _ HBX.out Try.underlying30 rfl (by kernel_rfl) ?_) | (refine wpList_load_row rfl 50 _ rfl _ rfl 50 _ (0, 0) _ HBL.out Try.underlying50 rfl (by kernel_rfl) ?_))
  refine (withinT x f cw _).mono ?_
  rintro e w2 ⟨rfl, hb2⟩
  have HC2 := Lib.hid (keep_blk hb2 HBC.out); have HX2 := Lib.hid (keep_blk hb2 HBX.out); have HL2 := Lib.hid (keep_blk hb2 HBL.out); have HS2 := Lib.hid (HS1.out.trans hb2); clear hb2 HBC HBX HBL HS1
  cases hw : wiB x.un x.wy f cw
  · clear HC2 HX2 HL2
    go_wp2_with fail
    refine (ans _).mono ?_
    rintro e w3 ⟨rfl, hb3⟩
    go_wp2
    go_ret
    exact ⟨rfl, HS2.out.trans hb3⟩
  · obtain ⟨h0, h1, g0, g1, v0, v1, y0, y1⟩ := (wiB_iff _ _ _ _).1 hw
    go_wp2_with (refine wpList_load_row rfl 30 _ rfl _ rfl 30 _ (0, 0) _ HX2.out Try.underlying30 rfl (by kernel_rfl) ?_)
    go_cut [9] (fun s9 wx => s9 = .pointer (some ⟨w2.heap.size, 0, none⟩) ∧ Hid (Since w2 wx ∧ Blk wx w2.heap.size 30 #[.int .i64 x.ds, .int .i64 x.da, .int .i64 x.un, .int .i64 x.wy, .int .i64 x.ti, .int .i64 x.ju, .int .i64 x.lo, .bool x.bl, .bool x.br, .int .i64 x.mo, .int .i64 x.ta, .bool x.ho, .int .u64 (bits .or .u64 x.sp (bit (f8 % 64))), .int .u64 x.su, .int .u64 x.sd]))
    case first =>
      go_region_with (first | (go_at_call 24; refine (bitR _ _).mono ?_; rintro e w' ⟨rfl, rfl⟩))
      all_goals
        go_wp2_with fail
        (try simp only [hfe])
        go_meet
        case rel => first | exact ⟨rfl, Lib.hid ⟨((Since.refl w2).alloc _).drew, (Blk.new w2 _ _).drew⟩⟩ | exact ⟨rfl, Lib.hid ⟨(Since.refl w2).alloc _, Blk.new w2 _ _⟩⟩ | exact ⟨rfl, Lib.hid ⟨(((Since.refl w2).alloc _).setCell (by simp) _).drew, ((Blk.new w2 _ _).set_ 12 _).drew⟩⟩ | exact ⟨rfl, Lib.hid ⟨(((Since.refl w2).alloc _).drew.setCell (by simp) _), ((Blk.new w2 _ _).drew.set_ 12 _)⟩⟩
    case rest =>
      obtain ⟨rfl, H3⟩ := hcut
      have HY3 := Lib.hid H3.out.2; have HC3 := Lib.hid (keep_blk H3.out.1 HC2.out); have HX3 := Lib.hid (keep_blk H3.out.1 HX2.out); have HL3 := Lib.hid (keep_blk H3.out.1 HL2.out); have HS3 := Lib.hid (HS2.out.trans H3.out.1); clear H3 HC2 HX2 HL2 HS2
      generalize wc = w3 at *
      go_upto_region 7 with (refine wpList_load_row rfl 30 _ rfl _ rfl 30 _ (0, 0) _ HX3.out Try.underlying30 rfl (by kernel_rfl) ?_)
      obtain ⟨w5, hw5⟩ : ∃ w5, w5 = w3.alloc (.cells #[.int .i64 x.ds, .int .i64 x.da, .int .i64 x.un, .int .i64 x.wy, .int .i64 x.ti, .int .i64 x.ju, .int .i64 x.lo, .bool x.bl, .bool true, .int .i64 x.mo, .int .i64 x.ta, .bool x.ho, .int .u64 x.sp, .int .u64 x.su, .int .u64 x.sd] 30) := ⟨_, rfl⟩
      rw [← hw5]
      have hb5 : Since w3 w5 := by rw [hw5]; exact (Since.refl w3).alloc _
      have BZ : Blk w5 w3.heap.size 30 #[.int .i64 x.ds, .int .i64 x.da, .int .i64 x.un, .int .i64 x.wy, .int .i64 x.ti, .int .i64 x.ju, .int .i64 x.lo, .bool x.bl, .bool true, .int .i64 x.mo, .int .i64 x.ta, .bool x.ho, .int .u64 x.sp, .int .u64 x.su, .int .u64 x.sd] := by rw [hw5]; exact Blk.new w3 _ _
      have BC := keep_blk hb5 HC3.out; have BX := keep_blk hb5 HX3.out; have BL := keep_blk hb5 HL3.out; have BY := keep_blk hb5 HY3.out; have HS5 := Lib.hid (HS3.out.trans hb5); clear hb5 hw5 HC3 HX3 HL3 HY3 HS3
      have hge : decide (coV c x f cw ≤ coV c ({ x with sp := bits .or .u64 x.sp (bit (f8 % 64)) } : CarV) f cw) = true := decide_eq_true HG.out
      have hrK : ∀ W W' : World, Since W W' → (Since w5 W ∧ Blk W (w.heap.size) 23 #[.int .i64 c.ca, .int .i64 c.fl, .int .i64 c.ft, .int .i64 c.se, .int .i64 c.dr, .int .i64 c.dw, .int .i64 c.ho, .int .i64 c.re, .int .i64 c.yi, .int .i64 c.qu, .int .i64 c.qo, .int .i64 c.lo, .int .i64 c.sl, .int .i64 c.rt, .int .i64 c.cp, .int .i64 c.tr, .int .i64 c.de, .int .i64 c.wi] ∧ Blk W (w.heap.size + 1) 30 #[.int .i64 x.ds, .int .i64 x.da, .int .i64 x.un, .int .i64 x.wy, .int .i64 x.ti, .int .i64 x.ju, .int .i64 x.lo, .bool x.bl, .bool x.br, .int .i64 x.mo, .int .i64 x.ta, .bool x.ho, .int .u64 x.sp, .int .u64 x.su, .int .u64 x.sd] ∧ Blk W (w.heap.size + 2) 50 #[.int .i64 f, .int .i64 cw] ∧ Blk W (w2.heap.size) 30 #[.int .i64 x.ds, .int .i64 x.da, .int .i64 x.un, .int .i64 x.wy, .int .i64 x.ti, .int .i64 x.ju, .int .i64 x.lo, .bool x.bl, .bool x.br, .int .i64 x.mo, .int .i64 x.ta, .bool x.ho, .int .u64 (bits .or .u64 x.sp (bit (f8 % 64))), .int .u64 x.su, .int .u64 x.sd] ∧ Blk W (w3.heap.size) 30 #[.int .i64 x.ds, .int .i64 x.da, .int .i64 x.un, .int .i64 x.wy, .int .i64 x.ti, .int .i64 x.ju, .int .i64 x.lo, .bool x.bl, .bool true, .int .i64 x.mo, .int .i64 x.ta, .bool x.ho, .int .u64 x.sp, .int .u64 x.su, .int .u64 x.sd]) → (Since w5 W' ∧ Blk W' (w.heap.size) 23 #[.int .i64 c.ca, .int .i64 c.fl, .int .i64 c.ft, .int .i64 c.se, .int .i64 c.dr, .int .i64 c.dw, .int .i64 c.ho, .int .i64 c.re, .int .i64 c.yi, .int .i64 c.qu, .int .i64 c.qo, .int .i64 c.lo, .int .i64 c.sl, .int .i64 c.rt, .int .i64 c.cp, .int .i64 c.tr, .int .i64 c.de, .int .i64 c.wi] ∧ Blk W' (w.heap.size + 1) 30 #[.int .i64 x.ds, .int .i64 x.da, .int .i64 x.un, .int .i64 x.wy, .int .i64 x.ti, .int .i64 x.ju, .int .i64 x.lo, .bool x.bl, .bool x.br, .int .i64 x.mo, .int .i64 x.ta, .bool x.ho, .int .u64 x.sp, .int .u64 x.su, .int .u64 x.sd] ∧ Blk W' (w.heap.size + 2) 50 #[.int .i64 f, .int .i64 cw] ∧ Blk W' (w2.heap.size) 30 #[.int .i64 x.ds, .int .i64 x.da, .int .i64 x.un, .int .i64 x.wy, .int .i64 x.ti, .int .i64 x.ju, .int .i64 x.lo, .bool x.bl, .bool x.br, .int .i64 x.mo, .int .i64 x.ta, .bool x.ho, .int .u64 (bits .or .u64 x.sp (bit (f8 % 64))), .int .u64 x.su, .int .u64 x.sd] ∧ Blk W' (w3.heap.size) 30 #[.int .i64 x.ds, .int .i64 x.da, .int .i64 x.un, .int .i64 x.wy, .int .i64 x.ti, .int .i64 x.ju, .int .i64 x.lo, .bool x.bl, .bool true, .int .i64 x.mo, .int .i64 x.ta, .bool x.ho, .int .u64 x.sp, .int .u64 x.su, .int .u64 x.sd]) := fun W W' k ⟨h, h0, h1, h2, h3, h4⟩ => ⟨h.trans k, keep_blk k h0, keep_blk k h1, keep_blk k h2, keep_blk k h3, keep_blk k h4⟩
      have hrS : (fun W : World => Since w5 W ∧ Blk W (w.heap.size) 23 #[.int .i64 c.ca, .int .i64 c.fl, .int .i64 c.ft, .int .i64 c.se, .int .i64 c.dr, .int .i64 c.dw, .int .i64 c.ho, .int .i64 c.re, .int .i64 c.yi, .int .i64 c.qu, .int .i64 c.qo, .int .i64 c.lo, .int .i64 c.sl, .int .i64 c.rt, .int .i64 c.cp, .int .i64 c.tr, .int .i64 c.de, .int .i64 c.wi] ∧ Blk W (w.heap.size + 1) 30 #[.int .i64 x.ds, .int .i64 x.da, .int .i64 x.un, .int .i64 x.wy, .int .i64 x.ti, .int .i64 x.ju, .int .i64 x.lo, .bool x.bl, .bool x.br, .int .i64 x.mo, .int .i64 x.ta, .bool x.ho, .int .u64 x.sp, .int .u64 x.su, .int .u64 x.sd] ∧ Blk W (w.heap.size + 2) 50 #[.int .i64 f, .int .i64 cw] ∧ Blk W (w2.heap.size) 30 #[.int .i64 x.ds, .int .i64 x.da, .int .i64 x.un, .int .i64 x.wy, .int .i64 x.ti, .int .i64 x.ju, .int .i64 x.lo, .bool x.bl, .bool x.br, .int .i64 x.mo, .int .i64 x.ta, .bool x.ho, .int .u64 (bits .or .u64 x.sp (bit (f8 % 64))), .int .u64 x.su, .int .u64 x.sd] ∧ Blk W (w3.heap.size) 30 #[.int .i64 x.ds, .int .i64 x.da, .int .i64 x.un, .int .i64 x.wy, .int .i64 x.ti, .int .i64 x.ju, .int .i64 x.lo, .bool x.bl, .bool true, .int .i64 x.mo, .int .i64 x.ta, .bool x.ho, .int .u64 x.sp, .int .u64 x.su, .int .u64 x.sd]) (w5) := ⟨Since.refl _, by first | assumption | (simp; done), by first | assumption | (simp; done), by first | assumption | (simp; done), by first | assumption | (simp; done), by first | assumption | (simp; done)⟩
      have HRK := Lib.hid hrK
      have HRD := Lib.hid (show (fun W : World => Since w5 W ∧ Blk W (w.heap.size) 23 #[.int .i64 c.ca, .int .i64 c.fl, .int .i64 c.ft, .int .i64 c.se, .int .i64 c.dr, .int .i64 c.dw, .int .i64 c.ho, .int .i64 c.re, .int .i64 c.yi, .int .i64 c.qu, .int .i64 c.qo, .int .i64 c.lo, .int .i64 c.sl, .int .i64 c.rt, .int .i64 c.cp, .int .i64 c.tr, .int .i64 c.de, .int .i64 c.wi] ∧ Blk W (w.heap.size + 1) 30 #[.int .i64 x.ds, .int .i64 x.da, .int .i64 x.un, .int .i64 x.wy, .int .i64 x.ti, .int .i64 x.ju, .int .i64 x.lo, .bool x.bl, .bool x.br, .int .i64 x.mo, .int .i64 x.ta, .bool x.ho, .int .u64 x.sp, .int .u64 x.su, .int .u64 x.sd] ∧ Blk W (w.heap.size + 2) 50 #[.int .i64 f, .int .i64 cw] ∧ Blk W (w2.heap.size) 30 #[.int .i64 x.ds, .int .i64 x.da, .int .i64 x.un, .int .i64 x.wy, .int .i64 x.ti, .int .i64 x.ju, .int .i64 x.lo, .bool x.bl, .bool x.br, .int .i64 x.mo, .int .i64 x.ta, .bool x.ho, .int .u64 (bits .or .u64 x.sp (bit (f8 % 64))), .int .u64 x.su, .int .u64 x.sd] ∧ Blk W (w3.heap.size) 30 #[.int .i64 x.ds, .int .i64 x.da, .int .i64 x.un, .int .i64 x.wy, .int .i64 x.ti, .int .i64 x.ju, .int .i64 x.lo, .bool x.bl, .bool true, .int .i64 x.mo, .int .i64 x.ta, .bool x.ho, .int .u64 x.sp, .int .u64 x.su, .int .u64 x.sd]) (World.drew (w5)) from ⟨(Since.refl _).drew, hrS.2⟩)
      clear hrK hrS
      refine wp_region_held_drew (S := fun W : World => Since w5 W ∧ Blk W (w.heap.size) 23 #[.int .i64 c.ca, .int .i64 c.fl, .int .i64 c.ft, .int .i64 c.se, .int .i64 c.dr, .int .i64 c.dw, .int .i64 c.ho, .int .i64 c.re, .int .i64 c.yi, .int .i64 c.qu, .int .i64 c.qo, .int .i64 c.lo, .int .i64 c.sl, .int .i64 c.rt, .int .i64 c.cp, .int .i64 c.tr, .int .i64 c.de, .int .i64 c.wi] ∧ Blk W (w.heap.size + 1) 30 #[.int .i64 x.ds, .int .i64 x.da, .int .i64 x.un, .int .i64 x.wy, .int .i64 x.ti, .int .i64 x.ju, .int .i64 x.lo, .bool x.bl, .bool x.br, .int .i64 x.mo, .int .i64 x.ta, .bool x.ho, .int .u64 x.sp, .int .u64 x.su, .int .u64 x.sd] ∧ Blk W (w.heap.size + 2) 50 #[.int .i64 f, .int .i64 cw] ∧ Blk W (w2.heap.size) 30 #[.int .i64 x.ds, .int .i64 x.da, .int .i64 x.un, .int .i64 x.wy, .int .i64 x.ti, .int .i64 x.ju, .int .i64 x.lo, .bool x.bl, .bool x.br, .int .i64 x.mo, .int .i64 x.ta, .bool x.ho, .int .u64 (bits .or .u64 x.sp (bit (f8 % 64))), .int .u64 x.su, .int .u64 x.sd] ∧ Blk W (w3.heap.size) 30 #[.int .i64 x.ds, .int .i64 x.da, .int .i64 x.un, .int .i64 x.wy, .int .i64 x.ti, .int .i64 x.ju, .int .i64 x.lo, .bool x.bl, .bool true, .int .i64 x.mo, .int .i64 x.ta, .bool x.ho, .int .u64 x.sp, .int .u64 x.su, .int .u64 x.sd]) (by kernel_rfl) HRD.out (fun hHeld => ?_)
      refine wpAnyH_ready (rs := [0]) (by kernel_rfl) (by simp) ?_
      refine AllReadyH.cons (o := ?o_0) ?h_0 (fun K hK => ?_) AllReadyH.nil
      case h_0 => (first | (simp only [List.getElem?_toArray, List.getElem?_cons_zero, List.getElem?_cons_succ]; done) | (simp only [List.getElem?_toArray, List.getElem?_cons_zero, List.getElem?_cons_succ]; exact rfl))
      (try go_simp)
      (go_at_call 41; refine (ans _).mono ?_; rintro e w9 ⟨rfl, hb9⟩)
      (try go_wp2_with fail)
      refine hK.out _ _ ?_ (fun hHeld2 => ?_)
      · first | exact HRD.out | exact hHeld | exact HRK.out _ _ ((Since.refl _).alloc _) hHeld | (apply HRK.out; assumption; assumption)
      clear hK K hHeld
      have hHeld := hHeld2
      clear hHeld2
      (try simp only [Act.put, List.setIfInBounds_toArray, List.set_cons_zero, List.set_cons_succ])
      refine wpAnyH_take (i := 1) (oi := ?o_1) (v := .bool true) ?h_1 (by kernel_rfl) (by kernel_rfl) (by kernel_rfl) ?q_1 ?y_1 (by assumption) ?_
      case h_1 => (first | (simp only [List.getElem?_toArray, List.getElem?_cons_zero, List.getElem?_cons_succ]; done) | (simp only [List.getElem?_toArray, List.getElem?_cons_zero, List.getElem?_cons_succ]; exact rfl))
      case q_1 => exact fun _ _ _ h => h
      case y_1 => (refine Or.inl ⟨rfl, ?_⟩; intro w hSw; (try dsimp only at hSw); go_simp; (try with_reducible rfl))
      (try simp only [Act.put, List.setIfInBounds_toArray, List.set_cons_zero, List.set_cons_succ])
      refine wpAnyH_take (i := 2) (oi := ?o_2) (v := .agg #[.int .i64 c.ca, .int .i64 c.fl, .int .i64 c.ft, .int .i64 c.se, .int .i64 c.dr, .int .i64 c.dw, .int .i64 c.ho, .int .i64 c.re, .int .i64 c.yi, .int .i64 c.qu, .int .i64 c.qo, .int .i64 c.lo, .int .i64 c.sl, .int .i64 c.rt, .int .i64 c.cp, .int .i64 c.tr, .int .i64 c.de, .int .i64 c.wi]) ?h_2 (by kernel_rfl) (by kernel_rfl) (by kernel_rfl) ?q_2 ?y_2 (by assumption) ?_
      case h_2 => (first | (simp only [List.getElem?_toArray, List.getElem?_cons_zero, List.getElem?_cons_succ]; done) | (simp only [List.getElem?_toArray, List.getElem?_cons_zero, List.getElem?_cons_succ]; exact rfl))
      case q_2 => exact fun _ _ _ h => h
      case y_2 => exact Or.inl ⟨rfl, fun w hSw => exec_load_row 23 (.tmp 4) _ hSw.2.1 rfl rfl Try.underlying23 rfl (by kernel_rfl)⟩
      (try simp only [Act.put, List.setIfInBounds_toArray, List.set_cons_zero, List.set_cons_succ])
      refine wpAnyH_take (i := 3) (oi := ?o_3) (v := .agg #[.int .i64 x.ds, .int .i64 x.da, .int .i64 x.un, .int .i64 x.wy, .int .i64 x.ti, .int .i64 x.ju, .int .i64 x.lo, .bool x.bl, .bool x.br, .int .i64 x.mo, .int .i64 x.ta, .bool x.ho, .int .u64 (bits .or .u64 x.sp (bit (f8 % 64))), .int .u64 x.su, .int .u64 x.sd]) ?h_3 (by kernel_rfl) (by kernel_rfl) (by kernel_rfl) ?q_3 ?y_3 (by assumption) ?_
      case h_3 => (first | (simp only [List.getElem?_toArray, List.getElem?_cons_zero, List.getElem?_cons_succ]; done) | (simp only [List.getElem?_toArray, List.getElem?_cons_zero, List.getElem?_cons_succ]; exact rfl))
      case q_3 => exact fun _ _ _ h => h
      case y_3 => exact Or.inl ⟨rfl, fun w hSw => exec_load_row 30 (.tmp 9) _ hSw.2.2.2.2.1 rfl rfl Try.underlying30 rfl (by kernel_rfl)⟩
      (try simp only [Act.put, List.setIfInBounds_toArray, List.set_cons_zero, List.set_cons_succ])
      refine wpAnyH_take (i := 4) (oi := ?o_4) (v := .agg #[.int .i64 f, .int .i64 cw]) ?h_4 (by kernel_rfl) (by kernel_rfl) (by kernel_rfl) ?q_4 ?y_4 (by assumption) ?_
      case h_4 => (first | (simp only [List.getElem?_toArray, List.getElem?_cons_zero, List.getElem?_cons_succ]; done) | (simp only [List.getElem?_toArray, List.getElem?_cons_zero, List.getElem?_cons_succ]; exact rfl))
      case q_4 => exact fun _ _ _ h => h
      case y_4 => exact Or.inl ⟨rfl, fun w hSw => exec_load_row 50 (.tmp 6) _ hSw.2.2.2.1 rfl rfl Try.underlying50 rfl (by kernel_rfl)⟩
      (try simp only [Act.put, List.setIfInBounds_toArray, List.set_cons_zero, List.set_cons_succ])
      refine wpAnyH_take (i := 6) (oi := ?o_6) (v := .agg #[.int .i64 c.ca, .int .i64 c.fl, .int .i64 c.ft, .int .i64 c.se, .int .i64 c.dr, .int .i64 c.dw, .int .i64 c.ho, .int .i64 c.re, .int .i64 c.yi, .int .i64 c.qu, .int .i64 c.qo, .int .i64 c.lo, .int .i64 c.sl, .int .i64 c.rt, .int .i64 c.cp, .int .i64 c.tr, .int .i64 c.de, .int .i64 c.wi]) ?h_6 (by kernel_rfl) (by kernel_rfl) (by kernel_rfl) ?q_6 ?y_6 (by assumption) ?_
      case h_6 => (first | (simp only [List.getElem?_toArray, List.getElem?_cons_zero, List.getElem?_cons_succ]; done) | (simp only [List.getElem?_toArray, List.getElem?_cons_zero, List.getElem?_cons_succ]; exact rfl))
      case q_6 => exact fun _ _ _ h => h
      case y_6 => exact Or.inl ⟨rfl, fun w hSw => exec_load_row 23 (.tmp 4) _ hSw.2.1 rfl rfl Try.underlying23 rfl (by kernel_rfl)⟩
      (try simp only [Act.put, List.setIfInBounds_toArray, List.set_cons_zero, List.set_cons_succ])
      refine wpAnyH_take (i := 7) (oi := ?o_7) (v := .agg #[.int .i64 x.ds, .int .i64 x.da, .int .i64 x.un, .int .i64 x.wy, .int .i64 x.ti, .int .i64 x.ju, .int .i64 x.lo, .bool x.bl, .bool x.br, .int .i64 x.mo, .int .i64 x.ta, .bool x.ho, .int .u64 x.sp, .int .u64 x.su, .int .u64 x.sd]) ?h_7 (by kernel_rfl) (by kernel_rfl) (by kernel_rfl) ?q_7 ?y_7 (by assumption) ?_
      case h_7 => (first | (simp only [List.getElem?_toArray, List.getElem?_cons_zero, List.getElem?_cons_succ]; done) | (simp only [List.getElem?_toArray, List.getElem?_cons_zero, List.getElem?_cons_succ]; exact rfl))
      case q_7 => exact fun _ _ _ h => h
      case y_7 => exact Or.inl ⟨rfl, fun w hSw => exec_load_row 30 (.tmp 5) _ hSw.2.2.1 rfl rfl Try.underlying30 rfl (by kernel_rfl)⟩
      (try simp only [Act.put, List.setIfInBounds_toArray, List.set_cons_zero, List.set_cons_succ])
      refine wpAnyH_take (i := 8) (oi := ?o_8) (v := .agg #[.int .i64 f, .int .i64 cw]) ?h_8 (by kernel_rfl) (by kernel_rfl) (by kernel_rfl) ?q_8 ?y_8 (by assumption) ?_
      case h_8 => (first | (simp only [List.getElem?_toArray, List.getElem?_cons_zero, List.getElem?_cons_succ]; done) | (simp only [List.getElem?_toArray, List.getElem?_cons_zero, List.getElem?_cons_succ]; exact rfl))
      case q_8 => exact fun _ _ _ h => h
      case y_8 => exact Or.inl ⟨rfl, fun w hSw => exec_load_row 50 (.tmp 6) _ hSw.2.2.2.1 rfl rfl Try.underlying50 rfl (by kernel_rfl)⟩
      (try simp only [Act.put, List.setIfInBounds_toArray, List.set_cons_zero, List.set_cons_succ])
      refine wpAnyH_ready (rs := [5]) (by kernel_rfl) (by simp) ?_
      refine AllReadyH.cons (o := ?o_5) ?h_5 (fun K hK => ?_) AllReadyH.nil
      case h_5 => (first | (simp only [List.getElem?_toArray, List.getElem?_cons_zero, List.getElem?_cons_succ]; done) | (simp only [List.getElem?_toArray, List.getElem?_cons_zero, List.getElem?_cons_succ]; exact rfl))
      (try go_simp)
      (go_at_call 42; refine (costT c ({ x with sp := bits .or .u64 x.sp (bit (f8 % 64)) } : CarV) f cw h0 h1 g0 g1 hpy.out hu hdd _).mono ?_; rintro e w9 ⟨rfl, hb9⟩)
      (try go_wp2_with fail)
      refine hK.out _ _ ?_ (fun hHeld2 => ?_)
      · first | exact HRD.out | exact hHeld | exact HRK.out _ _ ((Since.refl _).alloc _) hHeld | (apply HRK.out; assumption; assumption)
      clear hK K hHeld
      have hHeld := hHeld2
      clear hHeld2
      (try simp only [Act.put, List.setIfInBounds_toArray, List.set_cons_zero, List.set_cons_succ])
      refine wpAnyH_ready (rs := [9]) (by kernel_rfl) (by simp) ?_
      refine AllReadyH.cons (o := ?o_9) ?h_9 (fun K hK => ?_) AllReadyH.nil
      case h_9 => (first | (simp only [List.getElem?_toArray, List.getElem?_cons_zero, List.getElem?_cons_succ]; done) | (simp only [List.getElem?_toArray, List.getElem?_cons_zero, List.getElem?_cons_succ]; exact rfl))
      (try go_simp)
      (go_at_call 42; refine (costT c x f cw h0 h1 g0 g1 hp hu hdd _).mono ?_; rintro e w9 ⟨rfl, hb9⟩)
      (try go_wp2_with fail)
      refine hK.out _ _ ?_ (fun hHeld2 => ?_)
      · first | exact HRD.out | exact hHeld | exact HRK.out _ _ ((Since.refl _).alloc _) hHeld | (apply HRK.out; assumption; assumption)
      clear hK K hHeld
      have hHeld := hHeld2
      clear hHeld2
      (try simp only [Act.put, List.setIfInBounds_toArray, List.set_cons_zero, List.set_cons_succ])
      refine wpAnyH_take (i := 10) (oi := ?o_10) (v := .bool true) ?h_10 (by kernel_rfl) (by kernel_rfl) (by kernel_rfl) ?q_10 ?y_10 (by assumption) ?_
      case h_10 => (first | (simp only [List.getElem?_toArray, List.getElem?_cons_zero, List.getElem?_cons_succ]; done) | (simp only [List.getElem?_toArray, List.getElem?_cons_zero, List.getElem?_cons_succ]; exact rfl))
      case q_10 => exact fun _ _ _ h => h
      case y_10 => (refine Or.inl ⟨rfl, ?_⟩; intro w hSw; (try dsimp only at hSw); go_simp; (try with_reducible rfl))
      (try simp only [Act.put, List.setIfInBounds_toArray, List.set_cons_zero, List.set_cons_succ])
      refine wpAnyH_take (i := 11) (oi := ?o_11) (v := .bool true) ?h_11 (by kernel_rfl) (by kernel_rfl) (by kernel_rfl) ?q_11 ?y_11 (by assumption) ?_
      case h_11 => (first | (simp only [List.getElem?_toArray, List.getElem?_cons_zero, List.getElem?_cons_succ]; done) | (simp only [List.getElem?_toArray, List.getElem?_cons_zero, List.getElem?_cons_succ]; exact rfl))
      case q_11 => exact fun _ _ _ h => h
      case y_11 => (refine Or.inl ⟨rfl, ?_⟩; intro w hSw; (try dsimp only at hSw); go_simp; (try with_reducible rfl))
      (try simp only [Act.put, List.setIfInBounds_toArray, List.set_cons_zero, List.set_cons_succ])
      refine wpAnyH_take (i := 12) (oi := ?o_12) (v := .bool true) ?h_12 (by kernel_rfl) (by kernel_rfl) (by kernel_rfl) ?q_12 ?y_12 (by assumption) ?_
      case h_12 => (first | (simp only [List.getElem?_toArray, List.getElem?_cons_zero, List.getElem?_cons_succ]; done) | (simp only [List.getElem?_toArray, List.getElem?_cons_zero, List.getElem?_cons_succ]; exact rfl))
      case q_12 => exact fun _ _ _ h => h
      case y_12 => (refine Or.inl ⟨rfl, ?_⟩; intro w hSw; (try dsimp only at hSw); go_simp; (try with_reducible rfl))
      (try simp only [Act.put, List.setIfInBounds_toArray, List.set_cons_zero, List.set_cons_succ])
      refine wpAnyH_take (i := 13) (oi := ?o_13) (v := .agg #[.int .i64 c.ca, .int .i64 c.fl, .int .i64 c.ft, .int .i64 c.se, .int .i64 c.dr, .int .i64 c.dw, .int .i64 c.ho, .int .i64 c.re, .int .i64 c.yi, .int .i64 c.qu, .int .i64 c.qo, .int .i64 c.lo, .int .i64 c.sl, .int .i64 c.rt, .int .i64 c.cp, .int .i64 c.tr, .int .i64 c.de, .int .i64 c.wi]) ?h_13 (by kernel_rfl) (by kernel_rfl) (by kernel_rfl) ?q_13 ?y_13 (by assumption) ?_
      case h_13 => (first | (simp only [List.getElem?_toArray, List.getElem?_cons_zero, List.getElem?_cons_succ]; done) | (simp only [List.getElem?_toArray, List.getElem?_cons_zero, List.getElem?_cons_succ]; exact rfl))
      case q_13 => exact fun _ _ _ h => h
      case y_13 => exact Or.inl ⟨rfl, fun w hSw => exec_load_row 23 (.tmp 4) _ hSw.2.1 rfl rfl Try.underlying23 rfl (by kernel_rfl)⟩
      (try simp only [Act.put, List.setIfInBounds_toArray, List.set_cons_zero, List.set_cons_succ])
      refine wpAnyH_take (i := 14) (oi := ?o_14) (v := .agg #[.int .i64 x.ds, .int .i64 x.da, .int .i64 x.un, .int .i64 x.wy, .int .i64 x.ti, .int .i64 x.ju, .int .i64 x.lo, .bool x.bl, .bool true, .int .i64 x.mo, .int .i64 x.ta, .bool x.ho, .int .u64 x.sp, .int .u64 x.su, .int .u64 x.sd]) ?h_14 (by kernel_rfl) (by kernel_rfl) (by kernel_rfl) ?q_14 ?y_14 (by assumption) ?_
      case h_14 => (first | (simp only [List.getElem?_toArray, List.getElem?_cons_zero, List.getElem?_cons_succ]; done) | (simp only [List.getElem?_toArray, List.getElem?_cons_zero, List.getElem?_cons_succ]; exact rfl))
      case q_14 => exact fun _ _ _ h => h
      case y_14 => exact Or.inl ⟨rfl, fun w hSw => exec_load_row 30 (.tmp 10) _ hSw.2.2.2.2.2 rfl rfl Try.underlying30 rfl (by kernel_rfl)⟩
      (try simp only [Act.put, List.setIfInBounds_toArray, List.set_cons_zero, List.set_cons_succ])
      refine wpAnyH_take (i := 16) (oi := ?o_16) (v := .agg #[.int .i64 f, .int .i64 cw]) ?h_16 (by kernel_rfl) (by kernel_rfl) (by kernel_rfl) ?q_16 ?y_16 (by assumption) ?_
      case h_16 => (first | (simp only [List.getElem?_toArray, List.getElem?_cons_zero, List.getElem?_cons_succ]; done) | (simp only [List.getElem?_toArray, List.getElem?_cons_zero, List.getElem?_cons_succ]; exact rfl))
      case q_16 => exact fun _ _ _ h => h
      case y_16 => exact Or.inl ⟨rfl, fun w hSw => exec_load_row 50 (.tmp 6) _ hSw.2.2.2.1 rfl rfl Try.underlying50 rfl (by kernel_rfl)⟩
      (try simp only [Act.put, List.setIfInBounds_toArray, List.set_cons_zero, List.set_cons_succ])
      refine wpAnyH_ready (rs := [15]) (by kernel_rfl) (by simp) ?_
      refine AllReadyH.cons (o := ?o_15) ?h_15 (fun K hK => ?_) AllReadyH.nil
      case h_15 => (first | (simp only [List.getElem?_toArray, List.getElem?_cons_zero, List.getElem?_cons_succ]; done) | (simp only [List.getElem?_toArray, List.getElem?_cons_zero, List.getElem?_cons_succ]; exact rfl))
      (try go_simp)
      skip
      (try go_wp2_with fail)
      refine hK.out _ _ ?_ (fun hHeld2 => ?_)
      · first | exact HRD.out | exact hHeld | exact HRK.out _ _ ((Since.refl _).alloc _) hHeld | (apply HRK.out; assumption; assumption)
      clear hK K hHeld
      have hHeld := hHeld2
      clear hHeld2
      (try simp only [Act.put, List.setIfInBounds_toArray, List.set_cons_zero, List.set_cons_succ])
      refine wpAnyH_ready (rs := [17]) (by kernel_rfl) (by simp) ?_
      refine AllReadyH.cons (o := ?o_17) ?h_17 (fun K hK => ?_) AllReadyH.nil
      case h_17 => (first | (simp only [List.getElem?_toArray, List.getElem?_cons_zero, List.getElem?_cons_succ]; done) | (simp only [List.getElem?_toArray, List.getElem?_cons_zero, List.getElem?_cons_succ]; exact rfl))
      (try go_simp)
      (go_at_call 44; refine (bestZ c x f cw _ _ (Blk.new _ _ _)).mono ?_; rintro e w9 ⟨rfl, hb9⟩)
      (try go_wp2_with fail)
      refine hK.out _ _ ?_ (fun hHeld2 => ?_)
      · first | exact HRD.out | exact hHeld | exact HRK.out _ _ ((Since.refl _).alloc _) hHeld | (apply HRK.out; assumption; assumption)
      clear hK K hHeld
      have hHeld := hHeld2
      clear hHeld2
      (try simp only [Act.put, List.setIfInBounds_toArray, List.set_cons_zero, List.set_cons_succ])
      refine wpAnyH_take (i := 18) (oi := ?o_18) (v := .bool true) ?h_18 (by kernel_rfl) (by kernel_rfl) (by kernel_rfl) ?q_18 ?y_18 (by assumption) ?_
      case h_18 => (first | (simp only [List.getElem?_toArray, List.getElem?_cons_zero, List.getElem?_cons_succ]; done) | (simp only [List.getElem?_toArray, List.getElem?_cons_zero, List.getElem?_cons_succ]; exact rfl))
      case q_18 => exact fun _ _ _ h => h
      case y_18 => (refine Or.inl ⟨rfl, ?_⟩; intro w hSw; (try dsimp only at hSw); go_simp; (try with_reducible rfl))
      (try simp only [Act.put, List.setIfInBounds_toArray, List.set_cons_zero, List.set_cons_succ])
      refine wpAnyH_take (i := 19) (oi := ?o_19) (v := .bool true) ?h_19 (by kernel_rfl) (by kernel_rfl) (by kernel_rfl) ?q_19 ?y_19 (by assumption) ?_
      case h_19 => (first | (simp only [List.getElem?_toArray, List.getElem?_cons_zero, List.getElem?_cons_succ]; done) | (simp only [List.getElem?_toArray, List.getElem?_cons_zero, List.getElem?_cons_succ]; exact rfl))
      case q_19 => exact fun _ _ _ h => h
      case y_19 => (refine Or.inl ⟨rfl, ?_⟩; intro w hSw; (try dsimp only at hSw); go_simp; (try with_reducible rfl))
      (try simp only [Act.put, List.setIfInBounds_toArray, List.set_cons_zero, List.set_cons_succ])
      refine wpAnyH_take (i := 20) (oi := ?o_20) (v := .bool true) ?h_20 (by kernel_rfl) (by kernel_rfl) (by kernel_rfl) ?q_20 ?y_20 (by assumption) ?_
      case h_20 => (first | (simp only [List.getElem?_toArray, List.getElem?_cons_zero, List.getElem?_cons_succ]; done) | (simp only [List.getElem?_toArray, List.getElem?_cons_zero, List.getElem?_cons_succ]; exact rfl))
      case q_20 => exact fun _ _ _ h => h
      case y_20 => (refine Or.inl ⟨rfl, ?_⟩; intro w hSw; (try dsimp only at hSw); go_simp; (try with_reducible rfl))
      (try simp only [Act.put, List.setIfInBounds_toArray, List.set_cons_zero, List.set_cons_succ])
      refine wpAnyH_take (i := 21) (oi := ?o_21) (v := .agg #[.int .i64 c.ca, .int .i64 c.fl, .int .i64 c.ft, .int .i64 c.se, .int .i64 c.dr, .int .i64 c.dw, .int .i64 c.ho, .int .i64 c.re, .int .i64 c.yi, .int .i64 c.qu, .int .i64 c.qo, .int .i64 c.lo, .int .i64 c.sl, .int .i64 c.rt, .int .i64 c.cp, .int .i64 c.tr, .int .i64 c.de, .int .i64 c.wi]) ?h_21 (by kernel_rfl) (by kernel_rfl) (by kernel_rfl) ?q_21 ?y_21 (by assumption) ?_
      case h_21 => (first | (simp only [List.getElem?_toArray, List.getElem?_cons_zero, List.getElem?_cons_succ]; done) | (simp only [List.getElem?_toArray, List.getElem?_cons_zero, List.getElem?_cons_succ]; exact rfl))
      case q_21 => exact fun _ _ _ h => h
      case y_21 => exact Or.inl ⟨rfl, fun w hSw => exec_load_row 23 (.tmp 4) _ hSw.2.1 rfl rfl Try.underlying23 rfl (by kernel_rfl)⟩
      (try simp only [Act.put, List.setIfInBounds_toArray, List.set_cons_zero, List.set_cons_succ])
      refine wpAnyH_take (i := 22) (oi := ?o_22) (v := .agg #[.int .i64 f, .int .i64 cw]) ?h_22 (by kernel_rfl) (by kernel_rfl) (by kernel_rfl) ?q_22 ?y_22 (by assumption) ?_
      case h_22 => (first | (simp only [List.getElem?_toArray, List.getElem?_cons_zero, List.getElem?_cons_succ]; done) | (simp only [List.getElem?_toArray, List.getElem?_cons_zero, List.getElem?_cons_succ]; exact rfl))
      case q_22 => exact fun _ _ _ h => h
      case y_22 => exact Or.inl ⟨rfl, fun w hSw => exec_load_row 50 (.tmp 6) _ hSw.2.2.2.1 rfl rfl Try.underlying50 rfl (by kernel_rfl)⟩
      (try simp only [Act.put, List.setIfInBounds_toArray, List.set_cons_zero, List.set_cons_succ])
      refine wpAnyH_ready (rs := [23]) (by kernel_rfl) (by simp) ?_
      refine AllReadyH.cons (o := ?o_23) ?h_23 (fun K hK => ?_) AllReadyH.nil
      case h_23 => (first | (simp only [List.getElem?_toArray, List.getElem?_cons_zero, List.getElem?_cons_succ]; done) | (simp only [List.getElem?_toArray, List.getElem?_cons_zero, List.getElem?_cons_succ]; exact rfl))
      (try go_simp)
      (go_at_call 44; refine (bestN c f cw _).mono ?_; rintro e w9 ⟨rfl, hb9⟩)
      (try go_wp2_with fail)
      refine hK.out _ _ ?_ (fun hHeld2 => ?_)
      · first | exact HRD.out | exact hHeld | exact HRK.out _ _ ((Since.refl _).alloc _) hHeld | (apply HRK.out; assumption; assumption)
      clear hK K hHeld
      have hHeld := hHeld2
      clear hHeld2
      (try simp only [Act.put, List.setIfInBounds_toArray, List.set_cons_zero, List.set_cons_succ])
      refine wpAnyH_take (i := 24) (oi := ?o_24) (v := .bool true) ?h_24 (by kernel_rfl) (by kernel_rfl) (by kernel_rfl) ?q_24 ?y_24 (by assumption) ?_
      case h_24 => (first | (simp only [List.getElem?_toArray, List.getElem?_cons_zero, List.getElem?_cons_succ]; done) | (simp only [List.getElem?_toArray, List.getElem?_cons_zero, List.getElem?_cons_succ]; exact rfl))
      case q_24 => exact fun _ _ _ h => h
      case y_24 => (refine Or.inl ⟨rfl, ?_⟩; intro w hSw; (try dsimp only at hSw); go_simp; (try with_reducible rfl))
      (try simp only [Act.put, List.setIfInBounds_toArray, List.set_cons_zero, List.set_cons_succ])
      refine wpAnyH_take (i := 25) (oi := ?o_25) (v := .bool true) ?h_25 (by kernel_rfl) (by kernel_rfl) (by kernel_rfl) ?q_25 ?y_25 (by assumption) ?_
      case h_25 => (first | (simp only [List.getElem?_toArray, List.getElem?_cons_zero, List.getElem?_cons_succ]; done) | (simp only [List.getElem?_toArray, List.getElem?_cons_zero, List.getElem?_cons_succ]; exact rfl))
      case q_25 => exact fun _ _ _ h => h
      case y_25 => (refine Or.inl ⟨rfl, ?_⟩; intro w hSw; (try dsimp only at hSw); go_simp; (try with_reducible rfl))
      (try simp only [Act.put, List.setIfInBounds_toArray, List.set_cons_zero, List.set_cons_succ])
      refine wpAnyH_take (i := 26) (oi := ?o_26) (v := .bool true) ?h_26 (by kernel_rfl) (by kernel_rfl) (by kernel_rfl) ?q_26 ?y_26 (by assumption) ?_
      case h_26 => (first | (simp only [List.getElem?_toArray, List.getElem?_cons_zero, List.getElem?_cons_succ]; done) | (simp only [List.getElem?_toArray, List.getElem?_cons_zero, List.getElem?_cons_succ]; exact rfl))
      case q_26 => exact fun _ _ _ h => h
      case y_26 => (refine Or.inl ⟨rfl, ?_⟩; intro w hSw; (try dsimp only at hSw); go_simp; (try with_reducible rfl))
      (try simp only [Act.put, List.setIfInBounds_toArray, List.set_cons_zero, List.set_cons_succ])
      refine wpAnyH_done (by kernel_rfl) ?_ _
      obtain ⟨hs2, _⟩ := hHeld
      have HS2 := Lib.hid hs2
      clear hs2 HRK HRD
      go_wp2
      go_ret
      exact ⟨rfl, HS5.out.trans HS2.out⟩
theorem moreF (cca cfl cft cse cdr cdw cho cre cyi cqu cqo clo csl crt ccp ctr cde cwi : Int) (xds xda xun xwy xti xju xlo : Int) (xbl xbr : Bool) (xmo xta : Int) (xho : Bool) (xsp xsu xsd : Int) (f cw f8 : Int) (w : World) (wcca : (Lit.int .i64 cca).wf = true) (wcfl : (Lit.int .i64 cfl).wf = true) (wcft : (Lit.int .i64 cft).wf = true) (wcse : (Lit.int .i64 cse).wf = true) (wcdr : (Lit.int .i64 cdr).wf = true) (wcdw : (Lit.int .i64 cdw).wf = true) (wcho : (Lit.int .i64 cho).wf = true) (wcre : (Lit.int .i64 cre).wf = true) (wcyi : (Lit.int .i64 cyi).wf = true) (wcqu : (Lit.int .i64 cqu).wf = true) (wcqo : (Lit.int .i64 cqo).wf = true) (wclo : (Lit.int .i64 clo).wf = true) (wcsl : (Lit.int .i64 csl).wf = true) (wcrt : (Lit.int .i64 crt).wf = true) (wccp : (Lit.int .i64 ccp).wf = true) (wctr : (Lit.int .i64 ctr).wf = true) (wcde : (Lit.int .i64 cde).wf = true) (wcwi : (Lit.int .i64 cwi).wf = true) (wxds : (Lit.int .i64 xds).wf = true) (wxda : (Lit.int .i64 xda).wf = true) (wxun : (Lit.int .i64 xun).wf = true) (wxwy : (Lit.int .i64 xwy).wf = true) (wxti : (Lit.int .i64 xti).wf = true) (wxju : (Lit.int .i64 xju).wf = true) (wxlo : (Lit.int .i64 xlo).wf = true) (wxmo : (Lit.int .i64 xmo).wf = true) (wxta : (Lit.int .i64 xta).wf = true) (wxsp : (Lit.int .u64 xsp).wf = true) (wxsu : (Lit.int .u64 xsu).wf = true) (wxsd : (Lit.int .u64 xsd).wf = true) (_ : (Lit.int .i64 f).wf = true) (_ : (Lit.int .i64 cw).wf = true) (w8 : (Lit.int .u8 f8).wf = true) : Calls Try.prog 16 #[.agg #[.int .i64 cca, .int .i64 cfl, .int .i64 cft, .int .i64 cse, .int .i64 cdr, .int .i64 cdw, .int .i64 cho, .int .i64 cre, .int .i64 cyi, .int .i64 cqu, .int .i64 cqo, .int .i64 clo, .int .i64 csl, .int .i64 crt, .int .i64 ccp, .int .i64 ctr, .int .i64 cde, .int .i64 cwi], .agg #[.int .i64 xds, .int .i64 xda, .int .i64 xun, .int .i64 xwy, .int .i64 xti, .int .i64 xju, .int .i64 xlo, .bool xbl, .bool xbr, .int .i64 xmo, .int .i64 xta, .bool xho, .int .u64 xsp, .int .u64 xsu, .int .u64 xsd], .agg #[.int .i64 f, .int .i64 cw], .int .u8 f8] w fun e w' => e = .returned (.bool true) ∧ Since w w' := by
  have ⟨p0, p1⟩ := bounds_u64 wxsp
  have ⟨u0, u1⟩ := bounds_u64 wxsu
  have ⟨d0, d1⟩ := bounds_u64 wxsd
  have ⟨b0, b1⟩ := bounds_u8 w8
  exact more ⟨cca, cfl, cft, cse, cdr, cdw, cho, cre, cyi, cqu, cqo, clo, csl, crt, ccp, ctr, cde, cwi⟩ ⟨xds, xda, xun, xwy, xti, xju, xlo, xbl, xbr, xmo, xta, xho, xsp, xsu, xsd⟩ f cw f8 (show R xsp by unfold R; omega) (show R xsu by unfold R; omega) (show R xsd by unfold R; omega) b0 b1 w
end Go.Proofs.Ytfbnmoegdbdhjaa.Et
