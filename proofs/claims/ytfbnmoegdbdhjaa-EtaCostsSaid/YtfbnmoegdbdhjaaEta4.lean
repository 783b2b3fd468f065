/-
  EtaCosts, walked (layer 15).
  No condition.
-/
import Derived.Test.YtfbnmoegdbdhjaaEta3
import Derived.LoopN
namespace Go.Proofs.Ytfbnmoegdbdhjaa.Et
set_option linter.unusedVariables false
set_option linter.unusedSimpArgs false
open Go.RowKit Go.Proofs.Ytfbnmoegdbdhjaa.Ba Go.Proofs.Ytfbnmoegdbdhjaa.Mo Go.Proofs.Ytfbnmoegdbdhjaa.Ty Go.Proofs.Ytfbnmoegdbdhjaa.Mem Go.Proofs.Ytfbnmoegdbdhjaa.St
open Go.Proofs.Ytfbnmoegdbdhjaa.Do (hd hd_lo hd_hi spanR)
set_option maxRecDepth 100000
set_option maxHeartbeats 4000000 in
theorem costs (c : CfgV) (x : CarV) (f cw : Int) (hp : R x.sp) (hu : R x.su) (hdd : R x.sd) (w : World) : Calls Try.prog 14 #[.agg #[.int .i64 c.ca, .int .i64 c.fl, .int .i64 c.ft, .int .i64 c.se, .int .i64 c.dr, .int .i64 c.dw, .int .i64 c.ho, .int .i64 c.re, .int .i64 c.yi, .int .i64 c.qu, .int .i64 c.qo, .int .i64 c.lo, .int .i64 c.sl, .int .i64 c.rt, .int .i64 c.cp, .int .i64 c.tr, .int .i64 c.de, .int .i64 c.wi], .agg #[.int .i64 x.ds, .int .i64 x.da, .int .i64 x.un, .int .i64 x.wy, .int .i64 x.ti, .int .i64 x.ju, .int .i64 x.lo, .bool x.bl, .bool x.br, .int .i64 x.mo, .int .i64 x.ta, .bool x.ho, .int .u64 x.sp, .int .u64 x.su, .int .u64 x.sd], .agg #[.int .i64 f, .int .i64 cw]] w fun e w' => e = .returned (.bool true) ∧ Since w w' := by
  go_enter Try.func14, Try.ntmps14
  go_upto_region 1 with fail
  obtain ⟨w1, hw1⟩ : ∃ w1, w1 = ((w.alloc (.cells #[.int .i64 c.ca, .int .i64 c.fl, .int .i64 c.ft, .int .i64 c.se, .int .i64 c.dr, .int .i64 c.dw, .int .i64 c.ho, .int .i64 c.re, .int .i64 c.yi, .int .i64 c.qu, .int .i64 c.qo, .int .i64 c.lo, .int .i64 c.sl, .int .i64 c.rt, .int .i64 c.cp, .int .i64 c.tr, .int .i64 c.de, .int .i64 c.wi] 23)).alloc (.cells #[.int .i64 x.ds, .int .i64 x.da, .int .i64 x.un, .int .i64 x.wy, .int .i64 x.ti, .int .i64 x.ju, .int .i64 x.lo, .bool x.bl, .bool x.br, .int .i64 x.mo, .int .i64 x.ta, .bool x.ho, .int .u64 x.sp, .int .u64 x.su, .int .u64 x.sd] 30)).alloc (.cells #[.int .i64 f, .int .i64 cw] 50) := ⟨_, rfl⟩
  rw [← hw1]
  have BC : Blk w1 w.heap.size 23 #[.int .i64 c.ca, .int .i64 c.fl, .int .i64 c.ft, .int .i64 c.se, .int .i64 c.dr, .int .i64 c.dw, .int .i64 c.ho, .int .i64 c.re, .int .i64 c.yi, .int .i64 c.qu, .int .i64 c.qo, .int .i64 c.lo, .int .i64 c.sl, .int .i64 c.rt, .int .i64 c.cp, .int .i64 c.tr, .int .i64 c.de, .int .i64 c.wi] := by rw [hw1]; exact ((Blk.new w _ _).alloc _).alloc _
  have BX : Blk w1 (w.heap.size + 1) 30 #[.int .i64 x.ds, .int .i64 x.da, .int .i64 x.un, .int .i64 x.wy, .int .i64 x.ti, .int .i64 x.ju, .int .i64 x.lo, .bool x.bl, .bool x.br, .int .i64 x.mo, .int .i64 x.ta, .bool x.ho, .int .u64 x.sp, .int .u64 x.su, .int .u64 x.sd] := by rw [hw1]; have h := (Blk.new (w.alloc (.cells #[.int .i64 c.ca, .int .i64 c.fl, .int .i64 c.ft, .int .i64 c.se, .int .i64 c.dr, .int .i64 c.dw, .int .i64 c.ho, .int .i64 c.re, .int .i64 c.yi, .int .i64 c.qu, .int .i64 c.qo, .int .i64 c.lo, .int .i64 c.sl, .int .i64 c.rt, .int .i64 c.cp, .int .i64 c.tr, .int .i64 c.de, .int .i64 c.wi] 23)) 30 #[.int .i64 x.ds, .int .i64 x.da, .int .i64 x.un, .int .i64 x.wy, .int .i64 x.ti, .int .i64 x.ju, .int .i64 x.lo, .bool x.bl, .bool x.br, .int .i64 x.mo, .int .i64 x.ta, .bool x.ho, .int .u64 x.sp, .int .u64 x.su, .int .u64 x.sd]).alloc (.cells #[.int .i64 f, .int .i64 cw] 50); simpa using h
  have BL : Blk w1 (w.heap.size + 2) 50 #[.int .i64 f, .int .i64 cw] := by rw [hw1]; have h := Blk.new ((w.alloc (.cells #[.int .i64 c.ca, .int .i64 c.fl, .int .i64 c.ft, .int .i64 c.se, .int .i64 c.dr, .int .i64 c.dw, .int .i64 c.ho, .int .i64 c.re, .int .i64 c.yi, .int .i64 c.qu, .int .i64 c.qo, .int .i64 c.lo, .int .i64 c.sl, .int .i64 c.rt, .int .i64 c.cp, .int .i64 c.tr, .int .i64 c.de, .int .i64 c.wi] 23)).alloc (.cells #[.int .i64 x.ds, .int .i64 x.da, .int .i64 x.un, .int .i64 x.wy, .int .i64 x.ti, .int .i64 x.ju, .int .i64 x.lo, .bool x.bl, .bool x.br, .int .i64 x.mo, .int .i64 x.ta, .bool x.ho, .int .u64 x.sp, .int .u64 x.su, .int .u64 x.sd] 30)) 50 #[.int .i64 f, .int .i64 cw]; simpa using h
  have HS1 := Lib.hid (show Since w w1 by rw [hw1]; exact (((Since.refl _).alloc _).alloc _).alloc _)
  clear hw1
  have HBC := Lib.hid BC; have HBX := Lib.hid BX; have HBL := Lib.hid BL; clear BC BX BL
  go_wp2_with (first | (refine wpList_load_row rfl 30 _ rfl _ rfl 30 _ (0, 0) _ HBX.out Try.underlying30 rfl (by kernel_rfl) ?_) | (refine wpList_load_row rfl 50 _ rfl _ rfl 50 _ (0, 0) _ HBL.out Try.underlying50 rfl (by kernel_rfl) ?_))
  refine (withinT x f cw _).mono ?_
  rintro e w2 ⟨rfl, hb2⟩
  have BC := keep_blk hb2 HBC.out; have BX := keep_blk hb2 HBX.out; have BL := keep_blk hb2 HBL.out; have HS2 := Lib.hid (HS1.out.trans hb2); clear hb2 HBC HBX HBL HS1
  cases hw : wiB x.un x.wy f cw
  · clear BC BX BL
    go_wp2_with fail
    refine (ans _).mono ?_
    rintro e w3 ⟨rfl, hb3⟩
    go_wp2
    go_ret
    exact ⟨rfl, HS2.out.trans hb3⟩
  · obtain ⟨h0, h1, g0, g1, v0, v1, y0, y1⟩ := (wiB_iff _ _ _ _).1 hw
    have hk : cw = 1 ∨ cw = 2 := by omega
    go_upto_region 3 with fail
    have hrK : ∀ W W' : World, Since W W' → (Since w2 W ∧ Blk W (w.heap.size) 23 #[.int .i64 c.ca, .int .i64 c.fl, .int .i64 c.ft, .int .i64 c.se, .int .i64 c.dr, .int .i64 c.dw, .int .i64 c.ho, .int .i64 c.re, .int .i64 c.yi, .int .i64 c.qu, .int .i64 c.qo, .int .i64 c.lo, .int .i64 c.sl, .int .i64 c.rt, .int .i64 c.cp, .int .i64 c.tr, .int .i64 c.de, .int .i64 c.wi] ∧ Blk W (w.heap.size + 1) 30 #[.int .i64 x.ds, .int .i64 x.da, .int .i64 x.un, .int .i64 x.wy, .int .i64 x.ti, .int .i64 x.ju, .int .i64 x.lo, .bool x.bl, .bool x.br, .int .i64 x.mo, .int .i64 x.ta, .bool x.ho, .int .u64 x.sp, .int .u64 x.su, .int .u64 x.sd] ∧ Blk W (w.heap.size + 2) 50 #[.int .i64 f, .int .i64 cw]) → (Since w2 W' ∧ Blk W' (w.heap.size) 23 #[.int .i64 c.ca, .int .i64 c.fl, .int .i64 c.ft, .int .i64 c.se, .int .i64 c.dr, .int .i64 c.dw, .int .i64 c.ho, .int .i64 c.re, .int .i64 c.yi, .int .i64 c.qu, .int .i64 c.qo, .int .i64 c.lo, .int .i64 c.sl, .int .i64 c.rt, .int .i64 c.cp, .int .i64 c.tr, .int .i64 c.de, .int .i64 c.wi] ∧ Blk W' (w.heap.size + 1) 30 #[.int .i64 x.ds, .int .i64 x.da, .int .i64 x.un, .int .i64 x.wy, .int .i64 x.ti, .int .i64 x.ju, .int .i64 x.lo, .bool x.bl, .bool x.br, .int .i64 x.mo, .int .i64 x.ta, .bool x.ho, .int .u64 x.sp, .int .u64 x.su, .int .u64 x.sd] ∧ Blk W' (w.heap.size + 2) 50 #[.int .i64 f, .int .i64 cw]) := fun W W' k ⟨h, h0, h1, h2⟩ => ⟨h.trans k, keep_blk k h0, keep_blk k h1, keep_blk k h2⟩
    have hrS : (fun W : World => Since w2 W ∧ Blk W (w.heap.size) 23 #[.int .i64 c.ca, .int .i64 c.fl, .int .i64 c.ft, .int .i64 c.se, .int .i64 c.dr, .int .i64 c.dw, .int .i64 c.ho, .int .i64 c.re, .int .i64 c.yi, .int .i64 c.qu, .int .i64 c.qo, .int .i64 c.lo, .int .i64 c.sl, .int .i64 c.rt, .int .i64 c.cp, .int .i64 c.tr, .int .i64 c.de, .int .i64 c.wi] ∧ Blk W (w.heap.size + 1) 30 #[.int .i64 x.ds, .int .i64 x.da, .int .i64 x.un, .int .i64 x.wy, .int .i64 x.ti, .int .i64 x.ju, .int .i64 x.lo, .bool x.bl, .bool x.br, .int .i64 x.mo, .int .i64 x.ta, .bool x.ho, .int .u64 x.sp, .int .u64 x.su, .int .u64 x.sd] ∧ Blk W (w.heap.size + 2) 50 #[.int .i64 f, .int .i64 cw]) (w2) := ⟨Since.refl _, by first | assumption | (simp; done), by first | assumption | (simp; done), by first | assumption | (simp; done)⟩
    have HRK := Lib.hid hrK
    have HRD := Lib.hid (show (fun W : World => Since w2 W ∧ Blk W (w.heap.size) 23 #[.int .i64 c.ca, .int .i64 c.fl, .int .i64 c.ft, .int .i64 c.se, .int .i64 c.dr, .int .i64 c.dw, .int .i64 c.ho, .int .i64 c.re, .int .i64 c.yi, .int .i64 c.qu, .int .i64 c.qo, .int .i64 c.lo, .int .i64 c.sl, .int .i64 c.rt, .int .i64 c.cp, .int .i64 c.tr, .int .i64 c.de, .int .i64 c.wi] ∧ Blk W (w.heap.size + 1) 30 #[.int .i64 x.ds, .int .i64 x.da, .int .i64 x.un, .int .i64 x.wy, .int .i64 x.ti, .int .i64 x.ju, .int .i64 x.lo, .bool x.bl, .bool x.br, .int .i64 x.mo, .int .i64 x.ta, .bool x.ho, .int .u64 x.sp, .int .u64 x.su, .int .u64 x.sd] ∧ Blk W (w.heap.size + 2) 50 #[.int .i64 f, .int .i64 cw]) (World.drew (w2)) from ⟨(Since.refl _).drew, hrS.2⟩)
    clear hrK hrS
    refine wp_region_held_drew (S := fun W : World => Since w2 W ∧ Blk W (w.heap.size) 23 #[.int .i64 c.ca, .int .i64 c.fl, .int .i64 c.ft, .int .i64 c.se, .int .i64 c.dr, .int .i64 c.dw, .int .i64 c.ho, .int .i64 c.re, .int .i64 c.yi, .int .i64 c.qu, .int .i64 c.qo, .int .i64 c.lo, .int .i64 c.sl, .int .i64 c.rt, .int .i64 c.cp, .int .i64 c.tr, .int .i64 c.de, .int .i64 c.wi] ∧ Blk W (w.heap.size + 1) 30 #[.int .i64 x.ds, .int .i64 x.da, .int .i64 x.un, .int .i64 x.wy, .int .i64 x.ti, .int .i64 x.ju, .int .i64 x.lo, .bool x.bl, .bool x.br, .int .i64 x.mo, .int .i64 x.ta, .bool x.ho, .int .u64 x.sp, .int .u64 x.su, .int .u64 x.sd] ∧ Blk W (w.heap.size + 2) 50 #[.int .i64 f, .int .i64 cw]) (by kernel_rfl) HRD.out (fun hHeld => ?_)
    refine wpAnyH_ready (rs := [0]) (by kernel_rfl) (by simp) ?_
    refine AllReadyH.cons (o := ?o_0) ?h_0 (fun K hK => ?_) AllReadyH.nil
    case h_0 => (first | (simp only [List.getElem?_toArray, List.getElem?_cons_zero, List.getElem?_cons_succ]; done) | (simp only [List.getElem?_toArray, List.getElem?_cons_zero, List.getElem?_cons_succ]; exact rfl))
    (try go_simp)
    (go_at_call 41; refine (ans _).mono ?_; rintro e w9 ⟨rfl, hb9⟩)
    (try go_wp2_with fail)
    refine hK.out _ _ ?_ (fun hHeld2 => ?_)
    · first | exact HRD.out | exact hHeld | (apply HRK.out; assumption; assumption)
    clear hK K hHeld
    have hHeld := hHeld2
    clear hHeld2
    (try simp only [Act.put, List.setIfInBounds_toArray, List.set_cons_zero, List.set_cons_succ])
    refine wpAnyH_take (i := 1) (oi := ?o_1) (v := .bool true) ?h_1 (by kernel_rfl) (by kernel_rfl) (by kernel_rfl) ?q_1 ?y_1 (by assumption) ?_
    case h_1 => (first | (simp only [List.getElem?_toArray, List.getElem?_cons_zero, List.getElem?_cons_succ]; done) | (simp only [List.getElem?_toArray, List.getElem?_cons_zero, List.getElem?_cons_succ]; exact rfl))
    case q_1 => exact fun _ _ _ h => h
    case y_1 => (refine Or.inl ⟨rfl, ?_⟩; intro w hSw; (try dsimp only at hSw); go_simp; (try with_reducible rfl))
    (try simp only [Act.put, List.setIfInBounds_toArray, List.set_cons_zero, List.set_cons_succ])
    refine wpAnyH_take (i := 2) (oi := ?o_2) (v := .agg #[.int .i64 c.ca, .int .i64 c.fl, .int .i64 c.ft, .int .i64 c.se, .int .i64 c.dr, .int .i64 c.dw, .int .i64 c.ho, .int .i64 c.re, .int .i64 c.yi, .int .i64 c.qu, .int .i64 c.qo, .int .i64 c.lo, .int .i64 c.sl, .int .i64 c.rt, .int .i64 c.cp, .int .i64 c.tr, .int .i64 c.de, .int .i64 c.wi]) ?h_2 (by kernel_rfl) (by kernel_rfl) (by kernel_rfl) ?q_2 ?y_2 (by assumption) ?_
    case h_2 => (first | (simp only [List.getElem?_toArray, List.getElem?_cons_zero, List.getElem?_cons_succ]; done) | (simp only [List.getElem?_toArray, List.getElem?_cons_zero, List.getElem?_cons_succ]; exact rfl))
    case q_2 => exact fun _ _ _ h => h
    case y_2 => exact Or.inl ⟨rfl, fun w hSw => exec_load_row 23 (.tmp 3) _ hSw.2.1 rfl rfl Try.underlying23 rfl (by kernel_rfl)⟩
    (try simp only [Act.put, List.setIfInBounds_toArray, List.set_cons_zero, List.set_cons_succ])
    refine wpAnyH_take (i := 3) (oi := ?o_3) (v := .agg #[.int .i64 x.ds, .int .i64 x.da, .int .i64 x.un, .int .i64 x.wy, .int .i64 x.ti, .int .i64 x.ju, .int .i64 x.lo, .bool x.bl, .bool x.br, .int .i64 x.mo, .int .i64 x.ta, .bool x.ho, .int .u64 x.sp, .int .u64 x.su, .int .u64 x.sd]) ?h_3 (by kernel_rfl) (by kernel_rfl) (by kernel_rfl) ?q_3 ?y_3 (by assumption) ?_
    case h_3 => (first | (simp only [List.getElem?_toArray, List.getElem?_cons_zero, List.getElem?_cons_succ]; done) | (simp only [List.getElem?_toArray, List.getElem?_cons_zero, List.getElem?_cons_succ]; exact rfl))
    case q_3 => exact fun _ _ _ h => h
    case y_3 => exact Or.inl ⟨rfl, fun w hSw => exec_load_row 30 (.tmp 4) _ hSw.2.2.1 rfl rfl Try.underlying30 rfl (by kernel_rfl)⟩
    (try simp only [Act.put, List.setIfInBounds_toArray, List.set_cons_zero, List.set_cons_succ])
    refine wpAnyH_take (i := 4) (oi := ?o_4) (v := .agg #[.int .i64 f, .int .i64 cw]) ?h_4 (by kernel_rfl) (by kernel_rfl) (by kernel_rfl) ?q_4 ?y_4 (by assumption) ?_
    case h_4 => (first | (simp only [List.getElem?_toArray, List.getElem?_cons_zero, List.getElem?_cons_succ]; done) | (simp only [List.getElem?_toArray, List.getElem?_cons_zero, List.getElem?_cons_succ]; exact rfl))
    case q_4 => exact fun _ _ _ h => h
    case y_4 => exact Or.inl ⟨rfl, fun w hSw => exec_load_row 50 (.tmp 5) _ hSw.2.2.2 rfl rfl Try.underlying50 rfl (by kernel_rfl)⟩
    (try simp only [Act.put, List.setIfInBounds_toArray, List.set_cons_zero, List.set_cons_succ])
    refine wpAnyH_take (i := 6) (oi := ?o_6) (v := .agg #[.int .i64 c.ca, .int .i64 c.fl, .int .i64 c.ft, .int .i64 c.se, .int .i64 c.dr, .int .i64 c.dw, .int .i64 c.ho, .int .i64 c.re, .int .i64 c.yi, .int .i64 c.qu, .int .i64 c.qo, .int .i64 c.lo, .int .i64 c.sl, .int .i64 c.rt, .int .i64 c.cp, .int .i64 c.tr, .int .i64 c.de, .int .i64 c.wi]) ?h_6 (by kernel_rfl) (by kernel_rfl) (by kernel_rfl) ?q_6 ?y_6 (by assumption) ?_
    case h_6 => (first | (simp only [List.getElem?_toArray, List.getElem?_cons_zero, List.getElem?_cons_succ]; done) | (simp only [List.getElem?_toArray, List.getElem?_cons_zero, List.getElem?_cons_succ]; exact rfl))
    case q_6 => exact fun _ _ _ h => h
    case y_6 => exact Or.inl ⟨rfl, fun w hSw => exec_load_row 23 (.tmp 3) _ hSw.2.1 rfl rfl Try.underlying23 rfl (by kernel_rfl)⟩
    (try simp only [Act.put, List.setIfInBounds_toArray, List.set_cons_zero, List.set_cons_succ])
    refine wpAnyH_take (i := 7) (oi := ?o_7) (v := .agg #[.int .i64 x.ds, .int .i64 x.da, .int .i64 x.un, .int .i64 x.wy, .int .i64 x.ti, .int .i64 x.ju, .int .i64 x.lo, .bool x.bl, .bool x.br, .int .i64 x.mo, .int .i64 x.ta, .bool x.ho, .int .u64 x.sp, .int .u64 x.su, .int .u64 x.sd]) ?h_7 (by kernel_rfl) (by kernel_rfl) (by kernel_rfl) ?q_7 ?y_7 (by assumption) ?_
    case h_7 => (first | (simp only [List.getElem?_toArray, List.getElem?_cons_zero, List.getElem?_cons_succ]; done) | (simp only [List.getElem?_toArray, List.getElem?_cons_zero, List.getElem?_cons_succ]; exact rfl))
    case q_7 => exact fun _ _ _ h => h
    case y_7 => exact Or.inl ⟨rfl, fun w hSw => exec_load_row 30 (.tmp 4) _ hSw.2.2.1 rfl rfl Try.underlying30 rfl (by kernel_rfl)⟩
    (try simp only [Act.put, List.setIfInBounds_toArray, List.set_cons_zero, List.set_cons_succ])
    refine wpAnyH_take (i := 8) (oi := ?o_8) (v := .agg #[.int .i64 f, .int .i64 cw]) ?h_8 (by kernel_rfl) (by kernel_rfl) (by kernel_rfl) ?q_8 ?y_8 (by assumption) ?_
    case h_8 => (first | (simp only [List.getElem?_toArray, List.getElem?_cons_zero, List.getElem?_cons_succ]; done) | (simp only [List.getElem?_toArray, List.getElem?_cons_zero, List.getElem?_cons_succ]; exact rfl))
    case q_8 => exact fun _ _ _ h => h
    case y_8 => exact Or.inl ⟨rfl, fun w hSw => exec_load_row 50 (.tmp 5) _ hSw.2.2.2 rfl rfl Try.underlying50 rfl (by kernel_rfl)⟩
    (try simp only [Act.put, List.setIfInBounds_toArray, List.set_cons_zero, List.set_cons_succ])
    refine wpAnyH_ready (rs := [5]) (by kernel_rfl) (by simp) ?_
    refine AllReadyH.cons (o := ?o_5) ?h_5 (fun K hK => ?_) AllReadyH.nil
    case h_5 => (first | (simp only [List.getElem?_toArray, List.getElem?_cons_zero, List.getElem?_cons_succ]; done) | (simp only [List.getElem?_toArray, List.getElem?_cons_zero, List.getElem?_cons_succ]; exact rfl))
    (try go_simp)
    (go_at_call 42; refine (costT c x f cw h0 h1 g0 g1 hp hu hdd _).mono ?_; rintro e w9 ⟨rfl, hb9⟩)
    (try go_wp2_with fail)
    refine hK.out _ _ ?_ (fun hHeld2 => ?_)
    · first | exact HRD.out | exact hHeld | (apply HRK.out; assumption; assumption)
    clear hK K hHeld
    have hHeld := hHeld2
    clear hHeld2
    (try simp only [Act.put, List.setIfInBounds_toArray, List.set_cons_zero, List.set_cons_succ])
    refine wpAnyH_ready (rs := [9]) (by kernel_rfl) (by simp) ?_
    refine AllReadyH.cons (o := ?o_9) ?h_9 (fun K hK => ?_) AllReadyH.nil
    case h_9 => (first | (simp only [List.getElem?_toArray, List.getElem?_cons_zero, List.getElem?_cons_succ]; done) | (simp only [List.getElem?_toArray, List.getElem?_cons_zero, List.getElem?_cons_succ]; exact rfl))
    (try go_simp)
    (go_at_call 43; refine (costR c x f cw h0 h1 g0 g1 hk hp hu hdd _).mono ?_; rintro e w9 ⟨rfl, hb9⟩)
    (try go_wp2_with fail)
    refine hK.out _ _ ?_ (fun hHeld2 => ?_)
    · first | exact HRD.out | exact hHeld | (apply HRK.out; assumption; assumption)
    clear hK K hHeld
    have hHeld := hHeld2
    clear hHeld2
    (try simp only [Act.put, List.setIfInBounds_toArray, List.set_cons_zero, List.set_cons_succ])
    refine wpAnyH_take (i := 10) (oi := ?o_10) (v := .bool true) ?h_10 (by kernel_rfl) (by kernel_rfl) (by kernel_rfl) ?q_10 ?y_10 (by assumption) ?_
    case h_10 => (first | (simp only [List.getElem?_toArray, List.getElem?_cons_zero, List.getElem?_cons_succ]; done) | (simp only [List.getElem?_toArray, List.getElem?_cons_zero, List.getElem?_cons_succ]; exact rfl))
    case q_10 => exact fun _ _ _ h => h
    case y_10 => (refine Or.inl ⟨rfl, ?_⟩; intro w hSw; (try dsimp only at hSw); go_simp; (try with_reducible rfl))
    (try simp only [Act.put, List.setIfInBounds_toArray, List.set_cons_zero, List.set_cons_succ])
    refine wpAnyH_take (i := 11) (oi := ?o_11) (v := .bool true) ?h_11 (by kernel_rfl) (by kernel_rfl) (by kernel_rfl) ?q_11 ?y_11 (by assumption) ?_
    case h_11 => (first | (simp only [List.getElem?_toArray, List.getElem?_cons_zero, List.getElem?_cons_succ]; done) | (simp only [List.getElem?_toArray, List.getElem?_cons_zero, List.getElem?_cons_succ]; exact rfl))
    case q_11 => exact fun _ _ _ h => h
    case y_11 => (refine Or.inl ⟨rfl, ?_⟩; intro w hSw; (try dsimp only at hSw); go_simp; (try with_reducible rfl))
    (try simp only [Act.put, List.setIfInBounds_toArray, List.set_cons_zero, List.set_cons_succ])
    refine wpAnyH_take (i := 12) (oi := ?o_12) (v := .bool true) ?h_12 (by kernel_rfl) (by kernel_rfl) (by kernel_rfl) ?q_12 ?y_12 (by assumption) ?_
    case h_12 => (first | (simp only [List.getElem?_toArray, List.getElem?_cons_zero, List.getElem?_cons_succ]; done) | (simp only [List.getElem?_toArray, List.getElem?_cons_zero, List.getElem?_cons_succ]; exact rfl))
    case q_12 => exact fun _ _ _ h => h
    case y_12 => (refine Or.inl ⟨rfl, ?_⟩; intro w hSw; (try dsimp only at hSw); go_simp; (try with_reducible rfl))
    (try simp only [Act.put, List.setIfInBounds_toArray, List.set_cons_zero, List.set_cons_succ])
    refine wpAnyH_done (by kernel_rfl) ?_ _
    obtain ⟨hs2, _⟩ := hHeld
    have HS3 := Lib.hid hs2
    clear hs2 HRK HRD
    go_wp2
    go_ret
    exact ⟨rfl, HS2.out.trans HS3.out⟩
theorem costsF (cca cfl cft cse cdr cdw cho cre cyi cqu cqo clo csl crt ccp ctr cde cwi : Int) (xds xda xun xwy xti xju xlo : Int) (xbl xbr : Bool) (xmo xta : Int) (xho : Bool) (xsp xsu xsd : Int) (f cw : Int) (w : World) (wcca : (Lit.int .i64 cca).wf = true) (wcfl : (Lit.int .i64 cfl).wf = true) (wcft : (Lit.int .i64 cft).wf = true) (wcse : (Lit.int .i64 cse).wf = true) (wcdr : (Lit.int .i64 cdr).wf = true) (wcdw : (Lit.int .i64 cdw).wf = true) (wcho : (Lit.int .i64 cho).wf = true) (wcre : (Lit.int .i64 cre).wf = true) (wcyi : (Lit.int .i64 cyi).wf = true) (wcqu : (Lit.int .i64 cqu).wf = true) (wcqo : (Lit.int .i64 cqo).wf = true) (wclo : (Lit.int .i64 clo).wf = true) (wcsl : (Lit.int .i64 csl).wf = true) (wcrt : (Lit.int .i64 crt).wf = true) (wccp : (Lit.int .i64 ccp).wf = true) (wctr : (Lit.int .i64 ctr).wf = true) (wcde : (Lit.int .i64 cde).wf = true) (wcwi : (Lit.int .i64 cwi).wf = true) (wxds : (Lit.int .i64 xds).wf = true) (wxda : (Lit.int .i64 xda).wf = true) (wxun : (Lit.int .i64 xun).wf = true) (wxwy : (Lit.int .i64 xwy).wf = true) (wxti : (Lit.int .i64 xti).wf = true) (wxju : (Lit.int .i64 xju).wf = true) (wxlo : (Lit.int .i64 xlo).wf = true) (wxmo : (Lit.int .i64 xmo).wf = true) (wxta : (Lit.int .i64 xta).wf = true) (wxsp : (Lit.int .u64 xsp).wf = true) (wxsu : (Lit.int .u64 xsu).wf = true) (wxsd : (Lit.int .u64 xsd).wf = true) (_ : (Lit.int .i64 f).wf = true) (_ : (Lit.int .i64 cw).wf = true) : Calls Try.prog 14 #[.agg #[.int .i64 cca, .int .i64 cfl, .int .i64 cft, .int .i64 cse, .int .i64 cdr, .int .i64 cdw, .int .i64 cho, .int .i64 cre, .int .i64 cyi, .int .i64 cqu, .int .i64 cqo, .int .i64 clo, .int .i64 csl, .int .i64 crt, .int .i64 ccp, .int .i64 ctr, .int .i64 cde, .int .i64 cwi], .agg #[.int .i64 xds, .int .i64 xda, .int .i64 xun, .int .i64 xwy, .int .i64 xti, .int .i64 xju, .int .i64 xlo, .bool xbl, .bool xbr, .int .i64 xmo, .int .i64 xta, .bool xho, .int .u64 xsp, .int .u64 xsu, .int .u64 xsd], .agg #[.int .i64 f, .int .i64 cw]] w fun e w' => e = .returned (.bool true) ∧ Since w w' := by
  have ⟨p0, p1⟩ := bounds_u64 wxsp
  have ⟨u0, u1⟩ := bounds_u64 wxsu
  have ⟨d0, d1⟩ := bounds_u64 wxsd
  exact costs ⟨cca, cfl, cft, cse, cdr, cdw, cho, cre, cyi, cqu, cqo, clo, csl, crt, ccp, ctr, cde, cwi⟩ ⟨xds, xda, xun, xwy, xti, xju, xlo, xbl, xbr, xmo, xta, xho, xsp, xsu, xsd⟩ f cw (show R xsp by unfold R; omega) (show R xsu by unfold R; omega) (show R xsd by unfold R; omega) w
end Go.Proofs.Ytfbnmoegdbdhjaa.Et
