/-
  PlantSteps, walked (layer 11).
  Conditions: each argument fits its kind.
-/
import Derived.Test.YtfbnmoegdbdhjaaPlaAns
import Derived.Test.YtfbnmoegdbdhjaaPlaRefA
import Derived.Test.YtfbnmoegdbdhjaaPlaGcar
import Derived.Test.YtfbnmoegdbdhjaaRow
import Derived.BigRegion
namespace Go.Proofs.Ytfbnmoegdbdhjaa.Pl
set_option linter.unusedVariables false
set_option linter.unusedSimpArgs false
open Go.RowKit Go.Proofs.Ytfbnmoegdbdhjaa.Ba Go.Proofs.Ytfbnmoegdbdhjaa.Do Go.Proofs.Ytfbnmoegdbdhjaa.Mo Go.Proofs.Ytfbnmoegdbdhjaa.Ty Go.Proofs.Ytfbnmoegdbdhjaa.Mem
set_option maxRecDepth 100000

set_option maxHeartbeats 4000000 in
theorem steps (c : CfgV) (x : CarV) (r : Int) (o k : Bool) (w : World) (u0 : -9223372036854775808 ≤ x.un) (u1 : x.un ≤ 9223372036854775807) : Calls Try.prog 3 #[.agg #[.int .i64 c.ca, .int .i64 c.fl, .int .i64 c.ft, .int .i64 c.se, .int .i64 c.dr, .int .i64 c.dw, .int .i64 c.ho, .int .i64 c.re, .int .i64 c.yi, .int .i64 c.qu, .int .i64 c.qo, .int .i64 c.lo, .int .i64 c.sl, .int .i64 c.rt, .int .i64 c.cp, .int .i64 c.tr, .int .i64 c.de, .int .i64 c.wi], .agg #[.int .i64 x.ds, .int .i64 x.da, .int .i64 x.un, .int .i64 x.wy, .int .i64 x.ti, .int .i64 x.ju, .int .i64 x.lo, .bool x.bl, .bool x.br, .int .i64 x.mo, .int .i64 x.ta, .bool x.ho, .int .u64 x.sp, .int .u64 x.su, .int .u64 x.sd], .agg #[.int .i64 r, .bool o, .bool k]] w fun e w' => e = .returned (.bool true) ∧ Since w w' := by
  go_enter Try.func3, Try.ntmps3
  go_upto_region 1 with fail
  obtain ⟨w1, hw1⟩ : ∃ w1, w1 = ((w.alloc (.cells #[.int .i64 c.ca, .int .i64 c.fl, .int .i64 c.ft, .int .i64 c.se, .int .i64 c.dr, .int .i64 c.dw, .int .i64 c.ho, .int .i64 c.re, .int .i64 c.yi, .int .i64 c.qu, .int .i64 c.qo, .int .i64 c.lo, .int .i64 c.sl, .int .i64 c.rt, .int .i64 c.cp, .int .i64 c.tr, .int .i64 c.de, .int .i64 c.wi] 23)).alloc (.cells #[.int .i64 x.ds, .int .i64 x.da, .int .i64 x.un, .int .i64 x.wy, .int .i64 x.ti, .int .i64 x.ju, .int .i64 x.lo, .bool x.bl, .bool x.br, .int .i64 x.mo, .int .i64 x.ta, .bool x.ho, .int .u64 x.sp, .int .u64 x.su, .int .u64 x.sd] 30)).alloc (.cells #[.int .i64 r, .bool o, .bool k] 32) := ⟨_, rfl⟩
  have BC : Blk w1 (w.heap.size) 23 #[.int .i64 c.ca, .int .i64 c.fl, .int .i64 c.ft, .int .i64 c.se, .int .i64 c.dr, .int .i64 c.dw, .int .i64 c.ho, .int .i64 c.re, .int .i64 c.yi, .int .i64 c.qu, .int .i64 c.qo, .int .i64 c.lo, .int .i64 c.sl, .int .i64 c.rt, .int .i64 c.cp, .int .i64 c.tr, .int .i64 c.de, .int .i64 c.wi] := by rw [hw1]; exact ((Blk.new w _ _).alloc _).alloc _
  have BX : Blk w1 (w.heap.size + 1) 30 #[.int .i64 x.ds, .int .i64 x.da, .int .i64 x.un, .int .i64 x.wy, .int .i64 x.ti, .int .i64 x.ju, .int .i64 x.lo, .bool x.bl, .bool x.br, .int .i64 x.mo, .int .i64 x.ta, .bool x.ho, .int .u64 x.sp, .int .u64 x.su, .int .u64 x.sd] := by rw [hw1]; have h := (Blk.new (w.alloc (.cells #[.int .i64 c.ca, .int .i64 c.fl, .int .i64 c.ft, .int .i64 c.se, .int .i64 c.dr, .int .i64 c.dw, .int .i64 c.ho, .int .i64 c.re, .int .i64 c.yi, .int .i64 c.qu, .int .i64 c.qo, .int .i64 c.lo, .int .i64 c.sl, .int .i64 c.rt, .int .i64 c.cp, .int .i64 c.tr, .int .i64 c.de, .int .i64 c.wi] 23)) 30 #[.int .i64 x.ds, .int .i64 x.da, .int .i64 x.un, .int .i64 x.wy, .int .i64 x.ti, .int .i64 x.ju, .int .i64 x.lo, .bool x.bl, .bool x.br, .int .i64 x.mo, .int .i64 x.ta, .bool x.ho, .int .u64 x.sp, .int .u64 x.su, .int .u64 x.sd]).alloc (.cells #[.int .i64 r, .bool o, .bool k] 32); simpa using h
  have BM : Blk w1 (w.heap.size + 2) 32 #[.int .i64 r, .bool o, .bool k] := by rw [hw1]; have h := Blk.new ((w.alloc (.cells #[.int .i64 c.ca, .int .i64 c.fl, .int .i64 c.ft, .int .i64 c.se, .int .i64 c.dr, .int .i64 c.dw, .int .i64 c.ho, .int .i64 c.re, .int .i64 c.yi, .int .i64 c.qu, .int .i64 c.qo, .int .i64 c.lo, .int .i64 c.sl, .int .i64 c.rt, .int .i64 c.cp, .int .i64 c.tr, .int .i64 c.de, .int .i64 c.wi] 23)).alloc (.cells #[.int .i64 x.ds, .int .i64 x.da, .int .i64 x.un, .int .i64 x.wy, .int .i64 x.ti, .int .i64 x.ju, .int .i64 x.lo, .bool x.bl, .bool x.br, .int .i64 x.mo, .int .i64 x.ta, .bool x.ho, .int .u64 x.sp, .int .u64 x.su, .int .u64 x.sd] 30)) 32 #[.int .i64 r, .bool o, .bool k]; simpa using h
  have hs1 : Since w w1 := by rw [hw1]; exact (((Since.refl _).alloc _).alloc _).alloc _
  rw [← hw1]
  have HS1 := Lib.hid hs1; have HBC := Lib.hid BC; have HBX := Lib.hid BX; have HBM := Lib.hid BM; clear hs1 hw1
  go_cut [14] (fun s14 wx => s14 = .bool false ∧ Hid (Since w wx ∧ Blk wx (w.heap.size) 23 #[.int .i64 c.ca, .int .i64 c.fl, .int .i64 c.ft, .int .i64 c.se, .int .i64 c.dr, .int .i64 c.dw, .int .i64 c.ho, .int .i64 c.re, .int .i64 c.yi, .int .i64 c.qu, .int .i64 c.qo, .int .i64 c.lo, .int .i64 c.sl, .int .i64 c.rt, .int .i64 c.cp, .int .i64 c.tr, .int .i64 c.de, .int .i64 c.wi] ∧ Blk wx (w.heap.size + 1) 30 #[.int .i64 x.ds, .int .i64 x.da, .int .i64 x.un, .int .i64 x.wy, .int .i64 x.ti, .int .i64 x.ju, .int .i64 x.lo, .bool x.bl, .bool x.br, .int .i64 x.mo, .int .i64 x.ta, .bool x.ho, .int .u64 x.sp, .int .u64 x.su, .int .u64 x.sd] ∧ Blk wx (w.heap.size + 2) 32 #[.int .i64 r, .bool o, .bool k]))
  case first =>
    have hrK : ∀ W W' : World, Since W W' → (Since w1 W ∧ Blk W (w.heap.size) 23 #[.int .i64 c.ca, .int .i64 c.fl, .int .i64 c.ft, .int .i64 c.se, .int .i64 c.dr, .int .i64 c.dw, .int .i64 c.ho, .int .i64 c.re, .int .i64 c.yi, .int .i64 c.qu, .int .i64 c.qo, .int .i64 c.lo, .int .i64 c.sl, .int .i64 c.rt, .int .i64 c.cp, .int .i64 c.tr, .int .i64 c.de, .int .i64 c.wi] ∧ Blk W (w.heap.size + 1) 30 #[.int .i64 x.ds, .int .i64 x.da, .int .i64 x.un, .int .i64 x.wy, .int .i64 x.ti, .int .i64 x.ju, .int .i64 x.lo, .bool x.bl, .bool x.br, .int .i64 x.mo, .int .i64 x.ta, .bool x.ho, .int .u64 x.sp, .int .u64 x.su, .int .u64 x.sd]) → (Since w1 W' ∧ Blk W' (w.heap.size) 23 #[.int .i64 c.ca, .int .i64 c.fl, .int .i64 c.ft, .int .i64 c.se, .int .i64 c.dr, .int .i64 c.dw, .int .i64 c.ho, .int .i64 c.re, .int .i64 c.yi, .int .i64 c.qu, .int .i64 c.qo, .int .i64 c.lo, .int .i64 c.sl, .int .i64 c.rt, .int .i64 c.cp, .int .i64 c.tr, .int .i64 c.de, .int .i64 c.wi] ∧ Blk W' (w.heap.size + 1) 30 #[.int .i64 x.ds, .int .i64 x.da, .int .i64 x.un, .int .i64 x.wy, .int .i64 x.ti, .int .i64 x.ju, .int .i64 x.lo, .bool x.bl, .bool x.br, .int .i64 x.mo, .int .i64 x.ta, .bool x.ho, .int .u64 x.sp, .int .u64 x.su, .int .u64 x.sd]) := fun W W' k ⟨h, h0, h1⟩ => ⟨h.trans k, keep_blk k h0, keep_blk k h1⟩
    have hrS : (fun W : World => Since w1 W ∧ Blk W (w.heap.size) 23 #[.int .i64 c.ca, .int .i64 c.fl, .int .i64 c.ft, .int .i64 c.se, .int .i64 c.dr, .int .i64 c.dw, .int .i64 c.ho, .int .i64 c.re, .int .i64 c.yi, .int .i64 c.qu, .int .i64 c.qo, .int .i64 c.lo, .int .i64 c.sl, .int .i64 c.rt, .int .i64 c.cp, .int .i64 c.tr, .int .i64 c.de, .int .i64 c.wi] ∧ Blk W (w.heap.size + 1) 30 #[.int .i64 x.ds, .int .i64 x.da, .int .i64 x.un, .int .i64 x.wy, .int .i64 x.ti, .int .i64 x.ju, .int .i64 x.lo, .bool x.bl, .bool x.br, .int .i64 x.mo, .int .i64 x.ta, .bool x.ho, .int .u64 x.sp, .int .u64 x.su, .int .u64 x.sd]) (w1) := ⟨Since.refl _, by first | assumption | (simp; done), by first | assumption | (simp; done)⟩
    have HRK := Lib.hid hrK
    have HRD := Lib.hid (show (fun W : World => Since w1 W ∧ Blk W (w.heap.size) 23 #[.int .i64 c.ca, .int .i64 c.fl, .int .i64 c.ft, .int .i64 c.se, .int .i64 c.dr, .int .i64 c.dw, .int .i64 c.ho, .int .i64 c.re, .int .i64 c.yi, .int .i64 c.qu, .int .i64 c.qo, .int .i64 c.lo, .int .i64 c.sl, .int .i64 c.rt, .int .i64 c.cp, .int .i64 c.tr, .int .i64 c.de, .int .i64 c.wi] ∧ Blk W (w.heap.size + 1) 30 #[.int .i64 x.ds, .int .i64 x.da, .int .i64 x.un, .int .i64 x.wy, .int .i64 x.ti, .int .i64 x.ju, .int .i64 x.lo, .bool x.bl, .bool x.br, .int .i64 x.mo, .int .i64 x.ta, .bool x.ho, .int .u64 x.sp, .int .u64 x.su, .int .u64 x.sd]) (World.drew (w1)) from ⟨(Since.refl _).drew, hrS.2⟩)
    clear hrK hrS
    refine wp_region_held_drew (S := fun W : World => Since w1 W ∧ Blk W (w.heap.size) 23 #[.int .i64 c.ca, .int .i64 c.fl, .int .i64 c.ft, .int .i64 c.se, .int .i64 c.dr, .int .i64 c.dw, .int .i64 c.ho, .int .i64 c.re, .int .i64 c.yi, .int .i64 c.qu, .int .i64 c.qo, .int .i64 c.lo, .int .i64 c.sl, .int .i64 c.rt, .int .i64 c.cp, .int .i64 c.tr, .int .i64 c.de, .int .i64 c.wi] ∧ Blk W (w.heap.size + 1) 30 #[.int .i64 x.ds, .int .i64 x.da, .int .i64 x.un, .int .i64 x.wy, .int .i64 x.ti, .int .i64 x.ju, .int .i64 x.lo, .bool x.bl, .bool x.br, .int .i64 x.mo, .int .i64 x.ta, .bool x.ho, .int .u64 x.sp, .int .u64 x.su, .int .u64 x.sd]) (by kernel_rfl) HRD.out (fun hHeld => ?_)
    refine wpAnyH_take (i := 0) (oi := ?o_0) (v := .agg #[.int .i64 c.ca, .int .i64 c.fl, .int .i64 c.ft, .int .i64 c.se, .int .i64 c.dr, .int .i64 c.dw, .int .i64 c.ho, .int .i64 c.re, .int .i64 c.yi, .int .i64 c.qu, .int .i64 c.qo, .int .i64 c.lo, .int .i64 c.sl, .int .i64 c.rt, .int .i64 c.cp, .int .i64 c.tr, .int .i64 c.de, .int .i64 c.wi]) ?h_0 (by kernel_rfl) (by kernel_rfl) (by kernel_rfl) ?q_0 ?y_0 (by assumption) ?_
    case h_0 => (simp only [List.getElem?_toArray, List.getElem?_cons_zero, List.getElem?_cons_succ]; exact rfl)
    case q_0 => exact fun _ _ _ h => h
    case y_0 => exact Or.inl ⟨rfl, fun w hSw => exec_load_row 23 (.tmp 3) _ hSw.2.1 rfl rfl Try.underlying23 rfl (by kernel_rfl)⟩
    (try simp only [Act.put, List.setIfInBounds_toArray, List.set_cons_zero, List.set_cons_succ])
    refine wpAnyH_take (i := 1) (oi := ?o_1) (v := .agg #[.int .i64 x.ds, .int .i64 x.da, .int .i64 x.un, .int .i64 x.wy, .int .i64 x.ti, .int .i64 x.ju, .int .i64 x.lo, .bool x.bl, .bool x.br, .int .i64 x.mo, .int .i64 x.ta, .bool x.ho, .int .u64 x.sp, .int .u64 x.su, .int .u64 x.sd]) ?h_1 (by kernel_rfl) (by kernel_rfl) (by kernel_rfl) ?q_1 ?y_1 (by assumption) ?_
    case h_1 => (simp only [List.getElem?_toArray, List.getElem?_cons_zero, List.getElem?_cons_succ]; exact rfl)
    case q_1 => exact fun _ _ _ h => h
    case y_1 => exact Or.inl ⟨rfl, fun w hSw => exec_load_row 30 (.tmp 4) _ hSw.2.2 rfl rfl Try.underlying30 rfl (by kernel_rfl)⟩
    (try simp only [Act.put, List.setIfInBounds_toArray, List.set_cons_zero, List.set_cons_succ])
    refine wpAnyH_take (i := 3) (oi := ?o_3) (v := .agg #[.int .i64 c.ca, .int .i64 c.fl, .int .i64 c.ft, .int .i64 c.se, .int .i64 c.dr, .int .i64 c.dw, .int .i64 c.ho, .int .i64 c.re, .int .i64 c.yi, .int .i64 c.qu, .int .i64 c.qo, .int .i64 c.lo, .int .i64 c.sl, .int .i64 c.rt, .int .i64 c.cp, .int .i64 c.tr, .int .i64 c.de, .int .i64 c.wi]) ?h_3 (by kernel_rfl) (by kernel_rfl) (by kernel_rfl) ?q_3 ?y_3 (by assumption) ?_
    case h_3 => (simp only [List.getElem?_toArray, List.getElem?_cons_zero, List.getElem?_cons_succ]; exact rfl)
    case q_3 => exact fun _ _ _ h => h
    case y_3 => exact Or.inl ⟨rfl, fun w hSw => exec_load_row 23 (.tmp 3) _ hSw.2.1 rfl rfl Try.underlying23 rfl (by kernel_rfl)⟩
    (try simp only [Act.put, List.setIfInBounds_toArray, List.set_cons_zero, List.set_cons_succ])
    refine wpAnyH_take (i := 4) (oi := ?o_4) (v := .agg #[.int .i64 x.ds, .int .i64 x.da, .int .i64 x.un, .int .i64 x.wy, .int .i64 x.ti, .int .i64 x.ju, .int .i64 x.lo, .bool x.bl, .bool x.br, .int .i64 x.mo, .int .i64 x.ta, .bool x.ho, .int .u64 x.sp, .int .u64 x.su, .int .u64 x.sd]) ?h_4 (by kernel_rfl) (by kernel_rfl) (by kernel_rfl) ?q_4 ?y_4 (by assumption) ?_
    case h_4 => (simp only [List.getElem?_toArray, List.getElem?_cons_zero, List.getElem?_cons_succ]; exact rfl)
    case q_4 => exact fun _ _ _ h => h
    case y_4 => exact Or.inl ⟨rfl, fun w hSw => exec_load_row 30 (.tmp 4) _ hSw.2.2 rfl rfl Try.underlying30 rfl (by kernel_rfl)⟩
    (try simp only [Act.put, List.setIfInBounds_toArray, List.set_cons_zero, List.set_cons_succ])
    refine wpAnyH_ready (rs := [2]) (by kernel_rfl) (by simp) ?_
    refine AllReadyH.cons (o := ?o_2) ?h_2 (fun K hK => ?_) AllReadyH.nil
    case h_2 => (simp only [List.getElem?_toArray, List.getElem?_cons_zero, List.getElem?_cons_succ]; exact rfl)
    (try go_simp)
    (go_at_call 17; refine (goodT c x _).mono ?_; rintro e w9 ⟨rfl, hb9⟩)
    (try go_wp2_with fail)
    refine hK.out _ _ ?_ (fun hHeld2 => ?_)
    · first | exact HRD.out | exact hHeld | (apply HRK.out; assumption; assumption)
    clear hK K hHeld
    have hHeld := hHeld2
    clear hHeld2
    (try simp only [Act.put, List.setIfInBounds_toArray, List.set_cons_zero, List.set_cons_succ])
    refine wpAnyH_ready (rs := [5]) (by kernel_rfl) (by simp) ?_
    refine AllReadyH.cons (o := ?o_5) ?h_5 (fun K hK => ?_) AllReadyH.nil
    case h_5 => (simp only [List.getElem?_toArray, List.getElem?_cons_zero, List.getElem?_cons_succ]; exact rfl)
    (try go_simp)
    (go_at_call 18; refine (goodCarR c x _).mono ?_; rintro e w9 ⟨rfl, hb9⟩)
    (try go_wp2_with fail)
    refine hK.out _ _ ?_ (fun hHeld2 => ?_)
    · first | exact HRD.out | exact hHeld | (apply HRK.out; assumption; assumption)
    clear hK K hHeld
    have hHeld := hHeld2
    clear hHeld2
    (try simp only [Act.put, List.setIfInBounds_toArray, List.set_cons_zero, List.set_cons_succ])
    refine wpAnyH_take (i := 6) (oi := ?o_6) (v := ?v_6) ?h_6 (by kernel_rfl) (by kernel_rfl) (by kernel_rfl) ?q_6 ?y_6 (by assumption) ?_
    case h_6 => (simp only [List.getElem?_toArray, List.getElem?_cons_zero, List.getElem?_cons_succ]; exact rfl)
    case q_6 => exact fun _ _ _ h => h
    case y_6 => (refine Or.inl ⟨rfl, ?_⟩; intro w hSw; (try dsimp only at hSw); go_simp; (try with_reducible rfl))
    (try simp only [Act.put, List.setIfInBounds_toArray, List.set_cons_zero, List.set_cons_succ])
    refine wpAnyH_done (by kernel_rfl) ?_ _
    obtain ⟨hs2, _⟩ := hHeld
    have HS2 := Lib.hid hs2
    clear hs2 HRK HRD
    go_wp2_with fail
    go_meet
    case rel => exact ⟨by simp, Lib.hid ⟨HS1.out.trans HS2.out, keep_blk HS2.out HBC.out, keep_blk HS2.out HBX.out, keep_blk HS2.out HBM.out⟩⟩
  case rest =>
    obtain ⟨rfl, H2⟩ := hcut
    clear BC BX BM HS1 HBC HBX HBM
    obtain ⟨S2, BC, BX, BM⟩ := H2.out
    have HS2 := Lib.hid S2; have HBC := Lib.hid BC; have HBX := Lib.hid BX; have HBM := Lib.hid BM; clear S2 BC BX BM H2
    go_wp2_with (first | (refine wpList_load_row rfl 23 _ rfl _ rfl 23 _ (0, 0) _ HBC.out Try.underlying23 rfl (by kernel_rfl) ?_) | (refine wpList_load_row rfl 30 _ rfl _ rfl 30 _ (0, 0) _ HBX.out Try.underlying30 rfl (by kernel_rfl) ?_) | (refine wpList_load_row rfl 32 _ rfl _ rfl 32 _ (0, 0) _ HBM.out Try.underlying32 rfl (by kernel_rfl) ?_))
    refine (goodCarR c x _).mono ?_
    rintro e w3 ⟨rfl, hb3⟩
    have BC := keep_blk hb3 HBC.out; have BX := keep_blk hb3 HBX.out; have BM := keep_blk hb3 HBM.out
    have HS3 := Lib.hid (HS2.out.trans hb3); clear hb3 HS2 HBC HBX HBM
    cases hg : goodB c x
    · clear BC BX BM
      go_wp2_with fail
      refine (ans _).mono ?_
      rintro e w4 ⟨rfl, hb4⟩
      go_wp2
      go_ret
      exact ⟨rfl, HS3.out.trans hb4⟩
    · obtain ⟨d0, d1, _, _⟩ := good_bd c x hg
      have HGY := Lib.hid (show ∀ w : World, Calls Try.prog 18 #[.agg #[.int .i64 c.ca, .int .i64 c.fl, .int .i64 c.ft, .int .i64 c.se, .int .i64 c.dr, .int .i64 c.dw, .int .i64 c.ho, .int .i64 c.re, .int .i64 c.yi, .int .i64 c.qu, .int .i64 c.qo, .int .i64 c.lo, .int .i64 c.sl, .int .i64 c.rt, .int .i64 c.cp, .int .i64 c.tr, .int .i64 c.de, .int .i64 c.wi], .agg #[.int .i64 (dS1 c x o k), .int .i64 (dA1 c x o k), .int .i64 (un1 c x r o k), .int .i64 (wy1 c x r o k), .int .i64 x.ti, .int .i64 x.ju, .int .i64 x.lo, .bool x.bl, .bool x.br, .int .i64 x.mo, .int .i64 x.ta, .bool x.ho, .int .u64 x.sp, .int .u64 x.su, .int .u64 x.sd]] w fun e w' => e = .returned (.bool true) ∧ Since w w' from fun w => by have h := goodCarR c (stepV c x r o k) w; rw [good_step c x r o k hg] at h; exact h)
      have HSY := Lib.hid (show ∀ w : World, Calls Try.prog 22 #[.agg #[.int .i64 (dS1 c x o k), .int .i64 (dA1 c x o k), .int .i64 (un1 c x r o k), .int .i64 (wy1 c x r o k), .int .i64 x.ti, .int .i64 x.ju, .int .i64 x.lo, .bool x.bl, .bool x.br, .int .i64 x.mo, .int .i64 x.ta, .bool x.ho, .int .u64 x.sp, .int .u64 x.su, .int .u64 x.sd]] w fun e w' => e = .returned (.bool true) ∧ Since w w' from fun w => by have h := safeT (stepV c x r o k) w; rw [good_safe c _ (good_step c x r o k hg)] at h; exact h)
      have HSX := Lib.hid (show ∀ w : World, Calls Try.prog 22 #[.agg #[.int .i64 x.ds, .int .i64 x.da, .int .i64 x.un, .int .i64 x.wy, .int .i64 x.ti, .int .i64 x.ju, .int .i64 x.lo, .bool x.bl, .bool x.br, .int .i64 x.mo, .int .i64 x.ta, .bool x.ho, .int .u64 x.sp, .int .u64 x.su, .int .u64 x.sd]] w fun e w' => e = .returned (.bool true) ∧ Since w w' from fun w => by have h := safeT x w; rw [good_safe c _ hg] at h; exact h)
      have HBC := Lib.hid BC; have HBX := Lib.hid BX; have HBM := Lib.hid BM; clear BC BX BM
      go_wp2_with (first | (refine wpList_load_row rfl 23 _ rfl _ rfl 23 _ (0, 0) _ HBC.out Try.underlying23 rfl (by kernel_rfl) ?_) | (refine wpList_load_row rfl 30 _ rfl _ rfl 30 _ (0, 0) _ HBX.out Try.underlying30 rfl (by kernel_rfl) ?_) | (refine wpList_load_row rfl 32 _ rfl _ rfl 32 _ (0, 0) _ HBM.out Try.underlying32 rfl (by kernel_rfl) ?_))
      refine (stepT c x r o k d0 d1 u0 u1 _).mono ?_
      rintro e w4 ⟨rfl, hb4⟩
      go_wp2_with fail
      obtain ⟨w5, hw5⟩ : ∃ w5, w5 = w4.alloc (.cells #[.int .i64 (dS1 c x o k), .int .i64 (dA1 c x o k), .int .i64 (un1 c x r o k), .int .i64 (wy1 c x r o k), .int .i64 x.ti, .int .i64 x.ju, .int .i64 x.lo, .bool x.bl, .bool x.br, .int .i64 x.mo, .int .i64 x.ta, .bool x.ho, .int .u64 x.sp, .int .u64 x.su, .int .u64 x.sd] 30) := ⟨_, rfl⟩
      rw [← hw5]
      have hb5 : Since w4 w5 := by rw [hw5]; exact (Since.refl w4).alloc _
      have BY : Blk w5 (w4.heap.size) 30 #[.int .i64 (dS1 c x o k), .int .i64 (dA1 c x o k), .int .i64 (un1 c x r o k), .int .i64 (wy1 c x r o k), .int .i64 x.ti, .int .i64 x.ju, .int .i64 x.lo, .bool x.bl, .bool x.br, .int .i64 x.mo, .int .i64 x.ta, .bool x.ho, .int .u64 x.sp, .int .u64 x.su, .int .u64 x.sd] := by rw [hw5]; exact Blk.new w4 _ _
      have BC := keep_blk (hb4.trans hb5) HBC.out; have BX := keep_blk (hb4.trans hb5) HBX.out; have BM := keep_blk (hb4.trans hb5) HBM.out
      have HS5 := Lib.hid ((HS3.out.trans hb4).trans hb5); clear hb4 hb5 hw5 HS3 HBC HBX HBM
      have hrK : ∀ W W' : World, Since W W' → (Since w5 W ∧ Blk W (w.heap.size) 23 #[.int .i64 c.ca, .int .i64 c.fl, .int .i64 c.ft, .int .i64 c.se, .int .i64 c.dr, .int .i64 c.dw, .int .i64 c.ho, .int .i64 c.re, .int .i64 c.yi, .int .i64 c.qu, .int .i64 c.qo, .int .i64 c.lo, .int .i64 c.sl, .int .i64 c.rt, .int .i64 c.cp, .int .i64 c.tr, .int .i64 c.de, .int .i64 c.wi] ∧ Blk W (w.heap.size + 1) 30 #[.int .i64 x.ds, .int .i64 x.da, .int .i64 x.un, .int .i64 x.wy, .int .i64 x.ti, .int .i64 x.ju, .int .i64 x.lo, .bool x.bl, .bool x.br, .int .i64 x.mo, .int .i64 x.ta, .bool x.ho, .int .u64 x.sp, .int .u64 x.su, .int .u64 x.sd] ∧ Blk W (w.heap.size + 2) 32 #[.int .i64 r, .bool o, .bool k] ∧ Blk W (w4.heap.size) 30 #[.int .i64 (dS1 c x o k), .int .i64 (dA1 c x o k), .int .i64 (un1 c x r o k), .int .i64 (wy1 c x r o k), .int .i64 x.ti, .int .i64 x.ju, .int .i64 x.lo, .bool x.bl, .bool x.br, .int .i64 x.mo, .int .i64 x.ta, .bool x.ho, .int .u64 x.sp, .int .u64 x.su, .int .u64 x.sd]) → (Since w5 W' ∧ Blk W' (w.heap.size) 23 #[.int .i64 c.ca, .int .i64 c.fl, .int .i64 c.ft, .int .i64 c.se, .int .i64 c.dr, .int .i64 c.dw, .int .i64 c.ho, .int .i64 c.re, .int .i64 c.yi, .int .i64 c.qu, .int .i64 c.qo, .int .i64 c.lo, .int .i64 c.sl, .int .i64 c.rt, .int .i64 c.cp, .int .i64 c.tr, .int .i64 c.de, .int .i64 c.wi] ∧ Blk W' (w.heap.size + 1) 30 #[.int .i64 x.ds, .int .i64 x.da, .int .i64 x.un, .int .i64 x.wy, .int .i64 x.ti, .int .i64 x.ju, .int .i64 x.lo, .bool x.bl, .bool x.br, .int .i64 x.mo, .int .i64 x.ta, .bool x.ho, .int .u64 x.sp, .int .u64 x.su, .int .u64 x.sd] ∧ Blk W' (w.heap.size + 2) 32 #[.int .i64 r, .bool o, .bool k] ∧ Blk W' (w4.heap.size) 30 #[.int .i64 (dS1 c x o k), .int .i64 (dA1 c x o k), .int .i64 (un1 c x r o k), .int .i64 (wy1 c x r o k), .int .i64 x.ti, .int .i64 x.ju, .int .i64 x.lo, .bool x.bl, .bool x.br, .int .i64 x.mo, .int .i64 x.ta, .bool x.ho, .int .u64 x.sp, .int .u64 x.su, .int .u64 x.sd]) := fun W W' k ⟨h, h0, h1, h2, h3⟩ => ⟨h.trans k, keep_blk k h0, keep_blk k h1, keep_blk k h2, keep_blk k h3⟩
      have hrS : (fun W : World => Since w5 W ∧ Blk W (w.heap.size) 23 #[.int .i64 c.ca, .int .i64 c.fl, .int .i64 c.ft, .int .i64 c.se, .int .i64 c.dr, .int .i64 c.dw, .int .i64 c.ho, .int .i64 c.re, .int .i64 c.yi, .int .i64 c.qu, .int .i64 c.qo, .int .i64 c.lo, .int .i64 c.sl, .int .i64 c.rt, .int .i64 c.cp, .int .i64 c.tr, .int .i64 c.de, .int .i64 c.wi] ∧ Blk W (w.heap.size + 1) 30 #[.int .i64 x.ds, .int .i64 x.da, .int .i64 x.un, .int .i64 x.wy, .int .i64 x.ti, .int .i64 x.ju, .int .i64 x.lo, .bool x.bl, .bool x.br, .int .i64 x.mo, .int .i64 x.ta, .bool x.ho, .int .u64 x.sp, .int .u64 x.su, .int .u64 x.sd] ∧ Blk W (w.heap.size + 2) 32 #[.int .i64 r, .bool o, .bool k] ∧ Blk W (w4.heap.size) 30 #[.int .i64 (dS1 c x o k), .int .i64 (dA1 c x o k), .int .i64 (un1 c x r o k), .int .i64 (wy1 c x r o k), .int .i64 x.ti, .int .i64 x.ju, .int .i64 x.lo, .bool x.bl, .bool x.br, .int .i64 x.mo, .int .i64 x.ta, .bool x.ho, .int .u64 x.sp, .int .u64 x.su, .int .u64 x.sd]) (w5) := ⟨Since.refl _, by first | assumption | (simp; done), by first | assumption | (simp; done), by first | assumption | (simp; done), by first | assumption | (simp; done)⟩
      have HRK := Lib.hid hrK
      have HRD := Lib.hid (show (fun W : World => Since w5 W ∧ Blk W (w.heap.size) 23 #[.int .i64 c.ca, .int .i64 c.fl, .int .i64 c.ft, .int .i64 c.se, .int .i64 c.dr, .int .i64 c.dw, .int .i64 c.ho, .int .i64 c.re, .int .i64 c.yi, .int .i64 c.qu, .int .i64 c.qo, .int .i64 c.lo, .int .i64 c.sl, .int .i64 c.rt, .int .i64 c.cp, .int .i64 c.tr, .int .i64 c.de, .int .i64 c.wi] ∧ Blk W (w.heap.size + 1) 30 #[.int .i64 x.ds, .int .i64 x.da, .int .i64 x.un, .int .i64 x.wy, .int .i64 x.ti, .int .i64 x.ju, .int .i64 x.lo, .bool x.bl, .bool x.br, .int .i64 x.mo, .int .i64 x.ta, .bool x.ho, .int .u64 x.sp, .int .u64 x.su, .int .u64 x.sd] ∧ Blk W (w.heap.size + 2) 32 #[.int .i64 r, .bool o, .bool k] ∧ Blk W (w4.heap.size) 30 #[.int .i64 (dS1 c x o k), .int .i64 (dA1 c x o k), .int .i64 (un1 c x r o k), .int .i64 (wy1 c x r o k), .int .i64 x.ti, .int .i64 x.ju, .int .i64 x.lo, .bool x.bl, .bool x.br, .int .i64 x.mo, .int .i64 x.ta, .bool x.ho, .int .u64 x.sp, .int .u64 x.su, .int .u64 x.sd]) (World.drew (w5)) from ⟨(Since.refl _).drew, hrS.2⟩)
      clear hrK hrS
      refine wp_region_held_drew (S := fun W : World => Since w5 W ∧ Blk W (w.heap.size) 23 #[.int .i64 c.ca, .int .i64 c.fl, .int .i64 c.ft, .int .i64 c.se, .int .i64 c.dr, .int .i64 c.dw, .int .i64 c.ho, .int .i64 c.re, .int .i64 c.yi, .int .i64 c.qu, .int .i64 c.qo, .int .i64 c.lo, .int .i64 c.sl, .int .i64 c.rt, .int .i64 c.cp, .int .i64 c.tr, .int .i64 c.de, .int .i64 c.wi] ∧ Blk W (w.heap.size + 1) 30 #[.int .i64 x.ds, .int .i64 x.da, .int .i64 x.un, .int .i64 x.wy, .int .i64 x.ti, .int .i64 x.ju, .int .i64 x.lo, .bool x.bl, .bool x.br, .int .i64 x.mo, .int .i64 x.ta, .bool x.ho, .int .u64 x.sp, .int .u64 x.su, .int .u64 x.sd] ∧ Blk W (w.heap.size + 2) 32 #[.int .i64 r, .bool o, .bool k] ∧ Blk W (w4.heap.size) 30 #[.int .i64 (dS1 c x o k), .int .i64 (dA1 c x o k), .int .i64 (un1 c x r o k), .int .i64 (wy1 c x r o k), .int .i64 x.ti, .int .i64 x.ju, .int .i64 x.lo, .bool x.bl, .bool x.br, .int .i64 x.mo, .int .i64 x.ta, .bool x.ho, .int .u64 x.sp, .int .u64 x.su, .int .u64 x.sd]) (by kernel_rfl) HRD.out (fun hHeld => ?_)
      refine wpAnyH_ready (rs := [0]) (by kernel_rfl) (by simp) ?_
      refine AllReadyH.cons (o := ?oz_0) ?hz_0 (fun K hK => ?_) AllReadyH.nil
      case hz_0 => (simp only [List.getElem?_toArray, List.getElem?_cons_zero, List.getElem?_cons_succ]; exact rfl)
      (try go_simp)
      (go_at_call 19; refine (ans _).mono ?_; rintro e w9 ⟨rfl, hb9⟩)
      (try go_wp2_with fail)
      refine hK.out _ _ ?_ (fun hHeld2 => ?_)
      · first | exact HRD.out | exact hHeld | (apply HRK.out; assumption; assumption)
      clear hK K hHeld
      have hHeld := hHeld2
      clear hHeld2
      (try simp only [Act.put, List.setIfInBounds_toArray, List.set_cons_zero, List.set_cons_succ])
      refine wpAnyH_take (i := 1) (oi := ?oz_1) (v := ?vz_1) ?hz_1 (by kernel_rfl) (by kernel_rfl) (by kernel_rfl) ?qz_1 ?yz_1 (by assumption) ?_
      case hz_1 => (simp only [List.getElem?_toArray, List.getElem?_cons_zero, List.getElem?_cons_succ]; exact rfl)
      case qz_1 => exact fun _ _ _ h => h
      case yz_1 => (refine Or.inl ⟨rfl, ?_⟩; intro w hSw; (try dsimp only at hSw); go_simp; (try with_reducible rfl))
      (try simp only [Act.put, List.setIfInBounds_toArray, List.set_cons_zero, List.set_cons_succ])
      refine wpAnyH_take (i := 2) (oi := ?oz_2) (v := .agg #[.int .i64 (dS1 c x o k), .int .i64 (dA1 c x o k), .int .i64 (un1 c x r o k), .int .i64 (wy1 c x r o k), .int .i64 x.ti, .int .i64 x.ju, .int .i64 x.lo, .bool x.bl, .bool x.br, .int .i64 x.mo, .int .i64 x.ta, .bool x.ho, .int .u64 x.sp, .int .u64 x.su, .int .u64 x.sd]) ?hz_2 (by kernel_rfl) (by kernel_rfl) (by kernel_rfl) ?qz_2 ?yz_2 (by assumption) ?_
      case hz_2 => (simp only [List.getElem?_toArray, List.getElem?_cons_zero, List.getElem?_cons_succ]; exact rfl)
      case qz_2 => exact fun _ _ _ h => h
      case yz_2 => exact Or.inl ⟨rfl, fun w hSw => exec_load_row 30 (.tmp 7) _ hSw.2.2.2.2 rfl rfl Try.underlying30 rfl (by kernel_rfl)⟩
      (try simp only [Act.put, List.setIfInBounds_toArray, List.set_cons_zero, List.set_cons_succ])
      refine wpAnyH_take (i := 3) (oi := ?oz_3) (v := .agg #[.int .i64 c.ca, .int .i64 c.fl, .int .i64 c.ft, .int .i64 c.se, .int .i64 c.dr, .int .i64 c.dw, .int .i64 c.ho, .int .i64 c.re, .int .i64 c.yi, .int .i64 c.qu, .int .i64 c.qo, .int .i64 c.lo, .int .i64 c.sl, .int .i64 c.rt, .int .i64 c.cp, .int .i64 c.tr, .int .i64 c.de, .int .i64 c.wi]) ?hz_3 (by kernel_rfl) (by kernel_rfl) (by kernel_rfl) ?qz_3 ?yz_3 (by assumption) ?_
      case hz_3 => (simp only [List.getElem?_toArray, List.getElem?_cons_zero, List.getElem?_cons_succ]; exact rfl)
      case qz_3 => exact fun _ _ _ h => h
      case yz_3 => exact Or.inl ⟨rfl, fun w hSw => exec_load_row 23 (.tmp 3) _ hSw.2.1 rfl rfl Try.underlying23 rfl (by kernel_rfl)⟩
      (try simp only [Act.put, List.setIfInBounds_toArray, List.set_cons_zero, List.set_cons_succ])
      refine wpAnyH_take (i := 4) (oi := ?oz_4) (v := .agg #[.int .i64 x.ds, .int .i64 x.da, .int .i64 x.un, .int .i64 x.wy, .int .i64 x.ti, .int .i64 x.ju, .int .i64 x.lo, .bool x.bl, .bool x.br, .int .i64 x.mo, .int .i64 x.ta, .bool x.ho, .int .u64 x.sp, .int .u64 x.su, .int .u64 x.sd]) ?hz_4 (by kernel_rfl) (by kernel_rfl) (by kernel_rfl) ?qz_4 ?yz_4 (by assumption) ?_
      case hz_4 => (simp only [List.getElem?_toArray, List.getElem?_cons_zero, List.getElem?_cons_succ]; exact rfl)
      case qz_4 => exact fun _ _ _ h => h
      case yz_4 => exact Or.inl ⟨rfl, fun w hSw => exec_load_row 30 (.tmp 4) _ hSw.2.2.1 rfl rfl Try.underlying30 rfl (by kernel_rfl)⟩
      (try simp only [Act.put, List.setIfInBounds_toArray, List.set_cons_zero, List.set_cons_succ])
      refine wpAnyH_take (i := 5) (oi := ?oz_5) (v := .agg #[.int .i64 r, .bool o, .bool k]) ?hz_5 (by kernel_rfl) (by kernel_rfl) (by kernel_rfl) ?qz_5 ?yz_5 (by assumption) ?_
      case hz_5 => (simp only [List.getElem?_toArray, List.getElem?_cons_zero, List.getElem?_cons_succ]; exact rfl)
      case qz_5 => exact fun _ _ _ h => h
      case yz_5 => exact Or.inl ⟨rfl, fun w hSw => exec_load_row 32 (.tmp 5) _ hSw.2.2.2.1 rfl rfl Try.underlying32 rfl (by kernel_rfl)⟩
      (try simp only [Act.put, List.setIfInBounds_toArray, List.set_cons_zero, List.set_cons_succ])
      refine wpAnyH_ready (rs := [6]) (by kernel_rfl) (by simp) ?_
      refine AllReadyH.cons (o := ?oz_6) ?hz_6 (fun K hK => ?_) AllReadyH.nil
      case hz_6 => (simp only [List.getElem?_toArray, List.getElem?_cons_zero, List.getElem?_cons_succ]; exact rfl)
      (try go_simp)
      (go_at_call 21; refine (stepR c x r o k d0 d1 u0 u1 _).mono ?_; rintro e w9 ⟨rfl, hb9⟩)
      (try go_wp2_with fail)
      refine hK.out _ _ ?_ (fun hHeld2 => ?_)
      · first | exact HRD.out | exact hHeld | (apply HRK.out; assumption; assumption)
      clear hK K hHeld
      have hHeld := hHeld2
      clear hHeld2
      (try simp only [Act.put, List.setIfInBounds_toArray, List.set_cons_zero, List.set_cons_succ])
      refine wpAnyH_take (i := 7) (oi := ?oz_7) (v := ?vz_7) ?hz_7 (by kernel_rfl) (by kernel_rfl) (by kernel_rfl) ?qz_7 ?yz_7 (by assumption) ?_
      case hz_7 => (simp only [List.getElem?_toArray, List.getElem?_cons_zero, List.getElem?_cons_succ]; exact rfl)
      case qz_7 => exact fun _ _ _ h => h
      case yz_7 => (refine Or.inl ⟨rfl, ?_⟩; intro w hSw; (try dsimp only at hSw); go_simp; (try with_reducible rfl))
      (try simp only [Act.put, List.setIfInBounds_toArray, List.set_cons_zero, List.set_cons_succ])
      refine wpAnyH_take (i := 8) (oi := ?oz_8) (v := ?vz_8) ?hz_8 (by kernel_rfl) (by kernel_rfl) (by kernel_rfl) ?qz_8 ?yz_8 (by assumption) ?_
      case hz_8 => (simp only [List.getElem?_toArray, List.getElem?_cons_zero, List.getElem?_cons_succ]; exact rfl)
      case qz_8 => exact fun _ _ _ h => h
      case yz_8 => (refine Or.inl ⟨rfl, ?_⟩; intro w hSw; (try dsimp only at hSw); go_simp; (try with_reducible rfl))
      (try simp only [Act.put, List.setIfInBounds_toArray, List.set_cons_zero, List.set_cons_succ])
      refine wpAnyH_take (i := 9) (oi := ?oz_9) (v := ?vz_9) ?hz_9 (by kernel_rfl) (by kernel_rfl) (by kernel_rfl) ?qz_9 ?yz_9 (by assumption) ?_
      case hz_9 => (simp only [List.getElem?_toArray, List.getElem?_cons_zero, List.getElem?_cons_succ]; exact rfl)
      case qz_9 => exact fun _ _ _ h => h
      case yz_9 => (refine Or.inl ⟨rfl, ?_⟩; intro w hSw; (try dsimp only at hSw); go_simp; (try with_reducible rfl))
      (try simp only [Act.put, List.setIfInBounds_toArray, List.set_cons_zero, List.set_cons_succ])
      refine wpAnyH_take (i := 10) (oi := ?oz_10) (v := .agg #[.int .i64 c.ca, .int .i64 c.fl, .int .i64 c.ft, .int .i64 c.se, .int .i64 c.dr, .int .i64 c.dw, .int .i64 c.ho, .int .i64 c.re, .int .i64 c.yi, .int .i64 c.qu, .int .i64 c.qo, .int .i64 c.lo, .int .i64 c.sl, .int .i64 c.rt, .int .i64 c.cp, .int .i64 c.tr, .int .i64 c.de, .int .i64 c.wi]) ?hz_10 (by kernel_rfl) (by kernel_rfl) (by kernel_rfl) ?qz_10 ?yz_10 (by assumption) ?_
      case hz_10 => (simp only [List.getElem?_toArray, List.getElem?_cons_zero, List.getElem?_cons_succ]; exact rfl)
      case qz_10 => exact fun _ _ _ h => h
      case yz_10 => exact Or.inl ⟨rfl, fun w hSw => exec_load_row 23 (.tmp 3) _ hSw.2.1 rfl rfl Try.underlying23 rfl (by kernel_rfl)⟩
      (try simp only [Act.put, List.setIfInBounds_toArray, List.set_cons_zero, List.set_cons_succ])
      refine wpAnyH_take (i := 11) (oi := ?oz_11) (v := .agg #[.int .i64 (dS1 c x o k), .int .i64 (dA1 c x o k), .int .i64 (un1 c x r o k), .int .i64 (wy1 c x r o k), .int .i64 x.ti, .int .i64 x.ju, .int .i64 x.lo, .bool x.bl, .bool x.br, .int .i64 x.mo, .int .i64 x.ta, .bool x.ho, .int .u64 x.sp, .int .u64 x.su, .int .u64 x.sd]) ?hz_11 (by kernel_rfl) (by kernel_rfl) (by kernel_rfl) ?qz_11 ?yz_11 (by assumption) ?_
      case hz_11 => (simp only [List.getElem?_toArray, List.getElem?_cons_zero, List.getElem?_cons_succ]; exact rfl)
      case qz_11 => exact fun _ _ _ h => h
      case yz_11 => exact Or.inl ⟨rfl, fun w hSw => exec_load_row 30 (.tmp 7) _ hSw.2.2.2.2 rfl rfl Try.underlying30 rfl (by kernel_rfl)⟩
      (try simp only [Act.put, List.setIfInBounds_toArray, List.set_cons_zero, List.set_cons_succ])
      refine wpAnyH_ready (rs := [12]) (by kernel_rfl) (by simp) ?_
      refine AllReadyH.cons (o := ?oz_12) ?hz_12 (fun K hK => ?_) AllReadyH.nil
      case hz_12 => (simp only [List.getElem?_toArray, List.getElem?_cons_zero, List.getElem?_cons_succ]; exact rfl)
      (try go_simp)
      (go_at_call 18; refine (HGY.out _).mono ?_; rintro e w9 ⟨rfl, hb9⟩)
      (try go_wp2_with fail)
      refine hK.out _ _ ?_ (fun hHeld2 => ?_)
      · first | exact HRD.out | exact hHeld | (apply HRK.out; assumption; assumption)
      clear hK K hHeld
      have hHeld := hHeld2
      clear hHeld2
      (try simp only [Act.put, List.setIfInBounds_toArray, List.set_cons_zero, List.set_cons_succ])
      refine wpAnyH_take (i := 13) (oi := ?oz_13) (v := ?vz_13) ?hz_13 (by kernel_rfl) (by kernel_rfl) (by kernel_rfl) ?qz_13 ?yz_13 (by assumption) ?_
      case hz_13 => (simp only [List.getElem?_toArray, List.getElem?_cons_zero, List.getElem?_cons_succ]; exact rfl)
      case qz_13 => exact fun _ _ _ h => h
      case yz_13 => (refine Or.inl ⟨rfl, ?_⟩; intro w hSw; (try dsimp only at hSw); go_simp; (try with_reducible rfl))
      (try simp only [Act.put, List.setIfInBounds_toArray, List.set_cons_zero, List.set_cons_succ])
      refine wpAnyH_take (i := 14) (oi := ?oz_14) (v := ?vz_14) ?hz_14 (by kernel_rfl) (by kernel_rfl) (by kernel_rfl) ?qz_14 ?yz_14 (by assumption) ?_
      case hz_14 => (simp only [List.getElem?_toArray, List.getElem?_cons_zero, List.getElem?_cons_succ]; exact rfl)
      case qz_14 => exact fun _ _ _ h => h
      case yz_14 => (refine Or.inl ⟨rfl, ?_⟩; intro w hSw; (try dsimp only at hSw); go_simp; (try with_reducible rfl))
      (try simp only [Act.put, List.setIfInBounds_toArray, List.set_cons_zero, List.set_cons_succ])
      refine wpAnyH_take (i := 15) (oi := ?oz_15) (v := .agg #[.int .i64 (dS1 c x o k), .int .i64 (dA1 c x o k), .int .i64 (un1 c x r o k), .int .i64 (wy1 c x r o k), .int .i64 x.ti, .int .i64 x.ju, .int .i64 x.lo, .bool x.bl, .bool x.br, .int .i64 x.mo, .int .i64 x.ta, .bool x.ho, .int .u64 x.sp, .int .u64 x.su, .int .u64 x.sd]) ?hz_15 (by kernel_rfl) (by kernel_rfl) (by kernel_rfl) ?qz_15 ?yz_15 (by assumption) ?_
      case hz_15 => (simp only [List.getElem?_toArray, List.getElem?_cons_zero, List.getElem?_cons_succ]; exact rfl)
      case qz_15 => exact fun _ _ _ h => h
      case yz_15 => exact Or.inl ⟨rfl, fun w hSw => exec_load_row 30 (.tmp 7) _ hSw.2.2.2.2 rfl rfl Try.underlying30 rfl (by kernel_rfl)⟩
      (try simp only [Act.put, List.setIfInBounds_toArray, List.set_cons_zero, List.set_cons_succ])
      refine wpAnyH_ready (rs := [16]) (by kernel_rfl) (by simp) ?_
      refine AllReadyH.cons (o := ?oz_16) ?hz_16 (fun K hK => ?_) AllReadyH.nil
      case hz_16 => (simp only [List.getElem?_toArray, List.getElem?_cons_zero, List.getElem?_cons_succ]; exact rfl)
      (try go_simp)
      (go_at_call 22; refine (HSY.out _).mono ?_; rintro e w9 ⟨rfl, hb9⟩)
      (try go_wp2_with fail)
      refine hK.out _ _ ?_ (fun hHeld2 => ?_)
      · first | exact HRD.out | exact hHeld | (apply HRK.out; assumption; assumption)
      clear hK K hHeld
      have hHeld := hHeld2
      clear hHeld2
      (try simp only [Act.put, List.setIfInBounds_toArray, List.set_cons_zero, List.set_cons_succ])
      refine wpAnyH_take (i := 17) (oi := ?oz_17) (v := ?vz_17) ?hz_17 (by kernel_rfl) (by kernel_rfl) (by kernel_rfl) ?qz_17 ?yz_17 (by assumption) ?_
      case hz_17 => (simp only [List.getElem?_toArray, List.getElem?_cons_zero, List.getElem?_cons_succ]; exact rfl)
      case qz_17 => exact fun _ _ _ h => h
      case yz_17 => (refine Or.inl ⟨rfl, ?_⟩; intro w hSw; (try dsimp only at hSw); go_simp; (try with_reducible rfl))
      (try simp only [Act.put, List.setIfInBounds_toArray, List.set_cons_zero, List.set_cons_succ])
      refine wpAnyH_take (i := 18) (oi := ?oz_18) (v := ?vz_18) ?hz_18 (by kernel_rfl) (by kernel_rfl) (by kernel_rfl) ?qz_18 ?yz_18 (by assumption) ?_
      case hz_18 => (simp only [List.getElem?_toArray, List.getElem?_cons_zero, List.getElem?_cons_succ]; exact rfl)
      case qz_18 => exact fun _ _ _ h => h
      case yz_18 => (refine Or.inl ⟨rfl, ?_⟩; intro w hSw; (try dsimp only at hSw); go_simp; (try with_reducible rfl))
      (try simp only [Act.put, List.setIfInBounds_toArray, List.set_cons_zero, List.set_cons_succ])
      refine wpAnyH_take (i := 19) (oi := ?oz_19) (v := .agg #[.int .i64 x.ds, .int .i64 x.da, .int .i64 x.un, .int .i64 x.wy, .int .i64 x.ti, .int .i64 x.ju, .int .i64 x.lo, .bool x.bl, .bool x.br, .int .i64 x.mo, .int .i64 x.ta, .bool x.ho, .int .u64 x.sp, .int .u64 x.su, .int .u64 x.sd]) ?hz_19 (by kernel_rfl) (by kernel_rfl) (by kernel_rfl) ?qz_19 ?yz_19 (by assumption) ?_
      case hz_19 => (simp only [List.getElem?_toArray, List.getElem?_cons_zero, List.getElem?_cons_succ]; exact rfl)
      case qz_19 => exact fun _ _ _ h => h
      case yz_19 => exact Or.inl ⟨rfl, fun w hSw => exec_load_row 30 (.tmp 4) _ hSw.2.2.1 rfl rfl Try.underlying30 rfl (by kernel_rfl)⟩
      (try simp only [Act.put, List.setIfInBounds_toArray, List.set_cons_zero, List.set_cons_succ])
      refine wpAnyH_ready (rs := [20]) (by kernel_rfl) (by simp) ?_
      refine AllReadyH.cons (o := ?oz_20) ?hz_20 (fun K hK => ?_) AllReadyH.nil
      case hz_20 => (simp only [List.getElem?_toArray, List.getElem?_cons_zero, List.getElem?_cons_succ]; exact rfl)
      (try go_simp)
      (go_at_call 22; refine (HSX.out _).mono ?_; rintro e w9 ⟨rfl, hb9⟩)
      (try go_wp2_with fail)
      refine hK.out _ _ ?_ (fun hHeld2 => ?_)
      · first | exact HRD.out | exact hHeld | (apply HRK.out; assumption; assumption)
      clear hK K hHeld
      have hHeld := hHeld2
      clear hHeld2
      (try simp only [Act.put, List.setIfInBounds_toArray, List.set_cons_zero, List.set_cons_succ])
      refine wpAnyH_take (i := 21) (oi := ?oz_21) (v := ?vz_21) ?hz_21 (by kernel_rfl) (by kernel_rfl) (by kernel_rfl) ?qz_21 ?yz_21 (by assumption) ?_
      case hz_21 => (simp only [List.getElem?_toArray, List.getElem?_cons_zero, List.getElem?_cons_succ]; exact rfl)
      case qz_21 => exact fun _ _ _ h => h
      case yz_21 => (refine Or.inl ⟨rfl, ?_⟩; intro w hSw; (try dsimp only at hSw); go_simp; (try with_reducible rfl))
      (try simp only [Act.put, List.setIfInBounds_toArray, List.set_cons_zero, List.set_cons_succ])
      refine wpAnyH_take (i := 22) (oi := ?oz_22) (v := ?vz_22) ?hz_22 (by kernel_rfl) (by kernel_rfl) (by kernel_rfl) ?qz_22 ?yz_22 (by assumption) ?_
      case hz_22 => (simp only [List.getElem?_toArray, List.getElem?_cons_zero, List.getElem?_cons_succ]; exact rfl)
      case qz_22 => exact fun _ _ _ h => h
      case yz_22 => (refine Or.inl ⟨rfl, ?_⟩; intro w hSw; (try dsimp only at hSw); go_simp; (try with_reducible rfl))
      (try simp only [Act.put, List.setIfInBounds_toArray, List.set_cons_zero, List.set_cons_succ])
      refine wpAnyH_done (by kernel_rfl) ?_ _
      obtain ⟨hs2, _⟩ := hHeld
      have HS2 := Lib.hid hs2
      clear hs2 HRK HRD
      go_wp2
      go_ret
      exact ⟨rfl, HS5.out.trans HS2.out⟩
end Go.Proofs.Ytfbnmoegdbdhjaa.Pl
