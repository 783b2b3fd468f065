/-
  PlantKeeps, walked (layer 11).
  Conditions: each argument fits its kind.
-/
import Derived.Test.YtfbnmoegdbdhjaaPlaAns
import Derived.Test.YtfbnmoegdbdhjaaPlaRefA
import Derived.Test.YtfbnmoegdbdhjaaPlaGcar
import Derived.Test.YtfbnmoegdbdhjaaRow
import Derived.BigRegion
namespace Go.Proofs.Ytfbnmoegdbdhjaa.Pl
set_option linter.unusedVariables false
set_option linter.unusedSimpArgs false
open Go.RowKit Go.Proofs.Ytfbnmoegdbdhjaa.Ba Go.Proofs.Ytfbnmoegdbdhjaa.Do Go.Proofs.Ytfbnmoegdbdhjaa.Mo Go.Proofs.Ytfbnmoegdbdhjaa.Ty Go.Proofs.Ytfbnmoegdbdhjaa.Mem
set_option maxRecDepth 100000

set_option maxHeartbeats 4000000 in
theorem keeps (c : CfgV) (x : CarV) (r : Int) (o k : Bool) (w : World) (u0 : -9223372036854775808 ≤ x.un) (u1 : x.un ≤ 9223372036854775807) : Calls Try.prog 5 #[.agg #[.int .i64 c.ca, .int .i64 c.fl, .int .i64 c.ft, .int .i64 c.se, .int .i64 c.dr, .int .i64 c.dw, .int .i64 c.ho, .int .i64 c.re, .int .i64 c.yi, .int .i64 c.qu, .int .i64 c.qo, .int .i64 c.lo, .int .i64 c.sl, .int .i64 c.rt, .int .i64 c.cp, .int .i64 c.tr, .int .i64 c.de, .int .i64 c.wi], .agg #[.int .i64 x.ds, .int .i64 x.da, .int .i64 x.un, .int .i64 x.wy, .int .i64 x.ti, .int .i64 x.ju, .int .i64 x.lo, .bool x.bl, .bool x.br, .int .i64 x.mo, .int .i64 x.ta, .bool x.ho, .int .u64 x.sp, .int .u64 x.su, .int .u64 x.sd], .agg #[.int .i64 r, .bool o, .bool k]] w fun e w' => e = .returned (.bool true) ∧ Since w w' := by
  go_enter Try.func5, Try.ntmps5
  go_upto_region 1 with fail
  obtain ⟨w1, hw1⟩ : ∃ w1, w1 = ((w.alloc (.cells #[.int .i64 c.ca, .int .i64 c.fl, .int .i64 c.ft, .int .i64 c.se, .int .i64 c.dr, .int .i64 c.dw, .int .i64 c.ho, .int .i64 c.re, .int .i64 c.yi, .int .i64 c.qu, .int .i64 c.qo, .int .i64 c.lo, .int .i64 c.sl, .int .i64 c.rt, .int .i64 c.cp, .int .i64 c.tr, .int .i64 c.de, .int .i64 c.wi] 23)).alloc (.cells #[.int .i64 x.ds, .int .i64 x.da, .int .i64 x.un, .int .i64 x.wy, .int .i64 x.ti, .int .i64 x.ju, .int .i64 x.lo, .bool x.bl, .bool x.br, .int .i64 x.mo, .int .i64 x.ta, .bool x.ho, .int .u64 x.sp, .int .u64 x.su, .int .u64 x.sd] 30)).alloc (.cells #[.int .i64 r, .bool o, .bool k] 32) := ⟨_, rfl⟩
  have BC : Blk w1 (w.heap.size) 23 #[.int .i64 c.ca, .int .i64 c.fl, .int .i64 c.ft, .int .i64 c.se, .int .i64 c.dr, .int .i64 c.dw, .int .i64 c.ho, .int .i64 c.re, .int .i64 c.yi, .int .i64 c.qu, .int .i64 c.qo, .int .i64 c.lo, .int .i64 c.sl, .int .i64 c.rt, .int .i64 c.cp, .int .i64 c.tr, .int .i64 c.de, .int .i64 c.wi] := by rw [hw1]; exact ((Blk.new w _ _).alloc _).alloc _
  have BX : Blk w1 (w.heap.size + 1) 30 #[.int .i64 x.ds, .int .i64 x.da, .int .i64 x.un, .int .i64 x.wy, .int .i64 x.ti, .int .i64 x.ju, .int .i64 x.lo, .bool x.bl, .bool x.br, .int .i64 x.mo, .int .i64 x.ta, .bool x.ho, .int .u64 x.sp, .int .u64 x.su, .int .u64 x.sd] := by rw [hw1]; have h := (Blk.new (w.alloc (.cells #[.int .i64 c.ca, .int .i64 c.fl, .int .i64 c.ft, .int .i64 c.se, .int .i64 c.dr, .int .i64 c.dw, .int .i64 c.ho, .int .i64 c.re, .int .i64 c.yi, .int .i64 c.qu, .int .i64 c.qo, .int .i64 c.lo, .int .i64 c.sl, .int .i64 c.rt, .int .i64 c.cp, .int .i64 c.tr, .int .i64 c.de, .int .i64 c.wi] 23)) 30 #[.int .i64 x.ds, .int .i64 x.da, .int .i64 x.un, .int .i64 x.wy, .int .i64 x.ti, .int .i64 x.ju, .int .i64 x.lo, .bool x.bl, .bool x.br, .int .i64 x.mo, .int .i64 x.ta, .bool x.ho, .int .u64 x.sp, .int .u64 x.su, .int .u64 x.sd]).alloc (.cells #[.int .i64 r, .bool o, .bool k] 32); simpa using h
  have BM : Blk w1 (w.heap.size + 2) 32 #[.int .i64 r, .bool o, .bool k] := by rw [hw1]; have h := Blk.new ((w.alloc (.cells #[.int .i64 c.ca, .int .i64 c.fl, .int .i64 c.ft, .int .i64 c.se, .int .i64 c.dr, .int .i64 c.dw, .int .i64 c.ho, .int .i64 c.re, .int .i64 c.yi, .int .i64 c.qu, .int .i64 c.qo, .int .i64 c.lo, .int .i64 c.sl, .int .i64 c.rt, .int .i64 c.cp, .int .i64 c.tr, .int .i64 c.de, .int .i64 c.wi] 23)).alloc (.cells #[.int .i64 x.ds, .int .i64 x.da, .int .i64 x.un, .int .i64 x.wy, .int .i64 x.ti, .int .i64 x.ju, .int .i64 x.lo, .bool x.bl, .bool x.br, .int .i64 x.mo, .int .i64 x.ta, .bool x.ho, .int .u64 x.sp, .int .u64 x.su, .int .u64 x.sd] 30)) 32 #[.int .i64 r, .bool o, .bool k]; simpa using h
  have hs1 : Since w w1 := by rw [hw1]; exact (((Since.refl _).alloc _).alloc _).alloc _
  rw [← hw1]
  have HS1 := Lib.hid hs1; have HBC := Lib.hid BC; have HBX := Lib.hid BX; have HBM := Lib.hid BM; clear hs1 BC BX BM hw1
  go_wp2_with (first | (refine wpList_load_row rfl 23 _ rfl _ rfl 23 _ (0, 0) _ HBC.out Try.underlying23 rfl (by kernel_rfl) ?_) | (refine wpList_load_row rfl 30 _ rfl _ rfl 30 _ (0, 0) _ HBX.out Try.underlying30 rfl (by kernel_rfl) ?_) | (refine wpList_load_row rfl 32 _ rfl _ rfl 32 _ (0, 0) _ HBM.out Try.underlying32 rfl (by kernel_rfl) ?_))
  refine (goodCarR c x _).mono ?_
  rintro e w2 ⟨rfl, hb2⟩
  have BC := keep_blk hb2 HBC.out; have BX := keep_blk hb2 HBX.out; have BM := keep_blk hb2 HBM.out
  have HS2 := Lib.hid (HS1.out.trans hb2); clear hb2 HS1 HBC HBX HBM
  cases hg : goodB c x
  · have HX := Lib.hid hg
    clear BC BX BM
    go_wp2_with fail
    refine (ans _).mono ?_
    rintro e w3 ⟨rfl, hb3⟩
    go_wp2
    go_ret
    exact ⟨rfl, HS2.out.trans hb3⟩
  · obtain ⟨d0, d1, _, _⟩ := good_bd c x hg
    have HBC := Lib.hid BC; have HBX := Lib.hid BX; have HBM := Lib.hid BM; clear BC BX BM
    go_wp2_with (first | (refine wpList_load_row rfl 23 _ rfl _ rfl 23 _ (0, 0) _ HBC.out Try.underlying23 rfl (by kernel_rfl) ?_) | (refine wpList_load_row rfl 30 _ rfl _ rfl 30 _ (0, 0) _ HBX.out Try.underlying30 rfl (by kernel_rfl) ?_) | (refine wpList_load_row rfl 32 _ rfl _ rfl 32 _ (0, 0) _ HBM.out Try.underlying32 rfl (by kernel_rfl) ?_))
    refine (stepT c x r o k d0 d1 u0 u1 _).mono ?_
    rintro e w3 ⟨rfl, hb3⟩
    have BX3 := keep_blk hb3 HBX.out; have HS3 := Lib.hid (HS2.out.trans hb3)
    clear hb3 HS2 HBX HBC HBM
    have x0 : w3.cell? ⟨w.heap.size + 1, 0, none⟩ = some (.int .i64 x.ds) := BX3.cell 0
    have x1 : w3.cell? ⟨w.heap.size + 1, 1, none⟩ = some (.int .i64 x.da) := BX3.cell 1
    have x2 : w3.cell? ⟨w.heap.size + 1, 2, none⟩ = some (.int .i64 x.un) := BX3.cell 2
    have x3 : w3.cell? ⟨w.heap.size + 1, 3, none⟩ = some (.int .i64 x.wy) := BX3.cell 3
    have x4 : w3.cell? ⟨w.heap.size + 1, 4, none⟩ = some (.int .i64 x.ti) := BX3.cell 4
    have x5 : w3.cell? ⟨w.heap.size + 1, 5, none⟩ = some (.int .i64 x.ju) := BX3.cell 5
    have x6 : w3.cell? ⟨w.heap.size + 1, 6, none⟩ = some (.int .i64 x.lo) := BX3.cell 6
    have x7 : w3.cell? ⟨w.heap.size + 1, 7, none⟩ = some (.bool x.bl) := BX3.cell 7
    have x8 : w3.cell? ⟨w.heap.size + 1, 8, none⟩ = some (.bool x.br) := BX3.cell 8
    have x9 : w3.cell? ⟨w.heap.size + 1, 9, none⟩ = some (.int .i64 x.mo) := BX3.cell 9
    have x10 : w3.cell? ⟨w.heap.size + 1, 10, none⟩ = some (.int .i64 x.ta) := BX3.cell 10
    have x11 : w3.cell? ⟨w.heap.size + 1, 11, none⟩ = some (.bool x.ho) := BX3.cell 11
    have x12 : w3.cell? ⟨w.heap.size + 1, 12, none⟩ = some (.int .u64 x.sp) := BX3.cell 12
    have x13 : w3.cell? ⟨w.heap.size + 1, 13, none⟩ = some (.int .u64 x.su) := BX3.cell 13
    have x14 : w3.cell? ⟨w.heap.size + 1, 14, none⟩ = some (.int .u64 x.sd) := BX3.cell 14
    have HL : w.heap.size + 1 < w3.heap.size := BX3.lt
    have HB3 := Lib.hid BX3; clear BX3
    go_wp2_with fail
    go_cut [7] (fun s7 wx => s7 = .pointer (some ⟨w3.heap.size, 0, none⟩) ∧ Hid (Since w wx ∧ Blk wx (w.heap.size + 1) 30 #[.int .i64 x.ds, .int .i64 x.da, .int .i64 x.un, .int .i64 x.wy, .int .i64 x.ti, .int .i64 x.ju, .int .i64 x.lo, .bool x.bl, .bool x.br, .int .i64 x.mo, .int .i64 x.ta, .bool x.ho, .int .u64 x.sp, .int .u64 x.su, .int .u64 x.sd] ∧ Blk wx w3.heap.size 30 #[.int .i64 x.ds, .int .i64 x.da, .int .i64 x.un, .int .i64 x.wy, .int .i64 x.ti, .int .i64 x.ju, .int .i64 x.lo, .bool x.bl, .bool x.br, .int .i64 x.mo, .int .i64 x.ta, .bool x.ho, .int .u64 x.sp, .int .u64 x.su, .int .u64 x.sd]))
    case first =>
      go_region
      go_wp2_with fail
      go_meet
      case rel => first | exact ⟨rfl, Lib.hid ⟨(HS3.out.alloc _).drew, (HB3.out.alloc _).drew, (Blk.new w3 _ _).drew⟩⟩ | exact ⟨rfl, Lib.hid ⟨HS3.out.alloc _, HB3.out.alloc _, Blk.new w3 _ _⟩⟩
    case rest =>
      obtain ⟨rfl, H4⟩ := hcut
      obtain ⟨S4, B4, Y4⟩ := H4.out
      clear x0 x1 x2 x3 x4 x5 x6 x7 x8 x9 x10 x11 x12 x13 x14
      have HS4 := Lib.hid S4; clear S4 H4; have HB4 := Lib.hid B4; have HY4 := Lib.hid Y4; clear B4 Y4
      go_wp2_with fail
      refine (ans _).mono ?_
      rintro e w5 ⟨rfl, hb5⟩
      have HB5 := Lib.hid (keep_blk hb5 HB4.out); have HY5 := Lib.hid (keep_blk hb5 HY4.out); have HS5 := Lib.hid (HS4.out.trans hb5); clear hb5
      have B5 := HB5.out; have Y5 := HY5.out
      have z0 : w5.cell? ⟨w.heap.size + 1, 0, none⟩ = some (.int .i64 x.ds) := B5.cell 0
      have z1 : w5.cell? ⟨w.heap.size + 1, 1, none⟩ = some (.int .i64 x.da) := B5.cell 1
      have z2 : w5.cell? ⟨w.heap.size + 1, 2, none⟩ = some (.int .i64 x.un) := B5.cell 2
      have z3 : w5.cell? ⟨w.heap.size + 1, 3, none⟩ = some (.int .i64 x.wy) := B5.cell 3
      have z4 : w5.cell? ⟨w.heap.size + 1, 4, none⟩ = some (.int .i64 x.ti) := B5.cell 4
      have z5 : w5.cell? ⟨w.heap.size + 1, 5, none⟩ = some (.int .i64 x.ju) := B5.cell 5
      have z6 : w5.cell? ⟨w.heap.size + 1, 6, none⟩ = some (.int .i64 x.lo) := B5.cell 6
      have z7 : w5.cell? ⟨w.heap.size + 1, 7, none⟩ = some (.bool x.bl) := B5.cell 7
      have z8 : w5.cell? ⟨w.heap.size + 1, 8, none⟩ = some (.bool x.br) := B5.cell 8
      have z9 : w5.cell? ⟨w.heap.size + 1, 9, none⟩ = some (.int .i64 x.mo) := B5.cell 9
      have z10 : w5.cell? ⟨w.heap.size + 1, 10, none⟩ = some (.int .i64 x.ta) := B5.cell 10
      have z11 : w5.cell? ⟨w.heap.size + 1, 11, none⟩ = some (.bool x.ho) := B5.cell 11
      have z12 : w5.cell? ⟨w.heap.size + 1, 12, none⟩ = some (.int .u64 x.sp) := B5.cell 12
      have z13 : w5.cell? ⟨w.heap.size + 1, 13, none⟩ = some (.int .u64 x.su) := B5.cell 13
      have z14 : w5.cell? ⟨w.heap.size + 1, 14, none⟩ = some (.int .u64 x.sd) := B5.cell 14
      have y0 : w5.cell? ⟨w3.heap.size, 0, none⟩ = some (.int .i64 x.ds) := Y5.cell 0
      have y1 : w5.cell? ⟨w3.heap.size, 1, none⟩ = some (.int .i64 x.da) := Y5.cell 1
      have y2 : w5.cell? ⟨w3.heap.size, 2, none⟩ = some (.int .i64 x.un) := Y5.cell 2
      have y3 : w5.cell? ⟨w3.heap.size, 3, none⟩ = some (.int .i64 x.wy) := Y5.cell 3
      have y4 : w5.cell? ⟨w3.heap.size, 4, none⟩ = some (.int .i64 x.ti) := Y5.cell 4
      have y5 : w5.cell? ⟨w3.heap.size, 5, none⟩ = some (.int .i64 x.ju) := Y5.cell 5
      have y6 : w5.cell? ⟨w3.heap.size, 6, none⟩ = some (.int .i64 x.lo) := Y5.cell 6
      have y7 : w5.cell? ⟨w3.heap.size, 7, none⟩ = some (.bool x.bl) := Y5.cell 7
      have y8 : w5.cell? ⟨w3.heap.size, 8, none⟩ = some (.bool x.br) := Y5.cell 8
      have y9 : w5.cell? ⟨w3.heap.size, 9, none⟩ = some (.int .i64 x.mo) := Y5.cell 9
      have y10 : w5.cell? ⟨w3.heap.size, 10, none⟩ = some (.int .i64 x.ta) := Y5.cell 10
      have y11 : w5.cell? ⟨w3.heap.size, 11, none⟩ = some (.bool x.ho) := Y5.cell 11
      have y12 : w5.cell? ⟨w3.heap.size, 12, none⟩ = some (.int .u64 x.sp) := Y5.cell 12
      have y13 : w5.cell? ⟨w3.heap.size, 13, none⟩ = some (.int .u64 x.su) := Y5.cell 13
      have y14 : w5.cell? ⟨w3.heap.size, 14, none⟩ = some (.int .u64 x.sd) := Y5.cell 14
      clear B5 Y5
      go_wp2
      go_ret
      exact ⟨rfl, HS5.out⟩
end Go.Proofs.Ytfbnmoegdbdhjaa.Pl
