/-
  The walk of the reference's Step (layer 11), some of its ways.
  Conditions: a door's place is from 0 to 1000.
-/
import Derived.Test.YtfbnmoegdbdhjaaPlaK
import Derived.Test.YtfbnmoegdbdhjaaDoorRef
namespace Go.Proofs.Ytfbnmoegdbdhjaa.Pl
set_option linter.unusedVariables false
set_option linter.unusedSimpArgs false
open Go.RowKit Go.Proofs.Ytfbnmoegdbdhjaa.Ba Go.Proofs.Ytfbnmoegdbdhjaa.Do Go.Proofs.Ytfbnmoegdbdhjaa.Mo Go.Proofs.Ytfbnmoegdbdhjaa.Ty
set_option maxRecDepth 100000
set_option maxHeartbeats 4000000 in
theorem rf_oox (c : CfgV) (x : CarV) (k : Bool) (r : Int) (h0 : 0 ≤ x.da) (h1 : x.da ≤ 1000) (u0 : -9223372036854775808 ≤ x.un) (u1 : x.un ≤ 9223372036854775807) (hl : lvB x.un = true) (hd0 : ¬ x.ds = 0) (hd3 : ¬ x.ds = 3) (w : World) : Calls Try.prog 21 #[.agg #[.int .i64 c.ca, .int .i64 c.fl, .int .i64 c.ft, .int .i64 c.se, .int .i64 c.dr, .int .i64 c.dw, .int .i64 c.ho, .int .i64 c.re, .int .i64 c.yi, .int .i64 c.qu, .int .i64 c.qo, .int .i64 c.lo, .int .i64 c.sl, .int .i64 c.rt, .int .i64 c.cp, .int .i64 c.tr, .int .i64 c.de, .int .i64 c.wi], .agg #[.int .i64 x.ds, .int .i64 x.da, .int .i64 x.un, .int .i64 x.wy, .int .i64 x.ti, .int .i64 x.ju, .int .i64 x.lo, .bool x.bl, .bool false, .int .i64 x.mo, .int .i64 x.ta, .bool x.ho, .int .u64 x.sp, .int .u64 x.su, .int .u64 x.sd], .agg #[.int .i64 r, .bool true, .bool k]] w fun e w' => e = .returned (.agg #[.int .i64 (dS1 c ({ x with ds := x.ds, br := false } : CarV) true k), .int .i64 (dA1 c ({ x with ds := x.ds, br := false } : CarV) true k), .int .i64 (un1 c ({ x with ds := x.ds, br := false } : CarV) r true k), .int .i64 (wy1 c ({ x with ds := x.ds, br := false } : CarV) r true k), .int .i64 x.ti, .int .i64 x.ju, .int .i64 x.lo, .bool x.bl, .bool false, .int .i64 x.mo, .int .i64 x.ta, .bool x.ho, .int .u64 x.sp, .int .u64 x.su, .int .u64 x.sd]) ∧ Since w w' := by
  have HT : dS0 ({ x with ds := x.ds, br := false } : CarV) true k = x.ds := by unfold dS0 toldS oS cS; simp [hl, hd0, hd3]
  have HS := Lib.hid (show dS1 c ({ x with ds := x.ds, br := false } : CarV) true k = tS x.ds x.da c.dr x.bl by unfold dS1; rw [HT])
  have HA := Lib.hid (show dA1 c ({ x with ds := x.ds, br := false } : CarV) true k = tA x.ds x.da c.dr x.bl by unfold dA1; rw [HT])
  clear HT
  have HG : goesB c ({ x with ds := x.ds, br := false } : CarV) r true k = false := by unfold goesB; simp [hl, hd0, hd3]
  have HU := Lib.hid (show un1 c ({ x with ds := x.ds, br := false } : CarV) r true k = x.un by unfold un1; rw [HG]; simp)
  have HY := Lib.hid (show wy1 c ({ x with ds := x.ds, br := false } : CarV) r true k = x.wy by unfold wy1; rw [HG]; simp)
  clear HG
  have HE := Lib.hid (show (Value.agg #[.int .i64 (dS1 c ({ x with ds := x.ds, br := false } : CarV) true k), .int .i64 (dA1 c ({ x with ds := x.ds, br := false } : CarV) true k), .int .i64 (un1 c ({ x with ds := x.ds, br := false } : CarV) r true k), .int .i64 (wy1 c ({ x with ds := x.ds, br := false } : CarV) r true k), .int .i64 x.ti, .int .i64 x.ju, .int .i64 x.lo, .bool x.bl, .bool false, .int .i64 x.mo, .int .i64 x.ta, .bool x.ho, .int .u64 x.sp, .int .u64 x.su, .int .u64 x.sd]) = .agg #[.int .i64 (tS x.ds x.da c.dr x.bl), .int .i64 (tA x.ds x.da c.dr x.bl), .int .i64 (x.un), .int .i64 (x.wy), .int .i64 x.ti, .int .i64 x.ju, .int .i64 x.lo, .bool x.bl, .bool false, .int .i64 x.mo, .int .i64 x.ta, .bool x.ho, .int .u64 x.sp, .int .u64 x.su, .int .u64 x.sd] by rw [HS.out, HA.out, HU.out, HY.out])
  clear HS HA HU HY
  have hhd0 : (x.ds == 0) = false := by simpa using hd0
  have hhd3 : (x.ds == 3) = false := by simpa using hd3
  go_enter Try.func21, Try.ntmps21
  go_wp2_with fail
  refine (levelR _ _).mono ?_
  rintro e w' ⟨rfl, rfl⟩
  go_wp2_with fail
  refine (doorR _ _ _ _ (by assumption) (by assumption) _).mono ?_
  rintro e w1 ⟨rfl, hb1⟩
  have c1 : w1.cell? ⟨w.heap.size, 1, none⟩ = some (.int .i64 c.fl) := keep_cell hb1 (by simp [go_sem])
  have c4 : w1.cell? ⟨w.heap.size, 4, none⟩ = some (.int .i64 c.dr) := keep_cell hb1 (by simp [go_sem])
  have x0 : w1.cell? ⟨w.heap.size + 1, 0, none⟩ = some (.int .i64 x.ds) := keep_cell hb1 (by simp [go_sem])
  have x1 : w1.cell? ⟨w.heap.size + 1, 1, none⟩ = some (.int .i64 x.da) := keep_cell hb1 (by simp [go_sem])
  have x2 : w1.cell? ⟨w.heap.size + 1, 2, none⟩ = some (.int .i64 x.un) := keep_cell hb1 (by simp [go_sem])
  have x3 : w1.cell? ⟨w.heap.size + 1, 3, none⟩ = some (.int .i64 x.wy) := keep_cell hb1 (by simp [go_sem])
  have x4 : w1.cell? ⟨w.heap.size + 1, 4, none⟩ = some (.int .i64 x.ti) := keep_cell hb1 (by simp [go_sem])
  have x5 : w1.cell? ⟨w.heap.size + 1, 5, none⟩ = some (.int .i64 x.ju) := keep_cell hb1 (by simp [go_sem])
  have x6 : w1.cell? ⟨w.heap.size + 1, 6, none⟩ = some (.int .i64 x.lo) := keep_cell hb1 (by simp [go_sem])
  have x7 : w1.cell? ⟨w.heap.size + 1, 7, none⟩ = some (.bool x.bl) := keep_cell hb1 (by simp [go_sem])
  have x8 : w1.cell? ⟨w.heap.size + 1, 8, none⟩ = some (.bool false) := keep_cell hb1 (by simp [go_sem])
  have x9 : w1.cell? ⟨w.heap.size + 1, 9, none⟩ = some (.int .i64 x.mo) := keep_cell hb1 (by simp [go_sem])
  have x10 : w1.cell? ⟨w.heap.size + 1, 10, none⟩ = some (.int .i64 x.ta) := keep_cell hb1 (by simp [go_sem])
  have x11 : w1.cell? ⟨w.heap.size + 1, 11, none⟩ = some (.bool x.ho) := keep_cell hb1 (by simp [go_sem])
  have x12 : w1.cell? ⟨w.heap.size + 1, 12, none⟩ = some (.int .u64 x.sp) := keep_cell hb1 (by simp [go_sem])
  have x13 : w1.cell? ⟨w.heap.size + 1, 13, none⟩ = some (.int .u64 x.su) := keep_cell hb1 (by simp [go_sem])
  have x14 : w1.cell? ⟨w.heap.size + 1, 14, none⟩ = some (.int .u64 x.sd) := keep_cell hb1 (by simp [go_sem])
  have xf0 : w1.frozen? ⟨w.heap.size + 1, 0, none⟩ = false := (hb1.frozen (by simp [go_sem])).trans (by simp [go_sem])
  have xf1 : w1.frozen? ⟨w.heap.size + 1, 1, none⟩ = false := (hb1.frozen (by simp [go_sem])).trans (by simp [go_sem])
  have xf2 : w1.frozen? ⟨w.heap.size + 1, 2, none⟩ = false := (hb1.frozen (by simp [go_sem])).trans (by simp [go_sem])
  have xf3 : w1.frozen? ⟨w.heap.size + 1, 3, none⟩ = false := (hb1.frozen (by simp [go_sem])).trans (by simp [go_sem])
  have m0 : w1.cell? ⟨w.heap.size + 2, 0, none⟩ = some (.int .i64 r) := keep_cell hb1 (by simp [go_sem])
  have m1 : w1.cell? ⟨w.heap.size + 2, 1, none⟩ = some (.bool true) := keep_cell hb1 (by simp [go_sem])
  have m2 : w1.cell? ⟨w.heap.size + 2, 2, none⟩ = some (.bool k) := keep_cell hb1 (by simp [go_sem])
  have r0 : w1.cell? ⟨w.heap.size + 3, 0, none⟩ = some (.int .i64 0) := keep_cell hb1 (by simp [go_sem])
  have r1 : w1.cell? ⟨w.heap.size + 3, 1, none⟩ = some (.int .i64 0) := keep_cell hb1 (by simp [go_sem])
  have r2 : w1.cell? ⟨w.heap.size + 3, 2, none⟩ = some (.int .i64 0) := keep_cell hb1 (by simp [go_sem])
  have r3 : w1.cell? ⟨w.heap.size + 3, 3, none⟩ = some (.int .i64 0) := keep_cell hb1 (by simp [go_sem])
  have r4 : w1.cell? ⟨w.heap.size + 3, 4, none⟩ = some (.int .i64 0) := keep_cell hb1 (by simp [go_sem])
  have r5 : w1.cell? ⟨w.heap.size + 3, 5, none⟩ = some (.int .i64 0) := keep_cell hb1 (by simp [go_sem])
  have r6 : w1.cell? ⟨w.heap.size + 3, 6, none⟩ = some (.int .i64 0) := keep_cell hb1 (by simp [go_sem])
  have r7 : w1.cell? ⟨w.heap.size + 3, 7, none⟩ = some (.bool false) := keep_cell hb1 (by simp [go_sem])
  have r8 : w1.cell? ⟨w.heap.size + 3, 8, none⟩ = some (.bool false) := keep_cell hb1 (by simp [go_sem])
  have r9 : w1.cell? ⟨w.heap.size + 3, 9, none⟩ = some (.int .i64 0) := keep_cell hb1 (by simp [go_sem])
  have r10 : w1.cell? ⟨w.heap.size + 3, 10, none⟩ = some (.int .i64 0) := keep_cell hb1 (by simp [go_sem])
  have r11 : w1.cell? ⟨w.heap.size + 3, 11, none⟩ = some (.bool false) := keep_cell hb1 (by simp [go_sem])
  have r12 : w1.cell? ⟨w.heap.size + 3, 12, none⟩ = some (.int .u64 0) := keep_cell hb1 (by simp [go_sem])
  have r13 : w1.cell? ⟨w.heap.size + 3, 13, none⟩ = some (.int .u64 0) := keep_cell hb1 (by simp [go_sem])
  have r14 : w1.cell? ⟨w.heap.size + 3, 14, none⟩ = some (.int .u64 0) := keep_cell hb1 (by simp [go_sem])
  have rf0 : w1.frozen? ⟨w.heap.size + 3, 0, none⟩ = false := (hb1.frozen (by simp [go_sem])).trans (by simp [go_sem])
  have rf1 : w1.frozen? ⟨w.heap.size + 3, 1, none⟩ = false := (hb1.frozen (by simp [go_sem])).trans (by simp [go_sem])
  have rf2 : w1.frozen? ⟨w.heap.size + 3, 2, none⟩ = false := (hb1.frozen (by simp [go_sem])).trans (by simp [go_sem])
  have rf3 : w1.frozen? ⟨w.heap.size + 3, 3, none⟩ = false := (hb1.frozen (by simp [go_sem])).trans (by simp [go_sem])
  have rf4 : w1.frozen? ⟨w.heap.size + 3, 4, none⟩ = false := (hb1.frozen (by simp [go_sem])).trans (by simp [go_sem])
  have rf5 : w1.frozen? ⟨w.heap.size + 3, 5, none⟩ = false := (hb1.frozen (by simp [go_sem])).trans (by simp [go_sem])
  have rf6 : w1.frozen? ⟨w.heap.size + 3, 6, none⟩ = false := (hb1.frozen (by simp [go_sem])).trans (by simp [go_sem])
  have rf7 : w1.frozen? ⟨w.heap.size + 3, 7, none⟩ = false := (hb1.frozen (by simp [go_sem])).trans (by simp [go_sem])
  have rf8 : w1.frozen? ⟨w.heap.size + 3, 8, none⟩ = false := (hb1.frozen (by simp [go_sem])).trans (by simp [go_sem])
  have rf9 : w1.frozen? ⟨w.heap.size + 3, 9, none⟩ = false := (hb1.frozen (by simp [go_sem])).trans (by simp [go_sem])
  have rf10 : w1.frozen? ⟨w.heap.size + 3, 10, none⟩ = false := (hb1.frozen (by simp [go_sem])).trans (by simp [go_sem])
  have rf11 : w1.frozen? ⟨w.heap.size + 3, 11, none⟩ = false := (hb1.frozen (by simp [go_sem])).trans (by simp [go_sem])
  have rf12 : w1.frozen? ⟨w.heap.size + 3, 12, none⟩ = false := (hb1.frozen (by simp [go_sem])).trans (by simp [go_sem])
  have rf13 : w1.frozen? ⟨w.heap.size + 3, 13, none⟩ = false := (hb1.frozen (by simp [go_sem])).trans (by simp [go_sem])
  have rf14 : w1.frozen? ⟨w.heap.size + 3, 14, none⟩ = false := (hb1.frozen (by simp [go_sem])).trans (by simp [go_sem])
  have HB1 := Lib.hid hb1
  clear hb1
  go_wp2
  refine bodyPost_ret (v := .agg #[.int .i64 (tS x.ds x.da c.dr x.bl), .int .i64 (tA x.ds x.da c.dr x.bl), .int .i64 (x.un), .int .i64 (x.wy), .int .i64 x.ti, .int .i64 x.ju, .int .i64 x.lo, .bool x.bl, .bool false, .int .i64 x.mo, .int .i64 x.ta, .bool x.ho, .int .u64 x.sp, .int .u64 x.su, .int .u64 x.sd]) (by simp [results, Try.results21, go_sem, show w1.cell? ⟨w.heap.size + 1 + 1 + 1, 0, none⟩ = some _ from r0, show w1.cell? ⟨w.heap.size + 1 + 1 + 1, 1, none⟩ = some _ from r1, show w1.cell? ⟨w.heap.size + 1 + 1 + 1, 2, none⟩ = some _ from r2, show w1.cell? ⟨w.heap.size + 1 + 1 + 1, 3, none⟩ = some _ from r3, show w1.cell? ⟨w.heap.size + 1 + 1 + 1, 4, none⟩ = some _ from r4, show w1.cell? ⟨w.heap.size + 1 + 1 + 1, 5, none⟩ = some _ from r5, show w1.cell? ⟨w.heap.size + 1 + 1 + 1, 6, none⟩ = some _ from r6, show w1.cell? ⟨w.heap.size + 1 + 1 + 1, 7, none⟩ = some _ from r7, show w1.cell? ⟨w.heap.size + 1 + 1 + 1, 8, none⟩ = some _ from r8, show w1.cell? ⟨w.heap.size + 1 + 1 + 1, 9, none⟩ = some _ from r9, show w1.cell? ⟨w.heap.size + 1 + 1 + 1, 10, none⟩ = some _ from r10, show w1.cell? ⟨w.heap.size + 1 + 1 + 1, 11, none⟩ = some _ from r11, show w1.cell? ⟨w.heap.size + 1 + 1 + 1, 12, none⟩ = some _ from r12, show w1.cell? ⟨w.heap.size + 1 + 1 + 1, 13, none⟩ = some _ from r13, show w1.cell? ⟨w.heap.size + 1 + 1 + 1, 14, none⟩ = some _ from r14]) rfl ⟨by rw [HE.out], ?_⟩
  iterate 17 refine Since.setCell ?_ (by first | (simp; done) | (simp; omega)) _
  refine Since.trans ?_ HB1.out
  (repeat (first | exact Since.refl _ | refine Since.setCell ?_ (by first | (simp; done) | (simp; omega)) _ | refine Since.alloc ?_ _))
set_option maxHeartbeats 4000000 in
theorem rf_nfx (c : CfgV) (x : CarV) (r : Int) (h0 : 0 ≤ x.da) (h1 : x.da ≤ 1000) (u0 : -9223372036854775808 ≤ x.un) (u1 : x.un ≤ 9223372036854775807) (hd0 : ¬ x.ds = 0) (w : World) : Calls Try.prog 21 #[.agg #[.int .i64 c.ca, .int .i64 c.fl, .int .i64 c.ft, .int .i64 c.se, .int .i64 c.dr, .int .i64 c.dw, .int .i64 c.ho, .int .i64 c.re, .int .i64 c.yi, .int .i64 c.qu, .int .i64 c.qo, .int .i64 c.lo, .int .i64 c.sl, .int .i64 c.rt, .int .i64 c.cp, .int .i64 c.tr, .int .i64 c.de, .int .i64 c.wi], .agg #[.int .i64 x.ds, .int .i64 x.da, .int .i64 x.un, .int .i64 x.wy, .int .i64 x.ti, .int .i64 x.ju, .int .i64 x.lo, .bool x.bl, .bool false, .int .i64 x.mo, .int .i64 x.ta, .bool x.ho, .int .u64 x.sp, .int .u64 x.su, .int .u64 x.sd], .agg #[.int .i64 r, .bool false, .bool false]] w fun e w' => e = .returned (.agg #[.int .i64 (dS1 c ({ x with ds := x.ds, br := false } : CarV) false false), .int .i64 (dA1 c ({ x with ds := x.ds, br := false } : CarV) false false), .int .i64 (un1 c ({ x with ds := x.ds, br := false } : CarV) r false false), .int .i64 (wy1 c ({ x with ds := x.ds, br := false } : CarV) r false false), .int .i64 x.ti, .int .i64 x.ju, .int .i64 x.lo, .bool x.bl, .bool false, .int .i64 x.mo, .int .i64 x.ta, .bool x.ho, .int .u64 x.sp, .int .u64 x.su, .int .u64 x.sd]) ∧ Since w w' := by
  have HT : dS0 ({ x with ds := x.ds, br := false } : CarV) false false = x.ds := by unfold dS0 toldS oS cS; simp [hd0]
  have HS := Lib.hid (show dS1 c ({ x with ds := x.ds, br := false } : CarV) false false = tS x.ds x.da c.dr x.bl by unfold dS1; rw [HT])
  have HA := Lib.hid (show dA1 c ({ x with ds := x.ds, br := false } : CarV) false false = tA x.ds x.da c.dr x.bl by unfold dA1; rw [HT])
  clear HT
  have HG : goesB c ({ x with ds := x.ds, br := false } : CarV) r false false = false := by unfold goesB; simp [hd0]
  have HU := Lib.hid (show un1 c ({ x with ds := x.ds, br := false } : CarV) r false false = x.un by unfold un1; rw [HG]; simp)
  have HY := Lib.hid (show wy1 c ({ x with ds := x.ds, br := false } : CarV) r false false = x.wy by unfold wy1; rw [HG]; simp)
  clear HG
  have HE := Lib.hid (show (Value.agg #[.int .i64 (dS1 c ({ x with ds := x.ds, br := false } : CarV) false false), .int .i64 (dA1 c ({ x with ds := x.ds, br := false } : CarV) false false), .int .i64 (un1 c ({ x with ds := x.ds, br := false } : CarV) r false false), .int .i64 (wy1 c ({ x with ds := x.ds, br := false } : CarV) r false false), .int .i64 x.ti, .int .i64 x.ju, .int .i64 x.lo, .bool x.bl, .bool false, .int .i64 x.mo, .int .i64 x.ta, .bool x.ho, .int .u64 x.sp, .int .u64 x.su, .int .u64 x.sd]) = .agg #[.int .i64 (tS x.ds x.da c.dr x.bl), .int .i64 (tA x.ds x.da c.dr x.bl), .int .i64 (x.un), .int .i64 (x.wy), .int .i64 x.ti, .int .i64 x.ju, .int .i64 x.lo, .bool x.bl, .bool false, .int .i64 x.mo, .int .i64 x.ta, .bool x.ho, .int .u64 x.sp, .int .u64 x.su, .int .u64 x.sd] by rw [HS.out, HA.out, HU.out, HY.out])
  clear HS HA HU HY
  have hhd0 : (x.ds == 0) = false := by simpa using hd0
  go_enter Try.func21, Try.ntmps21
  go_wp2_with fail
  refine (levelR _ _).mono ?_
  rintro e w' ⟨rfl, rfl⟩
  go_wp2_with fail
  refine (doorR _ _ _ _ (by assumption) (by assumption) _).mono ?_
  rintro e w1 ⟨rfl, hb1⟩
  have c1 : w1.cell? ⟨w.heap.size, 1, none⟩ = some (.int .i64 c.fl) := keep_cell hb1 (by simp [go_sem])
  have c4 : w1.cell? ⟨w.heap.size, 4, none⟩ = some (.int .i64 c.dr) := keep_cell hb1 (by simp [go_sem])
  have x0 : w1.cell? ⟨w.heap.size + 1, 0, none⟩ = some (.int .i64 x.ds) := keep_cell hb1 (by simp [go_sem])
  have x1 : w1.cell? ⟨w.heap.size + 1, 1, none⟩ = some (.int .i64 x.da) := keep_cell hb1 (by simp [go_sem])
  have x2 : w1.cell? ⟨w.heap.size + 1, 2, none⟩ = some (.int .i64 x.un) := keep_cell hb1 (by simp [go_sem])
  have x3 : w1.cell? ⟨w.heap.size + 1, 3, none⟩ = some (.int .i64 x.wy) := keep_cell hb1 (by simp [go_sem])
  have x4 : w1.cell? ⟨w.heap.size + 1, 4, none⟩ = some (.int .i64 x.ti) := keep_cell hb1 (by simp [go_sem])
  have x5 : w1.cell? ⟨w.heap.size + 1, 5, none⟩ = some (.int .i64 x.ju) := keep_cell hb1 (by simp [go_sem])
  have x6 : w1.cell? ⟨w.heap.size + 1, 6, none⟩ = some (.int .i64 x.lo) := keep_cell hb1 (by simp [go_sem])
  have x7 : w1.cell? ⟨w.heap.size + 1, 7, none⟩ = some (.bool x.bl) := keep_cell hb1 (by simp [go_sem])
  have x8 : w1.cell? ⟨w.heap.size + 1, 8, none⟩ = some (.bool false) := keep_cell hb1 (by simp [go_sem])
  have x9 : w1.cell? ⟨w.heap.size + 1, 9, none⟩ = some (.int .i64 x.mo) := keep_cell hb1 (by simp [go_sem])
  have x10 : w1.cell? ⟨w.heap.size + 1, 10, none⟩ = some (.int .i64 x.ta) := keep_cell hb1 (by simp [go_sem])
  have x11 : w1.cell? ⟨w.heap.size + 1, 11, none⟩ = some (.bool x.ho) := keep_cell hb1 (by simp [go_sem])
  have x12 : w1.cell? ⟨w.heap.size + 1, 12, none⟩ = some (.int .u64 x.sp) := keep_cell hb1 (by simp [go_sem])
  have x13 : w1.cell? ⟨w.heap.size + 1, 13, none⟩ = some (.int .u64 x.su) := keep_cell hb1 (by simp [go_sem])
  have x14 : w1.cell? ⟨w.heap.size + 1, 14, none⟩ = some (.int .u64 x.sd) := keep_cell hb1 (by simp [go_sem])
  have xf0 : w1.frozen? ⟨w.heap.size + 1, 0, none⟩ = false := (hb1.frozen (by simp [go_sem])).trans (by simp [go_sem])
  have xf1 : w1.frozen? ⟨w.heap.size + 1, 1, none⟩ = false := (hb1.frozen (by simp [go_sem])).trans (by simp [go_sem])
  have xf2 : w1.frozen? ⟨w.heap.size + 1, 2, none⟩ = false := (hb1.frozen (by simp [go_sem])).trans (by simp [go_sem])
  have xf3 : w1.frozen? ⟨w.heap.size + 1, 3, none⟩ = false := (hb1.frozen (by simp [go_sem])).trans (by simp [go_sem])
  have m0 : w1.cell? ⟨w.heap.size + 2, 0, none⟩ = some (.int .i64 r) := keep_cell hb1 (by simp [go_sem])
  have m1 : w1.cell? ⟨w.heap.size + 2, 1, none⟩ = some (.bool false) := keep_cell hb1 (by simp [go_sem])
  have m2 : w1.cell? ⟨w.heap.size + 2, 2, none⟩ = some (.bool false) := keep_cell hb1 (by simp [go_sem])
  have r0 : w1.cell? ⟨w.heap.size + 3, 0, none⟩ = some (.int .i64 0) := keep_cell hb1 (by simp [go_sem])
  have r1 : w1.cell? ⟨w.heap.size + 3, 1, none⟩ = some (.int .i64 0) := keep_cell hb1 (by simp [go_sem])
  have r2 : w1.cell? ⟨w.heap.size + 3, 2, none⟩ = some (.int .i64 0) := keep_cell hb1 (by simp [go_sem])
  have r3 : w1.cell? ⟨w.heap.size + 3, 3, none⟩ = some (.int .i64 0) := keep_cell hb1 (by simp [go_sem])
  have r4 : w1.cell? ⟨w.heap.size + 3, 4, none⟩ = some (.int .i64 0) := keep_cell hb1 (by simp [go_sem])
  have r5 : w1.cell? ⟨w.heap.size + 3, 5, none⟩ = some (.int .i64 0) := keep_cell hb1 (by simp [go_sem])
  have r6 : w1.cell? ⟨w.heap.size + 3, 6, none⟩ = some (.int .i64 0) := keep_cell hb1 (by simp [go_sem])
  have r7 : w1.cell? ⟨w.heap.size + 3, 7, none⟩ = some (.bool false) := keep_cell hb1 (by simp [go_sem])
  have r8 : w1.cell? ⟨w.heap.size + 3, 8, none⟩ = some (.bool false) := keep_cell hb1 (by simp [go_sem])
  have r9 : w1.cell? ⟨w.heap.size + 3, 9, none⟩ = some (.int .i64 0) := keep_cell hb1 (by simp [go_sem])
  have r10 : w1.cell? ⟨w.heap.size + 3, 10, none⟩ = some (.int .i64 0) := keep_cell hb1 (by simp [go_sem])
  have r11 : w1.cell? ⟨w.heap.size + 3, 11, none⟩ = some (.bool false) := keep_cell hb1 (by simp [go_sem])
  have r12 : w1.cell? ⟨w.heap.size + 3, 12, none⟩ = some (.int .u64 0) := keep_cell hb1 (by simp [go_sem])
  have r13 : w1.cell? ⟨w.heap.size + 3, 13, none⟩ = some (.int .u64 0) := keep_cell hb1 (by simp [go_sem])
  have r14 : w1.cell? ⟨w.heap.size + 3, 14, none⟩ = some (.int .u64 0) := keep_cell hb1 (by simp [go_sem])
  have rf0 : w1.frozen? ⟨w.heap.size + 3, 0, none⟩ = false := (hb1.frozen (by simp [go_sem])).trans (by simp [go_sem])
  have rf1 : w1.frozen? ⟨w.heap.size + 3, 1, none⟩ = false := (hb1.frozen (by simp [go_sem])).trans (by simp [go_sem])
  have rf2 : w1.frozen? ⟨w.heap.size + 3, 2, none⟩ = false := (hb1.frozen (by simp [go_sem])).trans (by simp [go_sem])
  have rf3 : w1.frozen? ⟨w.heap.size + 3, 3, none⟩ = false := (hb1.frozen (by simp [go_sem])).trans (by simp [go_sem])
  have rf4 : w1.frozen? ⟨w.heap.size + 3, 4, none⟩ = false := (hb1.frozen (by simp [go_sem])).trans (by simp [go_sem])
  have rf5 : w1.frozen? ⟨w.heap.size + 3, 5, none⟩ = false := (hb1.frozen (by simp [go_sem])).trans (by simp [go_sem])
  have rf6 : w1.frozen? ⟨w.heap.size + 3, 6, none⟩ = false := (hb1.frozen (by simp [go_sem])).trans (by simp [go_sem])
  have rf7 : w1.frozen? ⟨w.heap.size + 3, 7, none⟩ = false := (hb1.frozen (by simp [go_sem])).trans (by simp [go_sem])
  have rf8 : w1.frozen? ⟨w.heap.size + 3, 8, none⟩ = false := (hb1.frozen (by simp [go_sem])).trans (by simp [go_sem])
  have rf9 : w1.frozen? ⟨w.heap.size + 3, 9, none⟩ = false := (hb1.frozen (by simp [go_sem])).trans (by simp [go_sem])
  have rf10 : w1.frozen? ⟨w.heap.size + 3, 10, none⟩ = false := (hb1.frozen (by simp [go_sem])).trans (by simp [go_sem])
  have rf11 : w1.frozen? ⟨w.heap.size + 3, 11, none⟩ = false := (hb1.frozen (by simp [go_sem])).trans (by simp [go_sem])
  have rf12 : w1.frozen? ⟨w.heap.size + 3, 12, none⟩ = false := (hb1.frozen (by simp [go_sem])).trans (by simp [go_sem])
  have rf13 : w1.frozen? ⟨w.heap.size + 3, 13, none⟩ = false := (hb1.frozen (by simp [go_sem])).trans (by simp [go_sem])
  have rf14 : w1.frozen? ⟨w.heap.size + 3, 14, none⟩ = false := (hb1.frozen (by simp [go_sem])).trans (by simp [go_sem])
  have HB1 := Lib.hid hb1
  clear hb1
  go_wp2
  refine bodyPost_ret (v := .agg #[.int .i64 (tS x.ds x.da c.dr x.bl), .int .i64 (tA x.ds x.da c.dr x.bl), .int .i64 (x.un), .int .i64 (x.wy), .int .i64 x.ti, .int .i64 x.ju, .int .i64 x.lo, .bool x.bl, .bool false, .int .i64 x.mo, .int .i64 x.ta, .bool x.ho, .int .u64 x.sp, .int .u64 x.su, .int .u64 x.sd]) (by simp [results, Try.results21, go_sem, show w1.cell? ⟨w.heap.size + 1 + 1 + 1, 0, none⟩ = some _ from r0, show w1.cell? ⟨w.heap.size + 1 + 1 + 1, 1, none⟩ = some _ from r1, show w1.cell? ⟨w.heap.size + 1 + 1 + 1, 2, none⟩ = some _ from r2, show w1.cell? ⟨w.heap.size + 1 + 1 + 1, 3, none⟩ = some _ from r3, show w1.cell? ⟨w.heap.size + 1 + 1 + 1, 4, none⟩ = some _ from r4, show w1.cell? ⟨w.heap.size + 1 + 1 + 1, 5, none⟩ = some _ from r5, show w1.cell? ⟨w.heap.size + 1 + 1 + 1, 6, none⟩ = some _ from r6, show w1.cell? ⟨w.heap.size + 1 + 1 + 1, 7, none⟩ = some _ from r7, show w1.cell? ⟨w.heap.size + 1 + 1 + 1, 8, none⟩ = some _ from r8, show w1.cell? ⟨w.heap.size + 1 + 1 + 1, 9, none⟩ = some _ from r9, show w1.cell? ⟨w.heap.size + 1 + 1 + 1, 10, none⟩ = some _ from r10, show w1.cell? ⟨w.heap.size + 1 + 1 + 1, 11, none⟩ = some _ from r11, show w1.cell? ⟨w.heap.size + 1 + 1 + 1, 12, none⟩ = some _ from r12, show w1.cell? ⟨w.heap.size + 1 + 1 + 1, 13, none⟩ = some _ from r13, show w1.cell? ⟨w.heap.size + 1 + 1 + 1, 14, none⟩ = some _ from r14]) rfl ⟨by rw [HE.out], ?_⟩
  iterate 17 refine Since.setCell ?_ (by first | (simp; done) | (simp; omega)) _
  refine Since.trans ?_ HB1.out
  (repeat (first | exact Since.refl _ | refine Since.setCell ?_ (by first | (simp; done) | (simp; omega)) _ | refine Since.alloc ?_ _))
set_option maxHeartbeats 4000000 in
theorem rf_nt1 (c : CfgV) (x : CarV) (r : Int) (h0 : 0 ≤ x.da) (h1 : x.da ≤ 1000) (u0 : -9223372036854775808 ≤ x.un) (u1 : x.un ≤ 9223372036854775807) (w : World) : Calls Try.prog 21 #[.agg #[.int .i64 c.ca, .int .i64 c.fl, .int .i64 c.ft, .int .i64 c.se, .int .i64 c.dr, .int .i64 c.dw, .int .i64 c.ho, .int .i64 c.re, .int .i64 c.yi, .int .i64 c.qu, .int .i64 c.qo, .int .i64 c.lo, .int .i64 c.sl, .int .i64 c.rt, .int .i64 c.cp, .int .i64 c.tr, .int .i64 c.de, .int .i64 c.wi], .agg #[.int .i64 1, .int .i64 x.da, .int .i64 x.un, .int .i64 x.wy, .int .i64 x.ti, .int .i64 x.ju, .int .i64 x.lo, .bool x.bl, .bool false, .int .i64 x.mo, .int .i64 x.ta, .bool x.ho, .int .u64 x.sp, .int .u64 x.su, .int .u64 x.sd], .agg #[.int .i64 r, .bool false, .bool true]] w fun e w' => e = .returned (.agg #[.int .i64 (dS1 c ({ x with ds := 1, br := false } : CarV) false true), .int .i64 (dA1 c ({ x with ds := 1, br := false } : CarV) false true), .int .i64 (un1 c ({ x with ds := 1, br := false } : CarV) r false true), .int .i64 (wy1 c ({ x with ds := 1, br := false } : CarV) r false true), .int .i64 x.ti, .int .i64 x.ju, .int .i64 x.lo, .bool x.bl, .bool false, .int .i64 x.mo, .int .i64 x.ta, .bool x.ho, .int .u64 x.sp, .int .u64 x.su, .int .u64 x.sd]) ∧ Since w w' := by
  have HT : dS0 ({ x with ds := 1, br := false } : CarV) false true = 3 := by unfold dS0 toldS oS cS; simp
  have HS := Lib.hid (show dS1 c ({ x with ds := 1, br := false } : CarV) false true = tS 3 x.da c.dr x.bl by unfold dS1; rw [HT])
  have HA := Lib.hid (show dA1 c ({ x with ds := 1, br := false } : CarV) false true = tA 3 x.da c.dr x.bl by unfold dA1; rw [HT])
  clear HT
  have HG : goesB c ({ x with ds := 1, br := false } : CarV) r false true = false := by unfold goesB; simp
  have HU := Lib.hid (show un1 c ({ x with ds := 1, br := false } : CarV) r false true = x.un by unfold un1; rw [HG]; simp)
  have HY := Lib.hid (show wy1 c ({ x with ds := 1, br := false } : CarV) r false true = x.wy by unfold wy1; rw [HG]; simp)
  clear HG
  have HE := Lib.hid (show (Value.agg #[.int .i64 (dS1 c ({ x with ds := 1, br := false } : CarV) false true), .int .i64 (dA1 c ({ x with ds := 1, br := false } : CarV) false true), .int .i64 (un1 c ({ x with ds := 1, br := false } : CarV) r false true), .int .i64 (wy1 c ({ x with ds := 1, br := false } : CarV) r false true), .int .i64 x.ti, .int .i64 x.ju, .int .i64 x.lo, .bool x.bl, .bool false, .int .i64 x.mo, .int .i64 x.ta, .bool x.ho, .int .u64 x.sp, .int .u64 x.su, .int .u64 x.sd]) = .agg #[.int .i64 (tS 3 x.da c.dr x.bl), .int .i64 (tA 3 x.da c.dr x.bl), .int .i64 (x.un), .int .i64 (x.wy), .int .i64 x.ti, .int .i64 x.ju, .int .i64 x.lo, .bool x.bl, .bool false, .int .i64 x.mo, .int .i64 x.ta, .bool x.ho, .int .u64 x.sp, .int .u64 x.su, .int .u64 x.sd] by rw [HS.out, HA.out, HU.out, HY.out])
  clear HS HA HU HY
  go_enter Try.func21, Try.ntmps21
  go_wp2_with fail
  refine (levelR _ _).mono ?_
  rintro e w' ⟨rfl, rfl⟩
  go_wp2_with fail
  refine (doorR _ _ _ _ (by assumption) (by assumption) _).mono ?_
  rintro e w1 ⟨rfl, hb1⟩
  have c1 : w1.cell? ⟨w.heap.size, 1, none⟩ = some (.int .i64 c.fl) := keep_cell hb1 (by simp [go_sem])
  have c4 : w1.cell? ⟨w.heap.size, 4, none⟩ = some (.int .i64 c.dr) := keep_cell hb1 (by simp [go_sem])
  have x0 : w1.cell? ⟨w.heap.size + 1, 0, none⟩ = some (.int .i64 3) := keep_cell hb1 (by simp [go_sem])
  have x1 : w1.cell? ⟨w.heap.size + 1, 1, none⟩ = some (.int .i64 x.da) := keep_cell hb1 (by simp [go_sem])
  have x2 : w1.cell? ⟨w.heap.size + 1, 2, none⟩ = some (.int .i64 x.un) := keep_cell hb1 (by simp [go_sem])
  have x3 : w1.cell? ⟨w.heap.size + 1, 3, none⟩ = some (.int .i64 x.wy) := keep_cell hb1 (by simp [go_sem])
  have x4 : w1.cell? ⟨w.heap.size + 1, 4, none⟩ = some (.int .i64 x.ti) := keep_cell hb1 (by simp [go_sem])
  have x5 : w1.cell? ⟨w.heap.size + 1, 5, none⟩ = some (.int .i64 x.ju) := keep_cell hb1 (by simp [go_sem])
  have x6 : w1.cell? ⟨w.heap.size + 1, 6, none⟩ = some (.int .i64 x.lo) := keep_cell hb1 (by simp [go_sem])
  have x7 : w1.cell? ⟨w.heap.size + 1, 7, none⟩ = some (.bool x.bl) := keep_cell hb1 (by simp [go_sem])
  have x8 : w1.cell? ⟨w.heap.size + 1, 8, none⟩ = some (.bool false) := keep_cell hb1 (by simp [go_sem])
  have x9 : w1.cell? ⟨w.heap.size + 1, 9, none⟩ = some (.int .i64 x.mo) := keep_cell hb1 (by simp [go_sem])
  have x10 : w1.cell? ⟨w.heap.size + 1, 10, none⟩ = some (.int .i64 x.ta) := keep_cell hb1 (by simp [go_sem])
  have x11 : w1.cell? ⟨w.heap.size + 1, 11, none⟩ = some (.bool x.ho) := keep_cell hb1 (by simp [go_sem])
  have x12 : w1.cell? ⟨w.heap.size + 1, 12, none⟩ = some (.int .u64 x.sp) := keep_cell hb1 (by simp [go_sem])
  have x13 : w1.cell? ⟨w.heap.size + 1, 13, none⟩ = some (.int .u64 x.su) := keep_cell hb1 (by simp [go_sem])
  have x14 : w1.cell? ⟨w.heap.size + 1, 14, none⟩ = some (.int .u64 x.sd) := keep_cell hb1 (by simp [go_sem])
  have xf0 : w1.frozen? ⟨w.heap.size + 1, 0, none⟩ = false := (hb1.frozen (by simp [go_sem])).trans (by simp [go_sem])
  have xf1 : w1.frozen? ⟨w.heap.size + 1, 1, none⟩ = false := (hb1.frozen (by simp [go_sem])).trans (by simp [go_sem])
  have xf2 : w1.frozen? ⟨w.heap.size + 1, 2, none⟩ = false := (hb1.frozen (by simp [go_sem])).trans (by simp [go_sem])
  have xf3 : w1.frozen? ⟨w.heap.size + 1, 3, none⟩ = false := (hb1.frozen (by simp [go_sem])).trans (by simp [go_sem])
  have m0 : w1.cell? ⟨w.heap.size + 2, 0, none⟩ = some (.int .i64 r) := keep_cell hb1 (by simp [go_sem])
  have m1 : w1.cell? ⟨w.heap.size + 2, 1, none⟩ = some (.bool false) := keep_cell hb1 (by simp [go_sem])
  have m2 : w1.cell? ⟨w.heap.size + 2, 2, none⟩ = some (.bool true) := keep_cell hb1 (by simp [go_sem])
  have r0 : w1.cell? ⟨w.heap.size + 3, 0, none⟩ = some (.int .i64 0) := keep_cell hb1 (by simp [go_sem])
  have r1 : w1.cell? ⟨w.heap.size + 3, 1, none⟩ = some (.int .i64 0) := keep_cell hb1 (by simp [go_sem])
  have r2 : w1.cell? ⟨w.heap.size + 3, 2, none⟩ = some (.int .i64 0) := keep_cell hb1 (by simp [go_sem])
  have r3 : w1.cell? ⟨w.heap.size + 3, 3, none⟩ = some (.int .i64 0) := keep_cell hb1 (by simp [go_sem])
  have r4 : w1.cell? ⟨w.heap.size + 3, 4, none⟩ = some (.int .i64 0) := keep_cell hb1 (by simp [go_sem])
  have r5 : w1.cell? ⟨w.heap.size + 3, 5, none⟩ = some (.int .i64 0) := keep_cell hb1 (by simp [go_sem])
  have r6 : w1.cell? ⟨w.heap.size + 3, 6, none⟩ = some (.int .i64 0) := keep_cell hb1 (by simp [go_sem])
  have r7 : w1.cell? ⟨w.heap.size + 3, 7, none⟩ = some (.bool false) := keep_cell hb1 (by simp [go_sem])
  have r8 : w1.cell? ⟨w.heap.size + 3, 8, none⟩ = some (.bool false) := keep_cell hb1 (by simp [go_sem])
  have r9 : w1.cell? ⟨w.heap.size + 3, 9, none⟩ = some (.int .i64 0) := keep_cell hb1 (by simp [go_sem])
  have r10 : w1.cell? ⟨w.heap.size + 3, 10, none⟩ = some (.int .i64 0) := keep_cell hb1 (by simp [go_sem])
  have r11 : w1.cell? ⟨w.heap.size + 3, 11, none⟩ = some (.bool false) := keep_cell hb1 (by simp [go_sem])
  have r12 : w1.cell? ⟨w.heap.size + 3, 12, none⟩ = some (.int .u64 0) := keep_cell hb1 (by simp [go_sem])
  have r13 : w1.cell? ⟨w.heap.size + 3, 13, none⟩ = some (.int .u64 0) := keep_cell hb1 (by simp [go_sem])
  have r14 : w1.cell? ⟨w.heap.size + 3, 14, none⟩ = some (.int .u64 0) := keep_cell hb1 (by simp [go_sem])
  have rf0 : w1.frozen? ⟨w.heap.size + 3, 0, none⟩ = false := (hb1.frozen (by simp [go_sem])).trans (by simp [go_sem])
  have rf1 : w1.frozen? ⟨w.heap.size + 3, 1, none⟩ = false := (hb1.frozen (by simp [go_sem])).trans (by simp [go_sem])
  have rf2 : w1.frozen? ⟨w.heap.size + 3, 2, none⟩ = false := (hb1.frozen (by simp [go_sem])).trans (by simp [go_sem])
  have rf3 : w1.frozen? ⟨w.heap.size + 3, 3, none⟩ = false := (hb1.frozen (by simp [go_sem])).trans (by simp [go_sem])
  have rf4 : w1.frozen? ⟨w.heap.size + 3, 4, none⟩ = false := (hb1.frozen (by simp [go_sem])).trans (by simp [go_sem])
  have rf5 : w1.frozen? ⟨w.heap.size + 3, 5, none⟩ = false := (hb1.frozen (by simp [go_sem])).trans (by simp [go_sem])
  have rf6 : w1.frozen? ⟨w.heap.size + 3, 6, none⟩ = false := (hb1.frozen (by simp [go_sem])).trans (by simp [go_sem])
  have rf7 : w1.frozen? ⟨w.heap.size + 3, 7, none⟩ = false := (hb1.frozen (by simp [go_sem])).trans (by simp [go_sem])
  have rf8 : w1.frozen? ⟨w.heap.size + 3, 8, none⟩ = false := (hb1.frozen (by simp [go_sem])).trans (by simp [go_sem])
  have rf9 : w1.frozen? ⟨w.heap.size + 3, 9, none⟩ = false := (hb1.frozen (by simp [go_sem])).trans (by simp [go_sem])
  have rf10 : w1.frozen? ⟨w.heap.size + 3, 10, none⟩ = false := (hb1.frozen (by simp [go_sem])).trans (by simp [go_sem])
  have rf11 : w1.frozen? ⟨w.heap.size + 3, 11, none⟩ = false := (hb1.frozen (by simp [go_sem])).trans (by simp [go_sem])
  have rf12 : w1.frozen? ⟨w.heap.size + 3, 12, none⟩ = false := (hb1.frozen (by simp [go_sem])).trans (by simp [go_sem])
  have rf13 : w1.frozen? ⟨w.heap.size + 3, 13, none⟩ = false := (hb1.frozen (by simp [go_sem])).trans (by simp [go_sem])
  have rf14 : w1.frozen? ⟨w.heap.size + 3, 14, none⟩ = false := (hb1.frozen (by simp [go_sem])).trans (by simp [go_sem])
  have HB1 := Lib.hid hb1
  clear hb1
  go_wp2
  refine bodyPost_ret (v := .agg #[.int .i64 (tS 3 x.da c.dr x.bl), .int .i64 (tA 3 x.da c.dr x.bl), .int .i64 (x.un), .int .i64 (x.wy), .int .i64 x.ti, .int .i64 x.ju, .int .i64 x.lo, .bool x.bl, .bool false, .int .i64 x.mo, .int .i64 x.ta, .bool x.ho, .int .u64 x.sp, .int .u64 x.su, .int .u64 x.sd]) (by simp [results, Try.results21, go_sem, show w1.cell? ⟨w.heap.size + 1 + 1 + 1, 0, none⟩ = some _ from r0, show w1.cell? ⟨w.heap.size + 1 + 1 + 1, 1, none⟩ = some _ from r1, show w1.cell? ⟨w.heap.size + 1 + 1 + 1, 2, none⟩ = some _ from r2, show w1.cell? ⟨w.heap.size + 1 + 1 + 1, 3, none⟩ = some _ from r3, show w1.cell? ⟨w.heap.size + 1 + 1 + 1, 4, none⟩ = some _ from r4, show w1.cell? ⟨w.heap.size + 1 + 1 + 1, 5, none⟩ = some _ from r5, show w1.cell? ⟨w.heap.size + 1 + 1 + 1, 6, none⟩ = some _ from r6, show w1.cell? ⟨w.heap.size + 1 + 1 + 1, 7, none⟩ = some _ from r7, show w1.cell? ⟨w.heap.size + 1 + 1 + 1, 8, none⟩ = some _ from r8, show w1.cell? ⟨w.heap.size + 1 + 1 + 1, 9, none⟩ = some _ from r9, show w1.cell? ⟨w.heap.size + 1 + 1 + 1, 10, none⟩ = some _ from r10, show w1.cell? ⟨w.heap.size + 1 + 1 + 1, 11, none⟩ = some _ from r11, show w1.cell? ⟨w.heap.size + 1 + 1 + 1, 12, none⟩ = some _ from r12, show w1.cell? ⟨w.heap.size + 1 + 1 + 1, 13, none⟩ = some _ from r13, show w1.cell? ⟨w.heap.size + 1 + 1 + 1, 14, none⟩ = some _ from r14]) rfl ⟨by rw [HE.out], ?_⟩
  iterate 17 refine Since.setCell ?_ (by first | (simp; done) | (simp; omega)) _
  refine Since.trans ?_ HB1.out
  (repeat (first | exact Since.refl _ | refine Since.setCell ?_ (by first | (simp; done) | (simp; omega)) _ | refine Since.alloc ?_ _))
set_option maxHeartbeats 4000000 in
theorem rf_lfdown (c : CfgV) (x : CarV) (h0 : 0 ≤ x.da) (h1 : x.da ≤ 1000) (u0 : -9223372036854775808 ≤ x.un) (u1 : x.un ≤ 9223372036854775807) (hl : lvB x.un = false) (w : World) : Calls Try.prog 21 #[.agg #[.int .i64 c.ca, .int .i64 c.fl, .int .i64 c.ft, .int .i64 c.se, .int .i64 c.dr, .int .i64 c.dw, .int .i64 c.ho, .int .i64 c.re, .int .i64 c.yi, .int .i64 c.qu, .int .i64 c.qo, .int .i64 c.lo, .int .i64 c.sl, .int .i64 c.rt, .int .i64 c.cp, .int .i64 c.tr, .int .i64 c.de, .int .i64 c.wi], .agg #[.int .i64 0, .int .i64 x.da, .int .i64 x.un, .int .i64 x.wy, .int .i64 x.ti, .int .i64 x.ju, .int .i64 x.lo, .bool x.bl, .bool false, .int .i64 x.mo, .int .i64 x.ta, .bool x.ho, .int .u64 x.sp, .int .u64 x.su, .int .u64 x.sd], .agg #[.int .i64 2, .bool true, .bool false]] w fun e w' => e = .returned (.agg #[.int .i64 (dS1 c ({ x with ds := 0, br := false } : CarV) true false), .int .i64 (dA1 c ({ x with ds := 0, br := false } : CarV) true false), .int .i64 (un1 c ({ x with ds := 0, br := false } : CarV) 2 true false), .int .i64 (wy1 c ({ x with ds := 0, br := false } : CarV) 2 true false), .int .i64 x.ti, .int .i64 x.ju, .int .i64 x.lo, .bool x.bl, .bool false, .int .i64 x.mo, .int .i64 x.ta, .bool x.ho, .int .u64 x.sp, .int .u64 x.su, .int .u64 x.sd]) ∧ Since w w' := by
  have HT : dS0 ({ x with ds := 0, br := false } : CarV) true false = 0 := by unfold dS0 toldS oS cS; simp [hl]
  have HS := Lib.hid (show dS1 c ({ x with ds := 0, br := false } : CarV) true false = tS 0 x.da c.dr x.bl by unfold dS1; rw [HT])
  have HA := Lib.hid (show dA1 c ({ x with ds := 0, br := false } : CarV) true false = tA 0 x.da c.dr x.bl by unfold dA1; rw [HT])
  clear HT
  have hz : (tS 0 x.da c.dr x.bl == 0) = true := by rw [tS_o _ _ _ _ (by omega) (by omega)]; rfl
  have HG : goesB c ({ x with ds := 0, br := false } : CarV) 2 true false = true := by exact decide_eq_true ⟨rfl, rfl, by rw [HS.out]; simpa using hz, by simp⟩
  have HU := Lib.hid (show un1 c ({ x with ds := 0, br := false } : CarV) 2 true false = mv x.un 2 c.fl by unfold un1; rw [HG]; simp)
  have HY := Lib.hid (show wy1 c ({ x with ds := 0, br := false } : CarV) 2 true false = 2 by unfold wy1; rw [HG]; simp)
  clear HG
  have HE := Lib.hid (show (Value.agg #[.int .i64 (dS1 c ({ x with ds := 0, br := false } : CarV) true false), .int .i64 (dA1 c ({ x with ds := 0, br := false } : CarV) true false), .int .i64 (un1 c ({ x with ds := 0, br := false } : CarV) 2 true false), .int .i64 (wy1 c ({ x with ds := 0, br := false } : CarV) 2 true false), .int .i64 x.ti, .int .i64 x.ju, .int .i64 x.lo, .bool x.bl, .bool false, .int .i64 x.mo, .int .i64 x.ta, .bool x.ho, .int .u64 x.sp, .int .u64 x.su, .int .u64 x.sd]) = .agg #[.int .i64 (tS 0 x.da c.dr x.bl), .int .i64 (tA 0 x.da c.dr x.bl), .int .i64 (mv x.un 2 c.fl), .int .i64 (2), .int .i64 x.ti, .int .i64 x.ju, .int .i64 x.lo, .bool x.bl, .bool false, .int .i64 x.mo, .int .i64 x.ta, .bool x.ho, .int .u64 x.sp, .int .u64 x.su, .int .u64 x.sd] by rw [HS.out, HA.out, HU.out, HY.out])
  clear HS HA HU HY
  go_enter Try.func21, Try.ntmps21
  go_wp2_with fail
  refine (levelR _ _).mono ?_
  rintro e w' ⟨rfl, rfl⟩
  go_wp2_with fail
  refine (doorR _ _ _ _ (by assumption) (by assumption) _).mono ?_
  rintro e w1 ⟨rfl, hb1⟩
  have c1 : w1.cell? ⟨w.heap.size, 1, none⟩ = some (.int .i64 c.fl) := keep_cell hb1 (by simp [go_sem])
  have c4 : w1.cell? ⟨w.heap.size, 4, none⟩ = some (.int .i64 c.dr) := keep_cell hb1 (by simp [go_sem])
  have x0 : w1.cell? ⟨w.heap.size + 1, 0, none⟩ = some (.int .i64 0) := keep_cell hb1 (by simp [go_sem])
  have x1 : w1.cell? ⟨w.heap.size + 1, 1, none⟩ = some (.int .i64 x.da) := keep_cell hb1 (by simp [go_sem])
  have x2 : w1.cell? ⟨w.heap.size + 1, 2, none⟩ = some (.int .i64 x.un) := keep_cell hb1 (by simp [go_sem])
  have x3 : w1.cell? ⟨w.heap.size + 1, 3, none⟩ = some (.int .i64 x.wy) := keep_cell hb1 (by simp [go_sem])
  have x4 : w1.cell? ⟨w.heap.size + 1, 4, none⟩ = some (.int .i64 x.ti) := keep_cell hb1 (by simp [go_sem])
  have x5 : w1.cell? ⟨w.heap.size + 1, 5, none⟩ = some (.int .i64 x.ju) := keep_cell hb1 (by simp [go_sem])
  have x6 : w1.cell? ⟨w.heap.size + 1, 6, none⟩ = some (.int .i64 x.lo) := keep_cell hb1 (by simp [go_sem])
  have x7 : w1.cell? ⟨w.heap.size + 1, 7, none⟩ = some (.bool x.bl) := keep_cell hb1 (by simp [go_sem])
  have x8 : w1.cell? ⟨w.heap.size + 1, 8, none⟩ = some (.bool false) := keep_cell hb1 (by simp [go_sem])
  have x9 : w1.cell? ⟨w.heap.size + 1, 9, none⟩ = some (.int .i64 x.mo) := keep_cell hb1 (by simp [go_sem])
  have x10 : w1.cell? ⟨w.heap.size + 1, 10, none⟩ = some (.int .i64 x.ta) := keep_cell hb1 (by simp [go_sem])
  have x11 : w1.cell? ⟨w.heap.size + 1, 11, none⟩ = some (.bool x.ho) := keep_cell hb1 (by simp [go_sem])
  have x12 : w1.cell? ⟨w.heap.size + 1, 12, none⟩ = some (.int .u64 x.sp) := keep_cell hb1 (by simp [go_sem])
  have x13 : w1.cell? ⟨w.heap.size + 1, 13, none⟩ = some (.int .u64 x.su) := keep_cell hb1 (by simp [go_sem])
  have x14 : w1.cell? ⟨w.heap.size + 1, 14, none⟩ = some (.int .u64 x.sd) := keep_cell hb1 (by simp [go_sem])
  have xf0 : w1.frozen? ⟨w.heap.size + 1, 0, none⟩ = false := (hb1.frozen (by simp [go_sem])).trans (by simp [go_sem])
  have xf1 : w1.frozen? ⟨w.heap.size + 1, 1, none⟩ = false := (hb1.frozen (by simp [go_sem])).trans (by simp [go_sem])
  have xf2 : w1.frozen? ⟨w.heap.size + 1, 2, none⟩ = false := (hb1.frozen (by simp [go_sem])).trans (by simp [go_sem])
  have xf3 : w1.frozen? ⟨w.heap.size + 1, 3, none⟩ = false := (hb1.frozen (by simp [go_sem])).trans (by simp [go_sem])
  have m0 : w1.cell? ⟨w.heap.size + 2, 0, none⟩ = some (.int .i64 2) := keep_cell hb1 (by simp [go_sem])
  have m1 : w1.cell? ⟨w.heap.size + 2, 1, none⟩ = some (.bool true) := keep_cell hb1 (by simp [go_sem])
  have m2 : w1.cell? ⟨w.heap.size + 2, 2, none⟩ = some (.bool false) := keep_cell hb1 (by simp [go_sem])
  have r0 : w1.cell? ⟨w.heap.size + 3, 0, none⟩ = some (.int .i64 0) := keep_cell hb1 (by simp [go_sem])
  have r1 : w1.cell? ⟨w.heap.size + 3, 1, none⟩ = some (.int .i64 0) := keep_cell hb1 (by simp [go_sem])
  have r2 : w1.cell? ⟨w.heap.size + 3, 2, none⟩ = some (.int .i64 0) := keep_cell hb1 (by simp [go_sem])
  have r3 : w1.cell? ⟨w.heap.size + 3, 3, none⟩ = some (.int .i64 0) := keep_cell hb1 (by simp [go_sem])
  have r4 : w1.cell? ⟨w.heap.size + 3, 4, none⟩ = some (.int .i64 0) := keep_cell hb1 (by simp [go_sem])
  have r5 : w1.cell? ⟨w.heap.size + 3, 5, none⟩ = some (.int .i64 0) := keep_cell hb1 (by simp [go_sem])
  have r6 : w1.cell? ⟨w.heap.size + 3, 6, none⟩ = some (.int .i64 0) := keep_cell hb1 (by simp [go_sem])
  have r7 : w1.cell? ⟨w.heap.size + 3, 7, none⟩ = some (.bool false) := keep_cell hb1 (by simp [go_sem])
  have r8 : w1.cell? ⟨w.heap.size + 3, 8, none⟩ = some (.bool false) := keep_cell hb1 (by simp [go_sem])
  have r9 : w1.cell? ⟨w.heap.size + 3, 9, none⟩ = some (.int .i64 0) := keep_cell hb1 (by simp [go_sem])
  have r10 : w1.cell? ⟨w.heap.size + 3, 10, none⟩ = some (.int .i64 0) := keep_cell hb1 (by simp [go_sem])
  have r11 : w1.cell? ⟨w.heap.size + 3, 11, none⟩ = some (.bool false) := keep_cell hb1 (by simp [go_sem])
  have r12 : w1.cell? ⟨w.heap.size + 3, 12, none⟩ = some (.int .u64 0) := keep_cell hb1 (by simp [go_sem])
  have r13 : w1.cell? ⟨w.heap.size + 3, 13, none⟩ = some (.int .u64 0) := keep_cell hb1 (by simp [go_sem])
  have r14 : w1.cell? ⟨w.heap.size + 3, 14, none⟩ = some (.int .u64 0) := keep_cell hb1 (by simp [go_sem])
  have rf0 : w1.frozen? ⟨w.heap.size + 3, 0, none⟩ = false := (hb1.frozen (by simp [go_sem])).trans (by simp [go_sem])
  have rf1 : w1.frozen? ⟨w.heap.size + 3, 1, none⟩ = false := (hb1.frozen (by simp [go_sem])).trans (by simp [go_sem])
  have rf2 : w1.frozen? ⟨w.heap.size + 3, 2, none⟩ = false := (hb1.frozen (by simp [go_sem])).trans (by simp [go_sem])
  have rf3 : w1.frozen? ⟨w.heap.size + 3, 3, none⟩ = false := (hb1.frozen (by simp [go_sem])).trans (by simp [go_sem])
  have rf4 : w1.frozen? ⟨w.heap.size + 3, 4, none⟩ = false := (hb1.frozen (by simp [go_sem])).trans (by simp [go_sem])
  have rf5 : w1.frozen? ⟨w.heap.size + 3, 5, none⟩ = false := (hb1.frozen (by simp [go_sem])).trans (by simp [go_sem])
  have rf6 : w1.frozen? ⟨w.heap.size + 3, 6, none⟩ = false := (hb1.frozen (by simp [go_sem])).trans (by simp [go_sem])
  have rf7 : w1.frozen? ⟨w.heap.size + 3, 7, none⟩ = false := (hb1.frozen (by simp [go_sem])).trans (by simp [go_sem])
  have rf8 : w1.frozen? ⟨w.heap.size + 3, 8, none⟩ = false := (hb1.frozen (by simp [go_sem])).trans (by simp [go_sem])
  have rf9 : w1.frozen? ⟨w.heap.size + 3, 9, none⟩ = false := (hb1.frozen (by simp [go_sem])).trans (by simp [go_sem])
  have rf10 : w1.frozen? ⟨w.heap.size + 3, 10, none⟩ = false := (hb1.frozen (by simp [go_sem])).trans (by simp [go_sem])
  have rf11 : w1.frozen? ⟨w.heap.size + 3, 11, none⟩ = false := (hb1.frozen (by simp [go_sem])).trans (by simp [go_sem])
  have rf12 : w1.frozen? ⟨w.heap.size + 3, 12, none⟩ = false := (hb1.frozen (by simp [go_sem])).trans (by simp [go_sem])
  have rf13 : w1.frozen? ⟨w.heap.size + 3, 13, none⟩ = false := (hb1.frozen (by simp [go_sem])).trans (by simp [go_sem])
  have rf14 : w1.frozen? ⟨w.heap.size + 3, 14, none⟩ = false := (hb1.frozen (by simp [go_sem])).trans (by simp [go_sem])
  have HB1 := Lib.hid hb1
  clear hb1
  go_wp2_with fail
  refine (moveR _ _ _ (by omega) (by omega) _).mono ?_
  rintro e w' ⟨rfl, rfl⟩
  go_wp2
  refine bodyPost_ret (v := .agg #[.int .i64 (tS 0 x.da c.dr x.bl), .int .i64 (tA 0 x.da c.dr x.bl), .int .i64 (mv x.un 2 c.fl), .int .i64 (2), .int .i64 x.ti, .int .i64 x.ju, .int .i64 x.lo, .bool x.bl, .bool false, .int .i64 x.mo, .int .i64 x.ta, .bool x.ho, .int .u64 x.sp, .int .u64 x.su, .int .u64 x.sd]) (by simp [results, Try.results21, go_sem, show w1.cell? ⟨w.heap.size + 1 + 1 + 1, 0, none⟩ = some _ from r0, show w1.cell? ⟨w.heap.size + 1 + 1 + 1, 1, none⟩ = some _ from r1, show w1.cell? ⟨w.heap.size + 1 + 1 + 1, 2, none⟩ = some _ from r2, show w1.cell? ⟨w.heap.size + 1 + 1 + 1, 3, none⟩ = some _ from r3, show w1.cell? ⟨w.heap.size + 1 + 1 + 1, 4, none⟩ = some _ from r4, show w1.cell? ⟨w.heap.size + 1 + 1 + 1, 5, none⟩ = some _ from r5, show w1.cell? ⟨w.heap.size + 1 + 1 + 1, 6, none⟩ = some _ from r6, show w1.cell? ⟨w.heap.size + 1 + 1 + 1, 7, none⟩ = some _ from r7, show w1.cell? ⟨w.heap.size + 1 + 1 + 1, 8, none⟩ = some _ from r8, show w1.cell? ⟨w.heap.size + 1 + 1 + 1, 9, none⟩ = some _ from r9, show w1.cell? ⟨w.heap.size + 1 + 1 + 1, 10, none⟩ = some _ from r10, show w1.cell? ⟨w.heap.size + 1 + 1 + 1, 11, none⟩ = some _ from r11, show w1.cell? ⟨w.heap.size + 1 + 1 + 1, 12, none⟩ = some _ from r12, show w1.cell? ⟨w.heap.size + 1 + 1 + 1, 13, none⟩ = some _ from r13, show w1.cell? ⟨w.heap.size + 1 + 1 + 1, 14, none⟩ = some _ from r14]) rfl ⟨by rw [HE.out], ?_⟩
  iterate 19 refine Since.setCell ?_ (by first | (simp; done) | (simp; omega)) _
  refine Since.trans ?_ HB1.out
  (repeat (first | exact Since.refl _ | refine Since.setCell ?_ (by first | (simp; done) | (simp; omega)) _ | refine Since.alloc ?_ _))
set_option maxHeartbeats 4000000 in
theorem rf_ltdown (c : CfgV) (x : CarV) (h0 : 0 ≤ x.da) (h1 : x.da ≤ 1000) (u0 : -9223372036854775808 ≤ x.un) (u1 : x.un ≤ 9223372036854775807) (hl : lvB x.un = false) (w : World) : Calls Try.prog 21 #[.agg #[.int .i64 c.ca, .int .i64 c.fl, .int .i64 c.ft, .int .i64 c.se, .int .i64 c.dr, .int .i64 c.dw, .int .i64 c.ho, .int .i64 c.re, .int .i64 c.yi, .int .i64 c.qu, .int .i64 c.qo, .int .i64 c.lo, .int .i64 c.sl, .int .i64 c.rt, .int .i64 c.cp, .int .i64 c.tr, .int .i64 c.de, .int .i64 c.wi], .agg #[.int .i64 0, .int .i64 x.da, .int .i64 x.un, .int .i64 x.wy, .int .i64 x.ti, .int .i64 x.ju, .int .i64 x.lo, .bool x.bl, .bool false, .int .i64 x.mo, .int .i64 x.ta, .bool x.ho, .int .u64 x.sp, .int .u64 x.su, .int .u64 x.sd], .agg #[.int .i64 2, .bool true, .bool true]] w fun e w' => e = .returned (.agg #[.int .i64 (dS1 c ({ x with ds := 0, br := false } : CarV) true true), .int .i64 (dA1 c ({ x with ds := 0, br := false } : CarV) true true), .int .i64 (un1 c ({ x with ds := 0, br := false } : CarV) 2 true true), .int .i64 (wy1 c ({ x with ds := 0, br := false } : CarV) 2 true true), .int .i64 x.ti, .int .i64 x.ju, .int .i64 x.lo, .bool x.bl, .bool false, .int .i64 x.mo, .int .i64 x.ta, .bool x.ho, .int .u64 x.sp, .int .u64 x.su, .int .u64 x.sd]) ∧ Since w w' := by
  have HT : dS0 ({ x with ds := 0, br := false } : CarV) true true = 0 := by unfold dS0 toldS oS cS; simp [hl]
  have HS := Lib.hid (show dS1 c ({ x with ds := 0, br := false } : CarV) true true = tS 0 x.da c.dr x.bl by unfold dS1; rw [HT])
  have HA := Lib.hid (show dA1 c ({ x with ds := 0, br := false } : CarV) true true = tA 0 x.da c.dr x.bl by unfold dA1; rw [HT])
  clear HT
  have hz : (tS 0 x.da c.dr x.bl == 0) = true := by rw [tS_o _ _ _ _ (by omega) (by omega)]; rfl
  have HG : goesB c ({ x with ds := 0, br := false } : CarV) 2 true true = true := by exact decide_eq_true ⟨rfl, rfl, by rw [HS.out]; simpa using hz, by simp⟩
  have HU := Lib.hid (show un1 c ({ x with ds := 0, br := false } : CarV) 2 true true = mv x.un 2 c.fl by unfold un1; rw [HG]; simp)
  have HY := Lib.hid (show wy1 c ({ x with ds := 0, br := false } : CarV) 2 true true = 2 by unfold wy1; rw [HG]; simp)
  clear HG
  have HE := Lib.hid (show (Value.agg #[.int .i64 (dS1 c ({ x with ds := 0, br := false } : CarV) true true), .int .i64 (dA1 c ({ x with ds := 0, br := false } : CarV) true true), .int .i64 (un1 c ({ x with ds := 0, br := false } : CarV) 2 true true), .int .i64 (wy1 c ({ x with ds := 0, br := false } : CarV) 2 true true), .int .i64 x.ti, .int .i64 x.ju, .int .i64 x.lo, .bool x.bl, .bool false, .int .i64 x.mo, .int .i64 x.ta, .bool x.ho, .int .u64 x.sp, .int .u64 x.su, .int .u64 x.sd]) = .agg #[.int .i64 (tS 0 x.da c.dr x.bl), .int .i64 (tA 0 x.da c.dr x.bl), .int .i64 (mv x.un 2 c.fl), .int .i64 (2), .int .i64 x.ti, .int .i64 x.ju, .int .i64 x.lo, .bool x.bl, .bool false, .int .i64 x.mo, .int .i64 x.ta, .bool x.ho, .int .u64 x.sp, .int .u64 x.su, .int .u64 x.sd] by rw [HS.out, HA.out, HU.out, HY.out])
  clear HS HA HU HY
  go_enter Try.func21, Try.ntmps21
  go_wp2_with fail
  refine (levelR _ _).mono ?_
  rintro e w' ⟨rfl, rfl⟩
  go_wp2_with fail
  refine (doorR _ _ _ _ (by assumption) (by assumption) _).mono ?_
  rintro e w1 ⟨rfl, hb1⟩
  have c1 : w1.cell? ⟨w.heap.size, 1, none⟩ = some (.int .i64 c.fl) := keep_cell hb1 (by simp [go_sem])
  have c4 : w1.cell? ⟨w.heap.size, 4, none⟩ = some (.int .i64 c.dr) := keep_cell hb1 (by simp [go_sem])
  have x0 : w1.cell? ⟨w.heap.size + 1, 0, none⟩ = some (.int .i64 0) := keep_cell hb1 (by simp [go_sem])
  have x1 : w1.cell? ⟨w.heap.size + 1, 1, none⟩ = some (.int .i64 x.da) := keep_cell hb1 (by simp [go_sem])
  have x2 : w1.cell? ⟨w.heap.size + 1, 2, none⟩ = some (.int .i64 x.un) := keep_cell hb1 (by simp [go_sem])
  have x3 : w1.cell? ⟨w.heap.size + 1, 3, none⟩ = some (.int .i64 x.wy) := keep_cell hb1 (by simp [go_sem])
  have x4 : w1.cell? ⟨w.heap.size + 1, 4, none⟩ = some (.int .i64 x.ti) := keep_cell hb1 (by simp [go_sem])
  have x5 : w1.cell? ⟨w.heap.size + 1, 5, none⟩ = some (.int .i64 x.ju) := keep_cell hb1 (by simp [go_sem])
  have x6 : w1.cell? ⟨w.heap.size + 1, 6, none⟩ = some (.int .i64 x.lo) := keep_cell hb1 (by simp [go_sem])
  have x7 : w1.cell? ⟨w.heap.size + 1, 7, none⟩ = some (.bool x.bl) := keep_cell hb1 (by simp [go_sem])
  have x8 : w1.cell? ⟨w.heap.size + 1, 8, none⟩ = some (.bool false) := keep_cell hb1 (by simp [go_sem])
  have x9 : w1.cell? ⟨w.heap.size + 1, 9, none⟩ = some (.int .i64 x.mo) := keep_cell hb1 (by simp [go_sem])
  have x10 : w1.cell? ⟨w.heap.size + 1, 10, none⟩ = some (.int .i64 x.ta) := keep_cell hb1 (by simp [go_sem])
  have x11 : w1.cell? ⟨w.heap.size + 1, 11, none⟩ = some (.bool x.ho) := keep_cell hb1 (by simp [go_sem])
  have x12 : w1.cell? ⟨w.heap.size + 1, 12, none⟩ = some (.int .u64 x.sp) := keep_cell hb1 (by simp [go_sem])
  have x13 : w1.cell? ⟨w.heap.size + 1, 13, none⟩ = some (.int .u64 x.su) := keep_cell hb1 (by simp [go_sem])
  have x14 : w1.cell? ⟨w.heap.size + 1, 14, none⟩ = some (.int .u64 x.sd) := keep_cell hb1 (by simp [go_sem])
  have xf0 : w1.frozen? ⟨w.heap.size + 1, 0, none⟩ = false := (hb1.frozen (by simp [go_sem])).trans (by simp [go_sem])
  have xf1 : w1.frozen? ⟨w.heap.size + 1, 1, none⟩ = false := (hb1.frozen (by simp [go_sem])).trans (by simp [go_sem])
  have xf2 : w1.frozen? ⟨w.heap.size + 1, 2, none⟩ = false := (hb1.frozen (by simp [go_sem])).trans (by simp [go_sem])
  have xf3 : w1.frozen? ⟨w.heap.size + 1, 3, none⟩ = false := (hb1.frozen (by simp [go_sem])).trans (by simp [go_sem])
  have m0 : w1.cell? ⟨w.heap.size + 2, 0, none⟩ = some (.int .i64 2) := keep_cell hb1 (by simp [go_sem])
  have m1 : w1.cell? ⟨w.heap.size + 2, 1, none⟩ = some (.bool true) := keep_cell hb1 (by simp [go_sem])
  have m2 : w1.cell? ⟨w.heap.size + 2, 2, none⟩ = some (.bool true) := keep_cell hb1 (by simp [go_sem])
  have r0 : w1.cell? ⟨w.heap.size + 3, 0, none⟩ = some (.int .i64 0) := keep_cell hb1 (by simp [go_sem])
  have r1 : w1.cell? ⟨w.heap.size + 3, 1, none⟩ = some (.int .i64 0) := keep_cell hb1 (by simp [go_sem])
  have r2 : w1.cell? ⟨w.heap.size + 3, 2, none⟩ = some (.int .i64 0) := keep_cell hb1 (by simp [go_sem])
  have r3 : w1.cell? ⟨w.heap.size + 3, 3, none⟩ = some (.int .i64 0) := keep_cell hb1 (by simp [go_sem])
  have r4 : w1.cell? ⟨w.heap.size + 3, 4, none⟩ = some (.int .i64 0) := keep_cell hb1 (by simp [go_sem])
  have r5 : w1.cell? ⟨w.heap.size + 3, 5, none⟩ = some (.int .i64 0) := keep_cell hb1 (by simp [go_sem])
  have r6 : w1.cell? ⟨w.heap.size + 3, 6, none⟩ = some (.int .i64 0) := keep_cell hb1 (by simp [go_sem])
  have r7 : w1.cell? ⟨w.heap.size + 3, 7, none⟩ = some (.bool false) := keep_cell hb1 (by simp [go_sem])
  have r8 : w1.cell? ⟨w.heap.size + 3, 8, none⟩ = some (.bool false) := keep_cell hb1 (by simp [go_sem])
  have r9 : w1.cell? ⟨w.heap.size + 3, 9, none⟩ = some (.int .i64 0) := keep_cell hb1 (by simp [go_sem])
  have r10 : w1.cell? ⟨w.heap.size + 3, 10, none⟩ = some (.int .i64 0) := keep_cell hb1 (by simp [go_sem])
  have r11 : w1.cell? ⟨w.heap.size + 3, 11, none⟩ = some (.bool false) := keep_cell hb1 (by simp [go_sem])
  have r12 : w1.cell? ⟨w.heap.size + 3, 12, none⟩ = some (.int .u64 0) := keep_cell hb1 (by simp [go_sem])
  have r13 : w1.cell? ⟨w.heap.size + 3, 13, none⟩ = some (.int .u64 0) := keep_cell hb1 (by simp [go_sem])
  have r14 : w1.cell? ⟨w.heap.size + 3, 14, none⟩ = some (.int .u64 0) := keep_cell hb1 (by simp [go_sem])
  have rf0 : w1.frozen? ⟨w.heap.size + 3, 0, none⟩ = false := (hb1.frozen (by simp [go_sem])).trans (by simp [go_sem])
  have rf1 : w1.frozen? ⟨w.heap.size + 3, 1, none⟩ = false := (hb1.frozen (by simp [go_sem])).trans (by simp [go_sem])
  have rf2 : w1.frozen? ⟨w.heap.size + 3, 2, none⟩ = false := (hb1.frozen (by simp [go_sem])).trans (by simp [go_sem])
  have rf3 : w1.frozen? ⟨w.heap.size + 3, 3, none⟩ = false := (hb1.frozen (by simp [go_sem])).trans (by simp [go_sem])
  have rf4 : w1.frozen? ⟨w.heap.size + 3, 4, none⟩ = false := (hb1.frozen (by simp [go_sem])).trans (by simp [go_sem])
  have rf5 : w1.frozen? ⟨w.heap.size + 3, 5, none⟩ = false := (hb1.frozen (by simp [go_sem])).trans (by simp [go_sem])
  have rf6 : w1.frozen? ⟨w.heap.size + 3, 6, none⟩ = false := (hb1.frozen (by simp [go_sem])).trans (by simp [go_sem])
  have rf7 : w1.frozen? ⟨w.heap.size + 3, 7, none⟩ = false := (hb1.frozen (by simp [go_sem])).trans (by simp [go_sem])
  have rf8 : w1.frozen? ⟨w.heap.size + 3, 8, none⟩ = false := (hb1.frozen (by simp [go_sem])).trans (by simp [go_sem])
  have rf9 : w1.frozen? ⟨w.heap.size + 3, 9, none⟩ = false := (hb1.frozen (by simp [go_sem])).trans (by simp [go_sem])
  have rf10 : w1.frozen? ⟨w.heap.size + 3, 10, none⟩ = false := (hb1.frozen (by simp [go_sem])).trans (by simp [go_sem])
  have rf11 : w1.frozen? ⟨w.heap.size + 3, 11, none⟩ = false := (hb1.frozen (by simp [go_sem])).trans (by simp [go_sem])
  have rf12 : w1.frozen? ⟨w.heap.size + 3, 12, none⟩ = false := (hb1.frozen (by simp [go_sem])).trans (by simp [go_sem])
  have rf13 : w1.frozen? ⟨w.heap.size + 3, 13, none⟩ = false := (hb1.frozen (by simp [go_sem])).trans (by simp [go_sem])
  have rf14 : w1.frozen? ⟨w.heap.size + 3, 14, none⟩ = false := (hb1.frozen (by simp [go_sem])).trans (by simp [go_sem])
  have HB1 := Lib.hid hb1
  clear hb1
  go_wp2_with fail
  refine (moveR _ _ _ (by omega) (by omega) _).mono ?_
  rintro e w' ⟨rfl, rfl⟩
  go_wp2
  refine bodyPost_ret (v := .agg #[.int .i64 (tS 0 x.da c.dr x.bl), .int .i64 (tA 0 x.da c.dr x.bl), .int .i64 (mv x.un 2 c.fl), .int .i64 (2), .int .i64 x.ti, .int .i64 x.ju, .int .i64 x.lo, .bool x.bl, .bool false, .int .i64 x.mo, .int .i64 x.ta, .bool x.ho, .int .u64 x.sp, .int .u64 x.su, .int .u64 x.sd]) (by simp [results, Try.results21, go_sem, show w1.cell? ⟨w.heap.size + 1 + 1 + 1, 0, none⟩ = some _ from r0, show w1.cell? ⟨w.heap.size + 1 + 1 + 1, 1, none⟩ = some _ from r1, show w1.cell? ⟨w.heap.size + 1 + 1 + 1, 2, none⟩ = some _ from r2, show w1.cell? ⟨w.heap.size + 1 + 1 + 1, 3, none⟩ = some _ from r3, show w1.cell? ⟨w.heap.size + 1 + 1 + 1, 4, none⟩ = some _ from r4, show w1.cell? ⟨w.heap.size + 1 + 1 + 1, 5, none⟩ = some _ from r5, show w1.cell? ⟨w.heap.size + 1 + 1 + 1, 6, none⟩ = some _ from r6, show w1.cell? ⟨w.heap.size + 1 + 1 + 1, 7, none⟩ = some _ from r7, show w1.cell? ⟨w.heap.size + 1 + 1 + 1, 8, none⟩ = some _ from r8, show w1.cell? ⟨w.heap.size + 1 + 1 + 1, 9, none⟩ = some _ from r9, show w1.cell? ⟨w.heap.size + 1 + 1 + 1, 10, none⟩ = some _ from r10, show w1.cell? ⟨w.heap.size + 1 + 1 + 1, 11, none⟩ = some _ from r11, show w1.cell? ⟨w.heap.size + 1 + 1 + 1, 12, none⟩ = some _ from r12, show w1.cell? ⟨w.heap.size + 1 + 1 + 1, 13, none⟩ = some _ from r13, show w1.cell? ⟨w.heap.size + 1 + 1 + 1, 14, none⟩ = some _ from r14]) rfl ⟨by rw [HE.out], ?_⟩
  iterate 19 refine Since.setCell ?_ (by first | (simp; done) | (simp; omega)) _
  refine Since.trans ?_ HB1.out
  (repeat (first | exact Since.refl _ | refine Since.setCell ?_ (by first | (simp; done) | (simp; omega)) _ | refine Since.alloc ?_ _))
set_option maxHeartbeats 4000000 in
theorem rf_ltx (c : CfgV) (x : CarV) (r : Int) (h0 : 0 ≤ x.da) (h1 : x.da ≤ 1000) (u0 : -9223372036854775808 ≤ x.un) (u1 : x.un ≤ 9223372036854775807) (hl : lvB x.un = false) (hd0 : ¬ x.ds = 0) (hd1 : ¬ x.ds = 1) (hd2 : ¬ x.ds = 2) (w : World) : Calls Try.prog 21 #[.agg #[.int .i64 c.ca, .int .i64 c.fl, .int .i64 c.ft, .int .i64 c.se, .int .i64 c.dr, .int .i64 c.dw, .int .i64 c.ho, .int .i64 c.re, .int .i64 c.yi, .int .i64 c.qu, .int .i64 c.qo, .int .i64 c.lo, .int .i64 c.sl, .int .i64 c.rt, .int .i64 c.cp, .int .i64 c.tr, .int .i64 c.de, .int .i64 c.wi], .agg #[.int .i64 x.ds, .int .i64 x.da, .int .i64 x.un, .int .i64 x.wy, .int .i64 x.ti, .int .i64 x.ju, .int .i64 x.lo, .bool x.bl, .bool false, .int .i64 x.mo, .int .i64 x.ta, .bool x.ho, .int .u64 x.sp, .int .u64 x.su, .int .u64 x.sd], .agg #[.int .i64 r, .bool true, .bool true]] w fun e w' => e = .returned (.agg #[.int .i64 (dS1 c ({ x with ds := x.ds, br := false } : CarV) true true), .int .i64 (dA1 c ({ x with ds := x.ds, br := false } : CarV) true true), .int .i64 (un1 c ({ x with ds := x.ds, br := false } : CarV) r true true), .int .i64 (wy1 c ({ x with ds := x.ds, br := false } : CarV) r true true), .int .i64 x.ti, .int .i64 x.ju, .int .i64 x.lo, .bool x.bl, .bool false, .int .i64 x.mo, .int .i64 x.ta, .bool x.ho, .int .u64 x.sp, .int .u64 x.su, .int .u64 x.sd]) ∧ Since w w' := by
  have HT : dS0 ({ x with ds := x.ds, br := false } : CarV) true true = x.ds := by unfold dS0 toldS oS cS; simp [hl, hd0, hd1, hd2]
  have HS := Lib.hid (show dS1 c ({ x with ds := x.ds, br := false } : CarV) true true = tS x.ds x.da c.dr x.bl by unfold dS1; rw [HT])
  have HA := Lib.hid (show dA1 c ({ x with ds := x.ds, br := false } : CarV) true true = tA x.ds x.da c.dr x.bl by unfold dA1; rw [HT])
  clear HT
  have HG : goesB c ({ x with ds := x.ds, br := false } : CarV) r true true = false := by unfold goesB; simp [hl, hd0, hd1, hd2]
  have HU := Lib.hid (show un1 c ({ x with ds := x.ds, br := false } : CarV) r true true = x.un by unfold un1; rw [HG]; simp)
  have HY := Lib.hid (show wy1 c ({ x with ds := x.ds, br := false } : CarV) r true true = x.wy by unfold wy1; rw [HG]; simp)
  clear HG
  have HE := Lib.hid (show (Value.agg #[.int .i64 (dS1 c ({ x with ds := x.ds, br := false } : CarV) true true), .int .i64 (dA1 c ({ x with ds := x.ds, br := false } : CarV) true true), .int .i64 (un1 c ({ x with ds := x.ds, br := false } : CarV) r true true), .int .i64 (wy1 c ({ x with ds := x.ds, br := false } : CarV) r true true), .int .i64 x.ti, .int .i64 x.ju, .int .i64 x.lo, .bool x.bl, .bool false, .int .i64 x.mo, .int .i64 x.ta, .bool x.ho, .int .u64 x.sp, .int .u64 x.su, .int .u64 x.sd]) = .agg #[.int .i64 (tS x.ds x.da c.dr x.bl), .int .i64 (tA x.ds x.da c.dr x.bl), .int .i64 (x.un), .int .i64 (x.wy), .int .i64 x.ti, .int .i64 x.ju, .int .i64 x.lo, .bool x.bl, .bool false, .int .i64 x.mo, .int .i64 x.ta, .bool x.ho, .int .u64 x.sp, .int .u64 x.su, .int .u64 x.sd] by rw [HS.out, HA.out, HU.out, HY.out])
  clear HS HA HU HY
  have hhd0 : (x.ds == 0) = false := by simpa using hd0
  have hhd1 : (x.ds == 1) = false := by simpa using hd1
  have hhd2 : (x.ds == 2) = false := by simpa using hd2
  go_enter Try.func21, Try.ntmps21
  go_wp2_with fail
  refine (levelR _ _).mono ?_
  rintro e w' ⟨rfl, rfl⟩
  go_wp2_with fail
  refine (doorR _ _ _ _ (by assumption) (by assumption) _).mono ?_
  rintro e w1 ⟨rfl, hb1⟩
  have c1 : w1.cell? ⟨w.heap.size, 1, none⟩ = some (.int .i64 c.fl) := keep_cell hb1 (by simp [go_sem])
  have c4 : w1.cell? ⟨w.heap.size, 4, none⟩ = some (.int .i64 c.dr) := keep_cell hb1 (by simp [go_sem])
  have x0 : w1.cell? ⟨w.heap.size + 1, 0, none⟩ = some (.int .i64 x.ds) := keep_cell hb1 (by simp [go_sem])
  have x1 : w1.cell? ⟨w.heap.size + 1, 1, none⟩ = some (.int .i64 x.da) := keep_cell hb1 (by simp [go_sem])
  have x2 : w1.cell? ⟨w.heap.size + 1, 2, none⟩ = some (.int .i64 x.un) := keep_cell hb1 (by simp [go_sem])
  have x3 : w1.cell? ⟨w.heap.size + 1, 3, none⟩ = some (.int .i64 x.wy) := keep_cell hb1 (by simp [go_sem])
  have x4 : w1.cell? ⟨w.heap.size + 1, 4, none⟩ = some (.int .i64 x.ti) := keep_cell hb1 (by simp [go_sem])
  have x5 : w1.cell? ⟨w.heap.size + 1, 5, none⟩ = some (.int .i64 x.ju) := keep_cell hb1 (by simp [go_sem])
  have x6 : w1.cell? ⟨w.heap.size + 1, 6, none⟩ = some (.int .i64 x.lo) := keep_cell hb1 (by simp [go_sem])
  have x7 : w1.cell? ⟨w.heap.size + 1, 7, none⟩ = some (.bool x.bl) := keep_cell hb1 (by simp [go_sem])
  have x8 : w1.cell? ⟨w.heap.size + 1, 8, none⟩ = some (.bool false) := keep_cell hb1 (by simp [go_sem])
  have x9 : w1.cell? ⟨w.heap.size + 1, 9, none⟩ = some (.int .i64 x.mo) := keep_cell hb1 (by simp [go_sem])
  have x10 : w1.cell? ⟨w.heap.size + 1, 10, none⟩ = some (.int .i64 x.ta) := keep_cell hb1 (by simp [go_sem])
  have x11 : w1.cell? ⟨w.heap.size + 1, 11, none⟩ = some (.bool x.ho) := keep_cell hb1 (by simp [go_sem])
  have x12 : w1.cell? ⟨w.heap.size + 1, 12, none⟩ = some (.int .u64 x.sp) := keep_cell hb1 (by simp [go_sem])
  have x13 : w1.cell? ⟨w.heap.size + 1, 13, none⟩ = some (.int .u64 x.su) := keep_cell hb1 (by simp [go_sem])
  have x14 : w1.cell? ⟨w.heap.size + 1, 14, none⟩ = some (.int .u64 x.sd) := keep_cell hb1 (by simp [go_sem])
  have xf0 : w1.frozen? ⟨w.heap.size + 1, 0, none⟩ = false := (hb1.frozen (by simp [go_sem])).trans (by simp [go_sem])
  have xf1 : w1.frozen? ⟨w.heap.size + 1, 1, none⟩ = false := (hb1.frozen (by simp [go_sem])).trans (by simp [go_sem])
  have xf2 : w1.frozen? ⟨w.heap.size + 1, 2, none⟩ = false := (hb1.frozen (by simp [go_sem])).trans (by simp [go_sem])
  have xf3 : w1.frozen? ⟨w.heap.size + 1, 3, none⟩ = false := (hb1.frozen (by simp [go_sem])).trans (by simp [go_sem])
  have m0 : w1.cell? ⟨w.heap.size + 2, 0, none⟩ = some (.int .i64 r) := keep_cell hb1 (by simp [go_sem])
  have m1 : w1.cell? ⟨w.heap.size + 2, 1, none⟩ = some (.bool true) := keep_cell hb1 (by simp [go_sem])
  have m2 : w1.cell? ⟨w.heap.size + 2, 2, none⟩ = some (.bool true) := keep_cell hb1 (by simp [go_sem])
  have r0 : w1.cell? ⟨w.heap.size + 3, 0, none⟩ = some (.int .i64 0) := keep_cell hb1 (by simp [go_sem])
  have r1 : w1.cell? ⟨w.heap.size + 3, 1, none⟩ = some (.int .i64 0) := keep_cell hb1 (by simp [go_sem])
  have r2 : w1.cell? ⟨w.heap.size + 3, 2, none⟩ = some (.int .i64 0) := keep_cell hb1 (by simp [go_sem])
  have r3 : w1.cell? ⟨w.heap.size + 3, 3, none⟩ = some (.int .i64 0) := keep_cell hb1 (by simp [go_sem])
  have r4 : w1.cell? ⟨w.heap.size + 3, 4, none⟩ = some (.int .i64 0) := keep_cell hb1 (by simp [go_sem])
  have r5 : w1.cell? ⟨w.heap.size + 3, 5, none⟩ = some (.int .i64 0) := keep_cell hb1 (by simp [go_sem])
  have r6 : w1.cell? ⟨w.heap.size + 3, 6, none⟩ = some (.int .i64 0) := keep_cell hb1 (by simp [go_sem])
  have r7 : w1.cell? ⟨w.heap.size + 3, 7, none⟩ = some (.bool false) := keep_cell hb1 (by simp [go_sem])
  have r8 : w1.cell? ⟨w.heap.size + 3, 8, none⟩ = some (.bool false) := keep_cell hb1 (by simp [go_sem])
  have r9 : w1.cell? ⟨w.heap.size + 3, 9, none⟩ = some (.int .i64 0) := keep_cell hb1 (by simp [go_sem])
  have r10 : w1.cell? ⟨w.heap.size + 3, 10, none⟩ = some (.int .i64 0) := keep_cell hb1 (by simp [go_sem])
  have r11 : w1.cell? ⟨w.heap.size + 3, 11, none⟩ = some (.bool false) := keep_cell hb1 (by simp [go_sem])
  have r12 : w1.cell? ⟨w.heap.size + 3, 12, none⟩ = some (.int .u64 0) := keep_cell hb1 (by simp [go_sem])
  have r13 : w1.cell? ⟨w.heap.size + 3, 13, none⟩ = some (.int .u64 0) := keep_cell hb1 (by simp [go_sem])
  have r14 : w1.cell? ⟨w.heap.size + 3, 14, none⟩ = some (.int .u64 0) := keep_cell hb1 (by simp [go_sem])
  have rf0 : w1.frozen? ⟨w.heap.size + 3, 0, none⟩ = false := (hb1.frozen (by simp [go_sem])).trans (by simp [go_sem])
  have rf1 : w1.frozen? ⟨w.heap.size + 3, 1, none⟩ = false := (hb1.frozen (by simp [go_sem])).trans (by simp [go_sem])
  have rf2 : w1.frozen? ⟨w.heap.size + 3, 2, none⟩ = false := (hb1.frozen (by simp [go_sem])).trans (by simp [go_sem])
  have rf3 : w1.frozen? ⟨w.heap.size + 3, 3, none⟩ = false := (hb1.frozen (by simp [go_sem])).trans (by simp [go_sem])
  have rf4 : w1.frozen? ⟨w.heap.size + 3, 4, none⟩ = false := (hb1.frozen (by simp [go_sem])).trans (by simp [go_sem])
  have rf5 : w1.frozen? ⟨w.heap.size + 3, 5, none⟩ = false := (hb1.frozen (by simp [go_sem])).trans (by simp [go_sem])
  have rf6 : w1.frozen? ⟨w.heap.size + 3, 6, none⟩ = false := (hb1.frozen (by simp [go_sem])).trans (by simp [go_sem])
  have rf7 : w1.frozen? ⟨w.heap.size + 3, 7, none⟩ = false := (hb1.frozen (by simp [go_sem])).trans (by simp [go_sem])
  have rf8 : w1.frozen? ⟨w.heap.size + 3, 8, none⟩ = false := (hb1.frozen (by simp [go_sem])).trans (by simp [go_sem])
  have rf9 : w1.frozen? ⟨w.heap.size + 3, 9, none⟩ = false := (hb1.frozen (by simp [go_sem])).trans (by simp [go_sem])
  have rf10 : w1.frozen? ⟨w.heap.size + 3, 10, none⟩ = false := (hb1.frozen (by simp [go_sem])).trans (by simp [go_sem])
  have rf11 : w1.frozen? ⟨w.heap.size + 3, 11, none⟩ = false := (hb1.frozen (by simp [go_sem])).trans (by simp [go_sem])
  have rf12 : w1.frozen? ⟨w.heap.size + 3, 12, none⟩ = false := (hb1.frozen (by simp [go_sem])).trans (by simp [go_sem])
  have rf13 : w1.frozen? ⟨w.heap.size + 3, 13, none⟩ = false := (hb1.frozen (by simp [go_sem])).trans (by simp [go_sem])
  have rf14 : w1.frozen? ⟨w.heap.size + 3, 14, none⟩ = false := (hb1.frozen (by simp [go_sem])).trans (by simp [go_sem])
  have HB1 := Lib.hid hb1
  clear hb1
  go_wp2
  refine bodyPost_ret (v := .agg #[.int .i64 (tS x.ds x.da c.dr x.bl), .int .i64 (tA x.ds x.da c.dr x.bl), .int .i64 (x.un), .int .i64 (x.wy), .int .i64 x.ti, .int .i64 x.ju, .int .i64 x.lo, .bool x.bl, .bool false, .int .i64 x.mo, .int .i64 x.ta, .bool x.ho, .int .u64 x.sp, .int .u64 x.su, .int .u64 x.sd]) (by simp [results, Try.results21, go_sem, show w1.cell? ⟨w.heap.size + 1 + 1 + 1, 0, none⟩ = some _ from r0, show w1.cell? ⟨w.heap.size + 1 + 1 + 1, 1, none⟩ = some _ from r1, show w1.cell? ⟨w.heap.size + 1 + 1 + 1, 2, none⟩ = some _ from r2, show w1.cell? ⟨w.heap.size + 1 + 1 + 1, 3, none⟩ = some _ from r3, show w1.cell? ⟨w.heap.size + 1 + 1 + 1, 4, none⟩ = some _ from r4, show w1.cell? ⟨w.heap.size + 1 + 1 + 1, 5, none⟩ = some _ from r5, show w1.cell? ⟨w.heap.size + 1 + 1 + 1, 6, none⟩ = some _ from r6, show w1.cell? ⟨w.heap.size + 1 + 1 + 1, 7, none⟩ = some _ from r7, show w1.cell? ⟨w.heap.size + 1 + 1 + 1, 8, none⟩ = some _ from r8, show w1.cell? ⟨w.heap.size + 1 + 1 + 1, 9, none⟩ = some _ from r9, show w1.cell? ⟨w.heap.size + 1 + 1 + 1, 10, none⟩ = some _ from r10, show w1.cell? ⟨w.heap.size + 1 + 1 + 1, 11, none⟩ = some _ from r11, show w1.cell? ⟨w.heap.size + 1 + 1 + 1, 12, none⟩ = some _ from r12, show w1.cell? ⟨w.heap.size + 1 + 1 + 1, 13, none⟩ = some _ from r13, show w1.cell? ⟨w.heap.size + 1 + 1 + 1, 14, none⟩ = some _ from r14]) rfl ⟨by rw [HE.out], ?_⟩
  iterate 17 refine Since.setCell ?_ (by first | (simp; done) | (simp; omega)) _
  refine Since.trans ?_ HB1.out
  (repeat (first | exact Since.refl _ | refine Since.setCell ?_ (by first | (simp; done) | (simp; omega)) _ | refine Since.alloc ?_ _))
end Go.Proofs.Ytfbnmoegdbdhjaa.Pl
