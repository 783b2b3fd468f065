/-
  What is wanted by the last of these texts, part 4.
  No condition.
-/
import Derived.Test.YtpacieocmogjeaaKGv1
namespace Go.Proofs.Ytpacieocmogjeaa.Pl
set_option linter.unusedVariables false
set_option linter.unusedSimpArgs false
open Go.RowKit Go.Proofs.Ytpacieocmogjeaa.Ba Go.Proofs.Ytpacieocmogjeaa.Do Go.Proofs.Ytpacieocmogjeaa.Mo Go.Proofs.Ytpacieocmogjeaa.Ty
set_option maxRecDepth 100000
set_option maxHeartbeats 4000000 in
theorem shut_still (c : CfgV) (x : CarV) (r : Int) (o k : Bool) (h0 : 0 ≤ x.da) (h1 : x.da ≤ 1000) (u0 : -9223372036854775808 ≤ x.un) (u1 : x.un ≤ 9223372036854775807) (hz : (tS (toldS 0 x.un o k) x.da c.dr x.bl == 0) = true) (hr1 : ¬ r = 1) (hr2 : ¬ r = 2) (w : World) : Calls Try.prog 75 #[.agg #[.int .i64 c.ca, .int .i64 c.fl, .int .i64 c.ft, .int .i64 c.se, .int .i64 c.dr, .int .i64 c.dw, .int .i64 c.ho, .int .i64 c.re, .int .i64 c.yi, .int .i64 c.qu, .int .i64 c.qo, .int .i64 c.lo, .int .i64 c.sl, .int .i64 c.rt, .int .i64 c.cp, .int .i64 c.tr, .int .i64 c.de, .int .i64 c.wi], .agg #[.int .i64 0, .int .i64 x.da, .int .i64 x.un, .int .i64 x.wy, .int .i64 x.ti, .int .i64 x.ju, .int .i64 x.lo, .bool x.bl, .bool false, .int .i64 x.mo, .int .i64 x.ta, .bool x.ho, .int .u64 x.sp, .int .u64 x.su, .int .u64 x.sd], .agg #[.int .i64 r, .bool o, .bool k]] w fun e w' => e = .returned (.agg #[.int .i64 (dS1 c ({ x with ds := 0, br := false } : CarV) o k), .int .i64 (dA1 c ({ x with ds := 0, br := false } : CarV) o k), .int .i64 (un1 c ({ x with ds := 0, br := false } : CarV) r o k), .int .i64 (wy1 c ({ x with ds := 0, br := false } : CarV) r o k), .int .i64 x.ti, .int .i64 x.ju, .int .i64 x.lo, .bool x.bl, .bool false, .int .i64 x.mo, .int .i64 x.ta, .bool x.ho, .int .u64 x.sp, .int .u64 x.su, .int .u64 x.sd]) ∧ Since w w' := by
  have HS := Lib.hid (show dS1 c ({ x with ds := 0, br := false } : CarV) o k = tS (toldS 0 x.un o k) x.da c.dr x.bl by unfold dS1 dS0; simp)
  have HA := Lib.hid (show dA1 c ({ x with ds := 0, br := false } : CarV) o k = tA (toldS 0 x.un o k) x.da c.dr x.bl by unfold dA1 dS0; simp)
  have HG : goesB c ({ x with ds := 0, br := false } : CarV) r o k = false := by unfold goesB; simp [hr1, hr2]
  have HU := Lib.hid (show un1 c ({ x with ds := 0, br := false } : CarV) r o k = x.un by unfold un1; rw [HG]; simp)
  have HY := Lib.hid (show wy1 c ({ x with ds := 0, br := false } : CarV) r o k = x.wy by unfold wy1; rw [HG]; simp)
  clear HG
  have HE := Lib.hid (show (Value.agg #[.int .i64 (dS1 c ({ x with ds := 0, br := false } : CarV) o k), .int .i64 (dA1 c ({ x with ds := 0, br := false } : CarV) o k), .int .i64 (un1 c ({ x with ds := 0, br := false } : CarV) r o k), .int .i64 (wy1 c ({ x with ds := 0, br := false } : CarV) r o k), .int .i64 x.ti, .int .i64 x.ju, .int .i64 x.lo, .bool x.bl, .bool false, .int .i64 x.mo, .int .i64 x.ta, .bool x.ho, .int .u64 x.sp, .int .u64 x.su, .int .u64 x.sd]) = .agg #[.int .i64 (tS (toldS 0 x.un o k) x.da c.dr x.bl), .int .i64 (tA (toldS 0 x.un o k) x.da c.dr x.bl), .int .i64 (x.un), .int .i64 (x.wy), .int .i64 x.ti, .int .i64 x.ju, .int .i64 x.lo, .bool x.bl, .bool false, .int .i64 x.mo, .int .i64 x.ta, .bool x.ho, .int .u64 x.sp, .int .u64 x.su, .int .u64 x.sd] by rw [HS.out, HA.out, HU.out, HY.out])
  clear HS HA HU HY
  have hs1 : (r == 1) = false := by simpa using hr1
  have hs2 : (r == 2) = false := by simpa using hr2
  go_enter Try.func75, Try.ntmps75
  go_wp2_with fail
  refine (closedK _ _ _ _ _ _ _ _ _ _ _ _ _ _ _ _).mono ?_
  rintro e w1 ⟨rfl, hb1⟩
  have c1 : w1.cell? ⟨w.heap.size, 1, none⟩ = some (.int .i64 c.fl) := keep_cell hb1 (by simp [go_sem])
  have c4 : w1.cell? ⟨w.heap.size, 4, none⟩ = some (.int .i64 c.dr) := keep_cell hb1 (by simp [go_sem])
  have x0 : w1.cell? ⟨w.heap.size + 1, 0, none⟩ = some (.int .i64 0) := keep_cell hb1 (by simp [go_sem])
  have x1 : w1.cell? ⟨w.heap.size + 1, 1, none⟩ = some (.int .i64 x.da) := keep_cell hb1 (by simp [go_sem])
  have x2 : w1.cell? ⟨w.heap.size + 1, 2, none⟩ = some (.int .i64 x.un) := keep_cell hb1 (by simp [go_sem])
  have x3 : w1.cell? ⟨w.heap.size + 1, 3, none⟩ = some (.int .i64 x.wy) := keep_cell hb1 (by simp [go_sem])
  have x4 : w1.cell? ⟨w.heap.size + 1, 4, none⟩ = some (.int .i64 x.ti) := keep_cell hb1 (by simp [go_sem])
  have x5 : w1.cell? ⟨w.heap.size + 1, 5, none⟩ = some (.int .i64 x.ju) := keep_cell hb1 (by simp [go_sem])
  have x6 : w1.cell? ⟨w.heap.size + 1, 6, none⟩ = some (.int .i64 x.lo) := keep_cell hb1 (by simp [go_sem])
  have x7 : w1.cell? ⟨w.heap.size + 1, 7, none⟩ = some (.bool x.bl) := keep_cell hb1 (by simp [go_sem])
  have x8 : w1.cell? ⟨w.heap.size + 1, 8, none⟩ = some (.bool false) := keep_cell hb1 (by simp [go_sem])
  have x9 : w1.cell? ⟨w.heap.size + 1, 9, none⟩ = some (.int .i64 x.mo) := keep_cell hb1 (by simp [go_sem])
  have x10 : w1.cell? ⟨w.heap.size + 1, 10, none⟩ = some (.int .i64 x.ta) := keep_cell hb1 (by simp [go_sem])
  have x11 : w1.cell? ⟨w.heap.size + 1, 11, none⟩ = some (.bool x.ho) := keep_cell hb1 (by simp [go_sem])
  have x12 : w1.cell? ⟨w.heap.size + 1, 12, none⟩ = some (.int .u64 x.sp) := keep_cell hb1 (by simp [go_sem])
  have x13 : w1.cell? ⟨w.heap.size + 1, 13, none⟩ = some (.int .u64 x.su) := keep_cell hb1 (by simp [go_sem])
  have x14 : w1.cell? ⟨w.heap.size + 1, 14, none⟩ = some (.int .u64 x.sd) := keep_cell hb1 (by simp [go_sem])
  have xf0 : w1.frozen? ⟨w.heap.size + 1, 0, none⟩ = false := (hb1.frozen (by simp [go_sem])).trans (by simp [go_sem])
  have xf1 : w1.frozen? ⟨w.heap.size + 1, 1, none⟩ = false := (hb1.frozen (by simp [go_sem])).trans (by simp [go_sem])
  have xf2 : w1.frozen? ⟨w.heap.size + 1, 2, none⟩ = false := (hb1.frozen (by simp [go_sem])).trans (by simp [go_sem])
  have xf3 : w1.frozen? ⟨w.heap.size + 1, 3, none⟩ = false := (hb1.frozen (by simp [go_sem])).trans (by simp [go_sem])
  have m0 : w1.cell? ⟨w.heap.size + 2, 0, none⟩ = some (.int .i64 r) := keep_cell hb1 (by simp [go_sem])
  have m1 : w1.cell? ⟨w.heap.size + 2, 1, none⟩ = some (.bool o) := keep_cell hb1 (by simp [go_sem])
  have m2 : w1.cell? ⟨w.heap.size + 2, 2, none⟩ = some (.bool k) := keep_cell hb1 (by simp [go_sem])
  have r0 : w1.cell? ⟨w.heap.size + 3, 0, none⟩ = some (.int .i64 0) := keep_cell hb1 (by simp [go_sem])
  have r1 : w1.cell? ⟨w.heap.size + 3, 1, none⟩ = some (.int .i64 0) := keep_cell hb1 (by simp [go_sem])
  have r2 : w1.cell? ⟨w.heap.size + 3, 2, none⟩ = some (.int .i64 0) := keep_cell hb1 (by simp [go_sem])
  have r3 : w1.cell? ⟨w.heap.size + 3, 3, none⟩ = some (.int .i64 0) := keep_cell hb1 (by simp [go_sem])
  have r4 : w1.cell? ⟨w.heap.size + 3, 4, none⟩ = some (.int .i64 0) := keep_cell hb1 (by simp [go_sem])
  have r5 : w1.cell? ⟨w.heap.size + 3, 5, none⟩ = some (.int .i64 0) := keep_cell hb1 (by simp [go_sem])
  have r6 : w1.cell? ⟨w.heap.size + 3, 6, none⟩ = some (.int .i64 0) := keep_cell hb1 (by simp [go_sem])
  have r7 : w1.cell? ⟨w.heap.size + 3, 7, none⟩ = some (.bool false) := keep_cell hb1 (by simp [go_sem])
  have r8 : w1.cell? ⟨w.heap.size + 3, 8, none⟩ = some (.bool false) := keep_cell hb1 (by simp [go_sem])
  have r9 : w1.cell? ⟨w.heap.size + 3, 9, none⟩ = some (.int .i64 0) := keep_cell hb1 (by simp [go_sem])
  have r10 : w1.cell? ⟨w.heap.size + 3, 10, none⟩ = some (.int .i64 0) := keep_cell hb1 (by simp [go_sem])
  have r11 : w1.cell? ⟨w.heap.size + 3, 11, none⟩ = some (.bool false) := keep_cell hb1 (by simp [go_sem])
  have r12 : w1.cell? ⟨w.heap.size + 3, 12, none⟩ = some (.int .u64 0) := keep_cell hb1 (by simp [go_sem])
  have r13 : w1.cell? ⟨w.heap.size + 3, 13, none⟩ = some (.int .u64 0) := keep_cell hb1 (by simp [go_sem])
  have r14 : w1.cell? ⟨w.heap.size + 3, 14, none⟩ = some (.int .u64 0) := keep_cell hb1 (by simp [go_sem])
  have rf0 : w1.frozen? ⟨w.heap.size + 3, 0, none⟩ = false := (hb1.frozen (by simp [go_sem])).trans (by simp [go_sem])
  have rf1 : w1.frozen? ⟨w.heap.size + 3, 1, none⟩ = false := (hb1.frozen (by simp [go_sem])).trans (by simp [go_sem])
  have rf2 : w1.frozen? ⟨w.heap.size + 3, 2, none⟩ = false := (hb1.frozen (by simp [go_sem])).trans (by simp [go_sem])
  have rf3 : w1.frozen? ⟨w.heap.size + 3, 3, none⟩ = false := (hb1.frozen (by simp [go_sem])).trans (by simp [go_sem])
  have rf4 : w1.frozen? ⟨w.heap.size + 3, 4, none⟩ = false := (hb1.frozen (by simp [go_sem])).trans (by simp [go_sem])
  have rf5 : w1.frozen? ⟨w.heap.size + 3, 5, none⟩ = false := (hb1.frozen (by simp [go_sem])).trans (by simp [go_sem])
  have rf6 : w1.frozen? ⟨w.heap.size + 3, 6, none⟩ = false := (hb1.frozen (by simp [go_sem])).trans (by simp [go_sem])
  have rf7 : w1.frozen? ⟨w.heap.size + 3, 7, none⟩ = false := (hb1.frozen (by simp [go_sem])).trans (by simp [go_sem])
  have rf8 : w1.frozen? ⟨w.heap.size + 3, 8, none⟩ = false := (hb1.frozen (by simp [go_sem])).trans (by simp [go_sem])
  have rf9 : w1.frozen? ⟨w.heap.size + 3, 9, none⟩ = false := (hb1.frozen (by simp [go_sem])).trans (by simp [go_sem])
  have rf10 : w1.frozen? ⟨w.heap.size + 3, 10, none⟩ = false := (hb1.frozen (by simp [go_sem])).trans (by simp [go_sem])
  have rf11 : w1.frozen? ⟨w.heap.size + 3, 11, none⟩ = false := (hb1.frozen (by simp [go_sem])).trans (by simp [go_sem])
  have rf12 : w1.frozen? ⟨w.heap.size + 3, 12, none⟩ = false := (hb1.frozen (by simp [go_sem])).trans (by simp [go_sem])
  have rf13 : w1.frozen? ⟨w.heap.size + 3, 13, none⟩ = false := (hb1.frozen (by simp [go_sem])).trans (by simp [go_sem])
  have rf14 : w1.frozen? ⟨w.heap.size + 3, 14, none⟩ = false := (hb1.frozen (by simp [go_sem])).trans (by simp [go_sem])
  have HB1 := Lib.hid hb1
  clear hb1
  go_wp2_with fail
  refine (toldT ({ x with ds := 0, br := false } : CarV) _ _ _ _).mono ?_
  rintro e w2 ⟨rfl, hb2⟩
  replace xf0 := keep_frz hb2 x0 xf0
  replace xf1 := keep_frz hb2 x1 xf1
  replace xf2 := keep_frz hb2 x2 xf2
  replace xf3 := keep_frz hb2 x3 xf3
  replace rf0 := keep_frz hb2 r0 rf0
  replace rf1 := keep_frz hb2 r1 rf1
  replace rf2 := keep_frz hb2 r2 rf2
  replace rf3 := keep_frz hb2 r3 rf3
  replace rf4 := keep_frz hb2 r4 rf4
  replace rf5 := keep_frz hb2 r5 rf5
  replace rf6 := keep_frz hb2 r6 rf6
  replace rf7 := keep_frz hb2 r7 rf7
  replace rf8 := keep_frz hb2 r8 rf8
  replace rf9 := keep_frz hb2 r9 rf9
  replace rf10 := keep_frz hb2 r10 rf10
  replace rf11 := keep_frz hb2 r11 rf11
  replace rf12 := keep_frz hb2 r12 rf12
  replace rf13 := keep_frz hb2 r13 rf13
  replace rf14 := keep_frz hb2 r14 rf14
  replace c1 := keep_cell hb2 c1
  replace c4 := keep_cell hb2 c4
  replace x0 := keep_cell hb2 x0
  replace x1 := keep_cell hb2 x1
  replace x2 := keep_cell hb2 x2
  replace x3 := keep_cell hb2 x3
  replace x4 := keep_cell hb2 x4
  replace x5 := keep_cell hb2 x5
  replace x6 := keep_cell hb2 x6
  replace x7 := keep_cell hb2 x7
  replace x8 := keep_cell hb2 x8
  replace x9 := keep_cell hb2 x9
  replace x10 := keep_cell hb2 x10
  replace x11 := keep_cell hb2 x11
  replace x12 := keep_cell hb2 x12
  replace x13 := keep_cell hb2 x13
  replace x14 := keep_cell hb2 x14
  replace m0 := keep_cell hb2 m0
  replace m1 := keep_cell hb2 m1
  replace m2 := keep_cell hb2 m2
  replace r0 := keep_cell hb2 r0
  replace r1 := keep_cell hb2 r1
  replace r2 := keep_cell hb2 r2
  replace r3 := keep_cell hb2 r3
  replace r4 := keep_cell hb2 r4
  replace r5 := keep_cell hb2 r5
  replace r6 := keep_cell hb2 r6
  replace r7 := keep_cell hb2 r7
  replace r8 := keep_cell hb2 r8
  replace r9 := keep_cell hb2 r9
  replace r10 := keep_cell hb2 r10
  replace r11 := keep_cell hb2 r11
  replace r12 := keep_cell hb2 r12
  replace r13 := keep_cell hb2 r13
  replace r14 := keep_cell hb2 r14
  have HB2 := Lib.hid hb2
  clear hb2
  go_wp2_with fail
  refine (tickD _ _ _ _ (by assumption) (by assumption) _).mono ?_
  rintro e w3 ⟨rfl, hb3⟩
  replace xf0 := (hb3.frozen (World.block_lt_of_cell? _ _ ((set_two (.int .i64 (toldS 0 x.un o k)) (.int .i64 x.da) x0 x1).1))).trans (set_frz (set_frz xf0))
  replace xf1 := (hb3.frozen (World.block_lt_of_cell? _ _ ((set_two (.int .i64 (toldS 0 x.un o k)) (.int .i64 x.da) x0 x1).2))).trans (set_frz (set_frz xf1))
  replace xf2 := (hb3.frozen (World.block_lt_of_cell? _ _ (set_two_ne (.int .i64 (toldS 0 x.un o k)) (.int .i64 x.da) (by omega) x2))).trans (set_frz (set_frz xf2))
  replace xf3 := (hb3.frozen (World.block_lt_of_cell? _ _ (set_two_ne (.int .i64 (toldS 0 x.un o k)) (.int .i64 x.da) (by omega) x3))).trans (set_frz (set_frz xf3))
  replace rf0 := (hb3.frozen (World.block_lt_of_cell? _ _ (set_two_far (.int .i64 (toldS 0 x.un o k)) (.int .i64 x.da) (by omega) r0))).trans (set_frz (set_frz rf0))
  replace rf1 := (hb3.frozen (World.block_lt_of_cell? _ _ (set_two_far (.int .i64 (toldS 0 x.un o k)) (.int .i64 x.da) (by omega) r1))).trans (set_frz (set_frz rf1))
  replace rf2 := (hb3.frozen (World.block_lt_of_cell? _ _ (set_two_far (.int .i64 (toldS 0 x.un o k)) (.int .i64 x.da) (by omega) r2))).trans (set_frz (set_frz rf2))
  replace rf3 := (hb3.frozen (World.block_lt_of_cell? _ _ (set_two_far (.int .i64 (toldS 0 x.un o k)) (.int .i64 x.da) (by omega) r3))).trans (set_frz (set_frz rf3))
  replace rf4 := (hb3.frozen (World.block_lt_of_cell? _ _ (set_two_far (.int .i64 (toldS 0 x.un o k)) (.int .i64 x.da) (by omega) r4))).trans (set_frz (set_frz rf4))
  replace rf5 := (hb3.frozen (World.block_lt_of_cell? _ _ (set_two_far (.int .i64 (toldS 0 x.un o k)) (.int .i64 x.da) (by omega) r5))).trans (set_frz (set_frz rf5))
  replace rf6 := (hb3.frozen (World.block_lt_of_cell? _ _ (set_two_far (.int .i64 (toldS 0 x.un o k)) (.int .i64 x.da) (by omega) r6))).trans (set_frz (set_frz rf6))
  replace rf7 := (hb3.frozen (World.block_lt_of_cell? _ _ (set_two_far (.int .i64 (toldS 0 x.un o k)) (.int .i64 x.da) (by omega) r7))).trans (set_frz (set_frz rf7))
  replace rf8 := (hb3.frozen (World.block_lt_of_cell? _ _ (set_two_far (.int .i64 (toldS 0 x.un o k)) (.int .i64 x.da) (by omega) r8))).trans (set_frz (set_frz rf8))
  replace rf9 := (hb3.frozen (World.block_lt_of_cell? _ _ (set_two_far (.int .i64 (toldS 0 x.un o k)) (.int .i64 x.da) (by omega) r9))).trans (set_frz (set_frz rf9))
  replace rf10 := (hb3.frozen (World.block_lt_of_cell? _ _ (set_two_far (.int .i64 (toldS 0 x.un o k)) (.int .i64 x.da) (by omega) r10))).trans (set_frz (set_frz rf10))
  replace rf11 := (hb3.frozen (World.block_lt_of_cell? _ _ (set_two_far (.int .i64 (toldS 0 x.un o k)) (.int .i64 x.da) (by omega) r11))).trans (set_frz (set_frz rf11))
  replace rf12 := (hb3.frozen (World.block_lt_of_cell? _ _ (set_two_far (.int .i64 (toldS 0 x.un o k)) (.int .i64 x.da) (by omega) r12))).trans (set_frz (set_frz rf12))
  replace rf13 := (hb3.frozen (World.block_lt_of_cell? _ _ (set_two_far (.int .i64 (toldS 0 x.un o k)) (.int .i64 x.da) (by omega) r13))).trans (set_frz (set_frz rf13))
  replace rf14 := (hb3.frozen (World.block_lt_of_cell? _ _ (set_two_far (.int .i64 (toldS 0 x.un o k)) (.int .i64 x.da) (by omega) r14))).trans (set_frz (set_frz rf14))
  replace c1 := keep_cell hb3 (set_two_far (.int .i64 (toldS 0 x.un o k)) (.int .i64 x.da) (by omega) c1)
  replace c4 := keep_cell hb3 (set_two_far (.int .i64 (toldS 0 x.un o k)) (.int .i64 x.da) (by omega) c4)
  replace m0 := keep_cell hb3 (set_two_far (.int .i64 (toldS 0 x.un o k)) (.int .i64 x.da) (by omega) m0)
  replace m1 := keep_cell hb3 (set_two_far (.int .i64 (toldS 0 x.un o k)) (.int .i64 x.da) (by omega) m1)
  replace m2 := keep_cell hb3 (set_two_far (.int .i64 (toldS 0 x.un o k)) (.int .i64 x.da) (by omega) m2)
  replace r0 := keep_cell hb3 (set_two_far (.int .i64 (toldS 0 x.un o k)) (.int .i64 x.da) (by omega) r0)
  replace r1 := keep_cell hb3 (set_two_far (.int .i64 (toldS 0 x.un o k)) (.int .i64 x.da) (by omega) r1)
  replace r2 := keep_cell hb3 (set_two_far (.int .i64 (toldS 0 x.un o k)) (.int .i64 x.da) (by omega) r2)
  replace r3 := keep_cell hb3 (set_two_far (.int .i64 (toldS 0 x.un o k)) (.int .i64 x.da) (by omega) r3)
  replace r4 := keep_cell hb3 (set_two_far (.int .i64 (toldS 0 x.un o k)) (.int .i64 x.da) (by omega) r4)
  replace r5 := keep_cell hb3 (set_two_far (.int .i64 (toldS 0 x.un o k)) (.int .i64 x.da) (by omega) r5)
  replace r6 := keep_cell hb3 (set_two_far (.int .i64 (toldS 0 x.un o k)) (.int .i64 x.da) (by omega) r6)
  replace r7 := keep_cell hb3 (set_two_far (.int .i64 (toldS 0 x.un o k)) (.int .i64 x.da) (by omega) r7)
  replace r8 := keep_cell hb3 (set_two_far (.int .i64 (toldS 0 x.un o k)) (.int .i64 x.da) (by omega) r8)
  replace r9 := keep_cell hb3 (set_two_far (.int .i64 (toldS 0 x.un o k)) (.int .i64 x.da) (by omega) r9)
  replace r10 := keep_cell hb3 (set_two_far (.int .i64 (toldS 0 x.un o k)) (.int .i64 x.da) (by omega) r10)
  replace r11 := keep_cell hb3 (set_two_far (.int .i64 (toldS 0 x.un o k)) (.int .i64 x.da) (by omega) r11)
  replace r12 := keep_cell hb3 (set_two_far (.int .i64 (toldS 0 x.un o k)) (.int .i64 x.da) (by omega) r12)
  replace r13 := keep_cell hb3 (set_two_far (.int .i64 (toldS 0 x.un o k)) (.int .i64 x.da) (by omega) r13)
  replace r14 := keep_cell hb3 (set_two_far (.int .i64 (toldS 0 x.un o k)) (.int .i64 x.da) (by omega) r14)
  replace x2 := keep_cell hb3 (set_two_ne (.int .i64 (toldS 0 x.un o k)) (.int .i64 x.da) (by omega) x2)
  replace x3 := keep_cell hb3 (set_two_ne (.int .i64 (toldS 0 x.un o k)) (.int .i64 x.da) (by omega) x3)
  replace x4 := keep_cell hb3 (set_two_ne (.int .i64 (toldS 0 x.un o k)) (.int .i64 x.da) (by omega) x4)
  replace x5 := keep_cell hb3 (set_two_ne (.int .i64 (toldS 0 x.un o k)) (.int .i64 x.da) (by omega) x5)
  replace x6 := keep_cell hb3 (set_two_ne (.int .i64 (toldS 0 x.un o k)) (.int .i64 x.da) (by omega) x6)
  replace x7 := keep_cell hb3 (set_two_ne (.int .i64 (toldS 0 x.un o k)) (.int .i64 x.da) (by omega) x7)
  replace x8 := keep_cell hb3 (set_two_ne (.int .i64 (toldS 0 x.un o k)) (.int .i64 x.da) (by omega) x8)
  replace x9 := keep_cell hb3 (set_two_ne (.int .i64 (toldS 0 x.un o k)) (.int .i64 x.da) (by omega) x9)
  replace x10 := keep_cell hb3 (set_two_ne (.int .i64 (toldS 0 x.un o k)) (.int .i64 x.da) (by omega) x10)
  replace x11 := keep_cell hb3 (set_two_ne (.int .i64 (toldS 0 x.un o k)) (.int .i64 x.da) (by omega) x11)
  replace x12 := keep_cell hb3 (set_two_ne (.int .i64 (toldS 0 x.un o k)) (.int .i64 x.da) (by omega) x12)
  replace x13 := keep_cell hb3 (set_two_ne (.int .i64 (toldS 0 x.un o k)) (.int .i64 x.da) (by omega) x13)
  replace x14 := keep_cell hb3 (set_two_ne (.int .i64 (toldS 0 x.un o k)) (.int .i64 x.da) (by omega) x14)
  obtain ⟨e0, e1⟩ := set_two (.int .i64 (toldS 0 x.un o k)) (.int .i64 x.da) x0 x1
  clear x0 x1
  have x0 := keep_cell hb3 e0
  have x1 := keep_cell hb3 e1
  clear e0 e1
  have HB3 := Lib.hid hb3
  clear hb3
  go_wp2_with fail
  refine (closedK _ _ _ _ _ _ _ _ _ _ _ _ _ _ _ _).mono ?_
  rintro e w4 ⟨rfl, hb4⟩
  replace xf0 := (hb4.frozen (World.block_lt_of_cell? _ _ ((set_two (.int .i64 (tS (toldS 0 x.un o k) x.da c.dr x.bl)) (.int .i64 (tA (toldS 0 x.un o k) x.da c.dr x.bl)) x0 x1).1))).trans (set_frz (set_frz xf0))
  replace xf1 := (hb4.frozen (World.block_lt_of_cell? _ _ ((set_two (.int .i64 (tS (toldS 0 x.un o k) x.da c.dr x.bl)) (.int .i64 (tA (toldS 0 x.un o k) x.da c.dr x.bl)) x0 x1).2))).trans (set_frz (set_frz xf1))
  replace xf2 := (hb4.frozen (World.block_lt_of_cell? _ _ (set_two_ne (.int .i64 (tS (toldS 0 x.un o k) x.da c.dr x.bl)) (.int .i64 (tA (toldS 0 x.un o k) x.da c.dr x.bl)) (by omega) x2))).trans (set_frz (set_frz xf2))
  replace xf3 := (hb4.frozen (World.block_lt_of_cell? _ _ (set_two_ne (.int .i64 (tS (toldS 0 x.un o k) x.da c.dr x.bl)) (.int .i64 (tA (toldS 0 x.un o k) x.da c.dr x.bl)) (by omega) x3))).trans (set_frz (set_frz xf3))
  replace rf0 := (hb4.frozen (World.block_lt_of_cell? _ _ (set_two_far (.int .i64 (tS (toldS 0 x.un o k) x.da c.dr x.bl)) (.int .i64 (tA (toldS 0 x.un o k) x.da c.dr x.bl)) (by omega) r0))).trans (set_frz (set_frz rf0))
  replace rf1 := (hb4.frozen (World.block_lt_of_cell? _ _ (set_two_far (.int .i64 (tS (toldS 0 x.un o k) x.da c.dr x.bl)) (.int .i64 (tA (toldS 0 x.un o k) x.da c.dr x.bl)) (by omega) r1))).trans (set_frz (set_frz rf1))
  replace rf2 := (hb4.frozen (World.block_lt_of_cell? _ _ (set_two_far (.int .i64 (tS (toldS 0 x.un o k) x.da c.dr x.bl)) (.int .i64 (tA (toldS 0 x.un o k) x.da c.dr x.bl)) (by omega) r2))).trans (set_frz (set_frz rf2))
  replace rf3 := (hb4.frozen (World.block_lt_of_cell? _ _ (set_two_far (.int .i64 (tS (toldS 0 x.un o k) x.da c.dr x.bl)) (.int .i64 (tA (toldS 0 x.un o k) x.da c.dr x.bl)) (by omega) r3))).trans (set_frz (set_frz rf3))
  replace rf4 := (hb4.frozen (World.block_lt_of_cell? _ _ (set_two_far (.int .i64 (tS (toldS 0 x.un o k) x.da c.dr x.bl)) (.int .i64 (tA (toldS 0 x.un o k) x.da c.dr x.bl)) (by omega) r4))).trans (set_frz (set_frz rf4))
  replace rf5 := (hb4.frozen (World.block_lt_of_cell? _ _ (set_two_far (.int .i64 (tS (toldS 0 x.un o k) x.da c.dr x.bl)) (.int .i64 (tA (toldS 0 x.un o k) x.da c.dr x.bl)) (by omega) r5))).trans (set_frz (set_frz rf5))
  replace rf6 := (hb4.frozen (World.block_lt_of_cell? _ _ (set_two_far (.int .i64 (tS (toldS 0 x.un o k) x.da c.dr x.bl)) (.int .i64 (tA (toldS 0 x.un o k) x.da c.dr x.bl)) (by omega) r6))).trans (set_frz (set_frz rf6))
  replace rf7 := (hb4.frozen (World.block_lt_of_cell? _ _ (set_two_far (.int .i64 (tS (toldS 0 x.un o k) x.da c.dr x.bl)) (.int .i64 (tA (toldS 0 x.un o k) x.da c.dr x.bl)) (by omega) r7))).trans (set_frz (set_frz rf7))
  replace rf8 := (hb4.frozen (World.block_lt_of_cell? _ _ (set_two_far (.int .i64 (tS (toldS 0 x.un o k) x.da c.dr x.bl)) (.int .i64 (tA (toldS 0 x.un o k) x.da c.dr x.bl)) (by omega) r8))).trans (set_frz (set_frz rf8))
  replace rf9 := (hb4.frozen (World.block_lt_of_cell? _ _ (set_two_far (.int .i64 (tS (toldS 0 x.un o k) x.da c.dr x.bl)) (.int .i64 (tA (toldS 0 x.un o k) x.da c.dr x.bl)) (by omega) r9))).trans (set_frz (set_frz rf9))
  replace rf10 := (hb4.frozen (World.block_lt_of_cell? _ _ (set_two_far (.int .i64 (tS (toldS 0 x.un o k) x.da c.dr x.bl)) (.int .i64 (tA (toldS 0 x.un o k) x.da c.dr x.bl)) (by omega) r10))).trans (set_frz (set_frz rf10))
  replace rf11 := (hb4.frozen (World.block_lt_of_cell? _ _ (set_two_far (.int .i64 (tS (toldS 0 x.un o k) x.da c.dr x.bl)) (.int .i64 (tA (toldS 0 x.un o k) x.da c.dr x.bl)) (by omega) r11))).trans (set_frz (set_frz rf11))
  replace rf12 := (hb4.frozen (World.block_lt_of_cell? _ _ (set_two_far (.int .i64 (tS (toldS 0 x.un o k) x.da c.dr x.bl)) (.int .i64 (tA (toldS 0 x.un o k) x.da c.dr x.bl)) (by omega) r12))).trans (set_frz (set_frz rf12))
  replace rf13 := (hb4.frozen (World.block_lt_of_cell? _ _ (set_two_far (.int .i64 (tS (toldS 0 x.un o k) x.da c.dr x.bl)) (.int .i64 (tA (toldS 0 x.un o k) x.da c.dr x.bl)) (by omega) r13))).trans (set_frz (set_frz rf13))
  replace rf14 := (hb4.frozen (World.block_lt_of_cell? _ _ (set_two_far (.int .i64 (tS (toldS 0 x.un o k) x.da c.dr x.bl)) (.int .i64 (tA (toldS 0 x.un o k) x.da c.dr x.bl)) (by omega) r14))).trans (set_frz (set_frz rf14))
  replace c1 := keep_cell hb4 (set_two_far (.int .i64 (tS (toldS 0 x.un o k) x.da c.dr x.bl)) (.int .i64 (tA (toldS 0 x.un o k) x.da c.dr x.bl)) (by omega) c1)
  replace c4 := keep_cell hb4 (set_two_far (.int .i64 (tS (toldS 0 x.un o k) x.da c.dr x.bl)) (.int .i64 (tA (toldS 0 x.un o k) x.da c.dr x.bl)) (by omega) c4)
  replace m0 := keep_cell hb4 (set_two_far (.int .i64 (tS (toldS 0 x.un o k) x.da c.dr x.bl)) (.int .i64 (tA (toldS 0 x.un o k) x.da c.dr x.bl)) (by omega) m0)
  replace m1 := keep_cell hb4 (set_two_far (.int .i64 (tS (toldS 0 x.un o k) x.da c.dr x.bl)) (.int .i64 (tA (toldS 0 x.un o k) x.da c.dr x.bl)) (by omega) m1)
  replace m2 := keep_cell hb4 (set_two_far (.int .i64 (tS (toldS 0 x.un o k) x.da c.dr x.bl)) (.int .i64 (tA (toldS 0 x.un o k) x.da c.dr x.bl)) (by omega) m2)
  replace r0 := keep_cell hb4 (set_two_far (.int .i64 (tS (toldS 0 x.un o k) x.da c.dr x.bl)) (.int .i64 (tA (toldS 0 x.un o k) x.da c.dr x.bl)) (by omega) r0)
  replace r1 := keep_cell hb4 (set_two_far (.int .i64 (tS (toldS 0 x.un o k) x.da c.dr x.bl)) (.int .i64 (tA (toldS 0 x.un o k) x.da c.dr x.bl)) (by omega) r1)
  replace r2 := keep_cell hb4 (set_two_far (.int .i64 (tS (toldS 0 x.un o k) x.da c.dr x.bl)) (.int .i64 (tA (toldS 0 x.un o k) x.da c.dr x.bl)) (by omega) r2)
  replace r3 := keep_cell hb4 (set_two_far (.int .i64 (tS (toldS 0 x.un o k) x.da c.dr x.bl)) (.int .i64 (tA (toldS 0 x.un o k) x.da c.dr x.bl)) (by omega) r3)
  replace r4 := keep_cell hb4 (set_two_far (.int .i64 (tS (toldS 0 x.un o k) x.da c.dr x.bl)) (.int .i64 (tA (toldS 0 x.un o k) x.da c.dr x.bl)) (by omega) r4)
  replace r5 := keep_cell hb4 (set_two_far (.int .i64 (tS (toldS 0 x.un o k) x.da c.dr x.bl)) (.int .i64 (tA (toldS 0 x.un o k) x.da c.dr x.bl)) (by omega) r5)
  replace r6 := keep_cell hb4 (set_two_far (.int .i64 (tS (toldS 0 x.un o k) x.da c.dr x.bl)) (.int .i64 (tA (toldS 0 x.un o k) x.da c.dr x.bl)) (by omega) r6)
  replace r7 := keep_cell hb4 (set_two_far (.int .i64 (tS (toldS 0 x.un o k) x.da c.dr x.bl)) (.int .i64 (tA (toldS 0 x.un o k) x.da c.dr x.bl)) (by omega) r7)
  replace r8 := keep_cell hb4 (set_two_far (.int .i64 (tS (toldS 0 x.un o k) x.da c.dr x.bl)) (.int .i64 (tA (toldS 0 x.un o k) x.da c.dr x.bl)) (by omega) r8)
  replace r9 := keep_cell hb4 (set_two_far (.int .i64 (tS (toldS 0 x.un o k) x.da c.dr x.bl)) (.int .i64 (tA (toldS 0 x.un o k) x.da c.dr x.bl)) (by omega) r9)
  replace r10 := keep_cell hb4 (set_two_far (.int .i64 (tS (toldS 0 x.un o k) x.da c.dr x.bl)) (.int .i64 (tA (toldS 0 x.un o k) x.da c.dr x.bl)) (by omega) r10)
  replace r11 := keep_cell hb4 (set_two_far (.int .i64 (tS (toldS 0 x.un o k) x.da c.dr x.bl)) (.int .i64 (tA (toldS 0 x.un o k) x.da c.dr x.bl)) (by omega) r11)
  replace r12 := keep_cell hb4 (set_two_far (.int .i64 (tS (toldS 0 x.un o k) x.da c.dr x.bl)) (.int .i64 (tA (toldS 0 x.un o k) x.da c.dr x.bl)) (by omega) r12)
  replace r13 := keep_cell hb4 (set_two_far (.int .i64 (tS (toldS 0 x.un o k) x.da c.dr x.bl)) (.int .i64 (tA (toldS 0 x.un o k) x.da c.dr x.bl)) (by omega) r13)
  replace r14 := keep_cell hb4 (set_two_far (.int .i64 (tS (toldS 0 x.un o k) x.da c.dr x.bl)) (.int .i64 (tA (toldS 0 x.un o k) x.da c.dr x.bl)) (by omega) r14)
  replace x2 := keep_cell hb4 (set_two_ne (.int .i64 (tS (toldS 0 x.un o k) x.da c.dr x.bl)) (.int .i64 (tA (toldS 0 x.un o k) x.da c.dr x.bl)) (by omega) x2)
  replace x3 := keep_cell hb4 (set_two_ne (.int .i64 (tS (toldS 0 x.un o k) x.da c.dr x.bl)) (.int .i64 (tA (toldS 0 x.un o k) x.da c.dr x.bl)) (by omega) x3)
  replace x4 := keep_cell hb4 (set_two_ne (.int .i64 (tS (toldS 0 x.un o k) x.da c.dr x.bl)) (.int .i64 (tA (toldS 0 x.un o k) x.da c.dr x.bl)) (by omega) x4)
  replace x5 := keep_cell hb4 (set_two_ne (.int .i64 (tS (toldS 0 x.un o k) x.da c.dr x.bl)) (.int .i64 (tA (toldS 0 x.un o k) x.da c.dr x.bl)) (by omega) x5)
  replace x6 := keep_cell hb4 (set_two_ne (.int .i64 (tS (toldS 0 x.un o k) x.da c.dr x.bl)) (.int .i64 (tA (toldS 0 x.un o k) x.da c.dr x.bl)) (by omega) x6)
  replace x7 := keep_cell hb4 (set_two_ne (.int .i64 (tS (toldS 0 x.un o k) x.da c.dr x.bl)) (.int .i64 (tA (toldS 0 x.un o k) x.da c.dr x.bl)) (by omega) x7)
  replace x8 := keep_cell hb4 (set_two_ne (.int .i64 (tS (toldS 0 x.un o k) x.da c.dr x.bl)) (.int .i64 (tA (toldS 0 x.un o k) x.da c.dr x.bl)) (by omega) x8)
  replace x9 := keep_cell hb4 (set_two_ne (.int .i64 (tS (toldS 0 x.un o k) x.da c.dr x.bl)) (.int .i64 (tA (toldS 0 x.un o k) x.da c.dr x.bl)) (by omega) x9)
  replace x10 := keep_cell hb4 (set_two_ne (.int .i64 (tS (toldS 0 x.un o k) x.da c.dr x.bl)) (.int .i64 (tA (toldS 0 x.un o k) x.da c.dr x.bl)) (by omega) x10)
  replace x11 := keep_cell hb4 (set_two_ne (.int .i64 (tS (toldS 0 x.un o k) x.da c.dr x.bl)) (.int .i64 (tA (toldS 0 x.un o k) x.da c.dr x.bl)) (by omega) x11)
  replace x12 := keep_cell hb4 (set_two_ne (.int .i64 (tS (toldS 0 x.un o k) x.da c.dr x.bl)) (.int .i64 (tA (toldS 0 x.un o k) x.da c.dr x.bl)) (by omega) x12)
  replace x13 := keep_cell hb4 (set_two_ne (.int .i64 (tS (toldS 0 x.un o k) x.da c.dr x.bl)) (.int .i64 (tA (toldS 0 x.un o k) x.da c.dr x.bl)) (by omega) x13)
  replace x14 := keep_cell hb4 (set_two_ne (.int .i64 (tS (toldS 0 x.un o k) x.da c.dr x.bl)) (.int .i64 (tA (toldS 0 x.un o k) x.da c.dr x.bl)) (by omega) x14)
  obtain ⟨e0, e1⟩ := set_two (.int .i64 (tS (toldS 0 x.un o k) x.da c.dr x.bl)) (.int .i64 (tA (toldS 0 x.un o k) x.da c.dr x.bl)) x0 x1
  clear x0 x1
  have x0 := keep_cell hb4 e0
  have x1 := keep_cell hb4 e1
  clear e0 e1
  have HB4 := Lib.hid hb4
  clear hb4
  go_wp2
  refine bodyPost_ret (v := .agg #[.int .i64 (tS (toldS 0 x.un o k) x.da c.dr x.bl), .int .i64 (tA (toldS 0 x.un o k) x.da c.dr x.bl), .int .i64 (x.un), .int .i64 (x.wy), .int .i64 x.ti, .int .i64 x.ju, .int .i64 x.lo, .bool x.bl, .bool false, .int .i64 x.mo, .int .i64 x.ta, .bool x.ho, .int .u64 x.sp, .int .u64 x.su, .int .u64 x.sd]) (by simp [results, Try.results75, go_sem, show w4.cell? ⟨w.heap.size + 1 + 1 + 1, 0, none⟩ = some _ from r0, show w4.cell? ⟨w.heap.size + 1 + 1 + 1, 1, none⟩ = some _ from r1, show w4.cell? ⟨w.heap.size + 1 + 1 + 1, 2, none⟩ = some _ from r2, show w4.cell? ⟨w.heap.size + 1 + 1 + 1, 3, none⟩ = some _ from r3, show w4.cell? ⟨w.heap.size + 1 + 1 + 1, 4, none⟩ = some _ from r4, show w4.cell? ⟨w.heap.size + 1 + 1 + 1, 5, none⟩ = some _ from r5, show w4.cell? ⟨w.heap.size + 1 + 1 + 1, 6, none⟩ = some _ from r6, show w4.cell? ⟨w.heap.size + 1 + 1 + 1, 7, none⟩ = some _ from r7, show w4.cell? ⟨w.heap.size + 1 + 1 + 1, 8, none⟩ = some _ from r8, show w4.cell? ⟨w.heap.size + 1 + 1 + 1, 9, none⟩ = some _ from r9, show w4.cell? ⟨w.heap.size + 1 + 1 + 1, 10, none⟩ = some _ from r10, show w4.cell? ⟨w.heap.size + 1 + 1 + 1, 11, none⟩ = some _ from r11, show w4.cell? ⟨w.heap.size + 1 + 1 + 1, 12, none⟩ = some _ from r12, show w4.cell? ⟨w.heap.size + 1 + 1 + 1, 13, none⟩ = some _ from r13, show w4.cell? ⟨w.heap.size + 1 + 1 + 1, 14, none⟩ = some _ from r14]) rfl ⟨by rw [HE.out], ?_⟩
  iterate 15 refine Since.setCell ?_ (by first | (simp; done) | (simp; omega)) _
  refine Since.trans ?_ HB4.out
  iterate 2 refine Since.setCell ?_ (by first | (simp; done) | (simp; omega)) _
  refine Since.trans ?_ HB3.out
  iterate 2 refine Since.setCell ?_ (by first | (simp; done) | (simp; omega)) _
  refine Since.trans ?_ HB2.out
  refine Since.trans ?_ HB1.out
  (repeat (first | exact Since.refl _ | refine Since.setCell ?_ (by first | (simp; done) | (simp; omega)) _ | refine Since.alloc ?_ _))
end Go.Proofs.Ytpacieocmogjeaa.Pl
namespace Go.Proofs.Ytpacieocmogjeaa.Pl
set_option linter.unusedVariables false
set_option linter.unusedSimpArgs false
open Go.RowKit Go.Proofs.Ytpacieocmogjeaa.Ba Go.Proofs.Ytpacieocmogjeaa.Do Go.Proofs.Ytpacieocmogjeaa.Mo Go.Proofs.Ytpacieocmogjeaa.Ty
set_option maxRecDepth 100000
set_option maxHeartbeats 4000000 in
theorem step_open (c : CfgV) (x : CarV) (r : Int) (o k : Bool) (h0 : 0 ≤ x.da) (h1 : x.da ≤ 1000) (u0 : -9223372036854775808 ≤ x.un) (u1 : x.un ≤ 9223372036854775807) (hd : ¬ x.ds = 0) (w : World) : Calls Try.prog 75 #[.agg #[.int .i64 c.ca, .int .i64 c.fl, .int .i64 c.ft, .int .i64 c.se, .int .i64 c.dr, .int .i64 c.dw, .int .i64 c.ho, .int .i64 c.re, .int .i64 c.yi, .int .i64 c.qu, .int .i64 c.qo, .int .i64 c.lo, .int .i64 c.sl, .int .i64 c.rt, .int .i64 c.cp, .int .i64 c.tr, .int .i64 c.de, .int .i64 c.wi], .agg #[.int .i64 x.ds, .int .i64 x.da, .int .i64 x.un, .int .i64 x.wy, .int .i64 x.ti, .int .i64 x.ju, .int .i64 x.lo, .bool x.bl, .bool false, .int .i64 x.mo, .int .i64 x.ta, .bool x.ho, .int .u64 x.sp, .int .u64 x.su, .int .u64 x.sd], .agg #[.int .i64 r, .bool o, .bool k]] w fun e w' => e = .returned (.agg #[.int .i64 (dS1 c ({ x with ds := x.ds, br := false } : CarV) o k), .int .i64 (dA1 c ({ x with ds := x.ds, br := false } : CarV) o k), .int .i64 (un1 c ({ x with ds := x.ds, br := false } : CarV) r o k), .int .i64 (wy1 c ({ x with ds := x.ds, br := false } : CarV) r o k), .int .i64 x.ti, .int .i64 x.ju, .int .i64 x.lo, .bool x.bl, .bool false, .int .i64 x.mo, .int .i64 x.ta, .bool x.ho, .int .u64 x.sp, .int .u64 x.su, .int .u64 x.sd]) ∧ Since w w' := by
  have HS := Lib.hid (show dS1 c ({ x with ds := x.ds, br := false } : CarV) o k = tS (toldS x.ds x.un o k) x.da c.dr x.bl by unfold dS1 dS0; simp)
  have HA := Lib.hid (show dA1 c ({ x with ds := x.ds, br := false } : CarV) o k = tA (toldS x.ds x.un o k) x.da c.dr x.bl by unfold dA1 dS0; simp)
  have HG : goesB c ({ x with ds := x.ds, br := false } : CarV) r o k = false := by unfold goesB; simp [hd]
  have HU := Lib.hid (show un1 c ({ x with ds := x.ds, br := false } : CarV) r o k = x.un by unfold un1; rw [HG]; simp)
  have HY := Lib.hid (show wy1 c ({ x with ds := x.ds, br := false } : CarV) r o k = x.wy by unfold wy1; rw [HG]; simp)
  clear HG
  have HE := Lib.hid (show (Value.agg #[.int .i64 (dS1 c ({ x with ds := x.ds, br := false } : CarV) o k), .int .i64 (dA1 c ({ x with ds := x.ds, br := false } : CarV) o k), .int .i64 (un1 c ({ x with ds := x.ds, br := false } : CarV) r o k), .int .i64 (wy1 c ({ x with ds := x.ds, br := false } : CarV) r o k), .int .i64 x.ti, .int .i64 x.ju, .int .i64 x.lo, .bool x.bl, .bool false, .int .i64 x.mo, .int .i64 x.ta, .bool x.ho, .int .u64 x.sp, .int .u64 x.su, .int .u64 x.sd]) = .agg #[.int .i64 (tS (toldS x.ds x.un o k) x.da c.dr x.bl), .int .i64 (tA (toldS x.ds x.un o k) x.da c.dr x.bl), .int .i64 (x.un), .int .i64 (x.wy), .int .i64 x.ti, .int .i64 x.ju, .int .i64 x.lo, .bool x.bl, .bool false, .int .i64 x.mo, .int .i64 x.ta, .bool x.ho, .int .u64 x.sp, .int .u64 x.su, .int .u64 x.sd] by rw [HS.out, HA.out, HU.out, HY.out])
  clear HS HA HU HY
  have hd' : (x.ds == 0) = false := by simpa using hd
  go_enter Try.func75, Try.ntmps75
  go_wp2_with fail
  refine (closedK _ _ _ _ _ _ _ _ _ _ _ _ _ _ _ _).mono ?_
  rintro e w1 ⟨rfl, hb1⟩
  have c1 : w1.cell? ⟨w.heap.size, 1, none⟩ = some (.int .i64 c.fl) := keep_cell hb1 (by simp [go_sem])
  have c4 : w1.cell? ⟨w.heap.size, 4, none⟩ = some (.int .i64 c.dr) := keep_cell hb1 (by simp [go_sem])
  have x0 : w1.cell? ⟨w.heap.size + 1, 0, none⟩ = some (.int .i64 x.ds) := keep_cell hb1 (by simp [go_sem])
  have x1 : w1.cell? ⟨w.heap.size + 1, 1, none⟩ = some (.int .i64 x.da) := keep_cell hb1 (by simp [go_sem])
  have x2 : w1.cell? ⟨w.heap.size + 1, 2, none⟩ = some (.int .i64 x.un) := keep_cell hb1 (by simp [go_sem])
  have x3 : w1.cell? ⟨w.heap.size + 1, 3, none⟩ = some (.int .i64 x.wy) := keep_cell hb1 (by simp [go_sem])
  have x4 : w1.cell? ⟨w.heap.size + 1, 4, none⟩ = some (.int .i64 x.ti) := keep_cell hb1 (by simp [go_sem])
  have x5 : w1.cell? ⟨w.heap.size + 1, 5, none⟩ = some (.int .i64 x.ju) := keep_cell hb1 (by simp [go_sem])
  have x6 : w1.cell? ⟨w.heap.size + 1, 6, none⟩ = some (.int .i64 x.lo) := keep_cell hb1 (by simp [go_sem])
  have x7 : w1.cell? ⟨w.heap.size + 1, 7, none⟩ = some (.bool x.bl) := keep_cell hb1 (by simp [go_sem])
  have x8 : w1.cell? ⟨w.heap.size + 1, 8, none⟩ = some (.bool false) := keep_cell hb1 (by simp [go_sem])
  have x9 : w1.cell? ⟨w.heap.size + 1, 9, none⟩ = some (.int .i64 x.mo) := keep_cell hb1 (by simp [go_sem])
  have x10 : w1.cell? ⟨w.heap.size + 1, 10, none⟩ = some (.int .i64 x.ta) := keep_cell hb1 (by simp [go_sem])
  have x11 : w1.cell? ⟨w.heap.size + 1, 11, none⟩ = some (.bool x.ho) := keep_cell hb1 (by simp [go_sem])
  have x12 : w1.cell? ⟨w.heap.size + 1, 12, none⟩ = some (.int .u64 x.sp) := keep_cell hb1 (by simp [go_sem])
  have x13 : w1.cell? ⟨w.heap.size + 1, 13, none⟩ = some (.int .u64 x.su) := keep_cell hb1 (by simp [go_sem])
  have x14 : w1.cell? ⟨w.heap.size + 1, 14, none⟩ = some (.int .u64 x.sd) := keep_cell hb1 (by simp [go_sem])
  have xf0 : w1.frozen? ⟨w.heap.size + 1, 0, none⟩ = false := (hb1.frozen (by simp [go_sem])).trans (by simp [go_sem])
  have xf1 : w1.frozen? ⟨w.heap.size + 1, 1, none⟩ = false := (hb1.frozen (by simp [go_sem])).trans (by simp [go_sem])
  have xf2 : w1.frozen? ⟨w.heap.size + 1, 2, none⟩ = false := (hb1.frozen (by simp [go_sem])).trans (by simp [go_sem])
  have xf3 : w1.frozen? ⟨w.heap.size + 1, 3, none⟩ = false := (hb1.frozen (by simp [go_sem])).trans (by simp [go_sem])
  have m0 : w1.cell? ⟨w.heap.size + 2, 0, none⟩ = some (.int .i64 r) := keep_cell hb1 (by simp [go_sem])
  have m1 : w1.cell? ⟨w.heap.size + 2, 1, none⟩ = some (.bool o) := keep_cell hb1 (by simp [go_sem])
  have m2 : w1.cell? ⟨w.heap.size + 2, 2, none⟩ = some (.bool k) := keep_cell hb1 (by simp [go_sem])
  have r0 : w1.cell? ⟨w.heap.size + 3, 0, none⟩ = some (.int .i64 0) := keep_cell hb1 (by simp [go_sem])
  have r1 : w1.cell? ⟨w.heap.size + 3, 1, none⟩ = some (.int .i64 0) := keep_cell hb1 (by simp [go_sem])
  have r2 : w1.cell? ⟨w.heap.size + 3, 2, none⟩ = some (.int .i64 0) := keep_cell hb1 (by simp [go_sem])
  have r3 : w1.cell? ⟨w.heap.size + 3, 3, none⟩ = some (.int .i64 0) := keep_cell hb1 (by simp [go_sem])
  have r4 : w1.cell? ⟨w.heap.size + 3, 4, none⟩ = some (.int .i64 0) := keep_cell hb1 (by simp [go_sem])
  have r5 : w1.cell? ⟨w.heap.size + 3, 5, none⟩ = some (.int .i64 0) := keep_cell hb1 (by simp [go_sem])
  have r6 : w1.cell? ⟨w.heap.size + 3, 6, none⟩ = some (.int .i64 0) := keep_cell hb1 (by simp [go_sem])
  have r7 : w1.cell? ⟨w.heap.size + 3, 7, none⟩ = some (.bool false) := keep_cell hb1 (by simp [go_sem])
  have r8 : w1.cell? ⟨w.heap.size + 3, 8, none⟩ = some (.bool false) := keep_cell hb1 (by simp [go_sem])
  have r9 : w1.cell? ⟨w.heap.size + 3, 9, none⟩ = some (.int .i64 0) := keep_cell hb1 (by simp [go_sem])
  have r10 : w1.cell? ⟨w.heap.size + 3, 10, none⟩ = some (.int .i64 0) := keep_cell hb1 (by simp [go_sem])
  have r11 : w1.cell? ⟨w.heap.size + 3, 11, none⟩ = some (.bool false) := keep_cell hb1 (by simp [go_sem])
  have r12 : w1.cell? ⟨w.heap.size + 3, 12, none⟩ = some (.int .u64 0) := keep_cell hb1 (by simp [go_sem])
  have r13 : w1.cell? ⟨w.heap.size + 3, 13, none⟩ = some (.int .u64 0) := keep_cell hb1 (by simp [go_sem])
  have r14 : w1.cell? ⟨w.heap.size + 3, 14, none⟩ = some (.int .u64 0) := keep_cell hb1 (by simp [go_sem])
  have rf0 : w1.frozen? ⟨w.heap.size + 3, 0, none⟩ = false := (hb1.frozen (by simp [go_sem])).trans (by simp [go_sem])
  have rf1 : w1.frozen? ⟨w.heap.size + 3, 1, none⟩ = false := (hb1.frozen (by simp [go_sem])).trans (by simp [go_sem])
  have rf2 : w1.frozen? ⟨w.heap.size + 3, 2, none⟩ = false := (hb1.frozen (by simp [go_sem])).trans (by simp [go_sem])
  have rf3 : w1.frozen? ⟨w.heap.size + 3, 3, none⟩ = false := (hb1.frozen (by simp [go_sem])).trans (by simp [go_sem])
  have rf4 : w1.frozen? ⟨w.heap.size + 3, 4, none⟩ = false := (hb1.frozen (by simp [go_sem])).trans (by simp [go_sem])
  have rf5 : w1.frozen? ⟨w.heap.size + 3, 5, none⟩ = false := (hb1.frozen (by simp [go_sem])).trans (by simp [go_sem])
  have rf6 : w1.frozen? ⟨w.heap.size + 3, 6, none⟩ = false := (hb1.frozen (by simp [go_sem])).trans (by simp [go_sem])
  have rf7 : w1.frozen? ⟨w.heap.size + 3, 7, none⟩ = false := (hb1.frozen (by simp [go_sem])).trans (by simp [go_sem])
  have rf8 : w1.frozen? ⟨w.heap.size + 3, 8, none⟩ = false := (hb1.frozen (by simp [go_sem])).trans (by simp [go_sem])
  have rf9 : w1.frozen? ⟨w.heap.size + 3, 9, none⟩ = false := (hb1.frozen (by simp [go_sem])).trans (by simp [go_sem])
  have rf10 : w1.frozen? ⟨w.heap.size + 3, 10, none⟩ = false := (hb1.frozen (by simp [go_sem])).trans (by simp [go_sem])
  have rf11 : w1.frozen? ⟨w.heap.size + 3, 11, none⟩ = false := (hb1.frozen (by simp [go_sem])).trans (by simp [go_sem])
  have rf12 : w1.frozen? ⟨w.heap.size + 3, 12, none⟩ = false := (hb1.frozen (by simp [go_sem])).trans (by simp [go_sem])
  have rf13 : w1.frozen? ⟨w.heap.size + 3, 13, none⟩ = false := (hb1.frozen (by simp [go_sem])).trans (by simp [go_sem])
  have rf14 : w1.frozen? ⟨w.heap.size + 3, 14, none⟩ = false := (hb1.frozen (by simp [go_sem])).trans (by simp [go_sem])
  have HB1 := Lib.hid hb1
  clear hb1
  go_wp2_with fail
  refine (toldT ({ x with ds := x.ds, br := false } : CarV) _ _ _ _).mono ?_
  rintro e w2 ⟨rfl, hb2⟩
  replace xf0 := keep_frz hb2 x0 xf0
  replace xf1 := keep_frz hb2 x1 xf1
  replace xf2 := keep_frz hb2 x2 xf2
  replace xf3 := keep_frz hb2 x3 xf3
  replace rf0 := keep_frz hb2 r0 rf0
  replace rf1 := keep_frz hb2 r1 rf1
  replace rf2 := keep_frz hb2 r2 rf2
  replace rf3 := keep_frz hb2 r3 rf3
  replace rf4 := keep_frz hb2 r4 rf4
  replace rf5 := keep_frz hb2 r5 rf5
  replace rf6 := keep_frz hb2 r6 rf6
  replace rf7 := keep_frz hb2 r7 rf7
  replace rf8 := keep_frz hb2 r8 rf8
  replace rf9 := keep_frz hb2 r9 rf9
  replace rf10 := keep_frz hb2 r10 rf10
  replace rf11 := keep_frz hb2 r11 rf11
  replace rf12 := keep_frz hb2 r12 rf12
  replace rf13 := keep_frz hb2 r13 rf13
  replace rf14 := keep_frz hb2 r14 rf14
  replace c1 := keep_cell hb2 c1
  replace c4 := keep_cell hb2 c4
  replace x0 := keep_cell hb2 x0
  replace x1 := keep_cell hb2 x1
  replace x2 := keep_cell hb2 x2
  replace x3 := keep_cell hb2 x3
  replace x4 := keep_cell hb2 x4
  replace x5 := keep_cell hb2 x5
  replace x6 := keep_cell hb2 x6
  replace x7 := keep_cell hb2 x7
  replace x8 := keep_cell hb2 x8
  replace x9 := keep_cell hb2 x9
  replace x10 := keep_cell hb2 x10
  replace x11 := keep_cell hb2 x11
  replace x12 := keep_cell hb2 x12
  replace x13 := keep_cell hb2 x13
  replace x14 := keep_cell hb2 x14
  replace m0 := keep_cell hb2 m0
  replace m1 := keep_cell hb2 m1
  replace m2 := keep_cell hb2 m2
  replace r0 := keep_cell hb2 r0
  replace r1 := keep_cell hb2 r1
  replace r2 := keep_cell hb2 r2
  replace r3 := keep_cell hb2 r3
  replace r4 := keep_cell hb2 r4
  replace r5 := keep_cell hb2 r5
  replace r6 := keep_cell hb2 r6
  replace r7 := keep_cell hb2 r7
  replace r8 := keep_cell hb2 r8
  replace r9 := keep_cell hb2 r9
  replace r10 := keep_cell hb2 r10
  replace r11 := keep_cell hb2 r11
  replace r12 := keep_cell hb2 r12
  replace r13 := keep_cell hb2 r13
  replace r14 := keep_cell hb2 r14
  have HB2 := Lib.hid hb2
  clear hb2
  go_wp2_with fail
  refine (tickD _ _ _ _ (by assumption) (by assumption) _).mono ?_
  rintro e w3 ⟨rfl, hb3⟩
  replace xf0 := (hb3.frozen (World.block_lt_of_cell? _ _ ((set_two (.int .i64 (toldS x.ds x.un o k)) (.int .i64 x.da) x0 x1).1))).trans (set_frz (set_frz xf0))
  replace xf1 := (hb3.frozen (World.block_lt_of_cell? _ _ ((set_two (.int .i64 (toldS x.ds x.un o k)) (.int .i64 x.da) x0 x1).2))).trans (set_frz (set_frz xf1))
  replace xf2 := (hb3.frozen (World.block_lt_of_cell? _ _ (set_two_ne (.int .i64 (toldS x.ds x.un o k)) (.int .i64 x.da) (by omega) x2))).trans (set_frz (set_frz xf2))
  replace xf3 := (hb3.frozen (World.block_lt_of_cell? _ _ (set_two_ne (.int .i64 (toldS x.ds x.un o k)) (.int .i64 x.da) (by omega) x3))).trans (set_frz (set_frz xf3))
  replace rf0 := (hb3.frozen (World.block_lt_of_cell? _ _ (set_two_far (.int .i64 (toldS x.ds x.un o k)) (.int .i64 x.da) (by omega) r0))).trans (set_frz (set_frz rf0))
  replace rf1 := (hb3.frozen (World.block_lt_of_cell? _ _ (set_two_far (.int .i64 (toldS x.ds x.un o k)) (.int .i64 x.da) (by omega) r1))).trans (set_frz (set_frz rf1))
  replace rf2 := (hb3.frozen (World.block_lt_of_cell? _ _ (set_two_far (.int .i64 (toldS x.ds x.un o k)) (.int .i64 x.da) (by omega) r2))).trans (set_frz (set_frz rf2))
  replace rf3 := (hb3.frozen (World.block_lt_of_cell? _ _ (set_two_far (.int .i64 (toldS x.ds x.un o k)) (.int .i64 x.da) (by omega) r3))).trans (set_frz (set_frz rf3))
  replace rf4 := (hb3.frozen (World.block_lt_of_cell? _ _ (set_two_far (.int .i64 (toldS x.ds x.un o k)) (.int .i64 x.da) (by omega) r4))).trans (set_frz (set_frz rf4))
  replace rf5 := (hb3.frozen (World.block_lt_of_cell? _ _ (set_two_far (.int .i64 (toldS x.ds x.un o k)) (.int .i64 x.da) (by omega) r5))).trans (set_frz (set_frz rf5))
  replace rf6 := (hb3.frozen (World.block_lt_of_cell? _ _ (set_two_far (.int .i64 (toldS x.ds x.un o k)) (.int .i64 x.da) (by omega) r6))).trans (set_frz (set_frz rf6))
  replace rf7 := (hb3.frozen (World.block_lt_of_cell? _ _ (set_two_far (.int .i64 (toldS x.ds x.un o k)) (.int .i64 x.da) (by omega) r7))).trans (set_frz (set_frz rf7))
  replace rf8 := (hb3.frozen (World.block_lt_of_cell? _ _ (set_two_far (.int .i64 (toldS x.ds x.un o k)) (.int .i64 x.da) (by omega) r8))).trans (set_frz (set_frz rf8))
  replace rf9 := (hb3.frozen (World.block_lt_of_cell? _ _ (set_two_far (.int .i64 (toldS x.ds x.un o k)) (.int .i64 x.da) (by omega) r9))).trans (set_frz (set_frz rf9))
  replace rf10 := (hb3.frozen (World.block_lt_of_cell? _ _ (set_two_far (.int .i64 (toldS x.ds x.un o k)) (.int .i64 x.da) (by omega) r10))).trans (set_frz (set_frz rf10))
  replace rf11 := (hb3.frozen (World.block_lt_of_cell? _ _ (set_two_far (.int .i64 (toldS x.ds x.un o k)) (.int .i64 x.da) (by omega) r11))).trans (set_frz (set_frz rf11))
  replace rf12 := (hb3.frozen (World.block_lt_of_cell? _ _ (set_two_far (.int .i64 (toldS x.ds x.un o k)) (.int .i64 x.da) (by omega) r12))).trans (set_frz (set_frz rf12))
  replace rf13 := (hb3.frozen (World.block_lt_of_cell? _ _ (set_two_far (.int .i64 (toldS x.ds x.un o k)) (.int .i64 x.da) (by omega) r13))).trans (set_frz (set_frz rf13))
  replace rf14 := (hb3.frozen (World.block_lt_of_cell? _ _ (set_two_far (.int .i64 (toldS x.ds x.un o k)) (.int .i64 x.da) (by omega) r14))).trans (set_frz (set_frz rf14))
  replace c1 := keep_cell hb3 (set_two_far (.int .i64 (toldS x.ds x.un o k)) (.int .i64 x.da) (by omega) c1)
  replace c4 := keep_cell hb3 (set_two_far (.int .i64 (toldS x.ds x.un o k)) (.int .i64 x.da) (by omega) c4)
  replace m0 := keep_cell hb3 (set_two_far (.int .i64 (toldS x.ds x.un o k)) (.int .i64 x.da) (by omega) m0)
  replace m1 := keep_cell hb3 (set_two_far (.int .i64 (toldS x.ds x.un o k)) (.int .i64 x.da) (by omega) m1)
  replace m2 := keep_cell hb3 (set_two_far (.int .i64 (toldS x.ds x.un o k)) (.int .i64 x.da) (by omega) m2)
  replace r0 := keep_cell hb3 (set_two_far (.int .i64 (toldS x.ds x.un o k)) (.int .i64 x.da) (by omega) r0)
  replace r1 := keep_cell hb3 (set_two_far (.int .i64 (toldS x.ds x.un o k)) (.int .i64 x.da) (by omega) r1)
  replace r2 := keep_cell hb3 (set_two_far (.int .i64 (toldS x.ds x.un o k)) (.int .i64 x.da) (by omega) r2)
  replace r3 := keep_cell hb3 (set_two_far (.int .i64 (toldS x.ds x.un o k)) (.int .i64 x.da) (by omega) r3)
  replace r4 := keep_cell hb3 (set_two_far (.int .i64 (toldS x.ds x.un o k)) (.int .i64 x.da) (by omega) r4)
  replace r5 := keep_cell hb3 (set_two_far (.int .i64 (toldS x.ds x.un o k)) (.int .i64 x.da) (by omega) r5)
  replace r6 := keep_cell hb3 (set_two_far (.int .i64 (toldS x.ds x.un o k)) (.int .i64 x.da) (by omega) r6)
  replace r7 := keep_cell hb3 (set_two_far (.int .i64 (toldS x.ds x.un o k)) (.int .i64 x.da) (by omega) r7)
  replace r8 := keep_cell hb3 (set_two_far (.int .i64 (toldS x.ds x.un o k)) (.int .i64 x.da) (by omega) r8)
  replace r9 := keep_cell hb3 (set_two_far (.int .i64 (toldS x.ds x.un o k)) (.int .i64 x.da) (by omega) r9)
  replace r10 := keep_cell hb3 (set_two_far (.int .i64 (toldS x.ds x.un o k)) (.int .i64 x.da) (by omega) r10)
  replace r11 := keep_cell hb3 (set_two_far (.int .i64 (toldS x.ds x.un o k)) (.int .i64 x.da) (by omega) r11)
  replace r12 := keep_cell hb3 (set_two_far (.int .i64 (toldS x.ds x.un o k)) (.int .i64 x.da) (by omega) r12)
  replace r13 := keep_cell hb3 (set_two_far (.int .i64 (toldS x.ds x.un o k)) (.int .i64 x.da) (by omega) r13)
  replace r14 := keep_cell hb3 (set_two_far (.int .i64 (toldS x.ds x.un o k)) (.int .i64 x.da) (by omega) r14)
  replace x2 := keep_cell hb3 (set_two_ne (.int .i64 (toldS x.ds x.un o k)) (.int .i64 x.da) (by omega) x2)
  replace x3 := keep_cell hb3 (set_two_ne (.int .i64 (toldS x.ds x.un o k)) (.int .i64 x.da) (by omega) x3)
  replace x4 := keep_cell hb3 (set_two_ne (.int .i64 (toldS x.ds x.un o k)) (.int .i64 x.da) (by omega) x4)
  replace x5 := keep_cell hb3 (set_two_ne (.int .i64 (toldS x.ds x.un o k)) (.int .i64 x.da) (by omega) x5)
  replace x6 := keep_cell hb3 (set_two_ne (.int .i64 (toldS x.ds x.un o k)) (.int .i64 x.da) (by omega) x6)
  replace x7 := keep_cell hb3 (set_two_ne (.int .i64 (toldS x.ds x.un o k)) (.int .i64 x.da) (by omega) x7)
  replace x8 := keep_cell hb3 (set_two_ne (.int .i64 (toldS x.ds x.un o k)) (.int .i64 x.da) (by omega) x8)
  replace x9 := keep_cell hb3 (set_two_ne (.int .i64 (toldS x.ds x.un o k)) (.int .i64 x.da) (by omega) x9)
  replace x10 := keep_cell hb3 (set_two_ne (.int .i64 (toldS x.ds x.un o k)) (.int .i64 x.da) (by omega) x10)
  replace x11 := keep_cell hb3 (set_two_ne (.int .i64 (toldS x.ds x.un o k)) (.int .i64 x.da) (by omega) x11)
  replace x12 := keep_cell hb3 (set_two_ne (.int .i64 (toldS x.ds x.un o k)) (.int .i64 x.da) (by omega) x12)
  replace x13 := keep_cell hb3 (set_two_ne (.int .i64 (toldS x.ds x.un o k)) (.int .i64 x.da) (by omega) x13)
  replace x14 := keep_cell hb3 (set_two_ne (.int .i64 (toldS x.ds x.un o k)) (.int .i64 x.da) (by omega) x14)
  obtain ⟨e0, e1⟩ := set_two (.int .i64 (toldS x.ds x.un o k)) (.int .i64 x.da) x0 x1
  clear x0 x1
  have x0 := keep_cell hb3 e0
  have x1 := keep_cell hb3 e1
  clear e0 e1
  have HB3 := Lib.hid hb3
  clear hb3
  go_wp2
  refine bodyPost_ret (v := .agg #[.int .i64 (tS (toldS x.ds x.un o k) x.da c.dr x.bl), .int .i64 (tA (toldS x.ds x.un o k) x.da c.dr x.bl), .int .i64 (x.un), .int .i64 (x.wy), .int .i64 x.ti, .int .i64 x.ju, .int .i64 x.lo, .bool x.bl, .bool false, .int .i64 x.mo, .int .i64 x.ta, .bool x.ho, .int .u64 x.sp, .int .u64 x.su, .int .u64 x.sd]) (by simp [results, Try.results75, go_sem, show w3.cell? ⟨w.heap.size + 1 + 1 + 1, 0, none⟩ = some _ from r0, show w3.cell? ⟨w.heap.size + 1 + 1 + 1, 1, none⟩ = some _ from r1, show w3.cell? ⟨w.heap.size + 1 + 1 + 1, 2, none⟩ = some _ from r2, show w3.cell? ⟨w.heap.size + 1 + 1 + 1, 3, none⟩ = some _ from r3, show w3.cell? ⟨w.heap.size + 1 + 1 + 1, 4, none⟩ = some _ from r4, show w3.cell? ⟨w.heap.size + 1 + 1 + 1, 5, none⟩ = some _ from r5, show w3.cell? ⟨w.heap.size + 1 + 1 + 1, 6, none⟩ = some _ from r6, show w3.cell? ⟨w.heap.size + 1 + 1 + 1, 7, none⟩ = some _ from r7, show w3.cell? ⟨w.heap.size + 1 + 1 + 1, 8, none⟩ = some _ from r8, show w3.cell? ⟨w.heap.size + 1 + 1 + 1, 9, none⟩ = some _ from r9, show w3.cell? ⟨w.heap.size + 1 + 1 + 1, 10, none⟩ = some _ from r10, show w3.cell? ⟨w.heap.size + 1 + 1 + 1, 11, none⟩ = some _ from r11, show w3.cell? ⟨w.heap.size + 1 + 1 + 1, 12, none⟩ = some _ from r12, show w3.cell? ⟨w.heap.size + 1 + 1 + 1, 13, none⟩ = some _ from r13, show w3.cell? ⟨w.heap.size + 1 + 1 + 1, 14, none⟩ = some _ from r14]) rfl ⟨by rw [HE.out], ?_⟩
  iterate 15 refine Since.setCell ?_ (by first | (simp; done) | (simp; omega)) _
  iterate 2 refine Since.setCell ?_ (by first | (simp; done) | (simp; omega)) _
  refine Since.trans ?_ HB3.out
  iterate 2 refine Since.setCell ?_ (by first | (simp; done) | (simp; omega)) _
  refine Since.trans ?_ HB2.out
  refine Since.trans ?_ HB1.out
  (repeat (first | exact Since.refl _ | refine Since.setCell ?_ (by first | (simp; done) | (simp; omega)) _ | refine Since.alloc ?_ _))
end Go.Proofs.Ytpacieocmogjeaa.Pl
