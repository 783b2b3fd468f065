/-
  What is wanted by the last of these texts, part 5.
  No condition.
-/
import Derived.Test.YtpacieocmogjeaaKGv1
import Derived.Test.YtpacieocmogjeaaKGv2
import Derived.Test.YtpacieocmogjeaaKGv3
import Derived.Test.YtpacieocmogjeaaKGv4
import Derived.WalkKit
import Derived.Laws.BitsAllLaws
import Derived.Test.YtpacieocmogjeaaRows
import Derived.Test.YtpacieocmogjeaaKGv0
namespace Go.Proofs.Ytpacieocmogjeaa.Pl
set_option linter.unusedVariables false
set_option linter.unusedSimpArgs false
open Go.RowKit Go.Proofs.Ytpacieocmogjeaa.Ba Go.Proofs.Ytpacieocmogjeaa.Do Go.Proofs.Ytpacieocmogjeaa.Mo Go.Proofs.Ytpacieocmogjeaa.Ty
set_option maxRecDepth 100000
set_option maxHeartbeats 4000000 in
theorem shut_opens (c : CfgV) (x : CarV) (r : Int) (o k : Bool) (h0 : 0 ≤ x.da) (h1 : x.da ≤ 1000) (u0 : -9223372036854775808 ≤ x.un) (u1 : x.un ≤ 9223372036854775807) (hz : (tS (toldS 0 x.un o k) x.da c.dr x.bl == 0) = false) (w : World) : Calls Try.prog 75 #[.agg #[.int .i64 c.ca, .int .i64 c.fl, .int .i64 c.ft, .int .i64 c.se, .int .i64 c.dr, .int .i64 c.dw, .int .i64 c.ho, .int .i64 c.re, .int .i64 c.yi, .int .i64 c.qu, .int .i64 c.qo, .int .i64 c.lo, .int .i64 c.sl, .int .i64 c.rt, .int .i64 c.cp, .int .i64 c.tr, .int .i64 c.de, .int .i64 c.wi], .agg #[.int .i64 0, .int .i64 x.da, .int .i64 x.un, .int .i64 x.wy, .int .i64 x.ti, .int .i64 x.ju, .int .i64 x.lo, .bool x.bl, .bool false, .int .i64 x.mo, .int .i64 x.ta, .bool x.ho, .int .u64 x.sp, .int .u64 x.su, .int .u64 x.sd], .agg #[.int .i64 r, .bool o, .bool k]] w fun e w' => e = .returned (.agg #[.int .i64 (dS1 c ({ x with ds := 0, br := false } : CarV) o k), .int .i64 (dA1 c ({ x with ds := 0, br := false } : CarV) o k), .int .i64 (un1 c ({ x with ds := 0, br := false } : CarV) r o k), .int .i64 (wy1 c ({ x with ds := 0, br := false } : CarV) r o k), .int .i64 x.ti, .int .i64 x.ju, .int .i64 x.lo, .bool x.bl, .bool false, .int .i64 x.mo, .int .i64 x.ta, .bool x.ho, .int .u64 x.sp, .int .u64 x.su, .int .u64 x.sd]) ∧ Since w w' := by
  have HS := Lib.hid (show dS1 c ({ x with ds := 0, br := false } : CarV) o k = tS (toldS 0 x.un o k) x.da c.dr x.bl by unfold dS1 dS0; simp)
  have HA := Lib.hid (show dA1 c ({ x with ds := 0, br := false } : CarV) o k = tA (toldS 0 x.un o k) x.da c.dr x.bl by unfold dA1 dS0; simp)
  have HG : goesB c ({ x with ds := 0, br := false } : CarV) r o k = false := by unfold goesB dS1 dS0; simp at hz ⊢; intro h; exact absurd h hz
  have HU := Lib.hid (show un1 c ({ x with ds := 0, br := false } : CarV) r o k = x.un by unfold un1; rw [HG]; simp)
  have HY := Lib.hid (show wy1 c ({ x with ds := 0, br := false } : CarV) r o k = x.wy by unfold wy1; rw [HG]; simp)
  clear HG
  have HE := Lib.hid (show (Value.agg #[.int .i64 (dS1 c ({ x with ds := 0, br := false } : CarV) o k), .int .i64 (dA1 c ({ x with ds := 0, br := false } : CarV) o k), .int .i64 (un1 c ({ x with ds := 0, br := false } : CarV) r o k), .int .i64 (wy1 c ({ x with ds := 0, br := false } : CarV) r o k), .int .i64 x.ti, .int .i64 x.ju, .int .i64 x.lo, .bool x.bl, .bool false, .int .i64 x.mo, .int .i64 x.ta, .bool x.ho, .int .u64 x.sp, .int .u64 x.su, .int .u64 x.sd]) = .agg #[.int .i64 (tS (toldS 0 x.un o k) x.da c.dr x.bl), .int .i64 (tA (toldS 0 x.un o k) x.da c.dr x.bl), .int .i64 (x.un), .int .i64 (x.wy), .int .i64 x.ti, .int .i64 x.ju, .int .i64 x.lo, .bool x.bl, .bool false, .int .i64 x.mo, .int .i64 x.ta, .bool x.ho, .int .u64 x.sp, .int .u64 x.su, .int .u64 x.sd] by rw [HS.out, HA.out, HU.out, HY.out])
  clear HS HA HU HY
  go_enter Try.func75, Try.ntmps75
  go_wp2_with fail
  refine (closedK _ _ _ _ _ _ _ _ _ _ _ _ _ _ _ _).mono ?_
  rintro e w1 ⟨rfl, hb1⟩
  have c1 : w1.cell? ⟨w.heap.size, 1, none⟩ = some (.int .i64 c.fl) := keep_cell hb1 (by simp [go_sem])
  have c4 : w1.cell? ⟨w.heap.size, 4, none⟩ = some (.int .i64 c.dr) := keep_cell hb1 (by simp [go_sem])
  have x0 : w1.cell? ⟨w.heap.size + 1, 0, none⟩ = some (.int .i64 0) := keep_cell hb1 (by simp [go_sem])
  have x1 : w1.cell? ⟨w.heap.size + 1, 1, none⟩ = some (.int .i64 x.da) := keep_cell hb1 (by simp [go_sem])
  have x2 : w1.cell? ⟨w.heap.size + 1, 2, none⟩ = some (.int .i64 x.un) := keep_cell hb1 (by simp [go_sem])
  have x3 : w1.cell? ⟨w.heap.size + 1, 3, none⟩ = some (.int .i64 x.wy) := keep_cell hb1 (by simp [go_sem])
  have x4 : w1.cell? ⟨w.heap.size + 1, 4, none⟩ = some (.int .i64 x.ti) := keep_cell hb1 (by simp [go_sem])
  have x5 : w1.cell? ⟨w.heap.size + 1, 5, none⟩ = some (.int .i64 x.ju) := keep_cell hb1 (by simp [go_sem])
  have x6 : w1.cell? ⟨w.heap.size + 1, 6, none⟩ = some (.int .i64 x.lo) := keep_cell hb1 (by simp [go_sem])
  have x7 : w1.cell? ⟨w.heap.size + 1, 7, none⟩ = some (.bool x.bl) := keep_cell hb1 (by simp [go_sem])
  have x8 : w1.cell? ⟨w.heap.size + 1, 8, none⟩ = some (.bool false) := keep_cell hb1 (by simp [go_sem])
  have x9 : w1.cell? ⟨w.heap.size + 1, 9, none⟩ = some (.int .i64 x.mo) := keep_cell hb1 (by simp [go_sem])
  have x10 : w1.cell? ⟨w.heap.size + 1, 10, none⟩ = some (.int .i64 x.ta) := keep_cell hb1 (by simp [go_sem])
  have x11 : w1.cell? ⟨w.heap.size + 1, 11, none⟩ = some (.bool x.ho) := keep_cell hb1 (by simp [go_sem])
  have x12 : w1.cell? ⟨w.heap.size + 1, 12, none⟩ = some (.int .u64 x.sp) := keep_cell hb1 (by simp [go_sem])
  have x13 : w1.cell? ⟨w.heap.size + 1, 13, none⟩ = some (.int .u64 x.su) := keep_cell hb1 (by simp [go_sem])
  have x14 : w1.cell? ⟨w.heap.size + 1, 14, none⟩ = some (.int .u64 x.sd) := keep_cell hb1 (by simp [go_sem])
  have xf0 : w1.frozen? ⟨w.heap.size + 1, 0, none⟩ = false := (hb1.frozen (by simp [go_sem])).trans (by simp [go_sem])
  have xf1 : w1.frozen? ⟨w.heap.size + 1, 1, none⟩ = false := (hb1.frozen (by simp [go_sem])).trans (by simp [go_sem])
  have xf2 : w1.frozen? ⟨w.heap.size + 1, 2, none⟩ = false := (hb1.frozen (by simp [go_sem])).trans (by simp [go_sem])
  have xf3 : w1.frozen? ⟨w.heap.size + 1, 3, none⟩ = false := (hb1.frozen (by simp [go_sem])).trans (by simp [go_sem])
  have m0 : w1.cell? ⟨w.heap.size + 2, 0, none⟩ = some (.int .i64 r) := keep_cell hb1 (by simp [go_sem])
  have m1 : w1.cell? ⟨w.heap.size + 2, 1, none⟩ = some (.bool o) := keep_cell hb1 (by simp [go_sem])
  have m2 : w1.cell? ⟨w.heap.size + 2, 2, none⟩ = some (.bool k) := keep_cell hb1 (by simp [go_sem])
  have r0 : w1.cell? ⟨w.heap.size + 3, 0, none⟩ = some (.int .i64 0) := keep_cell hb1 (by simp [go_sem])
  have r1 : w1.cell? ⟨w.heap.size + 3, 1, none⟩ = some (.int .i64 0) := keep_cell hb1 (by simp [go_sem])
  have r2 : w1.cell? ⟨w.heap.size + 3, 2, none⟩ = some (.int .i64 0) := keep_cell hb1 (by simp [go_sem])
  have r3 : w1.cell? ⟨w.heap.size + 3, 3, none⟩ = some (.int .i64 0) := keep_cell hb1 (by simp [go_sem])
  have r4 : w1.cell? ⟨w.heap.size + 3, 4, none⟩ = some (.int .i64 0) := keep_cell hb1 (by simp [go_sem])
  have r5 : w1.cell? ⟨w.heap.size + 3, 5, none⟩ = some (.int .i64 0) := keep_cell hb1 (by simp [go_sem])
  have r6 : w1.cell? ⟨w.heap.size + 3, 6, none⟩ = some (.int .i64 0) := keep_cell hb1 (by simp [go_sem])
  have r7 : w1.cell? ⟨w.heap.size + 3, 7, none⟩ = some (.bool false) := keep_cell hb1 (by simp [go_sem])
  have r8 : w1.cell? ⟨w.heap.size + 3, 8, none⟩ = some (.bool false) := keep_cell hb1 (by simp [go_sem])
  have r9 : w1.cell? ⟨w.heap.size + 3, 9, none⟩ = some (.int .i64 0) := keep_cell hb1 (by simp [go_sem])
  have r10 : w1.cell? ⟨w.heap.size + 3, 10, none⟩ = some (.int .i64 0) := keep_cell hb1 (by simp [go_sem])
  have r11 : w1.cell? ⟨w.heap.size + 3, 11, none⟩ = some (.bool false) := keep_cell hb1 (by simp [go_sem])
  have r12 : w1.cell? ⟨w.heap.size + 3, 12, none⟩ = some (.int .u64 0) := keep_cell hb1 (by simp [go_sem])
  have r13 : w1.cell? ⟨w.heap.size + 3, 13, none⟩ = some (.int .u64 0) := keep_cell hb1 (by simp [go_sem])
  have r14 : w1.cell? ⟨w.heap.size + 3, 14, none⟩ = some (.int .u64 0) := keep_cell hb1 (by simp [go_sem])
  have rf0 : w1.frozen? ⟨w.heap.size + 3, 0, none⟩ = false := (hb1.frozen (by simp [go_sem])).trans (by simp [go_sem])
  have rf1 : w1.frozen? ⟨w.heap.size + 3, 1, none⟩ = false := (hb1.frozen (by simp [go_sem])).trans (by simp [go_sem])
  have rf2 : w1.frozen? ⟨w.heap.size + 3, 2, none⟩ = false := (hb1.frozen (by simp [go_sem])).trans (by simp [go_sem])
  have rf3 : w1.frozen? ⟨w.heap.size + 3, 3, none⟩ = false := (hb1.frozen (by simp [go_sem])).trans (by simp [go_sem])
  have rf4 : w1.frozen? ⟨w.heap.size + 3, 4, none⟩ = false := (hb1.frozen (by simp [go_sem])).trans (by simp [go_sem])
  have rf5 : w1.frozen? ⟨w.heap.size + 3, 5, none⟩ = false := (hb1.frozen (by simp [go_sem])).trans (by simp [go_sem])
  have rf6 : w1.frozen? ⟨w.heap.size + 3, 6, none⟩ = false := (hb1.frozen (by simp [go_sem])).trans (by simp [go_sem])
  have rf7 : w1.frozen? ⟨w.heap.size + 3, 7, none⟩ = false := (hb1.frozen (by simp [go_sem])).trans (by simp [go_sem])
  have rf8 : w1.frozen? ⟨w.heap.size + 3, 8, none⟩ = false := (hb1.frozen (by simp [go_sem])).trans (by simp [go_sem])
  have rf9 : w1.frozen? ⟨w.heap.size + 3, 9, none⟩ = false := (hb1.frozen (by simp [go_sem])).trans (by simp [go_sem])
  have rf10 : w1.frozen? ⟨w.heap.size + 3, 10, none⟩ = false := (hb1.frozen (by simp [go_sem])).trans (by simp [go_sem])
  have rf11 : w1.frozen? ⟨w.heap.size + 3, 11, none⟩ = false := (hb1.frozen (by simp [go_sem])).trans (by simp [go_sem])
  have rf12 : w1.frozen? ⟨w.heap.size + 3, 12, none⟩ = false := (hb1.frozen (by simp [go_sem])).trans (by simp [go_sem])
  have rf13 : w1.frozen? ⟨w.heap.size + 3, 13, none⟩ = false := (hb1.frozen (by simp [go_sem])).trans (by simp [go_sem])
  have rf14 : w1.frozen? ⟨w.heap.size + 3, 14, none⟩ = false := (hb1.frozen (by simp [go_sem])).trans (by simp [go_sem])
  have HB1 := Lib.hid hb1
  clear hb1
  go_wp2_with fail
  refine (toldT ({ x with ds := 0, br := false } : CarV) _ _ _ _).mono ?_
  rintro e w2 ⟨rfl, hb2⟩
  replace xf0 := keep_frz hb2 x0 xf0
  replace xf1 := keep_frz hb2 x1 xf1
  replace xf2 := keep_frz hb2 x2 xf2
  replace xf3 := keep_frz hb2 x3 xf3
  replace rf0 := keep_frz hb2 r0 rf0
  replace rf1 := keep_frz hb2 r1 rf1
  replace rf2 := keep_frz hb2 r2 rf2
  replace rf3 := keep_frz hb2 r3 rf3
  replace rf4 := keep_frz hb2 r4 rf4
  replace rf5 := keep_frz hb2 r5 rf5
  replace rf6 := keep_frz hb2 r6 rf6
  replace rf7 := keep_frz hb2 r7 rf7
  replace rf8 := keep_frz hb2 r8 rf8
  replace rf9 := keep_frz hb2 r9 rf9
  replace rf10 := keep_frz hb2 r10 rf10
  replace rf11 := keep_frz hb2 r11 rf11
  replace rf12 := keep_frz hb2 r12 rf12
  replace rf13 := keep_frz hb2 r13 rf13
  replace rf14 := keep_frz hb2 r14 rf14
  replace c1 := keep_cell hb2 c1
  replace c4 := keep_cell hb2 c4
  replace x0 := keep_cell hb2 x0
  replace x1 := keep_cell hb2 x1
  replace x2 := keep_cell hb2 x2
  replace x3 := keep_cell hb2 x3
  replace x4 := keep_cell hb2 x4
  replace x5 := keep_cell hb2 x5
  replace x6 := keep_cell hb2 x6
  replace x7 := keep_cell hb2 x7
  replace x8 := keep_cell hb2 x8
  replace x9 := keep_cell hb2 x9
  replace x10 := keep_cell hb2 x10
  replace x11 := keep_cell hb2 x11
  replace x12 := keep_cell hb2 x12
  replace x13 := keep_cell hb2 x13
  replace x14 := keep_cell hb2 x14
  replace m0 := keep_cell hb2 m0
  replace m1 := keep_cell hb2 m1
  replace m2 := keep_cell hb2 m2
  replace r0 := keep_cell hb2 r0
  replace r1 := keep_cell hb2 r1
  replace r2 := keep_cell hb2 r2
  replace r3 := keep_cell hb2 r3
  replace r4 := keep_cell hb2 r4
  replace r5 := keep_cell hb2 r5
  replace r6 := keep_cell hb2 r6
  replace r7 := keep_cell hb2 r7
  replace r8 := keep_cell hb2 r8
  replace r9 := keep_cell hb2 r9
  replace r10 := keep_cell hb2 r10
  replace r11 := keep_cell hb2 r11
  replace r12 := keep_cell hb2 r12
  replace r13 := keep_cell hb2 r13
  replace r14 := keep_cell hb2 r14
  have HB2 := Lib.hid hb2
  clear hb2
  go_wp2_with fail
  refine (tickD _ _ _ _ (by assumption) (by assumption) _).mono ?_
  rintro e w3 ⟨rfl, hb3⟩
  replace xf0 := (hb3.frozen (World.block_lt_of_cell? _ _ ((set_two (.int .i64 (toldS 0 x.un o k)) (.int .i64 x.da) x0 x1).1))).trans (set_frz (set_frz xf0))
  replace xf1 := (hb3.frozen (World.block_lt_of_cell? _ _ ((set_two (.int .i64 (toldS 0 x.un o k)) (.int .i64 x.da) x0 x1).2))).trans (set_frz (set_frz xf1))
  replace xf2 := (hb3.frozen (World.block_lt_of_cell? _ _ (set_two_ne (.int .i64 (toldS 0 x.un o k)) (.int .i64 x.da) (by omega) x2))).trans (set_frz (set_frz xf2))
  replace xf3 := (hb3.frozen (World.block_lt_of_cell? _ _ (set_two_ne (.int .i64 (toldS 0 x.un o k)) (.int .i64 x.da) (by omega) x3))).trans (set_frz (set_frz xf3))
  replace rf0 := (hb3.frozen (World.block_lt_of_cell? _ _ (set_two_far (.int .i64 (toldS 0 x.un o k)) (.int .i64 x.da) (by omega) r0))).trans (set_frz (set_frz rf0))
  replace rf1 := (hb3.frozen (World.block_lt_of_cell? _ _ (set_two_far (.int .i64 (toldS 0 x.un o k)) (.int .i64 x.da) (by omega) r1))).trans (set_frz (set_frz rf1))
  replace rf2 := (hb3.frozen (World.block_lt_of_cell? _ _ (set_two_far (.int .i64 (toldS 0 x.un o k)) (.int .i64 x.da) (by omega) r2))).trans (set_frz (set_frz rf2))
  replace rf3 := (hb3.frozen (World.block_lt_of_cell? _ _ (set_two_far (.int .i64 (toldS 0 x.un o k)) (.int .i64 x.da) (by omega) r3))).trans (set_frz (set_frz rf3))
  replace rf4 := (hb3.frozen (World.block_lt_of_cell? _ _ (set_two_far (.int .i64 (toldS 0 x.un o k)) (.int .i64 x.da) (by omega) r4))).trans (set_frz (set_frz rf4))
  replace rf5 := (hb3.frozen (World.block_lt_of_cell? _ _ (set_two_far (.int .i64 (toldS 0 x.un o k)) (.int .i64 x.da) (by omega) r5))).trans (set_frz (set_frz rf5))
  replace rf6 := (hb3.frozen (World.block_lt_of_cell? _ _ (set_two_far (.int .i64 (toldS 0 x.un o k)) (.int .i64 x.da) (by omega) r6))).trans (set_frz (set_frz rf6))
  replace rf7 := (hb3.frozen (World.block_lt_of_cell? _ _ (set_two_far (.int .i64 (toldS 0 x.un o k)) (.int .i64 x.da) (by omega) r7))).trans (set_frz (set_frz rf7))
  replace rf8 := (hb3.frozen (World.block_lt_of_cell? _ _ (set_two_far (.int .i64 (toldS 0 x.un o k)) (.int .i64 x.da) (by omega) r8))).trans (set_frz (set_frz rf8))
  replace rf9 := (hb3.frozen (World.block_lt_of_cell? _ _ (set_two_far (.int .i64 (toldS 0 x.un o k)) (.int .i64 x.da) (by omega) r9))).trans (set_frz (set_frz rf9))
  replace rf10 := (hb3.frozen (World.block_lt_of_cell? _ _ (set_two_far (.int .i64 (toldS 0 x.un o k)) (.int .i64 x.da) (by omega) r10))).trans (set_frz (set_frz rf10))
  replace rf11 := (hb3.frozen (World.block_lt_of_cell? _ _ (set_two_far (.int .i64 (toldS 0 x.un o k)) (.int .i64 x.da) (by omega) r11))).trans (set_frz (set_frz rf11))
  replace rf12 := (hb3.frozen (World.block_lt_of_cell? _ _ (set_two_far (.int .i64 (toldS 0 x.un o k)) (.int .i64 x.da) (by omega) r12))).trans (set_frz (set_frz rf12))
  replace rf13 := (hb3.frozen (World.block_lt_of_cell? _ _ (set_two_far (.int .i64 (toldS 0 x.un o k)) (.int .i64 x.da) (by omega) r13))).trans (set_frz (set_frz rf13))
  replace rf14 := (hb3.frozen (World.block_lt_of_cell? _ _ (set_two_far (.int .i64 (toldS 0 x.un o k)) (.int .i64 x.da) (by omega) r14))).trans (set_frz (set_frz rf14))
  replace c1 := keep_cell hb3 (set_two_far (.int .i64 (toldS 0 x.un o k)) (.int .i64 x.da) (by omega) c1)
  replace c4 := keep_cell hb3 (set_two_far (.int .i64 (toldS 0 x.un o k)) (.int .i64 x.da) (by omega) c4)
  replace m0 := keep_cell hb3 (set_two_far (.int .i64 (toldS 0 x.un o k)) (.int .i64 x.da) (by omega) m0)
  replace m1 := keep_cell hb3 (set_two_far (.int .i64 (toldS 0 x.un o k)) (.int .i64 x.da) (by omega) m1)
  replace m2 := keep_cell hb3 (set_two_far (.int .i64 (toldS 0 x.un o k)) (.int .i64 x.da) (by omega) m2)
  replace r0 := keep_cell hb3 (set_two_far (.int .i64 (toldS 0 x.un o k)) (.int .i64 x.da) (by omega) r0)
  replace r1 := keep_cell hb3 (set_two_far (.int .i64 (toldS 0 x.un o k)) (.int .i64 x.da) (by omega) r1)
  replace r2 := keep_cell hb3 (set_two_far (.int .i64 (toldS 0 x.un o k)) (.int .i64 x.da) (by omega) r2)
  replace r3 := keep_cell hb3 (set_two_far (.int .i64 (toldS 0 x.un o k)) (.int .i64 x.da) (by omega) r3)
  replace r4 := keep_cell hb3 (set_two_far (.int .i64 (toldS 0 x.un o k)) (.int .i64 x.da) (by omega) r4)
  replace r5 := keep_cell hb3 (set_two_far (.int .i64 (toldS 0 x.un o k)) (.int .i64 x.da) (by omega) r5)
  replace r6 := keep_cell hb3 (set_two_far (.int .i64 (toldS 0 x.un o k)) (.int .i64 x.da) (by omega) r6)
  replace r7 := keep_cell hb3 (set_two_far (.int .i64 (toldS 0 x.un o k)) (.int .i64 x.da) (by omega) r7)
  replace r8 := keep_cell hb3 (set_two_far (.int .i64 (toldS 0 x.un o k)) (.int .i64 x.da) (by omega) r8)
  replace r9 := keep_cell hb3 (set_two_far (.int .i64 (toldS 0 x.un o k)) (.int .i64 x.da) (by omega) r9)
  replace r10 := keep_cell hb3 (set_two_far (.int .i64 (toldS 0 x.un o k)) (.int .i64 x.da) (by omega) r10)
  replace r11 := keep_cell hb3 (set_two_far (.int .i64 (toldS 0 x.un o k)) (.int .i64 x.da) (by omega) r11)
  replace r12 := keep_cell hb3 (set_two_far (.int .i64 (toldS 0 x.un o k)) (.int .i64 x.da) (by omega) r12)
  replace r13 := keep_cell hb3 (set_two_far (.int .i64 (toldS 0 x.un o k)) (.int .i64 x.da) (by omega) r13)
  replace r14 := keep_cell hb3 (set_two_far (.int .i64 (toldS 0 x.un o k)) (.int .i64 x.da) (by omega) r14)
  replace x2 := keep_cell hb3 (set_two_ne (.int .i64 (toldS 0 x.un o k)) (.int .i64 x.da) (by omega) x2)
  replace x3 := keep_cell hb3 (set_two_ne (.int .i64 (toldS 0 x.un o k)) (.int .i64 x.da) (by omega) x3)
  replace x4 := keep_cell hb3 (set_two_ne (.int .i64 (toldS 0 x.un o k)) (.int .i64 x.da) (by omega) x4)
  replace x5 := keep_cell hb3 (set_two_ne (.int .i64 (toldS 0 x.un o k)) (.int .i64 x.da) (by omega) x5)
  replace x6 := keep_cell hb3 (set_two_ne (.int .i64 (toldS 0 x.un o k)) (.int .i64 x.da) (by omega) x6)
  replace x7 := keep_cell hb3 (set_two_ne (.int .i64 (toldS 0 x.un o k)) (.int .i64 x.da) (by omega) x7)
  replace x8 := keep_cell hb3 (set_two_ne (.int .i64 (toldS 0 x.un o k)) (.int .i64 x.da) (by omega) x8)
  replace x9 := keep_cell hb3 (set_two_ne (.int .i64 (toldS 0 x.un o k)) (.int .i64 x.da) (by omega) x9)
  replace x10 := keep_cell hb3 (set_two_ne (.int .i64 (toldS 0 x.un o k)) (.int .i64 x.da) (by omega) x10)
  replace x11 := keep_cell hb3 (set_two_ne (.int .i64 (toldS 0 x.un o k)) (.int .i64 x.da) (by omega) x11)
  replace x12 := keep_cell hb3 (set_two_ne (.int .i64 (toldS 0 x.un o k)) (.int .i64 x.da) (by omega) x12)
  replace x13 := keep_cell hb3 (set_two_ne (.int .i64 (toldS 0 x.un o k)) (.int .i64 x.da) (by omega) x13)
  replace x14 := keep_cell hb3 (set_two_ne (.int .i64 (toldS 0 x.un o k)) (.int .i64 x.da) (by omega) x14)
  obtain ⟨e0, e1⟩ := set_two (.int .i64 (toldS 0 x.un o k)) (.int .i64 x.da) x0 x1
  clear x0 x1
  have x0 := keep_cell hb3 e0
  have x1 := keep_cell hb3 e1
  clear e0 e1
  have HB3 := Lib.hid hb3
  clear hb3
  go_wp2_with fail
  refine (closedK _ _ _ _ _ _ _ _ _ _ _ _ _ _ _ _).mono ?_
  rintro e w4 ⟨rfl, hb4⟩
  replace xf0 := (hb4.frozen (World.block_lt_of_cell? _ _ ((set_two (.int .i64 (tS (toldS 0 x.un o k) x.da c.dr x.bl)) (.int .i64 (tA (toldS 0 x.un o k) x.da c.dr x.bl)) x0 x1).1))).trans (set_frz (set_frz xf0))
  replace xf1 := (hb4.frozen (World.block_lt_of_cell? _ _ ((set_two (.int .i64 (tS (toldS 0 x.un o k) x.da c.dr x.bl)) (.int .i64 (tA (toldS 0 x.un o k) x.da c.dr x.bl)) x0 x1).2))).trans (set_frz (set_frz xf1))
  replace xf2 := (hb4.frozen (World.block_lt_of_cell? _ _ (set_two_ne (.int .i64 (tS (toldS 0 x.un o k) x.da c.dr x.bl)) (.int .i64 (tA (toldS 0 x.un o k) x.da c.dr x.bl)) (by omega) x2))).trans (set_frz (set_frz xf2))
  replace xf3 := (hb4.frozen (World.block_lt_of_cell? _ _ (set_two_ne (.int .i64 (tS (toldS 0 x.un o k) x.da c.dr x.bl)) (.int .i64 (tA (toldS 0 x.un o k) x.da c.dr x.bl)) (by omega) x3))).trans (set_frz (set_frz xf3))
  replace rf0 := (hb4.frozen (World.block_lt_of_cell? _ _ (set_two_far (.int .i64 (tS (toldS 0 x.un o k) x.da c.dr x.bl)) (.int .i64 (tA (toldS 0 x.un o k) x.da c.dr x.bl)) (by omega) r0))).trans (set_frz (set_frz rf0))
  replace rf1 := (hb4.frozen (World.block_lt_of_cell? _ _ (set_two_far (.int .i64 (tS (toldS 0 x.un o k) x.da c.dr x.bl)) (.int .i64 (tA (toldS 0 x.un o k) x.da c.dr x.bl)) (by omega) r1))).trans (set_frz (set_frz rf1))
  replace rf2 := (hb4.frozen (World.block_lt_of_cell? _ _ (set_two_far (.int .i64 (tS (toldS 0 x.un o k) x.da c.dr x.bl)) (.int .i64 (tA (toldS 0 x.un o k) x.da c.dr x.bl)) (by omega) r2))).trans (set_frz (set_frz rf2))
  replace rf3 := (hb4.frozen (World.block_lt_of_cell? _ _ (set_two_far (.int .i64 (tS (toldS 0 x.un o k) x.da c.dr x.bl)) (.int .i64 (tA (toldS 0 x.un o k) x.da c.dr x.bl)) (by omega) r3))).trans (set_frz (set_frz rf3))
  replace rf4 := (hb4.frozen (World.block_lt_of_cell? _ _ (set_two_far (.int .i64 (tS (toldS 0 x.un o k) x.da c.dr x.bl)) (.int .i64 (tA (toldS 0 x.un o k) x.da c.dr x.bl)) (by omega) r4))).trans (set_frz (set_frz rf4))
  replace rf5 := (hb4.frozen (World.block_lt_of_cell? _ _ (set_two_far (.int .i64 (tS (toldS 0 x.un o k) x.da c.dr x.bl)) (.int .i64 (tA (toldS 0 x.un o k) x.da c.dr x.bl)) (by omega) r5))).trans (set_frz (set_frz rf5))
  replace rf6 := (hb4.frozen (World.block_lt_of_cell? _ _ (set_two_far (.int .i64 (tS (toldS 0 x.un o k) x.da c.dr x.bl)) (.int .i64 (tA (toldS 0 x.un o k) x.da c.dr x.bl)) (by omega) r6))).trans (set_frz (set_frz rf6))
  replace rf7 := (hb4.frozen (World.block_lt_of_cell? _ _ (set_two_far (.int .i64 (tS (toldS 0 x.un o k) x.da c.dr x.bl)) (.int .i64 (tA (toldS 0 x.un o k) x.da c.dr x.bl)) (by omega) r7))).trans (set_frz (set_frz rf7))
  replace rf8 := (hb4.frozen (World.block_lt_of_cell? _ _ (set_two_far (.int .i64 (tS (toldS 0 x.un o k) x.da c.dr x.bl)) (.int .i64 (tA (toldS 0 x.un o k) x.da c.dr x.bl)) (by omega) r8))).trans (set_frz (set_frz rf8))
  replace rf9 := (hb4.frozen (World.block_lt_of_cell? _ _ (set_two_far (.int .i64 (tS (toldS 0 x.un o k) x.da c.dr x.bl)) (.int .i64 (tA (toldS 0 x.un o k) x.da c.dr x.bl)) (by omega) r9))).trans (set_frz (set_frz rf9))
  replace rf10 := (hb4.frozen (World.block_lt_of_cell? _ _ (set_two_far (.int .i64 (tS (toldS 0 x.un o k) x.da c.dr x.bl)) (.int .i64 (tA (toldS 0 x.un o k) x.da c.dr x.bl)) (by omega) r10))).trans (set_frz (set_frz rf10))
  replace rf11 := (hb4.frozen (World.block_lt_of_cell? _ _ (set_two_far (.int .i64 (tS (toldS 0 x.un o k) x.da c.dr x.bl)) (.int .i64 (tA (toldS 0 x.un o k) x.da c.dr x.bl)) (by omega) r11))).trans (set_frz (set_frz rf11))
  replace rf12 := (hb4.frozen (World.block_lt_of_cell? _ _ (set_two_far (.int .i64 (tS (toldS 0 x.un o k) x.da c.dr x.bl)) (.int .i64 (tA (toldS 0 x.un o k) x.da c.dr x.bl)) (by omega) r12))).trans (set_frz (set_frz rf12))
  replace rf13 := (hb4.frozen (World.block_lt_of_cell? _ _ (set_two_far (.int .i64 (tS (toldS 0 x.un o k) x.da c.dr x.bl)) (.int .i64 (tA (toldS 0 x.un o k) x.da c.dr x.bl)) (by omega) r13))).trans (set_frz (set_frz rf13))
  replace rf14 := (hb4.frozen (World.block_lt_of_cell? _ _ (set_two_far (.int .i64 (tS (toldS 0 x.un o k) x.da c.dr x.bl)) (.int .i64 (tA (toldS 0 x.un o k) x.da c.dr x.bl)) (by omega) r14))).trans (set_frz (set_frz rf14))
  replace c1 := keep_cell hb4 (set_two_far (.int .i64 (tS (toldS 0 x.un o k) x.da c.dr x.bl)) (.int .i64 (tA (toldS 0 x.un o k) x.da c.dr x.bl)) (by omega) c1)
  replace c4 := keep_cell hb4 (set_two_far (.int .i64 (tS (toldS 0 x.un o k) x.da c.dr x.bl)) (.int .i64 (tA (toldS 0 x.un o k) x.da c.dr x.bl)) (by omega) c4)
  replace m0 := keep_cell hb4 (set_two_far (.int .i64 (tS (toldS 0 x.un o k) x.da c.dr x.bl)) (.int .i64 (tA (toldS 0 x.un o k) x.da c.dr x.bl)) (by omega) m0)
  replace m1 := keep_cell hb4 (set_two_far (.int .i64 (tS (toldS 0 x.un o k) x.da c.dr x.bl)) (.int .i64 (tA (toldS 0 x.un o k) x.da c.dr x.bl)) (by omega) m1)
  replace m2 := keep_cell hb4 (set_two_far (.int .i64 (tS (toldS 0 x.un o k) x.da c.dr x.bl)) (.int .i64 (tA (toldS 0 x.un o k) x.da c.dr x.bl)) (by omega) m2)
  replace r0 := keep_cell hb4 (set_two_far (.int .i64 (tS (toldS 0 x.un o k) x.da c.dr x.bl)) (.int .i64 (tA (toldS 0 x.un o k) x.da c.dr x.bl)) (by omega) r0)
  replace r1 := keep_cell hb4 (set_two_far (.int .i64 (tS (toldS 0 x.un o k) x.da c.dr x.bl)) (.int .i64 (tA (toldS 0 x.un o k) x.da c.dr x.bl)) (by omega) r1)
  replace r2 := keep_cell hb4 (set_two_far (.int .i64 (tS (toldS 0 x.un o k) x.da c.dr x.bl)) (.int .i64 (tA (toldS 0 x.un o k) x.da c.dr x.bl)) (by omega) r2)
  replace r3 := keep_cell hb4 (set_two_far (.int .i64 (tS (toldS 0 x.un o k) x.da c.dr x.bl)) (.int .i64 (tA (toldS 0 x.un o k) x.da c.dr x.bl)) (by omega) r3)
  replace r4 := keep_cell hb4 (set_two_far (.int .i64 (tS (toldS 0 x.un o k) x.da c.dr x.bl)) (.int .i64 (tA (toldS 0 x.un o k) x.da c.dr x.bl)) (by omega) r4)
  replace r5 := keep_cell hb4 (set_two_far (.int .i64 (tS (toldS 0 x.un o k) x.da c.dr x.bl)) (.int .i64 (tA (toldS 0 x.un o k) x.da c.dr x.bl)) (by omega) r5)
  replace r6 := keep_cell hb4 (set_two_far (.int .i64 (tS (toldS 0 x.un o k) x.da c.dr x.bl)) (.int .i64 (tA (toldS 0 x.un o k) x.da c.dr x.bl)) (by omega) r6)
  replace r7 := keep_cell hb4 (set_two_far (.int .i64 (tS (toldS 0 x.un o k) x.da c.dr x.bl)) (.int .i64 (tA (toldS 0 x.un o k) x.da c.dr x.bl)) (by omega) r7)
  replace r8 := keep_cell hb4 (set_two_far (.int .i64 (tS (toldS 0 x.un o k) x.da c.dr x.bl)) (.int .i64 (tA (toldS 0 x.un o k) x.da c.dr x.bl)) (by omega) r8)
  replace r9 := keep_cell hb4 (set_two_far (.int .i64 (tS (toldS 0 x.un o k) x.da c.dr x.bl)) (.int .i64 (tA (toldS 0 x.un o k) x.da c.dr x.bl)) (by omega) r9)
  replace r10 := keep_cell hb4 (set_two_far (.int .i64 (tS (toldS 0 x.un o k) x.da c.dr x.bl)) (.int .i64 (tA (toldS 0 x.un o k) x.da c.dr x.bl)) (by omega) r10)
  replace r11 := keep_cell hb4 (set_two_far (.int .i64 (tS (toldS 0 x.un o k) x.da c.dr x.bl)) (.int .i64 (tA (toldS 0 x.un o k) x.da c.dr x.bl)) (by omega) r11)
  replace r12 := keep_cell hb4 (set_two_far (.int .i64 (tS (toldS 0 x.un o k) x.da c.dr x.bl)) (.int .i64 (tA (toldS 0 x.un o k) x.da c.dr x.bl)) (by omega) r12)
  replace r13 := keep_cell hb4 (set_two_far (.int .i64 (tS (toldS 0 x.un o k) x.da c.dr x.bl)) (.int .i64 (tA (toldS 0 x.un o k) x.da c.dr x.bl)) (by omega) r13)
  replace r14 := keep_cell hb4 (set_two_far (.int .i64 (tS (toldS 0 x.un o k) x.da c.dr x.bl)) (.int .i64 (tA (toldS 0 x.un o k) x.da c.dr x.bl)) (by omega) r14)
  replace x2 := keep_cell hb4 (set_two_ne (.int .i64 (tS (toldS 0 x.un o k) x.da c.dr x.bl)) (.int .i64 (tA (toldS 0 x.un o k) x.da c.dr x.bl)) (by omega) x2)
  replace x3 := keep_cell hb4 (set_two_ne (.int .i64 (tS (toldS 0 x.un o k) x.da c.dr x.bl)) (.int .i64 (tA (toldS 0 x.un o k) x.da c.dr x.bl)) (by omega) x3)
  replace x4 := keep_cell hb4 (set_two_ne (.int .i64 (tS (toldS 0 x.un o k) x.da c.dr x.bl)) (.int .i64 (tA (toldS 0 x.un o k) x.da c.dr x.bl)) (by omega) x4)
  replace x5 := keep_cell hb4 (set_two_ne (.int .i64 (tS (toldS 0 x.un o k) x.da c.dr x.bl)) (.int .i64 (tA (toldS 0 x.un o k) x.da c.dr x.bl)) (by omega) x5)
  replace x6 := keep_cell hb4 (set_two_ne (.int .i64 (tS (toldS 0 x.un o k) x.da c.dr x.bl)) (.int .i64 (tA (toldS 0 x.un o k) x.da c.dr x.bl)) (by omega) x6)
  replace x7 := keep_cell hb4 (set_two_ne (.int .i64 (tS (toldS 0 x.un o k) x.da c.dr x.bl)) (.int .i64 (tA (toldS 0 x.un o k) x.da c.dr x.bl)) (by omega) x7)
  replace x8 := keep_cell hb4 (set_two_ne (.int .i64 (tS (toldS 0 x.un o k) x.da c.dr x.bl)) (.int .i64 (tA (toldS 0 x.un o k) x.da c.dr x.bl)) (by omega) x8)
  replace x9 := keep_cell hb4 (set_two_ne (.int .i64 (tS (toldS 0 x.un o k) x.da c.dr x.bl)) (.int .i64 (tA (toldS 0 x.un o k) x.da c.dr x.bl)) (by omega) x9)
  replace x10 := keep_cell hb4 (set_two_ne (.int .i64 (tS (toldS 0 x.un o k) x.da c.dr x.bl)) (.int .i64 (tA (toldS 0 x.un o k) x.da c.dr x.bl)) (by omega) x10)
  replace x11 := keep_cell hb4 (set_two_ne (.int .i64 (tS (toldS 0 x.un o k) x.da c.dr x.bl)) (.int .i64 (tA (toldS 0 x.un o k) x.da c.dr x.bl)) (by omega) x11)
  replace x12 := keep_cell hb4 (set_two_ne (.int .i64 (tS (toldS 0 x.un o k) x.da c.dr x.bl)) (.int .i64 (tA (toldS 0 x.un o k) x.da c.dr x.bl)) (by omega) x12)
  replace x13 := keep_cell hb4 (set_two_ne (.int .i64 (tS (toldS 0 x.un o k) x.da c.dr x.bl)) (.int .i64 (tA (toldS 0 x.un o k) x.da c.dr x.bl)) (by omega) x13)
  replace x14 := keep_cell hb4 (set_two_ne (.int .i64 (tS (toldS 0 x.un o k) x.da c.dr x.bl)) (.int .i64 (tA (toldS 0 x.un o k) x.da c.dr x.bl)) (by omega) x14)
  obtain ⟨e0, e1⟩ := set_two (.int .i64 (tS (toldS 0 x.un o k) x.da c.dr x.bl)) (.int .i64 (tA (toldS 0 x.un o k) x.da c.dr x.bl)) x0 x1
  clear x0 x1
  have x0 := keep_cell hb4 e0
  have x1 := keep_cell hb4 e1
  clear e0 e1
  have HB4 := Lib.hid hb4
  clear hb4
  go_wp2
  refine bodyPost_ret (v := .agg #[.int .i64 (tS (toldS 0 x.un o k) x.da c.dr x.bl), .int .i64 (tA (toldS 0 x.un o k) x.da c.dr x.bl), .int .i64 (x.un), .int .i64 (x.wy), .int .i64 x.ti, .int .i64 x.ju, .int .i64 x.lo, .bool x.bl, .bool false, .int .i64 x.mo, .int .i64 x.ta, .bool x.ho, .int .u64 x.sp, .int .u64 x.su, .int .u64 x.sd]) (by simp [results, Try.results75, go_sem, show w4.cell? ⟨w.heap.size + 1 + 1 + 1, 0, none⟩ = some _ from r0, show w4.cell? ⟨w.heap.size + 1 + 1 + 1, 1, none⟩ = some _ from r1, show w4.cell? ⟨w.heap.size + 1 + 1 + 1, 2, none⟩ = some _ from r2, show w4.cell? ⟨w.heap.size + 1 + 1 + 1, 3, none⟩ = some _ from r3, show w4.cell? ⟨w.heap.size + 1 + 1 + 1, 4, none⟩ = some _ from r4, show w4.cell? ⟨w.heap.size + 1 + 1 + 1, 5, none⟩ = some _ from r5, show w4.cell? ⟨w.heap.size + 1 + 1 + 1, 6, none⟩ = some _ from r6, show w4.cell? ⟨w.heap.size + 1 + 1 + 1, 7, none⟩ = some _ from r7, show w4.cell? ⟨w.heap.size + 1 + 1 + 1, 8, none⟩ = some _ from r8, show w4.cell? ⟨w.heap.size + 1 + 1 + 1, 9, none⟩ = some _ from r9, show w4.cell? ⟨w.heap.size + 1 + 1 + 1, 10, none⟩ = some _ from r10, show w4.cell? ⟨w.heap.size + 1 + 1 + 1, 11, none⟩ = some _ from r11, show w4.cell? ⟨w.heap.size + 1 + 1 + 1, 12, none⟩ = some _ from r12, show w4.cell? ⟨w.heap.size + 1 + 1 + 1, 13, none⟩ = some _ from r13, show w4.cell? ⟨w.heap.size + 1 + 1 + 1, 14, none⟩ = some _ from r14]) rfl ⟨by rw [HE.out], ?_⟩
  iterate 15 refine Since.setCell ?_ (by first | (simp; done) | (simp; omega)) _
  refine Since.trans ?_ HB4.out
  iterate 2 refine Since.setCell ?_ (by first | (simp; done) | (simp; omega)) _
  refine Since.trans ?_ HB3.out
  iterate 2 refine Since.setCell ?_ (by first | (simp; done) | (simp; omega)) _
  refine Since.trans ?_ HB2.out
  refine Since.trans ?_ HB1.out
  (repeat (first | exact Since.refl _ | refine Since.setCell ?_ (by first | (simp; done) | (simp; omega)) _ | refine Since.alloc ?_ _))
end Go.Proofs.Ytpacieocmogjeaa.Pl
namespace Go.Proofs.Ytpacieocmogjeaa.Pl
set_option linter.unusedVariables false
set_option linter.unusedSimpArgs false
open Go.RowKit Go.Proofs.Ytpacieocmogjeaa.Ba Go.Proofs.Ytpacieocmogjeaa.Do Go.Proofs.Ytpacieocmogjeaa.Mo Go.Proofs.Ytpacieocmogjeaa.Ty
set_option maxRecDepth 100000
theorem stepT (c : CfgV) (x : CarV) (r : Int) (o k : Bool) (h0 : 0 ≤ x.da) (h1 : x.da ≤ 1000) (u0 : -9223372036854775808 ≤ x.un) (u1 : x.un ≤ 9223372036854775807) (w : World) : Calls Try.prog 75 #[.agg #[.int .i64 c.ca, .int .i64 c.fl, .int .i64 c.ft, .int .i64 c.se, .int .i64 c.dr, .int .i64 c.dw, .int .i64 c.ho, .int .i64 c.re, .int .i64 c.yi, .int .i64 c.qu, .int .i64 c.qo, .int .i64 c.lo, .int .i64 c.sl, .int .i64 c.rt, .int .i64 c.cp, .int .i64 c.tr, .int .i64 c.de, .int .i64 c.wi], .agg #[.int .i64 x.ds, .int .i64 x.da, .int .i64 x.un, .int .i64 x.wy, .int .i64 x.ti, .int .i64 x.ju, .int .i64 x.lo, .bool x.bl, .bool x.br, .int .i64 x.mo, .int .i64 x.ta, .bool x.ho, .int .u64 x.sp, .int .u64 x.su, .int .u64 x.sd], .agg #[.int .i64 r, .bool o, .bool k]] w fun e w' => e = .returned (.agg #[.int .i64 (dS1 c x o k), .int .i64 (dA1 c x o k), .int .i64 (un1 c x r o k), .int .i64 (wy1 c x r o k), .int .i64 x.ti, .int .i64 x.ju, .int .i64 x.lo, .bool x.bl, .bool x.br, .int .i64 x.mo, .int .i64 x.ta, .bool x.ho, .int .u64 x.sp, .int .u64 x.su, .int .u64 x.sd]) ∧ Since w w' := by
  obtain ⟨ds, da, un, wy, ti, ju, lo, bl, br, mo, ta, ho, sp, su, sd⟩ := x
  cases br
  · by_cases hd : ds = 0
    · subst hd
      cases hz : (tS (toldS 0 un o k) da c.dr bl == 0)
      · exact shut_opens c ⟨0, da, un, wy, ti, ju, lo, bl, false, mo, ta, ho, sp, su, sd⟩ r o k h0 h1 u0 u1 hz w
      · by_cases hr1 : r = 1
        · subst hr1; exact shut_up c ⟨0, da, un, wy, ti, ju, lo, bl, false, mo, ta, ho, sp, su, sd⟩ o k h0 h1 u0 u1 hz w
        · by_cases hr2 : r = 2
          · subst hr2; exact shut_down c ⟨0, da, un, wy, ti, ju, lo, bl, false, mo, ta, ho, sp, su, sd⟩ o k h0 h1 u0 u1 hz w
          · exact shut_still c ⟨0, da, un, wy, ti, ju, lo, bl, false, mo, ta, ho, sp, su, sd⟩ r o k h0 h1 u0 u1 hz hr1 hr2 w
    · exact step_open c ⟨ds, da, un, wy, ti, ju, lo, bl, false, mo, ta, ho, sp, su, sd⟩ r o k h0 h1 u0 u1 hd w
  · exact step_br c ⟨ds, da, un, wy, ti, ju, lo, bl, true, mo, ta, ho, sp, su, sd⟩ r o k h0 h1 u0 u1 w
end Go.Proofs.Ytpacieocmogjeaa.Pl
namespace Go.Proofs.Ytpacieocmogjeaa.St
set_option linter.unusedVariables false
set_option linter.unusedSimpArgs false
/-- A number of 64 bits. -/
def R (x : Int) : Prop := 0 ≤ x ∧ x < 18446744073709551616
def tb (x : Int) (i : Nat) : Bool := x.toNat.testBit i
theorem R.nat {x : Int} (h : R x) : x.toNat < 18446744073709551616 := by unfold R at h; omega
theorem R.of_nat {n : Nat} (h : n < 18446744073709551616) : R (n : Int) := by unfold R; omega
theorem R.zero : R 0 := by unfold R; omega
theorem tb_hi {x : Int} (h : R x) {i : Nat} (hi : 64 ≤ i) : tb x i = false := by
  unfold tb
  apply Nat.testBit_lt_two_pow
  have h1 := h.nat
  have h2 : (2 : Nat) ^ 64 ≤ 2 ^ i := Nat.pow_le_pow_right (by omega) hi
  have h3 : (2 : Nat) ^ 64 = 18446744073709551616 := by decide
  omega
theorem ext {x y : Int} (hx : R x) (hy : R y) (h : ∀ i, i < 64 → tb x i = tb y i) : x = y := by
  have : x.toNat = y.toNat := by
    apply Nat.eq_of_testBit_eq
    intro i
    rcases Nat.lt_or_ge i 64 with hi | hi
    · exact h i hi
    · have a := tb_hi hx hi
      have b := tb_hi hy hi
      unfold tb at a b
      rw [a, b]
  unfold R at hx hy
  omega
theorem or_R {x y : Int} (hx : R x) (hy : R y) : R (bits .or .u64 x y) := by
  have a := hx.nat
  have b := hy.nat
  unfold R at hx hy
  rw [u64_or x y hx.1 hx.2 hy.1 hy.2]
  exact R.of_nat (by
    have := Nat.or_lt_two_pow (n := 64) (x := x.toNat) (y := y.toNat) (by omega) (by omega)
    simpa using this)
theorem or_tb {x y : Int} (hx : R x) (hy : R y) (i : Nat) : tb (bits .or .u64 x y) i = (tb x i || tb y i) := by
  unfold R at hx hy
  rw [u64_or x y hx.1 hx.2 hy.1 hy.2]
  unfold tb
  rw [Int.toNat_natCast, Nat.testBit_or]
theorem and_R {x y : Int} (hx : R x) (hy : R y) : R (bits .and .u64 x y) := by
  have a := hx.nat
  unfold R at hx hy
  rw [u64_and x y hx.1 hx.2 hy.1 hy.2]
  exact R.of_nat (by have := Nat.and_le_left (n := x.toNat) (m := y.toNat); omega)
theorem and_tb {x y : Int} (hx : R x) (hy : R y) (i : Nat) : tb (bits .and .u64 x y) i = (tb x i && tb y i) := by
  unfold R at hx hy
  rw [u64_and x y hx.1 hx.2 hy.1 hy.2]
  unfold tb
  rw [Int.toNat_natCast, Nat.testBit_and]
theorem an_R {x y : Int} (hx : R x) (hy : R y) : R (bits .andNot .u64 x y) := by
  have a := hx.nat
  unfold R at hx hy
  rw [u64_andNot x y hx.1 hx.2 hy.1 hy.2]
  exact R.of_nat (by have := Nat.and_le_left (n := x.toNat) (m := 18446744073709551615 - y.toNat); omega)
theorem an_tb {x y : Int} (hx : R x) (hy : R y) (i : Nat) : tb (bits .andNot .u64 x y) i = (tb x i && !tb y i) := by
  have hx' := hx
  have hy' := hy.nat
  unfold R at hx hy
  rw [u64_andNot x y hx.1 hx.2 hy.1 hy.2]
  rcases Nat.lt_or_ge i 64 with hi | hi
  · unfold tb
    rw [Int.toNat_natCast, Nat.testBit_and]
    have e : 18446744073709551615 - y.toNat = 2 ^ 64 - (y.toNat + 1) := by
      have : (2 : Nat) ^ 64 = 18446744073709551616 := by decide
      omega
    rw [e, Nat.testBit_two_pow_sub_succ (by have : (2 : Nat) ^ 64 = 18446744073709551616 := by decide
                                            omega)]
    simp [hi]
  · rw [tb_hi hx' hi]
    have : tb ((x.toNat &&& (18446744073709551615 - y.toNat) : Nat) : Int) i = false :=
      tb_hi (R.of_nat (by have := Nat.and_le_left (n := x.toNat) (m := 18446744073709551615 - y.toNat); have := hx'.nat; omega)) hi
    rw [this]; simp
/-- The floor's own bit; none of what is no floor. -/
def bit (f : Int) : Int := if 0 ≤ f ∧ f < 64 then ((2 ^ f.toNat : Nat) : Int) else 0
theorem bit_R (f : Int) : R (bit f) := by
  unfold bit
  split
  · rename_i h
    refine R.of_nat ?_
    have h2 : (2 : Nat) ^ f.toNat ≤ 2 ^ 63 := Nat.pow_le_pow_right (by omega) (by omega)
    have h3 : (2 : Nat) ^ 63 = 9223372036854775808 := by decide
    omega
  · exact R.zero
theorem bit_tb (f : Int) (i : Nat) : tb (bit f) i = decide (0 ≤ f ∧ f < 64 ∧ f = i) := by
  unfold bit
  split
  · rename_i h
    unfold tb
    rw [Int.toNat_natCast, Nat.testBit_two_pow]
    rw [decide_eq_decide]
    omega
  · rename_i h
    have : ¬ (0 ≤ f ∧ f < 64 ∧ f = i) := by omega
    rw [decide_eq_false this]
    simp [tb]
/-- Is a floor among them? -/
def mem (x f : Int) : Bool := decide (0 ≤ f ∧ f < 64) && tb x f.toNat
theorem zero_of {x : Int} (hx : R x) : x = 0 ↔ ∀ i, i < 64 → tb x i = false := by
  constructor
  · rintro rfl i _; simp [tb]
  · intro h
    exact ext hx R.zero fun i hi => by rw [h i hi]; simp [tb]
/-- A bit that is held against a set. -/
theorem and_bit {x : Int} (hx : R x) (f : Int) : (bits .and .u64 x (bit f) = 0) ↔ mem x f = false := by
  rw [zero_of (and_R hx (bit_R f))]
  constructor
  · intro h
    unfold mem
    by_cases hf : 0 ≤ f ∧ f < 64
    · have := h f.toNat (by omega)
      rw [and_tb hx (bit_R f), bit_tb] at this
      have e : decide (0 ≤ f ∧ f < 64 ∧ f = (f.toNat : Int)) = true := by simp; omega
      rw [e] at this
      simpa [hf] using this
    · simp [hf]
  · intro h i hi
    rw [and_tb hx (bit_R f), bit_tb]
    unfold mem at h
    by_cases hf : 0 ≤ f ∧ f < 64 ∧ f = i
    · have e : f.toNat = i := by omega
      rw [e] at h
      have : decide (0 ≤ f ∧ f < 64) = true := by simp; omega
      rw [this] at h
      simp at h
      rw [h]; simp
    · simp [hf]
/-- All floors of three sets. -/
def al (p u d : Int) : Int := bits .or .u64 (bits .or .u64 p u) d
theorem al_R {p u d : Int} (hp : R p) (hu : R u) (hd : R d) : R (al p u d) := or_R (or_R hp hu) hd
end Go.Proofs.Ytpacieocmogjeaa.St
namespace Go.Proofs.Ytpacieocmogjeaa.St
set_option linter.unusedVariables false
set_option linter.unusedSimpArgs false
open Go.RowKit Go.Proofs.Ytpacieocmogjeaa.Ba
set_option maxRecDepth 100000
theorem bitT (f : Int) (w : World) : Calls Try.prog 81 #[.int .i64 f] w fun e w' => e = .returned (.int .u64 (bit f)) ∧ w = w' := by
  by_cases h : 0 ≤ f ∧ f < 64
  · obtain ⟨h0, h1⟩ := h
    have hb := (bit_R f)
    have e : IntKind.u64.wrap (2 ^ f.toNat) = bit f := by
      have e1 : bit f = ((2 ^ f.toNat : Nat) : Int) := by unfold bit; rw [if_pos ⟨h0, h1⟩]
      unfold R at hb
      rw [e1] at hb
      rw [IntWalk.u64_in _ (by rw [Int.natCast_pow] at hb; simp at hb; omega), e1]
      simp
    have HE := Lib.hid e
    clear e hb
    go_enter Try.func81, Try.ntmps81
    go_wp2
    go_ret
    exact ⟨ret_int HE.out, rfl⟩
  · have e : bit f = 0 := by unfold bit; rw [if_neg h]
    have HE := Lib.hid e
    clear e
    rcases (show f < 0 ∨ 64 ≤ f by omega) with h1 | h1
    all_goals
      clear h
      go_enter Try.func81, Try.ntmps81
      go_wp2
      go_ret
      exact ⟨ret_int HE.out.symm, rfl⟩
theorem allT (p u d : Int) (w : World) : Calls Try.prog 110 #[.agg #[.int .u64 p, .int .u64 u, .int .u64 d]] w fun e w' => e = .returned (.int .u64 (al p u d)) ∧ Since w w' := by
  go_enter Try.func110, Try.ntmps110
  go_wp2
  go_ret
  exact ⟨rfl, (by repeat (first | exact Since.refl _ | assumption | refine Since.setCell ?_ (by first | (simp; done) | (simp; omega)) _ | refine Since.drew ?_ | refine Since.drewN ?_ _ | refine Since.alloc ?_ _ | refine Since.trans ?_ (by assumption) | refine Since.trans ?_ (Hid.out (by assumption))))⟩
theorem pressT (p u d f : Int) (w : World) : Calls Try.prog 59 #[.agg #[.int .u64 p, .int .u64 u, .int .u64 d], .int .i64 f] w fun e w' => e = .returned (.agg #[.int .u64 (bits .or .u64 p (bit f)), .int .u64 u, .int .u64 d]) ∧ Since w w' := by
  go_enter Try.func59, Try.ntmps59
  go_wp2_with fail
  go_region_with (first | (go_at_call 81; refine (bitT _ _).mono ?_; rintro e w' ⟨rfl, rfl⟩))
  all_goals
    go_wp2
    exact bodyPost_ret (v := .agg #[.int .u64 (bits .or .u64 p (bit f)), .int .u64 u, .int .u64 d]) (by simp [results, Try.results59, go_sem]) rfl ⟨rfl, (by repeat (first | exact Since.refl _ | assumption | refine Since.setCell ?_ (by first | (simp; done) | (simp; omega)) _ | refine Since.drew ?_ | refine Since.drewN ?_ _ | refine Since.alloc ?_ _ | refine Since.trans ?_ (by assumption) | refine Since.trans ?_ (Hid.out (by assumption))))⟩
/-- A hall call; what is cleared. -/
def haU (u f way : Int) : Int := if way = 1 then bits .or .u64 u (bit f) else u
def haD (d f way : Int) : Int := if way = 2 then bits .or .u64 d (bit f) else d
theorem hallT (p u d f way : Int) (w : World) : Calls Try.prog 71 #[.agg #[.int .u64 p, .int .u64 u, .int .u64 d], .int .i64 f, .int .i64 way] w fun e w' => e = .returned (.agg #[.int .u64 p, .int .u64 (haU u f way), .int .u64 (haD d f way)]) ∧ Since w w' := by
  by_cases h1 : way = 1
  · subst h1
    have HU := Lib.hid (show haU u f 1 = bits .or .u64 u (bit f) by unfold haU; simp)
    have HD := Lib.hid (show haD d f 1 = d by unfold haD; simp)
    go_enter Try.func71, Try.ntmps71
    go_wp2_with fail
    go_region_with (first | (go_at_call 81; refine (bitT _ _).mono ?_; rintro e w' ⟨rfl, rfl⟩))
    all_goals
      go_wp2
      exact bodyPost_ret (v := .agg #[.int .u64 p, .int .u64 (bits .or .u64 u (bit f)), .int .u64 d]) (by simp [results, Try.results71, go_sem]) rfl ⟨by rw [HU.out, HD.out], (by repeat (first | exact Since.refl _ | assumption | refine Since.setCell ?_ (by first | (simp; done) | (simp; omega)) _ | refine Since.drew ?_ | refine Since.drewN ?_ _ | refine Since.alloc ?_ _ | refine Since.trans ?_ (by assumption) | refine Since.trans ?_ (Hid.out (by assumption))))⟩
  · have h1' : (way == 1) = false := by simpa using h1
    by_cases h2 : way = 2
    · subst h2
      have HU := Lib.hid (show haU u f 2 = u by unfold haU; simp)
      have HD := Lib.hid (show haD d f 2 = bits .or .u64 d (bit f) by unfold haD; simp)
      go_enter Try.func71, Try.ntmps71
      go_wp2_with fail
      go_region_with (first | (go_at_call 81; refine (bitT _ _).mono ?_; rintro e w' ⟨rfl, rfl⟩))
      all_goals
        go_wp2
        exact bodyPost_ret (v := .agg #[.int .u64 p, .int .u64 u, .int .u64 (bits .or .u64 d (bit f))]) (by simp [results, Try.results71, go_sem]) rfl ⟨by rw [HU.out, HD.out], (by repeat (first | exact Since.refl _ | assumption | refine Since.setCell ?_ (by first | (simp; done) | (simp; omega)) _ | refine Since.drew ?_ | refine Since.drewN ?_ _ | refine Since.alloc ?_ _ | refine Since.trans ?_ (by assumption) | refine Since.trans ?_ (Hid.out (by assumption))))⟩
    · have h2' : (way == 2) = false := by simpa using h2
      have HU := Lib.hid (show haU u f way = u by unfold haU; simp [h1])
      have HD := Lib.hid (show haD d f way = d by unfold haD; simp [h2])
      go_enter Try.func71, Try.ntmps71
      go_wp2
      exact bodyPost_ret (v := .agg #[.int .u64 p, .int .u64 u, .int .u64 d]) (by simp [results, Try.results71, go_sem]) rfl ⟨by rw [HU.out, HD.out], (by repeat (first | exact Since.refl _ | assumption | refine Since.setCell ?_ (by first | (simp; done) | (simp; omega)) _ | refine Since.drew ?_ | refine Since.drewN ?_ _ | refine Since.alloc ?_ _ | refine Since.trans ?_ (by assumption) | refine Since.trans ?_ (Hid.out (by assumption))))⟩
def clP (p f : Int) : Int := bits .andNot .u64 p (bit f)
def clU (u f way : Int) : Int := if way = 1 then bits .andNot .u64 u (bit f) else u
def clD (d f way : Int) : Int := if way = 2 then bits .andNot .u64 d (bit f) else d
set_option maxHeartbeats 1000000 in
theorem clearT (p u d f way : Int) (w : World) : Calls Try.prog 94 #[.agg #[.int .u64 p, .int .u64 u, .int .u64 d], .int .i64 f, .int .i64 way] w fun e w' => e = .returned (.agg #[.int .u64 (clP p f), .int .u64 (clU u f way), .int .u64 (clD d f way)]) ∧ Since w w' := by
  have HP := Lib.hid (show clP p f = bits .andNot .u64 p (bit f) from rfl)
  by_cases h1 : way = 1
  · subst h1
    have HU := Lib.hid (show clU u f 1 = bits .andNot .u64 u (bit f) by unfold clU; simp)
    have HD := Lib.hid (show clD d f 1 = d by unfold clD; simp)
    go_enter Try.func94, Try.ntmps94
    go_wp2_with fail
    go_region_with (first | (go_at_call 81; refine (bitT _ _).mono ?_; rintro e w' ⟨rfl, rfl⟩))
    all_goals
      go_wp2_with fail
      go_region_with (first | (go_at_call 81; refine (bitT _ _).mono ?_; rintro e w' ⟨rfl, rfl⟩))
      all_goals
        go_wp2
        exact bodyPost_ret (v := .agg #[.int .u64 (bits .andNot .u64 p (bit f)), .int .u64 (bits .andNot .u64 u (bit f)), .int .u64 d]) (by simp [results, Try.results94, go_sem]) rfl ⟨by rw [HP.out, HU.out, HD.out], (by repeat (first | exact Since.refl _ | assumption | refine Since.setCell ?_ (by first | (simp; done) | (simp; omega)) _ | refine Since.drew ?_ | refine Since.drewN ?_ _ | refine Since.alloc ?_ _ | refine Since.trans ?_ (by assumption) | refine Since.trans ?_ (Hid.out (by assumption))))⟩
  · have h1' : (way == 1) = false := by simpa using h1
    by_cases h2 : way = 2
    · subst h2
      have HU := Lib.hid (show clU u f 2 = u by unfold clU; simp)
      have HD := Lib.hid (show clD d f 2 = bits .andNot .u64 d (bit f) by unfold clD; simp)
      go_enter Try.func94, Try.ntmps94
      go_wp2_with fail
      go_region_with (first | (go_at_call 81; refine (bitT _ _).mono ?_; rintro e w' ⟨rfl, rfl⟩))
      all_goals
        go_wp2_with fail
        go_region_with (first | (go_at_call 81; refine (bitT _ _).mono ?_; rintro e w' ⟨rfl, rfl⟩))
        all_goals
          go_wp2
          exact bodyPost_ret (v := .agg #[.int .u64 (bits .andNot .u64 p (bit f)), .int .u64 u, .int .u64 (bits .andNot .u64 d (bit f))]) (by simp [results, Try.results94, go_sem]) rfl ⟨by rw [HP.out, HU.out, HD.out], (by repeat (first | exact Since.refl _ | assumption | refine Since.setCell ?_ (by first | (simp; done) | (simp; omega)) _ | refine Since.drew ?_ | refine Since.drewN ?_ _ | refine Since.alloc ?_ _ | refine Since.trans ?_ (by assumption) | refine Since.trans ?_ (Hid.out (by assumption))))⟩
    · have h2' : (way == 2) = false := by simpa using h2
      have HU := Lib.hid (show clU u f way = u by unfold clU; simp [h1])
      have HD := Lib.hid (show clD d f way = d by unfold clD; simp [h2])
      go_enter Try.func94, Try.ntmps94
      go_wp2_with fail
      go_region_with (first | (go_at_call 81; refine (bitT _ _).mono ?_; rintro e w' ⟨rfl, rfl⟩))
      all_goals
        go_wp2
        exact bodyPost_ret (v := .agg #[.int .u64 (bits .andNot .u64 p (bit f)), .int .u64 u, .int .u64 d]) (by simp [results, Try.results94, go_sem]) rfl ⟨by rw [HP.out, HU.out, HD.out], (by repeat (first | exact Since.refl _ | assumption | refine Since.setCell ?_ (by first | (simp; done) | (simp; omega)) _ | refine Since.drew ?_ | refine Since.drewN ?_ _ | refine Since.alloc ?_ _ | refine Since.trans ?_ (by assumption) | refine Since.trans ?_ (Hid.out (by assumption))))⟩
theorem ne_mem {x : Int} (hx : R x) (f : Int) : (bits .and .u64 x (bit f) != 0) = mem x f := by
  rw [Bool.eq_iff_iff, bne_iff_ne]
  cases h : mem x f
  · simp; exact (and_bit hx f).2 h
  · simp; intro e; rw [(and_bit hx f).1 e] at h; cases h
/-- A hall call there, that way. -/
def atB (u d f way : Int) : Bool := (way == 1 && mem u f) || (way == 2 && mem d f)
theorem atT (p u d f way : Int) (hu : R u) (hd : R d) (w : World) : Calls Try.prog 93 #[.agg #[.int .u64 p, .int .u64 u, .int .u64 d], .int .i64 f, .int .i64 way] w fun e w' => e = .returned (.bool (atB u d f way)) ∧ Since w w' := by
  have HM := Lib.hid (ne_mem hu f)
  have HN := Lib.hid (ne_mem hd f)
  clear hu hd
  by_cases h1 : way = 1
  · subst h1
    have HA := Lib.hid (show atB u d f 1 = mem u f by unfold atB; simp)
    go_enter Try.func93, Try.ntmps93
    go_wp2_with fail
    go_quiet ((go_at_call 81; exact quiet_eq (bitT _ _)))
    go_wp2
    go_ret
    exact ⟨ret_bool (by rw [HM.out, HA.out]), (by repeat (first | exact Since.refl _ | assumption | refine Since.setCell ?_ (by first | (simp; done) | (simp; omega)) _ | refine Since.drew ?_ | refine Since.drewN ?_ _ | refine Since.alloc ?_ _ | refine Since.trans ?_ (by assumption) | refine Since.trans ?_ (Hid.out (by assumption))))⟩
  · have h1' : (way == 1) = false := by simpa using h1
    by_cases h2 : way = 2
    · subst h2
      have HA := Lib.hid (show atB u d f 2 = mem d f by unfold atB; simp)
      go_enter Try.func93, Try.ntmps93
      go_wp2_with fail
      go_quiet ((go_at_call 81; exact quiet_eq (bitT _ _)))
      go_wp2
      go_ret
      exact ⟨ret_bool (by rw [HN.out, HA.out]), (by repeat (first | exact Since.refl _ | assumption | refine Since.setCell ?_ (by first | (simp; done) | (simp; omega)) _ | refine Since.drew ?_ | refine Since.drewN ?_ _ | refine Since.alloc ?_ _ | refine Since.trans ?_ (by assumption) | refine Since.trans ?_ (Hid.out (by assumption))))⟩
    · have h2' : (way == 2) = false := by simpa using h2
      have HA := Lib.hid (show atB u d f way = false by unfold atB; simp [h1', h2'])
      go_enter Try.func93, Try.ntmps93
      go_wp2
      go_ret
      exact ⟨ret_bool HA.out.symm, (by repeat (first | exact Since.refl _ | assumption | refine Since.setCell ?_ (by first | (simp; done) | (simp; omega)) _ | refine Since.drew ?_ | refine Since.drewN ?_ _ | refine Since.alloc ?_ _ | refine Since.trans ?_ (by assumption) | refine Since.trans ?_ (Hid.out (by assumption))))⟩
/-- Anything there. -/
def heB (p u d f : Int) : Bool := mem (al p u d) f
theorem hereT (p u d f : Int) (hp : R p) (hu : R u) (hd : R d) (w : World) : Calls Try.prog 108 #[.agg #[.int .u64 p, .int .u64 u, .int .u64 d], .int .i64 f] w fun e w' => e = .returned (.bool (heB p u d f)) ∧ Since w w' := by
  have HM := Lib.hid (ne_mem (al_R hp hu hd) f)
  clear hp hu hd
  go_enter Try.func108, Try.ntmps108
  go_wp2_with fail
  refine (allT _ _ _ _).mono ?_
  rintro e w1 ⟨rfl, hb1⟩
  go_wp2_with (first | (go_at_call 81; refine (bitT _ _).mono ?_; rintro e w' ⟨rfl, rfl⟩))
  go_ret
  exact ⟨ret_bool HM.out, (by repeat (first | exact Since.refl _ | assumption | refine Since.setCell ?_ (by first | (simp; done) | (simp; omega)) _ | refine Since.drew ?_ | refine Since.drewN ?_ _ | refine Since.alloc ?_ _ | refine Since.trans ?_ (by assumption) | refine Since.trans ?_ (Hid.out (by assumption))))⟩
end Go.Proofs.Ytpacieocmogjeaa.St
