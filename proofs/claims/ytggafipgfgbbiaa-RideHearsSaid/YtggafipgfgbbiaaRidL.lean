/-
  RideTicks and RideHears, walked.
  No condition.
-/
import Derived.Test.YtggafipgfgbbiaaRidA
namespace Go.Proofs.Ytggafipgfgbbiaa.Ri
set_option linter.unusedVariables false
set_option linter.unusedSimpArgs false
open Go.RowKit Go.Proofs.Ytggafipgfgbbiaa.Ba Go.Proofs.Ytggafipgfgbbiaa.Mo Go.Proofs.Ytggafipgfgbbiaa.Ty Go.Proofs.Ytggafipgfgbbiaa.Mem Go.Proofs.Ytggafipgfgbbiaa.Tm Go.Proofs.Ytggafipgfgbbiaa.Tw
open Go.Proofs.Ytggafipgfgbbiaa.Ce (ms ms_lo ms_hi massT nearT nr)
open Go.Proofs.Ytggafipgfgbbiaa.Fl (massR)
set_option maxRecDepth 100000
set_option maxHeartbeats 4000000 in
theorem ticksX0 (c : CfgV) (l : LeaseV) (x : CarV) (now : Int) (h0 : l.un < 0) (w : World) : Calls Try.prog 11 #[.agg #[.int .i64 c.ca, .int .i64 c.fl, .int .i64 c.ft, .int .i64 c.se, .int .i64 c.dr, .int .i64 c.dw, .int .i64 c.ho, .int .i64 c.re, .int .i64 c.yi, .int .i64 c.qu, .int .i64 c.qo, .int .i64 c.lo, .int .i64 c.sl, .int .i64 c.rt, .int .i64 c.cp, .int .i64 c.tr, .int .i64 c.de, .int .i64 c.wi], .agg #[.int .i64 l.se, .int .i64 l.fl, .int .i64 l.fm, .int .i64 l.to, .int .i64 l.ma, .int .i64 l.ca, .int .i64 l.ph, .int .i64 l.un, .int .i64 l.re, .int .i64 l.gr], .agg #[.int .i64 x.ds, .int .i64 x.da, .int .i64 x.un, .int .i64 x.wy, .int .i64 x.ti, .int .i64 x.ju, .int .i64 x.lo, .bool x.bl, .bool x.br, .int .i64 x.mo, .int .i64 x.ta, .bool x.ho, .int .u64 x.sp, .int .u64 x.su, .int .u64 x.sd], .int .i64 now] w fun e w' => e = .returned (.bool true) ∧ Since w w' := by
  have H0 := Lib.hid h0
  clear h0
  go_enter Try.func11, Try.ntmps11
  go_upto_region 1 with fail
  obtain ⟨w1, hw1⟩ : ∃ w1, w1 = (((w.alloc (.cells #[.int .i64 c.ca, .int .i64 c.fl, .int .i64 c.ft, .int .i64 c.se, .int .i64 c.dr, .int .i64 c.dw, .int .i64 c.ho, .int .i64 c.re, .int .i64 c.yi, .int .i64 c.qu, .int .i64 c.qo, .int .i64 c.lo, .int .i64 c.sl, .int .i64 c.rt, .int .i64 c.cp, .int .i64 c.tr, .int .i64 c.de, .int .i64 c.wi] 23)).alloc (.cells #[.int .i64 l.se, .int .i64 l.fl, .int .i64 l.fm, .int .i64 l.to, .int .i64 l.ma, .int .i64 l.ca, .int .i64 l.ph, .int .i64 l.un, .int .i64 l.re, .int .i64 l.gr] 56)).alloc (.cells #[.int .i64 x.ds, .int .i64 x.da, .int .i64 x.un, .int .i64 x.wy, .int .i64 x.ti, .int .i64 x.ju, .int .i64 x.lo, .bool x.bl, .bool x.br, .int .i64 x.mo, .int .i64 x.ta, .bool x.ho, .int .u64 x.sp, .int .u64 x.su, .int .u64 x.sd] 76)) := ⟨_, rfl⟩
  rw [← hw1]
  have HBC1 := Lib.hid (show Blk w1 (w.heap.size) 23 (cfgA c) by rw [hw1]; exact Blk.alloc (Blk.alloc (Blk.at_ (by (try simp only [size_alloc])) _ _) _) _)
  have HBL1 := Lib.hid (show Blk w1 (w.heap.size + 1) 56 (leaA l) by rw [hw1]; exact Blk.alloc (Blk.at_ (by (try simp only [size_alloc])) _ _) _)
  have HBX1 := Lib.hid (show Blk w1 (w.heap.size + 1 + 1) 76 (carA x) by rw [hw1]; exact Blk.at_ (by (try simp only [size_alloc])) _ _)
  have HS1 := Lib.hid (show Since w w1 by rw [hw1]; exact Since.alloc (Since.alloc (Since.alloc (Since.refl w) _) _) _)
  have hNE : w.heap.size ≤ w.heap.size ∧ w.heap.size < w.heap.size + 1 ∧ w.heap.size + 1 < w.heap.size + 1 + 1 := by omega
  have HNE := Lib.hid hNE
  clear hNE hw1
  generalize w.heap.size + 1 + 1 = bX at *
  generalize w.heap.size + 1 = bL at *
  have HNE3 := Lib.hid (show w.heap.size ≤ w.heap.size ∧ w.heap.size < bL ∧ bL < bX from HNE.out)
  clear HNE
  refine wp_region_lit ?_
  refine wpList_q (by rfl) (.pointer (some ⟨bL, 7, none⟩)) ?he ?_
  case he => (first | rfl | (go_simp; (try with_reducible rfl)))
  (try simp only [Act.put, sA, sB, sC])
  refine wpList_q (by rfl) (.int .i64 l.un) ?he ?_
  case he => exact exec_cell 3 _ _ HBL1.out rfl rfl rfl Try.underlying3 rfl
  (try simp only [Act.put, sA, sB, sC])
  refine wpList_q (by rfl) (.bool true) ?he ?_
  case he => (have hq := H0.out; go_simp; (try with_reducible rfl))
  (try simp only [Act.put, sA, sB, sC])
  refine wpList_q (by rfl) (.bool true) ?he ?_
  case he => (first | rfl | (go_simp; (try with_reducible rfl)))
  (try simp only [Act.put, sA, sB, sC])
  refine wpList_no (by rfl) ?_
  (try simp only [Act.put, sA, sB, sC])
  refine wpList_no (by rfl) ?_
  (try simp only [Act.put, sA, sB, sC])
  refine wpList_no (by rfl) ?_
  (try simp only [Act.put, sA, sB, sC])
  refine wpList_q (by rfl) (.bool true) ?he ?_
  case he => (first | rfl | (go_simp; (try with_reducible rfl)))
  (try simp only [Act.put, sA, sB, sC])
  refine wpList_nil ?_
  go_upto_region 2 with fail
  refine wp_region_lit ?_
  refine wpList_wp (by rfl) (fun K hK => ?_)
  (try go_simp)
  refine (ans _).mono ?_
  rintro e w2 ⟨rfl, hb⟩
  (try go_wp2_with fail)
  refine hK.out _ _ ?_
  clear hK K
  (try simp only [Act.put, sA, sB, sC])
  have HS2 := Lib.hid (Since.trans HS1.out hb)
  have HBC2 := Lib.hid (keep_blk hb HBC1.out)
  have HBL2 := Lib.hid (keep_blk hb HBL1.out)
  have HBX2 := Lib.hid (keep_blk hb HBX1.out)
  clear HS1 HBC1 HBL1 HBX1
  clear hb
  refine wpList_q (by rfl) (.bool true) ?he ?_
  case he => (first | rfl | (go_simp; (try with_reducible rfl)))
  (try simp only [Act.put, sA, sB, sC])
  refine wpList_nil ?_
  (try go_wp2_with fail)
  go_ret
  exact ⟨rfl, HS2.out⟩
set_option maxHeartbeats 4000000 in
theorem ticksX1 (c : CfgV) (l : LeaseV) (x : CarV) (now : Int) (h0 : ¬ (l.un < 0)) (h1 : 1099511627776 < l.un) (w : World) : Calls Try.prog 11 #[.agg #[.int .i64 c.ca, .int .i64 c.fl, .int .i64 c.ft, .int .i64 c.se, .int .i64 c.dr, .int .i64 c.dw, .int .i64 c.ho, .int .i64 c.re, .int .i64 c.yi, .int .i64 c.qu, .int .i64 c.qo, .int .i64 c.lo, .int .i64 c.sl, .int .i64 c.rt, .int .i64 c.cp, .int .i64 c.tr, .int .i64 c.de, .int .i64 c.wi], .agg #[.int .i64 l.se, .int .i64 l.fl, .int .i64 l.fm, .int .i64 l.to, .int .i64 l.ma, .int .i64 l.ca, .int .i64 l.ph, .int .i64 l.un, .int .i64 l.re, .int .i64 l.gr], .agg #[.int .i64 x.ds, .int .i64 x.da, .int .i64 x.un, .int .i64 x.wy, .int .i64 x.ti, .int .i64 x.ju, .int .i64 x.lo, .bool x.bl, .bool x.br, .int .i64 x.mo, .int .i64 x.ta, .bool x.ho, .int .u64 x.sp, .int .u64 x.su, .int .u64 x.sd], .int .i64 now] w fun e w' => e = .returned (.bool true) ∧ Since w w' := by
  have H0 := Lib.hid h0
  clear h0
  have H1 := Lib.hid h1
  clear h1
  go_enter Try.func11, Try.ntmps11
  go_upto_region 1 with fail
  obtain ⟨w1, hw1⟩ : ∃ w1, w1 = (((w.alloc (.cells #[.int .i64 c.ca, .int .i64 c.fl, .int .i64 c.ft, .int .i64 c.se, .int .i64 c.dr, .int .i64 c.dw, .int .i64 c.ho, .int .i64 c.re, .int .i64 c.yi, .int .i64 c.qu, .int .i64 c.qo, .int .i64 c.lo, .int .i64 c.sl, .int .i64 c.rt, .int .i64 c.cp, .int .i64 c.tr, .int .i64 c.de, .int .i64 c.wi] 23)).alloc (.cells #[.int .i64 l.se, .int .i64 l.fl, .int .i64 l.fm, .int .i64 l.to, .int .i64 l.ma, .int .i64 l.ca, .int .i64 l.ph, .int .i64 l.un, .int .i64 l.re, .int .i64 l.gr] 56)).alloc (.cells #[.int .i64 x.ds, .int .i64 x.da, .int .i64 x.un, .int .i64 x.wy, .int .i64 x.ti, .int .i64 x.ju, .int .i64 x.lo, .bool x.bl, .bool x.br, .int .i64 x.mo, .int .i64 x.ta, .bool x.ho, .int .u64 x.sp, .int .u64 x.su, .int .u64 x.sd] 76)) := ⟨_, rfl⟩
  rw [← hw1]
  have HBC1 := Lib.hid (show Blk w1 (w.heap.size) 23 (cfgA c) by rw [hw1]; exact Blk.alloc (Blk.alloc (Blk.at_ (by (try simp only [size_alloc])) _ _) _) _)
  have HBL1 := Lib.hid (show Blk w1 (w.heap.size + 1) 56 (leaA l) by rw [hw1]; exact Blk.alloc (Blk.at_ (by (try simp only [size_alloc])) _ _) _)
  have HBX1 := Lib.hid (show Blk w1 (w.heap.size + 1 + 1) 76 (carA x) by rw [hw1]; exact Blk.at_ (by (try simp only [size_alloc])) _ _)
  have HS1 := Lib.hid (show Since w w1 by rw [hw1]; exact Since.alloc (Since.alloc (Since.alloc (Since.refl w) _) _) _)
  have hNE : w.heap.size ≤ w.heap.size ∧ w.heap.size < w.heap.size + 1 ∧ w.heap.size + 1 < w.heap.size + 1 + 1 := by omega
  have HNE := Lib.hid hNE
  clear hNE hw1
  generalize w.heap.size + 1 + 1 = bX at *
  generalize w.heap.size + 1 = bL at *
  have HNE3 := Lib.hid (show w.heap.size ≤ w.heap.size ∧ w.heap.size < bL ∧ bL < bX from HNE.out)
  clear HNE
  refine wp_region_lit ?_
  refine wpList_q (by rfl) (.pointer (some ⟨bL, 7, none⟩)) ?he ?_
  case he => (first | rfl | (go_simp; (try with_reducible rfl)))
  (try simp only [Act.put, sA, sB, sC])
  refine wpList_q (by rfl) (.int .i64 l.un) ?he ?_
  case he => exact exec_cell 3 _ _ HBL1.out rfl rfl rfl Try.underlying3 rfl
  (try simp only [Act.put, sA, sB, sC])
  refine wpList_q (by rfl) (.bool false) ?he ?_
  case he => (have hq := H0.out; go_simp; (try with_reducible rfl))
  (try simp only [Act.put, sA, sB, sC])
  refine wpList_q (by rfl) (.bool false) ?he ?_
  case he => (first | rfl | (go_simp; (try with_reducible rfl)))
  (try simp only [Act.put, sA, sB, sC])
  refine wpList_q (by rfl) (.pointer (some ⟨bL, 7, none⟩)) ?he ?_
  case he => (first | rfl | (go_simp; (try with_reducible rfl)))
  (try simp only [Act.put, sA, sB, sC])
  refine wpList_q (by rfl) (.int .i64 l.un) ?he ?_
  case he => exact exec_cell 3 _ _ HBL1.out rfl rfl rfl Try.underlying3 rfl
  (try simp only [Act.put, sA, sB, sC])
  refine wpList_q (by rfl) (.bool true) ?he ?_
  case he => (have hq := H1.out; go_simp; (try with_reducible rfl))
  (try simp only [Act.put, sA, sB, sC])
  refine wpList_q (by rfl) (.bool true) ?he ?_
  case he => (first | rfl | (go_simp; (try with_reducible rfl)))
  (try simp only [Act.put, sA, sB, sC])
  refine wpList_nil ?_
  go_upto_region 2 with fail
  refine wp_region_lit ?_
  refine wpList_wp (by rfl) (fun K hK => ?_)
  (try go_simp)
  refine (ans _).mono ?_
  rintro e w2 ⟨rfl, hb⟩
  (try go_wp2_with fail)
  refine hK.out _ _ ?_
  clear hK K
  (try simp only [Act.put, sA, sB, sC])
  have HS2 := Lib.hid (Since.trans HS1.out hb)
  have HBC2 := Lib.hid (keep_blk hb HBC1.out)
  have HBL2 := Lib.hid (keep_blk hb HBL1.out)
  have HBX2 := Lib.hid (keep_blk hb HBX1.out)
  clear HS1 HBC1 HBL1 HBX1
  clear hb
  refine wpList_q (by rfl) (.bool true) ?he ?_
  case he => (first | rfl | (go_simp; (try with_reducible rfl)))
  (try simp only [Act.put, sA, sB, sC])
  refine wpList_nil ?_
  (try go_wp2_with fail)
  go_ret
  exact ⟨rfl, HS2.out⟩
set_option maxHeartbeats 4000000 in
theorem ticks_none (c : CfgV) (l : LeaseV) (x : CarV) (now : Int) (a : LeaseV) (ov : Bool) (HT : Hid (∀ W, Calls Try.prog 50 #[.agg #[.int .i64 c.ca, .int .i64 c.fl, .int .i64 c.ft, .int .i64 c.se, .int .i64 c.dr, .int .i64 c.dw, .int .i64 c.ho, .int .i64 c.re, .int .i64 c.yi, .int .i64 c.qu, .int .i64 c.qo, .int .i64 c.lo, .int .i64 c.sl, .int .i64 c.rt, .int .i64 c.cp, .int .i64 c.tr, .int .i64 c.de, .int .i64 c.wi], .agg #[.int .i64 l.se, .int .i64 l.fl, .int .i64 l.fm, .int .i64 l.to, .int .i64 l.ma, .int .i64 l.ca, .int .i64 l.ph, .int .i64 l.un, .int .i64 l.re, .int .i64 l.gr], .agg #[.int .i64 x.ds, .int .i64 x.da, .int .i64 x.un, .int .i64 x.wy, .int .i64 x.ti, .int .i64 x.ju, .int .i64 x.lo, .bool x.bl, .bool x.br, .int .i64 x.mo, .int .i64 x.ta, .bool x.ho, .int .u64 x.sp, .int .u64 x.su, .int .u64 x.sd], .int .i64 now] W (Said W (a, none, ov)))) (HR : Hid (∀ W, Calls Try.prog 51 #[.agg #[.int .i64 c.ca, .int .i64 c.fl, .int .i64 c.ft, .int .i64 c.se, .int .i64 c.dr, .int .i64 c.dw, .int .i64 c.ho, .int .i64 c.re, .int .i64 c.yi, .int .i64 c.qu, .int .i64 c.qo, .int .i64 c.lo, .int .i64 c.sl, .int .i64 c.rt, .int .i64 c.cp, .int .i64 c.tr, .int .i64 c.de, .int .i64 c.wi], .agg #[.int .i64 l.se, .int .i64 l.fl, .int .i64 l.fm, .int .i64 l.to, .int .i64 l.ma, .int .i64 l.ca, .int .i64 l.ph, .int .i64 l.un, .int .i64 l.re, .int .i64 l.gr], .agg #[.int .i64 x.ds, .int .i64 x.da, .int .i64 x.un, .int .i64 x.wy, .int .i64 x.ti, .int .i64 x.ju, .int .i64 x.lo, .bool x.bl, .bool x.br, .int .i64 x.mo, .int .i64 x.ta, .bool x.ho, .int .u64 x.sp, .int .u64 x.su, .int .u64 x.sd], .int .i64 now] W (Said W (a, none, ov)))) (h0 : ¬ (l.un < 0)) (h1 : ¬ (1099511627776 < l.un)) (w : World) : Calls Try.prog 11 #[.agg #[.int .i64 c.ca, .int .i64 c.fl, .int .i64 c.ft, .int .i64 c.se, .int .i64 c.dr, .int .i64 c.dw, .int .i64 c.ho, .int .i64 c.re, .int .i64 c.yi, .int .i64 c.qu, .int .i64 c.qo, .int .i64 c.lo, .int .i64 c.sl, .int .i64 c.rt, .int .i64 c.cp, .int .i64 c.tr, .int .i64 c.de, .int .i64 c.wi], .agg #[.int .i64 l.se, .int .i64 l.fl, .int .i64 l.fm, .int .i64 l.to, .int .i64 l.ma, .int .i64 l.ca, .int .i64 l.ph, .int .i64 l.un, .int .i64 l.re, .int .i64 l.gr], .agg #[.int .i64 x.ds, .int .i64 x.da, .int .i64 x.un, .int .i64 x.wy, .int .i64 x.ti, .int .i64 x.ju, .int .i64 x.lo, .bool x.bl, .bool x.br, .int .i64 x.mo, .int .i64 x.ta, .bool x.ho, .int .u64 x.sp, .int .u64 x.su, .int .u64 x.sd], .int .i64 now] w fun e w' => e = .returned (.bool true) ∧ Since w w' := by
  have c1 := cl_lo now
  have c2 := cl_hi now
  have HE := Lib.hid (cl_id l.un (by omega) (by omega))
  have HLV := Lib.hid (show (l.un - cl now < 0 ∧ leftV l now = 0) ∨ (¬ (l.un - cl now < 0) ∧ leftV l now = l.un - cl now) by unfold leftV; rw [HE.out]; by_cases h : l.un - cl now < 0 <;> simp [h])
  have H0 := Lib.hid h0
  clear h0
  have H1 := Lib.hid h1
  clear h1
  have C1 := Lib.hid c1
  have C2 := Lib.hid c2
  clear c1 c2
  go_enter Try.func11, Try.ntmps11
  go_upto_region 1 with fail
  obtain ⟨w1, hw1⟩ : ∃ w1, w1 = (((w.alloc (.cells #[.int .i64 c.ca, .int .i64 c.fl, .int .i64 c.ft, .int .i64 c.se, .int .i64 c.dr, .int .i64 c.dw, .int .i64 c.ho, .int .i64 c.re, .int .i64 c.yi, .int .i64 c.qu, .int .i64 c.qo, .int .i64 c.lo, .int .i64 c.sl, .int .i64 c.rt, .int .i64 c.cp, .int .i64 c.tr, .int .i64 c.de, .int .i64 c.wi] 23)).alloc (.cells #[.int .i64 l.se, .int .i64 l.fl, .int .i64 l.fm, .int .i64 l.to, .int .i64 l.ma, .int .i64 l.ca, .int .i64 l.ph, .int .i64 l.un, .int .i64 l.re, .int .i64 l.gr] 56)).alloc (.cells #[.int .i64 x.ds, .int .i64 x.da, .int .i64 x.un, .int .i64 x.wy, .int .i64 x.ti, .int .i64 x.ju, .int .i64 x.lo, .bool x.bl, .bool x.br, .int .i64 x.mo, .int .i64 x.ta, .bool x.ho, .int .u64 x.sp, .int .u64 x.su, .int .u64 x.sd] 76)) := ⟨_, rfl⟩
  rw [← hw1]
  have HBC1 := Lib.hid (show Blk w1 (w.heap.size) 23 (cfgA c) by rw [hw1]; exact Blk.alloc (Blk.alloc (Blk.at_ (by (try simp only [size_alloc])) _ _) _) _)
  have HBL1 := Lib.hid (show Blk w1 (w.heap.size + 1) 56 (leaA l) by rw [hw1]; exact Blk.alloc (Blk.at_ (by (try simp only [size_alloc])) _ _) _)
  have HBX1 := Lib.hid (show Blk w1 (w.heap.size + 1 + 1) 76 (carA x) by rw [hw1]; exact Blk.at_ (by (try simp only [size_alloc])) _ _)
  have HS1 := Lib.hid (show Since w w1 by rw [hw1]; exact Since.alloc (Since.alloc (Since.alloc (Since.refl w) _) _) _)
  have hNE : w.heap.size ≤ w.heap.size ∧ w.heap.size < w.heap.size + 1 ∧ w.heap.size + 1 < w.heap.size + 1 + 1 := by omega
  have HNE := Lib.hid hNE
  clear hNE hw1
  generalize w.heap.size + 1 + 1 = bX at *
  generalize w.heap.size + 1 = bL at *
  have HNE3 := Lib.hid (show w.heap.size ≤ w.heap.size ∧ w.heap.size < bL ∧ bL < bX from HNE.out)
  clear HNE
  refine wp_region_lit ?_
  refine wpList_q (by rfl) (.pointer (some ⟨bL, 7, none⟩)) ?he ?_
  case he => (first | rfl | (go_simp; (try with_reducible rfl)))
  (try simp only [Act.put, sA, sB, sC])
  refine wpList_q (by rfl) (.int .i64 l.un) ?he ?_
  case he => exact exec_cell 3 _ _ HBL1.out rfl rfl rfl Try.underlying3 rfl
  (try simp only [Act.put, sA, sB, sC])
  refine wpList_q (by rfl) (.bool false) ?he ?_
  case he => (have hq := H0.out; go_simp; (try with_reducible rfl))
  (try simp only [Act.put, sA, sB, sC])
  refine wpList_q (by rfl) (.bool false) ?he ?_
  case he => (first | rfl | (go_simp; (try with_reducible rfl)))
  (try simp only [Act.put, sA, sB, sC])
  refine wpList_q (by rfl) (.pointer (some ⟨bL, 7, none⟩)) ?he ?_
  case he => (first | rfl | (go_simp; (try with_reducible rfl)))
  (try simp only [Act.put, sA, sB, sC])
  refine wpList_q (by rfl) (.int .i64 l.un) ?he ?_
  case he => exact exec_cell 3 _ _ HBL1.out rfl rfl rfl Try.underlying3 rfl
  (try simp only [Act.put, sA, sB, sC])
  refine wpList_q (by rfl) (.bool false) ?he ?_
  case he => (have hq := H1.out; go_simp; (try with_reducible rfl))
  (try simp only [Act.put, sA, sB, sC])
  refine wpList_q (by rfl) (.bool false) ?he ?_
  case he => (first | rfl | (go_simp; (try with_reducible rfl)))
  (try simp only [Act.put, sA, sB, sC])
  refine wpList_nil ?_
  go_upto_region 3 with fail
  refine wp_region_lit ?_
  refine wpList_q (by rfl) (.agg (cfgA c)) ?he ?_
  case he => exact exec_load_row 23 _ _ HBC1.out rfl rfl Try.underlying23 rfl (by kernel_rfl)
  (try simp only [Act.put, sA, sB, sC])
  refine wpList_q (by rfl) (.agg (leaA l)) ?he ?_
  case he => exact exec_load_row 56 _ _ HBL1.out rfl rfl Try.underlying56 rfl (by kernel_rfl)
  (try simp only [Act.put, sA, sB, sC])
  refine wpList_q (by rfl) (.agg (carA x)) ?he ?_
  case he => exact exec_load_row 76 _ _ HBX1.out rfl rfl Try.underlying76 rfl (by kernel_rfl)
  (try simp only [Act.put, sA, sB, sC])
  refine wpList_q (by rfl) (.int .i64 now) ?he ?_
  case he => (first | rfl | (go_simp; (try with_reducible rfl)))
  (try simp only [Act.put, sA, sB, sC])
  refine wpList_wp (by rfl) (fun K hK => ?_)
  (try go_simp)
  refine (HT.out _).mono ?_
  rintro e w2 ⟨_, rfl, rfl, hb⟩
  (try go_wp2_with fail)
  refine hK.out _ _ ?_
  clear hK K
  (try simp only [Act.put, sA, sB, sC])
  have HS2 := Lib.hid (Since.trans HS1.out hb)
  have HBC2 := Lib.hid (keep_blk hb HBC1.out)
  have HBL2 := Lib.hid (keep_blk hb HBL1.out)
  have HBX2 := Lib.hid (keep_blk hb HBX1.out)
  clear HS1 HBC1 HBL1 HBX1
  clear hb
  refine wpList_q (by rfl) (.tuple #[.agg #[.int .i64 a.se, .int .i64 a.fl, .int .i64 a.fm, .int .i64 a.to, .int .i64 a.ma, .int .i64 a.ca, .int .i64 a.ph, .int .i64 a.un, .int .i64 a.re, .int .i64 a.gr], .slice none 0 0, .bool ov]) ?he ?_
  case he => (first | rfl | (go_simp; (try with_reducible rfl)))
  (try simp only [Act.put, sA, sB, sC])
  refine wpList_q (by rfl) (.agg #[.int .i64 a.se, .int .i64 a.fl, .int .i64 a.fm, .int .i64 a.to, .int .i64 a.ma, .int .i64 a.ca, .int .i64 a.ph, .int .i64 a.un, .int .i64 a.re, .int .i64 a.gr]) ?he ?_
  case he => (first | rfl | (go_simp; (try with_reducible rfl)))
  (try simp only [Act.put, sA, sB, sC])
  refine wpList_q (by rfl) (.slice none 0 0) ?he ?_
  case he => (first | rfl | (go_simp; (try with_reducible rfl)))
  (try simp only [Act.put, sA, sB, sC])
  refine wpList_q (by rfl) (.bool ov) ?he ?_
  case he => (first | rfl | (go_simp; (try with_reducible rfl)))
  (try simp only [Act.put, sA, sB, sC])
  refine wpList_wp (by rfl) (fun K hK => ?_)
  refine wp_new (fun b => .pointer (some ⟨b, 0, none⟩)) 56 #[.int .i64 0, .int .i64 0, .int .i64 0, .int .i64 0, .int .i64 0, .int .i64 0, .int .i64 0, .int .i64 0, .int .i64 0, .int .i64 0] (by rintro b rfl; first | rfl | kernel_rfl) ?_
  intro bn9 w3 hge hB hb
  refine hK.out _ _ ?_
  clear hK K
  (try simp only [Act.put, sA, sB, sC])
  have HNn9C := Lib.hid (show bn9 ≠ w.heap.size by have := Blk.lt HBC2.out; omega)
  have HNn9L := Lib.hid (show bn9 ≠ bL by have := Blk.lt HBL2.out; omega)
  have HNn9X := Lib.hid (show bn9 ≠ bX by have := Blk.lt HBX2.out; omega)
  have HGn9 := Lib.hid (show w.heap.size ≤ bn9 by have := Since.size HS2.out; omega)
  have HS3 := Lib.hid (Since.trans HS2.out hb)
  have HBC3 := Lib.hid (keep_blk hb HBC2.out)
  have HBL3 := Lib.hid (keep_blk hb HBL2.out)
  have HBX3 := Lib.hid (keep_blk hb HBX2.out)
  clear HS2 HBC2 HBL2 HBX2
  clear hb hge
  have HBn93 := Lib.hid hB
  clear hB
  refine wpList_wp (by rfl) (fun K hK => ?_)
  refine wp_st_row 56 _ _ rfl #[.int .i64 a.se, .int .i64 a.fl, .int .i64 a.fm, .int .i64 a.to, .int .i64 a.ma, .int .i64 a.ca, .int .i64 a.ph, .int .i64 a.un, .int .i64 a.re, .int .i64 a.gr] rfl rfl (HasRow.of HBn93.out rfl) rfl (by simp [cfgA, leaA, carA, msgC, Value.oneCell']) (by kernel_rfl) ?_
  intro w4 hw
  refine hK.out _ _ ?_
  clear hK K
  (try simp only [Act.put, sA, sB, sC])
  have HS4 := Lib.hid (show Since w w4 by rw [hw]; exact Since.setRow HS3.out HGn9.out _)
  have HBC4 := Lib.hid (show Blk w4 w.heap.size 23 (cfgA c) by rw [hw]; exact Blk.row_far HBC3.out (Ne.symm HNn9C.out) _)
  have HBL4 := Lib.hid (show Blk w4 bL 56 (leaA l) by rw [hw]; exact Blk.row_far HBL3.out (Ne.symm HNn9L.out) _)
  have HBX4 := Lib.hid (show Blk w4 bX 76 (carA x) by rw [hw]; exact Blk.row_far HBX3.out (Ne.symm HNn9X.out) _)
  have HBn94 := Lib.hid (show Blk w4 bn9 56 #[.int .i64 a.se, .int .i64 a.fl, .int .i64 a.fm, .int .i64 a.to, .int .i64 a.ma, .int .i64 a.ca, .int .i64 a.ph, .int .i64 a.un, .int .i64 a.re, .int .i64 a.gr] by rw [hw]; exact Blk.row HBn93.out _)
  clear hw HS3 HBC3 HBL3 HBX3 HBn93
  refine wpList_q (by rfl) (.slice none 0 0) ?he ?_
  case he => (first | rfl | (go_simp; (try with_reducible rfl)))
  (try simp only [Act.put, sA, sB, sC])
  refine wpList_q (by rfl) (.bool ov) ?he ?_
  case he => (first | rfl | (go_simp; (try with_reducible rfl)))
  (try simp only [Act.put, sA, sB, sC])
  refine wpList_nil ?_
  go_upto_region 4 with fail
  refine wp_region_lit ?_
  refine wpList_q (by rfl) (.agg (cfgA c)) ?he ?_
  case he => exact exec_load_row 23 _ _ HBC4.out rfl rfl Try.underlying23 rfl (by kernel_rfl)
  (try simp only [Act.put, sA, sB, sC])
  refine wpList_q (by rfl) (.agg (leaA l)) ?he ?_
  case he => exact exec_load_row 56 _ _ HBL4.out rfl rfl Try.underlying56 rfl (by kernel_rfl)
  (try simp only [Act.put, sA, sB, sC])
  refine wpList_q (by rfl) (.agg (carA x)) ?he ?_
  case he => exact exec_load_row 76 _ _ HBX4.out rfl rfl Try.underlying76 rfl (by kernel_rfl)
  (try simp only [Act.put, sA, sB, sC])
  refine wpList_q (by rfl) (.int .i64 now) ?he ?_
  case he => (first | rfl | (go_simp; (try with_reducible rfl)))
  (try simp only [Act.put, sA, sB, sC])
  refine wpList_wp (by rfl) (fun K hK => ?_)
  (try go_simp)
  refine (HR.out _).mono ?_
  rintro e w5 ⟨_, rfl, rfl, hb⟩
  (try go_wp2_with fail)
  refine hK.out _ _ ?_
  clear hK K
  (try simp only [Act.put, sA, sB, sC])
  have HS5 := Lib.hid (Since.trans HS4.out hb)
  have HBC5 := Lib.hid (keep_blk hb HBC4.out)
  have HBL5 := Lib.hid (keep_blk hb HBL4.out)
  have HBX5 := Lib.hid (keep_blk hb HBX4.out)
  have HBn95 := Lib.hid (keep_blk hb HBn94.out)
  clear HS4 HBC4 HBL4 HBX4 HBn94
  clear hb
  refine wpList_q (by rfl) (.tuple #[.agg #[.int .i64 a.se, .int .i64 a.fl, .int .i64 a.fm, .int .i64 a.to, .int .i64 a.ma, .int .i64 a.ca, .int .i64 a.ph, .int .i64 a.un, .int .i64 a.re, .int .i64 a.gr], .slice none 0 0, .bool ov]) ?he ?_
  case he => (first | rfl | (go_simp; (try with_reducible rfl)))
  (try simp only [Act.put, sA, sB, sC])
  refine wpList_q (by rfl) (.agg #[.int .i64 a.se, .int .i64 a.fl, .int .i64 a.fm, .int .i64 a.to, .int .i64 a.ma, .int .i64 a.ca, .int .i64 a.ph, .int .i64 a.un, .int .i64 a.re, .int .i64 a.gr]) ?he ?_
  case he => (first | rfl | (go_simp; (try with_reducible rfl)))
  (try simp only [Act.put, sA, sB, sC])
  refine wpList_q (by rfl) (.slice none 0 0) ?he ?_
  case he => (first | rfl | (go_simp; (try with_reducible rfl)))
  (try simp only [Act.put, sA, sB, sC])
  refine wpList_q (by rfl) (.bool ov) ?he ?_
  case he => (first | rfl | (go_simp; (try with_reducible rfl)))
  (try simp only [Act.put, sA, sB, sC])
  refine wpList_wp (by rfl) (fun K hK => ?_)
  refine wp_new (fun b => .pointer (some ⟨b, 0, none⟩)) 56 #[.int .i64 0, .int .i64 0, .int .i64 0, .int .i64 0, .int .i64 0, .int .i64 0, .int .i64 0, .int .i64 0, .int .i64 0, .int .i64 0] (by rintro b rfl; first | rfl | kernel_rfl) ?_
  intro bn12 w6 hge hB hb
  refine hK.out _ _ ?_
  clear hK K
  (try simp only [Act.put, sA, sB, sC])
  have HNn12C := Lib.hid (show bn12 ≠ w.heap.size by have := Blk.lt HBC5.out; omega)
  have HNn12L := Lib.hid (show bn12 ≠ bL by have := Blk.lt HBL5.out; omega)
  have HNn12X := Lib.hid (show bn12 ≠ bX by have := Blk.lt HBX5.out; omega)
  have HNn12n9 := Lib.hid (show bn12 ≠ bn9 by have := Blk.lt HBn95.out; omega)
  have HGn12 := Lib.hid (show w.heap.size ≤ bn12 by have := Since.size HS5.out; omega)
  have HS6 := Lib.hid (Since.trans HS5.out hb)
  have HBC6 := Lib.hid (keep_blk hb HBC5.out)
  have HBL6 := Lib.hid (keep_blk hb HBL5.out)
  have HBX6 := Lib.hid (keep_blk hb HBX5.out)
  have HBn96 := Lib.hid (keep_blk hb HBn95.out)
  clear HS5 HBC5 HBL5 HBX5 HBn95
  clear hb hge
  have HBn126 := Lib.hid hB
  clear hB
  refine wpList_wp (by rfl) (fun K hK => ?_)
  refine wp_st_row 56 _ _ rfl #[.int .i64 a.se, .int .i64 a.fl, .int .i64 a.fm, .int .i64 a.to, .int .i64 a.ma, .int .i64 a.ca, .int .i64 a.ph, .int .i64 a.un, .int .i64 a.re, .int .i64 a.gr] rfl rfl (HasRow.of HBn126.out rfl) rfl (by simp [cfgA, leaA, carA, msgC, Value.oneCell']) (by kernel_rfl) ?_
  intro w7 hw
  refine hK.out _ _ ?_
  clear hK K
  (try simp only [Act.put, sA, sB, sC])
  have HS7 := Lib.hid (show Since w w7 by rw [hw]; exact Since.setRow HS6.out HGn12.out _)
  have HBC7 := Lib.hid (show Blk w7 w.heap.size 23 (cfgA c) by rw [hw]; exact Blk.row_far HBC6.out (Ne.symm HNn12C.out) _)
  have HBL7 := Lib.hid (show Blk w7 bL 56 (leaA l) by rw [hw]; exact Blk.row_far HBL6.out (Ne.symm HNn12L.out) _)
  have HBX7 := Lib.hid (show Blk w7 bX 76 (carA x) by rw [hw]; exact Blk.row_far HBX6.out (Ne.symm HNn12X.out) _)
  have HBn97 := Lib.hid (show Blk w7 bn9 56 #[.int .i64 a.se, .int .i64 a.fl, .int .i64 a.fm, .int .i64 a.to, .int .i64 a.ma, .int .i64 a.ca, .int .i64 a.ph, .int .i64 a.un, .int .i64 a.re, .int .i64 a.gr] by rw [hw]; exact Blk.row_far HBn96.out (Ne.symm HNn12n9.out) _)
  have HBn127 := Lib.hid (show Blk w7 bn12 56 #[.int .i64 a.se, .int .i64 a.fl, .int .i64 a.fm, .int .i64 a.to, .int .i64 a.ma, .int .i64 a.ca, .int .i64 a.ph, .int .i64 a.un, .int .i64 a.re, .int .i64 a.gr] by rw [hw]; exact Blk.row HBn126.out _)
  clear hw HS6 HBC6 HBL6 HBX6 HBn96 HBn126
  refine wpList_q (by rfl) (.slice none 0 0) ?he ?_
  case he => (first | rfl | (go_simp; (try with_reducible rfl)))
  (try simp only [Act.put, sA, sB, sC])
  refine wpList_q (by rfl) (.bool ov) ?he ?_
  case he => (first | rfl | (go_simp; (try with_reducible rfl)))
  (try simp only [Act.put, sA, sB, sC])
  refine wpList_nil ?_
  go_upto_region 5 with fail
  refine wp_region_lit ?_
  refine wpList_q (by rfl) (.agg (leaA l)) ?he ?_
  case he => exact exec_load_row 56 _ _ HBL7.out rfl rfl Try.underlying56 rfl (by kernel_rfl)
  (try simp only [Act.put, sA, sB, sC])
  refine wpList_wp (by rfl) (fun K hK => ?_)
  (try go_simp)
  refine (aimT l _).mono ?_
  rintro e w8 ⟨rfl, hb⟩
  (try go_wp2_with fail)
  refine hK.out _ _ ?_
  clear hK K
  (try simp only [Act.put, sA, sB, sC])
  have HS8 := Lib.hid (Since.trans HS7.out hb)
  have HBC8 := Lib.hid (keep_blk hb HBC7.out)
  have HBL8 := Lib.hid (keep_blk hb HBL7.out)
  have HBX8 := Lib.hid (keep_blk hb HBX7.out)
  have HBn98 := Lib.hid (keep_blk hb HBn97.out)
  have HBn128 := Lib.hid (keep_blk hb HBn127.out)
  clear HS7 HBC7 HBL7 HBX7 HBn97 HBn127
  clear hb
  refine wpList_q (by rfl) (.tuple #[.int .i64 (aimF l), .bool true]) ?he ?_
  case he => (first | rfl | (go_simp; (try with_reducible rfl)))
  (try simp only [Act.put, sA, sB, sC])
  refine wpList_q (by rfl) (.int .i64 (aimF l)) ?he ?_
  case he => (first | rfl | (go_simp; (try with_reducible rfl)))
  (try simp only [Act.put, sA, sB, sC])
  refine wpList_q (by rfl) (.bool true) ?he ?_
  case he => (first | rfl | (go_simp; (try with_reducible rfl)))
  (try simp only [Act.put, sA, sB, sC])
  refine wpList_q (by rfl) (.int .i64 (aimF l)) ?he ?_
  case he => (first | rfl | (go_simp; (try with_reducible rfl)))
  (try simp only [Act.put, sA, sB, sC])
  refine wpList_q (by rfl) (.bool true) ?he ?_
  case he => (first | rfl | (go_simp; (try with_reducible rfl)))
  (try simp only [Act.put, sA, sB, sC])
  refine wpList_nil ?_
  go_upto_region 6 with fail
  refine wp_region_lit ?_
  refine wpList_q (by rfl) (.agg (leaA l)) ?he ?_
  case he => exact exec_load_row 56 _ _ HBL8.out rfl rfl Try.underlying56 rfl (by kernel_rfl)
  (try simp only [Act.put, sA, sB, sC])
  refine wpList_wp (by rfl) (fun K hK => ?_)
  (try go_simp)
  refine (aimR l _).mono ?_
  rintro e w9 ⟨rfl, hb⟩
  (try go_wp2_with fail)
  refine hK.out _ _ ?_
  clear hK K
  (try simp only [Act.put, sA, sB, sC])
  have HS9 := Lib.hid (Since.trans HS8.out hb)
  have HBC9 := Lib.hid (keep_blk hb HBC8.out)
  have HBL9 := Lib.hid (keep_blk hb HBL8.out)
  have HBX9 := Lib.hid (keep_blk hb HBX8.out)
  have HBn99 := Lib.hid (keep_blk hb HBn98.out)
  have HBn129 := Lib.hid (keep_blk hb HBn128.out)
  clear HS8 HBC8 HBL8 HBX8 HBn98 HBn128
  clear hb
  refine wpList_q (by rfl) (.tuple #[.int .i64 (aimF l), .bool true]) ?he ?_
  case he => (first | rfl | (go_simp; (try with_reducible rfl)))
  (try simp only [Act.put, sA, sB, sC])
  refine wpList_q (by rfl) (.int .i64 (aimF l)) ?he ?_
  case he => (first | rfl | (go_simp; (try with_reducible rfl)))
  (try simp only [Act.put, sA, sB, sC])
  refine wpList_q (by rfl) (.bool true) ?he ?_
  case he => (first | rfl | (go_simp; (try with_reducible rfl)))
  (try simp only [Act.put, sA, sB, sC])
  refine wpList_q (by rfl) (.int .i64 (aimF l)) ?he ?_
  case he => (first | rfl | (go_simp; (try with_reducible rfl)))
  (try simp only [Act.put, sA, sB, sC])
  refine wpList_q (by rfl) (.bool true) ?he ?_
  case he => (first | rfl | (go_simp; (try with_reducible rfl)))
  (try simp only [Act.put, sA, sB, sC])
  refine wpList_nil ?_
  go_upto_region 7 with fail
  have hrK : ∀ W W' : World, Since W W' → (Since w W ∧ Blk W w.heap.size 23 (cfgA c) ∧ Blk W bL 56 (leaA l) ∧ Blk W bX 76 (carA x) ∧ Blk W bn9 56 #[.int .i64 a.se, .int .i64 a.fl, .int .i64 a.fm, .int .i64 a.to, .int .i64 a.ma, .int .i64 a.ca, .int .i64 a.ph, .int .i64 a.un, .int .i64 a.re, .int .i64 a.gr] ∧ Blk W bn12 56 #[.int .i64 a.se, .int .i64 a.fl, .int .i64 a.fm, .int .i64 a.to, .int .i64 a.ma, .int .i64 a.ca, .int .i64 a.ph, .int .i64 a.un, .int .i64 a.re, .int .i64 a.gr]) → (Since w W' ∧ Blk W' w.heap.size 23 (cfgA c) ∧ Blk W' bL 56 (leaA l) ∧ Blk W' bX 76 (carA x) ∧ Blk W' bn9 56 #[.int .i64 a.se, .int .i64 a.fl, .int .i64 a.fm, .int .i64 a.to, .int .i64 a.ma, .int .i64 a.ca, .int .i64 a.ph, .int .i64 a.un, .int .i64 a.re, .int .i64 a.gr] ∧ Blk W' bn12 56 #[.int .i64 a.se, .int .i64 a.fl, .int .i64 a.fm, .int .i64 a.to, .int .i64 a.ma, .int .i64 a.ca, .int .i64 a.ph, .int .i64 a.un, .int .i64 a.re, .int .i64 a.gr]) := fun W W' k ⟨h, h0, h1, h2, h3, h4⟩ => ⟨h.trans k, keep_blk k h0, keep_blk k h1, keep_blk k h2, keep_blk k h3, keep_blk k h4⟩
  have hrS : (fun W : World => Since w W ∧ Blk W w.heap.size 23 (cfgA c) ∧ Blk W bL 56 (leaA l) ∧ Blk W bX 76 (carA x) ∧ Blk W bn9 56 #[.int .i64 a.se, .int .i64 a.fl, .int .i64 a.fm, .int .i64 a.to, .int .i64 a.ma, .int .i64 a.ca, .int .i64 a.ph, .int .i64 a.un, .int .i64 a.re, .int .i64 a.gr] ∧ Blk W bn12 56 #[.int .i64 a.se, .int .i64 a.fl, .int .i64 a.fm, .int .i64 a.to, .int .i64 a.ma, .int .i64 a.ca, .int .i64 a.ph, .int .i64 a.un, .int .i64 a.re, .int .i64 a.gr]) w9 := ⟨HS9.out, HBC9.out, HBL9.out, HBX9.out, HBn99.out, HBn129.out⟩
  have HRK := Lib.hid hrK
  have HRD := Lib.hid (show (fun W : World => Since w W ∧ Blk W w.heap.size 23 (cfgA c) ∧ Blk W bL 56 (leaA l) ∧ Blk W bX 76 (carA x) ∧ Blk W bn9 56 #[.int .i64 a.se, .int .i64 a.fl, .int .i64 a.fm, .int .i64 a.to, .int .i64 a.ma, .int .i64 a.ca, .int .i64 a.ph, .int .i64 a.un, .int .i64 a.re, .int .i64 a.gr] ∧ Blk W bn12 56 #[.int .i64 a.se, .int .i64 a.fl, .int .i64 a.fm, .int .i64 a.to, .int .i64 a.ma, .int .i64 a.ca, .int .i64 a.ph, .int .i64 a.un, .int .i64 a.re, .int .i64 a.gr]) (World.drew w9) from ⟨Since.drew hrS.1, hrS.2⟩)
  clear hrK hrS
  refine wp_region_held_drew (S := fun W : World => Since w W ∧ Blk W w.heap.size 23 (cfgA c) ∧ Blk W bL 56 (leaA l) ∧ Blk W bX 76 (carA x) ∧ Blk W bn9 56 #[.int .i64 a.se, .int .i64 a.fl, .int .i64 a.fm, .int .i64 a.to, .int .i64 a.ma, .int .i64 a.ca, .int .i64 a.ph, .int .i64 a.un, .int .i64 a.re, .int .i64 a.gr] ∧ Blk W bn12 56 #[.int .i64 a.se, .int .i64 a.fl, .int .i64 a.fm, .int .i64 a.to, .int .i64 a.ma, .int .i64 a.ca, .int .i64 a.ph, .int .i64 a.un, .int .i64 a.re, .int .i64 a.gr]) (by kernel_rfl) HRD.out (fun hHeld => ?_)
  refine wpAnyH_ready (rs := [0]) (by kernel_rfl) (by simp) ?_
  refine AllReadyH.cons (o := ?o7__0) ?h7__0 (fun K hK => ?_) AllReadyH.nil
  case h7__0 => (first | (simp only [gA, gB, gC]; done) | (simp only [gA, gB, gC]; exact rfl))
  (try go_simp)
  refine (ans _).mono ?_
  rintro e w10 ⟨rfl, hb⟩
  (try go_wp2_with fail)
  refine hK.out _ _ (by (apply HRK.out; exact hb; exact hHeld)) (fun hHeld2 => ?_)
  clear hK K hHeld hb
  have hHeld := hHeld2
  clear hHeld2
  (try simp only [Act.put, sA, sB, sC])
  refine wpAnyH_take (i := 1) (oi := ?o7__1) (v := .bool true) ?h7__1 (by kernel_rfl) (by kernel_rfl) (by kernel_rfl) ?q7__1 ?y7__1 (by assumption) ?_
  case h7__1 => (first | (simp only [gA, gB, gC]; done) | (simp only [gA, gB, gC]; exact rfl))
  case q7__1 => exact fun _ _ _ h => h
  case y7__1 => (refine Or.inl ⟨rfl, ?_⟩; intro w hSw; (first | rfl | (go_simp; (try with_reducible rfl))))
  (try simp only [Act.put, sA, sB, sC])
  refine wpAnyH_take (i := 2) (oi := ?o7__2) (v := .agg #[.int .i64 a.se, .int .i64 a.fl, .int .i64 a.fm, .int .i64 a.to, .int .i64 a.ma, .int .i64 a.ca, .int .i64 a.ph, .int .i64 a.un, .int .i64 a.re, .int .i64 a.gr]) ?h7__2 (by kernel_rfl) (by kernel_rfl) (by kernel_rfl) ?q7__2 ?y7__2 (by assumption) ?_
  case h7__2 => (first | (simp only [gA, gB, gC]; done) | (simp only [gA, gB, gC]; exact rfl))
  case q7__2 => exact fun _ _ _ h => h
  case y7__2 => (refine Or.inl ⟨rfl, ?_⟩; intro w hSw; exact exec_load_row 56 _ _ hSw.2.2.2.2.1 rfl rfl Try.underlying56 rfl (by kernel_rfl))
  (try simp only [Act.put, sA, sB, sC])
  refine wpAnyH_take (i := 3) (oi := ?o7__3) (v := .agg #[.int .i64 a.se, .int .i64 a.fl, .int .i64 a.fm, .int .i64 a.to, .int .i64 a.ma, .int .i64 a.ca, .int .i64 a.ph, .int .i64 a.un, .int .i64 a.re, .int .i64 a.gr]) ?h7__3 (by kernel_rfl) (by kernel_rfl) (by kernel_rfl) ?q7__3 ?y7__3 (by assumption) ?_
  case h7__3 => (first | (simp only [gA, gB, gC]; done) | (simp only [gA, gB, gC]; exact rfl))
  case q7__3 => exact fun _ _ _ h => h
  case y7__3 => (refine Or.inl ⟨rfl, ?_⟩; intro w hSw; exact exec_load_row 56 _ _ hSw.2.2.2.2.2 rfl rfl Try.underlying56 rfl (by kernel_rfl))
  (try simp only [Act.put, sA, sB, sC])
  refine wpAnyH_take (i := 4) (oi := ?o7__4) (v := .bool true) ?h7__4 (by kernel_rfl) (by kernel_rfl) (by kernel_rfl) ?q7__4 ?y7__4 (by assumption) ?_
  case h7__4 => (first | (simp only [gA, gB, gC]; done) | (simp only [gA, gB, gC]; exact rfl))
  case q7__4 => exact fun _ _ _ h => h
  case y7__4 => (refine Or.inl ⟨rfl, ?_⟩; intro w hSw; (go_simp; (try with_reducible rfl)))
  (try simp only [Act.put, sA, sB, sC])
  refine wpAnyH_take (i := 5) (oi := ?o7__5) (v := .bool true) ?h7__5 (by kernel_rfl) (by kernel_rfl) (by kernel_rfl) ?q7__5 ?y7__5 (by assumption) ?_
  case h7__5 => (first | (simp only [gA, gB, gC]; done) | (simp only [gA, gB, gC]; exact rfl))
  case q7__5 => exact fun _ _ _ h => h
  case y7__5 => (refine Or.inl ⟨rfl, ?_⟩; intro w hSw; (first | rfl | (go_simp; (try with_reducible rfl))))
  (try simp only [Act.put, sA, sB, sC])
  refine wpAnyH_take (i := 6) (oi := ?o7__6) (v := .bool true) ?h7__6 (by kernel_rfl) (by kernel_rfl) (by kernel_rfl) ?q7__6 ?y7__6 (by assumption) ?_
  case h7__6 => (first | (simp only [gA, gB, gC]; done) | (simp only [gA, gB, gC]; exact rfl))
  case q7__6 => exact fun _ _ _ h => h
  case y7__6 => (refine Or.inl ⟨rfl, ?_⟩; intro w hSw; (first | rfl | (go_simp; (try with_reducible rfl))))
  (try simp only [Act.put, sA, sB, sC])
  refine wpAnyH_take (i := 7) (oi := ?o7__7) (v := .slice none 0 0) ?h7__7 (by kernel_rfl) (by kernel_rfl) (by kernel_rfl) ?q7__7 ?y7__7 (by assumption) ?_
  case h7__7 => (first | (simp only [gA, gB, gC]; done) | (simp only [gA, gB, gC]; exact rfl))
  case q7__7 => exact fun _ _ _ h => h
  case y7__7 => (refine Or.inl ⟨rfl, ?_⟩; intro w hSw; (first | rfl | (go_simp; (try with_reducible rfl))))
  (try simp only [Act.put, sA, sB, sC])
  refine wpAnyH_take (i := 8) (oi := ?o7__8) (v := .slice none 0 0) ?h7__8 (by kernel_rfl) (by kernel_rfl) (by kernel_rfl) ?q7__8 ?y7__8 (by assumption) ?_
  case h7__8 => (first | (simp only [gA, gB, gC]; done) | (simp only [gA, gB, gC]; exact rfl))
  case q7__8 => exact fun _ _ _ h => h
  case y7__8 => (refine Or.inl ⟨rfl, ?_⟩; intro w hSw; (first | rfl | (go_simp; (try with_reducible rfl))))
  (try simp only [Act.put, sA, sB, sC])
  refine wpAnyH_ready (rs := [9]) (by kernel_rfl) (by simp) ?_
  refine AllReadyH.cons (o := ?o7__9) ?h7__9 (fun K hK => ?_) AllReadyH.nil
  case h7__9 => (first | (simp only [gA, gB, gC]; done) | (simp only [gA, gB, gC]; exact rfl))
  (try go_simp)
  refine (same0 _).mono ?_
  rintro e w11 ⟨rfl, hb⟩
  (try go_wp2_with fail)
  refine hK.out _ _ (by (apply HRK.out; exact hb; exact hHeld)) (fun hHeld2 => ?_)
  clear hK K hHeld hb
  have hHeld := hHeld2
  clear hHeld2
  (try simp only [Act.put, sA, sB, sC])
  refine wpAnyH_take (i := 10) (oi := ?o7__10) (v := .bool true) ?h7__10 (by kernel_rfl) (by kernel_rfl) (by kernel_rfl) ?q7__10 ?y7__10 (by assumption) ?_
  case h7__10 => (first | (simp only [gA, gB, gC]; done) | (simp only [gA, gB, gC]; exact rfl))
  case q7__10 => exact fun _ _ _ h => h
  case y7__10 => (refine Or.inl ⟨rfl, ?_⟩; intro w hSw; (first | rfl | (go_simp; (try with_reducible rfl))))
  (try simp only [Act.put, sA, sB, sC])
  refine wpAnyH_take (i := 11) (oi := ?o7__11) (v := .bool true) ?h7__11 (by kernel_rfl) (by kernel_rfl) (by kernel_rfl) ?q7__11 ?y7__11 (by assumption) ?_
  case h7__11 => (first | (simp only [gA, gB, gC]; done) | (simp only [gA, gB, gC]; exact rfl))
  case q7__11 => exact fun _ _ _ h => h
  case y7__11 => (refine Or.inl ⟨rfl, ?_⟩; intro w hSw; (first | rfl | (go_simp; (try with_reducible rfl))))
  (try simp only [Act.put, sA, sB, sC])
  refine wpAnyH_take (i := 12) (oi := ?o7__12) (v := .bool ov) ?h7__12 (by kernel_rfl) (by kernel_rfl) (by kernel_rfl) ?q7__12 ?y7__12 (by assumption) ?_
  case h7__12 => (first | (simp only [gA, gB, gC]; done) | (simp only [gA, gB, gC]; exact rfl))
  case q7__12 => exact fun _ _ _ h => h
  case y7__12 => (refine Or.inl ⟨rfl, ?_⟩; intro w hSw; (first | rfl | (go_simp; (try with_reducible rfl))))
  (try simp only [Act.put, sA, sB, sC])
  refine wpAnyH_take (i := 13) (oi := ?o7__13) (v := .bool ov) ?h7__13 (by kernel_rfl) (by kernel_rfl) (by kernel_rfl) ?q7__13 ?y7__13 (by assumption) ?_
  case h7__13 => (first | (simp only [gA, gB, gC]; done) | (simp only [gA, gB, gC]; exact rfl))
  case q7__13 => exact fun _ _ _ h => h
  case y7__13 => (refine Or.inl ⟨rfl, ?_⟩; intro w hSw; (first | rfl | (go_simp; (try with_reducible rfl))))
  (try simp only [Act.put, sA, sB, sC])
  refine wpAnyH_take (i := 14) (oi := ?o7__14) (v := .bool true) ?h7__14 (by kernel_rfl) (by kernel_rfl) (by kernel_rfl) ?q7__14 ?y7__14 (by assumption) ?_
  case h7__14 => (first | (simp only [gA, gB, gC]; done) | (simp only [gA, gB, gC]; exact rfl))
  case q7__14 => exact fun _ _ _ h => h
  case y7__14 => (refine Or.inl ⟨rfl, ?_⟩; intro w hSw; (go_simp; (try with_reducible rfl)))
  (try simp only [Act.put, sA, sB, sC])
  refine wpAnyH_take (i := 15) (oi := ?o7__15) (v := .bool true) ?h7__15 (by kernel_rfl) (by kernel_rfl) (by kernel_rfl) ?q7__15 ?y7__15 (by assumption) ?_
  case h7__15 => (first | (simp only [gA, gB, gC]; done) | (simp only [gA, gB, gC]; exact rfl))
  case q7__15 => exact fun _ _ _ h => h
  case y7__15 => (refine Or.inl ⟨rfl, ?_⟩; intro w hSw; (first | rfl | (go_simp; (try with_reducible rfl))))
  (try simp only [Act.put, sA, sB, sC])
  refine wpAnyH_take (i := 16) (oi := ?o7__16) (v := .bool true) ?h7__16 (by kernel_rfl) (by kernel_rfl) (by kernel_rfl) ?q7__16 ?y7__16 (by assumption) ?_
  case h7__16 => (first | (simp only [gA, gB, gC]; done) | (simp only [gA, gB, gC]; exact rfl))
  case q7__16 => exact fun _ _ _ h => h
  case y7__16 => (refine Or.inl ⟨rfl, ?_⟩; intro w hSw; (first | rfl | (go_simp; (try with_reducible rfl))))
  (try simp only [Act.put, sA, sB, sC])
  refine wpAnyH_take (i := 17) (oi := ?o7__17) (v := .int .i64 (aimF l)) ?h7__17 (by kernel_rfl) (by kernel_rfl) (by kernel_rfl) ?q7__17 ?y7__17 (by assumption) ?_
  case h7__17 => (first | (simp only [gA, gB, gC]; done) | (simp only [gA, gB, gC]; exact rfl))
  case q7__17 => exact fun _ _ _ h => h
  case y7__17 => (refine Or.inl ⟨rfl, ?_⟩; intro w hSw; (first | rfl | (go_simp; (try with_reducible rfl))))
  (try simp only [Act.put, sA, sB, sC])
  refine wpAnyH_take (i := 18) (oi := ?o7__18) (v := .int .i64 (aimF l)) ?h7__18 (by kernel_rfl) (by kernel_rfl) (by kernel_rfl) ?q7__18 ?y7__18 (by assumption) ?_
  case h7__18 => (first | (simp only [gA, gB, gC]; done) | (simp only [gA, gB, gC]; exact rfl))
  case q7__18 => exact fun _ _ _ h => h
  case y7__18 => (refine Or.inl ⟨rfl, ?_⟩; intro w hSw; (first | rfl | (go_simp; (try with_reducible rfl))))
  (try simp only [Act.put, sA, sB, sC])
  refine wpAnyH_take (i := 19) (oi := ?o7__19) (v := .bool true) ?h7__19 (by kernel_rfl) (by kernel_rfl) (by kernel_rfl) ?q7__19 ?y7__19 (by assumption) ?_
  case h7__19 => (first | (simp only [gA, gB, gC]; done) | (simp only [gA, gB, gC]; exact rfl))
  case q7__19 => exact fun _ _ _ h => h
  case y7__19 => (refine Or.inl ⟨rfl, ?_⟩; intro w hSw; (go_simp; (try with_reducible rfl)))
  (try simp only [Act.put, sA, sB, sC])
  refine wpAnyH_take (i := 20) (oi := ?o7__20) (v := .bool true) ?h7__20 (by kernel_rfl) (by kernel_rfl) (by kernel_rfl) ?q7__20 ?y7__20 (by assumption) ?_
  case h7__20 => (first | (simp only [gA, gB, gC]; done) | (simp only [gA, gB, gC]; exact rfl))
  case q7__20 => exact fun _ _ _ h => h
  case y7__20 => (refine Or.inl ⟨rfl, ?_⟩; intro w hSw; (first | rfl | (go_simp; (try with_reducible rfl))))
  (try simp only [Act.put, sA, sB, sC])
  refine wpAnyH_take (i := 21) (oi := ?o7__21) (v := .bool true) ?h7__21 (by kernel_rfl) (by kernel_rfl) (by kernel_rfl) ?q7__21 ?y7__21 (by assumption) ?_
  case h7__21 => (first | (simp only [gA, gB, gC]; done) | (simp only [gA, gB, gC]; exact rfl))
  case q7__21 => exact fun _ _ _ h => h
  case y7__21 => (refine Or.inl ⟨rfl, ?_⟩; intro w hSw; (first | rfl | (go_simp; (try with_reducible rfl))))
  (try simp only [Act.put, sA, sB, sC])
  refine wpAnyH_take (i := 22) (oi := ?o7__22) (v := .bool true) ?h7__22 (by kernel_rfl) (by kernel_rfl) (by kernel_rfl) ?q7__22 ?y7__22 (by assumption) ?_
  case h7__22 => (first | (simp only [gA, gB, gC]; done) | (simp only [gA, gB, gC]; exact rfl))
  case q7__22 => exact fun _ _ _ h => h
  case y7__22 => (refine Or.inl ⟨rfl, ?_⟩; intro w hSw; (first | rfl | (go_simp; (try with_reducible rfl))))
  (try simp only [Act.put, sA, sB, sC])
  refine wpAnyH_take (i := 23) (oi := ?o7__23) (v := .bool true) ?h7__23 (by kernel_rfl) (by kernel_rfl) (by kernel_rfl) ?q7__23 ?y7__23 (by assumption) ?_
  case h7__23 => (first | (simp only [gA, gB, gC]; done) | (simp only [gA, gB, gC]; exact rfl))
  case q7__23 => exact fun _ _ _ h => h
  case y7__23 => (refine Or.inl ⟨rfl, ?_⟩; intro w hSw; (first | rfl | (go_simp; (try with_reducible rfl))))
  (try simp only [Act.put, sA, sB, sC])
  refine wpAnyH_take (i := 24) (oi := ?o7__24) (v := .bool true) ?h7__24 (by kernel_rfl) (by kernel_rfl) (by kernel_rfl) ?q7__24 ?y7__24 (by assumption) ?_
  case h7__24 => (first | (simp only [gA, gB, gC]; done) | (simp only [gA, gB, gC]; exact rfl))
  case q7__24 => exact fun _ _ _ h => h
  case y7__24 => (refine Or.inl ⟨rfl, ?_⟩; intro w hSw; (go_simp; (try with_reducible rfl)))
  (try simp only [Act.put, sA, sB, sC])
  refine wpAnyH_take (i := 25) (oi := ?o7__25) (v := .bool true) ?h7__25 (by kernel_rfl) (by kernel_rfl) (by kernel_rfl) ?q7__25 ?y7__25 (by assumption) ?_
  case h7__25 => (first | (simp only [gA, gB, gC]; done) | (simp only [gA, gB, gC]; exact rfl))
  case q7__25 => exact fun _ _ _ h => h
  case y7__25 => (refine Or.inl ⟨rfl, ?_⟩; intro w hSw; (first | rfl | (go_simp; (try with_reducible rfl))))
  (try simp only [Act.put, sA, sB, sC])
  refine wpAnyH_take (i := 26) (oi := ?o7__26) (v := .bool true) ?h7__26 (by kernel_rfl) (by kernel_rfl) (by kernel_rfl) ?q7__26 ?y7__26 (by assumption) ?_
  case h7__26 => (first | (simp only [gA, gB, gC]; done) | (simp only [gA, gB, gC]; exact rfl))
  case q7__26 => exact fun _ _ _ h => h
  case y7__26 => (refine Or.inl ⟨rfl, ?_⟩; intro w hSw; (first | rfl | (go_simp; (try with_reducible rfl))))
  (try simp only [Act.put, sA, sB, sC])
  refine wpAnyH_take (i := 27) (oi := ?o7__27) (v := .agg (leaA l)) ?h7__27 (by kernel_rfl) (by kernel_rfl) (by kernel_rfl) ?q7__27 ?y7__27 (by assumption) ?_
  case h7__27 => (first | (simp only [gA, gB, gC]; done) | (simp only [gA, gB, gC]; exact rfl))
  case q7__27 => exact fun _ _ _ h => h
  case y7__27 => (refine Or.inl ⟨rfl, ?_⟩; intro w hSw; exact exec_load_row 56 _ _ hSw.2.2.1 rfl rfl Try.underlying56 rfl (by kernel_rfl))
  (try simp only [Act.put, sA, sB, sC])
  refine wpAnyH_take (i := 28) (oi := ?o7__28) (v := .int .i64 now) ?h7__28 (by kernel_rfl) (by kernel_rfl) (by kernel_rfl) ?q7__28 ?y7__28 (by assumption) ?_
  case h7__28 => (first | (simp only [gA, gB, gC]; done) | (simp only [gA, gB, gC]; exact rfl))
  case q7__28 => exact fun _ _ _ h => h
  case y7__28 => (refine Or.inl ⟨rfl, ?_⟩; intro w hSw; (first | rfl | (go_simp; (try with_reducible rfl))))
  (try simp only [Act.put, sA, sB, sC])
  refine wpAnyH_take (i := 30) (oi := ?o7__30) (v := .pointer (some ⟨bL, 7, none⟩)) ?h7__30 (by kernel_rfl) (by kernel_rfl) (by kernel_rfl) ?q7__30 ?y7__30 (by assumption) ?_
  case h7__30 => (first | (simp only [gA, gB, gC]; done) | (simp only [gA, gB, gC]; exact rfl))
  case q7__30 => exact fun _ _ _ h => h
  case y7__30 => (refine Or.inl ⟨rfl, ?_⟩; intro w hSw; (first | rfl | (go_simp; (try with_reducible rfl))))
  (try simp only [Act.put, sA, sB, sC])
  refine wpAnyH_take (i := 31) (oi := ?o7__31) (v := .int .i64 l.un) ?h7__31 (by kernel_rfl) (by kernel_rfl) (by kernel_rfl) ?q7__31 ?y7__31 (by assumption) ?_
  case h7__31 => (first | (simp only [gA, gB, gC]; done) | (simp only [gA, gB, gC]; exact rfl))
  case q7__31 => exact fun _ _ _ h => h
  case y7__31 => (refine Or.inl ⟨rfl, ?_⟩; intro w hSw; exact exec_cell 3 _ _ hSw.2.2.1 rfl rfl rfl Try.underlying3 rfl)
  (try simp only [Act.put, sA, sB, sC])
  refine wpAnyH_take (i := 32) (oi := ?o7__32) (v := .int .i64 now) ?h7__32 (by kernel_rfl) (by kernel_rfl) (by kernel_rfl) ?q7__32 ?y7__32 (by assumption) ?_
  case h7__32 => (first | (simp only [gA, gB, gC]; done) | (simp only [gA, gB, gC]; exact rfl))
  case q7__32 => exact fun _ _ _ h => h
  case y7__32 => (refine Or.inl ⟨rfl, ?_⟩; intro w hSw; (first | rfl | (go_simp; (try with_reducible rfl))))
  (try simp only [Act.put, sA, sB, sC])
  refine wpAnyH_ready (rs := [29]) (by kernel_rfl) (by simp) ?_
  refine AllReadyH.cons (o := ?o7__29) ?h7__29 (fun K hK => ?_) AllReadyH.nil
  case h7__29 => (first | (simp only [gA, gB, gC]; done) | (simp only [gA, gB, gC]; exact rfl))
  (try go_simp)
  refine (leftT l now _).mono ?_
  rintro e w12 ⟨rfl, hb⟩
  (try go_wp2_with fail)
  refine hK.out _ _ (by (apply HRK.out; exact hb; exact hHeld)) (fun hHeld2 => ?_)
  clear hK K hHeld hb
  have hHeld := hHeld2
  clear hHeld2
  (try simp only [Act.put, sA, sB, sC])
  refine wpAnyH_ready (rs := [33]) (by kernel_rfl) (by simp) ?_
  refine AllReadyH.cons (o := ?o7__33) ?h7__33 (fun K hK => ?_) AllReadyH.nil
  case h7__33 => (first | (simp only [gA, gB, gC]; done) | (simp only [gA, gB, gC]; exact rfl))
  (try go_simp)
  refine (clR _ _).mono ?_
  rintro e w' ⟨rfl, rfl⟩
  (try go_wp2_with fail)
  refine hK.out _ _ hHeld (fun hHeld2 => ?_)
  clear hK K hHeld2
  (try simp only [Act.put, sA, sB, sC])
  refine wpAnyH_take (i := 34) (oi := ?o7__34) (v := .int .i64 (l.un - cl now)) ?h7__34 (by kernel_rfl) (by kernel_rfl) (by kernel_rfl) ?q7__34 ?y7__34 (by assumption) ?_
  case h7__34 => (first | (simp only [gA, gB, gC]; done) | (simp only [gA, gB, gC]; exact rfl))
  case q7__34 => exact fun _ _ _ h => h
  case y7__34 => (refine Or.inl ⟨rfl, ?_⟩; intro w hSw; (go_simp; (first | done | (refine Ri.wr _ ?_ ?_ <;> (have q0 := H0.out; have q1 := H1.out; have q2 := C1.out; have q3 := C2.out; omega)) | (have q0 := H0.out; have q1 := H1.out; have q2 := C1.out; have q3 := C2.out; omega) | (have q0 := H0.out; have q1 := H1.out; have q2 := C1.out; have q3 := C2.out; split <;> omega) | (have q0 := H0.out; have q1 := H1.out; have q2 := C1.out; have q3 := C2.out; intro hh; omega))))
  (try simp only [Act.put, sA, sB, sC])
  refine wpAnyH_take (i := 35) (oi := ?o7__35) (v := .int .i64 (leftV l now)) ?h7__35 (by kernel_rfl) (by kernel_rfl) (by kernel_rfl) ?q7__35 ?y7__35 (by assumption) ?_
  case h7__35 => (first | (simp only [gA, gB, gC]; done) | (simp only [gA, gB, gC]; exact rfl))
  case q7__35 => exact fun _ _ _ h => h
  case y7__35 => (refine Or.inl ⟨rfl, ?_⟩; intro w hSw; (rcases HLV.out with ⟨q, e⟩ | ⟨q, e⟩ <;> (rw [e]; go_simp; (first | done | omega | (intro hh; omega)))))
  (try simp only [Act.put, sA, sB, sC])
  refine wpAnyH_take (i := 36) (oi := ?o7__36) (v := .bool true) ?h7__36 (by kernel_rfl) (by kernel_rfl) (by kernel_rfl) ?q7__36 ?y7__36 (by assumption) ?_
  case h7__36 => (first | (simp only [gA, gB, gC]; done) | (simp only [gA, gB, gC]; exact rfl))
  case q7__36 => exact fun _ _ _ h => h
  case y7__36 => (refine Or.inl ⟨rfl, ?_⟩; intro w hSw; (go_simp; (try with_reducible rfl)))
  (try simp only [Act.put, sA, sB, sC])
  refine wpAnyH_take (i := 37) (oi := ?o7__37) (v := .bool true) ?h7__37 (by kernel_rfl) (by kernel_rfl) (by kernel_rfl) ?q7__37 ?y7__37 (by assumption) ?_
  case h7__37 => (first | (simp only [gA, gB, gC]; done) | (simp only [gA, gB, gC]; exact rfl))
  case q7__37 => exact fun _ _ _ h => h
  case y7__37 => (refine Or.inl ⟨rfl, ?_⟩; intro w hSw; (first | rfl | (go_simp; (try with_reducible rfl))))
  (try simp only [Act.put, sA, sB, sC])
  refine wpAnyH_take (i := 38) (oi := ?o7__38) (v := .bool true) ?h7__38 (by kernel_rfl) (by kernel_rfl) (by kernel_rfl) ?q7__38 ?y7__38 (by assumption) ?_
  case h7__38 => (first | (simp only [gA, gB, gC]; done) | (simp only [gA, gB, gC]; exact rfl))
  case q7__38 => exact fun _ _ _ h => h
  case y7__38 => (refine Or.inl ⟨rfl, ?_⟩; intro w hSw; (first | rfl | (go_simp; (try with_reducible rfl))))
  (try simp only [Act.put, sA, sB, sC])
  refine wpAnyH_done (by kernel_rfl) ?_ _
  have HSd7 := Lib.hid hHeld.1
  have HBCd7 := Lib.hid (hHeld.2.1)
  have HBLd7 := Lib.hid (hHeld.2.2.1)
  have HBXd7 := Lib.hid (hHeld.2.2.2.1)
  have HBn9d7 := Lib.hid (hHeld.2.2.2.2.1)
  have HBn12d7 := Lib.hid (hHeld.2.2.2.2.2)
  clear hHeld HRK HRD HS9 HBC9 HBL9 HBX9 HBn99 HBn129
  (try go_wp2_with fail)
  go_ret
  exact ⟨rfl, HSd7.out⟩
set_option maxHeartbeats 4000000 in
theorem ticks_some (c : CfgV) (l : LeaseV) (x : CarV) (now : Int) (a : LeaseV) (ov : Bool) (m0 : MsgV) (HT : Hid (∀ W, Calls Try.prog 50 #[.agg #[.int .i64 c.ca, .int .i64 c.fl, .int .i64 c.ft, .int .i64 c.se, .int .i64 c.dr, .int .i64 c.dw, .int .i64 c.ho, .int .i64 c.re, .int .i64 c.yi, .int .i64 c.qu, .int .i64 c.qo, .int .i64 c.lo, .int .i64 c.sl, .int .i64 c.rt, .int .i64 c.cp, .int .i64 c.tr, .int .i64 c.de, .int .i64 c.wi], .agg #[.int .i64 l.se, .int .i64 l.fl, .int .i64 l.fm, .int .i64 l.to, .int .i64 l.ma, .int .i64 l.ca, .int .i64 l.ph, .int .i64 l.un, .int .i64 l.re, .int .i64 l.gr], .agg #[.int .i64 x.ds, .int .i64 x.da, .int .i64 x.un, .int .i64 x.wy, .int .i64 x.ti, .int .i64 x.ju, .int .i64 x.lo, .bool x.bl, .bool x.br, .int .i64 x.mo, .int .i64 x.ta, .bool x.ho, .int .u64 x.sp, .int .u64 x.su, .int .u64 x.sd], .int .i64 now] W (Said W (a, some m0, ov)))) (HR : Hid (∀ W, Calls Try.prog 51 #[.agg #[.int .i64 c.ca, .int .i64 c.fl, .int .i64 c.ft, .int .i64 c.se, .int .i64 c.dr, .int .i64 c.dw, .int .i64 c.ho, .int .i64 c.re, .int .i64 c.yi, .int .i64 c.qu, .int .i64 c.qo, .int .i64 c.lo, .int .i64 c.sl, .int .i64 c.rt, .int .i64 c.cp, .int .i64 c.tr, .int .i64 c.de, .int .i64 c.wi], .agg #[.int .i64 l.se, .int .i64 l.fl, .int .i64 l.fm, .int .i64 l.to, .int .i64 l.ma, .int .i64 l.ca, .int .i64 l.ph, .int .i64 l.un, .int .i64 l.re, .int .i64 l.gr], .agg #[.int .i64 x.ds, .int .i64 x.da, .int .i64 x.un, .int .i64 x.wy, .int .i64 x.ti, .int .i64 x.ju, .int .i64 x.lo, .bool x.bl, .bool x.br, .int .i64 x.mo, .int .i64 x.ta, .bool x.ho, .int .u64 x.sp, .int .u64 x.su, .int .u64 x.sd], .int .i64 now] W (Said W (a, some m0, ov)))) (h0 : ¬ (l.un < 0)) (h1 : ¬ (1099511627776 < l.un)) (w : World) : Calls Try.prog 11 #[.agg #[.int .i64 c.ca, .int .i64 c.fl, .int .i64 c.ft, .int .i64 c.se, .int .i64 c.dr, .int .i64 c.dw, .int .i64 c.ho, .int .i64 c.re, .int .i64 c.yi, .int .i64 c.qu, .int .i64 c.qo, .int .i64 c.lo, .int .i64 c.sl, .int .i64 c.rt, .int .i64 c.cp, .int .i64 c.tr, .int .i64 c.de, .int .i64 c.wi], .agg #[.int .i64 l.se, .int .i64 l.fl, .int .i64 l.fm, .int .i64 l.to, .int .i64 l.ma, .int .i64 l.ca, .int .i64 l.ph, .int .i64 l.un, .int .i64 l.re, .int .i64 l.gr], .agg #[.int .i64 x.ds, .int .i64 x.da, .int .i64 x.un, .int .i64 x.wy, .int .i64 x.ti, .int .i64 x.ju, .int .i64 x.lo, .bool x.bl, .bool x.br, .int .i64 x.mo, .int .i64 x.ta, .bool x.ho, .int .u64 x.sp, .int .u64 x.su, .int .u64 x.sd], .int .i64 now] w fun e w' => e = .returned (.bool true) ∧ Since w w' := by
  have c1 := cl_lo now
  have c2 := cl_hi now
  have HE := Lib.hid (cl_id l.un (by omega) (by omega))
  have HLV := Lib.hid (show (l.un - cl now < 0 ∧ leftV l now = 0) ∨ (¬ (l.un - cl now < 0) ∧ leftV l now = l.un - cl now) by unfold leftV; rw [HE.out]; by_cases h : l.un - cl now < 0 <;> simp [h])
  have H0 := Lib.hid h0
  clear h0
  have H1 := Lib.hid h1
  clear h1
  have C1 := Lib.hid c1
  have C2 := Lib.hid c2
  clear c1 c2
  go_enter Try.func11, Try.ntmps11
  go_upto_region 1 with fail
  obtain ⟨w1, hw1⟩ : ∃ w1, w1 = (((w.alloc (.cells #[.int .i64 c.ca, .int .i64 c.fl, .int .i64 c.ft, .int .i64 c.se, .int .i64 c.dr, .int .i64 c.dw, .int .i64 c.ho, .int .i64 c.re, .int .i64 c.yi, .int .i64 c.qu, .int .i64 c.qo, .int .i64 c.lo, .int .i64 c.sl, .int .i64 c.rt, .int .i64 c.cp, .int .i64 c.tr, .int .i64 c.de, .int .i64 c.wi] 23)).alloc (.cells #[.int .i64 l.se, .int .i64 l.fl, .int .i64 l.fm, .int .i64 l.to, .int .i64 l.ma, .int .i64 l.ca, .int .i64 l.ph, .int .i64 l.un, .int .i64 l.re, .int .i64 l.gr] 56)).alloc (.cells #[.int .i64 x.ds, .int .i64 x.da, .int .i64 x.un, .int .i64 x.wy, .int .i64 x.ti, .int .i64 x.ju, .int .i64 x.lo, .bool x.bl, .bool x.br, .int .i64 x.mo, .int .i64 x.ta, .bool x.ho, .int .u64 x.sp, .int .u64 x.su, .int .u64 x.sd] 76)) := ⟨_, rfl⟩
  rw [← hw1]
  have HBC1 := Lib.hid (show Blk w1 (w.heap.size) 23 (cfgA c) by rw [hw1]; exact Blk.alloc (Blk.alloc (Blk.at_ (by (try simp only [size_alloc])) _ _) _) _)
  have HBL1 := Lib.hid (show Blk w1 (w.heap.size + 1) 56 (leaA l) by rw [hw1]; exact Blk.alloc (Blk.at_ (by (try simp only [size_alloc])) _ _) _)
  have HBX1 := Lib.hid (show Blk w1 (w.heap.size + 1 + 1) 76 (carA x) by rw [hw1]; exact Blk.at_ (by (try simp only [size_alloc])) _ _)
  have HS1 := Lib.hid (show Since w w1 by rw [hw1]; exact Since.alloc (Since.alloc (Since.alloc (Since.refl w) _) _) _)
  have hNE : w.heap.size ≤ w.heap.size ∧ w.heap.size < w.heap.size + 1 ∧ w.heap.size + 1 < w.heap.size + 1 + 1 := by omega
  have HNE := Lib.hid hNE
  clear hNE hw1
  generalize w.heap.size + 1 + 1 = bX at *
  generalize w.heap.size + 1 = bL at *
  have HNE3 := Lib.hid (show w.heap.size ≤ w.heap.size ∧ w.heap.size < bL ∧ bL < bX from HNE.out)
  clear HNE
  refine wp_region_lit ?_
  refine wpList_q (by rfl) (.pointer (some ⟨bL, 7, none⟩)) ?he ?_
  case he => (first | rfl | (go_simp; (try with_reducible rfl)))
  (try simp only [Act.put, sA, sB, sC])
  refine wpList_q (by rfl) (.int .i64 l.un) ?he ?_
  case he => exact exec_cell 3 _ _ HBL1.out rfl rfl rfl Try.underlying3 rfl
  (try simp only [Act.put, sA, sB, sC])
  refine wpList_q (by rfl) (.bool false) ?he ?_
  case he => (have hq := H0.out; go_simp; (try with_reducible rfl))
  (try simp only [Act.put, sA, sB, sC])
  refine wpList_q (by rfl) (.bool false) ?he ?_
  case he => (first | rfl | (go_simp; (try with_reducible rfl)))
  (try simp only [Act.put, sA, sB, sC])
  refine wpList_q (by rfl) (.pointer (some ⟨bL, 7, none⟩)) ?he ?_
  case he => (first | rfl | (go_simp; (try with_reducible rfl)))
  (try simp only [Act.put, sA, sB, sC])
  refine wpList_q (by rfl) (.int .i64 l.un) ?he ?_
  case he => exact exec_cell 3 _ _ HBL1.out rfl rfl rfl Try.underlying3 rfl
  (try simp only [Act.put, sA, sB, sC])
  refine wpList_q (by rfl) (.bool false) ?he ?_
  case he => (have hq := H1.out; go_simp; (try with_reducible rfl))
  (try simp only [Act.put, sA, sB, sC])
  refine wpList_q (by rfl) (.bool false) ?he ?_
  case he => (first | rfl | (go_simp; (try with_reducible rfl)))
  (try simp only [Act.put, sA, sB, sC])
  refine wpList_nil ?_
  go_upto_region 3 with fail
  refine wp_region_lit ?_
  refine wpList_q (by rfl) (.agg (cfgA c)) ?he ?_
  case he => exact exec_load_row 23 _ _ HBC1.out rfl rfl Try.underlying23 rfl (by kernel_rfl)
  (try simp only [Act.put, sA, sB, sC])
  refine wpList_q (by rfl) (.agg (leaA l)) ?he ?_
  case he => exact exec_load_row 56 _ _ HBL1.out rfl rfl Try.underlying56 rfl (by kernel_rfl)
  (try simp only [Act.put, sA, sB, sC])
  refine wpList_q (by rfl) (.agg (carA x)) ?he ?_
  case he => exact exec_load_row 76 _ _ HBX1.out rfl rfl Try.underlying76 rfl (by kernel_rfl)
  (try simp only [Act.put, sA, sB, sC])
  refine wpList_q (by rfl) (.int .i64 now) ?he ?_
  case he => (first | rfl | (go_simp; (try with_reducible rfl)))
  (try simp only [Act.put, sA, sB, sC])
  refine wpList_wp (by rfl) (fun K hK => ?_)
  (try go_simp)
  refine (HT.out _).mono ?_
  rintro e w2 ⟨_, rfl, ⟨bm1, rfl, hge, hB⟩, hb⟩
  (try go_wp2_with fail)
  refine hK.out _ _ ?_
  clear hK K
  (try simp only [Act.put, sA, sB, sC])
  have HNm1C := Lib.hid (show bm1 ≠ w.heap.size by have := Blk.lt HBC1.out; omega)
  have HNm1L := Lib.hid (show bm1 ≠ bL by have := Blk.lt HBL1.out; omega)
  have HNm1X := Lib.hid (show bm1 ≠ bX by have := Blk.lt HBX1.out; omega)
  have HGm1 := Lib.hid (show w.heap.size ≤ bm1 by have := Since.size HS1.out; omega)
  have HS2 := Lib.hid (Since.trans HS1.out hb)
  have HBC2 := Lib.hid (keep_blk hb HBC1.out)
  have HBL2 := Lib.hid (keep_blk hb HBL1.out)
  have HBX2 := Lib.hid (keep_blk hb HBX1.out)
  clear HS1 HBC1 HBL1 HBX1
  clear hb hge
  have HBm12 := Lib.hid hB
  clear hB
  refine wpList_q (by rfl) (.tuple #[.agg #[.int .i64 a.se, .int .i64 a.fl, .int .i64 a.fm, .int .i64 a.to, .int .i64 a.ma, .int .i64 a.ca, .int .i64 a.ph, .int .i64 a.un, .int .i64 a.re, .int .i64 a.gr], .slice (some ⟨bm1, 0, none⟩) 1 1, .bool ov]) ?he ?_
  case he => (first | rfl | (go_simp; (try with_reducible rfl)))
  (try simp only [Act.put, sA, sB, sC])
  refine wpList_q (by rfl) (.agg #[.int .i64 a.se, .int .i64 a.fl, .int .i64 a.fm, .int .i64 a.to, .int .i64 a.ma, .int .i64 a.ca, .int .i64 a.ph, .int .i64 a.un, .int .i64 a.re, .int .i64 a.gr]) ?he ?_
  case he => (first | rfl | (go_simp; (try with_reducible rfl)))
  (try simp only [Act.put, sA, sB, sC])
  refine wpList_q (by rfl) (.slice (some ⟨bm1, 0, none⟩) 1 1) ?he ?_
  case he => (first | rfl | (go_simp; (try with_reducible rfl)))
  (try simp only [Act.put, sA, sB, sC])
  refine wpList_q (by rfl) (.bool ov) ?he ?_
  case he => (first | rfl | (go_simp; (try with_reducible rfl)))
  (try simp only [Act.put, sA, sB, sC])
  refine wpList_wp (by rfl) (fun K hK => ?_)
  refine wp_new (fun b => .pointer (some ⟨b, 0, none⟩)) 56 #[.int .i64 0, .int .i64 0, .int .i64 0, .int .i64 0, .int .i64 0, .int .i64 0, .int .i64 0, .int .i64 0, .int .i64 0, .int .i64 0] (by rintro b rfl; first | rfl | kernel_rfl) ?_
  intro bn9 w3 hge hB hb
  refine hK.out _ _ ?_
  clear hK K
  (try simp only [Act.put, sA, sB, sC])
  have HNn9C := Lib.hid (show bn9 ≠ w.heap.size by have := Blk.lt HBC2.out; omega)
  have HNn9L := Lib.hid (show bn9 ≠ bL by have := Blk.lt HBL2.out; omega)
  have HNn9X := Lib.hid (show bn9 ≠ bX by have := Blk.lt HBX2.out; omega)
  have HNn9m1 := Lib.hid (show bn9 ≠ bm1 by have := Blk.lt HBm12.out; omega)
  have HGn9 := Lib.hid (show w.heap.size ≤ bn9 by have := Since.size HS2.out; omega)
  have HS3 := Lib.hid (Since.trans HS2.out hb)
  have HBC3 := Lib.hid (keep_blk hb HBC2.out)
  have HBL3 := Lib.hid (keep_blk hb HBL2.out)
  have HBX3 := Lib.hid (keep_blk hb HBX2.out)
  have HBm13 := Lib.hid (keep_blk hb HBm12.out)
  clear HS2 HBC2 HBL2 HBX2 HBm12
  clear hb hge
  have HBn93 := Lib.hid hB
  clear hB
  refine wpList_wp (by rfl) (fun K hK => ?_)
  refine wp_st_row 56 _ _ rfl #[.int .i64 a.se, .int .i64 a.fl, .int .i64 a.fm, .int .i64 a.to, .int .i64 a.ma, .int .i64 a.ca, .int .i64 a.ph, .int .i64 a.un, .int .i64 a.re, .int .i64 a.gr] rfl rfl (HasRow.of HBn93.out rfl) rfl (by simp [cfgA, leaA, carA, msgC, Value.oneCell']) (by kernel_rfl) ?_
  intro w4 hw
  refine hK.out _ _ ?_
  clear hK K
  (try simp only [Act.put, sA, sB, sC])
  have HS4 := Lib.hid (show Since w w4 by rw [hw]; exact Since.setRow HS3.out HGn9.out _)
  have HBC4 := Lib.hid (show Blk w4 w.heap.size 23 (cfgA c) by rw [hw]; exact Blk.row_far HBC3.out (Ne.symm HNn9C.out) _)
  have HBL4 := Lib.hid (show Blk w4 bL 56 (leaA l) by rw [hw]; exact Blk.row_far HBL3.out (Ne.symm HNn9L.out) _)
  have HBX4 := Lib.hid (show Blk w4 bX 76 (carA x) by rw [hw]; exact Blk.row_far HBX3.out (Ne.symm HNn9X.out) _)
  have HBm14 := Lib.hid (show Blk w4 bm1 85 #[.int .i64 m0.ki, .int .i64 m0.a, .int .i64 m0.b, .int .i64 m0.c] by rw [hw]; exact Blk.row_far HBm13.out (Ne.symm HNn9m1.out) _)
  have HBn94 := Lib.hid (show Blk w4 bn9 56 #[.int .i64 a.se, .int .i64 a.fl, .int .i64 a.fm, .int .i64 a.to, .int .i64 a.ma, .int .i64 a.ca, .int .i64 a.ph, .int .i64 a.un, .int .i64 a.re, .int .i64 a.gr] by rw [hw]; exact Blk.row HBn93.out _)
  clear hw HS3 HBC3 HBL3 HBX3 HBm13 HBn93
  refine wpList_q (by rfl) (.slice (some ⟨bm1, 0, none⟩) 1 1) ?he ?_
  case he => (first | rfl | (go_simp; (try with_reducible rfl)))
  (try simp only [Act.put, sA, sB, sC])
  refine wpList_q (by rfl) (.bool ov) ?he ?_
  case he => (first | rfl | (go_simp; (try with_reducible rfl)))
  (try simp only [Act.put, sA, sB, sC])
  refine wpList_nil ?_
  go_upto_region 4 with fail
  refine wp_region_lit ?_
  refine wpList_q (by rfl) (.agg (cfgA c)) ?he ?_
  case he => exact exec_load_row 23 _ _ HBC4.out rfl rfl Try.underlying23 rfl (by kernel_rfl)
  (try simp only [Act.put, sA, sB, sC])
  refine wpList_q (by rfl) (.agg (leaA l)) ?he ?_
  case he => exact exec_load_row 56 _ _ HBL4.out rfl rfl Try.underlying56 rfl (by kernel_rfl)
  (try simp only [Act.put, sA, sB, sC])
  refine wpList_q (by rfl) (.agg (carA x)) ?he ?_
  case he => exact exec_load_row 76 _ _ HBX4.out rfl rfl Try.underlying76 rfl (by kernel_rfl)
  (try simp only [Act.put, sA, sB, sC])
  refine wpList_q (by rfl) (.int .i64 now) ?he ?_
  case he => (first | rfl | (go_simp; (try with_reducible rfl)))
  (try simp only [Act.put, sA, sB, sC])
  refine wpList_wp (by rfl) (fun K hK => ?_)
  (try go_simp)
  refine (HR.out _).mono ?_
  rintro e w5 ⟨_, rfl, ⟨bm2, rfl, hge, hB⟩, hb⟩
  (try go_wp2_with fail)
  refine hK.out _ _ ?_
  clear hK K
  (try simp only [Act.put, sA, sB, sC])
  have HNm2C := Lib.hid (show bm2 ≠ w.heap.size by have := Blk.lt HBC4.out; omega)
  have HNm2L := Lib.hid (show bm2 ≠ bL by have := Blk.lt HBL4.out; omega)
  have HNm2X := Lib.hid (show bm2 ≠ bX by have := Blk.lt HBX4.out; omega)
  have HNm2m1 := Lib.hid (show bm2 ≠ bm1 by have := Blk.lt HBm14.out; omega)
  have HNm2n9 := Lib.hid (show bm2 ≠ bn9 by have := Blk.lt HBn94.out; omega)
  have HGm2 := Lib.hid (show w.heap.size ≤ bm2 by have := Since.size HS4.out; omega)
  have HS5 := Lib.hid (Since.trans HS4.out hb)
  have HBC5 := Lib.hid (keep_blk hb HBC4.out)
  have HBL5 := Lib.hid (keep_blk hb HBL4.out)
  have HBX5 := Lib.hid (keep_blk hb HBX4.out)
  have HBm15 := Lib.hid (keep_blk hb HBm14.out)
  have HBn95 := Lib.hid (keep_blk hb HBn94.out)
  clear HS4 HBC4 HBL4 HBX4 HBm14 HBn94
  clear hb hge
  have HBm25 := Lib.hid hB
  clear hB
  refine wpList_q (by rfl) (.tuple #[.agg #[.int .i64 a.se, .int .i64 a.fl, .int .i64 a.fm, .int .i64 a.to, .int .i64 a.ma, .int .i64 a.ca, .int .i64 a.ph, .int .i64 a.un, .int .i64 a.re, .int .i64 a.gr], .slice (some ⟨bm2, 0, none⟩) 1 1, .bool ov]) ?he ?_
  case he => (first | rfl | (go_simp; (try with_reducible rfl)))
  (try simp only [Act.put, sA, sB, sC])
  refine wpList_q (by rfl) (.agg #[.int .i64 a.se, .int .i64 a.fl, .int .i64 a.fm, .int .i64 a.to, .int .i64 a.ma, .int .i64 a.ca, .int .i64 a.ph, .int .i64 a.un, .int .i64 a.re, .int .i64 a.gr]) ?he ?_
  case he => (first | rfl | (go_simp; (try with_reducible rfl)))
  (try simp only [Act.put, sA, sB, sC])
  refine wpList_q (by rfl) (.slice (some ⟨bm2, 0, none⟩) 1 1) ?he ?_
  case he => (first | rfl | (go_simp; (try with_reducible rfl)))
  (try simp only [Act.put, sA, sB, sC])
  refine wpList_q (by rfl) (.bool ov) ?he ?_
  case he => (first | rfl | (go_simp; (try with_reducible rfl)))
  (try simp only [Act.put, sA, sB, sC])
  refine wpList_wp (by rfl) (fun K hK => ?_)
  refine wp_new (fun b => .pointer (some ⟨b, 0, none⟩)) 56 #[.int .i64 0, .int .i64 0, .int .i64 0, .int .i64 0, .int .i64 0, .int .i64 0, .int .i64 0, .int .i64 0, .int .i64 0, .int .i64 0] (by rintro b rfl; first | rfl | kernel_rfl) ?_
  intro bn12 w6 hge hB hb
  refine hK.out _ _ ?_
  clear hK K
  (try simp only [Act.put, sA, sB, sC])
  have HNn12C := Lib.hid (show bn12 ≠ w.heap.size by have := Blk.lt HBC5.out; omega)
  have HNn12L := Lib.hid (show bn12 ≠ bL by have := Blk.lt HBL5.out; omega)
  have HNn12X := Lib.hid (show bn12 ≠ bX by have := Blk.lt HBX5.out; omega)
  have HNn12m1 := Lib.hid (show bn12 ≠ bm1 by have := Blk.lt HBm15.out; omega)
  have HNn12n9 := Lib.hid (show bn12 ≠ bn9 by have := Blk.lt HBn95.out; omega)
  have HNn12m2 := Lib.hid (show bn12 ≠ bm2 by have := Blk.lt HBm25.out; omega)
  have HGn12 := Lib.hid (show w.heap.size ≤ bn12 by have := Since.size HS5.out; omega)
  have HS6 := Lib.hid (Since.trans HS5.out hb)
  have HBC6 := Lib.hid (keep_blk hb HBC5.out)
  have HBL6 := Lib.hid (keep_blk hb HBL5.out)
  have HBX6 := Lib.hid (keep_blk hb HBX5.out)
  have HBm16 := Lib.hid (keep_blk hb HBm15.out)
  have HBn96 := Lib.hid (keep_blk hb HBn95.out)
  have HBm26 := Lib.hid (keep_blk hb HBm25.out)
  clear HS5 HBC5 HBL5 HBX5 HBm15 HBn95 HBm25
  clear hb hge
  have HBn126 := Lib.hid hB
  clear hB
  refine wpList_wp (by rfl) (fun K hK => ?_)
  refine wp_st_row 56 _ _ rfl #[.int .i64 a.se, .int .i64 a.fl, .int .i64 a.fm, .int .i64 a.to, .int .i64 a.ma, .int .i64 a.ca, .int .i64 a.ph, .int .i64 a.un, .int .i64 a.re, .int .i64 a.gr] rfl rfl (HasRow.of HBn126.out rfl) rfl (by simp [cfgA, leaA, carA, msgC, Value.oneCell']) (by kernel_rfl) ?_
  intro w7 hw
  refine hK.out _ _ ?_
  clear hK K
  (try simp only [Act.put, sA, sB, sC])
  have HS7 := Lib.hid (show Since w w7 by rw [hw]; exact Since.setRow HS6.out HGn12.out _)
  have HBC7 := Lib.hid (show Blk w7 w.heap.size 23 (cfgA c) by rw [hw]; exact Blk.row_far HBC6.out (Ne.symm HNn12C.out) _)
  have HBL7 := Lib.hid (show Blk w7 bL 56 (leaA l) by rw [hw]; exact Blk.row_far HBL6.out (Ne.symm HNn12L.out) _)
  have HBX7 := Lib.hid (show Blk w7 bX 76 (carA x) by rw [hw]; exact Blk.row_far HBX6.out (Ne.symm HNn12X.out) _)
  have HBm17 := Lib.hid (show Blk w7 bm1 85 #[.int .i64 m0.ki, .int .i64 m0.a, .int .i64 m0.b, .int .i64 m0.c] by rw [hw]; exact Blk.row_far HBm16.out (Ne.symm HNn12m1.out) _)
  have HBn97 := Lib.hid (show Blk w7 bn9 56 #[.int .i64 a.se, .int .i64 a.fl, .int .i64 a.fm, .int .i64 a.to, .int .i64 a.ma, .int .i64 a.ca, .int .i64 a.ph, .int .i64 a.un, .int .i64 a.re, .int .i64 a.gr] by rw [hw]; exact Blk.row_far HBn96.out (Ne.symm HNn12n9.out) _)
  have HBm27 := Lib.hid (show Blk w7 bm2 85 #[.int .i64 m0.ki, .int .i64 m0.a, .int .i64 m0.b, .int .i64 m0.c] by rw [hw]; exact Blk.row_far HBm26.out (Ne.symm HNn12m2.out) _)
  have HBn127 := Lib.hid (show Blk w7 bn12 56 #[.int .i64 a.se, .int .i64 a.fl, .int .i64 a.fm, .int .i64 a.to, .int .i64 a.ma, .int .i64 a.ca, .int .i64 a.ph, .int .i64 a.un, .int .i64 a.re, .int .i64 a.gr] by rw [hw]; exact Blk.row HBn126.out _)
  clear hw HS6 HBC6 HBL6 HBX6 HBm16 HBn96 HBm26 HBn126
  refine wpList_q (by rfl) (.slice (some ⟨bm2, 0, none⟩) 1 1) ?he ?_
  case he => (first | rfl | (go_simp; (try with_reducible rfl)))
  (try simp only [Act.put, sA, sB, sC])
  refine wpList_q (by rfl) (.bool ov) ?he ?_
  case he => (first | rfl | (go_simp; (try with_reducible rfl)))
  (try simp only [Act.put, sA, sB, sC])
  refine wpList_nil ?_
  go_upto_region 5 with fail
  refine wp_region_lit ?_
  refine wpList_q (by rfl) (.agg (leaA l)) ?he ?_
  case he => exact exec_load_row 56 _ _ HBL7.out rfl rfl Try.underlying56 rfl (by kernel_rfl)
  (try simp only [Act.put, sA, sB, sC])
  refine wpList_wp (by rfl) (fun K hK => ?_)
  (try go_simp)
  refine (aimT l _).mono ?_
  rintro e w8 ⟨rfl, hb⟩
  (try go_wp2_with fail)
  refine hK.out _ _ ?_
  clear hK K
  (try simp only [Act.put, sA, sB, sC])
  have HS8 := Lib.hid (Since.trans HS7.out hb)
  have HBC8 := Lib.hid (keep_blk hb HBC7.out)
  have HBL8 := Lib.hid (keep_blk hb HBL7.out)
  have HBX8 := Lib.hid (keep_blk hb HBX7.out)
  have HBm18 := Lib.hid (keep_blk hb HBm17.out)
  have HBn98 := Lib.hid (keep_blk hb HBn97.out)
  have HBm28 := Lib.hid (keep_blk hb HBm27.out)
  have HBn128 := Lib.hid (keep_blk hb HBn127.out)
  clear HS7 HBC7 HBL7 HBX7 HBm17 HBn97 HBm27 HBn127
  clear hb
  refine wpList_q (by rfl) (.tuple #[.int .i64 (aimF l), .bool true]) ?he ?_
  case he => (first | rfl | (go_simp; (try with_reducible rfl)))
  (try simp only [Act.put, sA, sB, sC])
  refine wpList_q (by rfl) (.int .i64 (aimF l)) ?he ?_
  case he => (first | rfl | (go_simp; (try with_reducible rfl)))
  (try simp only [Act.put, sA, sB, sC])
  refine wpList_q (by rfl) (.bool true) ?he ?_
  case he => (first | rfl | (go_simp; (try with_reducible rfl)))
  (try simp only [Act.put, sA, sB, sC])
  refine wpList_q (by rfl) (.int .i64 (aimF l)) ?he ?_
  case he => (first | rfl | (go_simp; (try with_reducible rfl)))
  (try simp only [Act.put, sA, sB, sC])
  refine wpList_q (by rfl) (.bool true) ?he ?_
  case he => (first | rfl | (go_simp; (try with_reducible rfl)))
  (try simp only [Act.put, sA, sB, sC])
  refine wpList_nil ?_
  go_upto_region 6 with fail
  refine wp_region_lit ?_
  refine wpList_q (by rfl) (.agg (leaA l)) ?he ?_
  case he => exact exec_load_row 56 _ _ HBL8.out rfl rfl Try.underlying56 rfl (by kernel_rfl)
  (try simp only [Act.put, sA, sB, sC])
  refine wpList_wp (by rfl) (fun K hK => ?_)
  (try go_simp)
  refine (aimR l _).mono ?_
  rintro e w9 ⟨rfl, hb⟩
  (try go_wp2_with fail)
  refine hK.out _ _ ?_
  clear hK K
  (try simp only [Act.put, sA, sB, sC])
  have HS9 := Lib.hid (Since.trans HS8.out hb)
  have HBC9 := Lib.hid (keep_blk hb HBC8.out)
  have HBL9 := Lib.hid (keep_blk hb HBL8.out)
  have HBX9 := Lib.hid (keep_blk hb HBX8.out)
  have HBm19 := Lib.hid (keep_blk hb HBm18.out)
  have HBn99 := Lib.hid (keep_blk hb HBn98.out)
  have HBm29 := Lib.hid (keep_blk hb HBm28.out)
  have HBn129 := Lib.hid (keep_blk hb HBn128.out)
  clear HS8 HBC8 HBL8 HBX8 HBm18 HBn98 HBm28 HBn128
  clear hb
  refine wpList_q (by rfl) (.tuple #[.int .i64 (aimF l), .bool true]) ?he ?_
  case he => (first | rfl | (go_simp; (try with_reducible rfl)))
  (try simp only [Act.put, sA, sB, sC])
  refine wpList_q (by rfl) (.int .i64 (aimF l)) ?he ?_
  case he => (first | rfl | (go_simp; (try with_reducible rfl)))
  (try simp only [Act.put, sA, sB, sC])
  refine wpList_q (by rfl) (.bool true) ?he ?_
  case he => (first | rfl | (go_simp; (try with_reducible rfl)))
  (try simp only [Act.put, sA, sB, sC])
  refine wpList_q (by rfl) (.int .i64 (aimF l)) ?he ?_
  case he => (first | rfl | (go_simp; (try with_reducible rfl)))
  (try simp only [Act.put, sA, sB, sC])
  refine wpList_q (by rfl) (.bool true) ?he ?_
  case he => (first | rfl | (go_simp; (try with_reducible rfl)))
  (try simp only [Act.put, sA, sB, sC])
  refine wpList_nil ?_
  go_upto_region 7 with fail
  have hrK : ∀ W W' : World, Since W W' → (Since w W ∧ Blk W w.heap.size 23 (cfgA c) ∧ Blk W bL 56 (leaA l) ∧ Blk W bX 76 (carA x) ∧ Blk W bm1 85 #[.int .i64 m0.ki, .int .i64 m0.a, .int .i64 m0.b, .int .i64 m0.c] ∧ Blk W bn9 56 #[.int .i64 a.se, .int .i64 a.fl, .int .i64 a.fm, .int .i64 a.to, .int .i64 a.ma, .int .i64 a.ca, .int .i64 a.ph, .int .i64 a.un, .int .i64 a.re, .int .i64 a.gr] ∧ Blk W bm2 85 #[.int .i64 m0.ki, .int .i64 m0.a, .int .i64 m0.b, .int .i64 m0.c] ∧ Blk W bn12 56 #[.int .i64 a.se, .int .i64 a.fl, .int .i64 a.fm, .int .i64 a.to, .int .i64 a.ma, .int .i64 a.ca, .int .i64 a.ph, .int .i64 a.un, .int .i64 a.re, .int .i64 a.gr]) → (Since w W' ∧ Blk W' w.heap.size 23 (cfgA c) ∧ Blk W' bL 56 (leaA l) ∧ Blk W' bX 76 (carA x) ∧ Blk W' bm1 85 #[.int .i64 m0.ki, .int .i64 m0.a, .int .i64 m0.b, .int .i64 m0.c] ∧ Blk W' bn9 56 #[.int .i64 a.se, .int .i64 a.fl, .int .i64 a.fm, .int .i64 a.to, .int .i64 a.ma, .int .i64 a.ca, .int .i64 a.ph, .int .i64 a.un, .int .i64 a.re, .int .i64 a.gr] ∧ Blk W' bm2 85 #[.int .i64 m0.ki, .int .i64 m0.a, .int .i64 m0.b, .int .i64 m0.c] ∧ Blk W' bn12 56 #[.int .i64 a.se, .int .i64 a.fl, .int .i64 a.fm, .int .i64 a.to, .int .i64 a.ma, .int .i64 a.ca, .int .i64 a.ph, .int .i64 a.un, .int .i64 a.re, .int .i64 a.gr]) := fun W W' k ⟨h, h0, h1, h2, h3, h4, h5, h6⟩ => ⟨h.trans k, keep_blk k h0, keep_blk k h1, keep_blk k h2, keep_blk k h3, keep_blk k h4, keep_blk k h5, keep_blk k h6⟩
  have hrS : (fun W : World => Since w W ∧ Blk W w.heap.size 23 (cfgA c) ∧ Blk W bL 56 (leaA l) ∧ Blk W bX 76 (carA x) ∧ Blk W bm1 85 #[.int .i64 m0.ki, .int .i64 m0.a, .int .i64 m0.b, .int .i64 m0.c] ∧ Blk W bn9 56 #[.int .i64 a.se, .int .i64 a.fl, .int .i64 a.fm, .int .i64 a.to, .int .i64 a.ma, .int .i64 a.ca, .int .i64 a.ph, .int .i64 a.un, .int .i64 a.re, .int .i64 a.gr] ∧ Blk W bm2 85 #[.int .i64 m0.ki, .int .i64 m0.a, .int .i64 m0.b, .int .i64 m0.c] ∧ Blk W bn12 56 #[.int .i64 a.se, .int .i64 a.fl, .int .i64 a.fm, .int .i64 a.to, .int .i64 a.ma, .int .i64 a.ca, .int .i64 a.ph, .int .i64 a.un, .int .i64 a.re, .int .i64 a.gr]) w9 := ⟨HS9.out, HBC9.out, HBL9.out, HBX9.out, HBm19.out, HBn99.out, HBm29.out, HBn129.out⟩
  have HRK := Lib.hid hrK
  have HRD := Lib.hid (show (fun W : World => Since w W ∧ Blk W w.heap.size 23 (cfgA c) ∧ Blk W bL 56 (leaA l) ∧ Blk W bX 76 (carA x) ∧ Blk W bm1 85 #[.int .i64 m0.ki, .int .i64 m0.a, .int .i64 m0.b, .int .i64 m0.c] ∧ Blk W bn9 56 #[.int .i64 a.se, .int .i64 a.fl, .int .i64 a.fm, .int .i64 a.to, .int .i64 a.ma, .int .i64 a.ca, .int .i64 a.ph, .int .i64 a.un, .int .i64 a.re, .int .i64 a.gr] ∧ Blk W bm2 85 #[.int .i64 m0.ki, .int .i64 m0.a, .int .i64 m0.b, .int .i64 m0.c] ∧ Blk W bn12 56 #[.int .i64 a.se, .int .i64 a.fl, .int .i64 a.fm, .int .i64 a.to, .int .i64 a.ma, .int .i64 a.ca, .int .i64 a.ph, .int .i64 a.un, .int .i64 a.re, .int .i64 a.gr]) (World.drew w9) from ⟨Since.drew hrS.1, hrS.2⟩)
  clear hrK hrS
  refine wp_region_held_drew (S := fun W : World => Since w W ∧ Blk W w.heap.size 23 (cfgA c) ∧ Blk W bL 56 (leaA l) ∧ Blk W bX 76 (carA x) ∧ Blk W bm1 85 #[.int .i64 m0.ki, .int .i64 m0.a, .int .i64 m0.b, .int .i64 m0.c] ∧ Blk W bn9 56 #[.int .i64 a.se, .int .i64 a.fl, .int .i64 a.fm, .int .i64 a.to, .int .i64 a.ma, .int .i64 a.ca, .int .i64 a.ph, .int .i64 a.un, .int .i64 a.re, .int .i64 a.gr] ∧ Blk W bm2 85 #[.int .i64 m0.ki, .int .i64 m0.a, .int .i64 m0.b, .int .i64 m0.c] ∧ Blk W bn12 56 #[.int .i64 a.se, .int .i64 a.fl, .int .i64 a.fm, .int .i64 a.to, .int .i64 a.ma, .int .i64 a.ca, .int .i64 a.ph, .int .i64 a.un, .int .i64 a.re, .int .i64 a.gr]) (by kernel_rfl) HRD.out (fun hHeld => ?_)
  refine wpAnyH_ready (rs := [0]) (by kernel_rfl) (by simp) ?_
  refine AllReadyH.cons (o := ?o7__0) ?h7__0 (fun K hK => ?_) AllReadyH.nil
  case h7__0 => (first | (simp only [gA, gB, gC]; done) | (simp only [gA, gB, gC]; exact rfl))
  (try go_simp)
  refine (ans _).mono ?_
  rintro e w10 ⟨rfl, hb⟩
  (try go_wp2_with fail)
  refine hK.out _ _ (by (apply HRK.out; exact hb; exact hHeld)) (fun hHeld2 => ?_)
  clear hK K hHeld hb
  have hHeld := hHeld2
  clear hHeld2
  (try simp only [Act.put, sA, sB, sC])
  refine wpAnyH_take (i := 1) (oi := ?o7__1) (v := .bool true) ?h7__1 (by kernel_rfl) (by kernel_rfl) (by kernel_rfl) ?q7__1 ?y7__1 (by assumption) ?_
  case h7__1 => (first | (simp only [gA, gB, gC]; done) | (simp only [gA, gB, gC]; exact rfl))
  case q7__1 => exact fun _ _ _ h => h
  case y7__1 => (refine Or.inl ⟨rfl, ?_⟩; intro w hSw; (first | rfl | (go_simp; (try with_reducible rfl))))
  (try simp only [Act.put, sA, sB, sC])
  refine wpAnyH_take (i := 2) (oi := ?o7__2) (v := .agg #[.int .i64 a.se, .int .i64 a.fl, .int .i64 a.fm, .int .i64 a.to, .int .i64 a.ma, .int .i64 a.ca, .int .i64 a.ph, .int .i64 a.un, .int .i64 a.re, .int .i64 a.gr]) ?h7__2 (by kernel_rfl) (by kernel_rfl) (by kernel_rfl) ?q7__2 ?y7__2 (by assumption) ?_
  case h7__2 => (first | (simp only [gA, gB, gC]; done) | (simp only [gA, gB, gC]; exact rfl))
  case q7__2 => exact fun _ _ _ h => h
  case y7__2 => (refine Or.inl ⟨rfl, ?_⟩; intro w hSw; exact exec_load_row 56 _ _ hSw.2.2.2.2.2.1 rfl rfl Try.underlying56 rfl (by kernel_rfl))
  (try simp only [Act.put, sA, sB, sC])
  refine wpAnyH_take (i := 3) (oi := ?o7__3) (v := .agg #[.int .i64 a.se, .int .i64 a.fl, .int .i64 a.fm, .int .i64 a.to, .int .i64 a.ma, .int .i64 a.ca, .int .i64 a.ph, .int .i64 a.un, .int .i64 a.re, .int .i64 a.gr]) ?h7__3 (by kernel_rfl) (by kernel_rfl) (by kernel_rfl) ?q7__3 ?y7__3 (by assumption) ?_
  case h7__3 => (first | (simp only [gA, gB, gC]; done) | (simp only [gA, gB, gC]; exact rfl))
  case q7__3 => exact fun _ _ _ h => h
  case y7__3 => (refine Or.inl ⟨rfl, ?_⟩; intro w hSw; exact exec_load_row 56 _ _ hSw.2.2.2.2.2.2.2 rfl rfl Try.underlying56 rfl (by kernel_rfl))
  (try simp only [Act.put, sA, sB, sC])
  refine wpAnyH_take (i := 4) (oi := ?o7__4) (v := .bool true) ?h7__4 (by kernel_rfl) (by kernel_rfl) (by kernel_rfl) ?q7__4 ?y7__4 (by assumption) ?_
  case h7__4 => (first | (simp only [gA, gB, gC]; done) | (simp only [gA, gB, gC]; exact rfl))
  case q7__4 => exact fun _ _ _ h => h
  case y7__4 => (refine Or.inl ⟨rfl, ?_⟩; intro w hSw; (go_simp; (try with_reducible rfl)))
  (try simp only [Act.put, sA, sB, sC])
  refine wpAnyH_take (i := 5) (oi := ?o7__5) (v := .bool true) ?h7__5 (by kernel_rfl) (by kernel_rfl) (by kernel_rfl) ?q7__5 ?y7__5 (by assumption) ?_
  case h7__5 => (first | (simp only [gA, gB, gC]; done) | (simp only [gA, gB, gC]; exact rfl))
  case q7__5 => exact fun _ _ _ h => h
  case y7__5 => (refine Or.inl ⟨rfl, ?_⟩; intro w hSw; (first | rfl | (go_simp; (try with_reducible rfl))))
  (try simp only [Act.put, sA, sB, sC])
  refine wpAnyH_take (i := 6) (oi := ?o7__6) (v := .bool true) ?h7__6 (by kernel_rfl) (by kernel_rfl) (by kernel_rfl) ?q7__6 ?y7__6 (by assumption) ?_
  case h7__6 => (first | (simp only [gA, gB, gC]; done) | (simp only [gA, gB, gC]; exact rfl))
  case q7__6 => exact fun _ _ _ h => h
  case y7__6 => (refine Or.inl ⟨rfl, ?_⟩; intro w hSw; (first | rfl | (go_simp; (try with_reducible rfl))))
  (try simp only [Act.put, sA, sB, sC])
  refine wpAnyH_take (i := 7) (oi := ?o7__7) (v := .slice (some ⟨bm1, 0, none⟩) 1 1) ?h7__7 (by kernel_rfl) (by kernel_rfl) (by kernel_rfl) ?q7__7 ?y7__7 (by assumption) ?_
  case h7__7 => (first | (simp only [gA, gB, gC]; done) | (simp only [gA, gB, gC]; exact rfl))
  case q7__7 => exact fun _ _ _ h => h
  case y7__7 => (refine Or.inl ⟨rfl, ?_⟩; intro w hSw; (first | rfl | (go_simp; (try with_reducible rfl))))
  (try simp only [Act.put, sA, sB, sC])
  refine wpAnyH_take (i := 8) (oi := ?o7__8) (v := .slice (some ⟨bm2, 0, none⟩) 1 1) ?h7__8 (by kernel_rfl) (by kernel_rfl) (by kernel_rfl) ?q7__8 ?y7__8 (by assumption) ?_
  case h7__8 => (first | (simp only [gA, gB, gC]; done) | (simp only [gA, gB, gC]; exact rfl))
  case q7__8 => exact fun _ _ _ h => h
  case y7__8 => (refine Or.inl ⟨rfl, ?_⟩; intro w hSw; (first | rfl | (go_simp; (try with_reducible rfl))))
  (try simp only [Act.put, sA, sB, sC])
  refine wpAnyH_ready (rs := [9]) (by kernel_rfl) (by simp) ?_
  refine AllReadyH.cons (o := ?o7__9) ?h7__9 (fun K hK => ?_) AllReadyH.nil
  case h7__9 => (first | (simp only [gA, gB, gC]; done) | (simp only [gA, gB, gC]; exact rfl))
  (try go_simp)
  refine (same1 m0 bm1 bm2 _ (hHeld.2.2.2.2.1) (hHeld.2.2.2.2.2.2.1)).mono ?_
  rintro e w11 ⟨rfl, hb⟩
  (try go_wp2_with fail)
  refine hK.out _ _ (by (apply HRK.out; exact hb; exact hHeld)) (fun hHeld2 => ?_)
  clear hK K hHeld hb
  have hHeld := hHeld2
  clear hHeld2
  (try simp only [Act.put, sA, sB, sC])
  refine wpAnyH_take (i := 10) (oi := ?o7__10) (v := .bool true) ?h7__10 (by kernel_rfl) (by kernel_rfl) (by kernel_rfl) ?q7__10 ?y7__10 (by assumption) ?_
  case h7__10 => (first | (simp only [gA, gB, gC]; done) | (simp only [gA, gB, gC]; exact rfl))
  case q7__10 => exact fun _ _ _ h => h
  case y7__10 => (refine Or.inl ⟨rfl, ?_⟩; intro w hSw; (first | rfl | (go_simp; (try with_reducible rfl))))
  (try simp only [Act.put, sA, sB, sC])
  refine wpAnyH_take (i := 11) (oi := ?o7__11) (v := .bool true) ?h7__11 (by kernel_rfl) (by kernel_rfl) (by kernel_rfl) ?q7__11 ?y7__11 (by assumption) ?_
  case h7__11 => (first | (simp only [gA, gB, gC]; done) | (simp only [gA, gB, gC]; exact rfl))
  case q7__11 => exact fun _ _ _ h => h
  case y7__11 => (refine Or.inl ⟨rfl, ?_⟩; intro w hSw; (first | rfl | (go_simp; (try with_reducible rfl))))
  (try simp only [Act.put, sA, sB, sC])
  refine wpAnyH_take (i := 12) (oi := ?o7__12) (v := .bool ov) ?h7__12 (by kernel_rfl) (by kernel_rfl) (by kernel_rfl) ?q7__12 ?y7__12 (by assumption) ?_
  case h7__12 => (first | (simp only [gA, gB, gC]; done) | (simp only [gA, gB, gC]; exact rfl))
  case q7__12 => exact fun _ _ _ h => h
  case y7__12 => (refine Or.inl ⟨rfl, ?_⟩; intro w hSw; (first | rfl | (go_simp; (try with_reducible rfl))))
  (try simp only [Act.put, sA, sB, sC])
  refine wpAnyH_take (i := 13) (oi := ?o7__13) (v := .bool ov) ?h7__13 (by kernel_rfl) (by kernel_rfl) (by kernel_rfl) ?q7__13 ?y7__13 (by assumption) ?_
  case h7__13 => (first | (simp only [gA, gB, gC]; done) | (simp only [gA, gB, gC]; exact rfl))
  case q7__13 => exact fun _ _ _ h => h
  case y7__13 => (refine Or.inl ⟨rfl, ?_⟩; intro w hSw; (first | rfl | (go_simp; (try with_reducible rfl))))
  (try simp only [Act.put, sA, sB, sC])
  refine wpAnyH_take (i := 14) (oi := ?o7__14) (v := .bool true) ?h7__14 (by kernel_rfl) (by kernel_rfl) (by kernel_rfl) ?q7__14 ?y7__14 (by assumption) ?_
  case h7__14 => (first | (simp only [gA, gB, gC]; done) | (simp only [gA, gB, gC]; exact rfl))
  case q7__14 => exact fun _ _ _ h => h
  case y7__14 => (refine Or.inl ⟨rfl, ?_⟩; intro w hSw; (go_simp; (try with_reducible rfl)))
  (try simp only [Act.put, sA, sB, sC])
  refine wpAnyH_take (i := 15) (oi := ?o7__15) (v := .bool true) ?h7__15 (by kernel_rfl) (by kernel_rfl) (by kernel_rfl) ?q7__15 ?y7__15 (by assumption) ?_
  case h7__15 => (first | (simp only [gA, gB, gC]; done) | (simp only [gA, gB, gC]; exact rfl))
  case q7__15 => exact fun _ _ _ h => h
  case y7__15 => (refine Or.inl ⟨rfl, ?_⟩; intro w hSw; (first | rfl | (go_simp; (try with_reducible rfl))))
  (try simp only [Act.put, sA, sB, sC])
  refine wpAnyH_take (i := 16) (oi := ?o7__16) (v := .bool true) ?h7__16 (by kernel_rfl) (by kernel_rfl) (by kernel_rfl) ?q7__16 ?y7__16 (by assumption) ?_
  case h7__16 => (first | (simp only [gA, gB, gC]; done) | (simp only [gA, gB, gC]; exact rfl))
  case q7__16 => exact fun _ _ _ h => h
  case y7__16 => (refine Or.inl ⟨rfl, ?_⟩; intro w hSw; (first | rfl | (go_simp; (try with_reducible rfl))))
  (try simp only [Act.put, sA, sB, sC])
  refine wpAnyH_take (i := 17) (oi := ?o7__17) (v := .int .i64 (aimF l)) ?h7__17 (by kernel_rfl) (by kernel_rfl) (by kernel_rfl) ?q7__17 ?y7__17 (by assumption) ?_
  case h7__17 => (first | (simp only [gA, gB, gC]; done) | (simp only [gA, gB, gC]; exact rfl))
  case q7__17 => exact fun _ _ _ h => h
  case y7__17 => (refine Or.inl ⟨rfl, ?_⟩; intro w hSw; (first | rfl | (go_simp; (try with_reducible rfl))))
  (try simp only [Act.put, sA, sB, sC])
  refine wpAnyH_take (i := 18) (oi := ?o7__18) (v := .int .i64 (aimF l)) ?h7__18 (by kernel_rfl) (by kernel_rfl) (by kernel_rfl) ?q7__18 ?y7__18 (by assumption) ?_
  case h7__18 => (first | (simp only [gA, gB, gC]; done) | (simp only [gA, gB, gC]; exact rfl))
  case q7__18 => exact fun _ _ _ h => h
  case y7__18 => (refine Or.inl ⟨rfl, ?_⟩; intro w hSw; (first | rfl | (go_simp; (try with_reducible rfl))))
  (try simp only [Act.put, sA, sB, sC])
  refine wpAnyH_take (i := 19) (oi := ?o7__19) (v := .bool true) ?h7__19 (by kernel_rfl) (by kernel_rfl) (by kernel_rfl) ?q7__19 ?y7__19 (by assumption) ?_
  case h7__19 => (first | (simp only [gA, gB, gC]; done) | (simp only [gA, gB, gC]; exact rfl))
  case q7__19 => exact fun _ _ _ h => h
  case y7__19 => (refine Or.inl ⟨rfl, ?_⟩; intro w hSw; (go_simp; (try with_reducible rfl)))
  (try simp only [Act.put, sA, sB, sC])
  refine wpAnyH_take (i := 20) (oi := ?o7__20) (v := .bool true) ?h7__20 (by kernel_rfl) (by kernel_rfl) (by kernel_rfl) ?q7__20 ?y7__20 (by assumption) ?_
  case h7__20 => (first | (simp only [gA, gB, gC]; done) | (simp only [gA, gB, gC]; exact rfl))
  case q7__20 => exact fun _ _ _ h => h
  case y7__20 => (refine Or.inl ⟨rfl, ?_⟩; intro w hSw; (first | rfl | (go_simp; (try with_reducible rfl))))
  (try simp only [Act.put, sA, sB, sC])
  refine wpAnyH_take (i := 21) (oi := ?o7__21) (v := .bool true) ?h7__21 (by kernel_rfl) (by kernel_rfl) (by kernel_rfl) ?q7__21 ?y7__21 (by assumption) ?_
  case h7__21 => (first | (simp only [gA, gB, gC]; done) | (simp only [gA, gB, gC]; exact rfl))
  case q7__21 => exact fun _ _ _ h => h
  case y7__21 => (refine Or.inl ⟨rfl, ?_⟩; intro w hSw; (first | rfl | (go_simp; (try with_reducible rfl))))
  (try simp only [Act.put, sA, sB, sC])
  refine wpAnyH_take (i := 22) (oi := ?o7__22) (v := .bool true) ?h7__22 (by kernel_rfl) (by kernel_rfl) (by kernel_rfl) ?q7__22 ?y7__22 (by assumption) ?_
  case h7__22 => (first | (simp only [gA, gB, gC]; done) | (simp only [gA, gB, gC]; exact rfl))
  case q7__22 => exact fun _ _ _ h => h
  case y7__22 => (refine Or.inl ⟨rfl, ?_⟩; intro w hSw; (first | rfl | (go_simp; (try with_reducible rfl))))
  (try simp only [Act.put, sA, sB, sC])
  refine wpAnyH_take (i := 23) (oi := ?o7__23) (v := .bool true) ?h7__23 (by kernel_rfl) (by kernel_rfl) (by kernel_rfl) ?q7__23 ?y7__23 (by assumption) ?_
  case h7__23 => (first | (simp only [gA, gB, gC]; done) | (simp only [gA, gB, gC]; exact rfl))
  case q7__23 => exact fun _ _ _ h => h
  case y7__23 => (refine Or.inl ⟨rfl, ?_⟩; intro w hSw; (first | rfl | (go_simp; (try with_reducible rfl))))
  (try simp only [Act.put, sA, sB, sC])
  refine wpAnyH_take (i := 24) (oi := ?o7__24) (v := .bool true) ?h7__24 (by kernel_rfl) (by kernel_rfl) (by kernel_rfl) ?q7__24 ?y7__24 (by assumption) ?_
  case h7__24 => (first | (simp only [gA, gB, gC]; done) | (simp only [gA, gB, gC]; exact rfl))
  case q7__24 => exact fun _ _ _ h => h
  case y7__24 => (refine Or.inl ⟨rfl, ?_⟩; intro w hSw; (go_simp; (try with_reducible rfl)))
  (try simp only [Act.put, sA, sB, sC])
  refine wpAnyH_take (i := 25) (oi := ?o7__25) (v := .bool true) ?h7__25 (by kernel_rfl) (by kernel_rfl) (by kernel_rfl) ?q7__25 ?y7__25 (by assumption) ?_
  case h7__25 => (first | (simp only [gA, gB, gC]; done) | (simp only [gA, gB, gC]; exact rfl))
  case q7__25 => exact fun _ _ _ h => h
  case y7__25 => (refine Or.inl ⟨rfl, ?_⟩; intro w hSw; (first | rfl | (go_simp; (try with_reducible rfl))))
  (try simp only [Act.put, sA, sB, sC])
  refine wpAnyH_take (i := 26) (oi := ?o7__26) (v := .bool true) ?h7__26 (by kernel_rfl) (by kernel_rfl) (by kernel_rfl) ?q7__26 ?y7__26 (by assumption) ?_
  case h7__26 => (first | (simp only [gA, gB, gC]; done) | (simp only [gA, gB, gC]; exact rfl))
  case q7__26 => exact fun _ _ _ h => h
  case y7__26 => (refine Or.inl ⟨rfl, ?_⟩; intro w hSw; (first | rfl | (go_simp; (try with_reducible rfl))))
  (try simp only [Act.put, sA, sB, sC])
  refine wpAnyH_take (i := 27) (oi := ?o7__27) (v := .agg (leaA l)) ?h7__27 (by kernel_rfl) (by kernel_rfl) (by kernel_rfl) ?q7__27 ?y7__27 (by assumption) ?_
  case h7__27 => (first | (simp only [gA, gB, gC]; done) | (simp only [gA, gB, gC]; exact rfl))
  case q7__27 => exact fun _ _ _ h => h
  case y7__27 => (refine Or.inl ⟨rfl, ?_⟩; intro w hSw; exact exec_load_row 56 _ _ hSw.2.2.1 rfl rfl Try.underlying56 rfl (by kernel_rfl))
  (try simp only [Act.put, sA, sB, sC])
  refine wpAnyH_take (i := 28) (oi := ?o7__28) (v := .int .i64 now) ?h7__28 (by kernel_rfl) (by kernel_rfl) (by kernel_rfl) ?q7__28 ?y7__28 (by assumption) ?_
  case h7__28 => (first | (simp only [gA, gB, gC]; done) | (simp only [gA, gB, gC]; exact rfl))
  case q7__28 => exact fun _ _ _ h => h
  case y7__28 => (refine Or.inl ⟨rfl, ?_⟩; intro w hSw; (first | rfl | (go_simp; (try with_reducible rfl))))
  (try simp only [Act.put, sA, sB, sC])
  refine wpAnyH_take (i := 30) (oi := ?o7__30) (v := .pointer (some ⟨bL, 7, none⟩)) ?h7__30 (by kernel_rfl) (by kernel_rfl) (by kernel_rfl) ?q7__30 ?y7__30 (by assumption) ?_
  case h7__30 => (first | (simp only [gA, gB, gC]; done) | (simp only [gA, gB, gC]; exact rfl))
  case q7__30 => exact fun _ _ _ h => h
  case y7__30 => (refine Or.inl ⟨rfl, ?_⟩; intro w hSw; (first | rfl | (go_simp; (try with_reducible rfl))))
  (try simp only [Act.put, sA, sB, sC])
  refine wpAnyH_take (i := 31) (oi := ?o7__31) (v := .int .i64 l.un) ?h7__31 (by kernel_rfl) (by kernel_rfl) (by kernel_rfl) ?q7__31 ?y7__31 (by assumption) ?_
  case h7__31 => (first | (simp only [gA, gB, gC]; done) | (simp only [gA, gB, gC]; exact rfl))
  case q7__31 => exact fun _ _ _ h => h
  case y7__31 => (refine Or.inl ⟨rfl, ?_⟩; intro w hSw; exact exec_cell 3 _ _ hSw.2.2.1 rfl rfl rfl Try.underlying3 rfl)
  (try simp only [Act.put, sA, sB, sC])
  refine wpAnyH_take (i := 32) (oi := ?o7__32) (v := .int .i64 now) ?h7__32 (by kernel_rfl) (by kernel_rfl) (by kernel_rfl) ?q7__32 ?y7__32 (by assumption) ?_
  case h7__32 => (first | (simp only [gA, gB, gC]; done) | (simp only [gA, gB, gC]; exact rfl))
  case q7__32 => exact fun _ _ _ h => h
  case y7__32 => (refine Or.inl ⟨rfl, ?_⟩; intro w hSw; (first | rfl | (go_simp; (try with_reducible rfl))))
  (try simp only [Act.put, sA, sB, sC])
  refine wpAnyH_ready (rs := [29]) (by kernel_rfl) (by simp) ?_
  refine AllReadyH.cons (o := ?o7__29) ?h7__29 (fun K hK => ?_) AllReadyH.nil
  case h7__29 => (first | (simp only [gA, gB, gC]; done) | (simp only [gA, gB, gC]; exact rfl))
  (try go_simp)
  refine (leftT l now _).mono ?_
  rintro e w12 ⟨rfl, hb⟩
  (try go_wp2_with fail)
  refine hK.out _ _ (by (apply HRK.out; exact hb; exact hHeld)) (fun hHeld2 => ?_)
  clear hK K hHeld hb
  have hHeld := hHeld2
  clear hHeld2
  (try simp only [Act.put, sA, sB, sC])
  refine wpAnyH_ready (rs := [33]) (by kernel_rfl) (by simp) ?_
  refine AllReadyH.cons (o := ?o7__33) ?h7__33 (fun K hK => ?_) AllReadyH.nil
  case h7__33 => (first | (simp only [gA, gB, gC]; done) | (simp only [gA, gB, gC]; exact rfl))
  (try go_simp)
  refine (clR _ _).mono ?_
  rintro e w' ⟨rfl, rfl⟩
  (try go_wp2_with fail)
  refine hK.out _ _ hHeld (fun hHeld2 => ?_)
  clear hK K hHeld2
  (try simp only [Act.put, sA, sB, sC])
  refine wpAnyH_take (i := 34) (oi := ?o7__34) (v := .int .i64 (l.un - cl now)) ?h7__34 (by kernel_rfl) (by kernel_rfl) (by kernel_rfl) ?q7__34 ?y7__34 (by assumption) ?_
  case h7__34 => (first | (simp only [gA, gB, gC]; done) | (simp only [gA, gB, gC]; exact rfl))
  case q7__34 => exact fun _ _ _ h => h
  case y7__34 => (refine Or.inl ⟨rfl, ?_⟩; intro w hSw; (go_simp; (first | done | (refine Ri.wr _ ?_ ?_ <;> (have q0 := H0.out; have q1 := H1.out; have q2 := C1.out; have q3 := C2.out; omega)) | (have q0 := H0.out; have q1 := H1.out; have q2 := C1.out; have q3 := C2.out; omega) | (have q0 := H0.out; have q1 := H1.out; have q2 := C1.out; have q3 := C2.out; split <;> omega) | (have q0 := H0.out; have q1 := H1.out; have q2 := C1.out; have q3 := C2.out; intro hh; omega))))
  (try simp only [Act.put, sA, sB, sC])
  refine wpAnyH_take (i := 35) (oi := ?o7__35) (v := .int .i64 (leftV l now)) ?h7__35 (by kernel_rfl) (by kernel_rfl) (by kernel_rfl) ?q7__35 ?y7__35 (by assumption) ?_
  case h7__35 => (first | (simp only [gA, gB, gC]; done) | (simp only [gA, gB, gC]; exact rfl))
  case q7__35 => exact fun _ _ _ h => h
  case y7__35 => (refine Or.inl ⟨rfl, ?_⟩; intro w hSw; (rcases HLV.out with ⟨q, e⟩ | ⟨q, e⟩ <;> (rw [e]; go_simp; (first | done | omega | (intro hh; omega)))))
  (try simp only [Act.put, sA, sB, sC])
  refine wpAnyH_take (i := 36) (oi := ?o7__36) (v := .bool true) ?h7__36 (by kernel_rfl) (by kernel_rfl) (by kernel_rfl) ?q7__36 ?y7__36 (by assumption) ?_
  case h7__36 => (first | (simp only [gA, gB, gC]; done) | (simp only [gA, gB, gC]; exact rfl))
  case q7__36 => exact fun _ _ _ h => h
  case y7__36 => (refine Or.inl ⟨rfl, ?_⟩; intro w hSw; (go_simp; (try with_reducible rfl)))
  (try simp only [Act.put, sA, sB, sC])
  refine wpAnyH_take (i := 37) (oi := ?o7__37) (v := .bool true) ?h7__37 (by kernel_rfl) (by kernel_rfl) (by kernel_rfl) ?q7__37 ?y7__37 (by assumption) ?_
  case h7__37 => (first | (simp only [gA, gB, gC]; done) | (simp only [gA, gB, gC]; exact rfl))
  case q7__37 => exact fun _ _ _ h => h
  case y7__37 => (refine Or.inl ⟨rfl, ?_⟩; intro w hSw; (first | rfl | (go_simp; (try with_reducible rfl))))
  (try simp only [Act.put, sA, sB, sC])
  refine wpAnyH_take (i := 38) (oi := ?o7__38) (v := .bool true) ?h7__38 (by kernel_rfl) (by kernel_rfl) (by kernel_rfl) ?q7__38 ?y7__38 (by assumption) ?_
  case h7__38 => (first | (simp only [gA, gB, gC]; done) | (simp only [gA, gB, gC]; exact rfl))
  case q7__38 => exact fun _ _ _ h => h
  case y7__38 => (refine Or.inl ⟨rfl, ?_⟩; intro w hSw; (first | rfl | (go_simp; (try with_reducible rfl))))
  (try simp only [Act.put, sA, sB, sC])
  refine wpAnyH_done (by kernel_rfl) ?_ _
  have HSd7 := Lib.hid hHeld.1
  have HBCd7 := Lib.hid (hHeld.2.1)
  have HBLd7 := Lib.hid (hHeld.2.2.1)
  have HBXd7 := Lib.hid (hHeld.2.2.2.1)
  have HBm1d7 := Lib.hid (hHeld.2.2.2.2.1)
  have HBn9d7 := Lib.hid (hHeld.2.2.2.2.2.1)
  have HBm2d7 := Lib.hid (hHeld.2.2.2.2.2.2.1)
  have HBn12d7 := Lib.hid (hHeld.2.2.2.2.2.2.2)
  clear hHeld HRK HRD HS9 HBC9 HBL9 HBX9 HBm19 HBn99 HBm29 HBn129
  (try go_wp2_with fail)
  go_ret
  exact ⟨rfl, HSd7.out⟩
theorem ticks (c : CfgV) (l : LeaseV) (x : CarV) (now : Int) (w : World) : Calls Try.prog 11 #[.agg #[.int .i64 c.ca, .int .i64 c.fl, .int .i64 c.ft, .int .i64 c.se, .int .i64 c.dr, .int .i64 c.dw, .int .i64 c.ho, .int .i64 c.re, .int .i64 c.yi, .int .i64 c.qu, .int .i64 c.qo, .int .i64 c.lo, .int .i64 c.sl, .int .i64 c.rt, .int .i64 c.cp, .int .i64 c.tr, .int .i64 c.de, .int .i64 c.wi], .agg #[.int .i64 l.se, .int .i64 l.fl, .int .i64 l.fm, .int .i64 l.to, .int .i64 l.ma, .int .i64 l.ca, .int .i64 l.ph, .int .i64 l.un, .int .i64 l.re, .int .i64 l.gr], .agg #[.int .i64 x.ds, .int .i64 x.da, .int .i64 x.un, .int .i64 x.wy, .int .i64 x.ti, .int .i64 x.ju, .int .i64 x.lo, .bool x.bl, .bool x.br, .int .i64 x.mo, .int .i64 x.ta, .bool x.ho, .int .u64 x.sp, .int .u64 x.su, .int .u64 x.sd], .int .i64 now] w fun e w' => e = .returned (.bool true) ∧ Since w w' := by
  by_cases h0 : l.un < 0
  · exact ticksX0 c l x now h0 w
  · by_cases h1 : 1099511627776 < l.un
    · exact ticksX1 c l x now h0 h1 w
    · have hT := fun W => tickT c l x now W
      have hR := fun W => rideR c l x now (cl_id _ (by omega) (by omega)) W
      generalize tickV c l x now = r at hT hR
      obtain ⟨a, o, ov⟩ := r
      cases o with
      | none => exact ticks_none c l x now a ov (Lib.hid hT) (Lib.hid hR) h0 h1 w
      | some m0 => exact ticks_some c l x now a ov m0 (Lib.hid hT) (Lib.hid hR) h0 h1 w
set_option maxHeartbeats 4000000 in
theorem hears_none (c : CfgV) (l : LeaseV) (x : CarV) (now : Int) (m : MsgV) (a : LeaseV) (ov : Bool) (HT : Hid (∀ W, Calls Try.prog 57 #[.agg #[.int .i64 c.ca, .int .i64 c.fl, .int .i64 c.ft, .int .i64 c.se, .int .i64 c.dr, .int .i64 c.dw, .int .i64 c.ho, .int .i64 c.re, .int .i64 c.yi, .int .i64 c.qu, .int .i64 c.qo, .int .i64 c.lo, .int .i64 c.sl, .int .i64 c.rt, .int .i64 c.cp, .int .i64 c.tr, .int .i64 c.de, .int .i64 c.wi], .agg #[.int .i64 l.se, .int .i64 l.fl, .int .i64 l.fm, .int .i64 l.to, .int .i64 l.ma, .int .i64 l.ca, .int .i64 l.ph, .int .i64 l.un, .int .i64 l.re, .int .i64 l.gr], .agg #[.int .i64 x.ds, .int .i64 x.da, .int .i64 x.un, .int .i64 x.wy, .int .i64 x.ti, .int .i64 x.ju, .int .i64 x.lo, .bool x.bl, .bool x.br, .int .i64 x.mo, .int .i64 x.ta, .bool x.ho, .int .u64 x.sp, .int .u64 x.su, .int .u64 x.sd], .int .i64 now, .agg (msgC m)] W (Said W (a, none, ov)))) (HR : Hid (∀ W, Calls Try.prog 58 #[.agg #[.int .i64 c.ca, .int .i64 c.fl, .int .i64 c.ft, .int .i64 c.se, .int .i64 c.dr, .int .i64 c.dw, .int .i64 c.ho, .int .i64 c.re, .int .i64 c.yi, .int .i64 c.qu, .int .i64 c.qo, .int .i64 c.lo, .int .i64 c.sl, .int .i64 c.rt, .int .i64 c.cp, .int .i64 c.tr, .int .i64 c.de, .int .i64 c.wi], .agg #[.int .i64 l.se, .int .i64 l.fl, .int .i64 l.fm, .int .i64 l.to, .int .i64 l.ma, .int .i64 l.ca, .int .i64 l.ph, .int .i64 l.un, .int .i64 l.re, .int .i64 l.gr], .agg #[.int .i64 x.ds, .int .i64 x.da, .int .i64 x.un, .int .i64 x.wy, .int .i64 x.ti, .int .i64 x.ju, .int .i64 x.lo, .bool x.bl, .bool x.br, .int .i64 x.mo, .int .i64 x.ta, .bool x.ho, .int .u64 x.sp, .int .u64 x.su, .int .u64 x.sd], .int .i64 now, .agg (msgC m)] W (Said W (a, none, ov)))) (w : World) : Calls Try.prog 12 #[.agg #[.int .i64 c.ca, .int .i64 c.fl, .int .i64 c.ft, .int .i64 c.se, .int .i64 c.dr, .int .i64 c.dw, .int .i64 c.ho, .int .i64 c.re, .int .i64 c.yi, .int .i64 c.qu, .int .i64 c.qo, .int .i64 c.lo, .int .i64 c.sl, .int .i64 c.rt, .int .i64 c.cp, .int .i64 c.tr, .int .i64 c.de, .int .i64 c.wi], .agg #[.int .i64 l.se, .int .i64 l.fl, .int .i64 l.fm, .int .i64 l.to, .int .i64 l.ma, .int .i64 l.ca, .int .i64 l.ph, .int .i64 l.un, .int .i64 l.re, .int .i64 l.gr], .agg #[.int .i64 x.ds, .int .i64 x.da, .int .i64 x.un, .int .i64 x.wy, .int .i64 x.ti, .int .i64 x.ju, .int .i64 x.lo, .bool x.bl, .bool x.br, .int .i64 x.mo, .int .i64 x.ta, .bool x.ho, .int .u64 x.sp, .int .u64 x.su, .int .u64 x.sd], .int .i64 now, .agg (msgC m)] w fun e w' => e = .returned (.bool true) ∧ Since w w' := by
  go_enter Try.func12, Try.ntmps12
  go_upto_region 1 with fail
  obtain ⟨w1, hw1⟩ : ∃ w1, w1 = ((((w.alloc (.cells #[.int .i64 c.ca, .int .i64 c.fl, .int .i64 c.ft, .int .i64 c.se, .int .i64 c.dr, .int .i64 c.dw, .int .i64 c.ho, .int .i64 c.re, .int .i64 c.yi, .int .i64 c.qu, .int .i64 c.qo, .int .i64 c.lo, .int .i64 c.sl, .int .i64 c.rt, .int .i64 c.cp, .int .i64 c.tr, .int .i64 c.de, .int .i64 c.wi] 23)).alloc (.cells #[.int .i64 l.se, .int .i64 l.fl, .int .i64 l.fm, .int .i64 l.to, .int .i64 l.ma, .int .i64 l.ca, .int .i64 l.ph, .int .i64 l.un, .int .i64 l.re, .int .i64 l.gr] 56)).alloc (.cells #[.int .i64 x.ds, .int .i64 x.da, .int .i64 x.un, .int .i64 x.wy, .int .i64 x.ti, .int .i64 x.ju, .int .i64 x.lo, .bool x.bl, .bool x.br, .int .i64 x.mo, .int .i64 x.ta, .bool x.ho, .int .u64 x.sp, .int .u64 x.su, .int .u64 x.sd] 76)).alloc (.cells (msgC m) 85)) := ⟨_, rfl⟩
  rw [← hw1]
  have HBC1 := Lib.hid (show Blk w1 (w.heap.size) 23 (cfgA c) by rw [hw1]; exact Blk.alloc (Blk.alloc (Blk.alloc (Blk.at_ (by (try simp only [size_alloc])) _ _) _) _) _)
  have HBL1 := Lib.hid (show Blk w1 (w.heap.size + 1) 56 (leaA l) by rw [hw1]; exact Blk.alloc (Blk.alloc (Blk.at_ (by (try simp only [size_alloc])) _ _) _) _)
  have HBX1 := Lib.hid (show Blk w1 (w.heap.size + 1 + 1) 76 (carA x) by rw [hw1]; exact Blk.alloc (Blk.at_ (by (try simp only [size_alloc])) _ _) _)
  have HBM1 := Lib.hid (show Blk w1 (w.heap.size + 1 + 1 + 1) 85 (msgC m) by rw [hw1]; exact Blk.at_ (by (try simp only [size_alloc])) _ _)
  have HS1 := Lib.hid (show Since w w1 by rw [hw1]; exact Since.alloc (Since.alloc (Since.alloc (Since.alloc (Since.refl w) _) _) _) _)
  have hNE : w.heap.size ≤ w.heap.size ∧ w.heap.size < w.heap.size + 1 ∧ w.heap.size + 1 < w.heap.size + 1 + 1 ∧ w.heap.size + 1 + 1 < w.heap.size + 1 + 1 + 1 := by omega
  have HNE := Lib.hid hNE
  clear hNE hw1
  generalize w.heap.size + 1 + 1 + 1 = bM at *
  generalize w.heap.size + 1 + 1 = bX at *
  generalize w.heap.size + 1 = bL at *
  have HNE3 := Lib.hid (show w.heap.size ≤ w.heap.size ∧ w.heap.size < bL ∧ bL < bX ∧ bX < bM from HNE.out)
  clear HNE
  refine wp_region_lit ?_
  refine wpList_q (by rfl) (.agg (cfgA c)) ?he ?_
  case he => exact exec_load_row 23 _ _ HBC1.out rfl rfl Try.underlying23 rfl (by kernel_rfl)
  (try simp only [Act.put, sA, sB, sC])
  refine wpList_q (by rfl) (.agg (leaA l)) ?he ?_
  case he => exact exec_load_row 56 _ _ HBL1.out rfl rfl Try.underlying56 rfl (by kernel_rfl)
  (try simp only [Act.put, sA, sB, sC])
  refine wpList_q (by rfl) (.agg (carA x)) ?he ?_
  case he => exact exec_load_row 76 _ _ HBX1.out rfl rfl Try.underlying76 rfl (by kernel_rfl)
  (try simp only [Act.put, sA, sB, sC])
  refine wpList_q (by rfl) (.int .i64 now) ?he ?_
  case he => (first | rfl | (go_simp; (try with_reducible rfl)))
  (try simp only [Act.put, sA, sB, sC])
  refine wpList_q (by rfl) (.agg (msgC m)) ?he ?_
  case he => exact exec_load_row 85 _ _ HBM1.out rfl rfl Try.underlying85 rfl (by kernel_rfl)
  (try simp only [Act.put, sA, sB, sC])
  refine wpList_wp (by rfl) (fun K hK => ?_)
  (try go_simp)
  refine (HT.out _).mono ?_
  rintro e w2 ⟨_, rfl, rfl, hb⟩
  (try go_wp2_with fail)
  refine hK.out _ _ ?_
  clear hK K
  (try simp only [Act.put, sA, sB, sC])
  have HS2 := Lib.hid (Since.trans HS1.out hb)
  have HBC2 := Lib.hid (keep_blk hb HBC1.out)
  have HBL2 := Lib.hid (keep_blk hb HBL1.out)
  have HBX2 := Lib.hid (keep_blk hb HBX1.out)
  have HBM2 := Lib.hid (keep_blk hb HBM1.out)
  clear HS1 HBC1 HBL1 HBX1 HBM1
  clear hb
  refine wpList_q (by rfl) (.tuple #[.agg #[.int .i64 a.se, .int .i64 a.fl, .int .i64 a.fm, .int .i64 a.to, .int .i64 a.ma, .int .i64 a.ca, .int .i64 a.ph, .int .i64 a.un, .int .i64 a.re, .int .i64 a.gr], .slice none 0 0, .bool ov]) ?he ?_
  case he => (first | rfl | (go_simp; (try with_reducible rfl)))
  (try simp only [Act.put, sA, sB, sC])
  refine wpList_q (by rfl) (.agg #[.int .i64 a.se, .int .i64 a.fl, .int .i64 a.fm, .int .i64 a.to, .int .i64 a.ma, .int .i64 a.ca, .int .i64 a.ph, .int .i64 a.un, .int .i64 a.re, .int .i64 a.gr]) ?he ?_
  case he => (first | rfl | (go_simp; (try with_reducible rfl)))
  (try simp only [Act.put, sA, sB, sC])
  refine wpList_q (by rfl) (.slice none 0 0) ?he ?_
  case he => (first | rfl | (go_simp; (try with_reducible rfl)))
  (try simp only [Act.put, sA, sB, sC])
  refine wpList_q (by rfl) (.bool ov) ?he ?_
  case he => (first | rfl | (go_simp; (try with_reducible rfl)))
  (try simp only [Act.put, sA, sB, sC])
  refine wpList_wp (by rfl) (fun K hK => ?_)
  refine wp_new (fun b => .pointer (some ⟨b, 0, none⟩)) 56 #[.int .i64 0, .int .i64 0, .int .i64 0, .int .i64 0, .int .i64 0, .int .i64 0, .int .i64 0, .int .i64 0, .int .i64 0, .int .i64 0] (by rintro b rfl; first | rfl | kernel_rfl) ?_
  intro bn11 w3 hge hB hb
  refine hK.out _ _ ?_
  clear hK K
  (try simp only [Act.put, sA, sB, sC])
  have HNn11C := Lib.hid (show bn11 ≠ w.heap.size by have := Blk.lt HBC2.out; omega)
  have HNn11L := Lib.hid (show bn11 ≠ bL by have := Blk.lt HBL2.out; omega)
  have HNn11X := Lib.hid (show bn11 ≠ bX by have := Blk.lt HBX2.out; omega)
  have HNn11M := Lib.hid (show bn11 ≠ bM by have := Blk.lt HBM2.out; omega)
  have HGn11 := Lib.hid (show w.heap.size ≤ bn11 by have := Since.size HS2.out; omega)
  have HS3 := Lib.hid (Since.trans HS2.out hb)
  have HBC3 := Lib.hid (keep_blk hb HBC2.out)
  have HBL3 := Lib.hid (keep_blk hb HBL2.out)
  have HBX3 := Lib.hid (keep_blk hb HBX2.out)
  have HBM3 := Lib.hid (keep_blk hb HBM2.out)
  clear HS2 HBC2 HBL2 HBX2 HBM2
  clear hb hge
  have HBn113 := Lib.hid hB
  clear hB
  refine wpList_wp (by rfl) (fun K hK => ?_)
  refine wp_st_row 56 _ _ rfl #[.int .i64 a.se, .int .i64 a.fl, .int .i64 a.fm, .int .i64 a.to, .int .i64 a.ma, .int .i64 a.ca, .int .i64 a.ph, .int .i64 a.un, .int .i64 a.re, .int .i64 a.gr] rfl rfl (HasRow.of HBn113.out rfl) rfl (by simp [cfgA, leaA, carA, msgC, Value.oneCell']) (by kernel_rfl) ?_
  intro w4 hw
  refine hK.out _ _ ?_
  clear hK K
  (try simp only [Act.put, sA, sB, sC])
  have HS4 := Lib.hid (show Since w w4 by rw [hw]; exact Since.setRow HS3.out HGn11.out _)
  have HBC4 := Lib.hid (show Blk w4 w.heap.size 23 (cfgA c) by rw [hw]; exact Blk.row_far HBC3.out (Ne.symm HNn11C.out) _)
  have HBL4 := Lib.hid (show Blk w4 bL 56 (leaA l) by rw [hw]; exact Blk.row_far HBL3.out (Ne.symm HNn11L.out) _)
  have HBX4 := Lib.hid (show Blk w4 bX 76 (carA x) by rw [hw]; exact Blk.row_far HBX3.out (Ne.symm HNn11X.out) _)
  have HBM4 := Lib.hid (show Blk w4 bM 85 (msgC m) by rw [hw]; exact Blk.row_far HBM3.out (Ne.symm HNn11M.out) _)
  have HBn114 := Lib.hid (show Blk w4 bn11 56 #[.int .i64 a.se, .int .i64 a.fl, .int .i64 a.fm, .int .i64 a.to, .int .i64 a.ma, .int .i64 a.ca, .int .i64 a.ph, .int .i64 a.un, .int .i64 a.re, .int .i64 a.gr] by rw [hw]; exact Blk.row HBn113.out _)
  clear hw HS3 HBC3 HBL3 HBX3 HBM3 HBn113
  refine wpList_q (by rfl) (.slice none 0 0) ?he ?_
  case he => (first | rfl | (go_simp; (try with_reducible rfl)))
  (try simp only [Act.put, sA, sB, sC])
  refine wpList_q (by rfl) (.bool ov) ?he ?_
  case he => (first | rfl | (go_simp; (try with_reducible rfl)))
  (try simp only [Act.put, sA, sB, sC])
  refine wpList_nil ?_
  go_upto_region 2 with fail
  refine wp_region_lit ?_
  refine wpList_q (by rfl) (.agg (cfgA c)) ?he ?_
  case he => exact exec_load_row 23 _ _ HBC4.out rfl rfl Try.underlying23 rfl (by kernel_rfl)
  (try simp only [Act.put, sA, sB, sC])
  refine wpList_q (by rfl) (.agg (leaA l)) ?he ?_
  case he => exact exec_load_row 56 _ _ HBL4.out rfl rfl Try.underlying56 rfl (by kernel_rfl)
  (try simp only [Act.put, sA, sB, sC])
  refine wpList_q (by rfl) (.agg (carA x)) ?he ?_
  case he => exact exec_load_row 76 _ _ HBX4.out rfl rfl Try.underlying76 rfl (by kernel_rfl)
  (try simp only [Act.put, sA, sB, sC])
  refine wpList_q (by rfl) (.int .i64 now) ?he ?_
  case he => (first | rfl | (go_simp; (try with_reducible rfl)))
  (try simp only [Act.put, sA, sB, sC])
  refine wpList_q (by rfl) (.agg (msgC m)) ?he ?_
  case he => exact exec_load_row 85 _ _ HBM4.out rfl rfl Try.underlying85 rfl (by kernel_rfl)
  (try simp only [Act.put, sA, sB, sC])
  refine wpList_wp (by rfl) (fun K hK => ?_)
  (try go_simp)
  refine (HR.out _).mono ?_
  rintro e w5 ⟨_, rfl, rfl, hb⟩
  (try go_wp2_with fail)
  refine hK.out _ _ ?_
  clear hK K
  (try simp only [Act.put, sA, sB, sC])
  have HS5 := Lib.hid (Since.trans HS4.out hb)
  have HBC5 := Lib.hid (keep_blk hb HBC4.out)
  have HBL5 := Lib.hid (keep_blk hb HBL4.out)
  have HBX5 := Lib.hid (keep_blk hb HBX4.out)
  have HBM5 := Lib.hid (keep_blk hb HBM4.out)
  have HBn115 := Lib.hid (keep_blk hb HBn114.out)
  clear HS4 HBC4 HBL4 HBX4 HBM4 HBn114
  clear hb
  refine wpList_q (by rfl) (.tuple #[.agg #[.int .i64 a.se, .int .i64 a.fl, .int .i64 a.fm, .int .i64 a.to, .int .i64 a.ma, .int .i64 a.ca, .int .i64 a.ph, .int .i64 a.un, .int .i64 a.re, .int .i64 a.gr], .slice none 0 0, .bool ov]) ?he ?_
  case he => (first | rfl | (go_simp; (try with_reducible rfl)))
  (try simp only [Act.put, sA, sB, sC])
  refine wpList_q (by rfl) (.agg #[.int .i64 a.se, .int .i64 a.fl, .int .i64 a.fm, .int .i64 a.to, .int .i64 a.ma, .int .i64 a.ca, .int .i64 a.ph, .int .i64 a.un, .int .i64 a.re, .int .i64 a.gr]) ?he ?_
  case he => (first | rfl | (go_simp; (try with_reducible rfl)))
  (try simp only [Act.put, sA, sB, sC])
  refine wpList_q (by rfl) (.slice none 0 0) ?he ?_
  case he => (first | rfl | (go_simp; (try with_reducible rfl)))
  (try simp only [Act.put, sA, sB, sC])
  refine wpList_q (by rfl) (.bool ov) ?he ?_
  case he => (first | rfl | (go_simp; (try with_reducible rfl)))
  (try simp only [Act.put, sA, sB, sC])
  refine wpList_wp (by rfl) (fun K hK => ?_)
  refine wp_new (fun b => .pointer (some ⟨b, 0, none⟩)) 56 #[.int .i64 0, .int .i64 0, .int .i64 0, .int .i64 0, .int .i64 0, .int .i64 0, .int .i64 0, .int .i64 0, .int .i64 0, .int .i64 0] (by rintro b rfl; first | rfl | kernel_rfl) ?_
  intro bn14 w6 hge hB hb
  refine hK.out _ _ ?_
  clear hK K
  (try simp only [Act.put, sA, sB, sC])
  have HNn14C := Lib.hid (show bn14 ≠ w.heap.size by have := Blk.lt HBC5.out; omega)
  have HNn14L := Lib.hid (show bn14 ≠ bL by have := Blk.lt HBL5.out; omega)
  have HNn14X := Lib.hid (show bn14 ≠ bX by have := Blk.lt HBX5.out; omega)
  have HNn14M := Lib.hid (show bn14 ≠ bM by have := Blk.lt HBM5.out; omega)
  have HNn14n11 := Lib.hid (show bn14 ≠ bn11 by have := Blk.lt HBn115.out; omega)
  have HGn14 := Lib.hid (show w.heap.size ≤ bn14 by have := Since.size HS5.out; omega)
  have HS6 := Lib.hid (Since.trans HS5.out hb)
  have HBC6 := Lib.hid (keep_blk hb HBC5.out)
  have HBL6 := Lib.hid (keep_blk hb HBL5.out)
  have HBX6 := Lib.hid (keep_blk hb HBX5.out)
  have HBM6 := Lib.hid (keep_blk hb HBM5.out)
  have HBn116 := Lib.hid (keep_blk hb HBn115.out)
  clear HS5 HBC5 HBL5 HBX5 HBM5 HBn115
  clear hb hge
  have HBn146 := Lib.hid hB
  clear hB
  refine wpList_wp (by rfl) (fun K hK => ?_)
  refine wp_st_row 56 _ _ rfl #[.int .i64 a.se, .int .i64 a.fl, .int .i64 a.fm, .int .i64 a.to, .int .i64 a.ma, .int .i64 a.ca, .int .i64 a.ph, .int .i64 a.un, .int .i64 a.re, .int .i64 a.gr] rfl rfl (HasRow.of HBn146.out rfl) rfl (by simp [cfgA, leaA, carA, msgC, Value.oneCell']) (by kernel_rfl) ?_
  intro w7 hw
  refine hK.out _ _ ?_
  clear hK K
  (try simp only [Act.put, sA, sB, sC])
  have HS7 := Lib.hid (show Since w w7 by rw [hw]; exact Since.setRow HS6.out HGn14.out _)
  have HBC7 := Lib.hid (show Blk w7 w.heap.size 23 (cfgA c) by rw [hw]; exact Blk.row_far HBC6.out (Ne.symm HNn14C.out) _)
  have HBL7 := Lib.hid (show Blk w7 bL 56 (leaA l) by rw [hw]; exact Blk.row_far HBL6.out (Ne.symm HNn14L.out) _)
  have HBX7 := Lib.hid (show Blk w7 bX 76 (carA x) by rw [hw]; exact Blk.row_far HBX6.out (Ne.symm HNn14X.out) _)
  have HBM7 := Lib.hid (show Blk w7 bM 85 (msgC m) by rw [hw]; exact Blk.row_far HBM6.out (Ne.symm HNn14M.out) _)
  have HBn117 := Lib.hid (show Blk w7 bn11 56 #[.int .i64 a.se, .int .i64 a.fl, .int .i64 a.fm, .int .i64 a.to, .int .i64 a.ma, .int .i64 a.ca, .int .i64 a.ph, .int .i64 a.un, .int .i64 a.re, .int .i64 a.gr] by rw [hw]; exact Blk.row_far HBn116.out (Ne.symm HNn14n11.out) _)
  have HBn147 := Lib.hid (show Blk w7 bn14 56 #[.int .i64 a.se, .int .i64 a.fl, .int .i64 a.fm, .int .i64 a.to, .int .i64 a.ma, .int .i64 a.ca, .int .i64 a.ph, .int .i64 a.un, .int .i64 a.re, .int .i64 a.gr] by rw [hw]; exact Blk.row HBn146.out _)
  clear hw HS6 HBC6 HBL6 HBX6 HBM6 HBn116 HBn146
  refine wpList_q (by rfl) (.slice none 0 0) ?he ?_
  case he => (first | rfl | (go_simp; (try with_reducible rfl)))
  (try simp only [Act.put, sA, sB, sC])
  refine wpList_q (by rfl) (.bool ov) ?he ?_
  case he => (first | rfl | (go_simp; (try with_reducible rfl)))
  (try simp only [Act.put, sA, sB, sC])
  refine wpList_nil ?_
  go_upto_region 3 with fail
  refine wp_region_lit ?_
  refine wpList_wp (by rfl) (fun K hK => ?_)
  (try go_simp)
  refine (ans _).mono ?_
  rintro e w8 ⟨rfl, hb⟩
  (try go_wp2_with fail)
  refine hK.out _ _ ?_
  clear hK K
  (try simp only [Act.put, sA, sB, sC])
  have HS8 := Lib.hid (Since.trans HS7.out hb)
  have HBC8 := Lib.hid (keep_blk hb HBC7.out)
  have HBL8 := Lib.hid (keep_blk hb HBL7.out)
  have HBX8 := Lib.hid (keep_blk hb HBX7.out)
  have HBM8 := Lib.hid (keep_blk hb HBM7.out)
  have HBn118 := Lib.hid (keep_blk hb HBn117.out)
  have HBn148 := Lib.hid (keep_blk hb HBn147.out)
  clear HS7 HBC7 HBL7 HBX7 HBM7 HBn117 HBn147
  clear hb
  refine wpList_q (by rfl) (.bool true) ?he ?_
  case he => (first | rfl | (go_simp; (try with_reducible rfl)))
  (try simp only [Act.put, sA, sB, sC])
  refine wpList_q (by rfl) (.agg #[.int .i64 a.se, .int .i64 a.fl, .int .i64 a.fm, .int .i64 a.to, .int .i64 a.ma, .int .i64 a.ca, .int .i64 a.ph, .int .i64 a.un, .int .i64 a.re, .int .i64 a.gr]) ?he ?_
  case he => exact exec_load_row 56 _ _ HBn118.out rfl rfl Try.underlying56 rfl (by kernel_rfl)
  (try simp only [Act.put, sA, sB, sC])
  refine wpList_q (by rfl) (.agg #[.int .i64 a.se, .int .i64 a.fl, .int .i64 a.fm, .int .i64 a.to, .int .i64 a.ma, .int .i64 a.ca, .int .i64 a.ph, .int .i64 a.un, .int .i64 a.re, .int .i64 a.gr]) ?he ?_
  case he => exact exec_load_row 56 _ _ HBn148.out rfl rfl Try.underlying56 rfl (by kernel_rfl)
  (try simp only [Act.put, sA, sB, sC])
  refine wpList_q (by rfl) (.bool true) ?he ?_
  case he => (go_simp; (try with_reducible rfl))
  (try simp only [Act.put, sA, sB, sC])
  refine wpList_q (by rfl) (.bool true) ?he ?_
  case he => (first | rfl | (go_simp; (try with_reducible rfl)))
  (try simp only [Act.put, sA, sB, sC])
  refine wpList_q (by rfl) (.bool true) ?he ?_
  case he => (first | rfl | (go_simp; (try with_reducible rfl)))
  (try simp only [Act.put, sA, sB, sC])
  refine wpList_q (by rfl) (.slice none 0 0) ?he ?_
  case he => (first | rfl | (go_simp; (try with_reducible rfl)))
  (try simp only [Act.put, sA, sB, sC])
  refine wpList_q (by rfl) (.slice none 0 0) ?he ?_
  case he => (first | rfl | (go_simp; (try with_reducible rfl)))
  (try simp only [Act.put, sA, sB, sC])
  refine wpList_wp (by rfl) (fun K hK => ?_)
  (try go_simp)
  refine (same0 _).mono ?_
  rintro e w9 ⟨rfl, hb⟩
  (try go_wp2_with fail)
  refine hK.out _ _ ?_
  clear hK K
  (try simp only [Act.put, sA, sB, sC])
  have HS9 := Lib.hid (Since.trans HS8.out hb)
  have HBC9 := Lib.hid (keep_blk hb HBC8.out)
  have HBL9 := Lib.hid (keep_blk hb HBL8.out)
  have HBX9 := Lib.hid (keep_blk hb HBX8.out)
  have HBM9 := Lib.hid (keep_blk hb HBM8.out)
  have HBn119 := Lib.hid (keep_blk hb HBn118.out)
  have HBn149 := Lib.hid (keep_blk hb HBn148.out)
  clear HS8 HBC8 HBL8 HBX8 HBM8 HBn118 HBn148
  clear hb
  refine wpList_q (by rfl) (.bool true) ?he ?_
  case he => (first | rfl | (go_simp; (try with_reducible rfl)))
  (try simp only [Act.put, sA, sB, sC])
  refine wpList_q (by rfl) (.bool true) ?he ?_
  case he => (first | rfl | (go_simp; (try with_reducible rfl)))
  (try simp only [Act.put, sA, sB, sC])
  refine wpList_q (by rfl) (.bool ov) ?he ?_
  case he => (first | rfl | (go_simp; (try with_reducible rfl)))
  (try simp only [Act.put, sA, sB, sC])
  refine wpList_q (by rfl) (.bool ov) ?he ?_
  case he => (first | rfl | (go_simp; (try with_reducible rfl)))
  (try simp only [Act.put, sA, sB, sC])
  refine wpList_q (by rfl) (.bool true) ?he ?_
  case he => (go_simp; (try with_reducible rfl))
  (try simp only [Act.put, sA, sB, sC])
  refine wpList_q (by rfl) (.bool true) ?he ?_
  case he => (first | rfl | (go_simp; (try with_reducible rfl)))
  (try simp only [Act.put, sA, sB, sC])
  refine wpList_q (by rfl) (.bool true) ?he ?_
  case he => (first | rfl | (go_simp; (try with_reducible rfl)))
  (try simp only [Act.put, sA, sB, sC])
  refine wpList_nil ?_
  (try go_wp2_with fail)
  go_ret
  exact ⟨rfl, HS9.out⟩
set_option maxHeartbeats 4000000 in
theorem hears_some (c : CfgV) (l : LeaseV) (x : CarV) (now : Int) (m : MsgV) (a : LeaseV) (ov : Bool) (m0 : MsgV) (HT : Hid (∀ W, Calls Try.prog 57 #[.agg #[.int .i64 c.ca, .int .i64 c.fl, .int .i64 c.ft, .int .i64 c.se, .int .i64 c.dr, .int .i64 c.dw, .int .i64 c.ho, .int .i64 c.re, .int .i64 c.yi, .int .i64 c.qu, .int .i64 c.qo, .int .i64 c.lo, .int .i64 c.sl, .int .i64 c.rt, .int .i64 c.cp, .int .i64 c.tr, .int .i64 c.de, .int .i64 c.wi], .agg #[.int .i64 l.se, .int .i64 l.fl, .int .i64 l.fm, .int .i64 l.to, .int .i64 l.ma, .int .i64 l.ca, .int .i64 l.ph, .int .i64 l.un, .int .i64 l.re, .int .i64 l.gr], .agg #[.int .i64 x.ds, .int .i64 x.da, .int .i64 x.un, .int .i64 x.wy, .int .i64 x.ti, .int .i64 x.ju, .int .i64 x.lo, .bool x.bl, .bool x.br, .int .i64 x.mo, .int .i64 x.ta, .bool x.ho, .int .u64 x.sp, .int .u64 x.su, .int .u64 x.sd], .int .i64 now, .agg (msgC m)] W (Said W (a, some m0, ov)))) (HR : Hid (∀ W, Calls Try.prog 58 #[.agg #[.int .i64 c.ca, .int .i64 c.fl, .int .i64 c.ft, .int .i64 c.se, .int .i64 c.dr, .int .i64 c.dw, .int .i64 c.ho, .int .i64 c.re, .int .i64 c.yi, .int .i64 c.qu, .int .i64 c.qo, .int .i64 c.lo, .int .i64 c.sl, .int .i64 c.rt, .int .i64 c.cp, .int .i64 c.tr, .int .i64 c.de, .int .i64 c.wi], .agg #[.int .i64 l.se, .int .i64 l.fl, .int .i64 l.fm, .int .i64 l.to, .int .i64 l.ma, .int .i64 l.ca, .int .i64 l.ph, .int .i64 l.un, .int .i64 l.re, .int .i64 l.gr], .agg #[.int .i64 x.ds, .int .i64 x.da, .int .i64 x.un, .int .i64 x.wy, .int .i64 x.ti, .int .i64 x.ju, .int .i64 x.lo, .bool x.bl, .bool x.br, .int .i64 x.mo, .int .i64 x.ta, .bool x.ho, .int .u64 x.sp, .int .u64 x.su, .int .u64 x.sd], .int .i64 now, .agg (msgC m)] W (Said W (a, some m0, ov)))) (w : World) : Calls Try.prog 12 #[.agg #[.int .i64 c.ca, .int .i64 c.fl, .int .i64 c.ft, .int .i64 c.se, .int .i64 c.dr, .int .i64 c.dw, .int .i64 c.ho, .int .i64 c.re, .int .i64 c.yi, .int .i64 c.qu, .int .i64 c.qo, .int .i64 c.lo, .int .i64 c.sl, .int .i64 c.rt, .int .i64 c.cp, .int .i64 c.tr, .int .i64 c.de, .int .i64 c.wi], .agg #[.int .i64 l.se, .int .i64 l.fl, .int .i64 l.fm, .int .i64 l.to, .int .i64 l.ma, .int .i64 l.ca, .int .i64 l.ph, .int .i64 l.un, .int .i64 l.re, .int .i64 l.gr], .agg #[.int .i64 x.ds, .int .i64 x.da, .int .i64 x.un, .int .i64 x.wy, .int .i64 x.ti, .int .i64 x.ju, .int .i64 x.lo, .bool x.bl, .bool x.br, .int .i64 x.mo, .int .i64 x.ta, .bool x.ho, .int .u64 x.sp, .int .u64 x.su, .int .u64 x.sd], .int .i64 now, .agg (msgC m)] w fun e w' => e = .returned (.bool true) ∧ Since w w' := by
  go_enter Try.func12, Try.ntmps12
  go_upto_region 1 with fail
  obtain ⟨w1, hw1⟩ : ∃ w1, w1 = ((((w.alloc (.cells #[.int .i64 c.ca, .int .i64 c.fl, .int .i64 c.ft, .int .i64 c.se, .int .i64 c.dr, .int .i64 c.dw, .int .i64 c.ho, .int .i64 c.re, .int .i64 c.yi, .int .i64 c.qu, .int .i64 c.qo, .int .i64 c.lo, .int .i64 c.sl, .int .i64 c.rt, .int .i64 c.cp, .int .i64 c.tr, .int .i64 c.de, .int .i64 c.wi] 23)).alloc (.cells #[.int .i64 l.se, .int .i64 l.fl, .int .i64 l.fm, .int .i64 l.to, .int .i64 l.ma, .int .i64 l.ca, .int .i64 l.ph, .int .i64 l.un, .int .i64 l.re, .int .i64 l.gr] 56)).alloc (.cells #[.int .i64 x.ds, .int .i64 x.da, .int .i64 x.un, .int .i64 x.wy, .int .i64 x.ti, .int .i64 x.ju, .int .i64 x.lo, .bool x.bl, .bool x.br, .int .i64 x.mo, .int .i64 x.ta, .bool x.ho, .int .u64 x.sp, .int .u64 x.su, .int .u64 x.sd] 76)).alloc (.cells (msgC m) 85)) := ⟨_, rfl⟩
  rw [← hw1]
  have HBC1 := Lib.hid (show Blk w1 (w.heap.size) 23 (cfgA c) by rw [hw1]; exact Blk.alloc (Blk.alloc (Blk.alloc (Blk.at_ (by (try simp only [size_alloc])) _ _) _) _) _)
  have HBL1 := Lib.hid (show Blk w1 (w.heap.size + 1) 56 (leaA l) by rw [hw1]; exact Blk.alloc (Blk.alloc (Blk.at_ (by (try simp only [size_alloc])) _ _) _) _)
  have HBX1 := Lib.hid (show Blk w1 (w.heap.size + 1 + 1) 76 (carA x) by rw [hw1]; exact Blk.alloc (Blk.at_ (by (try simp only [size_alloc])) _ _) _)
  have HBM1 := Lib.hid (show Blk w1 (w.heap.size + 1 + 1 + 1) 85 (msgC m) by rw [hw1]; exact Blk.at_ (by (try simp only [size_alloc])) _ _)
  have HS1 := Lib.hid (show Since w w1 by rw [hw1]; exact Since.alloc (Since.alloc (Since.alloc (Since.alloc (Since.refl w) _) _) _) _)
  have hNE : w.heap.size ≤ w.heap.size ∧ w.heap.size < w.heap.size + 1 ∧ w.heap.size + 1 < w.heap.size + 1 + 1 ∧ w.heap.size + 1 + 1 < w.heap.size + 1 + 1 + 1 := by omega
  have HNE := Lib.hid hNE
  clear hNE hw1
  generalize w.heap.size + 1 + 1 + 1 = bM at *
  generalize w.heap.size + 1 + 1 = bX at *
  generalize w.heap.size + 1 = bL at *
  have HNE3 := Lib.hid (show w.heap.size ≤ w.heap.size ∧ w.heap.size < bL ∧ bL < bX ∧ bX < bM from HNE.out)
  clear HNE
  refine wp_region_lit ?_
  refine wpList_q (by rfl) (.agg (cfgA c)) ?he ?_
  case he => exact exec_load_row 23 _ _ HBC1.out rfl rfl Try.underlying23 rfl (by kernel_rfl)
  (try simp only [Act.put, sA, sB, sC])
  refine wpList_q (by rfl) (.agg (leaA l)) ?he ?_
  case he => exact exec_load_row 56 _ _ HBL1.out rfl rfl Try.underlying56 rfl (by kernel_rfl)
  (try simp only [Act.put, sA, sB, sC])
  refine wpList_q (by rfl) (.agg (carA x)) ?he ?_
  case he => exact exec_load_row 76 _ _ HBX1.out rfl rfl Try.underlying76 rfl (by kernel_rfl)
  (try simp only [Act.put, sA, sB, sC])
  refine wpList_q (by rfl) (.int .i64 now) ?he ?_
  case he => (first | rfl | (go_simp; (try with_reducible rfl)))
  (try simp only [Act.put, sA, sB, sC])
  refine wpList_q (by rfl) (.agg (msgC m)) ?he ?_
  case he => exact exec_load_row 85 _ _ HBM1.out rfl rfl Try.underlying85 rfl (by kernel_rfl)
  (try simp only [Act.put, sA, sB, sC])
  refine wpList_wp (by rfl) (fun K hK => ?_)
  (try go_simp)
  refine (HT.out _).mono ?_
  rintro e w2 ⟨_, rfl, ⟨bm1, rfl, hge, hB⟩, hb⟩
  (try go_wp2_with fail)
  refine hK.out _ _ ?_
  clear hK K
  (try simp only [Act.put, sA, sB, sC])
  have HNm1C := Lib.hid (show bm1 ≠ w.heap.size by have := Blk.lt HBC1.out; omega)
  have HNm1L := Lib.hid (show bm1 ≠ bL by have := Blk.lt HBL1.out; omega)
  have HNm1X := Lib.hid (show bm1 ≠ bX by have := Blk.lt HBX1.out; omega)
  have HNm1M := Lib.hid (show bm1 ≠ bM by have := Blk.lt HBM1.out; omega)
  have HGm1 := Lib.hid (show w.heap.size ≤ bm1 by have := Since.size HS1.out; omega)
  have HS2 := Lib.hid (Since.trans HS1.out hb)
  have HBC2 := Lib.hid (keep_blk hb HBC1.out)
  have HBL2 := Lib.hid (keep_blk hb HBL1.out)
  have HBX2 := Lib.hid (keep_blk hb HBX1.out)
  have HBM2 := Lib.hid (keep_blk hb HBM1.out)
  clear HS1 HBC1 HBL1 HBX1 HBM1
  clear hb hge
  have HBm12 := Lib.hid hB
  clear hB
  refine wpList_q (by rfl) (.tuple #[.agg #[.int .i64 a.se, .int .i64 a.fl, .int .i64 a.fm, .int .i64 a.to, .int .i64 a.ma, .int .i64 a.ca, .int .i64 a.ph, .int .i64 a.un, .int .i64 a.re, .int .i64 a.gr], .slice (some ⟨bm1, 0, none⟩) 1 1, .bool ov]) ?he ?_
  case he => (first | rfl | (go_simp; (try with_reducible rfl)))
  (try simp only [Act.put, sA, sB, sC])
  refine wpList_q (by rfl) (.agg #[.int .i64 a.se, .int .i64 a.fl, .int .i64 a.fm, .int .i64 a.to, .int .i64 a.ma, .int .i64 a.ca, .int .i64 a.ph, .int .i64 a.un, .int .i64 a.re, .int .i64 a.gr]) ?he ?_
  case he => (first | rfl | (go_simp; (try with_reducible rfl)))
  (try simp only [Act.put, sA, sB, sC])
  refine wpList_q (by rfl) (.slice (some ⟨bm1, 0, none⟩) 1 1) ?he ?_
  case he => (first | rfl | (go_simp; (try with_reducible rfl)))
  (try simp only [Act.put, sA, sB, sC])
  refine wpList_q (by rfl) (.bool ov) ?he ?_
  case he => (first | rfl | (go_simp; (try with_reducible rfl)))
  (try simp only [Act.put, sA, sB, sC])
  refine wpList_wp (by rfl) (fun K hK => ?_)
  refine wp_new (fun b => .pointer (some ⟨b, 0, none⟩)) 56 #[.int .i64 0, .int .i64 0, .int .i64 0, .int .i64 0, .int .i64 0, .int .i64 0, .int .i64 0, .int .i64 0, .int .i64 0, .int .i64 0] (by rintro b rfl; first | rfl | kernel_rfl) ?_
  intro bn11 w3 hge hB hb
  refine hK.out _ _ ?_
  clear hK K
  (try simp only [Act.put, sA, sB, sC])
  have HNn11C := Lib.hid (show bn11 ≠ w.heap.size by have := Blk.lt HBC2.out; omega)
  have HNn11L := Lib.hid (show bn11 ≠ bL by have := Blk.lt HBL2.out; omega)
  have HNn11X := Lib.hid (show bn11 ≠ bX by have := Blk.lt HBX2.out; omega)
  have HNn11M := Lib.hid (show bn11 ≠ bM by have := Blk.lt HBM2.out; omega)
  have HNn11m1 := Lib.hid (show bn11 ≠ bm1 by have := Blk.lt HBm12.out; omega)
  have HGn11 := Lib.hid (show w.heap.size ≤ bn11 by have := Since.size HS2.out; omega)
  have HS3 := Lib.hid (Since.trans HS2.out hb)
  have HBC3 := Lib.hid (keep_blk hb HBC2.out)
  have HBL3 := Lib.hid (keep_blk hb HBL2.out)
  have HBX3 := Lib.hid (keep_blk hb HBX2.out)
  have HBM3 := Lib.hid (keep_blk hb HBM2.out)
  have HBm13 := Lib.hid (keep_blk hb HBm12.out)
  clear HS2 HBC2 HBL2 HBX2 HBM2 HBm12
  clear hb hge
  have HBn113 := Lib.hid hB
  clear hB
  refine wpList_wp (by rfl) (fun K hK => ?_)
  refine wp_st_row 56 _ _ rfl #[.int .i64 a.se, .int .i64 a.fl, .int .i64 a.fm, .int .i64 a.to, .int .i64 a.ma, .int .i64 a.ca, .int .i64 a.ph, .int .i64 a.un, .int .i64 a.re, .int .i64 a.gr] rfl rfl (HasRow.of HBn113.out rfl) rfl (by simp [cfgA, leaA, carA, msgC, Value.oneCell']) (by kernel_rfl) ?_
  intro w4 hw
  refine hK.out _ _ ?_
  clear hK K
  (try simp only [Act.put, sA, sB, sC])
  have HS4 := Lib.hid (show Since w w4 by rw [hw]; exact Since.setRow HS3.out HGn11.out _)
  have HBC4 := Lib.hid (show Blk w4 w.heap.size 23 (cfgA c) by rw [hw]; exact Blk.row_far HBC3.out (Ne.symm HNn11C.out) _)
  have HBL4 := Lib.hid (show Blk w4 bL 56 (leaA l) by rw [hw]; exact Blk.row_far HBL3.out (Ne.symm HNn11L.out) _)
  have HBX4 := Lib.hid (show Blk w4 bX 76 (carA x) by rw [hw]; exact Blk.row_far HBX3.out (Ne.symm HNn11X.out) _)
  have HBM4 := Lib.hid (show Blk w4 bM 85 (msgC m) by rw [hw]; exact Blk.row_far HBM3.out (Ne.symm HNn11M.out) _)
  have HBm14 := Lib.hid (show Blk w4 bm1 85 #[.int .i64 m0.ki, .int .i64 m0.a, .int .i64 m0.b, .int .i64 m0.c] by rw [hw]; exact Blk.row_far HBm13.out (Ne.symm HNn11m1.out) _)
  have HBn114 := Lib.hid (show Blk w4 bn11 56 #[.int .i64 a.se, .int .i64 a.fl, .int .i64 a.fm, .int .i64 a.to, .int .i64 a.ma, .int .i64 a.ca, .int .i64 a.ph, .int .i64 a.un, .int .i64 a.re, .int .i64 a.gr] by rw [hw]; exact Blk.row HBn113.out _)
  clear hw HS3 HBC3 HBL3 HBX3 HBM3 HBm13 HBn113
  refine wpList_q (by rfl) (.slice (some ⟨bm1, 0, none⟩) 1 1) ?he ?_
  case he => (first | rfl | (go_simp; (try with_reducible rfl)))
  (try simp only [Act.put, sA, sB, sC])
  refine wpList_q (by rfl) (.bool ov) ?he ?_
  case he => (first | rfl | (go_simp; (try with_reducible rfl)))
  (try simp only [Act.put, sA, sB, sC])
  refine wpList_nil ?_
  go_upto_region 2 with fail
  refine wp_region_lit ?_
  refine wpList_q (by rfl) (.agg (cfgA c)) ?he ?_
  case he => exact exec_load_row 23 _ _ HBC4.out rfl rfl Try.underlying23 rfl (by kernel_rfl)
  (try simp only [Act.put, sA, sB, sC])
  refine wpList_q (by rfl) (.agg (leaA l)) ?he ?_
  case he => exact exec_load_row 56 _ _ HBL4.out rfl rfl Try.underlying56 rfl (by kernel_rfl)
  (try simp only [Act.put, sA, sB, sC])
  refine wpList_q (by rfl) (.agg (carA x)) ?he ?_
  case he => exact exec_load_row 76 _ _ HBX4.out rfl rfl Try.underlying76 rfl (by kernel_rfl)
  (try simp only [Act.put, sA, sB, sC])
  refine wpList_q (by rfl) (.int .i64 now) ?he ?_
  case he => (first | rfl | (go_simp; (try with_reducible rfl)))
  (try simp only [Act.put, sA, sB, sC])
  refine wpList_q (by rfl) (.agg (msgC m)) ?he ?_
  case he => exact exec_load_row 85 _ _ HBM4.out rfl rfl Try.underlying85 rfl (by kernel_rfl)
  (try simp only [Act.put, sA, sB, sC])
  refine wpList_wp (by rfl) (fun K hK => ?_)
  (try go_simp)
  refine (HR.out _).mono ?_
  rintro e w5 ⟨_, rfl, ⟨bm2, rfl, hge, hB⟩, hb⟩
  (try go_wp2_with fail)
  refine hK.out _ _ ?_
  clear hK K
  (try simp only [Act.put, sA, sB, sC])
  have HNm2C := Lib.hid (show bm2 ≠ w.heap.size by have := Blk.lt HBC4.out; omega)
  have HNm2L := Lib.hid (show bm2 ≠ bL by have := Blk.lt HBL4.out; omega)
  have HNm2X := Lib.hid (show bm2 ≠ bX by have := Blk.lt HBX4.out; omega)
  have HNm2M := Lib.hid (show bm2 ≠ bM by have := Blk.lt HBM4.out; omega)
  have HNm2m1 := Lib.hid (show bm2 ≠ bm1 by have := Blk.lt HBm14.out; omega)
  have HNm2n11 := Lib.hid (show bm2 ≠ bn11 by have := Blk.lt HBn114.out; omega)
  have HGm2 := Lib.hid (show w.heap.size ≤ bm2 by have := Since.size HS4.out; omega)
  have HS5 := Lib.hid (Since.trans HS4.out hb)
  have HBC5 := Lib.hid (keep_blk hb HBC4.out)
  have HBL5 := Lib.hid (keep_blk hb HBL4.out)
  have HBX5 := Lib.hid (keep_blk hb HBX4.out)
  have HBM5 := Lib.hid (keep_blk hb HBM4.out)
  have HBm15 := Lib.hid (keep_blk hb HBm14.out)
  have HBn115 := Lib.hid (keep_blk hb HBn114.out)
  clear HS4 HBC4 HBL4 HBX4 HBM4 HBm14 HBn114
  clear hb hge
  have HBm25 := Lib.hid hB
  clear hB
  refine wpList_q (by rfl) (.tuple #[.agg #[.int .i64 a.se, .int .i64 a.fl, .int .i64 a.fm, .int .i64 a.to, .int .i64 a.ma, .int .i64 a.ca, .int .i64 a.ph, .int .i64 a.un, .int .i64 a.re, .int .i64 a.gr], .slice (some ⟨bm2, 0, none⟩) 1 1, .bool ov]) ?he ?_
  case he => (first | rfl | (go_simp; (try with_reducible rfl)))
  (try simp only [Act.put, sA, sB, sC])
  refine wpList_q (by rfl) (.agg #[.int .i64 a.se, .int .i64 a.fl, .int .i64 a.fm, .int .i64 a.to, .int .i64 a.ma, .int .i64 a.ca, .int .i64 a.ph, .int .i64 a.un, .int .i64 a.re, .int .i64 a.gr]) ?he ?_
  case he => (first | rfl | (go_simp; (try with_reducible rfl)))
  (try simp only [Act.put, sA, sB, sC])
  refine wpList_q (by rfl) (.slice (some ⟨bm2, 0, none⟩) 1 1) ?he ?_
  case he => (first | rfl | (go_simp; (try with_reducible rfl)))
  (try simp only [Act.put, sA, sB, sC])
  refine wpList_q (by rfl) (.bool ov) ?he ?_
  case he => (first | rfl | (go_simp; (try with_reducible rfl)))
  (try simp only [Act.put, sA, sB, sC])
  refine wpList_wp (by rfl) (fun K hK => ?_)
  refine wp_new (fun b => .pointer (some ⟨b, 0, none⟩)) 56 #[.int .i64 0, .int .i64 0, .int .i64 0, .int .i64 0, .int .i64 0, .int .i64 0, .int .i64 0, .int .i64 0, .int .i64 0, .int .i64 0] (by rintro b rfl; first | rfl | kernel_rfl) ?_
  intro bn14 w6 hge hB hb
  refine hK.out _ _ ?_
  clear hK K
  (try simp only [Act.put, sA, sB, sC])
  have HNn14C := Lib.hid (show bn14 ≠ w.heap.size by have := Blk.lt HBC5.out; omega)
  have HNn14L := Lib.hid (show bn14 ≠ bL by have := Blk.lt HBL5.out; omega)
  have HNn14X := Lib.hid (show bn14 ≠ bX by have := Blk.lt HBX5.out; omega)
  have HNn14M := Lib.hid (show bn14 ≠ bM by have := Blk.lt HBM5.out; omega)
  have HNn14m1 := Lib.hid (show bn14 ≠ bm1 by have := Blk.lt HBm15.out; omega)
  have HNn14n11 := Lib.hid (show bn14 ≠ bn11 by have := Blk.lt HBn115.out; omega)
  have HNn14m2 := Lib.hid (show bn14 ≠ bm2 by have := Blk.lt HBm25.out; omega)
  have HGn14 := Lib.hid (show w.heap.size ≤ bn14 by have := Since.size HS5.out; omega)
  have HS6 := Lib.hid (Since.trans HS5.out hb)
  have HBC6 := Lib.hid (keep_blk hb HBC5.out)
  have HBL6 := Lib.hid (keep_blk hb HBL5.out)
  have HBX6 := Lib.hid (keep_blk hb HBX5.out)
  have HBM6 := Lib.hid (keep_blk hb HBM5.out)
  have HBm16 := Lib.hid (keep_blk hb HBm15.out)
  have HBn116 := Lib.hid (keep_blk hb HBn115.out)
  have HBm26 := Lib.hid (keep_blk hb HBm25.out)
  clear HS5 HBC5 HBL5 HBX5 HBM5 HBm15 HBn115 HBm25
  clear hb hge
  have HBn146 := Lib.hid hB
  clear hB
  refine wpList_wp (by rfl) (fun K hK => ?_)
  refine wp_st_row 56 _ _ rfl #[.int .i64 a.se, .int .i64 a.fl, .int .i64 a.fm, .int .i64 a.to, .int .i64 a.ma, .int .i64 a.ca, .int .i64 a.ph, .int .i64 a.un, .int .i64 a.re, .int .i64 a.gr] rfl rfl (HasRow.of HBn146.out rfl) rfl (by simp [cfgA, leaA, carA, msgC, Value.oneCell']) (by kernel_rfl) ?_
  intro w7 hw
  refine hK.out _ _ ?_
  clear hK K
  (try simp only [Act.put, sA, sB, sC])
  have HS7 := Lib.hid (show Since w w7 by rw [hw]; exact Since.setRow HS6.out HGn14.out _)
  have HBC7 := Lib.hid (show Blk w7 w.heap.size 23 (cfgA c) by rw [hw]; exact Blk.row_far HBC6.out (Ne.symm HNn14C.out) _)
  have HBL7 := Lib.hid (show Blk w7 bL 56 (leaA l) by rw [hw]; exact Blk.row_far HBL6.out (Ne.symm HNn14L.out) _)
  have HBX7 := Lib.hid (show Blk w7 bX 76 (carA x) by rw [hw]; exact Blk.row_far HBX6.out (Ne.symm HNn14X.out) _)
  have HBM7 := Lib.hid (show Blk w7 bM 85 (msgC m) by rw [hw]; exact Blk.row_far HBM6.out (Ne.symm HNn14M.out) _)
  have HBm17 := Lib.hid (show Blk w7 bm1 85 #[.int .i64 m0.ki, .int .i64 m0.a, .int .i64 m0.b, .int .i64 m0.c] by rw [hw]; exact Blk.row_far HBm16.out (Ne.symm HNn14m1.out) _)
  have HBn117 := Lib.hid (show Blk w7 bn11 56 #[.int .i64 a.se, .int .i64 a.fl, .int .i64 a.fm, .int .i64 a.to, .int .i64 a.ma, .int .i64 a.ca, .int .i64 a.ph, .int .i64 a.un, .int .i64 a.re, .int .i64 a.gr] by rw [hw]; exact Blk.row_far HBn116.out (Ne.symm HNn14n11.out) _)
  have HBm27 := Lib.hid (show Blk w7 bm2 85 #[.int .i64 m0.ki, .int .i64 m0.a, .int .i64 m0.b, .int .i64 m0.c] by rw [hw]; exact Blk.row_far HBm26.out (Ne.symm HNn14m2.out) _)
  have HBn147 := Lib.hid (show Blk w7 bn14 56 #[.int .i64 a.se, .int .i64 a.fl, .int .i64 a.fm, .int .i64 a.to, .int .i64 a.ma, .int .i64 a.ca, .int .i64 a.ph, .int .i64 a.un, .int .i64 a.re, .int .i64 a.gr] by rw [hw]; exact Blk.row HBn146.out _)
  clear hw HS6 HBC6 HBL6 HBX6 HBM6 HBm16 HBn116 HBm26 HBn146
  refine wpList_q (by rfl) (.slice (some ⟨bm2, 0, none⟩) 1 1) ?he ?_
  case he => (first | rfl | (go_simp; (try with_reducible rfl)))
  (try simp only [Act.put, sA, sB, sC])
  refine wpList_q (by rfl) (.bool ov) ?he ?_
  case he => (first | rfl | (go_simp; (try with_reducible rfl)))
  (try simp only [Act.put, sA, sB, sC])
  refine wpList_nil ?_
  go_upto_region 3 with fail
  refine wp_region_lit ?_
  refine wpList_wp (by rfl) (fun K hK => ?_)
  (try go_simp)
  refine (ans _).mono ?_
  rintro e w8 ⟨rfl, hb⟩
  (try go_wp2_with fail)
  refine hK.out _ _ ?_
  clear hK K
  (try simp only [Act.put, sA, sB, sC])
  have HS8 := Lib.hid (Since.trans HS7.out hb)
  have HBC8 := Lib.hid (keep_blk hb HBC7.out)
  have HBL8 := Lib.hid (keep_blk hb HBL7.out)
  have HBX8 := Lib.hid (keep_blk hb HBX7.out)
  have HBM8 := Lib.hid (keep_blk hb HBM7.out)
  have HBm18 := Lib.hid (keep_blk hb HBm17.out)
  have HBn118 := Lib.hid (keep_blk hb HBn117.out)
  have HBm28 := Lib.hid (keep_blk hb HBm27.out)
  have HBn148 := Lib.hid (keep_blk hb HBn147.out)
  clear HS7 HBC7 HBL7 HBX7 HBM7 HBm17 HBn117 HBm27 HBn147
  clear hb
  refine wpList_q (by rfl) (.bool true) ?he ?_
  case he => (first | rfl | (go_simp; (try with_reducible rfl)))
  (try simp only [Act.put, sA, sB, sC])
  refine wpList_q (by rfl) (.agg #[.int .i64 a.se, .int .i64 a.fl, .int .i64 a.fm, .int .i64 a.to, .int .i64 a.ma, .int .i64 a.ca, .int .i64 a.ph, .int .i64 a.un, .int .i64 a.re, .int .i64 a.gr]) ?he ?_
  case he => exact exec_load_row 56 _ _ HBn118.out rfl rfl Try.underlying56 rfl (by kernel_rfl)
  (try simp only [Act.put, sA, sB, sC])
  refine wpList_q (by rfl) (.agg #[.int .i64 a.se, .int .i64 a.fl, .int .i64 a.fm, .int .i64 a.to, .int .i64 a.ma, .int .i64 a.ca, .int .i64 a.ph, .int .i64 a.un, .int .i64 a.re, .int .i64 a.gr]) ?he ?_
  case he => exact exec_load_row 56 _ _ HBn148.out rfl rfl Try.underlying56 rfl (by kernel_rfl)
  (try simp only [Act.put, sA, sB, sC])
  refine wpList_q (by rfl) (.bool true) ?he ?_
  case he => (go_simp; (try with_reducible rfl))
  (try simp only [Act.put, sA, sB, sC])
  refine wpList_q (by rfl) (.bool true) ?he ?_
  case he => (first | rfl | (go_simp; (try with_reducible rfl)))
  (try simp only [Act.put, sA, sB, sC])
  refine wpList_q (by rfl) (.bool true) ?he ?_
  case he => (first | rfl | (go_simp; (try with_reducible rfl)))
  (try simp only [Act.put, sA, sB, sC])
  refine wpList_q (by rfl) (.slice (some ⟨bm1, 0, none⟩) 1 1) ?he ?_
  case he => (first | rfl | (go_simp; (try with_reducible rfl)))
  (try simp only [Act.put, sA, sB, sC])
  refine wpList_q (by rfl) (.slice (some ⟨bm2, 0, none⟩) 1 1) ?he ?_
  case he => (first | rfl | (go_simp; (try with_reducible rfl)))
  (try simp only [Act.put, sA, sB, sC])
  refine wpList_wp (by rfl) (fun K hK => ?_)
  (try go_simp)
  refine (same1 m0 bm1 bm2 _ HBm18.out HBm28.out).mono ?_
  rintro e w9 ⟨rfl, hb⟩
  (try go_wp2_with fail)
  refine hK.out _ _ ?_
  clear hK K
  (try simp only [Act.put, sA, sB, sC])
  have HS9 := Lib.hid (Since.trans HS8.out hb)
  have HBC9 := Lib.hid (keep_blk hb HBC8.out)
  have HBL9 := Lib.hid (keep_blk hb HBL8.out)
  have HBX9 := Lib.hid (keep_blk hb HBX8.out)
  have HBM9 := Lib.hid (keep_blk hb HBM8.out)
  have HBm19 := Lib.hid (keep_blk hb HBm18.out)
  have HBn119 := Lib.hid (keep_blk hb HBn118.out)
  have HBm29 := Lib.hid (keep_blk hb HBm28.out)
  have HBn149 := Lib.hid (keep_blk hb HBn148.out)
  clear HS8 HBC8 HBL8 HBX8 HBM8 HBm18 HBn118 HBm28 HBn148
  clear hb
  refine wpList_q (by rfl) (.bool true) ?he ?_
  case he => (first | rfl | (go_simp; (try with_reducible rfl)))
  (try simp only [Act.put, sA, sB, sC])
  refine wpList_q (by rfl) (.bool true) ?he ?_
  case he => (first | rfl | (go_simp; (try with_reducible rfl)))
  (try simp only [Act.put, sA, sB, sC])
  refine wpList_q (by rfl) (.bool ov) ?he ?_
  case he => (first | rfl | (go_simp; (try with_reducible rfl)))
  (try simp only [Act.put, sA, sB, sC])
  refine wpList_q (by rfl) (.bool ov) ?he ?_
  case he => (first | rfl | (go_simp; (try with_reducible rfl)))
  (try simp only [Act.put, sA, sB, sC])
  refine wpList_q (by rfl) (.bool true) ?he ?_
  case he => (go_simp; (try with_reducible rfl))
  (try simp only [Act.put, sA, sB, sC])
  refine wpList_q (by rfl) (.bool true) ?he ?_
  case he => (first | rfl | (go_simp; (try with_reducible rfl)))
  (try simp only [Act.put, sA, sB, sC])
  refine wpList_q (by rfl) (.bool true) ?he ?_
  case he => (first | rfl | (go_simp; (try with_reducible rfl)))
  (try simp only [Act.put, sA, sB, sC])
  refine wpList_nil ?_
  (try go_wp2_with fail)
  go_ret
  exact ⟨rfl, HS9.out⟩
theorem hears (c : CfgV) (l : LeaseV) (x : CarV) (now : Int) (m : MsgV) (w : World) : Calls Try.prog 12 #[.agg #[.int .i64 c.ca, .int .i64 c.fl, .int .i64 c.ft, .int .i64 c.se, .int .i64 c.dr, .int .i64 c.dw, .int .i64 c.ho, .int .i64 c.re, .int .i64 c.yi, .int .i64 c.qu, .int .i64 c.qo, .int .i64 c.lo, .int .i64 c.sl, .int .i64 c.rt, .int .i64 c.cp, .int .i64 c.tr, .int .i64 c.de, .int .i64 c.wi], .agg #[.int .i64 l.se, .int .i64 l.fl, .int .i64 l.fm, .int .i64 l.to, .int .i64 l.ma, .int .i64 l.ca, .int .i64 l.ph, .int .i64 l.un, .int .i64 l.re, .int .i64 l.gr], .agg #[.int .i64 x.ds, .int .i64 x.da, .int .i64 x.un, .int .i64 x.wy, .int .i64 x.ti, .int .i64 x.ju, .int .i64 x.lo, .bool x.bl, .bool x.br, .int .i64 x.mo, .int .i64 x.ta, .bool x.ho, .int .u64 x.sp, .int .u64 x.su, .int .u64 x.sd], .int .i64 now, .agg (msgC m)] w fun e w' => e = .returned (.bool true) ∧ Since w w' := by
  have hT := fun W => hearT c l x now m W
  have hR := fun W => hearR c l x now m W
  generalize hearV c l x now m = r at hT hR
  obtain ⟨a, o, ov⟩ := r
  cases o with
  | none => exact hears_none c l x now m a ov (Lib.hid hT) (Lib.hid hR) w
  | some m0 => exact hears_some c l x now m a ov m0 (Lib.hid hT) (Lib.hid hR) w
theorem ticksF (cca : Int) (cfl : Int) (cft : Int) (cse : Int) (cdr : Int) (cdw : Int) (cho : Int) (cre : Int) (cyi : Int) (cqu : Int) (cqo : Int) (clo : Int) (csl : Int) (crt : Int) (ccp : Int) (ctr : Int) (cde : Int) (cwi : Int) (lse : Int) (lfl : Int) (lfm : Int) (lto : Int) (lma : Int) (lca : Int) (lph : Int) (lun : Int) (lre : Int) (lgr : Int) (xds : Int) (xda : Int) (xun : Int) (xwy : Int) (xti : Int) (xju : Int) (xlo : Int) (xbl : Bool) (xbr : Bool) (xmo : Int) (xta : Int) (xho : Bool) (xsp : Int) (xsu : Int) (xsd : Int) (now : Int) (w : World) (_ : (Lit.int .i64 cca).wf = true) (_ : (Lit.int .i64 cfl).wf = true) (_ : (Lit.int .i64 cft).wf = true) (_ : (Lit.int .i64 cse).wf = true) (_ : (Lit.int .i64 cdr).wf = true) (_ : (Lit.int .i64 cdw).wf = true) (_ : (Lit.int .i64 cho).wf = true) (_ : (Lit.int .i64 cre).wf = true) (_ : (Lit.int .i64 cyi).wf = true) (_ : (Lit.int .i64 cqu).wf = true) (_ : (Lit.int .i64 cqo).wf = true) (_ : (Lit.int .i64 clo).wf = true) (_ : (Lit.int .i64 csl).wf = true) (_ : (Lit.int .i64 crt).wf = true) (_ : (Lit.int .i64 ccp).wf = true) (_ : (Lit.int .i64 ctr).wf = true) (_ : (Lit.int .i64 cde).wf = true) (_ : (Lit.int .i64 cwi).wf = true) (_ : (Lit.int .i64 lse).wf = true) (_ : (Lit.int .i64 lfl).wf = true) (_ : (Lit.int .i64 lfm).wf = true) (_ : (Lit.int .i64 lto).wf = true) (_ : (Lit.int .i64 lma).wf = true) (_ : (Lit.int .i64 lca).wf = true) (_ : (Lit.int .i64 lph).wf = true) (_ : (Lit.int .i64 lun).wf = true) (_ : (Lit.int .i64 lre).wf = true) (_ : (Lit.int .i64 lgr).wf = true) (_ : (Lit.int .i64 xds).wf = true) (_ : (Lit.int .i64 xda).wf = true) (_ : (Lit.int .i64 xun).wf = true) (_ : (Lit.int .i64 xwy).wf = true) (_ : (Lit.int .i64 xti).wf = true) (_ : (Lit.int .i64 xju).wf = true) (_ : (Lit.int .i64 xlo).wf = true) (_ : (Lit.int .i64 xmo).wf = true) (_ : (Lit.int .i64 xta).wf = true) (_ : (Lit.int .u64 xsp).wf = true) (_ : (Lit.int .u64 xsu).wf = true) (_ : (Lit.int .u64 xsd).wf = true) (_ : (Lit.int .i64 now).wf = true) : Calls Try.prog 11 #[.agg #[.int .i64 cca, .int .i64 cfl, .int .i64 cft, .int .i64 cse, .int .i64 cdr, .int .i64 cdw, .int .i64 cho, .int .i64 cre, .int .i64 cyi, .int .i64 cqu, .int .i64 cqo, .int .i64 clo, .int .i64 csl, .int .i64 crt, .int .i64 ccp, .int .i64 ctr, .int .i64 cde, .int .i64 cwi], .agg #[.int .i64 lse, .int .i64 lfl, .int .i64 lfm, .int .i64 lto, .int .i64 lma, .int .i64 lca, .int .i64 lph, .int .i64 lun, .int .i64 lre, .int .i64 lgr], .agg #[.int .i64 xds, .int .i64 xda, .int .i64 xun, .int .i64 xwy, .int .i64 xti, .int .i64 xju, .int .i64 xlo, .bool xbl, .bool xbr, .int .i64 xmo, .int .i64 xta, .bool xho, .int .u64 xsp, .int .u64 xsu, .int .u64 xsd], .int .i64 now] w fun e w' => e = .returned (.bool true) ∧ Since w w' := ticks ⟨cca, cfl, cft, cse, cdr, cdw, cho, cre, cyi, cqu, cqo, clo, csl, crt, ccp, ctr, cde, cwi⟩ ⟨lse, lfl, lfm, lto, lma, lca, lph, lun, lre, lgr⟩ ⟨xds, xda, xun, xwy, xti, xju, xlo, xbl, xbr, xmo, xta, xho, xsp, xsu, xsd⟩ now w
theorem hearsF (cca : Int) (cfl : Int) (cft : Int) (cse : Int) (cdr : Int) (cdw : Int) (cho : Int) (cre : Int) (cyi : Int) (cqu : Int) (cqo : Int) (clo : Int) (csl : Int) (crt : Int) (ccp : Int) (ctr : Int) (cde : Int) (cwi : Int) (lse : Int) (lfl : Int) (lfm : Int) (lto : Int) (lma : Int) (lca : Int) (lph : Int) (lun : Int) (lre : Int) (lgr : Int) (xds : Int) (xda : Int) (xun : Int) (xwy : Int) (xti : Int) (xju : Int) (xlo : Int) (xbl : Bool) (xbr : Bool) (xmo : Int) (xta : Int) (xho : Bool) (xsp : Int) (xsu : Int) (xsd : Int) (now : Int) (mki : Int) (ma_ : Int) (mb : Int) (mc : Int) (w : World) (_ : (Lit.int .i64 cca).wf = true) (_ : (Lit.int .i64 cfl).wf = true) (_ : (Lit.int .i64 cft).wf = true) (_ : (Lit.int .i64 cse).wf = true) (_ : (Lit.int .i64 cdr).wf = true) (_ : (Lit.int .i64 cdw).wf = true) (_ : (Lit.int .i64 cho).wf = true) (_ : (Lit.int .i64 cre).wf = true) (_ : (Lit.int .i64 cyi).wf = true) (_ : (Lit.int .i64 cqu).wf = true) (_ : (Lit.int .i64 cqo).wf = true) (_ : (Lit.int .i64 clo).wf = true) (_ : (Lit.int .i64 csl).wf = true) (_ : (Lit.int .i64 crt).wf = true) (_ : (Lit.int .i64 ccp).wf = true) (_ : (Lit.int .i64 ctr).wf = true) (_ : (Lit.int .i64 cde).wf = true) (_ : (Lit.int .i64 cwi).wf = true) (_ : (Lit.int .i64 lse).wf = true) (_ : (Lit.int .i64 lfl).wf = true) (_ : (Lit.int .i64 lfm).wf = true) (_ : (Lit.int .i64 lto).wf = true) (_ : (Lit.int .i64 lma).wf = true) (_ : (Lit.int .i64 lca).wf = true) (_ : (Lit.int .i64 lph).wf = true) (_ : (Lit.int .i64 lun).wf = true) (_ : (Lit.int .i64 lre).wf = true) (_ : (Lit.int .i64 lgr).wf = true) (_ : (Lit.int .i64 xds).wf = true) (_ : (Lit.int .i64 xda).wf = true) (_ : (Lit.int .i64 xun).wf = true) (_ : (Lit.int .i64 xwy).wf = true) (_ : (Lit.int .i64 xti).wf = true) (_ : (Lit.int .i64 xju).wf = true) (_ : (Lit.int .i64 xlo).wf = true) (_ : (Lit.int .i64 xmo).wf = true) (_ : (Lit.int .i64 xta).wf = true) (_ : (Lit.int .u64 xsp).wf = true) (_ : (Lit.int .u64 xsu).wf = true) (_ : (Lit.int .u64 xsd).wf = true) (_ : (Lit.int .i64 now).wf = true) (_ : (Lit.int .i64 mki).wf = true) (_ : (Lit.int .i64 ma_).wf = true) (_ : (Lit.int .i64 mb).wf = true) (_ : (Lit.int .i64 mc).wf = true) : Calls Try.prog 12 #[.agg #[.int .i64 cca, .int .i64 cfl, .int .i64 cft, .int .i64 cse, .int .i64 cdr, .int .i64 cdw, .int .i64 cho, .int .i64 cre, .int .i64 cyi, .int .i64 cqu, .int .i64 cqo, .int .i64 clo, .int .i64 csl, .int .i64 crt, .int .i64 ccp, .int .i64 ctr, .int .i64 cde, .int .i64 cwi], .agg #[.int .i64 lse, .int .i64 lfl, .int .i64 lfm, .int .i64 lto, .int .i64 lma, .int .i64 lca, .int .i64 lph, .int .i64 lun, .int .i64 lre, .int .i64 lgr], .agg #[.int .i64 xds, .int .i64 xda, .int .i64 xun, .int .i64 xwy, .int .i64 xti, .int .i64 xju, .int .i64 xlo, .bool xbl, .bool xbr, .int .i64 xmo, .int .i64 xta, .bool xho, .int .u64 xsp, .int .u64 xsu, .int .u64 xsd], .int .i64 now, .agg #[.int .i64 mki, .int .i64 ma_, .int .i64 mb, .int .i64 mc]] w fun e w' => e = .returned (.bool true) ∧ Since w w' := hears ⟨cca, cfl, cft, cse, cdr, cdw, cho, cre, cyi, cqu, cqo, clo, csl, crt, ccp, ctr, cde, cwi⟩ ⟨lse, lfl, lfm, lto, lma, lca, lph, lun, lre, lgr⟩ ⟨xds, xda, xun, xwy, xti, xju, xlo, xbl, xbr, xmo, xta, xho, xsp, xsu, xsd⟩ now ⟨mki, ma_, mb, mc⟩ w
end Go.Proofs.Ytggafipgfgbbiaa.Ri
