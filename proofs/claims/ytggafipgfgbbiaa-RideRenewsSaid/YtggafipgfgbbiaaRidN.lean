/-
  RideRenews, walked.
  No condition.
-/
import Derived.Test.YtggafipgfgbbiaaRidA
namespace Go.Proofs.Ytggafipgfgbbiaa.Ri
set_option linter.unusedVariables false
set_option linter.unusedSimpArgs false
open Go.RowKit Go.Proofs.Ytggafipgfgbbiaa.Ba Go.Proofs.Ytggafipgfgbbiaa.Mo Go.Proofs.Ytggafipgfgbbiaa.Ty Go.Proofs.Ytggafipgfgbbiaa.Mem Go.Proofs.Ytggafipgfgbbiaa.Tm Go.Proofs.Ytggafipgfgbbiaa.Tw
open Go.Proofs.Ytggafipgfgbbiaa.Ce (ms ms_lo ms_hi massT nearT nr)
open Go.Proofs.Ytggafipgfgbbiaa.Fl (massR)
set_option maxRecDepth 100000
set_option maxHeartbeats 4000000 in
theorem renX0 (c : CfgV) (l : LeaseV) (x : CarV) (now n : Int) (h0 : now < 0) (w : World) : Calls Try.prog 15 #[.agg #[.int .i64 c.ca, .int .i64 c.fl, .int .i64 c.ft, .int .i64 c.se, .int .i64 c.dr, .int .i64 c.dw, .int .i64 c.ho, .int .i64 c.re, .int .i64 c.yi, .int .i64 c.qu, .int .i64 c.qo, .int .i64 c.lo, .int .i64 c.sl, .int .i64 c.rt, .int .i64 c.cp, .int .i64 c.tr, .int .i64 c.de, .int .i64 c.wi], .agg #[.int .i64 l.se, .int .i64 l.fl, .int .i64 l.fm, .int .i64 l.to, .int .i64 l.ma, .int .i64 l.ca, .int .i64 l.ph, .int .i64 l.un, .int .i64 l.re, .int .i64 l.gr], .agg #[.int .i64 x.ds, .int .i64 x.da, .int .i64 x.un, .int .i64 x.wy, .int .i64 x.ti, .int .i64 x.ju, .int .i64 x.lo, .bool x.bl, .bool x.br, .int .i64 x.mo, .int .i64 x.ta, .bool x.ho, .int .u64 x.sp, .int .u64 x.su, .int .u64 x.sd], .int .i64 now, .int .u8 n] w fun e w' => e = .returned (.bool true) ∧ Since w w' := by
  have H0 := Lib.hid h0
  clear h0
  go_enter Try.func15, Try.ntmps15
  go_upto_region 1 with fail
  obtain ⟨w1, hw1⟩ : ∃ w1, w1 = (((w.alloc (.cells #[.int .i64 c.ca, .int .i64 c.fl, .int .i64 c.ft, .int .i64 c.se, .int .i64 c.dr, .int .i64 c.dw, .int .i64 c.ho, .int .i64 c.re, .int .i64 c.yi, .int .i64 c.qu, .int .i64 c.qo, .int .i64 c.lo, .int .i64 c.sl, .int .i64 c.rt, .int .i64 c.cp, .int .i64 c.tr, .int .i64 c.de, .int .i64 c.wi] 23)).alloc (.cells #[.int .i64 l.se, .int .i64 l.fl, .int .i64 l.fm, .int .i64 l.to, .int .i64 l.ma, .int .i64 l.ca, .int .i64 l.ph, .int .i64 l.un, .int .i64 l.re, .int .i64 l.gr] 56)).alloc (.cells #[.int .i64 x.ds, .int .i64 x.da, .int .i64 x.un, .int .i64 x.wy, .int .i64 x.ti, .int .i64 x.ju, .int .i64 x.lo, .bool x.bl, .bool x.br, .int .i64 x.mo, .int .i64 x.ta, .bool x.ho, .int .u64 x.sp, .int .u64 x.su, .int .u64 x.sd] 76)) := ⟨_, rfl⟩
  rw [← hw1]
  have HBC1 := Lib.hid (show Blk w1 (w.heap.size) 23 (cfgA c) by rw [hw1]; exact Blk.alloc (Blk.alloc (Blk.at_ (by (try simp only [size_alloc])) _ _) _) _)
  have HBL1 := Lib.hid (show Blk w1 (w.heap.size + 1) 56 (leaA l) by rw [hw1]; exact Blk.alloc (Blk.at_ (by (try simp only [size_alloc])) _ _) _)
  have HBX1 := Lib.hid (show Blk w1 (w.heap.size + 1 + 1) 76 (carA x) by rw [hw1]; exact Blk.at_ (by (try simp only [size_alloc])) _ _)
  have HS1 := Lib.hid (show Since w w1 by rw [hw1]; exact Since.alloc (Since.alloc (Since.alloc (Since.refl w) _) _) _)
  have hNE : w.heap.size ≤ w.heap.size ∧ w.heap.size < w.heap.size + 1 ∧ w.heap.size + 1 < w.heap.size + 1 + 1 := by omega
  have HNE := Lib.hid hNE
  clear hNE hw1
  generalize w.heap.size + 1 + 1 = bX at *
  generalize w.heap.size + 1 = bL at *
  have HNE3 := Lib.hid (show w.heap.size ≤ w.heap.size ∧ w.heap.size < bL ∧ bL < bX from HNE.out)
  clear HNE
  refine wp_region_lit ?_
  refine wpList_q (by rfl) (.pointer (some ⟨bL, 6, none⟩)) ?he ?_
  case he => (first | rfl | (go_simp; (try with_reducible rfl)))
  (try simp only [Act.put, List.setIfInBounds_toArray, List.set_cons_zero, List.set_cons_succ])
  refine wpList_wp (by rfl) (fun K hK => ?_)
  refine wp_st_cell 3 _ _ rfl #[.int .i64 l.se, .int .i64 l.fl, .int .i64 l.fm, .int .i64 l.to, .int .i64 l.ma, .int .i64 l.ca, .int .i64 2, .int .i64 l.un, .int .i64 l.re, .int .i64 l.gr] (.int .i64 2) rfl rfl HBL1.out (by show 6 < 10; decide) rfl (by first | rfl | simp [Value.oneCell']) (by kernel_rfl) ?_
  intro w2 hw
  refine hK.out _ _ ?_
  clear hK K
  (try simp only [Act.put, List.setIfInBounds_toArray, List.set_cons_zero, List.set_cons_succ])
  have HS2 := Lib.hid (show Since w w2 by rw [hw]; exact Since.setRow HS1.out (by have := HNE3.out; omega) _)
  have HBC2 := Lib.hid (show Blk w2 w.heap.size 23 (cfgA c) by rw [hw]; exact Blk.row_far HBC1.out (by have := HNE3.out; omega) _)
  have HBL2 := Lib.hid (show Blk w2 bL 56 #[.int .i64 l.se, .int .i64 l.fl, .int .i64 l.fm, .int .i64 l.to, .int .i64 l.ma, .int .i64 l.ca, .int .i64 2, .int .i64 l.un, .int .i64 l.re, .int .i64 l.gr] by rw [hw]; exact Blk.row HBL1.out _)
  have HBX2 := Lib.hid (show Blk w2 bX 76 (carA x) by rw [hw]; exact Blk.row_far HBX1.out (by have := HNE3.out; omega) _)
  clear hw HS1 HBC1 HBL1 HBX1
  refine wpList_q (by rfl) (.pointer (some ⟨bL, 8, none⟩)) ?he ?_
  case he => (first | rfl | (go_simp; (try with_reducible rfl)))
  (try simp only [Act.put, List.setIfInBounds_toArray, List.set_cons_zero, List.set_cons_succ])
  refine wpList_wp (by rfl) (fun K hK => ?_)
  refine wp_st_cell 3 _ _ rfl #[.int .i64 l.se, .int .i64 l.fl, .int .i64 l.fm, .int .i64 l.to, .int .i64 l.ma, .int .i64 l.ca, .int .i64 2, .int .i64 l.un, .int .i64 0, .int .i64 l.gr] (.int .i64 0) rfl rfl HBL2.out (by show 8 < 10; decide) rfl (by first | rfl | simp [Value.oneCell']) (by kernel_rfl) ?_
  intro w3 hw
  refine hK.out _ _ ?_
  clear hK K
  (try simp only [Act.put, List.setIfInBounds_toArray, List.set_cons_zero, List.set_cons_succ])
  have HS3 := Lib.hid (show Since w w3 by rw [hw]; exact Since.setRow HS2.out (by have := HNE3.out; omega) _)
  have HBC3 := Lib.hid (show Blk w3 w.heap.size 23 (cfgA c) by rw [hw]; exact Blk.row_far HBC2.out (by have := HNE3.out; omega) _)
  have HBL3 := Lib.hid (show Blk w3 bL 56 #[.int .i64 l.se, .int .i64 l.fl, .int .i64 l.fm, .int .i64 l.to, .int .i64 l.ma, .int .i64 l.ca, .int .i64 2, .int .i64 l.un, .int .i64 0, .int .i64 l.gr] by rw [hw]; exact Blk.row HBL2.out _)
  have HBX3 := Lib.hid (show Blk w3 bX 76 (carA x) by rw [hw]; exact Blk.row_far HBX2.out (by have := HNE3.out; omega) _)
  clear hw HS2 HBC2 HBL2 HBX2
  refine wpList_nil ?_
  go_upto_region 2 with fail
  refine wp_region_lit ?_
  refine wpList_q (by rfl) (.int .i64 now) ?he ?_
  case he => (first | rfl | (go_simp; (try with_reducible rfl)))
  (try simp only [Act.put, List.setIfInBounds_toArray, List.set_cons_zero, List.set_cons_succ])
  refine wpList_q (by rfl) (.bool true) ?he ?_
  case he => (have hq := H0.out; go_simp; (try with_reducible rfl))
  (try simp only [Act.put, List.setIfInBounds_toArray, List.set_cons_zero, List.set_cons_succ])
  refine wpList_q (by rfl) (.bool true) ?he ?_
  case he => (first | rfl | (go_simp; (try with_reducible rfl)))
  (try simp only [Act.put, List.setIfInBounds_toArray, List.set_cons_zero, List.set_cons_succ])
  refine wpList_no (by rfl) ?_
  (try simp only [Act.put, List.setIfInBounds_toArray, List.set_cons_zero, List.set_cons_succ])
  refine wpList_no (by rfl) ?_
  (try simp only [Act.put, List.setIfInBounds_toArray, List.set_cons_zero, List.set_cons_succ])
  refine wpList_q (by rfl) (.bool true) ?he ?_
  case he => (first | rfl | (go_simp; (try with_reducible rfl)))
  (try simp only [Act.put, List.setIfInBounds_toArray, List.set_cons_zero, List.set_cons_succ])
  refine wpList_nil ?_
  go_upto_region 3 with fail
  refine wp_region_lit ?_
  refine wpList_wp (by rfl) (fun K hK => ?_)
  (try go_simp)
  refine (ans _).mono ?_
  rintro e w4 ⟨rfl, hb⟩
  (try go_wp2_with fail)
  refine hK.out _ _ ?_
  clear hK K
  (try simp only [Act.put, List.setIfInBounds_toArray, List.set_cons_zero, List.set_cons_succ])
  have HS4 := Lib.hid (Since.trans HS3.out hb)
  have HBC4 := Lib.hid (keep_blk hb HBC3.out)
  have HBL4 := Lib.hid (keep_blk hb HBL3.out)
  have HBX4 := Lib.hid (keep_blk hb HBX3.out)
  clear HS3 HBC3 HBL3 HBX3
  clear hb
  refine wpList_q (by rfl) (.bool true) ?he ?_
  case he => (first | rfl | (go_simp; (try with_reducible rfl)))
  (try simp only [Act.put, List.setIfInBounds_toArray, List.set_cons_zero, List.set_cons_succ])
  refine wpList_nil ?_
  (try go_wp2_with fail)
  go_ret
  exact ⟨rfl, HS4.out⟩
set_option maxHeartbeats 4000000 in
theorem renX1 (c : CfgV) (l : LeaseV) (x : CarV) (now n : Int) (h0 : ¬ (now < 0)) (h1 : 1073741824 < now) (w : World) : Calls Try.prog 15 #[.agg #[.int .i64 c.ca, .int .i64 c.fl, .int .i64 c.ft, .int .i64 c.se, .int .i64 c.dr, .int .i64 c.dw, .int .i64 c.ho, .int .i64 c.re, .int .i64 c.yi, .int .i64 c.qu, .int .i64 c.qo, .int .i64 c.lo, .int .i64 c.sl, .int .i64 c.rt, .int .i64 c.cp, .int .i64 c.tr, .int .i64 c.de, .int .i64 c.wi], .agg #[.int .i64 l.se, .int .i64 l.fl, .int .i64 l.fm, .int .i64 l.to, .int .i64 l.ma, .int .i64 l.ca, .int .i64 l.ph, .int .i64 l.un, .int .i64 l.re, .int .i64 l.gr], .agg #[.int .i64 x.ds, .int .i64 x.da, .int .i64 x.un, .int .i64 x.wy, .int .i64 x.ti, .int .i64 x.ju, .int .i64 x.lo, .bool x.bl, .bool x.br, .int .i64 x.mo, .int .i64 x.ta, .bool x.ho, .int .u64 x.sp, .int .u64 x.su, .int .u64 x.sd], .int .i64 now, .int .u8 n] w fun e w' => e = .returned (.bool true) ∧ Since w w' := by
  have H0 := Lib.hid h0
  clear h0
  have H1 := Lib.hid h1
  clear h1
  go_enter Try.func15, Try.ntmps15
  go_upto_region 1 with fail
  obtain ⟨w1, hw1⟩ : ∃ w1, w1 = (((w.alloc (.cells #[.int .i64 c.ca, .int .i64 c.fl, .int .i64 c.ft, .int .i64 c.se, .int .i64 c.dr, .int .i64 c.dw, .int .i64 c.ho, .int .i64 c.re, .int .i64 c.yi, .int .i64 c.qu, .int .i64 c.qo, .int .i64 c.lo, .int .i64 c.sl, .int .i64 c.rt, .int .i64 c.cp, .int .i64 c.tr, .int .i64 c.de, .int .i64 c.wi] 23)).alloc (.cells #[.int .i64 l.se, .int .i64 l.fl, .int .i64 l.fm, .int .i64 l.to, .int .i64 l.ma, .int .i64 l.ca, .int .i64 l.ph, .int .i64 l.un, .int .i64 l.re, .int .i64 l.gr] 56)).alloc (.cells #[.int .i64 x.ds, .int .i64 x.da, .int .i64 x.un, .int .i64 x.wy, .int .i64 x.ti, .int .i64 x.ju, .int .i64 x.lo, .bool x.bl, .bool x.br, .int .i64 x.mo, .int .i64 x.ta, .bool x.ho, .int .u64 x.sp, .int .u64 x.su, .int .u64 x.sd] 76)) := ⟨_, rfl⟩
  rw [← hw1]
  have HBC1 := Lib.hid (show Blk w1 (w.heap.size) 23 (cfgA c) by rw [hw1]; exact Blk.alloc (Blk.alloc (Blk.at_ (by (try simp only [size_alloc])) _ _) _) _)
  have HBL1 := Lib.hid (show Blk w1 (w.heap.size + 1) 56 (leaA l) by rw [hw1]; exact Blk.alloc (Blk.at_ (by (try simp only [size_alloc])) _ _) _)
  have HBX1 := Lib.hid (show Blk w1 (w.heap.size + 1 + 1) 76 (carA x) by rw [hw1]; exact Blk.at_ (by (try simp only [size_alloc])) _ _)
  have HS1 := Lib.hid (show Since w w1 by rw [hw1]; exact Since.alloc (Since.alloc (Since.alloc (Since.refl w) _) _) _)
  have hNE : w.heap.size ≤ w.heap.size ∧ w.heap.size < w.heap.size + 1 ∧ w.heap.size + 1 < w.heap.size + 1 + 1 := by omega
  have HNE := Lib.hid hNE
  clear hNE hw1
  generalize w.heap.size + 1 + 1 = bX at *
  generalize w.heap.size + 1 = bL at *
  have HNE3 := Lib.hid (show w.heap.size ≤ w.heap.size ∧ w.heap.size < bL ∧ bL < bX from HNE.out)
  clear HNE
  refine wp_region_lit ?_
  refine wpList_q (by rfl) (.pointer (some ⟨bL, 6, none⟩)) ?he ?_
  case he => (first | rfl | (go_simp; (try with_reducible rfl)))
  (try simp only [Act.put, List.setIfInBounds_toArray, List.set_cons_zero, List.set_cons_succ])
  refine wpList_wp (by rfl) (fun K hK => ?_)
  refine wp_st_cell 3 _ _ rfl #[.int .i64 l.se, .int .i64 l.fl, .int .i64 l.fm, .int .i64 l.to, .int .i64 l.ma, .int .i64 l.ca, .int .i64 2, .int .i64 l.un, .int .i64 l.re, .int .i64 l.gr] (.int .i64 2) rfl rfl HBL1.out (by show 6 < 10; decide) rfl (by first | rfl | simp [Value.oneCell']) (by kernel_rfl) ?_
  intro w2 hw
  refine hK.out _ _ ?_
  clear hK K
  (try simp only [Act.put, List.setIfInBounds_toArray, List.set_cons_zero, List.set_cons_succ])
  have HS2 := Lib.hid (show Since w w2 by rw [hw]; exact Since.setRow HS1.out (by have := HNE3.out; omega) _)
  have HBC2 := Lib.hid (show Blk w2 w.heap.size 23 (cfgA c) by rw [hw]; exact Blk.row_far HBC1.out (by have := HNE3.out; omega) _)
  have HBL2 := Lib.hid (show Blk w2 bL 56 #[.int .i64 l.se, .int .i64 l.fl, .int .i64 l.fm, .int .i64 l.to, .int .i64 l.ma, .int .i64 l.ca, .int .i64 2, .int .i64 l.un, .int .i64 l.re, .int .i64 l.gr] by rw [hw]; exact Blk.row HBL1.out _)
  have HBX2 := Lib.hid (show Blk w2 bX 76 (carA x) by rw [hw]; exact Blk.row_far HBX1.out (by have := HNE3.out; omega) _)
  clear hw HS1 HBC1 HBL1 HBX1
  refine wpList_q (by rfl) (.pointer (some ⟨bL, 8, none⟩)) ?he ?_
  case he => (first | rfl | (go_simp; (try with_reducible rfl)))
  (try simp only [Act.put, List.setIfInBounds_toArray, List.set_cons_zero, List.set_cons_succ])
  refine wpList_wp (by rfl) (fun K hK => ?_)
  refine wp_st_cell 3 _ _ rfl #[.int .i64 l.se, .int .i64 l.fl, .int .i64 l.fm, .int .i64 l.to, .int .i64 l.ma, .int .i64 l.ca, .int .i64 2, .int .i64 l.un, .int .i64 0, .int .i64 l.gr] (.int .i64 0) rfl rfl HBL2.out (by show 8 < 10; decide) rfl (by first | rfl | simp [Value.oneCell']) (by kernel_rfl) ?_
  intro w3 hw
  refine hK.out _ _ ?_
  clear hK K
  (try simp only [Act.put, List.setIfInBounds_toArray, List.set_cons_zero, List.set_cons_succ])
  have HS3 := Lib.hid (show Since w w3 by rw [hw]; exact Since.setRow HS2.out (by have := HNE3.out; omega) _)
  have HBC3 := Lib.hid (show Blk w3 w.heap.size 23 (cfgA c) by rw [hw]; exact Blk.row_far HBC2.out (by have := HNE3.out; omega) _)
  have HBL3 := Lib.hid (show Blk w3 bL 56 #[.int .i64 l.se, .int .i64 l.fl, .int .i64 l.fm, .int .i64 l.to, .int .i64 l.ma, .int .i64 l.ca, .int .i64 2, .int .i64 l.un, .int .i64 0, .int .i64 l.gr] by rw [hw]; exact Blk.row HBL2.out _)
  have HBX3 := Lib.hid (show Blk w3 bX 76 (carA x) by rw [hw]; exact Blk.row_far HBX2.out (by have := HNE3.out; omega) _)
  clear hw HS2 HBC2 HBL2 HBX2
  refine wpList_nil ?_
  go_upto_region 2 with fail
  refine wp_region_lit ?_
  refine wpList_q (by rfl) (.int .i64 now) ?he ?_
  case he => (first | rfl | (go_simp; (try with_reducible rfl)))
  (try simp only [Act.put, List.setIfInBounds_toArray, List.set_cons_zero, List.set_cons_succ])
  refine wpList_q (by rfl) (.bool false) ?he ?_
  case he => (have hq := H0.out; go_simp; (try with_reducible rfl))
  (try simp only [Act.put, List.setIfInBounds_toArray, List.set_cons_zero, List.set_cons_succ])
  refine wpList_q (by rfl) (.bool false) ?he ?_
  case he => (first | rfl | (go_simp; (try with_reducible rfl)))
  (try simp only [Act.put, List.setIfInBounds_toArray, List.set_cons_zero, List.set_cons_succ])
  refine wpList_q (by rfl) (.int .i64 now) ?he ?_
  case he => (first | rfl | (go_simp; (try with_reducible rfl)))
  (try simp only [Act.put, List.setIfInBounds_toArray, List.set_cons_zero, List.set_cons_succ])
  refine wpList_q (by rfl) (.bool true) ?he ?_
  case he => (have hq := H1.out; go_simp; (try with_reducible rfl))
  (try simp only [Act.put, List.setIfInBounds_toArray, List.set_cons_zero, List.set_cons_succ])
  refine wpList_q (by rfl) (.bool true) ?he ?_
  case he => (first | rfl | (go_simp; (try with_reducible rfl)))
  (try simp only [Act.put, List.setIfInBounds_toArray, List.set_cons_zero, List.set_cons_succ])
  refine wpList_nil ?_
  go_upto_region 3 with fail
  refine wp_region_lit ?_
  refine wpList_wp (by rfl) (fun K hK => ?_)
  (try go_simp)
  refine (ans _).mono ?_
  rintro e w4 ⟨rfl, hb⟩
  (try go_wp2_with fail)
  refine hK.out _ _ ?_
  clear hK K
  (try simp only [Act.put, List.setIfInBounds_toArray, List.set_cons_zero, List.set_cons_succ])
  have HS4 := Lib.hid (Since.trans HS3.out hb)
  have HBC4 := Lib.hid (keep_blk hb HBC3.out)
  have HBL4 := Lib.hid (keep_blk hb HBL3.out)
  have HBX4 := Lib.hid (keep_blk hb HBX3.out)
  clear HS3 HBC3 HBL3 HBX3
  clear hb
  refine wpList_q (by rfl) (.bool true) ?he ?_
  case he => (first | rfl | (go_simp; (try with_reducible rfl)))
  (try simp only [Act.put, List.setIfInBounds_toArray, List.set_cons_zero, List.set_cons_succ])
  refine wpList_nil ?_
  (try go_wp2_with fail)
  go_ret
  exact ⟨rfl, HS4.out⟩
/-- What a renewal answers. -/
theorem ren_yes (c : CfgV) (x : CarV) (a : LeaseV) (t : Int) (h2 : a.ph = 2) (h : a.re < rn c.re) (hr : 0 ≤ a.re) (ht0 : 0 ≤ t) (ht1 : t ≤ 2000000000) : hearV c a x t ⟨15, 0, 0, 0⟩ = ((⟨a.se, a.fl, a.fm, a.to, a.ma, a.ca, a.ph, t + sp c.ho, a.re + 1, a.gr⟩ : LeaseV), some ⟨4, a.ca, 0, 0⟩, false) := by
  have h3 := rn_hi c.re
  have h4 := sp_lo c.ho
  have h5 := sp_hi c.ho
  unfold hearV
  rw [if_neg (by simp), if_neg (by simp), if_pos ⟨rfl, by unfold mayRe; rw [h2]; simp [h]⟩, wr (a.re + 1) (by omega) (by omega), cl_id t (by omega) (by omega), cl_id (sp c.ho) (by omega) (by omega), cl_id (t + sp c.ho) (by omega) (by omega)]
theorem ren_no (c : CfgV) (x : CarV) (a : LeaseV) (t : Int) (h2 : a.ph = 2) (h : ¬ a.re < rn c.re) : hearV c a x t ⟨15, 0, 0, 0⟩ = ((⟨a.se, a.fl, a.fm, a.to, a.ma, a.ca, a.ph, a.un, a.re, a.gr⟩ : LeaseV), some ⟨7, a.ph, 0, 0⟩, false) := by
  unfold hearV
  rw [if_neg (by simp), if_neg (by simp), if_neg (by unfold mayRe; simp [h])]
set_option maxHeartbeats 8000000 in
theorem renews (c : CfgV) (l : LeaseV) (x : CarV) (now n : Int) (hn0 : 0 ≤ n) (hn1 : n ≤ 255) (h0 : ¬ (now < 0)) (h1 : ¬ (1073741824 < now)) (w : World) : Calls Try.prog 15 #[.agg #[.int .i64 c.ca, .int .i64 c.fl, .int .i64 c.ft, .int .i64 c.se, .int .i64 c.dr, .int .i64 c.dw, .int .i64 c.ho, .int .i64 c.re, .int .i64 c.yi, .int .i64 c.qu, .int .i64 c.qo, .int .i64 c.lo, .int .i64 c.sl, .int .i64 c.rt, .int .i64 c.cp, .int .i64 c.tr, .int .i64 c.de, .int .i64 c.wi], .agg #[.int .i64 l.se, .int .i64 l.fl, .int .i64 l.fm, .int .i64 l.to, .int .i64 l.ma, .int .i64 l.ca, .int .i64 l.ph, .int .i64 l.un, .int .i64 l.re, .int .i64 l.gr], .agg #[.int .i64 x.ds, .int .i64 x.da, .int .i64 x.un, .int .i64 x.wy, .int .i64 x.ti, .int .i64 x.ju, .int .i64 x.lo, .bool x.bl, .bool x.br, .int .i64 x.mo, .int .i64 x.ta, .bool x.ho, .int .u64 x.sp, .int .u64 x.su, .int .u64 x.sd], .int .i64 now, .int .u8 n] w fun e w' => e = .returned (.bool true) ∧ Since w w' := by
  have HT := Lib.hid (show 0 ≤ now ∧ now ≤ 1073741824 by omega)
  have HRN := Lib.hid (And.intro (rn_lo c.re) (rn_hi c.re))
  have HSP := Lib.hid (And.intro (sp_lo c.ho) (sp_hi c.ho))
  have H0 := Lib.hid h0
  clear h0
  have H1 := Lib.hid h1
  clear h1
  go_enter Try.func15, Try.ntmps15
  go_upto_region 1 with fail
  obtain ⟨w1, hw1⟩ : ∃ w1, w1 = (((w.alloc (.cells #[.int .i64 c.ca, .int .i64 c.fl, .int .i64 c.ft, .int .i64 c.se, .int .i64 c.dr, .int .i64 c.dw, .int .i64 c.ho, .int .i64 c.re, .int .i64 c.yi, .int .i64 c.qu, .int .i64 c.qo, .int .i64 c.lo, .int .i64 c.sl, .int .i64 c.rt, .int .i64 c.cp, .int .i64 c.tr, .int .i64 c.de, .int .i64 c.wi] 23)).alloc (.cells #[.int .i64 l.se, .int .i64 l.fl, .int .i64 l.fm, .int .i64 l.to, .int .i64 l.ma, .int .i64 l.ca, .int .i64 l.ph, .int .i64 l.un, .int .i64 l.re, .int .i64 l.gr] 56)).alloc (.cells #[.int .i64 x.ds, .int .i64 x.da, .int .i64 x.un, .int .i64 x.wy, .int .i64 x.ti, .int .i64 x.ju, .int .i64 x.lo, .bool x.bl, .bool x.br, .int .i64 x.mo, .int .i64 x.ta, .bool x.ho, .int .u64 x.sp, .int .u64 x.su, .int .u64 x.sd] 76)) := ⟨_, rfl⟩
  rw [← hw1]
  have HBC1 := Lib.hid (show Blk w1 (w.heap.size) 23 (cfgA c) by rw [hw1]; exact Blk.alloc (Blk.alloc (Blk.at_ (by (try simp only [size_alloc])) _ _) _) _)
  have HBL1 := Lib.hid (show Blk w1 (w.heap.size + 1) 56 (leaA l) by rw [hw1]; exact Blk.alloc (Blk.at_ (by (try simp only [size_alloc])) _ _) _)
  have HBX1 := Lib.hid (show Blk w1 (w.heap.size + 1 + 1) 76 (carA x) by rw [hw1]; exact Blk.at_ (by (try simp only [size_alloc])) _ _)
  have HS1 := Lib.hid (show Since w w1 by rw [hw1]; exact Since.alloc (Since.alloc (Since.alloc (Since.refl w) _) _) _)
  have hNE : w.heap.size ≤ w.heap.size ∧ w.heap.size < w.heap.size + 1 ∧ w.heap.size + 1 < w.heap.size + 1 + 1 := by omega
  have HNE := Lib.hid hNE
  clear hNE hw1
  generalize w.heap.size + 1 + 1 = bX at *
  generalize w.heap.size + 1 = bL at *
  have HNE3 := Lib.hid (show w.heap.size ≤ w.heap.size ∧ w.heap.size < bL ∧ bL < bX from HNE.out)
  clear HNE
  refine wp_region_lit ?_
  refine wpList_q (by rfl) (.pointer (some ⟨bL, 6, none⟩)) ?he ?_
  case he => (first | rfl | (go_simp; (try with_reducible rfl)))
  (try simp only [Act.put, List.setIfInBounds_toArray, List.set_cons_zero, List.set_cons_succ])
  refine wpList_wp (by rfl) (fun K hK => ?_)
  refine wp_st_cell 3 _ _ rfl #[.int .i64 l.se, .int .i64 l.fl, .int .i64 l.fm, .int .i64 l.to, .int .i64 l.ma, .int .i64 l.ca, .int .i64 2, .int .i64 l.un, .int .i64 l.re, .int .i64 l.gr] (.int .i64 2) rfl rfl HBL1.out (by show 6 < 10; decide) rfl (by first | rfl | simp [Value.oneCell']) (by kernel_rfl) ?_
  intro w2 hw
  refine hK.out _ _ ?_
  clear hK K
  (try simp only [Act.put, List.setIfInBounds_toArray, List.set_cons_zero, List.set_cons_succ])
  have HS2 := Lib.hid (show Since w w2 by rw [hw]; exact Since.setRow HS1.out (by have := HNE3.out; omega) _)
  have HBC2 := Lib.hid (show Blk w2 w.heap.size 23 (cfgA c) by rw [hw]; exact Blk.row_far HBC1.out (by have := HNE3.out; omega) _)
  have HBL2 := Lib.hid (show Blk w2 bL 56 #[.int .i64 l.se, .int .i64 l.fl, .int .i64 l.fm, .int .i64 l.to, .int .i64 l.ma, .int .i64 l.ca, .int .i64 2, .int .i64 l.un, .int .i64 l.re, .int .i64 l.gr] by rw [hw]; exact Blk.row HBL1.out _)
  have HBX2 := Lib.hid (show Blk w2 bX 76 (carA x) by rw [hw]; exact Blk.row_far HBX1.out (by have := HNE3.out; omega) _)
  clear hw HS1 HBC1 HBL1 HBX1
  refine wpList_q (by rfl) (.pointer (some ⟨bL, 8, none⟩)) ?he ?_
  case he => (first | rfl | (go_simp; (try with_reducible rfl)))
  (try simp only [Act.put, List.setIfInBounds_toArray, List.set_cons_zero, List.set_cons_succ])
  refine wpList_wp (by rfl) (fun K hK => ?_)
  refine wp_st_cell 3 _ _ rfl #[.int .i64 l.se, .int .i64 l.fl, .int .i64 l.fm, .int .i64 l.to, .int .i64 l.ma, .int .i64 l.ca, .int .i64 2, .int .i64 l.un, .int .i64 0, .int .i64 l.gr] (.int .i64 0) rfl rfl HBL2.out (by show 8 < 10; decide) rfl (by first | rfl | simp [Value.oneCell']) (by kernel_rfl) ?_
  intro w3 hw
  refine hK.out _ _ ?_
  clear hK K
  (try simp only [Act.put, List.setIfInBounds_toArray, List.set_cons_zero, List.set_cons_succ])
  have HS3 := Lib.hid (show Since w w3 by rw [hw]; exact Since.setRow HS2.out (by have := HNE3.out; omega) _)
  have HBC3 := Lib.hid (show Blk w3 w.heap.size 23 (cfgA c) by rw [hw]; exact Blk.row_far HBC2.out (by have := HNE3.out; omega) _)
  have HBL3 := Lib.hid (show Blk w3 bL 56 #[.int .i64 l.se, .int .i64 l.fl, .int .i64 l.fm, .int .i64 l.to, .int .i64 l.ma, .int .i64 l.ca, .int .i64 2, .int .i64 l.un, .int .i64 0, .int .i64 l.gr] by rw [hw]; exact Blk.row HBL2.out _)
  have HBX3 := Lib.hid (show Blk w3 bX 76 (carA x) by rw [hw]; exact Blk.row_far HBX2.out (by have := HNE3.out; omega) _)
  clear hw HS2 HBC2 HBL2 HBX2
  refine wpList_nil ?_
  go_upto_region 2 with fail
  refine wp_region_lit ?_
  refine wpList_q (by rfl) (.int .i64 now) ?he ?_
  case he => (first | rfl | (go_simp; (try with_reducible rfl)))
  (try simp only [Act.put, List.setIfInBounds_toArray, List.set_cons_zero, List.set_cons_succ])
  refine wpList_q (by rfl) (.bool false) ?he ?_
  case he => (have hq := H0.out; go_simp; (try with_reducible rfl))
  (try simp only [Act.put, List.setIfInBounds_toArray, List.set_cons_zero, List.set_cons_succ])
  refine wpList_q (by rfl) (.bool false) ?he ?_
  case he => (first | rfl | (go_simp; (try with_reducible rfl)))
  (try simp only [Act.put, List.setIfInBounds_toArray, List.set_cons_zero, List.set_cons_succ])
  refine wpList_q (by rfl) (.int .i64 now) ?he ?_
  case he => (first | rfl | (go_simp; (try with_reducible rfl)))
  (try simp only [Act.put, List.setIfInBounds_toArray, List.set_cons_zero, List.set_cons_succ])
  refine wpList_q (by rfl) (.bool false) ?he ?_
  case he => (have hq := H1.out; go_simp; (try with_reducible rfl))
  (try simp only [Act.put, List.setIfInBounds_toArray, List.set_cons_zero, List.set_cons_succ])
  refine wpList_q (by rfl) (.bool false) ?he ?_
  case he => (first | rfl | (go_simp; (try with_reducible rfl)))
  (try simp only [Act.put, List.setIfInBounds_toArray, List.set_cons_zero, List.set_cons_succ])
  refine wpList_nil ?_
  go_wp2_with fail
  go_loopw [11, 12] (fun s11 s12 wr => ∃ (k : Nat) (g u : Int), (k : Int) ≤ n ∧ s11 = .int .i64 g ∧ s12 = .int .i64 k ∧ Hid (g = min (k : Int) (rn c.re) ∧ Since w wr ∧ Blk wr w.heap.size 23 (cfgA c) ∧ Blk wr bL 56 #[.int .i64 l.se, .int .i64 l.fl, .int .i64 l.fm, .int .i64 l.to, .int .i64 l.ma, .int .i64 l.ca, .int .i64 2, .int .i64 u, .int .i64 g, .int .i64 l.gr] ∧ Blk wr bX 76 (carA x))) (fun s11 s12 _ => (n - intOf s12).toNat)
  case atStart => exact ⟨0, 0, l.un, by omega, rfl, rfl, Lib.hid ⟨by have := HRN.out; omega, HS3.out, HBC3.out, HBL3.out, HBX3.out⟩⟩
  case round =>
    obtain ⟨k, g, u, hk, rfl, rfl, HO⟩ := hrel
    obtain ⟨e0, g0, g1, g2, g3⟩ := HO.out
    clear HO HS3 HBC3 HBL3 HBX3
    have HG := Lib.hid e0
    have HS53 := Lib.hid g0
    have HBC53 := Lib.hid g1
    have HBL53 := Lib.hid g2
    have HBX53 := Lib.hid g3
    clear e0 g0 g1 g2 g3
    have hk0 : (0 : Int) ≤ (k : Int) := by omega
    have hk9 : (k : Int) ≤ 255 := by omega
    have hg0 : 0 ≤ g ∧ g ≤ 1000 := by have := HG.out; have := HRN.out; omega
    have HG0 := Lib.hid hg0; clear hg0
    have hnk : 0 ≤ now + (k : Int) ∧ now + (k : Int) ≤ 2000000000 := by have := HT.out; omega
    have HNK := Lib.hid hnk; clear hnk
    by_cases hlt : (k : Int) < n
    · by_cases hg : g < rn c.re
      · skip
        have HH := Lib.hid (fun W => show Calls Try.prog 57 #[.agg #[.int .i64 c.ca, .int .i64 c.fl, .int .i64 c.ft, .int .i64 c.se, .int .i64 c.dr, .int .i64 c.dw, .int .i64 c.ho, .int .i64 c.re, .int .i64 c.yi, .int .i64 c.qu, .int .i64 c.qo, .int .i64 c.lo, .int .i64 c.sl, .int .i64 c.rt, .int .i64 c.cp, .int .i64 c.tr, .int .i64 c.de, .int .i64 c.wi], .agg #[.int .i64 l.se, .int .i64 l.fl, .int .i64 l.fm, .int .i64 l.to, .int .i64 l.ma, .int .i64 l.ca, .int .i64 2, .int .i64 u, .int .i64 g, .int .i64 l.gr], .agg #[.int .i64 x.ds, .int .i64 x.da, .int .i64 x.un, .int .i64 x.wy, .int .i64 x.ti, .int .i64 x.ju, .int .i64 x.lo, .bool x.bl, .bool x.br, .int .i64 x.mo, .int .i64 x.ta, .bool x.ho, .int .u64 x.sp, .int .u64 x.su, .int .u64 x.sd], .int .i64 (now + (k : Int)), .agg #[.int .i64 15, .int .i64 0, .int .i64 0, .int .i64 0]] W (Said W ((⟨l.se, l.fl, l.fm, l.to, l.ma, l.ca, 2, (now + (k : Int) + sp c.ho), (g + 1), l.gr⟩ : LeaseV), some ⟨4, l.ca, 0, 0⟩, false)) by have h := hearT c (⟨l.se, l.fl, l.fm, l.to, l.ma, l.ca, 2, u, g, l.gr⟩ : LeaseV) x (now + (k : Int)) ⟨15, 0, 0, 0⟩ W; rw [ren_yes c x (⟨l.se, l.fl, l.fm, l.to, l.ma, l.ca, 2, u, g, l.gr⟩ : LeaseV) (now + (k : Int)) rfl hg HG0.out.1 HNK.out.1 HNK.out.2] at h; exact h)
        have HGG := Lib.hid hg; clear hg
        go_upto_region 8 with fail
        refine wp_region_lit ?_
        refine wpList_q (by rfl) (.agg (cfgA c)) ?he ?_
        case he => exact exec_load_row 23 _ _ HBC53.out rfl rfl Try.underlying23 rfl (by kernel_rfl)
        (try simp only [Act.put, List.setIfInBounds_toArray, List.set_cons_zero, List.set_cons_succ])
        refine wpList_q (by rfl) (.agg #[.int .i64 l.se, .int .i64 l.fl, .int .i64 l.fm, .int .i64 l.to, .int .i64 l.ma, .int .i64 l.ca, .int .i64 2, .int .i64 u, .int .i64 g, .int .i64 l.gr]) ?he ?_
        case he => exact exec_load_row 56 _ _ HBL53.out rfl rfl Try.underlying56 rfl (by kernel_rfl)
        (try simp only [Act.put, List.setIfInBounds_toArray, List.set_cons_zero, List.set_cons_succ])
        refine wpList_q (by rfl) (.agg (carA x)) ?he ?_
        case he => exact exec_load_row 76 _ _ HBX53.out rfl rfl Try.underlying76 rfl (by kernel_rfl)
        (try simp only [Act.put, List.setIfInBounds_toArray, List.set_cons_zero, List.set_cons_succ])
        refine wpList_q (by rfl) (.int .i64 now) ?he ?_
        case he => (first | rfl | (go_simp; (try with_reducible rfl)))
        (try simp only [Act.put, List.setIfInBounds_toArray, List.set_cons_zero, List.set_cons_succ])
        refine wpList_q (by rfl) (.int .i64 k) ?he ?_
        case he => (first | rfl | (go_simp; (try with_reducible rfl)))
        (try simp only [Act.put, List.setIfInBounds_toArray, List.set_cons_zero, List.set_cons_succ])
        refine wpList_q (by rfl) (.int .i64 (now + (k : Int))) ?he ?_
        case he => (go_simp; (first | done | (refine Ri.wr _ ?_ ?_ <;> (have q0 := HT.out; have q1 := (hk0 : (0 : Int) ≤ (k : Int)); have q2 := (hk9 : (k : Int) ≤ 255); omega)) | (have q0 := HT.out; have q1 := (hk0 : (0 : Int) ≤ (k : Int)); have q2 := (hk9 : (k : Int) ≤ 255); omega) | (have q0 := HT.out; have q1 := (hk0 : (0 : Int) ≤ (k : Int)); have q2 := (hk9 : (k : Int) ≤ 255); split <;> omega) | (have q0 := HT.out; have q1 := (hk0 : (0 : Int) ≤ (k : Int)); have q2 := (hk9 : (k : Int) ≤ 255); intro hh; omega)))
        (try simp only [Act.put, List.setIfInBounds_toArray, List.set_cons_zero, List.set_cons_succ])
        refine wpList_q (by rfl) (.agg #[.int .i64 15, .int .i64 0, .int .i64 0, .int .i64 0]) ?he ?_
        case he => kernel_rfl
        (try simp only [Act.put, List.setIfInBounds_toArray, List.set_cons_zero, List.set_cons_succ])
        refine wpList_wp (by rfl) (fun K hK => ?_)
        (try go_simp)
        refine (HH.out _).mono ?_
        rintro e w54 ⟨_, rfl, ⟨bm1, rfl, hge, hB⟩, hb⟩
        (try go_wp2_with fail)
        refine hK.out _ _ ?_
        clear hK K
        (try simp only [Act.put, List.setIfInBounds_toArray, List.set_cons_zero, List.set_cons_succ])
        have HNm1C := Lib.hid (show bm1 ≠ w.heap.size by have := Blk.lt HBC53.out; omega)
        have HNm1L := Lib.hid (show bm1 ≠ bL by have := Blk.lt HBL53.out; omega)
        have HNm1X := Lib.hid (show bm1 ≠ bX by have := Blk.lt HBX53.out; omega)
        have HGm1 := Lib.hid (show w.heap.size ≤ bm1 by have := Since.size HS53.out; omega)
        have HS54 := Lib.hid (Since.trans HS53.out hb)
        have HBC54 := Lib.hid (keep_blk hb HBC53.out)
        have HBL54 := Lib.hid (keep_blk hb HBL53.out)
        have HBX54 := Lib.hid (keep_blk hb HBX53.out)
        clear HS53 HBC53 HBL53 HBX53
        clear hb hge
        have HBm154 := Lib.hid hB
        clear hB
        refine wpList_q (by rfl) (.tuple #[.agg #[.int .i64 l.se, .int .i64 l.fl, .int .i64 l.fm, .int .i64 l.to, .int .i64 l.ma, .int .i64 l.ca, .int .i64 2, .int .i64 (now + (k : Int) + sp c.ho), .int .i64 (g + 1), .int .i64 l.gr], .slice (some ⟨bm1, 0, none⟩) 1 1, .bool false]) ?he ?_
        case he => (first | rfl | (go_simp; (try with_reducible rfl)))
        (try simp only [Act.put, List.setIfInBounds_toArray, List.set_cons_zero, List.set_cons_succ])
        refine wpList_q (by rfl) (.agg #[.int .i64 l.se, .int .i64 l.fl, .int .i64 l.fm, .int .i64 l.to, .int .i64 l.ma, .int .i64 l.ca, .int .i64 2, .int .i64 (now + (k : Int) + sp c.ho), .int .i64 (g + 1), .int .i64 l.gr]) ?he ?_
        case he => (first | rfl | (go_simp; (try with_reducible rfl)))
        (try simp only [Act.put, List.setIfInBounds_toArray, List.set_cons_zero, List.set_cons_succ])
        refine wpList_q (by rfl) (.slice (some ⟨bm1, 0, none⟩) 1 1) ?he ?_
        case he => (first | rfl | (go_simp; (try with_reducible rfl)))
        (try simp only [Act.put, List.setIfInBounds_toArray, List.set_cons_zero, List.set_cons_succ])
        refine wpList_q (by rfl) (.bool false) ?he ?_
        case he => (first | rfl | (go_simp; (try with_reducible rfl)))
        (try simp only [Act.put, List.setIfInBounds_toArray, List.set_cons_zero, List.set_cons_succ])
        refine wpList_wp (by rfl) (fun K hK => ?_)
        refine wp_new (fun b => .pointer (some ⟨b, 0, none⟩)) 56 #[.int .i64 0, .int .i64 0, .int .i64 0, .int .i64 0, .int .i64 0, .int .i64 0, .int .i64 0, .int .i64 0, .int .i64 0, .int .i64 0] (by rintro b rfl; first | rfl | kernel_rfl) ?_
        intro bn13 w55 hge hB hb
        refine hK.out _ _ ?_
        clear hK K
        (try simp only [Act.put, List.setIfInBounds_toArray, List.set_cons_zero, List.set_cons_succ])
        have HNn13C := Lib.hid (show bn13 ≠ w.heap.size by have := Blk.lt HBC54.out; omega)
        have HNn13L := Lib.hid (show bn13 ≠ bL by have := Blk.lt HBL54.out; omega)
        have HNn13X := Lib.hid (show bn13 ≠ bX by have := Blk.lt HBX54.out; omega)
        have HNn13m1 := Lib.hid (show bn13 ≠ bm1 by have := Blk.lt HBm154.out; omega)
        have HGn13 := Lib.hid (show w.heap.size ≤ bn13 by have := Since.size HS54.out; omega)
        have HS55 := Lib.hid (Since.trans HS54.out hb)
        have HBC55 := Lib.hid (keep_blk hb HBC54.out)
        have HBL55 := Lib.hid (keep_blk hb HBL54.out)
        have HBX55 := Lib.hid (keep_blk hb HBX54.out)
        have HBm155 := Lib.hid (keep_blk hb HBm154.out)
        clear HS54 HBC54 HBL54 HBX54 HBm154
        clear hb hge
        have HBn1355 := Lib.hid hB
        clear hB
        refine wpList_wp (by rfl) (fun K hK => ?_)
        refine wp_st_row 56 _ _ rfl #[.int .i64 l.se, .int .i64 l.fl, .int .i64 l.fm, .int .i64 l.to, .int .i64 l.ma, .int .i64 l.ca, .int .i64 2, .int .i64 (now + (k : Int) + sp c.ho), .int .i64 (g + 1), .int .i64 l.gr] rfl rfl (HasRow.of HBn1355.out rfl) rfl (by simp [cfgA, leaA, carA, msgC, Value.oneCell']) (by kernel_rfl) ?_
        intro w56 hw
        refine hK.out _ _ ?_
        clear hK K
        (try simp only [Act.put, List.setIfInBounds_toArray, List.set_cons_zero, List.set_cons_succ])
        have HS56 := Lib.hid (show Since w w56 by rw [hw]; exact Since.setRow HS55.out HGn13.out _)
        have HBC56 := Lib.hid (show Blk w56 w.heap.size 23 (cfgA c) by rw [hw]; exact Blk.row_far HBC55.out (Ne.symm HNn13C.out) _)
        have HBL56 := Lib.hid (show Blk w56 bL 56 #[.int .i64 l.se, .int .i64 l.fl, .int .i64 l.fm, .int .i64 l.to, .int .i64 l.ma, .int .i64 l.ca, .int .i64 2, .int .i64 u, .int .i64 g, .int .i64 l.gr] by rw [hw]; exact Blk.row_far HBL55.out (Ne.symm HNn13L.out) _)
        have HBX56 := Lib.hid (show Blk w56 bX 76 (carA x) by rw [hw]; exact Blk.row_far HBX55.out (Ne.symm HNn13X.out) _)
        have HBm156 := Lib.hid (show Blk w56 bm1 85 #[.int .i64 4, .int .i64 l.ca, .int .i64 0, .int .i64 0] by rw [hw]; exact Blk.row_far HBm155.out (Ne.symm HNn13m1.out) _)
        have HBn1356 := Lib.hid (show Blk w56 bn13 56 #[.int .i64 l.se, .int .i64 l.fl, .int .i64 l.fm, .int .i64 l.to, .int .i64 l.ma, .int .i64 l.ca, .int .i64 2, .int .i64 (now + (k : Int) + sp c.ho), .int .i64 (g + 1), .int .i64 l.gr] by rw [hw]; exact Blk.row HBn1355.out _)
        clear hw HS55 HBC55 HBL55 HBX55 HBm155 HBn1355
        refine wpList_q (by rfl) (.slice (some ⟨bm1, 0, none⟩) 1 1) ?he ?_
        case he => (first | rfl | (go_simp; (try with_reducible rfl)))
        (try simp only [Act.put, List.setIfInBounds_toArray, List.set_cons_zero, List.set_cons_succ])
        refine wpList_q (by rfl) (.bool false) ?he ?_
        case he => (first | rfl | (go_simp; (try with_reducible rfl)))
        (try simp only [Act.put, List.setIfInBounds_toArray, List.set_cons_zero, List.set_cons_succ])
        refine wpList_nil ?_
        go_upto_region 9 with fail
        refine wp_region_lit ?_
        refine wpList_q (by rfl) (.bool false) ?he ?_
        case he => (first | rfl | (go_simp; (try with_reducible rfl)))
        (try simp only [Act.put, List.setIfInBounds_toArray, List.set_cons_zero, List.set_cons_succ])
        refine wpList_q (by rfl) (.bool false) ?he ?_
        case he => (first | rfl | (go_simp; (try with_reducible rfl)))
        (try simp only [Act.put, List.setIfInBounds_toArray, List.set_cons_zero, List.set_cons_succ])
        refine wpList_q (by rfl) (.slice (some ⟨bm1, 0, none⟩) 1 1) ?he ?_
        case he => (first | rfl | (go_simp; (try with_reducible rfl)))
        (try simp only [Act.put, List.setIfInBounds_toArray, List.set_cons_zero, List.set_cons_succ])
        refine wpList_q (by rfl) (.int .i64 1) ?he ?_
        case he => (go_simp; (try with_reducible rfl))
        (try simp only [Act.put, List.setIfInBounds_toArray, List.set_cons_zero, List.set_cons_succ])
        refine wpList_q (by rfl) (.bool false) ?he ?_
        case he => (go_simp; (try with_reducible rfl))
        (try simp only [Act.put, List.setIfInBounds_toArray, List.set_cons_zero, List.set_cons_succ])
        refine wpList_q (by rfl) (.bool false) ?he ?_
        case he => (first | rfl | (go_simp; (try with_reducible rfl)))
        (try simp only [Act.put, List.setIfInBounds_toArray, List.set_cons_zero, List.set_cons_succ])
        refine wpList_nil ?_
        go_upto_region 11 with fail
        refine wp_region_lit ?_
        refine wpList_q (by rfl) (.slice (some ⟨bm1, 0, none⟩) 1 1) ?he ?_
        case he => (first | rfl | (go_simp; (try with_reducible rfl)))
        (try simp only [Act.put, List.setIfInBounds_toArray, List.set_cons_zero, List.set_cons_succ])
        refine wpList_q (by rfl) (.pointer (some ⟨bm1, 0, none⟩)) ?he ?_
        case he => (go_simp; (try with_reducible rfl))
        (try simp only [Act.put, List.setIfInBounds_toArray, List.set_cons_zero, List.set_cons_succ])
        refine wpList_q (by rfl) (.pointer (some ⟨bm1, 0, none⟩)) ?he ?_
        case he => (first | rfl | (go_simp; (try with_reducible rfl)))
        (try simp only [Act.put, List.setIfInBounds_toArray, List.set_cons_zero, List.set_cons_succ])
        refine wpList_q (by rfl) (.int .i64 4) ?he ?_
        case he => exact exec_cell 3 _ _ HBm156.out rfl rfl rfl Try.underlying3 rfl
        (try simp only [Act.put, List.setIfInBounds_toArray, List.set_cons_zero, List.set_cons_succ])
        refine wpList_q (by rfl) (.bool true) ?he ?_
        case he => (go_simp; (try with_reducible rfl))
        (try simp only [Act.put, List.setIfInBounds_toArray, List.set_cons_zero, List.set_cons_succ])
        refine wpList_nil ?_
        go_upto_region 12 with fail
        refine wp_region_lit ?_
        refine wpList_q (by rfl) (.int .i64 g) ?he ?_
        case he => (first | rfl | (go_simp; (try with_reducible rfl)))
        (try simp only [Act.put, List.setIfInBounds_toArray, List.set_cons_zero, List.set_cons_succ])
        refine wpList_q (by rfl) (.int .i64 (g + 1)) ?he ?_
        case he => (go_simp; (first | done | (refine Ri.wr _ ?_ ?_ <;> (have q0 := HG0.out; omega)) | (have q0 := HG0.out; omega) | (have q0 := HG0.out; split <;> omega) | (have q0 := HG0.out; intro hh; omega)))
        (try simp only [Act.put, List.setIfInBounds_toArray, List.set_cons_zero, List.set_cons_succ])
        refine wpList_q (by rfl) (.int .i64 (g + 1)) ?he ?_
        case he => (first | rfl | (go_simp; (try with_reducible rfl)))
        (try simp only [Act.put, List.setIfInBounds_toArray, List.set_cons_zero, List.set_cons_succ])
        refine wpList_nil ?_
        go_upto_region 13 with fail
        have hrK : ∀ W W' : World, Since W W' → (Since w W ∧ Blk W w.heap.size 23 (cfgA c) ∧ Blk W bL 56 #[.int .i64 l.se, .int .i64 l.fl, .int .i64 l.fm, .int .i64 l.to, .int .i64 l.ma, .int .i64 l.ca, .int .i64 2, .int .i64 u, .int .i64 g, .int .i64 l.gr] ∧ Blk W bX 76 (carA x) ∧ Blk W bm1 85 #[.int .i64 4, .int .i64 l.ca, .int .i64 0, .int .i64 0] ∧ Blk W bn13 56 #[.int .i64 l.se, .int .i64 l.fl, .int .i64 l.fm, .int .i64 l.to, .int .i64 l.ma, .int .i64 l.ca, .int .i64 2, .int .i64 (now + (k : Int) + sp c.ho), .int .i64 (g + 1), .int .i64 l.gr]) → (Since w W' ∧ Blk W' w.heap.size 23 (cfgA c) ∧ Blk W' bL 56 #[.int .i64 l.se, .int .i64 l.fl, .int .i64 l.fm, .int .i64 l.to, .int .i64 l.ma, .int .i64 l.ca, .int .i64 2, .int .i64 u, .int .i64 g, .int .i64 l.gr] ∧ Blk W' bX 76 (carA x) ∧ Blk W' bm1 85 #[.int .i64 4, .int .i64 l.ca, .int .i64 0, .int .i64 0] ∧ Blk W' bn13 56 #[.int .i64 l.se, .int .i64 l.fl, .int .i64 l.fm, .int .i64 l.to, .int .i64 l.ma, .int .i64 l.ca, .int .i64 2, .int .i64 (now + (k : Int) + sp c.ho), .int .i64 (g + 1), .int .i64 l.gr]) := fun W W' k ⟨h, h0, h1, h2, h3, h4⟩ => ⟨h.trans k, keep_blk k h0, keep_blk k h1, keep_blk k h2, keep_blk k h3, keep_blk k h4⟩
        have hrS : (fun W : World => Since w W ∧ Blk W w.heap.size 23 (cfgA c) ∧ Blk W bL 56 #[.int .i64 l.se, .int .i64 l.fl, .int .i64 l.fm, .int .i64 l.to, .int .i64 l.ma, .int .i64 l.ca, .int .i64 2, .int .i64 u, .int .i64 g, .int .i64 l.gr] ∧ Blk W bX 76 (carA x) ∧ Blk W bm1 85 #[.int .i64 4, .int .i64 l.ca, .int .i64 0, .int .i64 0] ∧ Blk W bn13 56 #[.int .i64 l.se, .int .i64 l.fl, .int .i64 l.fm, .int .i64 l.to, .int .i64 l.ma, .int .i64 l.ca, .int .i64 2, .int .i64 (now + (k : Int) + sp c.ho), .int .i64 (g + 1), .int .i64 l.gr]) w56 := ⟨HS56.out, HBC56.out, HBL56.out, HBX56.out, HBm156.out, HBn1356.out⟩
        have HRK := Lib.hid hrK
        have HRD := Lib.hid (show (fun W : World => Since w W ∧ Blk W w.heap.size 23 (cfgA c) ∧ Blk W bL 56 #[.int .i64 l.se, .int .i64 l.fl, .int .i64 l.fm, .int .i64 l.to, .int .i64 l.ma, .int .i64 l.ca, .int .i64 2, .int .i64 u, .int .i64 g, .int .i64 l.gr] ∧ Blk W bX 76 (carA x) ∧ Blk W bm1 85 #[.int .i64 4, .int .i64 l.ca, .int .i64 0, .int .i64 0] ∧ Blk W bn13 56 #[.int .i64 l.se, .int .i64 l.fl, .int .i64 l.fm, .int .i64 l.to, .int .i64 l.ma, .int .i64 l.ca, .int .i64 2, .int .i64 (now + (k : Int) + sp c.ho), .int .i64 (g + 1), .int .i64 l.gr]) (World.drew w56) from ⟨Since.drew hrS.1, hrS.2⟩)
        clear hrK hrS
        refine wp_region_held_drew (S := fun W : World => Since w W ∧ Blk W w.heap.size 23 (cfgA c) ∧ Blk W bL 56 #[.int .i64 l.se, .int .i64 l.fl, .int .i64 l.fm, .int .i64 l.to, .int .i64 l.ma, .int .i64 l.ca, .int .i64 2, .int .i64 u, .int .i64 g, .int .i64 l.gr] ∧ Blk W bX 76 (carA x) ∧ Blk W bm1 85 #[.int .i64 4, .int .i64 l.ca, .int .i64 0, .int .i64 0] ∧ Blk W bn13 56 #[.int .i64 l.se, .int .i64 l.fl, .int .i64 l.fm, .int .i64 l.to, .int .i64 l.ma, .int .i64 l.ca, .int .i64 2, .int .i64 (now + (k : Int) + sp c.ho), .int .i64 (g + 1), .int .i64 l.gr]) (by kernel_rfl) HRD.out (fun hHeld => ?_)
        refine wpAnyH_take (i := 0) (oi := ?o13__0) (v := .pointer (some ⟨bn13, 7, none⟩)) ?h13__0 (by kernel_rfl) (by kernel_rfl) (by kernel_rfl) ?q13__0 ?y13__0 (by assumption) ?_
        case h13__0 => (first | (simp only [List.getElem?_toArray, List.getElem?_cons_zero, List.getElem?_cons_succ]; done) | (simp only [List.getElem?_toArray, List.getElem?_cons_zero, List.getElem?_cons_succ]; exact rfl))
        case q13__0 => exact fun _ _ _ h => h
        case y13__0 => (refine Or.inl ⟨rfl, ?_⟩; intro w hSw; (first | rfl | (go_simp; (try with_reducible rfl))))
        (try simp only [Act.put, List.setIfInBounds_toArray, List.set_cons_zero, List.set_cons_succ])
        refine wpAnyH_take (i := 1) (oi := ?o13__1) (v := .int .i64 (now + (k : Int) + sp c.ho)) ?h13__1 (by kernel_rfl) (by kernel_rfl) (by kernel_rfl) ?q13__1 ?y13__1 (by assumption) ?_
        case h13__1 => (first | (simp only [List.getElem?_toArray, List.getElem?_cons_zero, List.getElem?_cons_succ]; done) | (simp only [List.getElem?_toArray, List.getElem?_cons_zero, List.getElem?_cons_succ]; exact rfl))
        case q13__1 => exact fun _ _ _ h => h
        case y13__1 => (refine Or.inl ⟨rfl, ?_⟩; intro w hSw; exact exec_cell 3 _ _ hSw.2.2.2.2.2 rfl rfl rfl Try.underlying3 rfl)
        (try simp only [Act.put, List.setIfInBounds_toArray, List.set_cons_zero, List.set_cons_succ])
        refine wpAnyH_take (i := 2) (oi := ?o13__2) (v := .int .i64 now) ?h13__2 (by kernel_rfl) (by kernel_rfl) (by kernel_rfl) ?q13__2 ?y13__2 (by assumption) ?_
        case h13__2 => (first | (simp only [List.getElem?_toArray, List.getElem?_cons_zero, List.getElem?_cons_succ]; done) | (simp only [List.getElem?_toArray, List.getElem?_cons_zero, List.getElem?_cons_succ]; exact rfl))
        case q13__2 => exact fun _ _ _ h => h
        case y13__2 => (refine Or.inl ⟨rfl, ?_⟩; intro w hSw; (first | rfl | (go_simp; (try with_reducible rfl))))
        (try simp only [Act.put, List.setIfInBounds_toArray, List.set_cons_zero, List.set_cons_succ])
        refine wpAnyH_take (i := 3) (oi := ?o13__3) (v := .int .i64 k) ?h13__3 (by kernel_rfl) (by kernel_rfl) (by kernel_rfl) ?q13__3 ?y13__3 (by assumption) ?_
        case h13__3 => (first | (simp only [List.getElem?_toArray, List.getElem?_cons_zero, List.getElem?_cons_succ]; done) | (simp only [List.getElem?_toArray, List.getElem?_cons_zero, List.getElem?_cons_succ]; exact rfl))
        case q13__3 => exact fun _ _ _ h => h
        case y13__3 => (refine Or.inl ⟨rfl, ?_⟩; intro w hSw; (first | rfl | (go_simp; (try with_reducible rfl))))
        (try simp only [Act.put, List.setIfInBounds_toArray, List.set_cons_zero, List.set_cons_succ])
        refine wpAnyH_take (i := 4) (oi := ?o13__4) (v := .int .i64 (now + (k : Int))) ?h13__4 (by kernel_rfl) (by kernel_rfl) (by kernel_rfl) ?q13__4 ?y13__4 (by assumption) ?_
        case h13__4 => (first | (simp only [List.getElem?_toArray, List.getElem?_cons_zero, List.getElem?_cons_succ]; done) | (simp only [List.getElem?_toArray, List.getElem?_cons_zero, List.getElem?_cons_succ]; exact rfl))
        case q13__4 => exact fun _ _ _ h => h
        case y13__4 => (refine Or.inl ⟨rfl, ?_⟩; intro w hSw; (go_simp; (first | done | (refine Ri.wr _ ?_ ?_ <;> (have q0 := HT.out; have q1 := HSP.out; have q2 := (hk0 : (0 : Int) ≤ (k : Int)); have q3 := (hk9 : (k : Int) ≤ 255); omega)) | (have q0 := HT.out; have q1 := HSP.out; have q2 := (hk0 : (0 : Int) ≤ (k : Int)); have q3 := (hk9 : (k : Int) ≤ 255); omega) | (have q0 := HT.out; have q1 := HSP.out; have q2 := (hk0 : (0 : Int) ≤ (k : Int)); have q3 := (hk9 : (k : Int) ≤ 255); split <;> omega) | (have q0 := HT.out; have q1 := HSP.out; have q2 := (hk0 : (0 : Int) ≤ (k : Int)); have q3 := (hk9 : (k : Int) ≤ 255); intro hh; omega))))
        (try simp only [Act.put, List.setIfInBounds_toArray, List.set_cons_zero, List.set_cons_succ])
        refine wpAnyH_take (i := 5) (oi := ?o13__5) (v := .pointer (some ⟨w.heap.size, 6, none⟩)) ?h13__5 (by kernel_rfl) (by kernel_rfl) (by kernel_rfl) ?q13__5 ?y13__5 (by assumption) ?_
        case h13__5 => (first | (simp only [List.getElem?_toArray, List.getElem?_cons_zero, List.getElem?_cons_succ]; done) | (simp only [List.getElem?_toArray, List.getElem?_cons_zero, List.getElem?_cons_succ]; exact rfl))
        case q13__5 => exact fun _ _ _ h => h
        case y13__5 => (refine Or.inl ⟨rfl, ?_⟩; intro w hSw; (first | rfl | (go_simp; (try with_reducible rfl))))
        (try simp only [Act.put, List.setIfInBounds_toArray, List.set_cons_zero, List.set_cons_succ])
        refine wpAnyH_take (i := 6) (oi := ?o13__6) (v := .int .i64 c.ho) ?h13__6 (by kernel_rfl) (by kernel_rfl) (by kernel_rfl) ?q13__6 ?y13__6 (by assumption) ?_
        case h13__6 => (first | (simp only [List.getElem?_toArray, List.getElem?_cons_zero, List.getElem?_cons_succ]; done) | (simp only [List.getElem?_toArray, List.getElem?_cons_zero, List.getElem?_cons_succ]; exact rfl))
        case q13__6 => exact fun _ _ _ h => h
        case y13__6 => (refine Or.inl ⟨rfl, ?_⟩; intro w hSw; exact exec_cell 3 _ _ hSw.2.1 rfl rfl rfl Try.underlying3 rfl)
        (try simp only [Act.put, List.setIfInBounds_toArray, List.set_cons_zero, List.set_cons_succ])
        refine wpAnyH_ready (rs := [7]) (by kernel_rfl) (by simp) ?_
        refine AllReadyH.cons (o := ?o13__7) ?h13__7 (fun K hK => ?_) AllReadyH.nil
        case h13__7 => (first | (simp only [List.getElem?_toArray, List.getElem?_cons_zero, List.getElem?_cons_succ]; done) | (simp only [List.getElem?_toArray, List.getElem?_cons_zero, List.getElem?_cons_succ]; exact rfl))
        (try go_simp)
        refine (spanR _ _).mono ?_
        rintro e w' ⟨rfl, rfl⟩
        (try go_wp2_with fail)
        refine hK.out _ _ hHeld (fun hHeld2 => ?_)
        clear hK K hHeld2
        (try simp only [Act.put, List.setIfInBounds_toArray, List.set_cons_zero, List.set_cons_succ])
        refine wpAnyH_take (i := 8) (oi := ?o13__8) (v := .int .i64 (now + (k : Int) + sp c.ho)) ?h13__8 (by kernel_rfl) (by kernel_rfl) (by kernel_rfl) ?q13__8 ?y13__8 (by assumption) ?_
        case h13__8 => (first | (simp only [List.getElem?_toArray, List.getElem?_cons_zero, List.getElem?_cons_succ]; done) | (simp only [List.getElem?_toArray, List.getElem?_cons_zero, List.getElem?_cons_succ]; exact rfl))
        case q13__8 => exact fun _ _ _ h => h
        case y13__8 => (refine Or.inl ⟨rfl, ?_⟩; intro w hSw; (go_simp; (first | done | (refine Ri.wr _ ?_ ?_ <;> (have q0 := HT.out; have q1 := HSP.out; have q2 := (hk0 : (0 : Int) ≤ (k : Int)); have q3 := (hk9 : (k : Int) ≤ 255); omega)) | (have q0 := HT.out; have q1 := HSP.out; have q2 := (hk0 : (0 : Int) ≤ (k : Int)); have q3 := (hk9 : (k : Int) ≤ 255); omega) | (have q0 := HT.out; have q1 := HSP.out; have q2 := (hk0 : (0 : Int) ≤ (k : Int)); have q3 := (hk9 : (k : Int) ≤ 255); split <;> omega) | (have q0 := HT.out; have q1 := HSP.out; have q2 := (hk0 : (0 : Int) ≤ (k : Int)); have q3 := (hk9 : (k : Int) ≤ 255); intro hh; omega))))
        (try simp only [Act.put, List.setIfInBounds_toArray, List.set_cons_zero, List.set_cons_succ])
        refine wpAnyH_take (i := 9) (oi := ?o13__9) (v := .bool false) ?h13__9 (by kernel_rfl) (by kernel_rfl) (by kernel_rfl) ?q13__9 ?y13__9 (by assumption) ?_
        case h13__9 => (first | (simp only [List.getElem?_toArray, List.getElem?_cons_zero, List.getElem?_cons_succ]; done) | (simp only [List.getElem?_toArray, List.getElem?_cons_zero, List.getElem?_cons_succ]; exact rfl))
        case q13__9 => exact fun _ _ _ h => h
        case y13__9 => (refine Or.inl ⟨rfl, ?_⟩; intro w hSw; (go_simp; (try with_reducible rfl)))
        (try simp only [Act.put, List.setIfInBounds_toArray, List.set_cons_zero, List.set_cons_succ])
        refine wpAnyH_take (i := 10) (oi := ?o13__10) (v := .bool false) ?h13__10 (by kernel_rfl) (by kernel_rfl) (by kernel_rfl) ?q13__10 ?y13__10 (by assumption) ?_
        case h13__10 => (first | (simp only [List.getElem?_toArray, List.getElem?_cons_zero, List.getElem?_cons_succ]; done) | (simp only [List.getElem?_toArray, List.getElem?_cons_zero, List.getElem?_cons_succ]; exact rfl))
        case q13__10 => exact fun _ _ _ h => h
        case y13__10 => (refine Or.inl ⟨rfl, ?_⟩; intro w hSw; (first | rfl | (go_simp; (try with_reducible rfl))))
        (try simp only [Act.put, List.setIfInBounds_toArray, List.set_cons_zero, List.set_cons_succ])
        refine wpAnyH_take (i := 11) (oi := ?o13__11) (v := .pointer (some ⟨bn13, 8, none⟩)) ?h13__11 (by kernel_rfl) (by kernel_rfl) (by kernel_rfl) ?q13__11 ?y13__11 (by assumption) ?_
        case h13__11 => (first | (simp only [List.getElem?_toArray, List.getElem?_cons_zero, List.getElem?_cons_succ]; done) | (simp only [List.getElem?_toArray, List.getElem?_cons_zero, List.getElem?_cons_succ]; exact rfl))
        case q13__11 => exact fun _ _ _ h => h
        case y13__11 => (refine Or.inl ⟨rfl, ?_⟩; intro w hSw; (first | rfl | (go_simp; (try with_reducible rfl))))
        (try simp only [Act.put, List.setIfInBounds_toArray, List.set_cons_zero, List.set_cons_succ])
        refine wpAnyH_take (i := 12) (oi := ?o13__12) (v := .int .i64 (g + 1)) ?h13__12 (by kernel_rfl) (by kernel_rfl) (by kernel_rfl) ?q13__12 ?y13__12 (by assumption) ?_
        case h13__12 => (first | (simp only [List.getElem?_toArray, List.getElem?_cons_zero, List.getElem?_cons_succ]; done) | (simp only [List.getElem?_toArray, List.getElem?_cons_zero, List.getElem?_cons_succ]; exact rfl))
        case q13__12 => exact fun _ _ _ h => h
        case y13__12 => (refine Or.inl ⟨rfl, ?_⟩; intro w hSw; exact exec_cell 3 _ _ hSw.2.2.2.2.2 rfl rfl rfl Try.underlying3 rfl)
        (try simp only [Act.put, List.setIfInBounds_toArray, List.set_cons_zero, List.set_cons_succ])
        refine wpAnyH_take (i := 13) (oi := ?o13__13) (v := .int .i64 (g + 1)) ?h13__13 (by kernel_rfl) (by kernel_rfl) (by kernel_rfl) ?q13__13 ?y13__13 (by assumption) ?_
        case h13__13 => (first | (simp only [List.getElem?_toArray, List.getElem?_cons_zero, List.getElem?_cons_succ]; done) | (simp only [List.getElem?_toArray, List.getElem?_cons_zero, List.getElem?_cons_succ]; exact rfl))
        case q13__13 => exact fun _ _ _ h => h
        case y13__13 => (refine Or.inl ⟨rfl, ?_⟩; intro w hSw; (first | rfl | (go_simp; (try with_reducible rfl))))
        (try simp only [Act.put, List.setIfInBounds_toArray, List.set_cons_zero, List.set_cons_succ])
        refine wpAnyH_take (i := 14) (oi := ?o13__14) (v := .bool false) ?h13__14 (by kernel_rfl) (by kernel_rfl) (by kernel_rfl) ?q13__14 ?y13__14 (by assumption) ?_
        case h13__14 => (first | (simp only [List.getElem?_toArray, List.getElem?_cons_zero, List.getElem?_cons_succ]; done) | (simp only [List.getElem?_toArray, List.getElem?_cons_zero, List.getElem?_cons_succ]; exact rfl))
        case q13__14 => exact fun _ _ _ h => h
        case y13__14 => (refine Or.inl ⟨rfl, ?_⟩; intro w hSw; (go_simp; (try with_reducible rfl)))
        (try simp only [Act.put, List.setIfInBounds_toArray, List.set_cons_zero, List.set_cons_succ])
        refine wpAnyH_take (i := 15) (oi := ?o13__15) (v := .bool false) ?h13__15 (by kernel_rfl) (by kernel_rfl) (by kernel_rfl) ?q13__15 ?y13__15 (by assumption) ?_
        case h13__15 => (first | (simp only [List.getElem?_toArray, List.getElem?_cons_zero, List.getElem?_cons_succ]; done) | (simp only [List.getElem?_toArray, List.getElem?_cons_zero, List.getElem?_cons_succ]; exact rfl))
        case q13__15 => exact fun _ _ _ h => h
        case y13__15 => (refine Or.inl ⟨rfl, ?_⟩; intro w hSw; (first | rfl | (go_simp; (try with_reducible rfl))))
        (try simp only [Act.put, List.setIfInBounds_toArray, List.set_cons_zero, List.set_cons_succ])
        refine wpAnyH_done (by kernel_rfl) ?_ _
        have HSd13 := Lib.hid hHeld.1
        have HBCd13 := Lib.hid (hHeld.2.1)
        have HBLd13 := Lib.hid (hHeld.2.2.1)
        have HBXd13 := Lib.hid (hHeld.2.2.2.1)
        have HBm1d13 := Lib.hid (hHeld.2.2.2.2.1)
        have HBn13d13 := Lib.hid (hHeld.2.2.2.2.2)
        clear hHeld HRK HRD HS56 HBC56 HBL56 HBX56 HBm156 HBn1356
        go_upto_region 17 with fail
        refine wp_region_lit ?_
        refine wpList_q (by rfl) (.agg #[.int .i64 l.se, .int .i64 l.fl, .int .i64 l.fm, .int .i64 l.to, .int .i64 l.ma, .int .i64 l.ca, .int .i64 2, .int .i64 (now + (k : Int) + sp c.ho), .int .i64 (g + 1), .int .i64 l.gr]) ?he ?_
        case he => exact exec_load_row 56 _ _ HBn13d13.out rfl rfl Try.underlying56 rfl (by kernel_rfl)
        (try simp only [Act.put, List.setIfInBounds_toArray, List.set_cons_zero, List.set_cons_succ])
        refine wpList_wp (by rfl) (fun K hK => ?_)
        refine wp_st_row 56 _ _ rfl #[.int .i64 l.se, .int .i64 l.fl, .int .i64 l.fm, .int .i64 l.to, .int .i64 l.ma, .int .i64 l.ca, .int .i64 2, .int .i64 (now + (k : Int) + sp c.ho), .int .i64 (g + 1), .int .i64 l.gr] rfl rfl (HasRow.of HBLd13.out rfl) rfl (by simp [cfgA, leaA, carA, msgC, Value.oneCell']) (by kernel_rfl) ?_
        intro w57 hw
        refine hK.out _ _ ?_
        clear hK K
        (try simp only [Act.put, List.setIfInBounds_toArray, List.set_cons_zero, List.set_cons_succ])
        have HS57 := Lib.hid (show Since w w57 by rw [hw]; exact Since.setRow HSd13.out (by have := HNE3.out; omega) _)
        have HBC57 := Lib.hid (show Blk w57 w.heap.size 23 (cfgA c) by rw [hw]; exact Blk.row_far HBCd13.out (by have := HNE3.out; omega) _)
        have HBL57 := Lib.hid (show Blk w57 bL 56 #[.int .i64 l.se, .int .i64 l.fl, .int .i64 l.fm, .int .i64 l.to, .int .i64 l.ma, .int .i64 l.ca, .int .i64 2, .int .i64 (now + (k : Int) + sp c.ho), .int .i64 (g + 1), .int .i64 l.gr] by rw [hw]; exact Blk.row HBLd13.out _)
        have HBX57 := Lib.hid (show Blk w57 bX 76 (carA x) by rw [hw]; exact Blk.row_far HBXd13.out (by have := HNE3.out; omega) _)
        have HBm157 := Lib.hid (show Blk w57 bm1 85 #[.int .i64 4, .int .i64 l.ca, .int .i64 0, .int .i64 0] by rw [hw]; exact Blk.row_far HBm1d13.out HNm1L.out _)
        have HBn1357 := Lib.hid (show Blk w57 bn13 56 #[.int .i64 l.se, .int .i64 l.fl, .int .i64 l.fm, .int .i64 l.to, .int .i64 l.ma, .int .i64 l.ca, .int .i64 2, .int .i64 (now + (k : Int) + sp c.ho), .int .i64 (g + 1), .int .i64 l.gr] by rw [hw]; exact Blk.row_far HBn13d13.out HNn13L.out _)
        clear hw HSd13 HBCd13 HBLd13 HBXd13 HBm1d13 HBn13d13
        refine wpList_nil ?_
        go_wp2_with fail
        go_roundw
        case rel => exact ⟨k + 1, (g + 1), (now + (k : Int) + sp c.ho), by omega, rfl, by go_num, Lib.hid ⟨by have := HG.out; have := HGG.out; have := HRN.out; omega, HS57.out, HBC57.out, HBL57.out, HBX57.out⟩⟩
        case measure => simp [intOf]; omega
      · skip
        have HH := Lib.hid (fun W => show Calls Try.prog 57 #[.agg #[.int .i64 c.ca, .int .i64 c.fl, .int .i64 c.ft, .int .i64 c.se, .int .i64 c.dr, .int .i64 c.dw, .int .i64 c.ho, .int .i64 c.re, .int .i64 c.yi, .int .i64 c.qu, .int .i64 c.qo, .int .i64 c.lo, .int .i64 c.sl, .int .i64 c.rt, .int .i64 c.cp, .int .i64 c.tr, .int .i64 c.de, .int .i64 c.wi], .agg #[.int .i64 l.se, .int .i64 l.fl, .int .i64 l.fm, .int .i64 l.to, .int .i64 l.ma, .int .i64 l.ca, .int .i64 2, .int .i64 u, .int .i64 g, .int .i64 l.gr], .agg #[.int .i64 x.ds, .int .i64 x.da, .int .i64 x.un, .int .i64 x.wy, .int .i64 x.ti, .int .i64 x.ju, .int .i64 x.lo, .bool x.bl, .bool x.br, .int .i64 x.mo, .int .i64 x.ta, .bool x.ho, .int .u64 x.sp, .int .u64 x.su, .int .u64 x.sd], .int .i64 (now + (k : Int)), .agg #[.int .i64 15, .int .i64 0, .int .i64 0, .int .i64 0]] W (Said W ((⟨l.se, l.fl, l.fm, l.to, l.ma, l.ca, 2, u, g, l.gr⟩ : LeaseV), some ⟨7, 2, 0, 0⟩, false)) by have h := hearT c (⟨l.se, l.fl, l.fm, l.to, l.ma, l.ca, 2, u, g, l.gr⟩ : LeaseV) x (now + (k : Int)) ⟨15, 0, 0, 0⟩ W; rw [ren_no c x (⟨l.se, l.fl, l.fm, l.to, l.ma, l.ca, 2, u, g, l.gr⟩ : LeaseV) (now + (k : Int)) rfl hg] at h; exact h)
        have HGG := Lib.hid hg; clear hg
        go_upto_region 8 with fail
        refine wp_region_lit ?_
        refine wpList_q (by rfl) (.agg (cfgA c)) ?he ?_
        case he => exact exec_load_row 23 _ _ HBC53.out rfl rfl Try.underlying23 rfl (by kernel_rfl)
        (try simp only [Act.put, List.setIfInBounds_toArray, List.set_cons_zero, List.set_cons_succ])
        refine wpList_q (by rfl) (.agg #[.int .i64 l.se, .int .i64 l.fl, .int .i64 l.fm, .int .i64 l.to, .int .i64 l.ma, .int .i64 l.ca, .int .i64 2, .int .i64 u, .int .i64 g, .int .i64 l.gr]) ?he ?_
        case he => exact exec_load_row 56 _ _ HBL53.out rfl rfl Try.underlying56 rfl (by kernel_rfl)
        (try simp only [Act.put, List.setIfInBounds_toArray, List.set_cons_zero, List.set_cons_succ])
        refine wpList_q (by rfl) (.agg (carA x)) ?he ?_
        case he => exact exec_load_row 76 _ _ HBX53.out rfl rfl Try.underlying76 rfl (by kernel_rfl)
        (try simp only [Act.put, List.setIfInBounds_toArray, List.set_cons_zero, List.set_cons_succ])
        refine wpList_q (by rfl) (.int .i64 now) ?he ?_
        case he => (first | rfl | (go_simp; (try with_reducible rfl)))
        (try simp only [Act.put, List.setIfInBounds_toArray, List.set_cons_zero, List.set_cons_succ])
        refine wpList_q (by rfl) (.int .i64 k) ?he ?_
        case he => (first | rfl | (go_simp; (try with_reducible rfl)))
        (try simp only [Act.put, List.setIfInBounds_toArray, List.set_cons_zero, List.set_cons_succ])
        refine wpList_q (by rfl) (.int .i64 (now + (k : Int))) ?he ?_
        case he => (go_simp; (first | done | (refine Ri.wr _ ?_ ?_ <;> (have q0 := HT.out; have q1 := (hk0 : (0 : Int) ≤ (k : Int)); have q2 := (hk9 : (k : Int) ≤ 255); omega)) | (have q0 := HT.out; have q1 := (hk0 : (0 : Int) ≤ (k : Int)); have q2 := (hk9 : (k : Int) ≤ 255); omega) | (have q0 := HT.out; have q1 := (hk0 : (0 : Int) ≤ (k : Int)); have q2 := (hk9 : (k : Int) ≤ 255); split <;> omega) | (have q0 := HT.out; have q1 := (hk0 : (0 : Int) ≤ (k : Int)); have q2 := (hk9 : (k : Int) ≤ 255); intro hh; omega)))
        (try simp only [Act.put, List.setIfInBounds_toArray, List.set_cons_zero, List.set_cons_succ])
        refine wpList_q (by rfl) (.agg #[.int .i64 15, .int .i64 0, .int .i64 0, .int .i64 0]) ?he ?_
        case he => kernel_rfl
        (try simp only [Act.put, List.setIfInBounds_toArray, List.set_cons_zero, List.set_cons_succ])
        refine wpList_wp (by rfl) (fun K hK => ?_)
        (try go_simp)
        refine (HH.out _).mono ?_
        rintro e w54 ⟨_, rfl, ⟨bm1, rfl, hge, hB⟩, hb⟩
        (try go_wp2_with fail)
        refine hK.out _ _ ?_
        clear hK K
        (try simp only [Act.put, List.setIfInBounds_toArray, List.set_cons_zero, List.set_cons_succ])
        have HNm1C := Lib.hid (show bm1 ≠ w.heap.size by have := Blk.lt HBC53.out; omega)
        have HNm1L := Lib.hid (show bm1 ≠ bL by have := Blk.lt HBL53.out; omega)
        have HNm1X := Lib.hid (show bm1 ≠ bX by have := Blk.lt HBX53.out; omega)
        have HGm1 := Lib.hid (show w.heap.size ≤ bm1 by have := Since.size HS53.out; omega)
        have HS54 := Lib.hid (Since.trans HS53.out hb)
        have HBC54 := Lib.hid (keep_blk hb HBC53.out)
        have HBL54 := Lib.hid (keep_blk hb HBL53.out)
        have HBX54 := Lib.hid (keep_blk hb HBX53.out)
        clear HS53 HBC53 HBL53 HBX53
        clear hb hge
        have HBm154 := Lib.hid hB
        clear hB
        refine wpList_q (by rfl) (.tuple #[.agg #[.int .i64 l.se, .int .i64 l.fl, .int .i64 l.fm, .int .i64 l.to, .int .i64 l.ma, .int .i64 l.ca, .int .i64 2, .int .i64 u, .int .i64 g, .int .i64 l.gr], .slice (some ⟨bm1, 0, none⟩) 1 1, .bool false]) ?he ?_
        case he => (first | rfl | (go_simp; (try with_reducible rfl)))
        (try simp only [Act.put, List.setIfInBounds_toArray, List.set_cons_zero, List.set_cons_succ])
        refine wpList_q (by rfl) (.agg #[.int .i64 l.se, .int .i64 l.fl, .int .i64 l.fm, .int .i64 l.to, .int .i64 l.ma, .int .i64 l.ca, .int .i64 2, .int .i64 u, .int .i64 g, .int .i64 l.gr]) ?he ?_
        case he => (first | rfl | (go_simp; (try with_reducible rfl)))
        (try simp only [Act.put, List.setIfInBounds_toArray, List.set_cons_zero, List.set_cons_succ])
        refine wpList_q (by rfl) (.slice (some ⟨bm1, 0, none⟩) 1 1) ?he ?_
        case he => (first | rfl | (go_simp; (try with_reducible rfl)))
        (try simp only [Act.put, List.setIfInBounds_toArray, List.set_cons_zero, List.set_cons_succ])
        refine wpList_q (by rfl) (.bool false) ?he ?_
        case he => (first | rfl | (go_simp; (try with_reducible rfl)))
        (try simp only [Act.put, List.setIfInBounds_toArray, List.set_cons_zero, List.set_cons_succ])
        refine wpList_wp (by rfl) (fun K hK => ?_)
        refine wp_new (fun b => .pointer (some ⟨b, 0, none⟩)) 56 #[.int .i64 0, .int .i64 0, .int .i64 0, .int .i64 0, .int .i64 0, .int .i64 0, .int .i64 0, .int .i64 0, .int .i64 0, .int .i64 0] (by rintro b rfl; first | rfl | kernel_rfl) ?_
        intro bn13 w55 hge hB hb
        refine hK.out _ _ ?_
        clear hK K
        (try simp only [Act.put, List.setIfInBounds_toArray, List.set_cons_zero, List.set_cons_succ])
        have HNn13C := Lib.hid (show bn13 ≠ w.heap.size by have := Blk.lt HBC54.out; omega)
        have HNn13L := Lib.hid (show bn13 ≠ bL by have := Blk.lt HBL54.out; omega)
        have HNn13X := Lib.hid (show bn13 ≠ bX by have := Blk.lt HBX54.out; omega)
        have HNn13m1 := Lib.hid (show bn13 ≠ bm1 by have := Blk.lt HBm154.out; omega)
        have HGn13 := Lib.hid (show w.heap.size ≤ bn13 by have := Since.size HS54.out; omega)
        have HS55 := Lib.hid (Since.trans HS54.out hb)
        have HBC55 := Lib.hid (keep_blk hb HBC54.out)
        have HBL55 := Lib.hid (keep_blk hb HBL54.out)
        have HBX55 := Lib.hid (keep_blk hb HBX54.out)
        have HBm155 := Lib.hid (keep_blk hb HBm154.out)
        clear HS54 HBC54 HBL54 HBX54 HBm154
        clear hb hge
        have HBn1355 := Lib.hid hB
        clear hB
        refine wpList_wp (by rfl) (fun K hK => ?_)
        refine wp_st_row 56 _ _ rfl #[.int .i64 l.se, .int .i64 l.fl, .int .i64 l.fm, .int .i64 l.to, .int .i64 l.ma, .int .i64 l.ca, .int .i64 2, .int .i64 u, .int .i64 g, .int .i64 l.gr] rfl rfl (HasRow.of HBn1355.out rfl) rfl (by simp [cfgA, leaA, carA, msgC, Value.oneCell']) (by kernel_rfl) ?_
        intro w56 hw
        refine hK.out _ _ ?_
        clear hK K
        (try simp only [Act.put, List.setIfInBounds_toArray, List.set_cons_zero, List.set_cons_succ])
        have HS56 := Lib.hid (show Since w w56 by rw [hw]; exact Since.setRow HS55.out HGn13.out _)
        have HBC56 := Lib.hid (show Blk w56 w.heap.size 23 (cfgA c) by rw [hw]; exact Blk.row_far HBC55.out (Ne.symm HNn13C.out) _)
        have HBL56 := Lib.hid (show Blk w56 bL 56 #[.int .i64 l.se, .int .i64 l.fl, .int .i64 l.fm, .int .i64 l.to, .int .i64 l.ma, .int .i64 l.ca, .int .i64 2, .int .i64 u, .int .i64 g, .int .i64 l.gr] by rw [hw]; exact Blk.row_far HBL55.out (Ne.symm HNn13L.out) _)
        have HBX56 := Lib.hid (show Blk w56 bX 76 (carA x) by rw [hw]; exact Blk.row_far HBX55.out (Ne.symm HNn13X.out) _)
        have HBm156 := Lib.hid (show Blk w56 bm1 85 #[.int .i64 7, .int .i64 2, .int .i64 0, .int .i64 0] by rw [hw]; exact Blk.row_far HBm155.out (Ne.symm HNn13m1.out) _)
        have HBn1356 := Lib.hid (show Blk w56 bn13 56 #[.int .i64 l.se, .int .i64 l.fl, .int .i64 l.fm, .int .i64 l.to, .int .i64 l.ma, .int .i64 l.ca, .int .i64 2, .int .i64 u, .int .i64 g, .int .i64 l.gr] by rw [hw]; exact Blk.row HBn1355.out _)
        clear hw HS55 HBC55 HBL55 HBX55 HBm155 HBn1355
        refine wpList_q (by rfl) (.slice (some ⟨bm1, 0, none⟩) 1 1) ?he ?_
        case he => (first | rfl | (go_simp; (try with_reducible rfl)))
        (try simp only [Act.put, List.setIfInBounds_toArray, List.set_cons_zero, List.set_cons_succ])
        refine wpList_q (by rfl) (.bool false) ?he ?_
        case he => (first | rfl | (go_simp; (try with_reducible rfl)))
        (try simp only [Act.put, List.setIfInBounds_toArray, List.set_cons_zero, List.set_cons_succ])
        refine wpList_nil ?_
        go_upto_region 9 with fail
        refine wp_region_lit ?_
        refine wpList_q (by rfl) (.bool false) ?he ?_
        case he => (first | rfl | (go_simp; (try with_reducible rfl)))
        (try simp only [Act.put, List.setIfInBounds_toArray, List.set_cons_zero, List.set_cons_succ])
        refine wpList_q (by rfl) (.bool false) ?he ?_
        case he => (first | rfl | (go_simp; (try with_reducible rfl)))
        (try simp only [Act.put, List.setIfInBounds_toArray, List.set_cons_zero, List.set_cons_succ])
        refine wpList_q (by rfl) (.slice (some ⟨bm1, 0, none⟩) 1 1) ?he ?_
        case he => (first | rfl | (go_simp; (try with_reducible rfl)))
        (try simp only [Act.put, List.setIfInBounds_toArray, List.set_cons_zero, List.set_cons_succ])
        refine wpList_q (by rfl) (.int .i64 1) ?he ?_
        case he => (go_simp; (try with_reducible rfl))
        (try simp only [Act.put, List.setIfInBounds_toArray, List.set_cons_zero, List.set_cons_succ])
        refine wpList_q (by rfl) (.bool false) ?he ?_
        case he => (go_simp; (try with_reducible rfl))
        (try simp only [Act.put, List.setIfInBounds_toArray, List.set_cons_zero, List.set_cons_succ])
        refine wpList_q (by rfl) (.bool false) ?he ?_
        case he => (first | rfl | (go_simp; (try with_reducible rfl)))
        (try simp only [Act.put, List.setIfInBounds_toArray, List.set_cons_zero, List.set_cons_succ])
        refine wpList_nil ?_
        go_upto_region 11 with fail
        refine wp_region_lit ?_
        refine wpList_q (by rfl) (.slice (some ⟨bm1, 0, none⟩) 1 1) ?he ?_
        case he => (first | rfl | (go_simp; (try with_reducible rfl)))
        (try simp only [Act.put, List.setIfInBounds_toArray, List.set_cons_zero, List.set_cons_succ])
        refine wpList_q (by rfl) (.pointer (some ⟨bm1, 0, none⟩)) ?he ?_
        case he => (go_simp; (try with_reducible rfl))
        (try simp only [Act.put, List.setIfInBounds_toArray, List.set_cons_zero, List.set_cons_succ])
        refine wpList_q (by rfl) (.pointer (some ⟨bm1, 0, none⟩)) ?he ?_
        case he => (first | rfl | (go_simp; (try with_reducible rfl)))
        (try simp only [Act.put, List.setIfInBounds_toArray, List.set_cons_zero, List.set_cons_succ])
        refine wpList_q (by rfl) (.int .i64 7) ?he ?_
        case he => exact exec_cell 3 _ _ HBm156.out rfl rfl rfl Try.underlying3 rfl
        (try simp only [Act.put, List.setIfInBounds_toArray, List.set_cons_zero, List.set_cons_succ])
        refine wpList_q (by rfl) (.bool false) ?he ?_
        case he => (go_simp; (try with_reducible rfl))
        (try simp only [Act.put, List.setIfInBounds_toArray, List.set_cons_zero, List.set_cons_succ])
        refine wpList_nil ?_
        go_upto_region 15 with fail
        refine wp_region_lit ?_
        refine wpList_q (by rfl) (.agg #[.int .i64 l.se, .int .i64 l.fl, .int .i64 l.fm, .int .i64 l.to, .int .i64 l.ma, .int .i64 l.ca, .int .i64 2, .int .i64 u, .int .i64 g, .int .i64 l.gr]) ?he ?_
        case he => exact exec_load_row 56 _ _ HBn1356.out rfl rfl Try.underlying56 rfl (by kernel_rfl)
        (try simp only [Act.put, List.setIfInBounds_toArray, List.set_cons_zero, List.set_cons_succ])
        refine wpList_q (by rfl) (.agg #[.int .i64 l.se, .int .i64 l.fl, .int .i64 l.fm, .int .i64 l.to, .int .i64 l.ma, .int .i64 l.ca, .int .i64 2, .int .i64 u, .int .i64 g, .int .i64 l.gr]) ?he ?_
        case he => exact exec_load_row 56 _ _ HBL56.out rfl rfl Try.underlying56 rfl (by kernel_rfl)
        (try simp only [Act.put, List.setIfInBounds_toArray, List.set_cons_zero, List.set_cons_succ])
        refine wpList_q (by rfl) (.bool false) ?he ?_
        case he => (go_simp; (try with_reducible rfl))
        (try simp only [Act.put, List.setIfInBounds_toArray, List.set_cons_zero, List.set_cons_succ])
        refine wpList_q (by rfl) (.bool false) ?he ?_
        case he => (first | rfl | (go_simp; (try with_reducible rfl)))
        (try simp only [Act.put, List.setIfInBounds_toArray, List.set_cons_zero, List.set_cons_succ])
        refine wpList_q (by rfl) (.slice (some ⟨bm1, 0, none⟩) 1 1) ?he ?_
        case he => (first | rfl | (go_simp; (try with_reducible rfl)))
        (try simp only [Act.put, List.setIfInBounds_toArray, List.set_cons_zero, List.set_cons_succ])
        refine wpList_q (by rfl) (.pointer (some ⟨bm1, 0, none⟩)) ?he ?_
        case he => (go_simp; (try with_reducible rfl))
        (try simp only [Act.put, List.setIfInBounds_toArray, List.set_cons_zero, List.set_cons_succ])
        refine wpList_q (by rfl) (.agg #[.int .i64 7, .int .i64 2, .int .i64 0, .int .i64 0]) ?he ?_
        case he => exact exec_load_row 85 _ _ HBm156.out rfl rfl Try.underlying85 rfl (by kernel_rfl)
        (try simp only [Act.put, List.setIfInBounds_toArray, List.set_cons_zero, List.set_cons_succ])
        refine wpList_q (by rfl) (.agg #[.int .i64 7, .int .i64 2, .int .i64 0, .int .i64 0]) ?he ?_
        case he => kernel_rfl
        (try simp only [Act.put, List.setIfInBounds_toArray, List.set_cons_zero, List.set_cons_succ])
        refine wpList_q (by rfl) (.bool false) ?he ?_
        case he => (go_simp; (try with_reducible rfl))
        (try simp only [Act.put, List.setIfInBounds_toArray, List.set_cons_zero, List.set_cons_succ])
        refine wpList_q (by rfl) (.bool false) ?he ?_
        case he => (first | rfl | (go_simp; (try with_reducible rfl)))
        (try simp only [Act.put, List.setIfInBounds_toArray, List.set_cons_zero, List.set_cons_succ])
        refine wpList_nil ?_
        go_upto_region 17 with fail
        refine wp_region_lit ?_
        refine wpList_q (by rfl) (.agg #[.int .i64 l.se, .int .i64 l.fl, .int .i64 l.fm, .int .i64 l.to, .int .i64 l.ma, .int .i64 l.ca, .int .i64 2, .int .i64 u, .int .i64 g, .int .i64 l.gr]) ?he ?_
        case he => exact exec_load_row 56 _ _ HBn1356.out rfl rfl Try.underlying56 rfl (by kernel_rfl)
        (try simp only [Act.put, List.setIfInBounds_toArray, List.set_cons_zero, List.set_cons_succ])
        refine wpList_wp (by rfl) (fun K hK => ?_)
        refine wp_st_row 56 _ _ rfl #[.int .i64 l.se, .int .i64 l.fl, .int .i64 l.fm, .int .i64 l.to, .int .i64 l.ma, .int .i64 l.ca, .int .i64 2, .int .i64 u, .int .i64 g, .int .i64 l.gr] rfl rfl (HasRow.of HBL56.out rfl) rfl (by simp [cfgA, leaA, carA, msgC, Value.oneCell']) (by kernel_rfl) ?_
        intro w57 hw
        refine hK.out _ _ ?_
        clear hK K
        (try simp only [Act.put, List.setIfInBounds_toArray, List.set_cons_zero, List.set_cons_succ])
        have HS57 := Lib.hid (show Since w w57 by rw [hw]; exact Since.setRow HS56.out (by have := HNE3.out; omega) _)
        have HBC57 := Lib.hid (show Blk w57 w.heap.size 23 (cfgA c) by rw [hw]; exact Blk.row_far HBC56.out (by have := HNE3.out; omega) _)
        have HBL57 := Lib.hid (show Blk w57 bL 56 #[.int .i64 l.se, .int .i64 l.fl, .int .i64 l.fm, .int .i64 l.to, .int .i64 l.ma, .int .i64 l.ca, .int .i64 2, .int .i64 u, .int .i64 g, .int .i64 l.gr] by rw [hw]; exact Blk.row HBL56.out _)
        have HBX57 := Lib.hid (show Blk w57 bX 76 (carA x) by rw [hw]; exact Blk.row_far HBX56.out (by have := HNE3.out; omega) _)
        have HBm157 := Lib.hid (show Blk w57 bm1 85 #[.int .i64 7, .int .i64 2, .int .i64 0, .int .i64 0] by rw [hw]; exact Blk.row_far HBm156.out HNm1L.out _)
        have HBn1357 := Lib.hid (show Blk w57 bn13 56 #[.int .i64 l.se, .int .i64 l.fl, .int .i64 l.fm, .int .i64 l.to, .int .i64 l.ma, .int .i64 l.ca, .int .i64 2, .int .i64 u, .int .i64 g, .int .i64 l.gr] by rw [hw]; exact Blk.row_far HBn1356.out HNn13L.out _)
        clear hw HS56 HBC56 HBL56 HBX56 HBm156 HBn1356
        refine wpList_nil ?_
        go_wp2_with fail
        go_roundw
        case rel => exact ⟨k + 1, g, u, by omega, rfl, by go_num, Lib.hid ⟨by have := HG.out; have := HGG.out; have := HRN.out; omega, HS57.out, HBC57.out, HBL57.out, HBX57.out⟩⟩
        case measure => simp [intOf]; omega
    · skip
      have HE := Lib.hid (show g = min n (rn c.re) by have := HG.out; omega)
      go_upto_region 18 with fail
      refine wp_region_lit ?_
      refine wpList_wp (by rfl) (fun K hK => ?_)
      (try go_simp)
      refine (ans _).mono ?_
      rintro e w54 ⟨rfl, hb⟩
      (try go_wp2_with fail)
      refine hK.out _ _ ?_
      clear hK K
      (try simp only [Act.put, List.setIfInBounds_toArray, List.set_cons_zero, List.set_cons_succ])
      have HS54 := Lib.hid (Since.trans HS53.out hb)
      have HBC54 := Lib.hid (keep_blk hb HBC53.out)
      have HBL54 := Lib.hid (keep_blk hb HBL53.out)
      have HBX54 := Lib.hid (keep_blk hb HBX53.out)
      clear HS53 HBC53 HBL53 HBX53
      clear hb
      refine wpList_q (by rfl) (.bool true) ?he ?_
      case he => (first | rfl | (go_simp; (try with_reducible rfl)))
      (try simp only [Act.put, List.setIfInBounds_toArray, List.set_cons_zero, List.set_cons_succ])
      refine wpList_q (by rfl) (.int .i64 g) ?he ?_
      case he => (first | rfl | (go_simp; (try with_reducible rfl)))
      (try simp only [Act.put, List.setIfInBounds_toArray, List.set_cons_zero, List.set_cons_succ])
      refine wpList_q (by rfl) (.int .u8 n) ?he ?_
      case he => (first | rfl | (go_simp; (try with_reducible rfl)))
      (try simp only [Act.put, List.setIfInBounds_toArray, List.set_cons_zero, List.set_cons_succ])
      refine wpList_q (by rfl) (.int .i64 n) ?he ?_
      case he => (go_simp; (first | done | (refine Ri.wr _ ?_ ?_ <;> (have q0 := (hn0 : 0 ≤ n); have q1 := (hn1 : n ≤ 255); omega)) | (have q0 := (hn0 : 0 ≤ n); have q1 := (hn1 : n ≤ 255); omega) | (have q0 := (hn0 : 0 ≤ n); have q1 := (hn1 : n ≤ 255); split <;> omega) | (have q0 := (hn0 : 0 ≤ n); have q1 := (hn1 : n ≤ 255); intro hh; omega)))
      (try simp only [Act.put, List.setIfInBounds_toArray, List.set_cons_zero, List.set_cons_succ])
      refine wpList_q (by rfl) (.agg (cfgA c)) ?he ?_
      case he => exact exec_load_row 23 _ _ HBC54.out rfl rfl Try.underlying23 rfl (by kernel_rfl)
      (try simp only [Act.put, List.setIfInBounds_toArray, List.set_cons_zero, List.set_cons_succ])
      refine wpList_wp (by rfl) (fun K hK => ?_)
      (try go_simp)
      refine (renR c _).mono ?_
      rintro e w55 ⟨rfl, hb⟩
      (try go_wp2_with fail)
      refine hK.out _ _ ?_
      clear hK K
      (try simp only [Act.put, List.setIfInBounds_toArray, List.set_cons_zero, List.set_cons_succ])
      have HS55 := Lib.hid (Since.trans HS54.out hb)
      have HBC55 := Lib.hid (keep_blk hb HBC54.out)
      have HBL55 := Lib.hid (keep_blk hb HBL54.out)
      have HBX55 := Lib.hid (keep_blk hb HBX54.out)
      clear HS54 HBC54 HBL54 HBX54
      clear hb
      refine wpList_q (by rfl) (.int .i64 g) ?he ?_
      case he => (rw [HE.out]; go_simp; (first | done | (split <;> omega) | omega))
      (try simp only [Act.put, List.setIfInBounds_toArray, List.set_cons_zero, List.set_cons_succ])
      refine wpList_q (by rfl) (.bool true) ?he ?_
      case he => (go_simp; (try with_reducible rfl))
      (try simp only [Act.put, List.setIfInBounds_toArray, List.set_cons_zero, List.set_cons_succ])
      refine wpList_q (by rfl) (.bool true) ?he ?_
      case he => (first | rfl | (go_simp; (try with_reducible rfl)))
      (try simp only [Act.put, List.setIfInBounds_toArray, List.set_cons_zero, List.set_cons_succ])
      refine wpList_q (by rfl) (.bool true) ?he ?_
      case he => (first | rfl | (go_simp; (try with_reducible rfl)))
      (try simp only [Act.put, List.setIfInBounds_toArray, List.set_cons_zero, List.set_cons_succ])
      refine wpList_nil ?_
      (try go_wp2_with fail)
      go_ret
      exact ⟨rfl, HS55.out⟩
theorem renewsA (c : CfgV) (l : LeaseV) (x : CarV) (now n : Int) (hn0 : 0 ≤ n) (hn1 : n ≤ 255) (w : World) : Calls Try.prog 15 #[.agg #[.int .i64 c.ca, .int .i64 c.fl, .int .i64 c.ft, .int .i64 c.se, .int .i64 c.dr, .int .i64 c.dw, .int .i64 c.ho, .int .i64 c.re, .int .i64 c.yi, .int .i64 c.qu, .int .i64 c.qo, .int .i64 c.lo, .int .i64 c.sl, .int .i64 c.rt, .int .i64 c.cp, .int .i64 c.tr, .int .i64 c.de, .int .i64 c.wi], .agg #[.int .i64 l.se, .int .i64 l.fl, .int .i64 l.fm, .int .i64 l.to, .int .i64 l.ma, .int .i64 l.ca, .int .i64 l.ph, .int .i64 l.un, .int .i64 l.re, .int .i64 l.gr], .agg #[.int .i64 x.ds, .int .i64 x.da, .int .i64 x.un, .int .i64 x.wy, .int .i64 x.ti, .int .i64 x.ju, .int .i64 x.lo, .bool x.bl, .bool x.br, .int .i64 x.mo, .int .i64 x.ta, .bool x.ho, .int .u64 x.sp, .int .u64 x.su, .int .u64 x.sd], .int .i64 now, .int .u8 n] w fun e w' => e = .returned (.bool true) ∧ Since w w' := by
  by_cases h0 : now < 0
  · exact renX0 c l x now n h0 w
  · by_cases h1 : 1073741824 < now
    · exact renX1 c l x now n h0 h1 w
    · exact renews c l x now n hn0 hn1 h0 h1 w
theorem renF (cca : Int) (cfl : Int) (cft : Int) (cse : Int) (cdr : Int) (cdw : Int) (cho : Int) (cre : Int) (cyi : Int) (cqu : Int) (cqo : Int) (clo : Int) (csl : Int) (crt : Int) (ccp : Int) (ctr : Int) (cde : Int) (cwi : Int) (lse : Int) (lfl : Int) (lfm : Int) (lto : Int) (lma : Int) (lca : Int) (lph : Int) (lun : Int) (lre : Int) (lgr : Int) (xds : Int) (xda : Int) (xun : Int) (xwy : Int) (xti : Int) (xju : Int) (xlo : Int) (xbl : Bool) (xbr : Bool) (xmo : Int) (xta : Int) (xho : Bool) (xsp : Int) (xsu : Int) (xsd : Int) (now n : Int) (w : World) (_ : (Lit.int .i64 cca).wf = true) (_ : (Lit.int .i64 cfl).wf = true) (_ : (Lit.int .i64 cft).wf = true) (_ : (Lit.int .i64 cse).wf = true) (_ : (Lit.int .i64 cdr).wf = true) (_ : (Lit.int .i64 cdw).wf = true) (_ : (Lit.int .i64 cho).wf = true) (_ : (Lit.int .i64 cre).wf = true) (_ : (Lit.int .i64 cyi).wf = true) (_ : (Lit.int .i64 cqu).wf = true) (_ : (Lit.int .i64 cqo).wf = true) (_ : (Lit.int .i64 clo).wf = true) (_ : (Lit.int .i64 csl).wf = true) (_ : (Lit.int .i64 crt).wf = true) (_ : (Lit.int .i64 ccp).wf = true) (_ : (Lit.int .i64 ctr).wf = true) (_ : (Lit.int .i64 cde).wf = true) (_ : (Lit.int .i64 cwi).wf = true) (_ : (Lit.int .i64 lse).wf = true) (_ : (Lit.int .i64 lfl).wf = true) (_ : (Lit.int .i64 lfm).wf = true) (_ : (Lit.int .i64 lto).wf = true) (_ : (Lit.int .i64 lma).wf = true) (_ : (Lit.int .i64 lca).wf = true) (_ : (Lit.int .i64 lph).wf = true) (_ : (Lit.int .i64 lun).wf = true) (_ : (Lit.int .i64 lre).wf = true) (_ : (Lit.int .i64 lgr).wf = true) (_ : (Lit.int .i64 xds).wf = true) (_ : (Lit.int .i64 xda).wf = true) (_ : (Lit.int .i64 xun).wf = true) (_ : (Lit.int .i64 xwy).wf = true) (_ : (Lit.int .i64 xti).wf = true) (_ : (Lit.int .i64 xju).wf = true) (_ : (Lit.int .i64 xlo).wf = true) (_ : (Lit.int .i64 xmo).wf = true) (_ : (Lit.int .i64 xta).wf = true) (_ : (Lit.int .u64 xsp).wf = true) (_ : (Lit.int .u64 xsu).wf = true) (_ : (Lit.int .u64 xsd).wf = true) (_ : (Lit.int .i64 now).wf = true) (hn : (Lit.int .u8 n).wf = true) : Calls Try.prog 15 #[.agg #[.int .i64 cca, .int .i64 cfl, .int .i64 cft, .int .i64 cse, .int .i64 cdr, .int .i64 cdw, .int .i64 cho, .int .i64 cre, .int .i64 cyi, .int .i64 cqu, .int .i64 cqo, .int .i64 clo, .int .i64 csl, .int .i64 crt, .int .i64 ccp, .int .i64 ctr, .int .i64 cde, .int .i64 cwi], .agg #[.int .i64 lse, .int .i64 lfl, .int .i64 lfm, .int .i64 lto, .int .i64 lma, .int .i64 lca, .int .i64 lph, .int .i64 lun, .int .i64 lre, .int .i64 lgr], .agg #[.int .i64 xds, .int .i64 xda, .int .i64 xun, .int .i64 xwy, .int .i64 xti, .int .i64 xju, .int .i64 xlo, .bool xbl, .bool xbr, .int .i64 xmo, .int .i64 xta, .bool xho, .int .u64 xsp, .int .u64 xsu, .int .u64 xsd], .int .i64 now, .int .u8 n] w fun e w' => e = .returned (.bool true) ∧ Since w w' := by
  have h := bounds_u8 hn
  exact renewsA ⟨cca, cfl, cft, cse, cdr, cdw, cho, cre, cyi, cqu, cqo, clo, csl, crt, ccp, ctr, cde, cwi⟩ ⟨lse, lfl, lfm, lto, lma, lca, lph, lun, lre, lgr⟩ ⟨xds, xda, xun, xwy, xti, xju, xlo, xbl, xbr, xmo, xta, xho, xsp, xsu, xsd⟩ now n (by omega) (by omega) w
end Go.Proofs.Ytggafipgfgbbiaa.Ri
