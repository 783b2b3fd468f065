/-
  the law's answers; LeaseTimes, LeaseNone: walked.
  Conditions: what stands ahead of each.
-/
import Derived.Test.YtggafipgfgbbiaaProg
import Derived.Test.YtggafipgfgbbiaaLseC
import Derived.Test.YtggafipgfgbbiaaRidB
namespace Go.Proofs.Ytggafipgfgbbiaa.Le
set_option linter.unusedVariables false
set_option linter.unusedSimpArgs false
open Go.RowKit Go.Proofs.Ytggafipgfgbbiaa.Ba Go.Proofs.Ytggafipgfgbbiaa.Mem Go.Proofs.Ytggafipgfgbbiaa.Ty
open Go.Proofs.Ytggafipgfgbbiaa.Ls (LV leaC)
open Go.Proofs.Ytggafipgfgbbiaa.Fl (mayB btw cnt)
set_option maxRecDepth 100000
attribute [local irreducible] Go.wpList
open Go.Proofs.Ytggafipgfgbbiaa.Ri (sp spanT spanR trV tripT tripR)
def kC : CfgV := ⟨0, 5, 2, 4, 2, 0, 0, 0, 0, 0, 1, 300, 0, 0, 0, 0, 0, 0⟩
def oneV : LeaseV := ⟨0, 0, 0, 1, 5, 0, 1, 0, 0, 0⟩
theorem spanV (n v : Int) (w : World) (h : sp n = v) : Calls Try.prog 45 #[.int .i64 n] w fun e w' => e = .returned (.int .i64 v) ∧ w = w' := by subst h; exact spanT n w
theorem tripV (c : CfgV) (v : Int) (w : World) (h : trV c = v) : Calls Try.prog 43 #[.agg #[.int .i64 c.ca, .int .i64 c.fl, .int .i64 c.ft, .int .i64 c.se, .int .i64 c.dr, .int .i64 c.dw, .int .i64 c.ho, .int .i64 c.re, .int .i64 c.yi, .int .i64 c.qu, .int .i64 c.qo, .int .i64 c.lo, .int .i64 c.sl, .int .i64 c.rt, .int .i64 c.cp, .int .i64 c.tr, .int .i64 c.de, .int .i64 c.wi]] w fun e w' => e = .returned (.int .i64 v) ∧ Since w w' := by subst h; exact tripT c w
set_option maxHeartbeats 4000000 in
theorem configT (w : World) : Calls Try.prog 47 #[] w fun e w' => e = .returned (.agg #[.int .i64 0, .int .i64 5, .int .i64 2, .int .i64 4, .int .i64 2, .int .i64 0, .int .i64 0, .int .i64 0, .int .i64 0, .int .i64 0, .int .i64 1, .int .i64 300, .int .i64 0, .int .i64 0, .int .i64 0, .int .i64 0, .int .i64 0, .int .i64 0]) ∧ Since w w' := by
  go_enter Try.func47, Try.ntmps47
  go_upto_region 1 with fail
  obtain ⟨w1, hw1⟩ : ∃ w1, w1 = (w.alloc (.cells #[.int .i64 0, .int .i64 0, .int .i64 0, .int .i64 0, .int .i64 0, .int .i64 0, .int .i64 0, .int .i64 0, .int .i64 0, .int .i64 0, .int .i64 0, .int .i64 0, .int .i64 0, .int .i64 0, .int .i64 0, .int .i64 0, .int .i64 0, .int .i64 0] 23)) := ⟨_, rfl⟩
  rw [← hw1]
  have HBR1 := Lib.hid (show Blk w1 (w.heap.size) 23 #[.int .i64 0, .int .i64 0, .int .i64 0, .int .i64 0, .int .i64 0, .int .i64 0, .int .i64 0, .int .i64 0, .int .i64 0, .int .i64 0, .int .i64 0, .int .i64 0, .int .i64 0, .int .i64 0, .int .i64 0, .int .i64 0, .int .i64 0, .int .i64 0] by rw [hw1]; exact Blk.at_ (by (try simp only [size_alloc])) _ _)
  have HS1 := Lib.hid (show Since w w1 by rw [hw1]; exact Since.alloc (Since.refl w) _)
  have hNE : w.heap.size ≤ w.heap.size := by omega
  have HNE := Lib.hid hNE
  clear hNE hw1
  have HNE3 := Lib.hid (show w.heap.size ≤ w.heap.size from HNE.out)
  clear HNE
  refine wp_region_lit ?_
  refine wpList_q (by rfl) (.agg #[.int .i64 0, .int .i64 5, .int .i64 2, .int .i64 4, .int .i64 2, .int .i64 0, .int .i64 0, .int .i64 0, .int .i64 0, .int .i64 0, .int .i64 1, .int .i64 300, .int .i64 0, .int .i64 0, .int .i64 0, .int .i64 0, .int .i64 0, .int .i64 0]) ?he ?_
  case he => kernel_rfl
  (try simp only [Act.put, sA, sB, sC])
  refine wpList_wp (by rfl) (fun K hK => ?_)
  refine wp_st_row 23 _ _ rfl #[.int .i64 0, .int .i64 5, .int .i64 2, .int .i64 4, .int .i64 2, .int .i64 0, .int .i64 0, .int .i64 0, .int .i64 0, .int .i64 0, .int .i64 1, .int .i64 300, .int .i64 0, .int .i64 0, .int .i64 0, .int .i64 0, .int .i64 0, .int .i64 0] rfl rfl (HasRow.of HBR1.out rfl) rfl (by simp [Value.oneCell']) (by kernel_rfl) ?_
  intro w2 hw
  refine hK.out _ _ ?_
  clear hK K
  (try simp only [Act.put, sA, sB, sC])
  have HS2 := Lib.hid (show Since w w2 by rw [hw]; exact Since.setRow HS1.out (by have := HNE3.out; omega) _)
  have HBR2 := Lib.hid (show Blk w2 w.heap.size 23 #[.int .i64 0, .int .i64 5, .int .i64 2, .int .i64 4, .int .i64 2, .int .i64 0, .int .i64 0, .int .i64 0, .int .i64 0, .int .i64 0, .int .i64 1, .int .i64 300, .int .i64 0, .int .i64 0, .int .i64 0, .int .i64 0, .int .i64 0, .int .i64 0] by rw [hw]; exact Blk.row HBR1.out _)
  clear hw HS1 HBR1
  refine wpList_nil ?_
  (try go_wp2_with fail)
  exact bodyPost_ret (results_cell_row rfl _ _ w.heap.size 23 #[.int .i64 0, .int .i64 5, .int .i64 2, .int .i64 4, .int .i64 2, .int .i64 0, .int .i64 0, .int .i64 0, .int .i64 0, .int .i64 0, .int .i64 1, .int .i64 300, .int .i64 0, .int .i64 0, .int .i64 0, .int .i64 0, .int .i64 0, .int .i64 0] (0, 0) _ rfl HBR2.out Try.underlying23 rfl (by kernel_rfl)) rfl ⟨rfl, HS2.out⟩
set_option maxHeartbeats 4000000 in
theorem oneT (w : World) : Calls Try.prog 48 #[] w fun e w' => e = .returned (.agg #[.int .i64 0, .int .i64 0, .int .i64 0, .int .i64 1, .int .i64 5, .int .i64 0, .int .i64 1, .int .i64 0, .int .i64 0, .int .i64 0]) ∧ Since w w' := by
  go_enter Try.func48, Try.ntmps48
  go_upto_region 1 with fail
  obtain ⟨w1, hw1⟩ : ∃ w1, w1 = (w.alloc (.cells #[.int .i64 0, .int .i64 0, .int .i64 0, .int .i64 0, .int .i64 0, .int .i64 0, .int .i64 0, .int .i64 0, .int .i64 0, .int .i64 0] 56)) := ⟨_, rfl⟩
  rw [← hw1]
  have HBR1 := Lib.hid (show Blk w1 (w.heap.size) 56 #[.int .i64 0, .int .i64 0, .int .i64 0, .int .i64 0, .int .i64 0, .int .i64 0, .int .i64 0, .int .i64 0, .int .i64 0, .int .i64 0] by rw [hw1]; exact Blk.at_ (by (try simp only [size_alloc])) _ _)
  have HS1 := Lib.hid (show Since w w1 by rw [hw1]; exact Since.alloc (Since.refl w) _)
  have hNE : w.heap.size ≤ w.heap.size := by omega
  have HNE := Lib.hid hNE
  clear hNE hw1
  have HNE3 := Lib.hid (show w.heap.size ≤ w.heap.size from HNE.out)
  clear HNE
  refine wp_region_lit ?_
  refine wpList_q (by rfl) (.agg #[.int .i64 0, .int .i64 0, .int .i64 0, .int .i64 1, .int .i64 5]) ?he ?_
  case he => kernel_rfl
  (try simp only [Act.put, sA, sB, sC])
  refine wpList_q (by rfl) (.agg #[.int .i64 0, .int .i64 0, .int .i64 0, .int .i64 1, .int .i64 5, .int .i64 0, .int .i64 1, .int .i64 0, .int .i64 0, .int .i64 0]) ?he ?_
  case he => kernel_rfl
  (try simp only [Act.put, sA, sB, sC])
  refine wpList_wp (by rfl) (fun K hK => ?_)
  refine wp_st_row 56 _ _ rfl #[.int .i64 0, .int .i64 0, .int .i64 0, .int .i64 1, .int .i64 5, .int .i64 0, .int .i64 1, .int .i64 0, .int .i64 0, .int .i64 0] rfl rfl (HasRow.of HBR1.out rfl) rfl (by simp [Value.oneCell']) (by kernel_rfl) ?_
  intro w2 hw
  refine hK.out _ _ ?_
  clear hK K
  (try simp only [Act.put, sA, sB, sC])
  have HS2 := Lib.hid (show Since w w2 by rw [hw]; exact Since.setRow HS1.out (by have := HNE3.out; omega) _)
  have HBR2 := Lib.hid (show Blk w2 w.heap.size 56 #[.int .i64 0, .int .i64 0, .int .i64 0, .int .i64 1, .int .i64 5, .int .i64 0, .int .i64 1, .int .i64 0, .int .i64 0, .int .i64 0] by rw [hw]; exact Blk.row HBR1.out _)
  clear hw HS1 HBR1
  refine wpList_nil ?_
  (try go_wp2_with fail)
  exact bodyPost_ret (results_cell_row rfl _ _ w.heap.size 56 #[.int .i64 0, .int .i64 0, .int .i64 0, .int .i64 1, .int .i64 5, .int .i64 0, .int .i64 1, .int .i64 0, .int .i64 0, .int .i64 0] (0, 0) _ rfl HBR2.out Try.underlying56 rfl (by kernel_rfl)) rfl ⟨rfl, HS2.out⟩
set_option maxHeartbeats 4000000 in
theorem setNil (l : LeaseV) (w : World) : Calls Try.prog 36 #[.pointer none, .agg #[.int .i64 l.se, .int .i64 l.fl, .int .i64 l.fm, .int .i64 l.to, .int .i64 l.ma, .int .i64 l.ca, .int .i64 l.ph, .int .i64 l.un, .int .i64 l.re, .int .i64 l.gr]] w fun e w' => e = .returned (.int .i64 1) ∧ Since w w' := by
  go_enter Try.func36, Try.ntmps36
  go_upto_region 1 with fail
  obtain ⟨w1, hw1⟩ : ∃ w1, w1 = (w.alloc (.cells #[.int .i64 l.se, .int .i64 l.fl, .int .i64 l.fm, .int .i64 l.to, .int .i64 l.ma, .int .i64 l.ca, .int .i64 l.ph, .int .i64 l.un, .int .i64 l.re, .int .i64 l.gr] 56)) := ⟨_, rfl⟩
  rw [← hw1]
  have HBL1 := Lib.hid (show Blk w1 (w.heap.size) 56 #[.int .i64 l.se, .int .i64 l.fl, .int .i64 l.fm, .int .i64 l.to, .int .i64 l.ma, .int .i64 l.ca, .int .i64 l.ph, .int .i64 l.un, .int .i64 l.re, .int .i64 l.gr] by rw [hw1]; exact Blk.at_ (by (try simp only [size_alloc])) _ _)
  have HS1 := Lib.hid (show Since w w1 by rw [hw1]; exact Since.alloc (Since.refl w) _)
  have hNE : w.heap.size ≤ w.heap.size := by omega
  have HNE := Lib.hid hNE
  clear hNE hw1
  have HNE3 := Lib.hid (show w.heap.size ≤ w.heap.size from HNE.out)
  clear HNE
  refine wp_region_lit ?_
  refine wpList_q (by rfl) (.pointer none) ?he ?_
  case he => (first | rfl | (go_simp; (try with_reducible rfl)))
  (try simp only [Act.put, sA, sB, sC])
  refine wpList_q (by rfl) (.agg #[.int .i64 l.se, .int .i64 l.fl, .int .i64 l.fm, .int .i64 l.to, .int .i64 l.ma, .int .i64 l.ca, .int .i64 l.ph, .int .i64 l.un, .int .i64 l.re, .int .i64 l.gr]) ?he ?_
  case he => exact exec_load_row 56 _ _ HBL1.out rfl rfl Try.underlying56 rfl (by kernel_rfl)
  (try simp only [Act.put, sA, sB, sC])
  refine wpList_wp (by rfl) (fun K hK => ?_)
  (try go_simp)
  refine (goodNil l _).mono ?_
  rintro e w2 ⟨rfl, hb⟩
  (try go_wp2_with fail)
  refine hK.out _ _ ?_
  clear hK K
  (try simp only [Act.put, sA, sB, sC])
  have HS2 := Lib.hid (Since.trans HS1.out hb)
  have HBL2 := Lib.hid (keep_blk hb HBL1.out)
  clear HS1 HBL1
  clear hb
  refine wpList_q (by rfl) (.bool true) ?he ?_
  case he => (go_simp; (try with_reducible rfl))
  (try simp only [Act.put, sA, sB, sC])
  refine wpList_nil ?_
  go_upto_region 2 with fail
  refine wp_region_lit ?_
  refine wpList_q (by rfl) (.int .i64 1) ?he ?_
  case he => (first | rfl | (go_simp; (try with_reducible rfl)))
  (try simp only [Act.put, sA, sB, sC])
  refine wpList_nil ?_
  (try go_wp2_with fail)
  go_ret
  exact ⟨rfl, HS2.out⟩
set_option maxHeartbeats 4000000 in
theorem endNil (s : Int) (w : World) : Calls Try.prog 37 #[.pointer none, .int .i64 s] w fun e w' => e = .returned (.tuple #[.agg #[.int .i64 0, .int .i64 0, .int .i64 0, .int .i64 0, .int .i64 0, .int .i64 0, .int .i64 0, .int .i64 0, .int .i64 0, .int .i64 0], .bool false]) ∧ Since w w' := by
  go_enter Try.func37, Try.ntmps37
  go_upto_region 1 with fail
  obtain ⟨w1, hw1⟩ : ∃ w1, w1 = (w.alloc (.cells #[.int .i64 0, .int .i64 0, .int .i64 0, .int .i64 0, .int .i64 0, .int .i64 0, .int .i64 0, .int .i64 0, .int .i64 0, .int .i64 0] 56)) := ⟨_, rfl⟩
  rw [← hw1]
  have HBR1 := Lib.hid (show Blk w1 (w.heap.size) 56 #[.int .i64 0, .int .i64 0, .int .i64 0, .int .i64 0, .int .i64 0, .int .i64 0, .int .i64 0, .int .i64 0, .int .i64 0, .int .i64 0] by rw [hw1]; exact Blk.at_ (by (try simp only [size_alloc])) _ _)
  have HS1 := Lib.hid (show Since w w1 by rw [hw1]; exact Since.alloc (Since.refl w) _)
  have hNE : w.heap.size ≤ w.heap.size := by omega
  have HNE := Lib.hid hNE
  clear hNE hw1
  have HNE3 := Lib.hid (show w.heap.size ≤ w.heap.size from HNE.out)
  clear HNE
  refine wp_region_lit ?_
  refine wpList_q (by rfl) (.pointer none) ?he ?_
  case he => (first | rfl | (go_simp; (try with_reducible rfl)))
  (try simp only [Act.put, sA, sB, sC])
  refine wpList_q (by rfl) (.int .i64 s) ?he ?_
  case he => (first | rfl | (go_simp; (try with_reducible rfl)))
  (try simp only [Act.put, sA, sB, sC])
  refine wpList_wp (by rfl) (fun K hK => ?_)
  (try go_simp)
  refine (ofNil s _).mono ?_
  rintro e w2 ⟨rfl, hb⟩
  (try go_wp2_with fail)
  refine hK.out _ _ ?_
  clear hK K
  (try simp only [Act.put, sA, sB, sC])
  have HS2 := Lib.hid (Since.trans HS1.out hb)
  have HBR2 := Lib.hid (keep_blk hb HBR1.out)
  clear HS1 HBR1
  clear hb
  refine wpList_q (by rfl) (.int .i64 (-1)) ?he ?_
  case he => (first | rfl | (go_simp; (try with_reducible rfl)))
  (try simp only [Act.put, sA, sB, sC])
  refine wpList_nil ?_
  go_upto_region 2 with fail
  refine wp_region_lit ?_
  refine wpList_q (by rfl) (.pointer none) ?he ?_
  case he => (first | rfl | (go_simp; (try with_reducible rfl)))
  (try simp only [Act.put, sA, sB, sC])
  refine wpList_q (by rfl) (.int .i64 (-1)) ?he ?_
  case he => (first | rfl | (go_simp; (try with_reducible rfl)))
  (try simp only [Act.put, sA, sB, sC])
  refine wpList_wp (by rfl) (fun K hK => ?_)
  (try go_simp)
  refine (atNil _).mono ?_
  rintro e w3 ⟨rfl, hb⟩
  (try go_wp2_with fail)
  refine hK.out _ _ ?_
  clear hK K
  (try simp only [Act.put, sA, sB, sC])
  have HS3 := Lib.hid (Since.trans HS2.out hb)
  have HBR3 := Lib.hid (keep_blk hb HBR2.out)
  clear HS2 HBR2
  clear hb
  refine wpList_q (by rfl) (.tuple #[.agg #[.int .i64 0, .int .i64 0, .int .i64 0, .int .i64 0, .int .i64 0, .int .i64 0, .int .i64 0, .int .i64 0, .int .i64 0, .int .i64 0], .bool false]) ?he ?_
  case he => (first | rfl | (go_simp; (try with_reducible rfl)))
  (try simp only [Act.put, sA, sB, sC])
  refine wpList_q (by rfl) (.agg #[.int .i64 0, .int .i64 0, .int .i64 0, .int .i64 0, .int .i64 0, .int .i64 0, .int .i64 0, .int .i64 0, .int .i64 0, .int .i64 0]) ?he ?_
  case he => (first | rfl | (go_simp; (try with_reducible rfl)))
  (try simp only [Act.put, sA, sB, sC])
  refine wpList_q (by rfl) (.bool false) ?he ?_
  case he => (first | rfl | (go_simp; (try with_reducible rfl)))
  (try simp only [Act.put, sA, sB, sC])
  refine wpList_wp (by rfl) (fun K hK => ?_)
  refine wp_new (fun b => .pointer (some ⟨b, 0, none⟩)) 56 #[.int .i64 0, .int .i64 0, .int .i64 0, .int .i64 0, .int .i64 0, .int .i64 0, .int .i64 0, .int .i64 0, .int .i64 0, .int .i64 0] (by rintro b rfl; first | rfl | kernel_rfl) ?_
  intro bn7 w4 hge hB hb
  refine hK.out _ _ ?_
  clear hK K
  (try simp only [Act.put, sA, sB, sC])
  have HNn7R := Lib.hid (show bn7 ≠ w.heap.size by have := Blk.lt HBR3.out; omega)
  have HGn7 := Lib.hid (show w.heap.size ≤ bn7 by have := Since.size HS3.out; omega)
  have HS4 := Lib.hid (Since.trans HS3.out hb)
  have HBR4 := Lib.hid (keep_blk hb HBR3.out)
  clear HS3 HBR3
  clear hb hge
  have HBn74 := Lib.hid hB
  clear hB
  refine wpList_wp (by rfl) (fun K hK => ?_)
  refine wp_st_row 56 _ _ rfl #[.int .i64 0, .int .i64 0, .int .i64 0, .int .i64 0, .int .i64 0, .int .i64 0, .int .i64 0, .int .i64 0, .int .i64 0, .int .i64 0] rfl rfl (HasRow.of HBn74.out rfl) rfl (by simp [Value.oneCell']) (by kernel_rfl) ?_
  intro w5 hw
  refine hK.out _ _ ?_
  clear hK K
  (try simp only [Act.put, sA, sB, sC])
  have HS5 := Lib.hid (show Since w w5 by rw [hw]; exact Since.setRow HS4.out HGn7.out _)
  have HBR5 := Lib.hid (show Blk w5 w.heap.size 56 #[.int .i64 0, .int .i64 0, .int .i64 0, .int .i64 0, .int .i64 0, .int .i64 0, .int .i64 0, .int .i64 0, .int .i64 0, .int .i64 0] by rw [hw]; exact Blk.row_far HBR4.out (Ne.symm HNn7R.out) _)
  have HBn75 := Lib.hid (show Blk w5 bn7 56 #[.int .i64 0, .int .i64 0, .int .i64 0, .int .i64 0, .int .i64 0, .int .i64 0, .int .i64 0, .int .i64 0, .int .i64 0, .int .i64 0] by rw [hw]; exact Blk.row HBn74.out _)
  clear hw HS4 HBR4 HBn74
  refine wpList_q (by rfl) (.bool false) ?he ?_
  case he => (first | rfl | (go_simp; (try with_reducible rfl)))
  (try simp only [Act.put, sA, sB, sC])
  refine wpList_nil ?_
  go_upto_region 3 with fail
  refine wp_region_lit ?_
  refine wpList_q (by rfl) (.bool false) ?he ?_
  case he => (first | rfl | (go_simp; (try with_reducible rfl)))
  (try simp only [Act.put, sA, sB, sC])
  refine wpList_nil ?_
  go_upto_region 5 with fail
  refine wp_region_lit ?_
  refine wpList_q (by rfl) (.agg #[.int .i64 0, .int .i64 0, .int .i64 0, .int .i64 0, .int .i64 0, .int .i64 0, .int .i64 0, .int .i64 0, .int .i64 0, .int .i64 0]) ?he ?_
  case he => exact exec_load_row 56 _ _ HBn75.out rfl rfl Try.underlying56 rfl (by kernel_rfl)
  (try simp only [Act.put, sA, sB, sC])
  refine wpList_q (by rfl) (.bool false) ?he ?_
  case he => (first | rfl | (go_simp; (try with_reducible rfl)))
  (try simp only [Act.put, sA, sB, sC])
  refine wpList_wp (by rfl) (fun K hK => ?_)
  refine wp_st_row 56 _ _ rfl #[.int .i64 0, .int .i64 0, .int .i64 0, .int .i64 0, .int .i64 0, .int .i64 0, .int .i64 0, .int .i64 0, .int .i64 0, .int .i64 0] rfl rfl (HasRow.of HBR5.out rfl) rfl (by simp [Value.oneCell']) (by kernel_rfl) ?_
  intro w6 hw
  refine hK.out _ _ ?_
  clear hK K
  (try simp only [Act.put, sA, sB, sC])
  have HS6 := Lib.hid (show Since w w6 by rw [hw]; exact Since.setRow HS5.out (by have := HNE3.out; omega) _)
  have HBR6 := Lib.hid (show Blk w6 w.heap.size 56 #[.int .i64 0, .int .i64 0, .int .i64 0, .int .i64 0, .int .i64 0, .int .i64 0, .int .i64 0, .int .i64 0, .int .i64 0, .int .i64 0] by rw [hw]; exact Blk.row HBR5.out _)
  have HBn76 := Lib.hid (show Blk w6 bn7 56 #[.int .i64 0, .int .i64 0, .int .i64 0, .int .i64 0, .int .i64 0, .int .i64 0, .int .i64 0, .int .i64 0, .int .i64 0, .int .i64 0] by rw [hw]; exact Blk.row_far HBn75.out HNn7R.out _)
  clear hw HS5 HBR5 HBn75
  refine wpList_q (by rfl) (.bool false) ?he ?_
  case he => (first | rfl | (go_simp; (try with_reducible rfl)))
  (try simp only [Act.put, sA, sB, sC])
  refine wpList_nil ?_
  (try go_wp2_with fail)
  exact bodyPost_ret (results_row2 rfl _ _ w.heap.size 56 #[.int .i64 0, .int .i64 0, .int .i64 0, .int .i64 0, .int .i64 0, .int .i64 0, .int .i64 0, .int .i64 0, .int .i64 0, .int .i64 0] _ (.bool false) rfl rfl HBR6.out Try.underlying56 rfl (by kernel_rfl)) rfl ⟨rfl, HS6.out⟩
set_option maxHeartbeats 4000000 in
theorem ans (w : World) : Calls Try.prog 42 #[] w fun e w' => e = .returned (.bool true) ∧ Since w w' := by
  go_enter Try.func42, Try.ntmps42
  go_upto_region 1 with fail
  have HS1 := Lib.hid (Since.refl w)
  refine wp_region_lit ?_
  refine wpList_wp (by rfl) (fun K hK => ?_)
  (try go_simp)
  refine (configT _).mono ?_
  rintro e w2 ⟨rfl, hb⟩
  (try go_wp2_with fail)
  refine hK.out _ _ ?_
  clear hK K
  (try simp only [Act.put, sA, sB, sC])
  have HS2 := Lib.hid (Since.trans HS1.out hb)
  clear HS1 
  clear hb
  refine wpList_wp (by rfl) (fun K hK => ?_)
  (try go_simp)
  refine (newV w.heap.size kC _ (Since.size HS2.out)).mono ?_
  rintro e w3 ⟨t1, rfl, hT, hge, hb⟩
  (try go_wp2_with fail)
  refine hK.out _ _ ?_
  clear hK K
  (try simp only [Act.put, sA, sB, sC])
  have HS3 := Lib.hid (Since.trans HS2.out hb)
  clear HS2 
  clear hb
  have HFt := Lib.hid hT
  clear hT hge
  refine wpList_q (by rfl) (.pointer (some ⟨t1, 0, none⟩)) ?he ?_
  case he => (first | rfl | (go_simp; (try with_reducible rfl)))
  (try simp only [Act.put, sA, sB, sC])
  refine wpList_nil ?_
  go_upto_region 2 with fail
  refine wp_region_lit ?_
  refine wpList_q (by rfl) (.pointer (some ⟨t1, 0, none⟩)) ?he ?_
  case he => (first | rfl | (go_simp; (try with_reducible rfl)))
  (try simp only [Act.put, sA, sB, sC])
  refine wpList_wp (by rfl) (fun K hK => ?_)
  (try go_simp)
  refine (oneT _).mono ?_
  rintro e w4 ⟨rfl, hb⟩
  (try go_wp2_with fail)
  refine hK.out _ _ ?_
  clear hK K
  (try simp only [Act.put, sA, sB, sC])
  have HS4 := Lib.hid (Since.trans HS3.out hb)
  have HFt4 := Lib.hid (TO.keep hb HFt.out)
  clear HS3 HFt
  clear hb
  refine wpList_wp (by rfl) (fun K hK => ?_)
  (try go_simp)
  refine (putV w.heap.size t1 kC ([]) [t1] oneV _ HFt4.out (by decide) 0 ([oneV]) (by first | rfl | decide | decide +kernel) (by first | rfl | decide | decide +kernel)).mono ?_
  rintro e w5 ⟨St_1, rfl, hobj, hupd, hfar⟩
  (try go_wp2_with fail)
  refine hK.out _ _ ?_
  clear hK K
  (try simp only [Act.put, sA, sB, sC])
  have HS5 := Lib.hid (Since.upd HS4.out hupd (TO.low HFt4.out))
  have HFt5 := Lib.hid hobj
  clear hupd hobj hfar HS4 HFt4
  refine wpList_q (by rfl) (.pointer (some ⟨t1, 0, none⟩)) ?he ?_
  case he => (first | rfl | (go_simp; (try with_reducible rfl)))
  (try simp only [Act.put, sA, sB, sC])
  refine wpList_wp (by rfl) (fun K hK => ?_)
  (try go_simp)
  refine (oneT _).mono ?_
  rintro e w6 ⟨rfl, hb⟩
  (try go_wp2_with fail)
  refine hK.out _ _ ?_
  clear hK K
  (try simp only [Act.put, sA, sB, sC])
  have HS6 := Lib.hid (Since.trans HS5.out hb)
  have HFt6 := Lib.hid (TO.keep hb HFt5.out)
  clear HS5 HFt5
  clear hb
  refine wpList_wp (by rfl) (fun K hK => ?_)
  (try go_simp)
  refine (putV w.heap.size t1 kC ([oneV]) St_1 oneV _ HFt6.out (by decide) 7 ([oneV]) (by first | rfl | decide | decide +kernel) (by first | rfl | decide | decide +kernel)).mono ?_
  rintro e w7 ⟨St_2, rfl, hobj, hupd, hfar⟩
  (try go_wp2_with fail)
  refine hK.out _ _ ?_
  clear hK K
  (try simp only [Act.put, sA, sB, sC])
  have HS7 := Lib.hid (Since.upd HS6.out hupd (TO.low HFt6.out))
  have HFt7 := Lib.hid hobj
  clear hupd hobj hfar HS6 HFt6
  refine wpList_q (by rfl) (.int .i64 0) ?he ?_
  case he => (first | rfl | (go_simp; (try with_reducible rfl)))
  (try simp only [Act.put, sA, sB, sC])
  refine wpList_q (by rfl) (.int .i64 7) ?he ?_
  case he => (first | rfl | (go_simp; (try with_reducible rfl)))
  (try simp only [Act.put, sA, sB, sC])
  refine wpList_nil ?_
  go_upto_region 3 with fail
  refine wp_region_lit ?_
  refine wpList_q (by rfl) (.pointer (some ⟨t1, 0, none⟩)) ?he ?_
  case he => (first | rfl | (go_simp; (try with_reducible rfl)))
  (try simp only [Act.put, sA, sB, sC])
  refine wpList_wp (by rfl) (fun K hK => ?_)
  (try go_simp)
  refine (ofV w.heap.size t1 kC [oneV] St_2 0 oneV true _ HFt7.out (by decide) (by first | rfl | decide | decide +kernel)).mono ?_
  rintro e w8 ⟨rfl, hb⟩
  (try go_wp2_with fail)
  refine hK.out _ _ ?_
  clear hK K
  (try simp only [Act.put, sA, sB, sC])
  have HS8 := Lib.hid (Since.trans HS7.out hb)
  have HFt8 := Lib.hid (TO.keep hb HFt7.out)
  clear HS7 HFt7
  clear hb
  refine wpList_q (by rfl) (.tuple #[.agg #[.int .i64 0, .int .i64 0, .int .i64 0, .int .i64 1, .int .i64 5, .int .i64 0, .int .i64 1, .int .i64 0, .int .i64 0, .int .i64 0], .bool true]) ?he ?_
  case he => (first | rfl | (go_simp; (try with_reducible rfl)))
  (try simp only [Act.put, sA, sB, sC])
  refine wpList_q (by rfl) (.agg #[.int .i64 0, .int .i64 0, .int .i64 0, .int .i64 1, .int .i64 5, .int .i64 0, .int .i64 1, .int .i64 0, .int .i64 0, .int .i64 0]) ?he ?_
  case he => (first | rfl | (go_simp; (try with_reducible rfl)))
  (try simp only [Act.put, sA, sB, sC])
  refine wpList_q (by rfl) (.bool true) ?he ?_
  case he => (first | rfl | (go_simp; (try with_reducible rfl)))
  (try simp only [Act.put, sA, sB, sC])
  refine wpList_wp (by rfl) (fun K hK => ?_)
  refine wp_new (fun b => .pointer (some ⟨b, 0, none⟩)) 56 #[.int .i64 0, .int .i64 0, .int .i64 0, .int .i64 0, .int .i64 0, .int .i64 0, .int .i64 0, .int .i64 0, .int .i64 0, .int .i64 0] (by rintro b rfl; first | rfl | kernel_rfl) ?_
  intro bn4 w9 hge hB hb
  refine hK.out _ _ ?_
  clear hK K
  (try simp only [Act.put, sA, sB, sC])
  have HGn4 := Lib.hid (show w.heap.size ≤ bn4 by have := Since.size HS8.out; omega)
  have HIn4_t := Lib.hid (TO.far HFt8.out hge)
  have HS9 := Lib.hid (Since.trans HS8.out hb)
  have HFt9 := Lib.hid (TO.keep hb HFt8.out)
  clear HS8 HFt8
  clear hb hge
  have HBn49 := Lib.hid hB
  clear hB
  refine wpList_wp (by rfl) (fun K hK => ?_)
  refine wp_st_row 56 _ _ rfl #[.int .i64 0, .int .i64 0, .int .i64 0, .int .i64 1, .int .i64 5, .int .i64 0, .int .i64 1, .int .i64 0, .int .i64 0, .int .i64 0] rfl rfl (HasRow.of HBn49.out rfl) rfl (by simp [Value.oneCell']) (by kernel_rfl) ?_
  intro w10 hw
  refine hK.out _ _ ?_
  clear hK K
  (try simp only [Act.put, sA, sB, sC])
  have HS10 := Lib.hid (show Since w w10 by rw [hw]; exact Since.setRow HS9.out HGn4.out _)
  have HBn410 := Lib.hid (show Blk w10 bn4 56 #[.int .i64 0, .int .i64 0, .int .i64 0, .int .i64 1, .int .i64 5, .int .i64 0, .int .i64 1, .int .i64 0, .int .i64 0, .int .i64 0] by rw [hw]; exact Blk.row HBn49.out _)
  have HFt_10 := Lib.hid (show TO w.heap.size t1 kC ([oneV]) St_2 w10 by rw [hw]; exact TO.row_far HFt9.out HIn4_t.out _)
  clear hw HS9 HBn49 HFt9
  refine wpList_q (by rfl) (.bool true) ?he ?_
  case he => (first | rfl | (go_simp; (try with_reducible rfl)))
  (try simp only [Act.put, sA, sB, sC])
  refine wpList_nil ?_
  go_upto_region 4 with fail
  refine wp_region_lit ?_
  refine wpList_q (by rfl) (.pointer (some ⟨t1, 0, none⟩)) ?he ?_
  case he => (first | rfl | (go_simp; (try with_reducible rfl)))
  (try simp only [Act.put, sA, sB, sC])
  refine wpList_wp (by rfl) (fun K hK => ?_)
  (try go_simp)
  refine (carV w.heap.size t1 kC [oneV] St_2 0 oneV true _ HFt_10.out (by decide) (by first | rfl | decide | decide +kernel)).mono ?_
  rintro e w11 ⟨rfl, hb⟩
  (try go_wp2_with fail)
  refine hK.out _ _ ?_
  clear hK K
  (try simp only [Act.put, sA, sB, sC])
  have HS11 := Lib.hid (Since.trans HS10.out hb)
  have HBn411 := Lib.hid (keep_blk hb HBn410.out)
  have HFt11 := Lib.hid (TO.keep hb HFt_10.out)
  clear HS10 HBn410 HFt_10
  clear hb
  refine wpList_q (by rfl) (.tuple #[.agg #[.int .i64 0, .int .i64 0, .int .i64 0, .int .i64 1, .int .i64 5, .int .i64 0, .int .i64 1, .int .i64 0, .int .i64 0, .int .i64 0], .bool true]) ?he ?_
  case he => (first | rfl | (go_simp; (try with_reducible rfl)))
  (try simp only [Act.put, sA, sB, sC])
  refine wpList_q (by rfl) (.agg #[.int .i64 0, .int .i64 0, .int .i64 0, .int .i64 1, .int .i64 5, .int .i64 0, .int .i64 1, .int .i64 0, .int .i64 0, .int .i64 0]) ?he ?_
  case he => (first | rfl | (go_simp; (try with_reducible rfl)))
  (try simp only [Act.put, sA, sB, sC])
  refine wpList_q (by rfl) (.bool true) ?he ?_
  case he => (first | rfl | (go_simp; (try with_reducible rfl)))
  (try simp only [Act.put, sA, sB, sC])
  refine wpList_wp (by rfl) (fun K hK => ?_)
  refine wp_new (fun b => .pointer (some ⟨b, 0, none⟩)) 56 #[.int .i64 0, .int .i64 0, .int .i64 0, .int .i64 0, .int .i64 0, .int .i64 0, .int .i64 0, .int .i64 0, .int .i64 0, .int .i64 0] (by rintro b rfl; first | rfl | kernel_rfl) ?_
  intro bn6 w12 hge hB hb
  refine hK.out _ _ ?_
  clear hK K
  (try simp only [Act.put, sA, sB, sC])
  have HNn6n4 := Lib.hid (show bn6 ≠ bn4 by have := Blk.lt HBn411.out; omega)
  have HGn6 := Lib.hid (show w.heap.size ≤ bn6 by have := Since.size HS11.out; omega)
  have HIn6_t := Lib.hid (TO.far HFt11.out hge)
  have HS12 := Lib.hid (Since.trans HS11.out hb)
  have HBn412 := Lib.hid (keep_blk hb HBn411.out)
  have HFt12 := Lib.hid (TO.keep hb HFt11.out)
  clear HS11 HBn411 HFt11
  clear hb hge
  have HBn612 := Lib.hid hB
  clear hB
  refine wpList_wp (by rfl) (fun K hK => ?_)
  refine wp_st_row 56 _ _ rfl #[.int .i64 0, .int .i64 0, .int .i64 0, .int .i64 1, .int .i64 5, .int .i64 0, .int .i64 1, .int .i64 0, .int .i64 0, .int .i64 0] rfl rfl (HasRow.of HBn612.out rfl) rfl (by simp [Value.oneCell']) (by kernel_rfl) ?_
  intro w13 hw
  refine hK.out _ _ ?_
  clear hK K
  (try simp only [Act.put, sA, sB, sC])
  have HS13 := Lib.hid (show Since w w13 by rw [hw]; exact Since.setRow HS12.out HGn6.out _)
  have HBn413 := Lib.hid (show Blk w13 bn4 56 #[.int .i64 0, .int .i64 0, .int .i64 0, .int .i64 1, .int .i64 5, .int .i64 0, .int .i64 1, .int .i64 0, .int .i64 0, .int .i64 0] by rw [hw]; exact Blk.row_far HBn412.out (Ne.symm HNn6n4.out) _)
  have HBn613 := Lib.hid (show Blk w13 bn6 56 #[.int .i64 0, .int .i64 0, .int .i64 0, .int .i64 1, .int .i64 5, .int .i64 0, .int .i64 1, .int .i64 0, .int .i64 0, .int .i64 0] by rw [hw]; exact Blk.row HBn612.out _)
  have HFt_13 := Lib.hid (show TO w.heap.size t1 kC ([oneV]) St_2 w13 by rw [hw]; exact TO.row_far HFt12.out HIn6_t.out _)
  clear hw HS12 HBn412 HBn612 HFt12
  refine wpList_q (by rfl) (.bool true) ?he ?_
  case he => (first | rfl | (go_simp; (try with_reducible rfl)))
  (try simp only [Act.put, sA, sB, sC])
  refine wpList_nil ?_
  go_upto_region 5 with fail
  have hrK : ∀ W W' : World, Since W W' → (Since w W ∧ Blk W bn4 56 #[.int .i64 0, .int .i64 0, .int .i64 0, .int .i64 1, .int .i64 5, .int .i64 0, .int .i64 1, .int .i64 0, .int .i64 0, .int .i64 0] ∧ Blk W bn6 56 #[.int .i64 0, .int .i64 0, .int .i64 0, .int .i64 1, .int .i64 5, .int .i64 0, .int .i64 1, .int .i64 0, .int .i64 0, .int .i64 0] ∧ TO w.heap.size t1 kC ([oneV]) St_2 W) → (Since w W' ∧ Blk W' bn4 56 #[.int .i64 0, .int .i64 0, .int .i64 0, .int .i64 1, .int .i64 5, .int .i64 0, .int .i64 1, .int .i64 0, .int .i64 0, .int .i64 0] ∧ Blk W' bn6 56 #[.int .i64 0, .int .i64 0, .int .i64 0, .int .i64 1, .int .i64 5, .int .i64 0, .int .i64 1, .int .i64 0, .int .i64 0, .int .i64 0] ∧ TO w.heap.size t1 kC ([oneV]) St_2 W') := fun W W' k ⟨h, h0, h1, h2⟩ => ⟨h.trans k, keep_blk k h0, keep_blk k h1, TO.keep k h2⟩
  have hrS : (fun W : World => Since w W ∧ Blk W bn4 56 #[.int .i64 0, .int .i64 0, .int .i64 0, .int .i64 1, .int .i64 5, .int .i64 0, .int .i64 1, .int .i64 0, .int .i64 0, .int .i64 0] ∧ Blk W bn6 56 #[.int .i64 0, .int .i64 0, .int .i64 0, .int .i64 1, .int .i64 5, .int .i64 0, .int .i64 1, .int .i64 0, .int .i64 0, .int .i64 0] ∧ TO w.heap.size t1 kC ([oneV]) St_2 W) w13 := ⟨HS13.out, HBn413.out, HBn613.out, HFt_13.out⟩
  have HRK := Lib.hid hrK
  have HRD := Lib.hid (show (fun W : World => Since w W ∧ Blk W bn4 56 #[.int .i64 0, .int .i64 0, .int .i64 0, .int .i64 1, .int .i64 5, .int .i64 0, .int .i64 1, .int .i64 0, .int .i64 0, .int .i64 0] ∧ Blk W bn6 56 #[.int .i64 0, .int .i64 0, .int .i64 0, .int .i64 1, .int .i64 5, .int .i64 0, .int .i64 1, .int .i64 0, .int .i64 0, .int .i64 0] ∧ TO w.heap.size t1 kC ([oneV]) St_2 W) (World.drew w13) from ⟨Since.drew hrS.1, hrS.2⟩)
  clear hrK hrS
  refine wp_region_held_drew (S := fun W : World => Since w W ∧ Blk W bn4 56 #[.int .i64 0, .int .i64 0, .int .i64 0, .int .i64 1, .int .i64 5, .int .i64 0, .int .i64 1, .int .i64 0, .int .i64 0, .int .i64 0] ∧ Blk W bn6 56 #[.int .i64 0, .int .i64 0, .int .i64 0, .int .i64 1, .int .i64 5, .int .i64 0, .int .i64 1, .int .i64 0, .int .i64 0, .int .i64 0] ∧ TO w.heap.size t1 kC ([oneV]) St_2 W) (by kernel_rfl) HRD.out (fun hHeld => ?_)
  refine wpAnyH_take (i := 0) (oi := ?o5__0) (v := .int .i64 0) ?h5__0 (by kernel_rfl) (by kernel_rfl) (by kernel_rfl) ?q5__0 ?y5__0 (by assumption) ?_
  case h5__0 => (first | (simp only [gA, gB, gC]; done) | (simp only [gA, gB, gC]; exact rfl))
  case q5__0 => exact fun _ _ _ h => h
  case y5__0 => (refine Or.inl ⟨rfl, ?_⟩; intro w hSw; (first | rfl | (go_simp; (try with_reducible rfl))))
  (try simp only [Act.put, sA, sB, sC])
  refine wpAnyH_take (i := 1) (oi := ?o5__1) (v := .bool true) ?h5__1 (by kernel_rfl) (by kernel_rfl) (by kernel_rfl) ?q5__1 ?y5__1 (by assumption) ?_
  case h5__1 => (first | (simp only [gA, gB, gC]; done) | (simp only [gA, gB, gC]; exact rfl))
  case q5__1 => exact fun _ _ _ h => h
  case y5__1 => (refine Or.inl ⟨rfl, ?_⟩; intro w hSw; (go_simp; (try with_reducible rfl)))
  (try simp only [Act.put, sA, sB, sC])
  refine wpAnyH_take (i := 2) (oi := ?o5__2) (v := .bool true) ?h5__2 (by kernel_rfl) (by kernel_rfl) (by kernel_rfl) ?q5__2 ?y5__2 (by assumption) ?_
  case h5__2 => (first | (simp only [gA, gB, gC]; done) | (simp only [gA, gB, gC]; exact rfl))
  case q5__2 => exact fun _ _ _ h => h
  case y5__2 => (refine Or.inl ⟨rfl, ?_⟩; intro w hSw; (first | rfl | (go_simp; (try with_reducible rfl))))
  (try simp only [Act.put, sA, sB, sC])
  refine wpAnyH_take (i := 3) (oi := ?o5__3) (v := .int .i64 7) ?h5__3 (by kernel_rfl) (by kernel_rfl) (by kernel_rfl) ?q5__3 ?y5__3 (by assumption) ?_
  case h5__3 => (first | (simp only [gA, gB, gC]; done) | (simp only [gA, gB, gC]; exact rfl))
  case q5__3 => exact fun _ _ _ h => h
  case y5__3 => (refine Or.inl ⟨rfl, ?_⟩; intro w hSw; (first | rfl | (go_simp; (try with_reducible rfl))))
  (try simp only [Act.put, sA, sB, sC])
  refine wpAnyH_take (i := 4) (oi := ?o5__4) (v := .bool true) ?h5__4 (by kernel_rfl) (by kernel_rfl) (by kernel_rfl) ?q5__4 ?y5__4 (by assumption) ?_
  case h5__4 => (first | (simp only [gA, gB, gC]; done) | (simp only [gA, gB, gC]; exact rfl))
  case q5__4 => exact fun _ _ _ h => h
  case y5__4 => (refine Or.inl ⟨rfl, ?_⟩; intro w hSw; (go_simp; (try with_reducible rfl)))
  (try simp only [Act.put, sA, sB, sC])
  refine wpAnyH_take (i := 5) (oi := ?o5__5) (v := .bool true) ?h5__5 (by kernel_rfl) (by kernel_rfl) (by kernel_rfl) ?q5__5 ?y5__5 (by assumption) ?_
  case h5__5 => (first | (simp only [gA, gB, gC]; done) | (simp only [gA, gB, gC]; exact rfl))
  case q5__5 => exact fun _ _ _ h => h
  case y5__5 => (refine Or.inl ⟨rfl, ?_⟩; intro w hSw; (first | rfl | (go_simp; (try with_reducible rfl))))
  (try simp only [Act.put, sA, sB, sC])
  refine wpAnyH_take (i := 6) (oi := ?o5__6) (v := .bool true) ?h5__6 (by kernel_rfl) (by kernel_rfl) (by kernel_rfl) ?q5__6 ?y5__6 (by assumption) ?_
  case h5__6 => (first | (simp only [gA, gB, gC]; done) | (simp only [gA, gB, gC]; exact rfl))
  case q5__6 => exact fun _ _ _ h => h
  case y5__6 => (refine Or.inl ⟨rfl, ?_⟩; intro w hSw; (first | rfl | (go_simp; (try with_reducible rfl))))
  (try simp only [Act.put, sA, sB, sC])
  refine wpAnyH_take (i := 7) (oi := ?o5__7) (v := .bool true) ?h5__7 (by kernel_rfl) (by kernel_rfl) (by kernel_rfl) ?q5__7 ?y5__7 (by assumption) ?_
  case h5__7 => (first | (simp only [gA, gB, gC]; done) | (simp only [gA, gB, gC]; exact rfl))
  case q5__7 => exact fun _ _ _ h => h
  case y5__7 => (refine Or.inl ⟨rfl, ?_⟩; intro w hSw; (first | rfl | (go_simp; (try with_reducible rfl))))
  (try simp only [Act.put, sA, sB, sC])
  refine wpAnyH_take (i := 8) (oi := ?o5__8) (v := .bool true) ?h5__8 (by kernel_rfl) (by kernel_rfl) (by kernel_rfl) ?q5__8 ?y5__8 (by assumption) ?_
  case h5__8 => (first | (simp only [gA, gB, gC]; done) | (simp only [gA, gB, gC]; exact rfl))
  case q5__8 => exact fun _ _ _ h => h
  case y5__8 => (refine Or.inl ⟨rfl, ?_⟩; intro w hSw; (first | rfl | (go_simp; (try with_reducible rfl))))
  (try simp only [Act.put, sA, sB, sC])
  refine wpAnyH_take (i := 9) (oi := ?o5__9) (v := .bool true) ?h5__9 (by kernel_rfl) (by kernel_rfl) (by kernel_rfl) ?q5__9 ?y5__9 (by assumption) ?_
  case h5__9 => (first | (simp only [gA, gB, gC]; done) | (simp only [gA, gB, gC]; exact rfl))
  case q5__9 => exact fun _ _ _ h => h
  case y5__9 => (refine Or.inl ⟨rfl, ?_⟩; intro w hSw; (first | rfl | (go_simp; (try with_reducible rfl))))
  (try simp only [Act.put, sA, sB, sC])
  refine wpAnyH_take (i := 10) (oi := ?o5__10) (v := .agg #[.int .i64 0, .int .i64 0, .int .i64 0, .int .i64 1, .int .i64 5, .int .i64 0, .int .i64 1, .int .i64 0, .int .i64 0, .int .i64 0]) ?h5__10 (by kernel_rfl) (by kernel_rfl) (by kernel_rfl) ?q5__10 ?y5__10 (by assumption) ?_
  case h5__10 => (first | (simp only [gA, gB, gC]; done) | (simp only [gA, gB, gC]; exact rfl))
  case q5__10 => exact fun _ _ _ h => h
  case y5__10 => (refine Or.inl ⟨rfl, ?_⟩; intro w hSw; exact exec_load_row 56 _ _ hSw.2.1 rfl rfl Try.underlying56 rfl (by kernel_rfl))
  (try simp only [Act.put, sA, sB, sC])
  refine wpAnyH_ready (rs := [11]) (by kernel_rfl) (by simp) ?_
  refine AllReadyH.cons (o := ?o5__11) ?h5__11 (fun K hK => ?_) AllReadyH.nil
  case h5__11 => (first | (simp only [gA, gB, gC]; done) | (simp only [gA, gB, gC]; exact rfl))
  (try go_simp)
  refine (oneT _).mono ?_
  rintro e w14 ⟨rfl, hb⟩
  (try go_wp2_with fail)
  refine hK.out _ _ (by (apply HRK.out; exact hb; exact hHeld)) (fun hHeld2 => ?_)
  clear hK K hHeld hb
  have hHeld := hHeld2
  clear hHeld2
  (try simp only [Act.put, sA, sB, sC])
  refine wpAnyH_take (i := 12) (oi := ?o5__12) (v := .bool true) ?h5__12 (by kernel_rfl) (by kernel_rfl) (by kernel_rfl) ?q5__12 ?y5__12 (by assumption) ?_
  case h5__12 => (first | (simp only [gA, gB, gC]; done) | (simp only [gA, gB, gC]; exact rfl))
  case q5__12 => exact fun _ _ _ h => h
  case y5__12 => (refine Or.inl ⟨rfl, ?_⟩; intro w hSw; (first | (go_simp; done) | (go_simp; simp)))
  (try simp only [Act.put, sA, sB, sC])
  refine wpAnyH_take (i := 13) (oi := ?o5__13) (v := .bool true) ?h5__13 (by kernel_rfl) (by kernel_rfl) (by kernel_rfl) ?q5__13 ?y5__13 (by assumption) ?_
  case h5__13 => (first | (simp only [gA, gB, gC]; done) | (simp only [gA, gB, gC]; exact rfl))
  case q5__13 => exact fun _ _ _ h => h
  case y5__13 => (refine Or.inl ⟨rfl, ?_⟩; intro w hSw; (first | rfl | (go_simp; (try with_reducible rfl))))
  (try simp only [Act.put, sA, sB, sC])
  refine wpAnyH_take (i := 14) (oi := ?o5__14) (v := .bool true) ?h5__14 (by kernel_rfl) (by kernel_rfl) (by kernel_rfl) ?q5__14 ?y5__14 (by assumption) ?_
  case h5__14 => (first | (simp only [gA, gB, gC]; done) | (simp only [gA, gB, gC]; exact rfl))
  case q5__14 => exact fun _ _ _ h => h
  case y5__14 => (refine Or.inl ⟨rfl, ?_⟩; intro w hSw; (first | rfl | (go_simp; (try with_reducible rfl))))
  (try simp only [Act.put, sA, sB, sC])
  refine wpAnyH_take (i := 15) (oi := ?o5__15) (v := .bool true) ?h5__15 (by kernel_rfl) (by kernel_rfl) (by kernel_rfl) ?q5__15 ?y5__15 (by assumption) ?_
  case h5__15 => (first | (simp only [gA, gB, gC]; done) | (simp only [gA, gB, gC]; exact rfl))
  case q5__15 => exact fun _ _ _ h => h
  case y5__15 => (refine Or.inl ⟨rfl, ?_⟩; intro w hSw; (first | rfl | (go_simp; (try with_reducible rfl))))
  (try simp only [Act.put, sA, sB, sC])
  refine wpAnyH_take (i := 16) (oi := ?o5__16) (v := .bool true) ?h5__16 (by kernel_rfl) (by kernel_rfl) (by kernel_rfl) ?q5__16 ?y5__16 (by assumption) ?_
  case h5__16 => (first | (simp only [gA, gB, gC]; done) | (simp only [gA, gB, gC]; exact rfl))
  case q5__16 => exact fun _ _ _ h => h
  case y5__16 => (refine Or.inl ⟨rfl, ?_⟩; intro w hSw; (first | rfl | (go_simp; (try with_reducible rfl))))
  (try simp only [Act.put, sA, sB, sC])
  refine wpAnyH_take (i := 17) (oi := ?o5__17) (v := .bool true) ?h5__17 (by kernel_rfl) (by kernel_rfl) (by kernel_rfl) ?q5__17 ?y5__17 (by assumption) ?_
  case h5__17 => (first | (simp only [gA, gB, gC]; done) | (simp only [gA, gB, gC]; exact rfl))
  case q5__17 => exact fun _ _ _ h => h
  case y5__17 => (refine Or.inl ⟨rfl, ?_⟩; intro w hSw; (first | rfl | (go_simp; (try with_reducible rfl))))
  (try simp only [Act.put, sA, sB, sC])
  refine wpAnyH_take (i := 18) (oi := ?o5__18) (v := .agg #[.int .i64 0, .int .i64 0, .int .i64 0, .int .i64 1, .int .i64 5, .int .i64 0, .int .i64 1, .int .i64 0, .int .i64 0, .int .i64 0]) ?h5__18 (by kernel_rfl) (by kernel_rfl) (by kernel_rfl) ?q5__18 ?y5__18 (by assumption) ?_
  case h5__18 => (first | (simp only [gA, gB, gC]; done) | (simp only [gA, gB, gC]; exact rfl))
  case q5__18 => exact fun _ _ _ h => h
  case y5__18 => (refine Or.inl ⟨rfl, ?_⟩; intro w hSw; exact exec_load_row 56 _ _ hSw.2.2.1 rfl rfl Try.underlying56 rfl (by kernel_rfl))
  (try simp only [Act.put, sA, sB, sC])
  refine wpAnyH_ready (rs := [19]) (by kernel_rfl) (by simp) ?_
  refine AllReadyH.cons (o := ?o5__19) ?h5__19 (fun K hK => ?_) AllReadyH.nil
  case h5__19 => (first | (simp only [gA, gB, gC]; done) | (simp only [gA, gB, gC]; exact rfl))
  (try go_simp)
  refine (oneT _).mono ?_
  rintro e w15 ⟨rfl, hb⟩
  (try go_wp2_with fail)
  refine hK.out _ _ (by (apply HRK.out; exact hb; exact hHeld)) (fun hHeld2 => ?_)
  clear hK K hHeld hb
  have hHeld := hHeld2
  clear hHeld2
  (try simp only [Act.put, sA, sB, sC])
  refine wpAnyH_take (i := 20) (oi := ?o5__20) (v := .bool true) ?h5__20 (by kernel_rfl) (by kernel_rfl) (by kernel_rfl) ?q5__20 ?y5__20 (by assumption) ?_
  case h5__20 => (first | (simp only [gA, gB, gC]; done) | (simp only [gA, gB, gC]; exact rfl))
  case q5__20 => exact fun _ _ _ h => h
  case y5__20 => (refine Or.inl ⟨rfl, ?_⟩; intro w hSw; (first | (go_simp; done) | (go_simp; simp)))
  (try simp only [Act.put, sA, sB, sC])
  refine wpAnyH_take (i := 21) (oi := ?o5__21) (v := .bool true) ?h5__21 (by kernel_rfl) (by kernel_rfl) (by kernel_rfl) ?q5__21 ?y5__21 (by assumption) ?_
  case h5__21 => (first | (simp only [gA, gB, gC]; done) | (simp only [gA, gB, gC]; exact rfl))
  case q5__21 => exact fun _ _ _ h => h
  case y5__21 => (refine Or.inl ⟨rfl, ?_⟩; intro w hSw; (first | rfl | (go_simp; (try with_reducible rfl))))
  (try simp only [Act.put, sA, sB, sC])
  refine wpAnyH_take (i := 22) (oi := ?o5__22) (v := .bool true) ?h5__22 (by kernel_rfl) (by kernel_rfl) (by kernel_rfl) ?q5__22 ?y5__22 (by assumption) ?_
  case h5__22 => (first | (simp only [gA, gB, gC]; done) | (simp only [gA, gB, gC]; exact rfl))
  case q5__22 => exact fun _ _ _ h => h
  case y5__22 => (refine Or.inl ⟨rfl, ?_⟩; intro w hSw; (first | rfl | (go_simp; (try with_reducible rfl))))
  (try simp only [Act.put, sA, sB, sC])
  refine wpAnyH_take (i := 23) (oi := ?o5__23) (v := .pointer (some ⟨t1, 0, none⟩)) ?h5__23 (by kernel_rfl) (by kernel_rfl) (by kernel_rfl) ?q5__23 ?y5__23 (by assumption) ?_
  case h5__23 => (first | (simp only [gA, gB, gC]; done) | (simp only [gA, gB, gC]; exact rfl))
  case q5__23 => exact fun _ _ _ h => h
  case y5__23 => (refine Or.inl ⟨rfl, ?_⟩; intro w hSw; (first | rfl | (go_simp; (try with_reducible rfl))))
  (try simp only [Act.put, sA, sB, sC])
  refine wpAnyH_ready (rs := [24]) (by kernel_rfl) (by simp) ?_
  refine AllReadyH.cons (o := ?o5__24) ?h5__24 (fun K hK => ?_) AllReadyH.nil
  case h5__24 => (first | (simp only [gA, gB, gC]; done) | (simp only [gA, gB, gC]; exact rfl))
  (try go_simp)
  refine (listV w.heap.size t1 kC [oneV] St_2 _ (hHeld.2.2.2) (by decide) 1 rfl).mono ?_
  rintro e w16 ⟨A2, c2, rfl, hown, hb⟩
  (try go_wp2_with fail)
  refine hK.out _ _ (by (apply HRK.out; exact hb; exact hHeld)) (fun hHeld2 => ?_)
  clear hown
  clear hK K hHeld hb
  have hHeld := hHeld2
  clear hHeld2
  (try simp only [Act.put, sA, sB, sC])
  refine wpAnyH_take (i := 25) (oi := ?o5__25) (v := .int .i64 1) ?h5__25 (by kernel_rfl) (by kernel_rfl) (by kernel_rfl) ?q5__25 ?y5__25 (by assumption) ?_
  case h5__25 => (first | (simp only [gA, gB, gC]; done) | (simp only [gA, gB, gC]; exact rfl))
  case q5__25 => exact fun _ _ _ h => h
  case y5__25 => (refine Or.inl ⟨rfl, ?_⟩; intro w hSw; (first | rfl | (go_simp; (try with_reducible rfl))))
  (try simp only [Act.put, sA, sB, sC])
  refine wpAnyH_take (i := 26) (oi := ?o5__26) (v := .bool true) ?h5__26 (by kernel_rfl) (by kernel_rfl) (by kernel_rfl) ?q5__26 ?y5__26 (by assumption) ?_
  case h5__26 => (first | (simp only [gA, gB, gC]; done) | (simp only [gA, gB, gC]; exact rfl))
  case q5__26 => exact fun _ _ _ h => h
  case y5__26 => (refine Or.inl ⟨rfl, ?_⟩; intro w hSw; (go_simp; (try with_reducible rfl)))
  (try simp only [Act.put, sA, sB, sC])
  refine wpAnyH_take (i := 27) (oi := ?o5__27) (v := .bool true) ?h5__27 (by kernel_rfl) (by kernel_rfl) (by kernel_rfl) ?q5__27 ?y5__27 (by assumption) ?_
  case h5__27 => (first | (simp only [gA, gB, gC]; done) | (simp only [gA, gB, gC]; exact rfl))
  case q5__27 => exact fun _ _ _ h => h
  case y5__27 => (refine Or.inl ⟨rfl, ?_⟩; intro w hSw; (first | rfl | (go_simp; (try with_reducible rfl))))
  (try simp only [Act.put, sA, sB, sC])
  refine wpAnyH_take (i := 28) (oi := ?o5__28) (v := .bool true) ?h5__28 (by kernel_rfl) (by kernel_rfl) (by kernel_rfl) ?q5__28 ?y5__28 (by assumption) ?_
  case h5__28 => (first | (simp only [gA, gB, gC]; done) | (simp only [gA, gB, gC]; exact rfl))
  case q5__28 => exact fun _ _ _ h => h
  case y5__28 => (refine Or.inl ⟨rfl, ?_⟩; intro w hSw; (first | rfl | (go_simp; (try with_reducible rfl))))
  (try simp only [Act.put, sA, sB, sC])
  refine wpAnyH_ready (rs := [29]) (by kernel_rfl) (by simp) ?_
  refine AllReadyH.cons (o := ?o5__29) ?h5__29 (fun K hK => ?_) AllReadyH.nil
  case h5__29 => (first | (simp only [gA, gB, gC]; done) | (simp only [gA, gB, gC]; exact rfl))
  (try go_simp)
  refine (spanV 0 1 _ (by decide)).mono ?_
  rintro e w' ⟨rfl, rfl⟩
  (try go_wp2_with fail)
  refine hK.out _ _ hHeld (fun hHeld2 => ?_)
  clear hK K hHeld2
  (try simp only [Act.put, sA, sB, sC])
  refine wpAnyH_take (i := 30) (oi := ?o5__30) (v := .bool true) ?h5__30 (by kernel_rfl) (by kernel_rfl) (by kernel_rfl) ?q5__30 ?y5__30 (by assumption) ?_
  case h5__30 => (first | (simp only [gA, gB, gC]; done) | (simp only [gA, gB, gC]; exact rfl))
  case q5__30 => exact fun _ _ _ h => h
  case y5__30 => (refine Or.inl ⟨rfl, ?_⟩; intro w hSw; (go_simp; (try with_reducible rfl)))
  (try simp only [Act.put, sA, sB, sC])
  refine wpAnyH_take (i := 31) (oi := ?o5__31) (v := .bool true) ?h5__31 (by kernel_rfl) (by kernel_rfl) (by kernel_rfl) ?q5__31 ?y5__31 (by assumption) ?_
  case h5__31 => (first | (simp only [gA, gB, gC]; done) | (simp only [gA, gB, gC]; exact rfl))
  case q5__31 => exact fun _ _ _ h => h
  case y5__31 => (refine Or.inl ⟨rfl, ?_⟩; intro w hSw; (first | rfl | (go_simp; (try with_reducible rfl))))
  (try simp only [Act.put, sA, sB, sC])
  refine wpAnyH_take (i := 32) (oi := ?o5__32) (v := .bool true) ?h5__32 (by kernel_rfl) (by kernel_rfl) (by kernel_rfl) ?q5__32 ?y5__32 (by assumption) ?_
  case h5__32 => (first | (simp only [gA, gB, gC]; done) | (simp only [gA, gB, gC]; exact rfl))
  case q5__32 => exact fun _ _ _ h => h
  case y5__32 => (refine Or.inl ⟨rfl, ?_⟩; intro w hSw; (first | rfl | (go_simp; (try with_reducible rfl))))
  (try simp only [Act.put, sA, sB, sC])
  refine wpAnyH_ready (rs := [33]) (by kernel_rfl) (by simp) ?_
  refine AllReadyH.cons (o := ?o5__33) ?h5__33 (fun K hK => ?_) AllReadyH.nil
  case h5__33 => (first | (simp only [gA, gB, gC]; done) | (simp only [gA, gB, gC]; exact rfl))
  (try go_simp)
  refine (configT _).mono ?_
  rintro e w17 ⟨rfl, hb⟩
  (try go_wp2_with fail)
  refine hK.out _ _ (by (apply HRK.out; exact hb; exact hHeld)) (fun hHeld2 => ?_)
  clear hK K hHeld hb
  have hHeld := hHeld2
  clear hHeld2
  (try simp only [Act.put, sA, sB, sC])
  refine wpAnyH_ready (rs := [34]) (by kernel_rfl) (by simp) ?_
  refine AllReadyH.cons (o := ?o5__34) ?h5__34 (fun K hK => ?_) AllReadyH.nil
  case h5__34 => (first | (simp only [gA, gB, gC]; done) | (simp only [gA, gB, gC]; exact rfl))
  (try go_simp)
  refine (tripV kC 26 _ (by first | rfl | decide | decide +kernel)).mono ?_
  rintro e w18 ⟨rfl, hb⟩
  (try go_wp2_with fail)
  refine hK.out _ _ (by (apply HRK.out; exact hb; exact hHeld)) (fun hHeld2 => ?_)
  clear hK K hHeld hb
  have hHeld := hHeld2
  clear hHeld2
  (try simp only [Act.put, sA, sB, sC])
  refine wpAnyH_take (i := 35) (oi := ?o5__35) (v := .bool true) ?h5__35 (by kernel_rfl) (by kernel_rfl) (by kernel_rfl) ?q5__35 ?y5__35 (by assumption) ?_
  case h5__35 => (first | (simp only [gA, gB, gC]; done) | (simp only [gA, gB, gC]; exact rfl))
  case q5__35 => exact fun _ _ _ h => h
  case y5__35 => (refine Or.inl ⟨rfl, ?_⟩; intro w hSw; (go_simp; (try with_reducible rfl)))
  (try simp only [Act.put, sA, sB, sC])
  refine wpAnyH_take (i := 36) (oi := ?o5__36) (v := .bool true) ?h5__36 (by kernel_rfl) (by kernel_rfl) (by kernel_rfl) ?q5__36 ?y5__36 (by assumption) ?_
  case h5__36 => (first | (simp only [gA, gB, gC]; done) | (simp only [gA, gB, gC]; exact rfl))
  case q5__36 => exact fun _ _ _ h => h
  case y5__36 => (refine Or.inl ⟨rfl, ?_⟩; intro w hSw; (first | rfl | (go_simp; (try with_reducible rfl))))
  (try simp only [Act.put, sA, sB, sC])
  refine wpAnyH_take (i := 37) (oi := ?o5__37) (v := .bool true) ?h5__37 (by kernel_rfl) (by kernel_rfl) (by kernel_rfl) ?q5__37 ?y5__37 (by assumption) ?_
  case h5__37 => (first | (simp only [gA, gB, gC]; done) | (simp only [gA, gB, gC]; exact rfl))
  case q5__37 => exact fun _ _ _ h => h
  case y5__37 => (refine Or.inl ⟨rfl, ?_⟩; intro w hSw; (first | rfl | (go_simp; (try with_reducible rfl))))
  (try simp only [Act.put, sA, sB, sC])
  refine wpAnyH_done (by kernel_rfl) ?_ _
  have HSd5 := Lib.hid hHeld.1
  have HBn4d5 := Lib.hid (hHeld.2.1)
  have HBn6d5 := Lib.hid (hHeld.2.2.1)
  have HFtd5 := Lib.hid (hHeld.2.2.2)
  clear hHeld HRK HRD HS13 HBn413 HBn613 HFt_13
  (try go_wp2_with fail)
  go_ret
  exact ⟨rfl, HSd5.out⟩
set_option maxHeartbeats 4000000 in
theorem times (c : CfgV) (n : Int) (w : World) : Calls Try.prog 9 #[.agg #[.int .i64 c.ca, .int .i64 c.fl, .int .i64 c.ft, .int .i64 c.se, .int .i64 c.dr, .int .i64 c.dw, .int .i64 c.ho, .int .i64 c.re, .int .i64 c.yi, .int .i64 c.qu, .int .i64 c.qo, .int .i64 c.lo, .int .i64 c.sl, .int .i64 c.rt, .int .i64 c.cp, .int .i64 c.tr, .int .i64 c.de, .int .i64 c.wi], .int .i64 n] w fun e w' => e = .returned (.bool true) ∧ Since w w' := by
  go_enter Try.func9, Try.ntmps9
  go_upto_region 1 with fail
  obtain ⟨w1, hw1⟩ : ∃ w1, w1 = (w.alloc (.cells #[.int .i64 c.ca, .int .i64 c.fl, .int .i64 c.ft, .int .i64 c.se, .int .i64 c.dr, .int .i64 c.dw, .int .i64 c.ho, .int .i64 c.re, .int .i64 c.yi, .int .i64 c.qu, .int .i64 c.qo, .int .i64 c.lo, .int .i64 c.sl, .int .i64 c.rt, .int .i64 c.cp, .int .i64 c.tr, .int .i64 c.de, .int .i64 c.wi] 23)) := ⟨_, rfl⟩
  rw [← hw1]
  have HBC1 := Lib.hid (show Blk w1 (w.heap.size) 23 #[.int .i64 c.ca, .int .i64 c.fl, .int .i64 c.ft, .int .i64 c.se, .int .i64 c.dr, .int .i64 c.dw, .int .i64 c.ho, .int .i64 c.re, .int .i64 c.yi, .int .i64 c.qu, .int .i64 c.qo, .int .i64 c.lo, .int .i64 c.sl, .int .i64 c.rt, .int .i64 c.cp, .int .i64 c.tr, .int .i64 c.de, .int .i64 c.wi] by rw [hw1]; exact Blk.at_ (by (try simp only [size_alloc])) _ _)
  have HS1 := Lib.hid (show Since w w1 by rw [hw1]; exact Since.alloc (Since.refl w) _)
  have hNE : w.heap.size ≤ w.heap.size := by omega
  have HNE := Lib.hid hNE
  clear hNE hw1
  have HNE3 := Lib.hid (show w.heap.size ≤ w.heap.size from HNE.out)
  clear HNE
  have hrK : ∀ W W' : World, Since W W' → (Since w W ∧ Blk W w.heap.size 23 #[.int .i64 c.ca, .int .i64 c.fl, .int .i64 c.ft, .int .i64 c.se, .int .i64 c.dr, .int .i64 c.dw, .int .i64 c.ho, .int .i64 c.re, .int .i64 c.yi, .int .i64 c.qu, .int .i64 c.qo, .int .i64 c.lo, .int .i64 c.sl, .int .i64 c.rt, .int .i64 c.cp, .int .i64 c.tr, .int .i64 c.de, .int .i64 c.wi]) → (Since w W' ∧ Blk W' w.heap.size 23 #[.int .i64 c.ca, .int .i64 c.fl, .int .i64 c.ft, .int .i64 c.se, .int .i64 c.dr, .int .i64 c.dw, .int .i64 c.ho, .int .i64 c.re, .int .i64 c.yi, .int .i64 c.qu, .int .i64 c.qo, .int .i64 c.lo, .int .i64 c.sl, .int .i64 c.rt, .int .i64 c.cp, .int .i64 c.tr, .int .i64 c.de, .int .i64 c.wi]) := fun W W' k ⟨h, h0⟩ => ⟨h.trans k, keep_blk k h0⟩
  have hrS : (fun W : World => Since w W ∧ Blk W w.heap.size 23 #[.int .i64 c.ca, .int .i64 c.fl, .int .i64 c.ft, .int .i64 c.se, .int .i64 c.dr, .int .i64 c.dw, .int .i64 c.ho, .int .i64 c.re, .int .i64 c.yi, .int .i64 c.qu, .int .i64 c.qo, .int .i64 c.lo, .int .i64 c.sl, .int .i64 c.rt, .int .i64 c.cp, .int .i64 c.tr, .int .i64 c.de, .int .i64 c.wi]) w1 := ⟨HS1.out, HBC1.out⟩
  have HRK := Lib.hid hrK
  have HRD := Lib.hid (show (fun W : World => Since w W ∧ Blk W w.heap.size 23 #[.int .i64 c.ca, .int .i64 c.fl, .int .i64 c.ft, .int .i64 c.se, .int .i64 c.dr, .int .i64 c.dw, .int .i64 c.ho, .int .i64 c.re, .int .i64 c.yi, .int .i64 c.qu, .int .i64 c.qo, .int .i64 c.lo, .int .i64 c.sl, .int .i64 c.rt, .int .i64 c.cp, .int .i64 c.tr, .int .i64 c.de, .int .i64 c.wi]) (World.drew w1) from ⟨Since.drew hrS.1, hrS.2⟩)
  clear hrK hrS
  refine wp_region_held_drew (S := fun W : World => Since w W ∧ Blk W w.heap.size 23 #[.int .i64 c.ca, .int .i64 c.fl, .int .i64 c.ft, .int .i64 c.se, .int .i64 c.dr, .int .i64 c.dw, .int .i64 c.ho, .int .i64 c.re, .int .i64 c.yi, .int .i64 c.qu, .int .i64 c.qo, .int .i64 c.lo, .int .i64 c.sl, .int .i64 c.rt, .int .i64 c.cp, .int .i64 c.tr, .int .i64 c.de, .int .i64 c.wi]) (by kernel_rfl) HRD.out (fun hHeld => ?_)
  refine wpAnyH_ready (rs := [0]) (by kernel_rfl) (by simp) ?_
  refine AllReadyH.cons (o := ?o1__0) ?h1__0 (fun K hK => ?_) AllReadyH.nil
  case h1__0 => (first | (simp only [gA, gB, gC]; done) | (simp only [gA, gB, gC]; exact rfl))
  (try go_simp)
  refine (ans _).mono ?_
  rintro e w2 ⟨rfl, hb⟩
  (try go_wp2_with fail)
  refine hK.out _ _ (by (apply HRK.out; exact hb; exact hHeld)) (fun hHeld2 => ?_)
  clear hK K hHeld hb
  have hHeld := hHeld2
  clear hHeld2
  (try simp only [Act.put, sA, sB, sC])
  refine wpAnyH_take (i := 1) (oi := ?o1__1) (v := .bool true) ?h1__1 (by kernel_rfl) (by kernel_rfl) (by kernel_rfl) ?q1__1 ?y1__1 (by assumption) ?_
  case h1__1 => (first | (simp only [gA, gB, gC]; done) | (simp only [gA, gB, gC]; exact rfl))
  case q1__1 => exact fun _ _ _ h => h
  case y1__1 => (refine Or.inl ⟨rfl, ?_⟩; intro w hSw; (first | rfl | (go_simp; (try with_reducible rfl))))
  (try simp only [Act.put, sA, sB, sC])
  refine wpAnyH_take (i := 2) (oi := ?o1__2) (v := .agg #[.int .i64 c.ca, .int .i64 c.fl, .int .i64 c.ft, .int .i64 c.se, .int .i64 c.dr, .int .i64 c.dw, .int .i64 c.ho, .int .i64 c.re, .int .i64 c.yi, .int .i64 c.qu, .int .i64 c.qo, .int .i64 c.lo, .int .i64 c.sl, .int .i64 c.rt, .int .i64 c.cp, .int .i64 c.tr, .int .i64 c.de, .int .i64 c.wi]) ?h1__2 (by kernel_rfl) (by kernel_rfl) (by kernel_rfl) ?q1__2 ?y1__2 (by assumption) ?_
  case h1__2 => (first | (simp only [gA, gB, gC]; done) | (simp only [gA, gB, gC]; exact rfl))
  case q1__2 => exact fun _ _ _ h => h
  case y1__2 => (refine Or.inl ⟨rfl, ?_⟩; intro w hSw; exact exec_load_row 23 _ _ hSw.2 rfl rfl Try.underlying23 rfl (by kernel_rfl))
  (try simp only [Act.put, sA, sB, sC])
  refine wpAnyH_take (i := 4) (oi := ?o1__4) (v := .agg #[.int .i64 c.ca, .int .i64 c.fl, .int .i64 c.ft, .int .i64 c.se, .int .i64 c.dr, .int .i64 c.dw, .int .i64 c.ho, .int .i64 c.re, .int .i64 c.yi, .int .i64 c.qu, .int .i64 c.qo, .int .i64 c.lo, .int .i64 c.sl, .int .i64 c.rt, .int .i64 c.cp, .int .i64 c.tr, .int .i64 c.de, .int .i64 c.wi]) ?h1__4 (by kernel_rfl) (by kernel_rfl) (by kernel_rfl) ?q1__4 ?y1__4 (by assumption) ?_
  case h1__4 => (first | (simp only [gA, gB, gC]; done) | (simp only [gA, gB, gC]; exact rfl))
  case q1__4 => exact fun _ _ _ h => h
  case y1__4 => (refine Or.inl ⟨rfl, ?_⟩; intro w hSw; exact exec_load_row 23 _ _ hSw.2 rfl rfl Try.underlying23 rfl (by kernel_rfl))
  (try simp only [Act.put, sA, sB, sC])
  refine wpAnyH_ready (rs := [3]) (by kernel_rfl) (by simp) ?_
  refine AllReadyH.cons (o := ?o1__3) ?h1__3 (fun K hK => ?_) AllReadyH.nil
  case h1__3 => (first | (simp only [gA, gB, gC]; done) | (simp only [gA, gB, gC]; exact rfl))
  (try go_simp)
  refine (tripV c (trV c) _ rfl).mono ?_
  rintro e w3 ⟨rfl, hb⟩
  (try go_wp2_with fail)
  refine hK.out _ _ (by (apply HRK.out; exact hb; exact hHeld)) (fun hHeld2 => ?_)
  clear hK K hHeld hb
  have hHeld := hHeld2
  clear hHeld2
  (try simp only [Act.put, sA, sB, sC])
  refine wpAnyH_ready (rs := [5]) (by kernel_rfl) (by simp) ?_
  refine AllReadyH.cons (o := ?o1__5) ?h1__5 (fun K hK => ?_) AllReadyH.nil
  case h1__5 => (first | (simp only [gA, gB, gC]; done) | (simp only [gA, gB, gC]; exact rfl))
  (try go_simp)
  refine (tripR c _).mono ?_
  rintro e w4 ⟨rfl, hb⟩
  (try go_wp2_with fail)
  refine hK.out _ _ (by (apply HRK.out; exact hb; exact hHeld)) (fun hHeld2 => ?_)
  clear hK K hHeld hb
  have hHeld := hHeld2
  clear hHeld2
  (try simp only [Act.put, sA, sB, sC])
  refine wpAnyH_take (i := 6) (oi := ?o1__6) (v := .bool true) ?h1__6 (by kernel_rfl) (by kernel_rfl) (by kernel_rfl) ?q1__6 ?y1__6 (by assumption) ?_
  case h1__6 => (first | (simp only [gA, gB, gC]; done) | (simp only [gA, gB, gC]; exact rfl))
  case q1__6 => exact fun _ _ _ h => h
  case y1__6 => (refine Or.inl ⟨rfl, ?_⟩; intro w hSw; (go_simp; (try with_reducible rfl)))
  (try simp only [Act.put, sA, sB, sC])
  refine wpAnyH_take (i := 7) (oi := ?o1__7) (v := .bool true) ?h1__7 (by kernel_rfl) (by kernel_rfl) (by kernel_rfl) ?q1__7 ?y1__7 (by assumption) ?_
  case h1__7 => (first | (simp only [gA, gB, gC]; done) | (simp only [gA, gB, gC]; exact rfl))
  case q1__7 => exact fun _ _ _ h => h
  case y1__7 => (refine Or.inl ⟨rfl, ?_⟩; intro w hSw; (first | rfl | (go_simp; (try with_reducible rfl))))
  (try simp only [Act.put, sA, sB, sC])
  refine wpAnyH_take (i := 8) (oi := ?o1__8) (v := .bool true) ?h1__8 (by kernel_rfl) (by kernel_rfl) (by kernel_rfl) ?q1__8 ?y1__8 (by assumption) ?_
  case h1__8 => (first | (simp only [gA, gB, gC]; done) | (simp only [gA, gB, gC]; exact rfl))
  case q1__8 => exact fun _ _ _ h => h
  case y1__8 => (refine Or.inl ⟨rfl, ?_⟩; intro w hSw; (first | rfl | (go_simp; (try with_reducible rfl))))
  (try simp only [Act.put, sA, sB, sC])
  refine wpAnyH_take (i := 9) (oi := ?o1__9) (v := .int .i64 n) ?h1__9 (by kernel_rfl) (by kernel_rfl) (by kernel_rfl) ?q1__9 ?y1__9 (by assumption) ?_
  case h1__9 => (first | (simp only [gA, gB, gC]; done) | (simp only [gA, gB, gC]; exact rfl))
  case q1__9 => exact fun _ _ _ h => h
  case y1__9 => (refine Or.inl ⟨rfl, ?_⟩; intro w hSw; (first | rfl | (go_simp; (try with_reducible rfl))))
  (try simp only [Act.put, sA, sB, sC])
  refine wpAnyH_take (i := 11) (oi := ?o1__11) (v := .int .i64 n) ?h1__11 (by kernel_rfl) (by kernel_rfl) (by kernel_rfl) ?q1__11 ?y1__11 (by assumption) ?_
  case h1__11 => (first | (simp only [gA, gB, gC]; done) | (simp only [gA, gB, gC]; exact rfl))
  case q1__11 => exact fun _ _ _ h => h
  case y1__11 => (refine Or.inl ⟨rfl, ?_⟩; intro w hSw; (first | rfl | (go_simp; (try with_reducible rfl))))
  (try simp only [Act.put, sA, sB, sC])
  refine wpAnyH_ready (rs := [10]) (by kernel_rfl) (by simp) ?_
  refine AllReadyH.cons (o := ?o1__10) ?h1__10 (fun K hK => ?_) AllReadyH.nil
  case h1__10 => (first | (simp only [gA, gB, gC]; done) | (simp only [gA, gB, gC]; exact rfl))
  (try go_simp)
  refine (spanV n (sp n) _ rfl).mono ?_
  rintro e w' ⟨rfl, rfl⟩
  (try go_wp2_with fail)
  refine hK.out _ _ hHeld (fun hHeld2 => ?_)
  clear hK K hHeld2
  (try simp only [Act.put, sA, sB, sC])
  refine wpAnyH_ready (rs := [12]) (by kernel_rfl) (by simp) ?_
  refine AllReadyH.cons (o := ?o1__12) ?h1__12 (fun K hK => ?_) AllReadyH.nil
  case h1__12 => (first | (simp only [gA, gB, gC]; done) | (simp only [gA, gB, gC]; exact rfl))
  (try go_simp)
  refine (spanR n _).mono ?_
  rintro e w' ⟨rfl, rfl⟩
  (try go_wp2_with fail)
  refine hK.out _ _ hHeld (fun hHeld2 => ?_)
  clear hK K hHeld2
  (try simp only [Act.put, sA, sB, sC])
  refine wpAnyH_take (i := 13) (oi := ?o1__13) (v := .bool true) ?h1__13 (by kernel_rfl) (by kernel_rfl) (by kernel_rfl) ?q1__13 ?y1__13 (by assumption) ?_
  case h1__13 => (first | (simp only [gA, gB, gC]; done) | (simp only [gA, gB, gC]; exact rfl))
  case q1__13 => exact fun _ _ _ h => h
  case y1__13 => (refine Or.inl ⟨rfl, ?_⟩; intro w hSw; (go_simp; (try with_reducible rfl)))
  (try simp only [Act.put, sA, sB, sC])
  refine wpAnyH_take (i := 14) (oi := ?o1__14) (v := .bool true) ?h1__14 (by kernel_rfl) (by kernel_rfl) (by kernel_rfl) ?q1__14 ?y1__14 (by assumption) ?_
  case h1__14 => (first | (simp only [gA, gB, gC]; done) | (simp only [gA, gB, gC]; exact rfl))
  case q1__14 => exact fun _ _ _ h => h
  case y1__14 => (refine Or.inl ⟨rfl, ?_⟩; intro w hSw; (first | rfl | (go_simp; (try with_reducible rfl))))
  (try simp only [Act.put, sA, sB, sC])
  refine wpAnyH_take (i := 15) (oi := ?o1__15) (v := .bool true) ?h1__15 (by kernel_rfl) (by kernel_rfl) (by kernel_rfl) ?q1__15 ?y1__15 (by assumption) ?_
  case h1__15 => (first | (simp only [gA, gB, gC]; done) | (simp only [gA, gB, gC]; exact rfl))
  case q1__15 => exact fun _ _ _ h => h
  case y1__15 => (refine Or.inl ⟨rfl, ?_⟩; intro w hSw; (first | rfl | (go_simp; (try with_reducible rfl))))
  (try simp only [Act.put, sA, sB, sC])
  refine wpAnyH_done (by kernel_rfl) ?_ _
  have HSd1 := Lib.hid hHeld.1
  have HBCd1 := Lib.hid (hHeld.2)
  clear hHeld HRK HRD HS1 HBC1
  (try go_wp2_with fail)
  go_ret
  exact ⟨rfl, HSd1.out⟩
set_option maxHeartbeats 4000000 in
theorem nones (l : LeaseV) (w : World) : Calls Try.prog 10 #[.agg #[.int .i64 l.se, .int .i64 l.fl, .int .i64 l.fm, .int .i64 l.to, .int .i64 l.ma, .int .i64 l.ca, .int .i64 l.ph, .int .i64 l.un, .int .i64 l.re, .int .i64 l.gr]] w fun e w' => e = .returned (.bool true) ∧ Since w w' := by
  go_enter Try.func10, Try.ntmps10
  go_upto_region 1 with fail
  obtain ⟨w1, hw1⟩ : ∃ w1, w1 = (w.alloc (.cells #[.int .i64 l.se, .int .i64 l.fl, .int .i64 l.fm, .int .i64 l.to, .int .i64 l.ma, .int .i64 l.ca, .int .i64 l.ph, .int .i64 l.un, .int .i64 l.re, .int .i64 l.gr] 56)) := ⟨_, rfl⟩
  rw [← hw1]
  have HBL1 := Lib.hid (show Blk w1 (w.heap.size) 56 #[.int .i64 l.se, .int .i64 l.fl, .int .i64 l.fm, .int .i64 l.to, .int .i64 l.ma, .int .i64 l.ca, .int .i64 l.ph, .int .i64 l.un, .int .i64 l.re, .int .i64 l.gr] by rw [hw1]; exact Blk.at_ (by (try simp only [size_alloc])) _ _)
  have HS1 := Lib.hid (show Since w w1 by rw [hw1]; exact Since.alloc (Since.refl w) _)
  have hNE : w.heap.size ≤ w.heap.size := by omega
  have HNE := Lib.hid hNE
  clear hNE hw1
  have HNE3 := Lib.hid (show w.heap.size ≤ w.heap.size from HNE.out)
  clear HNE
  refine wp_region_lit ?_
  refine wpList_q (by rfl) (.pointer none) ?he ?_
  case he => (first | rfl | (go_simp; (try with_reducible rfl)))
  (try simp only [Act.put, sA, sB, sC])
  refine wpList_nil ?_
  go_upto_region 2 with fail
  refine wp_region_lit ?_
  refine wpList_q (by rfl) (.pointer none) ?he ?_
  case he => (first | rfl | (go_simp; (try with_reducible rfl)))
  (try simp only [Act.put, sA, sB, sC])
  refine wpList_q (by rfl) (.pointer (some ⟨w.heap.size, 0, none⟩)) ?he ?_
  case he => (first | rfl | (go_simp; (try with_reducible rfl)))
  (try simp only [Act.put, sA, sB, sC])
  refine wpList_q (by rfl) (.pointer (some ⟨w.heap.size, 0, none⟩)) ?he ?_
  case he => (first | rfl | (go_simp; (try with_reducible rfl)))
  (try simp only [Act.put, sA, sB, sC])
  refine wpList_q (by rfl) (.int .i64 l.se) ?he ?_
  case he => exact exec_cell 3 _ _ HBL1.out rfl rfl rfl Try.underlying3 rfl
  (try simp only [Act.put, sA, sB, sC])
  refine wpList_wp (by rfl) (fun K hK => ?_)
  (try go_simp)
  refine (endNil l.se _).mono ?_
  rintro e w2 ⟨rfl, hb⟩
  (try go_wp2_with fail)
  refine hK.out _ _ ?_
  clear hK K
  (try simp only [Act.put, sA, sB, sC])
  have HS2 := Lib.hid (Since.trans HS1.out hb)
  have HBL2 := Lib.hid (keep_blk hb HBL1.out)
  clear HS1 HBL1
  clear hb
  refine wpList_q (by rfl) (.tuple #[.agg #[.int .i64 0, .int .i64 0, .int .i64 0, .int .i64 0, .int .i64 0, .int .i64 0, .int .i64 0, .int .i64 0, .int .i64 0, .int .i64 0], .bool false]) ?he ?_
  case he => (first | rfl | (go_simp; (try with_reducible rfl)))
  (try simp only [Act.put, sA, sB, sC])
  refine wpList_q (by rfl) (.agg #[.int .i64 0, .int .i64 0, .int .i64 0, .int .i64 0, .int .i64 0, .int .i64 0, .int .i64 0, .int .i64 0, .int .i64 0, .int .i64 0]) ?he ?_
  case he => (first | rfl | (go_simp; (try with_reducible rfl)))
  (try simp only [Act.put, sA, sB, sC])
  refine wpList_q (by rfl) (.bool false) ?he ?_
  case he => (first | rfl | (go_simp; (try with_reducible rfl)))
  (try simp only [Act.put, sA, sB, sC])
  refine wpList_wp (by rfl) (fun K hK => ?_)
  refine wp_new (fun b => .pointer (some ⟨b, 0, none⟩)) 56 #[.int .i64 0, .int .i64 0, .int .i64 0, .int .i64 0, .int .i64 0, .int .i64 0, .int .i64 0, .int .i64 0, .int .i64 0, .int .i64 0] (by rintro b rfl; first | rfl | kernel_rfl) ?_
  intro bn4 w3 hge hB hb
  refine hK.out _ _ ?_
  clear hK K
  (try simp only [Act.put, sA, sB, sC])
  have HNn4L := Lib.hid (show bn4 ≠ w.heap.size by have := Blk.lt HBL2.out; omega)
  have HGn4 := Lib.hid (show w.heap.size ≤ bn4 by have := Since.size HS2.out; omega)
  have HS3 := Lib.hid (Since.trans HS2.out hb)
  have HBL3 := Lib.hid (keep_blk hb HBL2.out)
  clear HS2 HBL2
  clear hb hge
  have HBn43 := Lib.hid hB
  clear hB
  refine wpList_wp (by rfl) (fun K hK => ?_)
  refine wp_st_row 56 _ _ rfl #[.int .i64 0, .int .i64 0, .int .i64 0, .int .i64 0, .int .i64 0, .int .i64 0, .int .i64 0, .int .i64 0, .int .i64 0, .int .i64 0] rfl rfl (HasRow.of HBn43.out rfl) rfl (by simp [Value.oneCell']) (by kernel_rfl) ?_
  intro w4 hw
  refine hK.out _ _ ?_
  clear hK K
  (try simp only [Act.put, sA, sB, sC])
  have HS4 := Lib.hid (show Since w w4 by rw [hw]; exact Since.setRow HS3.out HGn4.out _)
  have HBL4 := Lib.hid (show Blk w4 w.heap.size 56 #[.int .i64 l.se, .int .i64 l.fl, .int .i64 l.fm, .int .i64 l.to, .int .i64 l.ma, .int .i64 l.ca, .int .i64 l.ph, .int .i64 l.un, .int .i64 l.re, .int .i64 l.gr] by rw [hw]; exact Blk.row_far HBL3.out (Ne.symm HNn4L.out) _)
  have HBn44 := Lib.hid (show Blk w4 bn4 56 #[.int .i64 0, .int .i64 0, .int .i64 0, .int .i64 0, .int .i64 0, .int .i64 0, .int .i64 0, .int .i64 0, .int .i64 0, .int .i64 0] by rw [hw]; exact Blk.row HBn43.out _)
  clear hw HS3 HBL3 HBn43
  refine wpList_q (by rfl) (.bool false) ?he ?_
  case he => (first | rfl | (go_simp; (try with_reducible rfl)))
  (try simp only [Act.put, sA, sB, sC])
  refine wpList_nil ?_
  go_upto_region 3 with fail
  refine wp_region_lit ?_
  refine wpList_q (by rfl) (.pointer none) ?he ?_
  case he => (first | rfl | (go_simp; (try with_reducible rfl)))
  (try simp only [Act.put, sA, sB, sC])
  refine wpList_q (by rfl) (.pointer (some ⟨w.heap.size, 0, none⟩)) ?he ?_
  case he => (first | rfl | (go_simp; (try with_reducible rfl)))
  (try simp only [Act.put, sA, sB, sC])
  refine wpList_q (by rfl) (.pointer (some ⟨w.heap.size, 0, none⟩)) ?he ?_
  case he => (first | rfl | (go_simp; (try with_reducible rfl)))
  (try simp only [Act.put, sA, sB, sC])
  refine wpList_q (by rfl) (.int .i64 l.se) ?he ?_
  case he => exact exec_cell 3 _ _ HBL4.out rfl rfl rfl Try.underlying3 rfl
  (try simp only [Act.put, sA, sB, sC])
  refine wpList_wp (by rfl) (fun K hK => ?_)
  (try go_simp)
  refine (ofFNil l.se _).mono ?_
  rintro e w5 ⟨rfl, hb⟩
  (try go_wp2_with fail)
  refine hK.out _ _ ?_
  clear hK K
  (try simp only [Act.put, sA, sB, sC])
  have HS5 := Lib.hid (Since.trans HS4.out hb)
  have HBL5 := Lib.hid (keep_blk hb HBL4.out)
  clear HS4 HBL4
  clear hb
  refine wpList_q (by rfl) (.tuple #[.agg #[.int .i64 0, .int .i64 0, .int .i64 0, .int .i64 0, .int .i64 0, .int .i64 0, .int .i64 0, .int .i64 0, .int .i64 0, .int .i64 0], .bool false]) ?he ?_
  case he => (first | rfl | (go_simp; (try with_reducible rfl)))
  (try simp only [Act.put, sA, sB, sC])
  refine wpList_q (by rfl) (.agg #[.int .i64 0, .int .i64 0, .int .i64 0, .int .i64 0, .int .i64 0, .int .i64 0, .int .i64 0, .int .i64 0, .int .i64 0, .int .i64 0]) ?he ?_
  case he => (first | rfl | (go_simp; (try with_reducible rfl)))
  (try simp only [Act.put, sA, sB, sC])
  refine wpList_q (by rfl) (.bool false) ?he ?_
  case he => (first | rfl | (go_simp; (try with_reducible rfl)))
  (try simp only [Act.put, sA, sB, sC])
  refine wpList_wp (by rfl) (fun K hK => ?_)
  refine wp_new (fun b => .pointer (some ⟨b, 0, none⟩)) 56 #[.int .i64 0, .int .i64 0, .int .i64 0, .int .i64 0, .int .i64 0, .int .i64 0, .int .i64 0, .int .i64 0, .int .i64 0, .int .i64 0] (by rintro b rfl; first | rfl | kernel_rfl) ?_
  intro bn6 w6 hge hB hb
  refine hK.out _ _ ?_
  clear hK K
  (try simp only [Act.put, sA, sB, sC])
  have HNn6L := Lib.hid (show bn6 ≠ w.heap.size by have := Blk.lt HBL5.out; omega)
  have HGn6 := Lib.hid (show w.heap.size ≤ bn6 by have := Since.size HS5.out; omega)
  have HS6 := Lib.hid (Since.trans HS5.out hb)
  have HBL6 := Lib.hid (keep_blk hb HBL5.out)
  clear HS5 HBL5
  clear hb hge
  have HBn66 := Lib.hid hB
  clear hB
  refine wpList_wp (by rfl) (fun K hK => ?_)
  refine wp_st_row 56 _ _ rfl #[.int .i64 0, .int .i64 0, .int .i64 0, .int .i64 0, .int .i64 0, .int .i64 0, .int .i64 0, .int .i64 0, .int .i64 0, .int .i64 0] rfl rfl (HasRow.of HBn66.out rfl) rfl (by simp [Value.oneCell']) (by kernel_rfl) ?_
  intro w7 hw
  refine hK.out _ _ ?_
  clear hK K
  (try simp only [Act.put, sA, sB, sC])
  have HS7 := Lib.hid (show Since w w7 by rw [hw]; exact Since.setRow HS6.out HGn6.out _)
  have HBL7 := Lib.hid (show Blk w7 w.heap.size 56 #[.int .i64 l.se, .int .i64 l.fl, .int .i64 l.fm, .int .i64 l.to, .int .i64 l.ma, .int .i64 l.ca, .int .i64 l.ph, .int .i64 l.un, .int .i64 l.re, .int .i64 l.gr] by rw [hw]; exact Blk.row_far HBL6.out (Ne.symm HNn6L.out) _)
  have HBn67 := Lib.hid (show Blk w7 bn6 56 #[.int .i64 0, .int .i64 0, .int .i64 0, .int .i64 0, .int .i64 0, .int .i64 0, .int .i64 0, .int .i64 0, .int .i64 0, .int .i64 0] by rw [hw]; exact Blk.row HBn66.out _)
  clear hw HS6 HBL6 HBn66
  refine wpList_q (by rfl) (.bool false) ?he ?_
  case he => (first | rfl | (go_simp; (try with_reducible rfl)))
  (try simp only [Act.put, sA, sB, sC])
  refine wpList_nil ?_
  go_upto_region 4 with fail
  refine wp_region_lit ?_
  refine wpList_q (by rfl) (.pointer none) ?he ?_
  case he => (first | rfl | (go_simp; (try with_reducible rfl)))
  (try simp only [Act.put, sA, sB, sC])
  refine wpList_q (by rfl) (.pointer (some ⟨w.heap.size, 5, none⟩)) ?he ?_
  case he => (first | rfl | (go_simp; (try with_reducible rfl)))
  (try simp only [Act.put, sA, sB, sC])
  refine wpList_q (by rfl) (.int .i64 l.ca) ?he ?_
  case he => exact exec_cell 3 _ _ HBL7.out rfl rfl rfl Try.underlying3 rfl
  (try simp only [Act.put, sA, sB, sC])
  refine wpList_wp (by rfl) (fun K hK => ?_)
  (try go_simp)
  refine (carFNil l.ca _).mono ?_
  rintro e w8 ⟨rfl, hb⟩
  (try go_wp2_with fail)
  refine hK.out _ _ ?_
  clear hK K
  (try simp only [Act.put, sA, sB, sC])
  have HS8 := Lib.hid (Since.trans HS7.out hb)
  have HBL8 := Lib.hid (keep_blk hb HBL7.out)
  clear HS7 HBL7
  clear hb
  refine wpList_q (by rfl) (.tuple #[.agg #[.int .i64 0, .int .i64 0, .int .i64 0, .int .i64 0, .int .i64 0, .int .i64 0, .int .i64 0, .int .i64 0, .int .i64 0, .int .i64 0], .bool false]) ?he ?_
  case he => (first | rfl | (go_simp; (try with_reducible rfl)))
  (try simp only [Act.put, sA, sB, sC])
  refine wpList_q (by rfl) (.agg #[.int .i64 0, .int .i64 0, .int .i64 0, .int .i64 0, .int .i64 0, .int .i64 0, .int .i64 0, .int .i64 0, .int .i64 0, .int .i64 0]) ?he ?_
  case he => (first | rfl | (go_simp; (try with_reducible rfl)))
  (try simp only [Act.put, sA, sB, sC])
  refine wpList_q (by rfl) (.bool false) ?he ?_
  case he => (first | rfl | (go_simp; (try with_reducible rfl)))
  (try simp only [Act.put, sA, sB, sC])
  refine wpList_wp (by rfl) (fun K hK => ?_)
  refine wp_new (fun b => .pointer (some ⟨b, 0, none⟩)) 56 #[.int .i64 0, .int .i64 0, .int .i64 0, .int .i64 0, .int .i64 0, .int .i64 0, .int .i64 0, .int .i64 0, .int .i64 0, .int .i64 0] (by rintro b rfl; first | rfl | kernel_rfl) ?_
  intro bn8 w9 hge hB hb
  refine hK.out _ _ ?_
  clear hK K
  (try simp only [Act.put, sA, sB, sC])
  have HNn8L := Lib.hid (show bn8 ≠ w.heap.size by have := Blk.lt HBL8.out; omega)
  have HGn8 := Lib.hid (show w.heap.size ≤ bn8 by have := Since.size HS8.out; omega)
  have HS9 := Lib.hid (Since.trans HS8.out hb)
  have HBL9 := Lib.hid (keep_blk hb HBL8.out)
  clear HS8 HBL8
  clear hb hge
  have HBn89 := Lib.hid hB
  clear hB
  refine wpList_wp (by rfl) (fun K hK => ?_)
  refine wp_st_row 56 _ _ rfl #[.int .i64 0, .int .i64 0, .int .i64 0, .int .i64 0, .int .i64 0, .int .i64 0, .int .i64 0, .int .i64 0, .int .i64 0, .int .i64 0] rfl rfl (HasRow.of HBn89.out rfl) rfl (by simp [Value.oneCell']) (by kernel_rfl) ?_
  intro w10 hw
  refine hK.out _ _ ?_
  clear hK K
  (try simp only [Act.put, sA, sB, sC])
  have HS10 := Lib.hid (show Since w w10 by rw [hw]; exact Since.setRow HS9.out HGn8.out _)
  have HBL10 := Lib.hid (show Blk w10 w.heap.size 56 #[.int .i64 l.se, .int .i64 l.fl, .int .i64 l.fm, .int .i64 l.to, .int .i64 l.ma, .int .i64 l.ca, .int .i64 l.ph, .int .i64 l.un, .int .i64 l.re, .int .i64 l.gr] by rw [hw]; exact Blk.row_far HBL9.out (Ne.symm HNn8L.out) _)
  have HBn810 := Lib.hid (show Blk w10 bn8 56 #[.int .i64 0, .int .i64 0, .int .i64 0, .int .i64 0, .int .i64 0, .int .i64 0, .int .i64 0, .int .i64 0, .int .i64 0, .int .i64 0] by rw [hw]; exact Blk.row HBn89.out _)
  clear hw HS9 HBL9 HBn89
  refine wpList_q (by rfl) (.bool false) ?he ?_
  case he => (first | rfl | (go_simp; (try with_reducible rfl)))
  (try simp only [Act.put, sA, sB, sC])
  refine wpList_nil ?_
  go_upto_region 5 with fail
  refine wp_region_lit ?_
  refine wpList_wp (by rfl) (fun K hK => ?_)
  (try go_simp)
  refine (configT _).mono ?_
  rintro e w11 ⟨rfl, hb⟩
  (try go_wp2_with fail)
  refine hK.out _ _ ?_
  clear hK K
  (try simp only [Act.put, sA, sB, sC])
  have HS11 := Lib.hid (Since.trans HS10.out hb)
  have HBL11 := Lib.hid (keep_blk hb HBL10.out)
  clear HS10 HBL10
  clear hb
  refine wpList_wp (by rfl) (fun K hK => ?_)
  (try go_simp)
  refine (newV w.heap.size kC _ (Since.size HS11.out)).mono ?_
  rintro e w12 ⟨t1, rfl, hT, hge, hb⟩
  (try go_wp2_with fail)
  refine hK.out _ _ ?_
  clear hK K
  (try simp only [Act.put, sA, sB, sC])
  have HIL_t := Lib.hid (show w.heap.size ∉ [t1] by have := Blk.lt HBL11.out; simp; omega)
  have HS12 := Lib.hid (Since.trans HS11.out hb)
  have HBL12 := Lib.hid (keep_blk hb HBL11.out)
  clear HS11 HBL11
  clear hb
  have HFt := Lib.hid hT
  clear hT hge
  refine wpList_q (by rfl) (.pointer (some ⟨t1, 0, none⟩)) ?he ?_
  case he => (first | rfl | (go_simp; (try with_reducible rfl)))
  (try simp only [Act.put, sA, sB, sC])
  refine wpList_nil ?_
  go_upto_region 6 with fail
  refine wp_region_lit ?_
  refine wpList_q (by rfl) (.pointer (some ⟨t1, 0, none⟩)) ?he ?_
  case he => (first | rfl | (go_simp; (try with_reducible rfl)))
  (try simp only [Act.put, sA, sB, sC])
  refine wpList_wp (by rfl) (fun K hK => ?_)
  (try go_simp)
  refine (oneT _).mono ?_
  rintro e w13 ⟨rfl, hb⟩
  (try go_wp2_with fail)
  refine hK.out _ _ ?_
  clear hK K
  (try simp only [Act.put, sA, sB, sC])
  have HS13 := Lib.hid (Since.trans HS12.out hb)
  have HBL13 := Lib.hid (keep_blk hb HBL12.out)
  have HFt13 := Lib.hid (TO.keep hb HFt.out)
  clear HS12 HBL12 HFt
  clear hb
  refine wpList_wp (by rfl) (fun K hK => ?_)
  (try go_simp)
  refine (putV w.heap.size t1 kC ([]) [t1] oneV _ HFt13.out (by decide) 0 ([oneV]) (by first | rfl | decide | decide +kernel) (by first | rfl | decide | decide +kernel)).mono ?_
  rintro e w14 ⟨St_1, rfl, hobj, hupd, hfar⟩
  (try go_wp2_with fail)
  refine hK.out _ _ ?_
  clear hK K
  (try simp only [Act.put, sA, sB, sC])
  have HS14 := Lib.hid (Since.upd HS13.out hupd (TO.low HFt13.out))
  have HBL14 := Lib.hid (Upd.blk hupd HBL13.out HIL_t.out)
  have HIL_t_14 := Lib.hid (nin_next hfar HIL_t.out (Blk.lt HBL13.out))
  have HFt14 := Lib.hid hobj
  clear hupd hobj hfar HS13 HBL13 HFt13
  refine wpList_nil ?_
  go_upto_region 7 with fail
  refine wp_region_lit ?_
  refine wpList_q (by rfl) (.pointer (some ⟨t1, 0, none⟩)) ?he ?_
  case he => (first | rfl | (go_simp; (try with_reducible rfl)))
  (try simp only [Act.put, sA, sB, sC])
  refine wpList_wp (by rfl) (fun K hK => ?_)
  (try go_simp)
  refine (listV w.heap.size t1 kC [oneV] St_1 _ HFt14.out (by decide) 1 rfl).mono ?_
  rintro e w15 ⟨Ax, cx, rfl, hown, hb⟩
  (try go_wp2_with fail)
  refine hK.out _ _ ?_
  clear hK K
  (try simp only [Act.put, sA, sB, sC])
  have HDx := Lib.hid (show ∀ g ∈ St_1, g ∉ blkOf Ax from fun g hg hA => by have q1 := TO.lt HFt14.out g hg; have q2 := own_low hown g hA; omega)
  have HIL_x := Lib.hid (show w.heap.size ∉ blkOf Ax from fun hA => by have q1 := Blk.lt HBL14.out; have q2 := own_low hown _ hA; omega)
  have hown2 := own_base (lo' := w.heap.size) hown (Since.size HS14.out)
  have HS15 := Lib.hid (Since.trans HS14.out hb)
  have HBL15 := Lib.hid (keep_blk hb HBL14.out)
  have HFt15 := Lib.hid (TO.keep hb HFt14.out)
  clear HS14 HBL14 HFt14
  clear hb
  have HFx := Lib.hid hown2
  clear hown hown2
  refine wpList_q (by rfl) (.slice Ax 1 cx) ?he ?_
  case he => (first | rfl | (go_simp; (try with_reducible rfl)))
  (try simp only [Act.put, sA, sB, sC])
  refine wpList_nil ?_
  go_upto_region 8 with fail
  refine wp_region_lit ?_
  refine wpList_q (by rfl) (.slice Ax 1 cx) ?he ?_
  case he => (first | rfl | (go_simp; (try with_reducible rfl)))
  (try simp only [Act.put, sA, sB, sC])
  refine wpList_q (by rfl) (.int .i64 1) ?he ?_
  case he => (first | rfl | (go_simp; (try with_reducible rfl)))
  (try simp only [Act.put, sA, sB, sC])
  refine wpList_q (by rfl) (.bool false) ?he ?_
  case he => (go_simp; (try with_reducible rfl))
  (try simp only [Act.put, sA, sB, sC])
  refine wpList_nil ?_
  obtain ⟨g, hg⟩ := own_addr HFx.out (by decide)
  subst hg
  go_upto_region 10 with fail
  refine wp_region_lit ?_
  refine wpList_q (by rfl) (.slice (some ⟨g, 0, none⟩) 1 cx) ?he ?_
  case he => (first | rfl | (go_simp; (try with_reducible rfl)))
  (try simp only [Act.put, sA, sB, sC])
  refine wpList_q (by rfl) (.pointer (some ⟨g, 0, none⟩)) ?he ?_
  case he => exact exec_index (i := 0) (s := 10) (off := 0) 24 56 _ _ rfl rfl rfl rfl (by decide) Try.underlying24 (by kernel_rfl)
  (try simp only [Act.put, sA, sB, sC])
  refine wpList_q (by rfl) (.pointer (some ⟨g, 7, none⟩)) ?he ?_
  case he => (first | rfl | (go_simp; (try with_reducible rfl)))
  (try simp only [Act.put, sA, sB, sC])
  refine wpList_wp (by rfl) (fun K hK => ?_)
  obtain ⟨cur, hcur, hcz⟩ : ∃ cur : Array Value, Blk w15 g 56 cur ∧ 10 ≤ cur.size := by
    rcases own_at HFx.out with ⟨h, _⟩ | ⟨g', cur, he, _, hB, hc, _, hs, _⟩
    · cases h
    · simp at he; subst he; exact ⟨cur, hB, by omega⟩
  refine wp_st_cell 3 _ _ rfl (cur.setIfInBounds 7 (.int .i64 99)) (.int .i64 99) rfl rfl hcur (by omega) rfl (by first | rfl | simp [Value.oneCell']) (by kernel_rfl) ?_
  intro w16 hw
  refine hK.out _ _ ?_
  clear hK K
  (try simp only [Act.put, sA, sB, sC])
  clear hcur hcz
  have HS16 := Lib.hid (show Since w w16 by rw [hw]; exact Since.setRow HS15.out (own_low HFx.out g (by simp [blkOf])) _)
  have HBL16 := Lib.hid (show Blk w16 w.heap.size 56 #[.int .i64 l.se, .int .i64 l.fl, .int .i64 l.fm, .int .i64 l.to, .int .i64 l.ma, .int .i64 l.ca, .int .i64 l.ph, .int .i64 l.un, .int .i64 l.re, .int .i64 l.gr] by rw [hw]; exact Blk.row_far HBL15.out (fun h => HIL_x.out (by rw [h]; simp [blkOf])) _)
  have HFt16 := Lib.hid (show TO w.heap.size t1 kC ([oneV]) St_1 w16 by rw [hw]; exact TO.row_far HFt15.out (fun h => HDx.out g h (by simp [blkOf])) _)
  clear hw HS15 HBL15 HFt15 HFx
  refine wpList_nil ?_
  go_upto_region 11 with fail
  refine wp_region_lit ?_
  refine wpList_q (by rfl) (.pointer (some ⟨t1, 0, none⟩)) ?he ?_
  case he => (first | rfl | (go_simp; (try with_reducible rfl)))
  (try simp only [Act.put, sA, sB, sC])
  refine wpList_wp (by rfl) (fun K hK => ?_)
  (try go_simp)
  refine (ofV w.heap.size t1 kC [oneV] St_1 0 oneV true _ HFt16.out (by decide) (by first | rfl | decide | decide +kernel)).mono ?_
  rintro e w17 ⟨rfl, hb⟩
  (try go_wp2_with fail)
  refine hK.out _ _ ?_
  clear hK K
  (try simp only [Act.put, sA, sB, sC])
  have HS17 := Lib.hid (Since.trans HS16.out hb)
  have HBL17 := Lib.hid (keep_blk hb HBL16.out)
  have HFt17 := Lib.hid (TO.keep hb HFt16.out)
  clear HS16 HBL16 HFt16
  clear hb
  refine wpList_q (by rfl) (.tuple #[.agg #[.int .i64 0, .int .i64 0, .int .i64 0, .int .i64 1, .int .i64 5, .int .i64 0, .int .i64 1, .int .i64 0, .int .i64 0, .int .i64 0], .bool true]) ?he ?_
  case he => (first | rfl | (go_simp; (try with_reducible rfl)))
  (try simp only [Act.put, sA, sB, sC])
  refine wpList_q (by rfl) (.agg #[.int .i64 0, .int .i64 0, .int .i64 0, .int .i64 1, .int .i64 5, .int .i64 0, .int .i64 1, .int .i64 0, .int .i64 0, .int .i64 0]) ?he ?_
  case he => (first | rfl | (go_simp; (try with_reducible rfl)))
  (try simp only [Act.put, sA, sB, sC])
  refine wpList_q (by rfl) (.bool true) ?he ?_
  case he => (first | rfl | (go_simp; (try with_reducible rfl)))
  (try simp only [Act.put, sA, sB, sC])
  refine wpList_wp (by rfl) (fun K hK => ?_)
  refine wp_new (fun b => .pointer (some ⟨b, 0, none⟩)) 56 #[.int .i64 0, .int .i64 0, .int .i64 0, .int .i64 0, .int .i64 0, .int .i64 0, .int .i64 0, .int .i64 0, .int .i64 0, .int .i64 0] (by rintro b rfl; first | rfl | kernel_rfl) ?_
  intro bn12 w18 hge hB hb
  refine hK.out _ _ ?_
  clear hK K
  (try simp only [Act.put, sA, sB, sC])
  have HNn12L := Lib.hid (show bn12 ≠ w.heap.size by have := Blk.lt HBL17.out; omega)
  have HGn12 := Lib.hid (show w.heap.size ≤ bn12 by have := Since.size HS17.out; omega)
  have HIn12_t := Lib.hid (TO.far HFt17.out hge)
  have HS18 := Lib.hid (Since.trans HS17.out hb)
  have HBL18 := Lib.hid (keep_blk hb HBL17.out)
  have HFt18 := Lib.hid (TO.keep hb HFt17.out)
  clear HS17 HBL17 HFt17
  clear hb hge
  have HBn1218 := Lib.hid hB
  clear hB
  refine wpList_wp (by rfl) (fun K hK => ?_)
  refine wp_st_row 56 _ _ rfl #[.int .i64 0, .int .i64 0, .int .i64 0, .int .i64 1, .int .i64 5, .int .i64 0, .int .i64 1, .int .i64 0, .int .i64 0, .int .i64 0] rfl rfl (HasRow.of HBn1218.out rfl) rfl (by simp [Value.oneCell']) (by kernel_rfl) ?_
  intro w19 hw
  refine hK.out _ _ ?_
  clear hK K
  (try simp only [Act.put, sA, sB, sC])
  have HS19 := Lib.hid (show Since w w19 by rw [hw]; exact Since.setRow HS18.out HGn12.out _)
  have HBL19 := Lib.hid (show Blk w19 w.heap.size 56 #[.int .i64 l.se, .int .i64 l.fl, .int .i64 l.fm, .int .i64 l.to, .int .i64 l.ma, .int .i64 l.ca, .int .i64 l.ph, .int .i64 l.un, .int .i64 l.re, .int .i64 l.gr] by rw [hw]; exact Blk.row_far HBL18.out (Ne.symm HNn12L.out) _)
  have HBn1219 := Lib.hid (show Blk w19 bn12 56 #[.int .i64 0, .int .i64 0, .int .i64 0, .int .i64 1, .int .i64 5, .int .i64 0, .int .i64 1, .int .i64 0, .int .i64 0, .int .i64 0] by rw [hw]; exact Blk.row HBn1218.out _)
  have HFt_19 := Lib.hid (show TO w.heap.size t1 kC ([oneV]) St_1 w19 by rw [hw]; exact TO.row_far HFt18.out HIn12_t.out _)
  clear hw HS18 HBL18 HBn1218 HFt18
  refine wpList_q (by rfl) (.bool true) ?he ?_
  case he => (first | rfl | (go_simp; (try with_reducible rfl)))
  (try simp only [Act.put, sA, sB, sC])
  refine wpList_nil ?_
  go_upto_region 12 with fail
  have hrK : ∀ W W' : World, Since W W' → (Since w W ∧ Blk W w.heap.size 56 #[.int .i64 l.se, .int .i64 l.fl, .int .i64 l.fm, .int .i64 l.to, .int .i64 l.ma, .int .i64 l.ca, .int .i64 l.ph, .int .i64 l.un, .int .i64 l.re, .int .i64 l.gr] ∧ Blk W bn12 56 #[.int .i64 0, .int .i64 0, .int .i64 0, .int .i64 1, .int .i64 5, .int .i64 0, .int .i64 1, .int .i64 0, .int .i64 0, .int .i64 0]) → (Since w W' ∧ Blk W' w.heap.size 56 #[.int .i64 l.se, .int .i64 l.fl, .int .i64 l.fm, .int .i64 l.to, .int .i64 l.ma, .int .i64 l.ca, .int .i64 l.ph, .int .i64 l.un, .int .i64 l.re, .int .i64 l.gr] ∧ Blk W' bn12 56 #[.int .i64 0, .int .i64 0, .int .i64 0, .int .i64 1, .int .i64 5, .int .i64 0, .int .i64 1, .int .i64 0, .int .i64 0, .int .i64 0]) := fun W W' k ⟨h, h0, h1⟩ => ⟨h.trans k, keep_blk k h0, keep_blk k h1⟩
  have hrS : (fun W : World => Since w W ∧ Blk W w.heap.size 56 #[.int .i64 l.se, .int .i64 l.fl, .int .i64 l.fm, .int .i64 l.to, .int .i64 l.ma, .int .i64 l.ca, .int .i64 l.ph, .int .i64 l.un, .int .i64 l.re, .int .i64 l.gr] ∧ Blk W bn12 56 #[.int .i64 0, .int .i64 0, .int .i64 0, .int .i64 1, .int .i64 5, .int .i64 0, .int .i64 1, .int .i64 0, .int .i64 0, .int .i64 0]) w19 := ⟨HS19.out, HBL19.out, HBn1219.out⟩
  have HRK := Lib.hid hrK
  have HRD := Lib.hid (show (fun W : World => Since w W ∧ Blk W w.heap.size 56 #[.int .i64 l.se, .int .i64 l.fl, .int .i64 l.fm, .int .i64 l.to, .int .i64 l.ma, .int .i64 l.ca, .int .i64 l.ph, .int .i64 l.un, .int .i64 l.re, .int .i64 l.gr] ∧ Blk W bn12 56 #[.int .i64 0, .int .i64 0, .int .i64 0, .int .i64 1, .int .i64 5, .int .i64 0, .int .i64 1, .int .i64 0, .int .i64 0, .int .i64 0]) (World.drew w19) from ⟨Since.drew hrS.1, hrS.2⟩)
  clear hrK hrS
  refine wp_region_held_drew (S := fun W : World => Since w W ∧ Blk W w.heap.size 56 #[.int .i64 l.se, .int .i64 l.fl, .int .i64 l.fm, .int .i64 l.to, .int .i64 l.ma, .int .i64 l.ca, .int .i64 l.ph, .int .i64 l.un, .int .i64 l.re, .int .i64 l.gr] ∧ Blk W bn12 56 #[.int .i64 0, .int .i64 0, .int .i64 0, .int .i64 1, .int .i64 5, .int .i64 0, .int .i64 1, .int .i64 0, .int .i64 0, .int .i64 0]) (by kernel_rfl) HRD.out (fun hHeld => ?_)
  refine wpAnyH_ready (rs := [0]) (by kernel_rfl) (by simp) ?_
  refine AllReadyH.cons (o := ?o12__0) ?h12__0 (fun K hK => ?_) AllReadyH.nil
  case h12__0 => (first | (simp only [gA, gB, gC]; done) | (simp only [gA, gB, gC]; exact rfl))
  (try go_simp)
  refine (ans _).mono ?_
  rintro e w20 ⟨rfl, hb⟩
  (try go_wp2_with fail)
  refine hK.out _ _ (by (apply HRK.out; exact hb; exact hHeld)) (fun hHeld2 => ?_)
  clear hK K hHeld hb
  have hHeld := hHeld2
  clear hHeld2
  (try simp only [Act.put, sA, sB, sC])
  refine wpAnyH_take (i := 1) (oi := ?o12__1) (v := .bool true) ?h12__1 (by kernel_rfl) (by kernel_rfl) (by kernel_rfl) ?q12__1 ?y12__1 (by assumption) ?_
  case h12__1 => (first | (simp only [gA, gB, gC]; done) | (simp only [gA, gB, gC]; exact rfl))
  case q12__1 => exact fun _ _ _ h => h
  case y12__1 => (refine Or.inl ⟨rfl, ?_⟩; intro w hSw; (first | rfl | (go_simp; (try with_reducible rfl))))
  (try simp only [Act.put, sA, sB, sC])
  refine wpAnyH_take (i := 2) (oi := ?o12__2) (v := .pointer none) ?h12__2 (by kernel_rfl) (by kernel_rfl) (by kernel_rfl) ?q12__2 ?y12__2 (by assumption) ?_
  case h12__2 => (first | (simp only [gA, gB, gC]; done) | (simp only [gA, gB, gC]; exact rfl))
  case q12__2 => exact fun _ _ _ h => h
  case y12__2 => (refine Or.inl ⟨rfl, ?_⟩; intro w hSw; (first | rfl | (go_simp; (try with_reducible rfl))))
  (try simp only [Act.put, sA, sB, sC])
  refine wpAnyH_take (i := 3) (oi := ?o12__3) (v := .agg #[.int .i64 l.se, .int .i64 l.fl, .int .i64 l.fm, .int .i64 l.to, .int .i64 l.ma, .int .i64 l.ca, .int .i64 l.ph, .int .i64 l.un, .int .i64 l.re, .int .i64 l.gr]) ?h12__3 (by kernel_rfl) (by kernel_rfl) (by kernel_rfl) ?q12__3 ?y12__3 (by assumption) ?_
  case h12__3 => (first | (simp only [gA, gB, gC]; done) | (simp only [gA, gB, gC]; exact rfl))
  case q12__3 => exact fun _ _ _ h => h
  case y12__3 => (refine Or.inl ⟨rfl, ?_⟩; intro w hSw; exact exec_load_row 56 _ _ hSw.2.1 rfl rfl Try.underlying56 rfl (by kernel_rfl))
  (try simp only [Act.put, sA, sB, sC])
  refine wpAnyH_ready (rs := [4]) (by kernel_rfl) (by simp) ?_
  refine AllReadyH.cons (o := ?o12__4) ?h12__4 (fun K hK => ?_) AllReadyH.nil
  case h12__4 => (first | (simp only [gA, gB, gC]; done) | (simp only [gA, gB, gC]; exact rfl))
  (try go_simp)
  refine (putNil l _).mono ?_
  rintro e w21 ⟨rfl, hb⟩
  (try go_wp2_with fail)
  refine hK.out _ _ (by (apply HRK.out; exact hb; exact hHeld)) (fun hHeld2 => ?_)
  clear hK K hHeld hb
  have hHeld := hHeld2
  clear hHeld2
  (try simp only [Act.put, sA, sB, sC])
  refine wpAnyH_take (i := 5) (oi := ?o12__5) (v := .bool true) ?h12__5 (by kernel_rfl) (by kernel_rfl) (by kernel_rfl) ?q12__5 ?y12__5 (by assumption) ?_
  case h12__5 => (first | (simp only [gA, gB, gC]; done) | (simp only [gA, gB, gC]; exact rfl))
  case q12__5 => exact fun _ _ _ h => h
  case y12__5 => (refine Or.inl ⟨rfl, ?_⟩; intro w hSw; (go_simp; (try with_reducible rfl)))
  (try simp only [Act.put, sA, sB, sC])
  refine wpAnyH_take (i := 6) (oi := ?o12__6) (v := .bool true) ?h12__6 (by kernel_rfl) (by kernel_rfl) (by kernel_rfl) ?q12__6 ?y12__6 (by assumption) ?_
  case h12__6 => (first | (simp only [gA, gB, gC]; done) | (simp only [gA, gB, gC]; exact rfl))
  case q12__6 => exact fun _ _ _ h => h
  case y12__6 => (refine Or.inl ⟨rfl, ?_⟩; intro w hSw; (first | rfl | (go_simp; (try with_reducible rfl))))
  (try simp only [Act.put, sA, sB, sC])
  refine wpAnyH_take (i := 7) (oi := ?o12__7) (v := .bool true) ?h12__7 (by kernel_rfl) (by kernel_rfl) (by kernel_rfl) ?q12__7 ?y12__7 (by assumption) ?_
  case h12__7 => (first | (simp only [gA, gB, gC]; done) | (simp only [gA, gB, gC]; exact rfl))
  case q12__7 => exact fun _ _ _ h => h
  case y12__7 => (refine Or.inl ⟨rfl, ?_⟩; intro w hSw; (first | rfl | (go_simp; (try with_reducible rfl))))
  (try simp only [Act.put, sA, sB, sC])
  refine wpAnyH_take (i := 8) (oi := ?o12__8) (v := .pointer none) ?h12__8 (by kernel_rfl) (by kernel_rfl) (by kernel_rfl) ?q12__8 ?y12__8 (by assumption) ?_
  case h12__8 => (first | (simp only [gA, gB, gC]; done) | (simp only [gA, gB, gC]; exact rfl))
  case q12__8 => exact fun _ _ _ h => h
  case y12__8 => (refine Or.inl ⟨rfl, ?_⟩; intro w hSw; (first | rfl | (go_simp; (try with_reducible rfl))))
  (try simp only [Act.put, sA, sB, sC])
  refine wpAnyH_take (i := 9) (oi := ?o12__9) (v := .agg #[.int .i64 l.se, .int .i64 l.fl, .int .i64 l.fm, .int .i64 l.to, .int .i64 l.ma, .int .i64 l.ca, .int .i64 l.ph, .int .i64 l.un, .int .i64 l.re, .int .i64 l.gr]) ?h12__9 (by kernel_rfl) (by kernel_rfl) (by kernel_rfl) ?q12__9 ?y12__9 (by assumption) ?_
  case h12__9 => (first | (simp only [gA, gB, gC]; done) | (simp only [gA, gB, gC]; exact rfl))
  case q12__9 => exact fun _ _ _ h => h
  case y12__9 => (refine Or.inl ⟨rfl, ?_⟩; intro w hSw; exact exec_load_row 56 _ _ hSw.2.1 rfl rfl Try.underlying56 rfl (by kernel_rfl))
  (try simp only [Act.put, sA, sB, sC])
  refine wpAnyH_ready (rs := [10]) (by kernel_rfl) (by simp) ?_
  refine AllReadyH.cons (o := ?o12__10) ?h12__10 (fun K hK => ?_) AllReadyH.nil
  case h12__10 => (first | (simp only [gA, gB, gC]; done) | (simp only [gA, gB, gC]; exact rfl))
  (try go_simp)
  refine (setNil l _).mono ?_
  rintro e w22 ⟨rfl, hb⟩
  (try go_wp2_with fail)
  refine hK.out _ _ (by (apply HRK.out; exact hb; exact hHeld)) (fun hHeld2 => ?_)
  clear hK K hHeld hb
  have hHeld := hHeld2
  clear hHeld2
  (try simp only [Act.put, sA, sB, sC])
  refine wpAnyH_take (i := 11) (oi := ?o12__11) (v := .bool true) ?h12__11 (by kernel_rfl) (by kernel_rfl) (by kernel_rfl) ?q12__11 ?y12__11 (by assumption) ?_
  case h12__11 => (first | (simp only [gA, gB, gC]; done) | (simp only [gA, gB, gC]; exact rfl))
  case q12__11 => exact fun _ _ _ h => h
  case y12__11 => (refine Or.inl ⟨rfl, ?_⟩; intro w hSw; (go_simp; (try with_reducible rfl)))
  (try simp only [Act.put, sA, sB, sC])
  refine wpAnyH_take (i := 12) (oi := ?o12__12) (v := .bool true) ?h12__12 (by kernel_rfl) (by kernel_rfl) (by kernel_rfl) ?q12__12 ?y12__12 (by assumption) ?_
  case h12__12 => (first | (simp only [gA, gB, gC]; done) | (simp only [gA, gB, gC]; exact rfl))
  case q12__12 => exact fun _ _ _ h => h
  case y12__12 => (refine Or.inl ⟨rfl, ?_⟩; intro w hSw; (first | rfl | (go_simp; (try with_reducible rfl))))
  (try simp only [Act.put, sA, sB, sC])
  refine wpAnyH_take (i := 13) (oi := ?o12__13) (v := .bool true) ?h12__13 (by kernel_rfl) (by kernel_rfl) (by kernel_rfl) ?q12__13 ?y12__13 (by assumption) ?_
  case h12__13 => (first | (simp only [gA, gB, gC]; done) | (simp only [gA, gB, gC]; exact rfl))
  case q12__13 => exact fun _ _ _ h => h
  case y12__13 => (refine Or.inl ⟨rfl, ?_⟩; intro w hSw; (first | rfl | (go_simp; (try with_reducible rfl))))
  (try simp only [Act.put, sA, sB, sC])
  refine wpAnyH_take (i := 14) (oi := ?o12__14) (v := .bool false) ?h12__14 (by kernel_rfl) (by kernel_rfl) (by kernel_rfl) ?q12__14 ?y12__14 (by assumption) ?_
  case h12__14 => (first | (simp only [gA, gB, gC]; done) | (simp only [gA, gB, gC]; exact rfl))
  case q12__14 => exact fun _ _ _ h => h
  case y12__14 => (refine Or.inl ⟨rfl, ?_⟩; intro w hSw; (first | rfl | (go_simp; (try with_reducible rfl))))
  (try simp only [Act.put, sA, sB, sC])
  refine wpAnyH_take (i := 15) (oi := ?o12__15) (v := .bool true) ?h12__15 (by kernel_rfl) (by kernel_rfl) (by kernel_rfl) ?q12__15 ?y12__15 (by assumption) ?_
  case h12__15 => (first | (simp only [gA, gB, gC]; done) | (simp only [gA, gB, gC]; exact rfl))
  case q12__15 => exact fun _ _ _ h => h
  case y12__15 => (refine Or.inl ⟨rfl, ?_⟩; intro w hSw; (go_simp; (try with_reducible rfl)))
  (try simp only [Act.put, sA, sB, sC])
  refine wpAnyH_take (i := 16) (oi := ?o12__16) (v := .bool true) ?h12__16 (by kernel_rfl) (by kernel_rfl) (by kernel_rfl) ?q12__16 ?y12__16 (by assumption) ?_
  case h12__16 => (first | (simp only [gA, gB, gC]; done) | (simp only [gA, gB, gC]; exact rfl))
  case q12__16 => exact fun _ _ _ h => h
  case y12__16 => (refine Or.inl ⟨rfl, ?_⟩; intro w hSw; (first | rfl | (go_simp; (try with_reducible rfl))))
  (try simp only [Act.put, sA, sB, sC])
  refine wpAnyH_take (i := 17) (oi := ?o12__17) (v := .bool true) ?h12__17 (by kernel_rfl) (by kernel_rfl) (by kernel_rfl) ?q12__17 ?y12__17 (by assumption) ?_
  case h12__17 => (first | (simp only [gA, gB, gC]; done) | (simp only [gA, gB, gC]; exact rfl))
  case q12__17 => exact fun _ _ _ h => h
  case y12__17 => (refine Or.inl ⟨rfl, ?_⟩; intro w hSw; (first | rfl | (go_simp; (try with_reducible rfl))))
  (try simp only [Act.put, sA, sB, sC])
  refine wpAnyH_take (i := 18) (oi := ?o12__18) (v := .bool false) ?h12__18 (by kernel_rfl) (by kernel_rfl) (by kernel_rfl) ?q12__18 ?y12__18 (by assumption) ?_
  case h12__18 => (first | (simp only [gA, gB, gC]; done) | (simp only [gA, gB, gC]; exact rfl))
  case q12__18 => exact fun _ _ _ h => h
  case y12__18 => (refine Or.inl ⟨rfl, ?_⟩; intro w hSw; (first | rfl | (go_simp; (try with_reducible rfl))))
  (try simp only [Act.put, sA, sB, sC])
  refine wpAnyH_take (i := 19) (oi := ?o12__19) (v := .bool true) ?h12__19 (by kernel_rfl) (by kernel_rfl) (by kernel_rfl) ?q12__19 ?y12__19 (by assumption) ?_
  case h12__19 => (first | (simp only [gA, gB, gC]; done) | (simp only [gA, gB, gC]; exact rfl))
  case q12__19 => exact fun _ _ _ h => h
  case y12__19 => (refine Or.inl ⟨rfl, ?_⟩; intro w hSw; (go_simp; (try with_reducible rfl)))
  (try simp only [Act.put, sA, sB, sC])
  refine wpAnyH_take (i := 20) (oi := ?o12__20) (v := .bool true) ?h12__20 (by kernel_rfl) (by kernel_rfl) (by kernel_rfl) ?q12__20 ?y12__20 (by assumption) ?_
  case h12__20 => (first | (simp only [gA, gB, gC]; done) | (simp only [gA, gB, gC]; exact rfl))
  case q12__20 => exact fun _ _ _ h => h
  case y12__20 => (refine Or.inl ⟨rfl, ?_⟩; intro w hSw; (first | rfl | (go_simp; (try with_reducible rfl))))
  (try simp only [Act.put, sA, sB, sC])
  refine wpAnyH_take (i := 21) (oi := ?o12__21) (v := .bool true) ?h12__21 (by kernel_rfl) (by kernel_rfl) (by kernel_rfl) ?q12__21 ?y12__21 (by assumption) ?_
  case h12__21 => (first | (simp only [gA, gB, gC]; done) | (simp only [gA, gB, gC]; exact rfl))
  case q12__21 => exact fun _ _ _ h => h
  case y12__21 => (refine Or.inl ⟨rfl, ?_⟩; intro w hSw; (first | rfl | (go_simp; (try with_reducible rfl))))
  (try simp only [Act.put, sA, sB, sC])
  refine wpAnyH_take (i := 22) (oi := ?o12__22) (v := .bool false) ?h12__22 (by kernel_rfl) (by kernel_rfl) (by kernel_rfl) ?q12__22 ?y12__22 (by assumption) ?_
  case h12__22 => (first | (simp only [gA, gB, gC]; done) | (simp only [gA, gB, gC]; exact rfl))
  case q12__22 => exact fun _ _ _ h => h
  case y12__22 => (refine Or.inl ⟨rfl, ?_⟩; intro w hSw; (first | rfl | (go_simp; (try with_reducible rfl))))
  (try simp only [Act.put, sA, sB, sC])
  refine wpAnyH_take (i := 23) (oi := ?o12__23) (v := .bool true) ?h12__23 (by kernel_rfl) (by kernel_rfl) (by kernel_rfl) ?q12__23 ?y12__23 (by assumption) ?_
  case h12__23 => (first | (simp only [gA, gB, gC]; done) | (simp only [gA, gB, gC]; exact rfl))
  case q12__23 => exact fun _ _ _ h => h
  case y12__23 => (refine Or.inl ⟨rfl, ?_⟩; intro w hSw; (go_simp; (try with_reducible rfl)))
  (try simp only [Act.put, sA, sB, sC])
  refine wpAnyH_take (i := 24) (oi := ?o12__24) (v := .bool true) ?h12__24 (by kernel_rfl) (by kernel_rfl) (by kernel_rfl) ?q12__24 ?y12__24 (by assumption) ?_
  case h12__24 => (first | (simp only [gA, gB, gC]; done) | (simp only [gA, gB, gC]; exact rfl))
  case q12__24 => exact fun _ _ _ h => h
  case y12__24 => (refine Or.inl ⟨rfl, ?_⟩; intro w hSw; (first | rfl | (go_simp; (try with_reducible rfl))))
  (try simp only [Act.put, sA, sB, sC])
  refine wpAnyH_take (i := 25) (oi := ?o12__25) (v := .bool true) ?h12__25 (by kernel_rfl) (by kernel_rfl) (by kernel_rfl) ?q12__25 ?y12__25 (by assumption) ?_
  case h12__25 => (first | (simp only [gA, gB, gC]; done) | (simp only [gA, gB, gC]; exact rfl))
  case q12__25 => exact fun _ _ _ h => h
  case y12__25 => (refine Or.inl ⟨rfl, ?_⟩; intro w hSw; (first | rfl | (go_simp; (try with_reducible rfl))))
  (try simp only [Act.put, sA, sB, sC])
  refine wpAnyH_take (i := 26) (oi := ?o12__26) (v := .pointer none) ?h12__26 (by kernel_rfl) (by kernel_rfl) (by kernel_rfl) ?q12__26 ?y12__26 (by assumption) ?_
  case h12__26 => (first | (simp only [gA, gB, gC]; done) | (simp only [gA, gB, gC]; exact rfl))
  case q12__26 => exact fun _ _ _ h => h
  case y12__26 => (refine Or.inl ⟨rfl, ?_⟩; intro w hSw; (first | rfl | (go_simp; (try with_reducible rfl))))
  (try simp only [Act.put, sA, sB, sC])
  refine wpAnyH_ready (rs := [27]) (by kernel_rfl) (by simp) ?_
  refine AllReadyH.cons (o := ?o12__27) ?h12__27 (fun K hK => ?_) AllReadyH.nil
  case h12__27 => (first | (simp only [gA, gB, gC]; done) | (simp only [gA, gB, gC]; exact rfl))
  (try go_simp)
  refine (listNil _).mono ?_
  rintro e w23 ⟨rfl, hb⟩
  (try go_wp2_with fail)
  refine hK.out _ _ (by (apply HRK.out; exact hb; exact hHeld)) (fun hHeld2 => ?_)
  clear hK K hHeld hb
  have hHeld := hHeld2
  clear hHeld2
  (try simp only [Act.put, sA, sB, sC])
  refine wpAnyH_take (i := 28) (oi := ?o12__28) (v := .int .i64 0) ?h12__28 (by kernel_rfl) (by kernel_rfl) (by kernel_rfl) ?q12__28 ?y12__28 (by assumption) ?_
  case h12__28 => (first | (simp only [gA, gB, gC]; done) | (simp only [gA, gB, gC]; exact rfl))
  case q12__28 => exact fun _ _ _ h => h
  case y12__28 => (refine Or.inl ⟨rfl, ?_⟩; intro w hSw; (first | rfl | (go_simp; (try with_reducible rfl))))
  (try simp only [Act.put, sA, sB, sC])
  refine wpAnyH_take (i := 29) (oi := ?o12__29) (v := .bool true) ?h12__29 (by kernel_rfl) (by kernel_rfl) (by kernel_rfl) ?q12__29 ?y12__29 (by assumption) ?_
  case h12__29 => (first | (simp only [gA, gB, gC]; done) | (simp only [gA, gB, gC]; exact rfl))
  case q12__29 => exact fun _ _ _ h => h
  case y12__29 => (refine Or.inl ⟨rfl, ?_⟩; intro w hSw; (go_simp; (try with_reducible rfl)))
  (try simp only [Act.put, sA, sB, sC])
  refine wpAnyH_take (i := 30) (oi := ?o12__30) (v := .bool true) ?h12__30 (by kernel_rfl) (by kernel_rfl) (by kernel_rfl) ?q12__30 ?y12__30 (by assumption) ?_
  case h12__30 => (first | (simp only [gA, gB, gC]; done) | (simp only [gA, gB, gC]; exact rfl))
  case q12__30 => exact fun _ _ _ h => h
  case y12__30 => (refine Or.inl ⟨rfl, ?_⟩; intro w hSw; (first | rfl | (go_simp; (try with_reducible rfl))))
  (try simp only [Act.put, sA, sB, sC])
  refine wpAnyH_take (i := 31) (oi := ?o12__31) (v := .bool true) ?h12__31 (by kernel_rfl) (by kernel_rfl) (by kernel_rfl) ?q12__31 ?y12__31 (by assumption) ?_
  case h12__31 => (first | (simp only [gA, gB, gC]; done) | (simp only [gA, gB, gC]; exact rfl))
  case q12__31 => exact fun _ _ _ h => h
  case y12__31 => (refine Or.inl ⟨rfl, ?_⟩; intro w hSw; (first | rfl | (go_simp; (try with_reducible rfl))))
  (try simp only [Act.put, sA, sB, sC])
  refine wpAnyH_take (i := 32) (oi := ?o12__32) (v := .agg #[.int .i64 0, .int .i64 0, .int .i64 0, .int .i64 1, .int .i64 5, .int .i64 0, .int .i64 1, .int .i64 0, .int .i64 0, .int .i64 0]) ?h12__32 (by kernel_rfl) (by kernel_rfl) (by kernel_rfl) ?q12__32 ?y12__32 (by assumption) ?_
  case h12__32 => (first | (simp only [gA, gB, gC]; done) | (simp only [gA, gB, gC]; exact rfl))
  case q12__32 => exact fun _ _ _ h => h
  case y12__32 => (refine Or.inl ⟨rfl, ?_⟩; intro w hSw; exact exec_load_row 56 _ _ hSw.2.2 rfl rfl Try.underlying56 rfl (by kernel_rfl))
  (try simp only [Act.put, sA, sB, sC])
  refine wpAnyH_ready (rs := [33]) (by kernel_rfl) (by simp) ?_
  refine AllReadyH.cons (o := ?o12__33) ?h12__33 (fun K hK => ?_) AllReadyH.nil
  case h12__33 => (first | (simp only [gA, gB, gC]; done) | (simp only [gA, gB, gC]; exact rfl))
  (try go_simp)
  refine (oneT _).mono ?_
  rintro e w24 ⟨rfl, hb⟩
  (try go_wp2_with fail)
  refine hK.out _ _ (by (apply HRK.out; exact hb; exact hHeld)) (fun hHeld2 => ?_)
  clear hK K hHeld hb
  have hHeld := hHeld2
  clear hHeld2
  (try simp only [Act.put, sA, sB, sC])
  refine wpAnyH_take (i := 34) (oi := ?o12__34) (v := .bool true) ?h12__34 (by kernel_rfl) (by kernel_rfl) (by kernel_rfl) ?q12__34 ?y12__34 (by assumption) ?_
  case h12__34 => (first | (simp only [gA, gB, gC]; done) | (simp only [gA, gB, gC]; exact rfl))
  case q12__34 => exact fun _ _ _ h => h
  case y12__34 => (refine Or.inl ⟨rfl, ?_⟩; intro w hSw; (first | (go_simp; done) | (go_simp; simp)))
  (try simp only [Act.put, sA, sB, sC])
  refine wpAnyH_take (i := 35) (oi := ?o12__35) (v := .bool true) ?h12__35 (by kernel_rfl) (by kernel_rfl) (by kernel_rfl) ?q12__35 ?y12__35 (by assumption) ?_
  case h12__35 => (first | (simp only [gA, gB, gC]; done) | (simp only [gA, gB, gC]; exact rfl))
  case q12__35 => exact fun _ _ _ h => h
  case y12__35 => (refine Or.inl ⟨rfl, ?_⟩; intro w hSw; (first | rfl | (go_simp; (try with_reducible rfl))))
  (try simp only [Act.put, sA, sB, sC])
  refine wpAnyH_take (i := 36) (oi := ?o12__36) (v := .bool true) ?h12__36 (by kernel_rfl) (by kernel_rfl) (by kernel_rfl) ?q12__36 ?y12__36 (by assumption) ?_
  case h12__36 => (first | (simp only [gA, gB, gC]; done) | (simp only [gA, gB, gC]; exact rfl))
  case q12__36 => exact fun _ _ _ h => h
  case y12__36 => (refine Or.inl ⟨rfl, ?_⟩; intro w hSw; (first | rfl | (go_simp; (try with_reducible rfl))))
  (try simp only [Act.put, sA, sB, sC])
  refine wpAnyH_done (by kernel_rfl) ?_ _
  have HSd12 := Lib.hid hHeld.1
  have HBLd12 := Lib.hid (hHeld.2.1)
  have HBn12d12 := Lib.hid (hHeld.2.2)
  clear hHeld HRK HRD HS19 HBL19 HBn1219
  (try go_wp2_with fail)
  go_ret
  exact ⟨rfl, HSd12.out⟩
end Go.Proofs.Ytggafipgfgbbiaa.Le
