/-
  What is wanted by the last of these texts, part 8.
  No condition.
-/
import Derived.Test.YtggafipgfgbbiaaProg
import Derived.Test.YtggafipgfgbbiaaKLp7
namespace Go.Proofs.Ytggafipgfgbbiaa.Le
set_option linter.unusedVariables false
set_option linter.unusedSimpArgs false
open Go.RowKit Go.Proofs.Ytggafipgfgbbiaa.Ba Go.Proofs.Ytggafipgfgbbiaa.Mem Go.Proofs.Ytggafipgfgbbiaa.Ty
open Go.Proofs.Ytggafipgfgbbiaa.Ls (LV leaC)
open Go.Proofs.Ytggafipgfgbbiaa.Fl (mayB btw cnt)
set_option maxRecDepth 100000
attribute [local irreducible] Go.wpList
set_option maxHeartbeats 4000000 in
theorem putA (cp : Nat) (x : LeaseV) (l : LeaseV) (w : World) (hb : Blk w cp 56 #[.int .i64 x.se, .int .i64 x.fl, .int .i64 x.fm, .int .i64 x.to, .int .i64 x.ma, .int .i64 x.ca, .int .i64 x.ph, .int .i64 x.un, .int .i64 x.re, .int .i64 x.gr]) (h0 : l.se = x.se) : Calls Try.prog 74 #[.agg #[.int .i64 l.se, .int .i64 l.fl, .int .i64 l.fm, .int .i64 l.to, .int .i64 l.ma, .int .i64 l.ca, .int .i64 l.ph, .int .i64 l.un, .int .i64 l.re, .int .i64 l.gr], .pointer (some ⟨cp, 0, none⟩)] w fun e w' => e = .returned (.bool true) ∧ Since w w' := by
  have HB := Lib.hid hb
  clear hb
  have H0 := Lib.hid h0
  clear h0
  go_enter Try.func74, Try.ntmps74
  go_upto_region 1 with fail
  obtain ⟨w1, hw1⟩ : ∃ w1, w1 = (w.alloc (.cells #[.int .i64 l.se, .int .i64 l.fl, .int .i64 l.fm, .int .i64 l.to, .int .i64 l.ma, .int .i64 l.ca, .int .i64 l.ph, .int .i64 l.un, .int .i64 l.re, .int .i64 l.gr] 56)) := ⟨_, rfl⟩
  rw [← hw1]
  have HBL1 := Lib.hid (show Blk w1 (w.heap.size) 56 #[.int .i64 l.se, .int .i64 l.fl, .int .i64 l.fm, .int .i64 l.to, .int .i64 l.ma, .int .i64 l.ca, .int .i64 l.ph, .int .i64 l.un, .int .i64 l.re, .int .i64 l.gr] by rw [hw1]; exact Blk.at_ (by (try simp only [size_alloc])) _ _)
  have HS1 := Lib.hid (show Since w w1 by rw [hw1]; exact Since.alloc (Since.refl w) _)
  have hNE : w.heap.size ≤ w.heap.size := by omega
  have HNE := Lib.hid hNE
  clear hNE hw1
  have HNE3 := Lib.hid (show w.heap.size ≤ w.heap.size from HNE.out)
  clear HNE
  have HBC := Lib.hid (keep_blk HS1.out HB.out)
  have HNC := Lib.hid (show cp ≠ w.heap.size by have := Blk.lt HB.out; omega)
  refine wp_region_lit ?_
  refine wpList_q (by rfl) (.pointer (some ⟨w.heap.size, 0, none⟩)) ?he ?_
  case he => (first | rfl | (go_simp; (try with_reducible rfl)))
  (try simp only [Act.put, sA, sB, sC])
  refine wpList_q (by rfl) (.pointer (some ⟨w.heap.size, 0, none⟩)) ?he ?_
  case he => (first | rfl | (go_simp; (try with_reducible rfl)))
  (try simp only [Act.put, sA, sB, sC])
  refine wpList_q (by rfl) (.int .i64 l.se) ?he ?_
  case he => exact exec_cell 3 _ _ HBL1.out rfl rfl rfl Try.underlying3 rfl
  (try simp only [Act.put, sA, sB, sC])
  refine wpList_q (by rfl) (.pointer (some ⟨cp, 0, none⟩)) ?he ?_
  case he => (first | rfl | (go_simp; (try with_reducible rfl)))
  (try simp only [Act.put, sA, sB, sC])
  refine wpList_q (by rfl) (.pointer (some ⟨cp, 0, none⟩)) ?he ?_
  case he => (first | rfl | (go_simp; (try with_reducible rfl)))
  (try simp only [Act.put, sA, sB, sC])
  refine wpList_q (by rfl) (.int .i64 x.se) ?he ?_
  case he => exact exec_cell 3 _ _ HBC.out rfl rfl rfl Try.underlying3 rfl
  (try simp only [Act.put, sA, sB, sC])
  refine wpList_q (by rfl) (.bool true) ?he ?_
  case he => (have q := H0.out; go_simp; (first | done | exact q | (simp [q]; done) | omega))
  (try simp only [Act.put, sA, sB, sC])
  refine wpList_q (by rfl) (.bool true) ?he ?_
  case he => (first | rfl | (go_simp; (try with_reducible rfl)))
  (try simp only [Act.put, sA, sB, sC])
  refine wpList_no (by rfl) ?_
  (try simp only [Act.put, sA, sB, sC])
  refine wpList_no (by rfl) ?_
  (try simp only [Act.put, sA, sB, sC])
  refine wpList_no (by rfl) ?_
  (try simp only [Act.put, sA, sB, sC])
  refine wpList_no (by rfl) ?_
  (try simp only [Act.put, sA, sB, sC])
  refine wpList_no (by rfl) ?_
  (try simp only [Act.put, sA, sB, sC])
  refine wpList_q (by rfl) (.bool true) ?he ?_
  case he => (first | rfl | (go_simp; (try with_reducible rfl)))
  (try simp only [Act.put, sA, sB, sC])
  refine wpList_q (by rfl) (.bool true) ?he ?_
  case he => (first | rfl | (go_simp; (try with_reducible rfl)))
  (try simp only [Act.put, sA, sB, sC])
  refine wpList_nil ?_
  (try go_wp2_with fail)
  go_ret
  exact ⟨rfl, HS1.out⟩
set_option maxHeartbeats 4000000 in
theorem putB (cp : Nat) (x : LeaseV) (l : LeaseV) (w : World) (hb : Blk w cp 56 #[.int .i64 x.se, .int .i64 x.fl, .int .i64 x.fm, .int .i64 x.to, .int .i64 x.ma, .int .i64 x.ca, .int .i64 x.ph, .int .i64 x.un, .int .i64 x.re, .int .i64 x.gr]) (h0 : l.se ≠ x.se) (h1 : l.ca = x.ca) : Calls Try.prog 74 #[.agg #[.int .i64 l.se, .int .i64 l.fl, .int .i64 l.fm, .int .i64 l.to, .int .i64 l.ma, .int .i64 l.ca, .int .i64 l.ph, .int .i64 l.un, .int .i64 l.re, .int .i64 l.gr], .pointer (some ⟨cp, 0, none⟩)] w fun e w' => e = .returned (.bool true) ∧ Since w w' := by
  have HB := Lib.hid hb
  clear hb
  have H0 := Lib.hid h0
  clear h0
  have H1 := Lib.hid h1
  clear h1
  go_enter Try.func74, Try.ntmps74
  go_upto_region 1 with fail
  obtain ⟨w1, hw1⟩ : ∃ w1, w1 = (w.alloc (.cells #[.int .i64 l.se, .int .i64 l.fl, .int .i64 l.fm, .int .i64 l.to, .int .i64 l.ma, .int .i64 l.ca, .int .i64 l.ph, .int .i64 l.un, .int .i64 l.re, .int .i64 l.gr] 56)) := ⟨_, rfl⟩
  rw [← hw1]
  have HBL1 := Lib.hid (show Blk w1 (w.heap.size) 56 #[.int .i64 l.se, .int .i64 l.fl, .int .i64 l.fm, .int .i64 l.to, .int .i64 l.ma, .int .i64 l.ca, .int .i64 l.ph, .int .i64 l.un, .int .i64 l.re, .int .i64 l.gr] by rw [hw1]; exact Blk.at_ (by (try simp only [size_alloc])) _ _)
  have HS1 := Lib.hid (show Since w w1 by rw [hw1]; exact Since.alloc (Since.refl w) _)
  have hNE : w.heap.size ≤ w.heap.size := by omega
  have HNE := Lib.hid hNE
  clear hNE hw1
  have HNE3 := Lib.hid (show w.heap.size ≤ w.heap.size from HNE.out)
  clear HNE
  have HBC := Lib.hid (keep_blk HS1.out HB.out)
  have HNC := Lib.hid (show cp ≠ w.heap.size by have := Blk.lt HB.out; omega)
  refine wp_region_lit ?_
  refine wpList_q (by rfl) (.pointer (some ⟨w.heap.size, 0, none⟩)) ?he ?_
  case he => (first | rfl | (go_simp; (try with_reducible rfl)))
  (try simp only [Act.put, sA, sB, sC])
  refine wpList_q (by rfl) (.pointer (some ⟨w.heap.size, 0, none⟩)) ?he ?_
  case he => (first | rfl | (go_simp; (try with_reducible rfl)))
  (try simp only [Act.put, sA, sB, sC])
  refine wpList_q (by rfl) (.int .i64 l.se) ?he ?_
  case he => exact exec_cell 3 _ _ HBL1.out rfl rfl rfl Try.underlying3 rfl
  (try simp only [Act.put, sA, sB, sC])
  refine wpList_q (by rfl) (.pointer (some ⟨cp, 0, none⟩)) ?he ?_
  case he => (first | rfl | (go_simp; (try with_reducible rfl)))
  (try simp only [Act.put, sA, sB, sC])
  refine wpList_q (by rfl) (.pointer (some ⟨cp, 0, none⟩)) ?he ?_
  case he => (first | rfl | (go_simp; (try with_reducible rfl)))
  (try simp only [Act.put, sA, sB, sC])
  refine wpList_q (by rfl) (.int .i64 x.se) ?he ?_
  case he => exact exec_cell 3 _ _ HBC.out rfl rfl rfl Try.underlying3 rfl
  (try simp only [Act.put, sA, sB, sC])
  refine wpList_q (by rfl) (.bool false) ?he ?_
  case he => (have q := H0.out; go_simp; (first | done | exact q | (simp [q]; done) | omega))
  (try simp only [Act.put, sA, sB, sC])
  refine wpList_q (by rfl) (.bool false) ?he ?_
  case he => (first | rfl | (go_simp; (try with_reducible rfl)))
  (try simp only [Act.put, sA, sB, sC])
  refine wpList_q (by rfl) (.pointer (some ⟨w.heap.size, 5, none⟩)) ?he ?_
  case he => (first | rfl | (go_simp; (try with_reducible rfl)))
  (try simp only [Act.put, sA, sB, sC])
  refine wpList_q (by rfl) (.int .i64 l.ca) ?he ?_
  case he => exact exec_cell 3 _ _ HBL1.out rfl rfl rfl Try.underlying3 rfl
  (try simp only [Act.put, sA, sB, sC])
  refine wpList_q (by rfl) (.pointer (some ⟨cp, 5, none⟩)) ?he ?_
  case he => (first | rfl | (go_simp; (try with_reducible rfl)))
  (try simp only [Act.put, sA, sB, sC])
  refine wpList_q (by rfl) (.int .i64 x.ca) ?he ?_
  case he => exact exec_cell 3 _ _ HBC.out rfl rfl rfl Try.underlying3 rfl
  (try simp only [Act.put, sA, sB, sC])
  refine wpList_q (by rfl) (.bool true) ?he ?_
  case he => (have q := H1.out; go_simp; (first | done | exact q | (simp [q]; done) | omega))
  (try simp only [Act.put, sA, sB, sC])
  refine wpList_q (by rfl) (.bool true) ?he ?_
  case he => (first | rfl | (go_simp; (try with_reducible rfl)))
  (try simp only [Act.put, sA, sB, sC])
  refine wpList_q (by rfl) (.bool true) ?he ?_
  case he => (first | rfl | (go_simp; (try with_reducible rfl)))
  (try simp only [Act.put, sA, sB, sC])
  refine wpList_nil ?_
  (try go_wp2_with fail)
  go_ret
  exact ⟨rfl, HS1.out⟩
set_option maxHeartbeats 4000000 in
theorem putC (cp : Nat) (x : LeaseV) (l : LeaseV) (w : World) (hb : Blk w cp 56 #[.int .i64 x.se, .int .i64 x.fl, .int .i64 x.fm, .int .i64 x.to, .int .i64 x.ma, .int .i64 x.ca, .int .i64 x.ph, .int .i64 x.un, .int .i64 x.re, .int .i64 x.gr]) (h0 : l.se ≠ x.se) (h1 : l.ca ≠ x.ca) : Calls Try.prog 74 #[.agg #[.int .i64 l.se, .int .i64 l.fl, .int .i64 l.fm, .int .i64 l.to, .int .i64 l.ma, .int .i64 l.ca, .int .i64 l.ph, .int .i64 l.un, .int .i64 l.re, .int .i64 l.gr], .pointer (some ⟨cp, 0, none⟩)] w fun e w' => e = .returned (.bool false) ∧ Since w w' := by
  have HB := Lib.hid hb
  clear hb
  have H0 := Lib.hid h0
  clear h0
  have H1 := Lib.hid h1
  clear h1
  go_enter Try.func74, Try.ntmps74
  go_upto_region 1 with fail
  obtain ⟨w1, hw1⟩ : ∃ w1, w1 = (w.alloc (.cells #[.int .i64 l.se, .int .i64 l.fl, .int .i64 l.fm, .int .i64 l.to, .int .i64 l.ma, .int .i64 l.ca, .int .i64 l.ph, .int .i64 l.un, .int .i64 l.re, .int .i64 l.gr] 56)) := ⟨_, rfl⟩
  rw [← hw1]
  have HBL1 := Lib.hid (show Blk w1 (w.heap.size) 56 #[.int .i64 l.se, .int .i64 l.fl, .int .i64 l.fm, .int .i64 l.to, .int .i64 l.ma, .int .i64 l.ca, .int .i64 l.ph, .int .i64 l.un, .int .i64 l.re, .int .i64 l.gr] by rw [hw1]; exact Blk.at_ (by (try simp only [size_alloc])) _ _)
  have HS1 := Lib.hid (show Since w w1 by rw [hw1]; exact Since.alloc (Since.refl w) _)
  have hNE : w.heap.size ≤ w.heap.size := by omega
  have HNE := Lib.hid hNE
  clear hNE hw1
  have HNE3 := Lib.hid (show w.heap.size ≤ w.heap.size from HNE.out)
  clear HNE
  have HBC := Lib.hid (keep_blk HS1.out HB.out)
  have HNC := Lib.hid (show cp ≠ w.heap.size by have := Blk.lt HB.out; omega)
  refine wp_region_lit ?_
  refine wpList_q (by rfl) (.pointer (some ⟨w.heap.size, 0, none⟩)) ?he ?_
  case he => (first | rfl | (go_simp; (try with_reducible rfl)))
  (try simp only [Act.put, sA, sB, sC])
  refine wpList_q (by rfl) (.pointer (some ⟨w.heap.size, 0, none⟩)) ?he ?_
  case he => (first | rfl | (go_simp; (try with_reducible rfl)))
  (try simp only [Act.put, sA, sB, sC])
  refine wpList_q (by rfl) (.int .i64 l.se) ?he ?_
  case he => exact exec_cell 3 _ _ HBL1.out rfl rfl rfl Try.underlying3 rfl
  (try simp only [Act.put, sA, sB, sC])
  refine wpList_q (by rfl) (.pointer (some ⟨cp, 0, none⟩)) ?he ?_
  case he => (first | rfl | (go_simp; (try with_reducible rfl)))
  (try simp only [Act.put, sA, sB, sC])
  refine wpList_q (by rfl) (.pointer (some ⟨cp, 0, none⟩)) ?he ?_
  case he => (first | rfl | (go_simp; (try with_reducible rfl)))
  (try simp only [Act.put, sA, sB, sC])
  refine wpList_q (by rfl) (.int .i64 x.se) ?he ?_
  case he => exact exec_cell 3 _ _ HBC.out rfl rfl rfl Try.underlying3 rfl
  (try simp only [Act.put, sA, sB, sC])
  refine wpList_q (by rfl) (.bool false) ?he ?_
  case he => (have q := H0.out; go_simp; (first | done | exact q | (simp [q]; done) | omega))
  (try simp only [Act.put, sA, sB, sC])
  refine wpList_q (by rfl) (.bool false) ?he ?_
  case he => (first | rfl | (go_simp; (try with_reducible rfl)))
  (try simp only [Act.put, sA, sB, sC])
  refine wpList_q (by rfl) (.pointer (some ⟨w.heap.size, 5, none⟩)) ?he ?_
  case he => (first | rfl | (go_simp; (try with_reducible rfl)))
  (try simp only [Act.put, sA, sB, sC])
  refine wpList_q (by rfl) (.int .i64 l.ca) ?he ?_
  case he => exact exec_cell 3 _ _ HBL1.out rfl rfl rfl Try.underlying3 rfl
  (try simp only [Act.put, sA, sB, sC])
  refine wpList_q (by rfl) (.pointer (some ⟨cp, 5, none⟩)) ?he ?_
  case he => (first | rfl | (go_simp; (try with_reducible rfl)))
  (try simp only [Act.put, sA, sB, sC])
  refine wpList_q (by rfl) (.int .i64 x.ca) ?he ?_
  case he => exact exec_cell 3 _ _ HBC.out rfl rfl rfl Try.underlying3 rfl
  (try simp only [Act.put, sA, sB, sC])
  refine wpList_q (by rfl) (.bool false) ?he ?_
  case he => (have q := H1.out; go_simp; (first | done | exact q | (simp [q]; done) | omega))
  (try simp only [Act.put, sA, sB, sC])
  refine wpList_q (by rfl) (.bool false) ?he ?_
  case he => (first | rfl | (go_simp; (try with_reducible rfl)))
  (try simp only [Act.put, sA, sB, sC])
  refine wpList_q (by rfl) (.bool false) ?he ?_
  case he => (first | rfl | (go_simp; (try with_reducible rfl)))
  (try simp only [Act.put, sA, sB, sC])
  refine wpList_nil ?_
  (try go_wp2_with fail)
  go_ret
  exact ⟨rfl, HS1.out⟩
theorem put1T (cp : Nat) (x l : LeaseV) (w : World) (hb : Blk w cp 56 #[.int .i64 x.se, .int .i64 x.fl, .int .i64 x.fm, .int .i64 x.to, .int .i64 x.ma, .int .i64 x.ca, .int .i64 x.ph, .int .i64 x.un, .int .i64 x.re, .int .i64 x.gr]) : Calls Try.prog 74 #[.agg #[.int .i64 l.se, .int .i64 l.fl, .int .i64 l.fm, .int .i64 l.to, .int .i64 l.ma, .int .i64 l.ca, .int .i64 l.ph, .int .i64 l.un, .int .i64 l.re, .int .i64 l.gr], .pointer (some ⟨cp, 0, none⟩)] w fun e w' => e = .returned (.bool (isP x l)) ∧ Since w w' := by
  by_cases h0 : l.se = x.se
  · rw [show isP x l = true by simp [isP, h0]]; exact putA cp x l w hb h0
  · by_cases h1 : l.ca = x.ca
    · rw [show isP x l = true by simp [isP, h1]]; exact putB cp x l w hb h0 h1
    · rw [show isP x l = false by simp [isP, h0, h1]]; exact putC cp x l w hb h0 h1
set_option maxHeartbeats 4000000 in
theorem of1A (cp : Nat) (s : Int) (l : LeaseV) (w : World) (hb : Blk w cp 3 #[.int .i64 s]) (h0 : l.se = s) : Calls Try.prog 93 #[.agg #[.int .i64 l.se, .int .i64 l.fl, .int .i64 l.fm, .int .i64 l.to, .int .i64 l.ma, .int .i64 l.ca, .int .i64 l.ph, .int .i64 l.un, .int .i64 l.re, .int .i64 l.gr], .pointer (some ⟨cp, 0, none⟩)] w fun e w' => e = .returned (.bool true) ∧ Since w w' := by
  have HB := Lib.hid hb
  clear hb
  have H0 := Lib.hid h0
  clear h0
  go_enter Try.func93, Try.ntmps93
  go_upto_region 1 with fail
  obtain ⟨w1, hw1⟩ : ∃ w1, w1 = (w.alloc (.cells #[.int .i64 l.se, .int .i64 l.fl, .int .i64 l.fm, .int .i64 l.to, .int .i64 l.ma, .int .i64 l.ca, .int .i64 l.ph, .int .i64 l.un, .int .i64 l.re, .int .i64 l.gr] 56)) := ⟨_, rfl⟩
  rw [← hw1]
  have HBL1 := Lib.hid (show Blk w1 (w.heap.size) 56 #[.int .i64 l.se, .int .i64 l.fl, .int .i64 l.fm, .int .i64 l.to, .int .i64 l.ma, .int .i64 l.ca, .int .i64 l.ph, .int .i64 l.un, .int .i64 l.re, .int .i64 l.gr] by rw [hw1]; exact Blk.at_ (by (try simp only [size_alloc])) _ _)
  have HS1 := Lib.hid (show Since w w1 by rw [hw1]; exact Since.alloc (Since.refl w) _)
  have hNE : w.heap.size ≤ w.heap.size := by omega
  have HNE := Lib.hid hNE
  clear hNE hw1
  have HNE3 := Lib.hid (show w.heap.size ≤ w.heap.size from HNE.out)
  clear HNE
  have HBC := Lib.hid (keep_blk HS1.out HB.out)
  have HNC := Lib.hid (show cp ≠ w.heap.size by have := Blk.lt HB.out; omega)
  refine wp_region_lit ?_
  refine wpList_q (by rfl) (.pointer (some ⟨w.heap.size, 0, none⟩)) ?he ?_
  case he => (first | rfl | (go_simp; (try with_reducible rfl)))
  (try simp only [Act.put, sA, sB, sC])
  refine wpList_q (by rfl) (.pointer (some ⟨w.heap.size, 0, none⟩)) ?he ?_
  case he => (first | rfl | (go_simp; (try with_reducible rfl)))
  (try simp only [Act.put, sA, sB, sC])
  refine wpList_q (by rfl) (.int .i64 l.se) ?he ?_
  case he => exact exec_cell 3 _ _ HBL1.out rfl rfl rfl Try.underlying3 rfl
  (try simp only [Act.put, sA, sB, sC])
  refine wpList_q (by rfl) (.int .i64 s) ?he ?_
  case he => exact exec_cell 3 _ _ HBC.out rfl rfl rfl Try.underlying3 rfl
  (try simp only [Act.put, sA, sB, sC])
  refine wpList_q (by rfl) (.bool true) ?he ?_
  case he => (have q := H0.out; go_simp; (first | done | exact q | (simp [q]; done) | omega))
  (try simp only [Act.put, sA, sB, sC])
  refine wpList_q (by rfl) (.bool true) ?he ?_
  case he => (first | rfl | (go_simp; (try with_reducible rfl)))
  (try simp only [Act.put, sA, sB, sC])
  refine wpList_nil ?_
  (try go_wp2_with fail)
  go_ret
  exact ⟨rfl, HS1.out⟩
set_option maxHeartbeats 4000000 in
theorem of1B (cp : Nat) (s : Int) (l : LeaseV) (w : World) (hb : Blk w cp 3 #[.int .i64 s]) (h0 : l.se ≠ s) : Calls Try.prog 93 #[.agg #[.int .i64 l.se, .int .i64 l.fl, .int .i64 l.fm, .int .i64 l.to, .int .i64 l.ma, .int .i64 l.ca, .int .i64 l.ph, .int .i64 l.un, .int .i64 l.re, .int .i64 l.gr], .pointer (some ⟨cp, 0, none⟩)] w fun e w' => e = .returned (.bool false) ∧ Since w w' := by
  have HB := Lib.hid hb
  clear hb
  have H0 := Lib.hid h0
  clear h0
  go_enter Try.func93, Try.ntmps93
  go_upto_region 1 with fail
  obtain ⟨w1, hw1⟩ : ∃ w1, w1 = (w.alloc (.cells #[.int .i64 l.se, .int .i64 l.fl, .int .i64 l.fm, .int .i64 l.to, .int .i64 l.ma, .int .i64 l.ca, .int .i64 l.ph, .int .i64 l.un, .int .i64 l.re, .int .i64 l.gr] 56)) := ⟨_, rfl⟩
  rw [← hw1]
  have HBL1 := Lib.hid (show Blk w1 (w.heap.size) 56 #[.int .i64 l.se, .int .i64 l.fl, .int .i64 l.fm, .int .i64 l.to, .int .i64 l.ma, .int .i64 l.ca, .int .i64 l.ph, .int .i64 l.un, .int .i64 l.re, .int .i64 l.gr] by rw [hw1]; exact Blk.at_ (by (try simp only [size_alloc])) _ _)
  have HS1 := Lib.hid (show Since w w1 by rw [hw1]; exact Since.alloc (Since.refl w) _)
  have hNE : w.heap.size ≤ w.heap.size := by omega
  have HNE := Lib.hid hNE
  clear hNE hw1
  have HNE3 := Lib.hid (show w.heap.size ≤ w.heap.size from HNE.out)
  clear HNE
  have HBC := Lib.hid (keep_blk HS1.out HB.out)
  have HNC := Lib.hid (show cp ≠ w.heap.size by have := Blk.lt HB.out; omega)
  refine wp_region_lit ?_
  refine wpList_q (by rfl) (.pointer (some ⟨w.heap.size, 0, none⟩)) ?he ?_
  case he => (first | rfl | (go_simp; (try with_reducible rfl)))
  (try simp only [Act.put, sA, sB, sC])
  refine wpList_q (by rfl) (.pointer (some ⟨w.heap.size, 0, none⟩)) ?he ?_
  case he => (first | rfl | (go_simp; (try with_reducible rfl)))
  (try simp only [Act.put, sA, sB, sC])
  refine wpList_q (by rfl) (.int .i64 l.se) ?he ?_
  case he => exact exec_cell 3 _ _ HBL1.out rfl rfl rfl Try.underlying3 rfl
  (try simp only [Act.put, sA, sB, sC])
  refine wpList_q (by rfl) (.int .i64 s) ?he ?_
  case he => exact exec_cell 3 _ _ HBC.out rfl rfl rfl Try.underlying3 rfl
  (try simp only [Act.put, sA, sB, sC])
  refine wpList_q (by rfl) (.bool false) ?he ?_
  case he => (have q := H0.out; go_simp; (first | done | exact q | (simp [q]; done) | omega))
  (try simp only [Act.put, sA, sB, sC])
  refine wpList_q (by rfl) (.bool false) ?he ?_
  case he => (first | rfl | (go_simp; (try with_reducible rfl)))
  (try simp only [Act.put, sA, sB, sC])
  refine wpList_nil ?_
  (try go_wp2_with fail)
  go_ret
  exact ⟨rfl, HS1.out⟩
theorem of1T (cp : Nat) (s : Int) (l : LeaseV) (w : World) (hb : Blk w cp 3 #[.int .i64 s]) : Calls Try.prog 93 #[.agg #[.int .i64 l.se, .int .i64 l.fl, .int .i64 l.fm, .int .i64 l.to, .int .i64 l.ma, .int .i64 l.ca, .int .i64 l.ph, .int .i64 l.un, .int .i64 l.re, .int .i64 l.gr], .pointer (some ⟨cp, 0, none⟩)] w fun e w' => e = .returned (.bool (isS s l)) ∧ Since w w' := by
  by_cases h0 : l.se = s
  · rw [show isS s l = true by simp [isS, h0]]; exact of1A cp s l w hb h0
  · rw [show isS s l = false by simp [isS, h0]]; exact of1B cp s l w hb h0
set_option maxHeartbeats 4000000 in
theorem car1A (cp : Nat) (s : Int) (l : LeaseV) (w : World) (hb : Blk w cp 3 #[.int .i64 s]) (h0 : l.ca = s) : Calls Try.prog 80 #[.agg #[.int .i64 l.se, .int .i64 l.fl, .int .i64 l.fm, .int .i64 l.to, .int .i64 l.ma, .int .i64 l.ca, .int .i64 l.ph, .int .i64 l.un, .int .i64 l.re, .int .i64 l.gr], .pointer (some ⟨cp, 0, none⟩)] w fun e w' => e = .returned (.bool true) ∧ Since w w' := by
  have HB := Lib.hid hb
  clear hb
  have H0 := Lib.hid h0
  clear h0
  go_enter Try.func80, Try.ntmps80
  go_upto_region 1 with fail
  obtain ⟨w1, hw1⟩ : ∃ w1, w1 = (w.alloc (.cells #[.int .i64 l.se, .int .i64 l.fl, .int .i64 l.fm, .int .i64 l.to, .int .i64 l.ma, .int .i64 l.ca, .int .i64 l.ph, .int .i64 l.un, .int .i64 l.re, .int .i64 l.gr] 56)) := ⟨_, rfl⟩
  rw [← hw1]
  have HBL1 := Lib.hid (show Blk w1 (w.heap.size) 56 #[.int .i64 l.se, .int .i64 l.fl, .int .i64 l.fm, .int .i64 l.to, .int .i64 l.ma, .int .i64 l.ca, .int .i64 l.ph, .int .i64 l.un, .int .i64 l.re, .int .i64 l.gr] by rw [hw1]; exact Blk.at_ (by (try simp only [size_alloc])) _ _)
  have HS1 := Lib.hid (show Since w w1 by rw [hw1]; exact Since.alloc (Since.refl w) _)
  have hNE : w.heap.size ≤ w.heap.size := by omega
  have HNE := Lib.hid hNE
  clear hNE hw1
  have HNE3 := Lib.hid (show w.heap.size ≤ w.heap.size from HNE.out)
  clear HNE
  have HBC := Lib.hid (keep_blk HS1.out HB.out)
  have HNC := Lib.hid (show cp ≠ w.heap.size by have := Blk.lt HB.out; omega)
  refine wp_region_lit ?_
  refine wpList_q (by rfl) (.pointer (some ⟨w.heap.size, 5, none⟩)) ?he ?_
  case he => (first | rfl | (go_simp; (try with_reducible rfl)))
  (try simp only [Act.put, sA, sB, sC])
  refine wpList_q (by rfl) (.int .i64 l.ca) ?he ?_
  case he => exact exec_cell 3 _ _ HBL1.out rfl rfl rfl Try.underlying3 rfl
  (try simp only [Act.put, sA, sB, sC])
  refine wpList_q (by rfl) (.int .i64 s) ?he ?_
  case he => exact exec_cell 3 _ _ HBC.out rfl rfl rfl Try.underlying3 rfl
  (try simp only [Act.put, sA, sB, sC])
  refine wpList_q (by rfl) (.bool true) ?he ?_
  case he => (have q := H0.out; go_simp; (first | done | exact q | (simp [q]; done) | omega))
  (try simp only [Act.put, sA, sB, sC])
  refine wpList_q (by rfl) (.bool true) ?he ?_
  case he => (first | rfl | (go_simp; (try with_reducible rfl)))
  (try simp only [Act.put, sA, sB, sC])
  refine wpList_nil ?_
  (try go_wp2_with fail)
  go_ret
  exact ⟨rfl, HS1.out⟩
set_option maxHeartbeats 4000000 in
theorem car1B (cp : Nat) (s : Int) (l : LeaseV) (w : World) (hb : Blk w cp 3 #[.int .i64 s]) (h0 : l.ca ≠ s) : Calls Try.prog 80 #[.agg #[.int .i64 l.se, .int .i64 l.fl, .int .i64 l.fm, .int .i64 l.to, .int .i64 l.ma, .int .i64 l.ca, .int .i64 l.ph, .int .i64 l.un, .int .i64 l.re, .int .i64 l.gr], .pointer (some ⟨cp, 0, none⟩)] w fun e w' => e = .returned (.bool false) ∧ Since w w' := by
  have HB := Lib.hid hb
  clear hb
  have H0 := Lib.hid h0
  clear h0
  go_enter Try.func80, Try.ntmps80
  go_upto_region 1 with fail
  obtain ⟨w1, hw1⟩ : ∃ w1, w1 = (w.alloc (.cells #[.int .i64 l.se, .int .i64 l.fl, .int .i64 l.fm, .int .i64 l.to, .int .i64 l.ma, .int .i64 l.ca, .int .i64 l.ph, .int .i64 l.un, .int .i64 l.re, .int .i64 l.gr] 56)) := ⟨_, rfl⟩
  rw [← hw1]
  have HBL1 := Lib.hid (show Blk w1 (w.heap.size) 56 #[.int .i64 l.se, .int .i64 l.fl, .int .i64 l.fm, .int .i64 l.to, .int .i64 l.ma, .int .i64 l.ca, .int .i64 l.ph, .int .i64 l.un, .int .i64 l.re, .int .i64 l.gr] by rw [hw1]; exact Blk.at_ (by (try simp only [size_alloc])) _ _)
  have HS1 := Lib.hid (show Since w w1 by rw [hw1]; exact Since.alloc (Since.refl w) _)
  have hNE : w.heap.size ≤ w.heap.size := by omega
  have HNE := Lib.hid hNE
  clear hNE hw1
  have HNE3 := Lib.hid (show w.heap.size ≤ w.heap.size from HNE.out)
  clear HNE
  have HBC := Lib.hid (keep_blk HS1.out HB.out)
  have HNC := Lib.hid (show cp ≠ w.heap.size by have := Blk.lt HB.out; omega)
  refine wp_region_lit ?_
  refine wpList_q (by rfl) (.pointer (some ⟨w.heap.size, 5, none⟩)) ?he ?_
  case he => (first | rfl | (go_simp; (try with_reducible rfl)))
  (try simp only [Act.put, sA, sB, sC])
  refine wpList_q (by rfl) (.int .i64 l.ca) ?he ?_
  case he => exact exec_cell 3 _ _ HBL1.out rfl rfl rfl Try.underlying3 rfl
  (try simp only [Act.put, sA, sB, sC])
  refine wpList_q (by rfl) (.int .i64 s) ?he ?_
  case he => exact exec_cell 3 _ _ HBC.out rfl rfl rfl Try.underlying3 rfl
  (try simp only [Act.put, sA, sB, sC])
  refine wpList_q (by rfl) (.bool false) ?he ?_
  case he => (have q := H0.out; go_simp; (first | done | exact q | (simp [q]; done) | omega))
  (try simp only [Act.put, sA, sB, sC])
  refine wpList_q (by rfl) (.bool false) ?he ?_
  case he => (first | rfl | (go_simp; (try with_reducible rfl)))
  (try simp only [Act.put, sA, sB, sC])
  refine wpList_nil ?_
  (try go_wp2_with fail)
  go_ret
  exact ⟨rfl, HS1.out⟩
theorem car1T (cp : Nat) (s : Int) (l : LeaseV) (w : World) (hb : Blk w cp 3 #[.int .i64 s]) : Calls Try.prog 80 #[.agg #[.int .i64 l.se, .int .i64 l.fl, .int .i64 l.fm, .int .i64 l.to, .int .i64 l.ma, .int .i64 l.ca, .int .i64 l.ph, .int .i64 l.un, .int .i64 l.re, .int .i64 l.gr], .pointer (some ⟨cp, 0, none⟩)] w fun e w' => e = .returned (.bool (isC s l)) ∧ Since w w' := by
  by_cases h0 : l.ca = s
  · rw [show isC s l = true by simp [isC, h0]]; exact car1A cp s l w hb h0
  · rw [show isC s l = false by simp [isC, h0]]; exact car1B cp s l w hb h0
theorem boolV {w : World} {F : FuncId} {cp : Value} {p : LeaseV → Bool} (hp : ∀ (l : LeaseV) (w1 : World), Since w w1 → Calls Try.prog F #[.agg #[.int .i64 l.se, .int .i64 l.fl, .int .i64 l.fm, .int .i64 l.to, .int .i64 l.ma, .int .i64 l.ca, .int .i64 l.ph, .int .i64 l.un, .int .i64 l.re, .int .i64 l.gr], cp] w1 fun e w2 => e = .returned (.bool (p l)) ∧ Since w1 w2) (l : LeaseV) (b : Bool) (w1 : World) (hs : Since w w1) (hb : p l = b) :
    Calls Try.prog F #[.agg #[.int .i64 l.se, .int .i64 l.fl, .int .i64 l.fm, .int .i64 l.to, .int .i64 l.ma, .int .i64 l.ca, .int .i64 l.ph, .int .i64 l.un, .int .i64 l.re, .int .i64 l.gr], cp] w1 fun e w2 => e = .returned (.bool b) ∧ Since w1 w2 := by subst hb; exact hp l w1 hs
set_option maxHeartbeats 4000000 in
theorem indexHit (lo : Nat) (A : Option Addr) (c : Nat) (ls : List LeaseV) (F : FuncId) (cp : Value) (p : LeaseV → Bool) (k0 : Nat) (w : World) (ho : w.ownsRow lo 56 10 (.slice A ls.length c) ls.length (rowsOf leaC ls)) (hl : ls.length ≤ 10000) (hp : ∀ (l : LeaseV) (w1 : World), Since w w1 → Calls Try.prog F #[.agg #[.int .i64 l.se, .int .i64 l.fl, .int .i64 l.fm, .int .i64 l.to, .int .i64 l.ma, .int .i64 l.ca, .int .i64 l.ph, .int .i64 l.un, .int .i64 l.re, .int .i64 l.gr], cp] w1 fun e w2 => e = .returned (.bool (p l)) ∧ Since w1 w2) (hcf : ∀ (args : Array Value) (w1 : World), (callFunc F args).run Try.prog w1 = .ok (.enter F args) w1) (hf : atP ls p = some k0) : Calls Try.prog 92 #[.slice A ls.length c, .func (.func F) #[] #[cp]] w fun e w' => e = .returned (.int .i64 k0) ∧ Since w w' := by
  have HOW := Lib.hid ho
  clear ho
  have HL := Lib.hid hl
  clear hl
  have HP := Lib.hid hp
  clear hp
  have HCF := Lib.hid hcf
  clear hcf
  have HF := Lib.hid hf
  clear hf
  go_enter Try.func92, Try.ntmps92
  go_upto_region 1 with fail
  have HS1 := Lib.hid (Since.refl w)
  refine wp_region_lit ?_
  refine wpList_q (by rfl) (.slice A ls.length c) ?he ?_
  case he => (first | rfl | (go_simp; (try with_reducible rfl)))
  (try simp only [Act.put, sA, sB, sC])
  refine wpList_q (by rfl) (.int .i64 (ls.length : Int)) ?he ?_
  case he => (first | rfl | (go_simp; (try with_reducible rfl)))
  (try simp only [Act.put, sA, sB, sC])
  refine wpList_q (by rfl) (.int .i64 0) ?he ?_
  case he => (first | rfl | (go_simp; (try with_reducible rfl)))
  (try simp only [Act.put, sA, sB, sC])
  refine wpList_nil ?_
  go_wp2_with fail
  go_loopw [8] (fun s8 wr => ∃ (k : Nat), k ≤ k0 ∧ s8 = .int .i64 (k : Int) ∧ Hid (Since w wr ∧ (wr).ownsRow lo 56 10 (.slice A ls.length c) ls.length (rowsOf leaC ls))) (fun s8 wq => ((ls.length : Int) - intOf s8).toNat)
  case atStart => exact ⟨0, by omega, rfl, Lib.hid ⟨HS1.out, HOW.out⟩⟩
  case round =>
    obtain ⟨k, hk, rfl, HO⟩ := hrel
    obtain ⟨g0, g1⟩ := HO.out
    clear HO HS1 HOW
    have HS51 := Lib.hid g0
    have HFr51 := Lib.hid g1
    clear g0 g1
    obtain ⟨hk0, hse, hne⟩ := atP_some HF.out
    have HLT := Lib.hid (show k < ls.length by omega)
    have HSE := Lib.hid hse
    have HNE := Lib.hid hne
    have HK0 := Lib.hid hk0
    clear hse hne hk0
    by_cases hkk : k = k0
    · subst hkk
      obtain ⟨g, hg⟩ := own_addr HFr51.out (by have := HLT.out; omega)
      subst hg
      go_upto_region 2 with fail
      refine wp_region_lit ?_
      refine wpList_q (by rfl) (.bool true) ?he ?_
      case he => (have q0 := HLT.out; go_simp; (first | done | rfl | omega))
      (try simp only [Act.put, sA, sB, sC])
      refine wpList_nil ?_
      go_upto_region 3 with fail
      refine wp_region_lit ?_
      refine wpList_q (by rfl) (.int .i64 (k : Int)) ?he ?_
      case he => (first | rfl | (go_simp; (try with_reducible rfl)))
      (try simp only [Act.put, sA, sB, sC])
      refine wpList_q (by rfl) (.int .i64 (k : Int)) ?he ?_
      case he => (first | rfl | (go_simp; (try with_reducible rfl)))
      (try simp only [Act.put, sA, sB, sC])
      refine wpList_nil ?_
      go_upto_region 4 with fail
      refine wp_region_lit ?_
      refine wpList_q (by rfl) (.func (.func F) #[] #[cp]) ?he ?_
      case he => (first | rfl | (go_simp; (try with_reducible rfl)))
      (try simp only [Act.put, sA, sB, sC])
      refine wpList_q (by rfl) (.slice (some ⟨g, 0, none⟩) ls.length c) ?he ?_
      case he => (first | rfl | (go_simp; (try with_reducible rfl)))
      (try simp only [Act.put, sA, sB, sC])
      refine wpList_q (by rfl) (.int .i64 (k : Int)) ?he ?_
      case he => (first | rfl | (go_simp; (try with_reducible rfl)))
      (try simp only [Act.put, sA, sB, sC])
      refine wpList_q (by rfl) (.pointer (some ⟨g, (0 + k * 10), none⟩)) ?he ?_
      case he => exact exec_index (i := k) (s := 10) 24 56 _ _ rfl rfl rfl rfl HLT.out Try.underlying24 (by kernel_rfl)
      (try simp only [Act.put, sA, sB, sC])
      refine wpList_q (by rfl) (.agg #[.int .i64 ((ls[k]'HLT.out).se), .int .i64 ((ls[k]'HLT.out).fl), .int .i64 ((ls[k]'HLT.out).fm), .int .i64 ((ls[k]'HLT.out).to), .int .i64 ((ls[k]'HLT.out).ma), .int .i64 ((ls[k]'HLT.out).ca), .int .i64 ((ls[k]'HLT.out).ph), .int .i64 ((ls[k]'HLT.out).un), .int .i64 ((ls[k]'HLT.out).re), .int .i64 ((ls[k]'HLT.out).gr)]) ?he ?_
      case he => exact exec_rng (l := leaC (ls[k]'HLT.out)) 56 _ _ (by have q := row_at HFr51.out HLT.out; simpa only [Nat.zero_add] using q) rfl rfl Try.underlying56 rfl (by kernel_rfl)
      (try simp only [Act.put, sA, sB, sC])
      refine wpList_wp (by rfl) (fun K hK => ?_)
      (try go_simp)
      rw [HCF.out, Oper.upon_enter]
      refine (boolV HP.out (ls[k]'HLT.out) true _ HS51.out (HSE.out HLT.out)).mono ?_
      rintro e w52 ⟨rfl, hb⟩
      (try go_wp2_with fail)
      refine hK.out _ _ ?_
      clear hK K
      (try simp only [Act.put, sA, sB, sC])
      have HS52 := Lib.hid (Since.trans HS51.out hb)
      have HFr52 := Lib.hid (keep_own hb HFr51.out)
      clear HS51 HFr51
      clear hb
      refine wpList_nil ?_
      go_upto_region 5 with fail
      refine wp_region_lit ?_
      refine wpList_q (by rfl) (.int .i64 (k : Int)) ?he ?_
      case he => (first | rfl | (go_simp; (try with_reducible rfl)))
      (try simp only [Act.put, sA, sB, sC])
      refine wpList_q (by rfl) (.int .i64 (k : Int)) ?he ?_
      case he => (first | rfl | (go_simp; (try with_reducible rfl)))
      (try simp only [Act.put, sA, sB, sC])
      refine wpList_nil ?_
      (try go_wp2_with fail)
      go_ret
      exact ⟨rfl, HS52.out⟩
    · have HKL := Lib.hid (show k < k0 by omega)
      obtain ⟨g, hg⟩ := own_addr HFr51.out (by have := HLT.out; omega)
      subst hg
      go_upto_region 2 with fail
      refine wp_region_lit ?_
      refine wpList_q (by rfl) (.bool true) ?he ?_
      case he => (have q0 := HLT.out; go_simp; (first | done | rfl | omega))
      (try simp only [Act.put, sA, sB, sC])
      refine wpList_nil ?_
      go_upto_region 3 with fail
      refine wp_region_lit ?_
      refine wpList_q (by rfl) (.int .i64 (k : Int)) ?he ?_
      case he => (first | rfl | (go_simp; (try with_reducible rfl)))
      (try simp only [Act.put, sA, sB, sC])
      refine wpList_q (by rfl) (.int .i64 (k : Int)) ?he ?_
      case he => (first | rfl | (go_simp; (try with_reducible rfl)))
      (try simp only [Act.put, sA, sB, sC])
      refine wpList_nil ?_
      go_upto_region 4 with fail
      refine wp_region_lit ?_
      refine wpList_q (by rfl) (.func (.func F) #[] #[cp]) ?he ?_
      case he => (first | rfl | (go_simp; (try with_reducible rfl)))
      (try simp only [Act.put, sA, sB, sC])
      refine wpList_q (by rfl) (.slice (some ⟨g, 0, none⟩) ls.length c) ?he ?_
      case he => (first | rfl | (go_simp; (try with_reducible rfl)))
      (try simp only [Act.put, sA, sB, sC])
      refine wpList_q (by rfl) (.int .i64 (k : Int)) ?he ?_
      case he => (first | rfl | (go_simp; (try with_reducible rfl)))
      (try simp only [Act.put, sA, sB, sC])
      refine wpList_q (by rfl) (.pointer (some ⟨g, (0 + k * 10), none⟩)) ?he ?_
      case he => exact exec_index (i := k) (s := 10) 24 56 _ _ rfl rfl rfl rfl HLT.out Try.underlying24 (by kernel_rfl)
      (try simp only [Act.put, sA, sB, sC])
      refine wpList_q (by rfl) (.agg #[.int .i64 ((ls[k]'HLT.out).se), .int .i64 ((ls[k]'HLT.out).fl), .int .i64 ((ls[k]'HLT.out).fm), .int .i64 ((ls[k]'HLT.out).to), .int .i64 ((ls[k]'HLT.out).ma), .int .i64 ((ls[k]'HLT.out).ca), .int .i64 ((ls[k]'HLT.out).ph), .int .i64 ((ls[k]'HLT.out).un), .int .i64 ((ls[k]'HLT.out).re), .int .i64 ((ls[k]'HLT.out).gr)]) ?he ?_
      case he => exact exec_rng (l := leaC (ls[k]'HLT.out)) 56 _ _ (by have q := row_at HFr51.out HLT.out; simpa only [Nat.zero_add] using q) rfl rfl Try.underlying56 rfl (by kernel_rfl)
      (try simp only [Act.put, sA, sB, sC])
      refine wpList_wp (by rfl) (fun K hK => ?_)
      (try go_simp)
      rw [HCF.out, Oper.upon_enter]
      refine (boolV HP.out (ls[k]'HLT.out) false _ HS51.out (HNE.out k HKL.out HLT.out)).mono ?_
      rintro e w52 ⟨rfl, hb⟩
      (try go_wp2_with fail)
      refine hK.out _ _ ?_
      clear hK K
      (try simp only [Act.put, sA, sB, sC])
      have HS52 := Lib.hid (Since.trans HS51.out hb)
      have HFr52 := Lib.hid (keep_own hb HFr51.out)
      clear HS51 HFr51
      clear hb
      refine wpList_nil ?_
      go_upto_region 6 with fail
      refine wp_region_lit ?_
      refine wpList_q (by rfl) (.int .i64 ((k : Int) + 1)) ?he ?_
      case he => (go_simp; (first | done | (refine wr64 _ ?_ ?_ <;> (have q0 := HLT.out; have q1 := HL.out; omega)) | (have q0 := HLT.out; have q1 := HL.out; omega) | (have q0 := HLT.out; have q1 := HL.out; split <;> omega) | (have q0 := HLT.out; have q1 := HL.out; intro hh; omega)))
      (try simp only [Act.put, sA, sB, sC])
      refine wpList_q (by rfl) (.int .i64 ((k : Int) + 1)) ?he ?_
      case he => (first | rfl | (go_simp; (try with_reducible rfl)))
      (try simp only [Act.put, sA, sB, sC])
      refine wpList_nil ?_
      go_wp2_with fail
      go_roundw
      case rel => exact ⟨k + 1, by have := HKL.out; omega, by go_num, Lib.hid ⟨HS52.out, HFr52.out⟩⟩
      case measure => have := HLT.out; simp [intOf]; omega
set_option maxHeartbeats 4000000 in
theorem indexMiss (lo : Nat) (A : Option Addr) (c : Nat) (ls : List LeaseV) (F : FuncId) (cp : Value) (p : LeaseV → Bool) (w : World) (ho : w.ownsRow lo 56 10 (.slice A ls.length c) ls.length (rowsOf leaC ls)) (hl : ls.length ≤ 10000) (hp : ∀ (l : LeaseV) (w1 : World), Since w w1 → Calls Try.prog F #[.agg #[.int .i64 l.se, .int .i64 l.fl, .int .i64 l.fm, .int .i64 l.to, .int .i64 l.ma, .int .i64 l.ca, .int .i64 l.ph, .int .i64 l.un, .int .i64 l.re, .int .i64 l.gr], cp] w1 fun e w2 => e = .returned (.bool (p l)) ∧ Since w1 w2) (hcf : ∀ (args : Array Value) (w1 : World), (callFunc F args).run Try.prog w1 = .ok (.enter F args) w1) (hf : atP ls p = none) : Calls Try.prog 92 #[.slice A ls.length c, .func (.func F) #[] #[cp]] w fun e w' => e = .returned (.int .i64 (-1)) ∧ Since w w' := by
  have HOW := Lib.hid ho
  clear ho
  have HL := Lib.hid hl
  clear hl
  have HP := Lib.hid hp
  clear hp
  have HCF := Lib.hid hcf
  clear hcf
  have HF := Lib.hid hf
  clear hf
  go_enter Try.func92, Try.ntmps92
  go_upto_region 1 with fail
  have HS1 := Lib.hid (Since.refl w)
  refine wp_region_lit ?_
  refine wpList_q (by rfl) (.slice A ls.length c) ?he ?_
  case he => (first | rfl | (go_simp; (try with_reducible rfl)))
  (try simp only [Act.put, sA, sB, sC])
  refine wpList_q (by rfl) (.int .i64 (ls.length : Int)) ?he ?_
  case he => (first | rfl | (go_simp; (try with_reducible rfl)))
  (try simp only [Act.put, sA, sB, sC])
  refine wpList_q (by rfl) (.int .i64 0) ?he ?_
  case he => (first | rfl | (go_simp; (try with_reducible rfl)))
  (try simp only [Act.put, sA, sB, sC])
  refine wpList_nil ?_
  go_wp2_with fail
  go_loopw [8] (fun s8 wr => ∃ (k : Nat), k ≤ ls.length ∧ s8 = .int .i64 (k : Int) ∧ Hid (Since w wr ∧ (wr).ownsRow lo 56 10 (.slice A ls.length c) ls.length (rowsOf leaC ls))) (fun s8 wq => ((ls.length : Int) - intOf s8).toNat)
  case atStart => exact ⟨0, by omega, rfl, Lib.hid ⟨HS1.out, HOW.out⟩⟩
  case round =>
    obtain ⟨k, hk, rfl, HO⟩ := hrel
    obtain ⟨g0, g1⟩ := HO.out
    clear HO HS1 HOW
    have HS51 := Lib.hid g0
    have HFr51 := Lib.hid g1
    clear g0 g1
    by_cases hlt : k < ls.length
    rotate_left
    · have HGE := Lib.hid (show ls.length ≤ k by omega)
      go_upto_region 2 with fail
      refine wp_region_lit ?_
      refine wpList_q (by rfl) (.bool false) ?he ?_
      case he => (have q0 := HGE.out; go_simp; (first | done | rfl | omega))
      (try simp only [Act.put, sA, sB, sC])
      refine wpList_nil ?_
      go_upto_region 7 with fail
      refine wp_region_lit ?_
      refine wpList_q (by rfl) (.int .i64 (-1)) ?he ?_
      case he => (first | rfl | (go_simp; (try with_reducible rfl)))
      (try simp only [Act.put, sA, sB, sC])
      refine wpList_nil ?_
      (try go_wp2_with fail)
      go_ret
      exact ⟨rfl, HS51.out⟩
    · have HLT := Lib.hid hlt
      clear hlt
      obtain ⟨g, hg⟩ := own_addr HFr51.out (by have := HLT.out; omega)
      subst hg
      go_upto_region 2 with fail
      refine wp_region_lit ?_
      refine wpList_q (by rfl) (.bool true) ?he ?_
      case he => (have q0 := HLT.out; go_simp; (first | done | rfl | omega))
      (try simp only [Act.put, sA, sB, sC])
      refine wpList_nil ?_
      go_upto_region 3 with fail
      refine wp_region_lit ?_
      refine wpList_q (by rfl) (.int .i64 (k : Int)) ?he ?_
      case he => (first | rfl | (go_simp; (try with_reducible rfl)))
      (try simp only [Act.put, sA, sB, sC])
      refine wpList_q (by rfl) (.int .i64 (k : Int)) ?he ?_
      case he => (first | rfl | (go_simp; (try with_reducible rfl)))
      (try simp only [Act.put, sA, sB, sC])
      refine wpList_nil ?_
      go_upto_region 4 with fail
      refine wp_region_lit ?_
      refine wpList_q (by rfl) (.func (.func F) #[] #[cp]) ?he ?_
      case he => (first | rfl | (go_simp; (try with_reducible rfl)))
      (try simp only [Act.put, sA, sB, sC])
      refine wpList_q (by rfl) (.slice (some ⟨g, 0, none⟩) ls.length c) ?he ?_
      case he => (first | rfl | (go_simp; (try with_reducible rfl)))
      (try simp only [Act.put, sA, sB, sC])
      refine wpList_q (by rfl) (.int .i64 (k : Int)) ?he ?_
      case he => (first | rfl | (go_simp; (try with_reducible rfl)))
      (try simp only [Act.put, sA, sB, sC])
      refine wpList_q (by rfl) (.pointer (some ⟨g, (0 + k * 10), none⟩)) ?he ?_
      case he => exact exec_index (i := k) (s := 10) 24 56 _ _ rfl rfl rfl rfl HLT.out Try.underlying24 (by kernel_rfl)
      (try simp only [Act.put, sA, sB, sC])
      refine wpList_q (by rfl) (.agg #[.int .i64 ((ls[k]'HLT.out).se), .int .i64 ((ls[k]'HLT.out).fl), .int .i64 ((ls[k]'HLT.out).fm), .int .i64 ((ls[k]'HLT.out).to), .int .i64 ((ls[k]'HLT.out).ma), .int .i64 ((ls[k]'HLT.out).ca), .int .i64 ((ls[k]'HLT.out).ph), .int .i64 ((ls[k]'HLT.out).un), .int .i64 ((ls[k]'HLT.out).re), .int .i64 ((ls[k]'HLT.out).gr)]) ?he ?_
      case he => exact exec_rng (l := leaC (ls[k]'HLT.out)) 56 _ _ (by have q := row_at HFr51.out HLT.out; simpa only [Nat.zero_add] using q) rfl rfl Try.underlying56 rfl (by kernel_rfl)
      (try simp only [Act.put, sA, sB, sC])
      refine wpList_wp (by rfl) (fun K hK => ?_)
      (try go_simp)
      rw [HCF.out, Oper.upon_enter]
      refine (boolV HP.out (ls[k]'HLT.out) false _ HS51.out (atP_none HF.out k HLT.out)).mono ?_
      rintro e w52 ⟨rfl, hb⟩
      (try go_wp2_with fail)
      refine hK.out _ _ ?_
      clear hK K
      (try simp only [Act.put, sA, sB, sC])
      have HS52 := Lib.hid (Since.trans HS51.out hb)
      have HFr52 := Lib.hid (keep_own hb HFr51.out)
      clear HS51 HFr51
      clear hb
      refine wpList_nil ?_
      go_upto_region 6 with fail
      refine wp_region_lit ?_
      refine wpList_q (by rfl) (.int .i64 ((k : Int) + 1)) ?he ?_
      case he => (go_simp; (first | done | (refine wr64 _ ?_ ?_ <;> (have q0 := HLT.out; have q1 := HL.out; omega)) | (have q0 := HLT.out; have q1 := HL.out; omega) | (have q0 := HLT.out; have q1 := HL.out; split <;> omega) | (have q0 := HLT.out; have q1 := HL.out; intro hh; omega)))
      (try simp only [Act.put, sA, sB, sC])
      refine wpList_q (by rfl) (.int .i64 ((k : Int) + 1)) ?he ?_
      case he => (first | rfl | (go_simp; (try with_reducible rfl)))
      (try simp only [Act.put, sA, sB, sC])
      refine wpList_nil ?_
      go_wp2_with fail
      go_roundw
      case rel => exact ⟨k + 1, by have := HLT.out; omega, by go_num, Lib.hid ⟨HS52.out, HFr52.out⟩⟩
      case measure => have := HLT.out; simp [intOf]; omega
end Go.Proofs.Ytggafipgfgbbiaa.Le
