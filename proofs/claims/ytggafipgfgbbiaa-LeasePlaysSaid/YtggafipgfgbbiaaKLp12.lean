/-
  What is wanted by the last of these texts, part 12.
  No condition.
-/
import Derived.Test.YtggafipgfgbbiaaProg
import Derived.Test.YtggafipgfgbbiaaKLp0
import Derived.Test.YtggafipgfgbbiaaKLp1
import Derived.Test.YtggafipgfgbbiaaKLp10
import Derived.Test.YtggafipgfgbbiaaKLp11
import Derived.Test.YtggafipgfgbbiaaKLp7
namespace Go.Proofs.Ytggafipgfgbbiaa.Le
set_option linter.unusedVariables false
set_option linter.unusedSimpArgs false
open Go.RowKit Go.Proofs.Ytggafipgfgbbiaa.Ba Go.Proofs.Ytggafipgfgbbiaa.Mem Go.Proofs.Ytggafipgfgbbiaa.Ty
open Go.Proofs.Ytggafipgfgbbiaa.Ls (LV leaC)
open Go.Proofs.Ytggafipgfgbbiaa.Fl (mayB btw cnt)
set_option maxRecDepth 100000
attribute [local irreducible] Go.wpList
set_option maxHeartbeats 4000000 in
theorem setA (cp : Nat) (x : LeaseV) (l : LeaseV) (w : World) (hb : Blk w cp 56 #[.int .i64 x.se, .int .i64 x.fl, .int .i64 x.fm, .int .i64 x.to, .int .i64 x.ma, .int .i64 x.ca, .int .i64 x.ph, .int .i64 x.un, .int .i64 x.re, .int .i64 x.gr]) (h0 : l.se ≠ x.se) : Calls Try.prog 75 #[.agg #[.int .i64 l.se, .int .i64 l.fl, .int .i64 l.fm, .int .i64 l.to, .int .i64 l.ma, .int .i64 l.ca, .int .i64 l.ph, .int .i64 l.un, .int .i64 l.re, .int .i64 l.gr], .pointer (some ⟨cp, 0, none⟩)] w fun e w' => e = .returned (.bool false) ∧ Since w w' := by
 have HB := Lib.hid hb
 clear hb
 have H0 := Lib.hid h0
 clear h0
 go_enter Try.func75, Try.ntmps75
 go_upto_region 1 with fail
 obtain ⟨w1, hw1⟩ : ∃ w1, w1 = (w.alloc (.cells #[.int .i64 l.se, .int .i64 l.fl, .int .i64 l.fm, .int .i64 l.to, .int .i64 l.ma, .int .i64 l.ca, .int .i64 l.ph, .int .i64 l.un, .int .i64 l.re, .int .i64 l.gr] 56)) := ⟨_, rfl⟩
 rw [← hw1]
 have HBL1 := Lib.hid (show Blk w1 (w.heap.size) 56 #[.int .i64 l.se, .int .i64 l.fl, .int .i64 l.fm, .int .i64 l.to, .int .i64 l.ma, .int .i64 l.ca, .int .i64 l.ph, .int .i64 l.un, .int .i64 l.re, .int .i64 l.gr] by rw [hw1]; exact Blk.at_ (by (try simp only [size_alloc])) _ _)
 have HS1 := Lib.hid (show Since w w1 by rw [hw1]; exact Since.alloc (Since.refl w) _)
 have hNE : w.heap.size ≤ w.heap.size := by omega
 have HNE := Lib.hid hNE
 clear hNE hw1
 have HNE3 := Lib.hid (show w.heap.size ≤ w.heap.size from HNE.out)
 clear HNE
 have HBC := Lib.hid (keep_blk HS1.out HB.out)
 have HNC := Lib.hid (show cp ≠ w.heap.size by have := Blk.lt HB.out; omega)
 refine wp_region_lit ?_
 refine tkL (.pointer (some ⟨w.heap.size, 0, none⟩)) (h := ?_)
 (try simp only [Act.put, sA, sB, sC])
 refine tkL (.pointer (some ⟨w.heap.size, 0, none⟩)) (h := ?_)
 (try simp only [Act.put, sA, sB, sC])
 refine wpList_q (by rfl) (.int .i64 l.se) ?he ?_
 case he => exact exec_cell 3 _ _ HBL1.out rfl rfl rfl Try.underlying3 rfl
 (try simp only [Act.put, sA, sB, sC])
 refine tkL (.pointer (some ⟨cp, 0, none⟩)) (h := ?_)
 (try simp only [Act.put, sA, sB, sC])
 refine tkL (.pointer (some ⟨cp, 0, none⟩)) (h := ?_)
 (try simp only [Act.put, sA, sB, sC])
 refine wpList_q (by rfl) (.int .i64 x.se) ?he ?_
 case he => exact exec_cell 3 _ _ HBC.out rfl rfl rfl Try.underlying3 rfl
 (try simp only [Act.put, sA, sB, sC])
 refine wpList_q (by rfl) (.bool false) ?he ?_
 case he => (have q := H0.out; go_simp; (first | done | exact q | (simp [q]; done) | omega))
 (try simp only [Act.put, sA, sB, sC])
 refine tkL (.bool false) (h := ?_)
 (try simp only [Act.put, sA, sB, sC])
 refine wpList_no (by rfl) ?_
 (try simp only [Act.put, sA, sB, sC])
 refine wpList_no (by rfl) ?_
 (try simp only [Act.put, sA, sB, sC])
 refine wpList_no (by rfl) ?_
 (try simp only [Act.put, sA, sB, sC])
 refine wpList_no (by rfl) ?_
 (try simp only [Act.put, sA, sB, sC])
 refine wpList_no (by rfl) ?_
 (try simp only [Act.put, sA, sB, sC])
 refine tkL (.bool false) (h := ?_)
 (try simp only [Act.put, sA, sB, sC])
 refine tkL (.bool false) (h := ?_)
 (try simp only [Act.put, sA, sB, sC])
 refine wpList_no (by rfl) ?_
 (try simp only [Act.put, sA, sB, sC])
 refine wpList_no (by rfl) ?_
 (try simp only [Act.put, sA, sB, sC])
 refine wpList_no (by rfl) ?_
 (try simp only [Act.put, sA, sB, sC])
 refine wpList_no (by rfl) ?_
 (try simp only [Act.put, sA, sB, sC])
 refine wpList_no (by rfl) ?_
 (try simp only [Act.put, sA, sB, sC])
 refine wpList_no (by rfl) ?_
 (try simp only [Act.put, sA, sB, sC])
 refine wpList_no (by rfl) ?_
 (try simp only [Act.put, sA, sB, sC])
 refine tkL (.bool false) (h := ?_)
 (try simp only [Act.put, sA, sB, sC])
 refine tkL (.bool false) (h := ?_)
 (try simp only [Act.put, sA, sB, sC])
 refine wpList_nil ?_
 (try go_wp2_with fail)
 go_ret
 exact ⟨rfl, HS1.out⟩
set_option maxHeartbeats 4000000 in
theorem setB (cp : Nat) (x : LeaseV) (l : LeaseV) (w : World) (hb : Blk w cp 56 #[.int .i64 x.se, .int .i64 x.fl, .int .i64 x.fm, .int .i64 x.to, .int .i64 x.ma, .int .i64 x.ca, .int .i64 x.ph, .int .i64 x.un, .int .i64 x.re, .int .i64 x.gr]) (h0 : l.se = x.se) (h1 : l.ca ≠ x.ca) : Calls Try.prog 75 #[.agg #[.int .i64 l.se, .int .i64 l.fl, .int .i64 l.fm, .int .i64 l.to, .int .i64 l.ma, .int .i64 l.ca, .int .i64 l.ph, .int .i64 l.un, .int .i64 l.re, .int .i64 l.gr], .pointer (some ⟨cp, 0, none⟩)] w fun e w' => e = .returned (.bool false) ∧ Since w w' := by
 have HB := Lib.hid hb
 clear hb
 have H0 := Lib.hid h0
 clear h0
 have H1 := Lib.hid h1
 clear h1
 go_enter Try.func75, Try.ntmps75
 go_upto_region 1 with fail
 obtain ⟨w1, hw1⟩ : ∃ w1, w1 = (w.alloc (.cells #[.int .i64 l.se, .int .i64 l.fl, .int .i64 l.fm, .int .i64 l.to, .int .i64 l.ma, .int .i64 l.ca, .int .i64 l.ph, .int .i64 l.un, .int .i64 l.re, .int .i64 l.gr] 56)) := ⟨_, rfl⟩
 rw [← hw1]
 have HBL1 := Lib.hid (show Blk w1 (w.heap.size) 56 #[.int .i64 l.se, .int .i64 l.fl, .int .i64 l.fm, .int .i64 l.to, .int .i64 l.ma, .int .i64 l.ca, .int .i64 l.ph, .int .i64 l.un, .int .i64 l.re, .int .i64 l.gr] by rw [hw1]; exact Blk.at_ (by (try simp only [size_alloc])) _ _)
 have HS1 := Lib.hid (show Since w w1 by rw [hw1]; exact Since.alloc (Since.refl w) _)
 have hNE : w.heap.size ≤ w.heap.size := by omega
 have HNE := Lib.hid hNE
 clear hNE hw1
 have HNE3 := Lib.hid (show w.heap.size ≤ w.heap.size from HNE.out)
 clear HNE
 have HBC := Lib.hid (keep_blk HS1.out HB.out)
 have HNC := Lib.hid (show cp ≠ w.heap.size by have := Blk.lt HB.out; omega)
 refine wp_region_lit ?_
 refine tkL (.pointer (some ⟨w.heap.size, 0, none⟩)) (h := ?_)
 (try simp only [Act.put, sA, sB, sC])
 refine tkL (.pointer (some ⟨w.heap.size, 0, none⟩)) (h := ?_)
 (try simp only [Act.put, sA, sB, sC])
 refine wpList_q (by rfl) (.int .i64 l.se) ?he ?_
 case he => exact exec_cell 3 _ _ HBL1.out rfl rfl rfl Try.underlying3 rfl
 (try simp only [Act.put, sA, sB, sC])
 refine tkL (.pointer (some ⟨cp, 0, none⟩)) (h := ?_)
 (try simp only [Act.put, sA, sB, sC])
 refine tkL (.pointer (some ⟨cp, 0, none⟩)) (h := ?_)
 (try simp only [Act.put, sA, sB, sC])
 refine wpList_q (by rfl) (.int .i64 x.se) ?he ?_
 case he => exact exec_cell 3 _ _ HBC.out rfl rfl rfl Try.underlying3 rfl
 (try simp only [Act.put, sA, sB, sC])
 refine wpList_q (by rfl) (.bool true) ?he ?_
 case he => (have q := H0.out; go_simp; (first | done | exact q | (simp [q]; done) | omega))
 (try simp only [Act.put, sA, sB, sC])
 refine tkL (.bool true) (h := ?_)
 (try simp only [Act.put, sA, sB, sC])
 refine tkL (.pointer (some ⟨w.heap.size, 5, none⟩)) (h := ?_)
 (try simp only [Act.put, sA, sB, sC])
 refine wpList_q (by rfl) (.int .i64 l.ca) ?he ?_
 case he => exact exec_cell 3 _ _ HBL1.out rfl rfl rfl Try.underlying3 rfl
 (try simp only [Act.put, sA, sB, sC])
 refine tkL (.pointer (some ⟨cp, 5, none⟩)) (h := ?_)
 (try simp only [Act.put, sA, sB, sC])
 refine wpList_q (by rfl) (.int .i64 x.ca) ?he ?_
 case he => exact exec_cell 3 _ _ HBC.out rfl rfl rfl Try.underlying3 rfl
 (try simp only [Act.put, sA, sB, sC])
 refine wpList_q (by rfl) (.bool false) ?he ?_
 case he => (have q := H1.out; go_simp; (first | done | exact q | (simp [q]; done) | omega))
 (try simp only [Act.put, sA, sB, sC])
 refine tkL (.bool false) (h := ?_)
 (try simp only [Act.put, sA, sB, sC])
 refine tkL (.bool false) (h := ?_)
 (try simp only [Act.put, sA, sB, sC])
 refine wpList_no (by rfl) ?_
 (try simp only [Act.put, sA, sB, sC])
 refine wpList_no (by rfl) ?_
 (try simp only [Act.put, sA, sB, sC])
 refine wpList_no (by rfl) ?_
 (try simp only [Act.put, sA, sB, sC])
 refine wpList_no (by rfl) ?_
 (try simp only [Act.put, sA, sB, sC])
 refine wpList_no (by rfl) ?_
 (try simp only [Act.put, sA, sB, sC])
 refine wpList_no (by rfl) ?_
 (try simp only [Act.put, sA, sB, sC])
 refine wpList_no (by rfl) ?_
 (try simp only [Act.put, sA, sB, sC])
 refine tkL (.bool false) (h := ?_)
 (try simp only [Act.put, sA, sB, sC])
 refine tkL (.bool false) (h := ?_)
 (try simp only [Act.put, sA, sB, sC])
 refine wpList_nil ?_
 (try go_wp2_with fail)
 go_ret
 exact ⟨rfl, HS1.out⟩
set_option maxHeartbeats 4000000 in
theorem setC (cp : Nat) (x : LeaseV) (l : LeaseV) (w : World) (hb : Blk w cp 56 #[.int .i64 x.se, .int .i64 x.fl, .int .i64 x.fm, .int .i64 x.to, .int .i64 x.ma, .int .i64 x.ca, .int .i64 x.ph, .int .i64 x.un, .int .i64 x.re, .int .i64 x.gr]) (h0 : l.se = x.se) (h1 : l.ca = x.ca) (h2 : l.fl ≠ x.fl) : Calls Try.prog 75 #[.agg #[.int .i64 l.se, .int .i64 l.fl, .int .i64 l.fm, .int .i64 l.to, .int .i64 l.ma, .int .i64 l.ca, .int .i64 l.ph, .int .i64 l.un, .int .i64 l.re, .int .i64 l.gr], .pointer (some ⟨cp, 0, none⟩)] w fun e w' => e = .returned (.bool false) ∧ Since w w' := by
 have HB := Lib.hid hb
 clear hb
 have H0 := Lib.hid h0
 clear h0
 have H1 := Lib.hid h1
 clear h1
 have H2 := Lib.hid h2
 clear h2
 go_enter Try.func75, Try.ntmps75
 go_upto_region 1 with fail
 obtain ⟨w1, hw1⟩ : ∃ w1, w1 = (w.alloc (.cells #[.int .i64 l.se, .int .i64 l.fl, .int .i64 l.fm, .int .i64 l.to, .int .i64 l.ma, .int .i64 l.ca, .int .i64 l.ph, .int .i64 l.un, .int .i64 l.re, .int .i64 l.gr] 56)) := ⟨_, rfl⟩
 rw [← hw1]
 have HBL1 := Lib.hid (show Blk w1 (w.heap.size) 56 #[.int .i64 l.se, .int .i64 l.fl, .int .i64 l.fm, .int .i64 l.to, .int .i64 l.ma, .int .i64 l.ca, .int .i64 l.ph, .int .i64 l.un, .int .i64 l.re, .int .i64 l.gr] by rw [hw1]; exact Blk.at_ (by (try simp only [size_alloc])) _ _)
 have HS1 := Lib.hid (show Since w w1 by rw [hw1]; exact Since.alloc (Since.refl w) _)
 have hNE : w.heap.size ≤ w.heap.size := by omega
 have HNE := Lib.hid hNE
 clear hNE hw1
 have HNE3 := Lib.hid (show w.heap.size ≤ w.heap.size from HNE.out)
 clear HNE
 have HBC := Lib.hid (keep_blk HS1.out HB.out)
 have HNC := Lib.hid (show cp ≠ w.heap.size by have := Blk.lt HB.out; omega)
 refine wp_region_lit ?_
 refine tkL (.pointer (some ⟨w.heap.size, 0, none⟩)) (h := ?_)
 (try simp only [Act.put, sA, sB, sC])
 refine tkL (.pointer (some ⟨w.heap.size, 0, none⟩)) (h := ?_)
 (try simp only [Act.put, sA, sB, sC])
 refine wpList_q (by rfl) (.int .i64 l.se) ?he ?_
 case he => exact exec_cell 3 _ _ HBL1.out rfl rfl rfl Try.underlying3 rfl
 (try simp only [Act.put, sA, sB, sC])
 refine tkL (.pointer (some ⟨cp, 0, none⟩)) (h := ?_)
 (try simp only [Act.put, sA, sB, sC])
 refine tkL (.pointer (some ⟨cp, 0, none⟩)) (h := ?_)
 (try simp only [Act.put, sA, sB, sC])
 refine wpList_q (by rfl) (.int .i64 x.se) ?he ?_
 case he => exact exec_cell 3 _ _ HBC.out rfl rfl rfl Try.underlying3 rfl
 (try simp only [Act.put, sA, sB, sC])
 refine wpList_q (by rfl) (.bool true) ?he ?_
 case he => (have q := H0.out; go_simp; (first | done | exact q | (simp [q]; done) | omega))
 (try simp only [Act.put, sA, sB, sC])
 refine tkL (.bool true) (h := ?_)
 (try simp only [Act.put, sA, sB, sC])
 refine tkL (.pointer (some ⟨w.heap.size, 5, none⟩)) (h := ?_)
 (try simp only [Act.put, sA, sB, sC])
 refine wpList_q (by rfl) (.int .i64 l.ca) ?he ?_
 case he => exact exec_cell 3 _ _ HBL1.out rfl rfl rfl Try.underlying3 rfl
 (try simp only [Act.put, sA, sB, sC])
 refine tkL (.pointer (some ⟨cp, 5, none⟩)) (h := ?_)
 (try simp only [Act.put, sA, sB, sC])
 refine wpList_q (by rfl) (.int .i64 x.ca) ?he ?_
 case he => exact exec_cell 3 _ _ HBC.out rfl rfl rfl Try.underlying3 rfl
 (try simp only [Act.put, sA, sB, sC])
 refine wpList_q (by rfl) (.bool true) ?he ?_
 case he => (have q := H1.out; go_simp; (first | done | exact q | (simp [q]; done) | omega))
 (try simp only [Act.put, sA, sB, sC])
 refine tkL (.bool true) (h := ?_)
 (try simp only [Act.put, sA, sB, sC])
 refine tkL (.bool true) (h := ?_)
 (try simp only [Act.put, sA, sB, sC])
 refine tkL (.pointer (some ⟨w.heap.size, 0, none⟩)) (h := ?_)
 (try simp only [Act.put, sA, sB, sC])
 refine tkL (.pointer (some ⟨w.heap.size, 1, none⟩)) (h := ?_)
 (try simp only [Act.put, sA, sB, sC])
 refine wpList_q (by rfl) (.int .i64 l.fl) ?he ?_
 case he => exact exec_cell 3 _ _ HBL1.out rfl rfl rfl Try.underlying3 rfl
 (try simp only [Act.put, sA, sB, sC])
 refine tkL (.pointer (some ⟨cp, 0, none⟩)) (h := ?_)
 (try simp only [Act.put, sA, sB, sC])
 refine tkL (.pointer (some ⟨cp, 1, none⟩)) (h := ?_)
 (try simp only [Act.put, sA, sB, sC])
 refine wpList_q (by rfl) (.int .i64 x.fl) ?he ?_
 case he => exact exec_cell 3 _ _ HBC.out rfl rfl rfl Try.underlying3 rfl
 (try simp only [Act.put, sA, sB, sC])
 refine wpList_q (by rfl) (.bool false) ?he ?_
 case he => (have q := H2.out; go_simp; (first | done | exact q | (simp [q]; done) | omega))
 (try simp only [Act.put, sA, sB, sC])
 refine tkL (.bool false) (h := ?_)
 (try simp only [Act.put, sA, sB, sC])
 refine tkL (.bool false) (h := ?_)
 (try simp only [Act.put, sA, sB, sC])
 refine wpList_nil ?_
 (try go_wp2_with fail)
 go_ret
 exact ⟨rfl, HS1.out⟩
set_option maxHeartbeats 4000000 in
theorem setD (cp : Nat) (x : LeaseV) (l : LeaseV) (w : World) (hb : Blk w cp 56 #[.int .i64 x.se, .int .i64 x.fl, .int .i64 x.fm, .int .i64 x.to, .int .i64 x.ma, .int .i64 x.ca, .int .i64 x.ph, .int .i64 x.un, .int .i64 x.re, .int .i64 x.gr]) (h0 : l.se = x.se) (h1 : l.ca = x.ca) (h2 : l.fl = x.fl) : Calls Try.prog 75 #[.agg #[.int .i64 l.se, .int .i64 l.fl, .int .i64 l.fm, .int .i64 l.to, .int .i64 l.ma, .int .i64 l.ca, .int .i64 l.ph, .int .i64 l.un, .int .i64 l.re, .int .i64 l.gr], .pointer (some ⟨cp, 0, none⟩)] w fun e w' => e = .returned (.bool true) ∧ Since w w' := by
 have HB := Lib.hid hb
 clear hb
 have H0 := Lib.hid h0
 clear h0
 have H1 := Lib.hid h1
 clear h1
 have H2 := Lib.hid h2
 clear h2
 go_enter Try.func75, Try.ntmps75
 go_upto_region 1 with fail
 obtain ⟨w1, hw1⟩ : ∃ w1, w1 = (w.alloc (.cells #[.int .i64 l.se, .int .i64 l.fl, .int .i64 l.fm, .int .i64 l.to, .int .i64 l.ma, .int .i64 l.ca, .int .i64 l.ph, .int .i64 l.un, .int .i64 l.re, .int .i64 l.gr] 56)) := ⟨_, rfl⟩
 rw [← hw1]
 have HBL1 := Lib.hid (show Blk w1 (w.heap.size) 56 #[.int .i64 l.se, .int .i64 l.fl, .int .i64 l.fm, .int .i64 l.to, .int .i64 l.ma, .int .i64 l.ca, .int .i64 l.ph, .int .i64 l.un, .int .i64 l.re, .int .i64 l.gr] by rw [hw1]; exact Blk.at_ (by (try simp only [size_alloc])) _ _)
 have HS1 := Lib.hid (show Since w w1 by rw [hw1]; exact Since.alloc (Since.refl w) _)
 have hNE : w.heap.size ≤ w.heap.size := by omega
 have HNE := Lib.hid hNE
 clear hNE hw1
 have HNE3 := Lib.hid (show w.heap.size ≤ w.heap.size from HNE.out)
 clear HNE
 have HBC := Lib.hid (keep_blk HS1.out HB.out)
 have HNC := Lib.hid (show cp ≠ w.heap.size by have := Blk.lt HB.out; omega)
 refine wp_region_lit ?_
 refine tkL (.pointer (some ⟨w.heap.size, 0, none⟩)) (h := ?_)
 (try simp only [Act.put, sA, sB, sC])
 refine tkL (.pointer (some ⟨w.heap.size, 0, none⟩)) (h := ?_)
 (try simp only [Act.put, sA, sB, sC])
 refine wpList_q (by rfl) (.int .i64 l.se) ?he ?_
 case he => exact exec_cell 3 _ _ HBL1.out rfl rfl rfl Try.underlying3 rfl
 (try simp only [Act.put, sA, sB, sC])
 refine tkL (.pointer (some ⟨cp, 0, none⟩)) (h := ?_)
 (try simp only [Act.put, sA, sB, sC])
 refine tkL (.pointer (some ⟨cp, 0, none⟩)) (h := ?_)
 (try simp only [Act.put, sA, sB, sC])
 refine wpList_q (by rfl) (.int .i64 x.se) ?he ?_
 case he => exact exec_cell 3 _ _ HBC.out rfl rfl rfl Try.underlying3 rfl
 (try simp only [Act.put, sA, sB, sC])
 refine wpList_q (by rfl) (.bool true) ?he ?_
 case he => (have q := H0.out; go_simp; (first | done | exact q | (simp [q]; done) | omega))
 (try simp only [Act.put, sA, sB, sC])
 refine tkL (.bool true) (h := ?_)
 (try simp only [Act.put, sA, sB, sC])
 refine tkL (.pointer (some ⟨w.heap.size, 5, none⟩)) (h := ?_)
 (try simp only [Act.put, sA, sB, sC])
 refine wpList_q (by rfl) (.int .i64 l.ca) ?he ?_
 case he => exact exec_cell 3 _ _ HBL1.out rfl rfl rfl Try.underlying3 rfl
 (try simp only [Act.put, sA, sB, sC])
 refine tkL (.pointer (some ⟨cp, 5, none⟩)) (h := ?_)
 (try simp only [Act.put, sA, sB, sC])
 refine wpList_q (by rfl) (.int .i64 x.ca) ?he ?_
 case he => exact exec_cell 3 _ _ HBC.out rfl rfl rfl Try.underlying3 rfl
 (try simp only [Act.put, sA, sB, sC])
 refine wpList_q (by rfl) (.bool true) ?he ?_
 case he => (have q := H1.out; go_simp; (first | done | exact q | (simp [q]; done) | omega))
 (try simp only [Act.put, sA, sB, sC])
 refine tkL (.bool true) (h := ?_)
 (try simp only [Act.put, sA, sB, sC])
 refine tkL (.bool true) (h := ?_)
 (try simp only [Act.put, sA, sB, sC])
 refine tkL (.pointer (some ⟨w.heap.size, 0, none⟩)) (h := ?_)
 (try simp only [Act.put, sA, sB, sC])
 refine tkL (.pointer (some ⟨w.heap.size, 1, none⟩)) (h := ?_)
 (try simp only [Act.put, sA, sB, sC])
 refine wpList_q (by rfl) (.int .i64 l.fl) ?he ?_
 case he => exact exec_cell 3 _ _ HBL1.out rfl rfl rfl Try.underlying3 rfl
 (try simp only [Act.put, sA, sB, sC])
 refine tkL (.pointer (some ⟨cp, 0, none⟩)) (h := ?_)
 (try simp only [Act.put, sA, sB, sC])
 refine tkL (.pointer (some ⟨cp, 1, none⟩)) (h := ?_)
 (try simp only [Act.put, sA, sB, sC])
 refine wpList_q (by rfl) (.int .i64 x.fl) ?he ?_
 case he => exact exec_cell 3 _ _ HBC.out rfl rfl rfl Try.underlying3 rfl
 (try simp only [Act.put, sA, sB, sC])
 refine wpList_q (by rfl) (.bool true) ?he ?_
 case he => (have q := H2.out; go_simp; (first | done | exact q | (simp [q]; done) | omega))
 (try simp only [Act.put, sA, sB, sC])
 refine tkL (.bool true) (h := ?_)
 (try simp only [Act.put, sA, sB, sC])
 refine tkL (.bool true) (h := ?_)
 (try simp only [Act.put, sA, sB, sC])
 refine wpList_nil ?_
 (try go_wp2_with fail)
 go_ret
 exact ⟨rfl, HS1.out⟩
theorem set1T (cp : Nat) (x l : LeaseV) (w : World) (hb : Blk w cp 56 #[.int .i64 x.se, .int .i64 x.fl, .int .i64 x.fm, .int .i64 x.to, .int .i64 x.ma, .int .i64 x.ca, .int .i64 x.ph, .int .i64 x.un, .int .i64 x.re, .int .i64 x.gr]) : Calls Try.prog 75 #[.agg #[.int .i64 l.se, .int .i64 l.fl, .int .i64 l.fm, .int .i64 l.to, .int .i64 l.ma, .int .i64 l.ca, .int .i64 l.ph, .int .i64 l.un, .int .i64 l.re, .int .i64 l.gr], .pointer (some ⟨cp, 0, none⟩)] w fun e w' => e = .returned (.bool (isT x l)) ∧ Since w w' := by
  by_cases h0 : l.se = x.se
  · by_cases h1 : l.ca = x.ca
    · by_cases h2 : l.fl = x.fl
      · rw [show isT x l = true by simp [isT, h0, h1, h2]]; exact setD cp x l w hb h0 h1 h2
      · rw [show isT x l = false by simp [isT, h2]]; exact setC cp x l w hb h0 h1 h2
    · rw [show isT x l = false by simp [isT, h1]]; exact setB cp x l w hb h0 h1
  · rw [show isT x l = false by simp [isT, h0]]; exact setA cp x l w hb h0
theorem own_elS {w : World} {lo g n c i : Nat} {ls : List LeaseV} {a : LeaseV} (h : w.ownsRow lo 56 10 (.slice (some ⟨g, 0, none⟩) n c) n (rowsOf leaC ls)) (hi : ls[i]? = some a) :
    ∃ P S : List Value, P.length = i * 10 ∧ Blk w g 56 (el P (leaC a).toArray S) ∧ ∀ a' w', Blk w' g 56 (el P (leaC a').toArray S) → w'.ownsRow lo 56 10 (.slice (some ⟨g, 0, none⟩) n c) n (rowsOf leaC (ls.set i a')) := by
  obtain ⟨h1, h2⟩ := List.getElem?_eq_some_iff.1 hi
  obtain ⟨P, S, hP, hB, hb⟩ := own_el leaC_len h h1
  exact ⟨P, S, by rw [hP, Nat.zero_add], by rw [← h2]; exact hB, hb⟩
theorem row_l {w : World} {lo g n c i : Nat} {ls : List LeaseV} {a : LeaseV} (h : w.ownsRow lo 56 10 (.slice (some ⟨g, 0, none⟩) n c) n (rowsOf leaC ls)) (hi : ls[i]? = some a) : ∀ j v, (leaC a)[j]? = some v → w.cell? ⟨g, 0 + i * 10 + j, none⟩ = some v := by
  obtain ⟨h1, h2⟩ := List.getElem?_eq_some_iff.1 hi
  rw [← h2, Nat.zero_add]
  exact row_at h h1
theorem putLea (x y : LeaseV) : putAt #[.int .i64 x.se, .int .i64 x.fl, .int .i64 x.fm, .int .i64 x.to, .int .i64 x.ma, .int .i64 x.ca, .int .i64 x.ph, .int .i64 x.un, .int .i64 x.re, .int .i64 x.gr] 0 (#[.int .i64 y.se, .int .i64 y.fl, .int .i64 y.fm, .int .i64 y.to, .int .i64 y.ma, .int .i64 y.ca, .int .i64 y.ph, .int .i64 y.un, .int .i64 y.re, .int .i64 y.gr] : Array Value).toList = #[.int .i64 y.se, .int .i64 y.fl, .int .i64 y.fm, .int .i64 y.to, .int .i64 y.ma, .int .i64 y.ca, .int .i64 y.ph, .int .i64 y.un, .int .i64 y.re, .int .i64 y.gr] := by kernel_rfl
set_option maxHeartbeats 4000000 in
theorem setBad (lo t : Nat) (c : CfgV) (ls : List LeaseV) (A : Option Addr) (cap : Nat) (l : LeaseV) (w : World) (hq : Blk w t 101 (tabC c (.slice A ls.length cap))) (ho : w.ownsRow lo 56 10 (.slice A ls.length cap) ls.length (rowsOf leaC ls)) (hl : ls.length ≤ 10000) (hg : goodB c l = false) : Calls Try.prog 36 #[.pointer (some ⟨t, 0, none⟩), .agg #[.int .i64 l.se, .int .i64 l.fl, .int .i64 l.fm, .int .i64 l.to, .int .i64 l.ma, .int .i64 l.ca, .int .i64 l.ph, .int .i64 l.un, .int .i64 l.re, .int .i64 l.gr]] w fun e w' => e = .returned (.int .i64 1) ∧ Since w w' := by
 have HBQ := Lib.hid (show Blk w t 101 #[.int .i64 c.ca, .int .i64 c.fl, .int .i64 c.ft, .int .i64 c.se, .int .i64 c.dr, .int .i64 c.dw, .int .i64 c.ho, .int .i64 c.re, .int .i64 c.yi, .int .i64 c.qu, .int .i64 c.qo, .int .i64 c.lo, .int .i64 c.sl, .int .i64 c.rt, .int .i64 c.cp, .int .i64 c.tr, .int .i64 c.de, .int .i64 c.wi, .slice A ls.length cap] from hq)
 clear hq
 have HOW := Lib.hid ho
 clear ho
 have HL := Lib.hid hl
 clear hl
 have HG := Lib.hid hg
 clear hg
 go_enter Try.func36, Try.ntmps36
 go_upto_region 1 with fail
 obtain ⟨w1, hw1⟩ : ∃ w1, w1 = (w.alloc (.cells #[.int .i64 l.se, .int .i64 l.fl, .int .i64 l.fm, .int .i64 l.to, .int .i64 l.ma, .int .i64 l.ca, .int .i64 l.ph, .int .i64 l.un, .int .i64 l.re, .int .i64 l.gr] 56)) := ⟨_, rfl⟩
 rw [← hw1]
 have HBL1 := Lib.hid (show Blk w1 (w.heap.size) 56 #[.int .i64 l.se, .int .i64 l.fl, .int .i64 l.fm, .int .i64 l.to, .int .i64 l.ma, .int .i64 l.ca, .int .i64 l.ph, .int .i64 l.un, .int .i64 l.re, .int .i64 l.gr] by rw [hw1]; exact Blk.at_ (by (try simp only [size_alloc])) _ _)
 have HS1 := Lib.hid (show Since w w1 by rw [hw1]; exact Since.alloc (Since.refl w) _)
 have hNE : w.heap.size ≤ w.heap.size := by omega
 have HNE := Lib.hid hNE
 clear hNE hw1
 have HNE3 := Lib.hid (show w.heap.size ≤ w.heap.size from HNE.out)
 clear HNE
 have HBQ1 := Lib.hid (keep_blk HS1.out HBQ.out)
 have HOW1 := Lib.hid (keep_own HS1.out HOW.out)
 have HIQ := Lib.hid (own_ne_ty HOW.out HBQ.out (by decide))
 have HIA := Lib.hid (own_far HOW.out (Nat.le_refl _))
 have HNQA := Lib.hid (show t ≠ w.heap.size by have := Blk.lt HBQ.out; omega)
 clear HBQ HOW
 refine wp_region_lit ?_
 refine tkL (.pointer (some ⟨t, 0, none⟩)) (h := ?_)
 (try simp only [Act.put, sA, sB, sC])
 refine wpList_q (by rfl) (.agg #[.int .i64 l.se, .int .i64 l.fl, .int .i64 l.fm, .int .i64 l.to, .int .i64 l.ma, .int .i64 l.ca, .int .i64 l.ph, .int .i64 l.un, .int .i64 l.re, .int .i64 l.gr]) ?he ?_
 case he => exact exec_load_row 56 _ _ HBL1.out rfl rfl Try.underlying56 rfl (by kernel_rfl)
 (try simp only [Act.put, sA, sB, sC])
 refine wpList_wp (by rfl) (fun K hK => ?_)
 (try go_simp)
 refine (goodV t c ls A cap l false _ (show Blk _ t 101 (tabC c (.slice A ls.length cap)) from HBQ1.out) HG.out).mono ?_
 rintro e w2 ⟨rfl, hb⟩
 (try go_wp2_with fail)
 refine hK.out _ _ ?_
 clear hK K
 (try simp only [Act.put, sA, sB, sC])
 have HS2 := Lib.hid (Since.trans HS1.out hb)
 have HBL2 := Lib.hid (keep_blk hb HBL1.out)
 have HBQ2 := Lib.hid (keep_blk hb HBQ1.out)
 have HFr2 := Lib.hid (keep_own hb HOW1.out)
 clear HS1 HBL1 HBQ1 HOW1
 clear hb
 refine wpList_q (by rfl) (.bool true) ?he ?_
 case he => (go_simp; (try with_reducible rfl))
 (try simp only [Act.put, sA, sB, sC])
 refine wpList_nil ?_
 go_upto_region 2 with fail
 refine wp_region_lit ?_
 refine tkL (.int .i64 1) (h := ?_)
 (try simp only [Act.put, sA, sB, sC])
 refine wpList_nil ?_
 (try go_wp2_with fail)
 go_ret
 exact ⟨rfl, HS2.out⟩
set_option maxHeartbeats 4000000 in
theorem setMiss (lo t : Nat) (c : CfgV) (ls : List LeaseV) (A : Option Addr) (cap : Nat) (l : LeaseV) (w : World) (hq : Blk w t 101 (tabC c (.slice A ls.length cap))) (ho : w.ownsRow lo 56 10 (.slice A ls.length cap) ls.length (rowsOf leaC ls)) (hl : ls.length ≤ 10000) (hg : goodB c l = true) (hf : atP ls (isT l) = none) : Calls Try.prog 36 #[.pointer (some ⟨t, 0, none⟩), .agg #[.int .i64 l.se, .int .i64 l.fl, .int .i64 l.fm, .int .i64 l.to, .int .i64 l.ma, .int .i64 l.ca, .int .i64 l.ph, .int .i64 l.un, .int .i64 l.re, .int .i64 l.gr]] w fun e w' => e = .returned (.int .i64 6) ∧ Since w w' := by
 have HBQ := Lib.hid (show Blk w t 101 #[.int .i64 c.ca, .int .i64 c.fl, .int .i64 c.ft, .int .i64 c.se, .int .i64 c.dr, .int .i64 c.dw, .int .i64 c.ho, .int .i64 c.re, .int .i64 c.yi, .int .i64 c.qu, .int .i64 c.qo, .int .i64 c.lo, .int .i64 c.sl, .int .i64 c.rt, .int .i64 c.cp, .int .i64 c.tr, .int .i64 c.de, .int .i64 c.wi, .slice A ls.length cap] from hq)
 clear hq
 have HOW := Lib.hid ho
 clear ho
 have HL := Lib.hid hl
 clear hl
 have HG := Lib.hid hg
 clear hg
 have HF := Lib.hid hf
 clear hf
 go_enter Try.func36, Try.ntmps36
 go_upto_region 1 with fail
 obtain ⟨w1, hw1⟩ : ∃ w1, w1 = (w.alloc (.cells #[.int .i64 l.se, .int .i64 l.fl, .int .i64 l.fm, .int .i64 l.to, .int .i64 l.ma, .int .i64 l.ca, .int .i64 l.ph, .int .i64 l.un, .int .i64 l.re, .int .i64 l.gr] 56)) := ⟨_, rfl⟩
 rw [← hw1]
 have HBL1 := Lib.hid (show Blk w1 (w.heap.size) 56 #[.int .i64 l.se, .int .i64 l.fl, .int .i64 l.fm, .int .i64 l.to, .int .i64 l.ma, .int .i64 l.ca, .int .i64 l.ph, .int .i64 l.un, .int .i64 l.re, .int .i64 l.gr] by rw [hw1]; exact Blk.at_ (by (try simp only [size_alloc])) _ _)
 have HS1 := Lib.hid (show Since w w1 by rw [hw1]; exact Since.alloc (Since.refl w) _)
 have hNE : w.heap.size ≤ w.heap.size := by omega
 have HNE := Lib.hid hNE
 clear hNE hw1
 have HNE3 := Lib.hid (show w.heap.size ≤ w.heap.size from HNE.out)
 clear HNE
 have HBQ1 := Lib.hid (keep_blk HS1.out HBQ.out)
 have HOW1 := Lib.hid (keep_own HS1.out HOW.out)
 have HIQ := Lib.hid (own_ne_ty HOW.out HBQ.out (by decide))
 have HIA := Lib.hid (own_far HOW.out (Nat.le_refl _))
 have HNQA := Lib.hid (show t ≠ w.heap.size by have := Blk.lt HBQ.out; omega)
 clear HBQ HOW
 refine wp_region_lit ?_
 refine tkL (.pointer (some ⟨t, 0, none⟩)) (h := ?_)
 (try simp only [Act.put, sA, sB, sC])
 refine wpList_q (by rfl) (.agg #[.int .i64 l.se, .int .i64 l.fl, .int .i64 l.fm, .int .i64 l.to, .int .i64 l.ma, .int .i64 l.ca, .int .i64 l.ph, .int .i64 l.un, .int .i64 l.re, .int .i64 l.gr]) ?he ?_
 case he => exact exec_load_row 56 _ _ HBL1.out rfl rfl Try.underlying56 rfl (by kernel_rfl)
 (try simp only [Act.put, sA, sB, sC])
 refine wpList_wp (by rfl) (fun K hK => ?_)
 (try go_simp)
 refine (goodV t c ls A cap l true _ (show Blk _ t 101 (tabC c (.slice A ls.length cap)) from HBQ1.out) HG.out).mono ?_
 rintro e w2 ⟨rfl, hb⟩
 (try go_wp2_with fail)
 refine hK.out _ _ ?_
 clear hK K
 (try simp only [Act.put, sA, sB, sC])
 have HS2 := Lib.hid (Since.trans HS1.out hb)
 have HBL2 := Lib.hid (keep_blk hb HBL1.out)
 have HBQ2 := Lib.hid (keep_blk hb HBQ1.out)
 have HFr2 := Lib.hid (keep_own hb HOW1.out)
 clear HS1 HBL1 HBQ1 HOW1
 clear hb
 refine wpList_q (by rfl) (.bool false) ?he ?_
 case he => (go_simp; (try with_reducible rfl))
 (try simp only [Act.put, sA, sB, sC])
 refine wpList_nil ?_
 go_upto_region 3 with fail
 refine wp_region_lit ?_
 refine tkL (.pointer (some ⟨t, 0, none⟩)) (h := ?_)
 (try simp only [Act.put, sA, sB, sC])
 refine wpList_q (by rfl) (.func (.func 75) #[] #[.pointer (some ⟨w.heap.size, 0, none⟩)]) ?he ?_
 case he => (first | rfl | (go_simp; (try rfl)))
 (try simp only [Act.put, sA, sB, sC])
 refine wpList_wp (by rfl) (fun K hK => ?_)
 (try go_simp)
 refine (findM lo t c ls A cap 75 (.pointer (some ⟨w.heap.size, 0, none⟩)) (isT l) _ (show Blk _ t 101 (tabC c (.slice A ls.length cap)) from HBQ2.out) HFr2.out HL.out (fun l2 w1 hs => set1T w.heap.size l l2 w1 (keep_blk hs HBL2.out)) (fun args w1 => enterF Try.func75 (by kernel_rfl) rfl args w1) HF.out).mono ?_
 rintro e w3 ⟨rfl, hb⟩
 (try go_wp2_with fail)
 refine hK.out _ _ ?_
 clear hK K
 (try simp only [Act.put, sA, sB, sC])
 have HS3 := Lib.hid (Since.trans HS2.out hb)
 have HBL3 := Lib.hid (keep_blk hb HBL2.out)
 have HBQ3 := Lib.hid (keep_blk hb HBQ2.out)
 have HFr3 := Lib.hid (keep_own hb HFr2.out)
 clear HS2 HBL2 HBQ2 HFr2
 clear hb
 refine tkL (.int .i64 (-1)) (h := ?_)
 (try simp only [Act.put, sA, sB, sC])
 refine wpList_nil ?_
 go_upto_region 4 with fail
 refine wp_region_lit ?_
 refine tkL (.int .i64 (-1)) (h := ?_)
 (try simp only [Act.put, sA, sB, sC])
 refine wpList_q (by rfl) (.bool true) ?he ?_
 case he => (go_simp; (try with_reducible rfl))
 (try simp only [Act.put, sA, sB, sC])
 refine wpList_nil ?_
 go_upto_region 5 with fail
 refine wp_region_lit ?_
 refine tkL (.int .i64 6) (h := ?_)
 (try simp only [Act.put, sA, sB, sC])
 refine wpList_nil ?_
 (try go_wp2_with fail)
 go_ret
 exact ⟨rfl, HS3.out⟩
set_option maxHeartbeats 4000000 in
theorem setHit (lo t : Nat) (c : CfgV) (ls : List LeaseV) (A : Option Addr) (cap : Nat) (l : LeaseV) (k0 : Nat) (w : World) (hq : Blk w t 101 (tabC c (.slice A ls.length cap))) (ho : w.ownsRow lo 56 10 (.slice A ls.length cap) ls.length (rowsOf leaC ls)) (hl : ls.length ≤ 10000) (hg : goodB c l = true) (hf : atP ls (isT l) = some k0) (h0 : lo ≤ t) : Calls Try.prog 36 #[.pointer (some ⟨t, 0, none⟩), .agg #[.int .i64 l.se, .int .i64 l.fl, .int .i64 l.fm, .int .i64 l.to, .int .i64 l.ma, .int .i64 l.ca, .int .i64 l.ph, .int .i64 l.un, .int .i64 l.re, .int .i64 l.gr]] w fun e w' => e = .returned (.int .i64 0) ∧ TO lo t c (ls.set k0 l) (t :: blkOf A) w' ∧ Upd (t :: blkOf A) w w' := by
 have HBQ := Lib.hid (show Blk w t 101 #[.int .i64 c.ca, .int .i64 c.fl, .int .i64 c.ft, .int .i64 c.se, .int .i64 c.dr, .int .i64 c.dw, .int .i64 c.ho, .int .i64 c.re, .int .i64 c.yi, .int .i64 c.qu, .int .i64 c.qo, .int .i64 c.lo, .int .i64 c.sl, .int .i64 c.rt, .int .i64 c.cp, .int .i64 c.tr, .int .i64 c.de, .int .i64 c.wi, .slice A ls.length cap] from hq)
 clear hq
 have HOW := Lib.hid ho
 clear ho
 have HL := Lib.hid hl
 clear hl
 have HG := Lib.hid hg
 clear hg
 have HF := Lib.hid hf
 clear hf
 have H0 := Lib.hid h0
 clear h0
 have HK0 := Lib.hid (atP_some HF.out).1
 obtain ⟨g, hg⟩ := own_addr HOW.out (by have := HK0.out; omega)
 subst hg
 go_enter Try.func36, Try.ntmps36
 go_upto_region 1 with fail
 obtain ⟨w1, hw1⟩ : ∃ w1, w1 = (w.alloc (.cells #[.int .i64 l.se, .int .i64 l.fl, .int .i64 l.fm, .int .i64 l.to, .int .i64 l.ma, .int .i64 l.ca, .int .i64 l.ph, .int .i64 l.un, .int .i64 l.re, .int .i64 l.gr] 56)) := ⟨_, rfl⟩
 rw [← hw1]
 have HBL1 := Lib.hid (show Blk w1 (w.heap.size) 56 #[.int .i64 l.se, .int .i64 l.fl, .int .i64 l.fm, .int .i64 l.to, .int .i64 l.ma, .int .i64 l.ca, .int .i64 l.ph, .int .i64 l.un, .int .i64 l.re, .int .i64 l.gr] by rw [hw1]; exact Blk.at_ (by (try simp only [size_alloc])) _ _)
 have HS1 := Lib.hid (show Since w w1 by rw [hw1]; exact Since.alloc (Since.refl w) _)
 have hNE : w.heap.size ≤ w.heap.size := by omega
 have HNE := Lib.hid hNE
 clear hNE hw1
 have HNE3 := Lib.hid (show w.heap.size ≤ w.heap.size from HNE.out)
 clear HNE
 have HBQ1 := Lib.hid (keep_blk HS1.out HBQ.out)
 have HOW1 := Lib.hid (keep_own HS1.out HOW.out)
 have HIQ := Lib.hid (own_ne_ty HOW.out HBQ.out (by decide))
 have HIA := Lib.hid (own_far HOW.out (Nat.le_refl _))
 have HNQA := Lib.hid (show t ≠ w.heap.size by have := Blk.lt HBQ.out; omega)
 clear HBQ HOW
 refine wp_region_lit ?_
 refine tkL (.pointer (some ⟨t, 0, none⟩)) (h := ?_)
 (try simp only [Act.put, sA, sB, sC])
 refine wpList_q (by rfl) (.agg #[.int .i64 l.se, .int .i64 l.fl, .int .i64 l.fm, .int .i64 l.to, .int .i64 l.ma, .int .i64 l.ca, .int .i64 l.ph, .int .i64 l.un, .int .i64 l.re, .int .i64 l.gr]) ?he ?_
 case he => exact exec_load_row 56 _ _ HBL1.out rfl rfl Try.underlying56 rfl (by kernel_rfl)
 (try simp only [Act.put, sA, sB, sC])
 refine wpList_wp (by rfl) (fun K hK => ?_)
 (try go_simp)
 refine (goodV t c ls (some ⟨g, 0, none⟩) cap l true _ (show Blk _ t 101 (tabC c (.slice (some ⟨g, 0, none⟩) ls.length cap)) from HBQ1.out) HG.out).mono ?_
 rintro e w2 ⟨rfl, hb⟩
 (try go_wp2_with fail)
 refine hK.out _ _ ?_
 clear hK K
 (try simp only [Act.put, sA, sB, sC])
 have HS2 := Lib.hid (Since.trans HS1.out hb)
 have HBL2 := Lib.hid (keep_blk hb HBL1.out)
 have HBQ2 := Lib.hid (keep_blk hb HBQ1.out)
 have HFr2 := Lib.hid (keep_own hb HOW1.out)
 clear HS1 HBL1 HBQ1 HOW1
 clear hb
 refine wpList_q (by rfl) (.bool false) ?he ?_
 case he => (go_simp; (try with_reducible rfl))
 (try simp only [Act.put, sA, sB, sC])
 refine wpList_nil ?_
 go_upto_region 3 with fail
 refine wp_region_lit ?_
 refine tkL (.pointer (some ⟨t, 0, none⟩)) (h := ?_)
 (try simp only [Act.put, sA, sB, sC])
 refine wpList_q (by rfl) (.func (.func 75) #[] #[.pointer (some ⟨w.heap.size, 0, none⟩)]) ?he ?_
 case he => (first | rfl | (go_simp; (try rfl)))
 (try simp only [Act.put, sA, sB, sC])
 refine wpList_wp (by rfl) (fun K hK => ?_)
 (try go_simp)
 refine (findK lo t c ls (some ⟨g, 0, none⟩) cap 75 (.pointer (some ⟨w.heap.size, 0, none⟩)) (isT l) k0 _ (show Blk _ t 101 (tabC c (.slice (some ⟨g, 0, none⟩) ls.length cap)) from HBQ2.out) HFr2.out HL.out (fun l2 w1 hs => set1T w.heap.size l l2 w1 (keep_blk hs HBL2.out)) (fun args w1 => enterF Try.func75 (by kernel_rfl) rfl args w1) HF.out).mono ?_
 rintro e w3 ⟨rfl, hb⟩
 (try go_wp2_with fail)
 refine hK.out _ _ ?_
 clear hK K
 (try simp only [Act.put, sA, sB, sC])
 have HS3 := Lib.hid (Since.trans HS2.out hb)
 have HBL3 := Lib.hid (keep_blk hb HBL2.out)
 have HBQ3 := Lib.hid (keep_blk hb HBQ2.out)
 have HFr3 := Lib.hid (keep_own hb HFr2.out)
 clear HS2 HBL2 HBQ2 HFr2
 clear hb
 refine tkL (.int .i64 (k0 : Int)) (h := ?_)
 (try simp only [Act.put, sA, sB, sC])
 refine wpList_nil ?_
 go_upto_region 4 with fail
 refine wp_region_lit ?_
 refine tkL (.int .i64 (k0 : Int)) (h := ?_)
 (try simp only [Act.put, sA, sB, sC])
 refine wpList_q (by rfl) (.bool false) ?he ?_
 case he => (go_simp; (first | done | rfl | omega))
 (try simp only [Act.put, sA, sB, sC])
 refine wpList_nil ?_
 have HSU := Lib.hid (show Upd (t :: blkOf (some ⟨g, 0, none⟩)) w w3 from Upd.of_since HS3.out)
 clear HS3
 obtain ⟨y, hy⟩ : ∃ y, ls[k0]? = some y := ⟨_, List.getElem?_eq_getElem HK0.out⟩
 obtain ⟨P, S0, hP, hE, hback⟩ := own_elS HFr3.out hy
 have HP := Lib.hid hP; have HE := Lib.hid (show Blk w3 g 56 (el P #[.int .i64 y.se, .int .i64 y.fl, .int .i64 y.fm, .int .i64 y.to, .int .i64 y.ma, .int .i64 y.ca, .int .i64 y.ph, .int .i64 y.un, .int .i64 y.re, .int .i64 y.gr] S0) from hE); have HBKC := Lib.hid (show ∀ w', Blk w' g 56 (el P #[.int .i64 l.se, .int .i64 l.fl, .int .i64 l.fm, .int .i64 l.to, .int .i64 l.ma, .int .i64 l.ca, .int .i64 l.ph, .int .i64 l.un, .int .i64 l.re, .int .i64 l.gr] S0) → w'.ownsRow lo 56 10 (.slice (some ⟨g, 0, none⟩) ls.length cap) ls.length (rowsOf leaC (ls.set k0 l)) from fun w' h => hback l w' h); clear hP hE hback hy
 have HNQE := Lib.hid (Blk.ne_ HBQ3.out HE.out (by decide)); have HNLE := Lib.hid (show w.heap.size ≠ g from fun h => HIA.out (by rw [h]; simp [blkOf]))
 clear HFr3
 go_upto_region 6 with fail
 have HKS : Hid (KeepS (fun W : World => Upd (t :: blkOf (some ⟨g, 0, none⟩)) w W ∧ Blk W w.heap.size 56 #[.int .i64 l.se, .int .i64 l.fl, .int .i64 l.fm, .int .i64 l.to, .int .i64 l.ma, .int .i64 l.ca, .int .i64 l.ph, .int .i64 l.un, .int .i64 l.re, .int .i64 l.gr] ∧ Blk W t 101 #[.int .i64 c.ca, .int .i64 c.fl, .int .i64 c.ft, .int .i64 c.se, .int .i64 c.dr, .int .i64 c.dw, .int .i64 c.ho, .int .i64 c.re, .int .i64 c.yi, .int .i64 c.qu, .int .i64 c.qo, .int .i64 c.lo, .int .i64 c.sl, .int .i64 c.rt, .int .i64 c.cp, .int .i64 c.tr, .int .i64 c.de, .int .i64 c.wi, .slice (some ⟨g, 0, none⟩) ls.length cap] ∧ HasRow W g 56 (P.length + 10 + S0.length)) w3) := Lib.hid ⟨fun W W' k ⟨h, h0, h1, h2⟩ => ⟨h.trans k, keep_blk k h0, keep_blk k h1, HasRow.keep k h2⟩, ⟨HSU.out, HBL3.out, HBQ3.out, HasRow.of HE.out el_size⟩⟩
 have HRK := Lib.hid HKS.out.1
 have HPE := Lib.hid (show Blk (World.drew w3) g 56 (el P #[.int .i64 y.se, .int .i64 y.fl, .int .i64 y.fm, .int .i64 y.to, .int .i64 y.ma, .int .i64 y.ca, .int .i64 y.ph, .int .i64 y.un, .int .i64 y.re, .int .i64 y.gr] S0) from HE.out)
 refine wp_held HKS.out (by kernel_rfl) (fun hHeld => ?_)
 refine tkQ 0 (.pointer (some ⟨t, 0, none⟩)) hHeld (h := ?_)
 (try simp only [Act.put, sA, sB, sC])
 refine tkQ 1 (.pointer (some ⟨t, 0, none⟩)) hHeld (h := ?_)
 (try simp only [Act.put, sA, sB, sC])
 refine tkQ 2 (.pointer (some ⟨t, 18, none⟩)) hHeld (h := ?_)
 (try simp only [Act.put, sA, sB, sC])
 refine tkQ 3 (.slice (some ⟨g, 0, none⟩) ls.length cap) hHeld (he := by intro w hSw; exact exec_cell 24 _ _ hSw.2.2.1 rfl rfl rfl Try.underlying24 rfl) (h := ?_)
 (try simp only [Act.put, sA, sB, sC])
 refine tkQ 4 (.int .i64 (k0 : Int)) hHeld (h := ?_)
 (try simp only [Act.put, sA, sB, sC])
 refine tkQ 5 (.agg #[.int .i64 l.se, .int .i64 l.fl, .int .i64 l.fm, .int .i64 l.to, .int .i64 l.ma, .int .i64 l.ca, .int .i64 l.ph, .int .i64 l.un, .int .i64 l.re, .int .i64 l.gr]) hHeld (he := by intro w hSw; exact exec_load_row 56 _ _ hSw.2.1 rfl rfl Try.underlying56 rfl (by kernel_rfl)) (h := ?_)
 (try simp only [Act.put, sA, sB, sC])
 refine tkQ 6 (.pointer (some ⟨g, k0 * 10, none⟩)) hHeld (he := by intro w hSw; (rw [show k0 * 10 = 0 + k0 * 10 by omega]; exact exec_index (i := k0) (s := 10) 24 56 _ _ rfl rfl rfl rfl HK0.out Try.underlying24 (by kernel_rfl))) (h := ?_)
 (try simp only [Act.put, sA, sB, sC])
 refine wpAnyH_ready (rs := [7]) (by kernel_rfl) (by simp) ?_
 refine AllReadyH.cons (o := ?o6__7) ?h6__7 (fun K hK => ?_) AllReadyH.nil
 case h6__7 => (first | (simp only [gA, gB, gC]; done) | (simp only [gA, gB, gC]; exact rfl))
 rw [if_pos (by rfl)]
 refine wp_st_part 56 _ _ rfl (el P #[.int .i64 l.se, .int .i64 l.fl, .int .i64 l.fm, .int .i64 l.to, .int .i64 l.ma, .int .i64 l.ca, .int .i64 l.ph, .int .i64 l.un, .int .i64 l.re, .int .i64 l.gr] S0) (#[.int .i64 l.se, .int .i64 l.fl, .int .i64 l.fm, .int .i64 l.to, .int .i64 l.ma, .int .i64 l.ca, .int .i64 l.ph, .int .i64 l.un, .int .i64 l.re, .int .i64 l.gr]) rfl rfl HPE.out (el_le (j := 0) HP.out (by show 0 + 10 ≤ 10; decide)) (el_put (j := 0) HP.out (by show 0 + 10 ≤ 10; decide) (putLea y l)) (by simp [Value.oneCell']) (by kernel_rfl) ?_
 clear HPE
 intro w4 hw
 have HRE := Lib.hid (show Blk w4 g 56 (el P #[.int .i64 l.se, .int .i64 l.fl, .int .i64 l.fm, .int .i64 l.to, .int .i64 l.ma, .int .i64 l.ca, .int .i64 l.ph, .int .i64 l.un, .int .i64 l.re, .int .i64 l.gr] S0) by obtain ⟨old, Bo, _⟩ := hHeld.2.2.2; rw [hw]; exact Blk.row Bo _)
 have hHeld3 := HKS.out.at_ w4 ⟨by rw [hw]; exact Upd.setRow hHeld.1 (.inl (by simp [blkOf])) _, by rw [hw]; exact Blk.row_far (hHeld.2.1) HNLE.out _, by rw [hw]; exact Blk.row_far (hHeld.2.2.1) HNQE.out _, HasRow.of HRE.out el_size⟩
 refine hK.out _ _ hHeld3 (fun hHeld2 => ?_)
 clear hK K hHeld hHeld3 hw
 have hHeld := hHeld2
 clear hHeld2
 (try simp only [Act.put, sA, sB, sC])
 refine wpAnyH_done (by kernel_rfl) ?_ _
 have HSd6 := Lib.hid hHeld.1
 have HBLd6 := Lib.hid (hHeld.2.1)
 have HBQd6 := Lib.hid (hHeld.2.2.1)
 have HBEd6 := Lib.hid HRE.out
 clear HRE
 clear hHeld HRK HKS HSU HBL3 HBQ3 HE
 go_upto_region 7 with fail
 refine wp_region_lit ?_
 refine tkL (.int .i64 0) (h := ?_)
 (try simp only [Act.put, sA, sB, sC])
 refine wpList_nil ?_
 (try go_wp2_with fail)
 go_ret
 exact ⟨rfl, ⟨H0.out, (some ⟨g, 0, none⟩), cap, rfl, by rw [List.length_set]; exact HBQd6.out, by rw [List.length_set]; exact HBKC.out _ HBEd6.out⟩, HSd6.out⟩
theorem setV (lo t : Nat) (c : CfgV) (ls : List LeaseV) (S : List Nat) (l : LeaseV) (w : World) (h : TO lo t c ls S w) (hl : ls.length ≤ 10000) (e0 : Int) (ls2 : List LeaseV) (he : setE c ls l = e0) (hl2 : setL c ls l = ls2) :
    Calls Try.prog 36 #[.pointer (some ⟨t, 0, none⟩), .agg #[.int .i64 l.se, .int .i64 l.fl, .int .i64 l.fm, .int .i64 l.to, .int .i64 l.ma, .int .i64 l.ca, .int .i64 l.ph, .int .i64 l.un, .int .i64 l.re, .int .i64 l.gr]] w fun e w' => ∃ S', e = .returned (.int .i64 e0) ∧ TO lo t c ls2 S' w' ∧ Upd S w w' ∧ ∀ g ∈ S', g ∈ S ∨ w.heap.size ≤ g := by
  subst he hl2
  have hT := h
  obtain ⟨h0, A, cap, rfl, B, O⟩ := h
  have same : ∀ {e : Ending} {w1 : World} {n : Int}, setE c ls l = n ∧ setL c ls l = ls → e = .returned (.int .i64 n) ∧ Since w w1 → ∃ S', e = .returned (.int .i64 (setE c ls l)) ∧ TO lo t c (setL c ls l) S' w1 ∧ Upd (t :: blkOf A) w w1 ∧ ∀ g ∈ S', g ∈ t :: blkOf A ∨ w.heap.size ≤ g := by
    rintro e w1 n ⟨he, e2⟩ ⟨rfl, hb⟩
    rw [he, e2]
    exact ⟨_, rfl, hT.keep hb, Upd.of_since hb, fun g hg => .inl hg⟩
  cases hg : goodB c l with
  | false => exact (setBad lo t c ls A cap l w B O hl hg).mono fun e w1 hh => same (set1 hg) hh
  | true =>
    cases hf : atP ls (isT l) with
    | none => exact (setMiss lo t c ls A cap l w B O hl hg hf).mono fun e w1 hh => same (set6 hg hf) hh
    | some k =>
      refine (setHit lo t c ls A cap l k w B O hl hg hf h0).mono ?_
      rintro e w1 ⟨rfl, hn, hu⟩
      rw [(set0 hg hf).1, (set0 hg hf).2]
      exact ⟨_, rfl, hn, hu, fun g hg => .inl hg⟩
theorem ofM (lo t : Nat) (c : CfgV) (ls : List LeaseV) (A : Option Addr) (cap : Nat) (s : Int) (y : Option Nat) (w : World) (hq : Blk w t 101 (tabC c (.slice A ls.length cap))) (ho : w.ownsRow lo 56 10 (.slice A ls.length cap) ls.length (rowsOf leaC ls)) (hl : ls.length ≤ 10000) (hf : atP ls (isS s) = y) : Calls Try.prog 76 #[.pointer (some ⟨t, 0, none⟩), .int .i64 s] w fun e w' => e = .returned (.int .i64 (oI y)) ∧ Since w w' := by
  subst hf; exact ofA lo t c ls A cap s w hq ho hl
set_option maxHeartbeats 4000000 in
theorem endMiss (lo t : Nat) (c : CfgV) (ls : List LeaseV) (A : Option Addr) (cap : Nat) (s : Int) (w : World) (hq : Blk w t 101 (tabC c (.slice A ls.length cap))) (ho : w.ownsRow lo 56 10 (.slice A ls.length cap) ls.length (rowsOf leaC ls)) (hl : ls.length ≤ 10000) (hf : atP ls (isS s) = none) : Calls Try.prog 37 #[.pointer (some ⟨t, 0, none⟩), .int .i64 s] w fun e w' => e = .returned (.tuple #[.agg #[.int .i64 0, .int .i64 0, .int .i64 0, .int .i64 0, .int .i64 0, .int .i64 0, .int .i64 0, .int .i64 0, .int .i64 0, .int .i64 0], .bool false]) ∧ Since w w' := by
 have HBQ := Lib.hid hq
 clear hq
 have HOW := Lib.hid ho
 clear ho
 have HL := Lib.hid hl
 clear hl
 have HF := Lib.hid hf
 clear hf
 go_enter Try.func37, Try.ntmps37
 go_upto_region 1 with fail
 obtain ⟨w1, hw1⟩ : ∃ w1, w1 = (w.alloc (.cells #[.int .i64 0, .int .i64 0, .int .i64 0, .int .i64 0, .int .i64 0, .int .i64 0, .int .i64 0, .int .i64 0, .int .i64 0, .int .i64 0] 56)) := ⟨_, rfl⟩
 rw [← hw1]
 have HBR1 := Lib.hid (show Blk w1 (w.heap.size) 56 #[.int .i64 0, .int .i64 0, .int .i64 0, .int .i64 0, .int .i64 0, .int .i64 0, .int .i64 0, .int .i64 0, .int .i64 0, .int .i64 0] by rw [hw1]; exact Blk.at_ (by (try simp only [size_alloc])) _ _)
 have HS1 := Lib.hid (show Since w w1 by rw [hw1]; exact Since.alloc (Since.refl w) _)
 have hNE : w.heap.size ≤ w.heap.size := by omega
 have HNE := Lib.hid hNE
 clear hNE hw1
 have HNE3 := Lib.hid (show w.heap.size ≤ w.heap.size from HNE.out)
 clear HNE
 refine wp_region_lit ?_
 refine tkL (.pointer (some ⟨t, 0, none⟩)) (h := ?_)
 (try simp only [Act.put, sA, sB, sC])
 refine tkL (.int .i64 s) (h := ?_)
 (try simp only [Act.put, sA, sB, sC])
 refine wpList_wp (by rfl) (fun K hK => ?_)
 (try go_simp)
 refine (ofM lo t c ls A cap s none _ (keep_blk HS1.out HBQ.out) (keep_own HS1.out HOW.out) HL.out HF.out).mono ?_
 rintro e w2 ⟨rfl, hb⟩
 (try go_wp2_with fail)
 refine hK.out _ _ ?_
 clear hK K
 (try simp only [Act.put, sA, sB, sC])
 have HS2 := Lib.hid (Since.trans HS1.out hb)
 have HBR2 := Lib.hid (keep_blk hb HBR1.out)
 clear HS1 HBR1
 clear hb
 refine tkL (.int .i64 (-1)) (h := ?_)
 (try simp only [Act.put, sA, sB, sC])
 refine wpList_nil ?_
 go_upto_region 2 with fail
 refine wp_region_lit ?_
 refine tkL (.pointer (some ⟨t, 0, none⟩)) (h := ?_)
 (try simp only [Act.put, sA, sB, sC])
 refine tkL (.int .i64 (-1)) (h := ?_)
 (try simp only [Act.put, sA, sB, sC])
 refine wpList_wp (by rfl) (fun K hK => ?_)
 (try go_simp)
 refine (atNo t _).mono ?_
 rintro e w3 ⟨rfl, hb⟩
 (try go_wp2_with fail)
 refine hK.out _ _ ?_
 clear hK K
 (try simp only [Act.put, sA, sB, sC])
 have HS3 := Lib.hid (Since.trans HS2.out hb)
 have HBR3 := Lib.hid (keep_blk hb HBR2.out)
 clear HS2 HBR2
 clear hb
 refine tkL (.tuple #[.agg #[.int .i64 0, .int .i64 0, .int .i64 0, .int .i64 0, .int .i64 0, .int .i64 0, .int .i64 0, .int .i64 0, .int .i64 0, .int .i64 0], .bool false]) (h := ?_)
 (try simp only [Act.put, sA, sB, sC])
 refine tkL (.agg #[.int .i64 0, .int .i64 0, .int .i64 0, .int .i64 0, .int .i64 0, .int .i64 0, .int .i64 0, .int .i64 0, .int .i64 0, .int .i64 0]) (h := ?_)
 (try simp only [Act.put, sA, sB, sC])
 refine tkL (.bool false) (h := ?_)
 (try simp only [Act.put, sA, sB, sC])
 refine wpList_wp (by rfl) (fun K hK => ?_)
 refine wp_new (fun b => .pointer (some ⟨b, 0, none⟩)) 56 #[.int .i64 0, .int .i64 0, .int .i64 0, .int .i64 0, .int .i64 0, .int .i64 0, .int .i64 0, .int .i64 0, .int .i64 0, .int .i64 0] (by rintro b rfl; first | rfl | kernel_rfl) ?_
 intro bn7 w4 hge hB hb
 refine hK.out _ _ ?_
 clear hK K
 (try simp only [Act.put, sA, sB, sC])
 have HNn7R := Lib.hid (show bn7 ≠ w.heap.size by have := Blk.lt HBR3.out; omega)
 have HGn7 := Lib.hid (show w.heap.size ≤ bn7 by have := Since.size HS3.out; omega)
 have HS4 := Lib.hid (Since.trans HS3.out hb)
 have HBR4 := Lib.hid (keep_blk hb HBR3.out)
 clear HS3 HBR3
 clear hb hge
 have HBn74 := Lib.hid hB
 clear hB
 refine wpList_wp (by rfl) (fun K hK => ?_)
 refine wp_st_row 56 _ _ rfl #[.int .i64 0, .int .i64 0, .int .i64 0, .int .i64 0, .int .i64 0, .int .i64 0, .int .i64 0, .int .i64 0, .int .i64 0, .int .i64 0] rfl rfl (HasRow.of HBn74.out rfl) rfl (by simp [Value.oneCell']) (by kernel_rfl) ?_
 intro w5 hw
 refine hK.out _ _ ?_
 clear hK K
 (try simp only [Act.put, sA, sB, sC])
 have HS5 := Lib.hid (show Since w w5 by rw [hw]; exact Since.setRow HS4.out HGn7.out _)
 have HBR5 := Lib.hid (show Blk w5 w.heap.size 56 #[.int .i64 0, .int .i64 0, .int .i64 0, .int .i64 0, .int .i64 0, .int .i64 0, .int .i64 0, .int .i64 0, .int .i64 0, .int .i64 0] by rw [hw]; exact Blk.row_far HBR4.out (Ne.symm HNn7R.out) _)
 have HBn75 := Lib.hid (show Blk w5 bn7 56 #[.int .i64 0, .int .i64 0, .int .i64 0, .int .i64 0, .int .i64 0, .int .i64 0, .int .i64 0, .int .i64 0, .int .i64 0, .int .i64 0] by rw [hw]; exact Blk.row HBn74.out _)
 clear hw HS4 HBR4 HBn74
 refine tkL (.bool false) (h := ?_)
 (try simp only [Act.put, sA, sB, sC])
 refine wpList_nil ?_
 go_upto_region 3 with fail
 refine wp_region_lit ?_
 refine tkL (.bool false) (h := ?_)
 (try simp only [Act.put, sA, sB, sC])
 refine wpList_nil ?_
 go_upto_region 5 with fail
 refine wp_region_lit ?_
 refine wpList_q (by rfl) (.agg #[.int .i64 0, .int .i64 0, .int .i64 0, .int .i64 0, .int .i64 0, .int .i64 0, .int .i64 0, .int .i64 0, .int .i64 0, .int .i64 0]) ?he ?_
 case he => exact exec_load_row 56 _ _ HBn75.out rfl rfl Try.underlying56 rfl (by kernel_rfl)
 (try simp only [Act.put, sA, sB, sC])
 refine tkL (.bool false) (h := ?_)
 (try simp only [Act.put, sA, sB, sC])
 refine wpList_wp (by rfl) (fun K hK => ?_)
 refine wp_st_row 56 _ _ rfl #[.int .i64 0, .int .i64 0, .int .i64 0, .int .i64 0, .int .i64 0, .int .i64 0, .int .i64 0, .int .i64 0, .int .i64 0, .int .i64 0] rfl rfl (HasRow.of HBR5.out rfl) rfl (by simp [Value.oneCell']) (by kernel_rfl) ?_
 intro w6 hw
 refine hK.out _ _ ?_
 clear hK K
 (try simp only [Act.put, sA, sB, sC])
 have HS6 := Lib.hid (show Since w w6 by rw [hw]; exact Since.setRow HS5.out (by have := HNE3.out; omega) _)
 have HBR6 := Lib.hid (show Blk w6 w.heap.size 56 #[.int .i64 0, .int .i64 0, .int .i64 0, .int .i64 0, .int .i64 0, .int .i64 0, .int .i64 0, .int .i64 0, .int .i64 0, .int .i64 0] by rw [hw]; exact Blk.row HBR5.out _)
 have HBn76 := Lib.hid (show Blk w6 bn7 56 #[.int .i64 0, .int .i64 0, .int .i64 0, .int .i64 0, .int .i64 0, .int .i64 0, .int .i64 0, .int .i64 0, .int .i64 0, .int .i64 0] by rw [hw]; exact Blk.row_far HBn75.out HNn7R.out _)
 clear hw HS5 HBR5 HBn75
 refine tkL (.bool false) (h := ?_)
 (try simp only [Act.put, sA, sB, sC])
 refine wpList_nil ?_
 (try go_wp2_with fail)
 exact bodyPost_ret (results_row2 rfl _ _ w.heap.size 56 #[.int .i64 0, .int .i64 0, .int .i64 0, .int .i64 0, .int .i64 0, .int .i64 0, .int .i64 0, .int .i64 0, .int .i64 0, .int .i64 0] _ (.bool false) rfl rfl HBR6.out Try.underlying56 rfl (by kernel_rfl)) rfl ⟨rfl, HS6.out⟩
theorem atK (lo t : Nat) (c : CfgV) (ls : List LeaseV) (A : Option Addr) (cap : Nat) (k : Nat) (x : LeaseV) (w : World) (hq : Blk w t 101 (tabC c (.slice A ls.length cap))) (ho : w.ownsRow lo 56 10 (.slice A ls.length cap) ls.length (rowsOf leaC ls)) (hl : ls.length ≤ 10000) (hx : ls[k]? = some x) : Calls Try.prog 77 #[.pointer (some ⟨t, 0, none⟩), .int .i64 (k : Int)] w fun e w' => e = .returned (.tuple #[.agg #[.int .i64 x.se, .int .i64 x.fl, .int .i64 x.fm, .int .i64 x.to, .int .i64 x.ma, .int .i64 x.ca, .int .i64 x.ph, .int .i64 x.un, .int .i64 x.re, .int .i64 x.gr], .bool true]) ∧ Since w w' := by
  obtain ⟨hk, rfl⟩ := List.getElem?_eq_some_iff.1 hx
  exact atYes lo t c ls A cap k w hq ho hl hk
set_option maxHeartbeats 4000000 in
theorem endHit (lo t : Nat) (c : CfgV) (ls : List LeaseV) (g m cap k0 : Nat) (s : Int) (x : LeaseV) (w : World) (hB : Blk w t 101 (tabC c (.slice (some ⟨g, 0, none⟩) (m + 1) cap))) (hO : w.ownsRow lo 56 10 (.slice (some ⟨g, 0, none⟩) (m + 1) cap) (m + 1) (rowsOf leaC ls)) (hf : atP ls (isS s) = some k0) (hm : ls.length = m + 1) (hk : k0 ≤ m) (hl : m + 1 ≤ 10000) (hc : m + 1 ≤ cap) (hx : ls[k0]? = some x) (h0 : lo ≤ t) : Calls Try.prog 37 #[.pointer (some ⟨t, 0, none⟩), .int .i64 s] w fun e w' => e = .returned (.tuple #[.agg #[.int .i64 x.se, .int .i64 x.fl, .int .i64 x.fm, .int .i64 x.to, .int .i64 x.ma, .int .i64 x.ca, .int .i64 x.ph, .int .i64 x.un, .int .i64 x.re, .int .i64 x.gr], .bool true]) ∧ TO lo t c (ls.eraseIdx k0) (t :: blkOf (some ⟨g, 0, none⟩)) w' ∧ Upd (t :: blkOf (some ⟨g, 0, none⟩)) w w' := by
 have HBQ := Lib.hid (show Blk w t 101 #[.int .i64 c.ca, .int .i64 c.fl, .int .i64 c.ft, .int .i64 c.se, .int .i64 c.dr, .int .i64 c.dw, .int .i64 c.ho, .int .i64 c.re, .int .i64 c.yi, .int .i64 c.qu, .int .i64 c.qo, .int .i64 c.lo, .int .i64 c.sl, .int .i64 c.rt, .int .i64 c.cp, .int .i64 c.tr, .int .i64 c.de, .int .i64 c.wi, .slice (some ⟨g, 0, none⟩) (m + 1) cap] from hB)
 have HOW := Lib.hid hO
 clear hB hO
 have HF := Lib.hid hf
 clear hf
 have HM := Lib.hid hm
 clear hm
 have HK := Lib.hid hk
 clear hk
 have HL := Lib.hid hl
 clear hl
 have HC := Lib.hid hc
 clear hc
 have HX := Lib.hid hx
 clear hx
 have H0 := Lib.hid h0
 clear h0
 go_enter Try.func37, Try.ntmps37
 go_upto_region 1 with fail
 obtain ⟨w1, hw1⟩ : ∃ w1, w1 = (w.alloc (.cells #[.int .i64 0, .int .i64 0, .int .i64 0, .int .i64 0, .int .i64 0, .int .i64 0, .int .i64 0, .int .i64 0, .int .i64 0, .int .i64 0] 56)) := ⟨_, rfl⟩
 rw [← hw1]
 have HBR1 := Lib.hid (show Blk w1 (w.heap.size) 56 #[.int .i64 0, .int .i64 0, .int .i64 0, .int .i64 0, .int .i64 0, .int .i64 0, .int .i64 0, .int .i64 0, .int .i64 0, .int .i64 0] by rw [hw1]; exact Blk.at_ (by (try simp only [size_alloc])) _ _)
 have HS1 := Lib.hid (show Since w w1 by rw [hw1]; exact Since.alloc (Since.refl w) _)
 have hNE : w.heap.size ≤ w.heap.size := by omega
 have HNE := Lib.hid hNE
 clear hNE hw1
 have HNE3 := Lib.hid (show w.heap.size ≤ w.heap.size from HNE.out)
 clear HNE
 have HBQ1 := Lib.hid (keep_blk HS1.out HBQ.out); have HOW1 := Lib.hid (keep_own HS1.out HOW.out); have HIQ := Lib.hid (own_ne_ty HOW.out HBQ.out (by decide)); have HIR := Lib.hid (own_far HOW.out (Nat.le_refl _)); have HNR := Lib.hid (show t ≠ w.heap.size by have := Blk.lt HBQ.out; omega); clear HBQ HOW
 have HSU := Lib.hid (show Upd (t :: blkOf (some ⟨g, 0, none⟩)) w w1 from Upd.of_since HS1.out); clear HS1
 refine wp_region_lit ?_
 refine tkL (.pointer (some ⟨t, 0, none⟩)) (h := ?_)
 (try simp only [Act.put, sA, sB, sC])
 refine tkL (.int .i64 s) (h := ?_)
 (try simp only [Act.put, sA, sB, sC])
 refine wpList_wp (by rfl) (fun K hK => ?_)
 (try go_simp)
 refine (ofM lo t c ls (some ⟨g, 0, none⟩) cap s (some k0) _ (show Blk _ t 101 (tabC c (.slice (some ⟨g, 0, none⟩) ls.length cap)) by rw [HM.out]; exact HBQ1.out) (by rw [HM.out]; exact HOW1.out) (by have := HL.out; have := HM.out; omega) HF.out).mono ?_
 rintro e w2 ⟨rfl, hb⟩
 (try go_wp2_with fail)
 refine hK.out _ _ ?_
 clear hK K
 (try simp only [Act.put, sA, sB, sC])
 have HS2 := Lib.hid (Upd.trans HSU.out hb)
 have HBR2 := Lib.hid (keep_blk hb HBR1.out)
 have HBQ2 := Lib.hid (keep_blk hb HBQ1.out)
 have HFr2 := Lib.hid (keep_own hb HOW1.out)
 clear HSU HBR1 HBQ1 HOW1
 clear hb
 refine tkL (.int .i64 (k0 : Int)) (h := ?_)
 (try simp only [Act.put, sA, sB, sC])
 refine wpList_nil ?_
 go_upto_region 2 with fail
 refine wp_region_lit ?_
 refine tkL (.pointer (some ⟨t, 0, none⟩)) (h := ?_)
 (try simp only [Act.put, sA, sB, sC])
 refine tkL (.int .i64 (k0 : Int)) (h := ?_)
 (try simp only [Act.put, sA, sB, sC])
 refine wpList_wp (by rfl) (fun K hK => ?_)
 (try go_simp)
 refine (atK lo t c ls (some ⟨g, 0, none⟩) cap k0 x _ (show Blk _ t 101 (tabC c (.slice (some ⟨g, 0, none⟩) ls.length cap)) by rw [HM.out]; exact HBQ2.out) (by rw [HM.out]; exact HFr2.out) (by have := HL.out; have := HM.out; omega) HX.out).mono ?_
 rintro e w3 ⟨rfl, hb⟩
 (try go_wp2_with fail)
 refine hK.out _ _ ?_
 clear hK K
 (try simp only [Act.put, sA, sB, sC])
 have HS3 := Lib.hid (Upd.trans HS2.out hb)
 have HBR3 := Lib.hid (keep_blk hb HBR2.out)
 have HBQ3 := Lib.hid (keep_blk hb HBQ2.out)
 have HFr3 := Lib.hid (keep_own hb HFr2.out)
 clear HS2 HBR2 HBQ2 HFr2
 clear hb
 refine tkL (.tuple #[.agg #[.int .i64 x.se, .int .i64 x.fl, .int .i64 x.fm, .int .i64 x.to, .int .i64 x.ma, .int .i64 x.ca, .int .i64 x.ph, .int .i64 x.un, .int .i64 x.re, .int .i64 x.gr], .bool true]) (h := ?_)
 (try simp only [Act.put, sA, sB, sC])
 refine tkL (.agg #[.int .i64 x.se, .int .i64 x.fl, .int .i64 x.fm, .int .i64 x.to, .int .i64 x.ma, .int .i64 x.ca, .int .i64 x.ph, .int .i64 x.un, .int .i64 x.re, .int .i64 x.gr]) (h := ?_)
 (try simp only [Act.put, sA, sB, sC])
 refine tkL (.bool true) (h := ?_)
 (try simp only [Act.put, sA, sB, sC])
 refine wpList_wp (by rfl) (fun K hK => ?_)
 refine wp_new (fun b => .pointer (some ⟨b, 0, none⟩)) 56 #[.int .i64 0, .int .i64 0, .int .i64 0, .int .i64 0, .int .i64 0, .int .i64 0, .int .i64 0, .int .i64 0, .int .i64 0, .int .i64 0] (by rintro b rfl; first | rfl | kernel_rfl) ?_
 intro bn7 w4 hge hB hb
 refine hK.out _ _ ?_
 clear hK K
 (try simp only [Act.put, sA, sB, sC])
 have HNn7R := Lib.hid (show bn7 ≠ w.heap.size by have := Blk.lt HBR3.out; omega)
 have HNn7Q := Lib.hid (show bn7 ≠ t by have := Blk.lt HBQ3.out; omega)
 have HGn7 := Lib.hid (show w.heap.size ≤ bn7 by have := Upd.size HS3.out; omega)
 have HIn7_r := Lib.hid (own_far HFr3.out hge)
 have HS4 := Lib.hid (Upd.trans HS3.out hb)
 have HBR4 := Lib.hid (keep_blk hb HBR3.out)
 have HBQ4 := Lib.hid (keep_blk hb HBQ3.out)
 have HFr4 := Lib.hid (keep_own hb HFr3.out)
 clear HS3 HBR3 HBQ3 HFr3
 clear hb hge
 have HBn74 := Lib.hid hB
 clear hB
 refine wpList_wp (by rfl) (fun K hK => ?_)
 refine wp_st_row 56 _ _ rfl #[.int .i64 x.se, .int .i64 x.fl, .int .i64 x.fm, .int .i64 x.to, .int .i64 x.ma, .int .i64 x.ca, .int .i64 x.ph, .int .i64 x.un, .int .i64 x.re, .int .i64 x.gr] rfl rfl (HasRow.of HBn74.out rfl) rfl (by simp [Value.oneCell']) (by kernel_rfl) ?_
 intro w5 hw
 refine hK.out _ _ ?_
 clear hK K
 (try simp only [Act.put, sA, sB, sC])
 have HS5 := Lib.hid (show Upd (t :: blkOf (some ⟨g, 0, none⟩)) w w5 by rw [hw]; exact Upd.setRow HS4.out (Or.inr HGn7.out) _)
 have HBR5 := Lib.hid (show Blk w5 w.heap.size 56 #[.int .i64 0, .int .i64 0, .int .i64 0, .int .i64 0, .int .i64 0, .int .i64 0, .int .i64 0, .int .i64 0, .int .i64 0, .int .i64 0] by rw [hw]; exact Blk.row_far HBR4.out (Ne.symm HNn7R.out) _)
 have HBQ5 := Lib.hid (show Blk w5 t 101 #[.int .i64 c.ca, .int .i64 c.fl, .int .i64 c.ft, .int .i64 c.se, .int .i64 c.dr, .int .i64 c.dw, .int .i64 c.ho, .int .i64 c.re, .int .i64 c.yi, .int .i64 c.qu, .int .i64 c.qo, .int .i64 c.lo, .int .i64 c.sl, .int .i64 c.rt, .int .i64 c.cp, .int .i64 c.tr, .int .i64 c.de, .int .i64 c.wi, .slice (some ⟨g, 0, none⟩) (m + 1) cap] by rw [hw]; exact Blk.row_far HBQ4.out (Ne.symm HNn7Q.out) _)
 have HBn75 := Lib.hid (show Blk w5 bn7 56 #[.int .i64 x.se, .int .i64 x.fl, .int .i64 x.fm, .int .i64 x.to, .int .i64 x.ma, .int .i64 x.ca, .int .i64 x.ph, .int .i64 x.un, .int .i64 x.re, .int .i64 x.gr] by rw [hw]; exact Blk.row HBn74.out _)
 have HFr_5 := Lib.hid (show (w5).ownsRow lo 56 10 (.slice (some ⟨g, 0, none⟩) (m + 1) cap) (m + 1) (rowsOf leaC ls) by rw [hw]; exact own_row_far HFr4.out HIn7_r.out _)
 clear hw HS4 HBR4 HBQ4 HBn74 HFr4
 refine tkL (.bool true) (h := ?_)
 (try simp only [Act.put, sA, sB, sC])
 refine wpList_nil ?_
 go_upto_region 3 with fail
 refine wp_region_lit ?_
 refine tkL (.bool true) (h := ?_)
 (try simp only [Act.put, sA, sB, sC])
 refine wpList_nil ?_
 go_upto_region 4 with fail
 refine wp_region_lit ?_
 refine tkL (.pointer (some ⟨t, 0, none⟩)) (h := ?_)
 (try simp only [Act.put, sA, sB, sC])
 refine tkL (.pointer (some ⟨t, 0, none⟩)) (h := ?_)
 (try simp only [Act.put, sA, sB, sC])
 refine tkL (.pointer (some ⟨t, 0, none⟩)) (h := ?_)
 (try simp only [Act.put, sA, sB, sC])
 refine tkL (.pointer (some ⟨t, 18, none⟩)) (h := ?_)
 (try simp only [Act.put, sA, sB, sC])
 refine wpList_q (by rfl) (.slice (some ⟨g, 0, none⟩) (m + 1) cap) ?he ?_
 case he => exact exec_cell 24 _ _ HBQ5.out rfl rfl rfl Try.underlying24 rfl
 (try simp only [Act.put, sA, sB, sC])
 refine tkL (.int .i64 (k0 : Int)) (h := ?_)
 (try simp only [Act.put, sA, sB, sC])
 refine tkL (.int .i64 (k0 : Int)) (h := ?_)
 (try simp only [Act.put, sA, sB, sC])
 refine wpList_q (by rfl) (.int .i64 ((k0 : Int) + 1)) ?he ?_
 case he => (go_simp; (first | done | (refine wr64 _ ?_ ?_ <;> (have q0 := HK.out; have q1 := HL.out; omega)) | (have q0 := HK.out; have q1 := HL.out; omega) | (have q0 := HK.out; have q1 := HL.out; split <;> omega) | (have q0 := HK.out; have q1 := HL.out; intro hh; omega)))
 (try simp only [Act.put, sA, sB, sC])
 refine wpList_wp (by rfl) (fun K hK => ?_)
 (try go_simp)
 refine (deleteT lo g m cap k0 ls _ HFr_5.out HM.out HK.out HC.out (by have := HL.out; omega)).mono ?_
 rintro e w6 ⟨rfl, hobj, hupd⟩
 (try go_wp2_with fail)
 refine hK.out _ _ ?_
 clear hK K
 (try simp only [Act.put, sA, sB, sC])
 have hfar : ∀ x ∈ (blkOf (some ⟨g, 0, none⟩)), x ∈ (blkOf (some ⟨g, 0, none⟩)) ∨ w5.heap.size ≤ x := fun _ h => .inl h
 have HS6 := Lib.hid (Upd.comp HS5.out hupd (fun x h => .inl (List.mem_cons_of_mem _ h)))
 have HBR6 := Lib.hid (Upd.blk hupd HBR5.out HIR.out)
 have HIR_r_6 := Lib.hid (nin_next hfar HIR.out (Blk.lt HBR5.out))
 have HBQ6 := Lib.hid (Upd.blk hupd HBQ5.out HIQ.out)
 have HIQ_r_6 := Lib.hid (nin_next hfar HIQ.out (Blk.lt HBQ5.out))
 have HBn76 := Lib.hid (Upd.blk hupd HBn75.out HIn7_r.out)
 have HIn7_r_6 := Lib.hid (nin_next hfar HIn7_r.out (Blk.lt HBn75.out))
 have HFr6 := Lib.hid hobj
 clear hupd hobj hfar HS5 HBR5 HBQ5 HBn75 HFr_5
 refine tkL (.pointer (some ⟨t, 0, none⟩)) (h := ?_)
 (try simp only [Act.put, sA, sB, sC])
 refine tkL (.pointer (some ⟨t, 18, none⟩)) (h := ?_)
 (try simp only [Act.put, sA, sB, sC])
 refine wpList_wp (by rfl) (fun K hK => ?_)
 refine wp_st_cell 24 _ _ rfl #[.int .i64 c.ca, .int .i64 c.fl, .int .i64 c.ft, .int .i64 c.se, .int .i64 c.dr, .int .i64 c.dw, .int .i64 c.ho, .int .i64 c.re, .int .i64 c.yi, .int .i64 c.qu, .int .i64 c.qo, .int .i64 c.lo, .int .i64 c.sl, .int .i64 c.rt, .int .i64 c.cp, .int .i64 c.tr, .int .i64 c.de, .int .i64 c.wi, .slice (some ⟨g, 0, none⟩) m cap] (.slice (some ⟨g, 0, none⟩) m cap) rfl rfl HBQ6.out (by show 18 < 19; decide) rfl (by first | rfl | simp [Value.oneCell']) (by kernel_rfl) ?_
 intro w7 hw
 refine hK.out _ _ ?_
 clear hK K
 (try simp only [Act.put, sA, sB, sC])
 have HS7 := Lib.hid (show Upd (t :: blkOf (some ⟨g, 0, none⟩)) w w7 by rw [hw]; exact Upd.setRow HS6.out (.inl (by simp)) _)
 have HBR7 := Lib.hid (show Blk w7 w.heap.size 56 #[.int .i64 0, .int .i64 0, .int .i64 0, .int .i64 0, .int .i64 0, .int .i64 0, .int .i64 0, .int .i64 0, .int .i64 0, .int .i64 0] by rw [hw]; exact Blk.row_far HBR6.out (Ne.symm HNR.out) _)
 have HBQ7 := Lib.hid (show Blk w7 t 101 #[.int .i64 c.ca, .int .i64 c.fl, .int .i64 c.ft, .int .i64 c.se, .int .i64 c.dr, .int .i64 c.dw, .int .i64 c.ho, .int .i64 c.re, .int .i64 c.yi, .int .i64 c.qu, .int .i64 c.qo, .int .i64 c.lo, .int .i64 c.sl, .int .i64 c.rt, .int .i64 c.cp, .int .i64 c.tr, .int .i64 c.de, .int .i64 c.wi, .slice (some ⟨g, 0, none⟩) m cap] by rw [hw]; exact Blk.row HBQ6.out _)
 have HBn77 := Lib.hid (show Blk w7 bn7 56 #[.int .i64 x.se, .int .i64 x.fl, .int .i64 x.fm, .int .i64 x.to, .int .i64 x.ma, .int .i64 x.ca, .int .i64 x.ph, .int .i64 x.un, .int .i64 x.re, .int .i64 x.gr] by rw [hw]; exact Blk.row_far HBn76.out HNn7Q.out _)
 have HFr_7 := Lib.hid (show (w7).ownsRow lo 56 10 (.slice (some ⟨g, 0, none⟩) m cap) m (rowsOf leaC (ls.eraseIdx k0)) by rw [hw]; exact own_row_far HFr6.out HIQ_r_6.out _)
 clear hw HS6 HBR6 HBQ6 HBn76 HFr6
 refine wpList_nil ?_
 go_upto_region 5 with fail
 refine wp_region_lit ?_
 refine wpList_q (by rfl) (.agg #[.int .i64 x.se, .int .i64 x.fl, .int .i64 x.fm, .int .i64 x.to, .int .i64 x.ma, .int .i64 x.ca, .int .i64 x.ph, .int .i64 x.un, .int .i64 x.re, .int .i64 x.gr]) ?he ?_
 case he => exact exec_load_row 56 _ _ HBn77.out rfl rfl Try.underlying56 rfl (by kernel_rfl)
 (try simp only [Act.put, sA, sB, sC])
 refine tkL (.bool true) (h := ?_)
 (try simp only [Act.put, sA, sB, sC])
 refine wpList_wp (by rfl) (fun K hK => ?_)
 refine wp_st_row 56 _ _ rfl #[.int .i64 x.se, .int .i64 x.fl, .int .i64 x.fm, .int .i64 x.to, .int .i64 x.ma, .int .i64 x.ca, .int .i64 x.ph, .int .i64 x.un, .int .i64 x.re, .int .i64 x.gr] rfl rfl (HasRow.of HBR7.out rfl) rfl (by simp [Value.oneCell']) (by kernel_rfl) ?_
 intro w8 hw
 refine hK.out _ _ ?_
 clear hK K
 (try simp only [Act.put, sA, sB, sC])
 have HS8 := Lib.hid (show Upd (t :: blkOf (some ⟨g, 0, none⟩)) w w8 by rw [hw]; exact Upd.setRow HS7.out (Or.inr (by have := HNE3.out; omega)) _)
 have HBR8 := Lib.hid (show Blk w8 w.heap.size 56 #[.int .i64 x.se, .int .i64 x.fl, .int .i64 x.fm, .int .i64 x.to, .int .i64 x.ma, .int .i64 x.ca, .int .i64 x.ph, .int .i64 x.un, .int .i64 x.re, .int .i64 x.gr] by rw [hw]; exact Blk.row HBR7.out _)
 have HBQ8 := Lib.hid (show Blk w8 t 101 #[.int .i64 c.ca, .int .i64 c.fl, .int .i64 c.ft, .int .i64 c.se, .int .i64 c.dr, .int .i64 c.dw, .int .i64 c.ho, .int .i64 c.re, .int .i64 c.yi, .int .i64 c.qu, .int .i64 c.qo, .int .i64 c.lo, .int .i64 c.sl, .int .i64 c.rt, .int .i64 c.cp, .int .i64 c.tr, .int .i64 c.de, .int .i64 c.wi, .slice (some ⟨g, 0, none⟩) m cap] by rw [hw]; exact Blk.row_far HBQ7.out HNR.out _)
 have HBn78 := Lib.hid (show Blk w8 bn7 56 #[.int .i64 x.se, .int .i64 x.fl, .int .i64 x.fm, .int .i64 x.to, .int .i64 x.ma, .int .i64 x.ca, .int .i64 x.ph, .int .i64 x.un, .int .i64 x.re, .int .i64 x.gr] by rw [hw]; exact Blk.row_far HBn77.out HNn7R.out _)
 have HFr_8 := Lib.hid (show (w8).ownsRow lo 56 10 (.slice (some ⟨g, 0, none⟩) m cap) m (rowsOf leaC (ls.eraseIdx k0)) by rw [hw]; exact own_row_far HFr_7.out HIR_r_6.out _)
 clear hw HS7 HBR7 HBQ7 HBn77 HFr_7
 refine tkL (.bool true) (h := ?_)
 (try simp only [Act.put, sA, sB, sC])
 refine wpList_nil ?_
 have hlen : (ls.eraseIdx k0).length = m := by have q0 := HK.out; have q1 := HM.out; rw [List.length_eraseIdx, if_pos (by omega)]; omega
 (try go_wp2_with fail)
 exact bodyPost_ret (results_row2 rfl _ _ w.heap.size 56 #[.int .i64 x.se, .int .i64 x.fl, .int .i64 x.fm, .int .i64 x.to, .int .i64 x.ma, .int .i64 x.ca, .int .i64 x.ph, .int .i64 x.un, .int .i64 x.re, .int .i64 x.gr] _ (.bool true) rfl rfl HBR8.out Try.underlying56 rfl (by kernel_rfl)) rfl ⟨rfl, ⟨H0.out, some ⟨g, 0, none⟩, cap, rfl, by rw [hlen]; exact HBQ8.out, by rw [hlen]; exact HFr_8.out⟩, HS8.out⟩
theorem endV0 (lo t : Nat) (c : CfgV) (ls : List LeaseV) (S : List Nat) (s : Int) (w : World) (h : TO lo t c ls S w) (hl : ls.length ≤ 10000) (hf : atP ls (isS s) = none) : Calls Try.prog 37 #[.pointer (some ⟨t, 0, none⟩), .int .i64 s] w fun e w' => e = .returned (.tuple #[.agg #[.int .i64 0, .int .i64 0, .int .i64 0, .int .i64 0, .int .i64 0, .int .i64 0, .int .i64 0, .int .i64 0, .int .i64 0, .int .i64 0], .bool false]) ∧ Since w w' := by
  obtain ⟨h0, A, cap, rfl, B, O⟩ := h
  exact endMiss lo t c ls A cap s w B O hl hf
theorem endV1 (lo t : Nat) (c : CfgV) (ls : List LeaseV) (S : List Nat) (s : Int) (k : Nat) (x : LeaseV) (w : World) (h : TO lo t c ls S w) (hl : ls.length ≤ 10000) (hf : atP ls (isS s) = some k) (hx : ls[k]? = some x) :
    Calls Try.prog 37 #[.pointer (some ⟨t, 0, none⟩), .int .i64 s] w fun e w' => ∃ S', e = .returned (.tuple #[.agg #[.int .i64 x.se, .int .i64 x.fl, .int .i64 x.fm, .int .i64 x.to, .int .i64 x.ma, .int .i64 x.ca, .int .i64 x.ph, .int .i64 x.un, .int .i64 x.re, .int .i64 x.gr], .bool true]) ∧ TO lo t c (ls.eraseIdx k) S' w' ∧ Upd S w w' ∧ ∀ g ∈ S', g ∈ S ∨ w.heap.size ≤ g := by
  obtain ⟨h0, A, cap, rfl, B, O⟩ := h
  have hk := (atP_some hf).1
  obtain ⟨g, rfl⟩ := own_addr O (by omega)
  obtain ⟨m, hm⟩ : ∃ m, ls.length = m + 1 := ⟨ls.length - 1, by omega⟩
  have hcap := own_cap2 O
  rw [hm] at B O hcap
  refine (endHit lo t c ls g m cap k s x w B O hf hm (by omega) (by omega) hcap hx h0).mono ?_
  rintro e w1 ⟨rfl, hn, hu⟩
  exact ⟨_, rfl, hn, hu, fun g hg => .inl hg⟩
theorem mayRV (c : CfgV) (l : LeaseV) (b : Bool) (w : World) (hb : mayB c (askOf l) = b) : Calls Try.prog 23 #[.agg #[.int .i64 c.ca, .int .i64 c.fl, .int .i64 c.ft, .int .i64 c.se, .int .i64 c.dr, .int .i64 c.dw, .int .i64 c.ho, .int .i64 c.re, .int .i64 c.yi, .int .i64 c.qu, .int .i64 c.qo, .int .i64 c.lo, .int .i64 c.sl, .int .i64 c.rt, .int .i64 c.cp, .int .i64 c.tr, .int .i64 c.de, .int .i64 c.wi], .agg #[.int .i64 l.se, .int .i64 l.fl, .int .i64 l.fm, .int .i64 l.to, .int .i64 l.ma]] w fun e w' => e = .returned (.bool b) ∧ Since w w' := by subst hb; exact Fl.mayR c (askOf l) w
set_option maxHeartbeats 4000000 in
theorem lgM (c : CfgV) (l : LeaseV) (w : World) (hm : mayB c (askOf l) = false) : Calls Try.prog 34 #[.agg #[.int .i64 c.ca, .int .i64 c.fl, .int .i64 c.ft, .int .i64 c.se, .int .i64 c.dr, .int .i64 c.dw, .int .i64 c.ho, .int .i64 c.re, .int .i64 c.yi, .int .i64 c.qu, .int .i64 c.qo, .int .i64 c.lo, .int .i64 c.sl, .int .i64 c.rt, .int .i64 c.cp, .int .i64 c.tr, .int .i64 c.de, .int .i64 c.wi], .agg #[.int .i64 l.se, .int .i64 l.fl, .int .i64 l.fm, .int .i64 l.to, .int .i64 l.ma, .int .i64 l.ca, .int .i64 l.ph, .int .i64 l.un, .int .i64 l.re, .int .i64 l.gr]] w fun e w' => e = .returned (.bool false) ∧ Since w w' := by
 have HM := Lib.hid hm
 clear hm
 go_enter Try.func34, Try.ntmps34
 go_upto_region 1 with fail
 obtain ⟨w1, hw1⟩ : ∃ w1, w1 = ((w.alloc (.cells #[.int .i64 c.ca, .int .i64 c.fl, .int .i64 c.ft, .int .i64 c.se, .int .i64 c.dr, .int .i64 c.dw, .int .i64 c.ho, .int .i64 c.re, .int .i64 c.yi, .int .i64 c.qu, .int .i64 c.qo, .int .i64 c.lo, .int .i64 c.sl, .int .i64 c.rt, .int .i64 c.cp, .int .i64 c.tr, .int .i64 c.de, .int .i64 c.wi] 23)).alloc (.cells #[.int .i64 l.se, .int .i64 l.fl, .int .i64 l.fm, .int .i64 l.to, .int .i64 l.ma, .int .i64 l.ca, .int .i64 l.ph, .int .i64 l.un, .int .i64 l.re, .int .i64 l.gr] 56)) := ⟨_, rfl⟩
 rw [← hw1]
 have HBC1 := Lib.hid (show Blk w1 (w.heap.size) 23 #[.int .i64 c.ca, .int .i64 c.fl, .int .i64 c.ft, .int .i64 c.se, .int .i64 c.dr, .int .i64 c.dw, .int .i64 c.ho, .int .i64 c.re, .int .i64 c.yi, .int .i64 c.qu, .int .i64 c.qo, .int .i64 c.lo, .int .i64 c.sl, .int .i64 c.rt, .int .i64 c.cp, .int .i64 c.tr, .int .i64 c.de, .int .i64 c.wi] by rw [hw1]; exact Blk.alloc (Blk.at_ (by (try simp only [size_alloc])) _ _) _)
 have HBL1 := Lib.hid (show Blk w1 (w.heap.size + 1) 56 #[.int .i64 l.se, .int .i64 l.fl, .int .i64 l.fm, .int .i64 l.to, .int .i64 l.ma, .int .i64 l.ca, .int .i64 l.ph, .int .i64 l.un, .int .i64 l.re, .int .i64 l.gr] by rw [hw1]; exact Blk.at_ (by (try simp only [size_alloc])) _ _)
 have HS1 := Lib.hid (show Since w w1 by rw [hw1]; exact Since.alloc (Since.alloc (Since.refl w) _) _)
 have hNE : w.heap.size ≤ w.heap.size ∧ w.heap.size < w.heap.size + 1 := by omega
 have HNE := Lib.hid hNE
 clear hNE hw1
 generalize w.heap.size + 1 = bL at *
 have HNE3 := Lib.hid (show w.heap.size ≤ w.heap.size ∧ w.heap.size < bL from HNE.out)
 clear HNE
 refine wp_region_lit ?_
 refine wpList_q (by rfl) (.agg #[.int .i64 c.ca, .int .i64 c.fl, .int .i64 c.ft, .int .i64 c.se, .int .i64 c.dr, .int .i64 c.dw, .int .i64 c.ho, .int .i64 c.re, .int .i64 c.yi, .int .i64 c.qu, .int .i64 c.qo, .int .i64 c.lo, .int .i64 c.sl, .int .i64 c.rt, .int .i64 c.cp, .int .i64 c.tr, .int .i64 c.de, .int .i64 c.wi]) ?he ?_
 case he => exact exec_load_row 23 _ _ HBC1.out rfl rfl Try.underlying23 rfl (by kernel_rfl)
 (try simp only [Act.put, sA, sB, sC])
 refine tkL (.pointer (some ⟨bL, 0, none⟩)) (h := ?_)
 (try simp only [Act.put, sA, sB, sC])
 refine wpList_q (by rfl) (.agg #[.int .i64 l.se, .int .i64 l.fl, .int .i64 l.fm, .int .i64 l.to, .int .i64 l.ma]) ?he ?_
 case he => exact exec_part (n := 5) 30 _ _ HBL1.out rfl rfl rfl rfl Try.underlying30 rfl (by kernel_rfl)
 (try simp only [Act.put, sA, sB, sC])
 refine wpList_wp (by rfl) (fun K hK => ?_)
 (try go_simp)
 refine (mayRV c l false _ HM.out).mono ?_
 rintro e w2 ⟨rfl, hb⟩
 (try go_wp2_with fail)
 refine hK.out _ _ ?_
 clear hK K
 (try simp only [Act.put, sA, sB, sC])
 have HS2 := Lib.hid (Since.trans HS1.out hb)
 have HBC2 := Lib.hid (keep_blk hb HBC1.out)
 have HBL2 := Lib.hid (keep_blk hb HBL1.out)
 clear HS1 HBC1 HBL1
 clear hb
 refine tkL (.bool false) (h := ?_)
 (try simp only [Act.put, sA, sB, sC])
 refine wpList_no (by rfl) ?_
 (try simp only [Act.put, sA, sB, sC])
 refine wpList_no (by rfl) ?_
 (try simp only [Act.put, sA, sB, sC])
 refine wpList_no (by rfl) ?_
 (try simp only [Act.put, sA, sB, sC])
 refine tkL (.bool false) (h := ?_)
 (try simp only [Act.put, sA, sB, sC])
 refine tkL (.bool false) (h := ?_)
 (try simp only [Act.put, sA, sB, sC])
 refine wpList_no (by rfl) ?_
 (try simp only [Act.put, sA, sB, sC])
 refine wpList_no (by rfl) ?_
 (try simp only [Act.put, sA, sB, sC])
 refine wpList_no (by rfl) ?_
 (try simp only [Act.put, sA, sB, sC])
 refine tkL (.bool false) (h := ?_)
 (try simp only [Act.put, sA, sB, sC])
 refine tkL (.bool false) (h := ?_)
 (try simp only [Act.put, sA, sB, sC])
 refine wpList_no (by rfl) ?_
 (try simp only [Act.put, sA, sB, sC])
 refine wpList_no (by rfl) ?_
 (try simp only [Act.put, sA, sB, sC])
 refine wpList_no (by rfl) ?_
 (try simp only [Act.put, sA, sB, sC])
 refine tkL (.bool false) (h := ?_)
 (try simp only [Act.put, sA, sB, sC])
 refine tkL (.bool false) (h := ?_)
 (try simp only [Act.put, sA, sB, sC])
 refine wpList_no (by rfl) ?_
 (try simp only [Act.put, sA, sB, sC])
 refine wpList_no (by rfl) ?_
 (try simp only [Act.put, sA, sB, sC])
 refine wpList_no (by rfl) ?_
 (try simp only [Act.put, sA, sB, sC])
 refine tkL (.bool false) (h := ?_)
 (try simp only [Act.put, sA, sB, sC])
 refine tkL (.bool false) (h := ?_)
 (try simp only [Act.put, sA, sB, sC])
 refine wpList_nil ?_
 (try go_wp2_with fail)
 go_ret
 exact ⟨rfl, HS2.out⟩
set_option maxHeartbeats 4000000 in
theorem lg0 (c : CfgV) (l : LeaseV) (w : World) (hm : mayB c (askOf l) = true) (h0 : ¬ (0 ≤ l.ca)) : Calls Try.prog 34 #[.agg #[.int .i64 c.ca, .int .i64 c.fl, .int .i64 c.ft, .int .i64 c.se, .int .i64 c.dr, .int .i64 c.dw, .int .i64 c.ho, .int .i64 c.re, .int .i64 c.yi, .int .i64 c.qu, .int .i64 c.qo, .int .i64 c.lo, .int .i64 c.sl, .int .i64 c.rt, .int .i64 c.cp, .int .i64 c.tr, .int .i64 c.de, .int .i64 c.wi], .agg #[.int .i64 l.se, .int .i64 l.fl, .int .i64 l.fm, .int .i64 l.to, .int .i64 l.ma, .int .i64 l.ca, .int .i64 l.ph, .int .i64 l.un, .int .i64 l.re, .int .i64 l.gr]] w fun e w' => e = .returned (.bool false) ∧ Since w w' := by
 have HM := Lib.hid hm
 clear hm
 have H0 := Lib.hid h0
 clear h0
 go_enter Try.func34, Try.ntmps34
 go_upto_region 1 with fail
 obtain ⟨w1, hw1⟩ : ∃ w1, w1 = ((w.alloc (.cells #[.int .i64 c.ca, .int .i64 c.fl, .int .i64 c.ft, .int .i64 c.se, .int .i64 c.dr, .int .i64 c.dw, .int .i64 c.ho, .int .i64 c.re, .int .i64 c.yi, .int .i64 c.qu, .int .i64 c.qo, .int .i64 c.lo, .int .i64 c.sl, .int .i64 c.rt, .int .i64 c.cp, .int .i64 c.tr, .int .i64 c.de, .int .i64 c.wi] 23)).alloc (.cells #[.int .i64 l.se, .int .i64 l.fl, .int .i64 l.fm, .int .i64 l.to, .int .i64 l.ma, .int .i64 l.ca, .int .i64 l.ph, .int .i64 l.un, .int .i64 l.re, .int .i64 l.gr] 56)) := ⟨_, rfl⟩
 rw [← hw1]
 have HBC1 := Lib.hid (show Blk w1 (w.heap.size) 23 #[.int .i64 c.ca, .int .i64 c.fl, .int .i64 c.ft, .int .i64 c.se, .int .i64 c.dr, .int .i64 c.dw, .int .i64 c.ho, .int .i64 c.re, .int .i64 c.yi, .int .i64 c.qu, .int .i64 c.qo, .int .i64 c.lo, .int .i64 c.sl, .int .i64 c.rt, .int .i64 c.cp, .int .i64 c.tr, .int .i64 c.de, .int .i64 c.wi] by rw [hw1]; exact Blk.alloc (Blk.at_ (by (try simp only [size_alloc])) _ _) _)
 have HBL1 := Lib.hid (show Blk w1 (w.heap.size + 1) 56 #[.int .i64 l.se, .int .i64 l.fl, .int .i64 l.fm, .int .i64 l.to, .int .i64 l.ma, .int .i64 l.ca, .int .i64 l.ph, .int .i64 l.un, .int .i64 l.re, .int .i64 l.gr] by rw [hw1]; exact Blk.at_ (by (try simp only [size_alloc])) _ _)
 have HS1 := Lib.hid (show Since w w1 by rw [hw1]; exact Since.alloc (Since.alloc (Since.refl w) _) _)
 have hNE : w.heap.size ≤ w.heap.size ∧ w.heap.size < w.heap.size + 1 := by omega
 have HNE := Lib.hid hNE
 clear hNE hw1
 generalize w.heap.size + 1 = bL at *
 have HNE3 := Lib.hid (show w.heap.size ≤ w.heap.size ∧ w.heap.size < bL from HNE.out)
 clear HNE
 refine wp_region_lit ?_
 refine wpList_q (by rfl) (.agg #[.int .i64 c.ca, .int .i64 c.fl, .int .i64 c.ft, .int .i64 c.se, .int .i64 c.dr, .int .i64 c.dw, .int .i64 c.ho, .int .i64 c.re, .int .i64 c.yi, .int .i64 c.qu, .int .i64 c.qo, .int .i64 c.lo, .int .i64 c.sl, .int .i64 c.rt, .int .i64 c.cp, .int .i64 c.tr, .int .i64 c.de, .int .i64 c.wi]) ?he ?_
 case he => exact exec_load_row 23 _ _ HBC1.out rfl rfl Try.underlying23 rfl (by kernel_rfl)
 (try simp only [Act.put, sA, sB, sC])
 refine tkL (.pointer (some ⟨bL, 0, none⟩)) (h := ?_)
 (try simp only [Act.put, sA, sB, sC])
 refine wpList_q (by rfl) (.agg #[.int .i64 l.se, .int .i64 l.fl, .int .i64 l.fm, .int .i64 l.to, .int .i64 l.ma]) ?he ?_
 case he => exact exec_part (n := 5) 30 _ _ HBL1.out rfl rfl rfl rfl Try.underlying30 rfl (by kernel_rfl)
 (try simp only [Act.put, sA, sB, sC])
 refine wpList_wp (by rfl) (fun K hK => ?_)
 (try go_simp)
 refine (mayRV c l true _ HM.out).mono ?_
 rintro e w2 ⟨rfl, hb⟩
 (try go_wp2_with fail)
 refine hK.out _ _ ?_
 clear hK K
 (try simp only [Act.put, sA, sB, sC])
 have HS2 := Lib.hid (Since.trans HS1.out hb)
 have HBC2 := Lib.hid (keep_blk hb HBC1.out)
 have HBL2 := Lib.hid (keep_blk hb HBL1.out)
 clear HS1 HBC1 HBL1
 clear hb
 refine tkL (.bool true) (h := ?_)
 (try simp only [Act.put, sA, sB, sC])
 refine tkL (.pointer (some ⟨bL, 5, none⟩)) (h := ?_)
 (try simp only [Act.put, sA, sB, sC])
 refine wpList_q (by rfl) (.int .i64 l.ca) ?he ?_
 case he => exact exec_cell 3 _ _ HBL2.out rfl rfl rfl Try.underlying3 rfl
 (try simp only [Act.put, sA, sB, sC])
 refine wpList_q (by rfl) (.bool false) ?he ?_
 case he => (have q0 := H0.out; go_simp; (first | done | rfl | omega))
 (try simp only [Act.put, sA, sB, sC])
 refine tkL (.bool false) (h := ?_)
 (try simp only [Act.put, sA, sB, sC])
 refine tkL (.bool false) (h := ?_)
 (try simp only [Act.put, sA, sB, sC])
 refine wpList_no (by rfl) ?_
 (try simp only [Act.put, sA, sB, sC])
 refine wpList_no (by rfl) ?_
 (try simp only [Act.put, sA, sB, sC])
 refine wpList_no (by rfl) ?_
 (try simp only [Act.put, sA, sB, sC])
 refine tkL (.bool false) (h := ?_)
 (try simp only [Act.put, sA, sB, sC])
 refine tkL (.bool false) (h := ?_)
 (try simp only [Act.put, sA, sB, sC])
 refine wpList_no (by rfl) ?_
 (try simp only [Act.put, sA, sB, sC])
 refine wpList_no (by rfl) ?_
 (try simp only [Act.put, sA, sB, sC])
 refine wpList_no (by rfl) ?_
 (try simp only [Act.put, sA, sB, sC])
 refine tkL (.bool false) (h := ?_)
 (try simp only [Act.put, sA, sB, sC])
 refine tkL (.bool false) (h := ?_)
 (try simp only [Act.put, sA, sB, sC])
 refine wpList_no (by rfl) ?_
 (try simp only [Act.put, sA, sB, sC])
 refine wpList_no (by rfl) ?_
 (try simp only [Act.put, sA, sB, sC])
 refine wpList_no (by rfl) ?_
 (try simp only [Act.put, sA, sB, sC])
 refine tkL (.bool false) (h := ?_)
 (try simp only [Act.put, sA, sB, sC])
 refine tkL (.bool false) (h := ?_)
 (try simp only [Act.put, sA, sB, sC])
 refine wpList_nil ?_
 (try go_wp2_with fail)
 go_ret
 exact ⟨rfl, HS2.out⟩
set_option maxHeartbeats 4000000 in
theorem lg1 (c : CfgV) (l : LeaseV) (w : World) (hm : mayB c (askOf l) = true) (h0 : 0 ≤ l.ca) (h1 : ¬ (l.ca < 8)) : Calls Try.prog 34 #[.agg #[.int .i64 c.ca, .int .i64 c.fl, .int .i64 c.ft, .int .i64 c.se, .int .i64 c.dr, .int .i64 c.dw, .int .i64 c.ho, .int .i64 c.re, .int .i64 c.yi, .int .i64 c.qu, .int .i64 c.qo, .int .i64 c.lo, .int .i64 c.sl, .int .i64 c.rt, .int .i64 c.cp, .int .i64 c.tr, .int .i64 c.de, .int .i64 c.wi], .agg #[.int .i64 l.se, .int .i64 l.fl, .int .i64 l.fm, .int .i64 l.to, .int .i64 l.ma, .int .i64 l.ca, .int .i64 l.ph, .int .i64 l.un, .int .i64 l.re, .int .i64 l.gr]] w fun e w' => e = .returned (.bool false) ∧ Since w w' := by
 have HM := Lib.hid hm
 clear hm
 have H0 := Lib.hid h0
 clear h0
 have H1 := Lib.hid h1
 clear h1
 go_enter Try.func34, Try.ntmps34
 go_upto_region 1 with fail
 obtain ⟨w1, hw1⟩ : ∃ w1, w1 = ((w.alloc (.cells #[.int .i64 c.ca, .int .i64 c.fl, .int .i64 c.ft, .int .i64 c.se, .int .i64 c.dr, .int .i64 c.dw, .int .i64 c.ho, .int .i64 c.re, .int .i64 c.yi, .int .i64 c.qu, .int .i64 c.qo, .int .i64 c.lo, .int .i64 c.sl, .int .i64 c.rt, .int .i64 c.cp, .int .i64 c.tr, .int .i64 c.de, .int .i64 c.wi] 23)).alloc (.cells #[.int .i64 l.se, .int .i64 l.fl, .int .i64 l.fm, .int .i64 l.to, .int .i64 l.ma, .int .i64 l.ca, .int .i64 l.ph, .int .i64 l.un, .int .i64 l.re, .int .i64 l.gr] 56)) := ⟨_, rfl⟩
 rw [← hw1]
 have HBC1 := Lib.hid (show Blk w1 (w.heap.size) 23 #[.int .i64 c.ca, .int .i64 c.fl, .int .i64 c.ft, .int .i64 c.se, .int .i64 c.dr, .int .i64 c.dw, .int .i64 c.ho, .int .i64 c.re, .int .i64 c.yi, .int .i64 c.qu, .int .i64 c.qo, .int .i64 c.lo, .int .i64 c.sl, .int .i64 c.rt, .int .i64 c.cp, .int .i64 c.tr, .int .i64 c.de, .int .i64 c.wi] by rw [hw1]; exact Blk.alloc (Blk.at_ (by (try simp only [size_alloc])) _ _) _)
 have HBL1 := Lib.hid (show Blk w1 (w.heap.size + 1) 56 #[.int .i64 l.se, .int .i64 l.fl, .int .i64 l.fm, .int .i64 l.to, .int .i64 l.ma, .int .i64 l.ca, .int .i64 l.ph, .int .i64 l.un, .int .i64 l.re, .int .i64 l.gr] by rw [hw1]; exact Blk.at_ (by (try simp only [size_alloc])) _ _)
 have HS1 := Lib.hid (show Since w w1 by rw [hw1]; exact Since.alloc (Since.alloc (Since.refl w) _) _)
 have hNE : w.heap.size ≤ w.heap.size ∧ w.heap.size < w.heap.size + 1 := by omega
 have HNE := Lib.hid hNE
 clear hNE hw1
 generalize w.heap.size + 1 = bL at *
 have HNE3 := Lib.hid (show w.heap.size ≤ w.heap.size ∧ w.heap.size < bL from HNE.out)
 clear HNE
 refine wp_region_lit ?_
 refine wpList_q (by rfl) (.agg #[.int .i64 c.ca, .int .i64 c.fl, .int .i64 c.ft, .int .i64 c.se, .int .i64 c.dr, .int .i64 c.dw, .int .i64 c.ho, .int .i64 c.re, .int .i64 c.yi, .int .i64 c.qu, .int .i64 c.qo, .int .i64 c.lo, .int .i64 c.sl, .int .i64 c.rt, .int .i64 c.cp, .int .i64 c.tr, .int .i64 c.de, .int .i64 c.wi]) ?he ?_
 case he => exact exec_load_row 23 _ _ HBC1.out rfl rfl Try.underlying23 rfl (by kernel_rfl)
 (try simp only [Act.put, sA, sB, sC])
 refine tkL (.pointer (some ⟨bL, 0, none⟩)) (h := ?_)
 (try simp only [Act.put, sA, sB, sC])
 refine wpList_q (by rfl) (.agg #[.int .i64 l.se, .int .i64 l.fl, .int .i64 l.fm, .int .i64 l.to, .int .i64 l.ma]) ?he ?_
 case he => exact exec_part (n := 5) 30 _ _ HBL1.out rfl rfl rfl rfl Try.underlying30 rfl (by kernel_rfl)
 (try simp only [Act.put, sA, sB, sC])
 refine wpList_wp (by rfl) (fun K hK => ?_)
 (try go_simp)
 refine (mayRV c l true _ HM.out).mono ?_
 rintro e w2 ⟨rfl, hb⟩
 (try go_wp2_with fail)
 refine hK.out _ _ ?_
 clear hK K
 (try simp only [Act.put, sA, sB, sC])
 have HS2 := Lib.hid (Since.trans HS1.out hb)
 have HBC2 := Lib.hid (keep_blk hb HBC1.out)
 have HBL2 := Lib.hid (keep_blk hb HBL1.out)
 clear HS1 HBC1 HBL1
 clear hb
 refine tkL (.bool true) (h := ?_)
 (try simp only [Act.put, sA, sB, sC])
 refine tkL (.pointer (some ⟨bL, 5, none⟩)) (h := ?_)
 (try simp only [Act.put, sA, sB, sC])
 refine wpList_q (by rfl) (.int .i64 l.ca) ?he ?_
 case he => exact exec_cell 3 _ _ HBL2.out rfl rfl rfl Try.underlying3 rfl
 (try simp only [Act.put, sA, sB, sC])
 refine wpList_q (by rfl) (.bool true) ?he ?_
 case he => (have q0 := H0.out; go_simp; (first | done | rfl | omega))
 (try simp only [Act.put, sA, sB, sC])
 refine tkL (.bool true) (h := ?_)
 (try simp only [Act.put, sA, sB, sC])
 refine tkL (.bool true) (h := ?_)
 (try simp only [Act.put, sA, sB, sC])
 refine tkL (.pointer (some ⟨bL, 5, none⟩)) (h := ?_)
 (try simp only [Act.put, sA, sB, sC])
 refine wpList_q (by rfl) (.int .i64 l.ca) ?he ?_
 case he => exact exec_cell 3 _ _ HBL2.out rfl rfl rfl Try.underlying3 rfl
 (try simp only [Act.put, sA, sB, sC])
 refine wpList_q (by rfl) (.bool false) ?he ?_
 case he => (have q0 := H1.out; go_simp; (first | done | rfl | omega))
 (try simp only [Act.put, sA, sB, sC])
 refine tkL (.bool false) (h := ?_)
 (try simp only [Act.put, sA, sB, sC])
 refine tkL (.bool false) (h := ?_)
 (try simp only [Act.put, sA, sB, sC])
 refine wpList_no (by rfl) ?_
 (try simp only [Act.put, sA, sB, sC])
 refine wpList_no (by rfl) ?_
 (try simp only [Act.put, sA, sB, sC])
 refine wpList_no (by rfl) ?_
 (try simp only [Act.put, sA, sB, sC])
 refine tkL (.bool false) (h := ?_)
 (try simp only [Act.put, sA, sB, sC])
 refine tkL (.bool false) (h := ?_)
 (try simp only [Act.put, sA, sB, sC])
 refine wpList_no (by rfl) ?_
 (try simp only [Act.put, sA, sB, sC])
 refine wpList_no (by rfl) ?_
 (try simp only [Act.put, sA, sB, sC])
 refine wpList_no (by rfl) ?_
 (try simp only [Act.put, sA, sB, sC])
 refine tkL (.bool false) (h := ?_)
 (try simp only [Act.put, sA, sB, sC])
 refine tkL (.bool false) (h := ?_)
 (try simp only [Act.put, sA, sB, sC])
 refine wpList_nil ?_
 (try go_wp2_with fail)
 go_ret
 exact ⟨rfl, HS2.out⟩
set_option maxHeartbeats 4000000 in
theorem lg2 (c : CfgV) (l : LeaseV) (w : World) (hm : mayB c (askOf l) = true) (h0 : 0 ≤ l.ca) (h1 : l.ca < 8) (h2 : ¬ (1 ≤ l.ph)) : Calls Try.prog 34 #[.agg #[.int .i64 c.ca, .int .i64 c.fl, .int .i64 c.ft, .int .i64 c.se, .int .i64 c.dr, .int .i64 c.dw, .int .i64 c.ho, .int .i64 c.re, .int .i64 c.yi, .int .i64 c.qu, .int .i64 c.qo, .int .i64 c.lo, .int .i64 c.sl, .int .i64 c.rt, .int .i64 c.cp, .int .i64 c.tr, .int .i64 c.de, .int .i64 c.wi], .agg #[.int .i64 l.se, .int .i64 l.fl, .int .i64 l.fm, .int .i64 l.to, .int .i64 l.ma, .int .i64 l.ca, .int .i64 l.ph, .int .i64 l.un, .int .i64 l.re, .int .i64 l.gr]] w fun e w' => e = .returned (.bool false) ∧ Since w w' := by
 have HM := Lib.hid hm
 clear hm
 have H0 := Lib.hid h0
 clear h0
 have H1 := Lib.hid h1
 clear h1
 have H2 := Lib.hid h2
 clear h2
 go_enter Try.func34, Try.ntmps34
 go_upto_region 1 with fail
 obtain ⟨w1, hw1⟩ : ∃ w1, w1 = ((w.alloc (.cells #[.int .i64 c.ca, .int .i64 c.fl, .int .i64 c.ft, .int .i64 c.se, .int .i64 c.dr, .int .i64 c.dw, .int .i64 c.ho, .int .i64 c.re, .int .i64 c.yi, .int .i64 c.qu, .int .i64 c.qo, .int .i64 c.lo, .int .i64 c.sl, .int .i64 c.rt, .int .i64 c.cp, .int .i64 c.tr, .int .i64 c.de, .int .i64 c.wi] 23)).alloc (.cells #[.int .i64 l.se, .int .i64 l.fl, .int .i64 l.fm, .int .i64 l.to, .int .i64 l.ma, .int .i64 l.ca, .int .i64 l.ph, .int .i64 l.un, .int .i64 l.re, .int .i64 l.gr] 56)) := ⟨_, rfl⟩
 rw [← hw1]
 have HBC1 := Lib.hid (show Blk w1 (w.heap.size) 23 #[.int .i64 c.ca, .int .i64 c.fl, .int .i64 c.ft, .int .i64 c.se, .int .i64 c.dr, .int .i64 c.dw, .int .i64 c.ho, .int .i64 c.re, .int .i64 c.yi, .int .i64 c.qu, .int .i64 c.qo, .int .i64 c.lo, .int .i64 c.sl, .int .i64 c.rt, .int .i64 c.cp, .int .i64 c.tr, .int .i64 c.de, .int .i64 c.wi] by rw [hw1]; exact Blk.alloc (Blk.at_ (by (try simp only [size_alloc])) _ _) _)
 have HBL1 := Lib.hid (show Blk w1 (w.heap.size + 1) 56 #[.int .i64 l.se, .int .i64 l.fl, .int .i64 l.fm, .int .i64 l.to, .int .i64 l.ma, .int .i64 l.ca, .int .i64 l.ph, .int .i64 l.un, .int .i64 l.re, .int .i64 l.gr] by rw [hw1]; exact Blk.at_ (by (try simp only [size_alloc])) _ _)
 have HS1 := Lib.hid (show Since w w1 by rw [hw1]; exact Since.alloc (Since.alloc (Since.refl w) _) _)
 have hNE : w.heap.size ≤ w.heap.size ∧ w.heap.size < w.heap.size + 1 := by omega
 have HNE := Lib.hid hNE
 clear hNE hw1
 generalize w.heap.size + 1 = bL at *
 have HNE3 := Lib.hid (show w.heap.size ≤ w.heap.size ∧ w.heap.size < bL from HNE.out)
 clear HNE
 refine wp_region_lit ?_
 refine wpList_q (by rfl) (.agg #[.int .i64 c.ca, .int .i64 c.fl, .int .i64 c.ft, .int .i64 c.se, .int .i64 c.dr, .int .i64 c.dw, .int .i64 c.ho, .int .i64 c.re, .int .i64 c.yi, .int .i64 c.qu, .int .i64 c.qo, .int .i64 c.lo, .int .i64 c.sl, .int .i64 c.rt, .int .i64 c.cp, .int .i64 c.tr, .int .i64 c.de, .int .i64 c.wi]) ?he ?_
 case he => exact exec_load_row 23 _ _ HBC1.out rfl rfl Try.underlying23 rfl (by kernel_rfl)
 (try simp only [Act.put, sA, sB, sC])
 refine tkL (.pointer (some ⟨bL, 0, none⟩)) (h := ?_)
 (try simp only [Act.put, sA, sB, sC])
 refine wpList_q (by rfl) (.agg #[.int .i64 l.se, .int .i64 l.fl, .int .i64 l.fm, .int .i64 l.to, .int .i64 l.ma]) ?he ?_
 case he => exact exec_part (n := 5) 30 _ _ HBL1.out rfl rfl rfl rfl Try.underlying30 rfl (by kernel_rfl)
 (try simp only [Act.put, sA, sB, sC])
 refine wpList_wp (by rfl) (fun K hK => ?_)
 (try go_simp)
 refine (mayRV c l true _ HM.out).mono ?_
 rintro e w2 ⟨rfl, hb⟩
 (try go_wp2_with fail)
 refine hK.out _ _ ?_
 clear hK K
 (try simp only [Act.put, sA, sB, sC])
 have HS2 := Lib.hid (Since.trans HS1.out hb)
 have HBC2 := Lib.hid (keep_blk hb HBC1.out)
 have HBL2 := Lib.hid (keep_blk hb HBL1.out)
 clear HS1 HBC1 HBL1
 clear hb
 refine tkL (.bool true) (h := ?_)
 (try simp only [Act.put, sA, sB, sC])
 refine tkL (.pointer (some ⟨bL, 5, none⟩)) (h := ?_)
 (try simp only [Act.put, sA, sB, sC])
 refine wpList_q (by rfl) (.int .i64 l.ca) ?he ?_
 case he => exact exec_cell 3 _ _ HBL2.out rfl rfl rfl Try.underlying3 rfl
 (try simp only [Act.put, sA, sB, sC])
 refine wpList_q (by rfl) (.bool true) ?he ?_
 case he => (have q0 := H0.out; go_simp; (first | done | rfl | omega))
 (try simp only [Act.put, sA, sB, sC])
 refine tkL (.bool true) (h := ?_)
 (try simp only [Act.put, sA, sB, sC])
 refine tkL (.bool true) (h := ?_)
 (try simp only [Act.put, sA, sB, sC])
 refine tkL (.pointer (some ⟨bL, 5, none⟩)) (h := ?_)
 (try simp only [Act.put, sA, sB, sC])
 refine wpList_q (by rfl) (.int .i64 l.ca) ?he ?_
 case he => exact exec_cell 3 _ _ HBL2.out rfl rfl rfl Try.underlying3 rfl
 (try simp only [Act.put, sA, sB, sC])
 refine wpList_q (by rfl) (.bool true) ?he ?_
 case he => (have q0 := H1.out; go_simp; (first | done | rfl | omega))
 (try simp only [Act.put, sA, sB, sC])
 refine tkL (.bool true) (h := ?_)
 (try simp only [Act.put, sA, sB, sC])
 refine tkL (.bool true) (h := ?_)
 (try simp only [Act.put, sA, sB, sC])
 refine tkL (.pointer (some ⟨bL, 6, none⟩)) (h := ?_)
 (try simp only [Act.put, sA, sB, sC])
 refine wpList_q (by rfl) (.int .i64 l.ph) ?he ?_
 case he => exact exec_cell 3 _ _ HBL2.out rfl rfl rfl Try.underlying3 rfl
 (try simp only [Act.put, sA, sB, sC])
 refine wpList_q (by rfl) (.bool false) ?he ?_
 case he => (have q0 := H2.out; go_simp; (first | done | rfl | omega))
 (try simp only [Act.put, sA, sB, sC])
 refine tkL (.bool false) (h := ?_)
 (try simp only [Act.put, sA, sB, sC])
 refine tkL (.bool false) (h := ?_)
 (try simp only [Act.put, sA, sB, sC])
 refine wpList_no (by rfl) ?_
 (try simp only [Act.put, sA, sB, sC])
 refine wpList_no (by rfl) ?_
 (try simp only [Act.put, sA, sB, sC])
 refine wpList_no (by rfl) ?_
 (try simp only [Act.put, sA, sB, sC])
 refine tkL (.bool false) (h := ?_)
 (try simp only [Act.put, sA, sB, sC])
 refine tkL (.bool false) (h := ?_)
 (try simp only [Act.put, sA, sB, sC])
 refine wpList_nil ?_
 (try go_wp2_with fail)
 go_ret
 exact ⟨rfl, HS2.out⟩
set_option maxHeartbeats 4000000 in
theorem lg3 (c : CfgV) (l : LeaseV) (w : World) (hm : mayB c (askOf l) = true) (h0 : 0 ≤ l.ca) (h1 : l.ca < 8) (h2 : 1 ≤ l.ph) (h3 : ¬ (l.ph ≤ 4)) : Calls Try.prog 34 #[.agg #[.int .i64 c.ca, .int .i64 c.fl, .int .i64 c.ft, .int .i64 c.se, .int .i64 c.dr, .int .i64 c.dw, .int .i64 c.ho, .int .i64 c.re, .int .i64 c.yi, .int .i64 c.qu, .int .i64 c.qo, .int .i64 c.lo, .int .i64 c.sl, .int .i64 c.rt, .int .i64 c.cp, .int .i64 c.tr, .int .i64 c.de, .int .i64 c.wi], .agg #[.int .i64 l.se, .int .i64 l.fl, .int .i64 l.fm, .int .i64 l.to, .int .i64 l.ma, .int .i64 l.ca, .int .i64 l.ph, .int .i64 l.un, .int .i64 l.re, .int .i64 l.gr]] w fun e w' => e = .returned (.bool false) ∧ Since w w' := by
 have HM := Lib.hid hm
 clear hm
 have H0 := Lib.hid h0
 clear h0
 have H1 := Lib.hid h1
 clear h1
 have H2 := Lib.hid h2
 clear h2
 have H3 := Lib.hid h3
 clear h3
 go_enter Try.func34, Try.ntmps34
 go_upto_region 1 with fail
 obtain ⟨w1, hw1⟩ : ∃ w1, w1 = ((w.alloc (.cells #[.int .i64 c.ca, .int .i64 c.fl, .int .i64 c.ft, .int .i64 c.se, .int .i64 c.dr, .int .i64 c.dw, .int .i64 c.ho, .int .i64 c.re, .int .i64 c.yi, .int .i64 c.qu, .int .i64 c.qo, .int .i64 c.lo, .int .i64 c.sl, .int .i64 c.rt, .int .i64 c.cp, .int .i64 c.tr, .int .i64 c.de, .int .i64 c.wi] 23)).alloc (.cells #[.int .i64 l.se, .int .i64 l.fl, .int .i64 l.fm, .int .i64 l.to, .int .i64 l.ma, .int .i64 l.ca, .int .i64 l.ph, .int .i64 l.un, .int .i64 l.re, .int .i64 l.gr] 56)) := ⟨_, rfl⟩
 rw [← hw1]
 have HBC1 := Lib.hid (show Blk w1 (w.heap.size) 23 #[.int .i64 c.ca, .int .i64 c.fl, .int .i64 c.ft, .int .i64 c.se, .int .i64 c.dr, .int .i64 c.dw, .int .i64 c.ho, .int .i64 c.re, .int .i64 c.yi, .int .i64 c.qu, .int .i64 c.qo, .int .i64 c.lo, .int .i64 c.sl, .int .i64 c.rt, .int .i64 c.cp, .int .i64 c.tr, .int .i64 c.de, .int .i64 c.wi] by rw [hw1]; exact Blk.alloc (Blk.at_ (by (try simp only [size_alloc])) _ _) _)
 have HBL1 := Lib.hid (show Blk w1 (w.heap.size + 1) 56 #[.int .i64 l.se, .int .i64 l.fl, .int .i64 l.fm, .int .i64 l.to, .int .i64 l.ma, .int .i64 l.ca, .int .i64 l.ph, .int .i64 l.un, .int .i64 l.re, .int .i64 l.gr] by rw [hw1]; exact Blk.at_ (by (try simp only [size_alloc])) _ _)
 have HS1 := Lib.hid (show Since w w1 by rw [hw1]; exact Since.alloc (Since.alloc (Since.refl w) _) _)
 have hNE : w.heap.size ≤ w.heap.size ∧ w.heap.size < w.heap.size + 1 := by omega
 have HNE := Lib.hid hNE
 clear hNE hw1
 generalize w.heap.size + 1 = bL at *
 have HNE3 := Lib.hid (show w.heap.size ≤ w.heap.size ∧ w.heap.size < bL from HNE.out)
 clear HNE
 refine wp_region_lit ?_
 refine wpList_q (by rfl) (.agg #[.int .i64 c.ca, .int .i64 c.fl, .int .i64 c.ft, .int .i64 c.se, .int .i64 c.dr, .int .i64 c.dw, .int .i64 c.ho, .int .i64 c.re, .int .i64 c.yi, .int .i64 c.qu, .int .i64 c.qo, .int .i64 c.lo, .int .i64 c.sl, .int .i64 c.rt, .int .i64 c.cp, .int .i64 c.tr, .int .i64 c.de, .int .i64 c.wi]) ?he ?_
 case he => exact exec_load_row 23 _ _ HBC1.out rfl rfl Try.underlying23 rfl (by kernel_rfl)
 (try simp only [Act.put, sA, sB, sC])
 refine tkL (.pointer (some ⟨bL, 0, none⟩)) (h := ?_)
 (try simp only [Act.put, sA, sB, sC])
 refine wpList_q (by rfl) (.agg #[.int .i64 l.se, .int .i64 l.fl, .int .i64 l.fm, .int .i64 l.to, .int .i64 l.ma]) ?he ?_
 case he => exact exec_part (n := 5) 30 _ _ HBL1.out rfl rfl rfl rfl Try.underlying30 rfl (by kernel_rfl)
 (try simp only [Act.put, sA, sB, sC])
 refine wpList_wp (by rfl) (fun K hK => ?_)
 (try go_simp)
 refine (mayRV c l true _ HM.out).mono ?_
 rintro e w2 ⟨rfl, hb⟩
 (try go_wp2_with fail)
 refine hK.out _ _ ?_
 clear hK K
 (try simp only [Act.put, sA, sB, sC])
 have HS2 := Lib.hid (Since.trans HS1.out hb)
 have HBC2 := Lib.hid (keep_blk hb HBC1.out)
 have HBL2 := Lib.hid (keep_blk hb HBL1.out)
 clear HS1 HBC1 HBL1
 clear hb
 refine tkL (.bool true) (h := ?_)
 (try simp only [Act.put, sA, sB, sC])
 refine tkL (.pointer (some ⟨bL, 5, none⟩)) (h := ?_)
 (try simp only [Act.put, sA, sB, sC])
 refine wpList_q (by rfl) (.int .i64 l.ca) ?he ?_
 case he => exact exec_cell 3 _ _ HBL2.out rfl rfl rfl Try.underlying3 rfl
 (try simp only [Act.put, sA, sB, sC])
 refine wpList_q (by rfl) (.bool true) ?he ?_
 case he => (have q0 := H0.out; go_simp; (first | done | rfl | omega))
 (try simp only [Act.put, sA, sB, sC])
 refine tkL (.bool true) (h := ?_)
 (try simp only [Act.put, sA, sB, sC])
 refine tkL (.bool true) (h := ?_)
 (try simp only [Act.put, sA, sB, sC])
 refine tkL (.pointer (some ⟨bL, 5, none⟩)) (h := ?_)
 (try simp only [Act.put, sA, sB, sC])
 refine wpList_q (by rfl) (.int .i64 l.ca) ?he ?_
 case he => exact exec_cell 3 _ _ HBL2.out rfl rfl rfl Try.underlying3 rfl
 (try simp only [Act.put, sA, sB, sC])
 refine wpList_q (by rfl) (.bool true) ?he ?_
 case he => (have q0 := H1.out; go_simp; (first | done | rfl | omega))
 (try simp only [Act.put, sA, sB, sC])
 refine tkL (.bool true) (h := ?_)
 (try simp only [Act.put, sA, sB, sC])
 refine tkL (.bool true) (h := ?_)
 (try simp only [Act.put, sA, sB, sC])
 refine tkL (.pointer (some ⟨bL, 6, none⟩)) (h := ?_)
 (try simp only [Act.put, sA, sB, sC])
 refine wpList_q (by rfl) (.int .i64 l.ph) ?he ?_
 case he => exact exec_cell 3 _ _ HBL2.out rfl rfl rfl Try.underlying3 rfl
 (try simp only [Act.put, sA, sB, sC])
 refine wpList_q (by rfl) (.bool true) ?he ?_
 case he => (have q0 := H2.out; go_simp; (first | done | rfl | omega))
 (try simp only [Act.put, sA, sB, sC])
 refine tkL (.bool true) (h := ?_)
 (try simp only [Act.put, sA, sB, sC])
 refine tkL (.bool true) (h := ?_)
 (try simp only [Act.put, sA, sB, sC])
 refine tkL (.pointer (some ⟨bL, 6, none⟩)) (h := ?_)
 (try simp only [Act.put, sA, sB, sC])
 refine wpList_q (by rfl) (.int .i64 l.ph) ?he ?_
 case he => exact exec_cell 3 _ _ HBL2.out rfl rfl rfl Try.underlying3 rfl
 (try simp only [Act.put, sA, sB, sC])
 refine wpList_q (by rfl) (.bool false) ?he ?_
 case he => (have q0 := H3.out; go_simp; (first | done | rfl | omega))
 (try simp only [Act.put, sA, sB, sC])
 refine tkL (.bool false) (h := ?_)
 (try simp only [Act.put, sA, sB, sC])
 refine tkL (.bool false) (h := ?_)
 (try simp only [Act.put, sA, sB, sC])
 refine wpList_nil ?_
 (try go_wp2_with fail)
 go_ret
 exact ⟨rfl, HS2.out⟩
set_option maxHeartbeats 4000000 in
theorem lg4 (c : CfgV) (l : LeaseV) (w : World) (hm : mayB c (askOf l) = true) (h0 : 0 ≤ l.ca) (h1 : l.ca < 8) (h2 : 1 ≤ l.ph) (h3 : l.ph ≤ 4) : Calls Try.prog 34 #[.agg #[.int .i64 c.ca, .int .i64 c.fl, .int .i64 c.ft, .int .i64 c.se, .int .i64 c.dr, .int .i64 c.dw, .int .i64 c.ho, .int .i64 c.re, .int .i64 c.yi, .int .i64 c.qu, .int .i64 c.qo, .int .i64 c.lo, .int .i64 c.sl, .int .i64 c.rt, .int .i64 c.cp, .int .i64 c.tr, .int .i64 c.de, .int .i64 c.wi], .agg #[.int .i64 l.se, .int .i64 l.fl, .int .i64 l.fm, .int .i64 l.to, .int .i64 l.ma, .int .i64 l.ca, .int .i64 l.ph, .int .i64 l.un, .int .i64 l.re, .int .i64 l.gr]] w fun e w' => e = .returned (.bool true) ∧ Since w w' := by
 have HM := Lib.hid hm
 clear hm
 have H0 := Lib.hid h0
 clear h0
 have H1 := Lib.hid h1
 clear h1
 have H2 := Lib.hid h2
 clear h2
 have H3 := Lib.hid h3
 clear h3
 go_enter Try.func34, Try.ntmps34
 go_upto_region 1 with fail
 obtain ⟨w1, hw1⟩ : ∃ w1, w1 = ((w.alloc (.cells #[.int .i64 c.ca, .int .i64 c.fl, .int .i64 c.ft, .int .i64 c.se, .int .i64 c.dr, .int .i64 c.dw, .int .i64 c.ho, .int .i64 c.re, .int .i64 c.yi, .int .i64 c.qu, .int .i64 c.qo, .int .i64 c.lo, .int .i64 c.sl, .int .i64 c.rt, .int .i64 c.cp, .int .i64 c.tr, .int .i64 c.de, .int .i64 c.wi] 23)).alloc (.cells #[.int .i64 l.se, .int .i64 l.fl, .int .i64 l.fm, .int .i64 l.to, .int .i64 l.ma, .int .i64 l.ca, .int .i64 l.ph, .int .i64 l.un, .int .i64 l.re, .int .i64 l.gr] 56)) := ⟨_, rfl⟩
 rw [← hw1]
 have HBC1 := Lib.hid (show Blk w1 (w.heap.size) 23 #[.int .i64 c.ca, .int .i64 c.fl, .int .i64 c.ft, .int .i64 c.se, .int .i64 c.dr, .int .i64 c.dw, .int .i64 c.ho, .int .i64 c.re, .int .i64 c.yi, .int .i64 c.qu, .int .i64 c.qo, .int .i64 c.lo, .int .i64 c.sl, .int .i64 c.rt, .int .i64 c.cp, .int .i64 c.tr, .int .i64 c.de, .int .i64 c.wi] by rw [hw1]; exact Blk.alloc (Blk.at_ (by (try simp only [size_alloc])) _ _) _)
 have HBL1 := Lib.hid (show Blk w1 (w.heap.size + 1) 56 #[.int .i64 l.se, .int .i64 l.fl, .int .i64 l.fm, .int .i64 l.to, .int .i64 l.ma, .int .i64 l.ca, .int .i64 l.ph, .int .i64 l.un, .int .i64 l.re, .int .i64 l.gr] by rw [hw1]; exact Blk.at_ (by (try simp only [size_alloc])) _ _)
 have HS1 := Lib.hid (show Since w w1 by rw [hw1]; exact Since.alloc (Since.alloc (Since.refl w) _) _)
 have hNE : w.heap.size ≤ w.heap.size ∧ w.heap.size < w.heap.size + 1 := by omega
 have HNE := Lib.hid hNE
 clear hNE hw1
 generalize w.heap.size + 1 = bL at *
 have HNE3 := Lib.hid (show w.heap.size ≤ w.heap.size ∧ w.heap.size < bL from HNE.out)
 clear HNE
 refine wp_region_lit ?_
 refine wpList_q (by rfl) (.agg #[.int .i64 c.ca, .int .i64 c.fl, .int .i64 c.ft, .int .i64 c.se, .int .i64 c.dr, .int .i64 c.dw, .int .i64 c.ho, .int .i64 c.re, .int .i64 c.yi, .int .i64 c.qu, .int .i64 c.qo, .int .i64 c.lo, .int .i64 c.sl, .int .i64 c.rt, .int .i64 c.cp, .int .i64 c.tr, .int .i64 c.de, .int .i64 c.wi]) ?he ?_
 case he => exact exec_load_row 23 _ _ HBC1.out rfl rfl Try.underlying23 rfl (by kernel_rfl)
 (try simp only [Act.put, sA, sB, sC])
 refine tkL (.pointer (some ⟨bL, 0, none⟩)) (h := ?_)
 (try simp only [Act.put, sA, sB, sC])
 refine wpList_q (by rfl) (.agg #[.int .i64 l.se, .int .i64 l.fl, .int .i64 l.fm, .int .i64 l.to, .int .i64 l.ma]) ?he ?_
 case he => exact exec_part (n := 5) 30 _ _ HBL1.out rfl rfl rfl rfl Try.underlying30 rfl (by kernel_rfl)
 (try simp only [Act.put, sA, sB, sC])
 refine wpList_wp (by rfl) (fun K hK => ?_)
 (try go_simp)
 refine (mayRV c l true _ HM.out).mono ?_
 rintro e w2 ⟨rfl, hb⟩
 (try go_wp2_with fail)
 refine hK.out _ _ ?_
 clear hK K
 (try simp only [Act.put, sA, sB, sC])
 have HS2 := Lib.hid (Since.trans HS1.out hb)
 have HBC2 := Lib.hid (keep_blk hb HBC1.out)
 have HBL2 := Lib.hid (keep_blk hb HBL1.out)
 clear HS1 HBC1 HBL1
 clear hb
 refine tkL (.bool true) (h := ?_)
 (try simp only [Act.put, sA, sB, sC])
 refine tkL (.pointer (some ⟨bL, 5, none⟩)) (h := ?_)
 (try simp only [Act.put, sA, sB, sC])
 refine wpList_q (by rfl) (.int .i64 l.ca) ?he ?_
 case he => exact exec_cell 3 _ _ HBL2.out rfl rfl rfl Try.underlying3 rfl
 (try simp only [Act.put, sA, sB, sC])
 refine wpList_q (by rfl) (.bool true) ?he ?_
 case he => (have q0 := H0.out; go_simp; (first | done | rfl | omega))
 (try simp only [Act.put, sA, sB, sC])
 refine tkL (.bool true) (h := ?_)
 (try simp only [Act.put, sA, sB, sC])
 refine tkL (.bool true) (h := ?_)
 (try simp only [Act.put, sA, sB, sC])
 refine tkL (.pointer (some ⟨bL, 5, none⟩)) (h := ?_)
 (try simp only [Act.put, sA, sB, sC])
 refine wpList_q (by rfl) (.int .i64 l.ca) ?he ?_
 case he => exact exec_cell 3 _ _ HBL2.out rfl rfl rfl Try.underlying3 rfl
 (try simp only [Act.put, sA, sB, sC])
 refine wpList_q (by rfl) (.bool true) ?he ?_
 case he => (have q0 := H1.out; go_simp; (first | done | rfl | omega))
 (try simp only [Act.put, sA, sB, sC])
 refine tkL (.bool true) (h := ?_)
 (try simp only [Act.put, sA, sB, sC])
 refine tkL (.bool true) (h := ?_)
 (try simp only [Act.put, sA, sB, sC])
 refine tkL (.pointer (some ⟨bL, 6, none⟩)) (h := ?_)
 (try simp only [Act.put, sA, sB, sC])
 refine wpList_q (by rfl) (.int .i64 l.ph) ?he ?_
 case he => exact exec_cell 3 _ _ HBL2.out rfl rfl rfl Try.underlying3 rfl
 (try simp only [Act.put, sA, sB, sC])
 refine wpList_q (by rfl) (.bool true) ?he ?_
 case he => (have q0 := H2.out; go_simp; (first | done | rfl | omega))
 (try simp only [Act.put, sA, sB, sC])
 refine tkL (.bool true) (h := ?_)
 (try simp only [Act.put, sA, sB, sC])
 refine tkL (.bool true) (h := ?_)
 (try simp only [Act.put, sA, sB, sC])
 refine tkL (.pointer (some ⟨bL, 6, none⟩)) (h := ?_)
 (try simp only [Act.put, sA, sB, sC])
 refine wpList_q (by rfl) (.int .i64 l.ph) ?he ?_
 case he => exact exec_cell 3 _ _ HBL2.out rfl rfl rfl Try.underlying3 rfl
 (try simp only [Act.put, sA, sB, sC])
 refine wpList_q (by rfl) (.bool true) ?he ?_
 case he => (have q0 := H3.out; go_simp; (first | done | rfl | omega))
 (try simp only [Act.put, sA, sB, sC])
 refine tkL (.bool true) (h := ?_)
 (try simp only [Act.put, sA, sB, sC])
 refine tkL (.bool true) (h := ?_)
 (try simp only [Act.put, sA, sB, sC])
 refine wpList_nil ?_
 (try go_wp2_with fail)
 go_ret
 exact ⟨rfl, HS2.out⟩
theorem lgV (c : CfgV) (l : LeaseV) (b : Bool) (w : World) (hb : goodB c l = b) : Calls Try.prog 34 #[.agg #[.int .i64 c.ca, .int .i64 c.fl, .int .i64 c.ft, .int .i64 c.se, .int .i64 c.dr, .int .i64 c.dw, .int .i64 c.ho, .int .i64 c.re, .int .i64 c.yi, .int .i64 c.qu, .int .i64 c.qo, .int .i64 c.lo, .int .i64 c.sl, .int .i64 c.rt, .int .i64 c.cp, .int .i64 c.tr, .int .i64 c.de, .int .i64 c.wi], .agg #[.int .i64 l.se, .int .i64 l.fl, .int .i64 l.fm, .int .i64 l.to, .int .i64 l.ma, .int .i64 l.ca, .int .i64 l.ph, .int .i64 l.un, .int .i64 l.re, .int .i64 l.gr]] w fun e w' => e = .returned (.bool b) ∧ Since w w' := by
  subst hb
  cases hm : mayB c (askOf l)
  · rw [show goodB c l = false by simp [goodB, hm]]; exact lgM c l w hm
  · by_cases h0 : 0 ≤ l.ca
    · by_cases h1 : l.ca < 8
      · by_cases h2 : 1 ≤ l.ph
        · by_cases h3 : l.ph ≤ 4
          · rw [show goodB c l = true by simp [goodB, hm, h0, h1, h2, h3]]; exact lg4 c l w hm h0 h1 h2 h3
          · rw [show goodB c l = false by simp [goodB, h3]]; exact lg3 c l w hm h0 h1 h2 h3
        · rw [show goodB c l = false by simp [goodB, h2]]; exact lg2 c l w hm h0 h1 h2
      · rw [show goodB c l = false by simp [goodB, h1]]; exact lg1 c l w hm h0 h1
    · rw [show goodB c l = false by simp [goodB, h0]]; exact lg0 c l w hm h0
set_option maxHeartbeats 4000000 in
theorem sameL (la lb : Nat) (A B : Option Addr) (ca cb : Nat) (ls : List LeaseV) (w : World) (hl : ls.length ≤ 10000) (ha : w.ownsRow la 56 10 (.slice A ls.length ca) ls.length (rowsOf leaC ls)) (hb : w.ownsRow lb 56 10 (.slice B ls.length cb) ls.length (rowsOf leaC ls)) : Calls Try.prog 38 #[.slice A ls.length ca, .slice B ls.length cb] w fun e w' => e = .returned (.bool true) ∧ Since w w' := by
 have HL := Lib.hid hl
 clear hl
 have HA := Lib.hid ha
 clear ha
 have HBR := Lib.hid hb
 clear hb
 go_enter Try.func38, Try.ntmps38
 go_upto_region 1 with fail
 have HS1 := Lib.hid (Since.refl w)
 refine wp_region_lit ?_
 refine tkL (.slice A ls.length ca) (h := ?_)
 (try simp only [Act.put, sA, sB, sC])
 refine tkL (.int .i64 (ls.length : Int)) (h := ?_)
 (try simp only [Act.put, sA, sB, sC])
 refine tkL (.slice B ls.length cb) (h := ?_)
 (try simp only [Act.put, sA, sB, sC])
 refine tkL (.int .i64 (ls.length : Int)) (h := ?_)
 (try simp only [Act.put, sA, sB, sC])
 refine wpList_q (by rfl) (.bool false) ?he ?_
 case he => (go_simp; (try with_reducible rfl))
 (try simp only [Act.put, sA, sB, sC])
 refine wpList_nil ?_
 go_upto_region 3 with fail
 refine wp_region_lit ?_
 refine tkL (.int .i64 0) (h := ?_)
 (try simp only [Act.put, sA, sB, sC])
 refine wpList_nil ?_
 go_wp2_with fail
 refine wp_uloop (ds := []) (fun n fr wr => ∃ k : Nat, (ls.length - k) = n ∧ Fits fr 26 [(0, .slice A ls.length ca), (1, .slice B ls.length cb), (4, .bool false), (5, .int .i64 (k : Int))] ∧ Hid (k ≤ ls.length ∧ Since w wr ∧ (wr).ownsRow la 56 10 (.slice A ls.length ca) ls.length (rowsOf leaC ls) ∧ (wr).ownsRow lb 56 10 (.slice B ls.length cb) ls.length (rowsOf leaC ls))) (ls.length - 0) ?start1 ?round1
 case start1 => exact ⟨0, rfl, ⟨rfl, rfl, rfl, rfl, rfl, trivial⟩, Lib.hid ⟨Nat.zero_le _, HS1.out, HA.out, HBR.out⟩⟩
 case round1 =>
  intro n fr wr hR J1 K1 hJ1 hK1
  clear HS1 HA HBR
  obtain ⟨k, hn, hF, HO⟩ := hR
  have HM := Lib.hid hn; clear hn
  obtain ⟨e0, g0, g1, g2⟩ := HO.out
  clear HO
  have HK := Lib.hid e0
  have HS51 := Lib.hid g0
  have HFa51 := Lib.hid g1
  have HFb51 := Lib.hid g2
  clear e0 g0 g1 g2
  obtain ⟨u, hu⟩ := hF.open_
  have hu2 := hu.trans (show _ = #[.slice A ls.length ca, .slice B ls.length cb, u 2, u 3, .bool false, .int .i64 (k : Int), u 6, u 7, u 8, u 9, u 10, u 11, u 12, u 13, u 14, u 15, u 16, u 17, u 18, u 19, u 20, u 21, u 22, u 23, u 24, u 25] by kernel_rfl)
  clear hu hF
  subst hu2
  by_cases hcs : k < ls.length
  rotate_left
  · have HKL := Lib.hid hcs; clear hcs
    go_upto_region 4 with fail
    refine wp_region_lit ?_
    refine tkL (.int .i64 (k : Int)) (h := ?_)
    (try simp only [Act.put, sA, sB, sC])
    refine tkL (.slice A ls.length ca) (h := ?_)
    (try simp only [Act.put, sA, sB, sC])
    refine tkL (.int .i64 (ls.length : Int)) (h := ?_)
    (try simp only [Act.put, sA, sB, sC])
    refine wpList_q (by rfl) (.bool false) ?he ?_
    case he => (have q0 := HKL.out; go_simp; (first | done | rfl | omega))
    (try simp only [Act.put, sA, sB, sC])
    refine wpList_nil ?_
    go_upto_region 8 with fail
    refine wp_region_lit ?_
    refine tkL (.bool true) (h := ?_)
    (try simp only [Act.put, sA, sB, sC])
    refine wpList_nil ?_
    (try go_wp2_with fail)
    go_ret
    exact ⟨rfl, HS51.out⟩
  · have HKL := Lib.hid hcs; clear hcs
    go_upto_region 4 with fail
    refine wp_region_lit ?_
    refine tkL (.int .i64 (k : Int)) (h := ?_)
    (try simp only [Act.put, sA, sB, sC])
    refine tkL (.slice A ls.length ca) (h := ?_)
    (try simp only [Act.put, sA, sB, sC])
    refine tkL (.int .i64 (ls.length : Int)) (h := ?_)
    (try simp only [Act.put, sA, sB, sC])
    refine wpList_q (by rfl) (.bool true) ?he ?_
    case he => (have q0 := HKL.out; go_simp; (first | done | rfl | omega))
    (try simp only [Act.put, sA, sB, sC])
    refine wpList_nil ?_
    obtain ⟨x, hx⟩ : ∃ x, ls[k]? = some x := ⟨_, List.getElem?_eq_getElem HKL.out⟩
    have HX := Lib.hid hx; clear hx
    obtain ⟨ga, hga⟩ := own_addr HFa51.out (show 0 < ls.length by have := HKL.out; omega)
    subst hga
    obtain ⟨gb, hgb⟩ := own_addr HFb51.out (show 0 < ls.length by have := HKL.out; omega)
    subst hgb
    go_upto_region 6 with fail
    have HKS : Hid (KeepS (fun W : World => Since w W ∧ (W).ownsRow la 56 10 (.slice (some ⟨ga, 0, none⟩) ls.length ca) ls.length (rowsOf leaC ls) ∧ (W).ownsRow lb 56 10 (.slice (some ⟨gb, 0, none⟩) ls.length cb) ls.length (rowsOf leaC ls)) wr) := Lib.hid ⟨fun W W' k ⟨h, h0, h1⟩ => ⟨h.trans k, keep_own k h0, keep_own k h1⟩, ⟨HS51.out, HFa51.out, HFb51.out⟩⟩
    have HRK := Lib.hid HKS.out.1
    refine wp_held HKS.out (by kernel_rfl) (fun hHeld => ?_)
    refine tkQ 0 (.slice (some ⟨ga, 0, none⟩) ls.length ca) hHeld (h := ?_)
    (try simp only [Act.put, sA, sB, sC])
    refine tkQ 1 (.int .i64 (k : Int)) hHeld (h := ?_)
    (try simp only [Act.put, sA, sB, sC])
    refine tkQ 2 (.pointer (some ⟨ga, 0 + k * 10, none⟩)) hHeld (he := by intro w hSw; exact exec_index (i := k) (s := 10) 24 56 _ _ rfl rfl rfl rfl HKL.out Try.underlying24 (by kernel_rfl)) (h := ?_)
    (try simp only [Act.put, sA, sB, sC])
    refine tkQ 3 (.agg #[.int .i64 x.se, .int .i64 x.fl, .int .i64 x.fm, .int .i64 x.to, .int .i64 x.ma, .int .i64 x.ca, .int .i64 x.ph, .int .i64 x.un, .int .i64 x.re, .int .i64 x.gr]) hHeld (he := by intro w hSw; exact exec_rng (l := leaC x) 56 _ _ (row_l hSw.2.1 HX.out) rfl rfl Try.underlying56 rfl (by kernel_rfl)) (h := ?_)
    (try simp only [Act.put, sA, sB, sC])
    refine tkQ 4 (.slice (some ⟨gb, 0, none⟩) ls.length cb) hHeld (h := ?_)
    (try simp only [Act.put, sA, sB, sC])
    refine tkQ 5 (.int .i64 (k : Int)) hHeld (h := ?_)
    (try simp only [Act.put, sA, sB, sC])
    refine tkQ 6 (.pointer (some ⟨gb, 0 + k * 10, none⟩)) hHeld (he := by intro w hSw; exact exec_index (i := k) (s := 10) 24 56 _ _ rfl rfl rfl rfl HKL.out Try.underlying24 (by kernel_rfl)) (h := ?_)
    (try simp only [Act.put, sA, sB, sC])
    refine tkQ 7 (.agg #[.int .i64 x.se, .int .i64 x.fl, .int .i64 x.fm, .int .i64 x.to, .int .i64 x.ma, .int .i64 x.ca, .int .i64 x.ph, .int .i64 x.un, .int .i64 x.re, .int .i64 x.gr]) hHeld (he := by intro w hSw; exact exec_rng (l := leaC x) 56 _ _ (row_l hSw.2.2 HX.out) rfl rfl Try.underlying56 rfl (by kernel_rfl)) (h := ?_)
    (try simp only [Act.put, sA, sB, sC])
    refine tkQ 8 (.bool false) hHeld (he := by intro w hSw; (go_simp; (try with_reducible rfl))) (h := ?_)
    (try simp only [Act.put, sA, sB, sC])
    refine wpAnyH_done (by kernel_rfl) ?_ _
    have HSd6 := Lib.hid hHeld.1
    have HFad6 := Lib.hid (hHeld.2.1)
    have HFbd6 := Lib.hid (hHeld.2.2)
    clear hHeld HRK HKS HS51 HFa51 HFb51
    go_upto_region 5 with fail
    refine wp_region_lit ?_
    refine tkL (.int .i64 (k : Int)) (h := ?_)
    (try simp only [Act.put, sA, sB, sC])
    refine wpList_q (by rfl) (.int .i64 ((k : Int) + 1)) ?he ?_
    case he => (go_simp; (first | done | (refine wr64 _ ?_ ?_ <;> (have q0 := HKL.out; have q1 := HL.out; omega)) | (have q0 := HKL.out; have q1 := HL.out; omega) | (have q0 := HKL.out; have q1 := HL.out; split <;> omega) | (have q0 := HKL.out; have q1 := HL.out; intro hh; omega)))
    (try simp only [Act.put, sA, sB, sC])
    refine tkL (.int .i64 ((k : Int) + 1)) (h := ?_)
    (try simp only [Act.put, sA, sB, sC])
    refine wpList_nil ?_
    go_wp2_with fail
    refine Met.intro ?_
    refine hJ1 _ _ _ ?less51 ⟨(k + 1), rfl, ⟨rfl, rfl, rfl, rfl, rfl, trivial⟩, Lib.hid ⟨by have := HKL.out; omega, HSd6.out, HFad6.out, HFbd6.out⟩⟩
    case less51 => exact (by have := HM.out; have := HKL.out; omega)
end Go.Proofs.Ytggafipgfgbbiaa.Le
