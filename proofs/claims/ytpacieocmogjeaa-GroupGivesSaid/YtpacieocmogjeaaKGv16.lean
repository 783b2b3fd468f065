/-
  What is wanted by the last of these texts, part 16.
  No condition.
-/
import Derived.Test.YtpacieocmogjeaaProg
import Derived.Test.YtpacieocmogjeaaKGv0
import Derived.Test.YtpacieocmogjeaaKGv15
import Derived.Test.YtpacieocmogjeaaKGv13
import Derived.Test.YtpacieocmogjeaaKGv11
namespace Go.Proofs.Ytpacieocmogjeaa.Gr
set_option linter.unusedVariables false
set_option linter.unusedSimpArgs false
open Go.RowKit Go.Proofs.Ytpacieocmogjeaa.Ba Go.Proofs.Ytpacieocmogjeaa.Mem Go.Proofs.Ytpacieocmogjeaa.Ty Go.Proofs.Ytpacieocmogjeaa.Mo Go.Proofs.Ytpacieocmogjeaa.St Go.Proofs.Ytpacieocmogjeaa.Sc Go.Proofs.Ytpacieocmogjeaa.Pl
open Go.Proofs.Ytpacieocmogjeaa.Ct (cfgA carA m1 dwV bdX tkV tkF tkW tkS tickT)
set_option maxRecDepth 100000
attribute [local irreducible] Go.wpList
set_option maxHeartbeats 4000000 in
theorem idl1 (x : CarV) (w : World) (hmo : ¬ x.mo = 0) : Calls Try.prog 65 #[.agg (carA x)] w fun e w' => e = .returned (.bool false) ∧ Since w w' := by
 have HMO := Lib.hid hmo
 clear hmo
 go_enter Try.func65, Try.ntmps65
 go_upto_region 1 with fail
 obtain ⟨w1, hw1⟩ : ∃ w1, w1 = (w.alloc (.cells (carA x) 30)) := ⟨_, rfl⟩
 rw [← hw1]
 have HBX1 := Lib.hid (show Blk w1 (w.heap.size) 30 (carA x) by rw [hw1]; exact Blk.at_ (by (try simp only [size_alloc])) _ _)
 have HS1 := Lib.hid (show Since w w1 by rw [hw1]; exact Since.alloc (Since.refl w) _)
 have hNE : w.heap.size ≤ w.heap.size := by omega
 have HNE := Lib.hid hNE
 clear hNE hw1
 have HNE3 := Lib.hid (show w.heap.size ≤ w.heap.size from HNE.out)
 clear HNE
 refine wp_region_lit ?_
 refine tkL (.pointer (some ⟨w.heap.size, 2, none⟩)) (h := ?_)
 (try simp only [Act.put, sA, sB, sC])
 refine wpList_q (by rfl) (.int .i64 x.un) ?he ?_
 case he => exact exec_cell 3 _ _ HBX1.out rfl rfl rfl Try.underlying3 rfl
 (try simp only [Act.put, sA, sB, sC])
 refine wpList_wp (by rfl) (fun K hK => ?_)
 (try go_simp)
 refine (levelT _ _).mono ?_
 rintro e w' ⟨rfl, rfl⟩
 (try go_wp2_with fail)
 refine hK.out _ _ ?_
 clear hK K
 (try simp only [Act.put, sA, sB, sC])
 refine tkL (.tuple #[.int .i64 (lvN x.un), .bool (lvB x.un)]) (h := ?_)
 (try simp only [Act.put, sA, sB, sC])
 refine tkL (.int .i64 (lvN x.un)) (h := ?_)
 (try simp only [Act.put, sA, sB, sC])
 refine tkL (.bool (lvB x.un)) (h := ?_)
 (try simp only [Act.put, sA, sB, sC])
 refine tkL (.int .i64 (lvN x.un)) (h := ?_)
 (try simp only [Act.put, sA, sB, sC])
 refine tkL (.bool (lvB x.un)) (h := ?_)
 (try simp only [Act.put, sA, sB, sC])
 refine wpList_nil ?_
 go_upto_region 2 with fail
 refine wp_region_lit ?_
 refine tkL (.pointer (some ⟨w.heap.size, 9, none⟩)) (h := ?_)
 (try simp only [Act.put, sA, sB, sC])
 refine wpList_q (by rfl) (.int .i64 x.mo) ?he ?_
 case he => exact exec_cell 3 _ _ HBX1.out rfl rfl rfl Try.underlying3 rfl
 (try simp only [Act.put, sA, sB, sC])
 refine wpList_q (by rfl) (.bool false) ?he ?_
 case he => (have q := HMO.out; go_simp; (first | done | exact q | (simp [q]; done) | omega))
 (try simp only [Act.put, sA, sB, sC])
 refine tkL (.bool false) (h := ?_)
 (try simp only [Act.put, sA, sB, sC])
 refine wpList_no (by rfl) ?_
 (try simp only [Act.put, sA, sB, sC])
 refine wpList_no (by rfl) ?_
 (try simp only [Act.put, sA, sB, sC])
 refine wpList_no (by rfl) ?_
 (try simp only [Act.put, sA, sB, sC])
 refine tkL (.bool false) (h := ?_)
 (try simp only [Act.put, sA, sB, sC])
 refine tkL (.bool false) (h := ?_)
 (try simp only [Act.put, sA, sB, sC])
 refine wpList_no (by rfl) ?_
 (try simp only [Act.put, sA, sB, sC])
 refine tkL (.bool false) (h := ?_)
 (try simp only [Act.put, sA, sB, sC])
 refine tkL (.bool false) (h := ?_)
 (try simp only [Act.put, sA, sB, sC])
 refine wpList_no (by rfl) ?_
 (try simp only [Act.put, sA, sB, sC])
 refine wpList_no (by rfl) ?_
 (try simp only [Act.put, sA, sB, sC])
 refine wpList_no (by rfl) ?_
 (try simp only [Act.put, sA, sB, sC])
 refine wpList_no (by rfl) ?_
 (try simp only [Act.put, sA, sB, sC])
 refine tkL (.bool false) (h := ?_)
 (try simp only [Act.put, sA, sB, sC])
 refine tkL (.bool false) (h := ?_)
 (try simp only [Act.put, sA, sB, sC])
 refine wpList_no (by rfl) ?_
 (try simp only [Act.put, sA, sB, sC])
 refine wpList_no (by rfl) ?_
 (try simp only [Act.put, sA, sB, sC])
 refine wpList_no (by rfl) ?_
 (try simp only [Act.put, sA, sB, sC])
 refine tkL (.bool false) (h := ?_)
 (try simp only [Act.put, sA, sB, sC])
 refine tkL (.bool false) (h := ?_)
 (try simp only [Act.put, sA, sB, sC])
 refine wpList_no (by rfl) ?_
 (try simp only [Act.put, sA, sB, sC])
 refine wpList_no (by rfl) ?_
 (try simp only [Act.put, sA, sB, sC])
 refine wpList_no (by rfl) ?_
 (try simp only [Act.put, sA, sB, sC])
 refine wpList_no (by rfl) ?_
 (try simp only [Act.put, sA, sB, sC])
 refine tkL (.bool false) (h := ?_)
 (try simp only [Act.put, sA, sB, sC])
 refine tkL (.bool false) (h := ?_)
 (try simp only [Act.put, sA, sB, sC])
 refine wpList_nil ?_
 (try go_wp2_with fail)
 go_ret
 exact ⟨rfl, HS1.out⟩
set_option maxHeartbeats 4000000 in
theorem idl2 (x : CarV) (w : World) (hmo : x.mo = 0) (hbr : x.br = true) : Calls Try.prog 65 #[.agg (carA x)] w fun e w' => e = .returned (.bool false) ∧ Since w w' := by
 have HMO := Lib.hid hmo
 clear hmo
 have HBR := Lib.hid hbr
 clear hbr
 go_enter Try.func65, Try.ntmps65
 go_upto_region 1 with fail
 obtain ⟨w1, hw1⟩ : ∃ w1, w1 = (w.alloc (.cells (carA x) 30)) := ⟨_, rfl⟩
 rw [← hw1]
 have HBX1 := Lib.hid (show Blk w1 (w.heap.size) 30 (carA x) by rw [hw1]; exact Blk.at_ (by (try simp only [size_alloc])) _ _)
 have HS1 := Lib.hid (show Since w w1 by rw [hw1]; exact Since.alloc (Since.refl w) _)
 have hNE : w.heap.size ≤ w.heap.size := by omega
 have HNE := Lib.hid hNE
 clear hNE hw1
 have HNE3 := Lib.hid (show w.heap.size ≤ w.heap.size from HNE.out)
 clear HNE
 refine wp_region_lit ?_
 refine tkL (.pointer (some ⟨w.heap.size, 2, none⟩)) (h := ?_)
 (try simp only [Act.put, sA, sB, sC])
 refine wpList_q (by rfl) (.int .i64 x.un) ?he ?_
 case he => exact exec_cell 3 _ _ HBX1.out rfl rfl rfl Try.underlying3 rfl
 (try simp only [Act.put, sA, sB, sC])
 refine wpList_wp (by rfl) (fun K hK => ?_)
 (try go_simp)
 refine (levelT _ _).mono ?_
 rintro e w' ⟨rfl, rfl⟩
 (try go_wp2_with fail)
 refine hK.out _ _ ?_
 clear hK K
 (try simp only [Act.put, sA, sB, sC])
 refine tkL (.tuple #[.int .i64 (lvN x.un), .bool (lvB x.un)]) (h := ?_)
 (try simp only [Act.put, sA, sB, sC])
 refine tkL (.int .i64 (lvN x.un)) (h := ?_)
 (try simp only [Act.put, sA, sB, sC])
 refine tkL (.bool (lvB x.un)) (h := ?_)
 (try simp only [Act.put, sA, sB, sC])
 refine tkL (.int .i64 (lvN x.un)) (h := ?_)
 (try simp only [Act.put, sA, sB, sC])
 refine tkL (.bool (lvB x.un)) (h := ?_)
 (try simp only [Act.put, sA, sB, sC])
 refine wpList_nil ?_
 go_upto_region 2 with fail
 refine wp_region_lit ?_
 refine tkL (.pointer (some ⟨w.heap.size, 9, none⟩)) (h := ?_)
 (try simp only [Act.put, sA, sB, sC])
 refine wpList_q (by rfl) (.int .i64 x.mo) ?he ?_
 case he => exact exec_cell 3 _ _ HBX1.out rfl rfl rfl Try.underlying3 rfl
 (try simp only [Act.put, sA, sB, sC])
 refine wpList_q (by rfl) (.bool true) ?he ?_
 case he => (have q := HMO.out; go_simp; (first | done | exact q | (simp [q]; done) | omega))
 (try simp only [Act.put, sA, sB, sC])
 refine tkL (.bool true) (h := ?_)
 (try simp only [Act.put, sA, sB, sC])
 refine tkL (.pointer (some ⟨w.heap.size, 8, none⟩)) (h := ?_)
 (try simp only [Act.put, sA, sB, sC])
 refine wpList_q (by rfl) (.bool x.br) ?he ?_
 case he => exact exec_cell 4 _ _ HBX1.out rfl rfl rfl Try.underlying4 rfl
 (try simp only [Act.put, sA, sB, sC])
 refine wpList_q (by rfl) (.bool false) ?he ?_
 case he => (have q := HBR.out; go_simp; (first | done | exact q | (simp [q]; done)))
 (try simp only [Act.put, sA, sB, sC])
 refine tkL (.bool false) (h := ?_)
 (try simp only [Act.put, sA, sB, sC])
 refine tkL (.bool false) (h := ?_)
 (try simp only [Act.put, sA, sB, sC])
 refine wpList_no (by rfl) ?_
 (try simp only [Act.put, sA, sB, sC])
 refine tkL (.bool false) (h := ?_)
 (try simp only [Act.put, sA, sB, sC])
 refine tkL (.bool false) (h := ?_)
 (try simp only [Act.put, sA, sB, sC])
 refine wpList_no (by rfl) ?_
 (try simp only [Act.put, sA, sB, sC])
 refine wpList_no (by rfl) ?_
 (try simp only [Act.put, sA, sB, sC])
 refine wpList_no (by rfl) ?_
 (try simp only [Act.put, sA, sB, sC])
 refine wpList_no (by rfl) ?_
 (try simp only [Act.put, sA, sB, sC])
 refine tkL (.bool false) (h := ?_)
 (try simp only [Act.put, sA, sB, sC])
 refine tkL (.bool false) (h := ?_)
 (try simp only [Act.put, sA, sB, sC])
 refine wpList_no (by rfl) ?_
 (try simp only [Act.put, sA, sB, sC])
 refine wpList_no (by rfl) ?_
 (try simp only [Act.put, sA, sB, sC])
 refine wpList_no (by rfl) ?_
 (try simp only [Act.put, sA, sB, sC])
 refine tkL (.bool false) (h := ?_)
 (try simp only [Act.put, sA, sB, sC])
 refine tkL (.bool false) (h := ?_)
 (try simp only [Act.put, sA, sB, sC])
 refine wpList_no (by rfl) ?_
 (try simp only [Act.put, sA, sB, sC])
 refine wpList_no (by rfl) ?_
 (try simp only [Act.put, sA, sB, sC])
 refine wpList_no (by rfl) ?_
 (try simp only [Act.put, sA, sB, sC])
 refine wpList_no (by rfl) ?_
 (try simp only [Act.put, sA, sB, sC])
 refine tkL (.bool false) (h := ?_)
 (try simp only [Act.put, sA, sB, sC])
 refine tkL (.bool false) (h := ?_)
 (try simp only [Act.put, sA, sB, sC])
 refine wpList_nil ?_
 (try go_wp2_with fail)
 go_ret
 exact ⟨rfl, HS1.out⟩
set_option maxHeartbeats 4000000 in
theorem idl3 (x : CarV) (w : World) (hmo : x.mo = 0) (hbr : x.br = false) (hl : lvB x.un = false) : Calls Try.prog 65 #[.agg (carA x)] w fun e w' => e = .returned (.bool false) ∧ Since w w' := by
 have HMO := Lib.hid hmo
 clear hmo
 have HBR := Lib.hid hbr
 clear hbr
 have HL := Lib.hid hl
 clear hl
 go_enter Try.func65, Try.ntmps65
 go_upto_region 1 with fail
 obtain ⟨w1, hw1⟩ : ∃ w1, w1 = (w.alloc (.cells (carA x) 30)) := ⟨_, rfl⟩
 rw [← hw1]
 have HBX1 := Lib.hid (show Blk w1 (w.heap.size) 30 (carA x) by rw [hw1]; exact Blk.at_ (by (try simp only [size_alloc])) _ _)
 have HS1 := Lib.hid (show Since w w1 by rw [hw1]; exact Since.alloc (Since.refl w) _)
 have hNE : w.heap.size ≤ w.heap.size := by omega
 have HNE := Lib.hid hNE
 clear hNE hw1
 have HNE3 := Lib.hid (show w.heap.size ≤ w.heap.size from HNE.out)
 clear HNE
 refine wp_region_lit ?_
 refine tkL (.pointer (some ⟨w.heap.size, 2, none⟩)) (h := ?_)
 (try simp only [Act.put, sA, sB, sC])
 refine wpList_q (by rfl) (.int .i64 x.un) ?he ?_
 case he => exact exec_cell 3 _ _ HBX1.out rfl rfl rfl Try.underlying3 rfl
 (try simp only [Act.put, sA, sB, sC])
 refine wpList_wp (by rfl) (fun K hK => ?_)
 (try go_simp)
 refine (levV x.un false HL.out _).mono ?_
 rintro e w' ⟨rfl, rfl⟩
 (try go_wp2_with fail)
 refine hK.out _ _ ?_
 clear hK K
 (try simp only [Act.put, sA, sB, sC])
 refine tkL (.tuple #[.int .i64 (lvN x.un), .bool false]) (h := ?_)
 (try simp only [Act.put, sA, sB, sC])
 refine tkL (.int .i64 (lvN x.un)) (h := ?_)
 (try simp only [Act.put, sA, sB, sC])
 refine tkL (.bool false) (h := ?_)
 (try simp only [Act.put, sA, sB, sC])
 refine tkL (.int .i64 (lvN x.un)) (h := ?_)
 (try simp only [Act.put, sA, sB, sC])
 refine tkL (.bool false) (h := ?_)
 (try simp only [Act.put, sA, sB, sC])
 refine wpList_nil ?_
 go_upto_region 2 with fail
 refine wp_region_lit ?_
 refine tkL (.pointer (some ⟨w.heap.size, 9, none⟩)) (h := ?_)
 (try simp only [Act.put, sA, sB, sC])
 refine wpList_q (by rfl) (.int .i64 x.mo) ?he ?_
 case he => exact exec_cell 3 _ _ HBX1.out rfl rfl rfl Try.underlying3 rfl
 (try simp only [Act.put, sA, sB, sC])
 refine wpList_q (by rfl) (.bool true) ?he ?_
 case he => (have q := HMO.out; go_simp; (first | done | exact q | (simp [q]; done) | omega))
 (try simp only [Act.put, sA, sB, sC])
 refine tkL (.bool true) (h := ?_)
 (try simp only [Act.put, sA, sB, sC])
 refine tkL (.pointer (some ⟨w.heap.size, 8, none⟩)) (h := ?_)
 (try simp only [Act.put, sA, sB, sC])
 refine wpList_q (by rfl) (.bool x.br) ?he ?_
 case he => exact exec_cell 4 _ _ HBX1.out rfl rfl rfl Try.underlying4 rfl
 (try simp only [Act.put, sA, sB, sC])
 refine wpList_q (by rfl) (.bool true) ?he ?_
 case he => (have q := HBR.out; go_simp; (first | done | exact q | (simp [q]; done)))
 (try simp only [Act.put, sA, sB, sC])
 refine tkL (.bool true) (h := ?_)
 (try simp only [Act.put, sA, sB, sC])
 refine tkL (.bool true) (h := ?_)
 (try simp only [Act.put, sA, sB, sC])
 refine tkL (.bool false) (h := ?_)
 (try simp only [Act.put, sA, sB, sC])
 refine tkL (.bool false) (h := ?_)
 (try simp only [Act.put, sA, sB, sC])
 refine tkL (.bool false) (h := ?_)
 (try simp only [Act.put, sA, sB, sC])
 refine wpList_no (by rfl) ?_
 (try simp only [Act.put, sA, sB, sC])
 refine wpList_no (by rfl) ?_
 (try simp only [Act.put, sA, sB, sC])
 refine wpList_no (by rfl) ?_
 (try simp only [Act.put, sA, sB, sC])
 refine wpList_no (by rfl) ?_
 (try simp only [Act.put, sA, sB, sC])
 refine tkL (.bool false) (h := ?_)
 (try simp only [Act.put, sA, sB, sC])
 refine tkL (.bool false) (h := ?_)
 (try simp only [Act.put, sA, sB, sC])
 refine wpList_no (by rfl) ?_
 (try simp only [Act.put, sA, sB, sC])
 refine wpList_no (by rfl) ?_
 (try simp only [Act.put, sA, sB, sC])
 refine wpList_no (by rfl) ?_
 (try simp only [Act.put, sA, sB, sC])
 refine tkL (.bool false) (h := ?_)
 (try simp only [Act.put, sA, sB, sC])
 refine tkL (.bool false) (h := ?_)
 (try simp only [Act.put, sA, sB, sC])
 refine wpList_no (by rfl) ?_
 (try simp only [Act.put, sA, sB, sC])
 refine wpList_no (by rfl) ?_
 (try simp only [Act.put, sA, sB, sC])
 refine wpList_no (by rfl) ?_
 (try simp only [Act.put, sA, sB, sC])
 refine wpList_no (by rfl) ?_
 (try simp only [Act.put, sA, sB, sC])
 refine tkL (.bool false) (h := ?_)
 (try simp only [Act.put, sA, sB, sC])
 refine tkL (.bool false) (h := ?_)
 (try simp only [Act.put, sA, sB, sC])
 refine wpList_nil ?_
 (try go_wp2_with fail)
 go_ret
 exact ⟨rfl, HS1.out⟩
set_option maxHeartbeats 4000000 in
theorem idl4 (x : CarV) (w : World) (hmo : x.mo = 0) (hbr : x.br = false) (hl : lvB x.un = true) (hds : ¬ x.ds = 0) : Calls Try.prog 65 #[.agg (carA x)] w fun e w' => e = .returned (.bool false) ∧ Since w w' := by
 have HMO := Lib.hid hmo
 clear hmo
 have HBR := Lib.hid hbr
 clear hbr
 have HL := Lib.hid hl
 clear hl
 have HDS := Lib.hid hds
 clear hds
 go_enter Try.func65, Try.ntmps65
 go_upto_region 1 with fail
 obtain ⟨w1, hw1⟩ : ∃ w1, w1 = (w.alloc (.cells (carA x) 30)) := ⟨_, rfl⟩
 rw [← hw1]
 have HBX1 := Lib.hid (show Blk w1 (w.heap.size) 30 (carA x) by rw [hw1]; exact Blk.at_ (by (try simp only [size_alloc])) _ _)
 have HS1 := Lib.hid (show Since w w1 by rw [hw1]; exact Since.alloc (Since.refl w) _)
 have hNE : w.heap.size ≤ w.heap.size := by omega
 have HNE := Lib.hid hNE
 clear hNE hw1
 have HNE3 := Lib.hid (show w.heap.size ≤ w.heap.size from HNE.out)
 clear HNE
 refine wp_region_lit ?_
 refine tkL (.pointer (some ⟨w.heap.size, 2, none⟩)) (h := ?_)
 (try simp only [Act.put, sA, sB, sC])
 refine wpList_q (by rfl) (.int .i64 x.un) ?he ?_
 case he => exact exec_cell 3 _ _ HBX1.out rfl rfl rfl Try.underlying3 rfl
 (try simp only [Act.put, sA, sB, sC])
 refine wpList_wp (by rfl) (fun K hK => ?_)
 (try go_simp)
 refine (levV x.un true HL.out _).mono ?_
 rintro e w' ⟨rfl, rfl⟩
 (try go_wp2_with fail)
 refine hK.out _ _ ?_
 clear hK K
 (try simp only [Act.put, sA, sB, sC])
 refine tkL (.tuple #[.int .i64 (lvN x.un), .bool true]) (h := ?_)
 (try simp only [Act.put, sA, sB, sC])
 refine tkL (.int .i64 (lvN x.un)) (h := ?_)
 (try simp only [Act.put, sA, sB, sC])
 refine tkL (.bool true) (h := ?_)
 (try simp only [Act.put, sA, sB, sC])
 refine tkL (.int .i64 (lvN x.un)) (h := ?_)
 (try simp only [Act.put, sA, sB, sC])
 refine tkL (.bool true) (h := ?_)
 (try simp only [Act.put, sA, sB, sC])
 refine wpList_nil ?_
 go_upto_region 2 with fail
 refine wp_region_lit ?_
 refine tkL (.pointer (some ⟨w.heap.size, 9, none⟩)) (h := ?_)
 (try simp only [Act.put, sA, sB, sC])
 refine wpList_q (by rfl) (.int .i64 x.mo) ?he ?_
 case he => exact exec_cell 3 _ _ HBX1.out rfl rfl rfl Try.underlying3 rfl
 (try simp only [Act.put, sA, sB, sC])
 refine wpList_q (by rfl) (.bool true) ?he ?_
 case he => (have q := HMO.out; go_simp; (first | done | exact q | (simp [q]; done) | omega))
 (try simp only [Act.put, sA, sB, sC])
 refine tkL (.bool true) (h := ?_)
 (try simp only [Act.put, sA, sB, sC])
 refine tkL (.pointer (some ⟨w.heap.size, 8, none⟩)) (h := ?_)
 (try simp only [Act.put, sA, sB, sC])
 refine wpList_q (by rfl) (.bool x.br) ?he ?_
 case he => exact exec_cell 4 _ _ HBX1.out rfl rfl rfl Try.underlying4 rfl
 (try simp only [Act.put, sA, sB, sC])
 refine wpList_q (by rfl) (.bool true) ?he ?_
 case he => (have q := HBR.out; go_simp; (first | done | exact q | (simp [q]; done)))
 (try simp only [Act.put, sA, sB, sC])
 refine tkL (.bool true) (h := ?_)
 (try simp only [Act.put, sA, sB, sC])
 refine tkL (.bool true) (h := ?_)
 (try simp only [Act.put, sA, sB, sC])
 refine tkL (.bool true) (h := ?_)
 (try simp only [Act.put, sA, sB, sC])
 refine tkL (.bool true) (h := ?_)
 (try simp only [Act.put, sA, sB, sC])
 refine tkL (.bool true) (h := ?_)
 (try simp only [Act.put, sA, sB, sC])
 refine tkL (.pointer (some ⟨w.heap.size, 0, none⟩)) (h := ?_)
 (try simp only [Act.put, sA, sB, sC])
 refine tkL (.pointer (some ⟨w.heap.size, 0, none⟩)) (h := ?_)
 (try simp only [Act.put, sA, sB, sC])
 refine wpList_q (by rfl) (.int .i64 x.ds) ?he ?_
 case he => exact exec_cell 3 _ _ HBX1.out rfl rfl rfl Try.underlying3 rfl
 (try simp only [Act.put, sA, sB, sC])
 refine wpList_q (by rfl) (.bool false) ?he ?_
 case he => (have q := HDS.out; go_simp; (first | done | exact q | (simp [q]; done) | omega))
 (try simp only [Act.put, sA, sB, sC])
 refine tkL (.bool false) (h := ?_)
 (try simp only [Act.put, sA, sB, sC])
 refine tkL (.bool false) (h := ?_)
 (try simp only [Act.put, sA, sB, sC])
 refine wpList_no (by rfl) ?_
 (try simp only [Act.put, sA, sB, sC])
 refine wpList_no (by rfl) ?_
 (try simp only [Act.put, sA, sB, sC])
 refine wpList_no (by rfl) ?_
 (try simp only [Act.put, sA, sB, sC])
 refine tkL (.bool false) (h := ?_)
 (try simp only [Act.put, sA, sB, sC])
 refine tkL (.bool false) (h := ?_)
 (try simp only [Act.put, sA, sB, sC])
 refine wpList_no (by rfl) ?_
 (try simp only [Act.put, sA, sB, sC])
 refine wpList_no (by rfl) ?_
 (try simp only [Act.put, sA, sB, sC])
 refine wpList_no (by rfl) ?_
 (try simp only [Act.put, sA, sB, sC])
 refine wpList_no (by rfl) ?_
 (try simp only [Act.put, sA, sB, sC])
 refine tkL (.bool false) (h := ?_)
 (try simp only [Act.put, sA, sB, sC])
 refine tkL (.bool false) (h := ?_)
 (try simp only [Act.put, sA, sB, sC])
 refine wpList_nil ?_
 (try go_wp2_with fail)
 go_ret
 exact ⟨rfl, HS1.out⟩
set_option maxHeartbeats 4000000 in
theorem idl5 (x : CarV) (w : World) (hmo : x.mo = 0) (hbr : x.br = false) (hl : lvB x.un = true) (hds : x.ds = 0) (hwy : ¬ x.wy = 0) : Calls Try.prog 65 #[.agg (carA x)] w fun e w' => e = .returned (.bool false) ∧ Since w w' := by
 have HMO := Lib.hid hmo
 clear hmo
 have HBR := Lib.hid hbr
 clear hbr
 have HL := Lib.hid hl
 clear hl
 have HDS := Lib.hid hds
 clear hds
 have HWY := Lib.hid hwy
 clear hwy
 go_enter Try.func65, Try.ntmps65
 go_upto_region 1 with fail
 obtain ⟨w1, hw1⟩ : ∃ w1, w1 = (w.alloc (.cells (carA x) 30)) := ⟨_, rfl⟩
 rw [← hw1]
 have HBX1 := Lib.hid (show Blk w1 (w.heap.size) 30 (carA x) by rw [hw1]; exact Blk.at_ (by (try simp only [size_alloc])) _ _)
 have HS1 := Lib.hid (show Since w w1 by rw [hw1]; exact Since.alloc (Since.refl w) _)
 have hNE : w.heap.size ≤ w.heap.size := by omega
 have HNE := Lib.hid hNE
 clear hNE hw1
 have HNE3 := Lib.hid (show w.heap.size ≤ w.heap.size from HNE.out)
 clear HNE
 refine wp_region_lit ?_
 refine tkL (.pointer (some ⟨w.heap.size, 2, none⟩)) (h := ?_)
 (try simp only [Act.put, sA, sB, sC])
 refine wpList_q (by rfl) (.int .i64 x.un) ?he ?_
 case he => exact exec_cell 3 _ _ HBX1.out rfl rfl rfl Try.underlying3 rfl
 (try simp only [Act.put, sA, sB, sC])
 refine wpList_wp (by rfl) (fun K hK => ?_)
 (try go_simp)
 refine (levV x.un true HL.out _).mono ?_
 rintro e w' ⟨rfl, rfl⟩
 (try go_wp2_with fail)
 refine hK.out _ _ ?_
 clear hK K
 (try simp only [Act.put, sA, sB, sC])
 refine tkL (.tuple #[.int .i64 (lvN x.un), .bool true]) (h := ?_)
 (try simp only [Act.put, sA, sB, sC])
 refine tkL (.int .i64 (lvN x.un)) (h := ?_)
 (try simp only [Act.put, sA, sB, sC])
 refine tkL (.bool true) (h := ?_)
 (try simp only [Act.put, sA, sB, sC])
 refine tkL (.int .i64 (lvN x.un)) (h := ?_)
 (try simp only [Act.put, sA, sB, sC])
 refine tkL (.bool true) (h := ?_)
 (try simp only [Act.put, sA, sB, sC])
 refine wpList_nil ?_
 go_upto_region 2 with fail
 refine wp_region_lit ?_
 refine tkL (.pointer (some ⟨w.heap.size, 9, none⟩)) (h := ?_)
 (try simp only [Act.put, sA, sB, sC])
 refine wpList_q (by rfl) (.int .i64 x.mo) ?he ?_
 case he => exact exec_cell 3 _ _ HBX1.out rfl rfl rfl Try.underlying3 rfl
 (try simp only [Act.put, sA, sB, sC])
 refine wpList_q (by rfl) (.bool true) ?he ?_
 case he => (have q := HMO.out; go_simp; (first | done | exact q | (simp [q]; done) | omega))
 (try simp only [Act.put, sA, sB, sC])
 refine tkL (.bool true) (h := ?_)
 (try simp only [Act.put, sA, sB, sC])
 refine tkL (.pointer (some ⟨w.heap.size, 8, none⟩)) (h := ?_)
 (try simp only [Act.put, sA, sB, sC])
 refine wpList_q (by rfl) (.bool x.br) ?he ?_
 case he => exact exec_cell 4 _ _ HBX1.out rfl rfl rfl Try.underlying4 rfl
 (try simp only [Act.put, sA, sB, sC])
 refine wpList_q (by rfl) (.bool true) ?he ?_
 case he => (have q := HBR.out; go_simp; (first | done | exact q | (simp [q]; done)))
 (try simp only [Act.put, sA, sB, sC])
 refine tkL (.bool true) (h := ?_)
 (try simp only [Act.put, sA, sB, sC])
 refine tkL (.bool true) (h := ?_)
 (try simp only [Act.put, sA, sB, sC])
 refine tkL (.bool true) (h := ?_)
 (try simp only [Act.put, sA, sB, sC])
 refine tkL (.bool true) (h := ?_)
 (try simp only [Act.put, sA, sB, sC])
 refine tkL (.bool true) (h := ?_)
 (try simp only [Act.put, sA, sB, sC])
 refine tkL (.pointer (some ⟨w.heap.size, 0, none⟩)) (h := ?_)
 (try simp only [Act.put, sA, sB, sC])
 refine tkL (.pointer (some ⟨w.heap.size, 0, none⟩)) (h := ?_)
 (try simp only [Act.put, sA, sB, sC])
 refine wpList_q (by rfl) (.int .i64 x.ds) ?he ?_
 case he => exact exec_cell 3 _ _ HBX1.out rfl rfl rfl Try.underlying3 rfl
 (try simp only [Act.put, sA, sB, sC])
 refine wpList_q (by rfl) (.bool true) ?he ?_
 case he => (have q := HDS.out; go_simp; (first | done | exact q | (simp [q]; done) | omega))
 (try simp only [Act.put, sA, sB, sC])
 refine tkL (.bool true) (h := ?_)
 (try simp only [Act.put, sA, sB, sC])
 refine tkL (.bool true) (h := ?_)
 (try simp only [Act.put, sA, sB, sC])
 refine tkL (.pointer (some ⟨w.heap.size, 3, none⟩)) (h := ?_)
 (try simp only [Act.put, sA, sB, sC])
 refine wpList_q (by rfl) (.int .i64 x.wy) ?he ?_
 case he => exact exec_cell 3 _ _ HBX1.out rfl rfl rfl Try.underlying3 rfl
 (try simp only [Act.put, sA, sB, sC])
 refine wpList_q (by rfl) (.bool false) ?he ?_
 case he => (have q := HWY.out; go_simp; (first | done | exact q | (simp [q]; done) | omega))
 (try simp only [Act.put, sA, sB, sC])
 refine tkL (.bool false) (h := ?_)
 (try simp only [Act.put, sA, sB, sC])
 refine tkL (.bool false) (h := ?_)
 (try simp only [Act.put, sA, sB, sC])
 refine wpList_no (by rfl) ?_
 (try simp only [Act.put, sA, sB, sC])
 refine wpList_no (by rfl) ?_
 (try simp only [Act.put, sA, sB, sC])
 refine wpList_no (by rfl) ?_
 (try simp only [Act.put, sA, sB, sC])
 refine wpList_no (by rfl) ?_
 (try simp only [Act.put, sA, sB, sC])
 refine tkL (.bool false) (h := ?_)
 (try simp only [Act.put, sA, sB, sC])
 refine tkL (.bool false) (h := ?_)
 (try simp only [Act.put, sA, sB, sC])
 refine wpList_nil ?_
 (try go_wp2_with fail)
 go_ret
 exact ⟨rfl, HS1.out⟩
set_option maxHeartbeats 4000000 in
theorem idl6 (x : CarV) (w : World) (hmo : x.mo = 0) (hbr : x.br = false) (hl : lvB x.un = true) (hds : x.ds = 0) (hwy : x.wy = 0) (hp : R x.sp) (hu : R x.su) (hd : R x.sd) (hc : ¬ cn x.sp + cn x.su + cn x.sd = 0) : Calls Try.prog 65 #[.agg (carA x)] w fun e w' => e = .returned (.bool false) ∧ Since w w' := by
 have HMO := Lib.hid hmo
 clear hmo
 have HBR := Lib.hid hbr
 clear hbr
 have HL := Lib.hid hl
 clear hl
 have HDS := Lib.hid hds
 clear hds
 have HWY := Lib.hid hwy
 clear hwy
 have HP := Lib.hid hp
 clear hp
 have HU := Lib.hid hu
 clear hu
 have HD := Lib.hid hd
 clear hd
 have HC := Lib.hid hc
 clear hc
 go_enter Try.func65, Try.ntmps65
 go_upto_region 1 with fail
 obtain ⟨w1, hw1⟩ : ∃ w1, w1 = (w.alloc (.cells (carA x) 30)) := ⟨_, rfl⟩
 rw [← hw1]
 have HBX1 := Lib.hid (show Blk w1 (w.heap.size) 30 (carA x) by rw [hw1]; exact Blk.at_ (by (try simp only [size_alloc])) _ _)
 have HS1 := Lib.hid (show Since w w1 by rw [hw1]; exact Since.alloc (Since.refl w) _)
 have hNE : w.heap.size ≤ w.heap.size := by omega
 have HNE := Lib.hid hNE
 clear hNE hw1
 have HNE3 := Lib.hid (show w.heap.size ≤ w.heap.size from HNE.out)
 clear HNE
 refine wp_region_lit ?_
 refine tkL (.pointer (some ⟨w.heap.size, 2, none⟩)) (h := ?_)
 (try simp only [Act.put, sA, sB, sC])
 refine wpList_q (by rfl) (.int .i64 x.un) ?he ?_
 case he => exact exec_cell 3 _ _ HBX1.out rfl rfl rfl Try.underlying3 rfl
 (try simp only [Act.put, sA, sB, sC])
 refine wpList_wp (by rfl) (fun K hK => ?_)
 (try go_simp)
 refine (levV x.un true HL.out _).mono ?_
 rintro e w' ⟨rfl, rfl⟩
 (try go_wp2_with fail)
 refine hK.out _ _ ?_
 clear hK K
 (try simp only [Act.put, sA, sB, sC])
 refine tkL (.tuple #[.int .i64 (lvN x.un), .bool true]) (h := ?_)
 (try simp only [Act.put, sA, sB, sC])
 refine tkL (.int .i64 (lvN x.un)) (h := ?_)
 (try simp only [Act.put, sA, sB, sC])
 refine tkL (.bool true) (h := ?_)
 (try simp only [Act.put, sA, sB, sC])
 refine tkL (.int .i64 (lvN x.un)) (h := ?_)
 (try simp only [Act.put, sA, sB, sC])
 refine tkL (.bool true) (h := ?_)
 (try simp only [Act.put, sA, sB, sC])
 refine wpList_nil ?_
 go_upto_region 2 with fail
 refine wp_region_lit ?_
 refine tkL (.pointer (some ⟨w.heap.size, 9, none⟩)) (h := ?_)
 (try simp only [Act.put, sA, sB, sC])
 refine wpList_q (by rfl) (.int .i64 x.mo) ?he ?_
 case he => exact exec_cell 3 _ _ HBX1.out rfl rfl rfl Try.underlying3 rfl
 (try simp only [Act.put, sA, sB, sC])
 refine wpList_q (by rfl) (.bool true) ?he ?_
 case he => (have q := HMO.out; go_simp; (first | done | exact q | (simp [q]; done) | omega))
 (try simp only [Act.put, sA, sB, sC])
 refine tkL (.bool true) (h := ?_)
 (try simp only [Act.put, sA, sB, sC])
 refine tkL (.pointer (some ⟨w.heap.size, 8, none⟩)) (h := ?_)
 (try simp only [Act.put, sA, sB, sC])
 refine wpList_q (by rfl) (.bool x.br) ?he ?_
 case he => exact exec_cell 4 _ _ HBX1.out rfl rfl rfl Try.underlying4 rfl
 (try simp only [Act.put, sA, sB, sC])
 refine wpList_q (by rfl) (.bool true) ?he ?_
 case he => (have q := HBR.out; go_simp; (first | done | exact q | (simp [q]; done)))
 (try simp only [Act.put, sA, sB, sC])
 refine tkL (.bool true) (h := ?_)
 (try simp only [Act.put, sA, sB, sC])
 refine tkL (.bool true) (h := ?_)
 (try simp only [Act.put, sA, sB, sC])
 refine tkL (.bool true) (h := ?_)
 (try simp only [Act.put, sA, sB, sC])
 refine tkL (.bool true) (h := ?_)
 (try simp only [Act.put, sA, sB, sC])
 refine tkL (.bool true) (h := ?_)
 (try simp only [Act.put, sA, sB, sC])
 refine tkL (.pointer (some ⟨w.heap.size, 0, none⟩)) (h := ?_)
 (try simp only [Act.put, sA, sB, sC])
 refine tkL (.pointer (some ⟨w.heap.size, 0, none⟩)) (h := ?_)
 (try simp only [Act.put, sA, sB, sC])
 refine wpList_q (by rfl) (.int .i64 x.ds) ?he ?_
 case he => exact exec_cell 3 _ _ HBX1.out rfl rfl rfl Try.underlying3 rfl
 (try simp only [Act.put, sA, sB, sC])
 refine wpList_q (by rfl) (.bool true) ?he ?_
 case he => (have q := HDS.out; go_simp; (first | done | exact q | (simp [q]; done) | omega))
 (try simp only [Act.put, sA, sB, sC])
 refine tkL (.bool true) (h := ?_)
 (try simp only [Act.put, sA, sB, sC])
 refine tkL (.bool true) (h := ?_)
 (try simp only [Act.put, sA, sB, sC])
 refine tkL (.pointer (some ⟨w.heap.size, 3, none⟩)) (h := ?_)
 (try simp only [Act.put, sA, sB, sC])
 refine wpList_q (by rfl) (.int .i64 x.wy) ?he ?_
 case he => exact exec_cell 3 _ _ HBX1.out rfl rfl rfl Try.underlying3 rfl
 (try simp only [Act.put, sA, sB, sC])
 refine wpList_q (by rfl) (.bool true) ?he ?_
 case he => (have q := HWY.out; go_simp; (first | done | exact q | (simp [q]; done) | omega))
 (try simp only [Act.put, sA, sB, sC])
 refine tkL (.bool true) (h := ?_)
 (try simp only [Act.put, sA, sB, sC])
 refine tkL (.bool true) (h := ?_)
 (try simp only [Act.put, sA, sB, sC])
 refine tkL (.pointer (some ⟨w.heap.size, 12, none⟩)) (h := ?_)
 (try simp only [Act.put, sA, sB, sC])
 refine wpList_q (by rfl) (.agg #[.int .u64 x.sp, .int .u64 x.su, .int .u64 x.sd]) ?he ?_
 case he => exact exec_part (n := 3) 28 _ _ HBX1.out rfl rfl rfl rfl Try.underlying28 rfl (by kernel_rfl)
 (try simp only [Act.put, sA, sB, sC])
 refine wpList_wp (by rfl) (fun K hK => ?_)
 (try go_simp)
 refine (countT x.sp x.su x.sd HP.out HU.out HD.out _).mono ?_
 rintro e w2 ⟨rfl, hb⟩
 (try go_wp2_with fail)
 refine hK.out _ _ ?_
 clear hK K
 (try simp only [Act.put, sA, sB, sC])
 have HS2 := Lib.hid (Since.trans HS1.out hb)
 have HBX2 := Lib.hid (keep_blk hb HBX1.out)
 clear HS1 HBX1
 clear hb
 refine wpList_q (by rfl) (.bool false) ?he ?_
 case he => (have q := HC.out; go_simp; (first | done | exact q | (simp [q]; done) | omega))
 (try simp only [Act.put, sA, sB, sC])
 refine tkL (.bool false) (h := ?_)
 (try simp only [Act.put, sA, sB, sC])
 refine tkL (.bool false) (h := ?_)
 (try simp only [Act.put, sA, sB, sC])
 refine wpList_nil ?_
 (try go_wp2_with fail)
 go_ret
 exact ⟨rfl, HS2.out⟩
set_option maxHeartbeats 4000000 in
theorem idl7 (x : CarV) (w : World) (hmo : x.mo = 0) (hbr : x.br = false) (hl : lvB x.un = true) (hds : x.ds = 0) (hwy : x.wy = 0) (hp : R x.sp) (hu : R x.su) (hd : R x.sd) (hc : cn x.sp + cn x.su + cn x.sd = 0) : Calls Try.prog 65 #[.agg (carA x)] w fun e w' => e = .returned (.bool true) ∧ Since w w' := by
 have HMO := Lib.hid hmo
 clear hmo
 have HBR := Lib.hid hbr
 clear hbr
 have HL := Lib.hid hl
 clear hl
 have HDS := Lib.hid hds
 clear hds
 have HWY := Lib.hid hwy
 clear hwy
 have HP := Lib.hid hp
 clear hp
 have HU := Lib.hid hu
 clear hu
 have HD := Lib.hid hd
 clear hd
 have HC := Lib.hid hc
 clear hc
 go_enter Try.func65, Try.ntmps65
 go_upto_region 1 with fail
 obtain ⟨w1, hw1⟩ : ∃ w1, w1 = (w.alloc (.cells (carA x) 30)) := ⟨_, rfl⟩
 rw [← hw1]
 have HBX1 := Lib.hid (show Blk w1 (w.heap.size) 30 (carA x) by rw [hw1]; exact Blk.at_ (by (try simp only [size_alloc])) _ _)
 have HS1 := Lib.hid (show Since w w1 by rw [hw1]; exact Since.alloc (Since.refl w) _)
 have hNE : w.heap.size ≤ w.heap.size := by omega
 have HNE := Lib.hid hNE
 clear hNE hw1
 have HNE3 := Lib.hid (show w.heap.size ≤ w.heap.size from HNE.out)
 clear HNE
 refine wp_region_lit ?_
 refine tkL (.pointer (some ⟨w.heap.size, 2, none⟩)) (h := ?_)
 (try simp only [Act.put, sA, sB, sC])
 refine wpList_q (by rfl) (.int .i64 x.un) ?he ?_
 case he => exact exec_cell 3 _ _ HBX1.out rfl rfl rfl Try.underlying3 rfl
 (try simp only [Act.put, sA, sB, sC])
 refine wpList_wp (by rfl) (fun K hK => ?_)
 (try go_simp)
 refine (levV x.un true HL.out _).mono ?_
 rintro e w' ⟨rfl, rfl⟩
 (try go_wp2_with fail)
 refine hK.out _ _ ?_
 clear hK K
 (try simp only [Act.put, sA, sB, sC])
 refine tkL (.tuple #[.int .i64 (lvN x.un), .bool true]) (h := ?_)
 (try simp only [Act.put, sA, sB, sC])
 refine tkL (.int .i64 (lvN x.un)) (h := ?_)
 (try simp only [Act.put, sA, sB, sC])
 refine tkL (.bool true) (h := ?_)
 (try simp only [Act.put, sA, sB, sC])
 refine tkL (.int .i64 (lvN x.un)) (h := ?_)
 (try simp only [Act.put, sA, sB, sC])
 refine tkL (.bool true) (h := ?_)
 (try simp only [Act.put, sA, sB, sC])
 refine wpList_nil ?_
 go_upto_region 2 with fail
 refine wp_region_lit ?_
 refine tkL (.pointer (some ⟨w.heap.size, 9, none⟩)) (h := ?_)
 (try simp only [Act.put, sA, sB, sC])
 refine wpList_q (by rfl) (.int .i64 x.mo) ?he ?_
 case he => exact exec_cell 3 _ _ HBX1.out rfl rfl rfl Try.underlying3 rfl
 (try simp only [Act.put, sA, sB, sC])
 refine wpList_q (by rfl) (.bool true) ?he ?_
 case he => (have q := HMO.out; go_simp; (first | done | exact q | (simp [q]; done) | omega))
 (try simp only [Act.put, sA, sB, sC])
 refine tkL (.bool true) (h := ?_)
 (try simp only [Act.put, sA, sB, sC])
 refine tkL (.pointer (some ⟨w.heap.size, 8, none⟩)) (h := ?_)
 (try simp only [Act.put, sA, sB, sC])
 refine wpList_q (by rfl) (.bool x.br) ?he ?_
 case he => exact exec_cell 4 _ _ HBX1.out rfl rfl rfl Try.underlying4 rfl
 (try simp only [Act.put, sA, sB, sC])
 refine wpList_q (by rfl) (.bool true) ?he ?_
 case he => (have q := HBR.out; go_simp; (first | done | exact q | (simp [q]; done)))
 (try simp only [Act.put, sA, sB, sC])
 refine tkL (.bool true) (h := ?_)
 (try simp only [Act.put, sA, sB, sC])
 refine tkL (.bool true) (h := ?_)
 (try simp only [Act.put, sA, sB, sC])
 refine tkL (.bool true) (h := ?_)
 (try simp only [Act.put, sA, sB, sC])
 refine tkL (.bool true) (h := ?_)
 (try simp only [Act.put, sA, sB, sC])
 refine tkL (.bool true) (h := ?_)
 (try simp only [Act.put, sA, sB, sC])
 refine tkL (.pointer (some ⟨w.heap.size, 0, none⟩)) (h := ?_)
 (try simp only [Act.put, sA, sB, sC])
 refine tkL (.pointer (some ⟨w.heap.size, 0, none⟩)) (h := ?_)
 (try simp only [Act.put, sA, sB, sC])
 refine wpList_q (by rfl) (.int .i64 x.ds) ?he ?_
 case he => exact exec_cell 3 _ _ HBX1.out rfl rfl rfl Try.underlying3 rfl
 (try simp only [Act.put, sA, sB, sC])
 refine wpList_q (by rfl) (.bool true) ?he ?_
 case he => (have q := HDS.out; go_simp; (first | done | exact q | (simp [q]; done) | omega))
 (try simp only [Act.put, sA, sB, sC])
 refine tkL (.bool true) (h := ?_)
 (try simp only [Act.put, sA, sB, sC])
 refine tkL (.bool true) (h := ?_)
 (try simp only [Act.put, sA, sB, sC])
 refine tkL (.pointer (some ⟨w.heap.size, 3, none⟩)) (h := ?_)
 (try simp only [Act.put, sA, sB, sC])
 refine wpList_q (by rfl) (.int .i64 x.wy) ?he ?_
 case he => exact exec_cell 3 _ _ HBX1.out rfl rfl rfl Try.underlying3 rfl
 (try simp only [Act.put, sA, sB, sC])
 refine wpList_q (by rfl) (.bool true) ?he ?_
 case he => (have q := HWY.out; go_simp; (first | done | exact q | (simp [q]; done) | omega))
 (try simp only [Act.put, sA, sB, sC])
 refine tkL (.bool true) (h := ?_)
 (try simp only [Act.put, sA, sB, sC])
 refine tkL (.bool true) (h := ?_)
 (try simp only [Act.put, sA, sB, sC])
 refine tkL (.pointer (some ⟨w.heap.size, 12, none⟩)) (h := ?_)
 (try simp only [Act.put, sA, sB, sC])
 refine wpList_q (by rfl) (.agg #[.int .u64 x.sp, .int .u64 x.su, .int .u64 x.sd]) ?he ?_
 case he => exact exec_part (n := 3) 28 _ _ HBX1.out rfl rfl rfl rfl Try.underlying28 rfl (by kernel_rfl)
 (try simp only [Act.put, sA, sB, sC])
 refine wpList_wp (by rfl) (fun K hK => ?_)
 (try go_simp)
 refine (countT x.sp x.su x.sd HP.out HU.out HD.out _).mono ?_
 rintro e w2 ⟨rfl, hb⟩
 (try go_wp2_with fail)
 refine hK.out _ _ ?_
 clear hK K
 (try simp only [Act.put, sA, sB, sC])
 have HS2 := Lib.hid (Since.trans HS1.out hb)
 have HBX2 := Lib.hid (keep_blk hb HBX1.out)
 clear HS1 HBX1
 clear hb
 refine wpList_q (by rfl) (.bool true) ?he ?_
 case he => (have q := HC.out; go_simp; (first | done | exact q | (simp [q]; done) | omega))
 (try simp only [Act.put, sA, sB, sC])
 refine tkL (.bool true) (h := ?_)
 (try simp only [Act.put, sA, sB, sC])
 refine tkL (.bool true) (h := ?_)
 (try simp only [Act.put, sA, sB, sC])
 refine wpList_nil ?_
 (try go_wp2_with fail)
 go_ret
 exact ⟨rfl, HS2.out⟩
/-- Is a car idle? -/
def idB (x : CarV) : Bool := decide (x.mo = 0 ∧ x.br = false ∧ lvB x.un = true ∧ x.ds = 0 ∧ x.wy = 0 ∧ cn x.sp + cn x.su + cn x.sd = 0)
theorem idlT (x : CarV) (w : World) (hp : R x.sp) (hu : R x.su) (hd : R x.sd) : Calls Try.prog 65 #[.agg (carA x)] w fun e w' => e = .returned (.bool (idB x)) ∧ Since w w' := by
  unfold idB
  by_cases h1 : x.mo = 0
  · by_cases h2 : x.br = true
    · rw [decide_eq_false (by simp [h2])]; exact idl2 x w h1 h2
    · have h2' : x.br = false := by simpa using h2
      by_cases h3 : lvB x.un = true
      · by_cases h4 : x.ds = 0
        · by_cases h5 : x.wy = 0
          · by_cases h6 : cn x.sp + cn x.su + cn x.sd = 0
            · rw [decide_eq_true ⟨h1, h2', h3, h4, h5, h6⟩]; exact idl7 x w h1 h2' h3 h4 h5 hp hu hd h6
            · rw [decide_eq_false (fun h => h6 h.2.2.2.2.2)]; exact idl6 x w h1 h2' h3 h4 h5 hp hu hd h6
          · rw [decide_eq_false (fun h => h5 h.2.2.2.2.1)]; exact idl5 x w h1 h2' h3 h4 h5
        · rw [decide_eq_false (fun h => h4 h.2.2.2.1)]; exact idl4 x w h1 h2' h3 h4
      · rw [decide_eq_false (fun h => h3 h.2.2.1)]; exact idl3 x w h1 h2' (by simpa using h3)
  · rw [decide_eq_false (fun h => h1 h.1)]; exact idl1 x w h1
def upto {α : Type} (f : α → α) (ws : List α) (i : Nat) : List α := (ws.take i).map f ++ ws.drop i
section
variable {α : Type} {f : α → α} {ws : List α} {i : Nat}
theorem upto_len : (upto f ws i).length = ws.length := by simp [upto]; omega
theorem upto_zero : upto f ws 0 = ws := by simp [upto]
theorem upto_end : upto f ws ws.length = ws.map f := by simp [upto]
theorem upto_at (hi : i < ws.length) (h2 : i < (upto f ws i).length) : (upto f ws i)[i] = ws[i] := by
  have : (upto f ws i)[i]? = some ws[i] := by
    unfold upto
    rw [List.getElem?_append_right (by simp; omega)]
    simp [Nat.min_eq_left (Nat.le_of_lt hi), hi]
  rw [List.getElem?_eq_getElem h2] at this
  exact Option.some.inj this
theorem upto_set (hi : i < ws.length) : (upto f ws i).set i (f ws[i]) = upto f ws (i + 1) := by
  unfold upto
  rw [List.set_append_right _ _ (by simp; omega)]
  simp only [List.length_map, List.length_take, Nat.min_eq_left (Nat.le_of_lt hi), Nat.sub_self]
  rw [List.drop_eq_getElem_cons hi, List.set_cons_zero, List.take_succ_eq_append_getElem hi, List.map_append, List.append_assoc]
  rfl
end
def disW (car : Int) (a : WaitV) : WaitV := if a.ca = car then { a with ca := -1 } else a
set_option maxHeartbeats 4000000 in
theorem disownT (lo q : Nat) (G : GrV) (v1 : Value) (A2 : Option Addr) (c2 : Nat) (car : Int) (w : World) (hq : Blk w q 67 (grpA G v1 (.slice A2 G.waits.length c2))) (ho : WaitsAt lo A2 G.waits.length c2 G.waits w) (hl : G.waits.length ≤ 10000) (hnq : q ∉ blkOf A2) : Calls Try.prog 63 #[.pointer (some ⟨q, 0, none⟩), .int .i64 car] w fun e w' => e = .returned (.tuple #[]) ∧ WaitsAt lo A2 G.waits.length c2 (G.waits.map (disW car)) w' ∧ Upd (blkOf A2) w w' := by
 have HQ := Lib.hid hq
 clear hq
 have HOW := Lib.hid ho
 clear ho
 have HL := Lib.hid hl
 clear hl
 have HNQ := Lib.hid hnq
 clear hnq
 go_enter Try.func63, Try.ntmps63
 have HSU := Lib.hid (Upd.refl (blkOf A2) w)
 go_upto_region 0 with fail
 refine wp_region_lit ?_
 refine tkL (.pointer (some ⟨q, 0, none⟩)) (h := ?_)
 (try simp only [Act.put, sA, sB, sC])
 refine tkL (.pointer (some ⟨q, 0, none⟩)) (h := ?_)
 (try simp only [Act.put, sA, sB, sC])
 refine tkL (.pointer (some ⟨q, 19, none⟩)) (h := ?_)
 (try simp only [Act.put, sA, sB, sC])
 refine wpList_q (by rfl) (.slice A2 G.waits.length c2) ?he ?_
 case he => exact exec_cell 50 _ _ HQ.out rfl rfl rfl Try.underlying50 rfl
 (try simp only [Act.put, sA, sB, sC])
 refine tkL (.int .i64 (G.waits.length : Int)) (h := ?_)
 (try simp only [Act.put, sA, sB, sC])
 refine tkL (.int .i64 0) (h := ?_)
 (try simp only [Act.put, sA, sB, sC])
 refine wpList_nil ?_
 go_wp2_with fail
 have HOW0 := Lib.hid (show WaitsAt lo A2 G.waits.length c2 (upto (disW car) G.waits 0) w by rw [upto_zero]; exact HOW.out)
 refine wp_uloop (ds := []) (fun n fr wr => ∃ i : Nat, i ≤ G.waits.length ∧ (G.waits.length - i) = n ∧ Fits fr 31 [(0, .pointer (some ⟨q, 0, none⟩)), (1, .int .i64 car), (9, .int .i64 (G.waits.length : Int)), (10, .int .i64 (i : Int))] ∧ Hid (Upd (blkOf A2) w wr ∧ Blk wr q 67 (grpA G v1 (.slice A2 G.waits.length c2)) ∧ WaitsAt lo A2 G.waits.length c2 (upto (disW car) G.waits i) wr)) (G.waits.length - 0) ?start1 ?round1
 case start1 => exact ⟨0, (by omega), rfl, ⟨rfl, rfl, rfl, rfl, rfl, trivial⟩, Lib.hid ⟨HSU.out, HQ.out, HOW0.out⟩⟩
 case round1 =>
  intro n fr wr hR J1 K1 hJ1 hK1
  clear HSU HQ HOW0 HOW
  obtain ⟨i, hi, hn, hF, HO⟩ := hR
  have HM := Lib.hid hn; clear hn
  obtain ⟨g0, g1, g2⟩ := HO.out
  clear HO
  have HS51 := Lib.hid g0
  have HBQ51 := Lib.hid g1
  have HFr51 := Lib.hid g2
  clear g0 g1 g2
  obtain ⟨u, hu⟩ := hF.open_
  have hu2 := hu.trans (show _ = #[.pointer (some ⟨q, 0, none⟩), .int .i64 car, u 2, u 3, u 4, u 5, u 6, u 7, u 8, .int .i64 (G.waits.length : Int), .int .i64 (i : Int), u 11, u 12, u 13, u 14, u 15, u 16, u 17, u 18, u 19, u 20, u 21, u 22, u 23, u 24, u 25, u 26, u 27, u 28, u 29, u 30] by kernel_rfl)
  clear hu hF
  subst hu2
  have HII := Lib.hid hi; clear hi
  by_cases hcs : i < G.waits.length
  rotate_left
  · have HLT := Lib.hid hcs; clear hcs
    go_upto_region 1 with fail
    refine wp_region_lit ?_
    refine wpList_q (by rfl) (.bool false) ?he ?_
    case he => (have q0 := HLT.out; go_simp; (first | done | rfl | omega))
    (try simp only [Act.put, sA, sB, sC])
    refine wpList_nil ?_
    (try go_wp2_with fail)
    first | go_end0 | refine bodyPost_ret (results_none rfl _ _ _) rfl ?_
    have e : i = G.waits.length := by have := HII.out; have := HLT.out; omega
    subst e
    exact ⟨rfl, by have q := HFr51.out; rw [upto_end] at q; exact q, HS51.out⟩
  · have HLT := Lib.hid hcs; clear hcs
    go_upto_region 1 with fail
    refine wp_region_lit ?_
    refine wpList_q (by rfl) (.bool true) ?he ?_
    case he => (have q0 := HLT.out; go_simp; (first | done | rfl | omega))
    (try simp only [Act.put, sA, sB, sC])
    refine wpList_nil ?_
    go_upto_region 2 with fail
    refine wp_region_lit ?_
    refine tkL (.int .i64 (i : Int)) (h := ?_)
    (try simp only [Act.put, sA, sB, sC])
    refine tkL (.int .i64 (i : Int)) (h := ?_)
    (try simp only [Act.put, sA, sB, sC])
    refine wpList_nil ?_
    have HL2 := Lib.hid (show i < (upto (disW car) G.waits i).length by rw [upto_len]; exact HLT.out)
    obtain ⟨g, hg⟩ := own_addr HFr51.out (by have := HLT.out; omega)
    subst hg
    obtain ⟨P, S, hP, hE, hback⟩ := own_el waitL_len HFr51.out HL2.out
    rw [upto_at HLT.out HL2.out] at hE
    have HP := Lib.hid (hP.trans (Nat.zero_add _)); have HE := Lib.hid (show Blk wr g 55 (el P (waitA (G.waits[i]'HLT.out)) S) from hE); have HBK := Lib.hid hback; clear hP hE hback
    have HNQ2 := Lib.hid (Blk.ne_ HBQ51.out HE.out (by decide))
    clear HFr51
    by_cases hcs : (G.waits[i]'HLT.out).ca = car
    rotate_left
    · have HCA := Lib.hid hcs; clear hcs
      go_upto_region 3 with fail
      refine wp_region_lit ?_
      refine tkL (.pointer (some ⟨q, 0, none⟩)) (h := ?_)
      (try simp only [Act.put, sA, sB, sC])
      refine tkL (.pointer (some ⟨q, 0, none⟩)) (h := ?_)
      (try simp only [Act.put, sA, sB, sC])
      refine tkL (.pointer (some ⟨q, 19, none⟩)) (h := ?_)
      (try simp only [Act.put, sA, sB, sC])
      refine wpList_q (by rfl) (.slice (some ⟨g, 0, none⟩) G.waits.length c2) ?he ?_
      case he => exact exec_cell 50 _ _ HBQ51.out rfl rfl rfl Try.underlying50 rfl
      (try simp only [Act.put, sA, sB, sC])
      refine tkL (.int .i64 (i : Int)) (h := ?_)
      (try simp only [Act.put, sA, sB, sC])
      refine wpList_q (by rfl) (.pointer (some ⟨g, i * 4, none⟩)) ?he ?_
      case he => (rw [show i * 4 = 0 + i * 4 by omega]; exact exec_index (i := i) (s := 4) 50 55 _ _ rfl rfl rfl rfl HLT.out Try.underlying50 (by kernel_rfl))
      (try simp only [Act.put, sA, sB, sC])
      refine tkL (.pointer (some ⟨g, i * 4 + 2, none⟩)) (h := ?_)
      (try simp only [Act.put, sA, sB, sC])
      refine wpList_q (by rfl) (.int .i64 ((G.waits[i]'HLT.out).ca)) ?he ?_
      case he => exact exec_cell 3 _ _ HE.out (el_at (j := 2) HP.out rfl) rfl rfl Try.underlying3 rfl
      (try simp only [Act.put, sA, sB, sC])
      refine tkL (.int .i64 car) (h := ?_)
      (try simp only [Act.put, sA, sB, sC])
      refine wpList_q (by rfl) (.bool false) ?he ?_
      case he => (have q0 := HCA.out; go_simp; (first | done | rfl | omega))
      (try simp only [Act.put, sA, sB, sC])
      refine wpList_nil ?_
      go_upto_region 5 with fail
      refine wp_region_lit ?_
      refine wpList_q (by rfl) (.int .i64 ((i : Int) + 1)) ?he ?_
      case he => (go_simp; (first | done | (refine wrG _ ?_ ?_ <;> (have q0 := HLT.out; have q1 := HL.out; omega)) | (have q0 := HLT.out; have q1 := HL.out; omega) | (have q0 := HLT.out; have q1 := HL.out; split <;> omega) | (have q0 := HLT.out; have q1 := HL.out; intro hh; omega)))
      (try simp only [Act.put, sA, sB, sC])
      refine tkL (.int .i64 ((i : Int) + 1)) (h := ?_)
      (try simp only [Act.put, sA, sB, sC])
      refine wpList_nil ?_
      have HDK := Lib.hid (show disW car (G.waits[i]'HLT.out) = G.waits[i]'HLT.out by unfold disW; exact if_neg HCA.out)
      go_wp2_with fail
      refine Met.intro ?_
      refine hJ1 _ _ _ ?less51 ⟨(i + 1), (by have := HLT.out; omega), rfl, ⟨rfl, rfl, rfl, rfl, rfl, trivial⟩, Lib.hid ⟨HS51.out, HBQ51.out, (by have q := HBK.out (disW car (G.waits[i]'HLT.out)) wr (by rw [HDK.out]; exact HE.out); rw [upto_set HLT.out] at q; exact q)⟩⟩
      case less51 => exact (by have := HM.out; have := HLT.out; omega)
    · have HCA := Lib.hid hcs; clear hcs
      go_upto_region 3 with fail
      refine wp_region_lit ?_
      refine tkL (.pointer (some ⟨q, 0, none⟩)) (h := ?_)
      (try simp only [Act.put, sA, sB, sC])
      refine tkL (.pointer (some ⟨q, 0, none⟩)) (h := ?_)
      (try simp only [Act.put, sA, sB, sC])
      refine tkL (.pointer (some ⟨q, 19, none⟩)) (h := ?_)
      (try simp only [Act.put, sA, sB, sC])
      refine wpList_q (by rfl) (.slice (some ⟨g, 0, none⟩) G.waits.length c2) ?he ?_
      case he => exact exec_cell 50 _ _ HBQ51.out rfl rfl rfl Try.underlying50 rfl
      (try simp only [Act.put, sA, sB, sC])
      refine tkL (.int .i64 (i : Int)) (h := ?_)
      (try simp only [Act.put, sA, sB, sC])
      refine wpList_q (by rfl) (.pointer (some ⟨g, i * 4, none⟩)) ?he ?_
      case he => (rw [show i * 4 = 0 + i * 4 by omega]; exact exec_index (i := i) (s := 4) 50 55 _ _ rfl rfl rfl rfl HLT.out Try.underlying50 (by kernel_rfl))
      (try simp only [Act.put, sA, sB, sC])
      refine tkL (.pointer (some ⟨g, i * 4 + 2, none⟩)) (h := ?_)
      (try simp only [Act.put, sA, sB, sC])
      refine wpList_q (by rfl) (.int .i64 ((G.waits[i]'HLT.out).ca)) ?he ?_
      case he => exact exec_cell 3 _ _ HE.out (el_at (j := 2) HP.out rfl) rfl rfl Try.underlying3 rfl
      (try simp only [Act.put, sA, sB, sC])
      refine tkL (.int .i64 car) (h := ?_)
      (try simp only [Act.put, sA, sB, sC])
      refine wpList_q (by rfl) (.bool true) ?he ?_
      case he => (have q0 := HCA.out; go_simp; (first | done | rfl | omega))
      (try simp only [Act.put, sA, sB, sC])
      refine wpList_nil ?_
      go_upto_region 4 with fail
      refine wp_region_lit ?_
      refine tkL (.pointer (some ⟨q, 0, none⟩)) (h := ?_)
      (try simp only [Act.put, sA, sB, sC])
      refine tkL (.pointer (some ⟨q, 0, none⟩)) (h := ?_)
      (try simp only [Act.put, sA, sB, sC])
      refine tkL (.pointer (some ⟨q, 19, none⟩)) (h := ?_)
      (try simp only [Act.put, sA, sB, sC])
      refine wpList_q (by rfl) (.slice (some ⟨g, 0, none⟩) G.waits.length c2) ?he ?_
      case he => exact exec_cell 50 _ _ HBQ51.out rfl rfl rfl Try.underlying50 rfl
      (try simp only [Act.put, sA, sB, sC])
      refine tkL (.int .i64 (i : Int)) (h := ?_)
      (try simp only [Act.put, sA, sB, sC])
      refine wpList_q (by rfl) (.pointer (some ⟨g, i * 4, none⟩)) ?he ?_
      case he => (rw [show i * 4 = 0 + i * 4 by omega]; exact exec_index (i := i) (s := 4) 50 55 _ _ rfl rfl rfl rfl HLT.out Try.underlying50 (by kernel_rfl))
      (try simp only [Act.put, sA, sB, sC])
      refine tkL (.pointer (some ⟨g, i * 4 + 2, none⟩)) (h := ?_)
      (try simp only [Act.put, sA, sB, sC])
      refine wpList_wp (by rfl) (fun K hK => ?_)
      refine wp_st_cell 3 _ _ rfl (el P #[.int .i64 ((G.waits[i]'HLT.out).fl), .int .i64 ((G.waits[i]'HLT.out).wy), .int .i64 (-1), .int .i64 ((G.waits[i]'HLT.out).si)] S) (.int .i64 (-1)) rfl rfl HE.out (el_lt (j := 2) HP.out (by show 2 < 4; decide)) (el_set (j := 2) HP.out (by show 2 < 4; decide) rfl) (by first | rfl | simp [Value.oneCell']) (by kernel_rfl) ?_
      intro w52 hw
      refine hK.out _ _ ?_
      clear hK K
      (try simp only [Act.put, sA, sB, sC])
      have HS52 := Lib.hid (show Upd (blkOf (some ⟨g, 0, none⟩)) w w52 by rw [hw]; exact Upd.setRow HS51.out (.inl (by simp [blkOf])) _)
      have HBQ52 := Lib.hid (show Blk w52 q 67 (grpA G v1 (.slice (some ⟨g, 0, none⟩) G.waits.length c2)) by rw [hw]; exact Blk.row_far HBQ51.out HNQ2.out _)
      have HBE52 := Lib.hid (show Blk w52 g 55 (el P #[.int .i64 ((G.waits[i]'HLT.out).fl), .int .i64 ((G.waits[i]'HLT.out).wy), .int .i64 (-1), .int .i64 ((G.waits[i]'HLT.out).si)] S) by rw [hw]; exact Blk.row HE.out _)
      clear hw HS51 HBQ51 HE
      refine wpList_nil ?_
      go_upto_region 5 with fail
      refine wp_region_lit ?_
      refine wpList_q (by rfl) (.int .i64 ((i : Int) + 1)) ?he ?_
      case he => (go_simp; (first | done | (refine wrG _ ?_ ?_ <;> (have q0 := HLT.out; have q1 := HL.out; omega)) | (have q0 := HLT.out; have q1 := HL.out; omega) | (have q0 := HLT.out; have q1 := HL.out; split <;> omega) | (have q0 := HLT.out; have q1 := HL.out; intro hh; omega)))
      (try simp only [Act.put, sA, sB, sC])
      refine tkL (.int .i64 ((i : Int) + 1)) (h := ?_)
      (try simp only [Act.put, sA, sB, sC])
      refine wpList_nil ?_
      have HDK := Lib.hid (show disW car (G.waits[i]'HLT.out) = { (G.waits[i]'HLT.out) with ca := -1 } by unfold disW; exact if_pos HCA.out)
      go_wp2_with fail
      refine Met.intro ?_
      refine hJ1 _ _ _ ?less52 ⟨(i + 1), (by have := HLT.out; omega), rfl, ⟨rfl, rfl, rfl, rfl, rfl, trivial⟩, Lib.hid ⟨HS52.out, HBQ52.out, (by have q := HBK.out (disW car (G.waits[i]'HLT.out)) w52 (by rw [HDK.out]; exact HBE52.out); rw [upto_set HLT.out] at q; exact q)⟩⟩
      case less52 => exact (by have := HM.out; have := HLT.out; omega)
end Go.Proofs.Ytpacieocmogjeaa.Gr
