/-
  the reference's MayTick, further ways, and all: walked.
  Conditions: what stands ahead of each.
-/
import Derived.Test.YtdbbacpofgjgoaaProg
import Derived.Test.YtdbbacpofgjgoaaShort
import Derived.Test.YtdbbacpofgjgoaaCtlM
namespace Go.Proofs.Ytdbbacpofgjgoaa.Ct
set_option linter.unusedVariables false
set_option linter.unusedSimpArgs false
open Go.RowKit Go.Proofs.Ytdbbacpofgjgoaa.Ba Go.Proofs.Ytdbbacpofgjgoaa.Mem Go.Proofs.Ytdbbacpofgjgoaa.Ty Go.Proofs.Ytdbbacpofgjgoaa.Mo Go.Proofs.Ytdbbacpofgjgoaa.St Go.Proofs.Ytdbbacpofgjgoaa.Sc Go.Proofs.Ytdbbacpofgjgoaa.Pl
set_option maxRecDepth 100000
attribute [local irreducible] Go.wpList
set_option maxHeartbeats 4000000 in
theorem may_badf (c : CfgV) (x : CarV) (w : World) (hg : goodB c x = false) (hl : lvB x.un = false) : Calls Try.prog 38 #[.agg (cfgA c), .agg (carA x)] w fun e w' => e = .returned (.bool false) ∧ Since w w' := by
  have HG := Lib.hid hg
  clear hg
  have HL := Lib.hid hl
  clear hl
  go_enter Try.func38, Try.ntmps38
  go_upto_region 1 with fail
  obtain ⟨w1, hw1⟩ : ∃ w1, w1 = ((w.alloc (.cells (cfgA c) 23)).alloc (.cells (carA x) 30)) := ⟨_, rfl⟩
  rw [← hw1]
  have HBC1 := Lib.hid (show Blk w1 (w.heap.size) 23 (cfgA c) by rw [hw1]; exact Blk.alloc (Blk.at_ (by (try simp only [size_alloc])) _ _) _)
  have HBX1 := Lib.hid (show Blk w1 (w.heap.size + 1) 30 (carA x) by rw [hw1]; exact Blk.at_ (by (try simp only [size_alloc])) _ _)
  have HS1 := Lib.hid (show Since w w1 by rw [hw1]; exact Since.alloc (Since.alloc (Since.refl w) _) _)
  have hNE : w.heap.size ≤ w.heap.size ∧ w.heap.size < w.heap.size + 1 := by omega
  have HNE := Lib.hid hNE
  clear hNE hw1
  generalize w.heap.size + 1 = bX at *
  have HNE3 := Lib.hid (show w.heap.size ≤ w.heap.size ∧ w.heap.size < bX from HNE.out)
  clear HNE
  refine wp_region_lit ?_
  refine tkL (.pointer (some ⟨bX, 2, none⟩)) (h := ?_)
  (try simp only [Act.put, sA, sB, sC])
  refine wpList_q (by rfl) (.int .i64 x.un) ?he ?_
  case he => exact exec_cell 3 _ _ HBX1.out rfl rfl rfl Try.underlying3 rfl
  (try simp only [Act.put, sA, sB, sC])
  refine wpList_wp (by rfl) (fun K hK => ?_)
  (try go_simp)
  refine (levelRV x.un false _ HL.out).mono ?_
  rintro e w' ⟨rfl, rfl⟩
  (try go_wp2_with fail)
  refine hK.out _ _ ?_
  clear hK K
  (try simp only [Act.put, sA, sB, sC])
  refine tkL (.tuple #[.int .i64 (lvN x.un), .bool false]) (h := ?_)
  (try simp only [Act.put, sA, sB, sC])
  refine tkL (.int .i64 (lvN x.un)) (h := ?_)
  (try simp only [Act.put, sA, sB, sC])
  refine tkL (.bool false) (h := ?_)
  (try simp only [Act.put, sA, sB, sC])
  refine tkL (.int .i64 (lvN x.un)) (h := ?_)
  (try simp only [Act.put, sA, sB, sC])
  refine tkL (.bool false) (h := ?_)
  (try simp only [Act.put, sA, sB, sC])
  refine wpList_nil ?_
  go_upto_region 2 with fail
  have hrK : ∀ W W' : World, Since W W' → (Since w W ∧ Blk W w.heap.size 23 (cfgA c) ∧ Blk W bX 30 (carA x)) → (Since w W' ∧ Blk W' w.heap.size 23 (cfgA c) ∧ Blk W' bX 30 (carA x)) := fun W W' k ⟨h, h0, h1⟩ => ⟨h.trans k, keep_blk k h0, keep_blk k h1⟩
  have hrS : (fun W : World => Since w W ∧ Blk W w.heap.size 23 (cfgA c) ∧ Blk W bX 30 (carA x)) w1 := ⟨HS1.out, HBC1.out, HBX1.out⟩
  have HRK := Lib.hid hrK
  have HRD := Lib.hid (show (fun W : World => Since w W ∧ Blk W w.heap.size 23 (cfgA c) ∧ Blk W bX 30 (carA x)) (World.drew w1) from hrK _ _ ((Since.refl w1).drew) hrS)
  clear hrK hrS
  refine wp_region_held_drew (S := fun W : World => Since w W ∧ Blk W w.heap.size 23 (cfgA c) ∧ Blk W bX 30 (carA x)) (by kernel_rfl) HRD.out (fun hHeld => ?_)
  refine tkQ 0 (.agg (cfgA c)) hHeld (he := by intro w hSw; exact exec_load_row 23 _ _ hSw.2.1 rfl rfl Try.underlying23 rfl (by kernel_rfl)) (h := ?_)
  (try simp only [Act.put, sA, sB, sC])
  refine tkQ 1 (.agg (carA x)) hHeld (he := by intro w hSw; exact exec_load_row 30 _ _ hSw.2.2 rfl rfl Try.underlying30 rfl (by kernel_rfl)) (h := ?_)
  (try simp only [Act.put, sA, sB, sC])
  refine wpAnyH_ready (rs := [2]) (by kernel_rfl) (by simp) ?_
  refine AllReadyH.cons (o := ?o2__2) ?h2__2 (fun K hK => ?_) AllReadyH.nil
  case h2__2 => (first | (simp only [gA, gB, gC]; done) | (simp only [gA, gB, gC]; exact rfl))
  (try go_simp)
  refine (goodRV c x false _ HG.out).mono ?_
  rintro e w2 ⟨rfl, hb⟩
  (try go_wp2_with fail)
  refine hK.out _ _ (by (apply HRK.out; exact hb; exact hHeld)) (fun hHeld2 => ?_)
  clear hK K hHeld hb
  have hHeld := hHeld2
  clear hHeld2
  (try simp only [Act.put, sA, sB, sC])
  refine tkQ 3 (.bool false) hHeld (h := ?_)
  (try simp only [Act.put, sA, sB, sC])
  refine tkU 4 hHeld (h := ?_)
  (try simp only [Act.put, sA, sB, sC])
  refine tkU 5 hHeld (h := ?_)
  (try simp only [Act.put, sA, sB, sC])
  refine tkU 6 hHeld (h := ?_)
  (try simp only [Act.put, sA, sB, sC])
  refine tkU 7 hHeld (h := ?_)
  (try simp only [Act.put, sA, sB, sC])
  refine tkU 8 hHeld (h := ?_)
  (try simp only [Act.put, sA, sB, sC])
  refine tkU 9 hHeld (h := ?_)
  (try simp only [Act.put, sA, sB, sC])
  refine tkU 10 hHeld (h := ?_)
  (try simp only [Act.put, sA, sB, sC])
  refine tkU 11 hHeld (h := ?_)
  (try simp only [Act.put, sA, sB, sC])
  refine tkQ 12 (.bool false) hHeld (h := ?_)
  (try simp only [Act.put, sA, sB, sC])
  refine tkQ 13 (.bool false) hHeld (h := ?_)
  (try simp only [Act.put, sA, sB, sC])
  refine tkU 14 hHeld (h := ?_)
  (try simp only [Act.put, sA, sB, sC])
  refine tkU 15 hHeld (h := ?_)
  (try simp only [Act.put, sA, sB, sC])
  refine tkU 16 hHeld (h := ?_)
  (try simp only [Act.put, sA, sB, sC])
  refine tkU 17 hHeld (h := ?_)
  (try simp only [Act.put, sA, sB, sC])
  refine tkU 18 hHeld (h := ?_)
  (try simp only [Act.put, sA, sB, sC])
  refine tkU 19 hHeld (h := ?_)
  (try simp only [Act.put, sA, sB, sC])
  refine tkQ 20 (.bool false) hHeld (h := ?_)
  (try simp only [Act.put, sA, sB, sC])
  refine tkQ 21 (.bool false) hHeld (h := ?_)
  (try simp only [Act.put, sA, sB, sC])
  refine tkU 22 hHeld (h := ?_)
  (try simp only [Act.put, sA, sB, sC])
  refine tkU 23 hHeld (h := ?_)
  (try simp only [Act.put, sA, sB, sC])
  refine tkU 24 hHeld (h := ?_)
  (try simp only [Act.put, sA, sB, sC])
  refine tkU 25 hHeld (h := ?_)
  (try simp only [Act.put, sA, sB, sC])
  refine tkU 26 hHeld (h := ?_)
  (try simp only [Act.put, sA, sB, sC])
  refine tkU 27 hHeld (h := ?_)
  (try simp only [Act.put, sA, sB, sC])
  refine tkU 28 hHeld (h := ?_)
  (try simp only [Act.put, sA, sB, sC])
  refine tkU 29 hHeld (h := ?_)
  (try simp only [Act.put, sA, sB, sC])
  refine tkU 30 hHeld (h := ?_)
  (try simp only [Act.put, sA, sB, sC])
  refine tkU 31 hHeld (h := ?_)
  (try simp only [Act.put, sA, sB, sC])
  refine tkU 32 hHeld (h := ?_)
  (try simp only [Act.put, sA, sB, sC])
  refine tkU 33 hHeld (h := ?_)
  (try simp only [Act.put, sA, sB, sC])
  refine tkU 34 hHeld (h := ?_)
  (try simp only [Act.put, sA, sB, sC])
  refine tkU 35 hHeld (h := ?_)
  (try simp only [Act.put, sA, sB, sC])
  refine tkU 36 hHeld (h := ?_)
  (try simp only [Act.put, sA, sB, sC])
  refine tkU 37 hHeld (h := ?_)
  (try simp only [Act.put, sA, sB, sC])
  refine tkQ 38 (.bool false) hHeld (h := ?_)
  (try simp only [Act.put, sA, sB, sC])
  refine tkQ 39 (.bool false) hHeld (h := ?_)
  (try simp only [Act.put, sA, sB, sC])
  refine wpAnyH_done (by kernel_rfl) ?_ _
  have HSd2 := Lib.hid hHeld.1
  have HBCd2 := Lib.hid (hHeld.2.1)
  have HBXd2 := Lib.hid (hHeld.2.2)
  clear hHeld HRK HRD HS1 HBC1 HBX1
  (try go_wp2_with fail)
  go_ret
  exact ⟨rfl, HSd2.out⟩
set_option maxHeartbeats 4000000 in
theorem may_nfw (c : CfgV) (x : CarV) (w : World) (hg : goodB c x = true) (hl : lvB x.un = false) (hm : x.mo = 0) (hw : ¬ x.wy = 0) : Calls Try.prog 38 #[.agg (cfgA c), .agg (carA x)] w fun e w' => e = .returned (.bool true) ∧ Since w w' := by
  have HG := Lib.hid hg
  clear hg
  have HL := Lib.hid hl
  clear hl
  have HM := Lib.hid hm
  clear hm
  have HW := Lib.hid hw
  clear hw
  go_enter Try.func38, Try.ntmps38
  go_upto_region 1 with fail
  obtain ⟨w1, hw1⟩ : ∃ w1, w1 = ((w.alloc (.cells (cfgA c) 23)).alloc (.cells (carA x) 30)) := ⟨_, rfl⟩
  rw [← hw1]
  have HBC1 := Lib.hid (show Blk w1 (w.heap.size) 23 (cfgA c) by rw [hw1]; exact Blk.alloc (Blk.at_ (by (try simp only [size_alloc])) _ _) _)
  have HBX1 := Lib.hid (show Blk w1 (w.heap.size + 1) 30 (carA x) by rw [hw1]; exact Blk.at_ (by (try simp only [size_alloc])) _ _)
  have HS1 := Lib.hid (show Since w w1 by rw [hw1]; exact Since.alloc (Since.alloc (Since.refl w) _) _)
  have hNE : w.heap.size ≤ w.heap.size ∧ w.heap.size < w.heap.size + 1 := by omega
  have HNE := Lib.hid hNE
  clear hNE hw1
  generalize w.heap.size + 1 = bX at *
  have HNE3 := Lib.hid (show w.heap.size ≤ w.heap.size ∧ w.heap.size < bX from HNE.out)
  clear HNE
  refine wp_region_lit ?_
  refine tkL (.pointer (some ⟨bX, 2, none⟩)) (h := ?_)
  (try simp only [Act.put, sA, sB, sC])
  refine wpList_q (by rfl) (.int .i64 x.un) ?he ?_
  case he => exact exec_cell 3 _ _ HBX1.out rfl rfl rfl Try.underlying3 rfl
  (try simp only [Act.put, sA, sB, sC])
  refine wpList_wp (by rfl) (fun K hK => ?_)
  (try go_simp)
  refine (levelRV x.un false _ HL.out).mono ?_
  rintro e w' ⟨rfl, rfl⟩
  (try go_wp2_with fail)
  refine hK.out _ _ ?_
  clear hK K
  (try simp only [Act.put, sA, sB, sC])
  refine tkL (.tuple #[.int .i64 (lvN x.un), .bool false]) (h := ?_)
  (try simp only [Act.put, sA, sB, sC])
  refine tkL (.int .i64 (lvN x.un)) (h := ?_)
  (try simp only [Act.put, sA, sB, sC])
  refine tkL (.bool false) (h := ?_)
  (try simp only [Act.put, sA, sB, sC])
  refine tkL (.int .i64 (lvN x.un)) (h := ?_)
  (try simp only [Act.put, sA, sB, sC])
  refine tkL (.bool false) (h := ?_)
  (try simp only [Act.put, sA, sB, sC])
  refine wpList_nil ?_
  go_upto_region 2 with fail
  have hrK : ∀ W W' : World, Since W W' → (Since w W ∧ Blk W w.heap.size 23 (cfgA c) ∧ Blk W bX 30 (carA x)) → (Since w W' ∧ Blk W' w.heap.size 23 (cfgA c) ∧ Blk W' bX 30 (carA x)) := fun W W' k ⟨h, h0, h1⟩ => ⟨h.trans k, keep_blk k h0, keep_blk k h1⟩
  have hrS : (fun W : World => Since w W ∧ Blk W w.heap.size 23 (cfgA c) ∧ Blk W bX 30 (carA x)) w1 := ⟨HS1.out, HBC1.out, HBX1.out⟩
  have HRK := Lib.hid hrK
  have HRD := Lib.hid (show (fun W : World => Since w W ∧ Blk W w.heap.size 23 (cfgA c) ∧ Blk W bX 30 (carA x)) (World.drew w1) from hrK _ _ ((Since.refl w1).drew) hrS)
  clear hrK hrS
  refine wp_region_held_drew (S := fun W : World => Since w W ∧ Blk W w.heap.size 23 (cfgA c) ∧ Blk W bX 30 (carA x)) (by kernel_rfl) HRD.out (fun hHeld => ?_)
  refine tkQ 0 (.agg (cfgA c)) hHeld (he := by intro w hSw; exact exec_load_row 23 _ _ hSw.2.1 rfl rfl Try.underlying23 rfl (by kernel_rfl)) (h := ?_)
  (try simp only [Act.put, sA, sB, sC])
  refine tkQ 1 (.agg (carA x)) hHeld (he := by intro w hSw; exact exec_load_row 30 _ _ hSw.2.2 rfl rfl Try.underlying30 rfl (by kernel_rfl)) (h := ?_)
  (try simp only [Act.put, sA, sB, sC])
  refine wpAnyH_ready (rs := [2]) (by kernel_rfl) (by simp) ?_
  refine AllReadyH.cons (o := ?o2__2) ?h2__2 (fun K hK => ?_) AllReadyH.nil
  case h2__2 => (first | (simp only [gA, gB, gC]; done) | (simp only [gA, gB, gC]; exact rfl))
  (try go_simp)
  refine (goodRV c x true _ HG.out).mono ?_
  rintro e w2 ⟨rfl, hb⟩
  (try go_wp2_with fail)
  refine hK.out _ _ (by (apply HRK.out; exact hb; exact hHeld)) (fun hHeld2 => ?_)
  clear hK K hHeld hb
  have hHeld := hHeld2
  clear hHeld2
  (try simp only [Act.put, sA, sB, sC])
  refine tkQ 3 (.bool true) hHeld (h := ?_)
  (try simp only [Act.put, sA, sB, sC])
  refine tkQ 4 (.pointer (some ⟨bX, 9, none⟩)) hHeld (h := ?_)
  (try simp only [Act.put, sA, sB, sC])
  refine tkQ 5 (.int .i64 x.mo) hHeld (he := by intro w hSw; exact exec_cell 3 _ _ hSw.2.2 rfl rfl rfl Try.underlying3 rfl) (h := ?_)
  (try simp only [Act.put, sA, sB, sC])
  refine tkQ 6 (.bool true) hHeld (he := by intro w hSw; (have q0 := HM.out; go_simp; (first | done | rfl | omega))) (h := ?_)
  (try simp only [Act.put, sA, sB, sC])
  refine tkQ 7 (.bool true) hHeld (h := ?_)
  (try simp only [Act.put, sA, sB, sC])
  refine tkU 8 hHeld (h := ?_)
  (try simp only [Act.put, sA, sB, sC])
  refine tkU 9 hHeld (h := ?_)
  (try simp only [Act.put, sA, sB, sC])
  refine tkU 10 hHeld (h := ?_)
  (try simp only [Act.put, sA, sB, sC])
  refine tkQ 11 (.bool true) hHeld (h := ?_)
  (try simp only [Act.put, sA, sB, sC])
  refine tkQ 12 (.bool true) hHeld (h := ?_)
  (try simp only [Act.put, sA, sB, sC])
  refine tkQ 13 (.bool true) hHeld (h := ?_)
  (try simp only [Act.put, sA, sB, sC])
  refine tkQ 14 (.bool false) hHeld (h := ?_)
  (try simp only [Act.put, sA, sB, sC])
  refine tkQ 15 (.bool false) hHeld (h := ?_)
  (try simp only [Act.put, sA, sB, sC])
  refine tkQ 16 (.pointer (some ⟨bX, 3, none⟩)) hHeld (h := ?_)
  (try simp only [Act.put, sA, sB, sC])
  refine tkQ 17 (.int .i64 x.wy) hHeld (he := by intro w hSw; exact exec_cell 3 _ _ hSw.2.2 rfl rfl rfl Try.underlying3 rfl) (h := ?_)
  (try simp only [Act.put, sA, sB, sC])
  refine tkQ 18 (.bool true) hHeld (he := by intro w hSw; (have q0 := HW.out; go_simp; (first | done | rfl | omega))) (h := ?_)
  (try simp only [Act.put, sA, sB, sC])
  refine tkQ 19 (.bool true) hHeld (h := ?_)
  (try simp only [Act.put, sA, sB, sC])
  refine tkQ 20 (.bool true) hHeld (h := ?_)
  (try simp only [Act.put, sA, sB, sC])
  refine tkQ 21 (.bool true) hHeld (h := ?_)
  (try simp only [Act.put, sA, sB, sC])
  refine tkQ 22 (.pointer (some ⟨bX, 9, none⟩)) hHeld (h := ?_)
  (try simp only [Act.put, sA, sB, sC])
  refine tkQ 23 (.int .i64 x.mo) hHeld (he := by intro w hSw; exact exec_cell 3 _ _ hSw.2.2 rfl rfl rfl Try.underlying3 rfl) (h := ?_)
  (try simp only [Act.put, sA, sB, sC])
  refine tkQ 24 (.bool true) hHeld (he := by intro w hSw; (have q0 := HM.out; go_simp; (first | done | rfl | omega))) (h := ?_)
  (try simp only [Act.put, sA, sB, sC])
  refine tkQ 25 (.bool true) hHeld (h := ?_)
  (try simp only [Act.put, sA, sB, sC])
  refine tkU 26 hHeld (h := ?_)
  (try simp only [Act.put, sA, sB, sC])
  refine tkU 27 hHeld (h := ?_)
  (try simp only [Act.put, sA, sB, sC])
  refine tkU 28 hHeld (h := ?_)
  (try simp only [Act.put, sA, sB, sC])
  refine tkU 29 hHeld (h := ?_)
  (try simp only [Act.put, sA, sB, sC])
  refine tkU 30 hHeld (h := ?_)
  (try simp only [Act.put, sA, sB, sC])
  refine tkU 31 hHeld (h := ?_)
  (try simp only [Act.put, sA, sB, sC])
  refine tkU 32 hHeld (h := ?_)
  (try simp only [Act.put, sA, sB, sC])
  refine tkU 33 hHeld (h := ?_)
  (try simp only [Act.put, sA, sB, sC])
  refine tkU 34 hHeld (h := ?_)
  (try simp only [Act.put, sA, sB, sC])
  refine tkU 35 hHeld (h := ?_)
  (try simp only [Act.put, sA, sB, sC])
  refine tkU 36 hHeld (h := ?_)
  (try simp only [Act.put, sA, sB, sC])
  refine tkQ 37 (.bool true) hHeld (h := ?_)
  (try simp only [Act.put, sA, sB, sC])
  refine tkQ 38 (.bool true) hHeld (h := ?_)
  (try simp only [Act.put, sA, sB, sC])
  refine tkQ 39 (.bool true) hHeld (h := ?_)
  (try simp only [Act.put, sA, sB, sC])
  refine wpAnyH_done (by kernel_rfl) ?_ _
  have HSd2 := Lib.hid hHeld.1
  have HBCd2 := Lib.hid (hHeld.2.1)
  have HBXd2 := Lib.hid (hHeld.2.2)
  clear hHeld HRK HRD HS1 HBC1 HBX1
  (try go_wp2_with fail)
  go_ret
  exact ⟨rfl, HSd2.out⟩
set_option maxHeartbeats 4000000 in
theorem may_lfwa (c : CfgV) (x : CarV) (w : World) (hg : goodB c x = true) (hl : lvB x.un = false) (hm : x.mo = 1) (hw : ¬ x.wy = 0) (ht : ¬ 0 ≤ x.ta) : Calls Try.prog 38 #[.agg (cfgA c), .agg (carA x)] w fun e w' => e = .returned (.bool false) ∧ Since w w' := by
  have HG := Lib.hid hg
  clear hg
  have HL := Lib.hid hl
  clear hl
  have HM := Lib.hid hm
  clear hm
  have HW := Lib.hid hw
  clear hw
  have HT := Lib.hid ht
  clear ht
  go_enter Try.func38, Try.ntmps38
  go_upto_region 1 with fail
  obtain ⟨w1, hw1⟩ : ∃ w1, w1 = ((w.alloc (.cells (cfgA c) 23)).alloc (.cells (carA x) 30)) := ⟨_, rfl⟩
  rw [← hw1]
  have HBC1 := Lib.hid (show Blk w1 (w.heap.size) 23 (cfgA c) by rw [hw1]; exact Blk.alloc (Blk.at_ (by (try simp only [size_alloc])) _ _) _)
  have HBX1 := Lib.hid (show Blk w1 (w.heap.size + 1) 30 (carA x) by rw [hw1]; exact Blk.at_ (by (try simp only [size_alloc])) _ _)
  have HS1 := Lib.hid (show Since w w1 by rw [hw1]; exact Since.alloc (Since.alloc (Since.refl w) _) _)
  have hNE : w.heap.size ≤ w.heap.size ∧ w.heap.size < w.heap.size + 1 := by omega
  have HNE := Lib.hid hNE
  clear hNE hw1
  generalize w.heap.size + 1 = bX at *
  have HNE3 := Lib.hid (show w.heap.size ≤ w.heap.size ∧ w.heap.size < bX from HNE.out)
  clear HNE
  refine wp_region_lit ?_
  refine tkL (.pointer (some ⟨bX, 2, none⟩)) (h := ?_)
  (try simp only [Act.put, sA, sB, sC])
  refine wpList_q (by rfl) (.int .i64 x.un) ?he ?_
  case he => exact exec_cell 3 _ _ HBX1.out rfl rfl rfl Try.underlying3 rfl
  (try simp only [Act.put, sA, sB, sC])
  refine wpList_wp (by rfl) (fun K hK => ?_)
  (try go_simp)
  refine (levelRV x.un false _ HL.out).mono ?_
  rintro e w' ⟨rfl, rfl⟩
  (try go_wp2_with fail)
  refine hK.out _ _ ?_
  clear hK K
  (try simp only [Act.put, sA, sB, sC])
  refine tkL (.tuple #[.int .i64 (lvN x.un), .bool false]) (h := ?_)
  (try simp only [Act.put, sA, sB, sC])
  refine tkL (.int .i64 (lvN x.un)) (h := ?_)
  (try simp only [Act.put, sA, sB, sC])
  refine tkL (.bool false) (h := ?_)
  (try simp only [Act.put, sA, sB, sC])
  refine tkL (.int .i64 (lvN x.un)) (h := ?_)
  (try simp only [Act.put, sA, sB, sC])
  refine tkL (.bool false) (h := ?_)
  (try simp only [Act.put, sA, sB, sC])
  refine wpList_nil ?_
  go_upto_region 2 with fail
  have hrK : ∀ W W' : World, Since W W' → (Since w W ∧ Blk W w.heap.size 23 (cfgA c) ∧ Blk W bX 30 (carA x)) → (Since w W' ∧ Blk W' w.heap.size 23 (cfgA c) ∧ Blk W' bX 30 (carA x)) := fun W W' k ⟨h, h0, h1⟩ => ⟨h.trans k, keep_blk k h0, keep_blk k h1⟩
  have hrS : (fun W : World => Since w W ∧ Blk W w.heap.size 23 (cfgA c) ∧ Blk W bX 30 (carA x)) w1 := ⟨HS1.out, HBC1.out, HBX1.out⟩
  have HRK := Lib.hid hrK
  have HRD := Lib.hid (show (fun W : World => Since w W ∧ Blk W w.heap.size 23 (cfgA c) ∧ Blk W bX 30 (carA x)) (World.drew w1) from hrK _ _ ((Since.refl w1).drew) hrS)
  clear hrK hrS
  refine wp_region_held_drew (S := fun W : World => Since w W ∧ Blk W w.heap.size 23 (cfgA c) ∧ Blk W bX 30 (carA x)) (by kernel_rfl) HRD.out (fun hHeld => ?_)
  refine tkQ 0 (.agg (cfgA c)) hHeld (he := by intro w hSw; exact exec_load_row 23 _ _ hSw.2.1 rfl rfl Try.underlying23 rfl (by kernel_rfl)) (h := ?_)
  (try simp only [Act.put, sA, sB, sC])
  refine tkQ 1 (.agg (carA x)) hHeld (he := by intro w hSw; exact exec_load_row 30 _ _ hSw.2.2 rfl rfl Try.underlying30 rfl (by kernel_rfl)) (h := ?_)
  (try simp only [Act.put, sA, sB, sC])
  refine wpAnyH_ready (rs := [2]) (by kernel_rfl) (by simp) ?_
  refine AllReadyH.cons (o := ?o2__2) ?h2__2 (fun K hK => ?_) AllReadyH.nil
  case h2__2 => (first | (simp only [gA, gB, gC]; done) | (simp only [gA, gB, gC]; exact rfl))
  (try go_simp)
  refine (goodRV c x true _ HG.out).mono ?_
  rintro e w2 ⟨rfl, hb⟩
  (try go_wp2_with fail)
  refine hK.out _ _ (by (apply HRK.out; exact hb; exact hHeld)) (fun hHeld2 => ?_)
  clear hK K hHeld hb
  have hHeld := hHeld2
  clear hHeld2
  (try simp only [Act.put, sA, sB, sC])
  refine tkQ 3 (.bool true) hHeld (h := ?_)
  (try simp only [Act.put, sA, sB, sC])
  refine tkQ 4 (.pointer (some ⟨bX, 9, none⟩)) hHeld (h := ?_)
  (try simp only [Act.put, sA, sB, sC])
  refine tkQ 5 (.int .i64 x.mo) hHeld (he := by intro w hSw; exact exec_cell 3 _ _ hSw.2.2 rfl rfl rfl Try.underlying3 rfl) (h := ?_)
  (try simp only [Act.put, sA, sB, sC])
  refine tkQ 6 (.bool false) hHeld (he := by intro w hSw; (have q0 := HM.out; go_simp; (first | done | rfl | omega))) (h := ?_)
  (try simp only [Act.put, sA, sB, sC])
  refine tkQ 7 (.bool false) hHeld (h := ?_)
  (try simp only [Act.put, sA, sB, sC])
  refine tkQ 8 (.pointer (some ⟨bX, 9, none⟩)) hHeld (h := ?_)
  (try simp only [Act.put, sA, sB, sC])
  refine tkQ 9 (.int .i64 x.mo) hHeld (he := by intro w hSw; exact exec_cell 3 _ _ hSw.2.2 rfl rfl rfl Try.underlying3 rfl) (h := ?_)
  (try simp only [Act.put, sA, sB, sC])
  refine tkQ 10 (.bool true) hHeld (he := by intro w hSw; (have q0 := HM.out; go_simp; (first | done | rfl | omega))) (h := ?_)
  (try simp only [Act.put, sA, sB, sC])
  refine tkQ 11 (.bool true) hHeld (h := ?_)
  (try simp only [Act.put, sA, sB, sC])
  refine tkQ 12 (.bool true) hHeld (h := ?_)
  (try simp only [Act.put, sA, sB, sC])
  refine tkQ 13 (.bool true) hHeld (h := ?_)
  (try simp only [Act.put, sA, sB, sC])
  refine tkQ 14 (.bool false) hHeld (h := ?_)
  (try simp only [Act.put, sA, sB, sC])
  refine tkQ 15 (.bool false) hHeld (h := ?_)
  (try simp only [Act.put, sA, sB, sC])
  refine tkQ 16 (.pointer (some ⟨bX, 3, none⟩)) hHeld (h := ?_)
  (try simp only [Act.put, sA, sB, sC])
  refine tkQ 17 (.int .i64 x.wy) hHeld (he := by intro w hSw; exact exec_cell 3 _ _ hSw.2.2 rfl rfl rfl Try.underlying3 rfl) (h := ?_)
  (try simp only [Act.put, sA, sB, sC])
  refine tkQ 18 (.bool true) hHeld (he := by intro w hSw; (have q0 := HW.out; go_simp; (first | done | rfl | omega))) (h := ?_)
  (try simp only [Act.put, sA, sB, sC])
  refine tkQ 19 (.bool true) hHeld (h := ?_)
  (try simp only [Act.put, sA, sB, sC])
  refine tkQ 20 (.bool true) hHeld (h := ?_)
  (try simp only [Act.put, sA, sB, sC])
  refine tkQ 21 (.bool true) hHeld (h := ?_)
  (try simp only [Act.put, sA, sB, sC])
  refine tkQ 22 (.pointer (some ⟨bX, 9, none⟩)) hHeld (h := ?_)
  (try simp only [Act.put, sA, sB, sC])
  refine tkQ 23 (.int .i64 x.mo) hHeld (he := by intro w hSw; exact exec_cell 3 _ _ hSw.2.2 rfl rfl rfl Try.underlying3 rfl) (h := ?_)
  (try simp only [Act.put, sA, sB, sC])
  refine tkQ 24 (.bool false) hHeld (he := by intro w hSw; (have q0 := HM.out; go_simp; (first | done | rfl | omega))) (h := ?_)
  (try simp only [Act.put, sA, sB, sC])
  refine tkQ 25 (.bool false) hHeld (h := ?_)
  (try simp only [Act.put, sA, sB, sC])
  refine tkQ 26 (.pointer (some ⟨bX, 10, none⟩)) hHeld (h := ?_)
  (try simp only [Act.put, sA, sB, sC])
  refine tkQ 27 (.int .i64 x.ta) hHeld (he := by intro w hSw; exact exec_cell 3 _ _ hSw.2.2 rfl rfl rfl Try.underlying3 rfl) (h := ?_)
  (try simp only [Act.put, sA, sB, sC])
  refine tkQ 28 (.bool false) hHeld (he := by intro w hSw; (have q0 := HT.out; go_simp; (first | done | rfl | omega))) (h := ?_)
  (try simp only [Act.put, sA, sB, sC])
  refine tkQ 29 (.bool false) hHeld (h := ?_)
  (try simp only [Act.put, sA, sB, sC])
  refine tkU 30 hHeld (h := ?_)
  (try simp only [Act.put, sA, sB, sC])
  refine tkU 31 hHeld (h := ?_)
  (try simp only [Act.put, sA, sB, sC])
  refine tkU 32 hHeld (h := ?_)
  (try simp only [Act.put, sA, sB, sC])
  refine tkU 33 hHeld (h := ?_)
  (try simp only [Act.put, sA, sB, sC])
  refine tkU 34 hHeld (h := ?_)
  (try simp only [Act.put, sA, sB, sC])
  refine tkU 35 hHeld (h := ?_)
  (try simp only [Act.put, sA, sB, sC])
  refine tkQ 36 (.bool false) hHeld (h := ?_)
  (try simp only [Act.put, sA, sB, sC])
  refine tkQ 37 (.bool false) hHeld (h := ?_)
  (try simp only [Act.put, sA, sB, sC])
  refine tkQ 38 (.bool false) hHeld (h := ?_)
  (try simp only [Act.put, sA, sB, sC])
  refine tkQ 39 (.bool false) hHeld (h := ?_)
  (try simp only [Act.put, sA, sB, sC])
  refine wpAnyH_done (by kernel_rfl) ?_ _
  have HSd2 := Lib.hid hHeld.1
  have HBCd2 := Lib.hid (hHeld.2.1)
  have HBXd2 := Lib.hid (hHeld.2.2)
  clear hHeld HRK HRD HS1 HBC1 HBX1
  (try go_wp2_with fail)
  go_ret
  exact ⟨rfl, HSd2.out⟩
set_option maxHeartbeats 4000000 in
theorem may_lfwb (c : CfgV) (x : CarV) (w : World) (hg : goodB c x = true) (hl : lvB x.un = false) (hm : x.mo = 1) (hw : ¬ x.wy = 0) (ht : 0 ≤ x.ta) (ht2 : ¬ x.ta < fl c.fl) : Calls Try.prog 38 #[.agg (cfgA c), .agg (carA x)] w fun e w' => e = .returned (.bool false) ∧ Since w w' := by
  have HG := Lib.hid hg
  clear hg
  have HL := Lib.hid hl
  clear hl
  have HM := Lib.hid hm
  clear hm
  have HW := Lib.hid hw
  clear hw
  have HT := Lib.hid ht
  clear ht
  have HT2 := Lib.hid ht2
  clear ht2
  go_enter Try.func38, Try.ntmps38
  go_upto_region 1 with fail
  obtain ⟨w1, hw1⟩ : ∃ w1, w1 = ((w.alloc (.cells (cfgA c) 23)).alloc (.cells (carA x) 30)) := ⟨_, rfl⟩
  rw [← hw1]
  have HBC1 := Lib.hid (show Blk w1 (w.heap.size) 23 (cfgA c) by rw [hw1]; exact Blk.alloc (Blk.at_ (by (try simp only [size_alloc])) _ _) _)
  have HBX1 := Lib.hid (show Blk w1 (w.heap.size + 1) 30 (carA x) by rw [hw1]; exact Blk.at_ (by (try simp only [size_alloc])) _ _)
  have HS1 := Lib.hid (show Since w w1 by rw [hw1]; exact Since.alloc (Since.alloc (Since.refl w) _) _)
  have hNE : w.heap.size ≤ w.heap.size ∧ w.heap.size < w.heap.size + 1 := by omega
  have HNE := Lib.hid hNE
  clear hNE hw1
  generalize w.heap.size + 1 = bX at *
  have HNE3 := Lib.hid (show w.heap.size ≤ w.heap.size ∧ w.heap.size < bX from HNE.out)
  clear HNE
  refine wp_region_lit ?_
  refine tkL (.pointer (some ⟨bX, 2, none⟩)) (h := ?_)
  (try simp only [Act.put, sA, sB, sC])
  refine wpList_q (by rfl) (.int .i64 x.un) ?he ?_
  case he => exact exec_cell 3 _ _ HBX1.out rfl rfl rfl Try.underlying3 rfl
  (try simp only [Act.put, sA, sB, sC])
  refine wpList_wp (by rfl) (fun K hK => ?_)
  (try go_simp)
  refine (levelRV x.un false _ HL.out).mono ?_
  rintro e w' ⟨rfl, rfl⟩
  (try go_wp2_with fail)
  refine hK.out _ _ ?_
  clear hK K
  (try simp only [Act.put, sA, sB, sC])
  refine tkL (.tuple #[.int .i64 (lvN x.un), .bool false]) (h := ?_)
  (try simp only [Act.put, sA, sB, sC])
  refine tkL (.int .i64 (lvN x.un)) (h := ?_)
  (try simp only [Act.put, sA, sB, sC])
  refine tkL (.bool false) (h := ?_)
  (try simp only [Act.put, sA, sB, sC])
  refine tkL (.int .i64 (lvN x.un)) (h := ?_)
  (try simp only [Act.put, sA, sB, sC])
  refine tkL (.bool false) (h := ?_)
  (try simp only [Act.put, sA, sB, sC])
  refine wpList_nil ?_
  go_upto_region 2 with fail
  have hrK : ∀ W W' : World, Since W W' → (Since w W ∧ Blk W w.heap.size 23 (cfgA c) ∧ Blk W bX 30 (carA x)) → (Since w W' ∧ Blk W' w.heap.size 23 (cfgA c) ∧ Blk W' bX 30 (carA x)) := fun W W' k ⟨h, h0, h1⟩ => ⟨h.trans k, keep_blk k h0, keep_blk k h1⟩
  have hrS : (fun W : World => Since w W ∧ Blk W w.heap.size 23 (cfgA c) ∧ Blk W bX 30 (carA x)) w1 := ⟨HS1.out, HBC1.out, HBX1.out⟩
  have HRK := Lib.hid hrK
  have HRD := Lib.hid (show (fun W : World => Since w W ∧ Blk W w.heap.size 23 (cfgA c) ∧ Blk W bX 30 (carA x)) (World.drew w1) from hrK _ _ ((Since.refl w1).drew) hrS)
  clear hrK hrS
  refine wp_region_held_drew (S := fun W : World => Since w W ∧ Blk W w.heap.size 23 (cfgA c) ∧ Blk W bX 30 (carA x)) (by kernel_rfl) HRD.out (fun hHeld => ?_)
  refine tkQ 0 (.agg (cfgA c)) hHeld (he := by intro w hSw; exact exec_load_row 23 _ _ hSw.2.1 rfl rfl Try.underlying23 rfl (by kernel_rfl)) (h := ?_)
  (try simp only [Act.put, sA, sB, sC])
  refine tkQ 1 (.agg (carA x)) hHeld (he := by intro w hSw; exact exec_load_row 30 _ _ hSw.2.2 rfl rfl Try.underlying30 rfl (by kernel_rfl)) (h := ?_)
  (try simp only [Act.put, sA, sB, sC])
  refine wpAnyH_ready (rs := [2]) (by kernel_rfl) (by simp) ?_
  refine AllReadyH.cons (o := ?o2__2) ?h2__2 (fun K hK => ?_) AllReadyH.nil
  case h2__2 => (first | (simp only [gA, gB, gC]; done) | (simp only [gA, gB, gC]; exact rfl))
  (try go_simp)
  refine (goodRV c x true _ HG.out).mono ?_
  rintro e w2 ⟨rfl, hb⟩
  (try go_wp2_with fail)
  refine hK.out _ _ (by (apply HRK.out; exact hb; exact hHeld)) (fun hHeld2 => ?_)
  clear hK K hHeld hb
  have hHeld := hHeld2
  clear hHeld2
  (try simp only [Act.put, sA, sB, sC])
  refine tkQ 3 (.bool true) hHeld (h := ?_)
  (try simp only [Act.put, sA, sB, sC])
  refine tkQ 4 (.pointer (some ⟨bX, 9, none⟩)) hHeld (h := ?_)
  (try simp only [Act.put, sA, sB, sC])
  refine tkQ 5 (.int .i64 x.mo) hHeld (he := by intro w hSw; exact exec_cell 3 _ _ hSw.2.2 rfl rfl rfl Try.underlying3 rfl) (h := ?_)
  (try simp only [Act.put, sA, sB, sC])
  refine tkQ 6 (.bool false) hHeld (he := by intro w hSw; (have q0 := HM.out; go_simp; (first | done | rfl | omega))) (h := ?_)
  (try simp only [Act.put, sA, sB, sC])
  refine tkQ 7 (.bool false) hHeld (h := ?_)
  (try simp only [Act.put, sA, sB, sC])
  refine tkQ 8 (.pointer (some ⟨bX, 9, none⟩)) hHeld (h := ?_)
  (try simp only [Act.put, sA, sB, sC])
  refine tkQ 9 (.int .i64 x.mo) hHeld (he := by intro w hSw; exact exec_cell 3 _ _ hSw.2.2 rfl rfl rfl Try.underlying3 rfl) (h := ?_)
  (try simp only [Act.put, sA, sB, sC])
  refine tkQ 10 (.bool true) hHeld (he := by intro w hSw; (have q0 := HM.out; go_simp; (first | done | rfl | omega))) (h := ?_)
  (try simp only [Act.put, sA, sB, sC])
  refine tkQ 11 (.bool true) hHeld (h := ?_)
  (try simp only [Act.put, sA, sB, sC])
  refine tkQ 12 (.bool true) hHeld (h := ?_)
  (try simp only [Act.put, sA, sB, sC])
  refine tkQ 13 (.bool true) hHeld (h := ?_)
  (try simp only [Act.put, sA, sB, sC])
  refine tkQ 14 (.bool false) hHeld (h := ?_)
  (try simp only [Act.put, sA, sB, sC])
  refine tkQ 15 (.bool false) hHeld (h := ?_)
  (try simp only [Act.put, sA, sB, sC])
  refine tkQ 16 (.pointer (some ⟨bX, 3, none⟩)) hHeld (h := ?_)
  (try simp only [Act.put, sA, sB, sC])
  refine tkQ 17 (.int .i64 x.wy) hHeld (he := by intro w hSw; exact exec_cell 3 _ _ hSw.2.2 rfl rfl rfl Try.underlying3 rfl) (h := ?_)
  (try simp only [Act.put, sA, sB, sC])
  refine tkQ 18 (.bool true) hHeld (he := by intro w hSw; (have q0 := HW.out; go_simp; (first | done | rfl | omega))) (h := ?_)
  (try simp only [Act.put, sA, sB, sC])
  refine tkQ 19 (.bool true) hHeld (h := ?_)
  (try simp only [Act.put, sA, sB, sC])
  refine tkQ 20 (.bool true) hHeld (h := ?_)
  (try simp only [Act.put, sA, sB, sC])
  refine tkQ 21 (.bool true) hHeld (h := ?_)
  (try simp only [Act.put, sA, sB, sC])
  refine tkQ 22 (.pointer (some ⟨bX, 9, none⟩)) hHeld (h := ?_)
  (try simp only [Act.put, sA, sB, sC])
  refine tkQ 23 (.int .i64 x.mo) hHeld (he := by intro w hSw; exact exec_cell 3 _ _ hSw.2.2 rfl rfl rfl Try.underlying3 rfl) (h := ?_)
  (try simp only [Act.put, sA, sB, sC])
  refine tkQ 24 (.bool false) hHeld (he := by intro w hSw; (have q0 := HM.out; go_simp; (first | done | rfl | omega))) (h := ?_)
  (try simp only [Act.put, sA, sB, sC])
  refine tkQ 25 (.bool false) hHeld (h := ?_)
  (try simp only [Act.put, sA, sB, sC])
  refine tkQ 26 (.pointer (some ⟨bX, 10, none⟩)) hHeld (h := ?_)
  (try simp only [Act.put, sA, sB, sC])
  refine tkQ 27 (.int .i64 x.ta) hHeld (he := by intro w hSw; exact exec_cell 3 _ _ hSw.2.2 rfl rfl rfl Try.underlying3 rfl) (h := ?_)
  (try simp only [Act.put, sA, sB, sC])
  refine tkQ 28 (.bool true) hHeld (he := by intro w hSw; (have q0 := HT.out; go_simp; (first | done | rfl | omega))) (h := ?_)
  (try simp only [Act.put, sA, sB, sC])
  refine tkQ 29 (.bool true) hHeld (h := ?_)
  (try simp only [Act.put, sA, sB, sC])
  refine tkQ 30 (.pointer (some ⟨bX, 10, none⟩)) hHeld (h := ?_)
  (try simp only [Act.put, sA, sB, sC])
  refine tkQ 31 (.int .i64 x.ta) hHeld (he := by intro w hSw; exact exec_cell 3 _ _ hSw.2.2 rfl rfl rfl Try.underlying3 rfl) (h := ?_)
  (try simp only [Act.put, sA, sB, sC])
  refine tkQ 32 (.pointer (some ⟨w.heap.size, 1, none⟩)) hHeld (h := ?_)
  (try simp only [Act.put, sA, sB, sC])
  refine tkQ 33 (.int .i64 c.fl) hHeld (he := by intro w hSw; exact exec_cell 3 _ _ hSw.2.1 rfl rfl rfl Try.underlying3 rfl) (h := ?_)
  (try simp only [Act.put, sA, sB, sC])
  refine wpAnyH_ready (rs := [34]) (by kernel_rfl) (by simp) ?_
  refine AllReadyH.cons (o := ?o2__34) ?h2__34 (fun K hK => ?_) AllReadyH.nil
  case h2__34 => (first | (simp only [gA, gB, gC]; done) | (simp only [gA, gB, gC]; exact rfl))
  (try go_simp)
  refine (floorsR c.fl _).mono ?_
  rintro e w' ⟨rfl, rfl⟩
  (try go_wp2_with fail)
  refine hK.out _ _ hHeld (fun hHeld2 => ?_)
  clear hK K hHeld2
  (try simp only [Act.put, sA, sB, sC])
  refine tkQ 35 (.bool false) hHeld (he := by intro w hSw; (have q0 := HT2.out; go_simp; (first | done | rfl | omega))) (h := ?_)
  (try simp only [Act.put, sA, sB, sC])
  refine tkQ 36 (.bool false) hHeld (h := ?_)
  (try simp only [Act.put, sA, sB, sC])
  refine tkQ 37 (.bool false) hHeld (h := ?_)
  (try simp only [Act.put, sA, sB, sC])
  refine tkQ 38 (.bool false) hHeld (h := ?_)
  (try simp only [Act.put, sA, sB, sC])
  refine tkQ 39 (.bool false) hHeld (h := ?_)
  (try simp only [Act.put, sA, sB, sC])
  refine wpAnyH_done (by kernel_rfl) ?_ _
  have HSd2 := Lib.hid hHeld.1
  have HBCd2 := Lib.hid (hHeld.2.1)
  have HBXd2 := Lib.hid (hHeld.2.2)
  clear hHeld HRK HRD HS1 HBC1 HBX1
  (try go_wp2_with fail)
  go_ret
  exact ⟨rfl, HSd2.out⟩
set_option maxHeartbeats 4000000 in
theorem may_lfwc (c : CfgV) (x : CarV) (w : World) (hg : goodB c x = true) (hl : lvB x.un = false) (hm : x.mo = 1) (hw : ¬ x.wy = 0) (ht : 0 ≤ x.ta) (ht2 : x.ta < fl c.fl) : Calls Try.prog 38 #[.agg (cfgA c), .agg (carA x)] w fun e w' => e = .returned (.bool true) ∧ Since w w' := by
  have HG := Lib.hid hg
  clear hg
  have HL := Lib.hid hl
  clear hl
  have HM := Lib.hid hm
  clear hm
  have HW := Lib.hid hw
  clear hw
  have HT := Lib.hid ht
  clear ht
  have HT2 := Lib.hid ht2
  clear ht2
  go_enter Try.func38, Try.ntmps38
  go_upto_region 1 with fail
  obtain ⟨w1, hw1⟩ : ∃ w1, w1 = ((w.alloc (.cells (cfgA c) 23)).alloc (.cells (carA x) 30)) := ⟨_, rfl⟩
  rw [← hw1]
  have HBC1 := Lib.hid (show Blk w1 (w.heap.size) 23 (cfgA c) by rw [hw1]; exact Blk.alloc (Blk.at_ (by (try simp only [size_alloc])) _ _) _)
  have HBX1 := Lib.hid (show Blk w1 (w.heap.size + 1) 30 (carA x) by rw [hw1]; exact Blk.at_ (by (try simp only [size_alloc])) _ _)
  have HS1 := Lib.hid (show Since w w1 by rw [hw1]; exact Since.alloc (Since.alloc (Since.refl w) _) _)
  have hNE : w.heap.size ≤ w.heap.size ∧ w.heap.size < w.heap.size + 1 := by omega
  have HNE := Lib.hid hNE
  clear hNE hw1
  generalize w.heap.size + 1 = bX at *
  have HNE3 := Lib.hid (show w.heap.size ≤ w.heap.size ∧ w.heap.size < bX from HNE.out)
  clear HNE
  refine wp_region_lit ?_
  refine tkL (.pointer (some ⟨bX, 2, none⟩)) (h := ?_)
  (try simp only [Act.put, sA, sB, sC])
  refine wpList_q (by rfl) (.int .i64 x.un) ?he ?_
  case he => exact exec_cell 3 _ _ HBX1.out rfl rfl rfl Try.underlying3 rfl
  (try simp only [Act.put, sA, sB, sC])
  refine wpList_wp (by rfl) (fun K hK => ?_)
  (try go_simp)
  refine (levelRV x.un false _ HL.out).mono ?_
  rintro e w' ⟨rfl, rfl⟩
  (try go_wp2_with fail)
  refine hK.out _ _ ?_
  clear hK K
  (try simp only [Act.put, sA, sB, sC])
  refine tkL (.tuple #[.int .i64 (lvN x.un), .bool false]) (h := ?_)
  (try simp only [Act.put, sA, sB, sC])
  refine tkL (.int .i64 (lvN x.un)) (h := ?_)
  (try simp only [Act.put, sA, sB, sC])
  refine tkL (.bool false) (h := ?_)
  (try simp only [Act.put, sA, sB, sC])
  refine tkL (.int .i64 (lvN x.un)) (h := ?_)
  (try simp only [Act.put, sA, sB, sC])
  refine tkL (.bool false) (h := ?_)
  (try simp only [Act.put, sA, sB, sC])
  refine wpList_nil ?_
  go_upto_region 2 with fail
  have hrK : ∀ W W' : World, Since W W' → (Since w W ∧ Blk W w.heap.size 23 (cfgA c) ∧ Blk W bX 30 (carA x)) → (Since w W' ∧ Blk W' w.heap.size 23 (cfgA c) ∧ Blk W' bX 30 (carA x)) := fun W W' k ⟨h, h0, h1⟩ => ⟨h.trans k, keep_blk k h0, keep_blk k h1⟩
  have hrS : (fun W : World => Since w W ∧ Blk W w.heap.size 23 (cfgA c) ∧ Blk W bX 30 (carA x)) w1 := ⟨HS1.out, HBC1.out, HBX1.out⟩
  have HRK := Lib.hid hrK
  have HRD := Lib.hid (show (fun W : World => Since w W ∧ Blk W w.heap.size 23 (cfgA c) ∧ Blk W bX 30 (carA x)) (World.drew w1) from hrK _ _ ((Since.refl w1).drew) hrS)
  clear hrK hrS
  refine wp_region_held_drew (S := fun W : World => Since w W ∧ Blk W w.heap.size 23 (cfgA c) ∧ Blk W bX 30 (carA x)) (by kernel_rfl) HRD.out (fun hHeld => ?_)
  refine tkQ 0 (.agg (cfgA c)) hHeld (he := by intro w hSw; exact exec_load_row 23 _ _ hSw.2.1 rfl rfl Try.underlying23 rfl (by kernel_rfl)) (h := ?_)
  (try simp only [Act.put, sA, sB, sC])
  refine tkQ 1 (.agg (carA x)) hHeld (he := by intro w hSw; exact exec_load_row 30 _ _ hSw.2.2 rfl rfl Try.underlying30 rfl (by kernel_rfl)) (h := ?_)
  (try simp only [Act.put, sA, sB, sC])
  refine wpAnyH_ready (rs := [2]) (by kernel_rfl) (by simp) ?_
  refine AllReadyH.cons (o := ?o2__2) ?h2__2 (fun K hK => ?_) AllReadyH.nil
  case h2__2 => (first | (simp only [gA, gB, gC]; done) | (simp only [gA, gB, gC]; exact rfl))
  (try go_simp)
  refine (goodRV c x true _ HG.out).mono ?_
  rintro e w2 ⟨rfl, hb⟩
  (try go_wp2_with fail)
  refine hK.out _ _ (by (apply HRK.out; exact hb; exact hHeld)) (fun hHeld2 => ?_)
  clear hK K hHeld hb
  have hHeld := hHeld2
  clear hHeld2
  (try simp only [Act.put, sA, sB, sC])
  refine tkQ 3 (.bool true) hHeld (h := ?_)
  (try simp only [Act.put, sA, sB, sC])
  refine tkQ 4 (.pointer (some ⟨bX, 9, none⟩)) hHeld (h := ?_)
  (try simp only [Act.put, sA, sB, sC])
  refine tkQ 5 (.int .i64 x.mo) hHeld (he := by intro w hSw; exact exec_cell 3 _ _ hSw.2.2 rfl rfl rfl Try.underlying3 rfl) (h := ?_)
  (try simp only [Act.put, sA, sB, sC])
  refine tkQ 6 (.bool false) hHeld (he := by intro w hSw; (have q0 := HM.out; go_simp; (first | done | rfl | omega))) (h := ?_)
  (try simp only [Act.put, sA, sB, sC])
  refine tkQ 7 (.bool false) hHeld (h := ?_)
  (try simp only [Act.put, sA, sB, sC])
  refine tkQ 8 (.pointer (some ⟨bX, 9, none⟩)) hHeld (h := ?_)
  (try simp only [Act.put, sA, sB, sC])
  refine tkQ 9 (.int .i64 x.mo) hHeld (he := by intro w hSw; exact exec_cell 3 _ _ hSw.2.2 rfl rfl rfl Try.underlying3 rfl) (h := ?_)
  (try simp only [Act.put, sA, sB, sC])
  refine tkQ 10 (.bool true) hHeld (he := by intro w hSw; (have q0 := HM.out; go_simp; (first | done | rfl | omega))) (h := ?_)
  (try simp only [Act.put, sA, sB, sC])
  refine tkQ 11 (.bool true) hHeld (h := ?_)
  (try simp only [Act.put, sA, sB, sC])
  refine tkQ 12 (.bool true) hHeld (h := ?_)
  (try simp only [Act.put, sA, sB, sC])
  refine tkQ 13 (.bool true) hHeld (h := ?_)
  (try simp only [Act.put, sA, sB, sC])
  refine tkQ 14 (.bool false) hHeld (h := ?_)
  (try simp only [Act.put, sA, sB, sC])
  refine tkQ 15 (.bool false) hHeld (h := ?_)
  (try simp only [Act.put, sA, sB, sC])
  refine tkQ 16 (.pointer (some ⟨bX, 3, none⟩)) hHeld (h := ?_)
  (try simp only [Act.put, sA, sB, sC])
  refine tkQ 17 (.int .i64 x.wy) hHeld (he := by intro w hSw; exact exec_cell 3 _ _ hSw.2.2 rfl rfl rfl Try.underlying3 rfl) (h := ?_)
  (try simp only [Act.put, sA, sB, sC])
  refine tkQ 18 (.bool true) hHeld (he := by intro w hSw; (have q0 := HW.out; go_simp; (first | done | rfl | omega))) (h := ?_)
  (try simp only [Act.put, sA, sB, sC])
  refine tkQ 19 (.bool true) hHeld (h := ?_)
  (try simp only [Act.put, sA, sB, sC])
  refine tkQ 20 (.bool true) hHeld (h := ?_)
  (try simp only [Act.put, sA, sB, sC])
  refine tkQ 21 (.bool true) hHeld (h := ?_)
  (try simp only [Act.put, sA, sB, sC])
  refine tkQ 22 (.pointer (some ⟨bX, 9, none⟩)) hHeld (h := ?_)
  (try simp only [Act.put, sA, sB, sC])
  refine tkQ 23 (.int .i64 x.mo) hHeld (he := by intro w hSw; exact exec_cell 3 _ _ hSw.2.2 rfl rfl rfl Try.underlying3 rfl) (h := ?_)
  (try simp only [Act.put, sA, sB, sC])
  refine tkQ 24 (.bool false) hHeld (he := by intro w hSw; (have q0 := HM.out; go_simp; (first | done | rfl | omega))) (h := ?_)
  (try simp only [Act.put, sA, sB, sC])
  refine tkQ 25 (.bool false) hHeld (h := ?_)
  (try simp only [Act.put, sA, sB, sC])
  refine tkQ 26 (.pointer (some ⟨bX, 10, none⟩)) hHeld (h := ?_)
  (try simp only [Act.put, sA, sB, sC])
  refine tkQ 27 (.int .i64 x.ta) hHeld (he := by intro w hSw; exact exec_cell 3 _ _ hSw.2.2 rfl rfl rfl Try.underlying3 rfl) (h := ?_)
  (try simp only [Act.put, sA, sB, sC])
  refine tkQ 28 (.bool true) hHeld (he := by intro w hSw; (have q0 := HT.out; go_simp; (first | done | rfl | omega))) (h := ?_)
  (try simp only [Act.put, sA, sB, sC])
  refine tkQ 29 (.bool true) hHeld (h := ?_)
  (try simp only [Act.put, sA, sB, sC])
  refine tkQ 30 (.pointer (some ⟨bX, 10, none⟩)) hHeld (h := ?_)
  (try simp only [Act.put, sA, sB, sC])
  refine tkQ 31 (.int .i64 x.ta) hHeld (he := by intro w hSw; exact exec_cell 3 _ _ hSw.2.2 rfl rfl rfl Try.underlying3 rfl) (h := ?_)
  (try simp only [Act.put, sA, sB, sC])
  refine tkQ 32 (.pointer (some ⟨w.heap.size, 1, none⟩)) hHeld (h := ?_)
  (try simp only [Act.put, sA, sB, sC])
  refine tkQ 33 (.int .i64 c.fl) hHeld (he := by intro w hSw; exact exec_cell 3 _ _ hSw.2.1 rfl rfl rfl Try.underlying3 rfl) (h := ?_)
  (try simp only [Act.put, sA, sB, sC])
  refine wpAnyH_ready (rs := [34]) (by kernel_rfl) (by simp) ?_
  refine AllReadyH.cons (o := ?o2__34) ?h2__34 (fun K hK => ?_) AllReadyH.nil
  case h2__34 => (first | (simp only [gA, gB, gC]; done) | (simp only [gA, gB, gC]; exact rfl))
  (try go_simp)
  refine (floorsR c.fl _).mono ?_
  rintro e w' ⟨rfl, rfl⟩
  (try go_wp2_with fail)
  refine hK.out _ _ hHeld (fun hHeld2 => ?_)
  clear hK K hHeld2
  (try simp only [Act.put, sA, sB, sC])
  refine tkQ 35 (.bool true) hHeld (he := by intro w hSw; (have q0 := HT2.out; go_simp; (first | done | rfl | omega))) (h := ?_)
  (try simp only [Act.put, sA, sB, sC])
  refine tkQ 36 (.bool true) hHeld (h := ?_)
  (try simp only [Act.put, sA, sB, sC])
  refine tkQ 37 (.bool true) hHeld (h := ?_)
  (try simp only [Act.put, sA, sB, sC])
  refine tkQ 38 (.bool true) hHeld (h := ?_)
  (try simp only [Act.put, sA, sB, sC])
  refine tkQ 39 (.bool true) hHeld (h := ?_)
  (try simp only [Act.put, sA, sB, sC])
  refine wpAnyH_done (by kernel_rfl) ?_ _
  have HSd2 := Lib.hid hHeld.1
  have HBCd2 := Lib.hid (hHeld.2.1)
  have HBXd2 := Lib.hid (hHeld.2.2)
  clear hHeld HRK HRD HS1 HBC1 HBX1
  (try go_wp2_with fail)
  go_ret
  exact ⟨rfl, HSd2.out⟩
set_option maxHeartbeats 4000000 in
theorem may_nfz (c : CfgV) (x : CarV) (w : World) (hg : goodB c x = true) (hl : lvB x.un = false) (hm : x.mo = 0) (hw : x.wy = 0) : Calls Try.prog 38 #[.agg (cfgA c), .agg (carA x)] w fun e w' => e = .returned (.bool false) ∧ Since w w' := by
  have HG := Lib.hid hg
  clear hg
  have HL := Lib.hid hl
  clear hl
  have HM := Lib.hid hm
  clear hm
  have HW := Lib.hid hw
  clear hw
  go_enter Try.func38, Try.ntmps38
  go_upto_region 1 with fail
  obtain ⟨w1, hw1⟩ : ∃ w1, w1 = ((w.alloc (.cells (cfgA c) 23)).alloc (.cells (carA x) 30)) := ⟨_, rfl⟩
  rw [← hw1]
  have HBC1 := Lib.hid (show Blk w1 (w.heap.size) 23 (cfgA c) by rw [hw1]; exact Blk.alloc (Blk.at_ (by (try simp only [size_alloc])) _ _) _)
  have HBX1 := Lib.hid (show Blk w1 (w.heap.size + 1) 30 (carA x) by rw [hw1]; exact Blk.at_ (by (try simp only [size_alloc])) _ _)
  have HS1 := Lib.hid (show Since w w1 by rw [hw1]; exact Since.alloc (Since.alloc (Since.refl w) _) _)
  have hNE : w.heap.size ≤ w.heap.size ∧ w.heap.size < w.heap.size + 1 := by omega
  have HNE := Lib.hid hNE
  clear hNE hw1
  generalize w.heap.size + 1 = bX at *
  have HNE3 := Lib.hid (show w.heap.size ≤ w.heap.size ∧ w.heap.size < bX from HNE.out)
  clear HNE
  refine wp_region_lit ?_
  refine tkL (.pointer (some ⟨bX, 2, none⟩)) (h := ?_)
  (try simp only [Act.put, sA, sB, sC])
  refine wpList_q (by rfl) (.int .i64 x.un) ?he ?_
  case he => exact exec_cell 3 _ _ HBX1.out rfl rfl rfl Try.underlying3 rfl
  (try simp only [Act.put, sA, sB, sC])
  refine wpList_wp (by rfl) (fun K hK => ?_)
  (try go_simp)
  refine (levelRV x.un false _ HL.out).mono ?_
  rintro e w' ⟨rfl, rfl⟩
  (try go_wp2_with fail)
  refine hK.out _ _ ?_
  clear hK K
  (try simp only [Act.put, sA, sB, sC])
  refine tkL (.tuple #[.int .i64 (lvN x.un), .bool false]) (h := ?_)
  (try simp only [Act.put, sA, sB, sC])
  refine tkL (.int .i64 (lvN x.un)) (h := ?_)
  (try simp only [Act.put, sA, sB, sC])
  refine tkL (.bool false) (h := ?_)
  (try simp only [Act.put, sA, sB, sC])
  refine tkL (.int .i64 (lvN x.un)) (h := ?_)
  (try simp only [Act.put, sA, sB, sC])
  refine tkL (.bool false) (h := ?_)
  (try simp only [Act.put, sA, sB, sC])
  refine wpList_nil ?_
  go_upto_region 2 with fail
  have hrK : ∀ W W' : World, Since W W' → (Since w W ∧ Blk W w.heap.size 23 (cfgA c) ∧ Blk W bX 30 (carA x)) → (Since w W' ∧ Blk W' w.heap.size 23 (cfgA c) ∧ Blk W' bX 30 (carA x)) := fun W W' k ⟨h, h0, h1⟩ => ⟨h.trans k, keep_blk k h0, keep_blk k h1⟩
  have hrS : (fun W : World => Since w W ∧ Blk W w.heap.size 23 (cfgA c) ∧ Blk W bX 30 (carA x)) w1 := ⟨HS1.out, HBC1.out, HBX1.out⟩
  have HRK := Lib.hid hrK
  have HRD := Lib.hid (show (fun W : World => Since w W ∧ Blk W w.heap.size 23 (cfgA c) ∧ Blk W bX 30 (carA x)) (World.drew w1) from hrK _ _ ((Since.refl w1).drew) hrS)
  clear hrK hrS
  refine wp_region_held_drew (S := fun W : World => Since w W ∧ Blk W w.heap.size 23 (cfgA c) ∧ Blk W bX 30 (carA x)) (by kernel_rfl) HRD.out (fun hHeld => ?_)
  refine tkQ 0 (.agg (cfgA c)) hHeld (he := by intro w hSw; exact exec_load_row 23 _ _ hSw.2.1 rfl rfl Try.underlying23 rfl (by kernel_rfl)) (h := ?_)
  (try simp only [Act.put, sA, sB, sC])
  refine tkQ 1 (.agg (carA x)) hHeld (he := by intro w hSw; exact exec_load_row 30 _ _ hSw.2.2 rfl rfl Try.underlying30 rfl (by kernel_rfl)) (h := ?_)
  (try simp only [Act.put, sA, sB, sC])
  refine wpAnyH_ready (rs := [2]) (by kernel_rfl) (by simp) ?_
  refine AllReadyH.cons (o := ?o2__2) ?h2__2 (fun K hK => ?_) AllReadyH.nil
  case h2__2 => (first | (simp only [gA, gB, gC]; done) | (simp only [gA, gB, gC]; exact rfl))
  (try go_simp)
  refine (goodRV c x true _ HG.out).mono ?_
  rintro e w2 ⟨rfl, hb⟩
  (try go_wp2_with fail)
  refine hK.out _ _ (by (apply HRK.out; exact hb; exact hHeld)) (fun hHeld2 => ?_)
  clear hK K hHeld hb
  have hHeld := hHeld2
  clear hHeld2
  (try simp only [Act.put, sA, sB, sC])
  refine tkQ 3 (.bool true) hHeld (h := ?_)
  (try simp only [Act.put, sA, sB, sC])
  refine tkQ 4 (.pointer (some ⟨bX, 9, none⟩)) hHeld (h := ?_)
  (try simp only [Act.put, sA, sB, sC])
  refine tkQ 5 (.int .i64 x.mo) hHeld (he := by intro w hSw; exact exec_cell 3 _ _ hSw.2.2 rfl rfl rfl Try.underlying3 rfl) (h := ?_)
  (try simp only [Act.put, sA, sB, sC])
  refine tkQ 6 (.bool true) hHeld (he := by intro w hSw; (have q0 := HM.out; go_simp; (first | done | rfl | omega))) (h := ?_)
  (try simp only [Act.put, sA, sB, sC])
  refine tkQ 7 (.bool true) hHeld (h := ?_)
  (try simp only [Act.put, sA, sB, sC])
  refine tkU 8 hHeld (h := ?_)
  (try simp only [Act.put, sA, sB, sC])
  refine tkU 9 hHeld (h := ?_)
  (try simp only [Act.put, sA, sB, sC])
  refine tkU 10 hHeld (h := ?_)
  (try simp only [Act.put, sA, sB, sC])
  refine tkQ 11 (.bool true) hHeld (h := ?_)
  (try simp only [Act.put, sA, sB, sC])
  refine tkQ 12 (.bool true) hHeld (h := ?_)
  (try simp only [Act.put, sA, sB, sC])
  refine tkQ 13 (.bool true) hHeld (h := ?_)
  (try simp only [Act.put, sA, sB, sC])
  refine tkQ 14 (.bool false) hHeld (h := ?_)
  (try simp only [Act.put, sA, sB, sC])
  refine tkQ 15 (.bool false) hHeld (h := ?_)
  (try simp only [Act.put, sA, sB, sC])
  refine tkQ 16 (.pointer (some ⟨bX, 3, none⟩)) hHeld (h := ?_)
  (try simp only [Act.put, sA, sB, sC])
  refine tkQ 17 (.int .i64 x.wy) hHeld (he := by intro w hSw; exact exec_cell 3 _ _ hSw.2.2 rfl rfl rfl Try.underlying3 rfl) (h := ?_)
  (try simp only [Act.put, sA, sB, sC])
  refine tkQ 18 (.bool false) hHeld (he := by intro w hSw; (have q0 := HW.out; go_simp; (first | done | rfl | omega))) (h := ?_)
  (try simp only [Act.put, sA, sB, sC])
  refine tkQ 19 (.bool false) hHeld (h := ?_)
  (try simp only [Act.put, sA, sB, sC])
  refine tkQ 20 (.bool false) hHeld (h := ?_)
  (try simp only [Act.put, sA, sB, sC])
  refine tkQ 21 (.bool false) hHeld (h := ?_)
  (try simp only [Act.put, sA, sB, sC])
  refine tkU 22 hHeld (h := ?_)
  (try simp only [Act.put, sA, sB, sC])
  refine tkU 23 hHeld (h := ?_)
  (try simp only [Act.put, sA, sB, sC])
  refine tkU 24 hHeld (h := ?_)
  (try simp only [Act.put, sA, sB, sC])
  refine tkU 25 hHeld (h := ?_)
  (try simp only [Act.put, sA, sB, sC])
  refine tkU 26 hHeld (h := ?_)
  (try simp only [Act.put, sA, sB, sC])
  refine tkU 27 hHeld (h := ?_)
  (try simp only [Act.put, sA, sB, sC])
  refine tkU 28 hHeld (h := ?_)
  (try simp only [Act.put, sA, sB, sC])
  refine tkU 29 hHeld (h := ?_)
  (try simp only [Act.put, sA, sB, sC])
  refine tkU 30 hHeld (h := ?_)
  (try simp only [Act.put, sA, sB, sC])
  refine tkU 31 hHeld (h := ?_)
  (try simp only [Act.put, sA, sB, sC])
  refine tkU 32 hHeld (h := ?_)
  (try simp only [Act.put, sA, sB, sC])
  refine tkU 33 hHeld (h := ?_)
  (try simp only [Act.put, sA, sB, sC])
  refine tkU 34 hHeld (h := ?_)
  (try simp only [Act.put, sA, sB, sC])
  refine tkU 35 hHeld (h := ?_)
  (try simp only [Act.put, sA, sB, sC])
  refine tkU 36 hHeld (h := ?_)
  (try simp only [Act.put, sA, sB, sC])
  refine tkU 37 hHeld (h := ?_)
  (try simp only [Act.put, sA, sB, sC])
  refine tkQ 38 (.bool false) hHeld (h := ?_)
  (try simp only [Act.put, sA, sB, sC])
  refine tkQ 39 (.bool false) hHeld (h := ?_)
  (try simp only [Act.put, sA, sB, sC])
  refine wpAnyH_done (by kernel_rfl) ?_ _
  have HSd2 := Lib.hid hHeld.1
  have HBCd2 := Lib.hid (hHeld.2.1)
  have HBXd2 := Lib.hid (hHeld.2.2)
  clear hHeld HRK HRD HS1 HBC1 HBX1
  (try go_wp2_with fail)
  go_ret
  exact ⟨rfl, HSd2.out⟩
set_option maxHeartbeats 4000000 in
theorem may_lfz (c : CfgV) (x : CarV) (w : World) (hg : goodB c x = true) (hl : lvB x.un = false) (hm : x.mo = 1) (hw : x.wy = 0) : Calls Try.prog 38 #[.agg (cfgA c), .agg (carA x)] w fun e w' => e = .returned (.bool false) ∧ Since w w' := by
  have HG := Lib.hid hg
  clear hg
  have HL := Lib.hid hl
  clear hl
  have HM := Lib.hid hm
  clear hm
  have HW := Lib.hid hw
  clear hw
  go_enter Try.func38, Try.ntmps38
  go_upto_region 1 with fail
  obtain ⟨w1, hw1⟩ : ∃ w1, w1 = ((w.alloc (.cells (cfgA c) 23)).alloc (.cells (carA x) 30)) := ⟨_, rfl⟩
  rw [← hw1]
  have HBC1 := Lib.hid (show Blk w1 (w.heap.size) 23 (cfgA c) by rw [hw1]; exact Blk.alloc (Blk.at_ (by (try simp only [size_alloc])) _ _) _)
  have HBX1 := Lib.hid (show Blk w1 (w.heap.size + 1) 30 (carA x) by rw [hw1]; exact Blk.at_ (by (try simp only [size_alloc])) _ _)
  have HS1 := Lib.hid (show Since w w1 by rw [hw1]; exact Since.alloc (Since.alloc (Since.refl w) _) _)
  have hNE : w.heap.size ≤ w.heap.size ∧ w.heap.size < w.heap.size + 1 := by omega
  have HNE := Lib.hid hNE
  clear hNE hw1
  generalize w.heap.size + 1 = bX at *
  have HNE3 := Lib.hid (show w.heap.size ≤ w.heap.size ∧ w.heap.size < bX from HNE.out)
  clear HNE
  refine wp_region_lit ?_
  refine tkL (.pointer (some ⟨bX, 2, none⟩)) (h := ?_)
  (try simp only [Act.put, sA, sB, sC])
  refine wpList_q (by rfl) (.int .i64 x.un) ?he ?_
  case he => exact exec_cell 3 _ _ HBX1.out rfl rfl rfl Try.underlying3 rfl
  (try simp only [Act.put, sA, sB, sC])
  refine wpList_wp (by rfl) (fun K hK => ?_)
  (try go_simp)
  refine (levelRV x.un false _ HL.out).mono ?_
  rintro e w' ⟨rfl, rfl⟩
  (try go_wp2_with fail)
  refine hK.out _ _ ?_
  clear hK K
  (try simp only [Act.put, sA, sB, sC])
  refine tkL (.tuple #[.int .i64 (lvN x.un), .bool false]) (h := ?_)
  (try simp only [Act.put, sA, sB, sC])
  refine tkL (.int .i64 (lvN x.un)) (h := ?_)
  (try simp only [Act.put, sA, sB, sC])
  refine tkL (.bool false) (h := ?_)
  (try simp only [Act.put, sA, sB, sC])
  refine tkL (.int .i64 (lvN x.un)) (h := ?_)
  (try simp only [Act.put, sA, sB, sC])
  refine tkL (.bool false) (h := ?_)
  (try simp only [Act.put, sA, sB, sC])
  refine wpList_nil ?_
  go_upto_region 2 with fail
  have hrK : ∀ W W' : World, Since W W' → (Since w W ∧ Blk W w.heap.size 23 (cfgA c) ∧ Blk W bX 30 (carA x)) → (Since w W' ∧ Blk W' w.heap.size 23 (cfgA c) ∧ Blk W' bX 30 (carA x)) := fun W W' k ⟨h, h0, h1⟩ => ⟨h.trans k, keep_blk k h0, keep_blk k h1⟩
  have hrS : (fun W : World => Since w W ∧ Blk W w.heap.size 23 (cfgA c) ∧ Blk W bX 30 (carA x)) w1 := ⟨HS1.out, HBC1.out, HBX1.out⟩
  have HRK := Lib.hid hrK
  have HRD := Lib.hid (show (fun W : World => Since w W ∧ Blk W w.heap.size 23 (cfgA c) ∧ Blk W bX 30 (carA x)) (World.drew w1) from hrK _ _ ((Since.refl w1).drew) hrS)
  clear hrK hrS
  refine wp_region_held_drew (S := fun W : World => Since w W ∧ Blk W w.heap.size 23 (cfgA c) ∧ Blk W bX 30 (carA x)) (by kernel_rfl) HRD.out (fun hHeld => ?_)
  refine tkQ 0 (.agg (cfgA c)) hHeld (he := by intro w hSw; exact exec_load_row 23 _ _ hSw.2.1 rfl rfl Try.underlying23 rfl (by kernel_rfl)) (h := ?_)
  (try simp only [Act.put, sA, sB, sC])
  refine tkQ 1 (.agg (carA x)) hHeld (he := by intro w hSw; exact exec_load_row 30 _ _ hSw.2.2 rfl rfl Try.underlying30 rfl (by kernel_rfl)) (h := ?_)
  (try simp only [Act.put, sA, sB, sC])
  refine wpAnyH_ready (rs := [2]) (by kernel_rfl) (by simp) ?_
  refine AllReadyH.cons (o := ?o2__2) ?h2__2 (fun K hK => ?_) AllReadyH.nil
  case h2__2 => (first | (simp only [gA, gB, gC]; done) | (simp only [gA, gB, gC]; exact rfl))
  (try go_simp)
  refine (goodRV c x true _ HG.out).mono ?_
  rintro e w2 ⟨rfl, hb⟩
  (try go_wp2_with fail)
  refine hK.out _ _ (by (apply HRK.out; exact hb; exact hHeld)) (fun hHeld2 => ?_)
  clear hK K hHeld hb
  have hHeld := hHeld2
  clear hHeld2
  (try simp only [Act.put, sA, sB, sC])
  refine tkQ 3 (.bool true) hHeld (h := ?_)
  (try simp only [Act.put, sA, sB, sC])
  refine tkQ 4 (.pointer (some ⟨bX, 9, none⟩)) hHeld (h := ?_)
  (try simp only [Act.put, sA, sB, sC])
  refine tkQ 5 (.int .i64 x.mo) hHeld (he := by intro w hSw; exact exec_cell 3 _ _ hSw.2.2 rfl rfl rfl Try.underlying3 rfl) (h := ?_)
  (try simp only [Act.put, sA, sB, sC])
  refine tkQ 6 (.bool false) hHeld (he := by intro w hSw; (have q0 := HM.out; go_simp; (first | done | rfl | omega))) (h := ?_)
  (try simp only [Act.put, sA, sB, sC])
  refine tkQ 7 (.bool false) hHeld (h := ?_)
  (try simp only [Act.put, sA, sB, sC])
  refine tkQ 8 (.pointer (some ⟨bX, 9, none⟩)) hHeld (h := ?_)
  (try simp only [Act.put, sA, sB, sC])
  refine tkQ 9 (.int .i64 x.mo) hHeld (he := by intro w hSw; exact exec_cell 3 _ _ hSw.2.2 rfl rfl rfl Try.underlying3 rfl) (h := ?_)
  (try simp only [Act.put, sA, sB, sC])
  refine tkQ 10 (.bool true) hHeld (he := by intro w hSw; (have q0 := HM.out; go_simp; (first | done | rfl | omega))) (h := ?_)
  (try simp only [Act.put, sA, sB, sC])
  refine tkQ 11 (.bool true) hHeld (h := ?_)
  (try simp only [Act.put, sA, sB, sC])
  refine tkQ 12 (.bool true) hHeld (h := ?_)
  (try simp only [Act.put, sA, sB, sC])
  refine tkQ 13 (.bool true) hHeld (h := ?_)
  (try simp only [Act.put, sA, sB, sC])
  refine tkQ 14 (.bool false) hHeld (h := ?_)
  (try simp only [Act.put, sA, sB, sC])
  refine tkQ 15 (.bool false) hHeld (h := ?_)
  (try simp only [Act.put, sA, sB, sC])
  refine tkQ 16 (.pointer (some ⟨bX, 3, none⟩)) hHeld (h := ?_)
  (try simp only [Act.put, sA, sB, sC])
  refine tkQ 17 (.int .i64 x.wy) hHeld (he := by intro w hSw; exact exec_cell 3 _ _ hSw.2.2 rfl rfl rfl Try.underlying3 rfl) (h := ?_)
  (try simp only [Act.put, sA, sB, sC])
  refine tkQ 18 (.bool false) hHeld (he := by intro w hSw; (have q0 := HW.out; go_simp; (first | done | rfl | omega))) (h := ?_)
  (try simp only [Act.put, sA, sB, sC])
  refine tkQ 19 (.bool false) hHeld (h := ?_)
  (try simp only [Act.put, sA, sB, sC])
  refine tkQ 20 (.bool false) hHeld (h := ?_)
  (try simp only [Act.put, sA, sB, sC])
  refine tkQ 21 (.bool false) hHeld (h := ?_)
  (try simp only [Act.put, sA, sB, sC])
  refine tkU 22 hHeld (h := ?_)
  (try simp only [Act.put, sA, sB, sC])
  refine tkU 23 hHeld (h := ?_)
  (try simp only [Act.put, sA, sB, sC])
  refine tkU 24 hHeld (h := ?_)
  (try simp only [Act.put, sA, sB, sC])
  refine tkU 25 hHeld (h := ?_)
  (try simp only [Act.put, sA, sB, sC])
  refine tkU 26 hHeld (h := ?_)
  (try simp only [Act.put, sA, sB, sC])
  refine tkU 27 hHeld (h := ?_)
  (try simp only [Act.put, sA, sB, sC])
  refine tkU 28 hHeld (h := ?_)
  (try simp only [Act.put, sA, sB, sC])
  refine tkU 29 hHeld (h := ?_)
  (try simp only [Act.put, sA, sB, sC])
  refine tkU 30 hHeld (h := ?_)
  (try simp only [Act.put, sA, sB, sC])
  refine tkU 31 hHeld (h := ?_)
  (try simp only [Act.put, sA, sB, sC])
  refine tkU 32 hHeld (h := ?_)
  (try simp only [Act.put, sA, sB, sC])
  refine tkU 33 hHeld (h := ?_)
  (try simp only [Act.put, sA, sB, sC])
  refine tkU 34 hHeld (h := ?_)
  (try simp only [Act.put, sA, sB, sC])
  refine tkU 35 hHeld (h := ?_)
  (try simp only [Act.put, sA, sB, sC])
  refine tkU 36 hHeld (h := ?_)
  (try simp only [Act.put, sA, sB, sC])
  refine tkU 37 hHeld (h := ?_)
  (try simp only [Act.put, sA, sB, sC])
  refine tkQ 38 (.bool false) hHeld (h := ?_)
  (try simp only [Act.put, sA, sB, sC])
  refine tkQ 39 (.bool false) hHeld (h := ?_)
  (try simp only [Act.put, sA, sB, sC])
  refine wpAnyH_done (by kernel_rfl) ?_ _
  have HSd2 := Lib.hid hHeld.1
  have HBCd2 := Lib.hid (hHeld.2.1)
  have HBXd2 := Lib.hid (hHeld.2.2)
  clear hHeld HRK HRD HS1 HBC1 HBX1
  (try go_wp2_with fail)
  go_ret
  exact ⟨rfl, HSd2.out⟩
set_option maxHeartbeats 4000000 in
theorem may_of (c : CfgV) (x : CarV) (w : World) (hg : goodB c x = true) (hl : lvB x.un = false) (hm : ¬ x.mo = 0) (hm2 : ¬ x.mo = 1) : Calls Try.prog 38 #[.agg (cfgA c), .agg (carA x)] w fun e w' => e = .returned (.bool false) ∧ Since w w' := by
  have HG := Lib.hid hg
  clear hg
  have HL := Lib.hid hl
  clear hl
  have HM := Lib.hid hm
  clear hm
  have HM2 := Lib.hid hm2
  clear hm2
  go_enter Try.func38, Try.ntmps38
  go_upto_region 1 with fail
  obtain ⟨w1, hw1⟩ : ∃ w1, w1 = ((w.alloc (.cells (cfgA c) 23)).alloc (.cells (carA x) 30)) := ⟨_, rfl⟩
  rw [← hw1]
  have HBC1 := Lib.hid (show Blk w1 (w.heap.size) 23 (cfgA c) by rw [hw1]; exact Blk.alloc (Blk.at_ (by (try simp only [size_alloc])) _ _) _)
  have HBX1 := Lib.hid (show Blk w1 (w.heap.size + 1) 30 (carA x) by rw [hw1]; exact Blk.at_ (by (try simp only [size_alloc])) _ _)
  have HS1 := Lib.hid (show Since w w1 by rw [hw1]; exact Since.alloc (Since.alloc (Since.refl w) _) _)
  have hNE : w.heap.size ≤ w.heap.size ∧ w.heap.size < w.heap.size + 1 := by omega
  have HNE := Lib.hid hNE
  clear hNE hw1
  generalize w.heap.size + 1 = bX at *
  have HNE3 := Lib.hid (show w.heap.size ≤ w.heap.size ∧ w.heap.size < bX from HNE.out)
  clear HNE
  refine wp_region_lit ?_
  refine tkL (.pointer (some ⟨bX, 2, none⟩)) (h := ?_)
  (try simp only [Act.put, sA, sB, sC])
  refine wpList_q (by rfl) (.int .i64 x.un) ?he ?_
  case he => exact exec_cell 3 _ _ HBX1.out rfl rfl rfl Try.underlying3 rfl
  (try simp only [Act.put, sA, sB, sC])
  refine wpList_wp (by rfl) (fun K hK => ?_)
  (try go_simp)
  refine (levelRV x.un false _ HL.out).mono ?_
  rintro e w' ⟨rfl, rfl⟩
  (try go_wp2_with fail)
  refine hK.out _ _ ?_
  clear hK K
  (try simp only [Act.put, sA, sB, sC])
  refine tkL (.tuple #[.int .i64 (lvN x.un), .bool false]) (h := ?_)
  (try simp only [Act.put, sA, sB, sC])
  refine tkL (.int .i64 (lvN x.un)) (h := ?_)
  (try simp only [Act.put, sA, sB, sC])
  refine tkL (.bool false) (h := ?_)
  (try simp only [Act.put, sA, sB, sC])
  refine tkL (.int .i64 (lvN x.un)) (h := ?_)
  (try simp only [Act.put, sA, sB, sC])
  refine tkL (.bool false) (h := ?_)
  (try simp only [Act.put, sA, sB, sC])
  refine wpList_nil ?_
  go_upto_region 2 with fail
  have hrK : ∀ W W' : World, Since W W' → (Since w W ∧ Blk W w.heap.size 23 (cfgA c) ∧ Blk W bX 30 (carA x)) → (Since w W' ∧ Blk W' w.heap.size 23 (cfgA c) ∧ Blk W' bX 30 (carA x)) := fun W W' k ⟨h, h0, h1⟩ => ⟨h.trans k, keep_blk k h0, keep_blk k h1⟩
  have hrS : (fun W : World => Since w W ∧ Blk W w.heap.size 23 (cfgA c) ∧ Blk W bX 30 (carA x)) w1 := ⟨HS1.out, HBC1.out, HBX1.out⟩
  have HRK := Lib.hid hrK
  have HRD := Lib.hid (show (fun W : World => Since w W ∧ Blk W w.heap.size 23 (cfgA c) ∧ Blk W bX 30 (carA x)) (World.drew w1) from hrK _ _ ((Since.refl w1).drew) hrS)
  clear hrK hrS
  refine wp_region_held_drew (S := fun W : World => Since w W ∧ Blk W w.heap.size 23 (cfgA c) ∧ Blk W bX 30 (carA x)) (by kernel_rfl) HRD.out (fun hHeld => ?_)
  refine tkQ 0 (.agg (cfgA c)) hHeld (he := by intro w hSw; exact exec_load_row 23 _ _ hSw.2.1 rfl rfl Try.underlying23 rfl (by kernel_rfl)) (h := ?_)
  (try simp only [Act.put, sA, sB, sC])
  refine tkQ 1 (.agg (carA x)) hHeld (he := by intro w hSw; exact exec_load_row 30 _ _ hSw.2.2 rfl rfl Try.underlying30 rfl (by kernel_rfl)) (h := ?_)
  (try simp only [Act.put, sA, sB, sC])
  refine wpAnyH_ready (rs := [2]) (by kernel_rfl) (by simp) ?_
  refine AllReadyH.cons (o := ?o2__2) ?h2__2 (fun K hK => ?_) AllReadyH.nil
  case h2__2 => (first | (simp only [gA, gB, gC]; done) | (simp only [gA, gB, gC]; exact rfl))
  (try go_simp)
  refine (goodRV c x true _ HG.out).mono ?_
  rintro e w2 ⟨rfl, hb⟩
  (try go_wp2_with fail)
  refine hK.out _ _ (by (apply HRK.out; exact hb; exact hHeld)) (fun hHeld2 => ?_)
  clear hK K hHeld hb
  have hHeld := hHeld2
  clear hHeld2
  (try simp only [Act.put, sA, sB, sC])
  refine tkQ 3 (.bool true) hHeld (h := ?_)
  (try simp only [Act.put, sA, sB, sC])
  refine tkQ 4 (.pointer (some ⟨bX, 9, none⟩)) hHeld (h := ?_)
  (try simp only [Act.put, sA, sB, sC])
  refine tkQ 5 (.int .i64 x.mo) hHeld (he := by intro w hSw; exact exec_cell 3 _ _ hSw.2.2 rfl rfl rfl Try.underlying3 rfl) (h := ?_)
  (try simp only [Act.put, sA, sB, sC])
  refine tkQ 6 (.bool false) hHeld (he := by intro w hSw; (have q0 := HM.out; go_simp; (first | done | rfl | omega))) (h := ?_)
  (try simp only [Act.put, sA, sB, sC])
  refine tkQ 7 (.bool false) hHeld (h := ?_)
  (try simp only [Act.put, sA, sB, sC])
  refine tkQ 8 (.pointer (some ⟨bX, 9, none⟩)) hHeld (h := ?_)
  (try simp only [Act.put, sA, sB, sC])
  refine tkQ 9 (.int .i64 x.mo) hHeld (he := by intro w hSw; exact exec_cell 3 _ _ hSw.2.2 rfl rfl rfl Try.underlying3 rfl) (h := ?_)
  (try simp only [Act.put, sA, sB, sC])
  refine tkQ 10 (.bool false) hHeld (he := by intro w hSw; (have q0 := HM2.out; go_simp; (first | done | rfl | omega))) (h := ?_)
  (try simp only [Act.put, sA, sB, sC])
  refine tkQ 11 (.bool false) hHeld (h := ?_)
  (try simp only [Act.put, sA, sB, sC])
  refine tkQ 12 (.bool false) hHeld (h := ?_)
  (try simp only [Act.put, sA, sB, sC])
  refine tkQ 13 (.bool false) hHeld (h := ?_)
  (try simp only [Act.put, sA, sB, sC])
  refine tkU 14 hHeld (h := ?_)
  (try simp only [Act.put, sA, sB, sC])
  refine tkU 15 hHeld (h := ?_)
  (try simp only [Act.put, sA, sB, sC])
  refine tkU 16 hHeld (h := ?_)
  (try simp only [Act.put, sA, sB, sC])
  refine tkU 17 hHeld (h := ?_)
  (try simp only [Act.put, sA, sB, sC])
  refine tkU 18 hHeld (h := ?_)
  (try simp only [Act.put, sA, sB, sC])
  refine tkU 19 hHeld (h := ?_)
  (try simp only [Act.put, sA, sB, sC])
  refine tkQ 20 (.bool false) hHeld (h := ?_)
  (try simp only [Act.put, sA, sB, sC])
  refine tkQ 21 (.bool false) hHeld (h := ?_)
  (try simp only [Act.put, sA, sB, sC])
  refine tkU 22 hHeld (h := ?_)
  (try simp only [Act.put, sA, sB, sC])
  refine tkU 23 hHeld (h := ?_)
  (try simp only [Act.put, sA, sB, sC])
  refine tkU 24 hHeld (h := ?_)
  (try simp only [Act.put, sA, sB, sC])
  refine tkU 25 hHeld (h := ?_)
  (try simp only [Act.put, sA, sB, sC])
  refine tkU 26 hHeld (h := ?_)
  (try simp only [Act.put, sA, sB, sC])
  refine tkU 27 hHeld (h := ?_)
  (try simp only [Act.put, sA, sB, sC])
  refine tkU 28 hHeld (h := ?_)
  (try simp only [Act.put, sA, sB, sC])
  refine tkU 29 hHeld (h := ?_)
  (try simp only [Act.put, sA, sB, sC])
  refine tkU 30 hHeld (h := ?_)
  (try simp only [Act.put, sA, sB, sC])
  refine tkU 31 hHeld (h := ?_)
  (try simp only [Act.put, sA, sB, sC])
  refine tkU 32 hHeld (h := ?_)
  (try simp only [Act.put, sA, sB, sC])
  refine tkU 33 hHeld (h := ?_)
  (try simp only [Act.put, sA, sB, sC])
  refine tkU 34 hHeld (h := ?_)
  (try simp only [Act.put, sA, sB, sC])
  refine tkU 35 hHeld (h := ?_)
  (try simp only [Act.put, sA, sB, sC])
  refine tkU 36 hHeld (h := ?_)
  (try simp only [Act.put, sA, sB, sC])
  refine tkU 37 hHeld (h := ?_)
  (try simp only [Act.put, sA, sB, sC])
  refine tkQ 38 (.bool false) hHeld (h := ?_)
  (try simp only [Act.put, sA, sB, sC])
  refine tkQ 39 (.bool false) hHeld (h := ?_)
  (try simp only [Act.put, sA, sB, sC])
  refine wpAnyH_done (by kernel_rfl) ?_ _
  have HSd2 := Lib.hid hHeld.1
  have HBCd2 := Lib.hid (hHeld.2.1)
  have HBXd2 := Lib.hid (hHeld.2.2)
  clear hHeld HRK HRD HS1 HBC1 HBX1
  (try go_wp2_with fail)
  go_ret
  exact ⟨rfl, HSd2.out⟩
theorem mayT (c : CfgV) (x : CarV) (w : World) : Calls Try.prog 38 #[.agg (cfgA c), .agg (carA x)] w fun e w' => e = .returned (.bool (mayB c x)) ∧ Since w w' := by
  have no : ¬ (goodB c x = true ∧ (x.mo = 0 ∨ x.mo = 1) ∧ (lvB x.un = true ∨ ¬ x.wy = 0) ∧ (¬ x.mo = 1 ∨ (0 ≤ x.ta ∧ x.ta < fl c.fl))) → mayB c x = false := fun h => Bool.eq_false_iff.2 (fun k => h ((mayB_iff c x).1 k))
  have ye := (mayB_iff c x).2
  cases hl : lvB x.un with
  | true =>
    cases hg : goodB c x with
    | false => rw [no (by rw [hg]; simp)]; exact may_badt c x w hg hl
    | true =>
      by_cases h0 : x.mo = 0
      · rw [ye ⟨hg, .inl h0, .inl hl, .inl (by omega)⟩]; exact may_nt c x w hg hl h0
      · by_cases h1 : x.mo = 1
        · by_cases t0 : 0 ≤ x.ta
          · by_cases t1 : x.ta < fl c.fl
            · rw [ye ⟨hg, .inr h1, .inl hl, .inr ⟨t0, t1⟩⟩]; exact may_ltc c x w hg hl h1 t0 t1
            · rw [no (by omega)]; exact may_ltb c x w hg hl h1 t0 t1
          · rw [no (by omega)]; exact may_lta c x w hg hl h1 t0
        · rw [no (by omega)]; exact may_ot c x w hg hl h0 h1
  | false =>
    cases hg : goodB c x with
    | false => rw [no (by rw [hg]; simp)]; exact may_badf c x w hg hl
    | true =>
      by_cases h0 : x.mo = 0
      · by_cases hw : x.wy = 0
        · rw [no (by rw [hl]; simp [hw])]; exact may_nfz c x w hg hl h0 hw
        · rw [ye ⟨hg, .inl h0, .inr hw, .inl (by omega)⟩]; exact may_nfw c x w hg hl h0 hw
      · by_cases h1 : x.mo = 1
        · by_cases hw : x.wy = 0
          · rw [no (by rw [hl]; simp [hw])]; exact may_lfz c x w hg hl h1 hw
          · by_cases t0 : 0 ≤ x.ta
            · by_cases t1 : x.ta < fl c.fl
              · rw [ye ⟨hg, .inr h1, .inr hw, .inr ⟨t0, t1⟩⟩]; exact may_lfwc c x w hg hl h1 hw t0 t1
              · rw [no (by omega)]; exact may_lfwb c x w hg hl h1 hw t0 t1
            · rw [no (by omega)]; exact may_lfwa c x w hg hl h1 hw t0
        · rw [no (by omega)]; exact may_of c x w hg hl h0 h1
end Go.Proofs.Ytdbbacpofgjgoaa.Ct
