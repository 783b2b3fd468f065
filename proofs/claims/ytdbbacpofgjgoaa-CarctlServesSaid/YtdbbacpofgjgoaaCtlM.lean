/-
  carctl's Idle and Stop, the reference's MayTick: walked.
  Conditions: what stands ahead of each.
-/
import Derived.Test.YtdbbacpofgjgoaaProg
import Derived.Test.YtdbbacpofgjgoaaShort
import Derived.Test.YtdbbacpofgjgoaaCtlMath
import Derived.Test.YtdbbacpofgjgoaaPlaGcar
import Derived.Test.YtdbbacpofgjgoaaStoCnt
import Derived.Test.YtdbbacpofgjgoaaCtlB
namespace Go.Proofs.Ytdbbacpofgjgoaa.Ct
set_option linter.unusedVariables false
set_option linter.unusedSimpArgs false
open Go.RowKit Go.Proofs.Ytdbbacpofgjgoaa.Ba Go.Proofs.Ytdbbacpofgjgoaa.Mem Go.Proofs.Ytdbbacpofgjgoaa.Ty Go.Proofs.Ytdbbacpofgjgoaa.Mo Go.Proofs.Ytdbbacpofgjgoaa.St Go.Proofs.Ytdbbacpofgjgoaa.Sc Go.Proofs.Ytdbbacpofgjgoaa.Pl
set_option maxRecDepth 100000
attribute [local irreducible] Go.wpList
set_option maxHeartbeats 4000000 in
theorem stopT (x : CarV) (w : World) : Calls Try.prog 64 #[.agg (carA x)] w fun e w' => e = .returned (.int .i64 x.ti) ∧ Since w w' := by
  go_enter Try.func64, Try.ntmps64
  go_upto_region 1 with fail
  obtain ⟨w1, hw1⟩ : ∃ w1, w1 = (w.alloc (.cells (carA x) 30)) := ⟨_, rfl⟩
  rw [← hw1]
  have HBX1 := Lib.hid (show Blk w1 (w.heap.size) 30 (carA x) by rw [hw1]; exact Blk.at_ (by (try simp only [size_alloc])) _ _)
  have HS1 := Lib.hid (show Since w w1 by rw [hw1]; exact Since.alloc (Since.refl w) _)
  have hNE : w.heap.size ≤ w.heap.size := by omega
  have HNE := Lib.hid hNE
  clear hNE hw1
  have HNE3 := Lib.hid (show w.heap.size ≤ w.heap.size from HNE.out)
  clear HNE
  refine wp_region_lit ?_
  refine tkL (.pointer (some ⟨w.heap.size, 4, none⟩)) (h := ?_)
  (try simp only [Act.put, sA, sB, sC])
  refine wpList_q (by rfl) (.int .i64 x.ti) ?he ?_
  case he => exact exec_cell 3 _ _ HBX1.out rfl rfl rfl Try.underlying3 rfl
  (try simp only [Act.put, sA, sB, sC])
  refine tkL (.int .i64 x.ti) (h := ?_)
  (try simp only [Act.put, sA, sB, sC])
  refine wpList_nil ?_
  (try go_wp2_with fail)
  go_ret
  exact ⟨rfl, HS1.out⟩
set_option maxHeartbeats 4000000 in
theorem idleY (x : CarV) (w : World) (hmo : x.mo = 0) (hbr : x.br = false) (hl : lvB x.un = true) (hds : x.ds = 0) (hwy : x.wy = 0) (hp : R x.sp) (hu : R x.su) (hd : R x.sd) (hc : cn x.sp + cn x.su + cn x.sd = 0) : Calls Try.prog 43 #[.agg (carA x)] w fun e w' => e = .returned (.bool true) ∧ Since w w' := by
  have HMO := Lib.hid hmo
  clear hmo
  have HBR := Lib.hid hbr
  clear hbr
  have HL := Lib.hid hl
  clear hl
  have HDS := Lib.hid hds
  clear hds
  have HWY := Lib.hid hwy
  clear hwy
  have HP := Lib.hid hp
  clear hp
  have HU := Lib.hid hu
  clear hu
  have HD := Lib.hid hd
  clear hd
  have HC := Lib.hid hc
  clear hc
  go_enter Try.func43, Try.ntmps43
  go_upto_region 1 with fail
  obtain ⟨w1, hw1⟩ : ∃ w1, w1 = (w.alloc (.cells (carA x) 30)) := ⟨_, rfl⟩
  rw [← hw1]
  have HBX1 := Lib.hid (show Blk w1 (w.heap.size) 30 (carA x) by rw [hw1]; exact Blk.at_ (by (try simp only [size_alloc])) _ _)
  have HS1 := Lib.hid (show Since w w1 by rw [hw1]; exact Since.alloc (Since.refl w) _)
  have hNE : w.heap.size ≤ w.heap.size := by omega
  have HNE := Lib.hid hNE
  clear hNE hw1
  have HNE3 := Lib.hid (show w.heap.size ≤ w.heap.size from HNE.out)
  clear HNE
  refine wp_region_lit ?_
  refine tkL (.pointer (some ⟨w.heap.size, 2, none⟩)) (h := ?_)
  (try simp only [Act.put, sA, sB, sC])
  refine wpList_q (by rfl) (.int .i64 x.un) ?he ?_
  case he => exact exec_cell 3 _ _ HBX1.out rfl rfl rfl Try.underlying3 rfl
  (try simp only [Act.put, sA, sB, sC])
  refine wpList_wp (by rfl) (fun K hK => ?_)
  (try go_simp)
  refine (levelV x.un true _ HL.out).mono ?_
  rintro e w' ⟨rfl, rfl⟩
  (try go_wp2_with fail)
  refine hK.out _ _ ?_
  clear hK K
  (try simp only [Act.put, sA, sB, sC])
  refine tkL (.tuple #[.int .i64 (lvN x.un), .bool true]) (h := ?_)
  (try simp only [Act.put, sA, sB, sC])
  refine tkL (.int .i64 (lvN x.un)) (h := ?_)
  (try simp only [Act.put, sA, sB, sC])
  refine tkL (.bool true) (h := ?_)
  (try simp only [Act.put, sA, sB, sC])
  refine tkL (.int .i64 (lvN x.un)) (h := ?_)
  (try simp only [Act.put, sA, sB, sC])
  refine tkL (.bool true) (h := ?_)
  (try simp only [Act.put, sA, sB, sC])
  refine wpList_nil ?_
  go_upto_region 2 with fail
  refine wp_region_lit ?_
  refine tkL (.pointer (some ⟨w.heap.size, 9, none⟩)) (h := ?_)
  (try simp only [Act.put, sA, sB, sC])
  refine wpList_q (by rfl) (.int .i64 x.mo) ?he ?_
  case he => exact exec_cell 3 _ _ HBX1.out rfl rfl rfl Try.underlying3 rfl
  (try simp only [Act.put, sA, sB, sC])
  refine wpList_q (by rfl) (.bool true) ?he ?_
  case he => (have q0 := HMO.out; go_simp; (first | done | rfl | omega))
  (try simp only [Act.put, sA, sB, sC])
  refine tkL (.bool true) (h := ?_)
  (try simp only [Act.put, sA, sB, sC])
  refine tkL (.pointer (some ⟨w.heap.size, 8, none⟩)) (h := ?_)
  (try simp only [Act.put, sA, sB, sC])
  refine wpList_q (by rfl) (.bool false) ?he ?_
  case he => exact exec_cell 4 _ _ HBX1.out (by show some (Value.bool x.br) = _; rw [HBR.out]) rfl rfl Try.underlying4 rfl
  (try simp only [Act.put, sA, sB, sC])
  refine wpList_q (by rfl) (.bool true) ?he ?_
  case he => (go_simp; (try with_reducible rfl))
  (try simp only [Act.put, sA, sB, sC])
  refine tkL (.bool true) (h := ?_)
  (try simp only [Act.put, sA, sB, sC])
  refine tkL (.bool true) (h := ?_)
  (try simp only [Act.put, sA, sB, sC])
  refine tkL (.bool true) (h := ?_)
  (try simp only [Act.put, sA, sB, sC])
  refine tkL (.bool true) (h := ?_)
  (try simp only [Act.put, sA, sB, sC])
  refine tkL (.bool true) (h := ?_)
  (try simp only [Act.put, sA, sB, sC])
  refine tkL (.pointer (some ⟨w.heap.size, 0, none⟩)) (h := ?_)
  (try simp only [Act.put, sA, sB, sC])
  refine tkL (.pointer (some ⟨w.heap.size, 0, none⟩)) (h := ?_)
  (try simp only [Act.put, sA, sB, sC])
  refine wpList_q (by rfl) (.int .i64 x.ds) ?he ?_
  case he => exact exec_cell 3 _ _ HBX1.out rfl rfl rfl Try.underlying3 rfl
  (try simp only [Act.put, sA, sB, sC])
  refine wpList_q (by rfl) (.bool true) ?he ?_
  case he => (have q0 := HDS.out; go_simp; (first | done | rfl | omega))
  (try simp only [Act.put, sA, sB, sC])
  refine tkL (.bool true) (h := ?_)
  (try simp only [Act.put, sA, sB, sC])
  refine tkL (.bool true) (h := ?_)
  (try simp only [Act.put, sA, sB, sC])
  refine tkL (.pointer (some ⟨w.heap.size, 3, none⟩)) (h := ?_)
  (try simp only [Act.put, sA, sB, sC])
  refine wpList_q (by rfl) (.int .i64 x.wy) ?he ?_
  case he => exact exec_cell 3 _ _ HBX1.out rfl rfl rfl Try.underlying3 rfl
  (try simp only [Act.put, sA, sB, sC])
  refine wpList_q (by rfl) (.bool true) ?he ?_
  case he => (have q0 := HWY.out; go_simp; (first | done | rfl | omega))
  (try simp only [Act.put, sA, sB, sC])
  refine tkL (.bool true) (h := ?_)
  (try simp only [Act.put, sA, sB, sC])
  refine tkL (.bool true) (h := ?_)
  (try simp only [Act.put, sA, sB, sC])
  refine tkL (.pointer (some ⟨w.heap.size, 12, none⟩)) (h := ?_)
  (try simp only [Act.put, sA, sB, sC])
  refine wpList_q (by rfl) (.agg #[.int .u64 x.sp, .int .u64 x.su, .int .u64 x.sd]) ?he ?_
  case he => exact exec_part (n := 3) 28 _ _ HBX1.out rfl rfl rfl rfl Try.underlying28 rfl (by kernel_rfl)
  (try simp only [Act.put, sA, sB, sC])
  refine wpList_wp (by rfl) (fun K hK => ?_)
  (try go_simp)
  refine (countT x.sp x.su x.sd HP.out HU.out HD.out _).mono ?_
  rintro e w2 ⟨rfl, hb⟩
  (try go_wp2_with fail)
  refine hK.out _ _ ?_
  clear hK K
  (try simp only [Act.put, sA, sB, sC])
  have HS2 := Lib.hid (Since.trans HS1.out hb)
  have HBX2 := Lib.hid (keep_blk hb HBX1.out)
  clear HS1 HBX1
  clear hb
  refine wpList_q (by rfl) (.bool true) ?he ?_
  case he => (have q0 := HC.out; go_simp; (first | done | rfl | omega))
  (try simp only [Act.put, sA, sB, sC])
  refine tkL (.bool true) (h := ?_)
  (try simp only [Act.put, sA, sB, sC])
  refine tkL (.bool true) (h := ?_)
  (try simp only [Act.put, sA, sB, sC])
  refine wpList_nil ?_
  (try go_wp2_with fail)
  go_ret
  exact ⟨rfl, HS2.out⟩
set_option maxHeartbeats 4000000 in
theorem idleD (x : CarV) (w : World) (hmo : x.mo = 0) (hbr : x.br = false) (hl : lvB x.un = true) (hds : ¬ x.ds = 0) : Calls Try.prog 43 #[.agg (carA x)] w fun e w' => e = .returned (.bool false) ∧ Since w w' := by
  have HMO := Lib.hid hmo
  clear hmo
  have HBR := Lib.hid hbr
  clear hbr
  have HL := Lib.hid hl
  clear hl
  have HDS := Lib.hid hds
  clear hds
  go_enter Try.func43, Try.ntmps43
  go_upto_region 1 with fail
  obtain ⟨w1, hw1⟩ : ∃ w1, w1 = (w.alloc (.cells (carA x) 30)) := ⟨_, rfl⟩
  rw [← hw1]
  have HBX1 := Lib.hid (show Blk w1 (w.heap.size) 30 (carA x) by rw [hw1]; exact Blk.at_ (by (try simp only [size_alloc])) _ _)
  have HS1 := Lib.hid (show Since w w1 by rw [hw1]; exact Since.alloc (Since.refl w) _)
  have hNE : w.heap.size ≤ w.heap.size := by omega
  have HNE := Lib.hid hNE
  clear hNE hw1
  have HNE3 := Lib.hid (show w.heap.size ≤ w.heap.size from HNE.out)
  clear HNE
  refine wp_region_lit ?_
  refine tkL (.pointer (some ⟨w.heap.size, 2, none⟩)) (h := ?_)
  (try simp only [Act.put, sA, sB, sC])
  refine wpList_q (by rfl) (.int .i64 x.un) ?he ?_
  case he => exact exec_cell 3 _ _ HBX1.out rfl rfl rfl Try.underlying3 rfl
  (try simp only [Act.put, sA, sB, sC])
  refine wpList_wp (by rfl) (fun K hK => ?_)
  (try go_simp)
  refine (levelV x.un true _ HL.out).mono ?_
  rintro e w' ⟨rfl, rfl⟩
  (try go_wp2_with fail)
  refine hK.out _ _ ?_
  clear hK K
  (try simp only [Act.put, sA, sB, sC])
  refine tkL (.tuple #[.int .i64 (lvN x.un), .bool true]) (h := ?_)
  (try simp only [Act.put, sA, sB, sC])
  refine tkL (.int .i64 (lvN x.un)) (h := ?_)
  (try simp only [Act.put, sA, sB, sC])
  refine tkL (.bool true) (h := ?_)
  (try simp only [Act.put, sA, sB, sC])
  refine tkL (.int .i64 (lvN x.un)) (h := ?_)
  (try simp only [Act.put, sA, sB, sC])
  refine tkL (.bool true) (h := ?_)
  (try simp only [Act.put, sA, sB, sC])
  refine wpList_nil ?_
  go_upto_region 2 with fail
  refine wp_region_lit ?_
  refine tkL (.pointer (some ⟨w.heap.size, 9, none⟩)) (h := ?_)
  (try simp only [Act.put, sA, sB, sC])
  refine wpList_q (by rfl) (.int .i64 x.mo) ?he ?_
  case he => exact exec_cell 3 _ _ HBX1.out rfl rfl rfl Try.underlying3 rfl
  (try simp only [Act.put, sA, sB, sC])
  refine wpList_q (by rfl) (.bool true) ?he ?_
  case he => (have q0 := HMO.out; go_simp; (first | done | rfl | omega))
  (try simp only [Act.put, sA, sB, sC])
  refine tkL (.bool true) (h := ?_)
  (try simp only [Act.put, sA, sB, sC])
  refine tkL (.pointer (some ⟨w.heap.size, 8, none⟩)) (h := ?_)
  (try simp only [Act.put, sA, sB, sC])
  refine wpList_q (by rfl) (.bool false) ?he ?_
  case he => exact exec_cell 4 _ _ HBX1.out (by show some (Value.bool x.br) = _; rw [HBR.out]) rfl rfl Try.underlying4 rfl
  (try simp only [Act.put, sA, sB, sC])
  refine wpList_q (by rfl) (.bool true) ?he ?_
  case he => (go_simp; (try with_reducible rfl))
  (try simp only [Act.put, sA, sB, sC])
  refine tkL (.bool true) (h := ?_)
  (try simp only [Act.put, sA, sB, sC])
  refine tkL (.bool true) (h := ?_)
  (try simp only [Act.put, sA, sB, sC])
  refine tkL (.bool true) (h := ?_)
  (try simp only [Act.put, sA, sB, sC])
  refine tkL (.bool true) (h := ?_)
  (try simp only [Act.put, sA, sB, sC])
  refine tkL (.bool true) (h := ?_)
  (try simp only [Act.put, sA, sB, sC])
  refine tkL (.pointer (some ⟨w.heap.size, 0, none⟩)) (h := ?_)
  (try simp only [Act.put, sA, sB, sC])
  refine tkL (.pointer (some ⟨w.heap.size, 0, none⟩)) (h := ?_)
  (try simp only [Act.put, sA, sB, sC])
  refine wpList_q (by rfl) (.int .i64 x.ds) ?he ?_
  case he => exact exec_cell 3 _ _ HBX1.out rfl rfl rfl Try.underlying3 rfl
  (try simp only [Act.put, sA, sB, sC])
  refine wpList_q (by rfl) (.bool false) ?he ?_
  case he => (have q0 := HDS.out; go_simp; (first | done | rfl | omega))
  (try simp only [Act.put, sA, sB, sC])
  refine tkL (.bool false) (h := ?_)
  (try simp only [Act.put, sA, sB, sC])
  refine tkL (.bool false) (h := ?_)
  (try simp only [Act.put, sA, sB, sC])
  refine wpList_no (by rfl) ?_
  (try simp only [Act.put, sA, sB, sC])
  refine wpList_no (by rfl) ?_
  (try simp only [Act.put, sA, sB, sC])
  refine wpList_no (by rfl) ?_
  (try simp only [Act.put, sA, sB, sC])
  refine tkL (.bool false) (h := ?_)
  (try simp only [Act.put, sA, sB, sC])
  refine tkL (.bool false) (h := ?_)
  (try simp only [Act.put, sA, sB, sC])
  refine wpList_no (by rfl) ?_
  (try simp only [Act.put, sA, sB, sC])
  refine wpList_no (by rfl) ?_
  (try simp only [Act.put, sA, sB, sC])
  refine wpList_no (by rfl) ?_
  (try simp only [Act.put, sA, sB, sC])
  refine wpList_no (by rfl) ?_
  (try simp only [Act.put, sA, sB, sC])
  refine tkL (.bool false) (h := ?_)
  (try simp only [Act.put, sA, sB, sC])
  refine tkL (.bool false) (h := ?_)
  (try simp only [Act.put, sA, sB, sC])
  refine wpList_nil ?_
  (try go_wp2_with fail)
  go_ret
  exact ⟨rfl, HS1.out⟩
theorem levelRV (u : Int) (b : Bool) (w : World) (h : lvB u = b) : Calls Try.prog 46 #[.int .i64 u] w fun e w' => e = .returned (.tuple #[.int .i64 (lvN u), .bool b]) ∧ w = w' := by subst h; exact levelR u w
theorem goodRV (c : CfgV) (x : CarV) (b : Bool) (w : World) (h : goodB c x = b) : Calls Try.prog 16 #[.agg (cfgA c), .agg (carA x)] w fun e w' => e = .returned (.bool b) ∧ Since w w' := by subst h; exact goodCarR c x w
set_option maxHeartbeats 4000000 in
theorem may_badt (c : CfgV) (x : CarV) (w : World) (hg : goodB c x = false) (hl : lvB x.un = true) : Calls Try.prog 38 #[.agg (cfgA c), .agg (carA x)] w fun e w' => e = .returned (.bool false) ∧ Since w w' := by
  have HG := Lib.hid hg
  clear hg
  have HL := Lib.hid hl
  clear hl
  go_enter Try.func38, Try.ntmps38
  go_upto_region 1 with fail
  obtain ⟨w1, hw1⟩ : ∃ w1, w1 = ((w.alloc (.cells (cfgA c) 23)).alloc (.cells (carA x) 30)) := ⟨_, rfl⟩
  rw [← hw1]
  have HBC1 := Lib.hid (show Blk w1 (w.heap.size) 23 (cfgA c) by rw [hw1]; exact Blk.alloc (Blk.at_ (by (try simp only [size_alloc])) _ _) _)
  have HBX1 := Lib.hid (show Blk w1 (w.heap.size + 1) 30 (carA x) by rw [hw1]; exact Blk.at_ (by (try simp only [size_alloc])) _ _)
  have HS1 := Lib.hid (show Since w w1 by rw [hw1]; exact Since.alloc (Since.alloc (Since.refl w) _) _)
  have hNE : w.heap.size ≤ w.heap.size ∧ w.heap.size < w.heap.size + 1 := by omega
  have HNE := Lib.hid hNE
  clear hNE hw1
  generalize w.heap.size + 1 = bX at *
  have HNE3 := Lib.hid (show w.heap.size ≤ w.heap.size ∧ w.heap.size < bX from HNE.out)
  clear HNE
  refine wp_region_lit ?_
  refine tkL (.pointer (some ⟨bX, 2, none⟩)) (h := ?_)
  (try simp only [Act.put, sA, sB, sC])
  refine wpList_q (by rfl) (.int .i64 x.un) ?he ?_
  case he => exact exec_cell 3 _ _ HBX1.out rfl rfl rfl Try.underlying3 rfl
  (try simp only [Act.put, sA, sB, sC])
  refine wpList_wp (by rfl) (fun K hK => ?_)
  (try go_simp)
  refine (levelRV x.un true _ HL.out).mono ?_
  rintro e w' ⟨rfl, rfl⟩
  (try go_wp2_with fail)
  refine hK.out _ _ ?_
  clear hK K
  (try simp only [Act.put, sA, sB, sC])
  refine tkL (.tuple #[.int .i64 (lvN x.un), .bool true]) (h := ?_)
  (try simp only [Act.put, sA, sB, sC])
  refine tkL (.int .i64 (lvN x.un)) (h := ?_)
  (try simp only [Act.put, sA, sB, sC])
  refine tkL (.bool true) (h := ?_)
  (try simp only [Act.put, sA, sB, sC])
  refine tkL (.int .i64 (lvN x.un)) (h := ?_)
  (try simp only [Act.put, sA, sB, sC])
  refine tkL (.bool true) (h := ?_)
  (try simp only [Act.put, sA, sB, sC])
  refine wpList_nil ?_
  go_upto_region 2 with fail
  have hrK : ∀ W W' : World, Since W W' → (Since w W ∧ Blk W w.heap.size 23 (cfgA c) ∧ Blk W bX 30 (carA x)) → (Since w W' ∧ Blk W' w.heap.size 23 (cfgA c) ∧ Blk W' bX 30 (carA x)) := fun W W' k ⟨h, h0, h1⟩ => ⟨h.trans k, keep_blk k h0, keep_blk k h1⟩
  have hrS : (fun W : World => Since w W ∧ Blk W w.heap.size 23 (cfgA c) ∧ Blk W bX 30 (carA x)) w1 := ⟨HS1.out, HBC1.out, HBX1.out⟩
  have HRK := Lib.hid hrK
  have HRD := Lib.hid (show (fun W : World => Since w W ∧ Blk W w.heap.size 23 (cfgA c) ∧ Blk W bX 30 (carA x)) (World.drew w1) from hrK _ _ ((Since.refl w1).drew) hrS)
  clear hrK hrS
  refine wp_region_held_drew (S := fun W : World => Since w W ∧ Blk W w.heap.size 23 (cfgA c) ∧ Blk W bX 30 (carA x)) (by kernel_rfl) HRD.out (fun hHeld => ?_)
  refine tkQ 0 (.agg (cfgA c)) hHeld (he := by intro w hSw; exact exec_load_row 23 _ _ hSw.2.1 rfl rfl Try.underlying23 rfl (by kernel_rfl)) (h := ?_)
  (try simp only [Act.put, sA, sB, sC])
  refine tkQ 1 (.agg (carA x)) hHeld (he := by intro w hSw; exact exec_load_row 30 _ _ hSw.2.2 rfl rfl Try.underlying30 rfl (by kernel_rfl)) (h := ?_)
  (try simp only [Act.put, sA, sB, sC])
  refine wpAnyH_ready (rs := [2]) (by kernel_rfl) (by simp) ?_
  refine AllReadyH.cons (o := ?o2__2) ?h2__2 (fun K hK => ?_) AllReadyH.nil
  case h2__2 => (first | (simp only [gA, gB, gC]; done) | (simp only [gA, gB, gC]; exact rfl))
  (try go_simp)
  refine (goodRV c x false _ HG.out).mono ?_
  rintro e w2 ⟨rfl, hb⟩
  (try go_wp2_with fail)
  refine hK.out _ _ (by (apply HRK.out; exact hb; exact hHeld)) (fun hHeld2 => ?_)
  clear hK K hHeld hb
  have hHeld := hHeld2
  clear hHeld2
  (try simp only [Act.put, sA, sB, sC])
  refine tkQ 3 (.bool false) hHeld (h := ?_)
  (try simp only [Act.put, sA, sB, sC])
  refine tkU 4 hHeld (h := ?_)
  (try simp only [Act.put, sA, sB, sC])
  refine tkU 5 hHeld (h := ?_)
  (try simp only [Act.put, sA, sB, sC])
  refine tkU 6 hHeld (h := ?_)
  (try simp only [Act.put, sA, sB, sC])
  refine tkU 7 hHeld (h := ?_)
  (try simp only [Act.put, sA, sB, sC])
  refine tkU 8 hHeld (h := ?_)
  (try simp only [Act.put, sA, sB, sC])
  refine tkU 9 hHeld (h := ?_)
  (try simp only [Act.put, sA, sB, sC])
  refine tkU 10 hHeld (h := ?_)
  (try simp only [Act.put, sA, sB, sC])
  refine tkU 11 hHeld (h := ?_)
  (try simp only [Act.put, sA, sB, sC])
  refine tkQ 12 (.bool false) hHeld (h := ?_)
  (try simp only [Act.put, sA, sB, sC])
  refine tkQ 13 (.bool false) hHeld (h := ?_)
  (try simp only [Act.put, sA, sB, sC])
  refine tkU 14 hHeld (h := ?_)
  (try simp only [Act.put, sA, sB, sC])
  refine tkU 15 hHeld (h := ?_)
  (try simp only [Act.put, sA, sB, sC])
  refine tkU 16 hHeld (h := ?_)
  (try simp only [Act.put, sA, sB, sC])
  refine tkU 17 hHeld (h := ?_)
  (try simp only [Act.put, sA, sB, sC])
  refine tkU 18 hHeld (h := ?_)
  (try simp only [Act.put, sA, sB, sC])
  refine tkU 19 hHeld (h := ?_)
  (try simp only [Act.put, sA, sB, sC])
  refine tkQ 20 (.bool false) hHeld (h := ?_)
  (try simp only [Act.put, sA, sB, sC])
  refine tkQ 21 (.bool false) hHeld (h := ?_)
  (try simp only [Act.put, sA, sB, sC])
  refine tkU 22 hHeld (h := ?_)
  (try simp only [Act.put, sA, sB, sC])
  refine tkU 23 hHeld (h := ?_)
  (try simp only [Act.put, sA, sB, sC])
  refine tkU 24 hHeld (h := ?_)
  (try simp only [Act.put, sA, sB, sC])
  refine tkU 25 hHeld (h := ?_)
  (try simp only [Act.put, sA, sB, sC])
  refine tkU 26 hHeld (h := ?_)
  (try simp only [Act.put, sA, sB, sC])
  refine tkU 27 hHeld (h := ?_)
  (try simp only [Act.put, sA, sB, sC])
  refine tkU 28 hHeld (h := ?_)
  (try simp only [Act.put, sA, sB, sC])
  refine tkU 29 hHeld (h := ?_)
  (try simp only [Act.put, sA, sB, sC])
  refine tkU 30 hHeld (h := ?_)
  (try simp only [Act.put, sA, sB, sC])
  refine tkU 31 hHeld (h := ?_)
  (try simp only [Act.put, sA, sB, sC])
  refine tkU 32 hHeld (h := ?_)
  (try simp only [Act.put, sA, sB, sC])
  refine tkU 33 hHeld (h := ?_)
  (try simp only [Act.put, sA, sB, sC])
  refine tkU 34 hHeld (h := ?_)
  (try simp only [Act.put, sA, sB, sC])
  refine tkU 35 hHeld (h := ?_)
  (try simp only [Act.put, sA, sB, sC])
  refine tkU 36 hHeld (h := ?_)
  (try simp only [Act.put, sA, sB, sC])
  refine tkU 37 hHeld (h := ?_)
  (try simp only [Act.put, sA, sB, sC])
  refine tkQ 38 (.bool false) hHeld (h := ?_)
  (try simp only [Act.put, sA, sB, sC])
  refine tkQ 39 (.bool false) hHeld (h := ?_)
  (try simp only [Act.put, sA, sB, sC])
  refine wpAnyH_done (by kernel_rfl) ?_ _
  have HSd2 := Lib.hid hHeld.1
  have HBCd2 := Lib.hid (hHeld.2.1)
  have HBXd2 := Lib.hid (hHeld.2.2)
  clear hHeld HRK HRD HS1 HBC1 HBX1
  (try go_wp2_with fail)
  go_ret
  exact ⟨rfl, HSd2.out⟩
set_option maxHeartbeats 4000000 in
theorem may_nt (c : CfgV) (x : CarV) (w : World) (hg : goodB c x = true) (hl : lvB x.un = true) (hm : x.mo = 0) : Calls Try.prog 38 #[.agg (cfgA c), .agg (carA x)] w fun e w' => e = .returned (.bool true) ∧ Since w w' := by
  have HG := Lib.hid hg
  clear hg
  have HL := Lib.hid hl
  clear hl
  have HM := Lib.hid hm
  clear hm
  go_enter Try.func38, Try.ntmps38
  go_upto_region 1 with fail
  obtain ⟨w1, hw1⟩ : ∃ w1, w1 = ((w.alloc (.cells (cfgA c) 23)).alloc (.cells (carA x) 30)) := ⟨_, rfl⟩
  rw [← hw1]
  have HBC1 := Lib.hid (show Blk w1 (w.heap.size) 23 (cfgA c) by rw [hw1]; exact Blk.alloc (Blk.at_ (by (try simp only [size_alloc])) _ _) _)
  have HBX1 := Lib.hid (show Blk w1 (w.heap.size + 1) 30 (carA x) by rw [hw1]; exact Blk.at_ (by (try simp only [size_alloc])) _ _)
  have HS1 := Lib.hid (show Since w w1 by rw [hw1]; exact Since.alloc (Since.alloc (Since.refl w) _) _)
  have hNE : w.heap.size ≤ w.heap.size ∧ w.heap.size < w.heap.size + 1 := by omega
  have HNE := Lib.hid hNE
  clear hNE hw1
  generalize w.heap.size + 1 = bX at *
  have HNE3 := Lib.hid (show w.heap.size ≤ w.heap.size ∧ w.heap.size < bX from HNE.out)
  clear HNE
  refine wp_region_lit ?_
  refine tkL (.pointer (some ⟨bX, 2, none⟩)) (h := ?_)
  (try simp only [Act.put, sA, sB, sC])
  refine wpList_q (by rfl) (.int .i64 x.un) ?he ?_
  case he => exact exec_cell 3 _ _ HBX1.out rfl rfl rfl Try.underlying3 rfl
  (try simp only [Act.put, sA, sB, sC])
  refine wpList_wp (by rfl) (fun K hK => ?_)
  (try go_simp)
  refine (levelRV x.un true _ HL.out).mono ?_
  rintro e w' ⟨rfl, rfl⟩
  (try go_wp2_with fail)
  refine hK.out _ _ ?_
  clear hK K
  (try simp only [Act.put, sA, sB, sC])
  refine tkL (.tuple #[.int .i64 (lvN x.un), .bool true]) (h := ?_)
  (try simp only [Act.put, sA, sB, sC])
  refine tkL (.int .i64 (lvN x.un)) (h := ?_)
  (try simp only [Act.put, sA, sB, sC])
  refine tkL (.bool true) (h := ?_)
  (try simp only [Act.put, sA, sB, sC])
  refine tkL (.int .i64 (lvN x.un)) (h := ?_)
  (try simp only [Act.put, sA, sB, sC])
  refine tkL (.bool true) (h := ?_)
  (try simp only [Act.put, sA, sB, sC])
  refine wpList_nil ?_
  go_upto_region 2 with fail
  have hrK : ∀ W W' : World, Since W W' → (Since w W ∧ Blk W w.heap.size 23 (cfgA c) ∧ Blk W bX 30 (carA x)) → (Since w W' ∧ Blk W' w.heap.size 23 (cfgA c) ∧ Blk W' bX 30 (carA x)) := fun W W' k ⟨h, h0, h1⟩ => ⟨h.trans k, keep_blk k h0, keep_blk k h1⟩
  have hrS : (fun W : World => Since w W ∧ Blk W w.heap.size 23 (cfgA c) ∧ Blk W bX 30 (carA x)) w1 := ⟨HS1.out, HBC1.out, HBX1.out⟩
  have HRK := Lib.hid hrK
  have HRD := Lib.hid (show (fun W : World => Since w W ∧ Blk W w.heap.size 23 (cfgA c) ∧ Blk W bX 30 (carA x)) (World.drew w1) from hrK _ _ ((Since.refl w1).drew) hrS)
  clear hrK hrS
  refine wp_region_held_drew (S := fun W : World => Since w W ∧ Blk W w.heap.size 23 (cfgA c) ∧ Blk W bX 30 (carA x)) (by kernel_rfl) HRD.out (fun hHeld => ?_)
  refine tkQ 0 (.agg (cfgA c)) hHeld (he := by intro w hSw; exact exec_load_row 23 _ _ hSw.2.1 rfl rfl Try.underlying23 rfl (by kernel_rfl)) (h := ?_)
  (try simp only [Act.put, sA, sB, sC])
  refine tkQ 1 (.agg (carA x)) hHeld (he := by intro w hSw; exact exec_load_row 30 _ _ hSw.2.2 rfl rfl Try.underlying30 rfl (by kernel_rfl)) (h := ?_)
  (try simp only [Act.put, sA, sB, sC])
  refine wpAnyH_ready (rs := [2]) (by kernel_rfl) (by simp) ?_
  refine AllReadyH.cons (o := ?o2__2) ?h2__2 (fun K hK => ?_) AllReadyH.nil
  case h2__2 => (first | (simp only [gA, gB, gC]; done) | (simp only [gA, gB, gC]; exact rfl))
  (try go_simp)
  refine (goodRV c x true _ HG.out).mono ?_
  rintro e w2 ⟨rfl, hb⟩
  (try go_wp2_with fail)
  refine hK.out _ _ (by (apply HRK.out; exact hb; exact hHeld)) (fun hHeld2 => ?_)
  clear hK K hHeld hb
  have hHeld := hHeld2
  clear hHeld2
  (try simp only [Act.put, sA, sB, sC])
  refine tkQ 3 (.bool true) hHeld (h := ?_)
  (try simp only [Act.put, sA, sB, sC])
  refine tkQ 4 (.pointer (some ⟨bX, 9, none⟩)) hHeld (h := ?_)
  (try simp only [Act.put, sA, sB, sC])
  refine tkQ 5 (.int .i64 x.mo) hHeld (he := by intro w hSw; exact exec_cell 3 _ _ hSw.2.2 rfl rfl rfl Try.underlying3 rfl) (h := ?_)
  (try simp only [Act.put, sA, sB, sC])
  refine tkQ 6 (.bool true) hHeld (he := by intro w hSw; (have q0 := HM.out; go_simp; (first | done | rfl | omega))) (h := ?_)
  (try simp only [Act.put, sA, sB, sC])
  refine tkQ 7 (.bool true) hHeld (h := ?_)
  (try simp only [Act.put, sA, sB, sC])
  refine tkU 8 hHeld (h := ?_)
  (try simp only [Act.put, sA, sB, sC])
  refine tkU 9 hHeld (h := ?_)
  (try simp only [Act.put, sA, sB, sC])
  refine tkU 10 hHeld (h := ?_)
  (try simp only [Act.put, sA, sB, sC])
  refine tkQ 11 (.bool true) hHeld (h := ?_)
  (try simp only [Act.put, sA, sB, sC])
  refine tkQ 12 (.bool true) hHeld (h := ?_)
  (try simp only [Act.put, sA, sB, sC])
  refine tkQ 13 (.bool true) hHeld (h := ?_)
  (try simp only [Act.put, sA, sB, sC])
  refine tkQ 14 (.bool true) hHeld (h := ?_)
  (try simp only [Act.put, sA, sB, sC])
  refine tkQ 15 (.bool true) hHeld (h := ?_)
  (try simp only [Act.put, sA, sB, sC])
  refine tkU 16 hHeld (h := ?_)
  (try simp only [Act.put, sA, sB, sC])
  refine tkU 17 hHeld (h := ?_)
  (try simp only [Act.put, sA, sB, sC])
  refine tkU 18 hHeld (h := ?_)
  (try simp only [Act.put, sA, sB, sC])
  refine tkQ 19 (.bool true) hHeld (h := ?_)
  (try simp only [Act.put, sA, sB, sC])
  refine tkQ 20 (.bool true) hHeld (h := ?_)
  (try simp only [Act.put, sA, sB, sC])
  refine tkQ 21 (.bool true) hHeld (h := ?_)
  (try simp only [Act.put, sA, sB, sC])
  refine tkQ 22 (.pointer (some ⟨bX, 9, none⟩)) hHeld (h := ?_)
  (try simp only [Act.put, sA, sB, sC])
  refine tkQ 23 (.int .i64 x.mo) hHeld (he := by intro w hSw; exact exec_cell 3 _ _ hSw.2.2 rfl rfl rfl Try.underlying3 rfl) (h := ?_)
  (try simp only [Act.put, sA, sB, sC])
  refine tkQ 24 (.bool true) hHeld (he := by intro w hSw; (have q0 := HM.out; go_simp; (first | done | rfl | omega))) (h := ?_)
  (try simp only [Act.put, sA, sB, sC])
  refine tkQ 25 (.bool true) hHeld (h := ?_)
  (try simp only [Act.put, sA, sB, sC])
  refine tkU 26 hHeld (h := ?_)
  (try simp only [Act.put, sA, sB, sC])
  refine tkU 27 hHeld (h := ?_)
  (try simp only [Act.put, sA, sB, sC])
  refine tkU 28 hHeld (h := ?_)
  (try simp only [Act.put, sA, sB, sC])
  refine tkU 29 hHeld (h := ?_)
  (try simp only [Act.put, sA, sB, sC])
  refine tkU 30 hHeld (h := ?_)
  (try simp only [Act.put, sA, sB, sC])
  refine tkU 31 hHeld (h := ?_)
  (try simp only [Act.put, sA, sB, sC])
  refine tkU 32 hHeld (h := ?_)
  (try simp only [Act.put, sA, sB, sC])
  refine tkU 33 hHeld (h := ?_)
  (try simp only [Act.put, sA, sB, sC])
  refine tkU 34 hHeld (h := ?_)
  (try simp only [Act.put, sA, sB, sC])
  refine tkU 35 hHeld (h := ?_)
  (try simp only [Act.put, sA, sB, sC])
  refine tkU 36 hHeld (h := ?_)
  (try simp only [Act.put, sA, sB, sC])
  refine tkQ 37 (.bool true) hHeld (h := ?_)
  (try simp only [Act.put, sA, sB, sC])
  refine tkQ 38 (.bool true) hHeld (h := ?_)
  (try simp only [Act.put, sA, sB, sC])
  refine tkQ 39 (.bool true) hHeld (h := ?_)
  (try simp only [Act.put, sA, sB, sC])
  refine wpAnyH_done (by kernel_rfl) ?_ _
  have HSd2 := Lib.hid hHeld.1
  have HBCd2 := Lib.hid (hHeld.2.1)
  have HBXd2 := Lib.hid (hHeld.2.2)
  clear hHeld HRK HRD HS1 HBC1 HBX1
  (try go_wp2_with fail)
  go_ret
  exact ⟨rfl, HSd2.out⟩
set_option maxHeartbeats 4000000 in
theorem may_lta (c : CfgV) (x : CarV) (w : World) (hg : goodB c x = true) (hl : lvB x.un = true) (hm : x.mo = 1) (ht : ¬ 0 ≤ x.ta) : Calls Try.prog 38 #[.agg (cfgA c), .agg (carA x)] w fun e w' => e = .returned (.bool false) ∧ Since w w' := by
  have HG := Lib.hid hg
  clear hg
  have HL := Lib.hid hl
  clear hl
  have HM := Lib.hid hm
  clear hm
  have HT := Lib.hid ht
  clear ht
  go_enter Try.func38, Try.ntmps38
  go_upto_region 1 with fail
  obtain ⟨w1, hw1⟩ : ∃ w1, w1 = ((w.alloc (.cells (cfgA c) 23)).alloc (.cells (carA x) 30)) := ⟨_, rfl⟩
  rw [← hw1]
  have HBC1 := Lib.hid (show Blk w1 (w.heap.size) 23 (cfgA c) by rw [hw1]; exact Blk.alloc (Blk.at_ (by (try simp only [size_alloc])) _ _) _)
  have HBX1 := Lib.hid (show Blk w1 (w.heap.size + 1) 30 (carA x) by rw [hw1]; exact Blk.at_ (by (try simp only [size_alloc])) _ _)
  have HS1 := Lib.hid (show Since w w1 by rw [hw1]; exact Since.alloc (Since.alloc (Since.refl w) _) _)
  have hNE : w.heap.size ≤ w.heap.size ∧ w.heap.size < w.heap.size + 1 := by omega
  have HNE := Lib.hid hNE
  clear hNE hw1
  generalize w.heap.size + 1 = bX at *
  have HNE3 := Lib.hid (show w.heap.size ≤ w.heap.size ∧ w.heap.size < bX from HNE.out)
  clear HNE
  refine wp_region_lit ?_
  refine tkL (.pointer (some ⟨bX, 2, none⟩)) (h := ?_)
  (try simp only [Act.put, sA, sB, sC])
  refine wpList_q (by rfl) (.int .i64 x.un) ?he ?_
  case he => exact exec_cell 3 _ _ HBX1.out rfl rfl rfl Try.underlying3 rfl
  (try simp only [Act.put, sA, sB, sC])
  refine wpList_wp (by rfl) (fun K hK => ?_)
  (try go_simp)
  refine (levelRV x.un true _ HL.out).mono ?_
  rintro e w' ⟨rfl, rfl⟩
  (try go_wp2_with fail)
  refine hK.out _ _ ?_
  clear hK K
  (try simp only [Act.put, sA, sB, sC])
  refine tkL (.tuple #[.int .i64 (lvN x.un), .bool true]) (h := ?_)
  (try simp only [Act.put, sA, sB, sC])
  refine tkL (.int .i64 (lvN x.un)) (h := ?_)
  (try simp only [Act.put, sA, sB, sC])
  refine tkL (.bool true) (h := ?_)
  (try simp only [Act.put, sA, sB, sC])
  refine tkL (.int .i64 (lvN x.un)) (h := ?_)
  (try simp only [Act.put, sA, sB, sC])
  refine tkL (.bool true) (h := ?_)
  (try simp only [Act.put, sA, sB, sC])
  refine wpList_nil ?_
  go_upto_region 2 with fail
  have hrK : ∀ W W' : World, Since W W' → (Since w W ∧ Blk W w.heap.size 23 (cfgA c) ∧ Blk W bX 30 (carA x)) → (Since w W' ∧ Blk W' w.heap.size 23 (cfgA c) ∧ Blk W' bX 30 (carA x)) := fun W W' k ⟨h, h0, h1⟩ => ⟨h.trans k, keep_blk k h0, keep_blk k h1⟩
  have hrS : (fun W : World => Since w W ∧ Blk W w.heap.size 23 (cfgA c) ∧ Blk W bX 30 (carA x)) w1 := ⟨HS1.out, HBC1.out, HBX1.out⟩
  have HRK := Lib.hid hrK
  have HRD := Lib.hid (show (fun W : World => Since w W ∧ Blk W w.heap.size 23 (cfgA c) ∧ Blk W bX 30 (carA x)) (World.drew w1) from hrK _ _ ((Since.refl w1).drew) hrS)
  clear hrK hrS
  refine wp_region_held_drew (S := fun W : World => Since w W ∧ Blk W w.heap.size 23 (cfgA c) ∧ Blk W bX 30 (carA x)) (by kernel_rfl) HRD.out (fun hHeld => ?_)
  refine tkQ 0 (.agg (cfgA c)) hHeld (he := by intro w hSw; exact exec_load_row 23 _ _ hSw.2.1 rfl rfl Try.underlying23 rfl (by kernel_rfl)) (h := ?_)
  (try simp only [Act.put, sA, sB, sC])
  refine tkQ 1 (.agg (carA x)) hHeld (he := by intro w hSw; exact exec_load_row 30 _ _ hSw.2.2 rfl rfl Try.underlying30 rfl (by kernel_rfl)) (h := ?_)
  (try simp only [Act.put, sA, sB, sC])
  refine wpAnyH_ready (rs := [2]) (by kernel_rfl) (by simp) ?_
  refine AllReadyH.cons (o := ?o2__2) ?h2__2 (fun K hK => ?_) AllReadyH.nil
  case h2__2 => (first | (simp only [gA, gB, gC]; done) | (simp only [gA, gB, gC]; exact rfl))
  (try go_simp)
  refine (goodRV c x true _ HG.out).mono ?_
  rintro e w2 ⟨rfl, hb⟩
  (try go_wp2_with fail)
  refine hK.out _ _ (by (apply HRK.out; exact hb; exact hHeld)) (fun hHeld2 => ?_)
  clear hK K hHeld hb
  have hHeld := hHeld2
  clear hHeld2
  (try simp only [Act.put, sA, sB, sC])
  refine tkQ 3 (.bool true) hHeld (h := ?_)
  (try simp only [Act.put, sA, sB, sC])
  refine tkQ 4 (.pointer (some ⟨bX, 9, none⟩)) hHeld (h := ?_)
  (try simp only [Act.put, sA, sB, sC])
  refine tkQ 5 (.int .i64 x.mo) hHeld (he := by intro w hSw; exact exec_cell 3 _ _ hSw.2.2 rfl rfl rfl Try.underlying3 rfl) (h := ?_)
  (try simp only [Act.put, sA, sB, sC])
  refine tkQ 6 (.bool false) hHeld (he := by intro w hSw; (have q0 := HM.out; go_simp; (first | done | rfl | omega))) (h := ?_)
  (try simp only [Act.put, sA, sB, sC])
  refine tkQ 7 (.bool false) hHeld (h := ?_)
  (try simp only [Act.put, sA, sB, sC])
  refine tkQ 8 (.pointer (some ⟨bX, 9, none⟩)) hHeld (h := ?_)
  (try simp only [Act.put, sA, sB, sC])
  refine tkQ 9 (.int .i64 x.mo) hHeld (he := by intro w hSw; exact exec_cell 3 _ _ hSw.2.2 rfl rfl rfl Try.underlying3 rfl) (h := ?_)
  (try simp only [Act.put, sA, sB, sC])
  refine tkQ 10 (.bool true) hHeld (he := by intro w hSw; (have q0 := HM.out; go_simp; (first | done | rfl | omega))) (h := ?_)
  (try simp only [Act.put, sA, sB, sC])
  refine tkQ 11 (.bool true) hHeld (h := ?_)
  (try simp only [Act.put, sA, sB, sC])
  refine tkQ 12 (.bool true) hHeld (h := ?_)
  (try simp only [Act.put, sA, sB, sC])
  refine tkQ 13 (.bool true) hHeld (h := ?_)
  (try simp only [Act.put, sA, sB, sC])
  refine tkQ 14 (.bool true) hHeld (h := ?_)
  (try simp only [Act.put, sA, sB, sC])
  refine tkQ 15 (.bool true) hHeld (h := ?_)
  (try simp only [Act.put, sA, sB, sC])
  refine tkU 16 hHeld (h := ?_)
  (try simp only [Act.put, sA, sB, sC])
  refine tkU 17 hHeld (h := ?_)
  (try simp only [Act.put, sA, sB, sC])
  refine tkU 18 hHeld (h := ?_)
  (try simp only [Act.put, sA, sB, sC])
  refine tkQ 19 (.bool true) hHeld (h := ?_)
  (try simp only [Act.put, sA, sB, sC])
  refine tkQ 20 (.bool true) hHeld (h := ?_)
  (try simp only [Act.put, sA, sB, sC])
  refine tkQ 21 (.bool true) hHeld (h := ?_)
  (try simp only [Act.put, sA, sB, sC])
  refine tkQ 22 (.pointer (some ⟨bX, 9, none⟩)) hHeld (h := ?_)
  (try simp only [Act.put, sA, sB, sC])
  refine tkQ 23 (.int .i64 x.mo) hHeld (he := by intro w hSw; exact exec_cell 3 _ _ hSw.2.2 rfl rfl rfl Try.underlying3 rfl) (h := ?_)
  (try simp only [Act.put, sA, sB, sC])
  refine tkQ 24 (.bool false) hHeld (he := by intro w hSw; (have q0 := HM.out; go_simp; (first | done | rfl | omega))) (h := ?_)
  (try simp only [Act.put, sA, sB, sC])
  refine tkQ 25 (.bool false) hHeld (h := ?_)
  (try simp only [Act.put, sA, sB, sC])
  refine tkQ 26 (.pointer (some ⟨bX, 10, none⟩)) hHeld (h := ?_)
  (try simp only [Act.put, sA, sB, sC])
  refine tkQ 27 (.int .i64 x.ta) hHeld (he := by intro w hSw; exact exec_cell 3 _ _ hSw.2.2 rfl rfl rfl Try.underlying3 rfl) (h := ?_)
  (try simp only [Act.put, sA, sB, sC])
  refine tkQ 28 (.bool false) hHeld (he := by intro w hSw; (have q0 := HT.out; go_simp; (first | done | rfl | omega))) (h := ?_)
  (try simp only [Act.put, sA, sB, sC])
  refine tkQ 29 (.bool false) hHeld (h := ?_)
  (try simp only [Act.put, sA, sB, sC])
  refine tkU 30 hHeld (h := ?_)
  (try simp only [Act.put, sA, sB, sC])
  refine tkU 31 hHeld (h := ?_)
  (try simp only [Act.put, sA, sB, sC])
  refine tkU 32 hHeld (h := ?_)
  (try simp only [Act.put, sA, sB, sC])
  refine tkU 33 hHeld (h := ?_)
  (try simp only [Act.put, sA, sB, sC])
  refine tkU 34 hHeld (h := ?_)
  (try simp only [Act.put, sA, sB, sC])
  refine tkU 35 hHeld (h := ?_)
  (try simp only [Act.put, sA, sB, sC])
  refine tkQ 36 (.bool false) hHeld (h := ?_)
  (try simp only [Act.put, sA, sB, sC])
  refine tkQ 37 (.bool false) hHeld (h := ?_)
  (try simp only [Act.put, sA, sB, sC])
  refine tkQ 38 (.bool false) hHeld (h := ?_)
  (try simp only [Act.put, sA, sB, sC])
  refine tkQ 39 (.bool false) hHeld (h := ?_)
  (try simp only [Act.put, sA, sB, sC])
  refine wpAnyH_done (by kernel_rfl) ?_ _
  have HSd2 := Lib.hid hHeld.1
  have HBCd2 := Lib.hid (hHeld.2.1)
  have HBXd2 := Lib.hid (hHeld.2.2)
  clear hHeld HRK HRD HS1 HBC1 HBX1
  (try go_wp2_with fail)
  go_ret
  exact ⟨rfl, HSd2.out⟩
set_option maxHeartbeats 4000000 in
theorem may_ltb (c : CfgV) (x : CarV) (w : World) (hg : goodB c x = true) (hl : lvB x.un = true) (hm : x.mo = 1) (ht : 0 ≤ x.ta) (ht2 : ¬ x.ta < fl c.fl) : Calls Try.prog 38 #[.agg (cfgA c), .agg (carA x)] w fun e w' => e = .returned (.bool false) ∧ Since w w' := by
  have HG := Lib.hid hg
  clear hg
  have HL := Lib.hid hl
  clear hl
  have HM := Lib.hid hm
  clear hm
  have HT := Lib.hid ht
  clear ht
  have HT2 := Lib.hid ht2
  clear ht2
  go_enter Try.func38, Try.ntmps38
  go_upto_region 1 with fail
  obtain ⟨w1, hw1⟩ : ∃ w1, w1 = ((w.alloc (.cells (cfgA c) 23)).alloc (.cells (carA x) 30)) := ⟨_, rfl⟩
  rw [← hw1]
  have HBC1 := Lib.hid (show Blk w1 (w.heap.size) 23 (cfgA c) by rw [hw1]; exact Blk.alloc (Blk.at_ (by (try simp only [size_alloc])) _ _) _)
  have HBX1 := Lib.hid (show Blk w1 (w.heap.size + 1) 30 (carA x) by rw [hw1]; exact Blk.at_ (by (try simp only [size_alloc])) _ _)
  have HS1 := Lib.hid (show Since w w1 by rw [hw1]; exact Since.alloc (Since.alloc (Since.refl w) _) _)
  have hNE : w.heap.size ≤ w.heap.size ∧ w.heap.size < w.heap.size + 1 := by omega
  have HNE := Lib.hid hNE
  clear hNE hw1
  generalize w.heap.size + 1 = bX at *
  have HNE3 := Lib.hid (show w.heap.size ≤ w.heap.size ∧ w.heap.size < bX from HNE.out)
  clear HNE
  refine wp_region_lit ?_
  refine tkL (.pointer (some ⟨bX, 2, none⟩)) (h := ?_)
  (try simp only [Act.put, sA, sB, sC])
  refine wpList_q (by rfl) (.int .i64 x.un) ?he ?_
  case he => exact exec_cell 3 _ _ HBX1.out rfl rfl rfl Try.underlying3 rfl
  (try simp only [Act.put, sA, sB, sC])
  refine wpList_wp (by rfl) (fun K hK => ?_)
  (try go_simp)
  refine (levelRV x.un true _ HL.out).mono ?_
  rintro e w' ⟨rfl, rfl⟩
  (try go_wp2_with fail)
  refine hK.out _ _ ?_
  clear hK K
  (try simp only [Act.put, sA, sB, sC])
  refine tkL (.tuple #[.int .i64 (lvN x.un), .bool true]) (h := ?_)
  (try simp only [Act.put, sA, sB, sC])
  refine tkL (.int .i64 (lvN x.un)) (h := ?_)
  (try simp only [Act.put, sA, sB, sC])
  refine tkL (.bool true) (h := ?_)
  (try simp only [Act.put, sA, sB, sC])
  refine tkL (.int .i64 (lvN x.un)) (h := ?_)
  (try simp only [Act.put, sA, sB, sC])
  refine tkL (.bool true) (h := ?_)
  (try simp only [Act.put, sA, sB, sC])
  refine wpList_nil ?_
  go_upto_region 2 with fail
  have hrK : ∀ W W' : World, Since W W' → (Since w W ∧ Blk W w.heap.size 23 (cfgA c) ∧ Blk W bX 30 (carA x)) → (Since w W' ∧ Blk W' w.heap.size 23 (cfgA c) ∧ Blk W' bX 30 (carA x)) := fun W W' k ⟨h, h0, h1⟩ => ⟨h.trans k, keep_blk k h0, keep_blk k h1⟩
  have hrS : (fun W : World => Since w W ∧ Blk W w.heap.size 23 (cfgA c) ∧ Blk W bX 30 (carA x)) w1 := ⟨HS1.out, HBC1.out, HBX1.out⟩
  have HRK := Lib.hid hrK
  have HRD := Lib.hid (show (fun W : World => Since w W ∧ Blk W w.heap.size 23 (cfgA c) ∧ Blk W bX 30 (carA x)) (World.drew w1) from hrK _ _ ((Since.refl w1).drew) hrS)
  clear hrK hrS
  refine wp_region_held_drew (S := fun W : World => Since w W ∧ Blk W w.heap.size 23 (cfgA c) ∧ Blk W bX 30 (carA x)) (by kernel_rfl) HRD.out (fun hHeld => ?_)
  refine tkQ 0 (.agg (cfgA c)) hHeld (he := by intro w hSw; exact exec_load_row 23 _ _ hSw.2.1 rfl rfl Try.underlying23 rfl (by kernel_rfl)) (h := ?_)
  (try simp only [Act.put, sA, sB, sC])
  refine tkQ 1 (.agg (carA x)) hHeld (he := by intro w hSw; exact exec_load_row 30 _ _ hSw.2.2 rfl rfl Try.underlying30 rfl (by kernel_rfl)) (h := ?_)
  (try simp only [Act.put, sA, sB, sC])
  refine wpAnyH_ready (rs := [2]) (by kernel_rfl) (by simp) ?_
  refine AllReadyH.cons (o := ?o2__2) ?h2__2 (fun K hK => ?_) AllReadyH.nil
  case h2__2 => (first | (simp only [gA, gB, gC]; done) | (simp only [gA, gB, gC]; exact rfl))
  (try go_simp)
  refine (goodRV c x true _ HG.out).mono ?_
  rintro e w2 ⟨rfl, hb⟩
  (try go_wp2_with fail)
  refine hK.out _ _ (by (apply HRK.out; exact hb; exact hHeld)) (fun hHeld2 => ?_)
  clear hK K hHeld hb
  have hHeld := hHeld2
  clear hHeld2
  (try simp only [Act.put, sA, sB, sC])
  refine tkQ 3 (.bool true) hHeld (h := ?_)
  (try simp only [Act.put, sA, sB, sC])
  refine tkQ 4 (.pointer (some ⟨bX, 9, none⟩)) hHeld (h := ?_)
  (try simp only [Act.put, sA, sB, sC])
  refine tkQ 5 (.int .i64 x.mo) hHeld (he := by intro w hSw; exact exec_cell 3 _ _ hSw.2.2 rfl rfl rfl Try.underlying3 rfl) (h := ?_)
  (try simp only [Act.put, sA, sB, sC])
  refine tkQ 6 (.bool false) hHeld (he := by intro w hSw; (have q0 := HM.out; go_simp; (first | done | rfl | omega))) (h := ?_)
  (try simp only [Act.put, sA, sB, sC])
  refine tkQ 7 (.bool false) hHeld (h := ?_)
  (try simp only [Act.put, sA, sB, sC])
  refine tkQ 8 (.pointer (some ⟨bX, 9, none⟩)) hHeld (h := ?_)
  (try simp only [Act.put, sA, sB, sC])
  refine tkQ 9 (.int .i64 x.mo) hHeld (he := by intro w hSw; exact exec_cell 3 _ _ hSw.2.2 rfl rfl rfl Try.underlying3 rfl) (h := ?_)
  (try simp only [Act.put, sA, sB, sC])
  refine tkQ 10 (.bool true) hHeld (he := by intro w hSw; (have q0 := HM.out; go_simp; (first | done | rfl | omega))) (h := ?_)
  (try simp only [Act.put, sA, sB, sC])
  refine tkQ 11 (.bool true) hHeld (h := ?_)
  (try simp only [Act.put, sA, sB, sC])
  refine tkQ 12 (.bool true) hHeld (h := ?_)
  (try simp only [Act.put, sA, sB, sC])
  refine tkQ 13 (.bool true) hHeld (h := ?_)
  (try simp only [Act.put, sA, sB, sC])
  refine tkQ 14 (.bool true) hHeld (h := ?_)
  (try simp only [Act.put, sA, sB, sC])
  refine tkQ 15 (.bool true) hHeld (h := ?_)
  (try simp only [Act.put, sA, sB, sC])
  refine tkU 16 hHeld (h := ?_)
  (try simp only [Act.put, sA, sB, sC])
  refine tkU 17 hHeld (h := ?_)
  (try simp only [Act.put, sA, sB, sC])
  refine tkU 18 hHeld (h := ?_)
  (try simp only [Act.put, sA, sB, sC])
  refine tkQ 19 (.bool true) hHeld (h := ?_)
  (try simp only [Act.put, sA, sB, sC])
  refine tkQ 20 (.bool true) hHeld (h := ?_)
  (try simp only [Act.put, sA, sB, sC])
  refine tkQ 21 (.bool true) hHeld (h := ?_)
  (try simp only [Act.put, sA, sB, sC])
  refine tkQ 22 (.pointer (some ⟨bX, 9, none⟩)) hHeld (h := ?_)
  (try simp only [Act.put, sA, sB, sC])
  refine tkQ 23 (.int .i64 x.mo) hHeld (he := by intro w hSw; exact exec_cell 3 _ _ hSw.2.2 rfl rfl rfl Try.underlying3 rfl) (h := ?_)
  (try simp only [Act.put, sA, sB, sC])
  refine tkQ 24 (.bool false) hHeld (he := by intro w hSw; (have q0 := HM.out; go_simp; (first | done | rfl | omega))) (h := ?_)
  (try simp only [Act.put, sA, sB, sC])
  refine tkQ 25 (.bool false) hHeld (h := ?_)
  (try simp only [Act.put, sA, sB, sC])
  refine tkQ 26 (.pointer (some ⟨bX, 10, none⟩)) hHeld (h := ?_)
  (try simp only [Act.put, sA, sB, sC])
  refine tkQ 27 (.int .i64 x.ta) hHeld (he := by intro w hSw; exact exec_cell 3 _ _ hSw.2.2 rfl rfl rfl Try.underlying3 rfl) (h := ?_)
  (try simp only [Act.put, sA, sB, sC])
  refine tkQ 28 (.bool true) hHeld (he := by intro w hSw; (have q0 := HT.out; go_simp; (first | done | rfl | omega))) (h := ?_)
  (try simp only [Act.put, sA, sB, sC])
  refine tkQ 29 (.bool true) hHeld (h := ?_)
  (try simp only [Act.put, sA, sB, sC])
  refine tkQ 30 (.pointer (some ⟨bX, 10, none⟩)) hHeld (h := ?_)
  (try simp only [Act.put, sA, sB, sC])
  refine tkQ 31 (.int .i64 x.ta) hHeld (he := by intro w hSw; exact exec_cell 3 _ _ hSw.2.2 rfl rfl rfl Try.underlying3 rfl) (h := ?_)
  (try simp only [Act.put, sA, sB, sC])
  refine tkQ 32 (.pointer (some ⟨w.heap.size, 1, none⟩)) hHeld (h := ?_)
  (try simp only [Act.put, sA, sB, sC])
  refine tkQ 33 (.int .i64 c.fl) hHeld (he := by intro w hSw; exact exec_cell 3 _ _ hSw.2.1 rfl rfl rfl Try.underlying3 rfl) (h := ?_)
  (try simp only [Act.put, sA, sB, sC])
  refine wpAnyH_ready (rs := [34]) (by kernel_rfl) (by simp) ?_
  refine AllReadyH.cons (o := ?o2__34) ?h2__34 (fun K hK => ?_) AllReadyH.nil
  case h2__34 => (first | (simp only [gA, gB, gC]; done) | (simp only [gA, gB, gC]; exact rfl))
  (try go_simp)
  refine (floorsR c.fl _).mono ?_
  rintro e w' ⟨rfl, rfl⟩
  (try go_wp2_with fail)
  refine hK.out _ _ hHeld (fun hHeld2 => ?_)
  clear hK K hHeld2
  (try simp only [Act.put, sA, sB, sC])
  refine tkQ 35 (.bool false) hHeld (he := by intro w hSw; (have q0 := HT2.out; go_simp; (first | done | rfl | omega))) (h := ?_)
  (try simp only [Act.put, sA, sB, sC])
  refine tkQ 36 (.bool false) hHeld (h := ?_)
  (try simp only [Act.put, sA, sB, sC])
  refine tkQ 37 (.bool false) hHeld (h := ?_)
  (try simp only [Act.put, sA, sB, sC])
  refine tkQ 38 (.bool false) hHeld (h := ?_)
  (try simp only [Act.put, sA, sB, sC])
  refine tkQ 39 (.bool false) hHeld (h := ?_)
  (try simp only [Act.put, sA, sB, sC])
  refine wpAnyH_done (by kernel_rfl) ?_ _
  have HSd2 := Lib.hid hHeld.1
  have HBCd2 := Lib.hid (hHeld.2.1)
  have HBXd2 := Lib.hid (hHeld.2.2)
  clear hHeld HRK HRD HS1 HBC1 HBX1
  (try go_wp2_with fail)
  go_ret
  exact ⟨rfl, HSd2.out⟩
set_option maxHeartbeats 4000000 in
theorem may_ltc (c : CfgV) (x : CarV) (w : World) (hg : goodB c x = true) (hl : lvB x.un = true) (hm : x.mo = 1) (ht : 0 ≤ x.ta) (ht2 : x.ta < fl c.fl) : Calls Try.prog 38 #[.agg (cfgA c), .agg (carA x)] w fun e w' => e = .returned (.bool true) ∧ Since w w' := by
  have HG := Lib.hid hg
  clear hg
  have HL := Lib.hid hl
  clear hl
  have HM := Lib.hid hm
  clear hm
  have HT := Lib.hid ht
  clear ht
  have HT2 := Lib.hid ht2
  clear ht2
  go_enter Try.func38, Try.ntmps38
  go_upto_region 1 with fail
  obtain ⟨w1, hw1⟩ : ∃ w1, w1 = ((w.alloc (.cells (cfgA c) 23)).alloc (.cells (carA x) 30)) := ⟨_, rfl⟩
  rw [← hw1]
  have HBC1 := Lib.hid (show Blk w1 (w.heap.size) 23 (cfgA c) by rw [hw1]; exact Blk.alloc (Blk.at_ (by (try simp only [size_alloc])) _ _) _)
  have HBX1 := Lib.hid (show Blk w1 (w.heap.size + 1) 30 (carA x) by rw [hw1]; exact Blk.at_ (by (try simp only [size_alloc])) _ _)
  have HS1 := Lib.hid (show Since w w1 by rw [hw1]; exact Since.alloc (Since.alloc (Since.refl w) _) _)
  have hNE : w.heap.size ≤ w.heap.size ∧ w.heap.size < w.heap.size + 1 := by omega
  have HNE := Lib.hid hNE
  clear hNE hw1
  generalize w.heap.size + 1 = bX at *
  have HNE3 := Lib.hid (show w.heap.size ≤ w.heap.size ∧ w.heap.size < bX from HNE.out)
  clear HNE
  refine wp_region_lit ?_
  refine tkL (.pointer (some ⟨bX, 2, none⟩)) (h := ?_)
  (try simp only [Act.put, sA, sB, sC])
  refine wpList_q (by rfl) (.int .i64 x.un) ?he ?_
  case he => exact exec_cell 3 _ _ HBX1.out rfl rfl rfl Try.underlying3 rfl
  (try simp only [Act.put, sA, sB, sC])
  refine wpList_wp (by rfl) (fun K hK => ?_)
  (try go_simp)
  refine (levelRV x.un true _ HL.out).mono ?_
  rintro e w' ⟨rfl, rfl⟩
  (try go_wp2_with fail)
  refine hK.out _ _ ?_
  clear hK K
  (try simp only [Act.put, sA, sB, sC])
  refine tkL (.tuple #[.int .i64 (lvN x.un), .bool true]) (h := ?_)
  (try simp only [Act.put, sA, sB, sC])
  refine tkL (.int .i64 (lvN x.un)) (h := ?_)
  (try simp only [Act.put, sA, sB, sC])
  refine tkL (.bool true) (h := ?_)
  (try simp only [Act.put, sA, sB, sC])
  refine tkL (.int .i64 (lvN x.un)) (h := ?_)
  (try simp only [Act.put, sA, sB, sC])
  refine tkL (.bool true) (h := ?_)
  (try simp only [Act.put, sA, sB, sC])
  refine wpList_nil ?_
  go_upto_region 2 with fail
  have hrK : ∀ W W' : World, Since W W' → (Since w W ∧ Blk W w.heap.size 23 (cfgA c) ∧ Blk W bX 30 (carA x)) → (Since w W' ∧ Blk W' w.heap.size 23 (cfgA c) ∧ Blk W' bX 30 (carA x)) := fun W W' k ⟨h, h0, h1⟩ => ⟨h.trans k, keep_blk k h0, keep_blk k h1⟩
  have hrS : (fun W : World => Since w W ∧ Blk W w.heap.size 23 (cfgA c) ∧ Blk W bX 30 (carA x)) w1 := ⟨HS1.out, HBC1.out, HBX1.out⟩
  have HRK := Lib.hid hrK
  have HRD := Lib.hid (show (fun W : World => Since w W ∧ Blk W w.heap.size 23 (cfgA c) ∧ Blk W bX 30 (carA x)) (World.drew w1) from hrK _ _ ((Since.refl w1).drew) hrS)
  clear hrK hrS
  refine wp_region_held_drew (S := fun W : World => Since w W ∧ Blk W w.heap.size 23 (cfgA c) ∧ Blk W bX 30 (carA x)) (by kernel_rfl) HRD.out (fun hHeld => ?_)
  refine tkQ 0 (.agg (cfgA c)) hHeld (he := by intro w hSw; exact exec_load_row 23 _ _ hSw.2.1 rfl rfl Try.underlying23 rfl (by kernel_rfl)) (h := ?_)
  (try simp only [Act.put, sA, sB, sC])
  refine tkQ 1 (.agg (carA x)) hHeld (he := by intro w hSw; exact exec_load_row 30 _ _ hSw.2.2 rfl rfl Try.underlying30 rfl (by kernel_rfl)) (h := ?_)
  (try simp only [Act.put, sA, sB, sC])
  refine wpAnyH_ready (rs := [2]) (by kernel_rfl) (by simp) ?_
  refine AllReadyH.cons (o := ?o2__2) ?h2__2 (fun K hK => ?_) AllReadyH.nil
  case h2__2 => (first | (simp only [gA, gB, gC]; done) | (simp only [gA, gB, gC]; exact rfl))
  (try go_simp)
  refine (goodRV c x true _ HG.out).mono ?_
  rintro e w2 ⟨rfl, hb⟩
  (try go_wp2_with fail)
  refine hK.out _ _ (by (apply HRK.out; exact hb; exact hHeld)) (fun hHeld2 => ?_)
  clear hK K hHeld hb
  have hHeld := hHeld2
  clear hHeld2
  (try simp only [Act.put, sA, sB, sC])
  refine tkQ 3 (.bool true) hHeld (h := ?_)
  (try simp only [Act.put, sA, sB, sC])
  refine tkQ 4 (.pointer (some ⟨bX, 9, none⟩)) hHeld (h := ?_)
  (try simp only [Act.put, sA, sB, sC])
  refine tkQ 5 (.int .i64 x.mo) hHeld (he := by intro w hSw; exact exec_cell 3 _ _ hSw.2.2 rfl rfl rfl Try.underlying3 rfl) (h := ?_)
  (try simp only [Act.put, sA, sB, sC])
  refine tkQ 6 (.bool false) hHeld (he := by intro w hSw; (have q0 := HM.out; go_simp; (first | done | rfl | omega))) (h := ?_)
  (try simp only [Act.put, sA, sB, sC])
  refine tkQ 7 (.bool false) hHeld (h := ?_)
  (try simp only [Act.put, sA, sB, sC])
  refine tkQ 8 (.pointer (some ⟨bX, 9, none⟩)) hHeld (h := ?_)
  (try simp only [Act.put, sA, sB, sC])
  refine tkQ 9 (.int .i64 x.mo) hHeld (he := by intro w hSw; exact exec_cell 3 _ _ hSw.2.2 rfl rfl rfl Try.underlying3 rfl) (h := ?_)
  (try simp only [Act.put, sA, sB, sC])
  refine tkQ 10 (.bool true) hHeld (he := by intro w hSw; (have q0 := HM.out; go_simp; (first | done | rfl | omega))) (h := ?_)
  (try simp only [Act.put, sA, sB, sC])
  refine tkQ 11 (.bool true) hHeld (h := ?_)
  (try simp only [Act.put, sA, sB, sC])
  refine tkQ 12 (.bool true) hHeld (h := ?_)
  (try simp only [Act.put, sA, sB, sC])
  refine tkQ 13 (.bool true) hHeld (h := ?_)
  (try simp only [Act.put, sA, sB, sC])
  refine tkQ 14 (.bool true) hHeld (h := ?_)
  (try simp only [Act.put, sA, sB, sC])
  refine tkQ 15 (.bool true) hHeld (h := ?_)
  (try simp only [Act.put, sA, sB, sC])
  refine tkU 16 hHeld (h := ?_)
  (try simp only [Act.put, sA, sB, sC])
  refine tkU 17 hHeld (h := ?_)
  (try simp only [Act.put, sA, sB, sC])
  refine tkU 18 hHeld (h := ?_)
  (try simp only [Act.put, sA, sB, sC])
  refine tkQ 19 (.bool true) hHeld (h := ?_)
  (try simp only [Act.put, sA, sB, sC])
  refine tkQ 20 (.bool true) hHeld (h := ?_)
  (try simp only [Act.put, sA, sB, sC])
  refine tkQ 21 (.bool true) hHeld (h := ?_)
  (try simp only [Act.put, sA, sB, sC])
  refine tkQ 22 (.pointer (some ⟨bX, 9, none⟩)) hHeld (h := ?_)
  (try simp only [Act.put, sA, sB, sC])
  refine tkQ 23 (.int .i64 x.mo) hHeld (he := by intro w hSw; exact exec_cell 3 _ _ hSw.2.2 rfl rfl rfl Try.underlying3 rfl) (h := ?_)
  (try simp only [Act.put, sA, sB, sC])
  refine tkQ 24 (.bool false) hHeld (he := by intro w hSw; (have q0 := HM.out; go_simp; (first | done | rfl | omega))) (h := ?_)
  (try simp only [Act.put, sA, sB, sC])
  refine tkQ 25 (.bool false) hHeld (h := ?_)
  (try simp only [Act.put, sA, sB, sC])
  refine tkQ 26 (.pointer (some ⟨bX, 10, none⟩)) hHeld (h := ?_)
  (try simp only [Act.put, sA, sB, sC])
  refine tkQ 27 (.int .i64 x.ta) hHeld (he := by intro w hSw; exact exec_cell 3 _ _ hSw.2.2 rfl rfl rfl Try.underlying3 rfl) (h := ?_)
  (try simp only [Act.put, sA, sB, sC])
  refine tkQ 28 (.bool true) hHeld (he := by intro w hSw; (have q0 := HT.out; go_simp; (first | done | rfl | omega))) (h := ?_)
  (try simp only [Act.put, sA, sB, sC])
  refine tkQ 29 (.bool true) hHeld (h := ?_)
  (try simp only [Act.put, sA, sB, sC])
  refine tkQ 30 (.pointer (some ⟨bX, 10, none⟩)) hHeld (h := ?_)
  (try simp only [Act.put, sA, sB, sC])
  refine tkQ 31 (.int .i64 x.ta) hHeld (he := by intro w hSw; exact exec_cell 3 _ _ hSw.2.2 rfl rfl rfl Try.underlying3 rfl) (h := ?_)
  (try simp only [Act.put, sA, sB, sC])
  refine tkQ 32 (.pointer (some ⟨w.heap.size, 1, none⟩)) hHeld (h := ?_)
  (try simp only [Act.put, sA, sB, sC])
  refine tkQ 33 (.int .i64 c.fl) hHeld (he := by intro w hSw; exact exec_cell 3 _ _ hSw.2.1 rfl rfl rfl Try.underlying3 rfl) (h := ?_)
  (try simp only [Act.put, sA, sB, sC])
  refine wpAnyH_ready (rs := [34]) (by kernel_rfl) (by simp) ?_
  refine AllReadyH.cons (o := ?o2__34) ?h2__34 (fun K hK => ?_) AllReadyH.nil
  case h2__34 => (first | (simp only [gA, gB, gC]; done) | (simp only [gA, gB, gC]; exact rfl))
  (try go_simp)
  refine (floorsR c.fl _).mono ?_
  rintro e w' ⟨rfl, rfl⟩
  (try go_wp2_with fail)
  refine hK.out _ _ hHeld (fun hHeld2 => ?_)
  clear hK K hHeld2
  (try simp only [Act.put, sA, sB, sC])
  refine tkQ 35 (.bool true) hHeld (he := by intro w hSw; (have q0 := HT2.out; go_simp; (first | done | rfl | omega))) (h := ?_)
  (try simp only [Act.put, sA, sB, sC])
  refine tkQ 36 (.bool true) hHeld (h := ?_)
  (try simp only [Act.put, sA, sB, sC])
  refine tkQ 37 (.bool true) hHeld (h := ?_)
  (try simp only [Act.put, sA, sB, sC])
  refine tkQ 38 (.bool true) hHeld (h := ?_)
  (try simp only [Act.put, sA, sB, sC])
  refine tkQ 39 (.bool true) hHeld (h := ?_)
  (try simp only [Act.put, sA, sB, sC])
  refine wpAnyH_done (by kernel_rfl) ?_ _
  have HSd2 := Lib.hid hHeld.1
  have HBCd2 := Lib.hid (hHeld.2.1)
  have HBXd2 := Lib.hid (hHeld.2.2)
  clear hHeld HRK HRD HS1 HBC1 HBX1
  (try go_wp2_with fail)
  go_ret
  exact ⟨rfl, HSd2.out⟩
set_option maxHeartbeats 4000000 in
theorem may_ot (c : CfgV) (x : CarV) (w : World) (hg : goodB c x = true) (hl : lvB x.un = true) (hm : ¬ x.mo = 0) (hm2 : ¬ x.mo = 1) : Calls Try.prog 38 #[.agg (cfgA c), .agg (carA x)] w fun e w' => e = .returned (.bool false) ∧ Since w w' := by
  have HG := Lib.hid hg
  clear hg
  have HL := Lib.hid hl
  clear hl
  have HM := Lib.hid hm
  clear hm
  have HM2 := Lib.hid hm2
  clear hm2
  go_enter Try.func38, Try.ntmps38
  go_upto_region 1 with fail
  obtain ⟨w1, hw1⟩ : ∃ w1, w1 = ((w.alloc (.cells (cfgA c) 23)).alloc (.cells (carA x) 30)) := ⟨_, rfl⟩
  rw [← hw1]
  have HBC1 := Lib.hid (show Blk w1 (w.heap.size) 23 (cfgA c) by rw [hw1]; exact Blk.alloc (Blk.at_ (by (try simp only [size_alloc])) _ _) _)
  have HBX1 := Lib.hid (show Blk w1 (w.heap.size + 1) 30 (carA x) by rw [hw1]; exact Blk.at_ (by (try simp only [size_alloc])) _ _)
  have HS1 := Lib.hid (show Since w w1 by rw [hw1]; exact Since.alloc (Since.alloc (Since.refl w) _) _)
  have hNE : w.heap.size ≤ w.heap.size ∧ w.heap.size < w.heap.size + 1 := by omega
  have HNE := Lib.hid hNE
  clear hNE hw1
  generalize w.heap.size + 1 = bX at *
  have HNE3 := Lib.hid (show w.heap.size ≤ w.heap.size ∧ w.heap.size < bX from HNE.out)
  clear HNE
  refine wp_region_lit ?_
  refine tkL (.pointer (some ⟨bX, 2, none⟩)) (h := ?_)
  (try simp only [Act.put, sA, sB, sC])
  refine wpList_q (by rfl) (.int .i64 x.un) ?he ?_
  case he => exact exec_cell 3 _ _ HBX1.out rfl rfl rfl Try.underlying3 rfl
  (try simp only [Act.put, sA, sB, sC])
  refine wpList_wp (by rfl) (fun K hK => ?_)
  (try go_simp)
  refine (levelRV x.un true _ HL.out).mono ?_
  rintro e w' ⟨rfl, rfl⟩
  (try go_wp2_with fail)
  refine hK.out _ _ ?_
  clear hK K
  (try simp only [Act.put, sA, sB, sC])
  refine tkL (.tuple #[.int .i64 (lvN x.un), .bool true]) (h := ?_)
  (try simp only [Act.put, sA, sB, sC])
  refine tkL (.int .i64 (lvN x.un)) (h := ?_)
  (try simp only [Act.put, sA, sB, sC])
  refine tkL (.bool true) (h := ?_)
  (try simp only [Act.put, sA, sB, sC])
  refine tkL (.int .i64 (lvN x.un)) (h := ?_)
  (try simp only [Act.put, sA, sB, sC])
  refine tkL (.bool true) (h := ?_)
  (try simp only [Act.put, sA, sB, sC])
  refine wpList_nil ?_
  go_upto_region 2 with fail
  have hrK : ∀ W W' : World, Since W W' → (Since w W ∧ Blk W w.heap.size 23 (cfgA c) ∧ Blk W bX 30 (carA x)) → (Since w W' ∧ Blk W' w.heap.size 23 (cfgA c) ∧ Blk W' bX 30 (carA x)) := fun W W' k ⟨h, h0, h1⟩ => ⟨h.trans k, keep_blk k h0, keep_blk k h1⟩
  have hrS : (fun W : World => Since w W ∧ Blk W w.heap.size 23 (cfgA c) ∧ Blk W bX 30 (carA x)) w1 := ⟨HS1.out, HBC1.out, HBX1.out⟩
  have HRK := Lib.hid hrK
  have HRD := Lib.hid (show (fun W : World => Since w W ∧ Blk W w.heap.size 23 (cfgA c) ∧ Blk W bX 30 (carA x)) (World.drew w1) from hrK _ _ ((Since.refl w1).drew) hrS)
  clear hrK hrS
  refine wp_region_held_drew (S := fun W : World => Since w W ∧ Blk W w.heap.size 23 (cfgA c) ∧ Blk W bX 30 (carA x)) (by kernel_rfl) HRD.out (fun hHeld => ?_)
  refine tkQ 0 (.agg (cfgA c)) hHeld (he := by intro w hSw; exact exec_load_row 23 _ _ hSw.2.1 rfl rfl Try.underlying23 rfl (by kernel_rfl)) (h := ?_)
  (try simp only [Act.put, sA, sB, sC])
  refine tkQ 1 (.agg (carA x)) hHeld (he := by intro w hSw; exact exec_load_row 30 _ _ hSw.2.2 rfl rfl Try.underlying30 rfl (by kernel_rfl)) (h := ?_)
  (try simp only [Act.put, sA, sB, sC])
  refine wpAnyH_ready (rs := [2]) (by kernel_rfl) (by simp) ?_
  refine AllReadyH.cons (o := ?o2__2) ?h2__2 (fun K hK => ?_) AllReadyH.nil
  case h2__2 => (first | (simp only [gA, gB, gC]; done) | (simp only [gA, gB, gC]; exact rfl))
  (try go_simp)
  refine (goodRV c x true _ HG.out).mono ?_
  rintro e w2 ⟨rfl, hb⟩
  (try go_wp2_with fail)
  refine hK.out _ _ (by (apply HRK.out; exact hb; exact hHeld)) (fun hHeld2 => ?_)
  clear hK K hHeld hb
  have hHeld := hHeld2
  clear hHeld2
  (try simp only [Act.put, sA, sB, sC])
  refine tkQ 3 (.bool true) hHeld (h := ?_)
  (try simp only [Act.put, sA, sB, sC])
  refine tkQ 4 (.pointer (some ⟨bX, 9, none⟩)) hHeld (h := ?_)
  (try simp only [Act.put, sA, sB, sC])
  refine tkQ 5 (.int .i64 x.mo) hHeld (he := by intro w hSw; exact exec_cell 3 _ _ hSw.2.2 rfl rfl rfl Try.underlying3 rfl) (h := ?_)
  (try simp only [Act.put, sA, sB, sC])
  refine tkQ 6 (.bool false) hHeld (he := by intro w hSw; (have q0 := HM.out; go_simp; (first | done | rfl | omega))) (h := ?_)
  (try simp only [Act.put, sA, sB, sC])
  refine tkQ 7 (.bool false) hHeld (h := ?_)
  (try simp only [Act.put, sA, sB, sC])
  refine tkQ 8 (.pointer (some ⟨bX, 9, none⟩)) hHeld (h := ?_)
  (try simp only [Act.put, sA, sB, sC])
  refine tkQ 9 (.int .i64 x.mo) hHeld (he := by intro w hSw; exact exec_cell 3 _ _ hSw.2.2 rfl rfl rfl Try.underlying3 rfl) (h := ?_)
  (try simp only [Act.put, sA, sB, sC])
  refine tkQ 10 (.bool false) hHeld (he := by intro w hSw; (have q0 := HM2.out; go_simp; (first | done | rfl | omega))) (h := ?_)
  (try simp only [Act.put, sA, sB, sC])
  refine tkQ 11 (.bool false) hHeld (h := ?_)
  (try simp only [Act.put, sA, sB, sC])
  refine tkQ 12 (.bool false) hHeld (h := ?_)
  (try simp only [Act.put, sA, sB, sC])
  refine tkQ 13 (.bool false) hHeld (h := ?_)
  (try simp only [Act.put, sA, sB, sC])
  refine tkU 14 hHeld (h := ?_)
  (try simp only [Act.put, sA, sB, sC])
  refine tkU 15 hHeld (h := ?_)
  (try simp only [Act.put, sA, sB, sC])
  refine tkU 16 hHeld (h := ?_)
  (try simp only [Act.put, sA, sB, sC])
  refine tkU 17 hHeld (h := ?_)
  (try simp only [Act.put, sA, sB, sC])
  refine tkU 18 hHeld (h := ?_)
  (try simp only [Act.put, sA, sB, sC])
  refine tkU 19 hHeld (h := ?_)
  (try simp only [Act.put, sA, sB, sC])
  refine tkQ 20 (.bool false) hHeld (h := ?_)
  (try simp only [Act.put, sA, sB, sC])
  refine tkQ 21 (.bool false) hHeld (h := ?_)
  (try simp only [Act.put, sA, sB, sC])
  refine tkU 22 hHeld (h := ?_)
  (try simp only [Act.put, sA, sB, sC])
  refine tkU 23 hHeld (h := ?_)
  (try simp only [Act.put, sA, sB, sC])
  refine tkU 24 hHeld (h := ?_)
  (try simp only [Act.put, sA, sB, sC])
  refine tkU 25 hHeld (h := ?_)
  (try simp only [Act.put, sA, sB, sC])
  refine tkU 26 hHeld (h := ?_)
  (try simp only [Act.put, sA, sB, sC])
  refine tkU 27 hHeld (h := ?_)
  (try simp only [Act.put, sA, sB, sC])
  refine tkU 28 hHeld (h := ?_)
  (try simp only [Act.put, sA, sB, sC])
  refine tkU 29 hHeld (h := ?_)
  (try simp only [Act.put, sA, sB, sC])
  refine tkU 30 hHeld (h := ?_)
  (try simp only [Act.put, sA, sB, sC])
  refine tkU 31 hHeld (h := ?_)
  (try simp only [Act.put, sA, sB, sC])
  refine tkU 32 hHeld (h := ?_)
  (try simp only [Act.put, sA, sB, sC])
  refine tkU 33 hHeld (h := ?_)
  (try simp only [Act.put, sA, sB, sC])
  refine tkU 34 hHeld (h := ?_)
  (try simp only [Act.put, sA, sB, sC])
  refine tkU 35 hHeld (h := ?_)
  (try simp only [Act.put, sA, sB, sC])
  refine tkU 36 hHeld (h := ?_)
  (try simp only [Act.put, sA, sB, sC])
  refine tkU 37 hHeld (h := ?_)
  (try simp only [Act.put, sA, sB, sC])
  refine tkQ 38 (.bool false) hHeld (h := ?_)
  (try simp only [Act.put, sA, sB, sC])
  refine tkQ 39 (.bool false) hHeld (h := ?_)
  (try simp only [Act.put, sA, sB, sC])
  refine wpAnyH_done (by kernel_rfl) ?_ _
  have HSd2 := Lib.hid hHeld.1
  have HBCd2 := Lib.hid (hHeld.2.1)
  have HBXd2 := Lib.hid (hHeld.2.2)
  clear hHeld HRK HRD HS1 HBC1 HBX1
  (try go_wp2_with fail)
  go_ret
  exact ⟨rfl, HSd2.out⟩
end Go.Proofs.Ytdbbacpofgjgoaa.Ct
