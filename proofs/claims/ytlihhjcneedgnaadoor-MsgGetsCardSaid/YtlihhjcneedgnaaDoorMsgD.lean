/-
  msg.Get, walked, way by way.
  Conditions: what stands ahead of each.
-/
import Derived.Test.YtlihhjcneedgnaaDoorMsgC
import Derived.Test.YtlihhjcneedgnaaDoorMsgN
namespace Go.Proofs.YtlihhjcneedgnaaDoor.Mg
set_option linter.unusedVariables false
set_option linter.unusedSimpArgs false
open Go.RowKit Go.Proofs.YtlihhjcneedgnaaDoor.Ba Go.Proofs.YtlihhjcneedgnaaDoor.Mem
open Go.Proofs.YtlihhjcneedgnaaDoor.Byt (BV isB cells)
set_option maxRecDepth 100000
attribute [local irreducible] Go.wpList
set_option maxHeartbeats 4000000 in
theorem getX (a : Option Addr) (n cap : Nat) (h8 : n ≠ 8) (h21 : n ≠ 21) (w : World) : Calls Tryd.prog 11 #[.slice a n cap] w fun e w' => e = .returned (.tuple #[.agg (pktC zeroP), .int .i64 2]) ∧ Since w w' := by
  have H8 := Lib.hid h8
  clear h8
  have H21 := Lib.hid h21
  clear h21
  go_enter Tryd.func11, Tryd.ntmps11
  go_upto_region 1 with fail
  obtain ⟨w1, hw1⟩ : ∃ w1, w1 = (w.alloc (.cells #[.int .i64 0, .int .i64 0, .int .i64 0, .int .i64 0, .bool false, .int .i64 0, .int .i64 0, .int .i64 0, .int .i64 0] 25)) := ⟨_, rfl⟩
  rw [← hw1]
  have HBR1 := Lib.hid (show Blk w1 (w.heap.size) 25 #[.int .i64 0, .int .i64 0, .int .i64 0, .int .i64 0, .bool false, .int .i64 0, .int .i64 0, .int .i64 0, .int .i64 0] by rw [hw1]; exact Blk.at_ (by (try simp only [size_alloc])) _ _)
  have HS1 := Lib.hid (show Since w w1 by rw [hw1]; exact Since.alloc (Since.refl w) _)
  have hNE : w.heap.size ≤ w.heap.size := by omega
  have HNE := Lib.hid hNE
  clear hNE hw1
  have HNE3 := Lib.hid (show w.heap.size ≤ w.heap.size from HNE.out)
  clear HNE
  refine wp_region_lit ?_
  refine wpList_q (by rfl) (.slice a n cap) ?he ?_
  case he => (first | rfl | (go_simp; (try with_reducible rfl)))
  (try simp only [Act.put, sA, sB, sC])
  refine wpList_q (by rfl) (.int .i64 n) ?he ?_
  case he => (go_simp; (try with_reducible rfl))
  (try simp only [Act.put, sA, sB, sC])
  refine wpList_q (by rfl) (.bool true) ?he ?_
  case he => (go_simp; (first | done | (have q := H8.out; omega)))
  (try simp only [Act.put, sA, sB, sC])
  refine wpList_q (by rfl) (.bool true) ?he ?_
  case he => (first | rfl | (go_simp; (try with_reducible rfl)))
  (try simp only [Act.put, sA, sB, sC])
  refine wpList_q (by rfl) (.slice a n cap) ?he ?_
  case he => (first | rfl | (go_simp; (try with_reducible rfl)))
  (try simp only [Act.put, sA, sB, sC])
  refine wpList_q (by rfl) (.int .i64 n) ?he ?_
  case he => (go_simp; (try with_reducible rfl))
  (try simp only [Act.put, sA, sB, sC])
  refine wpList_q (by rfl) (.bool true) ?he ?_
  case he => (go_simp; (first | done | (have q := H21.out; omega)))
  (try simp only [Act.put, sA, sB, sC])
  refine wpList_q (by rfl) (.bool true) ?he ?_
  case he => (first | rfl | (go_simp; (try with_reducible rfl)))
  (try simp only [Act.put, sA, sB, sC])
  refine wpList_q (by rfl) (.bool true) ?he ?_
  case he => (first | rfl | (go_simp; (try with_reducible rfl)))
  (try simp only [Act.put, sA, sB, sC])
  refine wpList_no (by rfl) ?_
  (try simp only [Act.put, sA, sB, sC])
  refine wpList_no (by rfl) ?_
  (try simp only [Act.put, sA, sB, sC])
  refine wpList_no (by rfl) ?_
  (try simp only [Act.put, sA, sB, sC])
  refine wpList_no (by rfl) ?_
  (try simp only [Act.put, sA, sB, sC])
  refine wpList_q (by rfl) (.bool true) ?he ?_
  case he => (first | rfl | (go_simp; (try with_reducible rfl)))
  (try simp only [Act.put, sA, sB, sC])
  refine wpList_nil ?_
  go_upto_region 2 with fail
  refine wp_region_lit ?_
  refine wpList_q (by rfl) (.agg #[.int .i64 0, .int .i64 0, .int .i64 0, .int .i64 0, .bool false, .int .i64 0, .int .i64 0, .int .i64 0, .int .i64 0]) ?he ?_
  case he => kernel_rfl
  (try simp only [Act.put, sA, sB, sC])
  refine wpList_wp (by rfl) (fun K hK => ?_)
  refine wp_st_row 25 _ _ rfl #[.int .i64 0, .int .i64 0, .int .i64 0, .int .i64 0, .bool false, .int .i64 0, .int .i64 0, .int .i64 0, .int .i64 0] rfl rfl (HasRow.of HBR1.out rfl) rfl (by simp [pktC, msgC, Value.oneCell']) (by kernel_rfl) ?_
  intro w2 hw
  refine hK.out _ _ ?_
  clear hK K
  (try simp only [Act.put, sA, sB, sC])
  have HS2 := Lib.hid (show Since w w2 by rw [hw]; exact Since.setRow HS1.out (by have := HNE3.out; omega) _)
  have HBR2 := Lib.hid (show Blk w2 w.heap.size 25 #[.int .i64 0, .int .i64 0, .int .i64 0, .int .i64 0, .bool false, .int .i64 0, .int .i64 0, .int .i64 0, .int .i64 0] by rw [hw]; exact Blk.row HBR1.out _)
  clear hw HS1 HBR1
  refine wpList_q (by rfl) (.int .i64 2) ?he ?_
  case he => (first | rfl | (go_simp; (try with_reducible rfl)))
  (try simp only [Act.put, sA, sB, sC])
  refine wpList_nil ?_
  (try go_wp2_with fail)
  exact bodyPost_ret (results_row2 rfl _ _ w.heap.size 25 #[.int .i64 0, .int .i64 0, .int .i64 0, .int .i64 0, .bool false, .int .i64 0, .int .i64 0, .int .i64 0, .int .i64 0] _ (.int .i64 2) rfl rfl HBR2.out Tryd.underlying25 rfl (by kernel_rfl)) rfl ⟨rfl, HS2.out⟩
set_option maxHeartbeats 4000000 in
theorem getZ8 (b off cap : Nat) (zs : List Int) (w : World) (h : BV w (some ⟨b, off, none⟩) 8 zs) (hcp : 8 ≤ cap) (hz : z zs 0 ≠ 1) : Calls Tryd.prog 11 #[.slice (some ⟨b, off, none⟩) 8 cap] w fun e w' => e = .returned (.tuple #[.agg (pktC zeroP), .int .i64 2]) ∧ Since w w' := by
  have hl : zs.length = 8 := h.1
  obtain ⟨b', off', he, hlt, hcell⟩ := h.addr (by omega)
  obtain ⟨rfl, rfl⟩ : b = b' ∧ off = off' := by simp only [Option.some.injEq, Addr.mk.injEq, and_true] at he; exact he
  have HC := Lib.hid hcell
  have hci : (8 : Int) ≤ (cap : Int) := by omega
  have HV2 := Lib.hid (bv_part (i := 2) (m := 2) h (by omega) (part2 (by omega)))
  have HV4 := Lib.hid (bv_part (i := 4) (m := 2) h (by omega) (part2 (by omega)))
  have HV6 := Lib.hid (bv_part (i := 6) (m := 2) h (by omega) (part2 (by omega)))
  have HI1 := Lib.hid (z_isB h.2.2.1 1)
  clear he hlt hcell hl h
  have HZ := Lib.hid hz
  clear hz
  go_enter Tryd.func11, Tryd.ntmps11
  go_upto_region 1 with fail
  obtain ⟨w1, hw1⟩ : ∃ w1, w1 = (w.alloc (.cells #[.int .i64 0, .int .i64 0, .int .i64 0, .int .i64 0, .bool false, .int .i64 0, .int .i64 0, .int .i64 0, .int .i64 0] 25)) := ⟨_, rfl⟩
  rw [← hw1]
  have HBR1 := Lib.hid (show Blk w1 (w.heap.size) 25 #[.int .i64 0, .int .i64 0, .int .i64 0, .int .i64 0, .bool false, .int .i64 0, .int .i64 0, .int .i64 0, .int .i64 0] by rw [hw1]; exact Blk.at_ (by (try simp only [size_alloc])) _ _)
  have HS1 := Lib.hid (show Since w w1 by rw [hw1]; exact Since.alloc (Since.refl w) _)
  have hNE : w.heap.size ≤ w.heap.size := by omega
  have HNE := Lib.hid hNE
  clear hNE hw1
  have HNE3 := Lib.hid (show w.heap.size ≤ w.heap.size from HNE.out)
  clear HNE
  refine wp_region_lit ?_
  refine wpList_q (by rfl) (.slice (some ⟨b, off, none⟩) 8 cap) ?he ?_
  case he => (first | rfl | (go_simp; (try with_reducible rfl)))
  (try simp only [Act.put, sA, sB, sC])
  refine wpList_q (by rfl) (.int .i64 8) ?he ?_
  case he => (go_simp; (try with_reducible rfl))
  (try simp only [Act.put, sA, sB, sC])
  refine wpList_q (by rfl) (.bool false) ?he ?_
  case he => (go_simp; (try with_reducible rfl))
  (try simp only [Act.put, sA, sB, sC])
  refine wpList_q (by rfl) (.bool false) ?he ?_
  case he => (first | rfl | (go_simp; (try with_reducible rfl)))
  (try simp only [Act.put, sA, sB, sC])
  refine wpList_no (by rfl) ?_
  (try simp only [Act.put, sA, sB, sC])
  refine wpList_no (by rfl) ?_
  (try simp only [Act.put, sA, sB, sC])
  refine wpList_no (by rfl) ?_
  (try simp only [Act.put, sA, sB, sC])
  refine wpList_q (by rfl) (.bool false) ?he ?_
  case he => (first | rfl | (go_simp; (try with_reducible rfl)))
  (try simp only [Act.put, sA, sB, sC])
  refine wpList_q (by rfl) (.bool false) ?he ?_
  case he => (first | rfl | (go_simp; (try with_reducible rfl)))
  (try simp only [Act.put, sA, sB, sC])
  refine wpList_q (by rfl) (.slice (some ⟨b, off, none⟩) 8 cap) ?he ?_
  case he => (first | rfl | (go_simp; (try with_reducible rfl)))
  (try simp only [Act.put, sA, sB, sC])
  refine wpList_q (by rfl) (.pointer (some ⟨b, off, none⟩)) ?he ?_
  case he => (first | rfl | (go_simp; (try with_reducible rfl)))
  (try simp only [Act.put, sA, sB, sC])
  refine wpList_q (by rfl) (.int .u8 (z zs 0)) ?he ?_
  case he => exact exec_at 5 _ _ (keep_cell HS1.out (HC.out 0 (by omega))) rfl rfl Tryd.underlying5 rfl
  (try simp only [Act.put, sA, sB, sC])
  refine wpList_q (by rfl) (.bool true) ?he ?_
  case he => (go_simp; (first | done | (have q := HZ.out; omega)))
  (try simp only [Act.put, sA, sB, sC])
  refine wpList_q (by rfl) (.bool true) ?he ?_
  case he => (first | rfl | (go_simp; (try with_reducible rfl)))
  (try simp only [Act.put, sA, sB, sC])
  refine wpList_nil ?_
  go_upto_region 2 with fail
  refine wp_region_lit ?_
  refine wpList_q (by rfl) (.agg #[.int .i64 0, .int .i64 0, .int .i64 0, .int .i64 0, .bool false, .int .i64 0, .int .i64 0, .int .i64 0, .int .i64 0]) ?he ?_
  case he => kernel_rfl
  (try simp only [Act.put, sA, sB, sC])
  refine wpList_wp (by rfl) (fun K hK => ?_)
  refine wp_st_row 25 _ _ rfl #[.int .i64 0, .int .i64 0, .int .i64 0, .int .i64 0, .bool false, .int .i64 0, .int .i64 0, .int .i64 0, .int .i64 0] rfl rfl (HasRow.of HBR1.out rfl) rfl (by simp [pktC, msgC, Value.oneCell']) (by kernel_rfl) ?_
  intro w2 hw
  refine hK.out _ _ ?_
  clear hK K
  (try simp only [Act.put, sA, sB, sC])
  have HS2 := Lib.hid (show Since w w2 by rw [hw]; exact Since.setRow HS1.out (by have := HNE3.out; omega) _)
  have HBR2 := Lib.hid (show Blk w2 w.heap.size 25 #[.int .i64 0, .int .i64 0, .int .i64 0, .int .i64 0, .bool false, .int .i64 0, .int .i64 0, .int .i64 0, .int .i64 0] by rw [hw]; exact Blk.row HBR1.out _)
  clear hw HS1 HBR1
  refine wpList_q (by rfl) (.int .i64 2) ?he ?_
  case he => (first | rfl | (go_simp; (try with_reducible rfl)))
  (try simp only [Act.put, sA, sB, sC])
  refine wpList_nil ?_
  (try go_wp2_with fail)
  exact bodyPost_ret (results_row2 rfl _ _ w.heap.size 25 #[.int .i64 0, .int .i64 0, .int .i64 0, .int .i64 0, .bool false, .int .i64 0, .int .i64 0, .int .i64 0, .int .i64 0] _ (.int .i64 2) rfl rfl HBR2.out Tryd.underlying25 rfl (by kernel_rfl)) rfl ⟨rfl, HS2.out⟩
set_option maxHeartbeats 4000000 in
theorem getZ21 (b off cap : Nat) (zs : List Int) (w : World) (h : BV w (some ⟨b, off, none⟩) 21 zs) (hcp : 21 ≤ cap) (hz : z zs 0 ≠ 1) : Calls Tryd.prog 11 #[.slice (some ⟨b, off, none⟩) 21 cap] w fun e w' => e = .returned (.tuple #[.agg (pktC zeroP), .int .i64 2]) ∧ Since w w' := by
  have hl : zs.length = 21 := h.1
  obtain ⟨b', off', he, hlt, hcell⟩ := h.addr (by omega)
  obtain ⟨rfl, rfl⟩ : b = b' ∧ off = off' := by simp only [Option.some.injEq, Addr.mk.injEq, and_true] at he; exact he
  have HC := Lib.hid hcell
  have hci : (21 : Int) ≤ (cap : Int) := by omega
  have HV2 := Lib.hid (bv_part (i := 2) (m := 2) h (by omega) (part2 (by omega)))
  have HV4 := Lib.hid (bv_part (i := 4) (m := 2) h (by omega) (part2 (by omega)))
  have HV6 := Lib.hid (bv_part (i := 6) (m := 2) h (by omega) (part2 (by omega)))
  have HV9 := Lib.hid (bv_part (i := 9) (m := 4) h (by omega) (part4 (by omega)))
  have HV13 := Lib.hid (bv_part (i := 13) (m := 4) h (by omega) (part4 (by omega)))
  have HV17 := Lib.hid (bv_part (i := 17) (m := 4) h (by omega) (part4 (by omega)))
  have HI1 := Lib.hid (z_isB h.2.2.1 1)
  have HI8 := Lib.hid (z_isB h.2.2.1 8)
  clear he hlt hcell hl h
  have HZ := Lib.hid hz
  clear hz
  go_enter Tryd.func11, Tryd.ntmps11
  go_upto_region 1 with fail
  obtain ⟨w1, hw1⟩ : ∃ w1, w1 = (w.alloc (.cells #[.int .i64 0, .int .i64 0, .int .i64 0, .int .i64 0, .bool false, .int .i64 0, .int .i64 0, .int .i64 0, .int .i64 0] 25)) := ⟨_, rfl⟩
  rw [← hw1]
  have HBR1 := Lib.hid (show Blk w1 (w.heap.size) 25 #[.int .i64 0, .int .i64 0, .int .i64 0, .int .i64 0, .bool false, .int .i64 0, .int .i64 0, .int .i64 0, .int .i64 0] by rw [hw1]; exact Blk.at_ (by (try simp only [size_alloc])) _ _)
  have HS1 := Lib.hid (show Since w w1 by rw [hw1]; exact Since.alloc (Since.refl w) _)
  have hNE : w.heap.size ≤ w.heap.size := by omega
  have HNE := Lib.hid hNE
  clear hNE hw1
  have HNE3 := Lib.hid (show w.heap.size ≤ w.heap.size from HNE.out)
  clear HNE
  refine wp_region_lit ?_
  refine wpList_q (by rfl) (.slice (some ⟨b, off, none⟩) 21 cap) ?he ?_
  case he => (first | rfl | (go_simp; (try with_reducible rfl)))
  (try simp only [Act.put, sA, sB, sC])
  refine wpList_q (by rfl) (.int .i64 21) ?he ?_
  case he => (go_simp; (try with_reducible rfl))
  (try simp only [Act.put, sA, sB, sC])
  refine wpList_q (by rfl) (.bool true) ?he ?_
  case he => (go_simp; (try with_reducible rfl))
  (try simp only [Act.put, sA, sB, sC])
  refine wpList_q (by rfl) (.bool true) ?he ?_
  case he => (first | rfl | (go_simp; (try with_reducible rfl)))
  (try simp only [Act.put, sA, sB, sC])
  refine wpList_q (by rfl) (.slice (some ⟨b, off, none⟩) 21 cap) ?he ?_
  case he => (first | rfl | (go_simp; (try with_reducible rfl)))
  (try simp only [Act.put, sA, sB, sC])
  refine wpList_q (by rfl) (.int .i64 21) ?he ?_
  case he => (go_simp; (try with_reducible rfl))
  (try simp only [Act.put, sA, sB, sC])
  refine wpList_q (by rfl) (.bool false) ?he ?_
  case he => (go_simp; (try with_reducible rfl))
  (try simp only [Act.put, sA, sB, sC])
  refine wpList_q (by rfl) (.bool false) ?he ?_
  case he => (first | rfl | (go_simp; (try with_reducible rfl)))
  (try simp only [Act.put, sA, sB, sC])
  refine wpList_q (by rfl) (.bool false) ?he ?_
  case he => (first | rfl | (go_simp; (try with_reducible rfl)))
  (try simp only [Act.put, sA, sB, sC])
  refine wpList_q (by rfl) (.slice (some ⟨b, off, none⟩) 21 cap) ?he ?_
  case he => (first | rfl | (go_simp; (try with_reducible rfl)))
  (try simp only [Act.put, sA, sB, sC])
  refine wpList_q (by rfl) (.pointer (some ⟨b, off, none⟩)) ?he ?_
  case he => (first | rfl | (go_simp; (try with_reducible rfl)))
  (try simp only [Act.put, sA, sB, sC])
  refine wpList_q (by rfl) (.int .u8 (z zs 0)) ?he ?_
  case he => exact exec_at 5 _ _ (keep_cell HS1.out (HC.out 0 (by omega))) rfl rfl Tryd.underlying5 rfl
  (try simp only [Act.put, sA, sB, sC])
  refine wpList_q (by rfl) (.bool true) ?he ?_
  case he => (go_simp; (first | done | (have q := HZ.out; omega)))
  (try simp only [Act.put, sA, sB, sC])
  refine wpList_q (by rfl) (.bool true) ?he ?_
  case he => (first | rfl | (go_simp; (try with_reducible rfl)))
  (try simp only [Act.put, sA, sB, sC])
  refine wpList_nil ?_
  go_upto_region 2 with fail
  refine wp_region_lit ?_
  refine wpList_q (by rfl) (.agg #[.int .i64 0, .int .i64 0, .int .i64 0, .int .i64 0, .bool false, .int .i64 0, .int .i64 0, .int .i64 0, .int .i64 0]) ?he ?_
  case he => kernel_rfl
  (try simp only [Act.put, sA, sB, sC])
  refine wpList_wp (by rfl) (fun K hK => ?_)
  refine wp_st_row 25 _ _ rfl #[.int .i64 0, .int .i64 0, .int .i64 0, .int .i64 0, .bool false, .int .i64 0, .int .i64 0, .int .i64 0, .int .i64 0] rfl rfl (HasRow.of HBR1.out rfl) rfl (by simp [pktC, msgC, Value.oneCell']) (by kernel_rfl) ?_
  intro w2 hw
  refine hK.out _ _ ?_
  clear hK K
  (try simp only [Act.put, sA, sB, sC])
  have HS2 := Lib.hid (show Since w w2 by rw [hw]; exact Since.setRow HS1.out (by have := HNE3.out; omega) _)
  have HBR2 := Lib.hid (show Blk w2 w.heap.size 25 #[.int .i64 0, .int .i64 0, .int .i64 0, .int .i64 0, .bool false, .int .i64 0, .int .i64 0, .int .i64 0, .int .i64 0] by rw [hw]; exact Blk.row HBR1.out _)
  clear hw HS1 HBR1
  refine wpList_q (by rfl) (.int .i64 2) ?he ?_
  case he => (first | rfl | (go_simp; (try with_reducible rfl)))
  (try simp only [Act.put, sA, sB, sC])
  refine wpList_nil ?_
  (try go_wp2_with fail)
  exact bodyPost_ret (results_row2 rfl _ _ w.heap.size 25 #[.int .i64 0, .int .i64 0, .int .i64 0, .int .i64 0, .bool false, .int .i64 0, .int .i64 0, .int .i64 0, .int .i64 0] _ (.int .i64 2) rfl rfl HBR2.out Tryd.underlying25 rfl (by kernel_rfl)) rfl ⟨rfl, HS2.out⟩
set_option maxHeartbeats 4000000 in
theorem getH (b off cap : Nat) (zs : List Int) (w : World) (h : BV w (some ⟨b, off, none⟩) 8 zs) (hcp : 8 ≤ cap) (hz : z zs 0 = 1) : Calls Tryd.prog 11 #[.slice (some ⟨b, off, none⟩) 8 cap] w fun e w' => e = .returned (.tuple #[.agg (pktC (headP zs)), .int .i64 0]) ∧ Since w w' := by
  have hl : zs.length = 8 := h.1
  obtain ⟨b', off', he, hlt, hcell⟩ := h.addr (by omega)
  obtain ⟨rfl, rfl⟩ : b = b' ∧ off = off' := by simp only [Option.some.injEq, Addr.mk.injEq, and_true] at he; exact he
  have HC := Lib.hid hcell
  have hci : (8 : Int) ≤ (cap : Int) := by omega
  have HV2 := Lib.hid (bv_part (i := 2) (m := 2) h (by omega) (part2 (by omega)))
  have HV4 := Lib.hid (bv_part (i := 4) (m := 2) h (by omega) (part2 (by omega)))
  have HV6 := Lib.hid (bv_part (i := 6) (m := 2) h (by omega) (part2 (by omega)))
  have HI1 := Lib.hid (z_isB h.2.2.1 1)
  clear he hlt hcell hl h
  have HZ := Lib.hid hz
  clear hz
  go_enter Tryd.func11, Tryd.ntmps11
  go_upto_region 1 with fail
  obtain ⟨w1, hw1⟩ : ∃ w1, w1 = (w.alloc (.cells #[.int .i64 0, .int .i64 0, .int .i64 0, .int .i64 0, .bool false, .int .i64 0, .int .i64 0, .int .i64 0, .int .i64 0] 25)) := ⟨_, rfl⟩
  rw [← hw1]
  have HBR1 := Lib.hid (show Blk w1 (w.heap.size) 25 #[.int .i64 0, .int .i64 0, .int .i64 0, .int .i64 0, .bool false, .int .i64 0, .int .i64 0, .int .i64 0, .int .i64 0] by rw [hw1]; exact Blk.at_ (by (try simp only [size_alloc])) _ _)
  have HS1 := Lib.hid (show Since w w1 by rw [hw1]; exact Since.alloc (Since.refl w) _)
  have hNE : w.heap.size ≤ w.heap.size := by omega
  have HNE := Lib.hid hNE
  clear hNE hw1
  have HNE3 := Lib.hid (show w.heap.size ≤ w.heap.size from HNE.out)
  clear HNE
  refine wp_region_lit ?_
  refine wpList_q (by rfl) (.slice (some ⟨b, off, none⟩) 8 cap) ?he ?_
  case he => (first | rfl | (go_simp; (try with_reducible rfl)))
  (try simp only [Act.put, sA, sB, sC])
  refine wpList_q (by rfl) (.int .i64 8) ?he ?_
  case he => (go_simp; (try with_reducible rfl))
  (try simp only [Act.put, sA, sB, sC])
  refine wpList_q (by rfl) (.bool false) ?he ?_
  case he => (go_simp; (try with_reducible rfl))
  (try simp only [Act.put, sA, sB, sC])
  refine wpList_q (by rfl) (.bool false) ?he ?_
  case he => (first | rfl | (go_simp; (try with_reducible rfl)))
  (try simp only [Act.put, sA, sB, sC])
  refine wpList_no (by rfl) ?_
  (try simp only [Act.put, sA, sB, sC])
  refine wpList_no (by rfl) ?_
  (try simp only [Act.put, sA, sB, sC])
  refine wpList_no (by rfl) ?_
  (try simp only [Act.put, sA, sB, sC])
  refine wpList_q (by rfl) (.bool false) ?he ?_
  case he => (first | rfl | (go_simp; (try with_reducible rfl)))
  (try simp only [Act.put, sA, sB, sC])
  refine wpList_q (by rfl) (.bool false) ?he ?_
  case he => (first | rfl | (go_simp; (try with_reducible rfl)))
  (try simp only [Act.put, sA, sB, sC])
  refine wpList_q (by rfl) (.slice (some ⟨b, off, none⟩) 8 cap) ?he ?_
  case he => (first | rfl | (go_simp; (try with_reducible rfl)))
  (try simp only [Act.put, sA, sB, sC])
  refine wpList_q (by rfl) (.pointer (some ⟨b, off, none⟩)) ?he ?_
  case he => (first | rfl | (go_simp; (try with_reducible rfl)))
  (try simp only [Act.put, sA, sB, sC])
  refine wpList_q (by rfl) (.int .u8 (z zs 0)) ?he ?_
  case he => exact exec_at 5 _ _ (keep_cell HS1.out (HC.out 0 (by omega))) rfl rfl Tryd.underlying5 rfl
  (try simp only [Act.put, sA, sB, sC])
  refine wpList_q (by rfl) (.bool false) ?he ?_
  case he => (go_simp; (first | done | (have q := HZ.out; omega)))
  (try simp only [Act.put, sA, sB, sC])
  refine wpList_q (by rfl) (.bool false) ?he ?_
  case he => (first | rfl | (go_simp; (try with_reducible rfl)))
  (try simp only [Act.put, sA, sB, sC])
  refine wpList_nil ?_
  go_upto_region 3 with fail
  go_cut [4] (fun s4 wx => Hid (∃ bn4 : Nat, s4 = .pointer (some ⟨bn4, 0, none⟩) ∧ Since w wx ∧ Blk wx w.heap.size 25 #[.int .i64 0, .int .i64 0, .int .i64 0, .int .i64 0, .bool false, .int .i64 0, .int .i64 0, .int .i64 0, .int .i64 0] ∧ Blk wx bn4 25 #[.int .i64 (z zs 1), .int .i64 (num2 (z zs 2) (z zs 3)), .int .i64 (num2 (z zs 4) (z zs 5)), .int .i64 (num2 (z zs 6) (z zs 7)), .bool false, .int .i64 0, .int .i64 0, .int .i64 0, .int .i64 0] ∧ w.heap.size ≤ bn4 ∧ bn4 ≠ w.heap.size))
  case first =>
    have hrK : ∀ W W' : World, Since W W' → (Since w W ∧ Blk W w.heap.size 25 #[.int .i64 0, .int .i64 0, .int .i64 0, .int .i64 0, .bool false, .int .i64 0, .int .i64 0, .int .i64 0, .int .i64 0]) → (Since w W' ∧ Blk W' w.heap.size 25 #[.int .i64 0, .int .i64 0, .int .i64 0, .int .i64 0, .bool false, .int .i64 0, .int .i64 0, .int .i64 0, .int .i64 0]) := fun W W' k ⟨h, h0⟩ => ⟨h.trans k, keep_blk k h0⟩
    have hrS : (fun W : World => Since w W ∧ Blk W w.heap.size 25 #[.int .i64 0, .int .i64 0, .int .i64 0, .int .i64 0, .bool false, .int .i64 0, .int .i64 0, .int .i64 0, .int .i64 0]) w1 := ⟨HS1.out, HBR1.out⟩
    have HRK := Lib.hid hrK
    have HRD := Lib.hid (show (fun W : World => Since w W ∧ Blk W w.heap.size 25 #[.int .i64 0, .int .i64 0, .int .i64 0, .int .i64 0, .bool false, .int .i64 0, .int .i64 0, .int .i64 0, .int .i64 0]) (World.drew w1) from ⟨Since.drew hrS.1, hrS.2⟩)
    clear hrK hrS
    refine wp_region_held_drew (S := fun W : World => Since w W ∧ Blk W w.heap.size 25 #[.int .i64 0, .int .i64 0, .int .i64 0, .int .i64 0, .bool false, .int .i64 0, .int .i64 0, .int .i64 0, .int .i64 0]) (by kernel_rfl) HRD.out (fun hHeld => ?_)
    refine wpAnyH_take (i := 0) (oi := ?o3__0) (v := .slice (some ⟨b, off, none⟩) 8 cap) ?h3__0 (by kernel_rfl) (by kernel_rfl) (by kernel_rfl) ?q3__0 ?y3__0 (by assumption) ?_
    case h3__0 => (first | (simp only [gA, gB, gC]; done) | (simp only [gA, gB, gC]; exact rfl))
    case q3__0 => exact fun _ _ _ h => h
    case y3__0 => (refine Or.inl ⟨rfl, ?_⟩; intro w hSw; (first | rfl | (go_simp; (try with_reducible rfl))))
    (try simp only [Act.put, sA, sB, sC])
    refine wpAnyH_take (i := 1) (oi := ?o3__1) (v := .pointer (some ⟨b, (off + 1), none⟩)) ?h3__1 (by kernel_rfl) (by kernel_rfl) (by kernel_rfl) ?q3__1 ?y3__1 (by assumption) ?_
    case h3__1 => (first | (simp only [gA, gB, gC]; done) | (simp only [gA, gB, gC]; exact rfl))
    case q3__1 => exact fun _ _ _ h => h
    case y3__1 => (refine Or.inl ⟨rfl, ?_⟩; intro w hSw; (first | rfl | (go_simp; (try with_reducible rfl))))
    (try simp only [Act.put, sA, sB, sC])
    refine wpAnyH_take (i := 2) (oi := ?o3__2) (v := .int .u8 (z zs 1)) ?h3__2 (by kernel_rfl) (by kernel_rfl) (by kernel_rfl) ?q3__2 ?y3__2 (by assumption) ?_
    case h3__2 => (first | (simp only [gA, gB, gC]; done) | (simp only [gA, gB, gC]; exact rfl))
    case q3__2 => exact fun _ _ _ h => h
    case y3__2 => (refine Or.inl ⟨rfl, ?_⟩; intro w hSw; exact exec_at 5 _ _ (keep_cell hSw.1 (HC.out 1 (by omega))) rfl rfl Tryd.underlying5 rfl)
    (try simp only [Act.put, sA, sB, sC])
    refine wpAnyH_take (i := 3) (oi := ?o3__3) (v := .int .i64 (z zs 1)) ?h3__3 (by kernel_rfl) (by kernel_rfl) (by kernel_rfl) ?q3__3 ?y3__3 (by assumption) ?_
    case h3__3 => (first | (simp only [gA, gB, gC]; done) | (simp only [gA, gB, gC]; exact rfl))
    case q3__3 => exact fun _ _ _ h => h
    case y3__3 => (refine Or.inl ⟨rfl, ?_⟩; intro w hSw; (have q := HI1.out; go_simp; exact wr64 _ (by omega) (by omega)))
    (try simp only [Act.put, sA, sB, sC])
    refine wpAnyH_take (i := 4) (oi := ?o3__4) (v := .slice (some ⟨b, off, none⟩) 8 cap) ?h3__4 (by kernel_rfl) (by kernel_rfl) (by kernel_rfl) ?q3__4 ?y3__4 (by assumption) ?_
    case h3__4 => (first | (simp only [gA, gB, gC]; done) | (simp only [gA, gB, gC]; exact rfl))
    case q3__4 => exact fun _ _ _ h => h
    case y3__4 => (refine Or.inl ⟨rfl, ?_⟩; intro w hSw; (first | rfl | (go_simp; (try with_reducible rfl))))
    (try simp only [Act.put, sA, sB, sC])
    refine wpAnyH_take (i := 5) (oi := ?o3__5) (v := .slice (some ⟨b, (off + 2), none⟩) 2 (cap - 2)) ?h3__5 (by kernel_rfl) (by kernel_rfl) (by kernel_rfl) ?q3__5 ?y3__5 (by assumption) ?_
    case h3__5 => (first | (simp only [gA, gB, gC]; done) | (simp only [gA, gB, gC]; exact rfl))
    case q3__5 => exact fun _ _ _ h => h
    case y3__5 => (refine Or.inl ⟨rfl, ?_⟩; intro w hSw; (go_simp; first | omega | (rw [if_pos (by omega), if_neg (by omega)])))
    (try simp only [Act.put, sA, sB, sC])
    refine wpAnyH_take (i := 7) (oi := ?o3__7) (v := .slice (some ⟨b, off, none⟩) 8 cap) ?h3__7 (by kernel_rfl) (by kernel_rfl) (by kernel_rfl) ?q3__7 ?y3__7 (by assumption) ?_
    case h3__7 => (first | (simp only [gA, gB, gC]; done) | (simp only [gA, gB, gC]; exact rfl))
    case q3__7 => exact fun _ _ _ h => h
    case y3__7 => (refine Or.inl ⟨rfl, ?_⟩; intro w hSw; (first | rfl | (go_simp; (try with_reducible rfl))))
    (try simp only [Act.put, sA, sB, sC])
    refine wpAnyH_take (i := 8) (oi := ?o3__8) (v := .slice (some ⟨b, (off + 4), none⟩) 2 (cap - 4)) ?h3__8 (by kernel_rfl) (by kernel_rfl) (by kernel_rfl) ?q3__8 ?y3__8 (by assumption) ?_
    case h3__8 => (first | (simp only [gA, gB, gC]; done) | (simp only [gA, gB, gC]; exact rfl))
    case q3__8 => exact fun _ _ _ h => h
    case y3__8 => (refine Or.inl ⟨rfl, ?_⟩; intro w hSw; (go_simp; first | omega | (rw [if_pos (by omega), if_neg (by omega)])))
    (try simp only [Act.put, sA, sB, sC])
    refine wpAnyH_take (i := 10) (oi := ?o3__10) (v := .slice (some ⟨b, off, none⟩) 8 cap) ?h3__10 (by kernel_rfl) (by kernel_rfl) (by kernel_rfl) ?q3__10 ?y3__10 (by assumption) ?_
    case h3__10 => (first | (simp only [gA, gB, gC]; done) | (simp only [gA, gB, gC]; exact rfl))
    case q3__10 => exact fun _ _ _ h => h
    case y3__10 => (refine Or.inl ⟨rfl, ?_⟩; intro w hSw; (first | rfl | (go_simp; (try with_reducible rfl))))
    (try simp only [Act.put, sA, sB, sC])
    refine wpAnyH_take (i := 11) (oi := ?o3__11) (v := .slice (some ⟨b, (off + 6), none⟩) 2 (cap - 6)) ?h3__11 (by kernel_rfl) (by kernel_rfl) (by kernel_rfl) ?q3__11 ?y3__11 (by assumption) ?_
    case h3__11 => (first | (simp only [gA, gB, gC]; done) | (simp only [gA, gB, gC]; exact rfl))
    case q3__11 => exact fun _ _ _ h => h
    case y3__11 => (refine Or.inl ⟨rfl, ?_⟩; intro w hSw; (go_simp; first | omega | (rw [if_pos (by omega), if_neg (by omega)])))
    (try simp only [Act.put, sA, sB, sC])
    refine wpAnyH_ready (rs := [6, 14]) (by kernel_rfl) (by simp) ?_
    refine AllReadyH.cons (o := ?o3__6b) ?h3__6b (fun K hK => ?g3__6b) (AllReadyH.cons (o := ?o3__14b) ?h3__14b (fun K hK => ?g3__14b) AllReadyH.nil)
    case h3__6b => (first | (simp only [gA, gB, gC]; done) | (simp only [gA, gB, gC]; exact rfl))
    case h3__14b => (first | (simp only [gA, gB, gC]; done) | (simp only [gA, gB, gC]; exact rfl))
    case g3__6b =>
      (try go_simp)
      refine (number2T _ _ (z zs 2) (z zs 3) _ (keep_bv hHeld.1 HV2.out)).mono ?_
      rintro e w' ⟨rfl, rfl⟩
      (try go_wp2_with fail)
      refine hK.out _ _ hHeld (fun hHeld2 => ?_)
      clear hK K hHeld2
      (try simp only [Act.put, sA, sB, sC])
      refine wpAnyH_ready (rs := [9, 14]) (by kernel_rfl) (by simp) ?_
      refine AllReadyH.cons (o := ?o3_b6_9b) ?h3_b6_9b (fun K hK => ?g3_b6_9b) (AllReadyH.cons (o := ?o3_b6_14b) ?h3_b6_14b (fun K hK => ?g3_b6_14b) AllReadyH.nil)
      case h3_b6_9b => (first | (simp only [gA, gB, gC]; done) | (simp only [gA, gB, gC]; exact rfl))
      case h3_b6_14b => (first | (simp only [gA, gB, gC]; done) | (simp only [gA, gB, gC]; exact rfl))
      case g3_b6_9b =>
        (try go_simp)
        refine (number2T _ _ (z zs 4) (z zs 5) _ (keep_bv hHeld.1 HV4.out)).mono ?_
        rintro e w' ⟨rfl, rfl⟩
        (try go_wp2_with fail)
        refine hK.out _ _ hHeld (fun hHeld2 => ?_)
        clear hK K hHeld2
        (try simp only [Act.put, sA, sB, sC])
        refine wpAnyH_ready (rs := [12, 14]) (by kernel_rfl) (by simp) ?_
        refine AllReadyH.cons (o := ?o3_b6b9_12b) ?h3_b6b9_12b (fun K hK => ?g3_b6b9_12b) (AllReadyH.cons (o := ?o3_b6b9_14b) ?h3_b6b9_14b (fun K hK => ?g3_b6b9_14b) AllReadyH.nil)
        case h3_b6b9_12b => (first | (simp only [gA, gB, gC]; done) | (simp only [gA, gB, gC]; exact rfl))
        case h3_b6b9_14b => (first | (simp only [gA, gB, gC]; done) | (simp only [gA, gB, gC]; exact rfl))
        case g3_b6b9_12b =>
          (try go_simp)
          refine (number2T _ _ (z zs 6) (z zs 7) _ (keep_bv hHeld.1 HV6.out)).mono ?_
          rintro e w' ⟨rfl, rfl⟩
          (try go_wp2_with fail)
          refine hK.out _ _ hHeld (fun hHeld2 => ?_)
          clear hK K hHeld2
          (try simp only [Act.put, sA, sB, sC])
          refine wpAnyH_take (i := 13) (oi := ?o3_b6b9b12_13) (v := .agg #[.int .i64 (z zs 1), .int .i64 (num2 (z zs 2) (z zs 3)), .int .i64 (num2 (z zs 4) (z zs 5)), .int .i64 (num2 (z zs 6) (z zs 7)), .bool false, .int .i64 0, .int .i64 0, .int .i64 0, .int .i64 0]) ?h3_b6b9b12_13 (by kernel_rfl) (by kernel_rfl) (by kernel_rfl) ?q3_b6b9b12_13 ?y3_b6b9b12_13 (by assumption) ?_
          case h3_b6b9b12_13 => (first | (simp only [gA, gB, gC]; done) | (simp only [gA, gB, gC]; exact rfl))
          case q3_b6b9b12_13 => exact fun _ _ _ h => h
          case y3_b6b9b12_13 => (refine Or.inl ⟨rfl, ?_⟩; intro w hSw; kernel_rfl)
          (try simp only [Act.put, sA, sB, sC])
          refine wpAnyH_ready (rs := [14]) (by kernel_rfl) (by simp) ?_
          refine AllReadyH.cons (o := ?o3_b6b9b12_14) ?h3_b6b9b12_14 (fun K hK => ?_) AllReadyH.nil
          case h3_b6b9b12_14 => (first | (simp only [gA, gB, gC]; done) | (simp only [gA, gB, gC]; exact rfl))
          rw [if_pos (by rfl)]
          refine wp_new (fun b => .pointer (some ⟨b, 0, none⟩)) 25 #[.int .i64 0, .int .i64 0, .int .i64 0, .int .i64 0, .bool false, .int .i64 0, .int .i64 0, .int .i64 0, .int .i64 0] (by rintro b rfl; first | rfl | kernel_rfl) ?_
          intro bn4 w2 hge hB hb
          refine hK.out _ _ (by (apply HRK.out; exact hb; exact hHeld)) (fun hHeld2 => ?_)
          have HNn4R := Lib.hid (show bn4 ≠ w.heap.size by have := Blk.lt (hHeld.2); (try simp at this); (try simp at hge); omega)
          have HGn4 := Lib.hid (show w.heap.size ≤ bn4 by have := Since.size hHeld.1; (try simp at this); (try simp at hge); omega)
          have HXn4 := Lib.hid hB
          clear hB
          clear hge
          clear hK K hHeld hb
          have hHeld := hHeld2
          clear hHeld2
          (try simp only [Act.put, sA, sB, sC])
          refine wpAnyH_ready (rs := [15]) (by kernel_rfl) (by simp) ?_
          refine AllReadyH.cons (o := ?o3_b6b9b12_15) ?h3_b6b9b12_15 (fun K hK => ?_) AllReadyH.nil
          case h3_b6b9b12_15 => (first | (simp only [gA, gB, gC]; done) | (simp only [gA, gB, gC]; exact rfl))
          rw [if_pos (by rfl)]
          refine wp_st_row 25 _ _ rfl #[.int .i64 (z zs 1), .int .i64 (num2 (z zs 2) (z zs 3)), .int .i64 (num2 (z zs 4) (z zs 5)), .int .i64 (num2 (z zs 6) (z zs 7)), .bool false, .int .i64 0, .int .i64 0, .int .i64 0, .int .i64 0] rfl rfl (HasRow.of HXn4.out rfl) rfl (by simp [pktC, msgC, Value.oneCell']) (by kernel_rfl) ?_
          intro w3 hw
          have HXn42 := Lib.hid (show Blk w3 bn4 25 #[.int .i64 (z zs 1), .int .i64 (num2 (z zs 2) (z zs 3)), .int .i64 (num2 (z zs 4) (z zs 5)), .int .i64 (num2 (z zs 6) (z zs 7)), .bool false, .int .i64 0, .int .i64 0, .int .i64 0, .int .i64 0] by rw [hw]; exact Blk.row HXn4.out _)
          have hHeld3 : (fun W : World => Since w W ∧ Blk W w.heap.size 25 #[.int .i64 0, .int .i64 0, .int .i64 0, .int .i64 0, .bool false, .int .i64 0, .int .i64 0, .int .i64 0, .int .i64 0]) w3 := ⟨by rw [hw]; exact Since.setRow hHeld.1 HGn4.out _, by rw [hw]; exact Blk.row_far (hHeld.2) (Ne.symm HNn4R.out) _⟩
          refine hK.out _ _ hHeld3 (fun hHeld2 => ?_)
          clear HXn4 hK K hHeld hHeld3 hw
          have hHeld := hHeld2
          clear hHeld2
          (try simp only [Act.put, sA, sB, sC])
          refine wpAnyH_done (by kernel_rfl) ?_ _
          have HSd3 := Lib.hid hHeld.1
          have HBRd3 := Lib.hid (hHeld.2)
          clear hHeld HRK HRD HS1 HBR1
          go_wp2_with fail
          go_meet
          case rel => exact Lib.hid ⟨bn4, rfl, HSd3.out, HBRd3.out, HXn42.out, HGn4.out, HNn4R.out⟩
        case g3_b6b9_14b =>
          rw [if_pos (by rfl)]
          refine wp_new (fun b => .pointer (some ⟨b, 0, none⟩)) 25 #[.int .i64 0, .int .i64 0, .int .i64 0, .int .i64 0, .bool false, .int .i64 0, .int .i64 0, .int .i64 0, .int .i64 0] (by rintro b rfl; first | rfl | kernel_rfl) ?_
          intro bn4 w2 hge hB hb
          refine hK.out _ _ (by (apply HRK.out; exact hb; exact hHeld)) (fun hHeld2 => ?_)
          have HNn4R := Lib.hid (show bn4 ≠ w.heap.size by have := Blk.lt (hHeld.2); (try simp at this); (try simp at hge); omega)
          have HGn4 := Lib.hid (show w.heap.size ≤ bn4 by have := Since.size hHeld.1; (try simp at this); (try simp at hge); omega)
          have HXn4 := Lib.hid hB
          clear hB
          clear hge
          clear hK K hHeld hb
          have hHeld := hHeld2
          clear hHeld2
          (try simp only [Act.put, sA, sB, sC])
          refine wpAnyH_ready (rs := [12]) (by kernel_rfl) (by simp) ?_
          refine AllReadyH.cons (o := ?o3_b6b9b14_12) ?h3_b6b9b14_12 (fun K hK => ?_) AllReadyH.nil
          case h3_b6b9b14_12 => (first | (simp only [gA, gB, gC]; done) | (simp only [gA, gB, gC]; exact rfl))
          (try go_simp)
          refine (number2T _ _ (z zs 6) (z zs 7) _ (keep_bv hHeld.1 HV6.out)).mono ?_
          rintro e w' ⟨rfl, rfl⟩
          (try go_wp2_with fail)
          refine hK.out _ _ hHeld (fun hHeld2 => ?_)
          clear hK K hHeld2
          (try simp only [Act.put, sA, sB, sC])
          refine wpAnyH_take (i := 13) (oi := ?o3_b6b9b14_13) (v := .agg #[.int .i64 (z zs 1), .int .i64 (num2 (z zs 2) (z zs 3)), .int .i64 (num2 (z zs 4) (z zs 5)), .int .i64 (num2 (z zs 6) (z zs 7)), .bool false, .int .i64 0, .int .i64 0, .int .i64 0, .int .i64 0]) ?h3_b6b9b14_13 (by kernel_rfl) (by kernel_rfl) (by kernel_rfl) ?q3_b6b9b14_13 ?y3_b6b9b14_13 (by assumption) ?_
          case h3_b6b9b14_13 => (first | (simp only [gA, gB, gC]; done) | (simp only [gA, gB, gC]; exact rfl))
          case q3_b6b9b14_13 => exact fun _ _ _ h => h
          case y3_b6b9b14_13 => (refine Or.inl ⟨rfl, ?_⟩; intro w hSw; kernel_rfl)
          (try simp only [Act.put, sA, sB, sC])
          refine wpAnyH_ready (rs := [15]) (by kernel_rfl) (by simp) ?_
          refine AllReadyH.cons (o := ?o3_b6b9b14_15) ?h3_b6b9b14_15 (fun K hK => ?_) AllReadyH.nil
          case h3_b6b9b14_15 => (first | (simp only [gA, gB, gC]; done) | (simp only [gA, gB, gC]; exact rfl))
          rw [if_pos (by rfl)]
          refine wp_st_row 25 _ _ rfl #[.int .i64 (z zs 1), .int .i64 (num2 (z zs 2) (z zs 3)), .int .i64 (num2 (z zs 4) (z zs 5)), .int .i64 (num2 (z zs 6) (z zs 7)), .bool false, .int .i64 0, .int .i64 0, .int .i64 0, .int .i64 0] rfl rfl (HasRow.of HXn4.out rfl) rfl (by simp [pktC, msgC, Value.oneCell']) (by kernel_rfl) ?_
          intro w3 hw
          have HXn42 := Lib.hid (show Blk w3 bn4 25 #[.int .i64 (z zs 1), .int .i64 (num2 (z zs 2) (z zs 3)), .int .i64 (num2 (z zs 4) (z zs 5)), .int .i64 (num2 (z zs 6) (z zs 7)), .bool false, .int .i64 0, .int .i64 0, .int .i64 0, .int .i64 0] by rw [hw]; exact Blk.row HXn4.out _)
          have hHeld3 : (fun W : World => Since w W ∧ Blk W w.heap.size 25 #[.int .i64 0, .int .i64 0, .int .i64 0, .int .i64 0, .bool false, .int .i64 0, .int .i64 0, .int .i64 0, .int .i64 0]) w3 := ⟨by rw [hw]; exact Since.setRow hHeld.1 HGn4.out _, by rw [hw]; exact Blk.row_far (hHeld.2) (Ne.symm HNn4R.out) _⟩
          refine hK.out _ _ hHeld3 (fun hHeld2 => ?_)
          clear HXn4 hK K hHeld hHeld3 hw
          have hHeld := hHeld2
          clear hHeld2
          (try simp only [Act.put, sA, sB, sC])
          refine wpAnyH_done (by kernel_rfl) ?_ _
          have HSd3 := Lib.hid hHeld.1
          have HBRd3 := Lib.hid (hHeld.2)
          clear hHeld HRK HRD HS1 HBR1
          go_wp2_with fail
          go_meet
          case rel => exact Lib.hid ⟨bn4, rfl, HSd3.out, HBRd3.out, HXn42.out, HGn4.out, HNn4R.out⟩
      case g3_b6_14b =>
        rw [if_pos (by rfl)]
        refine wp_new (fun b => .pointer (some ⟨b, 0, none⟩)) 25 #[.int .i64 0, .int .i64 0, .int .i64 0, .int .i64 0, .bool false, .int .i64 0, .int .i64 0, .int .i64 0, .int .i64 0] (by rintro b rfl; first | rfl | kernel_rfl) ?_
        intro bn4 w2 hge hB hb
        refine hK.out _ _ (by (apply HRK.out; exact hb; exact hHeld)) (fun hHeld2 => ?_)
        have HNn4R := Lib.hid (show bn4 ≠ w.heap.size by have := Blk.lt (hHeld.2); (try simp at this); (try simp at hge); omega)
        have HGn4 := Lib.hid (show w.heap.size ≤ bn4 by have := Since.size hHeld.1; (try simp at this); (try simp at hge); omega)
        have HXn4 := Lib.hid hB
        clear hB
        clear hge
        clear hK K hHeld hb
        have hHeld := hHeld2
        clear hHeld2
        (try simp only [Act.put, sA, sB, sC])
        refine wpAnyH_ready (rs := [9]) (by kernel_rfl) (by simp) ?_
        refine AllReadyH.cons (o := ?o3_b6b14_9) ?h3_b6b14_9 (fun K hK => ?_) AllReadyH.nil
        case h3_b6b14_9 => (first | (simp only [gA, gB, gC]; done) | (simp only [gA, gB, gC]; exact rfl))
        (try go_simp)
        refine (number2T _ _ (z zs 4) (z zs 5) _ (keep_bv hHeld.1 HV4.out)).mono ?_
        rintro e w' ⟨rfl, rfl⟩
        (try go_wp2_with fail)
        refine hK.out _ _ hHeld (fun hHeld2 => ?_)
        clear hK K hHeld2
        (try simp only [Act.put, sA, sB, sC])
        refine wpAnyH_ready (rs := [12]) (by kernel_rfl) (by simp) ?_
        refine AllReadyH.cons (o := ?o3_b6b14_12) ?h3_b6b14_12 (fun K hK => ?_) AllReadyH.nil
        case h3_b6b14_12 => (first | (simp only [gA, gB, gC]; done) | (simp only [gA, gB, gC]; exact rfl))
        (try go_simp)
        refine (number2T _ _ (z zs 6) (z zs 7) _ (keep_bv hHeld.1 HV6.out)).mono ?_
        rintro e w' ⟨rfl, rfl⟩
        (try go_wp2_with fail)
        refine hK.out _ _ hHeld (fun hHeld2 => ?_)
        clear hK K hHeld2
        (try simp only [Act.put, sA, sB, sC])
        refine wpAnyH_take (i := 13) (oi := ?o3_b6b14_13) (v := .agg #[.int .i64 (z zs 1), .int .i64 (num2 (z zs 2) (z zs 3)), .int .i64 (num2 (z zs 4) (z zs 5)), .int .i64 (num2 (z zs 6) (z zs 7)), .bool false, .int .i64 0, .int .i64 0, .int .i64 0, .int .i64 0]) ?h3_b6b14_13 (by kernel_rfl) (by kernel_rfl) (by kernel_rfl) ?q3_b6b14_13 ?y3_b6b14_13 (by assumption) ?_
        case h3_b6b14_13 => (first | (simp only [gA, gB, gC]; done) | (simp only [gA, gB, gC]; exact rfl))
        case q3_b6b14_13 => exact fun _ _ _ h => h
        case y3_b6b14_13 => (refine Or.inl ⟨rfl, ?_⟩; intro w hSw; kernel_rfl)
        (try simp only [Act.put, sA, sB, sC])
        refine wpAnyH_ready (rs := [15]) (by kernel_rfl) (by simp) ?_
        refine AllReadyH.cons (o := ?o3_b6b14_15) ?h3_b6b14_15 (fun K hK => ?_) AllReadyH.nil
        case h3_b6b14_15 => (first | (simp only [gA, gB, gC]; done) | (simp only [gA, gB, gC]; exact rfl))
        rw [if_pos (by rfl)]
        refine wp_st_row 25 _ _ rfl #[.int .i64 (z zs 1), .int .i64 (num2 (z zs 2) (z zs 3)), .int .i64 (num2 (z zs 4) (z zs 5)), .int .i64 (num2 (z zs 6) (z zs 7)), .bool false, .int .i64 0, .int .i64 0, .int .i64 0, .int .i64 0] rfl rfl (HasRow.of HXn4.out rfl) rfl (by simp [pktC, msgC, Value.oneCell']) (by kernel_rfl) ?_
        intro w3 hw
        have HXn42 := Lib.hid (show Blk w3 bn4 25 #[.int .i64 (z zs 1), .int .i64 (num2 (z zs 2) (z zs 3)), .int .i64 (num2 (z zs 4) (z zs 5)), .int .i64 (num2 (z zs 6) (z zs 7)), .bool false, .int .i64 0, .int .i64 0, .int .i64 0, .int .i64 0] by rw [hw]; exact Blk.row HXn4.out _)
        have hHeld3 : (fun W : World => Since w W ∧ Blk W w.heap.size 25 #[.int .i64 0, .int .i64 0, .int .i64 0, .int .i64 0, .bool false, .int .i64 0, .int .i64 0, .int .i64 0, .int .i64 0]) w3 := ⟨by rw [hw]; exact Since.setRow hHeld.1 HGn4.out _, by rw [hw]; exact Blk.row_far (hHeld.2) (Ne.symm HNn4R.out) _⟩
        refine hK.out _ _ hHeld3 (fun hHeld2 => ?_)
        clear HXn4 hK K hHeld hHeld3 hw
        have hHeld := hHeld2
        clear hHeld2
        (try simp only [Act.put, sA, sB, sC])
        refine wpAnyH_done (by kernel_rfl) ?_ _
        have HSd3 := Lib.hid hHeld.1
        have HBRd3 := Lib.hid (hHeld.2)
        clear hHeld HRK HRD HS1 HBR1
        go_wp2_with fail
        go_meet
        case rel => exact Lib.hid ⟨bn4, rfl, HSd3.out, HBRd3.out, HXn42.out, HGn4.out, HNn4R.out⟩
    case g3__14b =>
      rw [if_pos (by rfl)]
      refine wp_new (fun b => .pointer (some ⟨b, 0, none⟩)) 25 #[.int .i64 0, .int .i64 0, .int .i64 0, .int .i64 0, .bool false, .int .i64 0, .int .i64 0, .int .i64 0, .int .i64 0] (by rintro b rfl; first | rfl | kernel_rfl) ?_
      intro bn4 w2 hge hB hb
      refine hK.out _ _ (by (apply HRK.out; exact hb; exact hHeld)) (fun hHeld2 => ?_)
      have HNn4R := Lib.hid (show bn4 ≠ w.heap.size by have := Blk.lt (hHeld.2); (try simp at this); (try simp at hge); omega)
      have HGn4 := Lib.hid (show w.heap.size ≤ bn4 by have := Since.size hHeld.1; (try simp at this); (try simp at hge); omega)
      have HXn4 := Lib.hid hB
      clear hB
      clear hge
      clear hK K hHeld hb
      have hHeld := hHeld2
      clear hHeld2
      (try simp only [Act.put, sA, sB, sC])
      refine wpAnyH_ready (rs := [6]) (by kernel_rfl) (by simp) ?_
      refine AllReadyH.cons (o := ?o3_b14_6) ?h3_b14_6 (fun K hK => ?_) AllReadyH.nil
      case h3_b14_6 => (first | (simp only [gA, gB, gC]; done) | (simp only [gA, gB, gC]; exact rfl))
      (try go_simp)
      refine (number2T _ _ (z zs 2) (z zs 3) _ (keep_bv hHeld.1 HV2.out)).mono ?_
      rintro e w' ⟨rfl, rfl⟩
      (try go_wp2_with fail)
      refine hK.out _ _ hHeld (fun hHeld2 => ?_)
      clear hK K hHeld2
      (try simp only [Act.put, sA, sB, sC])
      refine wpAnyH_ready (rs := [9]) (by kernel_rfl) (by simp) ?_
      refine AllReadyH.cons (o := ?o3_b14_9) ?h3_b14_9 (fun K hK => ?_) AllReadyH.nil
      case h3_b14_9 => (first | (simp only [gA, gB, gC]; done) | (simp only [gA, gB, gC]; exact rfl))
      (try go_simp)
      refine (number2T _ _ (z zs 4) (z zs 5) _ (keep_bv hHeld.1 HV4.out)).mono ?_
      rintro e w' ⟨rfl, rfl⟩
      (try go_wp2_with fail)
      refine hK.out _ _ hHeld (fun hHeld2 => ?_)
      clear hK K hHeld2
      (try simp only [Act.put, sA, sB, sC])
      refine wpAnyH_ready (rs := [12]) (by kernel_rfl) (by simp) ?_
      refine AllReadyH.cons (o := ?o3_b14_12) ?h3_b14_12 (fun K hK => ?_) AllReadyH.nil
      case h3_b14_12 => (first | (simp only [gA, gB, gC]; done) | (simp only [gA, gB, gC]; exact rfl))
      (try go_simp)
      refine (number2T _ _ (z zs 6) (z zs 7) _ (keep_bv hHeld.1 HV6.out)).mono ?_
      rintro e w' ⟨rfl, rfl⟩
      (try go_wp2_with fail)
      refine hK.out _ _ hHeld (fun hHeld2 => ?_)
      clear hK K hHeld2
      (try simp only [Act.put, sA, sB, sC])
      refine wpAnyH_take (i := 13) (oi := ?o3_b14_13) (v := .agg #[.int .i64 (z zs 1), .int .i64 (num2 (z zs 2) (z zs 3)), .int .i64 (num2 (z zs 4) (z zs 5)), .int .i64 (num2 (z zs 6) (z zs 7)), .bool false, .int .i64 0, .int .i64 0, .int .i64 0, .int .i64 0]) ?h3_b14_13 (by kernel_rfl) (by kernel_rfl) (by kernel_rfl) ?q3_b14_13 ?y3_b14_13 (by assumption) ?_
      case h3_b14_13 => (first | (simp only [gA, gB, gC]; done) | (simp only [gA, gB, gC]; exact rfl))
      case q3_b14_13 => exact fun _ _ _ h => h
      case y3_b14_13 => (refine Or.inl ⟨rfl, ?_⟩; intro w hSw; kernel_rfl)
      (try simp only [Act.put, sA, sB, sC])
      refine wpAnyH_ready (rs := [15]) (by kernel_rfl) (by simp) ?_
      refine AllReadyH.cons (o := ?o3_b14_15) ?h3_b14_15 (fun K hK => ?_) AllReadyH.nil
      case h3_b14_15 => (first | (simp only [gA, gB, gC]; done) | (simp only [gA, gB, gC]; exact rfl))
      rw [if_pos (by rfl)]
      refine wp_st_row 25 _ _ rfl #[.int .i64 (z zs 1), .int .i64 (num2 (z zs 2) (z zs 3)), .int .i64 (num2 (z zs 4) (z zs 5)), .int .i64 (num2 (z zs 6) (z zs 7)), .bool false, .int .i64 0, .int .i64 0, .int .i64 0, .int .i64 0] rfl rfl (HasRow.of HXn4.out rfl) rfl (by simp [pktC, msgC, Value.oneCell']) (by kernel_rfl) ?_
      intro w3 hw
      have HXn42 := Lib.hid (show Blk w3 bn4 25 #[.int .i64 (z zs 1), .int .i64 (num2 (z zs 2) (z zs 3)), .int .i64 (num2 (z zs 4) (z zs 5)), .int .i64 (num2 (z zs 6) (z zs 7)), .bool false, .int .i64 0, .int .i64 0, .int .i64 0, .int .i64 0] by rw [hw]; exact Blk.row HXn4.out _)
      have hHeld3 : (fun W : World => Since w W ∧ Blk W w.heap.size 25 #[.int .i64 0, .int .i64 0, .int .i64 0, .int .i64 0, .bool false, .int .i64 0, .int .i64 0, .int .i64 0, .int .i64 0]) w3 := ⟨by rw [hw]; exact Since.setRow hHeld.1 HGn4.out _, by rw [hw]; exact Blk.row_far (hHeld.2) (Ne.symm HNn4R.out) _⟩
      refine hK.out _ _ hHeld3 (fun hHeld2 => ?_)
      clear HXn4 hK K hHeld hHeld3 hw
      have hHeld := hHeld2
      clear hHeld2
      (try simp only [Act.put, sA, sB, sC])
      refine wpAnyH_done (by kernel_rfl) ?_ _
      have HSd3 := Lib.hid hHeld.1
      have HBRd3 := Lib.hid (hHeld.2)
      clear hHeld HRK HRD HS1 HBR1
      go_wp2_with fail
      go_meet
      case rel => exact Lib.hid ⟨bn4, rfl, HSd3.out, HBRd3.out, HXn42.out, HGn4.out, HNn4R.out⟩
  case rest =>
    clear HS1 HBR1
    obtain ⟨bn4, rfl, g0, g1, g2, g3, g4⟩ := hcut.out
    clear hcut
    have HS51 := Lib.hid g0
    have HBR51 := Lib.hid g1
    have HBn451 := Lib.hid g2
    have HGn4 := Lib.hid g3
    have HNn4R := Lib.hid g4
    clear g0 g1 g2 g3 g4
    go_upto_region 4 with fail
    refine wp_region_lit ?_
    refine wpList_q (by rfl) (.slice (some ⟨b, off, none⟩) 8 cap) ?he ?_
    case he => (first | rfl | (go_simp; (try with_reducible rfl)))
    (try simp only [Act.put, sA, sB, sC])
    refine wpList_q (by rfl) (.int .i64 8) ?he ?_
    case he => (go_simp; (try with_reducible rfl))
    (try simp only [Act.put, sA, sB, sC])
    refine wpList_q (by rfl) (.bool true) ?he ?_
    case he => (go_simp; (try with_reducible rfl))
    (try simp only [Act.put, sA, sB, sC])
    refine wpList_nil ?_
    go_upto_region 5 with fail
    refine wp_region_lit ?_
    refine wpList_q (by rfl) (.agg #[.int .i64 (z zs 1), .int .i64 (num2 (z zs 2) (z zs 3)), .int .i64 (num2 (z zs 4) (z zs 5)), .int .i64 (num2 (z zs 6) (z zs 7)), .bool false, .int .i64 0, .int .i64 0, .int .i64 0, .int .i64 0]) ?he ?_
    case he => exact exec_load_row 25 _ _ HBn451.out rfl rfl Tryd.underlying25 rfl (by kernel_rfl)
    (try simp only [Act.put, sA, sB, sC])
    refine wpList_wp (by rfl) (fun K hK => ?_)
    refine wp_st_row 25 _ _ rfl #[.int .i64 (z zs 1), .int .i64 (num2 (z zs 2) (z zs 3)), .int .i64 (num2 (z zs 4) (z zs 5)), .int .i64 (num2 (z zs 6) (z zs 7)), .bool false, .int .i64 0, .int .i64 0, .int .i64 0, .int .i64 0] rfl rfl (HasRow.of HBR51.out rfl) rfl (by simp [pktC, msgC, Value.oneCell']) (by kernel_rfl) ?_
    intro w52 hw
    refine hK.out _ _ ?_
    clear hK K
    (try simp only [Act.put, sA, sB, sC])
    have HS52 := Lib.hid (show Since w w52 by rw [hw]; exact Since.setRow HS51.out (by have := HNE3.out; omega) _)
    have HBR52 := Lib.hid (show Blk w52 w.heap.size 25 #[.int .i64 (z zs 1), .int .i64 (num2 (z zs 2) (z zs 3)), .int .i64 (num2 (z zs 4) (z zs 5)), .int .i64 (num2 (z zs 6) (z zs 7)), .bool false, .int .i64 0, .int .i64 0, .int .i64 0, .int .i64 0] by rw [hw]; exact Blk.row HBR51.out _)
    have HBn452 := Lib.hid (show Blk w52 bn4 25 #[.int .i64 (z zs 1), .int .i64 (num2 (z zs 2) (z zs 3)), .int .i64 (num2 (z zs 4) (z zs 5)), .int .i64 (num2 (z zs 6) (z zs 7)), .bool false, .int .i64 0, .int .i64 0, .int .i64 0, .int .i64 0] by rw [hw]; exact Blk.row_far HBn451.out HNn4R.out _)
    clear hw HS51 HBR51 HBn451
    refine wpList_q (by rfl) (.int .i64 0) ?he ?_
    case he => (first | rfl | (go_simp; (try with_reducible rfl)))
    (try simp only [Act.put, sA, sB, sC])
    refine wpList_nil ?_
    (try go_wp2_with fail)
    exact bodyPost_ret (results_row2 rfl _ _ w.heap.size 25 #[.int .i64 (z zs 1), .int .i64 (num2 (z zs 2) (z zs 3)), .int .i64 (num2 (z zs 4) (z zs 5)), .int .i64 (num2 (z zs 6) (z zs 7)), .bool false, .int .i64 0, .int .i64 0, .int .i64 0, .int .i64 0] _ (.int .i64 0) rfl rfl HBR52.out Tryd.underlying25 rfl (by kernel_rfl)) rfl ⟨rfl, HS52.out⟩
set_option maxHeartbeats 4000000 in
theorem getK (b off cap : Nat) (zs : List Int) (w : World) (h : BV w (some ⟨b, off, none⟩) 21 zs) (hcp : 21 ≤ cap) (hz : z zs 0 = 1) (hk : decide (1 ≤ z zs 8 ∧ z zs 8 ≤ 16) = false) : Calls Tryd.prog 11 #[.slice (some ⟨b, off, none⟩) 21 cap] w fun e w' => e = .returned (.tuple #[.agg (pktC zeroP), .int .i64 4]) ∧ Since w w' := by
  have hl : zs.length = 21 := h.1
  obtain ⟨b', off', he, hlt, hcell⟩ := h.addr (by omega)
  obtain ⟨rfl, rfl⟩ : b = b' ∧ off = off' := by simp only [Option.some.injEq, Addr.mk.injEq, and_true] at he; exact he
  have HC := Lib.hid hcell
  have hci : (21 : Int) ≤ (cap : Int) := by omega
  have HV2 := Lib.hid (bv_part (i := 2) (m := 2) h (by omega) (part2 (by omega)))
  have HV4 := Lib.hid (bv_part (i := 4) (m := 2) h (by omega) (part2 (by omega)))
  have HV6 := Lib.hid (bv_part (i := 6) (m := 2) h (by omega) (part2 (by omega)))
  have HV9 := Lib.hid (bv_part (i := 9) (m := 4) h (by omega) (part4 (by omega)))
  have HV13 := Lib.hid (bv_part (i := 13) (m := 4) h (by omega) (part4 (by omega)))
  have HV17 := Lib.hid (bv_part (i := 17) (m := 4) h (by omega) (part4 (by omega)))
  have HI1 := Lib.hid (z_isB h.2.2.1 1)
  have HI8 := Lib.hid (z_isB h.2.2.1 8)
  clear he hlt hcell hl h
  have HZ := Lib.hid hz
  clear hz
  have HK := Lib.hid hk
  clear hk
  go_enter Tryd.func11, Tryd.ntmps11
  go_upto_region 1 with fail
  obtain ⟨w1, hw1⟩ : ∃ w1, w1 = (w.alloc (.cells #[.int .i64 0, .int .i64 0, .int .i64 0, .int .i64 0, .bool false, .int .i64 0, .int .i64 0, .int .i64 0, .int .i64 0] 25)) := ⟨_, rfl⟩
  rw [← hw1]
  have HBR1 := Lib.hid (show Blk w1 (w.heap.size) 25 #[.int .i64 0, .int .i64 0, .int .i64 0, .int .i64 0, .bool false, .int .i64 0, .int .i64 0, .int .i64 0, .int .i64 0] by rw [hw1]; exact Blk.at_ (by (try simp only [size_alloc])) _ _)
  have HS1 := Lib.hid (show Since w w1 by rw [hw1]; exact Since.alloc (Since.refl w) _)
  have hNE : w.heap.size ≤ w.heap.size := by omega
  have HNE := Lib.hid hNE
  clear hNE hw1
  have HNE3 := Lib.hid (show w.heap.size ≤ w.heap.size from HNE.out)
  clear HNE
  refine wp_region_lit ?_
  refine wpList_q (by rfl) (.slice (some ⟨b, off, none⟩) 21 cap) ?he ?_
  case he => (first | rfl | (go_simp; (try with_reducible rfl)))
  (try simp only [Act.put, sA, sB, sC])
  refine wpList_q (by rfl) (.int .i64 21) ?he ?_
  case he => (go_simp; (try with_reducible rfl))
  (try simp only [Act.put, sA, sB, sC])
  refine wpList_q (by rfl) (.bool true) ?he ?_
  case he => (go_simp; (try with_reducible rfl))
  (try simp only [Act.put, sA, sB, sC])
  refine wpList_q (by rfl) (.bool true) ?he ?_
  case he => (first | rfl | (go_simp; (try with_reducible rfl)))
  (try simp only [Act.put, sA, sB, sC])
  refine wpList_q (by rfl) (.slice (some ⟨b, off, none⟩) 21 cap) ?he ?_
  case he => (first | rfl | (go_simp; (try with_reducible rfl)))
  (try simp only [Act.put, sA, sB, sC])
  refine wpList_q (by rfl) (.int .i64 21) ?he ?_
  case he => (go_simp; (try with_reducible rfl))
  (try simp only [Act.put, sA, sB, sC])
  refine wpList_q (by rfl) (.bool false) ?he ?_
  case he => (go_simp; (try with_reducible rfl))
  (try simp only [Act.put, sA, sB, sC])
  refine wpList_q (by rfl) (.bool false) ?he ?_
  case he => (first | rfl | (go_simp; (try with_reducible rfl)))
  (try simp only [Act.put, sA, sB, sC])
  refine wpList_q (by rfl) (.bool false) ?he ?_
  case he => (first | rfl | (go_simp; (try with_reducible rfl)))
  (try simp only [Act.put, sA, sB, sC])
  refine wpList_q (by rfl) (.slice (some ⟨b, off, none⟩) 21 cap) ?he ?_
  case he => (first | rfl | (go_simp; (try with_reducible rfl)))
  (try simp only [Act.put, sA, sB, sC])
  refine wpList_q (by rfl) (.pointer (some ⟨b, off, none⟩)) ?he ?_
  case he => (first | rfl | (go_simp; (try with_reducible rfl)))
  (try simp only [Act.put, sA, sB, sC])
  refine wpList_q (by rfl) (.int .u8 (z zs 0)) ?he ?_
  case he => exact exec_at 5 _ _ (keep_cell HS1.out (HC.out 0 (by omega))) rfl rfl Tryd.underlying5 rfl
  (try simp only [Act.put, sA, sB, sC])
  refine wpList_q (by rfl) (.bool false) ?he ?_
  case he => (go_simp; (first | done | (have q := HZ.out; omega)))
  (try simp only [Act.put, sA, sB, sC])
  refine wpList_q (by rfl) (.bool false) ?he ?_
  case he => (first | rfl | (go_simp; (try with_reducible rfl)))
  (try simp only [Act.put, sA, sB, sC])
  refine wpList_nil ?_
  go_upto_region 3 with fail
  go_cut [4] (fun s4 wx => Hid (∃ bn4 : Nat, s4 = .pointer (some ⟨bn4, 0, none⟩) ∧ Since w wx ∧ Blk wx w.heap.size 25 #[.int .i64 0, .int .i64 0, .int .i64 0, .int .i64 0, .bool false, .int .i64 0, .int .i64 0, .int .i64 0, .int .i64 0] ∧ Blk wx bn4 25 #[.int .i64 (z zs 1), .int .i64 (num2 (z zs 2) (z zs 3)), .int .i64 (num2 (z zs 4) (z zs 5)), .int .i64 (num2 (z zs 6) (z zs 7)), .bool false, .int .i64 0, .int .i64 0, .int .i64 0, .int .i64 0] ∧ w.heap.size ≤ bn4 ∧ bn4 ≠ w.heap.size))
  case first =>
    have hrK : ∀ W W' : World, Since W W' → (Since w W ∧ Blk W w.heap.size 25 #[.int .i64 0, .int .i64 0, .int .i64 0, .int .i64 0, .bool false, .int .i64 0, .int .i64 0, .int .i64 0, .int .i64 0]) → (Since w W' ∧ Blk W' w.heap.size 25 #[.int .i64 0, .int .i64 0, .int .i64 0, .int .i64 0, .bool false, .int .i64 0, .int .i64 0, .int .i64 0, .int .i64 0]) := fun W W' k ⟨h, h0⟩ => ⟨h.trans k, keep_blk k h0⟩
    have hrS : (fun W : World => Since w W ∧ Blk W w.heap.size 25 #[.int .i64 0, .int .i64 0, .int .i64 0, .int .i64 0, .bool false, .int .i64 0, .int .i64 0, .int .i64 0, .int .i64 0]) w1 := ⟨HS1.out, HBR1.out⟩
    have HRK := Lib.hid hrK
    have HRD := Lib.hid (show (fun W : World => Since w W ∧ Blk W w.heap.size 25 #[.int .i64 0, .int .i64 0, .int .i64 0, .int .i64 0, .bool false, .int .i64 0, .int .i64 0, .int .i64 0, .int .i64 0]) (World.drew w1) from ⟨Since.drew hrS.1, hrS.2⟩)
    clear hrK hrS
    refine wp_region_held_drew (S := fun W : World => Since w W ∧ Blk W w.heap.size 25 #[.int .i64 0, .int .i64 0, .int .i64 0, .int .i64 0, .bool false, .int .i64 0, .int .i64 0, .int .i64 0, .int .i64 0]) (by kernel_rfl) HRD.out (fun hHeld => ?_)
    refine wpAnyH_take (i := 0) (oi := ?o3__0) (v := .slice (some ⟨b, off, none⟩) 21 cap) ?h3__0 (by kernel_rfl) (by kernel_rfl) (by kernel_rfl) ?q3__0 ?y3__0 (by assumption) ?_
    case h3__0 => (first | (simp only [gA, gB, gC]; done) | (simp only [gA, gB, gC]; exact rfl))
    case q3__0 => exact fun _ _ _ h => h
    case y3__0 => (refine Or.inl ⟨rfl, ?_⟩; intro w hSw; (first | rfl | (go_simp; (try with_reducible rfl))))
    (try simp only [Act.put, sA, sB, sC])
    refine wpAnyH_take (i := 1) (oi := ?o3__1) (v := .pointer (some ⟨b, (off + 1), none⟩)) ?h3__1 (by kernel_rfl) (by kernel_rfl) (by kernel_rfl) ?q3__1 ?y3__1 (by assumption) ?_
    case h3__1 => (first | (simp only [gA, gB, gC]; done) | (simp only [gA, gB, gC]; exact rfl))
    case q3__1 => exact fun _ _ _ h => h
    case y3__1 => (refine Or.inl ⟨rfl, ?_⟩; intro w hSw; (first | rfl | (go_simp; (try with_reducible rfl))))
    (try simp only [Act.put, sA, sB, sC])
    refine wpAnyH_take (i := 2) (oi := ?o3__2) (v := .int .u8 (z zs 1)) ?h3__2 (by kernel_rfl) (by kernel_rfl) (by kernel_rfl) ?q3__2 ?y3__2 (by assumption) ?_
    case h3__2 => (first | (simp only [gA, gB, gC]; done) | (simp only [gA, gB, gC]; exact rfl))
    case q3__2 => exact fun _ _ _ h => h
    case y3__2 => (refine Or.inl ⟨rfl, ?_⟩; intro w hSw; exact exec_at 5 _ _ (keep_cell hSw.1 (HC.out 1 (by omega))) rfl rfl Tryd.underlying5 rfl)
    (try simp only [Act.put, sA, sB, sC])
    refine wpAnyH_take (i := 3) (oi := ?o3__3) (v := .int .i64 (z zs 1)) ?h3__3 (by kernel_rfl) (by kernel_rfl) (by kernel_rfl) ?q3__3 ?y3__3 (by assumption) ?_
    case h3__3 => (first | (simp only [gA, gB, gC]; done) | (simp only [gA, gB, gC]; exact rfl))
    case q3__3 => exact fun _ _ _ h => h
    case y3__3 => (refine Or.inl ⟨rfl, ?_⟩; intro w hSw; (have q := HI1.out; go_simp; exact wr64 _ (by omega) (by omega)))
    (try simp only [Act.put, sA, sB, sC])
    refine wpAnyH_take (i := 4) (oi := ?o3__4) (v := .slice (some ⟨b, off, none⟩) 21 cap) ?h3__4 (by kernel_rfl) (by kernel_rfl) (by kernel_rfl) ?q3__4 ?y3__4 (by assumption) ?_
    case h3__4 => (first | (simp only [gA, gB, gC]; done) | (simp only [gA, gB, gC]; exact rfl))
    case q3__4 => exact fun _ _ _ h => h
    case y3__4 => (refine Or.inl ⟨rfl, ?_⟩; intro w hSw; (first | rfl | (go_simp; (try with_reducible rfl))))
    (try simp only [Act.put, sA, sB, sC])
    refine wpAnyH_take (i := 5) (oi := ?o3__5) (v := .slice (some ⟨b, (off + 2), none⟩) 2 (cap - 2)) ?h3__5 (by kernel_rfl) (by kernel_rfl) (by kernel_rfl) ?q3__5 ?y3__5 (by assumption) ?_
    case h3__5 => (first | (simp only [gA, gB, gC]; done) | (simp only [gA, gB, gC]; exact rfl))
    case q3__5 => exact fun _ _ _ h => h
    case y3__5 => (refine Or.inl ⟨rfl, ?_⟩; intro w hSw; (go_simp; first | omega | (rw [if_pos (by omega), if_neg (by omega)])))
    (try simp only [Act.put, sA, sB, sC])
    refine wpAnyH_take (i := 7) (oi := ?o3__7) (v := .slice (some ⟨b, off, none⟩) 21 cap) ?h3__7 (by kernel_rfl) (by kernel_rfl) (by kernel_rfl) ?q3__7 ?y3__7 (by assumption) ?_
    case h3__7 => (first | (simp only [gA, gB, gC]; done) | (simp only [gA, gB, gC]; exact rfl))
    case q3__7 => exact fun _ _ _ h => h
    case y3__7 => (refine Or.inl ⟨rfl, ?_⟩; intro w hSw; (first | rfl | (go_simp; (try with_reducible rfl))))
    (try simp only [Act.put, sA, sB, sC])
    refine wpAnyH_take (i := 8) (oi := ?o3__8) (v := .slice (some ⟨b, (off + 4), none⟩) 2 (cap - 4)) ?h3__8 (by kernel_rfl) (by kernel_rfl) (by kernel_rfl) ?q3__8 ?y3__8 (by assumption) ?_
    case h3__8 => (first | (simp only [gA, gB, gC]; done) | (simp only [gA, gB, gC]; exact rfl))
    case q3__8 => exact fun _ _ _ h => h
    case y3__8 => (refine Or.inl ⟨rfl, ?_⟩; intro w hSw; (go_simp; first | omega | (rw [if_pos (by omega), if_neg (by omega)])))
    (try simp only [Act.put, sA, sB, sC])
    refine wpAnyH_take (i := 10) (oi := ?o3__10) (v := .slice (some ⟨b, off, none⟩) 21 cap) ?h3__10 (by kernel_rfl) (by kernel_rfl) (by kernel_rfl) ?q3__10 ?y3__10 (by assumption) ?_
    case h3__10 => (first | (simp only [gA, gB, gC]; done) | (simp only [gA, gB, gC]; exact rfl))
    case q3__10 => exact fun _ _ _ h => h
    case y3__10 => (refine Or.inl ⟨rfl, ?_⟩; intro w hSw; (first | rfl | (go_simp; (try with_reducible rfl))))
    (try simp only [Act.put, sA, sB, sC])
    refine wpAnyH_take (i := 11) (oi := ?o3__11) (v := .slice (some ⟨b, (off + 6), none⟩) 2 (cap - 6)) ?h3__11 (by kernel_rfl) (by kernel_rfl) (by kernel_rfl) ?q3__11 ?y3__11 (by assumption) ?_
    case h3__11 => (first | (simp only [gA, gB, gC]; done) | (simp only [gA, gB, gC]; exact rfl))
    case q3__11 => exact fun _ _ _ h => h
    case y3__11 => (refine Or.inl ⟨rfl, ?_⟩; intro w hSw; (go_simp; first | omega | (rw [if_pos (by omega), if_neg (by omega)])))
    (try simp only [Act.put, sA, sB, sC])
    refine wpAnyH_ready (rs := [6, 14]) (by kernel_rfl) (by simp) ?_
    refine AllReadyH.cons (o := ?o3__6b) ?h3__6b (fun K hK => ?g3__6b) (AllReadyH.cons (o := ?o3__14b) ?h3__14b (fun K hK => ?g3__14b) AllReadyH.nil)
    case h3__6b => (first | (simp only [gA, gB, gC]; done) | (simp only [gA, gB, gC]; exact rfl))
    case h3__14b => (first | (simp only [gA, gB, gC]; done) | (simp only [gA, gB, gC]; exact rfl))
    case g3__6b =>
      (try go_simp)
      refine (number2T _ _ (z zs 2) (z zs 3) _ (keep_bv hHeld.1 HV2.out)).mono ?_
      rintro e w' ⟨rfl, rfl⟩
      (try go_wp2_with fail)
      refine hK.out _ _ hHeld (fun hHeld2 => ?_)
      clear hK K hHeld2
      (try simp only [Act.put, sA, sB, sC])
      refine wpAnyH_ready (rs := [9, 14]) (by kernel_rfl) (by simp) ?_
      refine AllReadyH.cons (o := ?o3_b6_9b) ?h3_b6_9b (fun K hK => ?g3_b6_9b) (AllReadyH.cons (o := ?o3_b6_14b) ?h3_b6_14b (fun K hK => ?g3_b6_14b) AllReadyH.nil)
      case h3_b6_9b => (first | (simp only [gA, gB, gC]; done) | (simp only [gA, gB, gC]; exact rfl))
      case h3_b6_14b => (first | (simp only [gA, gB, gC]; done) | (simp only [gA, gB, gC]; exact rfl))
      case g3_b6_9b =>
        (try go_simp)
        refine (number2T _ _ (z zs 4) (z zs 5) _ (keep_bv hHeld.1 HV4.out)).mono ?_
        rintro e w' ⟨rfl, rfl⟩
        (try go_wp2_with fail)
        refine hK.out _ _ hHeld (fun hHeld2 => ?_)
        clear hK K hHeld2
        (try simp only [Act.put, sA, sB, sC])
        refine wpAnyH_ready (rs := [12, 14]) (by kernel_rfl) (by simp) ?_
        refine AllReadyH.cons (o := ?o3_b6b9_12b) ?h3_b6b9_12b (fun K hK => ?g3_b6b9_12b) (AllReadyH.cons (o := ?o3_b6b9_14b) ?h3_b6b9_14b (fun K hK => ?g3_b6b9_14b) AllReadyH.nil)
        case h3_b6b9_12b => (first | (simp only [gA, gB, gC]; done) | (simp only [gA, gB, gC]; exact rfl))
        case h3_b6b9_14b => (first | (simp only [gA, gB, gC]; done) | (simp only [gA, gB, gC]; exact rfl))
        case g3_b6b9_12b =>
          (try go_simp)
          refine (number2T _ _ (z zs 6) (z zs 7) _ (keep_bv hHeld.1 HV6.out)).mono ?_
          rintro e w' ⟨rfl, rfl⟩
          (try go_wp2_with fail)
          refine hK.out _ _ hHeld (fun hHeld2 => ?_)
          clear hK K hHeld2
          (try simp only [Act.put, sA, sB, sC])
          refine wpAnyH_take (i := 13) (oi := ?o3_b6b9b12_13) (v := .agg #[.int .i64 (z zs 1), .int .i64 (num2 (z zs 2) (z zs 3)), .int .i64 (num2 (z zs 4) (z zs 5)), .int .i64 (num2 (z zs 6) (z zs 7)), .bool false, .int .i64 0, .int .i64 0, .int .i64 0, .int .i64 0]) ?h3_b6b9b12_13 (by kernel_rfl) (by kernel_rfl) (by kernel_rfl) ?q3_b6b9b12_13 ?y3_b6b9b12_13 (by assumption) ?_
          case h3_b6b9b12_13 => (first | (simp only [gA, gB, gC]; done) | (simp only [gA, gB, gC]; exact rfl))
          case q3_b6b9b12_13 => exact fun _ _ _ h => h
          case y3_b6b9b12_13 => (refine Or.inl ⟨rfl, ?_⟩; intro w hSw; kernel_rfl)
          (try simp only [Act.put, sA, sB, sC])
          refine wpAnyH_ready (rs := [14]) (by kernel_rfl) (by simp) ?_
          refine AllReadyH.cons (o := ?o3_b6b9b12_14) ?h3_b6b9b12_14 (fun K hK => ?_) AllReadyH.nil
          case h3_b6b9b12_14 => (first | (simp only [gA, gB, gC]; done) | (simp only [gA, gB, gC]; exact rfl))
          rw [if_pos (by rfl)]
          refine wp_new (fun b => .pointer (some ⟨b, 0, none⟩)) 25 #[.int .i64 0, .int .i64 0, .int .i64 0, .int .i64 0, .bool false, .int .i64 0, .int .i64 0, .int .i64 0, .int .i64 0] (by rintro b rfl; first | rfl | kernel_rfl) ?_
          intro bn4 w2 hge hB hb
          refine hK.out _ _ (by (apply HRK.out; exact hb; exact hHeld)) (fun hHeld2 => ?_)
          have HNn4R := Lib.hid (show bn4 ≠ w.heap.size by have := Blk.lt (hHeld.2); (try simp at this); (try simp at hge); omega)
          have HGn4 := Lib.hid (show w.heap.size ≤ bn4 by have := Since.size hHeld.1; (try simp at this); (try simp at hge); omega)
          have HXn4 := Lib.hid hB
          clear hB
          clear hge
          clear hK K hHeld hb
          have hHeld := hHeld2
          clear hHeld2
          (try simp only [Act.put, sA, sB, sC])
          refine wpAnyH_ready (rs := [15]) (by kernel_rfl) (by simp) ?_
          refine AllReadyH.cons (o := ?o3_b6b9b12_15) ?h3_b6b9b12_15 (fun K hK => ?_) AllReadyH.nil
          case h3_b6b9b12_15 => (first | (simp only [gA, gB, gC]; done) | (simp only [gA, gB, gC]; exact rfl))
          rw [if_pos (by rfl)]
          refine wp_st_row 25 _ _ rfl #[.int .i64 (z zs 1), .int .i64 (num2 (z zs 2) (z zs 3)), .int .i64 (num2 (z zs 4) (z zs 5)), .int .i64 (num2 (z zs 6) (z zs 7)), .bool false, .int .i64 0, .int .i64 0, .int .i64 0, .int .i64 0] rfl rfl (HasRow.of HXn4.out rfl) rfl (by simp [pktC, msgC, Value.oneCell']) (by kernel_rfl) ?_
          intro w3 hw
          have HXn42 := Lib.hid (show Blk w3 bn4 25 #[.int .i64 (z zs 1), .int .i64 (num2 (z zs 2) (z zs 3)), .int .i64 (num2 (z zs 4) (z zs 5)), .int .i64 (num2 (z zs 6) (z zs 7)), .bool false, .int .i64 0, .int .i64 0, .int .i64 0, .int .i64 0] by rw [hw]; exact Blk.row HXn4.out _)
          have hHeld3 : (fun W : World => Since w W ∧ Blk W w.heap.size 25 #[.int .i64 0, .int .i64 0, .int .i64 0, .int .i64 0, .bool false, .int .i64 0, .int .i64 0, .int .i64 0, .int .i64 0]) w3 := ⟨by rw [hw]; exact Since.setRow hHeld.1 HGn4.out _, by rw [hw]; exact Blk.row_far (hHeld.2) (Ne.symm HNn4R.out) _⟩
          refine hK.out _ _ hHeld3 (fun hHeld2 => ?_)
          clear HXn4 hK K hHeld hHeld3 hw
          have hHeld := hHeld2
          clear hHeld2
          (try simp only [Act.put, sA, sB, sC])
          refine wpAnyH_done (by kernel_rfl) ?_ _
          have HSd3 := Lib.hid hHeld.1
          have HBRd3 := Lib.hid (hHeld.2)
          clear hHeld HRK HRD HS1 HBR1
          go_wp2_with fail
          go_meet
          case rel => exact Lib.hid ⟨bn4, rfl, HSd3.out, HBRd3.out, HXn42.out, HGn4.out, HNn4R.out⟩
        case g3_b6b9_14b =>
          rw [if_pos (by rfl)]
          refine wp_new (fun b => .pointer (some ⟨b, 0, none⟩)) 25 #[.int .i64 0, .int .i64 0, .int .i64 0, .int .i64 0, .bool false, .int .i64 0, .int .i64 0, .int .i64 0, .int .i64 0] (by rintro b rfl; first | rfl | kernel_rfl) ?_
          intro bn4 w2 hge hB hb
          refine hK.out _ _ (by (apply HRK.out; exact hb; exact hHeld)) (fun hHeld2 => ?_)
          have HNn4R := Lib.hid (show bn4 ≠ w.heap.size by have := Blk.lt (hHeld.2); (try simp at this); (try simp at hge); omega)
          have HGn4 := Lib.hid (show w.heap.size ≤ bn4 by have := Since.size hHeld.1; (try simp at this); (try simp at hge); omega)
          have HXn4 := Lib.hid hB
          clear hB
          clear hge
          clear hK K hHeld hb
          have hHeld := hHeld2
          clear hHeld2
          (try simp only [Act.put, sA, sB, sC])
          refine wpAnyH_ready (rs := [12]) (by kernel_rfl) (by simp) ?_
          refine AllReadyH.cons (o := ?o3_b6b9b14_12) ?h3_b6b9b14_12 (fun K hK => ?_) AllReadyH.nil
          case h3_b6b9b14_12 => (first | (simp only [gA, gB, gC]; done) | (simp only [gA, gB, gC]; exact rfl))
          (try go_simp)
          refine (number2T _ _ (z zs 6) (z zs 7) _ (keep_bv hHeld.1 HV6.out)).mono ?_
          rintro e w' ⟨rfl, rfl⟩
          (try go_wp2_with fail)
          refine hK.out _ _ hHeld (fun hHeld2 => ?_)
          clear hK K hHeld2
          (try simp only [Act.put, sA, sB, sC])
          refine wpAnyH_take (i := 13) (oi := ?o3_b6b9b14_13) (v := .agg #[.int .i64 (z zs 1), .int .i64 (num2 (z zs 2) (z zs 3)), .int .i64 (num2 (z zs 4) (z zs 5)), .int .i64 (num2 (z zs 6) (z zs 7)), .bool false, .int .i64 0, .int .i64 0, .int .i64 0, .int .i64 0]) ?h3_b6b9b14_13 (by kernel_rfl) (by kernel_rfl) (by kernel_rfl) ?q3_b6b9b14_13 ?y3_b6b9b14_13 (by assumption) ?_
          case h3_b6b9b14_13 => (first | (simp only [gA, gB, gC]; done) | (simp only [gA, gB, gC]; exact rfl))
          case q3_b6b9b14_13 => exact fun _ _ _ h => h
          case y3_b6b9b14_13 => (refine Or.inl ⟨rfl, ?_⟩; intro w hSw; kernel_rfl)
          (try simp only [Act.put, sA, sB, sC])
          refine wpAnyH_ready (rs := [15]) (by kernel_rfl) (by simp) ?_
          refine AllReadyH.cons (o := ?o3_b6b9b14_15) ?h3_b6b9b14_15 (fun K hK => ?_) AllReadyH.nil
          case h3_b6b9b14_15 => (first | (simp only [gA, gB, gC]; done) | (simp only [gA, gB, gC]; exact rfl))
          rw [if_pos (by rfl)]
          refine wp_st_row 25 _ _ rfl #[.int .i64 (z zs 1), .int .i64 (num2 (z zs 2) (z zs 3)), .int .i64 (num2 (z zs 4) (z zs 5)), .int .i64 (num2 (z zs 6) (z zs 7)), .bool false, .int .i64 0, .int .i64 0, .int .i64 0, .int .i64 0] rfl rfl (HasRow.of HXn4.out rfl) rfl (by simp [pktC, msgC, Value.oneCell']) (by kernel_rfl) ?_
          intro w3 hw
          have HXn42 := Lib.hid (show Blk w3 bn4 25 #[.int .i64 (z zs 1), .int .i64 (num2 (z zs 2) (z zs 3)), .int .i64 (num2 (z zs 4) (z zs 5)), .int .i64 (num2 (z zs 6) (z zs 7)), .bool false, .int .i64 0, .int .i64 0, .int .i64 0, .int .i64 0] by rw [hw]; exact Blk.row HXn4.out _)
          have hHeld3 : (fun W : World => Since w W ∧ Blk W w.heap.size 25 #[.int .i64 0, .int .i64 0, .int .i64 0, .int .i64 0, .bool false, .int .i64 0, .int .i64 0, .int .i64 0, .int .i64 0]) w3 := ⟨by rw [hw]; exact Since.setRow hHeld.1 HGn4.out _, by rw [hw]; exact Blk.row_far (hHeld.2) (Ne.symm HNn4R.out) _⟩
          refine hK.out _ _ hHeld3 (fun hHeld2 => ?_)
          clear HXn4 hK K hHeld hHeld3 hw
          have hHeld := hHeld2
          clear hHeld2
          (try simp only [Act.put, sA, sB, sC])
          refine wpAnyH_done (by kernel_rfl) ?_ _
          have HSd3 := Lib.hid hHeld.1
          have HBRd3 := Lib.hid (hHeld.2)
          clear hHeld HRK HRD HS1 HBR1
          go_wp2_with fail
          go_meet
          case rel => exact Lib.hid ⟨bn4, rfl, HSd3.out, HBRd3.out, HXn42.out, HGn4.out, HNn4R.out⟩
      case g3_b6_14b =>
        rw [if_pos (by rfl)]
        refine wp_new (fun b => .pointer (some ⟨b, 0, none⟩)) 25 #[.int .i64 0, .int .i64 0, .int .i64 0, .int .i64 0, .bool false, .int .i64 0, .int .i64 0, .int .i64 0, .int .i64 0] (by rintro b rfl; first | rfl | kernel_rfl) ?_
        intro bn4 w2 hge hB hb
        refine hK.out _ _ (by (apply HRK.out; exact hb; exact hHeld)) (fun hHeld2 => ?_)
        have HNn4R := Lib.hid (show bn4 ≠ w.heap.size by have := Blk.lt (hHeld.2); (try simp at this); (try simp at hge); omega)
        have HGn4 := Lib.hid (show w.heap.size ≤ bn4 by have := Since.size hHeld.1; (try simp at this); (try simp at hge); omega)
        have HXn4 := Lib.hid hB
        clear hB
        clear hge
        clear hK K hHeld hb
        have hHeld := hHeld2
        clear hHeld2
        (try simp only [Act.put, sA, sB, sC])
        refine wpAnyH_ready (rs := [9]) (by kernel_rfl) (by simp) ?_
        refine AllReadyH.cons (o := ?o3_b6b14_9) ?h3_b6b14_9 (fun K hK => ?_) AllReadyH.nil
        case h3_b6b14_9 => (first | (simp only [gA, gB, gC]; done) | (simp only [gA, gB, gC]; exact rfl))
        (try go_simp)
        refine (number2T _ _ (z zs 4) (z zs 5) _ (keep_bv hHeld.1 HV4.out)).mono ?_
        rintro e w' ⟨rfl, rfl⟩
        (try go_wp2_with fail)
        refine hK.out _ _ hHeld (fun hHeld2 => ?_)
        clear hK K hHeld2
        (try simp only [Act.put, sA, sB, sC])
        refine wpAnyH_ready (rs := [12]) (by kernel_rfl) (by simp) ?_
        refine AllReadyH.cons (o := ?o3_b6b14_12) ?h3_b6b14_12 (fun K hK => ?_) AllReadyH.nil
        case h3_b6b14_12 => (first | (simp only [gA, gB, gC]; done) | (simp only [gA, gB, gC]; exact rfl))
        (try go_simp)
        refine (number2T _ _ (z zs 6) (z zs 7) _ (keep_bv hHeld.1 HV6.out)).mono ?_
        rintro e w' ⟨rfl, rfl⟩
        (try go_wp2_with fail)
        refine hK.out _ _ hHeld (fun hHeld2 => ?_)
        clear hK K hHeld2
        (try simp only [Act.put, sA, sB, sC])
        refine wpAnyH_take (i := 13) (oi := ?o3_b6b14_13) (v := .agg #[.int .i64 (z zs 1), .int .i64 (num2 (z zs 2) (z zs 3)), .int .i64 (num2 (z zs 4) (z zs 5)), .int .i64 (num2 (z zs 6) (z zs 7)), .bool false, .int .i64 0, .int .i64 0, .int .i64 0, .int .i64 0]) ?h3_b6b14_13 (by kernel_rfl) (by kernel_rfl) (by kernel_rfl) ?q3_b6b14_13 ?y3_b6b14_13 (by assumption) ?_
        case h3_b6b14_13 => (first | (simp only [gA, gB, gC]; done) | (simp only [gA, gB, gC]; exact rfl))
        case q3_b6b14_13 => exact fun _ _ _ h => h
        case y3_b6b14_13 => (refine Or.inl ⟨rfl, ?_⟩; intro w hSw; kernel_rfl)
        (try simp only [Act.put, sA, sB, sC])
        refine wpAnyH_ready (rs := [15]) (by kernel_rfl) (by simp) ?_
        refine AllReadyH.cons (o := ?o3_b6b14_15) ?h3_b6b14_15 (fun K hK => ?_) AllReadyH.nil
        case h3_b6b14_15 => (first | (simp only [gA, gB, gC]; done) | (simp only [gA, gB, gC]; exact rfl))
        rw [if_pos (by rfl)]
        refine wp_st_row 25 _ _ rfl #[.int .i64 (z zs 1), .int .i64 (num2 (z zs 2) (z zs 3)), .int .i64 (num2 (z zs 4) (z zs 5)), .int .i64 (num2 (z zs 6) (z zs 7)), .bool false, .int .i64 0, .int .i64 0, .int .i64 0, .int .i64 0] rfl rfl (HasRow.of HXn4.out rfl) rfl (by simp [pktC, msgC, Value.oneCell']) (by kernel_rfl) ?_
        intro w3 hw
        have HXn42 := Lib.hid (show Blk w3 bn4 25 #[.int .i64 (z zs 1), .int .i64 (num2 (z zs 2) (z zs 3)), .int .i64 (num2 (z zs 4) (z zs 5)), .int .i64 (num2 (z zs 6) (z zs 7)), .bool false, .int .i64 0, .int .i64 0, .int .i64 0, .int .i64 0] by rw [hw]; exact Blk.row HXn4.out _)
        have hHeld3 : (fun W : World => Since w W ∧ Blk W w.heap.size 25 #[.int .i64 0, .int .i64 0, .int .i64 0, .int .i64 0, .bool false, .int .i64 0, .int .i64 0, .int .i64 0, .int .i64 0]) w3 := ⟨by rw [hw]; exact Since.setRow hHeld.1 HGn4.out _, by rw [hw]; exact Blk.row_far (hHeld.2) (Ne.symm HNn4R.out) _⟩
        refine hK.out _ _ hHeld3 (fun hHeld2 => ?_)
        clear HXn4 hK K hHeld hHeld3 hw
        have hHeld := hHeld2
        clear hHeld2
        (try simp only [Act.put, sA, sB, sC])
        refine wpAnyH_done (by kernel_rfl) ?_ _
        have HSd3 := Lib.hid hHeld.1
        have HBRd3 := Lib.hid (hHeld.2)
        clear hHeld HRK HRD HS1 HBR1
        go_wp2_with fail
        go_meet
        case rel => exact Lib.hid ⟨bn4, rfl, HSd3.out, HBRd3.out, HXn42.out, HGn4.out, HNn4R.out⟩
    case g3__14b =>
      rw [if_pos (by rfl)]
      refine wp_new (fun b => .pointer (some ⟨b, 0, none⟩)) 25 #[.int .i64 0, .int .i64 0, .int .i64 0, .int .i64 0, .bool false, .int .i64 0, .int .i64 0, .int .i64 0, .int .i64 0] (by rintro b rfl; first | rfl | kernel_rfl) ?_
      intro bn4 w2 hge hB hb
      refine hK.out _ _ (by (apply HRK.out; exact hb; exact hHeld)) (fun hHeld2 => ?_)
      have HNn4R := Lib.hid (show bn4 ≠ w.heap.size by have := Blk.lt (hHeld.2); (try simp at this); (try simp at hge); omega)
      have HGn4 := Lib.hid (show w.heap.size ≤ bn4 by have := Since.size hHeld.1; (try simp at this); (try simp at hge); omega)
      have HXn4 := Lib.hid hB
      clear hB
      clear hge
      clear hK K hHeld hb
      have hHeld := hHeld2
      clear hHeld2
      (try simp only [Act.put, sA, sB, sC])
      refine wpAnyH_ready (rs := [6]) (by kernel_rfl) (by simp) ?_
      refine AllReadyH.cons (o := ?o3_b14_6) ?h3_b14_6 (fun K hK => ?_) AllReadyH.nil
      case h3_b14_6 => (first | (simp only [gA, gB, gC]; done) | (simp only [gA, gB, gC]; exact rfl))
      (try go_simp)
      refine (number2T _ _ (z zs 2) (z zs 3) _ (keep_bv hHeld.1 HV2.out)).mono ?_
      rintro e w' ⟨rfl, rfl⟩
      (try go_wp2_with fail)
      refine hK.out _ _ hHeld (fun hHeld2 => ?_)
      clear hK K hHeld2
      (try simp only [Act.put, sA, sB, sC])
      refine wpAnyH_ready (rs := [9]) (by kernel_rfl) (by simp) ?_
      refine AllReadyH.cons (o := ?o3_b14_9) ?h3_b14_9 (fun K hK => ?_) AllReadyH.nil
      case h3_b14_9 => (first | (simp only [gA, gB, gC]; done) | (simp only [gA, gB, gC]; exact rfl))
      (try go_simp)
      refine (number2T _ _ (z zs 4) (z zs 5) _ (keep_bv hHeld.1 HV4.out)).mono ?_
      rintro e w' ⟨rfl, rfl⟩
      (try go_wp2_with fail)
      refine hK.out _ _ hHeld (fun hHeld2 => ?_)
      clear hK K hHeld2
      (try simp only [Act.put, sA, sB, sC])
      refine wpAnyH_ready (rs := [12]) (by kernel_rfl) (by simp) ?_
      refine AllReadyH.cons (o := ?o3_b14_12) ?h3_b14_12 (fun K hK => ?_) AllReadyH.nil
      case h3_b14_12 => (first | (simp only [gA, gB, gC]; done) | (simp only [gA, gB, gC]; exact rfl))
      (try go_simp)
      refine (number2T _ _ (z zs 6) (z zs 7) _ (keep_bv hHeld.1 HV6.out)).mono ?_
      rintro e w' ⟨rfl, rfl⟩
      (try go_wp2_with fail)
      refine hK.out _ _ hHeld (fun hHeld2 => ?_)
      clear hK K hHeld2
      (try simp only [Act.put, sA, sB, sC])
      refine wpAnyH_take (i := 13) (oi := ?o3_b14_13) (v := .agg #[.int .i64 (z zs 1), .int .i64 (num2 (z zs 2) (z zs 3)), .int .i64 (num2 (z zs 4) (z zs 5)), .int .i64 (num2 (z zs 6) (z zs 7)), .bool false, .int .i64 0, .int .i64 0, .int .i64 0, .int .i64 0]) ?h3_b14_13 (by kernel_rfl) (by kernel_rfl) (by kernel_rfl) ?q3_b14_13 ?y3_b14_13 (by assumption) ?_
      case h3_b14_13 => (first | (simp only [gA, gB, gC]; done) | (simp only [gA, gB, gC]; exact rfl))
      case q3_b14_13 => exact fun _ _ _ h => h
      case y3_b14_13 => (refine Or.inl ⟨rfl, ?_⟩; intro w hSw; kernel_rfl)
      (try simp only [Act.put, sA, sB, sC])
      refine wpAnyH_ready (rs := [15]) (by kernel_rfl) (by simp) ?_
      refine AllReadyH.cons (o := ?o3_b14_15) ?h3_b14_15 (fun K hK => ?_) AllReadyH.nil
      case h3_b14_15 => (first | (simp only [gA, gB, gC]; done) | (simp only [gA, gB, gC]; exact rfl))
      rw [if_pos (by rfl)]
      refine wp_st_row 25 _ _ rfl #[.int .i64 (z zs 1), .int .i64 (num2 (z zs 2) (z zs 3)), .int .i64 (num2 (z zs 4) (z zs 5)), .int .i64 (num2 (z zs 6) (z zs 7)), .bool false, .int .i64 0, .int .i64 0, .int .i64 0, .int .i64 0] rfl rfl (HasRow.of HXn4.out rfl) rfl (by simp [pktC, msgC, Value.oneCell']) (by kernel_rfl) ?_
      intro w3 hw
      have HXn42 := Lib.hid (show Blk w3 bn4 25 #[.int .i64 (z zs 1), .int .i64 (num2 (z zs 2) (z zs 3)), .int .i64 (num2 (z zs 4) (z zs 5)), .int .i64 (num2 (z zs 6) (z zs 7)), .bool false, .int .i64 0, .int .i64 0, .int .i64 0, .int .i64 0] by rw [hw]; exact Blk.row HXn4.out _)
      have hHeld3 : (fun W : World => Since w W ∧ Blk W w.heap.size 25 #[.int .i64 0, .int .i64 0, .int .i64 0, .int .i64 0, .bool false, .int .i64 0, .int .i64 0, .int .i64 0, .int .i64 0]) w3 := ⟨by rw [hw]; exact Since.setRow hHeld.1 HGn4.out _, by rw [hw]; exact Blk.row_far (hHeld.2) (Ne.symm HNn4R.out) _⟩
      refine hK.out _ _ hHeld3 (fun hHeld2 => ?_)
      clear HXn4 hK K hHeld hHeld3 hw
      have hHeld := hHeld2
      clear hHeld2
      (try simp only [Act.put, sA, sB, sC])
      refine wpAnyH_done (by kernel_rfl) ?_ _
      have HSd3 := Lib.hid hHeld.1
      have HBRd3 := Lib.hid (hHeld.2)
      clear hHeld HRK HRD HS1 HBR1
      go_wp2_with fail
      go_meet
      case rel => exact Lib.hid ⟨bn4, rfl, HSd3.out, HBRd3.out, HXn42.out, HGn4.out, HNn4R.out⟩
  case rest =>
    clear HS1 HBR1
    obtain ⟨bn4, rfl, g0, g1, g2, g3, g4⟩ := hcut.out
    clear hcut
    have HS51 := Lib.hid g0
    have HBR51 := Lib.hid g1
    have HBn451 := Lib.hid g2
    have HGn4 := Lib.hid g3
    have HNn4R := Lib.hid g4
    clear g0 g1 g2 g3 g4
    go_upto_region 4 with fail
    refine wp_region_lit ?_
    refine wpList_q (by rfl) (.slice (some ⟨b, off, none⟩) 21 cap) ?he ?_
    case he => (first | rfl | (go_simp; (try with_reducible rfl)))
    (try simp only [Act.put, sA, sB, sC])
    refine wpList_q (by rfl) (.int .i64 21) ?he ?_
    case he => (go_simp; (try with_reducible rfl))
    (try simp only [Act.put, sA, sB, sC])
    refine wpList_q (by rfl) (.bool false) ?he ?_
    case he => (go_simp; (try with_reducible rfl))
    (try simp only [Act.put, sA, sB, sC])
    refine wpList_nil ?_
    go_upto_region 6 with fail
    refine wp_region_lit ?_
    refine wpList_q (by rfl) (.pointer (some ⟨bn4, 4, none⟩)) ?he ?_
    case he => (first | rfl | (go_simp; (try with_reducible rfl)))
    (try simp only [Act.put, sA, sB, sC])
    refine wpList_wp (by rfl) (fun K hK => ?_)
    refine wp_st_cell 4 _ _ rfl #[.int .i64 (z zs 1), .int .i64 (num2 (z zs 2) (z zs 3)), .int .i64 (num2 (z zs 4) (z zs 5)), .int .i64 (num2 (z zs 6) (z zs 7)), .bool true, .int .i64 0, .int .i64 0, .int .i64 0, .int .i64 0] (.bool true) rfl rfl HBn451.out (by show 4 < 9; decide) rfl (by first | rfl | simp [Value.oneCell']) (by kernel_rfl) ?_
    intro w52 hw
    refine hK.out _ _ ?_
    clear hK K
    (try simp only [Act.put, sA, sB, sC])
    have HS52 := Lib.hid (show Since w w52 by rw [hw]; exact Since.setRow HS51.out HGn4.out _)
    have HBR52 := Lib.hid (show Blk w52 w.heap.size 25 #[.int .i64 0, .int .i64 0, .int .i64 0, .int .i64 0, .bool false, .int .i64 0, .int .i64 0, .int .i64 0, .int .i64 0] by rw [hw]; exact Blk.row_far HBR51.out (Ne.symm HNn4R.out) _)
    have HBn452 := Lib.hid (show Blk w52 bn4 25 #[.int .i64 (z zs 1), .int .i64 (num2 (z zs 2) (z zs 3)), .int .i64 (num2 (z zs 4) (z zs 5)), .int .i64 (num2 (z zs 6) (z zs 7)), .bool true, .int .i64 0, .int .i64 0, .int .i64 0, .int .i64 0] by rw [hw]; exact Blk.row HBn451.out _)
    clear hw HS51 HBR51 HBn451
    refine wpList_nil ?_
    go_upto_region 7 with fail
    have hrK : ∀ W W' : World, Since W W' → (Since w W ∧ Blk W w.heap.size 25 #[.int .i64 0, .int .i64 0, .int .i64 0, .int .i64 0, .bool false, .int .i64 0, .int .i64 0, .int .i64 0, .int .i64 0] ∧ HasRow W bn4 25 9) → (Since w W' ∧ Blk W' w.heap.size 25 #[.int .i64 0, .int .i64 0, .int .i64 0, .int .i64 0, .bool false, .int .i64 0, .int .i64 0, .int .i64 0, .int .i64 0] ∧ HasRow W' bn4 25 9) := fun W W' k ⟨h, h0, h1⟩ => ⟨h.trans k, keep_blk k h0, HasRow.keep k h1⟩
    have hrS : (fun W : World => Since w W ∧ Blk W w.heap.size 25 #[.int .i64 0, .int .i64 0, .int .i64 0, .int .i64 0, .bool false, .int .i64 0, .int .i64 0, .int .i64 0, .int .i64 0] ∧ HasRow W bn4 25 9) w52 := ⟨HS52.out, HBR52.out, HasRow.of HBn452.out rfl⟩
    have HRK := Lib.hid hrK
    have HRD := Lib.hid (show (fun W : World => Since w W ∧ Blk W w.heap.size 25 #[.int .i64 0, .int .i64 0, .int .i64 0, .int .i64 0, .bool false, .int .i64 0, .int .i64 0, .int .i64 0, .int .i64 0] ∧ HasRow W bn4 25 9) (World.drew w52) from ⟨Since.drew hrS.1, hrS.2⟩)
    clear hrK hrS
    have HPn4 := Lib.hid (show Blk (World.drew w52) bn4 25 #[.int .i64 (z zs 1), .int .i64 (num2 (z zs 2) (z zs 3)), .int .i64 (num2 (z zs 4) (z zs 5)), .int .i64 (num2 (z zs 6) (z zs 7)), .bool true, .int .i64 0, .int .i64 0, .int .i64 0, .int .i64 0] from HBn452.out)
    refine wp_region_held_drew (S := fun W : World => Since w W ∧ Blk W w.heap.size 25 #[.int .i64 0, .int .i64 0, .int .i64 0, .int .i64 0, .bool false, .int .i64 0, .int .i64 0, .int .i64 0, .int .i64 0] ∧ HasRow W bn4 25 9) (by kernel_rfl) HRD.out (fun hHeld => ?_)
    refine wpAnyH_take (i := 0) (oi := ?o7__0) (v := .slice (some ⟨b, off, none⟩) 21 cap) ?h7__0 (by kernel_rfl) (by kernel_rfl) (by kernel_rfl) ?q7__0 ?y7__0 (by assumption) ?_
    case h7__0 => (first | (simp only [gA, gB, gC]; done) | (simp only [gA, gB, gC]; exact rfl))
    case q7__0 => exact fun _ _ _ h => h
    case y7__0 => (refine Or.inl ⟨rfl, ?_⟩; intro w hSw; (first | rfl | (go_simp; (try with_reducible rfl))))
    (try simp only [Act.put, sA, sB, sC])
    refine wpAnyH_take (i := 1) (oi := ?o7__1) (v := .pointer (some ⟨b, (off + 8), none⟩)) ?h7__1 (by kernel_rfl) (by kernel_rfl) (by kernel_rfl) ?q7__1 ?y7__1 (by assumption) ?_
    case h7__1 => (first | (simp only [gA, gB, gC]; done) | (simp only [gA, gB, gC]; exact rfl))
    case q7__1 => exact fun _ _ _ h => h
    case y7__1 => (refine Or.inl ⟨rfl, ?_⟩; intro w hSw; (first | rfl | (go_simp; (try with_reducible rfl))))
    (try simp only [Act.put, sA, sB, sC])
    refine wpAnyH_take (i := 2) (oi := ?o7__2) (v := .int .u8 (z zs 8)) ?h7__2 (by kernel_rfl) (by kernel_rfl) (by kernel_rfl) ?q7__2 ?y7__2 (by assumption) ?_
    case h7__2 => (first | (simp only [gA, gB, gC]; done) | (simp only [gA, gB, gC]; exact rfl))
    case q7__2 => exact fun _ _ _ h => h
    case y7__2 => (refine Or.inl ⟨rfl, ?_⟩; intro w hSw; exact exec_at 5 _ _ (keep_cell hSw.1 (HC.out 8 (by omega))) rfl rfl Tryd.underlying5 rfl)
    (try simp only [Act.put, sA, sB, sC])
    refine wpAnyH_take (i := 3) (oi := ?o7__3) (v := .int .i64 (z zs 8)) ?h7__3 (by kernel_rfl) (by kernel_rfl) (by kernel_rfl) ?q7__3 ?y7__3 (by assumption) ?_
    case h7__3 => (first | (simp only [gA, gB, gC]; done) | (simp only [gA, gB, gC]; exact rfl))
    case q7__3 => exact fun _ _ _ h => h
    case y7__3 => (refine Or.inl ⟨rfl, ?_⟩; intro w hSw; (have q := HI8.out; go_simp; exact wr64 _ (by omega) (by omega)))
    (try simp only [Act.put, sA, sB, sC])
    refine wpAnyH_take (i := 4) (oi := ?o7__4) (v := .slice (some ⟨b, off, none⟩) 21 cap) ?h7__4 (by kernel_rfl) (by kernel_rfl) (by kernel_rfl) ?q7__4 ?y7__4 (by assumption) ?_
    case h7__4 => (first | (simp only [gA, gB, gC]; done) | (simp only [gA, gB, gC]; exact rfl))
    case q7__4 => exact fun _ _ _ h => h
    case y7__4 => (refine Or.inl ⟨rfl, ?_⟩; intro w hSw; (first | rfl | (go_simp; (try with_reducible rfl))))
    (try simp only [Act.put, sA, sB, sC])
    refine wpAnyH_take (i := 5) (oi := ?o7__5) (v := .slice (some ⟨b, (off + 9), none⟩) 4 (cap - 9)) ?h7__5 (by kernel_rfl) (by kernel_rfl) (by kernel_rfl) ?q7__5 ?y7__5 (by assumption) ?_
    case h7__5 => (first | (simp only [gA, gB, gC]; done) | (simp only [gA, gB, gC]; exact rfl))
    case q7__5 => exact fun _ _ _ h => h
    case y7__5 => (refine Or.inl ⟨rfl, ?_⟩; intro w hSw; (go_simp; first | omega | (rw [if_pos (by omega), if_neg (by omega)])))
    (try simp only [Act.put, sA, sB, sC])
    refine wpAnyH_take (i := 7) (oi := ?o7__7) (v := .slice (some ⟨b, off, none⟩) 21 cap) ?h7__7 (by kernel_rfl) (by kernel_rfl) (by kernel_rfl) ?q7__7 ?y7__7 (by assumption) ?_
    case h7__7 => (first | (simp only [gA, gB, gC]; done) | (simp only [gA, gB, gC]; exact rfl))
    case q7__7 => exact fun _ _ _ h => h
    case y7__7 => (refine Or.inl ⟨rfl, ?_⟩; intro w hSw; (first | rfl | (go_simp; (try with_reducible rfl))))
    (try simp only [Act.put, sA, sB, sC])
    refine wpAnyH_take (i := 8) (oi := ?o7__8) (v := .slice (some ⟨b, (off + 13), none⟩) 4 (cap - 13)) ?h7__8 (by kernel_rfl) (by kernel_rfl) (by kernel_rfl) ?q7__8 ?y7__8 (by assumption) ?_
    case h7__8 => (first | (simp only [gA, gB, gC]; done) | (simp only [gA, gB, gC]; exact rfl))
    case q7__8 => exact fun _ _ _ h => h
    case y7__8 => (refine Or.inl ⟨rfl, ?_⟩; intro w hSw; (go_simp; first | omega | (rw [if_pos (by omega), if_neg (by omega)])))
    (try simp only [Act.put, sA, sB, sC])
    refine wpAnyH_take (i := 10) (oi := ?o7__10) (v := .slice (some ⟨b, off, none⟩) 21 cap) ?h7__10 (by kernel_rfl) (by kernel_rfl) (by kernel_rfl) ?q7__10 ?y7__10 (by assumption) ?_
    case h7__10 => (first | (simp only [gA, gB, gC]; done) | (simp only [gA, gB, gC]; exact rfl))
    case q7__10 => exact fun _ _ _ h => h
    case y7__10 => (refine Or.inl ⟨rfl, ?_⟩; intro w hSw; (first | rfl | (go_simp; (try with_reducible rfl))))
    (try simp only [Act.put, sA, sB, sC])
    refine wpAnyH_take (i := 11) (oi := ?o7__11) (v := .slice (some ⟨b, (off + 17), none⟩) 4 (cap - 17)) ?h7__11 (by kernel_rfl) (by kernel_rfl) (by kernel_rfl) ?q7__11 ?y7__11 (by assumption) ?_
    case h7__11 => (first | (simp only [gA, gB, gC]; done) | (simp only [gA, gB, gC]; exact rfl))
    case q7__11 => exact fun _ _ _ h => h
    case y7__11 => (refine Or.inl ⟨rfl, ?_⟩; intro w hSw; (go_simp; first | omega | (rw [if_pos (by omega), if_neg (by omega)])))
    (try simp only [Act.put, sA, sB, sC])
    refine wpAnyH_ready (rs := [6]) (by kernel_rfl) (by simp) ?_
    refine AllReadyH.cons (o := ?o7__6) ?h7__6 (fun K hK => ?_) AllReadyH.nil
    case h7__6 => (first | (simp only [gA, gB, gC]; done) | (simp only [gA, gB, gC]; exact rfl))
    (try go_simp)
    refine (number4T _ _ (z zs 9) (z zs 10) (z zs 11) (z zs 12) _ (keep_bv hHeld.1 HV9.out)).mono ?_
    rintro e w' ⟨rfl, rfl⟩
    (try go_wp2_with fail)
    refine hK.out _ _ hHeld (fun hHeld2 => ?_)
    clear hK K hHeld2
    (try simp only [Act.put, sA, sB, sC])
    refine wpAnyH_ready (rs := [9]) (by kernel_rfl) (by simp) ?_
    refine AllReadyH.cons (o := ?o7__9) ?h7__9 (fun K hK => ?_) AllReadyH.nil
    case h7__9 => (first | (simp only [gA, gB, gC]; done) | (simp only [gA, gB, gC]; exact rfl))
    (try go_simp)
    refine (number4T _ _ (z zs 13) (z zs 14) (z zs 15) (z zs 16) _ (keep_bv hHeld.1 HV13.out)).mono ?_
    rintro e w' ⟨rfl, rfl⟩
    (try go_wp2_with fail)
    refine hK.out _ _ hHeld (fun hHeld2 => ?_)
    clear hK K hHeld2
    (try simp only [Act.put, sA, sB, sC])
    refine wpAnyH_ready (rs := [12]) (by kernel_rfl) (by simp) ?_
    refine AllReadyH.cons (o := ?o7__12) ?h7__12 (fun K hK => ?_) AllReadyH.nil
    case h7__12 => (first | (simp only [gA, gB, gC]; done) | (simp only [gA, gB, gC]; exact rfl))
    (try go_simp)
    refine (number4T _ _ (z zs 17) (z zs 18) (z zs 19) (z zs 20) _ (keep_bv hHeld.1 HV17.out)).mono ?_
    rintro e w' ⟨rfl, rfl⟩
    (try go_wp2_with fail)
    refine hK.out _ _ hHeld (fun hHeld2 => ?_)
    clear hK K hHeld2
    (try simp only [Act.put, sA, sB, sC])
    refine wpAnyH_take (i := 13) (oi := ?o7__13) (v := .agg #[.int .i64 (z zs 8), .int .i64 (num4 (z zs 9) (z zs 10) (z zs 11) (z zs 12)), .int .i64 (num4 (z zs 13) (z zs 14) (z zs 15) (z zs 16)), .int .i64 (num4 (z zs 17) (z zs 18) (z zs 19) (z zs 20))]) ?h7__13 (by kernel_rfl) (by kernel_rfl) (by kernel_rfl) ?q7__13 ?y7__13 (by assumption) ?_
    case h7__13 => (first | (simp only [gA, gB, gC]; done) | (simp only [gA, gB, gC]; exact rfl))
    case q7__13 => exact fun _ _ _ h => h
    case y7__13 => (refine Or.inl ⟨rfl, ?_⟩; intro w hSw; kernel_rfl)
    (try simp only [Act.put, sA, sB, sC])
    refine wpAnyH_take (i := 14) (oi := ?o7__14) (v := .pointer (some ⟨bn4, 5, none⟩)) ?h7__14 (by kernel_rfl) (by kernel_rfl) (by kernel_rfl) ?q7__14 ?y7__14 (by assumption) ?_
    case h7__14 => (first | (simp only [gA, gB, gC]; done) | (simp only [gA, gB, gC]; exact rfl))
    case q7__14 => exact fun _ _ _ h => h
    case y7__14 => (refine Or.inl ⟨rfl, ?_⟩; intro w hSw; (first | rfl | (go_simp; (try with_reducible rfl))))
    (try simp only [Act.put, sA, sB, sC])
    refine wpAnyH_ready (rs := [15]) (by kernel_rfl) (by simp) ?_
    refine AllReadyH.cons (o := ?o7__15) ?h7__15 (fun K hK => ?_) AllReadyH.nil
    case h7__15 => (first | (simp only [gA, gB, gC]; done) | (simp only [gA, gB, gC]; exact rfl))
    rw [if_pos (by rfl)]
    refine wp_st_part 23 _ _ rfl #[.int .i64 (z zs 1), .int .i64 (num2 (z zs 2) (z zs 3)), .int .i64 (num2 (z zs 4) (z zs 5)), .int .i64 (num2 (z zs 6) (z zs 7)), .bool true, .int .i64 (z zs 8), .int .i64 (num4 (z zs 9) (z zs 10) (z zs 11) (z zs 12)), .int .i64 (num4 (z zs 13) (z zs 14) (z zs 15) (z zs 16)), .int .i64 (num4 (z zs 17) (z zs 18) (z zs 19) (z zs 20))] (#[.int .i64 (z zs 8), .int .i64 (num4 (z zs 9) (z zs 10) (z zs 11) (z zs 12)), .int .i64 (num4 (z zs 13) (z zs 14) (z zs 15) (z zs 16)), .int .i64 (num4 (z zs 17) (z zs 18) (z zs 19) (z zs 20))]) rfl rfl HPn4.out (Nat.le_of_ble_eq_true rfl) rfl (by simp [pktC, msgC, Value.oneCell']) (by kernel_rfl) ?_
    clear HPn4
    intro w53 hw
    have HRn4 := Lib.hid (show Blk w53 bn4 25 #[.int .i64 (z zs 1), .int .i64 (num2 (z zs 2) (z zs 3)), .int .i64 (num2 (z zs 4) (z zs 5)), .int .i64 (num2 (z zs 6) (z zs 7)), .bool true, .int .i64 (z zs 8), .int .i64 (num4 (z zs 9) (z zs 10) (z zs 11) (z zs 12)), .int .i64 (num4 (z zs 13) (z zs 14) (z zs 15) (z zs 16)), .int .i64 (num4 (z zs 17) (z zs 18) (z zs 19) (z zs 20))] by obtain ⟨old, Bo, _⟩ := hHeld.2.2; rw [hw]; exact Blk.row Bo _)
    have hHeld3 : (fun W : World => Since w W ∧ Blk W w.heap.size 25 #[.int .i64 0, .int .i64 0, .int .i64 0, .int .i64 0, .bool false, .int .i64 0, .int .i64 0, .int .i64 0, .int .i64 0] ∧ HasRow W bn4 25 9) w53 := ⟨by rw [hw]; exact Since.setRow hHeld.1 HGn4.out _, by rw [hw]; exact Blk.row_far (hHeld.2.1) (Ne.symm HNn4R.out) _, HasRow.of HRn4.out rfl⟩
    refine hK.out _ _ hHeld3 (fun hHeld2 => ?_)
    clear hK K hHeld hHeld3 hw
    have hHeld := hHeld2
    clear hHeld2
    (try simp only [Act.put, sA, sB, sC])
    refine wpAnyH_done (by kernel_rfl) ?_ _
    have HSd7 := Lib.hid hHeld.1
    have HBRd7 := Lib.hid (hHeld.2.1)
    have HBn4d7 := Lib.hid HRn4.out
    clear HRn4
    clear hHeld HRK HRD HS52 HBR52 HBn452
    go_upto_region 8 with fail
    refine wp_region_lit ?_
    refine wpList_q (by rfl) (.pointer (some ⟨bn4, 5, none⟩)) ?he ?_
    case he => (first | rfl | (go_simp; (try with_reducible rfl)))
    (try simp only [Act.put, sA, sB, sC])
    refine wpList_q (by rfl) (.pointer (some ⟨bn4, 5, none⟩)) ?he ?_
    case he => (first | rfl | (go_simp; (try with_reducible rfl)))
    (try simp only [Act.put, sA, sB, sC])
    refine wpList_q (by rfl) (.int .i64 (z zs 8)) ?he ?_
    case he => exact exec_cell 3 _ _ HBn4d7.out rfl rfl rfl Tryd.underlying3 rfl
    (try simp only [Act.put, sA, sB, sC])
    refine wpList_wp (by rfl) (fun K hK => ?_)
    (try go_simp)
    refine (knownB (z zs 8) false _ HK.out).mono ?_
    rintro e w' ⟨rfl, rfl⟩
    (try go_wp2_with fail)
    refine hK.out _ _ ?_
    clear hK K
    (try simp only [Act.put, sA, sB, sC])
    refine wpList_q (by rfl) (.bool true) ?he ?_
    case he => (go_simp; (try with_reducible rfl))
    (try simp only [Act.put, sA, sB, sC])
    refine wpList_nil ?_
    go_upto_region 9 with fail
    refine wp_region_lit ?_
    refine wpList_q (by rfl) (.agg #[.int .i64 0, .int .i64 0, .int .i64 0, .int .i64 0, .bool false, .int .i64 0, .int .i64 0, .int .i64 0, .int .i64 0]) ?he ?_
    case he => kernel_rfl
    (try simp only [Act.put, sA, sB, sC])
    refine wpList_wp (by rfl) (fun K hK => ?_)
    refine wp_st_row 25 _ _ rfl #[.int .i64 0, .int .i64 0, .int .i64 0, .int .i64 0, .bool false, .int .i64 0, .int .i64 0, .int .i64 0, .int .i64 0] rfl rfl (HasRow.of HBRd7.out rfl) rfl (by simp [pktC, msgC, Value.oneCell']) (by kernel_rfl) ?_
    intro w54 hw
    refine hK.out _ _ ?_
    clear hK K
    (try simp only [Act.put, sA, sB, sC])
    have HS54 := Lib.hid (show Since w w54 by rw [hw]; exact Since.setRow HSd7.out (by have := HNE3.out; omega) _)
    have HBR54 := Lib.hid (show Blk w54 w.heap.size 25 #[.int .i64 0, .int .i64 0, .int .i64 0, .int .i64 0, .bool false, .int .i64 0, .int .i64 0, .int .i64 0, .int .i64 0] by rw [hw]; exact Blk.row HBRd7.out _)
    have HBn454 := Lib.hid (show Blk w54 bn4 25 #[.int .i64 (z zs 1), .int .i64 (num2 (z zs 2) (z zs 3)), .int .i64 (num2 (z zs 4) (z zs 5)), .int .i64 (num2 (z zs 6) (z zs 7)), .bool true, .int .i64 (z zs 8), .int .i64 (num4 (z zs 9) (z zs 10) (z zs 11) (z zs 12)), .int .i64 (num4 (z zs 13) (z zs 14) (z zs 15) (z zs 16)), .int .i64 (num4 (z zs 17) (z zs 18) (z zs 19) (z zs 20))] by rw [hw]; exact Blk.row_far HBn4d7.out HNn4R.out _)
    clear hw HSd7 HBRd7 HBn4d7
    refine wpList_q (by rfl) (.int .i64 4) ?he ?_
    case he => (first | rfl | (go_simp; (try with_reducible rfl)))
    (try simp only [Act.put, sA, sB, sC])
    refine wpList_nil ?_
    (try go_wp2_with fail)
    exact bodyPost_ret (results_row2 rfl _ _ w.heap.size 25 #[.int .i64 0, .int .i64 0, .int .i64 0, .int .i64 0, .bool false, .int .i64 0, .int .i64 0, .int .i64 0, .int .i64 0] _ (.int .i64 4) rfl rfl HBR54.out Tryd.underlying25 rfl (by kernel_rfl)) rfl ⟨rfl, HS54.out⟩
set_option maxHeartbeats 4000000 in
theorem getB (b off cap : Nat) (zs : List Int) (w : World) (h : BV w (some ⟨b, off, none⟩) 21 zs) (hcp : 21 ≤ cap) (hz : z zs 0 = 1) (hk : decide (1 ≤ z zs 8 ∧ z zs 8 ≤ 16) = true) (hg : mayB (bodyP zs) = false) : Calls Tryd.prog 11 #[.slice (some ⟨b, off, none⟩) 21 cap] w fun e w' => e = .returned (.tuple #[.agg (pktC zeroP), .int .i64 2]) ∧ Since w w' := by
  have hl : zs.length = 21 := h.1
  obtain ⟨b', off', he, hlt, hcell⟩ := h.addr (by omega)
  obtain ⟨rfl, rfl⟩ : b = b' ∧ off = off' := by simp only [Option.some.injEq, Addr.mk.injEq, and_true] at he; exact he
  have HC := Lib.hid hcell
  have hci : (21 : Int) ≤ (cap : Int) := by omega
  have HV2 := Lib.hid (bv_part (i := 2) (m := 2) h (by omega) (part2 (by omega)))
  have HV4 := Lib.hid (bv_part (i := 4) (m := 2) h (by omega) (part2 (by omega)))
  have HV6 := Lib.hid (bv_part (i := 6) (m := 2) h (by omega) (part2 (by omega)))
  have HV9 := Lib.hid (bv_part (i := 9) (m := 4) h (by omega) (part4 (by omega)))
  have HV13 := Lib.hid (bv_part (i := 13) (m := 4) h (by omega) (part4 (by omega)))
  have HV17 := Lib.hid (bv_part (i := 17) (m := 4) h (by omega) (part4 (by omega)))
  have HI1 := Lib.hid (z_isB h.2.2.1 1)
  have HI8 := Lib.hid (z_isB h.2.2.1 8)
  clear he hlt hcell hl h
  have HZ := Lib.hid hz
  clear hz
  have HK := Lib.hid hk
  clear hk
  have HG := Lib.hid hg
  clear hg
  go_enter Tryd.func11, Tryd.ntmps11
  go_upto_region 1 with fail
  obtain ⟨w1, hw1⟩ : ∃ w1, w1 = (w.alloc (.cells #[.int .i64 0, .int .i64 0, .int .i64 0, .int .i64 0, .bool false, .int .i64 0, .int .i64 0, .int .i64 0, .int .i64 0] 25)) := ⟨_, rfl⟩
  rw [← hw1]
  have HBR1 := Lib.hid (show Blk w1 (w.heap.size) 25 #[.int .i64 0, .int .i64 0, .int .i64 0, .int .i64 0, .bool false, .int .i64 0, .int .i64 0, .int .i64 0, .int .i64 0] by rw [hw1]; exact Blk.at_ (by (try simp only [size_alloc])) _ _)
  have HS1 := Lib.hid (show Since w w1 by rw [hw1]; exact Since.alloc (Since.refl w) _)
  have hNE : w.heap.size ≤ w.heap.size := by omega
  have HNE := Lib.hid hNE
  clear hNE hw1
  have HNE3 := Lib.hid (show w.heap.size ≤ w.heap.size from HNE.out)
  clear HNE
  refine wp_region_lit ?_
  refine wpList_q (by rfl) (.slice (some ⟨b, off, none⟩) 21 cap) ?he ?_
  case he => (first | rfl | (go_simp; (try with_reducible rfl)))
  (try simp only [Act.put, sA, sB, sC])
  refine wpList_q (by rfl) (.int .i64 21) ?he ?_
  case he => (go_simp; (try with_reducible rfl))
  (try simp only [Act.put, sA, sB, sC])
  refine wpList_q (by rfl) (.bool true) ?he ?_
  case he => (go_simp; (try with_reducible rfl))
  (try simp only [Act.put, sA, sB, sC])
  refine wpList_q (by rfl) (.bool true) ?he ?_
  case he => (first | rfl | (go_simp; (try with_reducible rfl)))
  (try simp only [Act.put, sA, sB, sC])
  refine wpList_q (by rfl) (.slice (some ⟨b, off, none⟩) 21 cap) ?he ?_
  case he => (first | rfl | (go_simp; (try with_reducible rfl)))
  (try simp only [Act.put, sA, sB, sC])
  refine wpList_q (by rfl) (.int .i64 21) ?he ?_
  case he => (go_simp; (try with_reducible rfl))
  (try simp only [Act.put, sA, sB, sC])
  refine wpList_q (by rfl) (.bool false) ?he ?_
  case he => (go_simp; (try with_reducible rfl))
  (try simp only [Act.put, sA, sB, sC])
  refine wpList_q (by rfl) (.bool false) ?he ?_
  case he => (first | rfl | (go_simp; (try with_reducible rfl)))
  (try simp only [Act.put, sA, sB, sC])
  refine wpList_q (by rfl) (.bool false) ?he ?_
  case he => (first | rfl | (go_simp; (try with_reducible rfl)))
  (try simp only [Act.put, sA, sB, sC])
  refine wpList_q (by rfl) (.slice (some ⟨b, off, none⟩) 21 cap) ?he ?_
  case he => (first | rfl | (go_simp; (try with_reducible rfl)))
  (try simp only [Act.put, sA, sB, sC])
  refine wpList_q (by rfl) (.pointer (some ⟨b, off, none⟩)) ?he ?_
  case he => (first | rfl | (go_simp; (try with_reducible rfl)))
  (try simp only [Act.put, sA, sB, sC])
  refine wpList_q (by rfl) (.int .u8 (z zs 0)) ?he ?_
  case he => exact exec_at 5 _ _ (keep_cell HS1.out (HC.out 0 (by omega))) rfl rfl Tryd.underlying5 rfl
  (try simp only [Act.put, sA, sB, sC])
  refine wpList_q (by rfl) (.bool false) ?he ?_
  case he => (go_simp; (first | done | (have q := HZ.out; omega)))
  (try simp only [Act.put, sA, sB, sC])
  refine wpList_q (by rfl) (.bool false) ?he ?_
  case he => (first | rfl | (go_simp; (try with_reducible rfl)))
  (try simp only [Act.put, sA, sB, sC])
  refine wpList_nil ?_
  go_upto_region 3 with fail
  go_cut [4] (fun s4 wx => Hid (∃ bn4 : Nat, s4 = .pointer (some ⟨bn4, 0, none⟩) ∧ Since w wx ∧ Blk wx w.heap.size 25 #[.int .i64 0, .int .i64 0, .int .i64 0, .int .i64 0, .bool false, .int .i64 0, .int .i64 0, .int .i64 0, .int .i64 0] ∧ Blk wx bn4 25 #[.int .i64 (z zs 1), .int .i64 (num2 (z zs 2) (z zs 3)), .int .i64 (num2 (z zs 4) (z zs 5)), .int .i64 (num2 (z zs 6) (z zs 7)), .bool false, .int .i64 0, .int .i64 0, .int .i64 0, .int .i64 0] ∧ w.heap.size ≤ bn4 ∧ bn4 ≠ w.heap.size))
  case first =>
    have hrK : ∀ W W' : World, Since W W' → (Since w W ∧ Blk W w.heap.size 25 #[.int .i64 0, .int .i64 0, .int .i64 0, .int .i64 0, .bool false, .int .i64 0, .int .i64 0, .int .i64 0, .int .i64 0]) → (Since w W' ∧ Blk W' w.heap.size 25 #[.int .i64 0, .int .i64 0, .int .i64 0, .int .i64 0, .bool false, .int .i64 0, .int .i64 0, .int .i64 0, .int .i64 0]) := fun W W' k ⟨h, h0⟩ => ⟨h.trans k, keep_blk k h0⟩
    have hrS : (fun W : World => Since w W ∧ Blk W w.heap.size 25 #[.int .i64 0, .int .i64 0, .int .i64 0, .int .i64 0, .bool false, .int .i64 0, .int .i64 0, .int .i64 0, .int .i64 0]) w1 := ⟨HS1.out, HBR1.out⟩
    have HRK := Lib.hid hrK
    have HRD := Lib.hid (show (fun W : World => Since w W ∧ Blk W w.heap.size 25 #[.int .i64 0, .int .i64 0, .int .i64 0, .int .i64 0, .bool false, .int .i64 0, .int .i64 0, .int .i64 0, .int .i64 0]) (World.drew w1) from ⟨Since.drew hrS.1, hrS.2⟩)
    clear hrK hrS
    refine wp_region_held_drew (S := fun W : World => Since w W ∧ Blk W w.heap.size 25 #[.int .i64 0, .int .i64 0, .int .i64 0, .int .i64 0, .bool false, .int .i64 0, .int .i64 0, .int .i64 0, .int .i64 0]) (by kernel_rfl) HRD.out (fun hHeld => ?_)
    refine wpAnyH_take (i := 0) (oi := ?o3__0) (v := .slice (some ⟨b, off, none⟩) 21 cap) ?h3__0 (by kernel_rfl) (by kernel_rfl) (by kernel_rfl) ?q3__0 ?y3__0 (by assumption) ?_
    case h3__0 => (first | (simp only [gA, gB, gC]; done) | (simp only [gA, gB, gC]; exact rfl))
    case q3__0 => exact fun _ _ _ h => h
    case y3__0 => (refine Or.inl ⟨rfl, ?_⟩; intro w hSw; (first | rfl | (go_simp; (try with_reducible rfl))))
    (try simp only [Act.put, sA, sB, sC])
    refine wpAnyH_take (i := 1) (oi := ?o3__1) (v := .pointer (some ⟨b, (off + 1), none⟩)) ?h3__1 (by kernel_rfl) (by kernel_rfl) (by kernel_rfl) ?q3__1 ?y3__1 (by assumption) ?_
    case h3__1 => (first | (simp only [gA, gB, gC]; done) | (simp only [gA, gB, gC]; exact rfl))
    case q3__1 => exact fun _ _ _ h => h
    case y3__1 => (refine Or.inl ⟨rfl, ?_⟩; intro w hSw; (first | rfl | (go_simp; (try with_reducible rfl))))
    (try simp only [Act.put, sA, sB, sC])
    refine wpAnyH_take (i := 2) (oi := ?o3__2) (v := .int .u8 (z zs 1)) ?h3__2 (by kernel_rfl) (by kernel_rfl) (by kernel_rfl) ?q3__2 ?y3__2 (by assumption) ?_
    case h3__2 => (first | (simp only [gA, gB, gC]; done) | (simp only [gA, gB, gC]; exact rfl))
    case q3__2 => exact fun _ _ _ h => h
    case y3__2 => (refine Or.inl ⟨rfl, ?_⟩; intro w hSw; exact exec_at 5 _ _ (keep_cell hSw.1 (HC.out 1 (by omega))) rfl rfl Tryd.underlying5 rfl)
    (try simp only [Act.put, sA, sB, sC])
    refine wpAnyH_take (i := 3) (oi := ?o3__3) (v := .int .i64 (z zs 1)) ?h3__3 (by kernel_rfl) (by kernel_rfl) (by kernel_rfl) ?q3__3 ?y3__3 (by assumption) ?_
    case h3__3 => (first | (simp only [gA, gB, gC]; done) | (simp only [gA, gB, gC]; exact rfl))
    case q3__3 => exact fun _ _ _ h => h
    case y3__3 => (refine Or.inl ⟨rfl, ?_⟩; intro w hSw; (have q := HI1.out; go_simp; exact wr64 _ (by omega) (by omega)))
    (try simp only [Act.put, sA, sB, sC])
    refine wpAnyH_take (i := 4) (oi := ?o3__4) (v := .slice (some ⟨b, off, none⟩) 21 cap) ?h3__4 (by kernel_rfl) (by kernel_rfl) (by kernel_rfl) ?q3__4 ?y3__4 (by assumption) ?_
    case h3__4 => (first | (simp only [gA, gB, gC]; done) | (simp only [gA, gB, gC]; exact rfl))
    case q3__4 => exact fun _ _ _ h => h
    case y3__4 => (refine Or.inl ⟨rfl, ?_⟩; intro w hSw; (first | rfl | (go_simp; (try with_reducible rfl))))
    (try simp only [Act.put, sA, sB, sC])
    refine wpAnyH_take (i := 5) (oi := ?o3__5) (v := .slice (some ⟨b, (off + 2), none⟩) 2 (cap - 2)) ?h3__5 (by kernel_rfl) (by kernel_rfl) (by kernel_rfl) ?q3__5 ?y3__5 (by assumption) ?_
    case h3__5 => (first | (simp only [gA, gB, gC]; done) | (simp only [gA, gB, gC]; exact rfl))
    case q3__5 => exact fun _ _ _ h => h
    case y3__5 => (refine Or.inl ⟨rfl, ?_⟩; intro w hSw; (go_simp; first | omega | (rw [if_pos (by omega), if_neg (by omega)])))
    (try simp only [Act.put, sA, sB, sC])
    refine wpAnyH_take (i := 7) (oi := ?o3__7) (v := .slice (some ⟨b, off, none⟩) 21 cap) ?h3__7 (by kernel_rfl) (by kernel_rfl) (by kernel_rfl) ?q3__7 ?y3__7 (by assumption) ?_
    case h3__7 => (first | (simp only [gA, gB, gC]; done) | (simp only [gA, gB, gC]; exact rfl))
    case q3__7 => exact fun _ _ _ h => h
    case y3__7 => (refine Or.inl ⟨rfl, ?_⟩; intro w hSw; (first | rfl | (go_simp; (try with_reducible rfl))))
    (try simp only [Act.put, sA, sB, sC])
    refine wpAnyH_take (i := 8) (oi := ?o3__8) (v := .slice (some ⟨b, (off + 4), none⟩) 2 (cap - 4)) ?h3__8 (by kernel_rfl) (by kernel_rfl) (by kernel_rfl) ?q3__8 ?y3__8 (by assumption) ?_
    case h3__8 => (first | (simp only [gA, gB, gC]; done) | (simp only [gA, gB, gC]; exact rfl))
    case q3__8 => exact fun _ _ _ h => h
    case y3__8 => (refine Or.inl ⟨rfl, ?_⟩; intro w hSw; (go_simp; first | omega | (rw [if_pos (by omega), if_neg (by omega)])))
    (try simp only [Act.put, sA, sB, sC])
    refine wpAnyH_take (i := 10) (oi := ?o3__10) (v := .slice (some ⟨b, off, none⟩) 21 cap) ?h3__10 (by kernel_rfl) (by kernel_rfl) (by kernel_rfl) ?q3__10 ?y3__10 (by assumption) ?_
    case h3__10 => (first | (simp only [gA, gB, gC]; done) | (simp only [gA, gB, gC]; exact rfl))
    case q3__10 => exact fun _ _ _ h => h
    case y3__10 => (refine Or.inl ⟨rfl, ?_⟩; intro w hSw; (first | rfl | (go_simp; (try with_reducible rfl))))
    (try simp only [Act.put, sA, sB, sC])
    refine wpAnyH_take (i := 11) (oi := ?o3__11) (v := .slice (some ⟨b, (off + 6), none⟩) 2 (cap - 6)) ?h3__11 (by kernel_rfl) (by kernel_rfl) (by kernel_rfl) ?q3__11 ?y3__11 (by assumption) ?_
    case h3__11 => (first | (simp only [gA, gB, gC]; done) | (simp only [gA, gB, gC]; exact rfl))
    case q3__11 => exact fun _ _ _ h => h
    case y3__11 => (refine Or.inl ⟨rfl, ?_⟩; intro w hSw; (go_simp; first | omega | (rw [if_pos (by omega), if_neg (by omega)])))
    (try simp only [Act.put, sA, sB, sC])
    refine wpAnyH_ready (rs := [6, 14]) (by kernel_rfl) (by simp) ?_
    refine AllReadyH.cons (o := ?o3__6b) ?h3__6b (fun K hK => ?g3__6b) (AllReadyH.cons (o := ?o3__14b) ?h3__14b (fun K hK => ?g3__14b) AllReadyH.nil)
    case h3__6b => (first | (simp only [gA, gB, gC]; done) | (simp only [gA, gB, gC]; exact rfl))
    case h3__14b => (first | (simp only [gA, gB, gC]; done) | (simp only [gA, gB, gC]; exact rfl))
    case g3__6b =>
      (try go_simp)
      refine (number2T _ _ (z zs 2) (z zs 3) _ (keep_bv hHeld.1 HV2.out)).mono ?_
      rintro e w' ⟨rfl, rfl⟩
      (try go_wp2_with fail)
      refine hK.out _ _ hHeld (fun hHeld2 => ?_)
      clear hK K hHeld2
      (try simp only [Act.put, sA, sB, sC])
      refine wpAnyH_ready (rs := [9, 14]) (by kernel_rfl) (by simp) ?_
      refine AllReadyH.cons (o := ?o3_b6_9b) ?h3_b6_9b (fun K hK => ?g3_b6_9b) (AllReadyH.cons (o := ?o3_b6_14b) ?h3_b6_14b (fun K hK => ?g3_b6_14b) AllReadyH.nil)
      case h3_b6_9b => (first | (simp only [gA, gB, gC]; done) | (simp only [gA, gB, gC]; exact rfl))
      case h3_b6_14b => (first | (simp only [gA, gB, gC]; done) | (simp only [gA, gB, gC]; exact rfl))
      case g3_b6_9b =>
        (try go_simp)
        refine (number2T _ _ (z zs 4) (z zs 5) _ (keep_bv hHeld.1 HV4.out)).mono ?_
        rintro e w' ⟨rfl, rfl⟩
        (try go_wp2_with fail)
        refine hK.out _ _ hHeld (fun hHeld2 => ?_)
        clear hK K hHeld2
        (try simp only [Act.put, sA, sB, sC])
        refine wpAnyH_ready (rs := [12, 14]) (by kernel_rfl) (by simp) ?_
        refine AllReadyH.cons (o := ?o3_b6b9_12b) ?h3_b6b9_12b (fun K hK => ?g3_b6b9_12b) (AllReadyH.cons (o := ?o3_b6b9_14b) ?h3_b6b9_14b (fun K hK => ?g3_b6b9_14b) AllReadyH.nil)
        case h3_b6b9_12b => (first | (simp only [gA, gB, gC]; done) | (simp only [gA, gB, gC]; exact rfl))
        case h3_b6b9_14b => (first | (simp only [gA, gB, gC]; done) | (simp only [gA, gB, gC]; exact rfl))
        case g3_b6b9_12b =>
          (try go_simp)
          refine (number2T _ _ (z zs 6) (z zs 7) _ (keep_bv hHeld.1 HV6.out)).mono ?_
          rintro e w' ⟨rfl, rfl⟩
          (try go_wp2_with fail)
          refine hK.out _ _ hHeld (fun hHeld2 => ?_)
          clear hK K hHeld2
          (try simp only [Act.put, sA, sB, sC])
          refine wpAnyH_take (i := 13) (oi := ?o3_b6b9b12_13) (v := .agg #[.int .i64 (z zs 1), .int .i64 (num2 (z zs 2) (z zs 3)), .int .i64 (num2 (z zs 4) (z zs 5)), .int .i64 (num2 (z zs 6) (z zs 7)), .bool false, .int .i64 0, .int .i64 0, .int .i64 0, .int .i64 0]) ?h3_b6b9b12_13 (by kernel_rfl) (by kernel_rfl) (by kernel_rfl) ?q3_b6b9b12_13 ?y3_b6b9b12_13 (by assumption) ?_
          case h3_b6b9b12_13 => (first | (simp only [gA, gB, gC]; done) | (simp only [gA, gB, gC]; exact rfl))
          case q3_b6b9b12_13 => exact fun _ _ _ h => h
          case y3_b6b9b12_13 => (refine Or.inl ⟨rfl, ?_⟩; intro w hSw; kernel_rfl)
          (try simp only [Act.put, sA, sB, sC])
          refine wpAnyH_ready (rs := [14]) (by kernel_rfl) (by simp) ?_
          refine AllReadyH.cons (o := ?o3_b6b9b12_14) ?h3_b6b9b12_14 (fun K hK => ?_) AllReadyH.nil
          case h3_b6b9b12_14 => (first | (simp only [gA, gB, gC]; done) | (simp only [gA, gB, gC]; exact rfl))
          rw [if_pos (by rfl)]
          refine wp_new (fun b => .pointer (some ⟨b, 0, none⟩)) 25 #[.int .i64 0, .int .i64 0, .int .i64 0, .int .i64 0, .bool false, .int .i64 0, .int .i64 0, .int .i64 0, .int .i64 0] (by rintro b rfl; first | rfl | kernel_rfl) ?_
          intro bn4 w2 hge hB hb
          refine hK.out _ _ (by (apply HRK.out; exact hb; exact hHeld)) (fun hHeld2 => ?_)
          have HNn4R := Lib.hid (show bn4 ≠ w.heap.size by have := Blk.lt (hHeld.2); (try simp at this); (try simp at hge); omega)
          have HGn4 := Lib.hid (show w.heap.size ≤ bn4 by have := Since.size hHeld.1; (try simp at this); (try simp at hge); omega)
          have HXn4 := Lib.hid hB
          clear hB
          clear hge
          clear hK K hHeld hb
          have hHeld := hHeld2
          clear hHeld2
          (try simp only [Act.put, sA, sB, sC])
          refine wpAnyH_ready (rs := [15]) (by kernel_rfl) (by simp) ?_
          refine AllReadyH.cons (o := ?o3_b6b9b12_15) ?h3_b6b9b12_15 (fun K hK => ?_) AllReadyH.nil
          case h3_b6b9b12_15 => (first | (simp only [gA, gB, gC]; done) | (simp only [gA, gB, gC]; exact rfl))
          rw [if_pos (by rfl)]
          refine wp_st_row 25 _ _ rfl #[.int .i64 (z zs 1), .int .i64 (num2 (z zs 2) (z zs 3)), .int .i64 (num2 (z zs 4) (z zs 5)), .int .i64 (num2 (z zs 6) (z zs 7)), .bool false, .int .i64 0, .int .i64 0, .int .i64 0, .int .i64 0] rfl rfl (HasRow.of HXn4.out rfl) rfl (by simp [pktC, msgC, Value.oneCell']) (by kernel_rfl) ?_
          intro w3 hw
          have HXn42 := Lib.hid (show Blk w3 bn4 25 #[.int .i64 (z zs 1), .int .i64 (num2 (z zs 2) (z zs 3)), .int .i64 (num2 (z zs 4) (z zs 5)), .int .i64 (num2 (z zs 6) (z zs 7)), .bool false, .int .i64 0, .int .i64 0, .int .i64 0, .int .i64 0] by rw [hw]; exact Blk.row HXn4.out _)
          have hHeld3 : (fun W : World => Since w W ∧ Blk W w.heap.size 25 #[.int .i64 0, .int .i64 0, .int .i64 0, .int .i64 0, .bool false, .int .i64 0, .int .i64 0, .int .i64 0, .int .i64 0]) w3 := ⟨by rw [hw]; exact Since.setRow hHeld.1 HGn4.out _, by rw [hw]; exact Blk.row_far (hHeld.2) (Ne.symm HNn4R.out) _⟩
          refine hK.out _ _ hHeld3 (fun hHeld2 => ?_)
          clear HXn4 hK K hHeld hHeld3 hw
          have hHeld := hHeld2
          clear hHeld2
          (try simp only [Act.put, sA, sB, sC])
          refine wpAnyH_done (by kernel_rfl) ?_ _
          have HSd3 := Lib.hid hHeld.1
          have HBRd3 := Lib.hid (hHeld.2)
          clear hHeld HRK HRD HS1 HBR1
          go_wp2_with fail
          go_meet
          case rel => exact Lib.hid ⟨bn4, rfl, HSd3.out, HBRd3.out, HXn42.out, HGn4.out, HNn4R.out⟩
        case g3_b6b9_14b =>
          rw [if_pos (by rfl)]
          refine wp_new (fun b => .pointer (some ⟨b, 0, none⟩)) 25 #[.int .i64 0, .int .i64 0, .int .i64 0, .int .i64 0, .bool false, .int .i64 0, .int .i64 0, .int .i64 0, .int .i64 0] (by rintro b rfl; first | rfl | kernel_rfl) ?_
          intro bn4 w2 hge hB hb
          refine hK.out _ _ (by (apply HRK.out; exact hb; exact hHeld)) (fun hHeld2 => ?_)
          have HNn4R := Lib.hid (show bn4 ≠ w.heap.size by have := Blk.lt (hHeld.2); (try simp at this); (try simp at hge); omega)
          have HGn4 := Lib.hid (show w.heap.size ≤ bn4 by have := Since.size hHeld.1; (try simp at this); (try simp at hge); omega)
          have HXn4 := Lib.hid hB
          clear hB
          clear hge
          clear hK K hHeld hb
          have hHeld := hHeld2
          clear hHeld2
          (try simp only [Act.put, sA, sB, sC])
          refine wpAnyH_ready (rs := [12]) (by kernel_rfl) (by simp) ?_
          refine AllReadyH.cons (o := ?o3_b6b9b14_12) ?h3_b6b9b14_12 (fun K hK => ?_) AllReadyH.nil
          case h3_b6b9b14_12 => (first | (simp only [gA, gB, gC]; done) | (simp only [gA, gB, gC]; exact rfl))
          (try go_simp)
          refine (number2T _ _ (z zs 6) (z zs 7) _ (keep_bv hHeld.1 HV6.out)).mono ?_
          rintro e w' ⟨rfl, rfl⟩
          (try go_wp2_with fail)
          refine hK.out _ _ hHeld (fun hHeld2 => ?_)
          clear hK K hHeld2
          (try simp only [Act.put, sA, sB, sC])
          refine wpAnyH_take (i := 13) (oi := ?o3_b6b9b14_13) (v := .agg #[.int .i64 (z zs 1), .int .i64 (num2 (z zs 2) (z zs 3)), .int .i64 (num2 (z zs 4) (z zs 5)), .int .i64 (num2 (z zs 6) (z zs 7)), .bool false, .int .i64 0, .int .i64 0, .int .i64 0, .int .i64 0]) ?h3_b6b9b14_13 (by kernel_rfl) (by kernel_rfl) (by kernel_rfl) ?q3_b6b9b14_13 ?y3_b6b9b14_13 (by assumption) ?_
          case h3_b6b9b14_13 => (first | (simp only [gA, gB, gC]; done) | (simp only [gA, gB, gC]; exact rfl))
          case q3_b6b9b14_13 => exact fun _ _ _ h => h
          case y3_b6b9b14_13 => (refine Or.inl ⟨rfl, ?_⟩; intro w hSw; kernel_rfl)
          (try simp only [Act.put, sA, sB, sC])
          refine wpAnyH_ready (rs := [15]) (by kernel_rfl) (by simp) ?_
          refine AllReadyH.cons (o := ?o3_b6b9b14_15) ?h3_b6b9b14_15 (fun K hK => ?_) AllReadyH.nil
          case h3_b6b9b14_15 => (first | (simp only [gA, gB, gC]; done) | (simp only [gA, gB, gC]; exact rfl))
          rw [if_pos (by rfl)]
          refine wp_st_row 25 _ _ rfl #[.int .i64 (z zs 1), .int .i64 (num2 (z zs 2) (z zs 3)), .int .i64 (num2 (z zs 4) (z zs 5)), .int .i64 (num2 (z zs 6) (z zs 7)), .bool false, .int .i64 0, .int .i64 0, .int .i64 0, .int .i64 0] rfl rfl (HasRow.of HXn4.out rfl) rfl (by simp [pktC, msgC, Value.oneCell']) (by kernel_rfl) ?_
          intro w3 hw
          have HXn42 := Lib.hid (show Blk w3 bn4 25 #[.int .i64 (z zs 1), .int .i64 (num2 (z zs 2) (z zs 3)), .int .i64 (num2 (z zs 4) (z zs 5)), .int .i64 (num2 (z zs 6) (z zs 7)), .bool false, .int .i64 0, .int .i64 0, .int .i64 0, .int .i64 0] by rw [hw]; exact Blk.row HXn4.out _)
          have hHeld3 : (fun W : World => Since w W ∧ Blk W w.heap.size 25 #[.int .i64 0, .int .i64 0, .int .i64 0, .int .i64 0, .bool false, .int .i64 0, .int .i64 0, .int .i64 0, .int .i64 0]) w3 := ⟨by rw [hw]; exact Since.setRow hHeld.1 HGn4.out _, by rw [hw]; exact Blk.row_far (hHeld.2) (Ne.symm HNn4R.out) _⟩
          refine hK.out _ _ hHeld3 (fun hHeld2 => ?_)
          clear HXn4 hK K hHeld hHeld3 hw
          have hHeld := hHeld2
          clear hHeld2
          (try simp only [Act.put, sA, sB, sC])
          refine wpAnyH_done (by kernel_rfl) ?_ _
          have HSd3 := Lib.hid hHeld.1
          have HBRd3 := Lib.hid (hHeld.2)
          clear hHeld HRK HRD HS1 HBR1
          go_wp2_with fail
          go_meet
          case rel => exact Lib.hid ⟨bn4, rfl, HSd3.out, HBRd3.out, HXn42.out, HGn4.out, HNn4R.out⟩
      case g3_b6_14b =>
        rw [if_pos (by rfl)]
        refine wp_new (fun b => .pointer (some ⟨b, 0, none⟩)) 25 #[.int .i64 0, .int .i64 0, .int .i64 0, .int .i64 0, .bool false, .int .i64 0, .int .i64 0, .int .i64 0, .int .i64 0] (by rintro b rfl; first | rfl | kernel_rfl) ?_
        intro bn4 w2 hge hB hb
        refine hK.out _ _ (by (apply HRK.out; exact hb; exact hHeld)) (fun hHeld2 => ?_)
        have HNn4R := Lib.hid (show bn4 ≠ w.heap.size by have := Blk.lt (hHeld.2); (try simp at this); (try simp at hge); omega)
        have HGn4 := Lib.hid (show w.heap.size ≤ bn4 by have := Since.size hHeld.1; (try simp at this); (try simp at hge); omega)
        have HXn4 := Lib.hid hB
        clear hB
        clear hge
        clear hK K hHeld hb
        have hHeld := hHeld2
        clear hHeld2
        (try simp only [Act.put, sA, sB, sC])
        refine wpAnyH_ready (rs := [9]) (by kernel_rfl) (by simp) ?_
        refine AllReadyH.cons (o := ?o3_b6b14_9) ?h3_b6b14_9 (fun K hK => ?_) AllReadyH.nil
        case h3_b6b14_9 => (first | (simp only [gA, gB, gC]; done) | (simp only [gA, gB, gC]; exact rfl))
        (try go_simp)
        refine (number2T _ _ (z zs 4) (z zs 5) _ (keep_bv hHeld.1 HV4.out)).mono ?_
        rintro e w' ⟨rfl, rfl⟩
        (try go_wp2_with fail)
        refine hK.out _ _ hHeld (fun hHeld2 => ?_)
        clear hK K hHeld2
        (try simp only [Act.put, sA, sB, sC])
        refine wpAnyH_ready (rs := [12]) (by kernel_rfl) (by simp) ?_
        refine AllReadyH.cons (o := ?o3_b6b14_12) ?h3_b6b14_12 (fun K hK => ?_) AllReadyH.nil
        case h3_b6b14_12 => (first | (simp only [gA, gB, gC]; done) | (simp only [gA, gB, gC]; exact rfl))
        (try go_simp)
        refine (number2T _ _ (z zs 6) (z zs 7) _ (keep_bv hHeld.1 HV6.out)).mono ?_
        rintro e w' ⟨rfl, rfl⟩
        (try go_wp2_with fail)
        refine hK.out _ _ hHeld (fun hHeld2 => ?_)
        clear hK K hHeld2
        (try simp only [Act.put, sA, sB, sC])
        refine wpAnyH_take (i := 13) (oi := ?o3_b6b14_13) (v := .agg #[.int .i64 (z zs 1), .int .i64 (num2 (z zs 2) (z zs 3)), .int .i64 (num2 (z zs 4) (z zs 5)), .int .i64 (num2 (z zs 6) (z zs 7)), .bool false, .int .i64 0, .int .i64 0, .int .i64 0, .int .i64 0]) ?h3_b6b14_13 (by kernel_rfl) (by kernel_rfl) (by kernel_rfl) ?q3_b6b14_13 ?y3_b6b14_13 (by assumption) ?_
        case h3_b6b14_13 => (first | (simp only [gA, gB, gC]; done) | (simp only [gA, gB, gC]; exact rfl))
        case q3_b6b14_13 => exact fun _ _ _ h => h
        case y3_b6b14_13 => (refine Or.inl ⟨rfl, ?_⟩; intro w hSw; kernel_rfl)
        (try simp only [Act.put, sA, sB, sC])
        refine wpAnyH_ready (rs := [15]) (by kernel_rfl) (by simp) ?_
        refine AllReadyH.cons (o := ?o3_b6b14_15) ?h3_b6b14_15 (fun K hK => ?_) AllReadyH.nil
        case h3_b6b14_15 => (first | (simp only [gA, gB, gC]; done) | (simp only [gA, gB, gC]; exact rfl))
        rw [if_pos (by rfl)]
        refine wp_st_row 25 _ _ rfl #[.int .i64 (z zs 1), .int .i64 (num2 (z zs 2) (z zs 3)), .int .i64 (num2 (z zs 4) (z zs 5)), .int .i64 (num2 (z zs 6) (z zs 7)), .bool false, .int .i64 0, .int .i64 0, .int .i64 0, .int .i64 0] rfl rfl (HasRow.of HXn4.out rfl) rfl (by simp [pktC, msgC, Value.oneCell']) (by kernel_rfl) ?_
        intro w3 hw
        have HXn42 := Lib.hid (show Blk w3 bn4 25 #[.int .i64 (z zs 1), .int .i64 (num2 (z zs 2) (z zs 3)), .int .i64 (num2 (z zs 4) (z zs 5)), .int .i64 (num2 (z zs 6) (z zs 7)), .bool false, .int .i64 0, .int .i64 0, .int .i64 0, .int .i64 0] by rw [hw]; exact Blk.row HXn4.out _)
        have hHeld3 : (fun W : World => Since w W ∧ Blk W w.heap.size 25 #[.int .i64 0, .int .i64 0, .int .i64 0, .int .i64 0, .bool false, .int .i64 0, .int .i64 0, .int .i64 0, .int .i64 0]) w3 := ⟨by rw [hw]; exact Since.setRow hHeld.1 HGn4.out _, by rw [hw]; exact Blk.row_far (hHeld.2) (Ne.symm HNn4R.out) _⟩
        refine hK.out _ _ hHeld3 (fun hHeld2 => ?_)
        clear HXn4 hK K hHeld hHeld3 hw
        have hHeld := hHeld2
        clear hHeld2
        (try simp only [Act.put, sA, sB, sC])
        refine wpAnyH_done (by kernel_rfl) ?_ _
        have HSd3 := Lib.hid hHeld.1
        have HBRd3 := Lib.hid (hHeld.2)
        clear hHeld HRK HRD HS1 HBR1
        go_wp2_with fail
        go_meet
        case rel => exact Lib.hid ⟨bn4, rfl, HSd3.out, HBRd3.out, HXn42.out, HGn4.out, HNn4R.out⟩
    case g3__14b =>
      rw [if_pos (by rfl)]
      refine wp_new (fun b => .pointer (some ⟨b, 0, none⟩)) 25 #[.int .i64 0, .int .i64 0, .int .i64 0, .int .i64 0, .bool false, .int .i64 0, .int .i64 0, .int .i64 0, .int .i64 0] (by rintro b rfl; first | rfl | kernel_rfl) ?_
      intro bn4 w2 hge hB hb
      refine hK.out _ _ (by (apply HRK.out; exact hb; exact hHeld)) (fun hHeld2 => ?_)
      have HNn4R := Lib.hid (show bn4 ≠ w.heap.size by have := Blk.lt (hHeld.2); (try simp at this); (try simp at hge); omega)
      have HGn4 := Lib.hid (show w.heap.size ≤ bn4 by have := Since.size hHeld.1; (try simp at this); (try simp at hge); omega)
      have HXn4 := Lib.hid hB
      clear hB
      clear hge
      clear hK K hHeld hb
      have hHeld := hHeld2
      clear hHeld2
      (try simp only [Act.put, sA, sB, sC])
      refine wpAnyH_ready (rs := [6]) (by kernel_rfl) (by simp) ?_
      refine AllReadyH.cons (o := ?o3_b14_6) ?h3_b14_6 (fun K hK => ?_) AllReadyH.nil
      case h3_b14_6 => (first | (simp only [gA, gB, gC]; done) | (simp only [gA, gB, gC]; exact rfl))
      (try go_simp)
      refine (number2T _ _ (z zs 2) (z zs 3) _ (keep_bv hHeld.1 HV2.out)).mono ?_
      rintro e w' ⟨rfl, rfl⟩
      (try go_wp2_with fail)
      refine hK.out _ _ hHeld (fun hHeld2 => ?_)
      clear hK K hHeld2
      (try simp only [Act.put, sA, sB, sC])
      refine wpAnyH_ready (rs := [9]) (by kernel_rfl) (by simp) ?_
      refine AllReadyH.cons (o := ?o3_b14_9) ?h3_b14_9 (fun K hK => ?_) AllReadyH.nil
      case h3_b14_9 => (first | (simp only [gA, gB, gC]; done) | (simp only [gA, gB, gC]; exact rfl))
      (try go_simp)
      refine (number2T _ _ (z zs 4) (z zs 5) _ (keep_bv hHeld.1 HV4.out)).mono ?_
      rintro e w' ⟨rfl, rfl⟩
      (try go_wp2_with fail)
      refine hK.out _ _ hHeld (fun hHeld2 => ?_)
      clear hK K hHeld2
      (try simp only [Act.put, sA, sB, sC])
      refine wpAnyH_ready (rs := [12]) (by kernel_rfl) (by simp) ?_
      refine AllReadyH.cons (o := ?o3_b14_12) ?h3_b14_12 (fun K hK => ?_) AllReadyH.nil
      case h3_b14_12 => (first | (simp only [gA, gB, gC]; done) | (simp only [gA, gB, gC]; exact rfl))
      (try go_simp)
      refine (number2T _ _ (z zs 6) (z zs 7) _ (keep_bv hHeld.1 HV6.out)).mono ?_
      rintro e w' ⟨rfl, rfl⟩
      (try go_wp2_with fail)
      refine hK.out _ _ hHeld (fun hHeld2 => ?_)
      clear hK K hHeld2
      (try simp only [Act.put, sA, sB, sC])
      refine wpAnyH_take (i := 13) (oi := ?o3_b14_13) (v := .agg #[.int .i64 (z zs 1), .int .i64 (num2 (z zs 2) (z zs 3)), .int .i64 (num2 (z zs 4) (z zs 5)), .int .i64 (num2 (z zs 6) (z zs 7)), .bool false, .int .i64 0, .int .i64 0, .int .i64 0, .int .i64 0]) ?h3_b14_13 (by kernel_rfl) (by kernel_rfl) (by kernel_rfl) ?q3_b14_13 ?y3_b14_13 (by assumption) ?_
      case h3_b14_13 => (first | (simp only [gA, gB, gC]; done) | (simp only [gA, gB, gC]; exact rfl))
      case q3_b14_13 => exact fun _ _ _ h => h
      case y3_b14_13 => (refine Or.inl ⟨rfl, ?_⟩; intro w hSw; kernel_rfl)
      (try simp only [Act.put, sA, sB, sC])
      refine wpAnyH_ready (rs := [15]) (by kernel_rfl) (by simp) ?_
      refine AllReadyH.cons (o := ?o3_b14_15) ?h3_b14_15 (fun K hK => ?_) AllReadyH.nil
      case h3_b14_15 => (first | (simp only [gA, gB, gC]; done) | (simp only [gA, gB, gC]; exact rfl))
      rw [if_pos (by rfl)]
      refine wp_st_row 25 _ _ rfl #[.int .i64 (z zs 1), .int .i64 (num2 (z zs 2) (z zs 3)), .int .i64 (num2 (z zs 4) (z zs 5)), .int .i64 (num2 (z zs 6) (z zs 7)), .bool false, .int .i64 0, .int .i64 0, .int .i64 0, .int .i64 0] rfl rfl (HasRow.of HXn4.out rfl) rfl (by simp [pktC, msgC, Value.oneCell']) (by kernel_rfl) ?_
      intro w3 hw
      have HXn42 := Lib.hid (show Blk w3 bn4 25 #[.int .i64 (z zs 1), .int .i64 (num2 (z zs 2) (z zs 3)), .int .i64 (num2 (z zs 4) (z zs 5)), .int .i64 (num2 (z zs 6) (z zs 7)), .bool false, .int .i64 0, .int .i64 0, .int .i64 0, .int .i64 0] by rw [hw]; exact Blk.row HXn4.out _)
      have hHeld3 : (fun W : World => Since w W ∧ Blk W w.heap.size 25 #[.int .i64 0, .int .i64 0, .int .i64 0, .int .i64 0, .bool false, .int .i64 0, .int .i64 0, .int .i64 0, .int .i64 0]) w3 := ⟨by rw [hw]; exact Since.setRow hHeld.1 HGn4.out _, by rw [hw]; exact Blk.row_far (hHeld.2) (Ne.symm HNn4R.out) _⟩
      refine hK.out _ _ hHeld3 (fun hHeld2 => ?_)
      clear HXn4 hK K hHeld hHeld3 hw
      have hHeld := hHeld2
      clear hHeld2
      (try simp only [Act.put, sA, sB, sC])
      refine wpAnyH_done (by kernel_rfl) ?_ _
      have HSd3 := Lib.hid hHeld.1
      have HBRd3 := Lib.hid (hHeld.2)
      clear hHeld HRK HRD HS1 HBR1
      go_wp2_with fail
      go_meet
      case rel => exact Lib.hid ⟨bn4, rfl, HSd3.out, HBRd3.out, HXn42.out, HGn4.out, HNn4R.out⟩
  case rest =>
    clear HS1 HBR1
    obtain ⟨bn4, rfl, g0, g1, g2, g3, g4⟩ := hcut.out
    clear hcut
    have HS51 := Lib.hid g0
    have HBR51 := Lib.hid g1
    have HBn451 := Lib.hid g2
    have HGn4 := Lib.hid g3
    have HNn4R := Lib.hid g4
    clear g0 g1 g2 g3 g4
    go_upto_region 4 with fail
    refine wp_region_lit ?_
    refine wpList_q (by rfl) (.slice (some ⟨b, off, none⟩) 21 cap) ?he ?_
    case he => (first | rfl | (go_simp; (try with_reducible rfl)))
    (try simp only [Act.put, sA, sB, sC])
    refine wpList_q (by rfl) (.int .i64 21) ?he ?_
    case he => (go_simp; (try with_reducible rfl))
    (try simp only [Act.put, sA, sB, sC])
    refine wpList_q (by rfl) (.bool false) ?he ?_
    case he => (go_simp; (try with_reducible rfl))
    (try simp only [Act.put, sA, sB, sC])
    refine wpList_nil ?_
    go_upto_region 6 with fail
    refine wp_region_lit ?_
    refine wpList_q (by rfl) (.pointer (some ⟨bn4, 4, none⟩)) ?he ?_
    case he => (first | rfl | (go_simp; (try with_reducible rfl)))
    (try simp only [Act.put, sA, sB, sC])
    refine wpList_wp (by rfl) (fun K hK => ?_)
    refine wp_st_cell 4 _ _ rfl #[.int .i64 (z zs 1), .int .i64 (num2 (z zs 2) (z zs 3)), .int .i64 (num2 (z zs 4) (z zs 5)), .int .i64 (num2 (z zs 6) (z zs 7)), .bool true, .int .i64 0, .int .i64 0, .int .i64 0, .int .i64 0] (.bool true) rfl rfl HBn451.out (by show 4 < 9; decide) rfl (by first | rfl | simp [Value.oneCell']) (by kernel_rfl) ?_
    intro w52 hw
    refine hK.out _ _ ?_
    clear hK K
    (try simp only [Act.put, sA, sB, sC])
    have HS52 := Lib.hid (show Since w w52 by rw [hw]; exact Since.setRow HS51.out HGn4.out _)
    have HBR52 := Lib.hid (show Blk w52 w.heap.size 25 #[.int .i64 0, .int .i64 0, .int .i64 0, .int .i64 0, .bool false, .int .i64 0, .int .i64 0, .int .i64 0, .int .i64 0] by rw [hw]; exact Blk.row_far HBR51.out (Ne.symm HNn4R.out) _)
    have HBn452 := Lib.hid (show Blk w52 bn4 25 #[.int .i64 (z zs 1), .int .i64 (num2 (z zs 2) (z zs 3)), .int .i64 (num2 (z zs 4) (z zs 5)), .int .i64 (num2 (z zs 6) (z zs 7)), .bool true, .int .i64 0, .int .i64 0, .int .i64 0, .int .i64 0] by rw [hw]; exact Blk.row HBn451.out _)
    clear hw HS51 HBR51 HBn451
    refine wpList_nil ?_
    go_upto_region 7 with fail
    have hrK : ∀ W W' : World, Since W W' → (Since w W ∧ Blk W w.heap.size 25 #[.int .i64 0, .int .i64 0, .int .i64 0, .int .i64 0, .bool false, .int .i64 0, .int .i64 0, .int .i64 0, .int .i64 0] ∧ HasRow W bn4 25 9) → (Since w W' ∧ Blk W' w.heap.size 25 #[.int .i64 0, .int .i64 0, .int .i64 0, .int .i64 0, .bool false, .int .i64 0, .int .i64 0, .int .i64 0, .int .i64 0] ∧ HasRow W' bn4 25 9) := fun W W' k ⟨h, h0, h1⟩ => ⟨h.trans k, keep_blk k h0, HasRow.keep k h1⟩
    have hrS : (fun W : World => Since w W ∧ Blk W w.heap.size 25 #[.int .i64 0, .int .i64 0, .int .i64 0, .int .i64 0, .bool false, .int .i64 0, .int .i64 0, .int .i64 0, .int .i64 0] ∧ HasRow W bn4 25 9) w52 := ⟨HS52.out, HBR52.out, HasRow.of HBn452.out rfl⟩
    have HRK := Lib.hid hrK
    have HRD := Lib.hid (show (fun W : World => Since w W ∧ Blk W w.heap.size 25 #[.int .i64 0, .int .i64 0, .int .i64 0, .int .i64 0, .bool false, .int .i64 0, .int .i64 0, .int .i64 0, .int .i64 0] ∧ HasRow W bn4 25 9) (World.drew w52) from ⟨Since.drew hrS.1, hrS.2⟩)
    clear hrK hrS
    have HPn4 := Lib.hid (show Blk (World.drew w52) bn4 25 #[.int .i64 (z zs 1), .int .i64 (num2 (z zs 2) (z zs 3)), .int .i64 (num2 (z zs 4) (z zs 5)), .int .i64 (num2 (z zs 6) (z zs 7)), .bool true, .int .i64 0, .int .i64 0, .int .i64 0, .int .i64 0] from HBn452.out)
    refine wp_region_held_drew (S := fun W : World => Since w W ∧ Blk W w.heap.size 25 #[.int .i64 0, .int .i64 0, .int .i64 0, .int .i64 0, .bool false, .int .i64 0, .int .i64 0, .int .i64 0, .int .i64 0] ∧ HasRow W bn4 25 9) (by kernel_rfl) HRD.out (fun hHeld => ?_)
    refine wpAnyH_take (i := 0) (oi := ?o7__0) (v := .slice (some ⟨b, off, none⟩) 21 cap) ?h7__0 (by kernel_rfl) (by kernel_rfl) (by kernel_rfl) ?q7__0 ?y7__0 (by assumption) ?_
    case h7__0 => (first | (simp only [gA, gB, gC]; done) | (simp only [gA, gB, gC]; exact rfl))
    case q7__0 => exact fun _ _ _ h => h
    case y7__0 => (refine Or.inl ⟨rfl, ?_⟩; intro w hSw; (first | rfl | (go_simp; (try with_reducible rfl))))
    (try simp only [Act.put, sA, sB, sC])
    refine wpAnyH_take (i := 1) (oi := ?o7__1) (v := .pointer (some ⟨b, (off + 8), none⟩)) ?h7__1 (by kernel_rfl) (by kernel_rfl) (by kernel_rfl) ?q7__1 ?y7__1 (by assumption) ?_
    case h7__1 => (first | (simp only [gA, gB, gC]; done) | (simp only [gA, gB, gC]; exact rfl))
    case q7__1 => exact fun _ _ _ h => h
    case y7__1 => (refine Or.inl ⟨rfl, ?_⟩; intro w hSw; (first | rfl | (go_simp; (try with_reducible rfl))))
    (try simp only [Act.put, sA, sB, sC])
    refine wpAnyH_take (i := 2) (oi := ?o7__2) (v := .int .u8 (z zs 8)) ?h7__2 (by kernel_rfl) (by kernel_rfl) (by kernel_rfl) ?q7__2 ?y7__2 (by assumption) ?_
    case h7__2 => (first | (simp only [gA, gB, gC]; done) | (simp only [gA, gB, gC]; exact rfl))
    case q7__2 => exact fun _ _ _ h => h
    case y7__2 => (refine Or.inl ⟨rfl, ?_⟩; intro w hSw; exact exec_at 5 _ _ (keep_cell hSw.1 (HC.out 8 (by omega))) rfl rfl Tryd.underlying5 rfl)
    (try simp only [Act.put, sA, sB, sC])
    refine wpAnyH_take (i := 3) (oi := ?o7__3) (v := .int .i64 (z zs 8)) ?h7__3 (by kernel_rfl) (by kernel_rfl) (by kernel_rfl) ?q7__3 ?y7__3 (by assumption) ?_
    case h7__3 => (first | (simp only [gA, gB, gC]; done) | (simp only [gA, gB, gC]; exact rfl))
    case q7__3 => exact fun _ _ _ h => h
    case y7__3 => (refine Or.inl ⟨rfl, ?_⟩; intro w hSw; (have q := HI8.out; go_simp; exact wr64 _ (by omega) (by omega)))
    (try simp only [Act.put, sA, sB, sC])
    refine wpAnyH_take (i := 4) (oi := ?o7__4) (v := .slice (some ⟨b, off, none⟩) 21 cap) ?h7__4 (by kernel_rfl) (by kernel_rfl) (by kernel_rfl) ?q7__4 ?y7__4 (by assumption) ?_
    case h7__4 => (first | (simp only [gA, gB, gC]; done) | (simp only [gA, gB, gC]; exact rfl))
    case q7__4 => exact fun _ _ _ h => h
    case y7__4 => (refine Or.inl ⟨rfl, ?_⟩; intro w hSw; (first | rfl | (go_simp; (try with_reducible rfl))))
    (try simp only [Act.put, sA, sB, sC])
    refine wpAnyH_take (i := 5) (oi := ?o7__5) (v := .slice (some ⟨b, (off + 9), none⟩) 4 (cap - 9)) ?h7__5 (by kernel_rfl) (by kernel_rfl) (by kernel_rfl) ?q7__5 ?y7__5 (by assumption) ?_
    case h7__5 => (first | (simp only [gA, gB, gC]; done) | (simp only [gA, gB, gC]; exact rfl))
    case q7__5 => exact fun _ _ _ h => h
    case y7__5 => (refine Or.inl ⟨rfl, ?_⟩; intro w hSw; (go_simp; first | omega | (rw [if_pos (by omega), if_neg (by omega)])))
    (try simp only [Act.put, sA, sB, sC])
    refine wpAnyH_take (i := 7) (oi := ?o7__7) (v := .slice (some ⟨b, off, none⟩) 21 cap) ?h7__7 (by kernel_rfl) (by kernel_rfl) (by kernel_rfl) ?q7__7 ?y7__7 (by assumption) ?_
    case h7__7 => (first | (simp only [gA, gB, gC]; done) | (simp only [gA, gB, gC]; exact rfl))
    case q7__7 => exact fun _ _ _ h => h
    case y7__7 => (refine Or.inl ⟨rfl, ?_⟩; intro w hSw; (first | rfl | (go_simp; (try with_reducible rfl))))
    (try simp only [Act.put, sA, sB, sC])
    refine wpAnyH_take (i := 8) (oi := ?o7__8) (v := .slice (some ⟨b, (off + 13), none⟩) 4 (cap - 13)) ?h7__8 (by kernel_rfl) (by kernel_rfl) (by kernel_rfl) ?q7__8 ?y7__8 (by assumption) ?_
    case h7__8 => (first | (simp only [gA, gB, gC]; done) | (simp only [gA, gB, gC]; exact rfl))
    case q7__8 => exact fun _ _ _ h => h
    case y7__8 => (refine Or.inl ⟨rfl, ?_⟩; intro w hSw; (go_simp; first | omega | (rw [if_pos (by omega), if_neg (by omega)])))
    (try simp only [Act.put, sA, sB, sC])
    refine wpAnyH_take (i := 10) (oi := ?o7__10) (v := .slice (some ⟨b, off, none⟩) 21 cap) ?h7__10 (by kernel_rfl) (by kernel_rfl) (by kernel_rfl) ?q7__10 ?y7__10 (by assumption) ?_
    case h7__10 => (first | (simp only [gA, gB, gC]; done) | (simp only [gA, gB, gC]; exact rfl))
    case q7__10 => exact fun _ _ _ h => h
    case y7__10 => (refine Or.inl ⟨rfl, ?_⟩; intro w hSw; (first | rfl | (go_simp; (try with_reducible rfl))))
    (try simp only [Act.put, sA, sB, sC])
    refine wpAnyH_take (i := 11) (oi := ?o7__11) (v := .slice (some ⟨b, (off + 17), none⟩) 4 (cap - 17)) ?h7__11 (by kernel_rfl) (by kernel_rfl) (by kernel_rfl) ?q7__11 ?y7__11 (by assumption) ?_
    case h7__11 => (first | (simp only [gA, gB, gC]; done) | (simp only [gA, gB, gC]; exact rfl))
    case q7__11 => exact fun _ _ _ h => h
    case y7__11 => (refine Or.inl ⟨rfl, ?_⟩; intro w hSw; (go_simp; first | omega | (rw [if_pos (by omega), if_neg (by omega)])))
    (try simp only [Act.put, sA, sB, sC])
    refine wpAnyH_ready (rs := [6]) (by kernel_rfl) (by simp) ?_
    refine AllReadyH.cons (o := ?o7__6) ?h7__6 (fun K hK => ?_) AllReadyH.nil
    case h7__6 => (first | (simp only [gA, gB, gC]; done) | (simp only [gA, gB, gC]; exact rfl))
    (try go_simp)
    refine (number4T _ _ (z zs 9) (z zs 10) (z zs 11) (z zs 12) _ (keep_bv hHeld.1 HV9.out)).mono ?_
    rintro e w' ⟨rfl, rfl⟩
    (try go_wp2_with fail)
    refine hK.out _ _ hHeld (fun hHeld2 => ?_)
    clear hK K hHeld2
    (try simp only [Act.put, sA, sB, sC])
    refine wpAnyH_ready (rs := [9]) (by kernel_rfl) (by simp) ?_
    refine AllReadyH.cons (o := ?o7__9) ?h7__9 (fun K hK => ?_) AllReadyH.nil
    case h7__9 => (first | (simp only [gA, gB, gC]; done) | (simp only [gA, gB, gC]; exact rfl))
    (try go_simp)
    refine (number4T _ _ (z zs 13) (z zs 14) (z zs 15) (z zs 16) _ (keep_bv hHeld.1 HV13.out)).mono ?_
    rintro e w' ⟨rfl, rfl⟩
    (try go_wp2_with fail)
    refine hK.out _ _ hHeld (fun hHeld2 => ?_)
    clear hK K hHeld2
    (try simp only [Act.put, sA, sB, sC])
    refine wpAnyH_ready (rs := [12]) (by kernel_rfl) (by simp) ?_
    refine AllReadyH.cons (o := ?o7__12) ?h7__12 (fun K hK => ?_) AllReadyH.nil
    case h7__12 => (first | (simp only [gA, gB, gC]; done) | (simp only [gA, gB, gC]; exact rfl))
    (try go_simp)
    refine (number4T _ _ (z zs 17) (z zs 18) (z zs 19) (z zs 20) _ (keep_bv hHeld.1 HV17.out)).mono ?_
    rintro e w' ⟨rfl, rfl⟩
    (try go_wp2_with fail)
    refine hK.out _ _ hHeld (fun hHeld2 => ?_)
    clear hK K hHeld2
    (try simp only [Act.put, sA, sB, sC])
    refine wpAnyH_take (i := 13) (oi := ?o7__13) (v := .agg #[.int .i64 (z zs 8), .int .i64 (num4 (z zs 9) (z zs 10) (z zs 11) (z zs 12)), .int .i64 (num4 (z zs 13) (z zs 14) (z zs 15) (z zs 16)), .int .i64 (num4 (z zs 17) (z zs 18) (z zs 19) (z zs 20))]) ?h7__13 (by kernel_rfl) (by kernel_rfl) (by kernel_rfl) ?q7__13 ?y7__13 (by assumption) ?_
    case h7__13 => (first | (simp only [gA, gB, gC]; done) | (simp only [gA, gB, gC]; exact rfl))
    case q7__13 => exact fun _ _ _ h => h
    case y7__13 => (refine Or.inl ⟨rfl, ?_⟩; intro w hSw; kernel_rfl)
    (try simp only [Act.put, sA, sB, sC])
    refine wpAnyH_take (i := 14) (oi := ?o7__14) (v := .pointer (some ⟨bn4, 5, none⟩)) ?h7__14 (by kernel_rfl) (by kernel_rfl) (by kernel_rfl) ?q7__14 ?y7__14 (by assumption) ?_
    case h7__14 => (first | (simp only [gA, gB, gC]; done) | (simp only [gA, gB, gC]; exact rfl))
    case q7__14 => exact fun _ _ _ h => h
    case y7__14 => (refine Or.inl ⟨rfl, ?_⟩; intro w hSw; (first | rfl | (go_simp; (try with_reducible rfl))))
    (try simp only [Act.put, sA, sB, sC])
    refine wpAnyH_ready (rs := [15]) (by kernel_rfl) (by simp) ?_
    refine AllReadyH.cons (o := ?o7__15) ?h7__15 (fun K hK => ?_) AllReadyH.nil
    case h7__15 => (first | (simp only [gA, gB, gC]; done) | (simp only [gA, gB, gC]; exact rfl))
    rw [if_pos (by rfl)]
    refine wp_st_part 23 _ _ rfl #[.int .i64 (z zs 1), .int .i64 (num2 (z zs 2) (z zs 3)), .int .i64 (num2 (z zs 4) (z zs 5)), .int .i64 (num2 (z zs 6) (z zs 7)), .bool true, .int .i64 (z zs 8), .int .i64 (num4 (z zs 9) (z zs 10) (z zs 11) (z zs 12)), .int .i64 (num4 (z zs 13) (z zs 14) (z zs 15) (z zs 16)), .int .i64 (num4 (z zs 17) (z zs 18) (z zs 19) (z zs 20))] (#[.int .i64 (z zs 8), .int .i64 (num4 (z zs 9) (z zs 10) (z zs 11) (z zs 12)), .int .i64 (num4 (z zs 13) (z zs 14) (z zs 15) (z zs 16)), .int .i64 (num4 (z zs 17) (z zs 18) (z zs 19) (z zs 20))]) rfl rfl HPn4.out (Nat.le_of_ble_eq_true rfl) rfl (by simp [pktC, msgC, Value.oneCell']) (by kernel_rfl) ?_
    clear HPn4
    intro w53 hw
    have HRn4 := Lib.hid (show Blk w53 bn4 25 #[.int .i64 (z zs 1), .int .i64 (num2 (z zs 2) (z zs 3)), .int .i64 (num2 (z zs 4) (z zs 5)), .int .i64 (num2 (z zs 6) (z zs 7)), .bool true, .int .i64 (z zs 8), .int .i64 (num4 (z zs 9) (z zs 10) (z zs 11) (z zs 12)), .int .i64 (num4 (z zs 13) (z zs 14) (z zs 15) (z zs 16)), .int .i64 (num4 (z zs 17) (z zs 18) (z zs 19) (z zs 20))] by obtain ⟨old, Bo, _⟩ := hHeld.2.2; rw [hw]; exact Blk.row Bo _)
    have hHeld3 : (fun W : World => Since w W ∧ Blk W w.heap.size 25 #[.int .i64 0, .int .i64 0, .int .i64 0, .int .i64 0, .bool false, .int .i64 0, .int .i64 0, .int .i64 0, .int .i64 0] ∧ HasRow W bn4 25 9) w53 := ⟨by rw [hw]; exact Since.setRow hHeld.1 HGn4.out _, by rw [hw]; exact Blk.row_far (hHeld.2.1) (Ne.symm HNn4R.out) _, HasRow.of HRn4.out rfl⟩
    refine hK.out _ _ hHeld3 (fun hHeld2 => ?_)
    clear hK K hHeld hHeld3 hw
    have hHeld := hHeld2
    clear hHeld2
    (try simp only [Act.put, sA, sB, sC])
    refine wpAnyH_done (by kernel_rfl) ?_ _
    have HSd7 := Lib.hid hHeld.1
    have HBRd7 := Lib.hid (hHeld.2.1)
    have HBn4d7 := Lib.hid HRn4.out
    clear HRn4
    clear hHeld HRK HRD HS52 HBR52 HBn452
    go_upto_region 8 with fail
    refine wp_region_lit ?_
    refine wpList_q (by rfl) (.pointer (some ⟨bn4, 5, none⟩)) ?he ?_
    case he => (first | rfl | (go_simp; (try with_reducible rfl)))
    (try simp only [Act.put, sA, sB, sC])
    refine wpList_q (by rfl) (.pointer (some ⟨bn4, 5, none⟩)) ?he ?_
    case he => (first | rfl | (go_simp; (try with_reducible rfl)))
    (try simp only [Act.put, sA, sB, sC])
    refine wpList_q (by rfl) (.int .i64 (z zs 8)) ?he ?_
    case he => exact exec_cell 3 _ _ HBn4d7.out rfl rfl rfl Tryd.underlying3 rfl
    (try simp only [Act.put, sA, sB, sC])
    refine wpList_wp (by rfl) (fun K hK => ?_)
    (try go_simp)
    refine (knownB (z zs 8) true _ HK.out).mono ?_
    rintro e w' ⟨rfl, rfl⟩
    (try go_wp2_with fail)
    refine hK.out _ _ ?_
    clear hK K
    (try simp only [Act.put, sA, sB, sC])
    refine wpList_q (by rfl) (.bool false) ?he ?_
    case he => (go_simp; (try with_reducible rfl))
    (try simp only [Act.put, sA, sB, sC])
    refine wpList_nil ?_
    go_upto_region 10 with fail
    refine wp_region_lit ?_
    refine wpList_q (by rfl) (.agg #[.int .i64 (z zs 1), .int .i64 (num2 (z zs 2) (z zs 3)), .int .i64 (num2 (z zs 4) (z zs 5)), .int .i64 (num2 (z zs 6) (z zs 7)), .bool true, .int .i64 (z zs 8), .int .i64 (num4 (z zs 9) (z zs 10) (z zs 11) (z zs 12)), .int .i64 (num4 (z zs 13) (z zs 14) (z zs 15) (z zs 16)), .int .i64 (num4 (z zs 17) (z zs 18) (z zs 19) (z zs 20))]) ?he ?_
    case he => exact exec_load_row 25 _ _ HBn4d7.out rfl rfl Tryd.underlying25 rfl (by kernel_rfl)
    (try simp only [Act.put, sA, sB, sC])
    refine wpList_wp (by rfl) (fun K hK => ?_)
    (try go_simp)
    refine (goodV (bodyP zs) false _ HG.out).mono ?_
    rintro e w54 ⟨rfl, hb⟩
    (try go_wp2_with fail)
    refine hK.out _ _ ?_
    clear hK K
    (try simp only [Act.put, sA, sB, sC])
    have HS54 := Lib.hid (Since.trans HSd7.out hb)
    have HBR54 := Lib.hid (keep_blk hb HBRd7.out)
    have HBn454 := Lib.hid (keep_blk hb HBn4d7.out)
    clear HSd7 HBRd7 HBn4d7
    clear hb
    refine wpList_q (by rfl) (.bool true) ?he ?_
    case he => (go_simp; (try with_reducible rfl))
    (try simp only [Act.put, sA, sB, sC])
    refine wpList_nil ?_
    go_upto_region 11 with fail
    refine wp_region_lit ?_
    refine wpList_q (by rfl) (.agg #[.int .i64 0, .int .i64 0, .int .i64 0, .int .i64 0, .bool false, .int .i64 0, .int .i64 0, .int .i64 0, .int .i64 0]) ?he ?_
    case he => kernel_rfl
    (try simp only [Act.put, sA, sB, sC])
    refine wpList_wp (by rfl) (fun K hK => ?_)
    refine wp_st_row 25 _ _ rfl #[.int .i64 0, .int .i64 0, .int .i64 0, .int .i64 0, .bool false, .int .i64 0, .int .i64 0, .int .i64 0, .int .i64 0] rfl rfl (HasRow.of HBR54.out rfl) rfl (by simp [pktC, msgC, Value.oneCell']) (by kernel_rfl) ?_
    intro w55 hw
    refine hK.out _ _ ?_
    clear hK K
    (try simp only [Act.put, sA, sB, sC])
    have HS55 := Lib.hid (show Since w w55 by rw [hw]; exact Since.setRow HS54.out (by have := HNE3.out; omega) _)
    have HBR55 := Lib.hid (show Blk w55 w.heap.size 25 #[.int .i64 0, .int .i64 0, .int .i64 0, .int .i64 0, .bool false, .int .i64 0, .int .i64 0, .int .i64 0, .int .i64 0] by rw [hw]; exact Blk.row HBR54.out _)
    have HBn455 := Lib.hid (show Blk w55 bn4 25 #[.int .i64 (z zs 1), .int .i64 (num2 (z zs 2) (z zs 3)), .int .i64 (num2 (z zs 4) (z zs 5)), .int .i64 (num2 (z zs 6) (z zs 7)), .bool true, .int .i64 (z zs 8), .int .i64 (num4 (z zs 9) (z zs 10) (z zs 11) (z zs 12)), .int .i64 (num4 (z zs 13) (z zs 14) (z zs 15) (z zs 16)), .int .i64 (num4 (z zs 17) (z zs 18) (z zs 19) (z zs 20))] by rw [hw]; exact Blk.row_far HBn454.out HNn4R.out _)
    clear hw HS54 HBR54 HBn454
    refine wpList_q (by rfl) (.int .i64 2) ?he ?_
    case he => (first | rfl | (go_simp; (try with_reducible rfl)))
    (try simp only [Act.put, sA, sB, sC])
    refine wpList_nil ?_
    (try go_wp2_with fail)
    exact bodyPost_ret (results_row2 rfl _ _ w.heap.size 25 #[.int .i64 0, .int .i64 0, .int .i64 0, .int .i64 0, .bool false, .int .i64 0, .int .i64 0, .int .i64 0, .int .i64 0] _ (.int .i64 2) rfl rfl HBR55.out Tryd.underlying25 rfl (by kernel_rfl)) rfl ⟨rfl, HS55.out⟩
set_option maxHeartbeats 4000000 in
theorem getG (b off cap : Nat) (zs : List Int) (w : World) (h : BV w (some ⟨b, off, none⟩) 21 zs) (hcp : 21 ≤ cap) (hz : z zs 0 = 1) (hk : decide (1 ≤ z zs 8 ∧ z zs 8 ≤ 16) = true) (hg : mayB (bodyP zs) = true) : Calls Tryd.prog 11 #[.slice (some ⟨b, off, none⟩) 21 cap] w fun e w' => e = .returned (.tuple #[.agg (pktC (bodyP zs)), .int .i64 0]) ∧ Since w w' := by
  have hl : zs.length = 21 := h.1
  obtain ⟨b', off', he, hlt, hcell⟩ := h.addr (by omega)
  obtain ⟨rfl, rfl⟩ : b = b' ∧ off = off' := by simp only [Option.some.injEq, Addr.mk.injEq, and_true] at he; exact he
  have HC := Lib.hid hcell
  have hci : (21 : Int) ≤ (cap : Int) := by omega
  have HV2 := Lib.hid (bv_part (i := 2) (m := 2) h (by omega) (part2 (by omega)))
  have HV4 := Lib.hid (bv_part (i := 4) (m := 2) h (by omega) (part2 (by omega)))
  have HV6 := Lib.hid (bv_part (i := 6) (m := 2) h (by omega) (part2 (by omega)))
  have HV9 := Lib.hid (bv_part (i := 9) (m := 4) h (by omega) (part4 (by omega)))
  have HV13 := Lib.hid (bv_part (i := 13) (m := 4) h (by omega) (part4 (by omega)))
  have HV17 := Lib.hid (bv_part (i := 17) (m := 4) h (by omega) (part4 (by omega)))
  have HI1 := Lib.hid (z_isB h.2.2.1 1)
  have HI8 := Lib.hid (z_isB h.2.2.1 8)
  clear he hlt hcell hl h
  have HZ := Lib.hid hz
  clear hz
  have HK := Lib.hid hk
  clear hk
  have HG := Lib.hid hg
  clear hg
  go_enter Tryd.func11, Tryd.ntmps11
  go_upto_region 1 with fail
  obtain ⟨w1, hw1⟩ : ∃ w1, w1 = (w.alloc (.cells #[.int .i64 0, .int .i64 0, .int .i64 0, .int .i64 0, .bool false, .int .i64 0, .int .i64 0, .int .i64 0, .int .i64 0] 25)) := ⟨_, rfl⟩
  rw [← hw1]
  have HBR1 := Lib.hid (show Blk w1 (w.heap.size) 25 #[.int .i64 0, .int .i64 0, .int .i64 0, .int .i64 0, .bool false, .int .i64 0, .int .i64 0, .int .i64 0, .int .i64 0] by rw [hw1]; exact Blk.at_ (by (try simp only [size_alloc])) _ _)
  have HS1 := Lib.hid (show Since w w1 by rw [hw1]; exact Since.alloc (Since.refl w) _)
  have hNE : w.heap.size ≤ w.heap.size := by omega
  have HNE := Lib.hid hNE
  clear hNE hw1
  have HNE3 := Lib.hid (show w.heap.size ≤ w.heap.size from HNE.out)
  clear HNE
  refine wp_region_lit ?_
  refine wpList_q (by rfl) (.slice (some ⟨b, off, none⟩) 21 cap) ?he ?_
  case he => (first | rfl | (go_simp; (try with_reducible rfl)))
  (try simp only [Act.put, sA, sB, sC])
  refine wpList_q (by rfl) (.int .i64 21) ?he ?_
  case he => (go_simp; (try with_reducible rfl))
  (try simp only [Act.put, sA, sB, sC])
  refine wpList_q (by rfl) (.bool true) ?he ?_
  case he => (go_simp; (try with_reducible rfl))
  (try simp only [Act.put, sA, sB, sC])
  refine wpList_q (by rfl) (.bool true) ?he ?_
  case he => (first | rfl | (go_simp; (try with_reducible rfl)))
  (try simp only [Act.put, sA, sB, sC])
  refine wpList_q (by rfl) (.slice (some ⟨b, off, none⟩) 21 cap) ?he ?_
  case he => (first | rfl | (go_simp; (try with_reducible rfl)))
  (try simp only [Act.put, sA, sB, sC])
  refine wpList_q (by rfl) (.int .i64 21) ?he ?_
  case he => (go_simp; (try with_reducible rfl))
  (try simp only [Act.put, sA, sB, sC])
  refine wpList_q (by rfl) (.bool false) ?he ?_
  case he => (go_simp; (try with_reducible rfl))
  (try simp only [Act.put, sA, sB, sC])
  refine wpList_q (by rfl) (.bool false) ?he ?_
  case he => (first | rfl | (go_simp; (try with_reducible rfl)))
  (try simp only [Act.put, sA, sB, sC])
  refine wpList_q (by rfl) (.bool false) ?he ?_
  case he => (first | rfl | (go_simp; (try with_reducible rfl)))
  (try simp only [Act.put, sA, sB, sC])
  refine wpList_q (by rfl) (.slice (some ⟨b, off, none⟩) 21 cap) ?he ?_
  case he => (first | rfl | (go_simp; (try with_reducible rfl)))
  (try simp only [Act.put, sA, sB, sC])
  refine wpList_q (by rfl) (.pointer (some ⟨b, off, none⟩)) ?he ?_
  case he => (first | rfl | (go_simp; (try with_reducible rfl)))
  (try simp only [Act.put, sA, sB, sC])
  refine wpList_q (by rfl) (.int .u8 (z zs 0)) ?he ?_
  case he => exact exec_at 5 _ _ (keep_cell HS1.out (HC.out 0 (by omega))) rfl rfl Tryd.underlying5 rfl
  (try simp only [Act.put, sA, sB, sC])
  refine wpList_q (by rfl) (.bool false) ?he ?_
  case he => (go_simp; (first | done | (have q := HZ.out; omega)))
  (try simp only [Act.put, sA, sB, sC])
  refine wpList_q (by rfl) (.bool false) ?he ?_
  case he => (first | rfl | (go_simp; (try with_reducible rfl)))
  (try simp only [Act.put, sA, sB, sC])
  refine wpList_nil ?_
  go_upto_region 3 with fail
  go_cut [4] (fun s4 wx => Hid (∃ bn4 : Nat, s4 = .pointer (some ⟨bn4, 0, none⟩) ∧ Since w wx ∧ Blk wx w.heap.size 25 #[.int .i64 0, .int .i64 0, .int .i64 0, .int .i64 0, .bool false, .int .i64 0, .int .i64 0, .int .i64 0, .int .i64 0] ∧ Blk wx bn4 25 #[.int .i64 (z zs 1), .int .i64 (num2 (z zs 2) (z zs 3)), .int .i64 (num2 (z zs 4) (z zs 5)), .int .i64 (num2 (z zs 6) (z zs 7)), .bool false, .int .i64 0, .int .i64 0, .int .i64 0, .int .i64 0] ∧ w.heap.size ≤ bn4 ∧ bn4 ≠ w.heap.size))
  case first =>
    have hrK : ∀ W W' : World, Since W W' → (Since w W ∧ Blk W w.heap.size 25 #[.int .i64 0, .int .i64 0, .int .i64 0, .int .i64 0, .bool false, .int .i64 0, .int .i64 0, .int .i64 0, .int .i64 0]) → (Since w W' ∧ Blk W' w.heap.size 25 #[.int .i64 0, .int .i64 0, .int .i64 0, .int .i64 0, .bool false, .int .i64 0, .int .i64 0, .int .i64 0, .int .i64 0]) := fun W W' k ⟨h, h0⟩ => ⟨h.trans k, keep_blk k h0⟩
    have hrS : (fun W : World => Since w W ∧ Blk W w.heap.size 25 #[.int .i64 0, .int .i64 0, .int .i64 0, .int .i64 0, .bool false, .int .i64 0, .int .i64 0, .int .i64 0, .int .i64 0]) w1 := ⟨HS1.out, HBR1.out⟩
    have HRK := Lib.hid hrK
    have HRD := Lib.hid (show (fun W : World => Since w W ∧ Blk W w.heap.size 25 #[.int .i64 0, .int .i64 0, .int .i64 0, .int .i64 0, .bool false, .int .i64 0, .int .i64 0, .int .i64 0, .int .i64 0]) (World.drew w1) from ⟨Since.drew hrS.1, hrS.2⟩)
    clear hrK hrS
    refine wp_region_held_drew (S := fun W : World => Since w W ∧ Blk W w.heap.size 25 #[.int .i64 0, .int .i64 0, .int .i64 0, .int .i64 0, .bool false, .int .i64 0, .int .i64 0, .int .i64 0, .int .i64 0]) (by kernel_rfl) HRD.out (fun hHeld => ?_)
    refine wpAnyH_take (i := 0) (oi := ?o3__0) (v := .slice (some ⟨b, off, none⟩) 21 cap) ?h3__0 (by kernel_rfl) (by kernel_rfl) (by kernel_rfl) ?q3__0 ?y3__0 (by assumption) ?_
    case h3__0 => (first | (simp only [gA, gB, gC]; done) | (simp only [gA, gB, gC]; exact rfl))
    case q3__0 => exact fun _ _ _ h => h
    case y3__0 => (refine Or.inl ⟨rfl, ?_⟩; intro w hSw; (first | rfl | (go_simp; (try with_reducible rfl))))
    (try simp only [Act.put, sA, sB, sC])
    refine wpAnyH_take (i := 1) (oi := ?o3__1) (v := .pointer (some ⟨b, (off + 1), none⟩)) ?h3__1 (by kernel_rfl) (by kernel_rfl) (by kernel_rfl) ?q3__1 ?y3__1 (by assumption) ?_
    case h3__1 => (first | (simp only [gA, gB, gC]; done) | (simp only [gA, gB, gC]; exact rfl))
    case q3__1 => exact fun _ _ _ h => h
    case y3__1 => (refine Or.inl ⟨rfl, ?_⟩; intro w hSw; (first | rfl | (go_simp; (try with_reducible rfl))))
    (try simp only [Act.put, sA, sB, sC])
    refine wpAnyH_take (i := 2) (oi := ?o3__2) (v := .int .u8 (z zs 1)) ?h3__2 (by kernel_rfl) (by kernel_rfl) (by kernel_rfl) ?q3__2 ?y3__2 (by assumption) ?_
    case h3__2 => (first | (simp only [gA, gB, gC]; done) | (simp only [gA, gB, gC]; exact rfl))
    case q3__2 => exact fun _ _ _ h => h
    case y3__2 => (refine Or.inl ⟨rfl, ?_⟩; intro w hSw; exact exec_at 5 _ _ (keep_cell hSw.1 (HC.out 1 (by omega))) rfl rfl Tryd.underlying5 rfl)
    (try simp only [Act.put, sA, sB, sC])
    refine wpAnyH_take (i := 3) (oi := ?o3__3) (v := .int .i64 (z zs 1)) ?h3__3 (by kernel_rfl) (by kernel_rfl) (by kernel_rfl) ?q3__3 ?y3__3 (by assumption) ?_
    case h3__3 => (first | (simp only [gA, gB, gC]; done) | (simp only [gA, gB, gC]; exact rfl))
    case q3__3 => exact fun _ _ _ h => h
    case y3__3 => (refine Or.inl ⟨rfl, ?_⟩; intro w hSw; (have q := HI1.out; go_simp; exact wr64 _ (by omega) (by omega)))
    (try simp only [Act.put, sA, sB, sC])
    refine wpAnyH_take (i := 4) (oi := ?o3__4) (v := .slice (some ⟨b, off, none⟩) 21 cap) ?h3__4 (by kernel_rfl) (by kernel_rfl) (by kernel_rfl) ?q3__4 ?y3__4 (by assumption) ?_
    case h3__4 => (first | (simp only [gA, gB, gC]; done) | (simp only [gA, gB, gC]; exact rfl))
    case q3__4 => exact fun _ _ _ h => h
    case y3__4 => (refine Or.inl ⟨rfl, ?_⟩; intro w hSw; (first | rfl | (go_simp; (try with_reducible rfl))))
    (try simp only [Act.put, sA, sB, sC])
    refine wpAnyH_take (i := 5) (oi := ?o3__5) (v := .slice (some ⟨b, (off + 2), none⟩) 2 (cap - 2)) ?h3__5 (by kernel_rfl) (by kernel_rfl) (by kernel_rfl) ?q3__5 ?y3__5 (by assumption) ?_
    case h3__5 => (first | (simp only [gA, gB, gC]; done) | (simp only [gA, gB, gC]; exact rfl))
    case q3__5 => exact fun _ _ _ h => h
    case y3__5 => (refine Or.inl ⟨rfl, ?_⟩; intro w hSw; (go_simp; first | omega | (rw [if_pos (by omega), if_neg (by omega)])))
    (try simp only [Act.put, sA, sB, sC])
    refine wpAnyH_take (i := 7) (oi := ?o3__7) (v := .slice (some ⟨b, off, none⟩) 21 cap) ?h3__7 (by kernel_rfl) (by kernel_rfl) (by kernel_rfl) ?q3__7 ?y3__7 (by assumption) ?_
    case h3__7 => (first | (simp only [gA, gB, gC]; done) | (simp only [gA, gB, gC]; exact rfl))
    case q3__7 => exact fun _ _ _ h => h
    case y3__7 => (refine Or.inl ⟨rfl, ?_⟩; intro w hSw; (first | rfl | (go_simp; (try with_reducible rfl))))
    (try simp only [Act.put, sA, sB, sC])
    refine wpAnyH_take (i := 8) (oi := ?o3__8) (v := .slice (some ⟨b, (off + 4), none⟩) 2 (cap - 4)) ?h3__8 (by kernel_rfl) (by kernel_rfl) (by kernel_rfl) ?q3__8 ?y3__8 (by assumption) ?_
    case h3__8 => (first | (simp only [gA, gB, gC]; done) | (simp only [gA, gB, gC]; exact rfl))
    case q3__8 => exact fun _ _ _ h => h
    case y3__8 => (refine Or.inl ⟨rfl, ?_⟩; intro w hSw; (go_simp; first | omega | (rw [if_pos (by omega), if_neg (by omega)])))
    (try simp only [Act.put, sA, sB, sC])
    refine wpAnyH_take (i := 10) (oi := ?o3__10) (v := .slice (some ⟨b, off, none⟩) 21 cap) ?h3__10 (by kernel_rfl) (by kernel_rfl) (by kernel_rfl) ?q3__10 ?y3__10 (by assumption) ?_
    case h3__10 => (first | (simp only [gA, gB, gC]; done) | (simp only [gA, gB, gC]; exact rfl))
    case q3__10 => exact fun _ _ _ h => h
    case y3__10 => (refine Or.inl ⟨rfl, ?_⟩; intro w hSw; (first | rfl | (go_simp; (try with_reducible rfl))))
    (try simp only [Act.put, sA, sB, sC])
    refine wpAnyH_take (i := 11) (oi := ?o3__11) (v := .slice (some ⟨b, (off + 6), none⟩) 2 (cap - 6)) ?h3__11 (by kernel_rfl) (by kernel_rfl) (by kernel_rfl) ?q3__11 ?y3__11 (by assumption) ?_
    case h3__11 => (first | (simp only [gA, gB, gC]; done) | (simp only [gA, gB, gC]; exact rfl))
    case q3__11 => exact fun _ _ _ h => h
    case y3__11 => (refine Or.inl ⟨rfl, ?_⟩; intro w hSw; (go_simp; first | omega | (rw [if_pos (by omega), if_neg (by omega)])))
    (try simp only [Act.put, sA, sB, sC])
    refine wpAnyH_ready (rs := [6, 14]) (by kernel_rfl) (by simp) ?_
    refine AllReadyH.cons (o := ?o3__6b) ?h3__6b (fun K hK => ?g3__6b) (AllReadyH.cons (o := ?o3__14b) ?h3__14b (fun K hK => ?g3__14b) AllReadyH.nil)
    case h3__6b => (first | (simp only [gA, gB, gC]; done) | (simp only [gA, gB, gC]; exact rfl))
    case h3__14b => (first | (simp only [gA, gB, gC]; done) | (simp only [gA, gB, gC]; exact rfl))
    case g3__6b =>
      (try go_simp)
      refine (number2T _ _ (z zs 2) (z zs 3) _ (keep_bv hHeld.1 HV2.out)).mono ?_
      rintro e w' ⟨rfl, rfl⟩
      (try go_wp2_with fail)
      refine hK.out _ _ hHeld (fun hHeld2 => ?_)
      clear hK K hHeld2
      (try simp only [Act.put, sA, sB, sC])
      refine wpAnyH_ready (rs := [9, 14]) (by kernel_rfl) (by simp) ?_
      refine AllReadyH.cons (o := ?o3_b6_9b) ?h3_b6_9b (fun K hK => ?g3_b6_9b) (AllReadyH.cons (o := ?o3_b6_14b) ?h3_b6_14b (fun K hK => ?g3_b6_14b) AllReadyH.nil)
      case h3_b6_9b => (first | (simp only [gA, gB, gC]; done) | (simp only [gA, gB, gC]; exact rfl))
      case h3_b6_14b => (first | (simp only [gA, gB, gC]; done) | (simp only [gA, gB, gC]; exact rfl))
      case g3_b6_9b =>
        (try go_simp)
        refine (number2T _ _ (z zs 4) (z zs 5) _ (keep_bv hHeld.1 HV4.out)).mono ?_
        rintro e w' ⟨rfl, rfl⟩
        (try go_wp2_with fail)
        refine hK.out _ _ hHeld (fun hHeld2 => ?_)
        clear hK K hHeld2
        (try simp only [Act.put, sA, sB, sC])
        refine wpAnyH_ready (rs := [12, 14]) (by kernel_rfl) (by simp) ?_
        refine AllReadyH.cons (o := ?o3_b6b9_12b) ?h3_b6b9_12b (fun K hK => ?g3_b6b9_12b) (AllReadyH.cons (o := ?o3_b6b9_14b) ?h3_b6b9_14b (fun K hK => ?g3_b6b9_14b) AllReadyH.nil)
        case h3_b6b9_12b => (first | (simp only [gA, gB, gC]; done) | (simp only [gA, gB, gC]; exact rfl))
        case h3_b6b9_14b => (first | (simp only [gA, gB, gC]; done) | (simp only [gA, gB, gC]; exact rfl))
        case g3_b6b9_12b =>
          (try go_simp)
          refine (number2T _ _ (z zs 6) (z zs 7) _ (keep_bv hHeld.1 HV6.out)).mono ?_
          rintro e w' ⟨rfl, rfl⟩
          (try go_wp2_with fail)
          refine hK.out _ _ hHeld (fun hHeld2 => ?_)
          clear hK K hHeld2
          (try simp only [Act.put, sA, sB, sC])
          refine wpAnyH_take (i := 13) (oi := ?o3_b6b9b12_13) (v := .agg #[.int .i64 (z zs 1), .int .i64 (num2 (z zs 2) (z zs 3)), .int .i64 (num2 (z zs 4) (z zs 5)), .int .i64 (num2 (z zs 6) (z zs 7)), .bool false, .int .i64 0, .int .i64 0, .int .i64 0, .int .i64 0]) ?h3_b6b9b12_13 (by kernel_rfl) (by kernel_rfl) (by kernel_rfl) ?q3_b6b9b12_13 ?y3_b6b9b12_13 (by assumption) ?_
          case h3_b6b9b12_13 => (first | (simp only [gA, gB, gC]; done) | (simp only [gA, gB, gC]; exact rfl))
          case q3_b6b9b12_13 => exact fun _ _ _ h => h
          case y3_b6b9b12_13 => (refine Or.inl ⟨rfl, ?_⟩; intro w hSw; kernel_rfl)
          (try simp only [Act.put, sA, sB, sC])
          refine wpAnyH_ready (rs := [14]) (by kernel_rfl) (by simp) ?_
          refine AllReadyH.cons (o := ?o3_b6b9b12_14) ?h3_b6b9b12_14 (fun K hK => ?_) AllReadyH.nil
          case h3_b6b9b12_14 => (first | (simp only [gA, gB, gC]; done) | (simp only [gA, gB, gC]; exact rfl))
          rw [if_pos (by rfl)]
          refine wp_new (fun b => .pointer (some ⟨b, 0, none⟩)) 25 #[.int .i64 0, .int .i64 0, .int .i64 0, .int .i64 0, .bool false, .int .i64 0, .int .i64 0, .int .i64 0, .int .i64 0] (by rintro b rfl; first | rfl | kernel_rfl) ?_
          intro bn4 w2 hge hB hb
          refine hK.out _ _ (by (apply HRK.out; exact hb; exact hHeld)) (fun hHeld2 => ?_)
          have HNn4R := Lib.hid (show bn4 ≠ w.heap.size by have := Blk.lt (hHeld.2); (try simp at this); (try simp at hge); omega)
          have HGn4 := Lib.hid (show w.heap.size ≤ bn4 by have := Since.size hHeld.1; (try simp at this); (try simp at hge); omega)
          have HXn4 := Lib.hid hB
          clear hB
          clear hge
          clear hK K hHeld hb
          have hHeld := hHeld2
          clear hHeld2
          (try simp only [Act.put, sA, sB, sC])
          refine wpAnyH_ready (rs := [15]) (by kernel_rfl) (by simp) ?_
          refine AllReadyH.cons (o := ?o3_b6b9b12_15) ?h3_b6b9b12_15 (fun K hK => ?_) AllReadyH.nil
          case h3_b6b9b12_15 => (first | (simp only [gA, gB, gC]; done) | (simp only [gA, gB, gC]; exact rfl))
          rw [if_pos (by rfl)]
          refine wp_st_row 25 _ _ rfl #[.int .i64 (z zs 1), .int .i64 (num2 (z zs 2) (z zs 3)), .int .i64 (num2 (z zs 4) (z zs 5)), .int .i64 (num2 (z zs 6) (z zs 7)), .bool false, .int .i64 0, .int .i64 0, .int .i64 0, .int .i64 0] rfl rfl (HasRow.of HXn4.out rfl) rfl (by simp [pktC, msgC, Value.oneCell']) (by kernel_rfl) ?_
          intro w3 hw
          have HXn42 := Lib.hid (show Blk w3 bn4 25 #[.int .i64 (z zs 1), .int .i64 (num2 (z zs 2) (z zs 3)), .int .i64 (num2 (z zs 4) (z zs 5)), .int .i64 (num2 (z zs 6) (z zs 7)), .bool false, .int .i64 0, .int .i64 0, .int .i64 0, .int .i64 0] by rw [hw]; exact Blk.row HXn4.out _)
          have hHeld3 : (fun W : World => Since w W ∧ Blk W w.heap.size 25 #[.int .i64 0, .int .i64 0, .int .i64 0, .int .i64 0, .bool false, .int .i64 0, .int .i64 0, .int .i64 0, .int .i64 0]) w3 := ⟨by rw [hw]; exact Since.setRow hHeld.1 HGn4.out _, by rw [hw]; exact Blk.row_far (hHeld.2) (Ne.symm HNn4R.out) _⟩
          refine hK.out _ _ hHeld3 (fun hHeld2 => ?_)
          clear HXn4 hK K hHeld hHeld3 hw
          have hHeld := hHeld2
          clear hHeld2
          (try simp only [Act.put, sA, sB, sC])
          refine wpAnyH_done (by kernel_rfl) ?_ _
          have HSd3 := Lib.hid hHeld.1
          have HBRd3 := Lib.hid (hHeld.2)
          clear hHeld HRK HRD HS1 HBR1
          go_wp2_with fail
          go_meet
          case rel => exact Lib.hid ⟨bn4, rfl, HSd3.out, HBRd3.out, HXn42.out, HGn4.out, HNn4R.out⟩
        case g3_b6b9_14b =>
          rw [if_pos (by rfl)]
          refine wp_new (fun b => .pointer (some ⟨b, 0, none⟩)) 25 #[.int .i64 0, .int .i64 0, .int .i64 0, .int .i64 0, .bool false, .int .i64 0, .int .i64 0, .int .i64 0, .int .i64 0] (by rintro b rfl; first | rfl | kernel_rfl) ?_
          intro bn4 w2 hge hB hb
          refine hK.out _ _ (by (apply HRK.out; exact hb; exact hHeld)) (fun hHeld2 => ?_)
          have HNn4R := Lib.hid (show bn4 ≠ w.heap.size by have := Blk.lt (hHeld.2); (try simp at this); (try simp at hge); omega)
          have HGn4 := Lib.hid (show w.heap.size ≤ bn4 by have := Since.size hHeld.1; (try simp at this); (try simp at hge); omega)
          have HXn4 := Lib.hid hB
          clear hB
          clear hge
          clear hK K hHeld hb
          have hHeld := hHeld2
          clear hHeld2
          (try simp only [Act.put, sA, sB, sC])
          refine wpAnyH_ready (rs := [12]) (by kernel_rfl) (by simp) ?_
          refine AllReadyH.cons (o := ?o3_b6b9b14_12) ?h3_b6b9b14_12 (fun K hK => ?_) AllReadyH.nil
          case h3_b6b9b14_12 => (first | (simp only [gA, gB, gC]; done) | (simp only [gA, gB, gC]; exact rfl))
          (try go_simp)
          refine (number2T _ _ (z zs 6) (z zs 7) _ (keep_bv hHeld.1 HV6.out)).mono ?_
          rintro e w' ⟨rfl, rfl⟩
          (try go_wp2_with fail)
          refine hK.out _ _ hHeld (fun hHeld2 => ?_)
          clear hK K hHeld2
          (try simp only [Act.put, sA, sB, sC])
          refine wpAnyH_take (i := 13) (oi := ?o3_b6b9b14_13) (v := .agg #[.int .i64 (z zs 1), .int .i64 (num2 (z zs 2) (z zs 3)), .int .i64 (num2 (z zs 4) (z zs 5)), .int .i64 (num2 (z zs 6) (z zs 7)), .bool false, .int .i64 0, .int .i64 0, .int .i64 0, .int .i64 0]) ?h3_b6b9b14_13 (by kernel_rfl) (by kernel_rfl) (by kernel_rfl) ?q3_b6b9b14_13 ?y3_b6b9b14_13 (by assumption) ?_
          case h3_b6b9b14_13 => (first | (simp only [gA, gB, gC]; done) | (simp only [gA, gB, gC]; exact rfl))
          case q3_b6b9b14_13 => exact fun _ _ _ h => h
          case y3_b6b9b14_13 => (refine Or.inl ⟨rfl, ?_⟩; intro w hSw; kernel_rfl)
          (try simp only [Act.put, sA, sB, sC])
          refine wpAnyH_ready (rs := [15]) (by kernel_rfl) (by simp) ?_
          refine AllReadyH.cons (o := ?o3_b6b9b14_15) ?h3_b6b9b14_15 (fun K hK => ?_) AllReadyH.nil
          case h3_b6b9b14_15 => (first | (simp only [gA, gB, gC]; done) | (simp only [gA, gB, gC]; exact rfl))
          rw [if_pos (by rfl)]
          refine wp_st_row 25 _ _ rfl #[.int .i64 (z zs 1), .int .i64 (num2 (z zs 2) (z zs 3)), .int .i64 (num2 (z zs 4) (z zs 5)), .int .i64 (num2 (z zs 6) (z zs 7)), .bool false, .int .i64 0, .int .i64 0, .int .i64 0, .int .i64 0] rfl rfl (HasRow.of HXn4.out rfl) rfl (by simp [pktC, msgC, Value.oneCell']) (by kernel_rfl) ?_
          intro w3 hw
          have HXn42 := Lib.hid (show Blk w3 bn4 25 #[.int .i64 (z zs 1), .int .i64 (num2 (z zs 2) (z zs 3)), .int .i64 (num2 (z zs 4) (z zs 5)), .int .i64 (num2 (z zs 6) (z zs 7)), .bool false, .int .i64 0, .int .i64 0, .int .i64 0, .int .i64 0] by rw [hw]; exact Blk.row HXn4.out _)
          have hHeld3 : (fun W : World => Since w W ∧ Blk W w.heap.size 25 #[.int .i64 0, .int .i64 0, .int .i64 0, .int .i64 0, .bool false, .int .i64 0, .int .i64 0, .int .i64 0, .int .i64 0]) w3 := ⟨by rw [hw]; exact Since.setRow hHeld.1 HGn4.out _, by rw [hw]; exact Blk.row_far (hHeld.2) (Ne.symm HNn4R.out) _⟩
          refine hK.out _ _ hHeld3 (fun hHeld2 => ?_)
          clear HXn4 hK K hHeld hHeld3 hw
          have hHeld := hHeld2
          clear hHeld2
          (try simp only [Act.put, sA, sB, sC])
          refine wpAnyH_done (by kernel_rfl) ?_ _
          have HSd3 := Lib.hid hHeld.1
          have HBRd3 := Lib.hid (hHeld.2)
          clear hHeld HRK HRD HS1 HBR1
          go_wp2_with fail
          go_meet
          case rel => exact Lib.hid ⟨bn4, rfl, HSd3.out, HBRd3.out, HXn42.out, HGn4.out, HNn4R.out⟩
      case g3_b6_14b =>
        rw [if_pos (by rfl)]
        refine wp_new (fun b => .pointer (some ⟨b, 0, none⟩)) 25 #[.int .i64 0, .int .i64 0, .int .i64 0, .int .i64 0, .bool false, .int .i64 0, .int .i64 0, .int .i64 0, .int .i64 0] (by rintro b rfl; first | rfl | kernel_rfl) ?_
        intro bn4 w2 hge hB hb
        refine hK.out _ _ (by (apply HRK.out; exact hb; exact hHeld)) (fun hHeld2 => ?_)
        have HNn4R := Lib.hid (show bn4 ≠ w.heap.size by have := Blk.lt (hHeld.2); (try simp at this); (try simp at hge); omega)
        have HGn4 := Lib.hid (show w.heap.size ≤ bn4 by have := Since.size hHeld.1; (try simp at this); (try simp at hge); omega)
        have HXn4 := Lib.hid hB
        clear hB
        clear hge
        clear hK K hHeld hb
        have hHeld := hHeld2
        clear hHeld2
        (try simp only [Act.put, sA, sB, sC])
        refine wpAnyH_ready (rs := [9]) (by kernel_rfl) (by simp) ?_
        refine AllReadyH.cons (o := ?o3_b6b14_9) ?h3_b6b14_9 (fun K hK => ?_) AllReadyH.nil
        case h3_b6b14_9 => (first | (simp only [gA, gB, gC]; done) | (simp only [gA, gB, gC]; exact rfl))
        (try go_simp)
        refine (number2T _ _ (z zs 4) (z zs 5) _ (keep_bv hHeld.1 HV4.out)).mono ?_
        rintro e w' ⟨rfl, rfl⟩
        (try go_wp2_with fail)
        refine hK.out _ _ hHeld (fun hHeld2 => ?_)
        clear hK K hHeld2
        (try simp only [Act.put, sA, sB, sC])
        refine wpAnyH_ready (rs := [12]) (by kernel_rfl) (by simp) ?_
        refine AllReadyH.cons (o := ?o3_b6b14_12) ?h3_b6b14_12 (fun K hK => ?_) AllReadyH.nil
        case h3_b6b14_12 => (first | (simp only [gA, gB, gC]; done) | (simp only [gA, gB, gC]; exact rfl))
        (try go_simp)
        refine (number2T _ _ (z zs 6) (z zs 7) _ (keep_bv hHeld.1 HV6.out)).mono ?_
        rintro e w' ⟨rfl, rfl⟩
        (try go_wp2_with fail)
        refine hK.out _ _ hHeld (fun hHeld2 => ?_)
        clear hK K hHeld2
        (try simp only [Act.put, sA, sB, sC])
        refine wpAnyH_take (i := 13) (oi := ?o3_b6b14_13) (v := .agg #[.int .i64 (z zs 1), .int .i64 (num2 (z zs 2) (z zs 3)), .int .i64 (num2 (z zs 4) (z zs 5)), .int .i64 (num2 (z zs 6) (z zs 7)), .bool false, .int .i64 0, .int .i64 0, .int .i64 0, .int .i64 0]) ?h3_b6b14_13 (by kernel_rfl) (by kernel_rfl) (by kernel_rfl) ?q3_b6b14_13 ?y3_b6b14_13 (by assumption) ?_
        case h3_b6b14_13 => (first | (simp only [gA, gB, gC]; done) | (simp only [gA, gB, gC]; exact rfl))
        case q3_b6b14_13 => exact fun _ _ _ h => h
        case y3_b6b14_13 => (refine Or.inl ⟨rfl, ?_⟩; intro w hSw; kernel_rfl)
        (try simp only [Act.put, sA, sB, sC])
        refine wpAnyH_ready (rs := [15]) (by kernel_rfl) (by simp) ?_
        refine AllReadyH.cons (o := ?o3_b6b14_15) ?h3_b6b14_15 (fun K hK => ?_) AllReadyH.nil
        case h3_b6b14_15 => (first | (simp only [gA, gB, gC]; done) | (simp only [gA, gB, gC]; exact rfl))
        rw [if_pos (by rfl)]
        refine wp_st_row 25 _ _ rfl #[.int .i64 (z zs 1), .int .i64 (num2 (z zs 2) (z zs 3)), .int .i64 (num2 (z zs 4) (z zs 5)), .int .i64 (num2 (z zs 6) (z zs 7)), .bool false, .int .i64 0, .int .i64 0, .int .i64 0, .int .i64 0] rfl rfl (HasRow.of HXn4.out rfl) rfl (by simp [pktC, msgC, Value.oneCell']) (by kernel_rfl) ?_
        intro w3 hw
        have HXn42 := Lib.hid (show Blk w3 bn4 25 #[.int .i64 (z zs 1), .int .i64 (num2 (z zs 2) (z zs 3)), .int .i64 (num2 (z zs 4) (z zs 5)), .int .i64 (num2 (z zs 6) (z zs 7)), .bool false, .int .i64 0, .int .i64 0, .int .i64 0, .int .i64 0] by rw [hw]; exact Blk.row HXn4.out _)
        have hHeld3 : (fun W : World => Since w W ∧ Blk W w.heap.size 25 #[.int .i64 0, .int .i64 0, .int .i64 0, .int .i64 0, .bool false, .int .i64 0, .int .i64 0, .int .i64 0, .int .i64 0]) w3 := ⟨by rw [hw]; exact Since.setRow hHeld.1 HGn4.out _, by rw [hw]; exact Blk.row_far (hHeld.2) (Ne.symm HNn4R.out) _⟩
        refine hK.out _ _ hHeld3 (fun hHeld2 => ?_)
        clear HXn4 hK K hHeld hHeld3 hw
        have hHeld := hHeld2
        clear hHeld2
        (try simp only [Act.put, sA, sB, sC])
        refine wpAnyH_done (by kernel_rfl) ?_ _
        have HSd3 := Lib.hid hHeld.1
        have HBRd3 := Lib.hid (hHeld.2)
        clear hHeld HRK HRD HS1 HBR1
        go_wp2_with fail
        go_meet
        case rel => exact Lib.hid ⟨bn4, rfl, HSd3.out, HBRd3.out, HXn42.out, HGn4.out, HNn4R.out⟩
    case g3__14b =>
      rw [if_pos (by rfl)]
      refine wp_new (fun b => .pointer (some ⟨b, 0, none⟩)) 25 #[.int .i64 0, .int .i64 0, .int .i64 0, .int .i64 0, .bool false, .int .i64 0, .int .i64 0, .int .i64 0, .int .i64 0] (by rintro b rfl; first | rfl | kernel_rfl) ?_
      intro bn4 w2 hge hB hb
      refine hK.out _ _ (by (apply HRK.out; exact hb; exact hHeld)) (fun hHeld2 => ?_)
      have HNn4R := Lib.hid (show bn4 ≠ w.heap.size by have := Blk.lt (hHeld.2); (try simp at this); (try simp at hge); omega)
      have HGn4 := Lib.hid (show w.heap.size ≤ bn4 by have := Since.size hHeld.1; (try simp at this); (try simp at hge); omega)
      have HXn4 := Lib.hid hB
      clear hB
      clear hge
      clear hK K hHeld hb
      have hHeld := hHeld2
      clear hHeld2
      (try simp only [Act.put, sA, sB, sC])
      refine wpAnyH_ready (rs := [6]) (by kernel_rfl) (by simp) ?_
      refine AllReadyH.cons (o := ?o3_b14_6) ?h3_b14_6 (fun K hK => ?_) AllReadyH.nil
      case h3_b14_6 => (first | (simp only [gA, gB, gC]; done) | (simp only [gA, gB, gC]; exact rfl))
      (try go_simp)
      refine (number2T _ _ (z zs 2) (z zs 3) _ (keep_bv hHeld.1 HV2.out)).mono ?_
      rintro e w' ⟨rfl, rfl⟩
      (try go_wp2_with fail)
      refine hK.out _ _ hHeld (fun hHeld2 => ?_)
      clear hK K hHeld2
      (try simp only [Act.put, sA, sB, sC])
      refine wpAnyH_ready (rs := [9]) (by kernel_rfl) (by simp) ?_
      refine AllReadyH.cons (o := ?o3_b14_9) ?h3_b14_9 (fun K hK => ?_) AllReadyH.nil
      case h3_b14_9 => (first | (simp only [gA, gB, gC]; done) | (simp only [gA, gB, gC]; exact rfl))
      (try go_simp)
      refine (number2T _ _ (z zs 4) (z zs 5) _ (keep_bv hHeld.1 HV4.out)).mono ?_
      rintro e w' ⟨rfl, rfl⟩
      (try go_wp2_with fail)
      refine hK.out _ _ hHeld (fun hHeld2 => ?_)
      clear hK K hHeld2
      (try simp only [Act.put, sA, sB, sC])
      refine wpAnyH_ready (rs := [12]) (by kernel_rfl) (by simp) ?_
      refine AllReadyH.cons (o := ?o3_b14_12) ?h3_b14_12 (fun K hK => ?_) AllReadyH.nil
      case h3_b14_12 => (first | (simp only [gA, gB, gC]; done) | (simp only [gA, gB, gC]; exact rfl))
      (try go_simp)
      refine (number2T _ _ (z zs 6) (z zs 7) _ (keep_bv hHeld.1 HV6.out)).mono ?_
      rintro e w' ⟨rfl, rfl⟩
      (try go_wp2_with fail)
      refine hK.out _ _ hHeld (fun hHeld2 => ?_)
      clear hK K hHeld2
      (try simp only [Act.put, sA, sB, sC])
      refine wpAnyH_take (i := 13) (oi := ?o3_b14_13) (v := .agg #[.int .i64 (z zs 1), .int .i64 (num2 (z zs 2) (z zs 3)), .int .i64 (num2 (z zs 4) (z zs 5)), .int .i64 (num2 (z zs 6) (z zs 7)), .bool false, .int .i64 0, .int .i64 0, .int .i64 0, .int .i64 0]) ?h3_b14_13 (by kernel_rfl) (by kernel_rfl) (by kernel_rfl) ?q3_b14_13 ?y3_b14_13 (by assumption) ?_
      case h3_b14_13 => (first | (simp only [gA, gB, gC]; done) | (simp only [gA, gB, gC]; exact rfl))
      case q3_b14_13 => exact fun _ _ _ h => h
      case y3_b14_13 => (refine Or.inl ⟨rfl, ?_⟩; intro w hSw; kernel_rfl)
      (try simp only [Act.put, sA, sB, sC])
      refine wpAnyH_ready (rs := [15]) (by kernel_rfl) (by simp) ?_
      refine AllReadyH.cons (o := ?o3_b14_15) ?h3_b14_15 (fun K hK => ?_) AllReadyH.nil
      case h3_b14_15 => (first | (simp only [gA, gB, gC]; done) | (simp only [gA, gB, gC]; exact rfl))
      rw [if_pos (by rfl)]
      refine wp_st_row 25 _ _ rfl #[.int .i64 (z zs 1), .int .i64 (num2 (z zs 2) (z zs 3)), .int .i64 (num2 (z zs 4) (z zs 5)), .int .i64 (num2 (z zs 6) (z zs 7)), .bool false, .int .i64 0, .int .i64 0, .int .i64 0, .int .i64 0] rfl rfl (HasRow.of HXn4.out rfl) rfl (by simp [pktC, msgC, Value.oneCell']) (by kernel_rfl) ?_
      intro w3 hw
      have HXn42 := Lib.hid (show Blk w3 bn4 25 #[.int .i64 (z zs 1), .int .i64 (num2 (z zs 2) (z zs 3)), .int .i64 (num2 (z zs 4) (z zs 5)), .int .i64 (num2 (z zs 6) (z zs 7)), .bool false, .int .i64 0, .int .i64 0, .int .i64 0, .int .i64 0] by rw [hw]; exact Blk.row HXn4.out _)
      have hHeld3 : (fun W : World => Since w W ∧ Blk W w.heap.size 25 #[.int .i64 0, .int .i64 0, .int .i64 0, .int .i64 0, .bool false, .int .i64 0, .int .i64 0, .int .i64 0, .int .i64 0]) w3 := ⟨by rw [hw]; exact Since.setRow hHeld.1 HGn4.out _, by rw [hw]; exact Blk.row_far (hHeld.2) (Ne.symm HNn4R.out) _⟩
      refine hK.out _ _ hHeld3 (fun hHeld2 => ?_)
      clear HXn4 hK K hHeld hHeld3 hw
      have hHeld := hHeld2
      clear hHeld2
      (try simp only [Act.put, sA, sB, sC])
      refine wpAnyH_done (by kernel_rfl) ?_ _
      have HSd3 := Lib.hid hHeld.1
      have HBRd3 := Lib.hid (hHeld.2)
      clear hHeld HRK HRD HS1 HBR1
      go_wp2_with fail
      go_meet
      case rel => exact Lib.hid ⟨bn4, rfl, HSd3.out, HBRd3.out, HXn42.out, HGn4.out, HNn4R.out⟩
  case rest =>
    clear HS1 HBR1
    obtain ⟨bn4, rfl, g0, g1, g2, g3, g4⟩ := hcut.out
    clear hcut
    have HS51 := Lib.hid g0
    have HBR51 := Lib.hid g1
    have HBn451 := Lib.hid g2
    have HGn4 := Lib.hid g3
    have HNn4R := Lib.hid g4
    clear g0 g1 g2 g3 g4
    go_upto_region 4 with fail
    refine wp_region_lit ?_
    refine wpList_q (by rfl) (.slice (some ⟨b, off, none⟩) 21 cap) ?he ?_
    case he => (first | rfl | (go_simp; (try with_reducible rfl)))
    (try simp only [Act.put, sA, sB, sC])
    refine wpList_q (by rfl) (.int .i64 21) ?he ?_
    case he => (go_simp; (try with_reducible rfl))
    (try simp only [Act.put, sA, sB, sC])
    refine wpList_q (by rfl) (.bool false) ?he ?_
    case he => (go_simp; (try with_reducible rfl))
    (try simp only [Act.put, sA, sB, sC])
    refine wpList_nil ?_
    go_upto_region 6 with fail
    refine wp_region_lit ?_
    refine wpList_q (by rfl) (.pointer (some ⟨bn4, 4, none⟩)) ?he ?_
    case he => (first | rfl | (go_simp; (try with_reducible rfl)))
    (try simp only [Act.put, sA, sB, sC])
    refine wpList_wp (by rfl) (fun K hK => ?_)
    refine wp_st_cell 4 _ _ rfl #[.int .i64 (z zs 1), .int .i64 (num2 (z zs 2) (z zs 3)), .int .i64 (num2 (z zs 4) (z zs 5)), .int .i64 (num2 (z zs 6) (z zs 7)), .bool true, .int .i64 0, .int .i64 0, .int .i64 0, .int .i64 0] (.bool true) rfl rfl HBn451.out (by show 4 < 9; decide) rfl (by first | rfl | simp [Value.oneCell']) (by kernel_rfl) ?_
    intro w52 hw
    refine hK.out _ _ ?_
    clear hK K
    (try simp only [Act.put, sA, sB, sC])
    have HS52 := Lib.hid (show Since w w52 by rw [hw]; exact Since.setRow HS51.out HGn4.out _)
    have HBR52 := Lib.hid (show Blk w52 w.heap.size 25 #[.int .i64 0, .int .i64 0, .int .i64 0, .int .i64 0, .bool false, .int .i64 0, .int .i64 0, .int .i64 0, .int .i64 0] by rw [hw]; exact Blk.row_far HBR51.out (Ne.symm HNn4R.out) _)
    have HBn452 := Lib.hid (show Blk w52 bn4 25 #[.int .i64 (z zs 1), .int .i64 (num2 (z zs 2) (z zs 3)), .int .i64 (num2 (z zs 4) (z zs 5)), .int .i64 (num2 (z zs 6) (z zs 7)), .bool true, .int .i64 0, .int .i64 0, .int .i64 0, .int .i64 0] by rw [hw]; exact Blk.row HBn451.out _)
    clear hw HS51 HBR51 HBn451
    refine wpList_nil ?_
    go_upto_region 7 with fail
    have hrK : ∀ W W' : World, Since W W' → (Since w W ∧ Blk W w.heap.size 25 #[.int .i64 0, .int .i64 0, .int .i64 0, .int .i64 0, .bool false, .int .i64 0, .int .i64 0, .int .i64 0, .int .i64 0] ∧ HasRow W bn4 25 9) → (Since w W' ∧ Blk W' w.heap.size 25 #[.int .i64 0, .int .i64 0, .int .i64 0, .int .i64 0, .bool false, .int .i64 0, .int .i64 0, .int .i64 0, .int .i64 0] ∧ HasRow W' bn4 25 9) := fun W W' k ⟨h, h0, h1⟩ => ⟨h.trans k, keep_blk k h0, HasRow.keep k h1⟩
    have hrS : (fun W : World => Since w W ∧ Blk W w.heap.size 25 #[.int .i64 0, .int .i64 0, .int .i64 0, .int .i64 0, .bool false, .int .i64 0, .int .i64 0, .int .i64 0, .int .i64 0] ∧ HasRow W bn4 25 9) w52 := ⟨HS52.out, HBR52.out, HasRow.of HBn452.out rfl⟩
    have HRK := Lib.hid hrK
    have HRD := Lib.hid (show (fun W : World => Since w W ∧ Blk W w.heap.size 25 #[.int .i64 0, .int .i64 0, .int .i64 0, .int .i64 0, .bool false, .int .i64 0, .int .i64 0, .int .i64 0, .int .i64 0] ∧ HasRow W bn4 25 9) (World.drew w52) from ⟨Since.drew hrS.1, hrS.2⟩)
    clear hrK hrS
    have HPn4 := Lib.hid (show Blk (World.drew w52) bn4 25 #[.int .i64 (z zs 1), .int .i64 (num2 (z zs 2) (z zs 3)), .int .i64 (num2 (z zs 4) (z zs 5)), .int .i64 (num2 (z zs 6) (z zs 7)), .bool true, .int .i64 0, .int .i64 0, .int .i64 0, .int .i64 0] from HBn452.out)
    refine wp_region_held_drew (S := fun W : World => Since w W ∧ Blk W w.heap.size 25 #[.int .i64 0, .int .i64 0, .int .i64 0, .int .i64 0, .bool false, .int .i64 0, .int .i64 0, .int .i64 0, .int .i64 0] ∧ HasRow W bn4 25 9) (by kernel_rfl) HRD.out (fun hHeld => ?_)
    refine wpAnyH_take (i := 0) (oi := ?o7__0) (v := .slice (some ⟨b, off, none⟩) 21 cap) ?h7__0 (by kernel_rfl) (by kernel_rfl) (by kernel_rfl) ?q7__0 ?y7__0 (by assumption) ?_
    case h7__0 => (first | (simp only [gA, gB, gC]; done) | (simp only [gA, gB, gC]; exact rfl))
    case q7__0 => exact fun _ _ _ h => h
    case y7__0 => (refine Or.inl ⟨rfl, ?_⟩; intro w hSw; (first | rfl | (go_simp; (try with_reducible rfl))))
    (try simp only [Act.put, sA, sB, sC])
    refine wpAnyH_take (i := 1) (oi := ?o7__1) (v := .pointer (some ⟨b, (off + 8), none⟩)) ?h7__1 (by kernel_rfl) (by kernel_rfl) (by kernel_rfl) ?q7__1 ?y7__1 (by assumption) ?_
    case h7__1 => (first | (simp only [gA, gB, gC]; done) | (simp only [gA, gB, gC]; exact rfl))
    case q7__1 => exact fun _ _ _ h => h
    case y7__1 => (refine Or.inl ⟨rfl, ?_⟩; intro w hSw; (first | rfl | (go_simp; (try with_reducible rfl))))
    (try simp only [Act.put, sA, sB, sC])
    refine wpAnyH_take (i := 2) (oi := ?o7__2) (v := .int .u8 (z zs 8)) ?h7__2 (by kernel_rfl) (by kernel_rfl) (by kernel_rfl) ?q7__2 ?y7__2 (by assumption) ?_
    case h7__2 => (first | (simp only [gA, gB, gC]; done) | (simp only [gA, gB, gC]; exact rfl))
    case q7__2 => exact fun _ _ _ h => h
    case y7__2 => (refine Or.inl ⟨rfl, ?_⟩; intro w hSw; exact exec_at 5 _ _ (keep_cell hSw.1 (HC.out 8 (by omega))) rfl rfl Tryd.underlying5 rfl)
    (try simp only [Act.put, sA, sB, sC])
    refine wpAnyH_take (i := 3) (oi := ?o7__3) (v := .int .i64 (z zs 8)) ?h7__3 (by kernel_rfl) (by kernel_rfl) (by kernel_rfl) ?q7__3 ?y7__3 (by assumption) ?_
    case h7__3 => (first | (simp only [gA, gB, gC]; done) | (simp only [gA, gB, gC]; exact rfl))
    case q7__3 => exact fun _ _ _ h => h
    case y7__3 => (refine Or.inl ⟨rfl, ?_⟩; intro w hSw; (have q := HI8.out; go_simp; exact wr64 _ (by omega) (by omega)))
    (try simp only [Act.put, sA, sB, sC])
    refine wpAnyH_take (i := 4) (oi := ?o7__4) (v := .slice (some ⟨b, off, none⟩) 21 cap) ?h7__4 (by kernel_rfl) (by kernel_rfl) (by kernel_rfl) ?q7__4 ?y7__4 (by assumption) ?_
    case h7__4 => (first | (simp only [gA, gB, gC]; done) | (simp only [gA, gB, gC]; exact rfl))
    case q7__4 => exact fun _ _ _ h => h
    case y7__4 => (refine Or.inl ⟨rfl, ?_⟩; intro w hSw; (first | rfl | (go_simp; (try with_reducible rfl))))
    (try simp only [Act.put, sA, sB, sC])
    refine wpAnyH_take (i := 5) (oi := ?o7__5) (v := .slice (some ⟨b, (off + 9), none⟩) 4 (cap - 9)) ?h7__5 (by kernel_rfl) (by kernel_rfl) (by kernel_rfl) ?q7__5 ?y7__5 (by assumption) ?_
    case h7__5 => (first | (simp only [gA, gB, gC]; done) | (simp only [gA, gB, gC]; exact rfl))
    case q7__5 => exact fun _ _ _ h => h
    case y7__5 => (refine Or.inl ⟨rfl, ?_⟩; intro w hSw; (go_simp; first | omega | (rw [if_pos (by omega), if_neg (by omega)])))
    (try simp only [Act.put, sA, sB, sC])
    refine wpAnyH_take (i := 7) (oi := ?o7__7) (v := .slice (some ⟨b, off, none⟩) 21 cap) ?h7__7 (by kernel_rfl) (by kernel_rfl) (by kernel_rfl) ?q7__7 ?y7__7 (by assumption) ?_
    case h7__7 => (first | (simp only [gA, gB, gC]; done) | (simp only [gA, gB, gC]; exact rfl))
    case q7__7 => exact fun _ _ _ h => h
    case y7__7 => (refine Or.inl ⟨rfl, ?_⟩; intro w hSw; (first | rfl | (go_simp; (try with_reducible rfl))))
    (try simp only [Act.put, sA, sB, sC])
    refine wpAnyH_take (i := 8) (oi := ?o7__8) (v := .slice (some ⟨b, (off + 13), none⟩) 4 (cap - 13)) ?h7__8 (by kernel_rfl) (by kernel_rfl) (by kernel_rfl) ?q7__8 ?y7__8 (by assumption) ?_
    case h7__8 => (first | (simp only [gA, gB, gC]; done) | (simp only [gA, gB, gC]; exact rfl))
    case q7__8 => exact fun _ _ _ h => h
    case y7__8 => (refine Or.inl ⟨rfl, ?_⟩; intro w hSw; (go_simp; first | omega | (rw [if_pos (by omega), if_neg (by omega)])))
    (try simp only [Act.put, sA, sB, sC])
    refine wpAnyH_take (i := 10) (oi := ?o7__10) (v := .slice (some ⟨b, off, none⟩) 21 cap) ?h7__10 (by kernel_rfl) (by kernel_rfl) (by kernel_rfl) ?q7__10 ?y7__10 (by assumption) ?_
    case h7__10 => (first | (simp only [gA, gB, gC]; done) | (simp only [gA, gB, gC]; exact rfl))
    case q7__10 => exact fun _ _ _ h => h
    case y7__10 => (refine Or.inl ⟨rfl, ?_⟩; intro w hSw; (first | rfl | (go_simp; (try with_reducible rfl))))
    (try simp only [Act.put, sA, sB, sC])
    refine wpAnyH_take (i := 11) (oi := ?o7__11) (v := .slice (some ⟨b, (off + 17), none⟩) 4 (cap - 17)) ?h7__11 (by kernel_rfl) (by kernel_rfl) (by kernel_rfl) ?q7__11 ?y7__11 (by assumption) ?_
    case h7__11 => (first | (simp only [gA, gB, gC]; done) | (simp only [gA, gB, gC]; exact rfl))
    case q7__11 => exact fun _ _ _ h => h
    case y7__11 => (refine Or.inl ⟨rfl, ?_⟩; intro w hSw; (go_simp; first | omega | (rw [if_pos (by omega), if_neg (by omega)])))
    (try simp only [Act.put, sA, sB, sC])
    refine wpAnyH_ready (rs := [6]) (by kernel_rfl) (by simp) ?_
    refine AllReadyH.cons (o := ?o7__6) ?h7__6 (fun K hK => ?_) AllReadyH.nil
    case h7__6 => (first | (simp only [gA, gB, gC]; done) | (simp only [gA, gB, gC]; exact rfl))
    (try go_simp)
    refine (number4T _ _ (z zs 9) (z zs 10) (z zs 11) (z zs 12) _ (keep_bv hHeld.1 HV9.out)).mono ?_
    rintro e w' ⟨rfl, rfl⟩
    (try go_wp2_with fail)
    refine hK.out _ _ hHeld (fun hHeld2 => ?_)
    clear hK K hHeld2
    (try simp only [Act.put, sA, sB, sC])
    refine wpAnyH_ready (rs := [9]) (by kernel_rfl) (by simp) ?_
    refine AllReadyH.cons (o := ?o7__9) ?h7__9 (fun K hK => ?_) AllReadyH.nil
    case h7__9 => (first | (simp only [gA, gB, gC]; done) | (simp only [gA, gB, gC]; exact rfl))
    (try go_simp)
    refine (number4T _ _ (z zs 13) (z zs 14) (z zs 15) (z zs 16) _ (keep_bv hHeld.1 HV13.out)).mono ?_
    rintro e w' ⟨rfl, rfl⟩
    (try go_wp2_with fail)
    refine hK.out _ _ hHeld (fun hHeld2 => ?_)
    clear hK K hHeld2
    (try simp only [Act.put, sA, sB, sC])
    refine wpAnyH_ready (rs := [12]) (by kernel_rfl) (by simp) ?_
    refine AllReadyH.cons (o := ?o7__12) ?h7__12 (fun K hK => ?_) AllReadyH.nil
    case h7__12 => (first | (simp only [gA, gB, gC]; done) | (simp only [gA, gB, gC]; exact rfl))
    (try go_simp)
    refine (number4T _ _ (z zs 17) (z zs 18) (z zs 19) (z zs 20) _ (keep_bv hHeld.1 HV17.out)).mono ?_
    rintro e w' ⟨rfl, rfl⟩
    (try go_wp2_with fail)
    refine hK.out _ _ hHeld (fun hHeld2 => ?_)
    clear hK K hHeld2
    (try simp only [Act.put, sA, sB, sC])
    refine wpAnyH_take (i := 13) (oi := ?o7__13) (v := .agg #[.int .i64 (z zs 8), .int .i64 (num4 (z zs 9) (z zs 10) (z zs 11) (z zs 12)), .int .i64 (num4 (z zs 13) (z zs 14) (z zs 15) (z zs 16)), .int .i64 (num4 (z zs 17) (z zs 18) (z zs 19) (z zs 20))]) ?h7__13 (by kernel_rfl) (by kernel_rfl) (by kernel_rfl) ?q7__13 ?y7__13 (by assumption) ?_
    case h7__13 => (first | (simp only [gA, gB, gC]; done) | (simp only [gA, gB, gC]; exact rfl))
    case q7__13 => exact fun _ _ _ h => h
    case y7__13 => (refine Or.inl ⟨rfl, ?_⟩; intro w hSw; kernel_rfl)
    (try simp only [Act.put, sA, sB, sC])
    refine wpAnyH_take (i := 14) (oi := ?o7__14) (v := .pointer (some ⟨bn4, 5, none⟩)) ?h7__14 (by kernel_rfl) (by kernel_rfl) (by kernel_rfl) ?q7__14 ?y7__14 (by assumption) ?_
    case h7__14 => (first | (simp only [gA, gB, gC]; done) | (simp only [gA, gB, gC]; exact rfl))
    case q7__14 => exact fun _ _ _ h => h
    case y7__14 => (refine Or.inl ⟨rfl, ?_⟩; intro w hSw; (first | rfl | (go_simp; (try with_reducible rfl))))
    (try simp only [Act.put, sA, sB, sC])
    refine wpAnyH_ready (rs := [15]) (by kernel_rfl) (by simp) ?_
    refine AllReadyH.cons (o := ?o7__15) ?h7__15 (fun K hK => ?_) AllReadyH.nil
    case h7__15 => (first | (simp only [gA, gB, gC]; done) | (simp only [gA, gB, gC]; exact rfl))
    rw [if_pos (by rfl)]
    refine wp_st_part 23 _ _ rfl #[.int .i64 (z zs 1), .int .i64 (num2 (z zs 2) (z zs 3)), .int .i64 (num2 (z zs 4) (z zs 5)), .int .i64 (num2 (z zs 6) (z zs 7)), .bool true, .int .i64 (z zs 8), .int .i64 (num4 (z zs 9) (z zs 10) (z zs 11) (z zs 12)), .int .i64 (num4 (z zs 13) (z zs 14) (z zs 15) (z zs 16)), .int .i64 (num4 (z zs 17) (z zs 18) (z zs 19) (z zs 20))] (#[.int .i64 (z zs 8), .int .i64 (num4 (z zs 9) (z zs 10) (z zs 11) (z zs 12)), .int .i64 (num4 (z zs 13) (z zs 14) (z zs 15) (z zs 16)), .int .i64 (num4 (z zs 17) (z zs 18) (z zs 19) (z zs 20))]) rfl rfl HPn4.out (Nat.le_of_ble_eq_true rfl) rfl (by simp [pktC, msgC, Value.oneCell']) (by kernel_rfl) ?_
    clear HPn4
    intro w53 hw
    have HRn4 := Lib.hid (show Blk w53 bn4 25 #[.int .i64 (z zs 1), .int .i64 (num2 (z zs 2) (z zs 3)), .int .i64 (num2 (z zs 4) (z zs 5)), .int .i64 (num2 (z zs 6) (z zs 7)), .bool true, .int .i64 (z zs 8), .int .i64 (num4 (z zs 9) (z zs 10) (z zs 11) (z zs 12)), .int .i64 (num4 (z zs 13) (z zs 14) (z zs 15) (z zs 16)), .int .i64 (num4 (z zs 17) (z zs 18) (z zs 19) (z zs 20))] by obtain ⟨old, Bo, _⟩ := hHeld.2.2; rw [hw]; exact Blk.row Bo _)
    have hHeld3 : (fun W : World => Since w W ∧ Blk W w.heap.size 25 #[.int .i64 0, .int .i64 0, .int .i64 0, .int .i64 0, .bool false, .int .i64 0, .int .i64 0, .int .i64 0, .int .i64 0] ∧ HasRow W bn4 25 9) w53 := ⟨by rw [hw]; exact Since.setRow hHeld.1 HGn4.out _, by rw [hw]; exact Blk.row_far (hHeld.2.1) (Ne.symm HNn4R.out) _, HasRow.of HRn4.out rfl⟩
    refine hK.out _ _ hHeld3 (fun hHeld2 => ?_)
    clear hK K hHeld hHeld3 hw
    have hHeld := hHeld2
    clear hHeld2
    (try simp only [Act.put, sA, sB, sC])
    refine wpAnyH_done (by kernel_rfl) ?_ _
    have HSd7 := Lib.hid hHeld.1
    have HBRd7 := Lib.hid (hHeld.2.1)
    have HBn4d7 := Lib.hid HRn4.out
    clear HRn4
    clear hHeld HRK HRD HS52 HBR52 HBn452
    go_upto_region 8 with fail
    refine wp_region_lit ?_
    refine wpList_q (by rfl) (.pointer (some ⟨bn4, 5, none⟩)) ?he ?_
    case he => (first | rfl | (go_simp; (try with_reducible rfl)))
    (try simp only [Act.put, sA, sB, sC])
    refine wpList_q (by rfl) (.pointer (some ⟨bn4, 5, none⟩)) ?he ?_
    case he => (first | rfl | (go_simp; (try with_reducible rfl)))
    (try simp only [Act.put, sA, sB, sC])
    refine wpList_q (by rfl) (.int .i64 (z zs 8)) ?he ?_
    case he => exact exec_cell 3 _ _ HBn4d7.out rfl rfl rfl Tryd.underlying3 rfl
    (try simp only [Act.put, sA, sB, sC])
    refine wpList_wp (by rfl) (fun K hK => ?_)
    (try go_simp)
    refine (knownB (z zs 8) true _ HK.out).mono ?_
    rintro e w' ⟨rfl, rfl⟩
    (try go_wp2_with fail)
    refine hK.out _ _ ?_
    clear hK K
    (try simp only [Act.put, sA, sB, sC])
    refine wpList_q (by rfl) (.bool false) ?he ?_
    case he => (go_simp; (try with_reducible rfl))
    (try simp only [Act.put, sA, sB, sC])
    refine wpList_nil ?_
    go_upto_region 10 with fail
    refine wp_region_lit ?_
    refine wpList_q (by rfl) (.agg #[.int .i64 (z zs 1), .int .i64 (num2 (z zs 2) (z zs 3)), .int .i64 (num2 (z zs 4) (z zs 5)), .int .i64 (num2 (z zs 6) (z zs 7)), .bool true, .int .i64 (z zs 8), .int .i64 (num4 (z zs 9) (z zs 10) (z zs 11) (z zs 12)), .int .i64 (num4 (z zs 13) (z zs 14) (z zs 15) (z zs 16)), .int .i64 (num4 (z zs 17) (z zs 18) (z zs 19) (z zs 20))]) ?he ?_
    case he => exact exec_load_row 25 _ _ HBn4d7.out rfl rfl Tryd.underlying25 rfl (by kernel_rfl)
    (try simp only [Act.put, sA, sB, sC])
    refine wpList_wp (by rfl) (fun K hK => ?_)
    (try go_simp)
    refine (goodV (bodyP zs) true _ HG.out).mono ?_
    rintro e w54 ⟨rfl, hb⟩
    (try go_wp2_with fail)
    refine hK.out _ _ ?_
    clear hK K
    (try simp only [Act.put, sA, sB, sC])
    have HS54 := Lib.hid (Since.trans HSd7.out hb)
    have HBR54 := Lib.hid (keep_blk hb HBRd7.out)
    have HBn454 := Lib.hid (keep_blk hb HBn4d7.out)
    clear HSd7 HBRd7 HBn4d7
    clear hb
    refine wpList_q (by rfl) (.bool false) ?he ?_
    case he => (go_simp; (try with_reducible rfl))
    (try simp only [Act.put, sA, sB, sC])
    refine wpList_nil ?_
    go_upto_region 12 with fail
    refine wp_region_lit ?_
    refine wpList_q (by rfl) (.agg #[.int .i64 (z zs 1), .int .i64 (num2 (z zs 2) (z zs 3)), .int .i64 (num2 (z zs 4) (z zs 5)), .int .i64 (num2 (z zs 6) (z zs 7)), .bool true, .int .i64 (z zs 8), .int .i64 (num4 (z zs 9) (z zs 10) (z zs 11) (z zs 12)), .int .i64 (num4 (z zs 13) (z zs 14) (z zs 15) (z zs 16)), .int .i64 (num4 (z zs 17) (z zs 18) (z zs 19) (z zs 20))]) ?he ?_
    case he => exact exec_load_row 25 _ _ HBn454.out rfl rfl Tryd.underlying25 rfl (by kernel_rfl)
    (try simp only [Act.put, sA, sB, sC])
    refine wpList_wp (by rfl) (fun K hK => ?_)
    refine wp_st_row 25 _ _ rfl #[.int .i64 (z zs 1), .int .i64 (num2 (z zs 2) (z zs 3)), .int .i64 (num2 (z zs 4) (z zs 5)), .int .i64 (num2 (z zs 6) (z zs 7)), .bool true, .int .i64 (z zs 8), .int .i64 (num4 (z zs 9) (z zs 10) (z zs 11) (z zs 12)), .int .i64 (num4 (z zs 13) (z zs 14) (z zs 15) (z zs 16)), .int .i64 (num4 (z zs 17) (z zs 18) (z zs 19) (z zs 20))] rfl rfl (HasRow.of HBR54.out rfl) rfl (by simp [pktC, msgC, Value.oneCell']) (by kernel_rfl) ?_
    intro w55 hw
    refine hK.out _ _ ?_
    clear hK K
    (try simp only [Act.put, sA, sB, sC])
    have HS55 := Lib.hid (show Since w w55 by rw [hw]; exact Since.setRow HS54.out (by have := HNE3.out; omega) _)
    have HBR55 := Lib.hid (show Blk w55 w.heap.size 25 #[.int .i64 (z zs 1), .int .i64 (num2 (z zs 2) (z zs 3)), .int .i64 (num2 (z zs 4) (z zs 5)), .int .i64 (num2 (z zs 6) (z zs 7)), .bool true, .int .i64 (z zs 8), .int .i64 (num4 (z zs 9) (z zs 10) (z zs 11) (z zs 12)), .int .i64 (num4 (z zs 13) (z zs 14) (z zs 15) (z zs 16)), .int .i64 (num4 (z zs 17) (z zs 18) (z zs 19) (z zs 20))] by rw [hw]; exact Blk.row HBR54.out _)
    have HBn455 := Lib.hid (show Blk w55 bn4 25 #[.int .i64 (z zs 1), .int .i64 (num2 (z zs 2) (z zs 3)), .int .i64 (num2 (z zs 4) (z zs 5)), .int .i64 (num2 (z zs 6) (z zs 7)), .bool true, .int .i64 (z zs 8), .int .i64 (num4 (z zs 9) (z zs 10) (z zs 11) (z zs 12)), .int .i64 (num4 (z zs 13) (z zs 14) (z zs 15) (z zs 16)), .int .i64 (num4 (z zs 17) (z zs 18) (z zs 19) (z zs 20))] by rw [hw]; exact Blk.row_far HBn454.out HNn4R.out _)
    clear hw HS54 HBR54 HBn454
    refine wpList_q (by rfl) (.int .i64 0) ?he ?_
    case he => (first | rfl | (go_simp; (try with_reducible rfl)))
    (try simp only [Act.put, sA, sB, sC])
    refine wpList_nil ?_
    (try go_wp2_with fail)
    exact bodyPost_ret (results_row2 rfl _ _ w.heap.size 25 #[.int .i64 (z zs 1), .int .i64 (num2 (z zs 2) (z zs 3)), .int .i64 (num2 (z zs 4) (z zs 5)), .int .i64 (num2 (z zs 6) (z zs 7)), .bool true, .int .i64 (z zs 8), .int .i64 (num4 (z zs 9) (z zs 10) (z zs 11) (z zs 12)), .int .i64 (num4 (z zs 13) (z zs 14) (z zs 15) (z zs 16)), .int .i64 (num4 (z zs 17) (z zs 18) (z zs 19) (z zs 20))] _ (.int .i64 0) rfl rfl HBR55.out Tryd.underlying25 rfl (by kernel_rfl)) rfl ⟨rfl, HS55.out⟩
theorem getT (a : Option Addr) (n cap : Nat) (zs : List Int) (w : World) (h : BV w a n zs) (hcp : n ≤ cap) : Calls Tryd.prog 11 #[.slice a n cap] w fun e w' => e = .returned (.tuple #[.agg (pktC (getV zs).1), .int .i64 (getV zs).2]) ∧ Since w w' := by
  have hl := h.1
  by_cases hx : n ≠ 8 ∧ n ≠ 21
  · rw [show getV zs = (zeroP, 2) by unfold getV; rw [if_pos (.inl (by omega))]]
    exact getX a n cap hx.1 hx.2 w
  by_cases hz : z zs 0 = 1
  · have hn : ¬ ((zs.length ≠ 8 ∧ zs.length ≠ 21) ∨ z zs 0 ≠ 1) := by omega
    obtain ⟨b, off, rfl, _, _⟩ := h.addr (by omega)
    by_cases h8 : n = 8
    · subst h8
      rw [show getV zs = (headP zs, 0) by unfold getV; rw [if_neg hn, if_pos hl]]
      exact getH b off cap zs w h hcp hz
    · obtain rfl : n = 21 := by omega
      cases hk : decide (1 ≤ z zs 8 ∧ z zs 8 ≤ 16)
      · rw [show getV zs = (zeroP, 4) by unfold getV; rw [if_neg hn, if_neg (by omega), if_pos (of_decide_eq_false hk)]]
        exact getK b off cap zs w h hcp hz hk
      · cases hg : mayB (bodyP zs)
        · rw [show getV zs = (zeroP, 2) by unfold getV; rw [if_neg hn, if_neg (by omega), if_neg (fun q => q (of_decide_eq_true hk)), if_neg (by rw [hg]; decide)]]
          exact getB b off cap zs w h hcp hz hk hg
        · rw [show getV zs = (bodyP zs, 0) by unfold getV; rw [if_neg hn, if_neg (by omega), if_neg (fun q => q (of_decide_eq_true hk)), if_pos hg]]
          exact getG b off cap zs w h hcp hz hk hg
  · rw [show getV zs = (zeroP, 2) by unfold getV; rw [if_pos (.inr hz)]]
    obtain ⟨b, off, rfl, _, _⟩ := h.addr (by omega)
    rcases (show n = 8 ∨ n = 21 by omega) with rfl | rfl
    · exact getZ8 b off cap zs w h hcp hz
    · exact getZ21 b off cap zs w h hcp hz
end Go.Proofs.YtlihhjcneedgnaaDoor.Mg
