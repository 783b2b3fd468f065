/-
  The reference's Packet, walked.
  Conditions: what stands ahead of each.
-/
import Derived.Test.YtlihhjcneedgnaaDoorMsgD
namespace Go.Proofs.YtlihhjcneedgnaaDoor.Mg
set_option linter.unusedVariables false
set_option linter.unusedSimpArgs false
open Go.RowKit Go.Proofs.YtlihhjcneedgnaaDoor.Ba Go.Proofs.YtlihhjcneedgnaaDoor.Mem
open Go.Proofs.YtlihhjcneedgnaaDoor.Byt (BV isB cells)
set_option maxRecDepth 100000
attribute [local irreducible] Go.wpList
theorem mayPV (p : PktV) (b : Bool) (w : World) (h : mayB p = b) : Calls Tryd.prog 8 #[.agg (pktC p)] w fun e w' => e = .returned (.bool b) ∧ Since w w' := by
  subst h; exact mayPktR p w
set_option maxHeartbeats 4000000 in
theorem pktX (a : Option Addr) (n cap : Nat) (h8 : n ≠ 8) (h21 : n ≠ 21) (w : World) : Calls Tryd.prog 13 #[.slice a n cap] w fun e w' => e = .returned (.tuple #[.agg (pktC zeroP), .int .i64 2]) ∧ Since w w' := by
  have H8 := Lib.hid h8
  clear h8
  have H21 := Lib.hid h21
  clear h21
  go_enter Tryd.func13, Tryd.ntmps13
  go_upto_region 1 with fail
  obtain ⟨w1, hw1⟩ : ∃ w1, w1 = (w.alloc (.cells #[.int .i64 0, .int .i64 0, .int .i64 0, .int .i64 0, .bool false, .int .i64 0, .int .i64 0, .int .i64 0, .int .i64 0] 25)) := ⟨_, rfl⟩
  rw [← hw1]
  have HBR1 := Lib.hid (show Blk w1 (w.heap.size) 25 #[.int .i64 0, .int .i64 0, .int .i64 0, .int .i64 0, .bool false, .int .i64 0, .int .i64 0, .int .i64 0, .int .i64 0] by rw [hw1]; exact Blk.at_ (by (try simp only [size_alloc])) _ _)
  have HS1 := Lib.hid (show Since w w1 by rw [hw1]; exact Since.alloc (Since.refl w) _)
  have hNE : w.heap.size ≤ w.heap.size := by omega
  have HNE := Lib.hid hNE
  clear hNE hw1
  have HNE3 := Lib.hid (show w.heap.size ≤ w.heap.size from HNE.out)
  clear HNE
  refine wp_region_lit ?_
  refine wpList_q (by rfl) (.slice a n cap) ?he ?_
  case he => (first | rfl | (go_simp; (try with_reducible rfl)))
  (try simp only [Act.put, sA, sB, sC])
  refine wpList_q (by rfl) (.int .i64 n) ?he ?_
  case he => (go_simp; (try with_reducible rfl))
  (try simp only [Act.put, sA, sB, sC])
  refine wpList_q (by rfl) (.bool true) ?he ?_
  case he => (go_simp; (first | done | (have q := H8.out; omega)))
  (try simp only [Act.put, sA, sB, sC])
  refine wpList_q (by rfl) (.bool true) ?he ?_
  case he => (first | rfl | (go_simp; (try with_reducible rfl)))
  (try simp only [Act.put, sA, sB, sC])
  refine wpList_q (by rfl) (.slice a n cap) ?he ?_
  case he => (first | rfl | (go_simp; (try with_reducible rfl)))
  (try simp only [Act.put, sA, sB, sC])
  refine wpList_q (by rfl) (.int .i64 n) ?he ?_
  case he => (go_simp; (try with_reducible rfl))
  (try simp only [Act.put, sA, sB, sC])
  refine wpList_q (by rfl) (.bool true) ?he ?_
  case he => (go_simp; (first | done | (have q := H21.out; omega)))
  (try simp only [Act.put, sA, sB, sC])
  refine wpList_q (by rfl) (.bool true) ?he ?_
  case he => (first | rfl | (go_simp; (try with_reducible rfl)))
  (try simp only [Act.put, sA, sB, sC])
  refine wpList_q (by rfl) (.bool true) ?he ?_
  case he => (first | rfl | (go_simp; (try with_reducible rfl)))
  (try simp only [Act.put, sA, sB, sC])
  refine wpList_no (by rfl) ?_
  (try simp only [Act.put, sA, sB, sC])
  refine wpList_no (by rfl) ?_
  (try simp only [Act.put, sA, sB, sC])
  refine wpList_no (by rfl) ?_
  (try simp only [Act.put, sA, sB, sC])
  refine wpList_no (by rfl) ?_
  (try simp only [Act.put, sA, sB, sC])
  refine wpList_q (by rfl) (.bool true) ?he ?_
  case he => (first | rfl | (go_simp; (try with_reducible rfl)))
  (try simp only [Act.put, sA, sB, sC])
  refine wpList_nil ?_
  go_upto_region 2 with fail
  refine wp_region_lit ?_
  refine wpList_q (by rfl) (.agg #[.int .i64 0, .int .i64 0, .int .i64 0, .int .i64 0, .bool false, .int .i64 0, .int .i64 0, .int .i64 0, .int .i64 0]) ?he ?_
  case he => kernel_rfl
  (try simp only [Act.put, sA, sB, sC])
  refine wpList_wp (by rfl) (fun K hK => ?_)
  refine wp_st_row 25 _ _ rfl #[.int .i64 0, .int .i64 0, .int .i64 0, .int .i64 0, .bool false, .int .i64 0, .int .i64 0, .int .i64 0, .int .i64 0] rfl rfl (HasRow.of HBR1.out rfl) rfl (by simp [pktC, msgC, Value.oneCell']) (by kernel_rfl) ?_
  intro w2 hw
  refine hK.out _ _ ?_
  clear hK K
  (try simp only [Act.put, sA, sB, sC])
  have HS2 := Lib.hid (show Since w w2 by rw [hw]; exact Since.setRow HS1.out (by have := HNE3.out; omega) _)
  have HBR2 := Lib.hid (show Blk w2 w.heap.size 25 #[.int .i64 0, .int .i64 0, .int .i64 0, .int .i64 0, .bool false, .int .i64 0, .int .i64 0, .int .i64 0, .int .i64 0] by rw [hw]; exact Blk.row HBR1.out _)
  clear hw HS1 HBR1
  refine wpList_q (by rfl) (.int .i64 2) ?he ?_
  case he => (first | rfl | (go_simp; (try with_reducible rfl)))
  (try simp only [Act.put, sA, sB, sC])
  refine wpList_nil ?_
  (try go_wp2_with fail)
  exact bodyPost_ret (results_row2 rfl _ _ w.heap.size 25 #[.int .i64 0, .int .i64 0, .int .i64 0, .int .i64 0, .bool false, .int .i64 0, .int .i64 0, .int .i64 0, .int .i64 0] _ (.int .i64 2) rfl rfl HBR2.out Tryd.underlying25 rfl (by kernel_rfl)) rfl ⟨rfl, HS2.out⟩
set_option maxHeartbeats 4000000 in
theorem pktZ8 (b off cap : Nat) (zs : List Int) (w : World) (h : BV w (some ⟨b, off, none⟩) 8 zs) (hz : z zs 0 ≠ 1) : Calls Tryd.prog 13 #[.slice (some ⟨b, off, none⟩) 8 cap] w fun e w' => e = .returned (.tuple #[.agg (pktC zeroP), .int .i64 2]) ∧ Since w w' := by
  have hl : zs.length = 8 := h.1
  obtain ⟨b', off', he, hlt, hcell⟩ := h.addr (by omega)
  obtain ⟨rfl, rfl⟩ : b = b' ∧ off = off' := by simp only [Option.some.injEq, Addr.mk.injEq, and_true] at he; exact he
  have HC := Lib.hid hcell
  have HI1 := Lib.hid (z_isB h.2.2.1 1)
  have HI2 := Lib.hid (z_isB h.2.2.1 2)
  have HI3 := Lib.hid (z_isB h.2.2.1 3)
  have HI4 := Lib.hid (z_isB h.2.2.1 4)
  have HI5 := Lib.hid (z_isB h.2.2.1 5)
  have HI6 := Lib.hid (z_isB h.2.2.1 6)
  have HI7 := Lib.hid (z_isB h.2.2.1 7)
  clear he hlt hcell hl h
  have HZ := Lib.hid hz
  clear hz
  go_enter Tryd.func13, Tryd.ntmps13
  go_upto_region 1 with fail
  obtain ⟨w1, hw1⟩ : ∃ w1, w1 = (w.alloc (.cells #[.int .i64 0, .int .i64 0, .int .i64 0, .int .i64 0, .bool false, .int .i64 0, .int .i64 0, .int .i64 0, .int .i64 0] 25)) := ⟨_, rfl⟩
  rw [← hw1]
  have HBR1 := Lib.hid (show Blk w1 (w.heap.size) 25 #[.int .i64 0, .int .i64 0, .int .i64 0, .int .i64 0, .bool false, .int .i64 0, .int .i64 0, .int .i64 0, .int .i64 0] by rw [hw1]; exact Blk.at_ (by (try simp only [size_alloc])) _ _)
  have HS1 := Lib.hid (show Since w w1 by rw [hw1]; exact Since.alloc (Since.refl w) _)
  have hNE : w.heap.size ≤ w.heap.size := by omega
  have HNE := Lib.hid hNE
  clear hNE hw1
  have HNE3 := Lib.hid (show w.heap.size ≤ w.heap.size from HNE.out)
  clear HNE
  refine wp_region_lit ?_
  refine wpList_q (by rfl) (.slice (some ⟨b, off, none⟩) 8 cap) ?he ?_
  case he => (first | rfl | (go_simp; (try with_reducible rfl)))
  (try simp only [Act.put, sA, sB, sC])
  refine wpList_q (by rfl) (.int .i64 8) ?he ?_
  case he => (go_simp; (try with_reducible rfl))
  (try simp only [Act.put, sA, sB, sC])
  refine wpList_q (by rfl) (.bool false) ?he ?_
  case he => (go_simp; (try with_reducible rfl))
  (try simp only [Act.put, sA, sB, sC])
  refine wpList_q (by rfl) (.bool false) ?he ?_
  case he => (first | rfl | (go_simp; (try with_reducible rfl)))
  (try simp only [Act.put, sA, sB, sC])
  refine wpList_no (by rfl) ?_
  (try simp only [Act.put, sA, sB, sC])
  refine wpList_no (by rfl) ?_
  (try simp only [Act.put, sA, sB, sC])
  refine wpList_no (by rfl) ?_
  (try simp only [Act.put, sA, sB, sC])
  refine wpList_q (by rfl) (.bool false) ?he ?_
  case he => (first | rfl | (go_simp; (try with_reducible rfl)))
  (try simp only [Act.put, sA, sB, sC])
  refine wpList_q (by rfl) (.bool false) ?he ?_
  case he => (first | rfl | (go_simp; (try with_reducible rfl)))
  (try simp only [Act.put, sA, sB, sC])
  refine wpList_q (by rfl) (.slice (some ⟨b, off, none⟩) 8 cap) ?he ?_
  case he => (first | rfl | (go_simp; (try with_reducible rfl)))
  (try simp only [Act.put, sA, sB, sC])
  refine wpList_q (by rfl) (.pointer (some ⟨b, off, none⟩)) ?he ?_
  case he => (first | rfl | (go_simp; (try with_reducible rfl)))
  (try simp only [Act.put, sA, sB, sC])
  refine wpList_q (by rfl) (.int .u8 (z zs 0)) ?he ?_
  case he => exact exec_at 5 _ _ (keep_cell HS1.out (HC.out 0 (by omega))) rfl rfl Tryd.underlying5 rfl
  (try simp only [Act.put, sA, sB, sC])
  refine wpList_q (by rfl) (.bool true) ?he ?_
  case he => (go_simp; (first | done | (have q := HZ.out; omega)))
  (try simp only [Act.put, sA, sB, sC])
  refine wpList_q (by rfl) (.bool true) ?he ?_
  case he => (first | rfl | (go_simp; (try with_reducible rfl)))
  (try simp only [Act.put, sA, sB, sC])
  refine wpList_nil ?_
  go_upto_region 2 with fail
  refine wp_region_lit ?_
  refine wpList_q (by rfl) (.agg #[.int .i64 0, .int .i64 0, .int .i64 0, .int .i64 0, .bool false, .int .i64 0, .int .i64 0, .int .i64 0, .int .i64 0]) ?he ?_
  case he => kernel_rfl
  (try simp only [Act.put, sA, sB, sC])
  refine wpList_wp (by rfl) (fun K hK => ?_)
  refine wp_st_row 25 _ _ rfl #[.int .i64 0, .int .i64 0, .int .i64 0, .int .i64 0, .bool false, .int .i64 0, .int .i64 0, .int .i64 0, .int .i64 0] rfl rfl (HasRow.of HBR1.out rfl) rfl (by simp [pktC, msgC, Value.oneCell']) (by kernel_rfl) ?_
  intro w2 hw
  refine hK.out _ _ ?_
  clear hK K
  (try simp only [Act.put, sA, sB, sC])
  have HS2 := Lib.hid (show Since w w2 by rw [hw]; exact Since.setRow HS1.out (by have := HNE3.out; omega) _)
  have HBR2 := Lib.hid (show Blk w2 w.heap.size 25 #[.int .i64 0, .int .i64 0, .int .i64 0, .int .i64 0, .bool false, .int .i64 0, .int .i64 0, .int .i64 0, .int .i64 0] by rw [hw]; exact Blk.row HBR1.out _)
  clear hw HS1 HBR1
  refine wpList_q (by rfl) (.int .i64 2) ?he ?_
  case he => (first | rfl | (go_simp; (try with_reducible rfl)))
  (try simp only [Act.put, sA, sB, sC])
  refine wpList_nil ?_
  (try go_wp2_with fail)
  exact bodyPost_ret (results_row2 rfl _ _ w.heap.size 25 #[.int .i64 0, .int .i64 0, .int .i64 0, .int .i64 0, .bool false, .int .i64 0, .int .i64 0, .int .i64 0, .int .i64 0] _ (.int .i64 2) rfl rfl HBR2.out Tryd.underlying25 rfl (by kernel_rfl)) rfl ⟨rfl, HS2.out⟩
set_option maxHeartbeats 4000000 in
theorem pktZ21 (b off cap : Nat) (zs : List Int) (w : World) (h : BV w (some ⟨b, off, none⟩) 21 zs) (hz : z zs 0 ≠ 1) : Calls Tryd.prog 13 #[.slice (some ⟨b, off, none⟩) 21 cap] w fun e w' => e = .returned (.tuple #[.agg (pktC zeroP), .int .i64 2]) ∧ Since w w' := by
  have hl : zs.length = 21 := h.1
  obtain ⟨b', off', he, hlt, hcell⟩ := h.addr (by omega)
  obtain ⟨rfl, rfl⟩ : b = b' ∧ off = off' := by simp only [Option.some.injEq, Addr.mk.injEq, and_true] at he; exact he
  have HC := Lib.hid hcell
  have HI1 := Lib.hid (z_isB h.2.2.1 1)
  have HI2 := Lib.hid (z_isB h.2.2.1 2)
  have HI3 := Lib.hid (z_isB h.2.2.1 3)
  have HI4 := Lib.hid (z_isB h.2.2.1 4)
  have HI5 := Lib.hid (z_isB h.2.2.1 5)
  have HI6 := Lib.hid (z_isB h.2.2.1 6)
  have HI7 := Lib.hid (z_isB h.2.2.1 7)
  have HI8 := Lib.hid (z_isB h.2.2.1 8)
  have HI9 := Lib.hid (z_isB h.2.2.1 9)
  have HI10 := Lib.hid (z_isB h.2.2.1 10)
  have HI11 := Lib.hid (z_isB h.2.2.1 11)
  have HI12 := Lib.hid (z_isB h.2.2.1 12)
  have HI13 := Lib.hid (z_isB h.2.2.1 13)
  have HI14 := Lib.hid (z_isB h.2.2.1 14)
  have HI15 := Lib.hid (z_isB h.2.2.1 15)
  have HI16 := Lib.hid (z_isB h.2.2.1 16)
  have HI17 := Lib.hid (z_isB h.2.2.1 17)
  have HI18 := Lib.hid (z_isB h.2.2.1 18)
  have HI19 := Lib.hid (z_isB h.2.2.1 19)
  have HI20 := Lib.hid (z_isB h.2.2.1 20)
  clear he hlt hcell hl h
  have HZ := Lib.hid hz
  clear hz
  go_enter Tryd.func13, Tryd.ntmps13
  go_upto_region 1 with fail
  obtain ⟨w1, hw1⟩ : ∃ w1, w1 = (w.alloc (.cells #[.int .i64 0, .int .i64 0, .int .i64 0, .int .i64 0, .bool false, .int .i64 0, .int .i64 0, .int .i64 0, .int .i64 0] 25)) := ⟨_, rfl⟩
  rw [← hw1]
  have HBR1 := Lib.hid (show Blk w1 (w.heap.size) 25 #[.int .i64 0, .int .i64 0, .int .i64 0, .int .i64 0, .bool false, .int .i64 0, .int .i64 0, .int .i64 0, .int .i64 0] by rw [hw1]; exact Blk.at_ (by (try simp only [size_alloc])) _ _)
  have HS1 := Lib.hid (show Since w w1 by rw [hw1]; exact Since.alloc (Since.refl w) _)
  have hNE : w.heap.size ≤ w.heap.size := by omega
  have HNE := Lib.hid hNE
  clear hNE hw1
  have HNE3 := Lib.hid (show w.heap.size ≤ w.heap.size from HNE.out)
  clear HNE
  refine wp_region_lit ?_
  refine wpList_q (by rfl) (.slice (some ⟨b, off, none⟩) 21 cap) ?he ?_
  case he => (first | rfl | (go_simp; (try with_reducible rfl)))
  (try simp only [Act.put, sA, sB, sC])
  refine wpList_q (by rfl) (.int .i64 21) ?he ?_
  case he => (go_simp; (try with_reducible rfl))
  (try simp only [Act.put, sA, sB, sC])
  refine wpList_q (by rfl) (.bool true) ?he ?_
  case he => (go_simp; (try with_reducible rfl))
  (try simp only [Act.put, sA, sB, sC])
  refine wpList_q (by rfl) (.bool true) ?he ?_
  case he => (first | rfl | (go_simp; (try with_reducible rfl)))
  (try simp only [Act.put, sA, sB, sC])
  refine wpList_q (by rfl) (.slice (some ⟨b, off, none⟩) 21 cap) ?he ?_
  case he => (first | rfl | (go_simp; (try with_reducible rfl)))
  (try simp only [Act.put, sA, sB, sC])
  refine wpList_q (by rfl) (.int .i64 21) ?he ?_
  case he => (go_simp; (try with_reducible rfl))
  (try simp only [Act.put, sA, sB, sC])
  refine wpList_q (by rfl) (.bool false) ?he ?_
  case he => (go_simp; (try with_reducible rfl))
  (try simp only [Act.put, sA, sB, sC])
  refine wpList_q (by rfl) (.bool false) ?he ?_
  case he => (first | rfl | (go_simp; (try with_reducible rfl)))
  (try simp only [Act.put, sA, sB, sC])
  refine wpList_q (by rfl) (.bool false) ?he ?_
  case he => (first | rfl | (go_simp; (try with_reducible rfl)))
  (try simp only [Act.put, sA, sB, sC])
  refine wpList_q (by rfl) (.slice (some ⟨b, off, none⟩) 21 cap) ?he ?_
  case he => (first | rfl | (go_simp; (try with_reducible rfl)))
  (try simp only [Act.put, sA, sB, sC])
  refine wpList_q (by rfl) (.pointer (some ⟨b, off, none⟩)) ?he ?_
  case he => (first | rfl | (go_simp; (try with_reducible rfl)))
  (try simp only [Act.put, sA, sB, sC])
  refine wpList_q (by rfl) (.int .u8 (z zs 0)) ?he ?_
  case he => exact exec_at 5 _ _ (keep_cell HS1.out (HC.out 0 (by omega))) rfl rfl Tryd.underlying5 rfl
  (try simp only [Act.put, sA, sB, sC])
  refine wpList_q (by rfl) (.bool true) ?he ?_
  case he => (go_simp; (first | done | (have q := HZ.out; omega)))
  (try simp only [Act.put, sA, sB, sC])
  refine wpList_q (by rfl) (.bool true) ?he ?_
  case he => (first | rfl | (go_simp; (try with_reducible rfl)))
  (try simp only [Act.put, sA, sB, sC])
  refine wpList_nil ?_
  go_upto_region 2 with fail
  refine wp_region_lit ?_
  refine wpList_q (by rfl) (.agg #[.int .i64 0, .int .i64 0, .int .i64 0, .int .i64 0, .bool false, .int .i64 0, .int .i64 0, .int .i64 0, .int .i64 0]) ?he ?_
  case he => kernel_rfl
  (try simp only [Act.put, sA, sB, sC])
  refine wpList_wp (by rfl) (fun K hK => ?_)
  refine wp_st_row 25 _ _ rfl #[.int .i64 0, .int .i64 0, .int .i64 0, .int .i64 0, .bool false, .int .i64 0, .int .i64 0, .int .i64 0, .int .i64 0] rfl rfl (HasRow.of HBR1.out rfl) rfl (by simp [pktC, msgC, Value.oneCell']) (by kernel_rfl) ?_
  intro w2 hw
  refine hK.out _ _ ?_
  clear hK K
  (try simp only [Act.put, sA, sB, sC])
  have HS2 := Lib.hid (show Since w w2 by rw [hw]; exact Since.setRow HS1.out (by have := HNE3.out; omega) _)
  have HBR2 := Lib.hid (show Blk w2 w.heap.size 25 #[.int .i64 0, .int .i64 0, .int .i64 0, .int .i64 0, .bool false, .int .i64 0, .int .i64 0, .int .i64 0, .int .i64 0] by rw [hw]; exact Blk.row HBR1.out _)
  clear hw HS1 HBR1
  refine wpList_q (by rfl) (.int .i64 2) ?he ?_
  case he => (first | rfl | (go_simp; (try with_reducible rfl)))
  (try simp only [Act.put, sA, sB, sC])
  refine wpList_nil ?_
  (try go_wp2_with fail)
  exact bodyPost_ret (results_row2 rfl _ _ w.heap.size 25 #[.int .i64 0, .int .i64 0, .int .i64 0, .int .i64 0, .bool false, .int .i64 0, .int .i64 0, .int .i64 0, .int .i64 0] _ (.int .i64 2) rfl rfl HBR2.out Tryd.underlying25 rfl (by kernel_rfl)) rfl ⟨rfl, HS2.out⟩
set_option maxHeartbeats 4000000 in
theorem pktH (b off cap : Nat) (zs : List Int) (w : World) (h : BV w (some ⟨b, off, none⟩) 8 zs) (hz : z zs 0 = 1) : Calls Tryd.prog 13 #[.slice (some ⟨b, off, none⟩) 8 cap] w fun e w' => e = .returned (.tuple #[.agg (pktC (headP zs)), .int .i64 0]) ∧ Since w w' := by
  have hl : zs.length = 8 := h.1
  obtain ⟨b', off', he, hlt, hcell⟩ := h.addr (by omega)
  obtain ⟨rfl, rfl⟩ : b = b' ∧ off = off' := by simp only [Option.some.injEq, Addr.mk.injEq, and_true] at he; exact he
  have HC := Lib.hid hcell
  have HI1 := Lib.hid (z_isB h.2.2.1 1)
  have HI2 := Lib.hid (z_isB h.2.2.1 2)
  have HI3 := Lib.hid (z_isB h.2.2.1 3)
  have HI4 := Lib.hid (z_isB h.2.2.1 4)
  have HI5 := Lib.hid (z_isB h.2.2.1 5)
  have HI6 := Lib.hid (z_isB h.2.2.1 6)
  have HI7 := Lib.hid (z_isB h.2.2.1 7)
  clear he hlt hcell hl h
  have HZ := Lib.hid hz
  clear hz
  go_enter Tryd.func13, Tryd.ntmps13
  go_upto_region 1 with fail
  obtain ⟨w1, hw1⟩ : ∃ w1, w1 = (w.alloc (.cells #[.int .i64 0, .int .i64 0, .int .i64 0, .int .i64 0, .bool false, .int .i64 0, .int .i64 0, .int .i64 0, .int .i64 0] 25)) := ⟨_, rfl⟩
  rw [← hw1]
  have HBR1 := Lib.hid (show Blk w1 (w.heap.size) 25 #[.int .i64 0, .int .i64 0, .int .i64 0, .int .i64 0, .bool false, .int .i64 0, .int .i64 0, .int .i64 0, .int .i64 0] by rw [hw1]; exact Blk.at_ (by (try simp only [size_alloc])) _ _)
  have HS1 := Lib.hid (show Since w w1 by rw [hw1]; exact Since.alloc (Since.refl w) _)
  have hNE : w.heap.size ≤ w.heap.size := by omega
  have HNE := Lib.hid hNE
  clear hNE hw1
  have HNE3 := Lib.hid (show w.heap.size ≤ w.heap.size from HNE.out)
  clear HNE
  refine wp_region_lit ?_
  refine wpList_q (by rfl) (.slice (some ⟨b, off, none⟩) 8 cap) ?he ?_
  case he => (first | rfl | (go_simp; (try with_reducible rfl)))
  (try simp only [Act.put, sA, sB, sC])
  refine wpList_q (by rfl) (.int .i64 8) ?he ?_
  case he => (go_simp; (try with_reducible rfl))
  (try simp only [Act.put, sA, sB, sC])
  refine wpList_q (by rfl) (.bool false) ?he ?_
  case he => (go_simp; (try with_reducible rfl))
  (try simp only [Act.put, sA, sB, sC])
  refine wpList_q (by rfl) (.bool false) ?he ?_
  case he => (first | rfl | (go_simp; (try with_reducible rfl)))
  (try simp only [Act.put, sA, sB, sC])
  refine wpList_no (by rfl) ?_
  (try simp only [Act.put, sA, sB, sC])
  refine wpList_no (by rfl) ?_
  (try simp only [Act.put, sA, sB, sC])
  refine wpList_no (by rfl) ?_
  (try simp only [Act.put, sA, sB, sC])
  refine wpList_q (by rfl) (.bool false) ?he ?_
  case he => (first | rfl | (go_simp; (try with_reducible rfl)))
  (try simp only [Act.put, sA, sB, sC])
  refine wpList_q (by rfl) (.bool false) ?he ?_
  case he => (first | rfl | (go_simp; (try with_reducible rfl)))
  (try simp only [Act.put, sA, sB, sC])
  refine wpList_q (by rfl) (.slice (some ⟨b, off, none⟩) 8 cap) ?he ?_
  case he => (first | rfl | (go_simp; (try with_reducible rfl)))
  (try simp only [Act.put, sA, sB, sC])
  refine wpList_q (by rfl) (.pointer (some ⟨b, off, none⟩)) ?he ?_
  case he => (first | rfl | (go_simp; (try with_reducible rfl)))
  (try simp only [Act.put, sA, sB, sC])
  refine wpList_q (by rfl) (.int .u8 (z zs 0)) ?he ?_
  case he => exact exec_at 5 _ _ (keep_cell HS1.out (HC.out 0 (by omega))) rfl rfl Tryd.underlying5 rfl
  (try simp only [Act.put, sA, sB, sC])
  refine wpList_q (by rfl) (.bool false) ?he ?_
  case he => (go_simp; (first | done | (have q := HZ.out; omega)))
  (try simp only [Act.put, sA, sB, sC])
  refine wpList_q (by rfl) (.bool false) ?he ?_
  case he => (first | rfl | (go_simp; (try with_reducible rfl)))
  (try simp only [Act.put, sA, sB, sC])
  refine wpList_nil ?_
  go_upto_region 3 with fail
  have hrK : ∀ W W' : World, Since W W' → (Since w W ∧ Blk W w.heap.size 25 #[.int .i64 0, .int .i64 0, .int .i64 0, .int .i64 0, .bool false, .int .i64 0, .int .i64 0, .int .i64 0, .int .i64 0]) → (Since w W' ∧ Blk W' w.heap.size 25 #[.int .i64 0, .int .i64 0, .int .i64 0, .int .i64 0, .bool false, .int .i64 0, .int .i64 0, .int .i64 0, .int .i64 0]) := fun W W' k ⟨h, h0⟩ => ⟨h.trans k, keep_blk k h0⟩
  have hrS : (fun W : World => Since w W ∧ Blk W w.heap.size 25 #[.int .i64 0, .int .i64 0, .int .i64 0, .int .i64 0, .bool false, .int .i64 0, .int .i64 0, .int .i64 0, .int .i64 0]) w1 := ⟨HS1.out, HBR1.out⟩
  have HRK := Lib.hid hrK
  have HRD := Lib.hid (show (fun W : World => Since w W ∧ Blk W w.heap.size 25 #[.int .i64 0, .int .i64 0, .int .i64 0, .int .i64 0, .bool false, .int .i64 0, .int .i64 0, .int .i64 0, .int .i64 0]) (World.drew w1) from ⟨Since.drew hrS.1, hrS.2⟩)
  clear hrK hrS
  refine wp_region_held_drew (S := fun W : World => Since w W ∧ Blk W w.heap.size 25 #[.int .i64 0, .int .i64 0, .int .i64 0, .int .i64 0, .bool false, .int .i64 0, .int .i64 0, .int .i64 0, .int .i64 0]) (by kernel_rfl) HRD.out (fun hHeld => ?_)
  refine wpAnyH_take (i := 0) (oi := ?o3__0) (v := .slice (some ⟨b, off, none⟩) 8 cap) ?h3__0 (by kernel_rfl) (by kernel_rfl) (by kernel_rfl) ?q3__0 ?y3__0 (by assumption) ?_
  case h3__0 => (first | (simp only [gA, gB, gC]; done) | (simp only [gA, gB, gC]; exact rfl))
  case q3__0 => exact fun _ _ _ h => h
  case y3__0 => (refine Or.inl ⟨rfl, ?_⟩; intro w hSw; (first | rfl | (go_simp; (try with_reducible rfl))))
  (try simp only [Act.put, sA, sB, sC])
  refine wpAnyH_take (i := 1) (oi := ?o3__1) (v := .pointer (some ⟨b, (off + 1), none⟩)) ?h3__1 (by kernel_rfl) (by kernel_rfl) (by kernel_rfl) ?q3__1 ?y3__1 (by assumption) ?_
  case h3__1 => (first | (simp only [gA, gB, gC]; done) | (simp only [gA, gB, gC]; exact rfl))
  case q3__1 => exact fun _ _ _ h => h
  case y3__1 => (refine Or.inl ⟨rfl, ?_⟩; intro w hSw; (first | rfl | (go_simp; (try with_reducible rfl))))
  (try simp only [Act.put, sA, sB, sC])
  refine wpAnyH_take (i := 2) (oi := ?o3__2) (v := .int .u8 (z zs 1)) ?h3__2 (by kernel_rfl) (by kernel_rfl) (by kernel_rfl) ?q3__2 ?y3__2 (by assumption) ?_
  case h3__2 => (first | (simp only [gA, gB, gC]; done) | (simp only [gA, gB, gC]; exact rfl))
  case q3__2 => exact fun _ _ _ h => h
  case y3__2 => (refine Or.inl ⟨rfl, ?_⟩; intro w hSw; exact exec_at 5 _ _ (keep_cell hSw.1 (HC.out 1 (by omega))) rfl rfl Tryd.underlying5 rfl)
  (try simp only [Act.put, sA, sB, sC])
  refine wpAnyH_take (i := 3) (oi := ?o3__3) (v := .int .i64 (z zs 1)) ?h3__3 (by kernel_rfl) (by kernel_rfl) (by kernel_rfl) ?q3__3 ?y3__3 (by assumption) ?_
  case h3__3 => (first | (simp only [gA, gB, gC]; done) | (simp only [gA, gB, gC]; exact rfl))
  case q3__3 => exact fun _ _ _ h => h
  case y3__3 => (refine Or.inl ⟨rfl, ?_⟩; intro w hSw; (have q := HI1.out; go_simp; exact wr64 _ (by omega) (by omega)))
  (try simp only [Act.put, sA, sB, sC])
  refine wpAnyH_take (i := 4) (oi := ?o3__4) (v := .slice (some ⟨b, off, none⟩) 8 cap) ?h3__4 (by kernel_rfl) (by kernel_rfl) (by kernel_rfl) ?q3__4 ?y3__4 (by assumption) ?_
  case h3__4 => (first | (simp only [gA, gB, gC]; done) | (simp only [gA, gB, gC]; exact rfl))
  case q3__4 => exact fun _ _ _ h => h
  case y3__4 => (refine Or.inl ⟨rfl, ?_⟩; intro w hSw; (first | rfl | (go_simp; (try with_reducible rfl))))
  (try simp only [Act.put, sA, sB, sC])
  refine wpAnyH_take (i := 5) (oi := ?o3__5) (v := .pointer (some ⟨b, (off + 2), none⟩)) ?h3__5 (by kernel_rfl) (by kernel_rfl) (by kernel_rfl) ?q3__5 ?y3__5 (by assumption) ?_
  case h3__5 => (first | (simp only [gA, gB, gC]; done) | (simp only [gA, gB, gC]; exact rfl))
  case q3__5 => exact fun _ _ _ h => h
  case y3__5 => (refine Or.inl ⟨rfl, ?_⟩; intro w hSw; (first | rfl | (go_simp; (try with_reducible rfl))))
  (try simp only [Act.put, sA, sB, sC])
  refine wpAnyH_take (i := 6) (oi := ?o3__6) (v := .int .u8 (z zs 2)) ?h3__6 (by kernel_rfl) (by kernel_rfl) (by kernel_rfl) ?q3__6 ?y3__6 (by assumption) ?_
  case h3__6 => (first | (simp only [gA, gB, gC]; done) | (simp only [gA, gB, gC]; exact rfl))
  case q3__6 => exact fun _ _ _ h => h
  case y3__6 => (refine Or.inl ⟨rfl, ?_⟩; intro w hSw; exact exec_at 5 _ _ (keep_cell hSw.1 (HC.out 2 (by omega))) rfl rfl Tryd.underlying5 rfl)
  (try simp only [Act.put, sA, sB, sC])
  refine wpAnyH_take (i := 7) (oi := ?o3__7) (v := .int .i64 (z zs 2)) ?h3__7 (by kernel_rfl) (by kernel_rfl) (by kernel_rfl) ?q3__7 ?y3__7 (by assumption) ?_
  case h3__7 => (first | (simp only [gA, gB, gC]; done) | (simp only [gA, gB, gC]; exact rfl))
  case q3__7 => exact fun _ _ _ h => h
  case y3__7 => (refine Or.inl ⟨rfl, ?_⟩; intro w hSw; (have q := HI2.out; go_simp; exact wr64 _ (by omega) (by omega)))
  (try simp only [Act.put, sA, sB, sC])
  refine wpAnyH_take (i := 8) (oi := ?o3__8) (v := .int .i64 (z zs 2 * 256)) ?h3__8 (by kernel_rfl) (by kernel_rfl) (by kernel_rfl) ?q3__8 ?y3__8 (by assumption) ?_
  case h3__8 => (first | (simp only [gA, gB, gC]; done) | (simp only [gA, gB, gC]; exact rfl))
  case q3__8 => exact fun _ _ _ h => h
  case y3__8 => (refine Or.inl ⟨rfl, ?_⟩; intro w hSw; (have q2 := HI2.out; go_simp; (first | done | exact wr64 _ (by omega) (by omega))))
  (try simp only [Act.put, sA, sB, sC])
  refine wpAnyH_take (i := 9) (oi := ?o3__9) (v := .slice (some ⟨b, off, none⟩) 8 cap) ?h3__9 (by kernel_rfl) (by kernel_rfl) (by kernel_rfl) ?q3__9 ?y3__9 (by assumption) ?_
  case h3__9 => (first | (simp only [gA, gB, gC]; done) | (simp only [gA, gB, gC]; exact rfl))
  case q3__9 => exact fun _ _ _ h => h
  case y3__9 => (refine Or.inl ⟨rfl, ?_⟩; intro w hSw; (first | rfl | (go_simp; (try with_reducible rfl))))
  (try simp only [Act.put, sA, sB, sC])
  refine wpAnyH_take (i := 10) (oi := ?o3__10) (v := .pointer (some ⟨b, (off + 3), none⟩)) ?h3__10 (by kernel_rfl) (by kernel_rfl) (by kernel_rfl) ?q3__10 ?y3__10 (by assumption) ?_
  case h3__10 => (first | (simp only [gA, gB, gC]; done) | (simp only [gA, gB, gC]; exact rfl))
  case q3__10 => exact fun _ _ _ h => h
  case y3__10 => (refine Or.inl ⟨rfl, ?_⟩; intro w hSw; (first | rfl | (go_simp; (try with_reducible rfl))))
  (try simp only [Act.put, sA, sB, sC])
  refine wpAnyH_take (i := 11) (oi := ?o3__11) (v := .int .u8 (z zs 3)) ?h3__11 (by kernel_rfl) (by kernel_rfl) (by kernel_rfl) ?q3__11 ?y3__11 (by assumption) ?_
  case h3__11 => (first | (simp only [gA, gB, gC]; done) | (simp only [gA, gB, gC]; exact rfl))
  case q3__11 => exact fun _ _ _ h => h
  case y3__11 => (refine Or.inl ⟨rfl, ?_⟩; intro w hSw; exact exec_at 5 _ _ (keep_cell hSw.1 (HC.out 3 (by omega))) rfl rfl Tryd.underlying5 rfl)
  (try simp only [Act.put, sA, sB, sC])
  refine wpAnyH_take (i := 12) (oi := ?o3__12) (v := .int .i64 (z zs 3)) ?h3__12 (by kernel_rfl) (by kernel_rfl) (by kernel_rfl) ?q3__12 ?y3__12 (by assumption) ?_
  case h3__12 => (first | (simp only [gA, gB, gC]; done) | (simp only [gA, gB, gC]; exact rfl))
  case q3__12 => exact fun _ _ _ h => h
  case y3__12 => (refine Or.inl ⟨rfl, ?_⟩; intro w hSw; (have q := HI3.out; go_simp; exact wr64 _ (by omega) (by omega)))
  (try simp only [Act.put, sA, sB, sC])
  refine wpAnyH_take (i := 13) (oi := ?o3__13) (v := .int .i64 (num2 (z zs 2) (z zs 3))) ?h3__13 (by kernel_rfl) (by kernel_rfl) (by kernel_rfl) ?q3__13 ?y3__13 (by assumption) ?_
  case h3__13 => (first | (simp only [gA, gB, gC]; done) | (simp only [gA, gB, gC]; exact rfl))
  case q3__13 => exact fun _ _ _ h => h
  case y3__13 => (refine Or.inl ⟨rfl, ?_⟩; intro w hSw; (have q2 := HI2.out; have q3 := HI3.out; unfold num2; go_simp; (first | done | exact wr64 _ (by omega) (by omega))))
  (try simp only [Act.put, sA, sB, sC])
  refine wpAnyH_take (i := 14) (oi := ?o3__14) (v := .slice (some ⟨b, off, none⟩) 8 cap) ?h3__14 (by kernel_rfl) (by kernel_rfl) (by kernel_rfl) ?q3__14 ?y3__14 (by assumption) ?_
  case h3__14 => (first | (simp only [gA, gB, gC]; done) | (simp only [gA, gB, gC]; exact rfl))
  case q3__14 => exact fun _ _ _ h => h
  case y3__14 => (refine Or.inl ⟨rfl, ?_⟩; intro w hSw; (first | rfl | (go_simp; (try with_reducible rfl))))
  (try simp only [Act.put, sA, sB, sC])
  refine wpAnyH_take (i := 15) (oi := ?o3__15) (v := .pointer (some ⟨b, (off + 4), none⟩)) ?h3__15 (by kernel_rfl) (by kernel_rfl) (by kernel_rfl) ?q3__15 ?y3__15 (by assumption) ?_
  case h3__15 => (first | (simp only [gA, gB, gC]; done) | (simp only [gA, gB, gC]; exact rfl))
  case q3__15 => exact fun _ _ _ h => h
  case y3__15 => (refine Or.inl ⟨rfl, ?_⟩; intro w hSw; (first | rfl | (go_simp; (try with_reducible rfl))))
  (try simp only [Act.put, sA, sB, sC])
  refine wpAnyH_take (i := 16) (oi := ?o3__16) (v := .int .u8 (z zs 4)) ?h3__16 (by kernel_rfl) (by kernel_rfl) (by kernel_rfl) ?q3__16 ?y3__16 (by assumption) ?_
  case h3__16 => (first | (simp only [gA, gB, gC]; done) | (simp only [gA, gB, gC]; exact rfl))
  case q3__16 => exact fun _ _ _ h => h
  case y3__16 => (refine Or.inl ⟨rfl, ?_⟩; intro w hSw; exact exec_at 5 _ _ (keep_cell hSw.1 (HC.out 4 (by omega))) rfl rfl Tryd.underlying5 rfl)
  (try simp only [Act.put, sA, sB, sC])
  refine wpAnyH_take (i := 17) (oi := ?o3__17) (v := .int .i64 (z zs 4)) ?h3__17 (by kernel_rfl) (by kernel_rfl) (by kernel_rfl) ?q3__17 ?y3__17 (by assumption) ?_
  case h3__17 => (first | (simp only [gA, gB, gC]; done) | (simp only [gA, gB, gC]; exact rfl))
  case q3__17 => exact fun _ _ _ h => h
  case y3__17 => (refine Or.inl ⟨rfl, ?_⟩; intro w hSw; (have q := HI4.out; go_simp; exact wr64 _ (by omega) (by omega)))
  (try simp only [Act.put, sA, sB, sC])
  refine wpAnyH_take (i := 18) (oi := ?o3__18) (v := .int .i64 (z zs 4 * 256)) ?h3__18 (by kernel_rfl) (by kernel_rfl) (by kernel_rfl) ?q3__18 ?y3__18 (by assumption) ?_
  case h3__18 => (first | (simp only [gA, gB, gC]; done) | (simp only [gA, gB, gC]; exact rfl))
  case q3__18 => exact fun _ _ _ h => h
  case y3__18 => (refine Or.inl ⟨rfl, ?_⟩; intro w hSw; (have q4 := HI4.out; go_simp; (first | done | exact wr64 _ (by omega) (by omega))))
  (try simp only [Act.put, sA, sB, sC])
  refine wpAnyH_take (i := 19) (oi := ?o3__19) (v := .slice (some ⟨b, off, none⟩) 8 cap) ?h3__19 (by kernel_rfl) (by kernel_rfl) (by kernel_rfl) ?q3__19 ?y3__19 (by assumption) ?_
  case h3__19 => (first | (simp only [gA, gB, gC]; done) | (simp only [gA, gB, gC]; exact rfl))
  case q3__19 => exact fun _ _ _ h => h
  case y3__19 => (refine Or.inl ⟨rfl, ?_⟩; intro w hSw; (first | rfl | (go_simp; (try with_reducible rfl))))
  (try simp only [Act.put, sA, sB, sC])
  refine wpAnyH_take (i := 20) (oi := ?o3__20) (v := .pointer (some ⟨b, (off + 5), none⟩)) ?h3__20 (by kernel_rfl) (by kernel_rfl) (by kernel_rfl) ?q3__20 ?y3__20 (by assumption) ?_
  case h3__20 => (first | (simp only [gA, gB, gC]; done) | (simp only [gA, gB, gC]; exact rfl))
  case q3__20 => exact fun _ _ _ h => h
  case y3__20 => (refine Or.inl ⟨rfl, ?_⟩; intro w hSw; (first | rfl | (go_simp; (try with_reducible rfl))))
  (try simp only [Act.put, sA, sB, sC])
  refine wpAnyH_take (i := 21) (oi := ?o3__21) (v := .int .u8 (z zs 5)) ?h3__21 (by kernel_rfl) (by kernel_rfl) (by kernel_rfl) ?q3__21 ?y3__21 (by assumption) ?_
  case h3__21 => (first | (simp only [gA, gB, gC]; done) | (simp only [gA, gB, gC]; exact rfl))
  case q3__21 => exact fun _ _ _ h => h
  case y3__21 => (refine Or.inl ⟨rfl, ?_⟩; intro w hSw; exact exec_at 5 _ _ (keep_cell hSw.1 (HC.out 5 (by omega))) rfl rfl Tryd.underlying5 rfl)
  (try simp only [Act.put, sA, sB, sC])
  refine wpAnyH_take (i := 22) (oi := ?o3__22) (v := .int .i64 (z zs 5)) ?h3__22 (by kernel_rfl) (by kernel_rfl) (by kernel_rfl) ?q3__22 ?y3__22 (by assumption) ?_
  case h3__22 => (first | (simp only [gA, gB, gC]; done) | (simp only [gA, gB, gC]; exact rfl))
  case q3__22 => exact fun _ _ _ h => h
  case y3__22 => (refine Or.inl ⟨rfl, ?_⟩; intro w hSw; (have q := HI5.out; go_simp; exact wr64 _ (by omega) (by omega)))
  (try simp only [Act.put, sA, sB, sC])
  refine wpAnyH_take (i := 23) (oi := ?o3__23) (v := .int .i64 (num2 (z zs 4) (z zs 5))) ?h3__23 (by kernel_rfl) (by kernel_rfl) (by kernel_rfl) ?q3__23 ?y3__23 (by assumption) ?_
  case h3__23 => (first | (simp only [gA, gB, gC]; done) | (simp only [gA, gB, gC]; exact rfl))
  case q3__23 => exact fun _ _ _ h => h
  case y3__23 => (refine Or.inl ⟨rfl, ?_⟩; intro w hSw; (have q4 := HI4.out; have q5 := HI5.out; unfold num2; go_simp; (first | done | exact wr64 _ (by omega) (by omega))))
  (try simp only [Act.put, sA, sB, sC])
  refine wpAnyH_take (i := 24) (oi := ?o3__24) (v := .slice (some ⟨b, off, none⟩) 8 cap) ?h3__24 (by kernel_rfl) (by kernel_rfl) (by kernel_rfl) ?q3__24 ?y3__24 (by assumption) ?_
  case h3__24 => (first | (simp only [gA, gB, gC]; done) | (simp only [gA, gB, gC]; exact rfl))
  case q3__24 => exact fun _ _ _ h => h
  case y3__24 => (refine Or.inl ⟨rfl, ?_⟩; intro w hSw; (first | rfl | (go_simp; (try with_reducible rfl))))
  (try simp only [Act.put, sA, sB, sC])
  refine wpAnyH_take (i := 25) (oi := ?o3__25) (v := .pointer (some ⟨b, (off + 6), none⟩)) ?h3__25 (by kernel_rfl) (by kernel_rfl) (by kernel_rfl) ?q3__25 ?y3__25 (by assumption) ?_
  case h3__25 => (first | (simp only [gA, gB, gC]; done) | (simp only [gA, gB, gC]; exact rfl))
  case q3__25 => exact fun _ _ _ h => h
  case y3__25 => (refine Or.inl ⟨rfl, ?_⟩; intro w hSw; (first | rfl | (go_simp; (try with_reducible rfl))))
  (try simp only [Act.put, sA, sB, sC])
  refine wpAnyH_take (i := 26) (oi := ?o3__26) (v := .int .u8 (z zs 6)) ?h3__26 (by kernel_rfl) (by kernel_rfl) (by kernel_rfl) ?q3__26 ?y3__26 (by assumption) ?_
  case h3__26 => (first | (simp only [gA, gB, gC]; done) | (simp only [gA, gB, gC]; exact rfl))
  case q3__26 => exact fun _ _ _ h => h
  case y3__26 => (refine Or.inl ⟨rfl, ?_⟩; intro w hSw; exact exec_at 5 _ _ (keep_cell hSw.1 (HC.out 6 (by omega))) rfl rfl Tryd.underlying5 rfl)
  (try simp only [Act.put, sA, sB, sC])
  refine wpAnyH_take (i := 27) (oi := ?o3__27) (v := .int .i64 (z zs 6)) ?h3__27 (by kernel_rfl) (by kernel_rfl) (by kernel_rfl) ?q3__27 ?y3__27 (by assumption) ?_
  case h3__27 => (first | (simp only [gA, gB, gC]; done) | (simp only [gA, gB, gC]; exact rfl))
  case q3__27 => exact fun _ _ _ h => h
  case y3__27 => (refine Or.inl ⟨rfl, ?_⟩; intro w hSw; (have q := HI6.out; go_simp; exact wr64 _ (by omega) (by omega)))
  (try simp only [Act.put, sA, sB, sC])
  refine wpAnyH_take (i := 28) (oi := ?o3__28) (v := .int .i64 (z zs 6 * 256)) ?h3__28 (by kernel_rfl) (by kernel_rfl) (by kernel_rfl) ?q3__28 ?y3__28 (by assumption) ?_
  case h3__28 => (first | (simp only [gA, gB, gC]; done) | (simp only [gA, gB, gC]; exact rfl))
  case q3__28 => exact fun _ _ _ h => h
  case y3__28 => (refine Or.inl ⟨rfl, ?_⟩; intro w hSw; (have q6 := HI6.out; go_simp; (first | done | exact wr64 _ (by omega) (by omega))))
  (try simp only [Act.put, sA, sB, sC])
  refine wpAnyH_take (i := 29) (oi := ?o3__29) (v := .slice (some ⟨b, off, none⟩) 8 cap) ?h3__29 (by kernel_rfl) (by kernel_rfl) (by kernel_rfl) ?q3__29 ?y3__29 (by assumption) ?_
  case h3__29 => (first | (simp only [gA, gB, gC]; done) | (simp only [gA, gB, gC]; exact rfl))
  case q3__29 => exact fun _ _ _ h => h
  case y3__29 => (refine Or.inl ⟨rfl, ?_⟩; intro w hSw; (first | rfl | (go_simp; (try with_reducible rfl))))
  (try simp only [Act.put, sA, sB, sC])
  refine wpAnyH_take (i := 30) (oi := ?o3__30) (v := .pointer (some ⟨b, (off + 7), none⟩)) ?h3__30 (by kernel_rfl) (by kernel_rfl) (by kernel_rfl) ?q3__30 ?y3__30 (by assumption) ?_
  case h3__30 => (first | (simp only [gA, gB, gC]; done) | (simp only [gA, gB, gC]; exact rfl))
  case q3__30 => exact fun _ _ _ h => h
  case y3__30 => (refine Or.inl ⟨rfl, ?_⟩; intro w hSw; (first | rfl | (go_simp; (try with_reducible rfl))))
  (try simp only [Act.put, sA, sB, sC])
  refine wpAnyH_take (i := 31) (oi := ?o3__31) (v := .int .u8 (z zs 7)) ?h3__31 (by kernel_rfl) (by kernel_rfl) (by kernel_rfl) ?q3__31 ?y3__31 (by assumption) ?_
  case h3__31 => (first | (simp only [gA, gB, gC]; done) | (simp only [gA, gB, gC]; exact rfl))
  case q3__31 => exact fun _ _ _ h => h
  case y3__31 => (refine Or.inl ⟨rfl, ?_⟩; intro w hSw; exact exec_at 5 _ _ (keep_cell hSw.1 (HC.out 7 (by omega))) rfl rfl Tryd.underlying5 rfl)
  (try simp only [Act.put, sA, sB, sC])
  refine wpAnyH_take (i := 32) (oi := ?o3__32) (v := .int .i64 (z zs 7)) ?h3__32 (by kernel_rfl) (by kernel_rfl) (by kernel_rfl) ?q3__32 ?y3__32 (by assumption) ?_
  case h3__32 => (first | (simp only [gA, gB, gC]; done) | (simp only [gA, gB, gC]; exact rfl))
  case q3__32 => exact fun _ _ _ h => h
  case y3__32 => (refine Or.inl ⟨rfl, ?_⟩; intro w hSw; (have q := HI7.out; go_simp; exact wr64 _ (by omega) (by omega)))
  (try simp only [Act.put, sA, sB, sC])
  refine wpAnyH_take (i := 33) (oi := ?o3__33) (v := .int .i64 (num2 (z zs 6) (z zs 7))) ?h3__33 (by kernel_rfl) (by kernel_rfl) (by kernel_rfl) ?q3__33 ?y3__33 (by assumption) ?_
  case h3__33 => (first | (simp only [gA, gB, gC]; done) | (simp only [gA, gB, gC]; exact rfl))
  case q3__33 => exact fun _ _ _ h => h
  case y3__33 => (refine Or.inl ⟨rfl, ?_⟩; intro w hSw; (have q6 := HI6.out; have q7 := HI7.out; unfold num2; go_simp; (first | done | exact wr64 _ (by omega) (by omega))))
  (try simp only [Act.put, sA, sB, sC])
  refine wpAnyH_take (i := 34) (oi := ?o3__34) (v := .agg #[.int .i64 (z zs 1), .int .i64 (num2 (z zs 2) (z zs 3)), .int .i64 (num2 (z zs 4) (z zs 5)), .int .i64 (num2 (z zs 6) (z zs 7)), .bool false, .int .i64 0, .int .i64 0, .int .i64 0, .int .i64 0]) ?h3__34 (by kernel_rfl) (by kernel_rfl) (by kernel_rfl) ?q3__34 ?y3__34 (by assumption) ?_
  case h3__34 => (first | (simp only [gA, gB, gC]; done) | (simp only [gA, gB, gC]; exact rfl))
  case q3__34 => exact fun _ _ _ h => h
  case y3__34 => (refine Or.inl ⟨rfl, ?_⟩; intro w hSw; kernel_rfl)
  (try simp only [Act.put, sA, sB, sC])
  refine wpAnyH_ready (rs := [35]) (by kernel_rfl) (by simp) ?_
  refine AllReadyH.cons (o := ?o3__35) ?h3__35 (fun K hK => ?_) AllReadyH.nil
  case h3__35 => (first | (simp only [gA, gB, gC]; done) | (simp only [gA, gB, gC]; exact rfl))
  rw [if_pos (by rfl)]
  refine wp_new (fun b => .pointer (some ⟨b, 0, none⟩)) 25 #[.int .i64 0, .int .i64 0, .int .i64 0, .int .i64 0, .bool false, .int .i64 0, .int .i64 0, .int .i64 0, .int .i64 0] (by rintro b rfl; first | rfl | kernel_rfl) ?_
  intro bn4 w2 hge hB hb
  refine hK.out _ _ (by (apply HRK.out; exact hb; exact hHeld)) (fun hHeld2 => ?_)
  have HNn4R := Lib.hid (show bn4 ≠ w.heap.size by have := Blk.lt (hHeld.2); (try simp at this); (try simp at hge); omega)
  have HGn4 := Lib.hid (show w.heap.size ≤ bn4 by have := Since.size hHeld.1; (try simp at this); (try simp at hge); omega)
  have HXn4 := Lib.hid hB
  clear hB
  clear hge
  clear hK K hHeld hb
  have hHeld := hHeld2
  clear hHeld2
  (try simp only [Act.put, sA, sB, sC])
  refine wpAnyH_ready (rs := [36]) (by kernel_rfl) (by simp) ?_
  refine AllReadyH.cons (o := ?o3__36) ?h3__36 (fun K hK => ?_) AllReadyH.nil
  case h3__36 => (first | (simp only [gA, gB, gC]; done) | (simp only [gA, gB, gC]; exact rfl))
  rw [if_pos (by rfl)]
  refine wp_st_row 25 _ _ rfl #[.int .i64 (z zs 1), .int .i64 (num2 (z zs 2) (z zs 3)), .int .i64 (num2 (z zs 4) (z zs 5)), .int .i64 (num2 (z zs 6) (z zs 7)), .bool false, .int .i64 0, .int .i64 0, .int .i64 0, .int .i64 0] rfl rfl (HasRow.of HXn4.out rfl) rfl (by simp [pktC, msgC, Value.oneCell']) (by kernel_rfl) ?_
  intro w3 hw
  have HXn42 := Lib.hid (show Blk w3 bn4 25 #[.int .i64 (z zs 1), .int .i64 (num2 (z zs 2) (z zs 3)), .int .i64 (num2 (z zs 4) (z zs 5)), .int .i64 (num2 (z zs 6) (z zs 7)), .bool false, .int .i64 0, .int .i64 0, .int .i64 0, .int .i64 0] by rw [hw]; exact Blk.row HXn4.out _)
  have hHeld3 : (fun W : World => Since w W ∧ Blk W w.heap.size 25 #[.int .i64 0, .int .i64 0, .int .i64 0, .int .i64 0, .bool false, .int .i64 0, .int .i64 0, .int .i64 0, .int .i64 0]) w3 := ⟨by rw [hw]; exact Since.setRow hHeld.1 HGn4.out _, by rw [hw]; exact Blk.row_far (hHeld.2) (Ne.symm HNn4R.out) _⟩
  refine hK.out _ _ hHeld3 (fun hHeld2 => ?_)
  clear HXn4 hK K hHeld hHeld3 hw
  have hHeld := hHeld2
  clear hHeld2
  (try simp only [Act.put, sA, sB, sC])
  refine wpAnyH_done (by kernel_rfl) ?_ _
  have HSd3 := Lib.hid hHeld.1
  have HBRd3 := Lib.hid (hHeld.2)
  clear hHeld HRK HRD HS1 HBR1
  go_upto_region 4 with fail
  refine wp_region_lit ?_
  refine wpList_q (by rfl) (.slice (some ⟨b, off, none⟩) 8 cap) ?he ?_
  case he => (first | rfl | (go_simp; (try with_reducible rfl)))
  (try simp only [Act.put, sA, sB, sC])
  refine wpList_q (by rfl) (.int .i64 8) ?he ?_
  case he => (go_simp; (try with_reducible rfl))
  (try simp only [Act.put, sA, sB, sC])
  refine wpList_q (by rfl) (.bool true) ?he ?_
  case he => (go_simp; (try with_reducible rfl))
  (try simp only [Act.put, sA, sB, sC])
  refine wpList_nil ?_
  go_upto_region 5 with fail
  refine wp_region_lit ?_
  refine wpList_q (by rfl) (.agg #[.int .i64 (z zs 1), .int .i64 (num2 (z zs 2) (z zs 3)), .int .i64 (num2 (z zs 4) (z zs 5)), .int .i64 (num2 (z zs 6) (z zs 7)), .bool false, .int .i64 0, .int .i64 0, .int .i64 0, .int .i64 0]) ?he ?_
  case he => exact exec_load_row 25 _ _ HXn42.out rfl rfl Tryd.underlying25 rfl (by kernel_rfl)
  (try simp only [Act.put, sA, sB, sC])
  refine wpList_wp (by rfl) (fun K hK => ?_)
  refine wp_st_row 25 _ _ rfl #[.int .i64 (z zs 1), .int .i64 (num2 (z zs 2) (z zs 3)), .int .i64 (num2 (z zs 4) (z zs 5)), .int .i64 (num2 (z zs 6) (z zs 7)), .bool false, .int .i64 0, .int .i64 0, .int .i64 0, .int .i64 0] rfl rfl (HasRow.of HBRd3.out rfl) rfl (by simp [pktC, msgC, Value.oneCell']) (by kernel_rfl) ?_
  intro w4 hw
  refine hK.out _ _ ?_
  clear hK K
  (try simp only [Act.put, sA, sB, sC])
  have HS4 := Lib.hid (show Since w w4 by rw [hw]; exact Since.setRow HSd3.out (by have := HNE3.out; omega) _)
  have HBR4 := Lib.hid (show Blk w4 w.heap.size 25 #[.int .i64 (z zs 1), .int .i64 (num2 (z zs 2) (z zs 3)), .int .i64 (num2 (z zs 4) (z zs 5)), .int .i64 (num2 (z zs 6) (z zs 7)), .bool false, .int .i64 0, .int .i64 0, .int .i64 0, .int .i64 0] by rw [hw]; exact Blk.row HBRd3.out _)
  have HBn44 := Lib.hid (show Blk w4 bn4 25 #[.int .i64 (z zs 1), .int .i64 (num2 (z zs 2) (z zs 3)), .int .i64 (num2 (z zs 4) (z zs 5)), .int .i64 (num2 (z zs 6) (z zs 7)), .bool false, .int .i64 0, .int .i64 0, .int .i64 0, .int .i64 0] by rw [hw]; exact Blk.row_far HXn42.out HNn4R.out _)
  clear hw HSd3 HBRd3 HXn42
  refine wpList_q (by rfl) (.int .i64 0) ?he ?_
  case he => (first | rfl | (go_simp; (try with_reducible rfl)))
  (try simp only [Act.put, sA, sB, sC])
  refine wpList_nil ?_
  (try go_wp2_with fail)
  exact bodyPost_ret (results_row2 rfl _ _ w.heap.size 25 #[.int .i64 (z zs 1), .int .i64 (num2 (z zs 2) (z zs 3)), .int .i64 (num2 (z zs 4) (z zs 5)), .int .i64 (num2 (z zs 6) (z zs 7)), .bool false, .int .i64 0, .int .i64 0, .int .i64 0, .int .i64 0] _ (.int .i64 0) rfl rfl HBR4.out Tryd.underlying25 rfl (by kernel_rfl)) rfl ⟨rfl, HS4.out⟩
def bodyV (zs : List Int) : PktV × Int := if ¬ (1 ≤ z zs 8 ∧ z zs 8 ≤ 16) then (zeroP, 4) else if mayB (bodyP zs) = true then (bodyP zs, 0) else (zeroP, 2)
theorem pkt_low (zs : List Int) (h : z zs 8 < 1) : Ending.returned (.tuple #[.agg #[.int .i64 0, .int .i64 0, .int .i64 0, .int .i64 0, .bool false, .int .i64 0, .int .i64 0, .int .i64 0, .int .i64 0], .int .i64 4]) = .returned (.tuple #[.agg (pktC (bodyV zs).1), .int .i64 (bodyV zs).2]) := by
  rw [show bodyV zs = (zeroP, 4) by unfold bodyV; rw [if_pos (by omega)]]; rfl
theorem pkt_big (zs : List Int) (h : 16 < z zs 8) : Ending.returned (.tuple #[.agg #[.int .i64 0, .int .i64 0, .int .i64 0, .int .i64 0, .bool false, .int .i64 0, .int .i64 0, .int .i64 0, .int .i64 0], .int .i64 4]) = .returned (.tuple #[.agg (pktC (bodyV zs).1), .int .i64 (bodyV zs).2]) := by
  rw [show bodyV zs = (zeroP, 4) by unfold bodyV; rw [if_pos (by omega)]]; rfl
theorem pkt_bad (zs : List Int) (h : ¬ z zs 8 < 1) (h2 : ¬ 16 < z zs 8) (hg : mayB (bodyP zs) = false) : Ending.returned (.tuple #[.agg #[.int .i64 0, .int .i64 0, .int .i64 0, .int .i64 0, .bool false, .int .i64 0, .int .i64 0, .int .i64 0, .int .i64 0], .int .i64 2]) = .returned (.tuple #[.agg (pktC (bodyV zs).1), .int .i64 (bodyV zs).2]) := by
  rw [show bodyV zs = (zeroP, 2) by unfold bodyV; rw [if_neg (by omega), if_neg (by rw [hg]; decide)]]; rfl
theorem pkt_ok (zs : List Int) (h : ¬ z zs 8 < 1) (h2 : ¬ 16 < z zs 8) (hg : mayB (bodyP zs) = true) : Ending.returned (.tuple #[.agg (pktC (bodyP zs)), .int .i64 0]) = .returned (.tuple #[.agg (pktC (bodyV zs).1), .int .i64 (bodyV zs).2]) := by
  rw [show bodyV zs = (bodyP zs, 0) by unfold bodyV; rw [if_neg (by omega), if_pos hg]]
set_option maxHeartbeats 8000000 in
theorem pktB (b off cap : Nat) (zs : List Int) (w : World) (h : BV w (some ⟨b, off, none⟩) 21 zs) (hz : z zs 0 = 1) : Calls Tryd.prog 13 #[.slice (some ⟨b, off, none⟩) 21 cap] w fun e w' => e = .returned (.tuple #[.agg (pktC (bodyV zs).1), .int .i64 (bodyV zs).2]) ∧ Since w w' := by
  have hl : zs.length = 21 := h.1
  obtain ⟨b', off', he, hlt, hcell⟩ := h.addr (by omega)
  obtain ⟨rfl, rfl⟩ : b = b' ∧ off = off' := by simp only [Option.some.injEq, Addr.mk.injEq, and_true] at he; exact he
  have HC := Lib.hid hcell
  have HI1 := Lib.hid (z_isB h.2.2.1 1)
  have HI2 := Lib.hid (z_isB h.2.2.1 2)
  have HI3 := Lib.hid (z_isB h.2.2.1 3)
  have HI4 := Lib.hid (z_isB h.2.2.1 4)
  have HI5 := Lib.hid (z_isB h.2.2.1 5)
  have HI6 := Lib.hid (z_isB h.2.2.1 6)
  have HI7 := Lib.hid (z_isB h.2.2.1 7)
  have HI8 := Lib.hid (z_isB h.2.2.1 8)
  have HI9 := Lib.hid (z_isB h.2.2.1 9)
  have HI10 := Lib.hid (z_isB h.2.2.1 10)
  have HI11 := Lib.hid (z_isB h.2.2.1 11)
  have HI12 := Lib.hid (z_isB h.2.2.1 12)
  have HI13 := Lib.hid (z_isB h.2.2.1 13)
  have HI14 := Lib.hid (z_isB h.2.2.1 14)
  have HI15 := Lib.hid (z_isB h.2.2.1 15)
  have HI16 := Lib.hid (z_isB h.2.2.1 16)
  have HI17 := Lib.hid (z_isB h.2.2.1 17)
  have HI18 := Lib.hid (z_isB h.2.2.1 18)
  have HI19 := Lib.hid (z_isB h.2.2.1 19)
  have HI20 := Lib.hid (z_isB h.2.2.1 20)
  clear he hlt hcell hl h
  have HZ := Lib.hid hz
  clear hz
  go_enter Tryd.func13, Tryd.ntmps13
  go_upto_region 1 with fail
  obtain ⟨w1, hw1⟩ : ∃ w1, w1 = (w.alloc (.cells #[.int .i64 0, .int .i64 0, .int .i64 0, .int .i64 0, .bool false, .int .i64 0, .int .i64 0, .int .i64 0, .int .i64 0] 25)) := ⟨_, rfl⟩
  rw [← hw1]
  have HBR1 := Lib.hid (show Blk w1 (w.heap.size) 25 #[.int .i64 0, .int .i64 0, .int .i64 0, .int .i64 0, .bool false, .int .i64 0, .int .i64 0, .int .i64 0, .int .i64 0] by rw [hw1]; exact Blk.at_ (by (try simp only [size_alloc])) _ _)
  have HS1 := Lib.hid (show Since w w1 by rw [hw1]; exact Since.alloc (Since.refl w) _)
  have hNE : w.heap.size ≤ w.heap.size := by omega
  have HNE := Lib.hid hNE
  clear hNE hw1
  have HNE3 := Lib.hid (show w.heap.size ≤ w.heap.size from HNE.out)
  clear HNE
  refine wp_region_lit ?_
  refine wpList_q (by rfl) (.slice (some ⟨b, off, none⟩) 21 cap) ?he ?_
  case he => (first | rfl | (go_simp; (try with_reducible rfl)))
  (try simp only [Act.put, sA, sB, sC])
  refine wpList_q (by rfl) (.int .i64 21) ?he ?_
  case he => (go_simp; (try with_reducible rfl))
  (try simp only [Act.put, sA, sB, sC])
  refine wpList_q (by rfl) (.bool true) ?he ?_
  case he => (go_simp; (try with_reducible rfl))
  (try simp only [Act.put, sA, sB, sC])
  refine wpList_q (by rfl) (.bool true) ?he ?_
  case he => (first | rfl | (go_simp; (try with_reducible rfl)))
  (try simp only [Act.put, sA, sB, sC])
  refine wpList_q (by rfl) (.slice (some ⟨b, off, none⟩) 21 cap) ?he ?_
  case he => (first | rfl | (go_simp; (try with_reducible rfl)))
  (try simp only [Act.put, sA, sB, sC])
  refine wpList_q (by rfl) (.int .i64 21) ?he ?_
  case he => (go_simp; (try with_reducible rfl))
  (try simp only [Act.put, sA, sB, sC])
  refine wpList_q (by rfl) (.bool false) ?he ?_
  case he => (go_simp; (try with_reducible rfl))
  (try simp only [Act.put, sA, sB, sC])
  refine wpList_q (by rfl) (.bool false) ?he ?_
  case he => (first | rfl | (go_simp; (try with_reducible rfl)))
  (try simp only [Act.put, sA, sB, sC])
  refine wpList_q (by rfl) (.bool false) ?he ?_
  case he => (first | rfl | (go_simp; (try with_reducible rfl)))
  (try simp only [Act.put, sA, sB, sC])
  refine wpList_q (by rfl) (.slice (some ⟨b, off, none⟩) 21 cap) ?he ?_
  case he => (first | rfl | (go_simp; (try with_reducible rfl)))
  (try simp only [Act.put, sA, sB, sC])
  refine wpList_q (by rfl) (.pointer (some ⟨b, off, none⟩)) ?he ?_
  case he => (first | rfl | (go_simp; (try with_reducible rfl)))
  (try simp only [Act.put, sA, sB, sC])
  refine wpList_q (by rfl) (.int .u8 (z zs 0)) ?he ?_
  case he => exact exec_at 5 _ _ (keep_cell HS1.out (HC.out 0 (by omega))) rfl rfl Tryd.underlying5 rfl
  (try simp only [Act.put, sA, sB, sC])
  refine wpList_q (by rfl) (.bool false) ?he ?_
  case he => (go_simp; (first | done | (have q := HZ.out; omega)))
  (try simp only [Act.put, sA, sB, sC])
  refine wpList_q (by rfl) (.bool false) ?he ?_
  case he => (first | rfl | (go_simp; (try with_reducible rfl)))
  (try simp only [Act.put, sA, sB, sC])
  refine wpList_nil ?_
  go_upto_region 3 with fail
  have hrK : ∀ W W' : World, Since W W' → (Since w W ∧ Blk W w.heap.size 25 #[.int .i64 0, .int .i64 0, .int .i64 0, .int .i64 0, .bool false, .int .i64 0, .int .i64 0, .int .i64 0, .int .i64 0]) → (Since w W' ∧ Blk W' w.heap.size 25 #[.int .i64 0, .int .i64 0, .int .i64 0, .int .i64 0, .bool false, .int .i64 0, .int .i64 0, .int .i64 0, .int .i64 0]) := fun W W' k ⟨h, h0⟩ => ⟨h.trans k, keep_blk k h0⟩
  have hrS : (fun W : World => Since w W ∧ Blk W w.heap.size 25 #[.int .i64 0, .int .i64 0, .int .i64 0, .int .i64 0, .bool false, .int .i64 0, .int .i64 0, .int .i64 0, .int .i64 0]) w1 := ⟨HS1.out, HBR1.out⟩
  have HRK := Lib.hid hrK
  have HRD := Lib.hid (show (fun W : World => Since w W ∧ Blk W w.heap.size 25 #[.int .i64 0, .int .i64 0, .int .i64 0, .int .i64 0, .bool false, .int .i64 0, .int .i64 0, .int .i64 0, .int .i64 0]) (World.drew w1) from ⟨Since.drew hrS.1, hrS.2⟩)
  clear hrK hrS
  refine wp_region_held_drew (S := fun W : World => Since w W ∧ Blk W w.heap.size 25 #[.int .i64 0, .int .i64 0, .int .i64 0, .int .i64 0, .bool false, .int .i64 0, .int .i64 0, .int .i64 0, .int .i64 0]) (by kernel_rfl) HRD.out (fun hHeld => ?_)
  refine wpAnyH_take (i := 0) (oi := ?o3__0) (v := .slice (some ⟨b, off, none⟩) 21 cap) ?h3__0 (by kernel_rfl) (by kernel_rfl) (by kernel_rfl) ?q3__0 ?y3__0 (by assumption) ?_
  case h3__0 => (first | (simp only [gA, gB, gC]; done) | (simp only [gA, gB, gC]; exact rfl))
  case q3__0 => exact fun _ _ _ h => h
  case y3__0 => (refine Or.inl ⟨rfl, ?_⟩; intro w hSw; (first | rfl | (go_simp; (try with_reducible rfl))))
  (try simp only [Act.put, sA, sB, sC])
  refine wpAnyH_take (i := 1) (oi := ?o3__1) (v := .pointer (some ⟨b, (off + 1), none⟩)) ?h3__1 (by kernel_rfl) (by kernel_rfl) (by kernel_rfl) ?q3__1 ?y3__1 (by assumption) ?_
  case h3__1 => (first | (simp only [gA, gB, gC]; done) | (simp only [gA, gB, gC]; exact rfl))
  case q3__1 => exact fun _ _ _ h => h
  case y3__1 => (refine Or.inl ⟨rfl, ?_⟩; intro w hSw; (first | rfl | (go_simp; (try with_reducible rfl))))
  (try simp only [Act.put, sA, sB, sC])
  refine wpAnyH_take (i := 2) (oi := ?o3__2) (v := .int .u8 (z zs 1)) ?h3__2 (by kernel_rfl) (by kernel_rfl) (by kernel_rfl) ?q3__2 ?y3__2 (by assumption) ?_
  case h3__2 => (first | (simp only [gA, gB, gC]; done) | (simp only [gA, gB, gC]; exact rfl))
  case q3__2 => exact fun _ _ _ h => h
  case y3__2 => (refine Or.inl ⟨rfl, ?_⟩; intro w hSw; exact exec_at 5 _ _ (keep_cell hSw.1 (HC.out 1 (by omega))) rfl rfl Tryd.underlying5 rfl)
  (try simp only [Act.put, sA, sB, sC])
  refine wpAnyH_take (i := 3) (oi := ?o3__3) (v := .int .i64 (z zs 1)) ?h3__3 (by kernel_rfl) (by kernel_rfl) (by kernel_rfl) ?q3__3 ?y3__3 (by assumption) ?_
  case h3__3 => (first | (simp only [gA, gB, gC]; done) | (simp only [gA, gB, gC]; exact rfl))
  case q3__3 => exact fun _ _ _ h => h
  case y3__3 => (refine Or.inl ⟨rfl, ?_⟩; intro w hSw; (have q := HI1.out; go_simp; exact wr64 _ (by omega) (by omega)))
  (try simp only [Act.put, sA, sB, sC])
  refine wpAnyH_take (i := 4) (oi := ?o3__4) (v := .slice (some ⟨b, off, none⟩) 21 cap) ?h3__4 (by kernel_rfl) (by kernel_rfl) (by kernel_rfl) ?q3__4 ?y3__4 (by assumption) ?_
  case h3__4 => (first | (simp only [gA, gB, gC]; done) | (simp only [gA, gB, gC]; exact rfl))
  case q3__4 => exact fun _ _ _ h => h
  case y3__4 => (refine Or.inl ⟨rfl, ?_⟩; intro w hSw; (first | rfl | (go_simp; (try with_reducible rfl))))
  (try simp only [Act.put, sA, sB, sC])
  refine wpAnyH_take (i := 5) (oi := ?o3__5) (v := .pointer (some ⟨b, (off + 2), none⟩)) ?h3__5 (by kernel_rfl) (by kernel_rfl) (by kernel_rfl) ?q3__5 ?y3__5 (by assumption) ?_
  case h3__5 => (first | (simp only [gA, gB, gC]; done) | (simp only [gA, gB, gC]; exact rfl))
  case q3__5 => exact fun _ _ _ h => h
  case y3__5 => (refine Or.inl ⟨rfl, ?_⟩; intro w hSw; (first | rfl | (go_simp; (try with_reducible rfl))))
  (try simp only [Act.put, sA, sB, sC])
  refine wpAnyH_take (i := 6) (oi := ?o3__6) (v := .int .u8 (z zs 2)) ?h3__6 (by kernel_rfl) (by kernel_rfl) (by kernel_rfl) ?q3__6 ?y3__6 (by assumption) ?_
  case h3__6 => (first | (simp only [gA, gB, gC]; done) | (simp only [gA, gB, gC]; exact rfl))
  case q3__6 => exact fun _ _ _ h => h
  case y3__6 => (refine Or.inl ⟨rfl, ?_⟩; intro w hSw; exact exec_at 5 _ _ (keep_cell hSw.1 (HC.out 2 (by omega))) rfl rfl Tryd.underlying5 rfl)
  (try simp only [Act.put, sA, sB, sC])
  refine wpAnyH_take (i := 7) (oi := ?o3__7) (v := .int .i64 (z zs 2)) ?h3__7 (by kernel_rfl) (by kernel_rfl) (by kernel_rfl) ?q3__7 ?y3__7 (by assumption) ?_
  case h3__7 => (first | (simp only [gA, gB, gC]; done) | (simp only [gA, gB, gC]; exact rfl))
  case q3__7 => exact fun _ _ _ h => h
  case y3__7 => (refine Or.inl ⟨rfl, ?_⟩; intro w hSw; (have q := HI2.out; go_simp; exact wr64 _ (by omega) (by omega)))
  (try simp only [Act.put, sA, sB, sC])
  refine wpAnyH_take (i := 8) (oi := ?o3__8) (v := .int .i64 (z zs 2 * 256)) ?h3__8 (by kernel_rfl) (by kernel_rfl) (by kernel_rfl) ?q3__8 ?y3__8 (by assumption) ?_
  case h3__8 => (first | (simp only [gA, gB, gC]; done) | (simp only [gA, gB, gC]; exact rfl))
  case q3__8 => exact fun _ _ _ h => h
  case y3__8 => (refine Or.inl ⟨rfl, ?_⟩; intro w hSw; (have q2 := HI2.out; go_simp; (first | done | exact wr64 _ (by omega) (by omega))))
  (try simp only [Act.put, sA, sB, sC])
  refine wpAnyH_take (i := 9) (oi := ?o3__9) (v := .slice (some ⟨b, off, none⟩) 21 cap) ?h3__9 (by kernel_rfl) (by kernel_rfl) (by kernel_rfl) ?q3__9 ?y3__9 (by assumption) ?_
  case h3__9 => (first | (simp only [gA, gB, gC]; done) | (simp only [gA, gB, gC]; exact rfl))
  case q3__9 => exact fun _ _ _ h => h
  case y3__9 => (refine Or.inl ⟨rfl, ?_⟩; intro w hSw; (first | rfl | (go_simp; (try with_reducible rfl))))
  (try simp only [Act.put, sA, sB, sC])
  refine wpAnyH_take (i := 10) (oi := ?o3__10) (v := .pointer (some ⟨b, (off + 3), none⟩)) ?h3__10 (by kernel_rfl) (by kernel_rfl) (by kernel_rfl) ?q3__10 ?y3__10 (by assumption) ?_
  case h3__10 => (first | (simp only [gA, gB, gC]; done) | (simp only [gA, gB, gC]; exact rfl))
  case q3__10 => exact fun _ _ _ h => h
  case y3__10 => (refine Or.inl ⟨rfl, ?_⟩; intro w hSw; (first | rfl | (go_simp; (try with_reducible rfl))))
  (try simp only [Act.put, sA, sB, sC])
  refine wpAnyH_take (i := 11) (oi := ?o3__11) (v := .int .u8 (z zs 3)) ?h3__11 (by kernel_rfl) (by kernel_rfl) (by kernel_rfl) ?q3__11 ?y3__11 (by assumption) ?_
  case h3__11 => (first | (simp only [gA, gB, gC]; done) | (simp only [gA, gB, gC]; exact rfl))
  case q3__11 => exact fun _ _ _ h => h
  case y3__11 => (refine Or.inl ⟨rfl, ?_⟩; intro w hSw; exact exec_at 5 _ _ (keep_cell hSw.1 (HC.out 3 (by omega))) rfl rfl Tryd.underlying5 rfl)
  (try simp only [Act.put, sA, sB, sC])
  refine wpAnyH_take (i := 12) (oi := ?o3__12) (v := .int .i64 (z zs 3)) ?h3__12 (by kernel_rfl) (by kernel_rfl) (by kernel_rfl) ?q3__12 ?y3__12 (by assumption) ?_
  case h3__12 => (first | (simp only [gA, gB, gC]; done) | (simp only [gA, gB, gC]; exact rfl))
  case q3__12 => exact fun _ _ _ h => h
  case y3__12 => (refine Or.inl ⟨rfl, ?_⟩; intro w hSw; (have q := HI3.out; go_simp; exact wr64 _ (by omega) (by omega)))
  (try simp only [Act.put, sA, sB, sC])
  refine wpAnyH_take (i := 13) (oi := ?o3__13) (v := .int .i64 (num2 (z zs 2) (z zs 3))) ?h3__13 (by kernel_rfl) (by kernel_rfl) (by kernel_rfl) ?q3__13 ?y3__13 (by assumption) ?_
  case h3__13 => (first | (simp only [gA, gB, gC]; done) | (simp only [gA, gB, gC]; exact rfl))
  case q3__13 => exact fun _ _ _ h => h
  case y3__13 => (refine Or.inl ⟨rfl, ?_⟩; intro w hSw; (have q2 := HI2.out; have q3 := HI3.out; unfold num2; go_simp; (first | done | exact wr64 _ (by omega) (by omega))))
  (try simp only [Act.put, sA, sB, sC])
  refine wpAnyH_take (i := 14) (oi := ?o3__14) (v := .slice (some ⟨b, off, none⟩) 21 cap) ?h3__14 (by kernel_rfl) (by kernel_rfl) (by kernel_rfl) ?q3__14 ?y3__14 (by assumption) ?_
  case h3__14 => (first | (simp only [gA, gB, gC]; done) | (simp only [gA, gB, gC]; exact rfl))
  case q3__14 => exact fun _ _ _ h => h
  case y3__14 => (refine Or.inl ⟨rfl, ?_⟩; intro w hSw; (first | rfl | (go_simp; (try with_reducible rfl))))
  (try simp only [Act.put, sA, sB, sC])
  refine wpAnyH_take (i := 15) (oi := ?o3__15) (v := .pointer (some ⟨b, (off + 4), none⟩)) ?h3__15 (by kernel_rfl) (by kernel_rfl) (by kernel_rfl) ?q3__15 ?y3__15 (by assumption) ?_
  case h3__15 => (first | (simp only [gA, gB, gC]; done) | (simp only [gA, gB, gC]; exact rfl))
  case q3__15 => exact fun _ _ _ h => h
  case y3__15 => (refine Or.inl ⟨rfl, ?_⟩; intro w hSw; (first | rfl | (go_simp; (try with_reducible rfl))))
  (try simp only [Act.put, sA, sB, sC])
  refine wpAnyH_take (i := 16) (oi := ?o3__16) (v := .int .u8 (z zs 4)) ?h3__16 (by kernel_rfl) (by kernel_rfl) (by kernel_rfl) ?q3__16 ?y3__16 (by assumption) ?_
  case h3__16 => (first | (simp only [gA, gB, gC]; done) | (simp only [gA, gB, gC]; exact rfl))
  case q3__16 => exact fun _ _ _ h => h
  case y3__16 => (refine Or.inl ⟨rfl, ?_⟩; intro w hSw; exact exec_at 5 _ _ (keep_cell hSw.1 (HC.out 4 (by omega))) rfl rfl Tryd.underlying5 rfl)
  (try simp only [Act.put, sA, sB, sC])
  refine wpAnyH_take (i := 17) (oi := ?o3__17) (v := .int .i64 (z zs 4)) ?h3__17 (by kernel_rfl) (by kernel_rfl) (by kernel_rfl) ?q3__17 ?y3__17 (by assumption) ?_
  case h3__17 => (first | (simp only [gA, gB, gC]; done) | (simp only [gA, gB, gC]; exact rfl))
  case q3__17 => exact fun _ _ _ h => h
  case y3__17 => (refine Or.inl ⟨rfl, ?_⟩; intro w hSw; (have q := HI4.out; go_simp; exact wr64 _ (by omega) (by omega)))
  (try simp only [Act.put, sA, sB, sC])
  refine wpAnyH_take (i := 18) (oi := ?o3__18) (v := .int .i64 (z zs 4 * 256)) ?h3__18 (by kernel_rfl) (by kernel_rfl) (by kernel_rfl) ?q3__18 ?y3__18 (by assumption) ?_
  case h3__18 => (first | (simp only [gA, gB, gC]; done) | (simp only [gA, gB, gC]; exact rfl))
  case q3__18 => exact fun _ _ _ h => h
  case y3__18 => (refine Or.inl ⟨rfl, ?_⟩; intro w hSw; (have q4 := HI4.out; go_simp; (first | done | exact wr64 _ (by omega) (by omega))))
  (try simp only [Act.put, sA, sB, sC])
  refine wpAnyH_take (i := 19) (oi := ?o3__19) (v := .slice (some ⟨b, off, none⟩) 21 cap) ?h3__19 (by kernel_rfl) (by kernel_rfl) (by kernel_rfl) ?q3__19 ?y3__19 (by assumption) ?_
  case h3__19 => (first | (simp only [gA, gB, gC]; done) | (simp only [gA, gB, gC]; exact rfl))
  case q3__19 => exact fun _ _ _ h => h
  case y3__19 => (refine Or.inl ⟨rfl, ?_⟩; intro w hSw; (first | rfl | (go_simp; (try with_reducible rfl))))
  (try simp only [Act.put, sA, sB, sC])
  refine wpAnyH_take (i := 20) (oi := ?o3__20) (v := .pointer (some ⟨b, (off + 5), none⟩)) ?h3__20 (by kernel_rfl) (by kernel_rfl) (by kernel_rfl) ?q3__20 ?y3__20 (by assumption) ?_
  case h3__20 => (first | (simp only [gA, gB, gC]; done) | (simp only [gA, gB, gC]; exact rfl))
  case q3__20 => exact fun _ _ _ h => h
  case y3__20 => (refine Or.inl ⟨rfl, ?_⟩; intro w hSw; (first | rfl | (go_simp; (try with_reducible rfl))))
  (try simp only [Act.put, sA, sB, sC])
  refine wpAnyH_take (i := 21) (oi := ?o3__21) (v := .int .u8 (z zs 5)) ?h3__21 (by kernel_rfl) (by kernel_rfl) (by kernel_rfl) ?q3__21 ?y3__21 (by assumption) ?_
  case h3__21 => (first | (simp only [gA, gB, gC]; done) | (simp only [gA, gB, gC]; exact rfl))
  case q3__21 => exact fun _ _ _ h => h
  case y3__21 => (refine Or.inl ⟨rfl, ?_⟩; intro w hSw; exact exec_at 5 _ _ (keep_cell hSw.1 (HC.out 5 (by omega))) rfl rfl Tryd.underlying5 rfl)
  (try simp only [Act.put, sA, sB, sC])
  refine wpAnyH_take (i := 22) (oi := ?o3__22) (v := .int .i64 (z zs 5)) ?h3__22 (by kernel_rfl) (by kernel_rfl) (by kernel_rfl) ?q3__22 ?y3__22 (by assumption) ?_
  case h3__22 => (first | (simp only [gA, gB, gC]; done) | (simp only [gA, gB, gC]; exact rfl))
  case q3__22 => exact fun _ _ _ h => h
  case y3__22 => (refine Or.inl ⟨rfl, ?_⟩; intro w hSw; (have q := HI5.out; go_simp; exact wr64 _ (by omega) (by omega)))
  (try simp only [Act.put, sA, sB, sC])
  refine wpAnyH_take (i := 23) (oi := ?o3__23) (v := .int .i64 (num2 (z zs 4) (z zs 5))) ?h3__23 (by kernel_rfl) (by kernel_rfl) (by kernel_rfl) ?q3__23 ?y3__23 (by assumption) ?_
  case h3__23 => (first | (simp only [gA, gB, gC]; done) | (simp only [gA, gB, gC]; exact rfl))
  case q3__23 => exact fun _ _ _ h => h
  case y3__23 => (refine Or.inl ⟨rfl, ?_⟩; intro w hSw; (have q4 := HI4.out; have q5 := HI5.out; unfold num2; go_simp; (first | done | exact wr64 _ (by omega) (by omega))))
  (try simp only [Act.put, sA, sB, sC])
  refine wpAnyH_take (i := 24) (oi := ?o3__24) (v := .slice (some ⟨b, off, none⟩) 21 cap) ?h3__24 (by kernel_rfl) (by kernel_rfl) (by kernel_rfl) ?q3__24 ?y3__24 (by assumption) ?_
  case h3__24 => (first | (simp only [gA, gB, gC]; done) | (simp only [gA, gB, gC]; exact rfl))
  case q3__24 => exact fun _ _ _ h => h
  case y3__24 => (refine Or.inl ⟨rfl, ?_⟩; intro w hSw; (first | rfl | (go_simp; (try with_reducible rfl))))
  (try simp only [Act.put, sA, sB, sC])
  refine wpAnyH_take (i := 25) (oi := ?o3__25) (v := .pointer (some ⟨b, (off + 6), none⟩)) ?h3__25 (by kernel_rfl) (by kernel_rfl) (by kernel_rfl) ?q3__25 ?y3__25 (by assumption) ?_
  case h3__25 => (first | (simp only [gA, gB, gC]; done) | (simp only [gA, gB, gC]; exact rfl))
  case q3__25 => exact fun _ _ _ h => h
  case y3__25 => (refine Or.inl ⟨rfl, ?_⟩; intro w hSw; (first | rfl | (go_simp; (try with_reducible rfl))))
  (try simp only [Act.put, sA, sB, sC])
  refine wpAnyH_take (i := 26) (oi := ?o3__26) (v := .int .u8 (z zs 6)) ?h3__26 (by kernel_rfl) (by kernel_rfl) (by kernel_rfl) ?q3__26 ?y3__26 (by assumption) ?_
  case h3__26 => (first | (simp only [gA, gB, gC]; done) | (simp only [gA, gB, gC]; exact rfl))
  case q3__26 => exact fun _ _ _ h => h
  case y3__26 => (refine Or.inl ⟨rfl, ?_⟩; intro w hSw; exact exec_at 5 _ _ (keep_cell hSw.1 (HC.out 6 (by omega))) rfl rfl Tryd.underlying5 rfl)
  (try simp only [Act.put, sA, sB, sC])
  refine wpAnyH_take (i := 27) (oi := ?o3__27) (v := .int .i64 (z zs 6)) ?h3__27 (by kernel_rfl) (by kernel_rfl) (by kernel_rfl) ?q3__27 ?y3__27 (by assumption) ?_
  case h3__27 => (first | (simp only [gA, gB, gC]; done) | (simp only [gA, gB, gC]; exact rfl))
  case q3__27 => exact fun _ _ _ h => h
  case y3__27 => (refine Or.inl ⟨rfl, ?_⟩; intro w hSw; (have q := HI6.out; go_simp; exact wr64 _ (by omega) (by omega)))
  (try simp only [Act.put, sA, sB, sC])
  refine wpAnyH_take (i := 28) (oi := ?o3__28) (v := .int .i64 (z zs 6 * 256)) ?h3__28 (by kernel_rfl) (by kernel_rfl) (by kernel_rfl) ?q3__28 ?y3__28 (by assumption) ?_
  case h3__28 => (first | (simp only [gA, gB, gC]; done) | (simp only [gA, gB, gC]; exact rfl))
  case q3__28 => exact fun _ _ _ h => h
  case y3__28 => (refine Or.inl ⟨rfl, ?_⟩; intro w hSw; (have q6 := HI6.out; go_simp; (first | done | exact wr64 _ (by omega) (by omega))))
  (try simp only [Act.put, sA, sB, sC])
  refine wpAnyH_take (i := 29) (oi := ?o3__29) (v := .slice (some ⟨b, off, none⟩) 21 cap) ?h3__29 (by kernel_rfl) (by kernel_rfl) (by kernel_rfl) ?q3__29 ?y3__29 (by assumption) ?_
  case h3__29 => (first | (simp only [gA, gB, gC]; done) | (simp only [gA, gB, gC]; exact rfl))
  case q3__29 => exact fun _ _ _ h => h
  case y3__29 => (refine Or.inl ⟨rfl, ?_⟩; intro w hSw; (first | rfl | (go_simp; (try with_reducible rfl))))
  (try simp only [Act.put, sA, sB, sC])
  refine wpAnyH_take (i := 30) (oi := ?o3__30) (v := .pointer (some ⟨b, (off + 7), none⟩)) ?h3__30 (by kernel_rfl) (by kernel_rfl) (by kernel_rfl) ?q3__30 ?y3__30 (by assumption) ?_
  case h3__30 => (first | (simp only [gA, gB, gC]; done) | (simp only [gA, gB, gC]; exact rfl))
  case q3__30 => exact fun _ _ _ h => h
  case y3__30 => (refine Or.inl ⟨rfl, ?_⟩; intro w hSw; (first | rfl | (go_simp; (try with_reducible rfl))))
  (try simp only [Act.put, sA, sB, sC])
  refine wpAnyH_take (i := 31) (oi := ?o3__31) (v := .int .u8 (z zs 7)) ?h3__31 (by kernel_rfl) (by kernel_rfl) (by kernel_rfl) ?q3__31 ?y3__31 (by assumption) ?_
  case h3__31 => (first | (simp only [gA, gB, gC]; done) | (simp only [gA, gB, gC]; exact rfl))
  case q3__31 => exact fun _ _ _ h => h
  case y3__31 => (refine Or.inl ⟨rfl, ?_⟩; intro w hSw; exact exec_at 5 _ _ (keep_cell hSw.1 (HC.out 7 (by omega))) rfl rfl Tryd.underlying5 rfl)
  (try simp only [Act.put, sA, sB, sC])
  refine wpAnyH_take (i := 32) (oi := ?o3__32) (v := .int .i64 (z zs 7)) ?h3__32 (by kernel_rfl) (by kernel_rfl) (by kernel_rfl) ?q3__32 ?y3__32 (by assumption) ?_
  case h3__32 => (first | (simp only [gA, gB, gC]; done) | (simp only [gA, gB, gC]; exact rfl))
  case q3__32 => exact fun _ _ _ h => h
  case y3__32 => (refine Or.inl ⟨rfl, ?_⟩; intro w hSw; (have q := HI7.out; go_simp; exact wr64 _ (by omega) (by omega)))
  (try simp only [Act.put, sA, sB, sC])
  refine wpAnyH_take (i := 33) (oi := ?o3__33) (v := .int .i64 (num2 (z zs 6) (z zs 7))) ?h3__33 (by kernel_rfl) (by kernel_rfl) (by kernel_rfl) ?q3__33 ?y3__33 (by assumption) ?_
  case h3__33 => (first | (simp only [gA, gB, gC]; done) | (simp only [gA, gB, gC]; exact rfl))
  case q3__33 => exact fun _ _ _ h => h
  case y3__33 => (refine Or.inl ⟨rfl, ?_⟩; intro w hSw; (have q6 := HI6.out; have q7 := HI7.out; unfold num2; go_simp; (first | done | exact wr64 _ (by omega) (by omega))))
  (try simp only [Act.put, sA, sB, sC])
  refine wpAnyH_take (i := 34) (oi := ?o3__34) (v := .agg #[.int .i64 (z zs 1), .int .i64 (num2 (z zs 2) (z zs 3)), .int .i64 (num2 (z zs 4) (z zs 5)), .int .i64 (num2 (z zs 6) (z zs 7)), .bool false, .int .i64 0, .int .i64 0, .int .i64 0, .int .i64 0]) ?h3__34 (by kernel_rfl) (by kernel_rfl) (by kernel_rfl) ?q3__34 ?y3__34 (by assumption) ?_
  case h3__34 => (first | (simp only [gA, gB, gC]; done) | (simp only [gA, gB, gC]; exact rfl))
  case q3__34 => exact fun _ _ _ h => h
  case y3__34 => (refine Or.inl ⟨rfl, ?_⟩; intro w hSw; kernel_rfl)
  (try simp only [Act.put, sA, sB, sC])
  refine wpAnyH_ready (rs := [35]) (by kernel_rfl) (by simp) ?_
  refine AllReadyH.cons (o := ?o3__35) ?h3__35 (fun K hK => ?_) AllReadyH.nil
  case h3__35 => (first | (simp only [gA, gB, gC]; done) | (simp only [gA, gB, gC]; exact rfl))
  rw [if_pos (by rfl)]
  refine wp_new (fun b => .pointer (some ⟨b, 0, none⟩)) 25 #[.int .i64 0, .int .i64 0, .int .i64 0, .int .i64 0, .bool false, .int .i64 0, .int .i64 0, .int .i64 0, .int .i64 0] (by rintro b rfl; first | rfl | kernel_rfl) ?_
  intro bn4 w2 hge hB hb
  refine hK.out _ _ (by (apply HRK.out; exact hb; exact hHeld)) (fun hHeld2 => ?_)
  have HNn4R := Lib.hid (show bn4 ≠ w.heap.size by have := Blk.lt (hHeld.2); (try simp at this); (try simp at hge); omega)
  have HGn4 := Lib.hid (show w.heap.size ≤ bn4 by have := Since.size hHeld.1; (try simp at this); (try simp at hge); omega)
  have HXn4 := Lib.hid hB
  clear hB
  clear hge
  clear hK K hHeld hb
  have hHeld := hHeld2
  clear hHeld2
  (try simp only [Act.put, sA, sB, sC])
  refine wpAnyH_ready (rs := [36]) (by kernel_rfl) (by simp) ?_
  refine AllReadyH.cons (o := ?o3__36) ?h3__36 (fun K hK => ?_) AllReadyH.nil
  case h3__36 => (first | (simp only [gA, gB, gC]; done) | (simp only [gA, gB, gC]; exact rfl))
  rw [if_pos (by rfl)]
  refine wp_st_row 25 _ _ rfl #[.int .i64 (z zs 1), .int .i64 (num2 (z zs 2) (z zs 3)), .int .i64 (num2 (z zs 4) (z zs 5)), .int .i64 (num2 (z zs 6) (z zs 7)), .bool false, .int .i64 0, .int .i64 0, .int .i64 0, .int .i64 0] rfl rfl (HasRow.of HXn4.out rfl) rfl (by simp [pktC, msgC, Value.oneCell']) (by kernel_rfl) ?_
  intro w3 hw
  have HXn42 := Lib.hid (show Blk w3 bn4 25 #[.int .i64 (z zs 1), .int .i64 (num2 (z zs 2) (z zs 3)), .int .i64 (num2 (z zs 4) (z zs 5)), .int .i64 (num2 (z zs 6) (z zs 7)), .bool false, .int .i64 0, .int .i64 0, .int .i64 0, .int .i64 0] by rw [hw]; exact Blk.row HXn4.out _)
  have hHeld3 : (fun W : World => Since w W ∧ Blk W w.heap.size 25 #[.int .i64 0, .int .i64 0, .int .i64 0, .int .i64 0, .bool false, .int .i64 0, .int .i64 0, .int .i64 0, .int .i64 0]) w3 := ⟨by rw [hw]; exact Since.setRow hHeld.1 HGn4.out _, by rw [hw]; exact Blk.row_far (hHeld.2) (Ne.symm HNn4R.out) _⟩
  refine hK.out _ _ hHeld3 (fun hHeld2 => ?_)
  clear HXn4 hK K hHeld hHeld3 hw
  have hHeld := hHeld2
  clear hHeld2
  (try simp only [Act.put, sA, sB, sC])
  refine wpAnyH_done (by kernel_rfl) ?_ _
  have HSd3 := Lib.hid hHeld.1
  have HBRd3 := Lib.hid (hHeld.2)
  clear hHeld HRK HRD HS1 HBR1
  go_upto_region 4 with fail
  refine wp_region_lit ?_
  refine wpList_q (by rfl) (.slice (some ⟨b, off, none⟩) 21 cap) ?he ?_
  case he => (first | rfl | (go_simp; (try with_reducible rfl)))
  (try simp only [Act.put, sA, sB, sC])
  refine wpList_q (by rfl) (.int .i64 21) ?he ?_
  case he => (go_simp; (try with_reducible rfl))
  (try simp only [Act.put, sA, sB, sC])
  refine wpList_q (by rfl) (.bool false) ?he ?_
  case he => (go_simp; (try with_reducible rfl))
  (try simp only [Act.put, sA, sB, sC])
  refine wpList_nil ?_
  go_upto_region 6 with fail
  refine wp_region_lit ?_
  refine wpList_q (by rfl) (.pointer (some ⟨bn4, 4, none⟩)) ?he ?_
  case he => (first | rfl | (go_simp; (try with_reducible rfl)))
  (try simp only [Act.put, sA, sB, sC])
  refine wpList_wp (by rfl) (fun K hK => ?_)
  refine wp_st_cell 4 _ _ rfl #[.int .i64 (z zs 1), .int .i64 (num2 (z zs 2) (z zs 3)), .int .i64 (num2 (z zs 4) (z zs 5)), .int .i64 (num2 (z zs 6) (z zs 7)), .bool true, .int .i64 0, .int .i64 0, .int .i64 0, .int .i64 0] (.bool true) rfl rfl HXn42.out (by show 4 < 9; decide) rfl (by first | rfl | simp [Value.oneCell']) (by kernel_rfl) ?_
  intro w4 hw
  refine hK.out _ _ ?_
  clear hK K
  (try simp only [Act.put, sA, sB, sC])
  have HS4 := Lib.hid (show Since w w4 by rw [hw]; exact Since.setRow HSd3.out HGn4.out _)
  have HBR4 := Lib.hid (show Blk w4 w.heap.size 25 #[.int .i64 0, .int .i64 0, .int .i64 0, .int .i64 0, .bool false, .int .i64 0, .int .i64 0, .int .i64 0, .int .i64 0] by rw [hw]; exact Blk.row_far HBRd3.out (Ne.symm HNn4R.out) _)
  have HBn44 := Lib.hid (show Blk w4 bn4 25 #[.int .i64 (z zs 1), .int .i64 (num2 (z zs 2) (z zs 3)), .int .i64 (num2 (z zs 4) (z zs 5)), .int .i64 (num2 (z zs 6) (z zs 7)), .bool true, .int .i64 0, .int .i64 0, .int .i64 0, .int .i64 0] by rw [hw]; exact Blk.row HXn42.out _)
  clear hw HSd3 HBRd3 HXn42
  refine wpList_nil ?_
  go_upto_region 7 with fail
  refine wp_region_lit ?_
  refine wpList_wp (by rfl) (fun K hK => ?_)
  refine wp_new (fun b => .pointer (some ⟨b, 0, none⟩)) 44 #[.int .i64 0, .int .i64 0, .int .i64 0] (by rintro b rfl; first | rfl | kernel_rfl) ?_
  intro bn5 w5 hge hB hb
  refine hK.out _ _ ?_
  clear hK K
  (try simp only [Act.put, sA, sB, sC])
  have HNn5R := Lib.hid (show bn5 ≠ w.heap.size by have := Blk.lt HBR4.out; omega)
  have HNn5n4 := Lib.hid (show bn5 ≠ bn4 by have := Blk.lt HBn44.out; omega)
  have HGn5 := Lib.hid (show w.heap.size ≤ bn5 by have := Since.size HS4.out; omega)
  have HS5 := Lib.hid (Since.trans HS4.out hb)
  have HBR5 := Lib.hid (keep_blk hb HBR4.out)
  have HBn45 := Lib.hid (keep_blk hb HBn44.out)
  clear HS4 HBR4 HBn44
  clear hb hge
  have HBn55 := Lib.hid hB
  clear hB
  refine wpList_nil ?_
  go_upto_region 8 with fail
  refine wp_region_lit ?_
  refine wpList_q (by rfl) (.int .i64 0) ?he ?_
  case he => (first | rfl | (go_simp; (try with_reducible rfl)))
  (try simp only [Act.put, sA, sB, sC])
  refine wpList_nil ?_
  go_wp2_with fail
  refine wp_loop_rounds 4 ?_
  rw [rounds_succ]
  go_upto_region 9 with fail
  refine wp_region_lit ?_
  refine wpList_q (by rfl) (.int .i64 0) ?he ?_
  case he => (first | rfl | (go_simp; (try with_reducible rfl)))
  (try simp only [Act.put, sA, sB, sC])
  refine wpList_q (by rfl) (.bool true) ?he ?_
  case he => (go_simp; (try with_reducible rfl))
  (try simp only [Act.put, sA, sB, sC])
  refine wpList_nil ?_
  go_upto_region 11 with fail
  refine wp_region_lit ?_
  refine wpList_q (by rfl) (.int .i64 0) ?he ?_
  case he => (first | rfl | (go_simp; (try with_reducible rfl)))
  (try simp only [Act.put, sA, sB, sC])
  refine wpList_nil ?_
  go_wp2_with fail
  refine wp_loop_rounds 5 ?_
  rw [rounds_succ]
  go_upto_region 12 with fail
  refine wp_region_lit ?_
  refine wpList_q (by rfl) (.int .i64 0) ?he ?_
  case he => (first | rfl | (go_simp; (try with_reducible rfl)))
  (try simp only [Act.put, sA, sB, sC])
  refine wpList_q (by rfl) (.bool true) ?he ?_
  case he => (go_simp; (try with_reducible rfl))
  (try simp only [Act.put, sA, sB, sC])
  refine wpList_nil ?_
  go_upto_region 14 with fail
  have hrK : ∀ W W' : World, Since W W' → (Since w W ∧ Blk W w.heap.size 25 #[.int .i64 0, .int .i64 0, .int .i64 0, .int .i64 0, .bool false, .int .i64 0, .int .i64 0, .int .i64 0, .int .i64 0] ∧ Blk W bn4 25 #[.int .i64 (z zs 1), .int .i64 (num2 (z zs 2) (z zs 3)), .int .i64 (num2 (z zs 4) (z zs 5)), .int .i64 (num2 (z zs 6) (z zs 7)), .bool true, .int .i64 0, .int .i64 0, .int .i64 0, .int .i64 0] ∧ HasRow W bn5 44 3) → (Since w W' ∧ Blk W' w.heap.size 25 #[.int .i64 0, .int .i64 0, .int .i64 0, .int .i64 0, .bool false, .int .i64 0, .int .i64 0, .int .i64 0, .int .i64 0] ∧ Blk W' bn4 25 #[.int .i64 (z zs 1), .int .i64 (num2 (z zs 2) (z zs 3)), .int .i64 (num2 (z zs 4) (z zs 5)), .int .i64 (num2 (z zs 6) (z zs 7)), .bool true, .int .i64 0, .int .i64 0, .int .i64 0, .int .i64 0] ∧ HasRow W' bn5 44 3) := fun W W' k ⟨h, h0, h1, h2⟩ => ⟨h.trans k, keep_blk k h0, keep_blk k h1, HasRow.keep k h2⟩
  have hrS : (fun W : World => Since w W ∧ Blk W w.heap.size 25 #[.int .i64 0, .int .i64 0, .int .i64 0, .int .i64 0, .bool false, .int .i64 0, .int .i64 0, .int .i64 0, .int .i64 0] ∧ Blk W bn4 25 #[.int .i64 (z zs 1), .int .i64 (num2 (z zs 2) (z zs 3)), .int .i64 (num2 (z zs 4) (z zs 5)), .int .i64 (num2 (z zs 6) (z zs 7)), .bool true, .int .i64 0, .int .i64 0, .int .i64 0, .int .i64 0] ∧ HasRow W bn5 44 3) w5 := ⟨HS5.out, HBR5.out, HBn45.out, HasRow.of HBn55.out rfl⟩
  have HRK := Lib.hid hrK
  have HRD := Lib.hid (show (fun W : World => Since w W ∧ Blk W w.heap.size 25 #[.int .i64 0, .int .i64 0, .int .i64 0, .int .i64 0, .bool false, .int .i64 0, .int .i64 0, .int .i64 0, .int .i64 0] ∧ Blk W bn4 25 #[.int .i64 (z zs 1), .int .i64 (num2 (z zs 2) (z zs 3)), .int .i64 (num2 (z zs 4) (z zs 5)), .int .i64 (num2 (z zs 6) (z zs 7)), .bool true, .int .i64 0, .int .i64 0, .int .i64 0, .int .i64 0] ∧ HasRow W bn5 44 3) (World.drew w5) from ⟨Since.drew hrS.1, hrS.2⟩)
  clear hrK hrS
  have HPn5 := Lib.hid (show Blk (World.drew w5) bn5 44 #[.int .i64 0, .int .i64 0, .int .i64 0] from HBn55.out)
  refine wp_region_held_drew (S := fun W : World => Since w W ∧ Blk W w.heap.size 25 #[.int .i64 0, .int .i64 0, .int .i64 0, .int .i64 0, .bool false, .int .i64 0, .int .i64 0, .int .i64 0, .int .i64 0] ∧ Blk W bn4 25 #[.int .i64 (z zs 1), .int .i64 (num2 (z zs 2) (z zs 3)), .int .i64 (num2 (z zs 4) (z zs 5)), .int .i64 (num2 (z zs 6) (z zs 7)), .bool true, .int .i64 0, .int .i64 0, .int .i64 0, .int .i64 0] ∧ HasRow W bn5 44 3) (by kernel_rfl) HRD.out (fun hHeld => ?_)
  refine wpAnyH_take (i := 0) (oi := ?o14__0) (v := .int .i64 0) ?h14__0 (by kernel_rfl) (by kernel_rfl) (by kernel_rfl) ?q14__0 ?y14__0 (by assumption) ?_
  case h14__0 => (first | (simp only [gA, gB, gC]; done) | (simp only [gA, gB, gC]; exact rfl))
  case q14__0 => exact fun _ _ _ h => h
  case y14__0 => (refine Or.inl ⟨rfl, ?_⟩; intro w hSw; (first | rfl | (go_simp; (try with_reducible rfl))))
  (try simp only [Act.put, sA, sB, sC])
  refine wpAnyH_take (i := 1) (oi := ?o14__1) (v := .int .i64 0) ?h14__1 (by kernel_rfl) (by kernel_rfl) (by kernel_rfl) ?q14__1 ?y14__1 (by assumption) ?_
  case h14__1 => (first | (simp only [gA, gB, gC]; done) | (simp only [gA, gB, gC]; exact rfl))
  case q14__1 => exact fun _ _ _ h => h
  case y14__1 => (refine Or.inl ⟨rfl, ?_⟩; intro w hSw; (first | rfl | (go_simp; (try with_reducible rfl))))
  (try simp only [Act.put, sA, sB, sC])
  refine wpAnyH_take (i := 2) (oi := ?o14__2) (v := .pointer (some ⟨bn5, 0, none⟩)) ?h14__2 (by kernel_rfl) (by kernel_rfl) (by kernel_rfl) ?q14__2 ?y14__2 (by assumption) ?_
  case h14__2 => (first | (simp only [gA, gB, gC]; done) | (simp only [gA, gB, gC]; exact rfl))
  case q14__2 => exact fun _ _ _ h => h
  case y14__2 => (refine Or.inl ⟨rfl, ?_⟩; intro w hSw; (go_simp; (try with_reducible rfl)))
  (try simp only [Act.put, sA, sB, sC])
  refine wpAnyH_take (i := 5) (oi := ?o14__5) (v := .slice (some ⟨b, off, none⟩) 21 cap) ?h14__5 (by kernel_rfl) (by kernel_rfl) (by kernel_rfl) ?q14__5 ?y14__5 (by assumption) ?_
  case h14__5 => (first | (simp only [gA, gB, gC]; done) | (simp only [gA, gB, gC]; exact rfl))
  case q14__5 => exact fun _ _ _ h => h
  case y14__5 => (refine Or.inl ⟨rfl, ?_⟩; intro w hSw; (first | rfl | (go_simp; (try with_reducible rfl))))
  (try simp only [Act.put, sA, sB, sC])
  refine wpAnyH_take (i := 6) (oi := ?o14__6) (v := .int .i64 0) ?h14__6 (by kernel_rfl) (by kernel_rfl) (by kernel_rfl) ?q14__6 ?y14__6 (by assumption) ?_
  case h14__6 => (first | (simp only [gA, gB, gC]; done) | (simp only [gA, gB, gC]; exact rfl))
  case q14__6 => exact fun _ _ _ h => h
  case y14__6 => (refine Or.inl ⟨rfl, ?_⟩; intro w hSw; (first | rfl | (go_simp; (try with_reducible rfl))))
  (try simp only [Act.put, sA, sB, sC])
  refine wpAnyH_take (i := 7) (oi := ?o14__7) (v := .int .i64 0) ?h14__7 (by kernel_rfl) (by kernel_rfl) (by kernel_rfl) ?q14__7 ?y14__7 (by assumption) ?_
  case h14__7 => (first | (simp only [gA, gB, gC]; done) | (simp only [gA, gB, gC]; exact rfl))
  case q14__7 => exact fun _ _ _ h => h
  case y14__7 => (refine Or.inl ⟨rfl, ?_⟩; intro w hSw; (first | rfl | kernel_rfl | (go_simp; (try with_reducible rfl))))
  (try simp only [Act.put, sA, sB, sC])
  refine wpAnyH_take (i := 8) (oi := ?o14__8) (v := .int .i64 9) ?h14__8 (by kernel_rfl) (by kernel_rfl) (by kernel_rfl) ?q14__8 ?y14__8 (by assumption) ?_
  case h14__8 => (first | (simp only [gA, gB, gC]; done) | (simp only [gA, gB, gC]; exact rfl))
  case q14__8 => exact fun _ _ _ h => h
  case y14__8 => (refine Or.inl ⟨rfl, ?_⟩; intro w hSw; (first | rfl | kernel_rfl | (go_simp; (try with_reducible rfl))))
  (try simp only [Act.put, sA, sB, sC])
  refine wpAnyH_take (i := 9) (oi := ?o14__9) (v := .int .i64 0) ?h14__9 (by kernel_rfl) (by kernel_rfl) (by kernel_rfl) ?q14__9 ?y14__9 (by assumption) ?_
  case h14__9 => (first | (simp only [gA, gB, gC]; done) | (simp only [gA, gB, gC]; exact rfl))
  case q14__9 => exact fun _ _ _ h => h
  case y14__9 => (refine Or.inl ⟨rfl, ?_⟩; intro w hSw; (first | rfl | (go_simp; (try with_reducible rfl))))
  (try simp only [Act.put, sA, sB, sC])
  refine wpAnyH_take (i := 10) (oi := ?o14__10) (v := .int .i64 9) ?h14__10 (by kernel_rfl) (by kernel_rfl) (by kernel_rfl) ?q14__10 ?y14__10 (by assumption) ?_
  case h14__10 => (first | (simp only [gA, gB, gC]; done) | (simp only [gA, gB, gC]; exact rfl))
  case q14__10 => exact fun _ _ _ h => h
  case y14__10 => (refine Or.inl ⟨rfl, ?_⟩; intro w hSw; (first | rfl | kernel_rfl | (go_simp; (try with_reducible rfl))))
  (try simp only [Act.put, sA, sB, sC])
  refine wpAnyH_take (i := 11) (oi := ?o14__11) (v := .pointer (some ⟨b, (off + 9), none⟩)) ?h14__11 (by kernel_rfl) (by kernel_rfl) (by kernel_rfl) ?q14__11 ?y14__11 (by assumption) ?_
  case h14__11 => (first | (simp only [gA, gB, gC]; done) | (simp only [gA, gB, gC]; exact rfl))
  case q14__11 => exact fun _ _ _ h => h
  case y14__11 => (refine Or.inl ⟨rfl, ?_⟩; intro w hSw; (first | rfl | (go_simp; (try with_reducible rfl))))
  (try simp only [Act.put, sA, sB, sC])
  refine wpAnyH_take (i := 12) (oi := ?o14__12) (v := .int .u8 (z zs 9)) ?h14__12 (by kernel_rfl) (by kernel_rfl) (by kernel_rfl) ?q14__12 ?y14__12 (by assumption) ?_
  case h14__12 => (first | (simp only [gA, gB, gC]; done) | (simp only [gA, gB, gC]; exact rfl))
  case q14__12 => exact fun _ _ _ h => h
  case y14__12 => (refine Or.inl ⟨rfl, ?_⟩; intro w hSw; exact exec_at 5 _ _ (keep_cell hSw.1 (HC.out 9 (by omega))) rfl rfl Tryd.underlying5 rfl)
  (try simp only [Act.put, sA, sB, sC])
  refine wpAnyH_take (i := 13) (oi := ?o14__13) (v := .int .i64 (z zs 9)) ?h14__13 (by kernel_rfl) (by kernel_rfl) (by kernel_rfl) ?q14__13 ?y14__13 (by assumption) ?_
  case h14__13 => (first | (simp only [gA, gB, gC]; done) | (simp only [gA, gB, gC]; exact rfl))
  case q14__13 => exact fun _ _ _ h => h
  case y14__13 => (refine Or.inl ⟨rfl, ?_⟩; intro w hSw; (have q := HI9.out; go_simp; exact wr64 _ (by omega) (by omega)))
  (try simp only [Act.put, sA, sB, sC])
  refine wpAnyH_ready (rs := [3]) (by kernel_rfl) (by simp) ?_
  refine AllReadyH.cons (o := ?o14__3) ?h14__3 (fun K hK => ?_) AllReadyH.nil
  case h14__3 => (first | (simp only [gA, gB, gC]; done) | (simp only [gA, gB, gC]; exact rfl))
  rw [if_pos (by rfl)]
  refine wp_q (.int .i64 0) ?e14__3 ?_
  case e14__3 => exact exec_cell 3 _ _ HPn5.out rfl rfl rfl Tryd.underlying3 rfl
  refine hK.out _ _ hHeld (fun hHeld2 => ?_)
  clear hK K hHeld2
  (try simp only [Act.put, sA, sB, sC])
  refine wpAnyH_take (i := 4) (oi := ?o14__4) (v := .int .i64 0) ?h14__4 (by kernel_rfl) (by kernel_rfl) (by kernel_rfl) ?q14__4 ?y14__4 (by assumption) ?_
  case h14__4 => (first | (simp only [gA, gB, gC]; done) | (simp only [gA, gB, gC]; exact rfl))
  case q14__4 => exact fun _ _ _ h => h
  case y14__4 => (refine Or.inl ⟨rfl, ?_⟩; intro w hSw; (go_simp; (first | done | rfl)))
  (try simp only [Act.put, sA, sB, sC])
  refine wpAnyH_take (i := 14) (oi := ?o14__14) (v := .int .i64 (z zs 9)) ?h14__14 (by kernel_rfl) (by kernel_rfl) (by kernel_rfl) ?q14__14 ?y14__14 (by assumption) ?_
  case h14__14 => (first | (simp only [gA, gB, gC]; done) | (simp only [gA, gB, gC]; exact rfl))
  case q14__14 => exact fun _ _ _ h => h
  case y14__14 => (refine Or.inl ⟨rfl, ?_⟩; intro w hSw; (have q9 := HI9.out; go_simp; (first | done | exact wr64 _ (by omega) (by omega))))
  (try simp only [Act.put, sA, sB, sC])
  refine wpAnyH_take (i := 15) (oi := ?o14__15) (v := .pointer (some ⟨bn5, 0, none⟩)) ?h14__15 (by kernel_rfl) (by kernel_rfl) (by kernel_rfl) ?q14__15 ?y14__15 (by assumption) ?_
  case h14__15 => (first | (simp only [gA, gB, gC]; done) | (simp only [gA, gB, gC]; exact rfl))
  case q14__15 => exact fun _ _ _ h => h
  case y14__15 => (refine Or.inl ⟨rfl, ?_⟩; intro w hSw; (go_simp; (try with_reducible rfl)))
  (try simp only [Act.put, sA, sB, sC])
  refine wpAnyH_ready (rs := [16]) (by kernel_rfl) (by simp) ?_
  refine AllReadyH.cons (o := ?o14__16) ?h14__16 (fun K hK => ?_) AllReadyH.nil
  case h14__16 => (first | (simp only [gA, gB, gC]; done) | (simp only [gA, gB, gC]; exact rfl))
  rw [if_pos (by rfl)]
  refine wp_st_cell 3 _ _ rfl #[.int .i64 (z zs 9), .int .i64 0, .int .i64 0] (.int .i64 (z zs 9)) rfl rfl HPn5.out (by show 0 < 3; decide) rfl (by first | rfl | simp [Value.oneCell']) (by kernel_rfl) ?_
  clear HPn5
  intro w6 hw
  have HRn5 := Lib.hid (show Blk w6 bn5 44 #[.int .i64 (z zs 9), .int .i64 0, .int .i64 0] by obtain ⟨old, Bo, _⟩ := hHeld.2.2.2; rw [hw]; exact Blk.row Bo _)
  have hHeld3 : (fun W : World => Since w W ∧ Blk W w.heap.size 25 #[.int .i64 0, .int .i64 0, .int .i64 0, .int .i64 0, .bool false, .int .i64 0, .int .i64 0, .int .i64 0, .int .i64 0] ∧ Blk W bn4 25 #[.int .i64 (z zs 1), .int .i64 (num2 (z zs 2) (z zs 3)), .int .i64 (num2 (z zs 4) (z zs 5)), .int .i64 (num2 (z zs 6) (z zs 7)), .bool true, .int .i64 0, .int .i64 0, .int .i64 0, .int .i64 0] ∧ HasRow W bn5 44 3) w6 := ⟨by rw [hw]; exact Since.setRow hHeld.1 HGn5.out _, by rw [hw]; exact Blk.row_far (hHeld.2.1) (Ne.symm HNn5R.out) _, by rw [hw]; exact Blk.row_far (hHeld.2.2.1) (Ne.symm HNn5n4.out) _, HasRow.of HRn5.out rfl⟩
  refine hK.out _ _ hHeld3 (fun hHeld2 => ?_)
  clear hK K hHeld hHeld3 hw
  have hHeld := hHeld2
  clear hHeld2
  (try simp only [Act.put, sA, sB, sC])
  refine wpAnyH_done (by kernel_rfl) ?_ _
  have HSd14 := Lib.hid hHeld.1
  have HBRd14 := Lib.hid (hHeld.2.1)
  have HBn4d14 := Lib.hid (hHeld.2.2.1)
  have HBn5d14 := Lib.hid HRn5.out
  clear HRn5
  clear hHeld HRK HRD HS5 HBR5 HBn45 HBn55
  go_upto_region 13 with fail
  refine wp_region_lit ?_
  refine wpList_q (by rfl) (.int .i64 0) ?he ?_
  case he => (first | rfl | (go_simp; (try with_reducible rfl)))
  (try simp only [Act.put, sA, sB, sC])
  refine wpList_q (by rfl) (.int .i64 1) ?he ?_
  case he => (first | rfl | kernel_rfl | (go_simp; (try with_reducible rfl)))
  (try simp only [Act.put, sA, sB, sC])
  refine wpList_q (by rfl) (.int .i64 1) ?he ?_
  case he => (first | rfl | (go_simp; (try with_reducible rfl)))
  (try simp only [Act.put, sA, sB, sC])
  refine wpList_nil ?_
  go_wp2_with fail
  rw [rounds_succ]
  go_upto_region 12 with fail
  refine wp_region_lit ?_
  refine wpList_q (by rfl) (.int .i64 1) ?he ?_
  case he => (first | rfl | (go_simp; (try with_reducible rfl)))
  (try simp only [Act.put, sA, sB, sC])
  refine wpList_q (by rfl) (.bool true) ?he ?_
  case he => (go_simp; (try with_reducible rfl))
  (try simp only [Act.put, sA, sB, sC])
  refine wpList_nil ?_
  go_upto_region 14 with fail
  have hrK : ∀ W W' : World, Since W W' → (Since w W ∧ Blk W w.heap.size 25 #[.int .i64 0, .int .i64 0, .int .i64 0, .int .i64 0, .bool false, .int .i64 0, .int .i64 0, .int .i64 0, .int .i64 0] ∧ Blk W bn4 25 #[.int .i64 (z zs 1), .int .i64 (num2 (z zs 2) (z zs 3)), .int .i64 (num2 (z zs 4) (z zs 5)), .int .i64 (num2 (z zs 6) (z zs 7)), .bool true, .int .i64 0, .int .i64 0, .int .i64 0, .int .i64 0] ∧ HasRow W bn5 44 3) → (Since w W' ∧ Blk W' w.heap.size 25 #[.int .i64 0, .int .i64 0, .int .i64 0, .int .i64 0, .bool false, .int .i64 0, .int .i64 0, .int .i64 0, .int .i64 0] ∧ Blk W' bn4 25 #[.int .i64 (z zs 1), .int .i64 (num2 (z zs 2) (z zs 3)), .int .i64 (num2 (z zs 4) (z zs 5)), .int .i64 (num2 (z zs 6) (z zs 7)), .bool true, .int .i64 0, .int .i64 0, .int .i64 0, .int .i64 0] ∧ HasRow W' bn5 44 3) := fun W W' k ⟨h, h0, h1, h2⟩ => ⟨h.trans k, keep_blk k h0, keep_blk k h1, HasRow.keep k h2⟩
  have hrS : (fun W : World => Since w W ∧ Blk W w.heap.size 25 #[.int .i64 0, .int .i64 0, .int .i64 0, .int .i64 0, .bool false, .int .i64 0, .int .i64 0, .int .i64 0, .int .i64 0] ∧ Blk W bn4 25 #[.int .i64 (z zs 1), .int .i64 (num2 (z zs 2) (z zs 3)), .int .i64 (num2 (z zs 4) (z zs 5)), .int .i64 (num2 (z zs 6) (z zs 7)), .bool true, .int .i64 0, .int .i64 0, .int .i64 0, .int .i64 0] ∧ HasRow W bn5 44 3) w6 := ⟨HSd14.out, HBRd14.out, HBn4d14.out, HasRow.of HBn5d14.out rfl⟩
  have HRK := Lib.hid hrK
  have HRD := Lib.hid (show (fun W : World => Since w W ∧ Blk W w.heap.size 25 #[.int .i64 0, .int .i64 0, .int .i64 0, .int .i64 0, .bool false, .int .i64 0, .int .i64 0, .int .i64 0, .int .i64 0] ∧ Blk W bn4 25 #[.int .i64 (z zs 1), .int .i64 (num2 (z zs 2) (z zs 3)), .int .i64 (num2 (z zs 4) (z zs 5)), .int .i64 (num2 (z zs 6) (z zs 7)), .bool true, .int .i64 0, .int .i64 0, .int .i64 0, .int .i64 0] ∧ HasRow W bn5 44 3) (World.drew w6) from ⟨Since.drew hrS.1, hrS.2⟩)
  clear hrK hrS
  have HPn5 := Lib.hid (show Blk (World.drew w6) bn5 44 #[.int .i64 (z zs 9), .int .i64 0, .int .i64 0] from HBn5d14.out)
  refine wp_region_held_drew (S := fun W : World => Since w W ∧ Blk W w.heap.size 25 #[.int .i64 0, .int .i64 0, .int .i64 0, .int .i64 0, .bool false, .int .i64 0, .int .i64 0, .int .i64 0, .int .i64 0] ∧ Blk W bn4 25 #[.int .i64 (z zs 1), .int .i64 (num2 (z zs 2) (z zs 3)), .int .i64 (num2 (z zs 4) (z zs 5)), .int .i64 (num2 (z zs 6) (z zs 7)), .bool true, .int .i64 0, .int .i64 0, .int .i64 0, .int .i64 0] ∧ HasRow W bn5 44 3) (by kernel_rfl) HRD.out (fun hHeld => ?_)
  refine wpAnyH_take (i := 0) (oi := ?o14__0) (v := .int .i64 0) ?h14__0 (by kernel_rfl) (by kernel_rfl) (by kernel_rfl) ?q14__0 ?y14__0 (by assumption) ?_
  case h14__0 => (first | (simp only [gA, gB, gC]; done) | (simp only [gA, gB, gC]; exact rfl))
  case q14__0 => exact fun _ _ _ h => h
  case y14__0 => (refine Or.inl ⟨rfl, ?_⟩; intro w hSw; (first | rfl | (go_simp; (try with_reducible rfl))))
  (try simp only [Act.put, sA, sB, sC])
  refine wpAnyH_take (i := 1) (oi := ?o14__1) (v := .int .i64 0) ?h14__1 (by kernel_rfl) (by kernel_rfl) (by kernel_rfl) ?q14__1 ?y14__1 (by assumption) ?_
  case h14__1 => (first | (simp only [gA, gB, gC]; done) | (simp only [gA, gB, gC]; exact rfl))
  case q14__1 => exact fun _ _ _ h => h
  case y14__1 => (refine Or.inl ⟨rfl, ?_⟩; intro w hSw; (first | rfl | (go_simp; (try with_reducible rfl))))
  (try simp only [Act.put, sA, sB, sC])
  refine wpAnyH_take (i := 2) (oi := ?o14__2) (v := .pointer (some ⟨bn5, 0, none⟩)) ?h14__2 (by kernel_rfl) (by kernel_rfl) (by kernel_rfl) ?q14__2 ?y14__2 (by assumption) ?_
  case h14__2 => (first | (simp only [gA, gB, gC]; done) | (simp only [gA, gB, gC]; exact rfl))
  case q14__2 => exact fun _ _ _ h => h
  case y14__2 => (refine Or.inl ⟨rfl, ?_⟩; intro w hSw; (go_simp; (try with_reducible rfl)))
  (try simp only [Act.put, sA, sB, sC])
  refine wpAnyH_take (i := 5) (oi := ?o14__5) (v := .slice (some ⟨b, off, none⟩) 21 cap) ?h14__5 (by kernel_rfl) (by kernel_rfl) (by kernel_rfl) ?q14__5 ?y14__5 (by assumption) ?_
  case h14__5 => (first | (simp only [gA, gB, gC]; done) | (simp only [gA, gB, gC]; exact rfl))
  case q14__5 => exact fun _ _ _ h => h
  case y14__5 => (refine Or.inl ⟨rfl, ?_⟩; intro w hSw; (first | rfl | (go_simp; (try with_reducible rfl))))
  (try simp only [Act.put, sA, sB, sC])
  refine wpAnyH_take (i := 6) (oi := ?o14__6) (v := .int .i64 0) ?h14__6 (by kernel_rfl) (by kernel_rfl) (by kernel_rfl) ?q14__6 ?y14__6 (by assumption) ?_
  case h14__6 => (first | (simp only [gA, gB, gC]; done) | (simp only [gA, gB, gC]; exact rfl))
  case q14__6 => exact fun _ _ _ h => h
  case y14__6 => (refine Or.inl ⟨rfl, ?_⟩; intro w hSw; (first | rfl | (go_simp; (try with_reducible rfl))))
  (try simp only [Act.put, sA, sB, sC])
  refine wpAnyH_take (i := 7) (oi := ?o14__7) (v := .int .i64 0) ?h14__7 (by kernel_rfl) (by kernel_rfl) (by kernel_rfl) ?q14__7 ?y14__7 (by assumption) ?_
  case h14__7 => (first | (simp only [gA, gB, gC]; done) | (simp only [gA, gB, gC]; exact rfl))
  case q14__7 => exact fun _ _ _ h => h
  case y14__7 => (refine Or.inl ⟨rfl, ?_⟩; intro w hSw; (first | rfl | kernel_rfl | (go_simp; (try with_reducible rfl))))
  (try simp only [Act.put, sA, sB, sC])
  refine wpAnyH_take (i := 8) (oi := ?o14__8) (v := .int .i64 9) ?h14__8 (by kernel_rfl) (by kernel_rfl) (by kernel_rfl) ?q14__8 ?y14__8 (by assumption) ?_
  case h14__8 => (first | (simp only [gA, gB, gC]; done) | (simp only [gA, gB, gC]; exact rfl))
  case q14__8 => exact fun _ _ _ h => h
  case y14__8 => (refine Or.inl ⟨rfl, ?_⟩; intro w hSw; (first | rfl | kernel_rfl | (go_simp; (try with_reducible rfl))))
  (try simp only [Act.put, sA, sB, sC])
  refine wpAnyH_take (i := 9) (oi := ?o14__9) (v := .int .i64 1) ?h14__9 (by kernel_rfl) (by kernel_rfl) (by kernel_rfl) ?q14__9 ?y14__9 (by assumption) ?_
  case h14__9 => (first | (simp only [gA, gB, gC]; done) | (simp only [gA, gB, gC]; exact rfl))
  case q14__9 => exact fun _ _ _ h => h
  case y14__9 => (refine Or.inl ⟨rfl, ?_⟩; intro w hSw; (first | rfl | (go_simp; (try with_reducible rfl))))
  (try simp only [Act.put, sA, sB, sC])
  refine wpAnyH_take (i := 10) (oi := ?o14__10) (v := .int .i64 10) ?h14__10 (by kernel_rfl) (by kernel_rfl) (by kernel_rfl) ?q14__10 ?y14__10 (by assumption) ?_
  case h14__10 => (first | (simp only [gA, gB, gC]; done) | (simp only [gA, gB, gC]; exact rfl))
  case q14__10 => exact fun _ _ _ h => h
  case y14__10 => (refine Or.inl ⟨rfl, ?_⟩; intro w hSw; (first | rfl | kernel_rfl | (go_simp; (try with_reducible rfl))))
  (try simp only [Act.put, sA, sB, sC])
  refine wpAnyH_take (i := 11) (oi := ?o14__11) (v := .pointer (some ⟨b, (off + 10), none⟩)) ?h14__11 (by kernel_rfl) (by kernel_rfl) (by kernel_rfl) ?q14__11 ?y14__11 (by assumption) ?_
  case h14__11 => (first | (simp only [gA, gB, gC]; done) | (simp only [gA, gB, gC]; exact rfl))
  case q14__11 => exact fun _ _ _ h => h
  case y14__11 => (refine Or.inl ⟨rfl, ?_⟩; intro w hSw; (first | rfl | (go_simp; (try with_reducible rfl))))
  (try simp only [Act.put, sA, sB, sC])
  refine wpAnyH_take (i := 12) (oi := ?o14__12) (v := .int .u8 (z zs 10)) ?h14__12 (by kernel_rfl) (by kernel_rfl) (by kernel_rfl) ?q14__12 ?y14__12 (by assumption) ?_
  case h14__12 => (first | (simp only [gA, gB, gC]; done) | (simp only [gA, gB, gC]; exact rfl))
  case q14__12 => exact fun _ _ _ h => h
  case y14__12 => (refine Or.inl ⟨rfl, ?_⟩; intro w hSw; exact exec_at 5 _ _ (keep_cell hSw.1 (HC.out 10 (by omega))) rfl rfl Tryd.underlying5 rfl)
  (try simp only [Act.put, sA, sB, sC])
  refine wpAnyH_take (i := 13) (oi := ?o14__13) (v := .int .i64 (z zs 10)) ?h14__13 (by kernel_rfl) (by kernel_rfl) (by kernel_rfl) ?q14__13 ?y14__13 (by assumption) ?_
  case h14__13 => (first | (simp only [gA, gB, gC]; done) | (simp only [gA, gB, gC]; exact rfl))
  case q14__13 => exact fun _ _ _ h => h
  case y14__13 => (refine Or.inl ⟨rfl, ?_⟩; intro w hSw; (have q := HI10.out; go_simp; exact wr64 _ (by omega) (by omega)))
  (try simp only [Act.put, sA, sB, sC])
  refine wpAnyH_ready (rs := [3]) (by kernel_rfl) (by simp) ?_
  refine AllReadyH.cons (o := ?o14__3) ?h14__3 (fun K hK => ?_) AllReadyH.nil
  case h14__3 => (first | (simp only [gA, gB, gC]; done) | (simp only [gA, gB, gC]; exact rfl))
  rw [if_pos (by rfl)]
  refine wp_q (.int .i64 (z zs 9)) ?e14__3 ?_
  case e14__3 => exact exec_cell 3 _ _ HPn5.out rfl rfl rfl Tryd.underlying3 rfl
  refine hK.out _ _ hHeld (fun hHeld2 => ?_)
  clear hK K hHeld2
  (try simp only [Act.put, sA, sB, sC])
  refine wpAnyH_take (i := 4) (oi := ?o14__4) (v := .int .i64 (z zs 9 * 256)) ?h14__4 (by kernel_rfl) (by kernel_rfl) (by kernel_rfl) ?q14__4 ?y14__4 (by assumption) ?_
  case h14__4 => (first | (simp only [gA, gB, gC]; done) | (simp only [gA, gB, gC]; exact rfl))
  case q14__4 => exact fun _ _ _ h => h
  case y14__4 => (refine Or.inl ⟨rfl, ?_⟩; intro w hSw; (have q9 := HI9.out; have q10 := HI10.out; go_simp; (first | done | exact wr64 _ (by omega) (by omega))))
  (try simp only [Act.put, sA, sB, sC])
  refine wpAnyH_take (i := 14) (oi := ?o14__14) (v := .int .i64 (z zs 9 * 256 + z zs 10)) ?h14__14 (by kernel_rfl) (by kernel_rfl) (by kernel_rfl) ?q14__14 ?y14__14 (by assumption) ?_
  case h14__14 => (first | (simp only [gA, gB, gC]; done) | (simp only [gA, gB, gC]; exact rfl))
  case q14__14 => exact fun _ _ _ h => h
  case y14__14 => (refine Or.inl ⟨rfl, ?_⟩; intro w hSw; (have q9 := HI9.out; have q10 := HI10.out; go_simp; (first | done | exact wr64 _ (by omega) (by omega))))
  (try simp only [Act.put, sA, sB, sC])
  refine wpAnyH_take (i := 15) (oi := ?o14__15) (v := .pointer (some ⟨bn5, 0, none⟩)) ?h14__15 (by kernel_rfl) (by kernel_rfl) (by kernel_rfl) ?q14__15 ?y14__15 (by assumption) ?_
  case h14__15 => (first | (simp only [gA, gB, gC]; done) | (simp only [gA, gB, gC]; exact rfl))
  case q14__15 => exact fun _ _ _ h => h
  case y14__15 => (refine Or.inl ⟨rfl, ?_⟩; intro w hSw; (go_simp; (try with_reducible rfl)))
  (try simp only [Act.put, sA, sB, sC])
  refine wpAnyH_ready (rs := [16]) (by kernel_rfl) (by simp) ?_
  refine AllReadyH.cons (o := ?o14__16) ?h14__16 (fun K hK => ?_) AllReadyH.nil
  case h14__16 => (first | (simp only [gA, gB, gC]; done) | (simp only [gA, gB, gC]; exact rfl))
  rw [if_pos (by rfl)]
  refine wp_st_cell 3 _ _ rfl #[.int .i64 (z zs 9 * 256 + z zs 10), .int .i64 0, .int .i64 0] (.int .i64 (z zs 9 * 256 + z zs 10)) rfl rfl HPn5.out (by show 0 < 3; decide) rfl (by first | rfl | simp [Value.oneCell']) (by kernel_rfl) ?_
  clear HPn5
  intro w7 hw
  have HRn5 := Lib.hid (show Blk w7 bn5 44 #[.int .i64 (z zs 9 * 256 + z zs 10), .int .i64 0, .int .i64 0] by obtain ⟨old, Bo, _⟩ := hHeld.2.2.2; rw [hw]; exact Blk.row Bo _)
  have hHeld3 : (fun W : World => Since w W ∧ Blk W w.heap.size 25 #[.int .i64 0, .int .i64 0, .int .i64 0, .int .i64 0, .bool false, .int .i64 0, .int .i64 0, .int .i64 0, .int .i64 0] ∧ Blk W bn4 25 #[.int .i64 (z zs 1), .int .i64 (num2 (z zs 2) (z zs 3)), .int .i64 (num2 (z zs 4) (z zs 5)), .int .i64 (num2 (z zs 6) (z zs 7)), .bool true, .int .i64 0, .int .i64 0, .int .i64 0, .int .i64 0] ∧ HasRow W bn5 44 3) w7 := ⟨by rw [hw]; exact Since.setRow hHeld.1 HGn5.out _, by rw [hw]; exact Blk.row_far (hHeld.2.1) (Ne.symm HNn5R.out) _, by rw [hw]; exact Blk.row_far (hHeld.2.2.1) (Ne.symm HNn5n4.out) _, HasRow.of HRn5.out rfl⟩
  refine hK.out _ _ hHeld3 (fun hHeld2 => ?_)
  clear hK K hHeld hHeld3 hw
  have hHeld := hHeld2
  clear hHeld2
  (try simp only [Act.put, sA, sB, sC])
  refine wpAnyH_done (by kernel_rfl) ?_ _
  have HSd14v2 := Lib.hid hHeld.1
  have HBRd14v2 := Lib.hid (hHeld.2.1)
  have HBn4d14v2 := Lib.hid (hHeld.2.2.1)
  have HBn5d14v2 := Lib.hid HRn5.out
  clear HRn5
  clear hHeld HRK HRD HSd14 HBRd14 HBn4d14 HBn5d14
  go_upto_region 13 with fail
  refine wp_region_lit ?_
  refine wpList_q (by rfl) (.int .i64 1) ?he ?_
  case he => (first | rfl | (go_simp; (try with_reducible rfl)))
  (try simp only [Act.put, sA, sB, sC])
  refine wpList_q (by rfl) (.int .i64 2) ?he ?_
  case he => (first | rfl | kernel_rfl | (go_simp; (try with_reducible rfl)))
  (try simp only [Act.put, sA, sB, sC])
  refine wpList_q (by rfl) (.int .i64 2) ?he ?_
  case he => (first | rfl | (go_simp; (try with_reducible rfl)))
  (try simp only [Act.put, sA, sB, sC])
  refine wpList_nil ?_
  go_wp2_with fail
  rw [rounds_succ]
  go_upto_region 12 with fail
  refine wp_region_lit ?_
  refine wpList_q (by rfl) (.int .i64 2) ?he ?_
  case he => (first | rfl | (go_simp; (try with_reducible rfl)))
  (try simp only [Act.put, sA, sB, sC])
  refine wpList_q (by rfl) (.bool true) ?he ?_
  case he => (go_simp; (try with_reducible rfl))
  (try simp only [Act.put, sA, sB, sC])
  refine wpList_nil ?_
  go_upto_region 14 with fail
  have hrK : ∀ W W' : World, Since W W' → (Since w W ∧ Blk W w.heap.size 25 #[.int .i64 0, .int .i64 0, .int .i64 0, .int .i64 0, .bool false, .int .i64 0, .int .i64 0, .int .i64 0, .int .i64 0] ∧ Blk W bn4 25 #[.int .i64 (z zs 1), .int .i64 (num2 (z zs 2) (z zs 3)), .int .i64 (num2 (z zs 4) (z zs 5)), .int .i64 (num2 (z zs 6) (z zs 7)), .bool true, .int .i64 0, .int .i64 0, .int .i64 0, .int .i64 0] ∧ HasRow W bn5 44 3) → (Since w W' ∧ Blk W' w.heap.size 25 #[.int .i64 0, .int .i64 0, .int .i64 0, .int .i64 0, .bool false, .int .i64 0, .int .i64 0, .int .i64 0, .int .i64 0] ∧ Blk W' bn4 25 #[.int .i64 (z zs 1), .int .i64 (num2 (z zs 2) (z zs 3)), .int .i64 (num2 (z zs 4) (z zs 5)), .int .i64 (num2 (z zs 6) (z zs 7)), .bool true, .int .i64 0, .int .i64 0, .int .i64 0, .int .i64 0] ∧ HasRow W' bn5 44 3) := fun W W' k ⟨h, h0, h1, h2⟩ => ⟨h.trans k, keep_blk k h0, keep_blk k h1, HasRow.keep k h2⟩
  have hrS : (fun W : World => Since w W ∧ Blk W w.heap.size 25 #[.int .i64 0, .int .i64 0, .int .i64 0, .int .i64 0, .bool false, .int .i64 0, .int .i64 0, .int .i64 0, .int .i64 0] ∧ Blk W bn4 25 #[.int .i64 (z zs 1), .int .i64 (num2 (z zs 2) (z zs 3)), .int .i64 (num2 (z zs 4) (z zs 5)), .int .i64 (num2 (z zs 6) (z zs 7)), .bool true, .int .i64 0, .int .i64 0, .int .i64 0, .int .i64 0] ∧ HasRow W bn5 44 3) w7 := ⟨HSd14v2.out, HBRd14v2.out, HBn4d14v2.out, HasRow.of HBn5d14v2.out rfl⟩
  have HRK := Lib.hid hrK
  have HRD := Lib.hid (show (fun W : World => Since w W ∧ Blk W w.heap.size 25 #[.int .i64 0, .int .i64 0, .int .i64 0, .int .i64 0, .bool false, .int .i64 0, .int .i64 0, .int .i64 0, .int .i64 0] ∧ Blk W bn4 25 #[.int .i64 (z zs 1), .int .i64 (num2 (z zs 2) (z zs 3)), .int .i64 (num2 (z zs 4) (z zs 5)), .int .i64 (num2 (z zs 6) (z zs 7)), .bool true, .int .i64 0, .int .i64 0, .int .i64 0, .int .i64 0] ∧ HasRow W bn5 44 3) (World.drew w7) from ⟨Since.drew hrS.1, hrS.2⟩)
  clear hrK hrS
  have HPn5 := Lib.hid (show Blk (World.drew w7) bn5 44 #[.int .i64 (z zs 9 * 256 + z zs 10), .int .i64 0, .int .i64 0] from HBn5d14v2.out)
  refine wp_region_held_drew (S := fun W : World => Since w W ∧ Blk W w.heap.size 25 #[.int .i64 0, .int .i64 0, .int .i64 0, .int .i64 0, .bool false, .int .i64 0, .int .i64 0, .int .i64 0, .int .i64 0] ∧ Blk W bn4 25 #[.int .i64 (z zs 1), .int .i64 (num2 (z zs 2) (z zs 3)), .int .i64 (num2 (z zs 4) (z zs 5)), .int .i64 (num2 (z zs 6) (z zs 7)), .bool true, .int .i64 0, .int .i64 0, .int .i64 0, .int .i64 0] ∧ HasRow W bn5 44 3) (by kernel_rfl) HRD.out (fun hHeld => ?_)
  refine wpAnyH_take (i := 0) (oi := ?o14__0) (v := .int .i64 0) ?h14__0 (by kernel_rfl) (by kernel_rfl) (by kernel_rfl) ?q14__0 ?y14__0 (by assumption) ?_
  case h14__0 => (first | (simp only [gA, gB, gC]; done) | (simp only [gA, gB, gC]; exact rfl))
  case q14__0 => exact fun _ _ _ h => h
  case y14__0 => (refine Or.inl ⟨rfl, ?_⟩; intro w hSw; (first | rfl | (go_simp; (try with_reducible rfl))))
  (try simp only [Act.put, sA, sB, sC])
  refine wpAnyH_take (i := 1) (oi := ?o14__1) (v := .int .i64 0) ?h14__1 (by kernel_rfl) (by kernel_rfl) (by kernel_rfl) ?q14__1 ?y14__1 (by assumption) ?_
  case h14__1 => (first | (simp only [gA, gB, gC]; done) | (simp only [gA, gB, gC]; exact rfl))
  case q14__1 => exact fun _ _ _ h => h
  case y14__1 => (refine Or.inl ⟨rfl, ?_⟩; intro w hSw; (first | rfl | (go_simp; (try with_reducible rfl))))
  (try simp only [Act.put, sA, sB, sC])
  refine wpAnyH_take (i := 2) (oi := ?o14__2) (v := .pointer (some ⟨bn5, 0, none⟩)) ?h14__2 (by kernel_rfl) (by kernel_rfl) (by kernel_rfl) ?q14__2 ?y14__2 (by assumption) ?_
  case h14__2 => (first | (simp only [gA, gB, gC]; done) | (simp only [gA, gB, gC]; exact rfl))
  case q14__2 => exact fun _ _ _ h => h
  case y14__2 => (refine Or.inl ⟨rfl, ?_⟩; intro w hSw; (go_simp; (try with_reducible rfl)))
  (try simp only [Act.put, sA, sB, sC])
  refine wpAnyH_take (i := 5) (oi := ?o14__5) (v := .slice (some ⟨b, off, none⟩) 21 cap) ?h14__5 (by kernel_rfl) (by kernel_rfl) (by kernel_rfl) ?q14__5 ?y14__5 (by assumption) ?_
  case h14__5 => (first | (simp only [gA, gB, gC]; done) | (simp only [gA, gB, gC]; exact rfl))
  case q14__5 => exact fun _ _ _ h => h
  case y14__5 => (refine Or.inl ⟨rfl, ?_⟩; intro w hSw; (first | rfl | (go_simp; (try with_reducible rfl))))
  (try simp only [Act.put, sA, sB, sC])
  refine wpAnyH_take (i := 6) (oi := ?o14__6) (v := .int .i64 0) ?h14__6 (by kernel_rfl) (by kernel_rfl) (by kernel_rfl) ?q14__6 ?y14__6 (by assumption) ?_
  case h14__6 => (first | (simp only [gA, gB, gC]; done) | (simp only [gA, gB, gC]; exact rfl))
  case q14__6 => exact fun _ _ _ h => h
  case y14__6 => (refine Or.inl ⟨rfl, ?_⟩; intro w hSw; (first | rfl | (go_simp; (try with_reducible rfl))))
  (try simp only [Act.put, sA, sB, sC])
  refine wpAnyH_take (i := 7) (oi := ?o14__7) (v := .int .i64 0) ?h14__7 (by kernel_rfl) (by kernel_rfl) (by kernel_rfl) ?q14__7 ?y14__7 (by assumption) ?_
  case h14__7 => (first | (simp only [gA, gB, gC]; done) | (simp only [gA, gB, gC]; exact rfl))
  case q14__7 => exact fun _ _ _ h => h
  case y14__7 => (refine Or.inl ⟨rfl, ?_⟩; intro w hSw; (first | rfl | kernel_rfl | (go_simp; (try with_reducible rfl))))
  (try simp only [Act.put, sA, sB, sC])
  refine wpAnyH_take (i := 8) (oi := ?o14__8) (v := .int .i64 9) ?h14__8 (by kernel_rfl) (by kernel_rfl) (by kernel_rfl) ?q14__8 ?y14__8 (by assumption) ?_
  case h14__8 => (first | (simp only [gA, gB, gC]; done) | (simp only [gA, gB, gC]; exact rfl))
  case q14__8 => exact fun _ _ _ h => h
  case y14__8 => (refine Or.inl ⟨rfl, ?_⟩; intro w hSw; (first | rfl | kernel_rfl | (go_simp; (try with_reducible rfl))))
  (try simp only [Act.put, sA, sB, sC])
  refine wpAnyH_take (i := 9) (oi := ?o14__9) (v := .int .i64 2) ?h14__9 (by kernel_rfl) (by kernel_rfl) (by kernel_rfl) ?q14__9 ?y14__9 (by assumption) ?_
  case h14__9 => (first | (simp only [gA, gB, gC]; done) | (simp only [gA, gB, gC]; exact rfl))
  case q14__9 => exact fun _ _ _ h => h
  case y14__9 => (refine Or.inl ⟨rfl, ?_⟩; intro w hSw; (first | rfl | (go_simp; (try with_reducible rfl))))
  (try simp only [Act.put, sA, sB, sC])
  refine wpAnyH_take (i := 10) (oi := ?o14__10) (v := .int .i64 11) ?h14__10 (by kernel_rfl) (by kernel_rfl) (by kernel_rfl) ?q14__10 ?y14__10 (by assumption) ?_
  case h14__10 => (first | (simp only [gA, gB, gC]; done) | (simp only [gA, gB, gC]; exact rfl))
  case q14__10 => exact fun _ _ _ h => h
  case y14__10 => (refine Or.inl ⟨rfl, ?_⟩; intro w hSw; (first | rfl | kernel_rfl | (go_simp; (try with_reducible rfl))))
  (try simp only [Act.put, sA, sB, sC])
  refine wpAnyH_take (i := 11) (oi := ?o14__11) (v := .pointer (some ⟨b, (off + 11), none⟩)) ?h14__11 (by kernel_rfl) (by kernel_rfl) (by kernel_rfl) ?q14__11 ?y14__11 (by assumption) ?_
  case h14__11 => (first | (simp only [gA, gB, gC]; done) | (simp only [gA, gB, gC]; exact rfl))
  case q14__11 => exact fun _ _ _ h => h
  case y14__11 => (refine Or.inl ⟨rfl, ?_⟩; intro w hSw; (first | rfl | (go_simp; (try with_reducible rfl))))
  (try simp only [Act.put, sA, sB, sC])
  refine wpAnyH_take (i := 12) (oi := ?o14__12) (v := .int .u8 (z zs 11)) ?h14__12 (by kernel_rfl) (by kernel_rfl) (by kernel_rfl) ?q14__12 ?y14__12 (by assumption) ?_
  case h14__12 => (first | (simp only [gA, gB, gC]; done) | (simp only [gA, gB, gC]; exact rfl))
  case q14__12 => exact fun _ _ _ h => h
  case y14__12 => (refine Or.inl ⟨rfl, ?_⟩; intro w hSw; exact exec_at 5 _ _ (keep_cell hSw.1 (HC.out 11 (by omega))) rfl rfl Tryd.underlying5 rfl)
  (try simp only [Act.put, sA, sB, sC])
  refine wpAnyH_take (i := 13) (oi := ?o14__13) (v := .int .i64 (z zs 11)) ?h14__13 (by kernel_rfl) (by kernel_rfl) (by kernel_rfl) ?q14__13 ?y14__13 (by assumption) ?_
  case h14__13 => (first | (simp only [gA, gB, gC]; done) | (simp only [gA, gB, gC]; exact rfl))
  case q14__13 => exact fun _ _ _ h => h
  case y14__13 => (refine Or.inl ⟨rfl, ?_⟩; intro w hSw; (have q := HI11.out; go_simp; exact wr64 _ (by omega) (by omega)))
  (try simp only [Act.put, sA, sB, sC])
  refine wpAnyH_ready (rs := [3]) (by kernel_rfl) (by simp) ?_
  refine AllReadyH.cons (o := ?o14__3) ?h14__3 (fun K hK => ?_) AllReadyH.nil
  case h14__3 => (first | (simp only [gA, gB, gC]; done) | (simp only [gA, gB, gC]; exact rfl))
  rw [if_pos (by rfl)]
  refine wp_q (.int .i64 (z zs 9 * 256 + z zs 10)) ?e14__3 ?_
  case e14__3 => exact exec_cell 3 _ _ HPn5.out rfl rfl rfl Tryd.underlying3 rfl
  refine hK.out _ _ hHeld (fun hHeld2 => ?_)
  clear hK K hHeld2
  (try simp only [Act.put, sA, sB, sC])
  refine wpAnyH_take (i := 4) (oi := ?o14__4) (v := .int .i64 ((z zs 9 * 256 + z zs 10) * 256)) ?h14__4 (by kernel_rfl) (by kernel_rfl) (by kernel_rfl) ?q14__4 ?y14__4 (by assumption) ?_
  case h14__4 => (first | (simp only [gA, gB, gC]; done) | (simp only [gA, gB, gC]; exact rfl))
  case q14__4 => exact fun _ _ _ h => h
  case y14__4 => (refine Or.inl ⟨rfl, ?_⟩; intro w hSw; (have q9 := HI9.out; have q10 := HI10.out; have q11 := HI11.out; go_simp; (first | done | exact wr64 _ (by omega) (by omega))))
  (try simp only [Act.put, sA, sB, sC])
  refine wpAnyH_take (i := 14) (oi := ?o14__14) (v := .int .i64 ((z zs 9 * 256 + z zs 10) * 256 + z zs 11)) ?h14__14 (by kernel_rfl) (by kernel_rfl) (by kernel_rfl) ?q14__14 ?y14__14 (by assumption) ?_
  case h14__14 => (first | (simp only [gA, gB, gC]; done) | (simp only [gA, gB, gC]; exact rfl))
  case q14__14 => exact fun _ _ _ h => h
  case y14__14 => (refine Or.inl ⟨rfl, ?_⟩; intro w hSw; (have q9 := HI9.out; have q10 := HI10.out; have q11 := HI11.out; go_simp; (first | done | exact wr64 _ (by omega) (by omega))))
  (try simp only [Act.put, sA, sB, sC])
  refine wpAnyH_take (i := 15) (oi := ?o14__15) (v := .pointer (some ⟨bn5, 0, none⟩)) ?h14__15 (by kernel_rfl) (by kernel_rfl) (by kernel_rfl) ?q14__15 ?y14__15 (by assumption) ?_
  case h14__15 => (first | (simp only [gA, gB, gC]; done) | (simp only [gA, gB, gC]; exact rfl))
  case q14__15 => exact fun _ _ _ h => h
  case y14__15 => (refine Or.inl ⟨rfl, ?_⟩; intro w hSw; (go_simp; (try with_reducible rfl)))
  (try simp only [Act.put, sA, sB, sC])
  refine wpAnyH_ready (rs := [16]) (by kernel_rfl) (by simp) ?_
  refine AllReadyH.cons (o := ?o14__16) ?h14__16 (fun K hK => ?_) AllReadyH.nil
  case h14__16 => (first | (simp only [gA, gB, gC]; done) | (simp only [gA, gB, gC]; exact rfl))
  rw [if_pos (by rfl)]
  refine wp_st_cell 3 _ _ rfl #[.int .i64 ((z zs 9 * 256 + z zs 10) * 256 + z zs 11), .int .i64 0, .int .i64 0] (.int .i64 ((z zs 9 * 256 + z zs 10) * 256 + z zs 11)) rfl rfl HPn5.out (by show 0 < 3; decide) rfl (by first | rfl | simp [Value.oneCell']) (by kernel_rfl) ?_
  clear HPn5
  intro w8 hw
  have HRn5 := Lib.hid (show Blk w8 bn5 44 #[.int .i64 ((z zs 9 * 256 + z zs 10) * 256 + z zs 11), .int .i64 0, .int .i64 0] by obtain ⟨old, Bo, _⟩ := hHeld.2.2.2; rw [hw]; exact Blk.row Bo _)
  have hHeld3 : (fun W : World => Since w W ∧ Blk W w.heap.size 25 #[.int .i64 0, .int .i64 0, .int .i64 0, .int .i64 0, .bool false, .int .i64 0, .int .i64 0, .int .i64 0, .int .i64 0] ∧ Blk W bn4 25 #[.int .i64 (z zs 1), .int .i64 (num2 (z zs 2) (z zs 3)), .int .i64 (num2 (z zs 4) (z zs 5)), .int .i64 (num2 (z zs 6) (z zs 7)), .bool true, .int .i64 0, .int .i64 0, .int .i64 0, .int .i64 0] ∧ HasRow W bn5 44 3) w8 := ⟨by rw [hw]; exact Since.setRow hHeld.1 HGn5.out _, by rw [hw]; exact Blk.row_far (hHeld.2.1) (Ne.symm HNn5R.out) _, by rw [hw]; exact Blk.row_far (hHeld.2.2.1) (Ne.symm HNn5n4.out) _, HasRow.of HRn5.out rfl⟩
  refine hK.out _ _ hHeld3 (fun hHeld2 => ?_)
  clear hK K hHeld hHeld3 hw
  have hHeld := hHeld2
  clear hHeld2
  (try simp only [Act.put, sA, sB, sC])
  refine wpAnyH_done (by kernel_rfl) ?_ _
  have HSd14v3 := Lib.hid hHeld.1
  have HBRd14v3 := Lib.hid (hHeld.2.1)
  have HBn4d14v3 := Lib.hid (hHeld.2.2.1)
  have HBn5d14v3 := Lib.hid HRn5.out
  clear HRn5
  clear hHeld HRK HRD HSd14v2 HBRd14v2 HBn4d14v2 HBn5d14v2
  go_upto_region 13 with fail
  refine wp_region_lit ?_
  refine wpList_q (by rfl) (.int .i64 2) ?he ?_
  case he => (first | rfl | (go_simp; (try with_reducible rfl)))
  (try simp only [Act.put, sA, sB, sC])
  refine wpList_q (by rfl) (.int .i64 3) ?he ?_
  case he => (first | rfl | kernel_rfl | (go_simp; (try with_reducible rfl)))
  (try simp only [Act.put, sA, sB, sC])
  refine wpList_q (by rfl) (.int .i64 3) ?he ?_
  case he => (first | rfl | (go_simp; (try with_reducible rfl)))
  (try simp only [Act.put, sA, sB, sC])
  refine wpList_nil ?_
  go_wp2_with fail
  rw [rounds_succ]
  go_upto_region 12 with fail
  refine wp_region_lit ?_
  refine wpList_q (by rfl) (.int .i64 3) ?he ?_
  case he => (first | rfl | (go_simp; (try with_reducible rfl)))
  (try simp only [Act.put, sA, sB, sC])
  refine wpList_q (by rfl) (.bool true) ?he ?_
  case he => (go_simp; (try with_reducible rfl))
  (try simp only [Act.put, sA, sB, sC])
  refine wpList_nil ?_
  go_upto_region 14 with fail
  have hrK : ∀ W W' : World, Since W W' → (Since w W ∧ Blk W w.heap.size 25 #[.int .i64 0, .int .i64 0, .int .i64 0, .int .i64 0, .bool false, .int .i64 0, .int .i64 0, .int .i64 0, .int .i64 0] ∧ Blk W bn4 25 #[.int .i64 (z zs 1), .int .i64 (num2 (z zs 2) (z zs 3)), .int .i64 (num2 (z zs 4) (z zs 5)), .int .i64 (num2 (z zs 6) (z zs 7)), .bool true, .int .i64 0, .int .i64 0, .int .i64 0, .int .i64 0] ∧ HasRow W bn5 44 3) → (Since w W' ∧ Blk W' w.heap.size 25 #[.int .i64 0, .int .i64 0, .int .i64 0, .int .i64 0, .bool false, .int .i64 0, .int .i64 0, .int .i64 0, .int .i64 0] ∧ Blk W' bn4 25 #[.int .i64 (z zs 1), .int .i64 (num2 (z zs 2) (z zs 3)), .int .i64 (num2 (z zs 4) (z zs 5)), .int .i64 (num2 (z zs 6) (z zs 7)), .bool true, .int .i64 0, .int .i64 0, .int .i64 0, .int .i64 0] ∧ HasRow W' bn5 44 3) := fun W W' k ⟨h, h0, h1, h2⟩ => ⟨h.trans k, keep_blk k h0, keep_blk k h1, HasRow.keep k h2⟩
  have hrS : (fun W : World => Since w W ∧ Blk W w.heap.size 25 #[.int .i64 0, .int .i64 0, .int .i64 0, .int .i64 0, .bool false, .int .i64 0, .int .i64 0, .int .i64 0, .int .i64 0] ∧ Blk W bn4 25 #[.int .i64 (z zs 1), .int .i64 (num2 (z zs 2) (z zs 3)), .int .i64 (num2 (z zs 4) (z zs 5)), .int .i64 (num2 (z zs 6) (z zs 7)), .bool true, .int .i64 0, .int .i64 0, .int .i64 0, .int .i64 0] ∧ HasRow W bn5 44 3) w8 := ⟨HSd14v3.out, HBRd14v3.out, HBn4d14v3.out, HasRow.of HBn5d14v3.out rfl⟩
  have HRK := Lib.hid hrK
  have HRD := Lib.hid (show (fun W : World => Since w W ∧ Blk W w.heap.size 25 #[.int .i64 0, .int .i64 0, .int .i64 0, .int .i64 0, .bool false, .int .i64 0, .int .i64 0, .int .i64 0, .int .i64 0] ∧ Blk W bn4 25 #[.int .i64 (z zs 1), .int .i64 (num2 (z zs 2) (z zs 3)), .int .i64 (num2 (z zs 4) (z zs 5)), .int .i64 (num2 (z zs 6) (z zs 7)), .bool true, .int .i64 0, .int .i64 0, .int .i64 0, .int .i64 0] ∧ HasRow W bn5 44 3) (World.drew w8) from ⟨Since.drew hrS.1, hrS.2⟩)
  clear hrK hrS
  have HPn5 := Lib.hid (show Blk (World.drew w8) bn5 44 #[.int .i64 ((z zs 9 * 256 + z zs 10) * 256 + z zs 11), .int .i64 0, .int .i64 0] from HBn5d14v3.out)
  refine wp_region_held_drew (S := fun W : World => Since w W ∧ Blk W w.heap.size 25 #[.int .i64 0, .int .i64 0, .int .i64 0, .int .i64 0, .bool false, .int .i64 0, .int .i64 0, .int .i64 0, .int .i64 0] ∧ Blk W bn4 25 #[.int .i64 (z zs 1), .int .i64 (num2 (z zs 2) (z zs 3)), .int .i64 (num2 (z zs 4) (z zs 5)), .int .i64 (num2 (z zs 6) (z zs 7)), .bool true, .int .i64 0, .int .i64 0, .int .i64 0, .int .i64 0] ∧ HasRow W bn5 44 3) (by kernel_rfl) HRD.out (fun hHeld => ?_)
  refine wpAnyH_take (i := 0) (oi := ?o14__0) (v := .int .i64 0) ?h14__0 (by kernel_rfl) (by kernel_rfl) (by kernel_rfl) ?q14__0 ?y14__0 (by assumption) ?_
  case h14__0 => (first | (simp only [gA, gB, gC]; done) | (simp only [gA, gB, gC]; exact rfl))
  case q14__0 => exact fun _ _ _ h => h
  case y14__0 => (refine Or.inl ⟨rfl, ?_⟩; intro w hSw; (first | rfl | (go_simp; (try with_reducible rfl))))
  (try simp only [Act.put, sA, sB, sC])
  refine wpAnyH_take (i := 1) (oi := ?o14__1) (v := .int .i64 0) ?h14__1 (by kernel_rfl) (by kernel_rfl) (by kernel_rfl) ?q14__1 ?y14__1 (by assumption) ?_
  case h14__1 => (first | (simp only [gA, gB, gC]; done) | (simp only [gA, gB, gC]; exact rfl))
  case q14__1 => exact fun _ _ _ h => h
  case y14__1 => (refine Or.inl ⟨rfl, ?_⟩; intro w hSw; (first | rfl | (go_simp; (try with_reducible rfl))))
  (try simp only [Act.put, sA, sB, sC])
  refine wpAnyH_take (i := 2) (oi := ?o14__2) (v := .pointer (some ⟨bn5, 0, none⟩)) ?h14__2 (by kernel_rfl) (by kernel_rfl) (by kernel_rfl) ?q14__2 ?y14__2 (by assumption) ?_
  case h14__2 => (first | (simp only [gA, gB, gC]; done) | (simp only [gA, gB, gC]; exact rfl))
  case q14__2 => exact fun _ _ _ h => h
  case y14__2 => (refine Or.inl ⟨rfl, ?_⟩; intro w hSw; (go_simp; (try with_reducible rfl)))
  (try simp only [Act.put, sA, sB, sC])
  refine wpAnyH_take (i := 5) (oi := ?o14__5) (v := .slice (some ⟨b, off, none⟩) 21 cap) ?h14__5 (by kernel_rfl) (by kernel_rfl) (by kernel_rfl) ?q14__5 ?y14__5 (by assumption) ?_
  case h14__5 => (first | (simp only [gA, gB, gC]; done) | (simp only [gA, gB, gC]; exact rfl))
  case q14__5 => exact fun _ _ _ h => h
  case y14__5 => (refine Or.inl ⟨rfl, ?_⟩; intro w hSw; (first | rfl | (go_simp; (try with_reducible rfl))))
  (try simp only [Act.put, sA, sB, sC])
  refine wpAnyH_take (i := 6) (oi := ?o14__6) (v := .int .i64 0) ?h14__6 (by kernel_rfl) (by kernel_rfl) (by kernel_rfl) ?q14__6 ?y14__6 (by assumption) ?_
  case h14__6 => (first | (simp only [gA, gB, gC]; done) | (simp only [gA, gB, gC]; exact rfl))
  case q14__6 => exact fun _ _ _ h => h
  case y14__6 => (refine Or.inl ⟨rfl, ?_⟩; intro w hSw; (first | rfl | (go_simp; (try with_reducible rfl))))
  (try simp only [Act.put, sA, sB, sC])
  refine wpAnyH_take (i := 7) (oi := ?o14__7) (v := .int .i64 0) ?h14__7 (by kernel_rfl) (by kernel_rfl) (by kernel_rfl) ?q14__7 ?y14__7 (by assumption) ?_
  case h14__7 => (first | (simp only [gA, gB, gC]; done) | (simp only [gA, gB, gC]; exact rfl))
  case q14__7 => exact fun _ _ _ h => h
  case y14__7 => (refine Or.inl ⟨rfl, ?_⟩; intro w hSw; (first | rfl | kernel_rfl | (go_simp; (try with_reducible rfl))))
  (try simp only [Act.put, sA, sB, sC])
  refine wpAnyH_take (i := 8) (oi := ?o14__8) (v := .int .i64 9) ?h14__8 (by kernel_rfl) (by kernel_rfl) (by kernel_rfl) ?q14__8 ?y14__8 (by assumption) ?_
  case h14__8 => (first | (simp only [gA, gB, gC]; done) | (simp only [gA, gB, gC]; exact rfl))
  case q14__8 => exact fun _ _ _ h => h
  case y14__8 => (refine Or.inl ⟨rfl, ?_⟩; intro w hSw; (first | rfl | kernel_rfl | (go_simp; (try with_reducible rfl))))
  (try simp only [Act.put, sA, sB, sC])
  refine wpAnyH_take (i := 9) (oi := ?o14__9) (v := .int .i64 3) ?h14__9 (by kernel_rfl) (by kernel_rfl) (by kernel_rfl) ?q14__9 ?y14__9 (by assumption) ?_
  case h14__9 => (first | (simp only [gA, gB, gC]; done) | (simp only [gA, gB, gC]; exact rfl))
  case q14__9 => exact fun _ _ _ h => h
  case y14__9 => (refine Or.inl ⟨rfl, ?_⟩; intro w hSw; (first | rfl | (go_simp; (try with_reducible rfl))))
  (try simp only [Act.put, sA, sB, sC])
  refine wpAnyH_take (i := 10) (oi := ?o14__10) (v := .int .i64 12) ?h14__10 (by kernel_rfl) (by kernel_rfl) (by kernel_rfl) ?q14__10 ?y14__10 (by assumption) ?_
  case h14__10 => (first | (simp only [gA, gB, gC]; done) | (simp only [gA, gB, gC]; exact rfl))
  case q14__10 => exact fun _ _ _ h => h
  case y14__10 => (refine Or.inl ⟨rfl, ?_⟩; intro w hSw; (first | rfl | kernel_rfl | (go_simp; (try with_reducible rfl))))
  (try simp only [Act.put, sA, sB, sC])
  refine wpAnyH_take (i := 11) (oi := ?o14__11) (v := .pointer (some ⟨b, (off + 12), none⟩)) ?h14__11 (by kernel_rfl) (by kernel_rfl) (by kernel_rfl) ?q14__11 ?y14__11 (by assumption) ?_
  case h14__11 => (first | (simp only [gA, gB, gC]; done) | (simp only [gA, gB, gC]; exact rfl))
  case q14__11 => exact fun _ _ _ h => h
  case y14__11 => (refine Or.inl ⟨rfl, ?_⟩; intro w hSw; (first | rfl | (go_simp; (try with_reducible rfl))))
  (try simp only [Act.put, sA, sB, sC])
  refine wpAnyH_take (i := 12) (oi := ?o14__12) (v := .int .u8 (z zs 12)) ?h14__12 (by kernel_rfl) (by kernel_rfl) (by kernel_rfl) ?q14__12 ?y14__12 (by assumption) ?_
  case h14__12 => (first | (simp only [gA, gB, gC]; done) | (simp only [gA, gB, gC]; exact rfl))
  case q14__12 => exact fun _ _ _ h => h
  case y14__12 => (refine Or.inl ⟨rfl, ?_⟩; intro w hSw; exact exec_at 5 _ _ (keep_cell hSw.1 (HC.out 12 (by omega))) rfl rfl Tryd.underlying5 rfl)
  (try simp only [Act.put, sA, sB, sC])
  refine wpAnyH_take (i := 13) (oi := ?o14__13) (v := .int .i64 (z zs 12)) ?h14__13 (by kernel_rfl) (by kernel_rfl) (by kernel_rfl) ?q14__13 ?y14__13 (by assumption) ?_
  case h14__13 => (first | (simp only [gA, gB, gC]; done) | (simp only [gA, gB, gC]; exact rfl))
  case q14__13 => exact fun _ _ _ h => h
  case y14__13 => (refine Or.inl ⟨rfl, ?_⟩; intro w hSw; (have q := HI12.out; go_simp; exact wr64 _ (by omega) (by omega)))
  (try simp only [Act.put, sA, sB, sC])
  refine wpAnyH_ready (rs := [3]) (by kernel_rfl) (by simp) ?_
  refine AllReadyH.cons (o := ?o14__3) ?h14__3 (fun K hK => ?_) AllReadyH.nil
  case h14__3 => (first | (simp only [gA, gB, gC]; done) | (simp only [gA, gB, gC]; exact rfl))
  rw [if_pos (by rfl)]
  refine wp_q (.int .i64 ((z zs 9 * 256 + z zs 10) * 256 + z zs 11)) ?e14__3 ?_
  case e14__3 => exact exec_cell 3 _ _ HPn5.out rfl rfl rfl Tryd.underlying3 rfl
  refine hK.out _ _ hHeld (fun hHeld2 => ?_)
  clear hK K hHeld2
  (try simp only [Act.put, sA, sB, sC])
  refine wpAnyH_take (i := 4) (oi := ?o14__4) (v := .int .i64 (((z zs 9 * 256 + z zs 10) * 256 + z zs 11) * 256)) ?h14__4 (by kernel_rfl) (by kernel_rfl) (by kernel_rfl) ?q14__4 ?y14__4 (by assumption) ?_
  case h14__4 => (first | (simp only [gA, gB, gC]; done) | (simp only [gA, gB, gC]; exact rfl))
  case q14__4 => exact fun _ _ _ h => h
  case y14__4 => (refine Or.inl ⟨rfl, ?_⟩; intro w hSw; (have q9 := HI9.out; have q10 := HI10.out; have q11 := HI11.out; have q12 := HI12.out; go_simp; (first | done | exact wr64 _ (by omega) (by omega))))
  (try simp only [Act.put, sA, sB, sC])
  refine wpAnyH_take (i := 14) (oi := ?o14__14) (v := .int .i64 (((z zs 9 * 256 + z zs 10) * 256 + z zs 11) * 256 + z zs 12)) ?h14__14 (by kernel_rfl) (by kernel_rfl) (by kernel_rfl) ?q14__14 ?y14__14 (by assumption) ?_
  case h14__14 => (first | (simp only [gA, gB, gC]; done) | (simp only [gA, gB, gC]; exact rfl))
  case q14__14 => exact fun _ _ _ h => h
  case y14__14 => (refine Or.inl ⟨rfl, ?_⟩; intro w hSw; (have q9 := HI9.out; have q10 := HI10.out; have q11 := HI11.out; have q12 := HI12.out; go_simp; (first | done | exact wr64 _ (by omega) (by omega))))
  (try simp only [Act.put, sA, sB, sC])
  refine wpAnyH_take (i := 15) (oi := ?o14__15) (v := .pointer (some ⟨bn5, 0, none⟩)) ?h14__15 (by kernel_rfl) (by kernel_rfl) (by kernel_rfl) ?q14__15 ?y14__15 (by assumption) ?_
  case h14__15 => (first | (simp only [gA, gB, gC]; done) | (simp only [gA, gB, gC]; exact rfl))
  case q14__15 => exact fun _ _ _ h => h
  case y14__15 => (refine Or.inl ⟨rfl, ?_⟩; intro w hSw; (go_simp; (try with_reducible rfl)))
  (try simp only [Act.put, sA, sB, sC])
  refine wpAnyH_ready (rs := [16]) (by kernel_rfl) (by simp) ?_
  refine AllReadyH.cons (o := ?o14__16) ?h14__16 (fun K hK => ?_) AllReadyH.nil
  case h14__16 => (first | (simp only [gA, gB, gC]; done) | (simp only [gA, gB, gC]; exact rfl))
  rw [if_pos (by rfl)]
  refine wp_st_cell 3 _ _ rfl #[.int .i64 (((z zs 9 * 256 + z zs 10) * 256 + z zs 11) * 256 + z zs 12), .int .i64 0, .int .i64 0] (.int .i64 (((z zs 9 * 256 + z zs 10) * 256 + z zs 11) * 256 + z zs 12)) rfl rfl HPn5.out (by show 0 < 3; decide) rfl (by first | rfl | simp [Value.oneCell']) (by kernel_rfl) ?_
  clear HPn5
  intro w9 hw
  have HRn5 := Lib.hid (show Blk w9 bn5 44 #[.int .i64 (((z zs 9 * 256 + z zs 10) * 256 + z zs 11) * 256 + z zs 12), .int .i64 0, .int .i64 0] by obtain ⟨old, Bo, _⟩ := hHeld.2.2.2; rw [hw]; exact Blk.row Bo _)
  have hHeld3 : (fun W : World => Since w W ∧ Blk W w.heap.size 25 #[.int .i64 0, .int .i64 0, .int .i64 0, .int .i64 0, .bool false, .int .i64 0, .int .i64 0, .int .i64 0, .int .i64 0] ∧ Blk W bn4 25 #[.int .i64 (z zs 1), .int .i64 (num2 (z zs 2) (z zs 3)), .int .i64 (num2 (z zs 4) (z zs 5)), .int .i64 (num2 (z zs 6) (z zs 7)), .bool true, .int .i64 0, .int .i64 0, .int .i64 0, .int .i64 0] ∧ HasRow W bn5 44 3) w9 := ⟨by rw [hw]; exact Since.setRow hHeld.1 HGn5.out _, by rw [hw]; exact Blk.row_far (hHeld.2.1) (Ne.symm HNn5R.out) _, by rw [hw]; exact Blk.row_far (hHeld.2.2.1) (Ne.symm HNn5n4.out) _, HasRow.of HRn5.out rfl⟩
  refine hK.out _ _ hHeld3 (fun hHeld2 => ?_)
  clear hK K hHeld hHeld3 hw
  have hHeld := hHeld2
  clear hHeld2
  (try simp only [Act.put, sA, sB, sC])
  refine wpAnyH_done (by kernel_rfl) ?_ _
  have HSd14v4 := Lib.hid hHeld.1
  have HBRd14v4 := Lib.hid (hHeld.2.1)
  have HBn4d14v4 := Lib.hid (hHeld.2.2.1)
  have HBn5d14v4 := Lib.hid HRn5.out
  clear HRn5
  clear hHeld HRK HRD HSd14v3 HBRd14v3 HBn4d14v3 HBn5d14v3
  go_upto_region 13 with fail
  refine wp_region_lit ?_
  refine wpList_q (by rfl) (.int .i64 3) ?he ?_
  case he => (first | rfl | (go_simp; (try with_reducible rfl)))
  (try simp only [Act.put, sA, sB, sC])
  refine wpList_q (by rfl) (.int .i64 4) ?he ?_
  case he => (first | rfl | kernel_rfl | (go_simp; (try with_reducible rfl)))
  (try simp only [Act.put, sA, sB, sC])
  refine wpList_q (by rfl) (.int .i64 4) ?he ?_
  case he => (first | rfl | (go_simp; (try with_reducible rfl)))
  (try simp only [Act.put, sA, sB, sC])
  refine wpList_nil ?_
  go_wp2_with fail
  rw [rounds_succ]
  go_upto_region 12 with fail
  refine wp_region_lit ?_
  refine wpList_q (by rfl) (.int .i64 4) ?he ?_
  case he => (first | rfl | (go_simp; (try with_reducible rfl)))
  (try simp only [Act.put, sA, sB, sC])
  refine wpList_q (by rfl) (.bool false) ?he ?_
  case he => (go_simp; (try with_reducible rfl))
  (try simp only [Act.put, sA, sB, sC])
  refine wpList_nil ?_
  go_upto_region 10 with fail
  refine wp_region_lit ?_
  refine wpList_q (by rfl) (.int .i64 0) ?he ?_
  case he => (first | rfl | (go_simp; (try with_reducible rfl)))
  (try simp only [Act.put, sA, sB, sC])
  refine wpList_q (by rfl) (.int .i64 1) ?he ?_
  case he => (first | rfl | kernel_rfl | (go_simp; (try with_reducible rfl)))
  (try simp only [Act.put, sA, sB, sC])
  refine wpList_q (by rfl) (.int .i64 1) ?he ?_
  case he => (first | rfl | (go_simp; (try with_reducible rfl)))
  (try simp only [Act.put, sA, sB, sC])
  refine wpList_nil ?_
  go_wp2_with fail
  rw [rounds_succ]
  go_upto_region 9 with fail
  refine wp_region_lit ?_
  refine wpList_q (by rfl) (.int .i64 1) ?he ?_
  case he => (first | rfl | (go_simp; (try with_reducible rfl)))
  (try simp only [Act.put, sA, sB, sC])
  refine wpList_q (by rfl) (.bool true) ?he ?_
  case he => (go_simp; (try with_reducible rfl))
  (try simp only [Act.put, sA, sB, sC])
  refine wpList_nil ?_
  go_upto_region 11 with fail
  refine wp_region_lit ?_
  refine wpList_q (by rfl) (.int .i64 0) ?he ?_
  case he => (first | rfl | (go_simp; (try with_reducible rfl)))
  (try simp only [Act.put, sA, sB, sC])
  refine wpList_nil ?_
  go_wp2_with fail
  refine wp_loop_rounds 5 ?_
  rw [rounds_succ]
  go_upto_region 12 with fail
  refine wp_region_lit ?_
  refine wpList_q (by rfl) (.int .i64 0) ?he ?_
  case he => (first | rfl | (go_simp; (try with_reducible rfl)))
  (try simp only [Act.put, sA, sB, sC])
  refine wpList_q (by rfl) (.bool true) ?he ?_
  case he => (go_simp; (try with_reducible rfl))
  (try simp only [Act.put, sA, sB, sC])
  refine wpList_nil ?_
  go_upto_region 14 with fail
  have hrK : ∀ W W' : World, Since W W' → (Since w W ∧ Blk W w.heap.size 25 #[.int .i64 0, .int .i64 0, .int .i64 0, .int .i64 0, .bool false, .int .i64 0, .int .i64 0, .int .i64 0, .int .i64 0] ∧ Blk W bn4 25 #[.int .i64 (z zs 1), .int .i64 (num2 (z zs 2) (z zs 3)), .int .i64 (num2 (z zs 4) (z zs 5)), .int .i64 (num2 (z zs 6) (z zs 7)), .bool true, .int .i64 0, .int .i64 0, .int .i64 0, .int .i64 0] ∧ HasRow W bn5 44 3) → (Since w W' ∧ Blk W' w.heap.size 25 #[.int .i64 0, .int .i64 0, .int .i64 0, .int .i64 0, .bool false, .int .i64 0, .int .i64 0, .int .i64 0, .int .i64 0] ∧ Blk W' bn4 25 #[.int .i64 (z zs 1), .int .i64 (num2 (z zs 2) (z zs 3)), .int .i64 (num2 (z zs 4) (z zs 5)), .int .i64 (num2 (z zs 6) (z zs 7)), .bool true, .int .i64 0, .int .i64 0, .int .i64 0, .int .i64 0] ∧ HasRow W' bn5 44 3) := fun W W' k ⟨h, h0, h1, h2⟩ => ⟨h.trans k, keep_blk k h0, keep_blk k h1, HasRow.keep k h2⟩
  have hrS : (fun W : World => Since w W ∧ Blk W w.heap.size 25 #[.int .i64 0, .int .i64 0, .int .i64 0, .int .i64 0, .bool false, .int .i64 0, .int .i64 0, .int .i64 0, .int .i64 0] ∧ Blk W bn4 25 #[.int .i64 (z zs 1), .int .i64 (num2 (z zs 2) (z zs 3)), .int .i64 (num2 (z zs 4) (z zs 5)), .int .i64 (num2 (z zs 6) (z zs 7)), .bool true, .int .i64 0, .int .i64 0, .int .i64 0, .int .i64 0] ∧ HasRow W bn5 44 3) w9 := ⟨HSd14v4.out, HBRd14v4.out, HBn4d14v4.out, HasRow.of HBn5d14v4.out rfl⟩
  have HRK := Lib.hid hrK
  have HRD := Lib.hid (show (fun W : World => Since w W ∧ Blk W w.heap.size 25 #[.int .i64 0, .int .i64 0, .int .i64 0, .int .i64 0, .bool false, .int .i64 0, .int .i64 0, .int .i64 0, .int .i64 0] ∧ Blk W bn4 25 #[.int .i64 (z zs 1), .int .i64 (num2 (z zs 2) (z zs 3)), .int .i64 (num2 (z zs 4) (z zs 5)), .int .i64 (num2 (z zs 6) (z zs 7)), .bool true, .int .i64 0, .int .i64 0, .int .i64 0, .int .i64 0] ∧ HasRow W bn5 44 3) (World.drew w9) from ⟨Since.drew hrS.1, hrS.2⟩)
  clear hrK hrS
  have HPn5 := Lib.hid (show Blk (World.drew w9) bn5 44 #[.int .i64 (((z zs 9 * 256 + z zs 10) * 256 + z zs 11) * 256 + z zs 12), .int .i64 0, .int .i64 0] from HBn5d14v4.out)
  refine wp_region_held_drew (S := fun W : World => Since w W ∧ Blk W w.heap.size 25 #[.int .i64 0, .int .i64 0, .int .i64 0, .int .i64 0, .bool false, .int .i64 0, .int .i64 0, .int .i64 0, .int .i64 0] ∧ Blk W bn4 25 #[.int .i64 (z zs 1), .int .i64 (num2 (z zs 2) (z zs 3)), .int .i64 (num2 (z zs 4) (z zs 5)), .int .i64 (num2 (z zs 6) (z zs 7)), .bool true, .int .i64 0, .int .i64 0, .int .i64 0, .int .i64 0] ∧ HasRow W bn5 44 3) (by kernel_rfl) HRD.out (fun hHeld => ?_)
  refine wpAnyH_take (i := 0) (oi := ?o14__0) (v := .int .i64 1) ?h14__0 (by kernel_rfl) (by kernel_rfl) (by kernel_rfl) ?q14__0 ?y14__0 (by assumption) ?_
  case h14__0 => (first | (simp only [gA, gB, gC]; done) | (simp only [gA, gB, gC]; exact rfl))
  case q14__0 => exact fun _ _ _ h => h
  case y14__0 => (refine Or.inl ⟨rfl, ?_⟩; intro w hSw; (first | rfl | (go_simp; (try with_reducible rfl))))
  (try simp only [Act.put, sA, sB, sC])
  refine wpAnyH_take (i := 1) (oi := ?o14__1) (v := .int .i64 1) ?h14__1 (by kernel_rfl) (by kernel_rfl) (by kernel_rfl) ?q14__1 ?y14__1 (by assumption) ?_
  case h14__1 => (first | (simp only [gA, gB, gC]; done) | (simp only [gA, gB, gC]; exact rfl))
  case q14__1 => exact fun _ _ _ h => h
  case y14__1 => (refine Or.inl ⟨rfl, ?_⟩; intro w hSw; (first | rfl | (go_simp; (try with_reducible rfl))))
  (try simp only [Act.put, sA, sB, sC])
  refine wpAnyH_take (i := 2) (oi := ?o14__2) (v := .pointer (some ⟨bn5, 1, none⟩)) ?h14__2 (by kernel_rfl) (by kernel_rfl) (by kernel_rfl) ?q14__2 ?y14__2 (by assumption) ?_
  case h14__2 => (first | (simp only [gA, gB, gC]; done) | (simp only [gA, gB, gC]; exact rfl))
  case q14__2 => exact fun _ _ _ h => h
  case y14__2 => (refine Or.inl ⟨rfl, ?_⟩; intro w hSw; (go_simp; (try with_reducible rfl)))
  (try simp only [Act.put, sA, sB, sC])
  refine wpAnyH_take (i := 5) (oi := ?o14__5) (v := .slice (some ⟨b, off, none⟩) 21 cap) ?h14__5 (by kernel_rfl) (by kernel_rfl) (by kernel_rfl) ?q14__5 ?y14__5 (by assumption) ?_
  case h14__5 => (first | (simp only [gA, gB, gC]; done) | (simp only [gA, gB, gC]; exact rfl))
  case q14__5 => exact fun _ _ _ h => h
  case y14__5 => (refine Or.inl ⟨rfl, ?_⟩; intro w hSw; (first | rfl | (go_simp; (try with_reducible rfl))))
  (try simp only [Act.put, sA, sB, sC])
  refine wpAnyH_take (i := 6) (oi := ?o14__6) (v := .int .i64 1) ?h14__6 (by kernel_rfl) (by kernel_rfl) (by kernel_rfl) ?q14__6 ?y14__6 (by assumption) ?_
  case h14__6 => (first | (simp only [gA, gB, gC]; done) | (simp only [gA, gB, gC]; exact rfl))
  case q14__6 => exact fun _ _ _ h => h
  case y14__6 => (refine Or.inl ⟨rfl, ?_⟩; intro w hSw; (first | rfl | (go_simp; (try with_reducible rfl))))
  (try simp only [Act.put, sA, sB, sC])
  refine wpAnyH_take (i := 7) (oi := ?o14__7) (v := .int .i64 4) ?h14__7 (by kernel_rfl) (by kernel_rfl) (by kernel_rfl) ?q14__7 ?y14__7 (by assumption) ?_
  case h14__7 => (first | (simp only [gA, gB, gC]; done) | (simp only [gA, gB, gC]; exact rfl))
  case q14__7 => exact fun _ _ _ h => h
  case y14__7 => (refine Or.inl ⟨rfl, ?_⟩; intro w hSw; (first | rfl | kernel_rfl | (go_simp; (try with_reducible rfl))))
  (try simp only [Act.put, sA, sB, sC])
  refine wpAnyH_take (i := 8) (oi := ?o14__8) (v := .int .i64 13) ?h14__8 (by kernel_rfl) (by kernel_rfl) (by kernel_rfl) ?q14__8 ?y14__8 (by assumption) ?_
  case h14__8 => (first | (simp only [gA, gB, gC]; done) | (simp only [gA, gB, gC]; exact rfl))
  case q14__8 => exact fun _ _ _ h => h
  case y14__8 => (refine Or.inl ⟨rfl, ?_⟩; intro w hSw; (first | rfl | kernel_rfl | (go_simp; (try with_reducible rfl))))
  (try simp only [Act.put, sA, sB, sC])
  refine wpAnyH_take (i := 9) (oi := ?o14__9) (v := .int .i64 0) ?h14__9 (by kernel_rfl) (by kernel_rfl) (by kernel_rfl) ?q14__9 ?y14__9 (by assumption) ?_
  case h14__9 => (first | (simp only [gA, gB, gC]; done) | (simp only [gA, gB, gC]; exact rfl))
  case q14__9 => exact fun _ _ _ h => h
  case y14__9 => (refine Or.inl ⟨rfl, ?_⟩; intro w hSw; (first | rfl | (go_simp; (try with_reducible rfl))))
  (try simp only [Act.put, sA, sB, sC])
  refine wpAnyH_take (i := 10) (oi := ?o14__10) (v := .int .i64 13) ?h14__10 (by kernel_rfl) (by kernel_rfl) (by kernel_rfl) ?q14__10 ?y14__10 (by assumption) ?_
  case h14__10 => (first | (simp only [gA, gB, gC]; done) | (simp only [gA, gB, gC]; exact rfl))
  case q14__10 => exact fun _ _ _ h => h
  case y14__10 => (refine Or.inl ⟨rfl, ?_⟩; intro w hSw; (first | rfl | kernel_rfl | (go_simp; (try with_reducible rfl))))
  (try simp only [Act.put, sA, sB, sC])
  refine wpAnyH_take (i := 11) (oi := ?o14__11) (v := .pointer (some ⟨b, (off + 13), none⟩)) ?h14__11 (by kernel_rfl) (by kernel_rfl) (by kernel_rfl) ?q14__11 ?y14__11 (by assumption) ?_
  case h14__11 => (first | (simp only [gA, gB, gC]; done) | (simp only [gA, gB, gC]; exact rfl))
  case q14__11 => exact fun _ _ _ h => h
  case y14__11 => (refine Or.inl ⟨rfl, ?_⟩; intro w hSw; (first | rfl | (go_simp; (try with_reducible rfl))))
  (try simp only [Act.put, sA, sB, sC])
  refine wpAnyH_take (i := 12) (oi := ?o14__12) (v := .int .u8 (z zs 13)) ?h14__12 (by kernel_rfl) (by kernel_rfl) (by kernel_rfl) ?q14__12 ?y14__12 (by assumption) ?_
  case h14__12 => (first | (simp only [gA, gB, gC]; done) | (simp only [gA, gB, gC]; exact rfl))
  case q14__12 => exact fun _ _ _ h => h
  case y14__12 => (refine Or.inl ⟨rfl, ?_⟩; intro w hSw; exact exec_at 5 _ _ (keep_cell hSw.1 (HC.out 13 (by omega))) rfl rfl Tryd.underlying5 rfl)
  (try simp only [Act.put, sA, sB, sC])
  refine wpAnyH_take (i := 13) (oi := ?o14__13) (v := .int .i64 (z zs 13)) ?h14__13 (by kernel_rfl) (by kernel_rfl) (by kernel_rfl) ?q14__13 ?y14__13 (by assumption) ?_
  case h14__13 => (first | (simp only [gA, gB, gC]; done) | (simp only [gA, gB, gC]; exact rfl))
  case q14__13 => exact fun _ _ _ h => h
  case y14__13 => (refine Or.inl ⟨rfl, ?_⟩; intro w hSw; (have q := HI13.out; go_simp; exact wr64 _ (by omega) (by omega)))
  (try simp only [Act.put, sA, sB, sC])
  refine wpAnyH_ready (rs := [3]) (by kernel_rfl) (by simp) ?_
  refine AllReadyH.cons (o := ?o14__3) ?h14__3 (fun K hK => ?_) AllReadyH.nil
  case h14__3 => (first | (simp only [gA, gB, gC]; done) | (simp only [gA, gB, gC]; exact rfl))
  rw [if_pos (by rfl)]
  refine wp_q (.int .i64 0) ?e14__3 ?_
  case e14__3 => exact exec_cell 3 _ _ HPn5.out rfl rfl rfl Tryd.underlying3 rfl
  refine hK.out _ _ hHeld (fun hHeld2 => ?_)
  clear hK K hHeld2
  (try simp only [Act.put, sA, sB, sC])
  refine wpAnyH_take (i := 4) (oi := ?o14__4) (v := .int .i64 0) ?h14__4 (by kernel_rfl) (by kernel_rfl) (by kernel_rfl) ?q14__4 ?y14__4 (by assumption) ?_
  case h14__4 => (first | (simp only [gA, gB, gC]; done) | (simp only [gA, gB, gC]; exact rfl))
  case q14__4 => exact fun _ _ _ h => h
  case y14__4 => (refine Or.inl ⟨rfl, ?_⟩; intro w hSw; (go_simp; (first | done | rfl)))
  (try simp only [Act.put, sA, sB, sC])
  refine wpAnyH_take (i := 14) (oi := ?o14__14) (v := .int .i64 (z zs 13)) ?h14__14 (by kernel_rfl) (by kernel_rfl) (by kernel_rfl) ?q14__14 ?y14__14 (by assumption) ?_
  case h14__14 => (first | (simp only [gA, gB, gC]; done) | (simp only [gA, gB, gC]; exact rfl))
  case q14__14 => exact fun _ _ _ h => h
  case y14__14 => (refine Or.inl ⟨rfl, ?_⟩; intro w hSw; (have q13 := HI13.out; go_simp; (first | done | exact wr64 _ (by omega) (by omega))))
  (try simp only [Act.put, sA, sB, sC])
  refine wpAnyH_take (i := 15) (oi := ?o14__15) (v := .pointer (some ⟨bn5, 1, none⟩)) ?h14__15 (by kernel_rfl) (by kernel_rfl) (by kernel_rfl) ?q14__15 ?y14__15 (by assumption) ?_
  case h14__15 => (first | (simp only [gA, gB, gC]; done) | (simp only [gA, gB, gC]; exact rfl))
  case q14__15 => exact fun _ _ _ h => h
  case y14__15 => (refine Or.inl ⟨rfl, ?_⟩; intro w hSw; (go_simp; (try with_reducible rfl)))
  (try simp only [Act.put, sA, sB, sC])
  refine wpAnyH_ready (rs := [16]) (by kernel_rfl) (by simp) ?_
  refine AllReadyH.cons (o := ?o14__16) ?h14__16 (fun K hK => ?_) AllReadyH.nil
  case h14__16 => (first | (simp only [gA, gB, gC]; done) | (simp only [gA, gB, gC]; exact rfl))
  rw [if_pos (by rfl)]
  refine wp_st_cell 3 _ _ rfl #[.int .i64 (((z zs 9 * 256 + z zs 10) * 256 + z zs 11) * 256 + z zs 12), .int .i64 (z zs 13), .int .i64 0] (.int .i64 (z zs 13)) rfl rfl HPn5.out (by show 1 < 3; decide) rfl (by first | rfl | simp [Value.oneCell']) (by kernel_rfl) ?_
  clear HPn5
  intro w10 hw
  have HRn5 := Lib.hid (show Blk w10 bn5 44 #[.int .i64 (((z zs 9 * 256 + z zs 10) * 256 + z zs 11) * 256 + z zs 12), .int .i64 (z zs 13), .int .i64 0] by obtain ⟨old, Bo, _⟩ := hHeld.2.2.2; rw [hw]; exact Blk.row Bo _)
  have hHeld3 : (fun W : World => Since w W ∧ Blk W w.heap.size 25 #[.int .i64 0, .int .i64 0, .int .i64 0, .int .i64 0, .bool false, .int .i64 0, .int .i64 0, .int .i64 0, .int .i64 0] ∧ Blk W bn4 25 #[.int .i64 (z zs 1), .int .i64 (num2 (z zs 2) (z zs 3)), .int .i64 (num2 (z zs 4) (z zs 5)), .int .i64 (num2 (z zs 6) (z zs 7)), .bool true, .int .i64 0, .int .i64 0, .int .i64 0, .int .i64 0] ∧ HasRow W bn5 44 3) w10 := ⟨by rw [hw]; exact Since.setRow hHeld.1 HGn5.out _, by rw [hw]; exact Blk.row_far (hHeld.2.1) (Ne.symm HNn5R.out) _, by rw [hw]; exact Blk.row_far (hHeld.2.2.1) (Ne.symm HNn5n4.out) _, HasRow.of HRn5.out rfl⟩
  refine hK.out _ _ hHeld3 (fun hHeld2 => ?_)
  clear hK K hHeld hHeld3 hw
  have hHeld := hHeld2
  clear hHeld2
  (try simp only [Act.put, sA, sB, sC])
  refine wpAnyH_done (by kernel_rfl) ?_ _
  have HSd14v5 := Lib.hid hHeld.1
  have HBRd14v5 := Lib.hid (hHeld.2.1)
  have HBn4d14v5 := Lib.hid (hHeld.2.2.1)
  have HBn5d14v5 := Lib.hid HRn5.out
  clear HRn5
  clear hHeld HRK HRD HSd14v4 HBRd14v4 HBn4d14v4 HBn5d14v4
  go_upto_region 13 with fail
  refine wp_region_lit ?_
  refine wpList_q (by rfl) (.int .i64 0) ?he ?_
  case he => (first | rfl | (go_simp; (try with_reducible rfl)))
  (try simp only [Act.put, sA, sB, sC])
  refine wpList_q (by rfl) (.int .i64 1) ?he ?_
  case he => (first | rfl | kernel_rfl | (go_simp; (try with_reducible rfl)))
  (try simp only [Act.put, sA, sB, sC])
  refine wpList_q (by rfl) (.int .i64 1) ?he ?_
  case he => (first | rfl | (go_simp; (try with_reducible rfl)))
  (try simp only [Act.put, sA, sB, sC])
  refine wpList_nil ?_
  go_wp2_with fail
  rw [rounds_succ]
  go_upto_region 12 with fail
  refine wp_region_lit ?_
  refine wpList_q (by rfl) (.int .i64 1) ?he ?_
  case he => (first | rfl | (go_simp; (try with_reducible rfl)))
  (try simp only [Act.put, sA, sB, sC])
  refine wpList_q (by rfl) (.bool true) ?he ?_
  case he => (go_simp; (try with_reducible rfl))
  (try simp only [Act.put, sA, sB, sC])
  refine wpList_nil ?_
  go_upto_region 14 with fail
  have hrK : ∀ W W' : World, Since W W' → (Since w W ∧ Blk W w.heap.size 25 #[.int .i64 0, .int .i64 0, .int .i64 0, .int .i64 0, .bool false, .int .i64 0, .int .i64 0, .int .i64 0, .int .i64 0] ∧ Blk W bn4 25 #[.int .i64 (z zs 1), .int .i64 (num2 (z zs 2) (z zs 3)), .int .i64 (num2 (z zs 4) (z zs 5)), .int .i64 (num2 (z zs 6) (z zs 7)), .bool true, .int .i64 0, .int .i64 0, .int .i64 0, .int .i64 0] ∧ HasRow W bn5 44 3) → (Since w W' ∧ Blk W' w.heap.size 25 #[.int .i64 0, .int .i64 0, .int .i64 0, .int .i64 0, .bool false, .int .i64 0, .int .i64 0, .int .i64 0, .int .i64 0] ∧ Blk W' bn4 25 #[.int .i64 (z zs 1), .int .i64 (num2 (z zs 2) (z zs 3)), .int .i64 (num2 (z zs 4) (z zs 5)), .int .i64 (num2 (z zs 6) (z zs 7)), .bool true, .int .i64 0, .int .i64 0, .int .i64 0, .int .i64 0] ∧ HasRow W' bn5 44 3) := fun W W' k ⟨h, h0, h1, h2⟩ => ⟨h.trans k, keep_blk k h0, keep_blk k h1, HasRow.keep k h2⟩
  have hrS : (fun W : World => Since w W ∧ Blk W w.heap.size 25 #[.int .i64 0, .int .i64 0, .int .i64 0, .int .i64 0, .bool false, .int .i64 0, .int .i64 0, .int .i64 0, .int .i64 0] ∧ Blk W bn4 25 #[.int .i64 (z zs 1), .int .i64 (num2 (z zs 2) (z zs 3)), .int .i64 (num2 (z zs 4) (z zs 5)), .int .i64 (num2 (z zs 6) (z zs 7)), .bool true, .int .i64 0, .int .i64 0, .int .i64 0, .int .i64 0] ∧ HasRow W bn5 44 3) w10 := ⟨HSd14v5.out, HBRd14v5.out, HBn4d14v5.out, HasRow.of HBn5d14v5.out rfl⟩
  have HRK := Lib.hid hrK
  have HRD := Lib.hid (show (fun W : World => Since w W ∧ Blk W w.heap.size 25 #[.int .i64 0, .int .i64 0, .int .i64 0, .int .i64 0, .bool false, .int .i64 0, .int .i64 0, .int .i64 0, .int .i64 0] ∧ Blk W bn4 25 #[.int .i64 (z zs 1), .int .i64 (num2 (z zs 2) (z zs 3)), .int .i64 (num2 (z zs 4) (z zs 5)), .int .i64 (num2 (z zs 6) (z zs 7)), .bool true, .int .i64 0, .int .i64 0, .int .i64 0, .int .i64 0] ∧ HasRow W bn5 44 3) (World.drew w10) from ⟨Since.drew hrS.1, hrS.2⟩)
  clear hrK hrS
  have HPn5 := Lib.hid (show Blk (World.drew w10) bn5 44 #[.int .i64 (((z zs 9 * 256 + z zs 10) * 256 + z zs 11) * 256 + z zs 12), .int .i64 (z zs 13), .int .i64 0] from HBn5d14v5.out)
  refine wp_region_held_drew (S := fun W : World => Since w W ∧ Blk W w.heap.size 25 #[.int .i64 0, .int .i64 0, .int .i64 0, .int .i64 0, .bool false, .int .i64 0, .int .i64 0, .int .i64 0, .int .i64 0] ∧ Blk W bn4 25 #[.int .i64 (z zs 1), .int .i64 (num2 (z zs 2) (z zs 3)), .int .i64 (num2 (z zs 4) (z zs 5)), .int .i64 (num2 (z zs 6) (z zs 7)), .bool true, .int .i64 0, .int .i64 0, .int .i64 0, .int .i64 0] ∧ HasRow W bn5 44 3) (by kernel_rfl) HRD.out (fun hHeld => ?_)
  refine wpAnyH_take (i := 0) (oi := ?o14__0) (v := .int .i64 1) ?h14__0 (by kernel_rfl) (by kernel_rfl) (by kernel_rfl) ?q14__0 ?y14__0 (by assumption) ?_
  case h14__0 => (first | (simp only [gA, gB, gC]; done) | (simp only [gA, gB, gC]; exact rfl))
  case q14__0 => exact fun _ _ _ h => h
  case y14__0 => (refine Or.inl ⟨rfl, ?_⟩; intro w hSw; (first | rfl | (go_simp; (try with_reducible rfl))))
  (try simp only [Act.put, sA, sB, sC])
  refine wpAnyH_take (i := 1) (oi := ?o14__1) (v := .int .i64 1) ?h14__1 (by kernel_rfl) (by kernel_rfl) (by kernel_rfl) ?q14__1 ?y14__1 (by assumption) ?_
  case h14__1 => (first | (simp only [gA, gB, gC]; done) | (simp only [gA, gB, gC]; exact rfl))
  case q14__1 => exact fun _ _ _ h => h
  case y14__1 => (refine Or.inl ⟨rfl, ?_⟩; intro w hSw; (first | rfl | (go_simp; (try with_reducible rfl))))
  (try simp only [Act.put, sA, sB, sC])
  refine wpAnyH_take (i := 2) (oi := ?o14__2) (v := .pointer (some ⟨bn5, 1, none⟩)) ?h14__2 (by kernel_rfl) (by kernel_rfl) (by kernel_rfl) ?q14__2 ?y14__2 (by assumption) ?_
  case h14__2 => (first | (simp only [gA, gB, gC]; done) | (simp only [gA, gB, gC]; exact rfl))
  case q14__2 => exact fun _ _ _ h => h
  case y14__2 => (refine Or.inl ⟨rfl, ?_⟩; intro w hSw; (go_simp; (try with_reducible rfl)))
  (try simp only [Act.put, sA, sB, sC])
  refine wpAnyH_take (i := 5) (oi := ?o14__5) (v := .slice (some ⟨b, off, none⟩) 21 cap) ?h14__5 (by kernel_rfl) (by kernel_rfl) (by kernel_rfl) ?q14__5 ?y14__5 (by assumption) ?_
  case h14__5 => (first | (simp only [gA, gB, gC]; done) | (simp only [gA, gB, gC]; exact rfl))
  case q14__5 => exact fun _ _ _ h => h
  case y14__5 => (refine Or.inl ⟨rfl, ?_⟩; intro w hSw; (first | rfl | (go_simp; (try with_reducible rfl))))
  (try simp only [Act.put, sA, sB, sC])
  refine wpAnyH_take (i := 6) (oi := ?o14__6) (v := .int .i64 1) ?h14__6 (by kernel_rfl) (by kernel_rfl) (by kernel_rfl) ?q14__6 ?y14__6 (by assumption) ?_
  case h14__6 => (first | (simp only [gA, gB, gC]; done) | (simp only [gA, gB, gC]; exact rfl))
  case q14__6 => exact fun _ _ _ h => h
  case y14__6 => (refine Or.inl ⟨rfl, ?_⟩; intro w hSw; (first | rfl | (go_simp; (try with_reducible rfl))))
  (try simp only [Act.put, sA, sB, sC])
  refine wpAnyH_take (i := 7) (oi := ?o14__7) (v := .int .i64 4) ?h14__7 (by kernel_rfl) (by kernel_rfl) (by kernel_rfl) ?q14__7 ?y14__7 (by assumption) ?_
  case h14__7 => (first | (simp only [gA, gB, gC]; done) | (simp only [gA, gB, gC]; exact rfl))
  case q14__7 => exact fun _ _ _ h => h
  case y14__7 => (refine Or.inl ⟨rfl, ?_⟩; intro w hSw; (first | rfl | kernel_rfl | (go_simp; (try with_reducible rfl))))
  (try simp only [Act.put, sA, sB, sC])
  refine wpAnyH_take (i := 8) (oi := ?o14__8) (v := .int .i64 13) ?h14__8 (by kernel_rfl) (by kernel_rfl) (by kernel_rfl) ?q14__8 ?y14__8 (by assumption) ?_
  case h14__8 => (first | (simp only [gA, gB, gC]; done) | (simp only [gA, gB, gC]; exact rfl))
  case q14__8 => exact fun _ _ _ h => h
  case y14__8 => (refine Or.inl ⟨rfl, ?_⟩; intro w hSw; (first | rfl | kernel_rfl | (go_simp; (try with_reducible rfl))))
  (try simp only [Act.put, sA, sB, sC])
  refine wpAnyH_take (i := 9) (oi := ?o14__9) (v := .int .i64 1) ?h14__9 (by kernel_rfl) (by kernel_rfl) (by kernel_rfl) ?q14__9 ?y14__9 (by assumption) ?_
  case h14__9 => (first | (simp only [gA, gB, gC]; done) | (simp only [gA, gB, gC]; exact rfl))
  case q14__9 => exact fun _ _ _ h => h
  case y14__9 => (refine Or.inl ⟨rfl, ?_⟩; intro w hSw; (first | rfl | (go_simp; (try with_reducible rfl))))
  (try simp only [Act.put, sA, sB, sC])
  refine wpAnyH_take (i := 10) (oi := ?o14__10) (v := .int .i64 14) ?h14__10 (by kernel_rfl) (by kernel_rfl) (by kernel_rfl) ?q14__10 ?y14__10 (by assumption) ?_
  case h14__10 => (first | (simp only [gA, gB, gC]; done) | (simp only [gA, gB, gC]; exact rfl))
  case q14__10 => exact fun _ _ _ h => h
  case y14__10 => (refine Or.inl ⟨rfl, ?_⟩; intro w hSw; (first | rfl | kernel_rfl | (go_simp; (try with_reducible rfl))))
  (try simp only [Act.put, sA, sB, sC])
  refine wpAnyH_take (i := 11) (oi := ?o14__11) (v := .pointer (some ⟨b, (off + 14), none⟩)) ?h14__11 (by kernel_rfl) (by kernel_rfl) (by kernel_rfl) ?q14__11 ?y14__11 (by assumption) ?_
  case h14__11 => (first | (simp only [gA, gB, gC]; done) | (simp only [gA, gB, gC]; exact rfl))
  case q14__11 => exact fun _ _ _ h => h
  case y14__11 => (refine Or.inl ⟨rfl, ?_⟩; intro w hSw; (first | rfl | (go_simp; (try with_reducible rfl))))
  (try simp only [Act.put, sA, sB, sC])
  refine wpAnyH_take (i := 12) (oi := ?o14__12) (v := .int .u8 (z zs 14)) ?h14__12 (by kernel_rfl) (by kernel_rfl) (by kernel_rfl) ?q14__12 ?y14__12 (by assumption) ?_
  case h14__12 => (first | (simp only [gA, gB, gC]; done) | (simp only [gA, gB, gC]; exact rfl))
  case q14__12 => exact fun _ _ _ h => h
  case y14__12 => (refine Or.inl ⟨rfl, ?_⟩; intro w hSw; exact exec_at 5 _ _ (keep_cell hSw.1 (HC.out 14 (by omega))) rfl rfl Tryd.underlying5 rfl)
  (try simp only [Act.put, sA, sB, sC])
  refine wpAnyH_take (i := 13) (oi := ?o14__13) (v := .int .i64 (z zs 14)) ?h14__13 (by kernel_rfl) (by kernel_rfl) (by kernel_rfl) ?q14__13 ?y14__13 (by assumption) ?_
  case h14__13 => (first | (simp only [gA, gB, gC]; done) | (simp only [gA, gB, gC]; exact rfl))
  case q14__13 => exact fun _ _ _ h => h
  case y14__13 => (refine Or.inl ⟨rfl, ?_⟩; intro w hSw; (have q := HI14.out; go_simp; exact wr64 _ (by omega) (by omega)))
  (try simp only [Act.put, sA, sB, sC])
  refine wpAnyH_ready (rs := [3]) (by kernel_rfl) (by simp) ?_
  refine AllReadyH.cons (o := ?o14__3) ?h14__3 (fun K hK => ?_) AllReadyH.nil
  case h14__3 => (first | (simp only [gA, gB, gC]; done) | (simp only [gA, gB, gC]; exact rfl))
  rw [if_pos (by rfl)]
  refine wp_q (.int .i64 (z zs 13)) ?e14__3 ?_
  case e14__3 => exact exec_cell 3 _ _ HPn5.out rfl rfl rfl Tryd.underlying3 rfl
  refine hK.out _ _ hHeld (fun hHeld2 => ?_)
  clear hK K hHeld2
  (try simp only [Act.put, sA, sB, sC])
  refine wpAnyH_take (i := 4) (oi := ?o14__4) (v := .int .i64 (z zs 13 * 256)) ?h14__4 (by kernel_rfl) (by kernel_rfl) (by kernel_rfl) ?q14__4 ?y14__4 (by assumption) ?_
  case h14__4 => (first | (simp only [gA, gB, gC]; done) | (simp only [gA, gB, gC]; exact rfl))
  case q14__4 => exact fun _ _ _ h => h
  case y14__4 => (refine Or.inl ⟨rfl, ?_⟩; intro w hSw; (have q13 := HI13.out; have q14 := HI14.out; go_simp; (first | done | exact wr64 _ (by omega) (by omega))))
  (try simp only [Act.put, sA, sB, sC])
  refine wpAnyH_take (i := 14) (oi := ?o14__14) (v := .int .i64 (z zs 13 * 256 + z zs 14)) ?h14__14 (by kernel_rfl) (by kernel_rfl) (by kernel_rfl) ?q14__14 ?y14__14 (by assumption) ?_
  case h14__14 => (first | (simp only [gA, gB, gC]; done) | (simp only [gA, gB, gC]; exact rfl))
  case q14__14 => exact fun _ _ _ h => h
  case y14__14 => (refine Or.inl ⟨rfl, ?_⟩; intro w hSw; (have q13 := HI13.out; have q14 := HI14.out; go_simp; (first | done | exact wr64 _ (by omega) (by omega))))
  (try simp only [Act.put, sA, sB, sC])
  refine wpAnyH_take (i := 15) (oi := ?o14__15) (v := .pointer (some ⟨bn5, 1, none⟩)) ?h14__15 (by kernel_rfl) (by kernel_rfl) (by kernel_rfl) ?q14__15 ?y14__15 (by assumption) ?_
  case h14__15 => (first | (simp only [gA, gB, gC]; done) | (simp only [gA, gB, gC]; exact rfl))
  case q14__15 => exact fun _ _ _ h => h
  case y14__15 => (refine Or.inl ⟨rfl, ?_⟩; intro w hSw; (go_simp; (try with_reducible rfl)))
  (try simp only [Act.put, sA, sB, sC])
  refine wpAnyH_ready (rs := [16]) (by kernel_rfl) (by simp) ?_
  refine AllReadyH.cons (o := ?o14__16) ?h14__16 (fun K hK => ?_) AllReadyH.nil
  case h14__16 => (first | (simp only [gA, gB, gC]; done) | (simp only [gA, gB, gC]; exact rfl))
  rw [if_pos (by rfl)]
  refine wp_st_cell 3 _ _ rfl #[.int .i64 (((z zs 9 * 256 + z zs 10) * 256 + z zs 11) * 256 + z zs 12), .int .i64 (z zs 13 * 256 + z zs 14), .int .i64 0] (.int .i64 (z zs 13 * 256 + z zs 14)) rfl rfl HPn5.out (by show 1 < 3; decide) rfl (by first | rfl | simp [Value.oneCell']) (by kernel_rfl) ?_
  clear HPn5
  intro w11 hw
  have HRn5 := Lib.hid (show Blk w11 bn5 44 #[.int .i64 (((z zs 9 * 256 + z zs 10) * 256 + z zs 11) * 256 + z zs 12), .int .i64 (z zs 13 * 256 + z zs 14), .int .i64 0] by obtain ⟨old, Bo, _⟩ := hHeld.2.2.2; rw [hw]; exact Blk.row Bo _)
  have hHeld3 : (fun W : World => Since w W ∧ Blk W w.heap.size 25 #[.int .i64 0, .int .i64 0, .int .i64 0, .int .i64 0, .bool false, .int .i64 0, .int .i64 0, .int .i64 0, .int .i64 0] ∧ Blk W bn4 25 #[.int .i64 (z zs 1), .int .i64 (num2 (z zs 2) (z zs 3)), .int .i64 (num2 (z zs 4) (z zs 5)), .int .i64 (num2 (z zs 6) (z zs 7)), .bool true, .int .i64 0, .int .i64 0, .int .i64 0, .int .i64 0] ∧ HasRow W bn5 44 3) w11 := ⟨by rw [hw]; exact Since.setRow hHeld.1 HGn5.out _, by rw [hw]; exact Blk.row_far (hHeld.2.1) (Ne.symm HNn5R.out) _, by rw [hw]; exact Blk.row_far (hHeld.2.2.1) (Ne.symm HNn5n4.out) _, HasRow.of HRn5.out rfl⟩
  refine hK.out _ _ hHeld3 (fun hHeld2 => ?_)
  clear hK K hHeld hHeld3 hw
  have hHeld := hHeld2
  clear hHeld2
  (try simp only [Act.put, sA, sB, sC])
  refine wpAnyH_done (by kernel_rfl) ?_ _
  have HSd14v6 := Lib.hid hHeld.1
  have HBRd14v6 := Lib.hid (hHeld.2.1)
  have HBn4d14v6 := Lib.hid (hHeld.2.2.1)
  have HBn5d14v6 := Lib.hid HRn5.out
  clear HRn5
  clear hHeld HRK HRD HSd14v5 HBRd14v5 HBn4d14v5 HBn5d14v5
  go_upto_region 13 with fail
  refine wp_region_lit ?_
  refine wpList_q (by rfl) (.int .i64 1) ?he ?_
  case he => (first | rfl | (go_simp; (try with_reducible rfl)))
  (try simp only [Act.put, sA, sB, sC])
  refine wpList_q (by rfl) (.int .i64 2) ?he ?_
  case he => (first | rfl | kernel_rfl | (go_simp; (try with_reducible rfl)))
  (try simp only [Act.put, sA, sB, sC])
  refine wpList_q (by rfl) (.int .i64 2) ?he ?_
  case he => (first | rfl | (go_simp; (try with_reducible rfl)))
  (try simp only [Act.put, sA, sB, sC])
  refine wpList_nil ?_
  go_wp2_with fail
  rw [rounds_succ]
  go_upto_region 12 with fail
  refine wp_region_lit ?_
  refine wpList_q (by rfl) (.int .i64 2) ?he ?_
  case he => (first | rfl | (go_simp; (try with_reducible rfl)))
  (try simp only [Act.put, sA, sB, sC])
  refine wpList_q (by rfl) (.bool true) ?he ?_
  case he => (go_simp; (try with_reducible rfl))
  (try simp only [Act.put, sA, sB, sC])
  refine wpList_nil ?_
  go_upto_region 14 with fail
  have hrK : ∀ W W' : World, Since W W' → (Since w W ∧ Blk W w.heap.size 25 #[.int .i64 0, .int .i64 0, .int .i64 0, .int .i64 0, .bool false, .int .i64 0, .int .i64 0, .int .i64 0, .int .i64 0] ∧ Blk W bn4 25 #[.int .i64 (z zs 1), .int .i64 (num2 (z zs 2) (z zs 3)), .int .i64 (num2 (z zs 4) (z zs 5)), .int .i64 (num2 (z zs 6) (z zs 7)), .bool true, .int .i64 0, .int .i64 0, .int .i64 0, .int .i64 0] ∧ HasRow W bn5 44 3) → (Since w W' ∧ Blk W' w.heap.size 25 #[.int .i64 0, .int .i64 0, .int .i64 0, .int .i64 0, .bool false, .int .i64 0, .int .i64 0, .int .i64 0, .int .i64 0] ∧ Blk W' bn4 25 #[.int .i64 (z zs 1), .int .i64 (num2 (z zs 2) (z zs 3)), .int .i64 (num2 (z zs 4) (z zs 5)), .int .i64 (num2 (z zs 6) (z zs 7)), .bool true, .int .i64 0, .int .i64 0, .int .i64 0, .int .i64 0] ∧ HasRow W' bn5 44 3) := fun W W' k ⟨h, h0, h1, h2⟩ => ⟨h.trans k, keep_blk k h0, keep_blk k h1, HasRow.keep k h2⟩
  have hrS : (fun W : World => Since w W ∧ Blk W w.heap.size 25 #[.int .i64 0, .int .i64 0, .int .i64 0, .int .i64 0, .bool false, .int .i64 0, .int .i64 0, .int .i64 0, .int .i64 0] ∧ Blk W bn4 25 #[.int .i64 (z zs 1), .int .i64 (num2 (z zs 2) (z zs 3)), .int .i64 (num2 (z zs 4) (z zs 5)), .int .i64 (num2 (z zs 6) (z zs 7)), .bool true, .int .i64 0, .int .i64 0, .int .i64 0, .int .i64 0] ∧ HasRow W bn5 44 3) w11 := ⟨HSd14v6.out, HBRd14v6.out, HBn4d14v6.out, HasRow.of HBn5d14v6.out rfl⟩
  have HRK := Lib.hid hrK
  have HRD := Lib.hid (show (fun W : World => Since w W ∧ Blk W w.heap.size 25 #[.int .i64 0, .int .i64 0, .int .i64 0, .int .i64 0, .bool false, .int .i64 0, .int .i64 0, .int .i64 0, .int .i64 0] ∧ Blk W bn4 25 #[.int .i64 (z zs 1), .int .i64 (num2 (z zs 2) (z zs 3)), .int .i64 (num2 (z zs 4) (z zs 5)), .int .i64 (num2 (z zs 6) (z zs 7)), .bool true, .int .i64 0, .int .i64 0, .int .i64 0, .int .i64 0] ∧ HasRow W bn5 44 3) (World.drew w11) from ⟨Since.drew hrS.1, hrS.2⟩)
  clear hrK hrS
  have HPn5 := Lib.hid (show Blk (World.drew w11) bn5 44 #[.int .i64 (((z zs 9 * 256 + z zs 10) * 256 + z zs 11) * 256 + z zs 12), .int .i64 (z zs 13 * 256 + z zs 14), .int .i64 0] from HBn5d14v6.out)
  refine wp_region_held_drew (S := fun W : World => Since w W ∧ Blk W w.heap.size 25 #[.int .i64 0, .int .i64 0, .int .i64 0, .int .i64 0, .bool false, .int .i64 0, .int .i64 0, .int .i64 0, .int .i64 0] ∧ Blk W bn4 25 #[.int .i64 (z zs 1), .int .i64 (num2 (z zs 2) (z zs 3)), .int .i64 (num2 (z zs 4) (z zs 5)), .int .i64 (num2 (z zs 6) (z zs 7)), .bool true, .int .i64 0, .int .i64 0, .int .i64 0, .int .i64 0] ∧ HasRow W bn5 44 3) (by kernel_rfl) HRD.out (fun hHeld => ?_)
  refine wpAnyH_take (i := 0) (oi := ?o14__0) (v := .int .i64 1) ?h14__0 (by kernel_rfl) (by kernel_rfl) (by kernel_rfl) ?q14__0 ?y14__0 (by assumption) ?_
  case h14__0 => (first | (simp only [gA, gB, gC]; done) | (simp only [gA, gB, gC]; exact rfl))
  case q14__0 => exact fun _ _ _ h => h
  case y14__0 => (refine Or.inl ⟨rfl, ?_⟩; intro w hSw; (first | rfl | (go_simp; (try with_reducible rfl))))
  (try simp only [Act.put, sA, sB, sC])
  refine wpAnyH_take (i := 1) (oi := ?o14__1) (v := .int .i64 1) ?h14__1 (by kernel_rfl) (by kernel_rfl) (by kernel_rfl) ?q14__1 ?y14__1 (by assumption) ?_
  case h14__1 => (first | (simp only [gA, gB, gC]; done) | (simp only [gA, gB, gC]; exact rfl))
  case q14__1 => exact fun _ _ _ h => h
  case y14__1 => (refine Or.inl ⟨rfl, ?_⟩; intro w hSw; (first | rfl | (go_simp; (try with_reducible rfl))))
  (try simp only [Act.put, sA, sB, sC])
  refine wpAnyH_take (i := 2) (oi := ?o14__2) (v := .pointer (some ⟨bn5, 1, none⟩)) ?h14__2 (by kernel_rfl) (by kernel_rfl) (by kernel_rfl) ?q14__2 ?y14__2 (by assumption) ?_
  case h14__2 => (first | (simp only [gA, gB, gC]; done) | (simp only [gA, gB, gC]; exact rfl))
  case q14__2 => exact fun _ _ _ h => h
  case y14__2 => (refine Or.inl ⟨rfl, ?_⟩; intro w hSw; (go_simp; (try with_reducible rfl)))
  (try simp only [Act.put, sA, sB, sC])
  refine wpAnyH_take (i := 5) (oi := ?o14__5) (v := .slice (some ⟨b, off, none⟩) 21 cap) ?h14__5 (by kernel_rfl) (by kernel_rfl) (by kernel_rfl) ?q14__5 ?y14__5 (by assumption) ?_
  case h14__5 => (first | (simp only [gA, gB, gC]; done) | (simp only [gA, gB, gC]; exact rfl))
  case q14__5 => exact fun _ _ _ h => h
  case y14__5 => (refine Or.inl ⟨rfl, ?_⟩; intro w hSw; (first | rfl | (go_simp; (try with_reducible rfl))))
  (try simp only [Act.put, sA, sB, sC])
  refine wpAnyH_take (i := 6) (oi := ?o14__6) (v := .int .i64 1) ?h14__6 (by kernel_rfl) (by kernel_rfl) (by kernel_rfl) ?q14__6 ?y14__6 (by assumption) ?_
  case h14__6 => (first | (simp only [gA, gB, gC]; done) | (simp only [gA, gB, gC]; exact rfl))
  case q14__6 => exact fun _ _ _ h => h
  case y14__6 => (refine Or.inl ⟨rfl, ?_⟩; intro w hSw; (first | rfl | (go_simp; (try with_reducible rfl))))
  (try simp only [Act.put, sA, sB, sC])
  refine wpAnyH_take (i := 7) (oi := ?o14__7) (v := .int .i64 4) ?h14__7 (by kernel_rfl) (by kernel_rfl) (by kernel_rfl) ?q14__7 ?y14__7 (by assumption) ?_
  case h14__7 => (first | (simp only [gA, gB, gC]; done) | (simp only [gA, gB, gC]; exact rfl))
  case q14__7 => exact fun _ _ _ h => h
  case y14__7 => (refine Or.inl ⟨rfl, ?_⟩; intro w hSw; (first | rfl | kernel_rfl | (go_simp; (try with_reducible rfl))))
  (try simp only [Act.put, sA, sB, sC])
  refine wpAnyH_take (i := 8) (oi := ?o14__8) (v := .int .i64 13) ?h14__8 (by kernel_rfl) (by kernel_rfl) (by kernel_rfl) ?q14__8 ?y14__8 (by assumption) ?_
  case h14__8 => (first | (simp only [gA, gB, gC]; done) | (simp only [gA, gB, gC]; exact rfl))
  case q14__8 => exact fun _ _ _ h => h
  case y14__8 => (refine Or.inl ⟨rfl, ?_⟩; intro w hSw; (first | rfl | kernel_rfl | (go_simp; (try with_reducible rfl))))
  (try simp only [Act.put, sA, sB, sC])
  refine wpAnyH_take (i := 9) (oi := ?o14__9) (v := .int .i64 2) ?h14__9 (by kernel_rfl) (by kernel_rfl) (by kernel_rfl) ?q14__9 ?y14__9 (by assumption) ?_
  case h14__9 => (first | (simp only [gA, gB, gC]; done) | (simp only [gA, gB, gC]; exact rfl))
  case q14__9 => exact fun _ _ _ h => h
  case y14__9 => (refine Or.inl ⟨rfl, ?_⟩; intro w hSw; (first | rfl | (go_simp; (try with_reducible rfl))))
  (try simp only [Act.put, sA, sB, sC])
  refine wpAnyH_take (i := 10) (oi := ?o14__10) (v := .int .i64 15) ?h14__10 (by kernel_rfl) (by kernel_rfl) (by kernel_rfl) ?q14__10 ?y14__10 (by assumption) ?_
  case h14__10 => (first | (simp only [gA, gB, gC]; done) | (simp only [gA, gB, gC]; exact rfl))
  case q14__10 => exact fun _ _ _ h => h
  case y14__10 => (refine Or.inl ⟨rfl, ?_⟩; intro w hSw; (first | rfl | kernel_rfl | (go_simp; (try with_reducible rfl))))
  (try simp only [Act.put, sA, sB, sC])
  refine wpAnyH_take (i := 11) (oi := ?o14__11) (v := .pointer (some ⟨b, (off + 15), none⟩)) ?h14__11 (by kernel_rfl) (by kernel_rfl) (by kernel_rfl) ?q14__11 ?y14__11 (by assumption) ?_
  case h14__11 => (first | (simp only [gA, gB, gC]; done) | (simp only [gA, gB, gC]; exact rfl))
  case q14__11 => exact fun _ _ _ h => h
  case y14__11 => (refine Or.inl ⟨rfl, ?_⟩; intro w hSw; (first | rfl | (go_simp; (try with_reducible rfl))))
  (try simp only [Act.put, sA, sB, sC])
  refine wpAnyH_take (i := 12) (oi := ?o14__12) (v := .int .u8 (z zs 15)) ?h14__12 (by kernel_rfl) (by kernel_rfl) (by kernel_rfl) ?q14__12 ?y14__12 (by assumption) ?_
  case h14__12 => (first | (simp only [gA, gB, gC]; done) | (simp only [gA, gB, gC]; exact rfl))
  case q14__12 => exact fun _ _ _ h => h
  case y14__12 => (refine Or.inl ⟨rfl, ?_⟩; intro w hSw; exact exec_at 5 _ _ (keep_cell hSw.1 (HC.out 15 (by omega))) rfl rfl Tryd.underlying5 rfl)
  (try simp only [Act.put, sA, sB, sC])
  refine wpAnyH_take (i := 13) (oi := ?o14__13) (v := .int .i64 (z zs 15)) ?h14__13 (by kernel_rfl) (by kernel_rfl) (by kernel_rfl) ?q14__13 ?y14__13 (by assumption) ?_
  case h14__13 => (first | (simp only [gA, gB, gC]; done) | (simp only [gA, gB, gC]; exact rfl))
  case q14__13 => exact fun _ _ _ h => h
  case y14__13 => (refine Or.inl ⟨rfl, ?_⟩; intro w hSw; (have q := HI15.out; go_simp; exact wr64 _ (by omega) (by omega)))
  (try simp only [Act.put, sA, sB, sC])
  refine wpAnyH_ready (rs := [3]) (by kernel_rfl) (by simp) ?_
  refine AllReadyH.cons (o := ?o14__3) ?h14__3 (fun K hK => ?_) AllReadyH.nil
  case h14__3 => (first | (simp only [gA, gB, gC]; done) | (simp only [gA, gB, gC]; exact rfl))
  rw [if_pos (by rfl)]
  refine wp_q (.int .i64 (z zs 13 * 256 + z zs 14)) ?e14__3 ?_
  case e14__3 => exact exec_cell 3 _ _ HPn5.out rfl rfl rfl Tryd.underlying3 rfl
  refine hK.out _ _ hHeld (fun hHeld2 => ?_)
  clear hK K hHeld2
  (try simp only [Act.put, sA, sB, sC])
  refine wpAnyH_take (i := 4) (oi := ?o14__4) (v := .int .i64 ((z zs 13 * 256 + z zs 14) * 256)) ?h14__4 (by kernel_rfl) (by kernel_rfl) (by kernel_rfl) ?q14__4 ?y14__4 (by assumption) ?_
  case h14__4 => (first | (simp only [gA, gB, gC]; done) | (simp only [gA, gB, gC]; exact rfl))
  case q14__4 => exact fun _ _ _ h => h
  case y14__4 => (refine Or.inl ⟨rfl, ?_⟩; intro w hSw; (have q13 := HI13.out; have q14 := HI14.out; have q15 := HI15.out; go_simp; (first | done | exact wr64 _ (by omega) (by omega))))
  (try simp only [Act.put, sA, sB, sC])
  refine wpAnyH_take (i := 14) (oi := ?o14__14) (v := .int .i64 ((z zs 13 * 256 + z zs 14) * 256 + z zs 15)) ?h14__14 (by kernel_rfl) (by kernel_rfl) (by kernel_rfl) ?q14__14 ?y14__14 (by assumption) ?_
  case h14__14 => (first | (simp only [gA, gB, gC]; done) | (simp only [gA, gB, gC]; exact rfl))
  case q14__14 => exact fun _ _ _ h => h
  case y14__14 => (refine Or.inl ⟨rfl, ?_⟩; intro w hSw; (have q13 := HI13.out; have q14 := HI14.out; have q15 := HI15.out; go_simp; (first | done | exact wr64 _ (by omega) (by omega))))
  (try simp only [Act.put, sA, sB, sC])
  refine wpAnyH_take (i := 15) (oi := ?o14__15) (v := .pointer (some ⟨bn5, 1, none⟩)) ?h14__15 (by kernel_rfl) (by kernel_rfl) (by kernel_rfl) ?q14__15 ?y14__15 (by assumption) ?_
  case h14__15 => (first | (simp only [gA, gB, gC]; done) | (simp only [gA, gB, gC]; exact rfl))
  case q14__15 => exact fun _ _ _ h => h
  case y14__15 => (refine Or.inl ⟨rfl, ?_⟩; intro w hSw; (go_simp; (try with_reducible rfl)))
  (try simp only [Act.put, sA, sB, sC])
  refine wpAnyH_ready (rs := [16]) (by kernel_rfl) (by simp) ?_
  refine AllReadyH.cons (o := ?o14__16) ?h14__16 (fun K hK => ?_) AllReadyH.nil
  case h14__16 => (first | (simp only [gA, gB, gC]; done) | (simp only [gA, gB, gC]; exact rfl))
  rw [if_pos (by rfl)]
  refine wp_st_cell 3 _ _ rfl #[.int .i64 (((z zs 9 * 256 + z zs 10) * 256 + z zs 11) * 256 + z zs 12), .int .i64 ((z zs 13 * 256 + z zs 14) * 256 + z zs 15), .int .i64 0] (.int .i64 ((z zs 13 * 256 + z zs 14) * 256 + z zs 15)) rfl rfl HPn5.out (by show 1 < 3; decide) rfl (by first | rfl | simp [Value.oneCell']) (by kernel_rfl) ?_
  clear HPn5
  intro w12 hw
  have HRn5 := Lib.hid (show Blk w12 bn5 44 #[.int .i64 (((z zs 9 * 256 + z zs 10) * 256 + z zs 11) * 256 + z zs 12), .int .i64 ((z zs 13 * 256 + z zs 14) * 256 + z zs 15), .int .i64 0] by obtain ⟨old, Bo, _⟩ := hHeld.2.2.2; rw [hw]; exact Blk.row Bo _)
  have hHeld3 : (fun W : World => Since w W ∧ Blk W w.heap.size 25 #[.int .i64 0, .int .i64 0, .int .i64 0, .int .i64 0, .bool false, .int .i64 0, .int .i64 0, .int .i64 0, .int .i64 0] ∧ Blk W bn4 25 #[.int .i64 (z zs 1), .int .i64 (num2 (z zs 2) (z zs 3)), .int .i64 (num2 (z zs 4) (z zs 5)), .int .i64 (num2 (z zs 6) (z zs 7)), .bool true, .int .i64 0, .int .i64 0, .int .i64 0, .int .i64 0] ∧ HasRow W bn5 44 3) w12 := ⟨by rw [hw]; exact Since.setRow hHeld.1 HGn5.out _, by rw [hw]; exact Blk.row_far (hHeld.2.1) (Ne.symm HNn5R.out) _, by rw [hw]; exact Blk.row_far (hHeld.2.2.1) (Ne.symm HNn5n4.out) _, HasRow.of HRn5.out rfl⟩
  refine hK.out _ _ hHeld3 (fun hHeld2 => ?_)
  clear hK K hHeld hHeld3 hw
  have hHeld := hHeld2
  clear hHeld2
  (try simp only [Act.put, sA, sB, sC])
  refine wpAnyH_done (by kernel_rfl) ?_ _
  have HSd14v7 := Lib.hid hHeld.1
  have HBRd14v7 := Lib.hid (hHeld.2.1)
  have HBn4d14v7 := Lib.hid (hHeld.2.2.1)
  have HBn5d14v7 := Lib.hid HRn5.out
  clear HRn5
  clear hHeld HRK HRD HSd14v6 HBRd14v6 HBn4d14v6 HBn5d14v6
  go_upto_region 13 with fail
  refine wp_region_lit ?_
  refine wpList_q (by rfl) (.int .i64 2) ?he ?_
  case he => (first | rfl | (go_simp; (try with_reducible rfl)))
  (try simp only [Act.put, sA, sB, sC])
  refine wpList_q (by rfl) (.int .i64 3) ?he ?_
  case he => (first | rfl | kernel_rfl | (go_simp; (try with_reducible rfl)))
  (try simp only [Act.put, sA, sB, sC])
  refine wpList_q (by rfl) (.int .i64 3) ?he ?_
  case he => (first | rfl | (go_simp; (try with_reducible rfl)))
  (try simp only [Act.put, sA, sB, sC])
  refine wpList_nil ?_
  go_wp2_with fail
  rw [rounds_succ]
  go_upto_region 12 with fail
  refine wp_region_lit ?_
  refine wpList_q (by rfl) (.int .i64 3) ?he ?_
  case he => (first | rfl | (go_simp; (try with_reducible rfl)))
  (try simp only [Act.put, sA, sB, sC])
  refine wpList_q (by rfl) (.bool true) ?he ?_
  case he => (go_simp; (try with_reducible rfl))
  (try simp only [Act.put, sA, sB, sC])
  refine wpList_nil ?_
  go_upto_region 14 with fail
  have hrK : ∀ W W' : World, Since W W' → (Since w W ∧ Blk W w.heap.size 25 #[.int .i64 0, .int .i64 0, .int .i64 0, .int .i64 0, .bool false, .int .i64 0, .int .i64 0, .int .i64 0, .int .i64 0] ∧ Blk W bn4 25 #[.int .i64 (z zs 1), .int .i64 (num2 (z zs 2) (z zs 3)), .int .i64 (num2 (z zs 4) (z zs 5)), .int .i64 (num2 (z zs 6) (z zs 7)), .bool true, .int .i64 0, .int .i64 0, .int .i64 0, .int .i64 0] ∧ HasRow W bn5 44 3) → (Since w W' ∧ Blk W' w.heap.size 25 #[.int .i64 0, .int .i64 0, .int .i64 0, .int .i64 0, .bool false, .int .i64 0, .int .i64 0, .int .i64 0, .int .i64 0] ∧ Blk W' bn4 25 #[.int .i64 (z zs 1), .int .i64 (num2 (z zs 2) (z zs 3)), .int .i64 (num2 (z zs 4) (z zs 5)), .int .i64 (num2 (z zs 6) (z zs 7)), .bool true, .int .i64 0, .int .i64 0, .int .i64 0, .int .i64 0] ∧ HasRow W' bn5 44 3) := fun W W' k ⟨h, h0, h1, h2⟩ => ⟨h.trans k, keep_blk k h0, keep_blk k h1, HasRow.keep k h2⟩
  have hrS : (fun W : World => Since w W ∧ Blk W w.heap.size 25 #[.int .i64 0, .int .i64 0, .int .i64 0, .int .i64 0, .bool false, .int .i64 0, .int .i64 0, .int .i64 0, .int .i64 0] ∧ Blk W bn4 25 #[.int .i64 (z zs 1), .int .i64 (num2 (z zs 2) (z zs 3)), .int .i64 (num2 (z zs 4) (z zs 5)), .int .i64 (num2 (z zs 6) (z zs 7)), .bool true, .int .i64 0, .int .i64 0, .int .i64 0, .int .i64 0] ∧ HasRow W bn5 44 3) w12 := ⟨HSd14v7.out, HBRd14v7.out, HBn4d14v7.out, HasRow.of HBn5d14v7.out rfl⟩
  have HRK := Lib.hid hrK
  have HRD := Lib.hid (show (fun W : World => Since w W ∧ Blk W w.heap.size 25 #[.int .i64 0, .int .i64 0, .int .i64 0, .int .i64 0, .bool false, .int .i64 0, .int .i64 0, .int .i64 0, .int .i64 0] ∧ Blk W bn4 25 #[.int .i64 (z zs 1), .int .i64 (num2 (z zs 2) (z zs 3)), .int .i64 (num2 (z zs 4) (z zs 5)), .int .i64 (num2 (z zs 6) (z zs 7)), .bool true, .int .i64 0, .int .i64 0, .int .i64 0, .int .i64 0] ∧ HasRow W bn5 44 3) (World.drew w12) from ⟨Since.drew hrS.1, hrS.2⟩)
  clear hrK hrS
  have HPn5 := Lib.hid (show Blk (World.drew w12) bn5 44 #[.int .i64 (((z zs 9 * 256 + z zs 10) * 256 + z zs 11) * 256 + z zs 12), .int .i64 ((z zs 13 * 256 + z zs 14) * 256 + z zs 15), .int .i64 0] from HBn5d14v7.out)
  refine wp_region_held_drew (S := fun W : World => Since w W ∧ Blk W w.heap.size 25 #[.int .i64 0, .int .i64 0, .int .i64 0, .int .i64 0, .bool false, .int .i64 0, .int .i64 0, .int .i64 0, .int .i64 0] ∧ Blk W bn4 25 #[.int .i64 (z zs 1), .int .i64 (num2 (z zs 2) (z zs 3)), .int .i64 (num2 (z zs 4) (z zs 5)), .int .i64 (num2 (z zs 6) (z zs 7)), .bool true, .int .i64 0, .int .i64 0, .int .i64 0, .int .i64 0] ∧ HasRow W bn5 44 3) (by kernel_rfl) HRD.out (fun hHeld => ?_)
  refine wpAnyH_take (i := 0) (oi := ?o14__0) (v := .int .i64 1) ?h14__0 (by kernel_rfl) (by kernel_rfl) (by kernel_rfl) ?q14__0 ?y14__0 (by assumption) ?_
  case h14__0 => (first | (simp only [gA, gB, gC]; done) | (simp only [gA, gB, gC]; exact rfl))
  case q14__0 => exact fun _ _ _ h => h
  case y14__0 => (refine Or.inl ⟨rfl, ?_⟩; intro w hSw; (first | rfl | (go_simp; (try with_reducible rfl))))
  (try simp only [Act.put, sA, sB, sC])
  refine wpAnyH_take (i := 1) (oi := ?o14__1) (v := .int .i64 1) ?h14__1 (by kernel_rfl) (by kernel_rfl) (by kernel_rfl) ?q14__1 ?y14__1 (by assumption) ?_
  case h14__1 => (first | (simp only [gA, gB, gC]; done) | (simp only [gA, gB, gC]; exact rfl))
  case q14__1 => exact fun _ _ _ h => h
  case y14__1 => (refine Or.inl ⟨rfl, ?_⟩; intro w hSw; (first | rfl | (go_simp; (try with_reducible rfl))))
  (try simp only [Act.put, sA, sB, sC])
  refine wpAnyH_take (i := 2) (oi := ?o14__2) (v := .pointer (some ⟨bn5, 1, none⟩)) ?h14__2 (by kernel_rfl) (by kernel_rfl) (by kernel_rfl) ?q14__2 ?y14__2 (by assumption) ?_
  case h14__2 => (first | (simp only [gA, gB, gC]; done) | (simp only [gA, gB, gC]; exact rfl))
  case q14__2 => exact fun _ _ _ h => h
  case y14__2 => (refine Or.inl ⟨rfl, ?_⟩; intro w hSw; (go_simp; (try with_reducible rfl)))
  (try simp only [Act.put, sA, sB, sC])
  refine wpAnyH_take (i := 5) (oi := ?o14__5) (v := .slice (some ⟨b, off, none⟩) 21 cap) ?h14__5 (by kernel_rfl) (by kernel_rfl) (by kernel_rfl) ?q14__5 ?y14__5 (by assumption) ?_
  case h14__5 => (first | (simp only [gA, gB, gC]; done) | (simp only [gA, gB, gC]; exact rfl))
  case q14__5 => exact fun _ _ _ h => h
  case y14__5 => (refine Or.inl ⟨rfl, ?_⟩; intro w hSw; (first | rfl | (go_simp; (try with_reducible rfl))))
  (try simp only [Act.put, sA, sB, sC])
  refine wpAnyH_take (i := 6) (oi := ?o14__6) (v := .int .i64 1) ?h14__6 (by kernel_rfl) (by kernel_rfl) (by kernel_rfl) ?q14__6 ?y14__6 (by assumption) ?_
  case h14__6 => (first | (simp only [gA, gB, gC]; done) | (simp only [gA, gB, gC]; exact rfl))
  case q14__6 => exact fun _ _ _ h => h
  case y14__6 => (refine Or.inl ⟨rfl, ?_⟩; intro w hSw; (first | rfl | (go_simp; (try with_reducible rfl))))
  (try simp only [Act.put, sA, sB, sC])
  refine wpAnyH_take (i := 7) (oi := ?o14__7) (v := .int .i64 4) ?h14__7 (by kernel_rfl) (by kernel_rfl) (by kernel_rfl) ?q14__7 ?y14__7 (by assumption) ?_
  case h14__7 => (first | (simp only [gA, gB, gC]; done) | (simp only [gA, gB, gC]; exact rfl))
  case q14__7 => exact fun _ _ _ h => h
  case y14__7 => (refine Or.inl ⟨rfl, ?_⟩; intro w hSw; (first | rfl | kernel_rfl | (go_simp; (try with_reducible rfl))))
  (try simp only [Act.put, sA, sB, sC])
  refine wpAnyH_take (i := 8) (oi := ?o14__8) (v := .int .i64 13) ?h14__8 (by kernel_rfl) (by kernel_rfl) (by kernel_rfl) ?q14__8 ?y14__8 (by assumption) ?_
  case h14__8 => (first | (simp only [gA, gB, gC]; done) | (simp only [gA, gB, gC]; exact rfl))
  case q14__8 => exact fun _ _ _ h => h
  case y14__8 => (refine Or.inl ⟨rfl, ?_⟩; intro w hSw; (first | rfl | kernel_rfl | (go_simp; (try with_reducible rfl))))
  (try simp only [Act.put, sA, sB, sC])
  refine wpAnyH_take (i := 9) (oi := ?o14__9) (v := .int .i64 3) ?h14__9 (by kernel_rfl) (by kernel_rfl) (by kernel_rfl) ?q14__9 ?y14__9 (by assumption) ?_
  case h14__9 => (first | (simp only [gA, gB, gC]; done) | (simp only [gA, gB, gC]; exact rfl))
  case q14__9 => exact fun _ _ _ h => h
  case y14__9 => (refine Or.inl ⟨rfl, ?_⟩; intro w hSw; (first | rfl | (go_simp; (try with_reducible rfl))))
  (try simp only [Act.put, sA, sB, sC])
  refine wpAnyH_take (i := 10) (oi := ?o14__10) (v := .int .i64 16) ?h14__10 (by kernel_rfl) (by kernel_rfl) (by kernel_rfl) ?q14__10 ?y14__10 (by assumption) ?_
  case h14__10 => (first | (simp only [gA, gB, gC]; done) | (simp only [gA, gB, gC]; exact rfl))
  case q14__10 => exact fun _ _ _ h => h
  case y14__10 => (refine Or.inl ⟨rfl, ?_⟩; intro w hSw; (first | rfl | kernel_rfl | (go_simp; (try with_reducible rfl))))
  (try simp only [Act.put, sA, sB, sC])
  refine wpAnyH_take (i := 11) (oi := ?o14__11) (v := .pointer (some ⟨b, (off + 16), none⟩)) ?h14__11 (by kernel_rfl) (by kernel_rfl) (by kernel_rfl) ?q14__11 ?y14__11 (by assumption) ?_
  case h14__11 => (first | (simp only [gA, gB, gC]; done) | (simp only [gA, gB, gC]; exact rfl))
  case q14__11 => exact fun _ _ _ h => h
  case y14__11 => (refine Or.inl ⟨rfl, ?_⟩; intro w hSw; (first | rfl | (go_simp; (try with_reducible rfl))))
  (try simp only [Act.put, sA, sB, sC])
  refine wpAnyH_take (i := 12) (oi := ?o14__12) (v := .int .u8 (z zs 16)) ?h14__12 (by kernel_rfl) (by kernel_rfl) (by kernel_rfl) ?q14__12 ?y14__12 (by assumption) ?_
  case h14__12 => (first | (simp only [gA, gB, gC]; done) | (simp only [gA, gB, gC]; exact rfl))
  case q14__12 => exact fun _ _ _ h => h
  case y14__12 => (refine Or.inl ⟨rfl, ?_⟩; intro w hSw; exact exec_at 5 _ _ (keep_cell hSw.1 (HC.out 16 (by omega))) rfl rfl Tryd.underlying5 rfl)
  (try simp only [Act.put, sA, sB, sC])
  refine wpAnyH_take (i := 13) (oi := ?o14__13) (v := .int .i64 (z zs 16)) ?h14__13 (by kernel_rfl) (by kernel_rfl) (by kernel_rfl) ?q14__13 ?y14__13 (by assumption) ?_
  case h14__13 => (first | (simp only [gA, gB, gC]; done) | (simp only [gA, gB, gC]; exact rfl))
  case q14__13 => exact fun _ _ _ h => h
  case y14__13 => (refine Or.inl ⟨rfl, ?_⟩; intro w hSw; (have q := HI16.out; go_simp; exact wr64 _ (by omega) (by omega)))
  (try simp only [Act.put, sA, sB, sC])
  refine wpAnyH_ready (rs := [3]) (by kernel_rfl) (by simp) ?_
  refine AllReadyH.cons (o := ?o14__3) ?h14__3 (fun K hK => ?_) AllReadyH.nil
  case h14__3 => (first | (simp only [gA, gB, gC]; done) | (simp only [gA, gB, gC]; exact rfl))
  rw [if_pos (by rfl)]
  refine wp_q (.int .i64 ((z zs 13 * 256 + z zs 14) * 256 + z zs 15)) ?e14__3 ?_
  case e14__3 => exact exec_cell 3 _ _ HPn5.out rfl rfl rfl Tryd.underlying3 rfl
  refine hK.out _ _ hHeld (fun hHeld2 => ?_)
  clear hK K hHeld2
  (try simp only [Act.put, sA, sB, sC])
  refine wpAnyH_take (i := 4) (oi := ?o14__4) (v := .int .i64 (((z zs 13 * 256 + z zs 14) * 256 + z zs 15) * 256)) ?h14__4 (by kernel_rfl) (by kernel_rfl) (by kernel_rfl) ?q14__4 ?y14__4 (by assumption) ?_
  case h14__4 => (first | (simp only [gA, gB, gC]; done) | (simp only [gA, gB, gC]; exact rfl))
  case q14__4 => exact fun _ _ _ h => h
  case y14__4 => (refine Or.inl ⟨rfl, ?_⟩; intro w hSw; (have q13 := HI13.out; have q14 := HI14.out; have q15 := HI15.out; have q16 := HI16.out; go_simp; (first | done | exact wr64 _ (by omega) (by omega))))
  (try simp only [Act.put, sA, sB, sC])
  refine wpAnyH_take (i := 14) (oi := ?o14__14) (v := .int .i64 (((z zs 13 * 256 + z zs 14) * 256 + z zs 15) * 256 + z zs 16)) ?h14__14 (by kernel_rfl) (by kernel_rfl) (by kernel_rfl) ?q14__14 ?y14__14 (by assumption) ?_
  case h14__14 => (first | (simp only [gA, gB, gC]; done) | (simp only [gA, gB, gC]; exact rfl))
  case q14__14 => exact fun _ _ _ h => h
  case y14__14 => (refine Or.inl ⟨rfl, ?_⟩; intro w hSw; (have q13 := HI13.out; have q14 := HI14.out; have q15 := HI15.out; have q16 := HI16.out; go_simp; (first | done | exact wr64 _ (by omega) (by omega))))
  (try simp only [Act.put, sA, sB, sC])
  refine wpAnyH_take (i := 15) (oi := ?o14__15) (v := .pointer (some ⟨bn5, 1, none⟩)) ?h14__15 (by kernel_rfl) (by kernel_rfl) (by kernel_rfl) ?q14__15 ?y14__15 (by assumption) ?_
  case h14__15 => (first | (simp only [gA, gB, gC]; done) | (simp only [gA, gB, gC]; exact rfl))
  case q14__15 => exact fun _ _ _ h => h
  case y14__15 => (refine Or.inl ⟨rfl, ?_⟩; intro w hSw; (go_simp; (try with_reducible rfl)))
  (try simp only [Act.put, sA, sB, sC])
  refine wpAnyH_ready (rs := [16]) (by kernel_rfl) (by simp) ?_
  refine AllReadyH.cons (o := ?o14__16) ?h14__16 (fun K hK => ?_) AllReadyH.nil
  case h14__16 => (first | (simp only [gA, gB, gC]; done) | (simp only [gA, gB, gC]; exact rfl))
  rw [if_pos (by rfl)]
  refine wp_st_cell 3 _ _ rfl #[.int .i64 (((z zs 9 * 256 + z zs 10) * 256 + z zs 11) * 256 + z zs 12), .int .i64 (((z zs 13 * 256 + z zs 14) * 256 + z zs 15) * 256 + z zs 16), .int .i64 0] (.int .i64 (((z zs 13 * 256 + z zs 14) * 256 + z zs 15) * 256 + z zs 16)) rfl rfl HPn5.out (by show 1 < 3; decide) rfl (by first | rfl | simp [Value.oneCell']) (by kernel_rfl) ?_
  clear HPn5
  intro w13 hw
  have HRn5 := Lib.hid (show Blk w13 bn5 44 #[.int .i64 (((z zs 9 * 256 + z zs 10) * 256 + z zs 11) * 256 + z zs 12), .int .i64 (((z zs 13 * 256 + z zs 14) * 256 + z zs 15) * 256 + z zs 16), .int .i64 0] by obtain ⟨old, Bo, _⟩ := hHeld.2.2.2; rw [hw]; exact Blk.row Bo _)
  have hHeld3 : (fun W : World => Since w W ∧ Blk W w.heap.size 25 #[.int .i64 0, .int .i64 0, .int .i64 0, .int .i64 0, .bool false, .int .i64 0, .int .i64 0, .int .i64 0, .int .i64 0] ∧ Blk W bn4 25 #[.int .i64 (z zs 1), .int .i64 (num2 (z zs 2) (z zs 3)), .int .i64 (num2 (z zs 4) (z zs 5)), .int .i64 (num2 (z zs 6) (z zs 7)), .bool true, .int .i64 0, .int .i64 0, .int .i64 0, .int .i64 0] ∧ HasRow W bn5 44 3) w13 := ⟨by rw [hw]; exact Since.setRow hHeld.1 HGn5.out _, by rw [hw]; exact Blk.row_far (hHeld.2.1) (Ne.symm HNn5R.out) _, by rw [hw]; exact Blk.row_far (hHeld.2.2.1) (Ne.symm HNn5n4.out) _, HasRow.of HRn5.out rfl⟩
  refine hK.out _ _ hHeld3 (fun hHeld2 => ?_)
  clear hK K hHeld hHeld3 hw
  have hHeld := hHeld2
  clear hHeld2
  (try simp only [Act.put, sA, sB, sC])
  refine wpAnyH_done (by kernel_rfl) ?_ _
  have HSd14v8 := Lib.hid hHeld.1
  have HBRd14v8 := Lib.hid (hHeld.2.1)
  have HBn4d14v8 := Lib.hid (hHeld.2.2.1)
  have HBn5d14v8 := Lib.hid HRn5.out
  clear HRn5
  clear hHeld HRK HRD HSd14v7 HBRd14v7 HBn4d14v7 HBn5d14v7
  go_upto_region 13 with fail
  refine wp_region_lit ?_
  refine wpList_q (by rfl) (.int .i64 3) ?he ?_
  case he => (first | rfl | (go_simp; (try with_reducible rfl)))
  (try simp only [Act.put, sA, sB, sC])
  refine wpList_q (by rfl) (.int .i64 4) ?he ?_
  case he => (first | rfl | kernel_rfl | (go_simp; (try with_reducible rfl)))
  (try simp only [Act.put, sA, sB, sC])
  refine wpList_q (by rfl) (.int .i64 4) ?he ?_
  case he => (first | rfl | (go_simp; (try with_reducible rfl)))
  (try simp only [Act.put, sA, sB, sC])
  refine wpList_nil ?_
  go_wp2_with fail
  rw [rounds_succ]
  go_upto_region 12 with fail
  refine wp_region_lit ?_
  refine wpList_q (by rfl) (.int .i64 4) ?he ?_
  case he => (first | rfl | (go_simp; (try with_reducible rfl)))
  (try simp only [Act.put, sA, sB, sC])
  refine wpList_q (by rfl) (.bool false) ?he ?_
  case he => (go_simp; (try with_reducible rfl))
  (try simp only [Act.put, sA, sB, sC])
  refine wpList_nil ?_
  go_upto_region 10 with fail
  refine wp_region_lit ?_
  refine wpList_q (by rfl) (.int .i64 1) ?he ?_
  case he => (first | rfl | (go_simp; (try with_reducible rfl)))
  (try simp only [Act.put, sA, sB, sC])
  refine wpList_q (by rfl) (.int .i64 2) ?he ?_
  case he => (first | rfl | kernel_rfl | (go_simp; (try with_reducible rfl)))
  (try simp only [Act.put, sA, sB, sC])
  refine wpList_q (by rfl) (.int .i64 2) ?he ?_
  case he => (first | rfl | (go_simp; (try with_reducible rfl)))
  (try simp only [Act.put, sA, sB, sC])
  refine wpList_nil ?_
  go_wp2_with fail
  rw [rounds_succ]
  go_upto_region 9 with fail
  refine wp_region_lit ?_
  refine wpList_q (by rfl) (.int .i64 2) ?he ?_
  case he => (first | rfl | (go_simp; (try with_reducible rfl)))
  (try simp only [Act.put, sA, sB, sC])
  refine wpList_q (by rfl) (.bool true) ?he ?_
  case he => (go_simp; (try with_reducible rfl))
  (try simp only [Act.put, sA, sB, sC])
  refine wpList_nil ?_
  go_upto_region 11 with fail
  refine wp_region_lit ?_
  refine wpList_q (by rfl) (.int .i64 0) ?he ?_
  case he => (first | rfl | (go_simp; (try with_reducible rfl)))
  (try simp only [Act.put, sA, sB, sC])
  refine wpList_nil ?_
  go_wp2_with fail
  refine wp_loop_rounds 5 ?_
  rw [rounds_succ]
  go_upto_region 12 with fail
  refine wp_region_lit ?_
  refine wpList_q (by rfl) (.int .i64 0) ?he ?_
  case he => (first | rfl | (go_simp; (try with_reducible rfl)))
  (try simp only [Act.put, sA, sB, sC])
  refine wpList_q (by rfl) (.bool true) ?he ?_
  case he => (go_simp; (try with_reducible rfl))
  (try simp only [Act.put, sA, sB, sC])
  refine wpList_nil ?_
  go_upto_region 14 with fail
  have hrK : ∀ W W' : World, Since W W' → (Since w W ∧ Blk W w.heap.size 25 #[.int .i64 0, .int .i64 0, .int .i64 0, .int .i64 0, .bool false, .int .i64 0, .int .i64 0, .int .i64 0, .int .i64 0] ∧ Blk W bn4 25 #[.int .i64 (z zs 1), .int .i64 (num2 (z zs 2) (z zs 3)), .int .i64 (num2 (z zs 4) (z zs 5)), .int .i64 (num2 (z zs 6) (z zs 7)), .bool true, .int .i64 0, .int .i64 0, .int .i64 0, .int .i64 0] ∧ HasRow W bn5 44 3) → (Since w W' ∧ Blk W' w.heap.size 25 #[.int .i64 0, .int .i64 0, .int .i64 0, .int .i64 0, .bool false, .int .i64 0, .int .i64 0, .int .i64 0, .int .i64 0] ∧ Blk W' bn4 25 #[.int .i64 (z zs 1), .int .i64 (num2 (z zs 2) (z zs 3)), .int .i64 (num2 (z zs 4) (z zs 5)), .int .i64 (num2 (z zs 6) (z zs 7)), .bool true, .int .i64 0, .int .i64 0, .int .i64 0, .int .i64 0] ∧ HasRow W' bn5 44 3) := fun W W' k ⟨h, h0, h1, h2⟩ => ⟨h.trans k, keep_blk k h0, keep_blk k h1, HasRow.keep k h2⟩
  have hrS : (fun W : World => Since w W ∧ Blk W w.heap.size 25 #[.int .i64 0, .int .i64 0, .int .i64 0, .int .i64 0, .bool false, .int .i64 0, .int .i64 0, .int .i64 0, .int .i64 0] ∧ Blk W bn4 25 #[.int .i64 (z zs 1), .int .i64 (num2 (z zs 2) (z zs 3)), .int .i64 (num2 (z zs 4) (z zs 5)), .int .i64 (num2 (z zs 6) (z zs 7)), .bool true, .int .i64 0, .int .i64 0, .int .i64 0, .int .i64 0] ∧ HasRow W bn5 44 3) w13 := ⟨HSd14v8.out, HBRd14v8.out, HBn4d14v8.out, HasRow.of HBn5d14v8.out rfl⟩
  have HRK := Lib.hid hrK
  have HRD := Lib.hid (show (fun W : World => Since w W ∧ Blk W w.heap.size 25 #[.int .i64 0, .int .i64 0, .int .i64 0, .int .i64 0, .bool false, .int .i64 0, .int .i64 0, .int .i64 0, .int .i64 0] ∧ Blk W bn4 25 #[.int .i64 (z zs 1), .int .i64 (num2 (z zs 2) (z zs 3)), .int .i64 (num2 (z zs 4) (z zs 5)), .int .i64 (num2 (z zs 6) (z zs 7)), .bool true, .int .i64 0, .int .i64 0, .int .i64 0, .int .i64 0] ∧ HasRow W bn5 44 3) (World.drew w13) from ⟨Since.drew hrS.1, hrS.2⟩)
  clear hrK hrS
  have HPn5 := Lib.hid (show Blk (World.drew w13) bn5 44 #[.int .i64 (((z zs 9 * 256 + z zs 10) * 256 + z zs 11) * 256 + z zs 12), .int .i64 (((z zs 13 * 256 + z zs 14) * 256 + z zs 15) * 256 + z zs 16), .int .i64 0] from HBn5d14v8.out)
  refine wp_region_held_drew (S := fun W : World => Since w W ∧ Blk W w.heap.size 25 #[.int .i64 0, .int .i64 0, .int .i64 0, .int .i64 0, .bool false, .int .i64 0, .int .i64 0, .int .i64 0, .int .i64 0] ∧ Blk W bn4 25 #[.int .i64 (z zs 1), .int .i64 (num2 (z zs 2) (z zs 3)), .int .i64 (num2 (z zs 4) (z zs 5)), .int .i64 (num2 (z zs 6) (z zs 7)), .bool true, .int .i64 0, .int .i64 0, .int .i64 0, .int .i64 0] ∧ HasRow W bn5 44 3) (by kernel_rfl) HRD.out (fun hHeld => ?_)
  refine wpAnyH_take (i := 0) (oi := ?o14__0) (v := .int .i64 2) ?h14__0 (by kernel_rfl) (by kernel_rfl) (by kernel_rfl) ?q14__0 ?y14__0 (by assumption) ?_
  case h14__0 => (first | (simp only [gA, gB, gC]; done) | (simp only [gA, gB, gC]; exact rfl))
  case q14__0 => exact fun _ _ _ h => h
  case y14__0 => (refine Or.inl ⟨rfl, ?_⟩; intro w hSw; (first | rfl | (go_simp; (try with_reducible rfl))))
  (try simp only [Act.put, sA, sB, sC])
  refine wpAnyH_take (i := 1) (oi := ?o14__1) (v := .int .i64 2) ?h14__1 (by kernel_rfl) (by kernel_rfl) (by kernel_rfl) ?q14__1 ?y14__1 (by assumption) ?_
  case h14__1 => (first | (simp only [gA, gB, gC]; done) | (simp only [gA, gB, gC]; exact rfl))
  case q14__1 => exact fun _ _ _ h => h
  case y14__1 => (refine Or.inl ⟨rfl, ?_⟩; intro w hSw; (first | rfl | (go_simp; (try with_reducible rfl))))
  (try simp only [Act.put, sA, sB, sC])
  refine wpAnyH_take (i := 2) (oi := ?o14__2) (v := .pointer (some ⟨bn5, 2, none⟩)) ?h14__2 (by kernel_rfl) (by kernel_rfl) (by kernel_rfl) ?q14__2 ?y14__2 (by assumption) ?_
  case h14__2 => (first | (simp only [gA, gB, gC]; done) | (simp only [gA, gB, gC]; exact rfl))
  case q14__2 => exact fun _ _ _ h => h
  case y14__2 => (refine Or.inl ⟨rfl, ?_⟩; intro w hSw; (go_simp; (try with_reducible rfl)))
  (try simp only [Act.put, sA, sB, sC])
  refine wpAnyH_take (i := 5) (oi := ?o14__5) (v := .slice (some ⟨b, off, none⟩) 21 cap) ?h14__5 (by kernel_rfl) (by kernel_rfl) (by kernel_rfl) ?q14__5 ?y14__5 (by assumption) ?_
  case h14__5 => (first | (simp only [gA, gB, gC]; done) | (simp only [gA, gB, gC]; exact rfl))
  case q14__5 => exact fun _ _ _ h => h
  case y14__5 => (refine Or.inl ⟨rfl, ?_⟩; intro w hSw; (first | rfl | (go_simp; (try with_reducible rfl))))
  (try simp only [Act.put, sA, sB, sC])
  refine wpAnyH_take (i := 6) (oi := ?o14__6) (v := .int .i64 2) ?h14__6 (by kernel_rfl) (by kernel_rfl) (by kernel_rfl) ?q14__6 ?y14__6 (by assumption) ?_
  case h14__6 => (first | (simp only [gA, gB, gC]; done) | (simp only [gA, gB, gC]; exact rfl))
  case q14__6 => exact fun _ _ _ h => h
  case y14__6 => (refine Or.inl ⟨rfl, ?_⟩; intro w hSw; (first | rfl | (go_simp; (try with_reducible rfl))))
  (try simp only [Act.put, sA, sB, sC])
  refine wpAnyH_take (i := 7) (oi := ?o14__7) (v := .int .i64 8) ?h14__7 (by kernel_rfl) (by kernel_rfl) (by kernel_rfl) ?q14__7 ?y14__7 (by assumption) ?_
  case h14__7 => (first | (simp only [gA, gB, gC]; done) | (simp only [gA, gB, gC]; exact rfl))
  case q14__7 => exact fun _ _ _ h => h
  case y14__7 => (refine Or.inl ⟨rfl, ?_⟩; intro w hSw; (first | rfl | kernel_rfl | (go_simp; (try with_reducible rfl))))
  (try simp only [Act.put, sA, sB, sC])
  refine wpAnyH_take (i := 8) (oi := ?o14__8) (v := .int .i64 17) ?h14__8 (by kernel_rfl) (by kernel_rfl) (by kernel_rfl) ?q14__8 ?y14__8 (by assumption) ?_
  case h14__8 => (first | (simp only [gA, gB, gC]; done) | (simp only [gA, gB, gC]; exact rfl))
  case q14__8 => exact fun _ _ _ h => h
  case y14__8 => (refine Or.inl ⟨rfl, ?_⟩; intro w hSw; (first | rfl | kernel_rfl | (go_simp; (try with_reducible rfl))))
  (try simp only [Act.put, sA, sB, sC])
  refine wpAnyH_take (i := 9) (oi := ?o14__9) (v := .int .i64 0) ?h14__9 (by kernel_rfl) (by kernel_rfl) (by kernel_rfl) ?q14__9 ?y14__9 (by assumption) ?_
  case h14__9 => (first | (simp only [gA, gB, gC]; done) | (simp only [gA, gB, gC]; exact rfl))
  case q14__9 => exact fun _ _ _ h => h
  case y14__9 => (refine Or.inl ⟨rfl, ?_⟩; intro w hSw; (first | rfl | (go_simp; (try with_reducible rfl))))
  (try simp only [Act.put, sA, sB, sC])
  refine wpAnyH_take (i := 10) (oi := ?o14__10) (v := .int .i64 17) ?h14__10 (by kernel_rfl) (by kernel_rfl) (by kernel_rfl) ?q14__10 ?y14__10 (by assumption) ?_
  case h14__10 => (first | (simp only [gA, gB, gC]; done) | (simp only [gA, gB, gC]; exact rfl))
  case q14__10 => exact fun _ _ _ h => h
  case y14__10 => (refine Or.inl ⟨rfl, ?_⟩; intro w hSw; (first | rfl | kernel_rfl | (go_simp; (try with_reducible rfl))))
  (try simp only [Act.put, sA, sB, sC])
  refine wpAnyH_take (i := 11) (oi := ?o14__11) (v := .pointer (some ⟨b, (off + 17), none⟩)) ?h14__11 (by kernel_rfl) (by kernel_rfl) (by kernel_rfl) ?q14__11 ?y14__11 (by assumption) ?_
  case h14__11 => (first | (simp only [gA, gB, gC]; done) | (simp only [gA, gB, gC]; exact rfl))
  case q14__11 => exact fun _ _ _ h => h
  case y14__11 => (refine Or.inl ⟨rfl, ?_⟩; intro w hSw; (first | rfl | (go_simp; (try with_reducible rfl))))
  (try simp only [Act.put, sA, sB, sC])
  refine wpAnyH_take (i := 12) (oi := ?o14__12) (v := .int .u8 (z zs 17)) ?h14__12 (by kernel_rfl) (by kernel_rfl) (by kernel_rfl) ?q14__12 ?y14__12 (by assumption) ?_
  case h14__12 => (first | (simp only [gA, gB, gC]; done) | (simp only [gA, gB, gC]; exact rfl))
  case q14__12 => exact fun _ _ _ h => h
  case y14__12 => (refine Or.inl ⟨rfl, ?_⟩; intro w hSw; exact exec_at 5 _ _ (keep_cell hSw.1 (HC.out 17 (by omega))) rfl rfl Tryd.underlying5 rfl)
  (try simp only [Act.put, sA, sB, sC])
  refine wpAnyH_take (i := 13) (oi := ?o14__13) (v := .int .i64 (z zs 17)) ?h14__13 (by kernel_rfl) (by kernel_rfl) (by kernel_rfl) ?q14__13 ?y14__13 (by assumption) ?_
  case h14__13 => (first | (simp only [gA, gB, gC]; done) | (simp only [gA, gB, gC]; exact rfl))
  case q14__13 => exact fun _ _ _ h => h
  case y14__13 => (refine Or.inl ⟨rfl, ?_⟩; intro w hSw; (have q := HI17.out; go_simp; exact wr64 _ (by omega) (by omega)))
  (try simp only [Act.put, sA, sB, sC])
  refine wpAnyH_ready (rs := [3]) (by kernel_rfl) (by simp) ?_
  refine AllReadyH.cons (o := ?o14__3) ?h14__3 (fun K hK => ?_) AllReadyH.nil
  case h14__3 => (first | (simp only [gA, gB, gC]; done) | (simp only [gA, gB, gC]; exact rfl))
  rw [if_pos (by rfl)]
  refine wp_q (.int .i64 0) ?e14__3 ?_
  case e14__3 => exact exec_cell 3 _ _ HPn5.out rfl rfl rfl Tryd.underlying3 rfl
  refine hK.out _ _ hHeld (fun hHeld2 => ?_)
  clear hK K hHeld2
  (try simp only [Act.put, sA, sB, sC])
  refine wpAnyH_take (i := 4) (oi := ?o14__4) (v := .int .i64 0) ?h14__4 (by kernel_rfl) (by kernel_rfl) (by kernel_rfl) ?q14__4 ?y14__4 (by assumption) ?_
  case h14__4 => (first | (simp only [gA, gB, gC]; done) | (simp only [gA, gB, gC]; exact rfl))
  case q14__4 => exact fun _ _ _ h => h
  case y14__4 => (refine Or.inl ⟨rfl, ?_⟩; intro w hSw; (go_simp; (first | done | rfl)))
  (try simp only [Act.put, sA, sB, sC])
  refine wpAnyH_take (i := 14) (oi := ?o14__14) (v := .int .i64 (z zs 17)) ?h14__14 (by kernel_rfl) (by kernel_rfl) (by kernel_rfl) ?q14__14 ?y14__14 (by assumption) ?_
  case h14__14 => (first | (simp only [gA, gB, gC]; done) | (simp only [gA, gB, gC]; exact rfl))
  case q14__14 => exact fun _ _ _ h => h
  case y14__14 => (refine Or.inl ⟨rfl, ?_⟩; intro w hSw; (have q17 := HI17.out; go_simp; (first | done | exact wr64 _ (by omega) (by omega))))
  (try simp only [Act.put, sA, sB, sC])
  refine wpAnyH_take (i := 15) (oi := ?o14__15) (v := .pointer (some ⟨bn5, 2, none⟩)) ?h14__15 (by kernel_rfl) (by kernel_rfl) (by kernel_rfl) ?q14__15 ?y14__15 (by assumption) ?_
  case h14__15 => (first | (simp only [gA, gB, gC]; done) | (simp only [gA, gB, gC]; exact rfl))
  case q14__15 => exact fun _ _ _ h => h
  case y14__15 => (refine Or.inl ⟨rfl, ?_⟩; intro w hSw; (go_simp; (try with_reducible rfl)))
  (try simp only [Act.put, sA, sB, sC])
  refine wpAnyH_ready (rs := [16]) (by kernel_rfl) (by simp) ?_
  refine AllReadyH.cons (o := ?o14__16) ?h14__16 (fun K hK => ?_) AllReadyH.nil
  case h14__16 => (first | (simp only [gA, gB, gC]; done) | (simp only [gA, gB, gC]; exact rfl))
  rw [if_pos (by rfl)]
  refine wp_st_cell 3 _ _ rfl #[.int .i64 (((z zs 9 * 256 + z zs 10) * 256 + z zs 11) * 256 + z zs 12), .int .i64 (((z zs 13 * 256 + z zs 14) * 256 + z zs 15) * 256 + z zs 16), .int .i64 (z zs 17)] (.int .i64 (z zs 17)) rfl rfl HPn5.out (by show 2 < 3; decide) rfl (by first | rfl | simp [Value.oneCell']) (by kernel_rfl) ?_
  clear HPn5
  intro w14 hw
  have HRn5 := Lib.hid (show Blk w14 bn5 44 #[.int .i64 (((z zs 9 * 256 + z zs 10) * 256 + z zs 11) * 256 + z zs 12), .int .i64 (((z zs 13 * 256 + z zs 14) * 256 + z zs 15) * 256 + z zs 16), .int .i64 (z zs 17)] by obtain ⟨old, Bo, _⟩ := hHeld.2.2.2; rw [hw]; exact Blk.row Bo _)
  have hHeld3 : (fun W : World => Since w W ∧ Blk W w.heap.size 25 #[.int .i64 0, .int .i64 0, .int .i64 0, .int .i64 0, .bool false, .int .i64 0, .int .i64 0, .int .i64 0, .int .i64 0] ∧ Blk W bn4 25 #[.int .i64 (z zs 1), .int .i64 (num2 (z zs 2) (z zs 3)), .int .i64 (num2 (z zs 4) (z zs 5)), .int .i64 (num2 (z zs 6) (z zs 7)), .bool true, .int .i64 0, .int .i64 0, .int .i64 0, .int .i64 0] ∧ HasRow W bn5 44 3) w14 := ⟨by rw [hw]; exact Since.setRow hHeld.1 HGn5.out _, by rw [hw]; exact Blk.row_far (hHeld.2.1) (Ne.symm HNn5R.out) _, by rw [hw]; exact Blk.row_far (hHeld.2.2.1) (Ne.symm HNn5n4.out) _, HasRow.of HRn5.out rfl⟩
  refine hK.out _ _ hHeld3 (fun hHeld2 => ?_)
  clear hK K hHeld hHeld3 hw
  have hHeld := hHeld2
  clear hHeld2
  (try simp only [Act.put, sA, sB, sC])
  refine wpAnyH_done (by kernel_rfl) ?_ _
  have HSd14v9 := Lib.hid hHeld.1
  have HBRd14v9 := Lib.hid (hHeld.2.1)
  have HBn4d14v9 := Lib.hid (hHeld.2.2.1)
  have HBn5d14v9 := Lib.hid HRn5.out
  clear HRn5
  clear hHeld HRK HRD HSd14v8 HBRd14v8 HBn4d14v8 HBn5d14v8
  go_upto_region 13 with fail
  refine wp_region_lit ?_
  refine wpList_q (by rfl) (.int .i64 0) ?he ?_
  case he => (first | rfl | (go_simp; (try with_reducible rfl)))
  (try simp only [Act.put, sA, sB, sC])
  refine wpList_q (by rfl) (.int .i64 1) ?he ?_
  case he => (first | rfl | kernel_rfl | (go_simp; (try with_reducible rfl)))
  (try simp only [Act.put, sA, sB, sC])
  refine wpList_q (by rfl) (.int .i64 1) ?he ?_
  case he => (first | rfl | (go_simp; (try with_reducible rfl)))
  (try simp only [Act.put, sA, sB, sC])
  refine wpList_nil ?_
  go_wp2_with fail
  rw [rounds_succ]
  go_upto_region 12 with fail
  refine wp_region_lit ?_
  refine wpList_q (by rfl) (.int .i64 1) ?he ?_
  case he => (first | rfl | (go_simp; (try with_reducible rfl)))
  (try simp only [Act.put, sA, sB, sC])
  refine wpList_q (by rfl) (.bool true) ?he ?_
  case he => (go_simp; (try with_reducible rfl))
  (try simp only [Act.put, sA, sB, sC])
  refine wpList_nil ?_
  go_upto_region 14 with fail
  have hrK : ∀ W W' : World, Since W W' → (Since w W ∧ Blk W w.heap.size 25 #[.int .i64 0, .int .i64 0, .int .i64 0, .int .i64 0, .bool false, .int .i64 0, .int .i64 0, .int .i64 0, .int .i64 0] ∧ Blk W bn4 25 #[.int .i64 (z zs 1), .int .i64 (num2 (z zs 2) (z zs 3)), .int .i64 (num2 (z zs 4) (z zs 5)), .int .i64 (num2 (z zs 6) (z zs 7)), .bool true, .int .i64 0, .int .i64 0, .int .i64 0, .int .i64 0] ∧ HasRow W bn5 44 3) → (Since w W' ∧ Blk W' w.heap.size 25 #[.int .i64 0, .int .i64 0, .int .i64 0, .int .i64 0, .bool false, .int .i64 0, .int .i64 0, .int .i64 0, .int .i64 0] ∧ Blk W' bn4 25 #[.int .i64 (z zs 1), .int .i64 (num2 (z zs 2) (z zs 3)), .int .i64 (num2 (z zs 4) (z zs 5)), .int .i64 (num2 (z zs 6) (z zs 7)), .bool true, .int .i64 0, .int .i64 0, .int .i64 0, .int .i64 0] ∧ HasRow W' bn5 44 3) := fun W W' k ⟨h, h0, h1, h2⟩ => ⟨h.trans k, keep_blk k h0, keep_blk k h1, HasRow.keep k h2⟩
  have hrS : (fun W : World => Since w W ∧ Blk W w.heap.size 25 #[.int .i64 0, .int .i64 0, .int .i64 0, .int .i64 0, .bool false, .int .i64 0, .int .i64 0, .int .i64 0, .int .i64 0] ∧ Blk W bn4 25 #[.int .i64 (z zs 1), .int .i64 (num2 (z zs 2) (z zs 3)), .int .i64 (num2 (z zs 4) (z zs 5)), .int .i64 (num2 (z zs 6) (z zs 7)), .bool true, .int .i64 0, .int .i64 0, .int .i64 0, .int .i64 0] ∧ HasRow W bn5 44 3) w14 := ⟨HSd14v9.out, HBRd14v9.out, HBn4d14v9.out, HasRow.of HBn5d14v9.out rfl⟩
  have HRK := Lib.hid hrK
  have HRD := Lib.hid (show (fun W : World => Since w W ∧ Blk W w.heap.size 25 #[.int .i64 0, .int .i64 0, .int .i64 0, .int .i64 0, .bool false, .int .i64 0, .int .i64 0, .int .i64 0, .int .i64 0] ∧ Blk W bn4 25 #[.int .i64 (z zs 1), .int .i64 (num2 (z zs 2) (z zs 3)), .int .i64 (num2 (z zs 4) (z zs 5)), .int .i64 (num2 (z zs 6) (z zs 7)), .bool true, .int .i64 0, .int .i64 0, .int .i64 0, .int .i64 0] ∧ HasRow W bn5 44 3) (World.drew w14) from ⟨Since.drew hrS.1, hrS.2⟩)
  clear hrK hrS
  have HPn5 := Lib.hid (show Blk (World.drew w14) bn5 44 #[.int .i64 (((z zs 9 * 256 + z zs 10) * 256 + z zs 11) * 256 + z zs 12), .int .i64 (((z zs 13 * 256 + z zs 14) * 256 + z zs 15) * 256 + z zs 16), .int .i64 (z zs 17)] from HBn5d14v9.out)
  refine wp_region_held_drew (S := fun W : World => Since w W ∧ Blk W w.heap.size 25 #[.int .i64 0, .int .i64 0, .int .i64 0, .int .i64 0, .bool false, .int .i64 0, .int .i64 0, .int .i64 0, .int .i64 0] ∧ Blk W bn4 25 #[.int .i64 (z zs 1), .int .i64 (num2 (z zs 2) (z zs 3)), .int .i64 (num2 (z zs 4) (z zs 5)), .int .i64 (num2 (z zs 6) (z zs 7)), .bool true, .int .i64 0, .int .i64 0, .int .i64 0, .int .i64 0] ∧ HasRow W bn5 44 3) (by kernel_rfl) HRD.out (fun hHeld => ?_)
  refine wpAnyH_take (i := 0) (oi := ?o14__0) (v := .int .i64 2) ?h14__0 (by kernel_rfl) (by kernel_rfl) (by kernel_rfl) ?q14__0 ?y14__0 (by assumption) ?_
  case h14__0 => (first | (simp only [gA, gB, gC]; done) | (simp only [gA, gB, gC]; exact rfl))
  case q14__0 => exact fun _ _ _ h => h
  case y14__0 => (refine Or.inl ⟨rfl, ?_⟩; intro w hSw; (first | rfl | (go_simp; (try with_reducible rfl))))
  (try simp only [Act.put, sA, sB, sC])
  refine wpAnyH_take (i := 1) (oi := ?o14__1) (v := .int .i64 2) ?h14__1 (by kernel_rfl) (by kernel_rfl) (by kernel_rfl) ?q14__1 ?y14__1 (by assumption) ?_
  case h14__1 => (first | (simp only [gA, gB, gC]; done) | (simp only [gA, gB, gC]; exact rfl))
  case q14__1 => exact fun _ _ _ h => h
  case y14__1 => (refine Or.inl ⟨rfl, ?_⟩; intro w hSw; (first | rfl | (go_simp; (try with_reducible rfl))))
  (try simp only [Act.put, sA, sB, sC])
  refine wpAnyH_take (i := 2) (oi := ?o14__2) (v := .pointer (some ⟨bn5, 2, none⟩)) ?h14__2 (by kernel_rfl) (by kernel_rfl) (by kernel_rfl) ?q14__2 ?y14__2 (by assumption) ?_
  case h14__2 => (first | (simp only [gA, gB, gC]; done) | (simp only [gA, gB, gC]; exact rfl))
  case q14__2 => exact fun _ _ _ h => h
  case y14__2 => (refine Or.inl ⟨rfl, ?_⟩; intro w hSw; (go_simp; (try with_reducible rfl)))
  (try simp only [Act.put, sA, sB, sC])
  refine wpAnyH_take (i := 5) (oi := ?o14__5) (v := .slice (some ⟨b, off, none⟩) 21 cap) ?h14__5 (by kernel_rfl) (by kernel_rfl) (by kernel_rfl) ?q14__5 ?y14__5 (by assumption) ?_
  case h14__5 => (first | (simp only [gA, gB, gC]; done) | (simp only [gA, gB, gC]; exact rfl))
  case q14__5 => exact fun _ _ _ h => h
  case y14__5 => (refine Or.inl ⟨rfl, ?_⟩; intro w hSw; (first | rfl | (go_simp; (try with_reducible rfl))))
  (try simp only [Act.put, sA, sB, sC])
  refine wpAnyH_take (i := 6) (oi := ?o14__6) (v := .int .i64 2) ?h14__6 (by kernel_rfl) (by kernel_rfl) (by kernel_rfl) ?q14__6 ?y14__6 (by assumption) ?_
  case h14__6 => (first | (simp only [gA, gB, gC]; done) | (simp only [gA, gB, gC]; exact rfl))
  case q14__6 => exact fun _ _ _ h => h
  case y14__6 => (refine Or.inl ⟨rfl, ?_⟩; intro w hSw; (first | rfl | (go_simp; (try with_reducible rfl))))
  (try simp only [Act.put, sA, sB, sC])
  refine wpAnyH_take (i := 7) (oi := ?o14__7) (v := .int .i64 8) ?h14__7 (by kernel_rfl) (by kernel_rfl) (by kernel_rfl) ?q14__7 ?y14__7 (by assumption) ?_
  case h14__7 => (first | (simp only [gA, gB, gC]; done) | (simp only [gA, gB, gC]; exact rfl))
  case q14__7 => exact fun _ _ _ h => h
  case y14__7 => (refine Or.inl ⟨rfl, ?_⟩; intro w hSw; (first | rfl | kernel_rfl | (go_simp; (try with_reducible rfl))))
  (try simp only [Act.put, sA, sB, sC])
  refine wpAnyH_take (i := 8) (oi := ?o14__8) (v := .int .i64 17) ?h14__8 (by kernel_rfl) (by kernel_rfl) (by kernel_rfl) ?q14__8 ?y14__8 (by assumption) ?_
  case h14__8 => (first | (simp only [gA, gB, gC]; done) | (simp only [gA, gB, gC]; exact rfl))
  case q14__8 => exact fun _ _ _ h => h
  case y14__8 => (refine Or.inl ⟨rfl, ?_⟩; intro w hSw; (first | rfl | kernel_rfl | (go_simp; (try with_reducible rfl))))
  (try simp only [Act.put, sA, sB, sC])
  refine wpAnyH_take (i := 9) (oi := ?o14__9) (v := .int .i64 1) ?h14__9 (by kernel_rfl) (by kernel_rfl) (by kernel_rfl) ?q14__9 ?y14__9 (by assumption) ?_
  case h14__9 => (first | (simp only [gA, gB, gC]; done) | (simp only [gA, gB, gC]; exact rfl))
  case q14__9 => exact fun _ _ _ h => h
  case y14__9 => (refine Or.inl ⟨rfl, ?_⟩; intro w hSw; (first | rfl | (go_simp; (try with_reducible rfl))))
  (try simp only [Act.put, sA, sB, sC])
  refine wpAnyH_take (i := 10) (oi := ?o14__10) (v := .int .i64 18) ?h14__10 (by kernel_rfl) (by kernel_rfl) (by kernel_rfl) ?q14__10 ?y14__10 (by assumption) ?_
  case h14__10 => (first | (simp only [gA, gB, gC]; done) | (simp only [gA, gB, gC]; exact rfl))
  case q14__10 => exact fun _ _ _ h => h
  case y14__10 => (refine Or.inl ⟨rfl, ?_⟩; intro w hSw; (first | rfl | kernel_rfl | (go_simp; (try with_reducible rfl))))
  (try simp only [Act.put, sA, sB, sC])
  refine wpAnyH_take (i := 11) (oi := ?o14__11) (v := .pointer (some ⟨b, (off + 18), none⟩)) ?h14__11 (by kernel_rfl) (by kernel_rfl) (by kernel_rfl) ?q14__11 ?y14__11 (by assumption) ?_
  case h14__11 => (first | (simp only [gA, gB, gC]; done) | (simp only [gA, gB, gC]; exact rfl))
  case q14__11 => exact fun _ _ _ h => h
  case y14__11 => (refine Or.inl ⟨rfl, ?_⟩; intro w hSw; (first | rfl | (go_simp; (try with_reducible rfl))))
  (try simp only [Act.put, sA, sB, sC])
  refine wpAnyH_take (i := 12) (oi := ?o14__12) (v := .int .u8 (z zs 18)) ?h14__12 (by kernel_rfl) (by kernel_rfl) (by kernel_rfl) ?q14__12 ?y14__12 (by assumption) ?_
  case h14__12 => (first | (simp only [gA, gB, gC]; done) | (simp only [gA, gB, gC]; exact rfl))
  case q14__12 => exact fun _ _ _ h => h
  case y14__12 => (refine Or.inl ⟨rfl, ?_⟩; intro w hSw; exact exec_at 5 _ _ (keep_cell hSw.1 (HC.out 18 (by omega))) rfl rfl Tryd.underlying5 rfl)
  (try simp only [Act.put, sA, sB, sC])
  refine wpAnyH_take (i := 13) (oi := ?o14__13) (v := .int .i64 (z zs 18)) ?h14__13 (by kernel_rfl) (by kernel_rfl) (by kernel_rfl) ?q14__13 ?y14__13 (by assumption) ?_
  case h14__13 => (first | (simp only [gA, gB, gC]; done) | (simp only [gA, gB, gC]; exact rfl))
  case q14__13 => exact fun _ _ _ h => h
  case y14__13 => (refine Or.inl ⟨rfl, ?_⟩; intro w hSw; (have q := HI18.out; go_simp; exact wr64 _ (by omega) (by omega)))
  (try simp only [Act.put, sA, sB, sC])
  refine wpAnyH_ready (rs := [3]) (by kernel_rfl) (by simp) ?_
  refine AllReadyH.cons (o := ?o14__3) ?h14__3 (fun K hK => ?_) AllReadyH.nil
  case h14__3 => (first | (simp only [gA, gB, gC]; done) | (simp only [gA, gB, gC]; exact rfl))
  rw [if_pos (by rfl)]
  refine wp_q (.int .i64 (z zs 17)) ?e14__3 ?_
  case e14__3 => exact exec_cell 3 _ _ HPn5.out rfl rfl rfl Tryd.underlying3 rfl
  refine hK.out _ _ hHeld (fun hHeld2 => ?_)
  clear hK K hHeld2
  (try simp only [Act.put, sA, sB, sC])
  refine wpAnyH_take (i := 4) (oi := ?o14__4) (v := .int .i64 (z zs 17 * 256)) ?h14__4 (by kernel_rfl) (by kernel_rfl) (by kernel_rfl) ?q14__4 ?y14__4 (by assumption) ?_
  case h14__4 => (first | (simp only [gA, gB, gC]; done) | (simp only [gA, gB, gC]; exact rfl))
  case q14__4 => exact fun _ _ _ h => h
  case y14__4 => (refine Or.inl ⟨rfl, ?_⟩; intro w hSw; (have q17 := HI17.out; have q18 := HI18.out; go_simp; (first | done | exact wr64 _ (by omega) (by omega))))
  (try simp only [Act.put, sA, sB, sC])
  refine wpAnyH_take (i := 14) (oi := ?o14__14) (v := .int .i64 (z zs 17 * 256 + z zs 18)) ?h14__14 (by kernel_rfl) (by kernel_rfl) (by kernel_rfl) ?q14__14 ?y14__14 (by assumption) ?_
  case h14__14 => (first | (simp only [gA, gB, gC]; done) | (simp only [gA, gB, gC]; exact rfl))
  case q14__14 => exact fun _ _ _ h => h
  case y14__14 => (refine Or.inl ⟨rfl, ?_⟩; intro w hSw; (have q17 := HI17.out; have q18 := HI18.out; go_simp; (first | done | exact wr64 _ (by omega) (by omega))))
  (try simp only [Act.put, sA, sB, sC])
  refine wpAnyH_take (i := 15) (oi := ?o14__15) (v := .pointer (some ⟨bn5, 2, none⟩)) ?h14__15 (by kernel_rfl) (by kernel_rfl) (by kernel_rfl) ?q14__15 ?y14__15 (by assumption) ?_
  case h14__15 => (first | (simp only [gA, gB, gC]; done) | (simp only [gA, gB, gC]; exact rfl))
  case q14__15 => exact fun _ _ _ h => h
  case y14__15 => (refine Or.inl ⟨rfl, ?_⟩; intro w hSw; (go_simp; (try with_reducible rfl)))
  (try simp only [Act.put, sA, sB, sC])
  refine wpAnyH_ready (rs := [16]) (by kernel_rfl) (by simp) ?_
  refine AllReadyH.cons (o := ?o14__16) ?h14__16 (fun K hK => ?_) AllReadyH.nil
  case h14__16 => (first | (simp only [gA, gB, gC]; done) | (simp only [gA, gB, gC]; exact rfl))
  rw [if_pos (by rfl)]
  refine wp_st_cell 3 _ _ rfl #[.int .i64 (((z zs 9 * 256 + z zs 10) * 256 + z zs 11) * 256 + z zs 12), .int .i64 (((z zs 13 * 256 + z zs 14) * 256 + z zs 15) * 256 + z zs 16), .int .i64 (z zs 17 * 256 + z zs 18)] (.int .i64 (z zs 17 * 256 + z zs 18)) rfl rfl HPn5.out (by show 2 < 3; decide) rfl (by first | rfl | simp [Value.oneCell']) (by kernel_rfl) ?_
  clear HPn5
  intro w15 hw
  have HRn5 := Lib.hid (show Blk w15 bn5 44 #[.int .i64 (((z zs 9 * 256 + z zs 10) * 256 + z zs 11) * 256 + z zs 12), .int .i64 (((z zs 13 * 256 + z zs 14) * 256 + z zs 15) * 256 + z zs 16), .int .i64 (z zs 17 * 256 + z zs 18)] by obtain ⟨old, Bo, _⟩ := hHeld.2.2.2; rw [hw]; exact Blk.row Bo _)
  have hHeld3 : (fun W : World => Since w W ∧ Blk W w.heap.size 25 #[.int .i64 0, .int .i64 0, .int .i64 0, .int .i64 0, .bool false, .int .i64 0, .int .i64 0, .int .i64 0, .int .i64 0] ∧ Blk W bn4 25 #[.int .i64 (z zs 1), .int .i64 (num2 (z zs 2) (z zs 3)), .int .i64 (num2 (z zs 4) (z zs 5)), .int .i64 (num2 (z zs 6) (z zs 7)), .bool true, .int .i64 0, .int .i64 0, .int .i64 0, .int .i64 0] ∧ HasRow W bn5 44 3) w15 := ⟨by rw [hw]; exact Since.setRow hHeld.1 HGn5.out _, by rw [hw]; exact Blk.row_far (hHeld.2.1) (Ne.symm HNn5R.out) _, by rw [hw]; exact Blk.row_far (hHeld.2.2.1) (Ne.symm HNn5n4.out) _, HasRow.of HRn5.out rfl⟩
  refine hK.out _ _ hHeld3 (fun hHeld2 => ?_)
  clear hK K hHeld hHeld3 hw
  have hHeld := hHeld2
  clear hHeld2
  (try simp only [Act.put, sA, sB, sC])
  refine wpAnyH_done (by kernel_rfl) ?_ _
  have HSd14v10 := Lib.hid hHeld.1
  have HBRd14v10 := Lib.hid (hHeld.2.1)
  have HBn4d14v10 := Lib.hid (hHeld.2.2.1)
  have HBn5d14v10 := Lib.hid HRn5.out
  clear HRn5
  clear hHeld HRK HRD HSd14v9 HBRd14v9 HBn4d14v9 HBn5d14v9
  go_upto_region 13 with fail
  refine wp_region_lit ?_
  refine wpList_q (by rfl) (.int .i64 1) ?he ?_
  case he => (first | rfl | (go_simp; (try with_reducible rfl)))
  (try simp only [Act.put, sA, sB, sC])
  refine wpList_q (by rfl) (.int .i64 2) ?he ?_
  case he => (first | rfl | kernel_rfl | (go_simp; (try with_reducible rfl)))
  (try simp only [Act.put, sA, sB, sC])
  refine wpList_q (by rfl) (.int .i64 2) ?he ?_
  case he => (first | rfl | (go_simp; (try with_reducible rfl)))
  (try simp only [Act.put, sA, sB, sC])
  refine wpList_nil ?_
  go_wp2_with fail
  rw [rounds_succ]
  go_upto_region 12 with fail
  refine wp_region_lit ?_
  refine wpList_q (by rfl) (.int .i64 2) ?he ?_
  case he => (first | rfl | (go_simp; (try with_reducible rfl)))
  (try simp only [Act.put, sA, sB, sC])
  refine wpList_q (by rfl) (.bool true) ?he ?_
  case he => (go_simp; (try with_reducible rfl))
  (try simp only [Act.put, sA, sB, sC])
  refine wpList_nil ?_
  go_upto_region 14 with fail
  have hrK : ∀ W W' : World, Since W W' → (Since w W ∧ Blk W w.heap.size 25 #[.int .i64 0, .int .i64 0, .int .i64 0, .int .i64 0, .bool false, .int .i64 0, .int .i64 0, .int .i64 0, .int .i64 0] ∧ Blk W bn4 25 #[.int .i64 (z zs 1), .int .i64 (num2 (z zs 2) (z zs 3)), .int .i64 (num2 (z zs 4) (z zs 5)), .int .i64 (num2 (z zs 6) (z zs 7)), .bool true, .int .i64 0, .int .i64 0, .int .i64 0, .int .i64 0] ∧ HasRow W bn5 44 3) → (Since w W' ∧ Blk W' w.heap.size 25 #[.int .i64 0, .int .i64 0, .int .i64 0, .int .i64 0, .bool false, .int .i64 0, .int .i64 0, .int .i64 0, .int .i64 0] ∧ Blk W' bn4 25 #[.int .i64 (z zs 1), .int .i64 (num2 (z zs 2) (z zs 3)), .int .i64 (num2 (z zs 4) (z zs 5)), .int .i64 (num2 (z zs 6) (z zs 7)), .bool true, .int .i64 0, .int .i64 0, .int .i64 0, .int .i64 0] ∧ HasRow W' bn5 44 3) := fun W W' k ⟨h, h0, h1, h2⟩ => ⟨h.trans k, keep_blk k h0, keep_blk k h1, HasRow.keep k h2⟩
  have hrS : (fun W : World => Since w W ∧ Blk W w.heap.size 25 #[.int .i64 0, .int .i64 0, .int .i64 0, .int .i64 0, .bool false, .int .i64 0, .int .i64 0, .int .i64 0, .int .i64 0] ∧ Blk W bn4 25 #[.int .i64 (z zs 1), .int .i64 (num2 (z zs 2) (z zs 3)), .int .i64 (num2 (z zs 4) (z zs 5)), .int .i64 (num2 (z zs 6) (z zs 7)), .bool true, .int .i64 0, .int .i64 0, .int .i64 0, .int .i64 0] ∧ HasRow W bn5 44 3) w15 := ⟨HSd14v10.out, HBRd14v10.out, HBn4d14v10.out, HasRow.of HBn5d14v10.out rfl⟩
  have HRK := Lib.hid hrK
  have HRD := Lib.hid (show (fun W : World => Since w W ∧ Blk W w.heap.size 25 #[.int .i64 0, .int .i64 0, .int .i64 0, .int .i64 0, .bool false, .int .i64 0, .int .i64 0, .int .i64 0, .int .i64 0] ∧ Blk W bn4 25 #[.int .i64 (z zs 1), .int .i64 (num2 (z zs 2) (z zs 3)), .int .i64 (num2 (z zs 4) (z zs 5)), .int .i64 (num2 (z zs 6) (z zs 7)), .bool true, .int .i64 0, .int .i64 0, .int .i64 0, .int .i64 0] ∧ HasRow W bn5 44 3) (World.drew w15) from ⟨Since.drew hrS.1, hrS.2⟩)
  clear hrK hrS
  have HPn5 := Lib.hid (show Blk (World.drew w15) bn5 44 #[.int .i64 (((z zs 9 * 256 + z zs 10) * 256 + z zs 11) * 256 + z zs 12), .int .i64 (((z zs 13 * 256 + z zs 14) * 256 + z zs 15) * 256 + z zs 16), .int .i64 (z zs 17 * 256 + z zs 18)] from HBn5d14v10.out)
  refine wp_region_held_drew (S := fun W : World => Since w W ∧ Blk W w.heap.size 25 #[.int .i64 0, .int .i64 0, .int .i64 0, .int .i64 0, .bool false, .int .i64 0, .int .i64 0, .int .i64 0, .int .i64 0] ∧ Blk W bn4 25 #[.int .i64 (z zs 1), .int .i64 (num2 (z zs 2) (z zs 3)), .int .i64 (num2 (z zs 4) (z zs 5)), .int .i64 (num2 (z zs 6) (z zs 7)), .bool true, .int .i64 0, .int .i64 0, .int .i64 0, .int .i64 0] ∧ HasRow W bn5 44 3) (by kernel_rfl) HRD.out (fun hHeld => ?_)
  refine wpAnyH_take (i := 0) (oi := ?o14__0) (v := .int .i64 2) ?h14__0 (by kernel_rfl) (by kernel_rfl) (by kernel_rfl) ?q14__0 ?y14__0 (by assumption) ?_
  case h14__0 => (first | (simp only [gA, gB, gC]; done) | (simp only [gA, gB, gC]; exact rfl))
  case q14__0 => exact fun _ _ _ h => h
  case y14__0 => (refine Or.inl ⟨rfl, ?_⟩; intro w hSw; (first | rfl | (go_simp; (try with_reducible rfl))))
  (try simp only [Act.put, sA, sB, sC])
  refine wpAnyH_take (i := 1) (oi := ?o14__1) (v := .int .i64 2) ?h14__1 (by kernel_rfl) (by kernel_rfl) (by kernel_rfl) ?q14__1 ?y14__1 (by assumption) ?_
  case h14__1 => (first | (simp only [gA, gB, gC]; done) | (simp only [gA, gB, gC]; exact rfl))
  case q14__1 => exact fun _ _ _ h => h
  case y14__1 => (refine Or.inl ⟨rfl, ?_⟩; intro w hSw; (first | rfl | (go_simp; (try with_reducible rfl))))
  (try simp only [Act.put, sA, sB, sC])
  refine wpAnyH_take (i := 2) (oi := ?o14__2) (v := .pointer (some ⟨bn5, 2, none⟩)) ?h14__2 (by kernel_rfl) (by kernel_rfl) (by kernel_rfl) ?q14__2 ?y14__2 (by assumption) ?_
  case h14__2 => (first | (simp only [gA, gB, gC]; done) | (simp only [gA, gB, gC]; exact rfl))
  case q14__2 => exact fun _ _ _ h => h
  case y14__2 => (refine Or.inl ⟨rfl, ?_⟩; intro w hSw; (go_simp; (try with_reducible rfl)))
  (try simp only [Act.put, sA, sB, sC])
  refine wpAnyH_take (i := 5) (oi := ?o14__5) (v := .slice (some ⟨b, off, none⟩) 21 cap) ?h14__5 (by kernel_rfl) (by kernel_rfl) (by kernel_rfl) ?q14__5 ?y14__5 (by assumption) ?_
  case h14__5 => (first | (simp only [gA, gB, gC]; done) | (simp only [gA, gB, gC]; exact rfl))
  case q14__5 => exact fun _ _ _ h => h
  case y14__5 => (refine Or.inl ⟨rfl, ?_⟩; intro w hSw; (first | rfl | (go_simp; (try with_reducible rfl))))
  (try simp only [Act.put, sA, sB, sC])
  refine wpAnyH_take (i := 6) (oi := ?o14__6) (v := .int .i64 2) ?h14__6 (by kernel_rfl) (by kernel_rfl) (by kernel_rfl) ?q14__6 ?y14__6 (by assumption) ?_
  case h14__6 => (first | (simp only [gA, gB, gC]; done) | (simp only [gA, gB, gC]; exact rfl))
  case q14__6 => exact fun _ _ _ h => h
  case y14__6 => (refine Or.inl ⟨rfl, ?_⟩; intro w hSw; (first | rfl | (go_simp; (try with_reducible rfl))))
  (try simp only [Act.put, sA, sB, sC])
  refine wpAnyH_take (i := 7) (oi := ?o14__7) (v := .int .i64 8) ?h14__7 (by kernel_rfl) (by kernel_rfl) (by kernel_rfl) ?q14__7 ?y14__7 (by assumption) ?_
  case h14__7 => (first | (simp only [gA, gB, gC]; done) | (simp only [gA, gB, gC]; exact rfl))
  case q14__7 => exact fun _ _ _ h => h
  case y14__7 => (refine Or.inl ⟨rfl, ?_⟩; intro w hSw; (first | rfl | kernel_rfl | (go_simp; (try with_reducible rfl))))
  (try simp only [Act.put, sA, sB, sC])
  refine wpAnyH_take (i := 8) (oi := ?o14__8) (v := .int .i64 17) ?h14__8 (by kernel_rfl) (by kernel_rfl) (by kernel_rfl) ?q14__8 ?y14__8 (by assumption) ?_
  case h14__8 => (first | (simp only [gA, gB, gC]; done) | (simp only [gA, gB, gC]; exact rfl))
  case q14__8 => exact fun _ _ _ h => h
  case y14__8 => (refine Or.inl ⟨rfl, ?_⟩; intro w hSw; (first | rfl | kernel_rfl | (go_simp; (try with_reducible rfl))))
  (try simp only [Act.put, sA, sB, sC])
  refine wpAnyH_take (i := 9) (oi := ?o14__9) (v := .int .i64 2) ?h14__9 (by kernel_rfl) (by kernel_rfl) (by kernel_rfl) ?q14__9 ?y14__9 (by assumption) ?_
  case h14__9 => (first | (simp only [gA, gB, gC]; done) | (simp only [gA, gB, gC]; exact rfl))
  case q14__9 => exact fun _ _ _ h => h
  case y14__9 => (refine Or.inl ⟨rfl, ?_⟩; intro w hSw; (first | rfl | (go_simp; (try with_reducible rfl))))
  (try simp only [Act.put, sA, sB, sC])
  refine wpAnyH_take (i := 10) (oi := ?o14__10) (v := .int .i64 19) ?h14__10 (by kernel_rfl) (by kernel_rfl) (by kernel_rfl) ?q14__10 ?y14__10 (by assumption) ?_
  case h14__10 => (first | (simp only [gA, gB, gC]; done) | (simp only [gA, gB, gC]; exact rfl))
  case q14__10 => exact fun _ _ _ h => h
  case y14__10 => (refine Or.inl ⟨rfl, ?_⟩; intro w hSw; (first | rfl | kernel_rfl | (go_simp; (try with_reducible rfl))))
  (try simp only [Act.put, sA, sB, sC])
  refine wpAnyH_take (i := 11) (oi := ?o14__11) (v := .pointer (some ⟨b, (off + 19), none⟩)) ?h14__11 (by kernel_rfl) (by kernel_rfl) (by kernel_rfl) ?q14__11 ?y14__11 (by assumption) ?_
  case h14__11 => (first | (simp only [gA, gB, gC]; done) | (simp only [gA, gB, gC]; exact rfl))
  case q14__11 => exact fun _ _ _ h => h
  case y14__11 => (refine Or.inl ⟨rfl, ?_⟩; intro w hSw; (first | rfl | (go_simp; (try with_reducible rfl))))
  (try simp only [Act.put, sA, sB, sC])
  refine wpAnyH_take (i := 12) (oi := ?o14__12) (v := .int .u8 (z zs 19)) ?h14__12 (by kernel_rfl) (by kernel_rfl) (by kernel_rfl) ?q14__12 ?y14__12 (by assumption) ?_
  case h14__12 => (first | (simp only [gA, gB, gC]; done) | (simp only [gA, gB, gC]; exact rfl))
  case q14__12 => exact fun _ _ _ h => h
  case y14__12 => (refine Or.inl ⟨rfl, ?_⟩; intro w hSw; exact exec_at 5 _ _ (keep_cell hSw.1 (HC.out 19 (by omega))) rfl rfl Tryd.underlying5 rfl)
  (try simp only [Act.put, sA, sB, sC])
  refine wpAnyH_take (i := 13) (oi := ?o14__13) (v := .int .i64 (z zs 19)) ?h14__13 (by kernel_rfl) (by kernel_rfl) (by kernel_rfl) ?q14__13 ?y14__13 (by assumption) ?_
  case h14__13 => (first | (simp only [gA, gB, gC]; done) | (simp only [gA, gB, gC]; exact rfl))
  case q14__13 => exact fun _ _ _ h => h
  case y14__13 => (refine Or.inl ⟨rfl, ?_⟩; intro w hSw; (have q := HI19.out; go_simp; exact wr64 _ (by omega) (by omega)))
  (try simp only [Act.put, sA, sB, sC])
  refine wpAnyH_ready (rs := [3]) (by kernel_rfl) (by simp) ?_
  refine AllReadyH.cons (o := ?o14__3) ?h14__3 (fun K hK => ?_) AllReadyH.nil
  case h14__3 => (first | (simp only [gA, gB, gC]; done) | (simp only [gA, gB, gC]; exact rfl))
  rw [if_pos (by rfl)]
  refine wp_q (.int .i64 (z zs 17 * 256 + z zs 18)) ?e14__3 ?_
  case e14__3 => exact exec_cell 3 _ _ HPn5.out rfl rfl rfl Tryd.underlying3 rfl
  refine hK.out _ _ hHeld (fun hHeld2 => ?_)
  clear hK K hHeld2
  (try simp only [Act.put, sA, sB, sC])
  refine wpAnyH_take (i := 4) (oi := ?o14__4) (v := .int .i64 ((z zs 17 * 256 + z zs 18) * 256)) ?h14__4 (by kernel_rfl) (by kernel_rfl) (by kernel_rfl) ?q14__4 ?y14__4 (by assumption) ?_
  case h14__4 => (first | (simp only [gA, gB, gC]; done) | (simp only [gA, gB, gC]; exact rfl))
  case q14__4 => exact fun _ _ _ h => h
  case y14__4 => (refine Or.inl ⟨rfl, ?_⟩; intro w hSw; (have q17 := HI17.out; have q18 := HI18.out; have q19 := HI19.out; go_simp; (first | done | exact wr64 _ (by omega) (by omega))))
  (try simp only [Act.put, sA, sB, sC])
  refine wpAnyH_take (i := 14) (oi := ?o14__14) (v := .int .i64 ((z zs 17 * 256 + z zs 18) * 256 + z zs 19)) ?h14__14 (by kernel_rfl) (by kernel_rfl) (by kernel_rfl) ?q14__14 ?y14__14 (by assumption) ?_
  case h14__14 => (first | (simp only [gA, gB, gC]; done) | (simp only [gA, gB, gC]; exact rfl))
  case q14__14 => exact fun _ _ _ h => h
  case y14__14 => (refine Or.inl ⟨rfl, ?_⟩; intro w hSw; (have q17 := HI17.out; have q18 := HI18.out; have q19 := HI19.out; go_simp; (first | done | exact wr64 _ (by omega) (by omega))))
  (try simp only [Act.put, sA, sB, sC])
  refine wpAnyH_take (i := 15) (oi := ?o14__15) (v := .pointer (some ⟨bn5, 2, none⟩)) ?h14__15 (by kernel_rfl) (by kernel_rfl) (by kernel_rfl) ?q14__15 ?y14__15 (by assumption) ?_
  case h14__15 => (first | (simp only [gA, gB, gC]; done) | (simp only [gA, gB, gC]; exact rfl))
  case q14__15 => exact fun _ _ _ h => h
  case y14__15 => (refine Or.inl ⟨rfl, ?_⟩; intro w hSw; (go_simp; (try with_reducible rfl)))
  (try simp only [Act.put, sA, sB, sC])
  refine wpAnyH_ready (rs := [16]) (by kernel_rfl) (by simp) ?_
  refine AllReadyH.cons (o := ?o14__16) ?h14__16 (fun K hK => ?_) AllReadyH.nil
  case h14__16 => (first | (simp only [gA, gB, gC]; done) | (simp only [gA, gB, gC]; exact rfl))
  rw [if_pos (by rfl)]
  refine wp_st_cell 3 _ _ rfl #[.int .i64 (((z zs 9 * 256 + z zs 10) * 256 + z zs 11) * 256 + z zs 12), .int .i64 (((z zs 13 * 256 + z zs 14) * 256 + z zs 15) * 256 + z zs 16), .int .i64 ((z zs 17 * 256 + z zs 18) * 256 + z zs 19)] (.int .i64 ((z zs 17 * 256 + z zs 18) * 256 + z zs 19)) rfl rfl HPn5.out (by show 2 < 3; decide) rfl (by first | rfl | simp [Value.oneCell']) (by kernel_rfl) ?_
  clear HPn5
  intro w16 hw
  have HRn5 := Lib.hid (show Blk w16 bn5 44 #[.int .i64 (((z zs 9 * 256 + z zs 10) * 256 + z zs 11) * 256 + z zs 12), .int .i64 (((z zs 13 * 256 + z zs 14) * 256 + z zs 15) * 256 + z zs 16), .int .i64 ((z zs 17 * 256 + z zs 18) * 256 + z zs 19)] by obtain ⟨old, Bo, _⟩ := hHeld.2.2.2; rw [hw]; exact Blk.row Bo _)
  have hHeld3 : (fun W : World => Since w W ∧ Blk W w.heap.size 25 #[.int .i64 0, .int .i64 0, .int .i64 0, .int .i64 0, .bool false, .int .i64 0, .int .i64 0, .int .i64 0, .int .i64 0] ∧ Blk W bn4 25 #[.int .i64 (z zs 1), .int .i64 (num2 (z zs 2) (z zs 3)), .int .i64 (num2 (z zs 4) (z zs 5)), .int .i64 (num2 (z zs 6) (z zs 7)), .bool true, .int .i64 0, .int .i64 0, .int .i64 0, .int .i64 0] ∧ HasRow W bn5 44 3) w16 := ⟨by rw [hw]; exact Since.setRow hHeld.1 HGn5.out _, by rw [hw]; exact Blk.row_far (hHeld.2.1) (Ne.symm HNn5R.out) _, by rw [hw]; exact Blk.row_far (hHeld.2.2.1) (Ne.symm HNn5n4.out) _, HasRow.of HRn5.out rfl⟩
  refine hK.out _ _ hHeld3 (fun hHeld2 => ?_)
  clear hK K hHeld hHeld3 hw
  have hHeld := hHeld2
  clear hHeld2
  (try simp only [Act.put, sA, sB, sC])
  refine wpAnyH_done (by kernel_rfl) ?_ _
  have HSd14v11 := Lib.hid hHeld.1
  have HBRd14v11 := Lib.hid (hHeld.2.1)
  have HBn4d14v11 := Lib.hid (hHeld.2.2.1)
  have HBn5d14v11 := Lib.hid HRn5.out
  clear HRn5
  clear hHeld HRK HRD HSd14v10 HBRd14v10 HBn4d14v10 HBn5d14v10
  go_upto_region 13 with fail
  refine wp_region_lit ?_
  refine wpList_q (by rfl) (.int .i64 2) ?he ?_
  case he => (first | rfl | (go_simp; (try with_reducible rfl)))
  (try simp only [Act.put, sA, sB, sC])
  refine wpList_q (by rfl) (.int .i64 3) ?he ?_
  case he => (first | rfl | kernel_rfl | (go_simp; (try with_reducible rfl)))
  (try simp only [Act.put, sA, sB, sC])
  refine wpList_q (by rfl) (.int .i64 3) ?he ?_
  case he => (first | rfl | (go_simp; (try with_reducible rfl)))
  (try simp only [Act.put, sA, sB, sC])
  refine wpList_nil ?_
  go_wp2_with fail
  rw [rounds_succ]
  go_upto_region 12 with fail
  refine wp_region_lit ?_
  refine wpList_q (by rfl) (.int .i64 3) ?he ?_
  case he => (first | rfl | (go_simp; (try with_reducible rfl)))
  (try simp only [Act.put, sA, sB, sC])
  refine wpList_q (by rfl) (.bool true) ?he ?_
  case he => (go_simp; (try with_reducible rfl))
  (try simp only [Act.put, sA, sB, sC])
  refine wpList_nil ?_
  go_upto_region 14 with fail
  have hrK : ∀ W W' : World, Since W W' → (Since w W ∧ Blk W w.heap.size 25 #[.int .i64 0, .int .i64 0, .int .i64 0, .int .i64 0, .bool false, .int .i64 0, .int .i64 0, .int .i64 0, .int .i64 0] ∧ Blk W bn4 25 #[.int .i64 (z zs 1), .int .i64 (num2 (z zs 2) (z zs 3)), .int .i64 (num2 (z zs 4) (z zs 5)), .int .i64 (num2 (z zs 6) (z zs 7)), .bool true, .int .i64 0, .int .i64 0, .int .i64 0, .int .i64 0] ∧ HasRow W bn5 44 3) → (Since w W' ∧ Blk W' w.heap.size 25 #[.int .i64 0, .int .i64 0, .int .i64 0, .int .i64 0, .bool false, .int .i64 0, .int .i64 0, .int .i64 0, .int .i64 0] ∧ Blk W' bn4 25 #[.int .i64 (z zs 1), .int .i64 (num2 (z zs 2) (z zs 3)), .int .i64 (num2 (z zs 4) (z zs 5)), .int .i64 (num2 (z zs 6) (z zs 7)), .bool true, .int .i64 0, .int .i64 0, .int .i64 0, .int .i64 0] ∧ HasRow W' bn5 44 3) := fun W W' k ⟨h, h0, h1, h2⟩ => ⟨h.trans k, keep_blk k h0, keep_blk k h1, HasRow.keep k h2⟩
  have hrS : (fun W : World => Since w W ∧ Blk W w.heap.size 25 #[.int .i64 0, .int .i64 0, .int .i64 0, .int .i64 0, .bool false, .int .i64 0, .int .i64 0, .int .i64 0, .int .i64 0] ∧ Blk W bn4 25 #[.int .i64 (z zs 1), .int .i64 (num2 (z zs 2) (z zs 3)), .int .i64 (num2 (z zs 4) (z zs 5)), .int .i64 (num2 (z zs 6) (z zs 7)), .bool true, .int .i64 0, .int .i64 0, .int .i64 0, .int .i64 0] ∧ HasRow W bn5 44 3) w16 := ⟨HSd14v11.out, HBRd14v11.out, HBn4d14v11.out, HasRow.of HBn5d14v11.out rfl⟩
  have HRK := Lib.hid hrK
  have HRD := Lib.hid (show (fun W : World => Since w W ∧ Blk W w.heap.size 25 #[.int .i64 0, .int .i64 0, .int .i64 0, .int .i64 0, .bool false, .int .i64 0, .int .i64 0, .int .i64 0, .int .i64 0] ∧ Blk W bn4 25 #[.int .i64 (z zs 1), .int .i64 (num2 (z zs 2) (z zs 3)), .int .i64 (num2 (z zs 4) (z zs 5)), .int .i64 (num2 (z zs 6) (z zs 7)), .bool true, .int .i64 0, .int .i64 0, .int .i64 0, .int .i64 0] ∧ HasRow W bn5 44 3) (World.drew w16) from ⟨Since.drew hrS.1, hrS.2⟩)
  clear hrK hrS
  have HPn5 := Lib.hid (show Blk (World.drew w16) bn5 44 #[.int .i64 (((z zs 9 * 256 + z zs 10) * 256 + z zs 11) * 256 + z zs 12), .int .i64 (((z zs 13 * 256 + z zs 14) * 256 + z zs 15) * 256 + z zs 16), .int .i64 ((z zs 17 * 256 + z zs 18) * 256 + z zs 19)] from HBn5d14v11.out)
  refine wp_region_held_drew (S := fun W : World => Since w W ∧ Blk W w.heap.size 25 #[.int .i64 0, .int .i64 0, .int .i64 0, .int .i64 0, .bool false, .int .i64 0, .int .i64 0, .int .i64 0, .int .i64 0] ∧ Blk W bn4 25 #[.int .i64 (z zs 1), .int .i64 (num2 (z zs 2) (z zs 3)), .int .i64 (num2 (z zs 4) (z zs 5)), .int .i64 (num2 (z zs 6) (z zs 7)), .bool true, .int .i64 0, .int .i64 0, .int .i64 0, .int .i64 0] ∧ HasRow W bn5 44 3) (by kernel_rfl) HRD.out (fun hHeld => ?_)
  refine wpAnyH_take (i := 0) (oi := ?o14__0) (v := .int .i64 2) ?h14__0 (by kernel_rfl) (by kernel_rfl) (by kernel_rfl) ?q14__0 ?y14__0 (by assumption) ?_
  case h14__0 => (first | (simp only [gA, gB, gC]; done) | (simp only [gA, gB, gC]; exact rfl))
  case q14__0 => exact fun _ _ _ h => h
  case y14__0 => (refine Or.inl ⟨rfl, ?_⟩; intro w hSw; (first | rfl | (go_simp; (try with_reducible rfl))))
  (try simp only [Act.put, sA, sB, sC])
  refine wpAnyH_take (i := 1) (oi := ?o14__1) (v := .int .i64 2) ?h14__1 (by kernel_rfl) (by kernel_rfl) (by kernel_rfl) ?q14__1 ?y14__1 (by assumption) ?_
  case h14__1 => (first | (simp only [gA, gB, gC]; done) | (simp only [gA, gB, gC]; exact rfl))
  case q14__1 => exact fun _ _ _ h => h
  case y14__1 => (refine Or.inl ⟨rfl, ?_⟩; intro w hSw; (first | rfl | (go_simp; (try with_reducible rfl))))
  (try simp only [Act.put, sA, sB, sC])
  refine wpAnyH_take (i := 2) (oi := ?o14__2) (v := .pointer (some ⟨bn5, 2, none⟩)) ?h14__2 (by kernel_rfl) (by kernel_rfl) (by kernel_rfl) ?q14__2 ?y14__2 (by assumption) ?_
  case h14__2 => (first | (simp only [gA, gB, gC]; done) | (simp only [gA, gB, gC]; exact rfl))
  case q14__2 => exact fun _ _ _ h => h
  case y14__2 => (refine Or.inl ⟨rfl, ?_⟩; intro w hSw; (go_simp; (try with_reducible rfl)))
  (try simp only [Act.put, sA, sB, sC])
  refine wpAnyH_take (i := 5) (oi := ?o14__5) (v := .slice (some ⟨b, off, none⟩) 21 cap) ?h14__5 (by kernel_rfl) (by kernel_rfl) (by kernel_rfl) ?q14__5 ?y14__5 (by assumption) ?_
  case h14__5 => (first | (simp only [gA, gB, gC]; done) | (simp only [gA, gB, gC]; exact rfl))
  case q14__5 => exact fun _ _ _ h => h
  case y14__5 => (refine Or.inl ⟨rfl, ?_⟩; intro w hSw; (first | rfl | (go_simp; (try with_reducible rfl))))
  (try simp only [Act.put, sA, sB, sC])
  refine wpAnyH_take (i := 6) (oi := ?o14__6) (v := .int .i64 2) ?h14__6 (by kernel_rfl) (by kernel_rfl) (by kernel_rfl) ?q14__6 ?y14__6 (by assumption) ?_
  case h14__6 => (first | (simp only [gA, gB, gC]; done) | (simp only [gA, gB, gC]; exact rfl))
  case q14__6 => exact fun _ _ _ h => h
  case y14__6 => (refine Or.inl ⟨rfl, ?_⟩; intro w hSw; (first | rfl | (go_simp; (try with_reducible rfl))))
  (try simp only [Act.put, sA, sB, sC])
  refine wpAnyH_take (i := 7) (oi := ?o14__7) (v := .int .i64 8) ?h14__7 (by kernel_rfl) (by kernel_rfl) (by kernel_rfl) ?q14__7 ?y14__7 (by assumption) ?_
  case h14__7 => (first | (simp only [gA, gB, gC]; done) | (simp only [gA, gB, gC]; exact rfl))
  case q14__7 => exact fun _ _ _ h => h
  case y14__7 => (refine Or.inl ⟨rfl, ?_⟩; intro w hSw; (first | rfl | kernel_rfl | (go_simp; (try with_reducible rfl))))
  (try simp only [Act.put, sA, sB, sC])
  refine wpAnyH_take (i := 8) (oi := ?o14__8) (v := .int .i64 17) ?h14__8 (by kernel_rfl) (by kernel_rfl) (by kernel_rfl) ?q14__8 ?y14__8 (by assumption) ?_
  case h14__8 => (first | (simp only [gA, gB, gC]; done) | (simp only [gA, gB, gC]; exact rfl))
  case q14__8 => exact fun _ _ _ h => h
  case y14__8 => (refine Or.inl ⟨rfl, ?_⟩; intro w hSw; (first | rfl | kernel_rfl | (go_simp; (try with_reducible rfl))))
  (try simp only [Act.put, sA, sB, sC])
  refine wpAnyH_take (i := 9) (oi := ?o14__9) (v := .int .i64 3) ?h14__9 (by kernel_rfl) (by kernel_rfl) (by kernel_rfl) ?q14__9 ?y14__9 (by assumption) ?_
  case h14__9 => (first | (simp only [gA, gB, gC]; done) | (simp only [gA, gB, gC]; exact rfl))
  case q14__9 => exact fun _ _ _ h => h
  case y14__9 => (refine Or.inl ⟨rfl, ?_⟩; intro w hSw; (first | rfl | (go_simp; (try with_reducible rfl))))
  (try simp only [Act.put, sA, sB, sC])
  refine wpAnyH_take (i := 10) (oi := ?o14__10) (v := .int .i64 20) ?h14__10 (by kernel_rfl) (by kernel_rfl) (by kernel_rfl) ?q14__10 ?y14__10 (by assumption) ?_
  case h14__10 => (first | (simp only [gA, gB, gC]; done) | (simp only [gA, gB, gC]; exact rfl))
  case q14__10 => exact fun _ _ _ h => h
  case y14__10 => (refine Or.inl ⟨rfl, ?_⟩; intro w hSw; (first | rfl | kernel_rfl | (go_simp; (try with_reducible rfl))))
  (try simp only [Act.put, sA, sB, sC])
  refine wpAnyH_take (i := 11) (oi := ?o14__11) (v := .pointer (some ⟨b, (off + 20), none⟩)) ?h14__11 (by kernel_rfl) (by kernel_rfl) (by kernel_rfl) ?q14__11 ?y14__11 (by assumption) ?_
  case h14__11 => (first | (simp only [gA, gB, gC]; done) | (simp only [gA, gB, gC]; exact rfl))
  case q14__11 => exact fun _ _ _ h => h
  case y14__11 => (refine Or.inl ⟨rfl, ?_⟩; intro w hSw; (first | rfl | (go_simp; (try with_reducible rfl))))
  (try simp only [Act.put, sA, sB, sC])
  refine wpAnyH_take (i := 12) (oi := ?o14__12) (v := .int .u8 (z zs 20)) ?h14__12 (by kernel_rfl) (by kernel_rfl) (by kernel_rfl) ?q14__12 ?y14__12 (by assumption) ?_
  case h14__12 => (first | (simp only [gA, gB, gC]; done) | (simp only [gA, gB, gC]; exact rfl))
  case q14__12 => exact fun _ _ _ h => h
  case y14__12 => (refine Or.inl ⟨rfl, ?_⟩; intro w hSw; exact exec_at 5 _ _ (keep_cell hSw.1 (HC.out 20 (by omega))) rfl rfl Tryd.underlying5 rfl)
  (try simp only [Act.put, sA, sB, sC])
  refine wpAnyH_take (i := 13) (oi := ?o14__13) (v := .int .i64 (z zs 20)) ?h14__13 (by kernel_rfl) (by kernel_rfl) (by kernel_rfl) ?q14__13 ?y14__13 (by assumption) ?_
  case h14__13 => (first | (simp only [gA, gB, gC]; done) | (simp only [gA, gB, gC]; exact rfl))
  case q14__13 => exact fun _ _ _ h => h
  case y14__13 => (refine Or.inl ⟨rfl, ?_⟩; intro w hSw; (have q := HI20.out; go_simp; exact wr64 _ (by omega) (by omega)))
  (try simp only [Act.put, sA, sB, sC])
  refine wpAnyH_ready (rs := [3]) (by kernel_rfl) (by simp) ?_
  refine AllReadyH.cons (o := ?o14__3) ?h14__3 (fun K hK => ?_) AllReadyH.nil
  case h14__3 => (first | (simp only [gA, gB, gC]; done) | (simp only [gA, gB, gC]; exact rfl))
  rw [if_pos (by rfl)]
  refine wp_q (.int .i64 ((z zs 17 * 256 + z zs 18) * 256 + z zs 19)) ?e14__3 ?_
  case e14__3 => exact exec_cell 3 _ _ HPn5.out rfl rfl rfl Tryd.underlying3 rfl
  refine hK.out _ _ hHeld (fun hHeld2 => ?_)
  clear hK K hHeld2
  (try simp only [Act.put, sA, sB, sC])
  refine wpAnyH_take (i := 4) (oi := ?o14__4) (v := .int .i64 (((z zs 17 * 256 + z zs 18) * 256 + z zs 19) * 256)) ?h14__4 (by kernel_rfl) (by kernel_rfl) (by kernel_rfl) ?q14__4 ?y14__4 (by assumption) ?_
  case h14__4 => (first | (simp only [gA, gB, gC]; done) | (simp only [gA, gB, gC]; exact rfl))
  case q14__4 => exact fun _ _ _ h => h
  case y14__4 => (refine Or.inl ⟨rfl, ?_⟩; intro w hSw; (have q17 := HI17.out; have q18 := HI18.out; have q19 := HI19.out; have q20 := HI20.out; go_simp; (first | done | exact wr64 _ (by omega) (by omega))))
  (try simp only [Act.put, sA, sB, sC])
  refine wpAnyH_take (i := 14) (oi := ?o14__14) (v := .int .i64 (((z zs 17 * 256 + z zs 18) * 256 + z zs 19) * 256 + z zs 20)) ?h14__14 (by kernel_rfl) (by kernel_rfl) (by kernel_rfl) ?q14__14 ?y14__14 (by assumption) ?_
  case h14__14 => (first | (simp only [gA, gB, gC]; done) | (simp only [gA, gB, gC]; exact rfl))
  case q14__14 => exact fun _ _ _ h => h
  case y14__14 => (refine Or.inl ⟨rfl, ?_⟩; intro w hSw; (have q17 := HI17.out; have q18 := HI18.out; have q19 := HI19.out; have q20 := HI20.out; go_simp; (first | done | exact wr64 _ (by omega) (by omega))))
  (try simp only [Act.put, sA, sB, sC])
  refine wpAnyH_take (i := 15) (oi := ?o14__15) (v := .pointer (some ⟨bn5, 2, none⟩)) ?h14__15 (by kernel_rfl) (by kernel_rfl) (by kernel_rfl) ?q14__15 ?y14__15 (by assumption) ?_
  case h14__15 => (first | (simp only [gA, gB, gC]; done) | (simp only [gA, gB, gC]; exact rfl))
  case q14__15 => exact fun _ _ _ h => h
  case y14__15 => (refine Or.inl ⟨rfl, ?_⟩; intro w hSw; (go_simp; (try with_reducible rfl)))
  (try simp only [Act.put, sA, sB, sC])
  refine wpAnyH_ready (rs := [16]) (by kernel_rfl) (by simp) ?_
  refine AllReadyH.cons (o := ?o14__16) ?h14__16 (fun K hK => ?_) AllReadyH.nil
  case h14__16 => (first | (simp only [gA, gB, gC]; done) | (simp only [gA, gB, gC]; exact rfl))
  rw [if_pos (by rfl)]
  refine wp_st_cell 3 _ _ rfl #[.int .i64 (((z zs 9 * 256 + z zs 10) * 256 + z zs 11) * 256 + z zs 12), .int .i64 (((z zs 13 * 256 + z zs 14) * 256 + z zs 15) * 256 + z zs 16), .int .i64 (((z zs 17 * 256 + z zs 18) * 256 + z zs 19) * 256 + z zs 20)] (.int .i64 (((z zs 17 * 256 + z zs 18) * 256 + z zs 19) * 256 + z zs 20)) rfl rfl HPn5.out (by show 2 < 3; decide) rfl (by first | rfl | simp [Value.oneCell']) (by kernel_rfl) ?_
  clear HPn5
  intro w17 hw
  have HRn5 := Lib.hid (show Blk w17 bn5 44 #[.int .i64 (((z zs 9 * 256 + z zs 10) * 256 + z zs 11) * 256 + z zs 12), .int .i64 (((z zs 13 * 256 + z zs 14) * 256 + z zs 15) * 256 + z zs 16), .int .i64 (((z zs 17 * 256 + z zs 18) * 256 + z zs 19) * 256 + z zs 20)] by obtain ⟨old, Bo, _⟩ := hHeld.2.2.2; rw [hw]; exact Blk.row Bo _)
  have hHeld3 : (fun W : World => Since w W ∧ Blk W w.heap.size 25 #[.int .i64 0, .int .i64 0, .int .i64 0, .int .i64 0, .bool false, .int .i64 0, .int .i64 0, .int .i64 0, .int .i64 0] ∧ Blk W bn4 25 #[.int .i64 (z zs 1), .int .i64 (num2 (z zs 2) (z zs 3)), .int .i64 (num2 (z zs 4) (z zs 5)), .int .i64 (num2 (z zs 6) (z zs 7)), .bool true, .int .i64 0, .int .i64 0, .int .i64 0, .int .i64 0] ∧ HasRow W bn5 44 3) w17 := ⟨by rw [hw]; exact Since.setRow hHeld.1 HGn5.out _, by rw [hw]; exact Blk.row_far (hHeld.2.1) (Ne.symm HNn5R.out) _, by rw [hw]; exact Blk.row_far (hHeld.2.2.1) (Ne.symm HNn5n4.out) _, HasRow.of HRn5.out rfl⟩
  refine hK.out _ _ hHeld3 (fun hHeld2 => ?_)
  clear hK K hHeld hHeld3 hw
  have hHeld := hHeld2
  clear hHeld2
  (try simp only [Act.put, sA, sB, sC])
  refine wpAnyH_done (by kernel_rfl) ?_ _
  have HSd14v12 := Lib.hid hHeld.1
  have HBRd14v12 := Lib.hid (hHeld.2.1)
  have HBn4d14v12 := Lib.hid (hHeld.2.2.1)
  have HBn5d14v12 := Lib.hid HRn5.out
  clear HRn5
  clear hHeld HRK HRD HSd14v11 HBRd14v11 HBn4d14v11 HBn5d14v11
  go_upto_region 13 with fail
  refine wp_region_lit ?_
  refine wpList_q (by rfl) (.int .i64 3) ?he ?_
  case he => (first | rfl | (go_simp; (try with_reducible rfl)))
  (try simp only [Act.put, sA, sB, sC])
  refine wpList_q (by rfl) (.int .i64 4) ?he ?_
  case he => (first | rfl | kernel_rfl | (go_simp; (try with_reducible rfl)))
  (try simp only [Act.put, sA, sB, sC])
  refine wpList_q (by rfl) (.int .i64 4) ?he ?_
  case he => (first | rfl | (go_simp; (try with_reducible rfl)))
  (try simp only [Act.put, sA, sB, sC])
  refine wpList_nil ?_
  go_wp2_with fail
  rw [rounds_succ]
  go_upto_region 12 with fail
  refine wp_region_lit ?_
  refine wpList_q (by rfl) (.int .i64 4) ?he ?_
  case he => (first | rfl | (go_simp; (try with_reducible rfl)))
  (try simp only [Act.put, sA, sB, sC])
  refine wpList_q (by rfl) (.bool false) ?he ?_
  case he => (go_simp; (try with_reducible rfl))
  (try simp only [Act.put, sA, sB, sC])
  refine wpList_nil ?_
  go_upto_region 10 with fail
  refine wp_region_lit ?_
  refine wpList_q (by rfl) (.int .i64 2) ?he ?_
  case he => (first | rfl | (go_simp; (try with_reducible rfl)))
  (try simp only [Act.put, sA, sB, sC])
  refine wpList_q (by rfl) (.int .i64 3) ?he ?_
  case he => (first | rfl | kernel_rfl | (go_simp; (try with_reducible rfl)))
  (try simp only [Act.put, sA, sB, sC])
  refine wpList_q (by rfl) (.int .i64 3) ?he ?_
  case he => (first | rfl | (go_simp; (try with_reducible rfl)))
  (try simp only [Act.put, sA, sB, sC])
  refine wpList_nil ?_
  go_wp2_with fail
  rw [rounds_succ]
  go_upto_region 9 with fail
  refine wp_region_lit ?_
  refine wpList_q (by rfl) (.int .i64 3) ?he ?_
  case he => (first | rfl | (go_simp; (try with_reducible rfl)))
  (try simp only [Act.put, sA, sB, sC])
  refine wpList_q (by rfl) (.bool false) ?he ?_
  case he => (go_simp; (try with_reducible rfl))
  (try simp only [Act.put, sA, sB, sC])
  refine wpList_nil ?_
  go_upto_region 15 with fail
  have hrK : ∀ W W' : World, Since W W' → (Since w W ∧ Blk W w.heap.size 25 #[.int .i64 0, .int .i64 0, .int .i64 0, .int .i64 0, .bool false, .int .i64 0, .int .i64 0, .int .i64 0, .int .i64 0] ∧ HasRow W bn4 25 9 ∧ Blk W bn5 44 #[.int .i64 (((z zs 9 * 256 + z zs 10) * 256 + z zs 11) * 256 + z zs 12), .int .i64 (((z zs 13 * 256 + z zs 14) * 256 + z zs 15) * 256 + z zs 16), .int .i64 (((z zs 17 * 256 + z zs 18) * 256 + z zs 19) * 256 + z zs 20)]) → (Since w W' ∧ Blk W' w.heap.size 25 #[.int .i64 0, .int .i64 0, .int .i64 0, .int .i64 0, .bool false, .int .i64 0, .int .i64 0, .int .i64 0, .int .i64 0] ∧ HasRow W' bn4 25 9 ∧ Blk W' bn5 44 #[.int .i64 (((z zs 9 * 256 + z zs 10) * 256 + z zs 11) * 256 + z zs 12), .int .i64 (((z zs 13 * 256 + z zs 14) * 256 + z zs 15) * 256 + z zs 16), .int .i64 (((z zs 17 * 256 + z zs 18) * 256 + z zs 19) * 256 + z zs 20)]) := fun W W' k ⟨h, h0, h1, h2⟩ => ⟨h.trans k, keep_blk k h0, HasRow.keep k h1, keep_blk k h2⟩
  have hrS : (fun W : World => Since w W ∧ Blk W w.heap.size 25 #[.int .i64 0, .int .i64 0, .int .i64 0, .int .i64 0, .bool false, .int .i64 0, .int .i64 0, .int .i64 0, .int .i64 0] ∧ HasRow W bn4 25 9 ∧ Blk W bn5 44 #[.int .i64 (((z zs 9 * 256 + z zs 10) * 256 + z zs 11) * 256 + z zs 12), .int .i64 (((z zs 13 * 256 + z zs 14) * 256 + z zs 15) * 256 + z zs 16), .int .i64 (((z zs 17 * 256 + z zs 18) * 256 + z zs 19) * 256 + z zs 20)]) w17 := ⟨HSd14v12.out, HBRd14v12.out, HasRow.of HBn4d14v12.out rfl, HBn5d14v12.out⟩
  have HRK := Lib.hid hrK
  have HRD := Lib.hid (show (fun W : World => Since w W ∧ Blk W w.heap.size 25 #[.int .i64 0, .int .i64 0, .int .i64 0, .int .i64 0, .bool false, .int .i64 0, .int .i64 0, .int .i64 0, .int .i64 0] ∧ HasRow W bn4 25 9 ∧ Blk W bn5 44 #[.int .i64 (((z zs 9 * 256 + z zs 10) * 256 + z zs 11) * 256 + z zs 12), .int .i64 (((z zs 13 * 256 + z zs 14) * 256 + z zs 15) * 256 + z zs 16), .int .i64 (((z zs 17 * 256 + z zs 18) * 256 + z zs 19) * 256 + z zs 20)]) (World.drew w17) from ⟨Since.drew hrS.1, hrS.2⟩)
  clear hrK hrS
  have HPn4 := Lib.hid (show Blk (World.drew w17) bn4 25 #[.int .i64 (z zs 1), .int .i64 (num2 (z zs 2) (z zs 3)), .int .i64 (num2 (z zs 4) (z zs 5)), .int .i64 (num2 (z zs 6) (z zs 7)), .bool true, .int .i64 0, .int .i64 0, .int .i64 0, .int .i64 0] from HBn4d14v12.out)
  refine wp_region_held_drew (S := fun W : World => Since w W ∧ Blk W w.heap.size 25 #[.int .i64 0, .int .i64 0, .int .i64 0, .int .i64 0, .bool false, .int .i64 0, .int .i64 0, .int .i64 0, .int .i64 0] ∧ HasRow W bn4 25 9 ∧ Blk W bn5 44 #[.int .i64 (((z zs 9 * 256 + z zs 10) * 256 + z zs 11) * 256 + z zs 12), .int .i64 (((z zs 13 * 256 + z zs 14) * 256 + z zs 15) * 256 + z zs 16), .int .i64 (((z zs 17 * 256 + z zs 18) * 256 + z zs 19) * 256 + z zs 20)]) (by kernel_rfl) HRD.out (fun hHeld => ?_)
  refine wpAnyH_take (i := 0) (oi := ?o15__0) (v := .slice (some ⟨b, off, none⟩) 21 cap) ?h15__0 (by kernel_rfl) (by kernel_rfl) (by kernel_rfl) ?q15__0 ?y15__0 (by assumption) ?_
  case h15__0 => (first | (simp only [gA, gB, gC]; done) | (simp only [gA, gB, gC]; exact rfl))
  case q15__0 => exact fun _ _ _ h => h
  case y15__0 => (refine Or.inl ⟨rfl, ?_⟩; intro w hSw; (first | rfl | (go_simp; (try with_reducible rfl))))
  (try simp only [Act.put, sA, sB, sC])
  refine wpAnyH_take (i := 1) (oi := ?o15__1) (v := .pointer (some ⟨b, (off + 8), none⟩)) ?h15__1 (by kernel_rfl) (by kernel_rfl) (by kernel_rfl) ?q15__1 ?y15__1 (by assumption) ?_
  case h15__1 => (first | (simp only [gA, gB, gC]; done) | (simp only [gA, gB, gC]; exact rfl))
  case q15__1 => exact fun _ _ _ h => h
  case y15__1 => (refine Or.inl ⟨rfl, ?_⟩; intro w hSw; (first | rfl | (go_simp; (try with_reducible rfl))))
  (try simp only [Act.put, sA, sB, sC])
  refine wpAnyH_take (i := 2) (oi := ?o15__2) (v := .int .u8 (z zs 8)) ?h15__2 (by kernel_rfl) (by kernel_rfl) (by kernel_rfl) ?q15__2 ?y15__2 (by assumption) ?_
  case h15__2 => (first | (simp only [gA, gB, gC]; done) | (simp only [gA, gB, gC]; exact rfl))
  case q15__2 => exact fun _ _ _ h => h
  case y15__2 => (refine Or.inl ⟨rfl, ?_⟩; intro w hSw; exact exec_at 5 _ _ (keep_cell hSw.1 (HC.out 8 (by omega))) rfl rfl Tryd.underlying5 rfl)
  (try simp only [Act.put, sA, sB, sC])
  refine wpAnyH_take (i := 3) (oi := ?o15__3) (v := .int .i64 (z zs 8)) ?h15__3 (by kernel_rfl) (by kernel_rfl) (by kernel_rfl) ?q15__3 ?y15__3 (by assumption) ?_
  case h15__3 => (first | (simp only [gA, gB, gC]; done) | (simp only [gA, gB, gC]; exact rfl))
  case q15__3 => exact fun _ _ _ h => h
  case y15__3 => (refine Or.inl ⟨rfl, ?_⟩; intro w hSw; (have q := HI8.out; go_simp; exact wr64 _ (by omega) (by omega)))
  (try simp only [Act.put, sA, sB, sC])
  refine wpAnyH_take (i := 4) (oi := ?o15__4) (v := .pointer (some ⟨bn5, 0, none⟩)) ?h15__4 (by kernel_rfl) (by kernel_rfl) (by kernel_rfl) ?q15__4 ?y15__4 (by assumption) ?_
  case h15__4 => (first | (simp only [gA, gB, gC]; done) | (simp only [gA, gB, gC]; exact rfl))
  case q15__4 => exact fun _ _ _ h => h
  case y15__4 => (refine Or.inl ⟨rfl, ?_⟩; intro w hSw; (go_simp; (try with_reducible rfl)))
  (try simp only [Act.put, sA, sB, sC])
  refine wpAnyH_take (i := 5) (oi := ?o15__5) (v := .int .i64 (((z zs 9 * 256 + z zs 10) * 256 + z zs 11) * 256 + z zs 12)) ?h15__5 (by kernel_rfl) (by kernel_rfl) (by kernel_rfl) ?q15__5 ?y15__5 (by assumption) ?_
  case h15__5 => (first | (simp only [gA, gB, gC]; done) | (simp only [gA, gB, gC]; exact rfl))
  case q15__5 => exact fun _ _ _ h => h
  case y15__5 => (refine Or.inl ⟨rfl, ?_⟩; intro w hSw; exact exec_cell 3 _ _ hSw.2.2.2 rfl rfl rfl Tryd.underlying3 rfl)
  (try simp only [Act.put, sA, sB, sC])
  refine wpAnyH_take (i := 6) (oi := ?o15__6) (v := .pointer (some ⟨bn5, 1, none⟩)) ?h15__6 (by kernel_rfl) (by kernel_rfl) (by kernel_rfl) ?q15__6 ?y15__6 (by assumption) ?_
  case h15__6 => (first | (simp only [gA, gB, gC]; done) | (simp only [gA, gB, gC]; exact rfl))
  case q15__6 => exact fun _ _ _ h => h
  case y15__6 => (refine Or.inl ⟨rfl, ?_⟩; intro w hSw; (go_simp; (try with_reducible rfl)))
  (try simp only [Act.put, sA, sB, sC])
  refine wpAnyH_take (i := 7) (oi := ?o15__7) (v := .int .i64 (((z zs 13 * 256 + z zs 14) * 256 + z zs 15) * 256 + z zs 16)) ?h15__7 (by kernel_rfl) (by kernel_rfl) (by kernel_rfl) ?q15__7 ?y15__7 (by assumption) ?_
  case h15__7 => (first | (simp only [gA, gB, gC]; done) | (simp only [gA, gB, gC]; exact rfl))
  case q15__7 => exact fun _ _ _ h => h
  case y15__7 => (refine Or.inl ⟨rfl, ?_⟩; intro w hSw; exact exec_cell 3 _ _ hSw.2.2.2 rfl rfl rfl Tryd.underlying3 rfl)
  (try simp only [Act.put, sA, sB, sC])
  refine wpAnyH_take (i := 8) (oi := ?o15__8) (v := .pointer (some ⟨bn5, 2, none⟩)) ?h15__8 (by kernel_rfl) (by kernel_rfl) (by kernel_rfl) ?q15__8 ?y15__8 (by assumption) ?_
  case h15__8 => (first | (simp only [gA, gB, gC]; done) | (simp only [gA, gB, gC]; exact rfl))
  case q15__8 => exact fun _ _ _ h => h
  case y15__8 => (refine Or.inl ⟨rfl, ?_⟩; intro w hSw; (go_simp; (try with_reducible rfl)))
  (try simp only [Act.put, sA, sB, sC])
  refine wpAnyH_take (i := 9) (oi := ?o15__9) (v := .int .i64 (((z zs 17 * 256 + z zs 18) * 256 + z zs 19) * 256 + z zs 20)) ?h15__9 (by kernel_rfl) (by kernel_rfl) (by kernel_rfl) ?q15__9 ?y15__9 (by assumption) ?_
  case h15__9 => (first | (simp only [gA, gB, gC]; done) | (simp only [gA, gB, gC]; exact rfl))
  case q15__9 => exact fun _ _ _ h => h
  case y15__9 => (refine Or.inl ⟨rfl, ?_⟩; intro w hSw; exact exec_cell 3 _ _ hSw.2.2.2 rfl rfl rfl Tryd.underlying3 rfl)
  (try simp only [Act.put, sA, sB, sC])
  refine wpAnyH_take (i := 10) (oi := ?o15__10) (v := .agg #[.int .i64 (z zs 8), .int .i64 (((z zs 9 * 256 + z zs 10) * 256 + z zs 11) * 256 + z zs 12), .int .i64 (((z zs 13 * 256 + z zs 14) * 256 + z zs 15) * 256 + z zs 16), .int .i64 (((z zs 17 * 256 + z zs 18) * 256 + z zs 19) * 256 + z zs 20)]) ?h15__10 (by kernel_rfl) (by kernel_rfl) (by kernel_rfl) ?q15__10 ?y15__10 (by assumption) ?_
  case h15__10 => (first | (simp only [gA, gB, gC]; done) | (simp only [gA, gB, gC]; exact rfl))
  case q15__10 => exact fun _ _ _ h => h
  case y15__10 => (refine Or.inl ⟨rfl, ?_⟩; intro w hSw; kernel_rfl)
  (try simp only [Act.put, sA, sB, sC])
  refine wpAnyH_take (i := 11) (oi := ?o15__11) (v := .pointer (some ⟨bn4, 5, none⟩)) ?h15__11 (by kernel_rfl) (by kernel_rfl) (by kernel_rfl) ?q15__11 ?y15__11 (by assumption) ?_
  case h15__11 => (first | (simp only [gA, gB, gC]; done) | (simp only [gA, gB, gC]; exact rfl))
  case q15__11 => exact fun _ _ _ h => h
  case y15__11 => (refine Or.inl ⟨rfl, ?_⟩; intro w hSw; (first | rfl | (go_simp; (try with_reducible rfl))))
  (try simp only [Act.put, sA, sB, sC])
  refine wpAnyH_ready (rs := [12]) (by kernel_rfl) (by simp) ?_
  refine AllReadyH.cons (o := ?o15__12) ?h15__12 (fun K hK => ?_) AllReadyH.nil
  case h15__12 => (first | (simp only [gA, gB, gC]; done) | (simp only [gA, gB, gC]; exact rfl))
  rw [if_pos (by rfl)]
  refine wp_st_part 23 _ _ rfl #[.int .i64 (z zs 1), .int .i64 (num2 (z zs 2) (z zs 3)), .int .i64 (num2 (z zs 4) (z zs 5)), .int .i64 (num2 (z zs 6) (z zs 7)), .bool true, .int .i64 (z zs 8), .int .i64 (((z zs 9 * 256 + z zs 10) * 256 + z zs 11) * 256 + z zs 12), .int .i64 (((z zs 13 * 256 + z zs 14) * 256 + z zs 15) * 256 + z zs 16), .int .i64 (((z zs 17 * 256 + z zs 18) * 256 + z zs 19) * 256 + z zs 20)] (#[.int .i64 (z zs 8), .int .i64 (((z zs 9 * 256 + z zs 10) * 256 + z zs 11) * 256 + z zs 12), .int .i64 (((z zs 13 * 256 + z zs 14) * 256 + z zs 15) * 256 + z zs 16), .int .i64 (((z zs 17 * 256 + z zs 18) * 256 + z zs 19) * 256 + z zs 20)]) rfl rfl HPn4.out (Nat.le_of_ble_eq_true rfl) rfl (by simp [pktC, msgC, Value.oneCell']) (by kernel_rfl) ?_
  clear HPn4
  intro w18 hw
  have HRn4 := Lib.hid (show Blk w18 bn4 25 #[.int .i64 (z zs 1), .int .i64 (num2 (z zs 2) (z zs 3)), .int .i64 (num2 (z zs 4) (z zs 5)), .int .i64 (num2 (z zs 6) (z zs 7)), .bool true, .int .i64 (z zs 8), .int .i64 (((z zs 9 * 256 + z zs 10) * 256 + z zs 11) * 256 + z zs 12), .int .i64 (((z zs 13 * 256 + z zs 14) * 256 + z zs 15) * 256 + z zs 16), .int .i64 (((z zs 17 * 256 + z zs 18) * 256 + z zs 19) * 256 + z zs 20)] by obtain ⟨old, Bo, _⟩ := hHeld.2.2.1; rw [hw]; exact Blk.row Bo _)
  have hHeld3 : (fun W : World => Since w W ∧ Blk W w.heap.size 25 #[.int .i64 0, .int .i64 0, .int .i64 0, .int .i64 0, .bool false, .int .i64 0, .int .i64 0, .int .i64 0, .int .i64 0] ∧ HasRow W bn4 25 9 ∧ Blk W bn5 44 #[.int .i64 (((z zs 9 * 256 + z zs 10) * 256 + z zs 11) * 256 + z zs 12), .int .i64 (((z zs 13 * 256 + z zs 14) * 256 + z zs 15) * 256 + z zs 16), .int .i64 (((z zs 17 * 256 + z zs 18) * 256 + z zs 19) * 256 + z zs 20)]) w18 := ⟨by rw [hw]; exact Since.setRow hHeld.1 HGn4.out _, by rw [hw]; exact Blk.row_far (hHeld.2.1) (Ne.symm HNn4R.out) _, HasRow.of HRn4.out rfl, by rw [hw]; exact Blk.row_far (hHeld.2.2.2) HNn5n4.out _⟩
  refine hK.out _ _ hHeld3 (fun hHeld2 => ?_)
  clear hK K hHeld hHeld3 hw
  have hHeld := hHeld2
  clear hHeld2
  (try simp only [Act.put, sA, sB, sC])
  refine wpAnyH_done (by kernel_rfl) ?_ _
  have HSd15 := Lib.hid hHeld.1
  have HBRd15 := Lib.hid (hHeld.2.1)
  have HBn4d15 := Lib.hid HRn4.out
  clear HRn4
  have HBn5d15 := Lib.hid (hHeld.2.2.2)
  clear hHeld HRK HRD HSd14v12 HBRd14v12 HBn4d14v12 HBn5d14v12
  by_cases hk : z zs 8 < 1
  rotate_left
  · by_cases hk2 : 16 < z zs 8
    rotate_left
    · have HK := Lib.hid hk; have HK2 := Lib.hid hk2; clear hk hk2
      go_upto_region 16 with fail
      refine wp_region_lit ?_
      refine wpList_q (by rfl) (.pointer (some ⟨bn4, 5, none⟩)) ?he ?_
      case he => (first | rfl | (go_simp; (try with_reducible rfl)))
      (try simp only [Act.put, sA, sB, sC])
      refine wpList_q (by rfl) (.pointer (some ⟨bn4, 5, none⟩)) ?he ?_
      case he => (first | rfl | (go_simp; (try with_reducible rfl)))
      (try simp only [Act.put, sA, sB, sC])
      refine wpList_q (by rfl) (.int .i64 (z zs 8)) ?he ?_
      case he => exact exec_cell 3 _ _ HBn4d15.out rfl rfl rfl Tryd.underlying3 rfl
      (try simp only [Act.put, sA, sB, sC])
      refine wpList_q (by rfl) (.bool false) ?he ?_
      case he => (go_simp; (first | done | (have q := HK.out; omega)))
      (try simp only [Act.put, sA, sB, sC])
      refine wpList_q (by rfl) (.bool false) ?he ?_
      case he => (first | rfl | (go_simp; (try with_reducible rfl)))
      (try simp only [Act.put, sA, sB, sC])
      refine wpList_q (by rfl) (.pointer (some ⟨bn4, 5, none⟩)) ?he ?_
      case he => (first | rfl | (go_simp; (try with_reducible rfl)))
      (try simp only [Act.put, sA, sB, sC])
      refine wpList_q (by rfl) (.pointer (some ⟨bn4, 5, none⟩)) ?he ?_
      case he => (first | rfl | (go_simp; (try with_reducible rfl)))
      (try simp only [Act.put, sA, sB, sC])
      refine wpList_q (by rfl) (.int .i64 (z zs 8)) ?he ?_
      case he => exact exec_cell 3 _ _ HBn4d15.out rfl rfl rfl Tryd.underlying3 rfl
      (try simp only [Act.put, sA, sB, sC])
      refine wpList_q (by rfl) (.bool false) ?he ?_
      case he => (go_simp; (first | done | (have q := HK2.out; omega)))
      (try simp only [Act.put, sA, sB, sC])
      refine wpList_q (by rfl) (.bool false) ?he ?_
      case he => (first | rfl | (go_simp; (try with_reducible rfl)))
      (try simp only [Act.put, sA, sB, sC])
      refine wpList_nil ?_
      cases hg : mayB (bodyP zs)
      · have HG := Lib.hid hg; clear hg
        go_upto_region 18 with fail
        refine wp_region_lit ?_
        refine wpList_q (by rfl) (.agg #[.int .i64 (z zs 1), .int .i64 (num2 (z zs 2) (z zs 3)), .int .i64 (num2 (z zs 4) (z zs 5)), .int .i64 (num2 (z zs 6) (z zs 7)), .bool true, .int .i64 (z zs 8), .int .i64 (((z zs 9 * 256 + z zs 10) * 256 + z zs 11) * 256 + z zs 12), .int .i64 (((z zs 13 * 256 + z zs 14) * 256 + z zs 15) * 256 + z zs 16), .int .i64 (((z zs 17 * 256 + z zs 18) * 256 + z zs 19) * 256 + z zs 20)]) ?he ?_
        case he => exact exec_load_row 25 _ _ HBn4d15.out rfl rfl Tryd.underlying25 rfl (by kernel_rfl)
        (try simp only [Act.put, sA, sB, sC])
        refine wpList_wp (by rfl) (fun K hK => ?_)
        (try go_simp)
        refine (mayPV (bodyP zs) false _ HG.out).mono ?_
        rintro e w19 ⟨rfl, hb⟩
        (try go_wp2_with fail)
        refine hK.out _ _ ?_
        clear hK K
        (try simp only [Act.put, sA, sB, sC])
        have HS19 := Lib.hid (Since.trans HSd15.out hb)
        have HBR19 := Lib.hid (keep_blk hb HBRd15.out)
        have HBn419 := Lib.hid (keep_blk hb HBn4d15.out)
        have HBn519 := Lib.hid (keep_blk hb HBn5d15.out)
        clear HSd15 HBRd15 HBn4d15 HBn5d15
        clear hb
        refine wpList_q (by rfl) (.bool true) ?he ?_
        case he => (go_simp; (try with_reducible rfl))
        (try simp only [Act.put, sA, sB, sC])
        refine wpList_nil ?_
        go_upto_region 19 with fail
        refine wp_region_lit ?_
        refine wpList_q (by rfl) (.agg #[.int .i64 0, .int .i64 0, .int .i64 0, .int .i64 0, .bool false, .int .i64 0, .int .i64 0, .int .i64 0, .int .i64 0]) ?he ?_
        case he => kernel_rfl
        (try simp only [Act.put, sA, sB, sC])
        refine wpList_wp (by rfl) (fun K hK => ?_)
        refine wp_st_row 25 _ _ rfl #[.int .i64 0, .int .i64 0, .int .i64 0, .int .i64 0, .bool false, .int .i64 0, .int .i64 0, .int .i64 0, .int .i64 0] rfl rfl (HasRow.of HBR19.out rfl) rfl (by simp [pktC, msgC, Value.oneCell']) (by kernel_rfl) ?_
        intro w20 hw
        refine hK.out _ _ ?_
        clear hK K
        (try simp only [Act.put, sA, sB, sC])
        have HS20 := Lib.hid (show Since w w20 by rw [hw]; exact Since.setRow HS19.out (by have := HNE3.out; omega) _)
        have HBR20 := Lib.hid (show Blk w20 w.heap.size 25 #[.int .i64 0, .int .i64 0, .int .i64 0, .int .i64 0, .bool false, .int .i64 0, .int .i64 0, .int .i64 0, .int .i64 0] by rw [hw]; exact Blk.row HBR19.out _)
        have HBn420 := Lib.hid (show Blk w20 bn4 25 #[.int .i64 (z zs 1), .int .i64 (num2 (z zs 2) (z zs 3)), .int .i64 (num2 (z zs 4) (z zs 5)), .int .i64 (num2 (z zs 6) (z zs 7)), .bool true, .int .i64 (z zs 8), .int .i64 (((z zs 9 * 256 + z zs 10) * 256 + z zs 11) * 256 + z zs 12), .int .i64 (((z zs 13 * 256 + z zs 14) * 256 + z zs 15) * 256 + z zs 16), .int .i64 (((z zs 17 * 256 + z zs 18) * 256 + z zs 19) * 256 + z zs 20)] by rw [hw]; exact Blk.row_far HBn419.out HNn4R.out _)
        have HBn520 := Lib.hid (show Blk w20 bn5 44 #[.int .i64 (((z zs 9 * 256 + z zs 10) * 256 + z zs 11) * 256 + z zs 12), .int .i64 (((z zs 13 * 256 + z zs 14) * 256 + z zs 15) * 256 + z zs 16), .int .i64 (((z zs 17 * 256 + z zs 18) * 256 + z zs 19) * 256 + z zs 20)] by rw [hw]; exact Blk.row_far HBn519.out HNn5R.out _)
        clear hw HS19 HBR19 HBn419 HBn519
        refine wpList_q (by rfl) (.int .i64 2) ?he ?_
        case he => (first | rfl | (go_simp; (try with_reducible rfl)))
        (try simp only [Act.put, sA, sB, sC])
        refine wpList_nil ?_
        (try go_wp2_with fail)
        exact bodyPost_ret (results_row2 rfl _ _ w.heap.size 25 #[.int .i64 0, .int .i64 0, .int .i64 0, .int .i64 0, .bool false, .int .i64 0, .int .i64 0, .int .i64 0, .int .i64 0] _ (.int .i64 2) rfl rfl HBR20.out Tryd.underlying25 rfl (by kernel_rfl)) rfl ⟨pkt_bad zs (by have := HK.out; omega) (by have := HK2.out; omega) HG.out, HS20.out⟩
      · have HG := Lib.hid hg; clear hg
        go_upto_region 18 with fail
        refine wp_region_lit ?_
        refine wpList_q (by rfl) (.agg #[.int .i64 (z zs 1), .int .i64 (num2 (z zs 2) (z zs 3)), .int .i64 (num2 (z zs 4) (z zs 5)), .int .i64 (num2 (z zs 6) (z zs 7)), .bool true, .int .i64 (z zs 8), .int .i64 (((z zs 9 * 256 + z zs 10) * 256 + z zs 11) * 256 + z zs 12), .int .i64 (((z zs 13 * 256 + z zs 14) * 256 + z zs 15) * 256 + z zs 16), .int .i64 (((z zs 17 * 256 + z zs 18) * 256 + z zs 19) * 256 + z zs 20)]) ?he ?_
        case he => exact exec_load_row 25 _ _ HBn4d15.out rfl rfl Tryd.underlying25 rfl (by kernel_rfl)
        (try simp only [Act.put, sA, sB, sC])
        refine wpList_wp (by rfl) (fun K hK => ?_)
        (try go_simp)
        refine (mayPV (bodyP zs) true _ HG.out).mono ?_
        rintro e w19 ⟨rfl, hb⟩
        (try go_wp2_with fail)
        refine hK.out _ _ ?_
        clear hK K
        (try simp only [Act.put, sA, sB, sC])
        have HS19 := Lib.hid (Since.trans HSd15.out hb)
        have HBR19 := Lib.hid (keep_blk hb HBRd15.out)
        have HBn419 := Lib.hid (keep_blk hb HBn4d15.out)
        have HBn519 := Lib.hid (keep_blk hb HBn5d15.out)
        clear HSd15 HBRd15 HBn4d15 HBn5d15
        clear hb
        refine wpList_q (by rfl) (.bool false) ?he ?_
        case he => (go_simp; (try with_reducible rfl))
        (try simp only [Act.put, sA, sB, sC])
        refine wpList_nil ?_
        go_upto_region 20 with fail
        refine wp_region_lit ?_
        refine wpList_q (by rfl) (.agg #[.int .i64 (z zs 1), .int .i64 (num2 (z zs 2) (z zs 3)), .int .i64 (num2 (z zs 4) (z zs 5)), .int .i64 (num2 (z zs 6) (z zs 7)), .bool true, .int .i64 (z zs 8), .int .i64 (((z zs 9 * 256 + z zs 10) * 256 + z zs 11) * 256 + z zs 12), .int .i64 (((z zs 13 * 256 + z zs 14) * 256 + z zs 15) * 256 + z zs 16), .int .i64 (((z zs 17 * 256 + z zs 18) * 256 + z zs 19) * 256 + z zs 20)]) ?he ?_
        case he => exact exec_load_row 25 _ _ HBn419.out rfl rfl Tryd.underlying25 rfl (by kernel_rfl)
        (try simp only [Act.put, sA, sB, sC])
        refine wpList_wp (by rfl) (fun K hK => ?_)
        refine wp_st_row 25 _ _ rfl #[.int .i64 (z zs 1), .int .i64 (num2 (z zs 2) (z zs 3)), .int .i64 (num2 (z zs 4) (z zs 5)), .int .i64 (num2 (z zs 6) (z zs 7)), .bool true, .int .i64 (z zs 8), .int .i64 (((z zs 9 * 256 + z zs 10) * 256 + z zs 11) * 256 + z zs 12), .int .i64 (((z zs 13 * 256 + z zs 14) * 256 + z zs 15) * 256 + z zs 16), .int .i64 (((z zs 17 * 256 + z zs 18) * 256 + z zs 19) * 256 + z zs 20)] rfl rfl (HasRow.of HBR19.out rfl) rfl (by simp [pktC, msgC, Value.oneCell']) (by kernel_rfl) ?_
        intro w20 hw
        refine hK.out _ _ ?_
        clear hK K
        (try simp only [Act.put, sA, sB, sC])
        have HS20 := Lib.hid (show Since w w20 by rw [hw]; exact Since.setRow HS19.out (by have := HNE3.out; omega) _)
        have HBR20 := Lib.hid (show Blk w20 w.heap.size 25 #[.int .i64 (z zs 1), .int .i64 (num2 (z zs 2) (z zs 3)), .int .i64 (num2 (z zs 4) (z zs 5)), .int .i64 (num2 (z zs 6) (z zs 7)), .bool true, .int .i64 (z zs 8), .int .i64 (((z zs 9 * 256 + z zs 10) * 256 + z zs 11) * 256 + z zs 12), .int .i64 (((z zs 13 * 256 + z zs 14) * 256 + z zs 15) * 256 + z zs 16), .int .i64 (((z zs 17 * 256 + z zs 18) * 256 + z zs 19) * 256 + z zs 20)] by rw [hw]; exact Blk.row HBR19.out _)
        have HBn420 := Lib.hid (show Blk w20 bn4 25 #[.int .i64 (z zs 1), .int .i64 (num2 (z zs 2) (z zs 3)), .int .i64 (num2 (z zs 4) (z zs 5)), .int .i64 (num2 (z zs 6) (z zs 7)), .bool true, .int .i64 (z zs 8), .int .i64 (((z zs 9 * 256 + z zs 10) * 256 + z zs 11) * 256 + z zs 12), .int .i64 (((z zs 13 * 256 + z zs 14) * 256 + z zs 15) * 256 + z zs 16), .int .i64 (((z zs 17 * 256 + z zs 18) * 256 + z zs 19) * 256 + z zs 20)] by rw [hw]; exact Blk.row_far HBn419.out HNn4R.out _)
        have HBn520 := Lib.hid (show Blk w20 bn5 44 #[.int .i64 (((z zs 9 * 256 + z zs 10) * 256 + z zs 11) * 256 + z zs 12), .int .i64 (((z zs 13 * 256 + z zs 14) * 256 + z zs 15) * 256 + z zs 16), .int .i64 (((z zs 17 * 256 + z zs 18) * 256 + z zs 19) * 256 + z zs 20)] by rw [hw]; exact Blk.row_far HBn519.out HNn5R.out _)
        clear hw HS19 HBR19 HBn419 HBn519
        refine wpList_q (by rfl) (.int .i64 0) ?he ?_
        case he => (first | rfl | (go_simp; (try with_reducible rfl)))
        (try simp only [Act.put, sA, sB, sC])
        refine wpList_nil ?_
        (try go_wp2_with fail)
        exact bodyPost_ret (results_row2 rfl _ _ w.heap.size 25 #[.int .i64 (z zs 1), .int .i64 (num2 (z zs 2) (z zs 3)), .int .i64 (num2 (z zs 4) (z zs 5)), .int .i64 (num2 (z zs 6) (z zs 7)), .bool true, .int .i64 (z zs 8), .int .i64 (((z zs 9 * 256 + z zs 10) * 256 + z zs 11) * 256 + z zs 12), .int .i64 (((z zs 13 * 256 + z zs 14) * 256 + z zs 15) * 256 + z zs 16), .int .i64 (((z zs 17 * 256 + z zs 18) * 256 + z zs 19) * 256 + z zs 20)] _ (.int .i64 0) rfl rfl HBR20.out Tryd.underlying25 rfl (by kernel_rfl)) rfl ⟨pkt_ok zs (by have := HK.out; omega) (by have := HK2.out; omega) HG.out, HS20.out⟩
    · have HK := Lib.hid hk; have HK2 := Lib.hid hk2; clear hk hk2
      go_upto_region 16 with fail
      refine wp_region_lit ?_
      refine wpList_q (by rfl) (.pointer (some ⟨bn4, 5, none⟩)) ?he ?_
      case he => (first | rfl | (go_simp; (try with_reducible rfl)))
      (try simp only [Act.put, sA, sB, sC])
      refine wpList_q (by rfl) (.pointer (some ⟨bn4, 5, none⟩)) ?he ?_
      case he => (first | rfl | (go_simp; (try with_reducible rfl)))
      (try simp only [Act.put, sA, sB, sC])
      refine wpList_q (by rfl) (.int .i64 (z zs 8)) ?he ?_
      case he => exact exec_cell 3 _ _ HBn4d15.out rfl rfl rfl Tryd.underlying3 rfl
      (try simp only [Act.put, sA, sB, sC])
      refine wpList_q (by rfl) (.bool false) ?he ?_
      case he => (go_simp; (first | done | (have q := HK.out; omega)))
      (try simp only [Act.put, sA, sB, sC])
      refine wpList_q (by rfl) (.bool false) ?he ?_
      case he => (first | rfl | (go_simp; (try with_reducible rfl)))
      (try simp only [Act.put, sA, sB, sC])
      refine wpList_q (by rfl) (.pointer (some ⟨bn4, 5, none⟩)) ?he ?_
      case he => (first | rfl | (go_simp; (try with_reducible rfl)))
      (try simp only [Act.put, sA, sB, sC])
      refine wpList_q (by rfl) (.pointer (some ⟨bn4, 5, none⟩)) ?he ?_
      case he => (first | rfl | (go_simp; (try with_reducible rfl)))
      (try simp only [Act.put, sA, sB, sC])
      refine wpList_q (by rfl) (.int .i64 (z zs 8)) ?he ?_
      case he => exact exec_cell 3 _ _ HBn4d15.out rfl rfl rfl Tryd.underlying3 rfl
      (try simp only [Act.put, sA, sB, sC])
      refine wpList_q (by rfl) (.bool true) ?he ?_
      case he => (go_simp; (first | done | (have q := HK2.out; omega)))
      (try simp only [Act.put, sA, sB, sC])
      refine wpList_q (by rfl) (.bool true) ?he ?_
      case he => (first | rfl | (go_simp; (try with_reducible rfl)))
      (try simp only [Act.put, sA, sB, sC])
      refine wpList_nil ?_
      go_upto_region 17 with fail
      refine wp_region_lit ?_
      refine wpList_q (by rfl) (.agg #[.int .i64 0, .int .i64 0, .int .i64 0, .int .i64 0, .bool false, .int .i64 0, .int .i64 0, .int .i64 0, .int .i64 0]) ?he ?_
      case he => kernel_rfl
      (try simp only [Act.put, sA, sB, sC])
      refine wpList_wp (by rfl) (fun K hK => ?_)
      refine wp_st_row 25 _ _ rfl #[.int .i64 0, .int .i64 0, .int .i64 0, .int .i64 0, .bool false, .int .i64 0, .int .i64 0, .int .i64 0, .int .i64 0] rfl rfl (HasRow.of HBRd15.out rfl) rfl (by simp [pktC, msgC, Value.oneCell']) (by kernel_rfl) ?_
      intro w19 hw
      refine hK.out _ _ ?_
      clear hK K
      (try simp only [Act.put, sA, sB, sC])
      have HS19 := Lib.hid (show Since w w19 by rw [hw]; exact Since.setRow HSd15.out (by have := HNE3.out; omega) _)
      have HBR19 := Lib.hid (show Blk w19 w.heap.size 25 #[.int .i64 0, .int .i64 0, .int .i64 0, .int .i64 0, .bool false, .int .i64 0, .int .i64 0, .int .i64 0, .int .i64 0] by rw [hw]; exact Blk.row HBRd15.out _)
      have HBn419 := Lib.hid (show Blk w19 bn4 25 #[.int .i64 (z zs 1), .int .i64 (num2 (z zs 2) (z zs 3)), .int .i64 (num2 (z zs 4) (z zs 5)), .int .i64 (num2 (z zs 6) (z zs 7)), .bool true, .int .i64 (z zs 8), .int .i64 (((z zs 9 * 256 + z zs 10) * 256 + z zs 11) * 256 + z zs 12), .int .i64 (((z zs 13 * 256 + z zs 14) * 256 + z zs 15) * 256 + z zs 16), .int .i64 (((z zs 17 * 256 + z zs 18) * 256 + z zs 19) * 256 + z zs 20)] by rw [hw]; exact Blk.row_far HBn4d15.out HNn4R.out _)
      have HBn519 := Lib.hid (show Blk w19 bn5 44 #[.int .i64 (((z zs 9 * 256 + z zs 10) * 256 + z zs 11) * 256 + z zs 12), .int .i64 (((z zs 13 * 256 + z zs 14) * 256 + z zs 15) * 256 + z zs 16), .int .i64 (((z zs 17 * 256 + z zs 18) * 256 + z zs 19) * 256 + z zs 20)] by rw [hw]; exact Blk.row_far HBn5d15.out HNn5R.out _)
      clear hw HSd15 HBRd15 HBn4d15 HBn5d15
      refine wpList_q (by rfl) (.int .i64 4) ?he ?_
      case he => (first | rfl | (go_simp; (try with_reducible rfl)))
      (try simp only [Act.put, sA, sB, sC])
      refine wpList_nil ?_
      (try go_wp2_with fail)
      exact bodyPost_ret (results_row2 rfl _ _ w.heap.size 25 #[.int .i64 0, .int .i64 0, .int .i64 0, .int .i64 0, .bool false, .int .i64 0, .int .i64 0, .int .i64 0, .int .i64 0] _ (.int .i64 4) rfl rfl HBR19.out Tryd.underlying25 rfl (by kernel_rfl)) rfl ⟨pkt_big zs (by have := HK2.out; omega), HS19.out⟩
  · have HK := Lib.hid hk; clear hk
    go_upto_region 16 with fail
    refine wp_region_lit ?_
    refine wpList_q (by rfl) (.pointer (some ⟨bn4, 5, none⟩)) ?he ?_
    case he => (first | rfl | (go_simp; (try with_reducible rfl)))
    (try simp only [Act.put, sA, sB, sC])
    refine wpList_q (by rfl) (.pointer (some ⟨bn4, 5, none⟩)) ?he ?_
    case he => (first | rfl | (go_simp; (try with_reducible rfl)))
    (try simp only [Act.put, sA, sB, sC])
    refine wpList_q (by rfl) (.int .i64 (z zs 8)) ?he ?_
    case he => exact exec_cell 3 _ _ HBn4d15.out rfl rfl rfl Tryd.underlying3 rfl
    (try simp only [Act.put, sA, sB, sC])
    refine wpList_q (by rfl) (.bool true) ?he ?_
    case he => (go_simp; (first | done | (have q := HK.out; omega)))
    (try simp only [Act.put, sA, sB, sC])
    refine wpList_q (by rfl) (.bool true) ?he ?_
    case he => (first | rfl | (go_simp; (try with_reducible rfl)))
    (try simp only [Act.put, sA, sB, sC])
    refine wpList_no (by rfl) ?_
    (try simp only [Act.put, sA, sB, sC])
    refine wpList_no (by rfl) ?_
    (try simp only [Act.put, sA, sB, sC])
    refine wpList_no (by rfl) ?_
    (try simp only [Act.put, sA, sB, sC])
    refine wpList_no (by rfl) ?_
    (try simp only [Act.put, sA, sB, sC])
    refine wpList_q (by rfl) (.bool true) ?he ?_
    case he => (first | rfl | (go_simp; (try with_reducible rfl)))
    (try simp only [Act.put, sA, sB, sC])
    refine wpList_nil ?_
    go_upto_region 17 with fail
    refine wp_region_lit ?_
    refine wpList_q (by rfl) (.agg #[.int .i64 0, .int .i64 0, .int .i64 0, .int .i64 0, .bool false, .int .i64 0, .int .i64 0, .int .i64 0, .int .i64 0]) ?he ?_
    case he => kernel_rfl
    (try simp only [Act.put, sA, sB, sC])
    refine wpList_wp (by rfl) (fun K hK => ?_)
    refine wp_st_row 25 _ _ rfl #[.int .i64 0, .int .i64 0, .int .i64 0, .int .i64 0, .bool false, .int .i64 0, .int .i64 0, .int .i64 0, .int .i64 0] rfl rfl (HasRow.of HBRd15.out rfl) rfl (by simp [pktC, msgC, Value.oneCell']) (by kernel_rfl) ?_
    intro w19 hw
    refine hK.out _ _ ?_
    clear hK K
    (try simp only [Act.put, sA, sB, sC])
    have HS19 := Lib.hid (show Since w w19 by rw [hw]; exact Since.setRow HSd15.out (by have := HNE3.out; omega) _)
    have HBR19 := Lib.hid (show Blk w19 w.heap.size 25 #[.int .i64 0, .int .i64 0, .int .i64 0, .int .i64 0, .bool false, .int .i64 0, .int .i64 0, .int .i64 0, .int .i64 0] by rw [hw]; exact Blk.row HBRd15.out _)
    have HBn419 := Lib.hid (show Blk w19 bn4 25 #[.int .i64 (z zs 1), .int .i64 (num2 (z zs 2) (z zs 3)), .int .i64 (num2 (z zs 4) (z zs 5)), .int .i64 (num2 (z zs 6) (z zs 7)), .bool true, .int .i64 (z zs 8), .int .i64 (((z zs 9 * 256 + z zs 10) * 256 + z zs 11) * 256 + z zs 12), .int .i64 (((z zs 13 * 256 + z zs 14) * 256 + z zs 15) * 256 + z zs 16), .int .i64 (((z zs 17 * 256 + z zs 18) * 256 + z zs 19) * 256 + z zs 20)] by rw [hw]; exact Blk.row_far HBn4d15.out HNn4R.out _)
    have HBn519 := Lib.hid (show Blk w19 bn5 44 #[.int .i64 (((z zs 9 * 256 + z zs 10) * 256 + z zs 11) * 256 + z zs 12), .int .i64 (((z zs 13 * 256 + z zs 14) * 256 + z zs 15) * 256 + z zs 16), .int .i64 (((z zs 17 * 256 + z zs 18) * 256 + z zs 19) * 256 + z zs 20)] by rw [hw]; exact Blk.row_far HBn5d15.out HNn5R.out _)
    clear hw HSd15 HBRd15 HBn4d15 HBn5d15
    refine wpList_q (by rfl) (.int .i64 4) ?he ?_
    case he => (first | rfl | (go_simp; (try with_reducible rfl)))
    (try simp only [Act.put, sA, sB, sC])
    refine wpList_nil ?_
    (try go_wp2_with fail)
    exact bodyPost_ret (results_row2 rfl _ _ w.heap.size 25 #[.int .i64 0, .int .i64 0, .int .i64 0, .int .i64 0, .bool false, .int .i64 0, .int .i64 0, .int .i64 0, .int .i64 0] _ (.int .i64 4) rfl rfl HBR19.out Tryd.underlying25 rfl (by kernel_rfl)) rfl ⟨pkt_low zs (by have := HK.out; omega), HS19.out⟩
theorem pktT (a : Option Addr) (n cap : Nat) (zs : List Int) (w : World) (h : BV w a n zs) : Calls Tryd.prog 13 #[.slice a n cap] w fun e w' => e = .returned (.tuple #[.agg (pktC (getV zs).1), .int .i64 (getV zs).2]) ∧ Since w w' := by
  have hl := h.1
  by_cases hx : n ≠ 8 ∧ n ≠ 21
  · rw [show getV zs = (zeroP, 2) by unfold getV; rw [if_pos (.inl (by omega))]]
    exact pktX a n cap hx.1 hx.2 w
  obtain ⟨b, off, rfl, _, _⟩ := h.addr (by omega)
  by_cases hz : z zs 0 = 1
  · have hn : ¬ ((zs.length ≠ 8 ∧ zs.length ≠ 21) ∨ z zs 0 ≠ 1) := by omega
    by_cases h8 : n = 8
    · subst h8
      rw [show getV zs = (headP zs, 0) by unfold getV; rw [if_neg hn, if_pos hl]]
      exact pktH b off cap zs w h hz
    · obtain rfl : n = 21 := by omega
      rw [show getV zs = bodyV zs by unfold getV bodyV; rw [if_neg hn, if_neg (by omega)]]
      exact pktB b off cap zs w h hz
  · rw [show getV zs = (zeroP, 2) by unfold getV; rw [if_pos (.inr hz)]]
    rcases (show n = 8 ∨ n = 21 by omega) with rfl | rfl
    · exact pktZ8 b off cap zs w h hz
    · exact pktZ21 b off cap zs w h hz
end Go.Proofs.YtlihhjcneedgnaaDoor.Mg
