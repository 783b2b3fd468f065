/-
  LinkNone: walked.
  Conditions: what stands ahead of each.
-/
import Derived.Test.YtlihhjcneedgnaaProg
import Derived.Test.YtlihhjcneedgnaaLnkD
namespace Go.Proofs.Ytlihhjcneedgnaa.Ln
set_option linter.unusedVariables false
set_option linter.unusedSimpArgs false
open Go.RowKit Go.Proofs.Ytlihhjcneedgnaa.Ba Go.Proofs.Ytlihhjcneedgnaa.Mem Go.Proofs.Ytlihhjcneedgnaa.Ty Go.Proofs.Ytlihhjcneedgnaa.Tm Go.Proofs.Ytlihhjcneedgnaa.Tw
set_option maxRecDepth 100000
attribute [local irreducible] Go.wpList
set_option maxHeartbeats 4000000 in
theorem nones (m : MsgV) (p : PkV) (now : Int) (w : World) : Calls Try.prog 5 #[.agg #[.int .i64 m.ki, .int .i64 m.a, .int .i64 m.b, .int .i64 m.c], .agg #[.int .i64 p.se, .int .i64 p.ep, .int .i64 p.sq, .int .i64 p.ak, .bool p.ha, .int .i64 p.m.ki, .int .i64 p.m.a, .int .i64 p.m.b, .int .i64 p.m.c], .int .i64 now] w fun e w' => e = .returned (.bool true) ∧ Since w w' := by
  go_enter Try.func5, Try.ntmps5
  go_upto_region 1 with fail
  obtain ⟨w1, hw1⟩ : ∃ w1, w1 = ((w.alloc (.cells #[.int .i64 m.ki, .int .i64 m.a, .int .i64 m.b, .int .i64 m.c] 36)).alloc (.cells #[.int .i64 p.se, .int .i64 p.ep, .int .i64 p.sq, .int .i64 p.ak, .bool p.ha, .int .i64 p.m.ki, .int .i64 p.m.a, .int .i64 p.m.b, .int .i64 p.m.c] 38)) := ⟨_, rfl⟩
  rw [← hw1]
  have HBM1 := Lib.hid (show Blk w1 (w.heap.size) 36 #[.int .i64 m.ki, .int .i64 m.a, .int .i64 m.b, .int .i64 m.c] by rw [hw1]; exact Blk.alloc (Blk.at_ (by (try simp only [size_alloc])) _ _) _)
  have HBP1 := Lib.hid (show Blk w1 (w.heap.size + 1) 38 #[.int .i64 p.se, .int .i64 p.ep, .int .i64 p.sq, .int .i64 p.ak, .bool p.ha, .int .i64 p.m.ki, .int .i64 p.m.a, .int .i64 p.m.b, .int .i64 p.m.c] by rw [hw1]; exact Blk.at_ (by (try simp only [size_alloc])) _ _)
  have HS1 := Lib.hid (show Since w w1 by rw [hw1]; exact Since.alloc (Since.alloc (Since.refl w) _) _)
  have hNE : w.heap.size ≤ w.heap.size ∧ w.heap.size < w.heap.size + 1 := by omega
  have HNE := Lib.hid hNE
  clear hNE hw1
  generalize w.heap.size + 1 = bP at *
  have HNE3 := Lib.hid (show w.heap.size ≤ w.heap.size ∧ w.heap.size < bP from HNE.out)
  clear HNE
  refine wp_region_lit ?_
  refine wpList_q (by rfl) (.pointer none) ?he ?_
  case he => (first | rfl | (go_simp; (try with_reducible rfl)))
  (try simp only [Act.put, sA, sB, sC])
  refine wpList_nil ?_
  go_upto_region 2 with fail
  refine wp_region_lit ?_
  refine wpList_q (by rfl) (.pointer none) ?he ?_
  case he => (first | rfl | (go_simp; (try with_reducible rfl)))
  (try simp only [Act.put, sA, sB, sC])
  refine wpList_q (by rfl) (.int .i64 now) ?he ?_
  case he => (first | rfl | (go_simp; (try with_reducible rfl)))
  (try simp only [Act.put, sA, sB, sC])
  refine wpList_wp (by rfl) (fun K hK => ?_)
  (try go_simp)
  refine (pollNil now _).mono ?_
  rintro e w2 ⟨rfl, hb⟩
  (try go_wp2_with fail)
  refine hK.out _ _ ?_
  clear hK K
  (try simp only [Act.put, sA, sB, sC])
  have HS2 := Lib.hid (Since.trans HS1.out hb)
  have HBM2 := Lib.hid (keep_blk hb HBM1.out)
  have HBP2 := Lib.hid (keep_blk hb HBP1.out)
  clear HS1 HBM1 HBP1
  clear hb
  refine wpList_q (by rfl) (.tuple #[.agg #[.int .i64 0, .int .i64 0, .int .i64 0, .int .i64 0, .bool false, .int .i64 0, .int .i64 0, .int .i64 0, .int .i64 0], .bool false]) ?he ?_
  case he => (first | rfl | (go_simp; (try with_reducible rfl)))
  (try simp only [Act.put, sA, sB, sC])
  refine wpList_q (by rfl) (.agg #[.int .i64 0, .int .i64 0, .int .i64 0, .int .i64 0, .bool false, .int .i64 0, .int .i64 0, .int .i64 0, .int .i64 0]) ?he ?_
  case he => (first | rfl | (go_simp; (try with_reducible rfl)))
  (try simp only [Act.put, sA, sB, sC])
  refine wpList_q (by rfl) (.bool false) ?he ?_
  case he => (first | rfl | (go_simp; (try with_reducible rfl)))
  (try simp only [Act.put, sA, sB, sC])
  refine wpList_wp (by rfl) (fun K hK => ?_)
  refine wp_new (fun b => .pointer (some ⟨b, 0, none⟩)) 38 #[.int .i64 0, .int .i64 0, .int .i64 0, .int .i64 0, .bool false, .int .i64 0, .int .i64 0, .int .i64 0, .int .i64 0] (by rintro b rfl; first | rfl | kernel_rfl) ?_
  intro bn8 w3 hge hB hb
  refine hK.out _ _ ?_
  clear hK K
  (try simp only [Act.put, sA, sB, sC])
  have HNn8M := Lib.hid (show bn8 ≠ w.heap.size by have := Blk.lt HBM2.out; omega)
  have HNn8P := Lib.hid (show bn8 ≠ bP by have := Blk.lt HBP2.out; omega)
  have HGn8 := Lib.hid (show w.heap.size ≤ bn8 by have := Since.size HS2.out; omega)
  have HS3 := Lib.hid (Since.trans HS2.out hb)
  have HBM3 := Lib.hid (keep_blk hb HBM2.out)
  have HBP3 := Lib.hid (keep_blk hb HBP2.out)
  clear HS2 HBM2 HBP2
  clear hb hge
  have HBn83 := Lib.hid hB
  clear hB
  refine wpList_wp (by rfl) (fun K hK => ?_)
  refine wp_st_row 38 _ _ rfl #[.int .i64 0, .int .i64 0, .int .i64 0, .int .i64 0, .bool false, .int .i64 0, .int .i64 0, .int .i64 0, .int .i64 0] rfl rfl (HasRow.of HBn83.out rfl) rfl (by simp [Value.oneCell']) (by kernel_rfl) ?_
  intro w4 hw
  refine hK.out _ _ ?_
  clear hK K
  (try simp only [Act.put, sA, sB, sC])
  have HS4 := Lib.hid (show Since w w4 by rw [hw]; exact Since.setRow HS3.out HGn8.out _)
  have HBM4 := Lib.hid (show Blk w4 w.heap.size 36 #[.int .i64 m.ki, .int .i64 m.a, .int .i64 m.b, .int .i64 m.c] by rw [hw]; exact Blk.row_far HBM3.out (Ne.symm HNn8M.out) _)
  have HBP4 := Lib.hid (show Blk w4 bP 38 #[.int .i64 p.se, .int .i64 p.ep, .int .i64 p.sq, .int .i64 p.ak, .bool p.ha, .int .i64 p.m.ki, .int .i64 p.m.a, .int .i64 p.m.b, .int .i64 p.m.c] by rw [hw]; exact Blk.row_far HBP3.out (Ne.symm HNn8P.out) _)
  have HBn84 := Lib.hid (show Blk w4 bn8 38 #[.int .i64 0, .int .i64 0, .int .i64 0, .int .i64 0, .bool false, .int .i64 0, .int .i64 0, .int .i64 0, .int .i64 0] by rw [hw]; exact Blk.row HBn83.out _)
  clear hw HS3 HBM3 HBP3 HBn83
  refine wpList_q (by rfl) (.bool false) ?he ?_
  case he => (first | rfl | (go_simp; (try with_reducible rfl)))
  (try simp only [Act.put, sA, sB, sC])
  refine wpList_nil ?_
  go_upto_region 3 with fail
  refine wp_region_lit ?_
  refine wpList_q (by rfl) (.pointer none) ?he ?_
  case he => (first | rfl | (go_simp; (try with_reducible rfl)))
  (try simp only [Act.put, sA, sB, sC])
  refine wpList_q (by rfl) (.agg #[.int .i64 p.se, .int .i64 p.ep, .int .i64 p.sq, .int .i64 p.ak, .bool p.ha, .int .i64 p.m.ki, .int .i64 p.m.a, .int .i64 p.m.b, .int .i64 p.m.c]) ?he ?_
  case he => exact exec_load_row 38 _ _ HBP4.out rfl rfl Try.underlying38 rfl (by kernel_rfl)
  (try simp only [Act.put, sA, sB, sC])
  refine wpList_q (by rfl) (.int .i64 now) ?he ?_
  case he => (first | rfl | (go_simp; (try with_reducible rfl)))
  (try simp only [Act.put, sA, sB, sC])
  refine wpList_wp (by rfl) (fun K hK => ?_)
  (try go_simp)
  refine (recvNil p now _).mono ?_
  rintro e w5 ⟨rfl, hb⟩
  (try go_wp2_with fail)
  refine hK.out _ _ ?_
  clear hK K
  (try simp only [Act.put, sA, sB, sC])
  have HS5 := Lib.hid (Since.trans HS4.out hb)
  have HBM5 := Lib.hid (keep_blk hb HBM4.out)
  have HBP5 := Lib.hid (keep_blk hb HBP4.out)
  have HBn85 := Lib.hid (keep_blk hb HBn84.out)
  clear HS4 HBM4 HBP4 HBn84
  clear hb
  refine wpList_q (by rfl) (.tuple #[.agg #[.int .i64 0, .int .i64 0, .int .i64 0, .int .i64 0], .bool false]) ?he ?_
  case he => (first | rfl | (go_simp; (try with_reducible rfl)))
  (try simp only [Act.put, sA, sB, sC])
  refine wpList_q (by rfl) (.agg #[.int .i64 0, .int .i64 0, .int .i64 0, .int .i64 0]) ?he ?_
  case he => (first | rfl | (go_simp; (try with_reducible rfl)))
  (try simp only [Act.put, sA, sB, sC])
  refine wpList_q (by rfl) (.bool false) ?he ?_
  case he => (first | rfl | (go_simp; (try with_reducible rfl)))
  (try simp only [Act.put, sA, sB, sC])
  refine wpList_wp (by rfl) (fun K hK => ?_)
  refine wp_new (fun b => .pointer (some ⟨b, 0, none⟩)) 36 #[.int .i64 0, .int .i64 0, .int .i64 0, .int .i64 0] (by rintro b rfl; first | rfl | kernel_rfl) ?_
  intro bn10 w6 hge hB hb
  refine hK.out _ _ ?_
  clear hK K
  (try simp only [Act.put, sA, sB, sC])
  have HNn10M := Lib.hid (show bn10 ≠ w.heap.size by have := Blk.lt HBM5.out; omega)
  have HNn10P := Lib.hid (show bn10 ≠ bP by have := Blk.lt HBP5.out; omega)
  have HNn10n8 := Lib.hid (show bn10 ≠ bn8 by have := Blk.lt HBn85.out; omega)
  have HGn10 := Lib.hid (show w.heap.size ≤ bn10 by have := Since.size HS5.out; omega)
  have HS6 := Lib.hid (Since.trans HS5.out hb)
  have HBM6 := Lib.hid (keep_blk hb HBM5.out)
  have HBP6 := Lib.hid (keep_blk hb HBP5.out)
  have HBn86 := Lib.hid (keep_blk hb HBn85.out)
  clear HS5 HBM5 HBP5 HBn85
  clear hb hge
  have HBn106 := Lib.hid hB
  clear hB
  refine wpList_wp (by rfl) (fun K hK => ?_)
  refine wp_st_row 36 _ _ rfl #[.int .i64 0, .int .i64 0, .int .i64 0, .int .i64 0] rfl rfl (HasRow.of HBn106.out rfl) rfl (by simp [Value.oneCell']) (by kernel_rfl) ?_
  intro w7 hw
  refine hK.out _ _ ?_
  clear hK K
  (try simp only [Act.put, sA, sB, sC])
  have HS7 := Lib.hid (show Since w w7 by rw [hw]; exact Since.setRow HS6.out HGn10.out _)
  have HBM7 := Lib.hid (show Blk w7 w.heap.size 36 #[.int .i64 m.ki, .int .i64 m.a, .int .i64 m.b, .int .i64 m.c] by rw [hw]; exact Blk.row_far HBM6.out (Ne.symm HNn10M.out) _)
  have HBP7 := Lib.hid (show Blk w7 bP 38 #[.int .i64 p.se, .int .i64 p.ep, .int .i64 p.sq, .int .i64 p.ak, .bool p.ha, .int .i64 p.m.ki, .int .i64 p.m.a, .int .i64 p.m.b, .int .i64 p.m.c] by rw [hw]; exact Blk.row_far HBP6.out (Ne.symm HNn10P.out) _)
  have HBn87 := Lib.hid (show Blk w7 bn8 38 #[.int .i64 0, .int .i64 0, .int .i64 0, .int .i64 0, .bool false, .int .i64 0, .int .i64 0, .int .i64 0, .int .i64 0] by rw [hw]; exact Blk.row_far HBn86.out (Ne.symm HNn10n8.out) _)
  have HBn107 := Lib.hid (show Blk w7 bn10 36 #[.int .i64 0, .int .i64 0, .int .i64 0, .int .i64 0] by rw [hw]; exact Blk.row HBn106.out _)
  clear hw HS6 HBM6 HBP6 HBn86 HBn106
  refine wpList_q (by rfl) (.bool false) ?he ?_
  case he => (first | rfl | (go_simp; (try with_reducible rfl)))
  (try simp only [Act.put, sA, sB, sC])
  refine wpList_nil ?_
  go_upto_region 4 with fail
  refine wp_region_lit ?_
  refine wpList_wp (by rfl) (fun K hK => ?_)
  (try go_simp)
  refine (ans _).mono ?_
  rintro e w8 ⟨rfl, hb⟩
  (try go_wp2_with fail)
  refine hK.out _ _ ?_
  clear hK K
  (try simp only [Act.put, sA, sB, sC])
  have HS8 := Lib.hid (Since.trans HS7.out hb)
  have HBM8 := Lib.hid (keep_blk hb HBM7.out)
  have HBP8 := Lib.hid (keep_blk hb HBP7.out)
  have HBn88 := Lib.hid (keep_blk hb HBn87.out)
  have HBn108 := Lib.hid (keep_blk hb HBn107.out)
  clear HS7 HBM7 HBP7 HBn87 HBn107
  clear hb
  refine wpList_q (by rfl) (.bool true) ?he ?_
  case he => (first | rfl | (go_simp; (try with_reducible rfl)))
  (try simp only [Act.put, sA, sB, sC])
  refine wpList_q (by rfl) (.pointer none) ?he ?_
  case he => (first | rfl | (go_simp; (try with_reducible rfl)))
  (try simp only [Act.put, sA, sB, sC])
  refine wpList_q (by rfl) (.agg #[.int .i64 m.ki, .int .i64 m.a, .int .i64 m.b, .int .i64 m.c]) ?he ?_
  case he => exact exec_load_row 36 _ _ HBM8.out rfl rfl Try.underlying36 rfl (by kernel_rfl)
  (try simp only [Act.put, sA, sB, sC])
  refine wpList_wp (by rfl) (fun K hK => ?_)
  (try go_simp)
  refine (sendNil m _).mono ?_
  rintro e w9 ⟨rfl, hb⟩
  (try go_wp2_with fail)
  refine hK.out _ _ ?_
  clear hK K
  (try simp only [Act.put, sA, sB, sC])
  have HS9 := Lib.hid (Since.trans HS8.out hb)
  have HBM9 := Lib.hid (keep_blk hb HBM8.out)
  have HBP9 := Lib.hid (keep_blk hb HBP8.out)
  have HBn89 := Lib.hid (keep_blk hb HBn88.out)
  have HBn109 := Lib.hid (keep_blk hb HBn108.out)
  clear HS8 HBM8 HBP8 HBn88 HBn108
  clear hb
  refine wpList_q (by rfl) (.bool true) ?he ?_
  case he => (go_simp; (try with_reducible rfl))
  (try simp only [Act.put, sA, sB, sC])
  refine wpList_q (by rfl) (.bool true) ?he ?_
  case he => (first | rfl | (go_simp; (try with_reducible rfl)))
  (try simp only [Act.put, sA, sB, sC])
  refine wpList_q (by rfl) (.bool true) ?he ?_
  case he => (first | rfl | (go_simp; (try with_reducible rfl)))
  (try simp only [Act.put, sA, sB, sC])
  refine wpList_q (by rfl) (.bool false) ?he ?_
  case he => (first | rfl | (go_simp; (try with_reducible rfl)))
  (try simp only [Act.put, sA, sB, sC])
  refine wpList_q (by rfl) (.bool true) ?he ?_
  case he => (go_simp; (try with_reducible rfl))
  (try simp only [Act.put, sA, sB, sC])
  refine wpList_q (by rfl) (.bool true) ?he ?_
  case he => (first | rfl | (go_simp; (try with_reducible rfl)))
  (try simp only [Act.put, sA, sB, sC])
  refine wpList_q (by rfl) (.bool true) ?he ?_
  case he => (first | rfl | (go_simp; (try with_reducible rfl)))
  (try simp only [Act.put, sA, sB, sC])
  refine wpList_q (by rfl) (.bool false) ?he ?_
  case he => (first | rfl | (go_simp; (try with_reducible rfl)))
  (try simp only [Act.put, sA, sB, sC])
  refine wpList_q (by rfl) (.bool true) ?he ?_
  case he => (go_simp; (try with_reducible rfl))
  (try simp only [Act.put, sA, sB, sC])
  refine wpList_q (by rfl) (.bool true) ?he ?_
  case he => (first | rfl | (go_simp; (try with_reducible rfl)))
  (try simp only [Act.put, sA, sB, sC])
  refine wpList_q (by rfl) (.bool true) ?he ?_
  case he => (first | rfl | (go_simp; (try with_reducible rfl)))
  (try simp only [Act.put, sA, sB, sC])
  refine wpList_q (by rfl) (.pointer none) ?he ?_
  case he => (first | rfl | (go_simp; (try with_reducible rfl)))
  (try simp only [Act.put, sA, sB, sC])
  refine wpList_q (by rfl) (.int .i64 now) ?he ?_
  case he => (first | rfl | (go_simp; (try with_reducible rfl)))
  (try simp only [Act.put, sA, sB, sC])
  refine wpList_wp (by rfl) (fun K hK => ?_)
  (try go_simp)
  refine (deadNil now _).mono ?_
  rintro e w10 ⟨rfl, hb⟩
  (try go_wp2_with fail)
  refine hK.out _ _ ?_
  clear hK K
  (try simp only [Act.put, sA, sB, sC])
  have HS10 := Lib.hid (Since.trans HS9.out hb)
  have HBM10 := Lib.hid (keep_blk hb HBM9.out)
  have HBP10 := Lib.hid (keep_blk hb HBP9.out)
  have HBn810 := Lib.hid (keep_blk hb HBn89.out)
  have HBn1010 := Lib.hid (keep_blk hb HBn109.out)
  clear HS9 HBM9 HBP9 HBn89 HBn109
  clear hb
  refine wpList_q (by rfl) (.bool true) ?he ?_
  case he => (first | rfl | (go_simp; (try with_reducible rfl)))
  (try simp only [Act.put, sA, sB, sC])
  refine wpList_q (by rfl) (.bool true) ?he ?_
  case he => (first | rfl | (go_simp; (try with_reducible rfl)))
  (try simp only [Act.put, sA, sB, sC])
  refine wpList_q (by rfl) (.pointer none) ?he ?_
  case he => (first | rfl | (go_simp; (try with_reducible rfl)))
  (try simp only [Act.put, sA, sB, sC])
  refine wpList_wp (by rfl) (fun K hK => ?_)
  (try go_simp)
  refine (epochNil _).mono ?_
  rintro e w11 ⟨rfl, hb⟩
  (try go_wp2_with fail)
  refine hK.out _ _ ?_
  clear hK K
  (try simp only [Act.put, sA, sB, sC])
  have HS11 := Lib.hid (Since.trans HS10.out hb)
  have HBM11 := Lib.hid (keep_blk hb HBM10.out)
  have HBP11 := Lib.hid (keep_blk hb HBP10.out)
  have HBn811 := Lib.hid (keep_blk hb HBn810.out)
  have HBn1011 := Lib.hid (keep_blk hb HBn1010.out)
  clear HS10 HBM10 HBP10 HBn810 HBn1010
  clear hb
  refine wpList_q (by rfl) (.bool true) ?he ?_
  case he => (go_simp; (try with_reducible rfl))
  (try simp only [Act.put, sA, sB, sC])
  refine wpList_q (by rfl) (.bool true) ?he ?_
  case he => (first | rfl | (go_simp; (try with_reducible rfl)))
  (try simp only [Act.put, sA, sB, sC])
  refine wpList_q (by rfl) (.bool true) ?he ?_
  case he => (first | rfl | (go_simp; (try with_reducible rfl)))
  (try simp only [Act.put, sA, sB, sC])
  refine wpList_q (by rfl) (.pointer none) ?he ?_
  case he => (first | rfl | (go_simp; (try with_reducible rfl)))
  (try simp only [Act.put, sA, sB, sC])
  refine wpList_wp (by rfl) (fun K hK => ?_)
  (try go_simp)
  refine (waitsNil _).mono ?_
  rintro e w12 ⟨rfl, hb⟩
  (try go_wp2_with fail)
  refine hK.out _ _ ?_
  clear hK K
  (try simp only [Act.put, sA, sB, sC])
  have HS12 := Lib.hid (Since.trans HS11.out hb)
  have HBM12 := Lib.hid (keep_blk hb HBM11.out)
  have HBP12 := Lib.hid (keep_blk hb HBP11.out)
  have HBn812 := Lib.hid (keep_blk hb HBn811.out)
  have HBn1012 := Lib.hid (keep_blk hb HBn1011.out)
  clear HS11 HBM11 HBP11 HBn811 HBn1011
  clear hb
  refine wpList_q (by rfl) (.bool true) ?he ?_
  case he => (go_simp; (try with_reducible rfl))
  (try simp only [Act.put, sA, sB, sC])
  refine wpList_q (by rfl) (.bool true) ?he ?_
  case he => (first | rfl | (go_simp; (try with_reducible rfl)))
  (try simp only [Act.put, sA, sB, sC])
  refine wpList_q (by rfl) (.bool true) ?he ?_
  case he => (first | rfl | (go_simp; (try with_reducible rfl)))
  (try simp only [Act.put, sA, sB, sC])
  refine wpList_nil ?_
  (try go_wp2_with fail)
  go_ret
  exact ⟨rfl, HS12.out⟩
end Go.Proofs.Ytlihhjcneedgnaa.Ln
