/-
  Bounds (layer 23): how long it may take, by any setting.
  No condition.
-/
import Derived.Test.YtpjgmkcoeokjcaaBnd
namespace Go.Proofs.Ytpjgmkcoeokjcaa.Bn
set_option linter.unusedVariables false
set_option linter.unusedSimpArgs false
open Go.RowKit Go.Proofs.Ytpjgmkcoeokjcaa.Mem Go.Proofs.Ytpjgmkcoeokjcaa.Ba Go.Proofs.Ytpjgmkcoeokjcaa.Mo Go.Proofs.Ytpjgmkcoeokjcaa.Ty
open Go.Proofs.Ytpjgmkcoeokjcaa.Do (hd hd_lo hd_hi)
set_option maxRecDepth 100000
theorem ans (w : World) : Calls Try.prog 22 #[] w fun e w' => e = .returned (.bool true) ∧ Since w w' := by
  go_enter Try.func22, Try.ntmps22
  go_upto_region 2 with fail
  obtain ⟨w0, hw0⟩ : ∃ w0, w0 = w.alloc (.cells #[.int .i64 0, .int .i64 2, .int .i64 0, .int .i64 0, .int .i64 1, .int .i64 2, .int .i64 5, .int .i64 1, .int .i64 0, .int .i64 0, .int .i64 0, .int .i64 0, .int .i64 0, .int .i64 0, .int .i64 0, .int .i64 0, .int .i64 0, .int .i64 0] 30) := ⟨_, rfl⟩
  rw [← hw0]
  have B0 : Blk w0 w.heap.size 30 #[.int .i64 0, .int .i64 2, .int .i64 0, .int .i64 0, .int .i64 1, .int .i64 2, .int .i64 5, .int .i64 1, .int .i64 0, .int .i64 0, .int .i64 0, .int .i64 0, .int .i64 0, .int .i64 0, .int .i64 0, .int .i64 0, .int .i64 0, .int .i64 0] := by rw [hw0]; exact Blk.new w _ _
  have HS0 := Lib.hid (show Since w w0 by rw [hw0]; exact (Since.refl w).alloc _)
  have HB0 := Lib.hid B0
  clear B0 hw0
  refine wp_region_lit ?_
  refine wpList_load_row_g (by rfl) 30 _ rfl _ rfl 30 _ _ HB0.out Try.underlying30 rfl (by kernel_rfl) ?_
  (try simp only [Act.put, List.setIfInBounds_toArray, List.set_cons_zero, List.set_cons_succ])
  refine wpList_step fun K hK => ?_
  have HKK := Lib.hid hK
  clear hK
  rw [if_pos (by rfl)]
  (try go_simp)
  refine (tripsA _).mono ?_
  rintro e w1 ⟨rfl, hb1⟩
  (try go_wp2_with fail)
  refine HKK.out _ _ ?_
  clear HKK K
  (try simp only [Act.put, List.setIfInBounds_toArray, List.set_cons_zero, List.set_cons_succ])
  have HS1 := Lib.hid (HS0.out.trans hb1)
  have HB1 := Lib.hid (keep_blk hb1 HB0.out)
  clear hb1
  refine wpList_q (by rfl) (.bool true) ?he ?_
  case he => (go_simp; (try with_reducible rfl))
  (try simp only [Act.put, List.setIfInBounds_toArray, List.set_cons_zero, List.set_cons_succ])
  refine wpList_q (by rfl) (.bool true) ?he ?_
  case he => (go_simp; (try with_reducible rfl))
  (try simp only [Act.put, List.setIfInBounds_toArray, List.set_cons_zero, List.set_cons_succ])
  refine wpList_load_row_g (by rfl) 30 _ rfl _ rfl 30 _ _ HB1.out Try.underlying30 rfl (by kernel_rfl) ?_
  (try simp only [Act.put, List.setIfInBounds_toArray, List.set_cons_zero, List.set_cons_succ])
  refine wpList_step fun K hK => ?_
  have HKK := Lib.hid hK
  clear hK
  rw [if_pos (by rfl)]
  (try go_simp)
  refine (leaseA _).mono ?_
  rintro e w2 ⟨rfl, hb2⟩
  (try go_wp2_with fail)
  refine HKK.out _ _ ?_
  clear HKK K
  (try simp only [Act.put, List.setIfInBounds_toArray, List.set_cons_zero, List.set_cons_succ])
  have HS2 := Lib.hid (HS1.out.trans hb2)
  have HB2 := Lib.hid (keep_blk hb2 HB1.out)
  clear hb2
  refine wpList_q (by rfl) (.bool true) ?he ?_
  case he => (go_simp; (try with_reducible rfl))
  (try simp only [Act.put, List.setIfInBounds_toArray, List.set_cons_zero, List.set_cons_succ])
  refine wpList_q (by rfl) (.bool true) ?he ?_
  case he => (go_simp; (try with_reducible rfl))
  (try simp only [Act.put, List.setIfInBounds_toArray, List.set_cons_zero, List.set_cons_succ])
  refine wpList_q (by rfl) (.bool true) ?he ?_
  case he => (go_simp; (try with_reducible rfl))
  (try simp only [Act.put, List.setIfInBounds_toArray, List.set_cons_zero, List.set_cons_succ])
  refine wpList_load_row_g (by rfl) 30 _ rfl _ rfl 30 _ _ HB2.out Try.underlying30 rfl (by kernel_rfl) ?_
  (try simp only [Act.put, List.setIfInBounds_toArray, List.set_cons_zero, List.set_cons_succ])
  refine wpList_step fun K hK => ?_
  have HKK := Lib.hid hK
  clear hK
  rw [if_pos (by rfl)]
  (try go_simp)
  refine (serveA _).mono ?_
  rintro e w3 ⟨rfl, hb3⟩
  (try go_wp2_with fail)
  refine HKK.out _ _ ?_
  clear HKK K
  (try simp only [Act.put, List.setIfInBounds_toArray, List.set_cons_zero, List.set_cons_succ])
  have HS3 := Lib.hid (HS2.out.trans hb3)
  have HB3 := Lib.hid (keep_blk hb3 HB2.out)
  clear hb3
  refine wpList_q (by rfl) (.bool true) ?he ?_
  case he => (go_simp; (try with_reducible rfl))
  (try simp only [Act.put, List.setIfInBounds_toArray, List.set_cons_zero, List.set_cons_succ])
  refine wpList_q (by rfl) (.bool true) ?he ?_
  case he => (go_simp; (try with_reducible rfl))
  (try simp only [Act.put, List.setIfInBounds_toArray, List.set_cons_zero, List.set_cons_succ])
  refine wpList_q (by rfl) (.bool true) ?he ?_
  case he => (go_simp; (try with_reducible rfl))
  (try simp only [Act.put, List.setIfInBounds_toArray, List.set_cons_zero, List.set_cons_succ])
  refine wpList_load_row_g (by rfl) 30 _ rfl _ rfl 30 _ _ HB3.out Try.underlying30 rfl (by kernel_rfl) ?_
  (try simp only [Act.put, List.setIfInBounds_toArray, List.set_cons_zero, List.set_cons_succ])
  refine wpList_step fun K hK => ?_
  have HKK := Lib.hid hK
  clear hK
  rw [if_pos (by rfl)]
  (try go_simp)
  refine (rideA _).mono ?_
  rintro e w4 ⟨rfl, hb4⟩
  (try go_wp2_with fail)
  refine HKK.out _ _ ?_
  clear HKK K
  (try simp only [Act.put, List.setIfInBounds_toArray, List.set_cons_zero, List.set_cons_succ])
  have HS4 := Lib.hid (HS3.out.trans hb4)
  have HB4 := Lib.hid (keep_blk hb4 HB3.out)
  clear hb4
  refine wpList_q (by rfl) (.bool true) ?he ?_
  case he => (go_simp; (try with_reducible rfl))
  (try simp only [Act.put, List.setIfInBounds_toArray, List.set_cons_zero, List.set_cons_succ])
  refine wpList_q (by rfl) (.bool true) ?he ?_
  case he => (go_simp; (try with_reducible rfl))
  (try simp only [Act.put, List.setIfInBounds_toArray, List.set_cons_zero, List.set_cons_succ])
  refine wpList_q (by rfl) (.bool true) ?he ?_
  case he => (go_simp; (try with_reducible rfl))
  (try simp only [Act.put, List.setIfInBounds_toArray, List.set_cons_zero, List.set_cons_succ])
  refine wpList_nil ?_
  go_wp2
  go_ret
  exact ⟨rfl, HS4.out⟩
end Go.Proofs.Ytpjgmkcoeokjcaa.Bn
