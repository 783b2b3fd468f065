/-
  What a program that does nothing does not answer, of costs (layer 15): it answers true.
  No condition.
-/
import Derived.Test.YtfbnmoegdbdhjaaEta2
import Derived.LoopN
namespace Go.Proofs.Ytfbnmoegdbdhjaa.Et
set_option linter.unusedVariables false
set_option linter.unusedSimpArgs false
open Go.RowKit Go.Proofs.Ytfbnmoegdbdhjaa.Ba Go.Proofs.Ytfbnmoegdbdhjaa.Mo Go.Proofs.Ytfbnmoegdbdhjaa.Ty Go.Proofs.Ytfbnmoegdbdhjaa.Mem Go.Proofs.Ytfbnmoegdbdhjaa.St
open Go.Proofs.Ytfbnmoegdbdhjaa.Do (hd hd_lo hd_hi spanR)
set_option maxRecDepth 100000
theorem Rz : R 0 := by unfold R; omega
theorem costA1 (w : World) : Calls Try.prog 42 #[.agg #[.int .i64 0, .int .i64 5, .int .i64 0, .int .i64 0, .int .i64 1, .int .i64 1, .int .i64 0, .int .i64 0, .int .i64 0, .int .i64 0, .int .i64 0, .int .i64 0, .int .i64 0, .int .i64 0, .int .i64 0, .int .i64 0, .int .i64 0, .int .i64 0], .agg #[.int .i64 0, .int .i64 0, .int .i64 0, .int .i64 0, .int .i64 0, .int .i64 0, .int .i64 0, .bool false, .bool false, .int .i64 0, .int .i64 0, .bool false, .int .u64 0, .int .u64 0, .int .u64 0], .agg #[.int .i64 2, .int .i64 1]] w fun e w' => e = .returned (.int .i64 8) ∧ Since w w' := by
  have h := costT ⟨0, 5, 0, 0, 1, 1, 0, 0, 0, 0, 0, 0, 0, 0, 0, 0, 0, 0⟩ ⟨0, 0, 0, 0, 0, 0, 0, false, false, 0, 0, false, 0, 0, 0⟩ 2 1 (by decide) (by decide) (by decide) (by decide) Rz Rz Rz w
  rw [show coV ⟨0, 5, 0, 0, 1, 1, 0, 0, 0, 0, 0, 0, 0, 0, 0, 0, 0, 0⟩ ⟨0, 0, 0, 0, 0, 0, 0, false, false, 0, 0, false, 0, 0, 0⟩ 2 1 = 8 by decide +kernel] at h
  exact h
theorem costA2 (w : World) : Calls Try.prog 42 #[.agg #[.int .i64 0, .int .i64 5, .int .i64 0, .int .i64 0, .int .i64 1, .int .i64 1, .int .i64 0, .int .i64 0, .int .i64 0, .int .i64 0, .int .i64 0, .int .i64 0, .int .i64 0, .int .i64 0, .int .i64 0, .int .i64 0, .int .i64 0, .int .i64 0], .agg #[.int .i64 0, .int .i64 0, .int .i64 8, .int .i64 0, .int .i64 0, .int .i64 0, .int .i64 0, .bool false, .bool false, .int .i64 0, .int .i64 0, .bool false, .int .u64 0, .int .u64 0, .int .u64 0], .agg #[.int .i64 2, .int .i64 1]] w fun e w' => e = .returned (.int .i64 0) ∧ Since w w' := by
  have h := costT ⟨0, 5, 0, 0, 1, 1, 0, 0, 0, 0, 0, 0, 0, 0, 0, 0, 0, 0⟩ ⟨0, 0, 8, 0, 0, 0, 0, false, false, 0, 0, false, 0, 0, 0⟩ 2 1 (by decide) (by decide) (by decide) (by decide) Rz Rz Rz w
  rw [show coV ⟨0, 5, 0, 0, 1, 1, 0, 0, 0, 0, 0, 0, 0, 0, 0, 0, 0, 0⟩ ⟨0, 0, 8, 0, 0, 0, 0, false, false, 0, 0, false, 0, 0, 0⟩ 2 1 = 0 by decide +kernel] at h
  exact h
set_option maxHeartbeats 4000000 in
theorem bestA (w : World) (g : Nat) (B : Blk w g 30 #[.int .i64 0, .int .i64 0, .int .i64 0, .int .i64 0, .int .i64 0, .int .i64 0, .int .i64 0, .bool false, .bool true, .int .i64 0, .int .i64 0, .bool false, .int .u64 0, .int .u64 0, .int .u64 0, .int .i64 0, .int .i64 0, .int .i64 0, .int .i64 0, .int .i64 0, .int .i64 0, .int .i64 0, .bool false, .bool false, .int .i64 0, .int .i64 0, .bool false, .int .u64 0, .int .u64 0, .int .u64 0, .int .i64 0, .int .i64 0, .int .i64 8, .int .i64 0, .int .i64 0, .int .i64 0, .int .i64 0, .bool false, .bool false, .int .i64 0, .int .i64 0, .bool false, .int .u64 0, .int .u64 0, .int .u64 0]) : Calls Try.prog 44 #[.agg #[.int .i64 0, .int .i64 5, .int .i64 0, .int .i64 0, .int .i64 1, .int .i64 1, .int .i64 0, .int .i64 0, .int .i64 0, .int .i64 0, .int .i64 0, .int .i64 0, .int .i64 0, .int .i64 0, .int .i64 0, .int .i64 0, .int .i64 0, .int .i64 0], .slice (some ⟨g, 0, none⟩) 3 3, .agg #[.int .i64 2, .int .i64 1]] w fun e w' => e = .returned (.int .i64 2) ∧ Since w w' := by
  go_enter Try.func44, Try.ntmps44
  go_upto_region 1 with fail
  obtain ⟨w1, hw1⟩ : ∃ w1, w1 = (w.alloc (.cells #[.int .i64 0, .int .i64 5, .int .i64 0, .int .i64 0, .int .i64 1, .int .i64 1, .int .i64 0, .int .i64 0, .int .i64 0, .int .i64 0, .int .i64 0, .int .i64 0, .int .i64 0, .int .i64 0, .int .i64 0, .int .i64 0, .int .i64 0, .int .i64 0] 23)).alloc (.cells #[.int .i64 2, .int .i64 1] 50) := ⟨_, rfl⟩
  rw [← hw1]
  have HC1 := Lib.hid (show Blk w1 w.heap.size 23 #[.int .i64 0, .int .i64 5, .int .i64 0, .int .i64 0, .int .i64 1, .int .i64 1, .int .i64 0, .int .i64 0, .int .i64 0, .int .i64 0, .int .i64 0, .int .i64 0, .int .i64 0, .int .i64 0, .int .i64 0, .int .i64 0, .int .i64 0, .int .i64 0] by rw [hw1]; exact (Blk.new w _ _).alloc _)
  have HL1 := Lib.hid (show Blk w1 (w.heap.size + 1) 50 #[.int .i64 2, .int .i64 1] by rw [hw1]; have h := Blk.new (w.alloc (.cells #[.int .i64 0, .int .i64 5, .int .i64 0, .int .i64 0, .int .i64 1, .int .i64 1, .int .i64 0, .int .i64 0, .int .i64 0, .int .i64 0, .int .i64 0, .int .i64 0, .int .i64 0, .int .i64 0, .int .i64 0, .int .i64 0, .int .i64 0, .int .i64 0] 23)) 50 #[.int .i64 2, .int .i64 1]; simpa using h)
  have HB1 := Lib.hid (show Blk w1 g 30 #[.int .i64 0, .int .i64 0, .int .i64 0, .int .i64 0, .int .i64 0, .int .i64 0, .int .i64 0, .bool false, .bool true, .int .i64 0, .int .i64 0, .bool false, .int .u64 0, .int .u64 0, .int .u64 0, .int .i64 0, .int .i64 0, .int .i64 0, .int .i64 0, .int .i64 0, .int .i64 0, .int .i64 0, .bool false, .bool false, .int .i64 0, .int .i64 0, .bool false, .int .u64 0, .int .u64 0, .int .u64 0, .int .i64 0, .int .i64 0, .int .i64 8, .int .i64 0, .int .i64 0, .int .i64 0, .int .i64 0, .bool false, .bool false, .int .i64 0, .int .i64 0, .bool false, .int .u64 0, .int .u64 0, .int .u64 0] by rw [hw1]; exact (B.alloc _).alloc _)
  have HS1 := Lib.hid (show Since w w1 by rw [hw1]; exact ((Since.refl w).alloc _).alloc _)
  clear hw1 B
  have l0 : w1.cell? ⟨g, 0, none⟩ = some (.int .i64 0) := HB1.out.cell 0
  have l1 : w1.cell? ⟨g, 1, none⟩ = some (.int .i64 0) := HB1.out.cell 1
  have l2 : w1.cell? ⟨g, 2, none⟩ = some (.int .i64 0) := HB1.out.cell 2
  have l3 : w1.cell? ⟨g, 3, none⟩ = some (.int .i64 0) := HB1.out.cell 3
  have l4 : w1.cell? ⟨g, 4, none⟩ = some (.int .i64 0) := HB1.out.cell 4
  have l5 : w1.cell? ⟨g, 5, none⟩ = some (.int .i64 0) := HB1.out.cell 5
  have l6 : w1.cell? ⟨g, 6, none⟩ = some (.int .i64 0) := HB1.out.cell 6
  have l7 : w1.cell? ⟨g, 7, none⟩ = some (.bool false) := HB1.out.cell 7
  have l8 : w1.cell? ⟨g, 8, none⟩ = some (.bool true) := HB1.out.cell 8
  have l9 : w1.cell? ⟨g, 9, none⟩ = some (.int .i64 0) := HB1.out.cell 9
  have l10 : w1.cell? ⟨g, 10, none⟩ = some (.int .i64 0) := HB1.out.cell 10
  have l11 : w1.cell? ⟨g, 11, none⟩ = some (.bool false) := HB1.out.cell 11
  have l12 : w1.cell? ⟨g, 12, none⟩ = some (.int .u64 0) := HB1.out.cell 12
  have l13 : w1.cell? ⟨g, 13, none⟩ = some (.int .u64 0) := HB1.out.cell 13
  have l14 : w1.cell? ⟨g, 14, none⟩ = some (.int .u64 0) := HB1.out.cell 14
  have l15 : w1.cell? ⟨g, 15, none⟩ = some (.int .i64 0) := HB1.out.cell 15
  have l16 : w1.cell? ⟨g, 16, none⟩ = some (.int .i64 0) := HB1.out.cell 16
  have l17 : w1.cell? ⟨g, 17, none⟩ = some (.int .i64 0) := HB1.out.cell 17
  have l18 : w1.cell? ⟨g, 18, none⟩ = some (.int .i64 0) := HB1.out.cell 18
  have l19 : w1.cell? ⟨g, 19, none⟩ = some (.int .i64 0) := HB1.out.cell 19
  have l20 : w1.cell? ⟨g, 20, none⟩ = some (.int .i64 0) := HB1.out.cell 20
  have l21 : w1.cell? ⟨g, 21, none⟩ = some (.int .i64 0) := HB1.out.cell 21
  have l22 : w1.cell? ⟨g, 22, none⟩ = some (.bool false) := HB1.out.cell 22
  have l23 : w1.cell? ⟨g, 23, none⟩ = some (.bool false) := HB1.out.cell 23
  have l24 : w1.cell? ⟨g, 24, none⟩ = some (.int .i64 0) := HB1.out.cell 24
  have l25 : w1.cell? ⟨g, 25, none⟩ = some (.int .i64 0) := HB1.out.cell 25
  have l26 : w1.cell? ⟨g, 26, none⟩ = some (.bool false) := HB1.out.cell 26
  have l27 : w1.cell? ⟨g, 27, none⟩ = some (.int .u64 0) := HB1.out.cell 27
  have l28 : w1.cell? ⟨g, 28, none⟩ = some (.int .u64 0) := HB1.out.cell 28
  have l29 : w1.cell? ⟨g, 29, none⟩ = some (.int .u64 0) := HB1.out.cell 29
  have l30 : w1.cell? ⟨g, 30, none⟩ = some (.int .i64 0) := HB1.out.cell 30
  have l31 : w1.cell? ⟨g, 31, none⟩ = some (.int .i64 0) := HB1.out.cell 31
  have l32 : w1.cell? ⟨g, 32, none⟩ = some (.int .i64 8) := HB1.out.cell 32
  have l33 : w1.cell? ⟨g, 33, none⟩ = some (.int .i64 0) := HB1.out.cell 33
  have l34 : w1.cell? ⟨g, 34, none⟩ = some (.int .i64 0) := HB1.out.cell 34
  have l35 : w1.cell? ⟨g, 35, none⟩ = some (.int .i64 0) := HB1.out.cell 35
  have l36 : w1.cell? ⟨g, 36, none⟩ = some (.int .i64 0) := HB1.out.cell 36
  have l37 : w1.cell? ⟨g, 37, none⟩ = some (.bool false) := HB1.out.cell 37
  have l38 : w1.cell? ⟨g, 38, none⟩ = some (.bool false) := HB1.out.cell 38
  have l39 : w1.cell? ⟨g, 39, none⟩ = some (.int .i64 0) := HB1.out.cell 39
  have l40 : w1.cell? ⟨g, 40, none⟩ = some (.int .i64 0) := HB1.out.cell 40
  have l41 : w1.cell? ⟨g, 41, none⟩ = some (.bool false) := HB1.out.cell 41
  have l42 : w1.cell? ⟨g, 42, none⟩ = some (.int .u64 0) := HB1.out.cell 42
  have l43 : w1.cell? ⟨g, 43, none⟩ = some (.int .u64 0) := HB1.out.cell 43
  have l44 : w1.cell? ⟨g, 44, none⟩ = some (.int .u64 0) := HB1.out.cell 44
  have hg1 : g < w1.heap.size := HB1.out.lt
  go_wp2_with fail
  refine wp_loop_rounds 4 ?_
  rw [rounds_succ]
  go_wp2_with fail
  rw [rounds_succ]
  go_wp2_with (first | (refine wpList_load_row rfl 23 _ rfl _ rfl 23 _ (0, 0) _ ((HC1.out.alloc _).alloc _) Try.underlying23 rfl (by kernel_rfl) ?_) | (refine wpList_load_row rfl 50 _ rfl _ rfl 50 _ (0, 0) _ ((HL1.out.alloc _).alloc _) Try.underlying50 rfl (by kernel_rfl) ?_))
  refine (costA1 _).mono ?_
  rintro e w2 ⟨rfl, hb2⟩
  have HC2 := Lib.hid (keep_blk hb2 ((HC1.out.alloc _).alloc _)); have HL2 := Lib.hid (keep_blk hb2 ((HL1.out.alloc _).alloc _)); have HB2 := Lib.hid (keep_blk hb2 ((HB1.out.alloc _).alloc _)); have HS2 := Lib.hid (((HS1.out.alloc _).alloc _).trans hb2)
  clear hb2 HC1 HL1 HB1 HS1 l0 l1 l2 l3 l4 l5 l6 l7 l8 l9 l10 l11 l12 l13 l14 l15 l16 l17 l18 l19 l20 l21 l22 l23 l24 l25 l26 l27 l28 l29 l30 l31 l32 l33 l34 l35 l36 l37 l38 l39 l40 l41 l42 l43 l44
  have l30 : w2.cell? ⟨g, 30, none⟩ = some (.int .i64 0) := HB2.out.cell 30
  have l31 : w2.cell? ⟨g, 31, none⟩ = some (.int .i64 0) := HB2.out.cell 31
  have l32 : w2.cell? ⟨g, 32, none⟩ = some (.int .i64 8) := HB2.out.cell 32
  have l33 : w2.cell? ⟨g, 33, none⟩ = some (.int .i64 0) := HB2.out.cell 33
  have l34 : w2.cell? ⟨g, 34, none⟩ = some (.int .i64 0) := HB2.out.cell 34
  have l35 : w2.cell? ⟨g, 35, none⟩ = some (.int .i64 0) := HB2.out.cell 35
  have l36 : w2.cell? ⟨g, 36, none⟩ = some (.int .i64 0) := HB2.out.cell 36
  have l37 : w2.cell? ⟨g, 37, none⟩ = some (.bool false) := HB2.out.cell 37
  have l38 : w2.cell? ⟨g, 38, none⟩ = some (.bool false) := HB2.out.cell 38
  have l39 : w2.cell? ⟨g, 39, none⟩ = some (.int .i64 0) := HB2.out.cell 39
  have l40 : w2.cell? ⟨g, 40, none⟩ = some (.int .i64 0) := HB2.out.cell 40
  have l41 : w2.cell? ⟨g, 41, none⟩ = some (.bool false) := HB2.out.cell 41
  have l42 : w2.cell? ⟨g, 42, none⟩ = some (.int .u64 0) := HB2.out.cell 42
  have l43 : w2.cell? ⟨g, 43, none⟩ = some (.int .u64 0) := HB2.out.cell 43
  have l44 : w2.cell? ⟨g, 44, none⟩ = some (.int .u64 0) := HB2.out.cell 44
  have hg2 : g < w2.heap.size := HB2.out.lt
  go_wp2_with fail
  rw [rounds_succ]
  go_wp2_with (first | (refine wpList_load_row rfl 23 _ rfl _ rfl 23 _ (0, 0) _ (HC2.out.alloc _) Try.underlying23 rfl (by kernel_rfl) ?_) | (refine wpList_load_row rfl 50 _ rfl _ rfl 50 _ (0, 0) _ (HL2.out.alloc _) Try.underlying50 rfl (by kernel_rfl) ?_))
  refine (costA2 _).mono ?_
  rintro e w3 ⟨rfl, hb3⟩
  have HS3 := Lib.hid ((HS2.out.alloc _).trans hb3)
  clear hb3
  go_wp2_with fail
  rw [rounds_succ]
  go_wp2
  go_ret
  exact ⟨rfl, HS3.out⟩
set_option maxHeartbeats 4000000 in
theorem ans (w : World) : Calls Try.prog 41 #[] w fun e w' => e = .returned (.bool true) ∧ Since w w' := by
  go_enter Try.func41, Try.ntmps41
  go_upto_region 3 with fail
  obtain ⟨w0, hw0⟩ : ∃ w0, w0 = (w.alloc (.cells #[.int .i64 0, .int .i64 5, .int .i64 0, .int .i64 0, .int .i64 1, .int .i64 1, .int .i64 0, .int .i64 0, .int .i64 0, .int .i64 0, .int .i64 0, .int .i64 0, .int .i64 0, .int .i64 0, .int .i64 0, .int .i64 0, .int .i64 0, .int .i64 0] 23)).alloc (.cells #[.int .i64 2, .int .i64 1] 50) := ⟨_, rfl⟩
  rw [← hw0]
  have HC0 := Lib.hid (show Blk w0 w.heap.size 23 #[.int .i64 0, .int .i64 5, .int .i64 0, .int .i64 0, .int .i64 1, .int .i64 1, .int .i64 0, .int .i64 0, .int .i64 0, .int .i64 0, .int .i64 0, .int .i64 0, .int .i64 0, .int .i64 0, .int .i64 0, .int .i64 0, .int .i64 0, .int .i64 0] by rw [hw0]; exact (Blk.new w _ _).alloc _)
  have HL0 := Lib.hid (show Blk w0 (w.heap.size + 1) 50 #[.int .i64 2, .int .i64 1] by rw [hw0]; have h := Blk.new (w.alloc (.cells #[.int .i64 0, .int .i64 5, .int .i64 0, .int .i64 0, .int .i64 1, .int .i64 1, .int .i64 0, .int .i64 0, .int .i64 0, .int .i64 0, .int .i64 0, .int .i64 0, .int .i64 0, .int .i64 0, .int .i64 0, .int .i64 0, .int .i64 0, .int .i64 0] 23)) 50 #[.int .i64 2, .int .i64 1]; simpa using h)
  have HS0 := Lib.hid (show Since w w0 by rw [hw0]; exact ((Since.refl w).alloc _).alloc _)
  clear hw0
  refine wp_region_lit ?_
  refine wpList_load_row_g (by rfl) 23 _ rfl _ rfl 23 _ _ HC0.out Try.underlying23 rfl (by kernel_rfl) ?_
  (try simp only [Act.put, List.setIfInBounds_toArray, List.set_cons_zero, List.set_cons_succ])
  refine wpList_q (by rfl) (.agg #[.int .i64 0, .int .i64 0, .int .i64 0, .int .i64 0, .int .i64 0, .int .i64 0, .int .i64 0, .bool false, .bool false, .int .i64 0, .int .i64 0, .bool false, .int .u64 0, .int .u64 0, .int .u64 0]) ?he ?_
  case he => (go_simp; (try with_reducible rfl))
  (try simp only [Act.put, List.setIfInBounds_toArray, List.set_cons_zero, List.set_cons_succ])
  refine wpList_load_row_g (by rfl) 50 _ rfl _ rfl 50 _ _ HL0.out Try.underlying50 rfl (by kernel_rfl) ?_
  (try simp only [Act.put, List.setIfInBounds_toArray, List.set_cons_zero, List.set_cons_succ])
  refine wpList_step fun K hK => ?_
  have HKK := Lib.hid hK
  clear hK
  rw [if_pos (by rfl)]
  (try go_simp)
  refine (costA1 _).mono ?_
  rintro e w1 ⟨rfl, hb1⟩
  (try go_wp2_with fail)
  refine HKK.out _ _ ?_
  clear HKK K
  (try simp only [Act.put, List.setIfInBounds_toArray, List.set_cons_zero, List.set_cons_succ])
  have HC1 := Lib.hid (keep_blk hb1 HC0.out); have HL1 := Lib.hid (keep_blk hb1 HL0.out); have HS1 := Lib.hid (HS0.out.trans hb1); clear hb1 HC0 HL0 HS0
  refine wpList_q (by rfl) (.bool true) ?he ?_
  case he => (go_simp; (try with_reducible rfl))
  (try simp only [Act.put, List.setIfInBounds_toArray, List.set_cons_zero, List.set_cons_succ])
  refine wpList_q (by rfl) (.bool true) ?he ?_
  case he => (go_simp; (try with_reducible rfl))
  (try simp only [Act.put, List.setIfInBounds_toArray, List.set_cons_zero, List.set_cons_succ])
  refine wpList_load_row_g (by rfl) 23 _ rfl _ rfl 23 _ _ HC1.out Try.underlying23 rfl (by kernel_rfl) ?_
  (try simp only [Act.put, List.setIfInBounds_toArray, List.set_cons_zero, List.set_cons_succ])
  refine wpList_q (by rfl) (.agg #[.int .i64 0, .int .i64 0, .int .i64 0, .int .i64 0, .int .i64 0, .int .i64 0, .int .i64 0, .bool false, .bool true, .int .i64 0, .int .i64 0, .bool false, .int .u64 0, .int .u64 0, .int .u64 0]) ?he ?_
  case he => (go_simp; (try with_reducible rfl))
  (try simp only [Act.put, List.setIfInBounds_toArray, List.set_cons_zero, List.set_cons_succ])
  refine wpList_q (by rfl) (.agg #[.int .i64 0, .int .i64 0, .int .i64 0, .int .i64 0, .int .i64 0, .int .i64 0, .int .i64 0, .bool false, .bool false, .int .i64 0, .int .i64 0, .bool false, .int .u64 0, .int .u64 0, .int .u64 0]) ?he ?_
  case he => (go_simp; (try with_reducible rfl))
  (try simp only [Act.put, List.setIfInBounds_toArray, List.set_cons_zero, List.set_cons_succ])
  refine wpList_q (by rfl) (.agg #[.int .i64 0, .int .i64 0, .int .i64 8, .int .i64 0, .int .i64 0, .int .i64 0, .int .i64 0, .bool false, .bool false, .int .i64 0, .int .i64 0, .bool false, .int .u64 0, .int .u64 0, .int .u64 0]) ?he ?_
  case he => (go_simp; (try with_reducible rfl))
  (try simp only [Act.put, List.setIfInBounds_toArray, List.set_cons_zero, List.set_cons_succ])
  refine wpList_step fun K hK => ?_
  have HKK := Lib.hid hK
  clear hK
  rw [if_pos (by rfl)]
  (try go_wp2_with fail)
  refine HKK.out _ _ ?_
  clear HKK K
  (try simp only [Act.put, List.setIfInBounds_toArray, List.set_cons_zero, List.set_cons_succ])
  obtain ⟨w2, hw2⟩ : ∃ w2, w2 = w1.alloc (.cells #[.int .i64 0, .int .i64 0, .int .i64 0, .int .i64 0, .int .i64 0, .int .i64 0, .int .i64 0, .bool false, .bool true, .int .i64 0, .int .i64 0, .bool false, .int .u64 0, .int .u64 0, .int .u64 0, .int .i64 0, .int .i64 0, .int .i64 0, .int .i64 0, .int .i64 0, .int .i64 0, .int .i64 0, .bool false, .bool false, .int .i64 0, .int .i64 0, .bool false, .int .u64 0, .int .u64 0, .int .u64 0, .int .i64 0, .int .i64 0, .int .i64 8, .int .i64 0, .int .i64 0, .int .i64 0, .int .i64 0, .bool false, .bool false, .int .i64 0, .int .i64 0, .bool false, .int .u64 0, .int .u64 0, .int .u64 0] 30) := ⟨_, rfl⟩
  rw [← hw2]
  have HB2 := Lib.hid (show Blk w2 w1.heap.size 30 #[.int .i64 0, .int .i64 0, .int .i64 0, .int .i64 0, .int .i64 0, .int .i64 0, .int .i64 0, .bool false, .bool true, .int .i64 0, .int .i64 0, .bool false, .int .u64 0, .int .u64 0, .int .u64 0, .int .i64 0, .int .i64 0, .int .i64 0, .int .i64 0, .int .i64 0, .int .i64 0, .int .i64 0, .bool false, .bool false, .int .i64 0, .int .i64 0, .bool false, .int .u64 0, .int .u64 0, .int .u64 0, .int .i64 0, .int .i64 0, .int .i64 8, .int .i64 0, .int .i64 0, .int .i64 0, .int .i64 0, .bool false, .bool false, .int .i64 0, .int .i64 0, .bool false, .int .u64 0, .int .u64 0, .int .u64 0] by rw [hw2]; exact Blk.new w1 _ _)
  have HL2 := Lib.hid (show Blk w2 (w.heap.size + 1) 50 #[.int .i64 2, .int .i64 1] by rw [hw2]; exact HL1.out.alloc _)
  have HS2 := Lib.hid (show Since w w2 by rw [hw2]; exact HS1.out.alloc _)
  clear hw2 HC1 HL1 HS1
  refine wpList_load_row_g (by rfl) 50 _ rfl _ rfl 50 _ _ HL2.out Try.underlying50 rfl (by kernel_rfl) ?_
  (try simp only [Act.put, List.setIfInBounds_toArray, List.set_cons_zero, List.set_cons_succ])
  refine wpList_step fun K hK => ?_
  have HKK := Lib.hid hK
  clear hK
  rw [if_pos (by rfl)]
  (try go_simp)
  refine (bestA _ _ HB2.out).mono ?_
  rintro e w3 ⟨rfl, hb3⟩
  (try go_wp2_with fail)
  refine HKK.out _ _ ?_
  clear HKK K
  (try simp only [Act.put, List.setIfInBounds_toArray, List.set_cons_zero, List.set_cons_succ])
  have HS3 := Lib.hid (HS2.out.trans hb3); clear hb3
  refine wpList_q (by rfl) (.bool true) ?he ?_
  case he => (go_simp; (try with_reducible rfl))
  (try simp only [Act.put, List.setIfInBounds_toArray, List.set_cons_zero, List.set_cons_succ])
  refine wpList_q (by rfl) (.bool true) ?he ?_
  case he => (go_simp; (try with_reducible rfl))
  (try simp only [Act.put, List.setIfInBounds_toArray, List.set_cons_zero, List.set_cons_succ])
  refine wpList_q (by rfl) (.bool true) ?he ?_
  case he => (go_simp; (try with_reducible rfl))
  (try simp only [Act.put, List.setIfInBounds_toArray, List.set_cons_zero, List.set_cons_succ])
  refine wpList_nil ?_
  go_wp2
  go_ret
  exact ⟨rfl, HS3.out⟩
end Go.Proofs.Ytfbnmoegdbdhjaa.Et
