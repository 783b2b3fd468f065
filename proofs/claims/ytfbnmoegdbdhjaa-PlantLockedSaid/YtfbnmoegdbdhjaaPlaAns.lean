/-
  What a program that does nothing does not answer, of cars (layer 11): it answers true.
  No condition.
-/
import Derived.Test.YtfbnmoegdbdhjaaPlaAll
import Derived.Test.YtfbnmoegdbdhjaaPlaGood
namespace Go.Proofs.Ytfbnmoegdbdhjaa.Pl
set_option linter.unusedVariables false
set_option linter.unusedSimpArgs false
open Go.RowKit Go.Proofs.Ytfbnmoegdbdhjaa.Ba Go.Proofs.Ytfbnmoegdbdhjaa.Do Go.Proofs.Ytfbnmoegdbdhjaa.Mo Go.Proofs.Ytfbnmoegdbdhjaa.Ty
set_option maxRecDepth 100000
theorem configA (w : World) : Calls Try.prog 50 #[] w fun e w' => e = .returned (.agg #[.int .i64 0, .int .i64 5, .int .i64 0, .int .i64 0, .int .i64 2, .int .i64 0, .int .i64 0, .int .i64 0, .int .i64 0, .int .i64 0, .int .i64 0, .int .i64 0, .int .i64 0, .int .i64 0, .int .i64 0, .int .i64 0, .int .i64 0, .int .i64 0]) ∧ Since w w' := by
  go_enter Try.func50, Try.ntmps50
  go_wp2
  exact bodyPost_ret (results_cell_row rfl _ _ w.heap.size 23 #[.int .i64 0, .int .i64 5, .int .i64 0, .int .i64 0, .int .i64 2, .int .i64 0, .int .i64 0, .int .i64 0, .int .i64 0, .int .i64 0, .int .i64 0, .int .i64 0, .int .i64 0, .int .i64 0, .int .i64 0, .int .i64 0, .int .i64 0, .int .i64 0] (0, 0) _ rfl (heap_alloc_new w _) Try.underlying23 rfl (by kernel_rfl)) rfl ⟨rfl, (Since.refl w).alloc _⟩
theorem stepA1 (w : World) : Calls Try.prog 20 #[.agg #[.int .i64 0, .int .i64 5, .int .i64 0, .int .i64 0, .int .i64 2, .int .i64 0, .int .i64 0, .int .i64 0, .int .i64 0, .int .i64 0, .int .i64 0, .int .i64 0, .int .i64 0, .int .i64 0, .int .i64 0, .int .i64 0, .int .i64 0, .int .i64 0], .agg #[.int .i64 0, .int .i64 0, .int .i64 0, .int .i64 0, .int .i64 0, .int .i64 (-1), .int .i64 0, .bool false, .bool false, .int .i64 0, .int .i64 0, .bool false, .int .u64 0, .int .u64 0, .int .u64 0], .agg #[.int .i64 1, .bool false, .bool false]] w fun e w' => e = .returned (.agg #[.int .i64 0, .int .i64 0, .int .i64 1, .int .i64 1, .int .i64 0, .int .i64 (-1), .int .i64 0, .bool false, .bool false, .int .i64 0, .int .i64 0, .bool false, .int .u64 0, .int .u64 0, .int .u64 0]) ∧ Since w w' := by
  have h := stepT ⟨0, 5, 0, 0, 2, 0, 0, 0, 0, 0, 0, 0, 0, 0, 0, 0, 0, 0⟩ ⟨0, 0, 0, 0, 0, (-1), 0, false, false, 0, 0, false, 0, 0, 0⟩ 1 false false (by decide) (by decide) (by decide) (by decide) w
  rw [show dS1 ⟨0, 5, 0, 0, 2, 0, 0, 0, 0, 0, 0, 0, 0, 0, 0, 0, 0, 0⟩ ⟨0, 0, 0, 0, 0, (-1), 0, false, false, 0, 0, false, 0, 0, 0⟩ false false = 0 by decide +kernel, show dA1 ⟨0, 5, 0, 0, 2, 0, 0, 0, 0, 0, 0, 0, 0, 0, 0, 0, 0, 0⟩ ⟨0, 0, 0, 0, 0, (-1), 0, false, false, 0, 0, false, 0, 0, 0⟩ false false = 0 by decide +kernel, show un1 ⟨0, 5, 0, 0, 2, 0, 0, 0, 0, 0, 0, 0, 0, 0, 0, 0, 0, 0⟩ ⟨0, 0, 0, 0, 0, (-1), 0, false, false, 0, 0, false, 0, 0, 0⟩ 1 false false = 1 by decide +kernel, show wy1 ⟨0, 5, 0, 0, 2, 0, 0, 0, 0, 0, 0, 0, 0, 0, 0, 0, 0, 0⟩ ⟨0, 0, 0, 0, 0, (-1), 0, false, false, 0, 0, false, 0, 0, 0⟩ 1 false false = 1 by decide +kernel] at h
  exact h
theorem stepA2 (w : World) : Calls Try.prog 20 #[.agg #[.int .i64 0, .int .i64 5, .int .i64 0, .int .i64 0, .int .i64 2, .int .i64 0, .int .i64 0, .int .i64 0, .int .i64 0, .int .i64 0, .int .i64 0, .int .i64 0, .int .i64 0, .int .i64 0, .int .i64 0, .int .i64 0, .int .i64 0, .int .i64 0], .agg #[.int .i64 0, .int .i64 0, .int .i64 0, .int .i64 0, .int .i64 0, .int .i64 (-1), .int .i64 0, .bool false, .bool false, .int .i64 0, .int .i64 0, .bool false, .int .u64 0, .int .u64 0, .int .u64 0], .agg #[.int .i64 1, .bool true, .bool false]] w fun e w' => e = .returned (.agg #[.int .i64 1, .int .i64 1, .int .i64 0, .int .i64 0, .int .i64 0, .int .i64 (-1), .int .i64 0, .bool false, .bool false, .int .i64 0, .int .i64 0, .bool false, .int .u64 0, .int .u64 0, .int .u64 0]) ∧ Since w w' := by
  have h := stepT ⟨0, 5, 0, 0, 2, 0, 0, 0, 0, 0, 0, 0, 0, 0, 0, 0, 0, 0⟩ ⟨0, 0, 0, 0, 0, (-1), 0, false, false, 0, 0, false, 0, 0, 0⟩ 1 true false (by decide) (by decide) (by decide) (by decide) w
  rw [show dS1 ⟨0, 5, 0, 0, 2, 0, 0, 0, 0, 0, 0, 0, 0, 0, 0, 0, 0, 0⟩ ⟨0, 0, 0, 0, 0, (-1), 0, false, false, 0, 0, false, 0, 0, 0⟩ true false = 1 by decide +kernel, show dA1 ⟨0, 5, 0, 0, 2, 0, 0, 0, 0, 0, 0, 0, 0, 0, 0, 0, 0, 0⟩ ⟨0, 0, 0, 0, 0, (-1), 0, false, false, 0, 0, false, 0, 0, 0⟩ true false = 1 by decide +kernel, show un1 ⟨0, 5, 0, 0, 2, 0, 0, 0, 0, 0, 0, 0, 0, 0, 0, 0, 0, 0⟩ ⟨0, 0, 0, 0, 0, (-1), 0, false, false, 0, 0, false, 0, 0, 0⟩ 1 true false = 0 by decide +kernel, show wy1 ⟨0, 5, 0, 0, 2, 0, 0, 0, 0, 0, 0, 0, 0, 0, 0, 0, 0, 0⟩ ⟨0, 0, 0, 0, 0, (-1), 0, false, false, 0, 0, false, 0, 0, 0⟩ 1 true false = 0 by decide +kernel] at h
  exact h
theorem goodA (w : World) : Calls Try.prog 17 #[.agg #[.int .i64 0, .int .i64 5, .int .i64 0, .int .i64 0, .int .i64 2, .int .i64 0, .int .i64 0, .int .i64 0, .int .i64 0, .int .i64 0, .int .i64 0, .int .i64 0, .int .i64 0, .int .i64 0, .int .i64 0, .int .i64 0, .int .i64 0, .int .i64 0], .agg #[.int .i64 1, .int .i64 1, .int .i64 0, .int .i64 0, .int .i64 0, .int .i64 (-1), .int .i64 0, .bool false, .bool false, .int .i64 0, .int .i64 0, .bool false, .int .u64 0, .int .u64 0, .int .u64 0]] w fun e w' => e = .returned (.bool true) ∧ Since w w' := by
  have h := goodT ⟨0, 5, 0, 0, 2, 0, 0, 0, 0, 0, 0, 0, 0, 0, 0, 0, 0, 0⟩ ⟨1, 1, 0, 0, 0, (-1), 0, false, false, 0, 0, false, 0, 0, 0⟩ w
  rw [show goodB ⟨0, 5, 0, 0, 2, 0, 0, 0, 0, 0, 0, 0, 0, 0, 0, 0, 0, 0⟩ ⟨1, 1, 0, 0, 0, (-1), 0, false, false, 0, 0, false, 0, 0, 0⟩ = true by decide +kernel] at h
  exact h
theorem safeA (w : World) : Calls Try.prog 22 #[.agg #[.int .i64 0, .int .i64 0, .int .i64 1, .int .i64 1, .int .i64 0, .int .i64 (-1), .int .i64 0, .bool false, .bool false, .int .i64 0, .int .i64 0, .bool false, .int .u64 0, .int .u64 0, .int .u64 0]] w fun e w' => e = .returned (.bool true) ∧ Since w w' := by
  have h := safeT ⟨0, 0, 1, 1, 0, (-1), 0, false, false, 0, 0, false, 0, 0, 0⟩ w
  rw [show safeB ⟨0, 0, 1, 1, 0, (-1), 0, false, false, 0, 0, false, 0, 0, 0⟩ = true by decide +kernel] at h
  exact h
set_option maxHeartbeats 4000000 in
theorem ans (w : World) : Calls Try.prog 19 #[] w fun e w' => e = .returned (.bool true) ∧ Since w w' := by
  go_enter Try.func19, Try.ntmps19
  go_wp2_with fail
  refine (configA _).mono ?_
  rintro e w1 ⟨rfl, hb1⟩
  go_wp2_with fail
  refine (newT _).mono ?_
  rintro e w2 ⟨rfl, hb2⟩
  go_wp2_with fail
  refine (stepA1 _).mono ?_
  rintro e w3 ⟨rfl, hb3⟩
  have HS3 := Lib.hid (show Since w w3 from (hb1.trans hb2).trans hb3)
  clear hb1 hb2 hb3
  go_wp2_with fail
  refine (configA _).mono ?_
  rintro e w4 ⟨rfl, hb4⟩
  have x0 : w4.cell? ⟨w3.heap.size, 0, none⟩ = some (.int .i64 0) := keep_cell hb4 (by simp [go_sem])
  have x1 : w4.cell? ⟨w3.heap.size, 1, none⟩ = some (.int .i64 0) := keep_cell hb4 (by simp [go_sem])
  have x2 : w4.cell? ⟨w3.heap.size, 2, none⟩ = some (.int .i64 1) := keep_cell hb4 (by simp [go_sem])
  have x3 : w4.cell? ⟨w3.heap.size, 3, none⟩ = some (.int .i64 1) := keep_cell hb4 (by simp [go_sem])
  have x4 : w4.cell? ⟨w3.heap.size, 4, none⟩ = some (.int .i64 0) := keep_cell hb4 (by simp [go_sem])
  have x5 : w4.cell? ⟨w3.heap.size, 5, none⟩ = some (.int .i64 (-1)) := keep_cell hb4 (by simp [go_sem])
  have x6 : w4.cell? ⟨w3.heap.size, 6, none⟩ = some (.int .i64 0) := keep_cell hb4 (by simp [go_sem])
  have x7 : w4.cell? ⟨w3.heap.size, 7, none⟩ = some (.bool false) := keep_cell hb4 (by simp [go_sem])
  have x8 : w4.cell? ⟨w3.heap.size, 8, none⟩ = some (.bool false) := keep_cell hb4 (by simp [go_sem])
  have x9 : w4.cell? ⟨w3.heap.size, 9, none⟩ = some (.int .i64 0) := keep_cell hb4 (by simp [go_sem])
  have x10 : w4.cell? ⟨w3.heap.size, 10, none⟩ = some (.int .i64 0) := keep_cell hb4 (by simp [go_sem])
  have x11 : w4.cell? ⟨w3.heap.size, 11, none⟩ = some (.bool false) := keep_cell hb4 (by simp [go_sem])
  have x12 : w4.cell? ⟨w3.heap.size, 12, none⟩ = some (.int .u64 0) := keep_cell hb4 (by simp [go_sem])
  have x13 : w4.cell? ⟨w3.heap.size, 13, none⟩ = some (.int .u64 0) := keep_cell hb4 (by simp [go_sem])
  have x14 : w4.cell? ⟨w3.heap.size, 14, none⟩ = some (.int .u64 0) := keep_cell hb4 (by simp [go_sem])
  have HS4 := Lib.hid (show Since w w4 from Since.trans (by repeat (first | exact HS3.out | refine Since.setCell ?_ (by have := HS3.out.size; first | (simp; done) | (simp; omega)) _ | refine Since.alloc ?_ _)) hb4)
  clear hb4 HS3
  go_wp2_with fail
  refine (newT _).mono ?_
  rintro e w5 ⟨rfl, hb5⟩
  replace x0 := keep_cell hb5 x0
  replace x1 := keep_cell hb5 x1
  replace x2 := keep_cell hb5 x2
  replace x3 := keep_cell hb5 x3
  replace x4 := keep_cell hb5 x4
  replace x5 := keep_cell hb5 x5
  replace x6 := keep_cell hb5 x6
  replace x7 := keep_cell hb5 x7
  replace x8 := keep_cell hb5 x8
  replace x9 := keep_cell hb5 x9
  replace x10 := keep_cell hb5 x10
  replace x11 := keep_cell hb5 x11
  replace x12 := keep_cell hb5 x12
  replace x13 := keep_cell hb5 x13
  replace x14 := keep_cell hb5 x14
  have HS5 := Lib.hid (HS4.out.trans hb5)
  clear hb5 HS4
  go_wp2_with fail
  refine (stepA2 _).mono ?_
  rintro e w6 ⟨rfl, hb6⟩
  replace x0 := keep_cell hb6 x0
  replace x1 := keep_cell hb6 x1
  replace x2 := keep_cell hb6 x2
  replace x3 := keep_cell hb6 x3
  replace x4 := keep_cell hb6 x4
  replace x5 := keep_cell hb6 x5
  replace x6 := keep_cell hb6 x6
  replace x7 := keep_cell hb6 x7
  replace x8 := keep_cell hb6 x8
  replace x9 := keep_cell hb6 x9
  replace x10 := keep_cell hb6 x10
  replace x11 := keep_cell hb6 x11
  replace x12 := keep_cell hb6 x12
  replace x13 := keep_cell hb6 x13
  replace x14 := keep_cell hb6 x14
  have HS6 := Lib.hid (HS5.out.trans hb6)
  clear hb6 HS5
  go_wp2_with fail
  obtain ⟨w7, hw7⟩ : ∃ w7, w7 = w6.alloc (.cells #[.int .i64 1, .int .i64 1, .int .i64 0, .int .i64 0, .int .i64 0, .int .i64 (-1), .int .i64 0, .bool false, .bool false, .int .i64 0, .int .i64 0, .bool false, .int .u64 0, .int .u64 0, .int .u64 0] 30) := ⟨_, rfl⟩
  rw [← hw7]
  have hb7 : Since w6 w7 := by rw [hw7]; exact (Since.refl w6).alloc _
  replace x0 := keep_cell hb7 x0
  replace x1 := keep_cell hb7 x1
  replace x2 := keep_cell hb7 x2
  replace x3 := keep_cell hb7 x3
  replace x4 := keep_cell hb7 x4
  replace x5 := keep_cell hb7 x5
  replace x6 := keep_cell hb7 x6
  replace x7 := keep_cell hb7 x7
  replace x8 := keep_cell hb7 x8
  replace x9 := keep_cell hb7 x9
  replace x10 := keep_cell hb7 x10
  replace x11 := keep_cell hb7 x11
  replace x12 := keep_cell hb7 x12
  replace x13 := keep_cell hb7 x13
  replace x14 := keep_cell hb7 x14
  have y0 : w7.cell? ⟨w6.heap.size, 0, none⟩ = some (.int .i64 1) := by rw [hw7]; simp [go_sem]
  have y1 : w7.cell? ⟨w6.heap.size, 1, none⟩ = some (.int .i64 1) := by rw [hw7]; simp [go_sem]
  have y2 : w7.cell? ⟨w6.heap.size, 2, none⟩ = some (.int .i64 0) := by rw [hw7]; simp [go_sem]
  have y3 : w7.cell? ⟨w6.heap.size, 3, none⟩ = some (.int .i64 0) := by rw [hw7]; simp [go_sem]
  have y4 : w7.cell? ⟨w6.heap.size, 4, none⟩ = some (.int .i64 0) := by rw [hw7]; simp [go_sem]
  have y5 : w7.cell? ⟨w6.heap.size, 5, none⟩ = some (.int .i64 (-1)) := by rw [hw7]; simp [go_sem]
  have y6 : w7.cell? ⟨w6.heap.size, 6, none⟩ = some (.int .i64 0) := by rw [hw7]; simp [go_sem]
  have y7 : w7.cell? ⟨w6.heap.size, 7, none⟩ = some (.bool false) := by rw [hw7]; simp [go_sem]
  have y8 : w7.cell? ⟨w6.heap.size, 8, none⟩ = some (.bool false) := by rw [hw7]; simp [go_sem]
  have y9 : w7.cell? ⟨w6.heap.size, 9, none⟩ = some (.int .i64 0) := by rw [hw7]; simp [go_sem]
  have y10 : w7.cell? ⟨w6.heap.size, 10, none⟩ = some (.int .i64 0) := by rw [hw7]; simp [go_sem]
  have y11 : w7.cell? ⟨w6.heap.size, 11, none⟩ = some (.bool false) := by rw [hw7]; simp [go_sem]
  have y12 : w7.cell? ⟨w6.heap.size, 12, none⟩ = some (.int .u64 0) := by rw [hw7]; simp [go_sem]
  have y13 : w7.cell? ⟨w6.heap.size, 13, none⟩ = some (.int .u64 0) := by rw [hw7]; simp [go_sem]
  have y14 : w7.cell? ⟨w6.heap.size, 14, none⟩ = some (.int .u64 0) := by rw [hw7]; simp [go_sem]
  have HS7 := Lib.hid (HS6.out.trans hb7)
  clear hb7 hw7 HS6
  have hrK : ∀ W W' : World, Since W W' → (Since w7 W ∧ W.cell? ⟨w3.heap.size, 0, none⟩ = some (.int .i64 0) ∧ W.cell? ⟨w3.heap.size, 1, none⟩ = some (.int .i64 0) ∧ W.cell? ⟨w3.heap.size, 2, none⟩ = some (.int .i64 1) ∧ W.cell? ⟨w3.heap.size, 3, none⟩ = some (.int .i64 1) ∧ W.cell? ⟨w3.heap.size, 4, none⟩ = some (.int .i64 0) ∧ W.cell? ⟨w3.heap.size, 5, none⟩ = some (.int .i64 (-1)) ∧ W.cell? ⟨w3.heap.size, 6, none⟩ = some (.int .i64 0) ∧ W.cell? ⟨w3.heap.size, 7, none⟩ = some (.bool false) ∧ W.cell? ⟨w3.heap.size, 8, none⟩ = some (.bool false) ∧ W.cell? ⟨w3.heap.size, 9, none⟩ = some (.int .i64 0) ∧ W.cell? ⟨w3.heap.size, 10, none⟩ = some (.int .i64 0) ∧ W.cell? ⟨w3.heap.size, 11, none⟩ = some (.bool false) ∧ W.cell? ⟨w3.heap.size, 12, none⟩ = some (.int .u64 0) ∧ W.cell? ⟨w3.heap.size, 13, none⟩ = some (.int .u64 0) ∧ W.cell? ⟨w3.heap.size, 14, none⟩ = some (.int .u64 0) ∧ W.cell? ⟨w6.heap.size, 0, none⟩ = some (.int .i64 1) ∧ W.cell? ⟨w6.heap.size, 1, none⟩ = some (.int .i64 1) ∧ W.cell? ⟨w6.heap.size, 2, none⟩ = some (.int .i64 0) ∧ W.cell? ⟨w6.heap.size, 3, none⟩ = some (.int .i64 0) ∧ W.cell? ⟨w6.heap.size, 4, none⟩ = some (.int .i64 0) ∧ W.cell? ⟨w6.heap.size, 5, none⟩ = some (.int .i64 (-1)) ∧ W.cell? ⟨w6.heap.size, 6, none⟩ = some (.int .i64 0) ∧ W.cell? ⟨w6.heap.size, 7, none⟩ = some (.bool false) ∧ W.cell? ⟨w6.heap.size, 8, none⟩ = some (.bool false) ∧ W.cell? ⟨w6.heap.size, 9, none⟩ = some (.int .i64 0) ∧ W.cell? ⟨w6.heap.size, 10, none⟩ = some (.int .i64 0) ∧ W.cell? ⟨w6.heap.size, 11, none⟩ = some (.bool false) ∧ W.cell? ⟨w6.heap.size, 12, none⟩ = some (.int .u64 0) ∧ W.cell? ⟨w6.heap.size, 13, none⟩ = some (.int .u64 0) ∧ W.cell? ⟨w6.heap.size, 14, none⟩ = some (.int .u64 0)) → (Since w7 W' ∧ W'.cell? ⟨w3.heap.size, 0, none⟩ = some (.int .i64 0) ∧ W'.cell? ⟨w3.heap.size, 1, none⟩ = some (.int .i64 0) ∧ W'.cell? ⟨w3.heap.size, 2, none⟩ = some (.int .i64 1) ∧ W'.cell? ⟨w3.heap.size, 3, none⟩ = some (.int .i64 1) ∧ W'.cell? ⟨w3.heap.size, 4, none⟩ = some (.int .i64 0) ∧ W'.cell? ⟨w3.heap.size, 5, none⟩ = some (.int .i64 (-1)) ∧ W'.cell? ⟨w3.heap.size, 6, none⟩ = some (.int .i64 0) ∧ W'.cell? ⟨w3.heap.size, 7, none⟩ = some (.bool false) ∧ W'.cell? ⟨w3.heap.size, 8, none⟩ = some (.bool false) ∧ W'.cell? ⟨w3.heap.size, 9, none⟩ = some (.int .i64 0) ∧ W'.cell? ⟨w3.heap.size, 10, none⟩ = some (.int .i64 0) ∧ W'.cell? ⟨w3.heap.size, 11, none⟩ = some (.bool false) ∧ W'.cell? ⟨w3.heap.size, 12, none⟩ = some (.int .u64 0) ∧ W'.cell? ⟨w3.heap.size, 13, none⟩ = some (.int .u64 0) ∧ W'.cell? ⟨w3.heap.size, 14, none⟩ = some (.int .u64 0) ∧ W'.cell? ⟨w6.heap.size, 0, none⟩ = some (.int .i64 1) ∧ W'.cell? ⟨w6.heap.size, 1, none⟩ = some (.int .i64 1) ∧ W'.cell? ⟨w6.heap.size, 2, none⟩ = some (.int .i64 0) ∧ W'.cell? ⟨w6.heap.size, 3, none⟩ = some (.int .i64 0) ∧ W'.cell? ⟨w6.heap.size, 4, none⟩ = some (.int .i64 0) ∧ W'.cell? ⟨w6.heap.size, 5, none⟩ = some (.int .i64 (-1)) ∧ W'.cell? ⟨w6.heap.size, 6, none⟩ = some (.int .i64 0) ∧ W'.cell? ⟨w6.heap.size, 7, none⟩ = some (.bool false) ∧ W'.cell? ⟨w6.heap.size, 8, none⟩ = some (.bool false) ∧ W'.cell? ⟨w6.heap.size, 9, none⟩ = some (.int .i64 0) ∧ W'.cell? ⟨w6.heap.size, 10, none⟩ = some (.int .i64 0) ∧ W'.cell? ⟨w6.heap.size, 11, none⟩ = some (.bool false) ∧ W'.cell? ⟨w6.heap.size, 12, none⟩ = some (.int .u64 0) ∧ W'.cell? ⟨w6.heap.size, 13, none⟩ = some (.int .u64 0) ∧ W'.cell? ⟨w6.heap.size, 14, none⟩ = some (.int .u64 0)) := fun W W' k ⟨h, h0, h1, h2, h3, h4, h5, h6, h7, h8, h9, h10, h11, h12, h13, h14, h15, h16, h17, h18, h19, h20, h21, h22, h23, h24, h25, h26, h27, h28, h29⟩ => ⟨h.trans k, keep_cell k h0, keep_cell k h1, keep_cell k h2, keep_cell k h3, keep_cell k h4, keep_cell k h5, keep_cell k h6, keep_cell k h7, keep_cell k h8, keep_cell k h9, keep_cell k h10, keep_cell k h11, keep_cell k h12, keep_cell k h13, keep_cell k h14, keep_cell k h15, keep_cell k h16, keep_cell k h17, keep_cell k h18, keep_cell k h19, keep_cell k h20, keep_cell k h21, keep_cell k h22, keep_cell k h23, keep_cell k h24, keep_cell k h25, keep_cell k h26, keep_cell k h27, keep_cell k h28, keep_cell k h29⟩
  have hrS : (fun W : World => Since w7 W ∧ W.cell? ⟨w3.heap.size, 0, none⟩ = some (.int .i64 0) ∧ W.cell? ⟨w3.heap.size, 1, none⟩ = some (.int .i64 0) ∧ W.cell? ⟨w3.heap.size, 2, none⟩ = some (.int .i64 1) ∧ W.cell? ⟨w3.heap.size, 3, none⟩ = some (.int .i64 1) ∧ W.cell? ⟨w3.heap.size, 4, none⟩ = some (.int .i64 0) ∧ W.cell? ⟨w3.heap.size, 5, none⟩ = some (.int .i64 (-1)) ∧ W.cell? ⟨w3.heap.size, 6, none⟩ = some (.int .i64 0) ∧ W.cell? ⟨w3.heap.size, 7, none⟩ = some (.bool false) ∧ W.cell? ⟨w3.heap.size, 8, none⟩ = some (.bool false) ∧ W.cell? ⟨w3.heap.size, 9, none⟩ = some (.int .i64 0) ∧ W.cell? ⟨w3.heap.size, 10, none⟩ = some (.int .i64 0) ∧ W.cell? ⟨w3.heap.size, 11, none⟩ = some (.bool false) ∧ W.cell? ⟨w3.heap.size, 12, none⟩ = some (.int .u64 0) ∧ W.cell? ⟨w3.heap.size, 13, none⟩ = some (.int .u64 0) ∧ W.cell? ⟨w3.heap.size, 14, none⟩ = some (.int .u64 0) ∧ W.cell? ⟨w6.heap.size, 0, none⟩ = some (.int .i64 1) ∧ W.cell? ⟨w6.heap.size, 1, none⟩ = some (.int .i64 1) ∧ W.cell? ⟨w6.heap.size, 2, none⟩ = some (.int .i64 0) ∧ W.cell? ⟨w6.heap.size, 3, none⟩ = some (.int .i64 0) ∧ W.cell? ⟨w6.heap.size, 4, none⟩ = some (.int .i64 0) ∧ W.cell? ⟨w6.heap.size, 5, none⟩ = some (.int .i64 (-1)) ∧ W.cell? ⟨w6.heap.size, 6, none⟩ = some (.int .i64 0) ∧ W.cell? ⟨w6.heap.size, 7, none⟩ = some (.bool false) ∧ W.cell? ⟨w6.heap.size, 8, none⟩ = some (.bool false) ∧ W.cell? ⟨w6.heap.size, 9, none⟩ = some (.int .i64 0) ∧ W.cell? ⟨w6.heap.size, 10, none⟩ = some (.int .i64 0) ∧ W.cell? ⟨w6.heap.size, 11, none⟩ = some (.bool false) ∧ W.cell? ⟨w6.heap.size, 12, none⟩ = some (.int .u64 0) ∧ W.cell? ⟨w6.heap.size, 13, none⟩ = some (.int .u64 0) ∧ W.cell? ⟨w6.heap.size, 14, none⟩ = some (.int .u64 0)) (w7) := ⟨Since.refl _, by first | assumption | (simp; done), by first | assumption | (simp; done), by first | assumption | (simp; done), by first | assumption | (simp; done), by first | assumption | (simp; done), by first | assumption | (simp; done), by first | assumption | (simp; done), by first | assumption | (simp; done), by first | assumption | (simp; done), by first | assumption | (simp; done), by first | assumption | (simp; done), by first | assumption | (simp; done), by first | assumption | (simp; done), by first | assumption | (simp; done), by first | assumption | (simp; done), by first | assumption | (simp; done), by first | assumption | (simp; done), by first | assumption | (simp; done), by first | assumption | (simp; done), by first | assumption | (simp; done), by first | assumption | (simp; done), by first | assumption | (simp; done), by first | assumption | (simp; done), by first | assumption | (simp; done), by first | assumption | (simp; done), by first | assumption | (simp; done), by first | assumption | (simp; done), by first | assumption | (simp; done), by first | assumption | (simp; done), by first | assumption | (simp; done)⟩
  have HRK := Lib.hid hrK
  have HRD := Lib.hid (show (fun W : World => Since w7 W ∧ W.cell? ⟨w3.heap.size, 0, none⟩ = some (.int .i64 0) ∧ W.cell? ⟨w3.heap.size, 1, none⟩ = some (.int .i64 0) ∧ W.cell? ⟨w3.heap.size, 2, none⟩ = some (.int .i64 1) ∧ W.cell? ⟨w3.heap.size, 3, none⟩ = some (.int .i64 1) ∧ W.cell? ⟨w3.heap.size, 4, none⟩ = some (.int .i64 0) ∧ W.cell? ⟨w3.heap.size, 5, none⟩ = some (.int .i64 (-1)) ∧ W.cell? ⟨w3.heap.size, 6, none⟩ = some (.int .i64 0) ∧ W.cell? ⟨w3.heap.size, 7, none⟩ = some (.bool false) ∧ W.cell? ⟨w3.heap.size, 8, none⟩ = some (.bool false) ∧ W.cell? ⟨w3.heap.size, 9, none⟩ = some (.int .i64 0) ∧ W.cell? ⟨w3.heap.size, 10, none⟩ = some (.int .i64 0) ∧ W.cell? ⟨w3.heap.size, 11, none⟩ = some (.bool false) ∧ W.cell? ⟨w3.heap.size, 12, none⟩ = some (.int .u64 0) ∧ W.cell? ⟨w3.heap.size, 13, none⟩ = some (.int .u64 0) ∧ W.cell? ⟨w3.heap.size, 14, none⟩ = some (.int .u64 0) ∧ W.cell? ⟨w6.heap.size, 0, none⟩ = some (.int .i64 1) ∧ W.cell? ⟨w6.heap.size, 1, none⟩ = some (.int .i64 1) ∧ W.cell? ⟨w6.heap.size, 2, none⟩ = some (.int .i64 0) ∧ W.cell? ⟨w6.heap.size, 3, none⟩ = some (.int .i64 0) ∧ W.cell? ⟨w6.heap.size, 4, none⟩ = some (.int .i64 0) ∧ W.cell? ⟨w6.heap.size, 5, none⟩ = some (.int .i64 (-1)) ∧ W.cell? ⟨w6.heap.size, 6, none⟩ = some (.int .i64 0) ∧ W.cell? ⟨w6.heap.size, 7, none⟩ = some (.bool false) ∧ W.cell? ⟨w6.heap.size, 8, none⟩ = some (.bool false) ∧ W.cell? ⟨w6.heap.size, 9, none⟩ = some (.int .i64 0) ∧ W.cell? ⟨w6.heap.size, 10, none⟩ = some (.int .i64 0) ∧ W.cell? ⟨w6.heap.size, 11, none⟩ = some (.bool false) ∧ W.cell? ⟨w6.heap.size, 12, none⟩ = some (.int .u64 0) ∧ W.cell? ⟨w6.heap.size, 13, none⟩ = some (.int .u64 0) ∧ W.cell? ⟨w6.heap.size, 14, none⟩ = some (.int .u64 0)) (World.drew (w7)) from ⟨(Since.refl _).drew, hrS.2⟩)
  clear hrK hrS
  refine wp_region_held_drew (S := fun W : World => Since w7 W ∧ W.cell? ⟨w3.heap.size, 0, none⟩ = some (.int .i64 0) ∧ W.cell? ⟨w3.heap.size, 1, none⟩ = some (.int .i64 0) ∧ W.cell? ⟨w3.heap.size, 2, none⟩ = some (.int .i64 1) ∧ W.cell? ⟨w3.heap.size, 3, none⟩ = some (.int .i64 1) ∧ W.cell? ⟨w3.heap.size, 4, none⟩ = some (.int .i64 0) ∧ W.cell? ⟨w3.heap.size, 5, none⟩ = some (.int .i64 (-1)) ∧ W.cell? ⟨w3.heap.size, 6, none⟩ = some (.int .i64 0) ∧ W.cell? ⟨w3.heap.size, 7, none⟩ = some (.bool false) ∧ W.cell? ⟨w3.heap.size, 8, none⟩ = some (.bool false) ∧ W.cell? ⟨w3.heap.size, 9, none⟩ = some (.int .i64 0) ∧ W.cell? ⟨w3.heap.size, 10, none⟩ = some (.int .i64 0) ∧ W.cell? ⟨w3.heap.size, 11, none⟩ = some (.bool false) ∧ W.cell? ⟨w3.heap.size, 12, none⟩ = some (.int .u64 0) ∧ W.cell? ⟨w3.heap.size, 13, none⟩ = some (.int .u64 0) ∧ W.cell? ⟨w3.heap.size, 14, none⟩ = some (.int .u64 0) ∧ W.cell? ⟨w6.heap.size, 0, none⟩ = some (.int .i64 1) ∧ W.cell? ⟨w6.heap.size, 1, none⟩ = some (.int .i64 1) ∧ W.cell? ⟨w6.heap.size, 2, none⟩ = some (.int .i64 0) ∧ W.cell? ⟨w6.heap.size, 3, none⟩ = some (.int .i64 0) ∧ W.cell? ⟨w6.heap.size, 4, none⟩ = some (.int .i64 0) ∧ W.cell? ⟨w6.heap.size, 5, none⟩ = some (.int .i64 (-1)) ∧ W.cell? ⟨w6.heap.size, 6, none⟩ = some (.int .i64 0) ∧ W.cell? ⟨w6.heap.size, 7, none⟩ = some (.bool false) ∧ W.cell? ⟨w6.heap.size, 8, none⟩ = some (.bool false) ∧ W.cell? ⟨w6.heap.size, 9, none⟩ = some (.int .i64 0) ∧ W.cell? ⟨w6.heap.size, 10, none⟩ = some (.int .i64 0) ∧ W.cell? ⟨w6.heap.size, 11, none⟩ = some (.bool false) ∧ W.cell? ⟨w6.heap.size, 12, none⟩ = some (.int .u64 0) ∧ W.cell? ⟨w6.heap.size, 13, none⟩ = some (.int .u64 0) ∧ W.cell? ⟨w6.heap.size, 14, none⟩ = some (.int .u64 0)) (by kernel_rfl) HRD.out (fun hHeld => ?_)
  refine wpAnyH_take (i := 1) (oi := ?o1) (v := ?v1) ?h1 (by kernel_rfl) (by kernel_rfl) (by kernel_rfl) ?q1 ?y1 (by assumption) ?_
  case h1 => (simp only [List.getElem?_toArray, List.getElem?_cons_zero, List.getElem?_cons_succ]; exact rfl)
  case q1 => exact fun _ _ _ h => h
  case y1 => (refine Or.inl ⟨rfl, ?_⟩; intro w hSw; (try dsimp only at hSw); go_simp; (try with_reducible rfl))
  (try simp only [Act.put, List.setIfInBounds_toArray, List.set_cons_zero, List.set_cons_succ])
  refine wpAnyH_ready (rs := [0]) (by kernel_rfl) (by simp) ?_
  refine AllReadyH.cons (o := ?o0) ?h0 (fun K hK => ?_) AllReadyH.nil
  case h0 => (simp only [List.getElem?_toArray, List.getElem?_cons_zero, List.getElem?_cons_succ]; exact rfl)
  (try go_simp)
  (go_at_call 23; refine (newT _).mono ?_; rintro e w9 ⟨rfl, hb9⟩)
  (try go_wp2_with fail)
  refine hK.out _ _ ?_ (fun hHeld2 => ?_)
  · first | exact HRD.out | exact hHeld | (apply HRK.out; assumption; assumption)
  clear hK K hHeld
  have hHeld := hHeld2
  clear hHeld2
  (try simp only [Act.put, List.setIfInBounds_toArray, List.set_cons_zero, List.set_cons_succ])
  refine wpAnyH_take (i := 2) (oi := ?o2) (v := ?v2) ?h2 (by kernel_rfl) (by kernel_rfl) (by kernel_rfl) ?q2 ?y2 (by assumption) ?_
  case h2 => (simp only [List.getElem?_toArray, List.getElem?_cons_zero, List.getElem?_cons_succ]; exact rfl)
  case q2 => exact fun _ _ _ h => h
  case y2 => (refine Or.inl ⟨rfl, ?_⟩; intro w hSw; (try dsimp only at hSw); go_simp; (try with_reducible rfl))
  (try simp only [Act.put, List.setIfInBounds_toArray, List.set_cons_zero, List.set_cons_succ])
  refine wpAnyH_take (i := 3) (oi := ?o3) (v := ?v3) ?h3 (by kernel_rfl) (by kernel_rfl) (by kernel_rfl) ?q3 ?y3 (by assumption) ?_
  case h3 => (simp only [List.getElem?_toArray, List.getElem?_cons_zero, List.getElem?_cons_succ]; exact rfl)
  case q3 => exact fun _ _ _ h => h
  case y3 => (refine Or.inl ⟨rfl, ?_⟩; intro w hSw; (try dsimp only at hSw); go_simp; (try with_reducible rfl))
  (try simp only [Act.put, List.setIfInBounds_toArray, List.set_cons_zero, List.set_cons_succ])
  refine wpAnyH_take (i := 4) (oi := ?o4) (v := ?v4) ?h4 (by kernel_rfl) (by kernel_rfl) (by kernel_rfl) ?q4 ?y4 (by assumption) ?_
  case h4 => (simp only [List.getElem?_toArray, List.getElem?_cons_zero, List.getElem?_cons_succ]; exact rfl)
  case q4 => exact fun _ _ _ h => h
  case y4 => (refine Or.inl ⟨rfl, ?_⟩; intro w hSw; (try dsimp only at hSw); go_simp; (try with_reducible rfl))
  (try simp only [Act.put, List.setIfInBounds_toArray, List.set_cons_zero, List.set_cons_succ])
  refine wpAnyH_take (i := 5) (oi := ?o5) (v := ?v5) ?h5 (by kernel_rfl) (by kernel_rfl) (by kernel_rfl) ?q5 ?y5 (by assumption) ?_
  case h5 => (simp only [List.getElem?_toArray, List.getElem?_cons_zero, List.getElem?_cons_succ]; exact rfl)
  case q5 => exact fun _ _ _ h => h
  case y5 => (refine Or.inl ⟨rfl, ?_⟩; intro w hSw; (try dsimp only at hSw); go_simp; (try with_reducible rfl))
  (try simp only [Act.put, List.setIfInBounds_toArray, List.set_cons_zero, List.set_cons_succ])
  refine wpAnyH_take (i := 6) (oi := ?o6) (v := ?v6) ?h6 (by kernel_rfl) (by kernel_rfl) (by kernel_rfl) ?q6 ?y6 (by assumption) ?_
  case h6 => (simp only [List.getElem?_toArray, List.getElem?_cons_zero, List.getElem?_cons_succ]; exact rfl)
  case q6 => exact fun _ _ _ h => h
  case y6 => (refine Or.inl ⟨rfl, ?_⟩; intro w hSw; (try dsimp only at hSw); go_simp; (try with_reducible rfl))
  (try simp only [Act.put, List.setIfInBounds_toArray, List.set_cons_zero, List.set_cons_succ])
  refine wpAnyH_take (i := 7) (oi := ?o7) (v := ?v7) ?h7 (by kernel_rfl) (by kernel_rfl) (by kernel_rfl) ?q7 ?y7 (by assumption) ?_
  case h7 => (simp only [List.getElem?_toArray, List.getElem?_cons_zero, List.getElem?_cons_succ]; exact rfl)
  case q7 => exact fun _ _ _ h => h
  case y7 => (refine Or.inl ⟨rfl, ?_⟩; intro w hSw; (try dsimp only at hSw); go_simp; (try with_reducible rfl))
  (try simp only [Act.put, List.setIfInBounds_toArray, List.set_cons_zero, List.set_cons_succ])
  refine wpAnyH_take (i := 8) (oi := ?o8) (v := ?v8) ?h8 (by kernel_rfl) (by kernel_rfl) (by kernel_rfl) ?q8 ?y8 (by assumption) ?_
  case h8 => (simp only [List.getElem?_toArray, List.getElem?_cons_zero, List.getElem?_cons_succ]; exact rfl)
  case q8 => exact fun _ _ _ h => h
  case y8 => (refine Or.inl ⟨rfl, ?_⟩; intro w hSw; (try dsimp only at hSw); go_simp; (try with_reducible rfl))
  (try simp only [Act.put, List.setIfInBounds_toArray, List.set_cons_zero, List.set_cons_succ])
  refine wpAnyH_take (i := 9) (oi := ?o9) (v := ?v9) ?h9 (by kernel_rfl) (by kernel_rfl) (by kernel_rfl) ?q9 ?y9 (by assumption) ?_
  case h9 => (simp only [List.getElem?_toArray, List.getElem?_cons_zero, List.getElem?_cons_succ]; exact rfl)
  case q9 => exact fun _ _ _ h => h
  case y9 => (refine Or.inl ⟨rfl, ?_⟩; intro w hSw; (try dsimp only at hSw); go_simp; (try with_reducible rfl))
  (try simp only [Act.put, List.setIfInBounds_toArray, List.set_cons_zero, List.set_cons_succ])
  refine wpAnyH_take (i := 10) (oi := ?o10) (v := ?v10) ?h10 (by kernel_rfl) (by kernel_rfl) (by kernel_rfl) ?q10 ?y10 (by assumption) ?_
  case h10 => (simp only [List.getElem?_toArray, List.getElem?_cons_zero, List.getElem?_cons_succ]; exact rfl)
  case q10 => exact fun _ _ _ h => h
  case y10 => (refine Or.inl ⟨rfl, ?_⟩; intro w hSw; (try dsimp only at hSw); go_simp; (try with_reducible rfl))
  (try simp only [Act.put, List.setIfInBounds_toArray, List.set_cons_zero, List.set_cons_succ])
  refine wpAnyH_take (i := 11) (oi := ?o11) (v := ?v11) ?h11 (by kernel_rfl) (by kernel_rfl) (by kernel_rfl) ?q11 ?y11 (by assumption) ?_
  case h11 => (simp only [List.getElem?_toArray, List.getElem?_cons_zero, List.getElem?_cons_succ]; exact rfl)
  case q11 => exact fun _ _ _ h => h
  case y11 => (refine Or.inl ⟨rfl, ?_⟩; intro w hSw; (try dsimp only at hSw); go_simp; (try with_reducible rfl))
  (try simp only [Act.put, List.setIfInBounds_toArray, List.set_cons_zero, List.set_cons_succ])
  refine wpAnyH_take (i := 12) (oi := ?o12) (v := ?v12) ?h12 (by kernel_rfl) (by kernel_rfl) (by kernel_rfl) ?q12 ?y12 (by assumption) ?_
  case h12 => (simp only [List.getElem?_toArray, List.getElem?_cons_zero, List.getElem?_cons_succ]; exact rfl)
  case q12 => exact fun _ _ _ h => h
  case y12 => (refine Or.inl ⟨rfl, ?_⟩; intro w hSw; (try dsimp only at hSw); go_simp; (try with_reducible rfl))
  (try simp only [Act.put, List.setIfInBounds_toArray, List.set_cons_zero, List.set_cons_succ])
  refine wpAnyH_take (i := 13) (oi := ?o13) (v := ?v13) ?h13 (by kernel_rfl) (by kernel_rfl) (by kernel_rfl) ?q13 ?y13 (by assumption) ?_
  case h13 => (simp only [List.getElem?_toArray, List.getElem?_cons_zero, List.getElem?_cons_succ]; exact rfl)
  case q13 => exact fun _ _ _ h => h
  case y13 => (refine Or.inl ⟨rfl, ?_⟩; intro w hSw; (try dsimp only at hSw); go_simp; (try with_reducible rfl))
  (try simp only [Act.put, List.setIfInBounds_toArray, List.set_cons_zero, List.set_cons_succ])
  refine wpAnyH_take (i := 14) (oi := ?o14) (v := ?v14) ?h14 (by kernel_rfl) (by kernel_rfl) (by kernel_rfl) ?q14 ?y14 (by assumption) ?_
  case h14 => (simp only [List.getElem?_toArray, List.getElem?_cons_zero, List.getElem?_cons_succ]; exact rfl)
  case q14 => exact fun _ _ _ h => h
  case y14 => (refine Or.inl ⟨rfl, ?_⟩; intro w hSw; (try dsimp only at hSw); go_simp; (try with_reducible rfl))
  (try simp only [Act.put, List.setIfInBounds_toArray, List.set_cons_zero, List.set_cons_succ])
  refine wpAnyH_take (i := 15) (oi := ?o15) (v := ?v15) ?h15 (by kernel_rfl) (by kernel_rfl) (by kernel_rfl) ?q15 ?y15 (by assumption) ?_
  case h15 => (simp only [List.getElem?_toArray, List.getElem?_cons_zero, List.getElem?_cons_succ]; exact rfl)
  case q15 => exact fun _ _ _ h => h
  case y15 => (refine Or.inl ⟨rfl, ?_⟩; intro w hSw; (try dsimp only at hSw); go_simp; (try with_reducible rfl))
  (try simp only [Act.put, List.setIfInBounds_toArray, List.set_cons_zero, List.set_cons_succ])
  refine wpAnyH_take (i := 16) (oi := ?o16) (v := ?v16) ?h16 (by kernel_rfl) (by kernel_rfl) (by kernel_rfl) ?q16 ?y16 (by assumption) ?_
  case h16 => (simp only [List.getElem?_toArray, List.getElem?_cons_zero, List.getElem?_cons_succ]; exact rfl)
  case q16 => exact fun _ _ _ h => h
  case y16 => (refine Or.inl ⟨rfl, ?_⟩; intro w hSw; (try dsimp only at hSw); go_simp; (try with_reducible rfl))
  (try simp only [Act.put, List.setIfInBounds_toArray, List.set_cons_zero, List.set_cons_succ])
  refine wpAnyH_take (i := 17) (oi := ?o17) (v := ?v17) ?h17 (by kernel_rfl) (by kernel_rfl) (by kernel_rfl) ?q17 ?y17 (by assumption) ?_
  case h17 => (simp only [List.getElem?_toArray, List.getElem?_cons_zero, List.getElem?_cons_succ]; exact rfl)
  case q17 => exact fun _ _ _ h => h
  case y17 => (refine Or.inl ⟨rfl, ?_⟩; intro w hSw; (try dsimp only at hSw); go_simp; (try with_reducible rfl))
  (try simp only [Act.put, List.setIfInBounds_toArray, List.set_cons_zero, List.set_cons_succ])
  refine wpAnyH_take (i := 18) (oi := ?o18) (v := ?v18) ?h18 (by kernel_rfl) (by kernel_rfl) (by kernel_rfl) ?q18 ?y18 (by assumption) ?_
  case h18 => (simp only [List.getElem?_toArray, List.getElem?_cons_zero, List.getElem?_cons_succ]; exact rfl)
  case q18 => exact fun _ _ _ h => h
  case y18 => (refine Or.inl ⟨rfl, ?_⟩; intro w hSw; (try dsimp only at hSw); go_simp; (try with_reducible rfl))
  (try simp only [Act.put, List.setIfInBounds_toArray, List.set_cons_zero, List.set_cons_succ])
  refine wpAnyH_take (i := 19) (oi := ?o19) (v := ?v19) ?h19 (by kernel_rfl) (by kernel_rfl) (by kernel_rfl) ?q19 ?y19 (by assumption) ?_
  case h19 => (simp only [List.getElem?_toArray, List.getElem?_cons_zero, List.getElem?_cons_succ]; exact rfl)
  case q19 => exact fun _ _ _ h => h
  case y19 => (refine Or.inl ⟨rfl, ?_⟩; intro w hSw; (try dsimp only at hSw); go_simp; (try with_reducible rfl))
  (try simp only [Act.put, List.setIfInBounds_toArray, List.set_cons_zero, List.set_cons_succ])
  refine wpAnyH_take (i := 20) (oi := ?o20) (v := ?v20) ?h20 (by kernel_rfl) (by kernel_rfl) (by kernel_rfl) ?q20 ?y20 (by assumption) ?_
  case h20 => (simp only [List.getElem?_toArray, List.getElem?_cons_zero, List.getElem?_cons_succ]; exact rfl)
  case q20 => exact fun _ _ _ h => h
  case y20 => (refine Or.inl ⟨rfl, ?_⟩; intro w hSw; (try dsimp only at hSw); go_simp; (try with_reducible rfl))
  (try simp only [Act.put, List.setIfInBounds_toArray, List.set_cons_zero, List.set_cons_succ])
  refine wpAnyH_take (i := 21) (oi := ?o21) (v := ?v21) ?h21 (by kernel_rfl) (by kernel_rfl) (by kernel_rfl) ?q21 ?y21 (by assumption) ?_
  case h21 => (simp only [List.getElem?_toArray, List.getElem?_cons_zero, List.getElem?_cons_succ]; exact rfl)
  case q21 => exact fun _ _ _ h => h
  case y21 => (refine Or.inl ⟨rfl, ?_⟩; intro w hSw; (try dsimp only at hSw); go_simp; (try with_reducible rfl))
  (try simp only [Act.put, List.setIfInBounds_toArray, List.set_cons_zero, List.set_cons_succ])
  refine wpAnyH_take (i := 22) (oi := ?o22) (v := ?v22) ?h22 (by kernel_rfl) (by kernel_rfl) (by kernel_rfl) ?q22 ?y22 (by assumption) ?_
  case h22 => (simp only [List.getElem?_toArray, List.getElem?_cons_zero, List.getElem?_cons_succ]; exact rfl)
  case q22 => exact fun _ _ _ h => h
  case y22 => (refine Or.inl ⟨rfl, ?_⟩; intro w hSw; (try dsimp only at hSw); go_simp; (try with_reducible rfl))
  (try simp only [Act.put, List.setIfInBounds_toArray, List.set_cons_zero, List.set_cons_succ])
  refine wpAnyH_take (i := 23) (oi := ?o23) (v := ?v23) ?h23 (by kernel_rfl) (by kernel_rfl) (by kernel_rfl) ?q23 ?y23 (by assumption) ?_
  case h23 => (simp only [List.getElem?_toArray, List.getElem?_cons_zero, List.getElem?_cons_succ]; exact rfl)
  case q23 => exact fun _ _ _ h => h
  case y23 => (refine Or.inl ⟨rfl, ?_⟩; intro w hSw; (try dsimp only at hSw); go_simp; (try with_reducible rfl))
  (try simp only [Act.put, List.setIfInBounds_toArray, List.set_cons_zero, List.set_cons_succ])
  refine wpAnyH_take (i := 24) (oi := ?o24) (v := ?v24) ?h24 (by kernel_rfl) (by kernel_rfl) (by kernel_rfl) ?q24 ?y24 (by assumption) ?_
  case h24 => (simp only [List.getElem?_toArray, List.getElem?_cons_zero, List.getElem?_cons_succ]; exact rfl)
  case q24 => exact fun _ _ _ h => h
  case y24 => (refine Or.inl ⟨rfl, ?_⟩; intro w hSw; (try dsimp only at hSw); go_simp; (try with_reducible rfl))
  (try simp only [Act.put, List.setIfInBounds_toArray, List.set_cons_zero, List.set_cons_succ])
  refine wpAnyH_take (i := 26) (oi := ?o26) (v := ?v26) ?h26 (by kernel_rfl) (by kernel_rfl) (by kernel_rfl) ?q26 ?y26 (by assumption) ?_
  case h26 => (simp only [List.getElem?_toArray, List.getElem?_cons_zero, List.getElem?_cons_succ]; exact rfl)
  case q26 => exact fun _ _ _ h => h
  case y26 => (refine Or.inl ⟨rfl, ?_⟩; intro w hSw; (try dsimp only at hSw); go_simp; (try with_reducible rfl))
  (try simp only [Act.put, List.setIfInBounds_toArray, List.set_cons_zero, List.set_cons_succ])
  refine wpAnyH_ready (rs := [25]) (by kernel_rfl) (by simp) ?_
  refine AllReadyH.cons (o := ?o25) ?h25 (fun K hK => ?_) AllReadyH.nil
  case h25 => (simp only [List.getElem?_toArray, List.getElem?_cons_zero, List.getElem?_cons_succ]; exact rfl)
  (try go_simp)
  (go_at_call 50; refine (configA _).mono ?_; rintro e w9 ⟨rfl, hb9⟩)
  (try go_wp2_with fail)
  refine hK.out _ _ ?_ (fun hHeld2 => ?_)
  · first | exact HRD.out | exact hHeld | (apply HRK.out; assumption; assumption)
  clear hK K hHeld
  have hHeld := hHeld2
  clear hHeld2
  (try simp only [Act.put, List.setIfInBounds_toArray, List.set_cons_zero, List.set_cons_succ])
  refine wpAnyH_ready (rs := [27]) (by kernel_rfl) (by simp) ?_
  refine AllReadyH.cons (o := ?o27) ?h27 (fun K hK => ?_) AllReadyH.nil
  case h27 => (simp only [List.getElem?_toArray, List.getElem?_cons_zero, List.getElem?_cons_succ]; exact rfl)
  (try go_simp)
  (go_at_call 17; refine (goodA _).mono ?_; rintro e w9 ⟨rfl, hb9⟩)
  (try go_wp2_with fail)
  refine hK.out _ _ ?_ (fun hHeld2 => ?_)
  · first | exact HRD.out | exact hHeld | (apply HRK.out; assumption; assumption)
  clear hK K hHeld
  have hHeld := hHeld2
  clear hHeld2
  (try simp only [Act.put, List.setIfInBounds_toArray, List.set_cons_zero, List.set_cons_succ])
  refine wpAnyH_take (i := 28) (oi := ?o28) (v := ?v28) ?h28 (by kernel_rfl) (by kernel_rfl) (by kernel_rfl) ?q28 ?y28 (by assumption) ?_
  case h28 => (simp only [List.getElem?_toArray, List.getElem?_cons_zero, List.getElem?_cons_succ]; exact rfl)
  case q28 => exact fun _ _ _ h => h
  case y28 => (refine Or.inl ⟨rfl, ?_⟩; intro w hSw; (try dsimp only at hSw); go_simp; (try with_reducible rfl))
  (try simp only [Act.put, List.setIfInBounds_toArray, List.set_cons_zero, List.set_cons_succ])
  refine wpAnyH_take (i := 29) (oi := ?o29) (v := ?v29) ?h29 (by kernel_rfl) (by kernel_rfl) (by kernel_rfl) ?q29 ?y29 (by assumption) ?_
  case h29 => (simp only [List.getElem?_toArray, List.getElem?_cons_zero, List.getElem?_cons_succ]; exact rfl)
  case q29 => exact fun _ _ _ h => h
  case y29 => (refine Or.inl ⟨rfl, ?_⟩; intro w hSw; (try dsimp only at hSw); go_simp; (try with_reducible rfl))
  (try simp only [Act.put, List.setIfInBounds_toArray, List.set_cons_zero, List.set_cons_succ])
  refine wpAnyH_take (i := 30) (oi := ?o30) (v := ?v30) ?h30 (by kernel_rfl) (by kernel_rfl) (by kernel_rfl) ?q30 ?y30 (by assumption) ?_
  case h30 => (simp only [List.getElem?_toArray, List.getElem?_cons_zero, List.getElem?_cons_succ]; exact rfl)
  case q30 => exact fun _ _ _ h => h
  case y30 => (refine Or.inl ⟨rfl, ?_⟩; intro w hSw; (try dsimp only at hSw); go_simp; (try with_reducible rfl))
  (try simp only [Act.put, List.setIfInBounds_toArray, List.set_cons_zero, List.set_cons_succ])
  refine wpAnyH_ready (rs := [31]) (by kernel_rfl) (by simp) ?_
  refine AllReadyH.cons (o := ?o31) ?h31 (fun K hK => ?_) AllReadyH.nil
  case h31 => (simp only [List.getElem?_toArray, List.getElem?_cons_zero, List.getElem?_cons_succ]; exact rfl)
  (try go_simp)
  (go_at_call 22; refine (safeA _).mono ?_; rintro e w9 ⟨rfl, hb9⟩)
  (try go_wp2_with fail)
  refine hK.out _ _ ?_ (fun hHeld2 => ?_)
  · first | exact HRD.out | exact hHeld | (apply HRK.out; assumption; assumption)
  clear hK K hHeld
  have hHeld := hHeld2
  clear hHeld2
  (try simp only [Act.put, List.setIfInBounds_toArray, List.set_cons_zero, List.set_cons_succ])
  refine wpAnyH_take (i := 32) (oi := ?o32) (v := ?v32) ?h32 (by kernel_rfl) (by kernel_rfl) (by kernel_rfl) ?q32 ?y32 (by assumption) ?_
  case h32 => (simp only [List.getElem?_toArray, List.getElem?_cons_zero, List.getElem?_cons_succ]; exact rfl)
  case q32 => exact fun _ _ _ h => h
  case y32 => (refine Or.inl ⟨rfl, ?_⟩; intro w hSw; (try dsimp only at hSw); go_simp; (try with_reducible rfl))
  (try simp only [Act.put, List.setIfInBounds_toArray, List.set_cons_zero, List.set_cons_succ])
  refine wpAnyH_take (i := 33) (oi := ?o33) (v := ?v33) ?h33 (by kernel_rfl) (by kernel_rfl) (by kernel_rfl) ?q33 ?y33 (by assumption) ?_
  case h33 => (simp only [List.getElem?_toArray, List.getElem?_cons_zero, List.getElem?_cons_succ]; exact rfl)
  case q33 => exact fun _ _ _ h => h
  case y33 => (refine Or.inl ⟨rfl, ?_⟩; intro w hSw; (try dsimp only at hSw); go_simp; (try with_reducible rfl))
  (try simp only [Act.put, List.setIfInBounds_toArray, List.set_cons_zero, List.set_cons_succ])
  refine wpAnyH_done (by kernel_rfl) ?_ _
  obtain ⟨hs2, _⟩ := hHeld
  have HS2 := Lib.hid hs2
  clear hs2 HRK HRD
  go_wp2
  go_ret
  exact ⟨rfl, HS7.out.trans HS2.out⟩
end Go.Proofs.Ytfbnmoegdbdhjaa.Pl
