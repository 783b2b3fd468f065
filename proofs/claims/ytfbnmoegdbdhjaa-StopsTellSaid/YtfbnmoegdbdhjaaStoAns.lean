/-
  What a program that does nothing does not answer, of stops (layer 12): it answers true.
  No condition.
-/
import Derived.Test.YtfbnmoegdbdhjaaStoCal
import Derived.Test.YtfbnmoegdbdhjaaStoAh
import Derived.Test.YtfbnmoegdbdhjaaStoCnt
namespace Go.Proofs.Ytfbnmoegdbdhjaa.St
set_option linter.unusedVariables false
set_option linter.unusedSimpArgs false
open Go.RowKit Go.Proofs.Ytfbnmoegdbdhjaa.Ba Go.Proofs.Ytfbnmoegdbdhjaa.Mem
set_option maxRecDepth 100000
theorem R8 : R 8 := by unfold R; omega
theorem R2 : R 2 := by unfold R; omega
theorem R0 : R 0 := by unfold R; omega
theorem callsA (w : World) : Calls Try.prog 29 #[.agg #[.int .u64 8, .int .u64 2, .int .u64 0]] w fun e w' => ∃ g c, e = .returned (.slice (some ⟨g, 0, none⟩) 1 c) ∧ w'.cell? ⟨g, 0, none⟩ = some (.int .i64 1) ∧ w'.cell? ⟨g, 1, none⟩ = some (.int .i64 1) ∧ Since w w' := by
  refine (callsT 8 2 0 R8 R2 R0 w).mono ?_
  rintro e w' ⟨v, rfl, hown, hs⟩
  have hc : cl 2 0 64 = [(1, 1)] := by decide +kernel
  rw [hc] at hown
  obtain ⟨g, cap, hv, _, hlt⟩ := hown.form (by decide)
  subst hv
  have hcs := hown.cells (g := g) rfl
  have a0 := hcs 0 (.int .i64 1) rfl
  have a1 := hcs 1 (.int .i64 1) rfl
  rw [Go.WideShapes.add_plain] at a0 a1
  exact ⟨g, cap, rfl, a0, a1, hs⟩
theorem pressA (w : World) : Calls Try.prog 26 #[.agg #[.int .u64 0, .int .u64 0, .int .u64 0], .int .i64 3] w fun e w' => e = .returned (.agg #[.int .u64 8, .int .u64 0, .int .u64 0]) ∧ Since w w' := by
  have h := pressT 0 0 0 3 w
  rw [show bits .or .u64 0 (bit 3) = 8 by decide +kernel] at h
  exact h
theorem hallA (w : World) : Calls Try.prog 27 #[.agg #[.int .u64 8, .int .u64 0, .int .u64 0], .int .i64 1, .int .i64 1] w fun e w' => e = .returned (.agg #[.int .u64 8, .int .u64 2, .int .u64 0]) ∧ Since w w' := by
  have h := hallT 8 0 0 1 1 w
  rw [show haU 0 1 1 = 2 by decide +kernel, show haD 0 1 1 = 0 by decide +kernel] at h
  exact h
theorem countA (w : World) : Calls Try.prog 36 #[.agg #[.int .u64 8, .int .u64 2, .int .u64 0]] w fun e w' => e = .returned (.int .i64 2) ∧ Since w w' := by
  have h := countT 8 2 0 R8 R2 R0 w
  rw [show cn 8 + cn 2 + cn 0 = 2 by decide +kernel] at h
  exact h
theorem hereA (w : World) : Calls Try.prog 32 #[.agg #[.int .u64 8, .int .u64 2, .int .u64 0], .int .i64 3] w fun e w' => e = .returned (.bool true) ∧ Since w w' := by
  have h := hereT 8 2 0 3 R8 R2 R0 w
  rw [show heB 8 2 0 3 = true by decide +kernel] at h
  exact h
theorem atA (w : World) : Calls Try.prog 30 #[.agg #[.int .u64 8, .int .u64 2, .int .u64 0], .int .i64 1, .int .i64 1] w fun e w' => e = .returned (.bool true) ∧ Since w w' := by
  have h := atT 8 2 0 1 1 R2 R0 w
  rw [show atB 2 0 1 1 = true by decide +kernel] at h
  exact h
theorem aheadA (w : World) : Calls Try.prog 34 #[.agg #[.int .u64 8, .int .u64 2, .int .u64 0], .int .i64 2, .int .i64 1] w fun e w' => e = .returned (.bool true) ∧ Since w w' := by
  have h := aheadT 8 2 0 2 1 R8 R2 R0 w
  rw [show ahB (al 8 2 0) 2 1 = true by decide +kernel] at h
  exact h
theorem clearA (w : World) : Calls Try.prog 28 #[.agg #[.int .u64 8, .int .u64 2, .int .u64 0], .int .i64 3, .int .i64 0] w fun e w' => e = .returned (.agg #[.int .u64 0, .int .u64 2, .int .u64 0]) ∧ Since w w' := by
  have h := clearT 8 2 0 3 0 w
  rw [show clP 8 3 = 0 by decide +kernel, show clU 2 3 0 = 2 by decide +kernel, show clD 0 3 0 = 0 by decide +kernel] at h
  exact h
set_option maxHeartbeats 1000000 in
theorem ans (w : World) : Calls Try.prog 25 #[] w fun e w' => e = .returned (.bool true) ∧ Since w w' := by
  go_enter Try.func25, Try.ntmps25
  have kf : ∀ (w : World) (a b c : Value), (Instr.field 28 (.agg #[a, b, c]) 0).run Try.prog w = .ok a w := fun _ _ _ _ => by kernel_rfl
  go_wp2_with fail
  refine (pressA _).mono ?_
  rintro e w1 ⟨rfl, hb1⟩
  go_wp2_with fail
  refine (hallA _).mono ?_
  rintro e w2 ⟨rfl, hb2⟩
  go_wp2_with fail
  refine (callsA _).mono ?_
  rintro e w3 ⟨g, c, rfl, l0, l1, hb3⟩
  have s0 : w3.cell? ⟨w2.heap.size, 0, none⟩ = some (.int .u64 8) := keep_cell hb3 (by simp [go_sem])
  have s1 : w3.cell? ⟨w2.heap.size, 1, none⟩ = some (.int .u64 2) := keep_cell hb3 (by simp [go_sem])
  have s2 : w3.cell? ⟨w2.heap.size, 2, none⟩ = some (.int .u64 0) := keep_cell hb3 (by simp [go_sem])
  have S2 : Since w w2 := Since.trans hb1 hb2
  have S3 : Since w w3 := Since.trans (by repeat (first | assumption | refine Since.setCell ?_ (by first | (simp; done) | (simp; omega)) _ | refine Since.alloc ?_ _)) hb3
  have HS3 := Lib.hid S3
  clear hb1 hb2 hb3 S2 S3
  go_wp2_with fail
  refine (countA _).mono ?_
  rintro e w4 ⟨rfl, hb4⟩
  replace s0 := keep_cell hb4 s0; replace s1 := keep_cell hb4 s1; replace s2 := keep_cell hb4 s2; replace l0 := keep_cell hb4 l0; replace l1 := keep_cell hb4 l1
  have HS4 := Lib.hid (HS3.out.trans hb4)
  clear hb4 HS3
  go_wp2_with fail
  refine (hereA _).mono ?_
  rintro e w5 ⟨rfl, hb5⟩
  replace s0 := keep_cell hb5 s0; replace s1 := keep_cell hb5 s1; replace s2 := keep_cell hb5 s2; replace l0 := keep_cell hb5 l0; replace l1 := keep_cell hb5 l1
  have HS5 := Lib.hid (HS4.out.trans hb5)
  clear hb5 HS4
  go_wp2_with fail
  refine (atA _).mono ?_
  rintro e w6 ⟨rfl, hb6⟩
  replace s0 := keep_cell hb6 s0; replace s1 := keep_cell hb6 s1; replace s2 := keep_cell hb6 s2; replace l0 := keep_cell hb6 l0; replace l1 := keep_cell hb6 l1
  have HS6 := Lib.hid (HS5.out.trans hb6)
  clear hb6 HS5
  go_wp2_with fail
  refine (aheadA _).mono ?_
  rintro e w7 ⟨rfl, hb7⟩
  replace s0 := keep_cell hb7 s0; replace s1 := keep_cell hb7 s1; replace s2 := keep_cell hb7 s2; replace l0 := keep_cell hb7 l0; replace l1 := keep_cell hb7 l1
  have HS7 := Lib.hid (HS6.out.trans hb7)
  clear hb7 HS6
  go_wp2_with fail
  refine (clearA _).mono ?_
  rintro e w8 ⟨rfl, hb8⟩
  have HS8 := Lib.hid (HS7.out.trans hb8)
  clear hb8 HS7
  go_wp2
  go_ret
  exact ⟨rfl, HS8.out⟩
end Go.Proofs.Ytfbnmoegdbdhjaa.St
