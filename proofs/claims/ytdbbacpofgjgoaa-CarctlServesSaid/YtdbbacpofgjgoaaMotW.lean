/-
  The walks of layer 9 (motor), but for the names of ways, and of the reference's places.
  Conditions: where a floor is multiplied, it is no more than 2^40 from 0.
-/
import Derived.Test.YtdbbacpofgjgoaaRows
import Derived.Test.YtdbbacpofgjgoaaMotMath
import Derived.Test.YtdbbacpofgjgoaaBase
namespace Go.Proofs.Ytdbbacpofgjgoaa.Mo
set_option linter.unusedVariables false
set_option linter.unusedSimpArgs false
open Go.RowKit Go.Proofs.Ytdbbacpofgjgoaa.Ba
theorem floorsT (n : Int) (w : World) : Calls Try.prog 45 #[.int .i64 n] w fun e w' => e = .returned (.int .i64 (fl n)) ∧ w = w' := by
  by_cases h0 : n < 2
  · go_enter Try.func45, Try.ntmps45
    go_wp2
    go_ret
    exact ⟨ret_int (by unfold fl; repeat' split <;> omega), rfl⟩
  · by_cases h1 : 64 < n
    · go_enter Try.func45, Try.ntmps45
      go_wp2
      go_ret
      exact ⟨ret_int (by unfold fl; repeat' split <;> omega), rfl⟩
    · go_enter Try.func45, Try.ntmps45
      go_wp2
      go_ret
      exact ⟨ret_int (by unfold fl; repeat' split <;> omega), rfl⟩
theorem placeT (n : Int) (h0 : -1099511627776 ≤ n) (h1 : n ≤ 1099511627776) (w : World) : Calls Try.prog 75 #[.int .i64 n] w fun e w' => e = .returned (.int .i64 (4 * n)) ∧ w = w' := by
  go_enter Try.func75, Try.ntmps75
  go_wp2
  go_ret
  exact ⟨rfl, rfl⟩
theorem ret_lv {a : Int} {b : Bool} {u : Int} (h : b = lvB u) (k : a = lvN u) : Ending.returned (.tuple #[.int .i64 a, .bool b]) = .returned (.tuple #[.int .i64 (lvN u), .bool (lvB u)]) := by rw [h, k]
theorem levelT (u : Int) (w : World) : Calls Try.prog 68 #[.int .i64 u] w fun e w' => e = .returned (.tuple #[.int .i64 (lvN u), .bool (lvB u)]) ∧ w = w' := by
  by_cases h0 : u < 0
  · have hB : lvB u = false := by unfold lvB; simp; omega
    have hN : lvN u = 0 := by unfold lvN; rw [hB]; simp
    have HB := Lib.hid hB
    have HN := Lib.hid hN
    clear hB hN
    go_enter Try.func68, Try.ntmps68
    go_wp2_with (first | (go_at_call 75; refine (placeT _ (by omega) (by omega) _).mono ?_; rintro e w' ⟨rfl, rfl⟩))
    go_ret2
    exact ⟨ret_lv HB.out.symm HN.out.symm, rfl⟩
  · by_cases h1 : 252 < u
    · have hB : lvB u = false := by unfold lvB; simp; omega
      have hN : lvN u = 0 := by unfold lvN; rw [hB]; simp
      have HB := Lib.hid hB
      have HN := Lib.hid hN
      clear hB hN
      go_enter Try.func68, Try.ntmps68
      go_wp2_with (first | (go_at_call 75; refine (placeT _ (by omega) (by omega) _).mono ?_; rintro e w' ⟨rfl, rfl⟩))
      go_ret2
      exact ⟨ret_lv HB.out.symm HN.out.symm, rfl⟩
    · by_cases h2 : u % 4 = 0
      · have hB : lvB u = true := by unfold lvB; simp; omega
        have hN : lvN u = u / 4 := by unfold lvN; rw [hB]; simp
        have HB := Lib.hid hB
        have HN := Lib.hid hN
        clear hB hN
        have h2' : (u % 4 != 0) = false := by simp [h2]
        clear h2
        go_enter Try.func68, Try.ntmps68
        go_wp2_with (first | (go_at_call 75; refine (placeT _ (by omega) (by omega) _).mono ?_; rintro e w' ⟨rfl, rfl⟩))
        go_ret2
        exact ⟨ret_lv HB.out.symm HN.out.symm, rfl⟩
      · have hB : lvB u = false := by unfold lvB; simp; omega
        have hN : lvN u = 0 := by unfold lvN; rw [hB]; simp
        have HB := Lib.hid hB
        have HN := Lib.hid hN
        clear hB hN
        have h2' : (u % 4 != 0) = true := by simp [h2]
        go_enter Try.func68, Try.ntmps68
        go_wp2_with (first | (go_at_call 75; refine (placeT _ (by omega) (by omega) _).mono ?_; rintro e w' ⟨rfl, rfl⟩))
        go_ret2
        exact ⟨ret_lv HB.out.symm HN.out.symm, rfl⟩
theorem moveT (u way f : Int) (h0 : -9223372036854775808 ≤ u) (h1 : u ≤ 9223372036854775807) (w : World) : Calls Try.prog 52 #[.int .i64 u, .int .i64 way, .int .i64 f] w fun e w' => e = .returned (.int .i64 (mv u way f)) ∧ w = w' := by
  have f1 := fl_lo f
  have f2 := fl_hi f
  go_enter Try.func52, Try.ntmps52
  go_wp2_with (first | (go_at_call 75; refine (placeT _ (by omega) (by omega) _).mono ?_; rintro e w' ⟨rfl, rfl⟩) | (go_at_call 45; refine (floorsT _ _).mono ?_; rintro e w' ⟨rfl, rfl⟩))
  all_goals
    go_ret
    exact ⟨ret_int (by unfold mv; (try simp at *); repeat' split <;> omega), rfl⟩
theorem towardT (u f : Int) (h0 : -1099511627776 ≤ f) (h1 : f ≤ 1099511627776) (w : World) : Calls Try.prog 82 #[.int .i64 u, .int .i64 f] w fun e w' => e = .returned (.int .i64 (tw u f)) ∧ w = w' := by
  go_enter Try.func82, Try.ntmps82
  go_wp2_with (first | (go_at_call 75; refine (placeT _ (by omega) (by omega) _).mono ?_; rintro e w' ⟨rfl, rfl⟩))
  all_goals
    go_ret
    exact ⟨ret_int (by unfold tw; repeat' split <;> omega), rfl⟩
theorem floorsR (n : Int) (w : World) : Calls Try.prog 41 #[.int .i64 n] w fun e w' => e = .returned (.int .i64 (fl n)) ∧ w = w' := by
  go_enter Try.func41, Try.ntmps41
  go_wp2
  all_goals
    go_ret
    exact ⟨ret_int (by unfold fl; repeat' split <;> omega), rfl⟩
theorem levelR (u : Int) (w : World) : Calls Try.prog 46 #[.int .i64 u] w fun e w' => e = .returned (.tuple #[.int .i64 (lvN u), .bool (lvB u)]) ∧ w = w' := by
  by_cases h0 : u < 0
  · have hB : lvB u = false := by unfold lvB; simp; omega
    have hN : lvN u = 0 := by unfold lvN; rw [hB]; simp
    have HB := Lib.hid hB
    have HN := Lib.hid hN
    clear hB hN
    go_enter Try.func46, Try.ntmps46
    go_wp2
    go_ret2
    exact ⟨ret_lv HB.out.symm HN.out.symm, rfl⟩
  · by_cases h1 : 252 < u
    · have hB : lvB u = false := by unfold lvB; simp; omega
      have hN : lvN u = 0 := by unfold lvN; rw [hB]; simp
      have HB := Lib.hid hB
      have HN := Lib.hid hN
      clear hB hN
      go_enter Try.func46, Try.ntmps46
      go_wp2
      go_ret2
      exact ⟨ret_lv HB.out.symm HN.out.symm, rfl⟩
    · by_cases h2 : u % 4 = 0
      · have hB : lvB u = true := by unfold lvB; simp; omega
        have hN : lvN u = u / 4 := by unfold lvN; rw [hB]; simp
        have HB := Lib.hid hB
        have HN := Lib.hid hN
        clear hB hN
        have h2' : (u % 4 != 0) = false := by simp [h2]
        clear h2
        go_enter Try.func46, Try.ntmps46
        go_wp2
        go_ret2
        exact ⟨ret_lv HB.out.symm HN.out.symm, rfl⟩
      · have hB : lvB u = false := by unfold lvB; simp; omega
        have hN : lvN u = 0 := by unfold lvN; rw [hB]; simp
        have HB := Lib.hid hB
        have HN := Lib.hid hN
        clear hB hN
        have h2' : (u % 4 != 0) = true := by simp [h2]
        go_enter Try.func46, Try.ntmps46
        go_wp2
        go_ret2
        exact ⟨ret_lv HB.out.symm HN.out.symm, rfl⟩
theorem moveR (u way f : Int) (h0 : -9223372036854775808 ≤ u) (h1 : u ≤ 9223372036854775807) (w : World) : Calls Try.prog 54 #[.int .i64 u, .int .i64 way, .int .i64 f] w fun e w' => e = .returned (.int .i64 (mv u way f)) ∧ w = w' := by
  have f1 := fl_lo f
  have f2 := fl_hi f
  go_enter Try.func54, Try.ntmps54
  go_wp2_with (first | (go_at_call 41; refine (floorsR _ _).mono ?_; rintro e w' ⟨rfl, rfl⟩))
  all_goals
    go_ret
    exact ⟨ret_int (by unfold mv; (try simp at *); repeat' split <;> omega), rfl⟩
theorem farR (u f : Int) (h0 : -1099511627776 ≤ f) (h1 : f ≤ 1099511627776) (h2 : -1099511627776 ≤ u) (h3 : u ≤ 1099511627776) (w : World) : Calls Try.prog 42 #[.int .i64 u, .int .i64 f] w fun e w' => e = .returned (.int .i64 (fr u f)) ∧ w = w' := by
  go_enter Try.func42, Try.ntmps42
  go_wp2
  all_goals
    go_ret
    exact ⟨ret_int (by unfold fr; split <;> omega), rfl⟩
end Go.Proofs.Ytdbbacpofgjgoaa.Mo
