/-
  The walks of layer 9 (motor), but for the names of ways, and of the reference's places.
  Conditions: where a floor is multiplied, it is no more than 2^40 from 0.
-/
import Derived.Test.YtggafipgfgbbiaaRows
import Derived.Test.YtggafipgfgbbiaaMotMath
import Derived.Test.YtggafipgfgbbiaaBase
namespace Go.Proofs.Ytggafipgfgbbiaa.Mo
set_option linter.unusedVariables false
set_option linter.unusedSimpArgs false
open Go.RowKit Go.Proofs.Ytggafipgfgbbiaa.Ba
theorem floorsT (n : Int) (w : World) : Calls Try.prog 64 #[.int .i64 n] w fun e w' => e = .returned (.int .i64 (fl n)) ∧ w = w' := by
  by_cases h0 : n < 2
  · go_enter Try.func64, Try.ntmps64
    go_wp2
    go_ret
    exact ⟨ret_int (by unfold fl; repeat' split <;> omega), rfl⟩
  · by_cases h1 : 64 < n
    · go_enter Try.func64, Try.ntmps64
      go_wp2
      go_ret
      exact ⟨ret_int (by unfold fl; repeat' split <;> omega), rfl⟩
    · go_enter Try.func64, Try.ntmps64
      go_wp2
      go_ret
      exact ⟨ret_int (by unfold fl; repeat' split <;> omega), rfl⟩
theorem placeT (n : Int) (h0 : -1099511627776 ≤ n) (h1 : n ≤ 1099511627776) (w : World) : Calls Try.prog 97 #[.int .i64 n] w fun e w' => e = .returned (.int .i64 (4 * n)) ∧ w = w' := by
  go_enter Try.func97, Try.ntmps97
  go_wp2
  go_ret
  exact ⟨rfl, rfl⟩
theorem ret_lv {a : Int} {b : Bool} {u : Int} (h : b = lvB u) (k : a = lvN u) : Ending.returned (.tuple #[.int .i64 a, .bool b]) = .returned (.tuple #[.int .i64 (lvN u), .bool (lvB u)]) := by rw [h, k]
theorem levelT (u : Int) (w : World) : Calls Try.prog 94 #[.int .i64 u] w fun e w' => e = .returned (.tuple #[.int .i64 (lvN u), .bool (lvB u)]) ∧ w = w' := by
  by_cases h0 : u < 0
  · have hB : lvB u = false := by unfold lvB; simp; omega
    have hN : lvN u = 0 := by unfold lvN; rw [hB]; simp
    have HB := Lib.hid hB
    have HN := Lib.hid hN
    clear hB hN
    go_enter Try.func94, Try.ntmps94
    go_wp2_with (first | (go_at_call 97; refine (placeT _ (by omega) (by omega) _).mono ?_; rintro e w' ⟨rfl, rfl⟩))
    go_ret2
    exact ⟨ret_lv HB.out.symm HN.out.symm, rfl⟩
  · by_cases h1 : 252 < u
    · have hB : lvB u = false := by unfold lvB; simp; omega
      have hN : lvN u = 0 := by unfold lvN; rw [hB]; simp
      have HB := Lib.hid hB
      have HN := Lib.hid hN
      clear hB hN
      go_enter Try.func94, Try.ntmps94
      go_wp2_with (first | (go_at_call 97; refine (placeT _ (by omega) (by omega) _).mono ?_; rintro e w' ⟨rfl, rfl⟩))
      go_ret2
      exact ⟨ret_lv HB.out.symm HN.out.symm, rfl⟩
    · by_cases h2 : u % 4 = 0
      · have hB : lvB u = true := by unfold lvB; simp; omega
        have hN : lvN u = u / 4 := by unfold lvN; rw [hB]; simp
        have HB := Lib.hid hB
        have HN := Lib.hid hN
        clear hB hN
        have h2' : (u % 4 != 0) = false := by simp [h2]
        clear h2
        go_enter Try.func94, Try.ntmps94
        go_wp2_with (first | (go_at_call 97; refine (placeT _ (by omega) (by omega) _).mono ?_; rintro e w' ⟨rfl, rfl⟩))
        go_ret2
        exact ⟨ret_lv HB.out.symm HN.out.symm, rfl⟩
      · have hB : lvB u = false := by unfold lvB; simp; omega
        have hN : lvN u = 0 := by unfold lvN; rw [hB]; simp
        have HB := Lib.hid hB
        have HN := Lib.hid hN
        clear hB hN
        have h2' : (u % 4 != 0) = true := by simp [h2]
        go_enter Try.func94, Try.ntmps94
        go_wp2_with (first | (go_at_call 97; refine (placeT _ (by omega) (by omega) _).mono ?_; rintro e w' ⟨rfl, rfl⟩))
        go_ret2
        exact ⟨ret_lv HB.out.symm HN.out.symm, rfl⟩
theorem floorsR (n : Int) (w : World) : Calls Try.prog 67 #[.int .i64 n] w fun e w' => e = .returned (.int .i64 (fl n)) ∧ w = w' := by
  go_enter Try.func67, Try.ntmps67
  go_wp2
  all_goals
    go_ret
    exact ⟨ret_int (by unfold fl; repeat' split <;> omega), rfl⟩
theorem levelR (u : Int) (w : World) : Calls Try.prog 86 #[.int .i64 u] w fun e w' => e = .returned (.tuple #[.int .i64 (lvN u), .bool (lvB u)]) ∧ w = w' := by
  by_cases h0 : u < 0
  · have hB : lvB u = false := by unfold lvB; simp; omega
    have hN : lvN u = 0 := by unfold lvN; rw [hB]; simp
    have HB := Lib.hid hB
    have HN := Lib.hid hN
    clear hB hN
    go_enter Try.func86, Try.ntmps86
    go_wp2
    go_ret2
    exact ⟨ret_lv HB.out.symm HN.out.symm, rfl⟩
  · by_cases h1 : 252 < u
    · have hB : lvB u = false := by unfold lvB; simp; omega
      have hN : lvN u = 0 := by unfold lvN; rw [hB]; simp
      have HB := Lib.hid hB
      have HN := Lib.hid hN
      clear hB hN
      go_enter Try.func86, Try.ntmps86
      go_wp2
      go_ret2
      exact ⟨ret_lv HB.out.symm HN.out.symm, rfl⟩
    · by_cases h2 : u % 4 = 0
      · have hB : lvB u = true := by unfold lvB; simp; omega
        have hN : lvN u = u / 4 := by unfold lvN; rw [hB]; simp
        have HB := Lib.hid hB
        have HN := Lib.hid hN
        clear hB hN
        have h2' : (u % 4 != 0) = false := by simp [h2]
        clear h2
        go_enter Try.func86, Try.ntmps86
        go_wp2
        go_ret2
        exact ⟨ret_lv HB.out.symm HN.out.symm, rfl⟩
      · have hB : lvB u = false := by unfold lvB; simp; omega
        have hN : lvN u = 0 := by unfold lvN; rw [hB]; simp
        have HB := Lib.hid hB
        have HN := Lib.hid hN
        clear hB hN
        have h2' : (u % 4 != 0) = true := by simp [h2]
        go_enter Try.func86, Try.ntmps86
        go_wp2
        go_ret2
        exact ⟨ret_lv HB.out.symm HN.out.symm, rfl⟩
end Go.Proofs.Ytggafipgfgbbiaa.Mo
