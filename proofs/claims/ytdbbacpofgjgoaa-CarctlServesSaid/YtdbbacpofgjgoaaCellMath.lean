/-
  Plain facts on masses: within their bounds, near one another.
  No condition.
-/
namespace Go.Proofs.Ytdbbacpofgjgoaa.Ce
set_option linter.unusedVariables false
set_option linter.unusedSimpArgs false
def ms (n : Int) : Int := if n < 0 then 0 else if 10000 < n then 10000 else n
theorem ms_lo (n : Int) : 0 ≤ ms n := by unfold ms; repeat' split <;> omega
theorem ms_hi (n : Int) : ms n ≤ 10000 := by unfold ms; repeat' split <;> omega
theorem ms_mono (a b : Int) (h : a ≤ b) : ms a ≤ ms b := by unfold ms; repeat' split <;> omega
def ab (n : Int) : Int := if n < 0 then -n else n
theorem ab_max (n : Int) : max n (-n) = ab n := by unfold ab; omega
def nr (a b c : Int) : Bool := decide (ab (ms a - ms b) ≤ ms c)
def ov (a b : Int) : Bool := decide (ms b < ms a)
theorem nr_comm (a b c : Int) : nr a b c = nr b a c := by unfold nr ab; congr 1; rw [eq_iff_iff]; split <;> split <;> omega
theorem nr_self (a c : Int) : nr a a c = true := by unfold nr ab; have := ms_lo c; simp; omega
theorem nr_more (a b c d : Int) (h : c ≤ d) (k : nr a b c = true) : nr a b d = true := by
  unfold nr at *; have := ms_mono c d h; simp at *; omega
theorem ov_one (a b : Int) (h : ov a b = true) : ov b a = false := by unfold ov at *; simp at *; omega
end Go.Proofs.Ytdbbacpofgjgoaa.Ce
