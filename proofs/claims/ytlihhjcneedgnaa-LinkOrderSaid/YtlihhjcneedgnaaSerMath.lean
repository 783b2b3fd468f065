/-
  Plain facts on serial numbers: they go round at 65536.
  No condition.
-/
namespace Go.Proofs.Ytlihhjcneedgnaa.Se
set_option linter.unusedVariables false
set_option linter.unusedSimpArgs false
def md (n : Int) : Int := n % 65536
def nx (n : Int) : Int := (n + 1) % 65536
def ne (a b : Int) : Int := (b - a + 32768) % 65536 - 32768
theorem md_lo (n : Int) : 0 ≤ md n := by unfold md; omega
theorem md_hi (n : Int) : md n ≤ 65535 := by unfold md; omega
theorem nx_lo (n : Int) : 0 ≤ nx n := by unfold nx; omega
theorem nx_hi (n : Int) : nx n ≤ 65535 := by unfold nx; omega
theorem ne_lo (a b : Int) : -32768 ≤ ne a b := by unfold ne; omega
theorem ne_hi (a b : Int) : ne a b ≤ 32767 := by unfold ne; omega
theorem ne_md (a b : Int) : ne (md a) (md b) = ne a b := by unfold ne md; omega
theorem back (a b : Int) : md (md a + ne a b) = md b := by unfold ne md; omega
theorem nx_md (a : Int) : md (md a + 1) = nx a := by unfold nx md; omega
/-- So many steps. -/
def st (a : Int) : Nat → Int
  | 0 => a
  | n + 1 => nx (st a n)
theorem st_md (a : Int) (n : Nat) : md (st a n) = md (a + n) := by
  induction n with
  | zero => simp [st]
  | succ n ih => show md (nx (st a n)) = _; unfold nx md at *; omega
theorem ne_of_md (a b c d : Int) (h : md a = md b) (k : md c = md d) : ne a c = ne b d := by unfold ne md at *; omega
theorem st_ne (a : Int) (n : Nat) (h : n < 3000) : ne a (st a n) = n := by
  rw [ne_of_md a a (st a n) (a + n) rfl (st_md a n)]; unfold ne; omega
theorem st_back (a : Int) (n : Nat) (h : n < 3000) : ne (st a n) a = -n := by
  rw [ne_of_md (st a n) (a + n) a a (st_md a n) rfl]; unfold ne; omega
theorem st_bd (a : Int) (n : Nat) (h0 : -9223372036854775808 ≤ a) (h1 : a ≤ 9223372036854775807) : -9223372036854775808 ≤ st a n ∧ st a n ≤ 9223372036854775807 := by
  cases n with
  | zero => exact ⟨h0, h1⟩
  | succ n => have := nx_lo (st a n); have := nx_hi (st a n); show _ ≤ nx _ ∧ nx _ ≤ _; omega
end Go.Proofs.Ytlihhjcneedgnaa.Se
