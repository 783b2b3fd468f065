/-
  Plain facts on the integers that layer 1 (tick) computes with: numbers held between 0 and the greatest time.
  No condition.
-/
import Derived.WalkKit
namespace Go.Proofs.Ytlihhjcneedgnaa.Tm
set_option linter.unusedVariables false
set_option linter.unusedSimpArgs false

/-- The greatest time. -/
def top : Int := 1099511627776

/-- n, held between 0 and top. -/
def cl (n : Int) : Int := if n < 0 then 0 else if 1099511627776 < n then 1099511627776 else n

theorem cl_lo (n : Int) : 0 ≤ cl n := by unfold cl; repeat' split <;> omega
theorem cl_hi (n : Int) : cl n ≤ 1099511627776 := by unfold cl; repeat' split <;> omega
theorem cl_id (n : Int) (h0 : 0 ≤ n) (h1 : n ≤ 1099511627776) : cl n = n := by unfold cl; repeat' split <;> omega
theorem cl_up (n : Int) (h1 : 1099511627776 ≤ n) : cl n = 1099511627776 := by unfold cl; repeat' split <;> omega
theorem cl_mono (a b : Int) (h : a ≤ b) : cl a ≤ cl b := by unfold cl; repeat' split <;> omega
theorem cl_eq_min (n : Int) (h : 0 ≤ n) : cl n = min n 1099511627776 := by unfold cl; repeat' split <;> omega
theorem cl_cl (n : Int) : cl (cl n) = cl n := cl_id _ (cl_lo n) (cl_hi n)

/-- Times multiplied. -/
def mu (a b : Int) : Int := cl (cl a * cl b)

theorem prod_lo (a b : Int) : 0 ≤ cl a * cl b := Int.mul_nonneg (cl_lo a) (cl_lo b)

/-- One round of the doubling: an odd number. -/
theorem step_odd (o a q : Int) (ho : 0 ≤ o) (ha : 0 ≤ a) (hq : 0 ≤ q) :
    cl (cl (o + a) + cl (a + a) * q) = cl (o + a * (2 * q + 1)) := by
  have e : o + a * (2 * q + 1) = (o + a) + (a + a) * q := by
    rw [Int.mul_add, Int.add_mul, ← Int.mul_assoc, Int.mul_comm a 2, Int.two_mul, Int.mul_one, Int.add_mul]; omega
  rw [e]
  have haq : 0 ≤ (a + a) * q := Int.mul_nonneg (by omega) hq
  by_cases h1 : 1099511627776 ≤ o + a
  · rw [cl_up (o + a) h1]
    have h2 : 0 ≤ cl (a + a) * q := Int.mul_nonneg (cl_lo _) hq
    rw [cl_up _ (by omega), cl_up _ (by omega)]
  · rw [cl_id (o + a) (by omega) (by omega)]
    by_cases h2 : 1099511627776 ≤ a + a
    · rw [cl_up (a + a) h2]
      by_cases h3 : q = 0
      · subst h3; simp
      · have h4 : (1 : Int) ≤ q := by omega
        have h5 : 1099511627776 * 1 ≤ 1099511627776 * q := Int.mul_le_mul_of_nonneg_left h4 (by omega)
        have h6 : (a + a) * 1 ≤ (a + a) * q := Int.mul_le_mul_of_nonneg_left h4 (by omega)
        rw [cl_up _ (by omega), cl_up _ (by omega)]
    · rw [cl_id (a + a) (by omega) (by omega)]
/-- One round of the doubling: an even number. -/
theorem step_even (o a q : Int) (ho : 0 ≤ o) (ha : 0 ≤ a) (hq : 0 ≤ q) :
    cl (o + cl (a + a) * q) = cl (o + a * (2 * q)) := by
  have e : o + a * (2 * q) = o + (a + a) * q := by
    rw [← Int.mul_assoc, Int.mul_comm a 2, Int.two_mul]
  rw [e]
  have haq : 0 ≤ (a + a) * q := Int.mul_nonneg (by omega) hq
  by_cases h2 : 1099511627776 ≤ a + a
  · rw [cl_up (a + a) h2]
    by_cases h3 : q = 0
    · subst h3; simp
    · have h4 : (1 : Int) ≤ q := by omega
      have h5 : 1099511627776 * 1 ≤ 1099511627776 * q := Int.mul_le_mul_of_nonneg_left h4 (by omega)
      have h6 : (a + a) * 1 ≤ (a + a) * q := Int.mul_le_mul_of_nonneg_left h4 (by omega)
      rw [cl_up _ (by omega), cl_up _ (by omega)]
  · rw [cl_id (a + a) (by omega) (by omega)]

/-- What the test by division says. -/
theorem div_test (a b : Int) (ha : 0 < a) : 1099511627776 / a < b ↔ 1099511627776 < b * a := by
  exact Int.ediv_lt_iff_lt_mul ha

/-- Doubled n times, held. -/
def dbl (b : Int) : Nat → Int
  | 0 => cl b
  | n + 1 => cl (dbl b n + dbl b n)

theorem dbl_lo (b : Int) (n : Nat) : 0 ≤ dbl b n := by cases n <;> exact cl_lo _
theorem dbl_hi (b : Int) (n : Nat) : dbl b n ≤ 1099511627776 := by cases n <;> exact cl_hi _

theorem dbl_pow (b : Int) (n : Nat) : dbl b n = cl (cl b * 2 ^ n) := by
  induction n with
  | zero => simp [dbl, cl_cl]
  | succ n ih =>
    rw [dbl, ih]
    have hp : (0 : Int) ≤ 2 ^ n := Int.pow_nonneg (by omega)
    have h0 : 0 ≤ cl b * 2 ^ n := Int.mul_nonneg (cl_lo b) hp
    have e : cl b * 2 ^ (n + 1) = cl b * 2 ^ n + cl b * 2 ^ n := by
      rw [Int.pow_succ, ← Int.mul_assoc, Int.mul_comm _ 2, Int.two_mul]
    rw [e]
    unfold cl at *
    repeat' split <;> omega

theorem pow40 (k : Nat) (h : 40 ≤ k) : (1099511627776 : Int) ≤ 2 ^ k := by
  obtain ⟨j, rfl⟩ := Nat.exists_eq_add_of_le h
  rw [Int.pow_add]
  have h1 : (0 : Int) < 2 ^ j := Int.pow_pos (by omega)
  have h2 : (2 : Int) ^ 40 = 1099511627776 := by decide
  rw [h2]; omega

/-- More than 40 doublings change nothing more. -/
theorem dbl_far (b : Int) (m n : Nat) (hm : 40 ≤ m) (hn : 40 ≤ n) : dbl b m = dbl b n := by
  rw [dbl_pow, dbl_pow]
  have h0 := cl_lo b
  by_cases h : cl b = 0
  · rw [h]; simp
  · have far : ∀ k : Nat, 40 ≤ k → cl (cl b * 2 ^ k) = 1099511627776 := by
      intro k hk
      have := pow40 k hk
      have h5 : 1 * (2 : Int) ^ k ≤ cl b * 2 ^ k := Int.mul_le_mul_of_nonneg_right (by omega) (by omega)
      exact cl_up _ (by omega)
    rw [far m hm, far n hn]

/-- The product with a power, itself held. -/
theorem mu_pow (b : Int) (n : Nat) : mu b (2 ^ n) = dbl b n := by
  rw [dbl_pow]; unfold mu
  have hp : (0 : Int) ≤ 2 ^ n := Int.pow_nonneg (by omega)
  by_cases h : (2 : Int) ^ n ≤ 1099511627776
  · rw [cl_id (2 ^ n) hp h]
  · rw [cl_up (2 ^ n) (by omega)]
    have h0 := cl_lo b
    by_cases hb : cl b = 0
    · rw [hb]; simp
    · have h5 : 1 * (2 : Int) ^ n ≤ cl b * 2 ^ n := Int.mul_le_mul_of_nonneg_right (by omega) (by omega)
      have h6 : 1 * (1099511627776 : Int) ≤ cl b * 1099511627776 := Int.mul_le_mul_of_nonneg_right (by omega) (by omega)
      rw [cl_up _ (by omega), cl_up _ (by omega)]

/-- How often a pause is doubled: never below 0 times; past 100 it makes no difference. -/
def tr (t : Int) (m : Nat) : Nat := min t.toNat m

theorem dbl_tr (b t : Int) : dbl b (tr t 41) = dbl b (tr t 100) := by
  unfold tr
  by_cases h : t.toNat ≤ 41
  · rw [Nat.min_eq_left h, Nat.min_eq_left (by omega)]
  · exact dbl_far _ _ _ (by omega) (by omega)

/-- A pause. -/
def pa (b m t : Int) : Int := min (dbl b (tr t 100)) (cl m)
theorem pa_lo (b m t : Int) : 0 ≤ pa b m t := by have := dbl_lo b (tr t 100); have := cl_lo m; unfold pa; omega
theorem pa_hi (b m t : Int) : pa b m t ≤ 1099511627776 := by have := cl_hi m; unfold pa; omega
theorem dbl_mono (a b : Int) (h : a ≤ b) (n : Nat) : dbl a n ≤ dbl b n := by
  induction n with
  | zero => exact cl_mono _ _ h
  | succ n ih => exact cl_mono _ _ (by omega)
theorem pa_mono (a b m t : Int) (h : a ≤ b) : pa a m t ≤ pa b m t := by have := dbl_mono a b h (tr t 100); unfold pa; omega
theorem mu_mono (a b c : Int) (h : a ≤ b) : mu a c ≤ mu b c := by
  unfold mu; exact cl_mono _ _ (Int.mul_le_mul_of_nonneg_right (cl_mono _ _ h) (cl_lo c))
theorem mu_comm (a b : Int) : mu a b = mu b a := by unfold mu; rw [Int.mul_comm]
theorem mu_lo (a b : Int) : 0 ≤ mu a b := cl_lo _
theorem mu_hi (a b : Int) : mu a b ≤ 1099511627776 := cl_hi _
theorem su_assoc (a b c : Int) : cl (cl (cl (cl a + cl b)) + cl c) = cl (cl a + cl (cl (cl b + cl c))) := by
  have h1 := cl_lo a
  have h2 := cl_lo b
  have h3 := cl_lo c
  rw [cl_cl, cl_cl]
  by_cases k1 : 1099511627776 ≤ cl a + cl b
  · rw [cl_up _ k1]
    by_cases k2 : 1099511627776 ≤ cl b + cl c
    · rw [cl_up _ k2, cl_up _ (by omega), cl_up _ (by omega)]
    · rw [cl_id (cl b + cl c) (by omega) (by omega), cl_up _ (by omega), cl_up _ (by omega)]
  · rw [cl_id (cl a + cl b) (by omega) (by omega)]
    by_cases k2 : 1099511627776 ≤ cl b + cl c
    · rw [cl_up _ k2, cl_up _ (by omega), cl_up _ (by omega)]
    · rw [cl_id (cl b + cl c) (by omega) (by omega)]; congr 1; omega
theorem pa_next (b m t : Int) (h0 : 0 ≤ t) : pa b m (t + 1) = min (pa b m t + pa b m t) (cl m) := by
  have e : dbl b (tr (t + 1) 100) = cl (dbl b (tr t 100) + dbl b (tr t 100)) := by
    by_cases h : t < 100
    · have e1 : tr (t + 1) 100 = tr t 100 + 1 := by unfold tr; omega
      rw [e1]; rfl
    · have e1 : tr (t + 1) 100 = 100 := by unfold tr; omega
      have e2 : tr t 100 = 100 := by unfold tr; omega
      rw [e1, e2]
      exact dbl_far b 100 101 (by omega) (by omega)
  have h1 := cl_lo m
  have h2 := cl_hi m
  have h3 := dbl_lo b (tr t 100)
  unfold pa; rw [e]
  by_cases k : 1099511627776 ≤ dbl b (tr t 100) + dbl b (tr t 100)
  · rw [cl_up _ k]; omega
  · rw [cl_id (dbl b (tr t 100) + dbl b (tr t 100)) (by omega) (by omega)]; omega
end Go.Proofs.Ytlihhjcneedgnaa.Tm
