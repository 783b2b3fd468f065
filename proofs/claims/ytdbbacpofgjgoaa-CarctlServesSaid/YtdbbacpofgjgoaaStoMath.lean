/-
  Plain facts on stops: sets of floors as numbers of 64 bits.
  No condition.
-/
import Derived.WalkKit
import Derived.Laws.BitsAllLaws
namespace Go.Proofs.Ytdbbacpofgjgoaa.St
set_option linter.unusedVariables false
set_option linter.unusedSimpArgs false
/-- 2^64, by name. -/
def top : Nat := 18446744073709551616
theorem top_eq : top = 2 ^ 64 := by decide
/-- A number of 64 bits. -/
def R (x : Int) : Prop := 0 ≤ x ∧ x < 18446744073709551616
def tb (x : Int) (i : Nat) : Bool := x.toNat.testBit i
theorem R.nat {x : Int} (h : R x) : x.toNat < 18446744073709551616 := by unfold R at h; omega
theorem R.of_nat {n : Nat} (h : n < 18446744073709551616) : R (n : Int) := by unfold R; omega
theorem R.zero : R 0 := by unfold R; omega
theorem tb_hi {x : Int} (h : R x) {i : Nat} (hi : 64 ≤ i) : tb x i = false := by
  unfold tb
  apply Nat.testBit_lt_two_pow
  have h1 := h.nat
  have h2 : (2 : Nat) ^ 64 ≤ 2 ^ i := Nat.pow_le_pow_right (by omega) hi
  have h3 : (2 : Nat) ^ 64 = 18446744073709551616 := by decide
  omega
theorem ext {x y : Int} (hx : R x) (hy : R y) (h : ∀ i, i < 64 → tb x i = tb y i) : x = y := by
  have : x.toNat = y.toNat := by
    apply Nat.eq_of_testBit_eq
    intro i
    rcases Nat.lt_or_ge i 64 with hi | hi
    · exact h i hi
    · have a := tb_hi hx hi
      have b := tb_hi hy hi
      unfold tb at a b
      rw [a, b]
  unfold R at hx hy
  omega
theorem or_R {x y : Int} (hx : R x) (hy : R y) : R (bits .or .u64 x y) := by
  have a := hx.nat
  have b := hy.nat
  unfold R at hx hy
  rw [u64_or x y hx.1 hx.2 hy.1 hy.2]
  exact R.of_nat (by
    have := Nat.or_lt_two_pow (n := 64) (x := x.toNat) (y := y.toNat) (by omega) (by omega)
    simpa using this)
theorem or_tb {x y : Int} (hx : R x) (hy : R y) (i : Nat) : tb (bits .or .u64 x y) i = (tb x i || tb y i) := by
  unfold R at hx hy
  rw [u64_or x y hx.1 hx.2 hy.1 hy.2]
  unfold tb
  rw [Int.toNat_natCast, Nat.testBit_or]
theorem and_R {x y : Int} (hx : R x) (hy : R y) : R (bits .and .u64 x y) := by
  have a := hx.nat
  unfold R at hx hy
  rw [u64_and x y hx.1 hx.2 hy.1 hy.2]
  exact R.of_nat (by have := Nat.and_le_left (n := x.toNat) (m := y.toNat); omega)
theorem and_tb {x y : Int} (hx : R x) (hy : R y) (i : Nat) : tb (bits .and .u64 x y) i = (tb x i && tb y i) := by
  unfold R at hx hy
  rw [u64_and x y hx.1 hx.2 hy.1 hy.2]
  unfold tb
  rw [Int.toNat_natCast, Nat.testBit_and]
theorem an_R {x y : Int} (hx : R x) (hy : R y) : R (bits .andNot .u64 x y) := by
  have a := hx.nat
  unfold R at hx hy
  rw [u64_andNot x y hx.1 hx.2 hy.1 hy.2]
  exact R.of_nat (by have := Nat.and_le_left (n := x.toNat) (m := 18446744073709551615 - y.toNat); omega)
theorem an_tb {x y : Int} (hx : R x) (hy : R y) (i : Nat) : tb (bits .andNot .u64 x y) i = (tb x i && !tb y i) := by
  have hx' := hx
  have hy' := hy.nat
  unfold R at hx hy
  rw [u64_andNot x y hx.1 hx.2 hy.1 hy.2]
  rcases Nat.lt_or_ge i 64 with hi | hi
  · unfold tb
    rw [Int.toNat_natCast, Nat.testBit_and]
    have e : 18446744073709551615 - y.toNat = 2 ^ 64 - (y.toNat + 1) := by
      have : (2 : Nat) ^ 64 = 18446744073709551616 := by decide
      omega
    rw [e, Nat.testBit_two_pow_sub_succ (by have : (2 : Nat) ^ 64 = 18446744073709551616 := by decide
                                            omega)]
    simp [hi]
  · rw [tb_hi hx' hi]
    have : tb ((x.toNat &&& (18446744073709551615 - y.toNat) : Nat) : Int) i = false :=
      tb_hi (R.of_nat (by have := Nat.and_le_left (n := x.toNat) (m := 18446744073709551615 - y.toNat); have := hx'.nat; omega)) hi
    rw [this]; simp
/-- The floor's own bit; none of what is no floor. -/
def bit (f : Int) : Int := if 0 ≤ f ∧ f < 64 then ((2 ^ f.toNat : Nat) : Int) else 0
theorem bit_R (f : Int) : R (bit f) := by
  unfold bit
  split
  · rename_i h
    refine R.of_nat ?_
    have h2 : (2 : Nat) ^ f.toNat ≤ 2 ^ 63 := Nat.pow_le_pow_right (by omega) (by omega)
    have h3 : (2 : Nat) ^ 63 = 9223372036854775808 := by decide
    omega
  · exact R.zero
theorem bit_tb (f : Int) (i : Nat) : tb (bit f) i = decide (0 ≤ f ∧ f < 64 ∧ f = i) := by
  unfold bit
  split
  · rename_i h
    unfold tb
    rw [Int.toNat_natCast, Nat.testBit_two_pow]
    rw [decide_eq_decide]
    omega
  · rename_i h
    have : ¬ (0 ≤ f ∧ f < 64 ∧ f = i) := by omega
    rw [decide_eq_false this]
    simp [tb]
/-- Is a floor among them? -/
def mem (x f : Int) : Bool := decide (0 ≤ f ∧ f < 64) && tb x f.toNat
theorem mem_at (x : Int) (i : Nat) (h : i < 64) : mem x i = tb x i := by unfold mem; simp [h]; omega
theorem zero_of {x : Int} (hx : R x) : x = 0 ↔ ∀ i, i < 64 → tb x i = false := by
  constructor
  · rintro rfl i _; simp [tb]
  · intro h
    exact ext hx R.zero fun i hi => by rw [h i hi]; simp [tb]
/-- A bit that is held against a set. -/
theorem and_bit {x : Int} (hx : R x) (f : Int) : (bits .and .u64 x (bit f) = 0) ↔ mem x f = false := by
  rw [zero_of (and_R hx (bit_R f))]
  constructor
  · intro h
    unfold mem
    by_cases hf : 0 ≤ f ∧ f < 64
    · have := h f.toNat (by omega)
      rw [and_tb hx (bit_R f), bit_tb] at this
      have e : decide (0 ≤ f ∧ f < 64 ∧ f = (f.toNat : Int)) = true := by simp; omega
      rw [e] at this
      simpa [hf] using this
    · simp [hf]
  · intro h i hi
    rw [and_tb hx (bit_R f), bit_tb]
    unfold mem at h
    by_cases hf : 0 ≤ f ∧ f < 64 ∧ f = i
    · have e : f.toNat = i := by omega
      rw [e] at h
      have : decide (0 ≤ f ∧ f < 64) = true := by simp; omega
      rw [this] at h
      simp at h
      rw [h]; simp
    · simp [hf]
/-- All floors of three sets. -/
def al (p u d : Int) : Int := bits .or .u64 (bits .or .u64 p u) d
theorem al_R {p u d : Int} (hp : R p) (hu : R u) (hd : R d) : R (al p u d) := or_R (or_R hp hu) hd
theorem al_tb {p u d : Int} (hp : R p) (hu : R u) (hd : R d) (i : Nat) : tb (al p u d) i = (tb p i || tb u i || tb d i) := by
  unfold al; rw [or_tb (or_R hp hu) hd, or_tb hp hu]
theorem al_mem {p u d : Int} (hp : R p) (hu : R u) (hd : R d) (f : Int) : mem (al p u d) f = (mem p f || mem u f || mem d f) := by
  unfold mem; rw [al_tb hp hu hd]; cases decide (0 ≤ f ∧ f < 64) <;> simp
end Go.Proofs.Ytdbbacpofgjgoaa.St
