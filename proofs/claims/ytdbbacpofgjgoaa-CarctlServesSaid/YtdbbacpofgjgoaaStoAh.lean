/-
  Whether there is a stop that way: the walk of stops.Ahead.
  Conditions: the three sets fit 64 bits.
-/
import Derived.Test.YtdbbacpofgjgoaaStoW
namespace Go.Proofs.Ytdbbacpofgjgoaa.St
set_option linter.unusedVariables false
set_option linter.unusedSimpArgs false
open Go.RowKit Go.Proofs.Ytdbbacpofgjgoaa.Ba
set_option maxRecDepth 100000
/-- From just outside of all floors there is as much ahead as from far outside. -/
def fc (f : Int) : Int := if f < -1 then -1 else if 64 < f then 64 else f
/-- Is there one of them that way? -/
def ahB (x f way : Int) : Bool := (way == 1 && (List.range 64).any fun i => tb x i && decide (f < i)) || (way == 2 && (List.range 64).any fun i => tb x i && decide ((i : Int) < f))
theorem up_zero {x : Int} (hx : R x) (n : Nat) (h : n ≤ 65) : (x / ((2 ^ n : Nat) : Int) != 0) = (List.range 64).any fun i => tb x i && decide (n ≤ i) := by
  have e : x / ((2 ^ n : Nat) : Int) = ((x.toNat / 2 ^ n : Nat) : Int) := by
    have : x = (x.toNat : Int) := by unfold R at hx; omega
    rw [this]; simp
  rw [e, Bool.eq_iff_iff, bne_iff_ne, List.any_eq_true]
  constructor
  · intro hne
    have h0 : x.toNat / 2 ^ n ≠ 0 := by intro h; rw [h] at hne; exact hne rfl
    obtain ⟨i, hi⟩ := Nat.exists_testBit_of_ne_zero h0
    rw [Nat.testBit_div_two_pow] at hi
    have hlt : n + i < 64 := by
      rcases Nat.lt_or_ge (n + i) 64 with h | h
      · exact h
      · have := tb_hi hx h; unfold tb at this; rw [Nat.add_comm] at hi; simp_all
    refine ⟨n + i, by simp [hlt], ?_⟩
    unfold tb
    rw [Nat.add_comm] at hi
    simp [hi]
  · rintro ⟨i, hi, hb⟩ hz
    simp at hi hb
    have h0 : x.toNat / 2 ^ n = 0 := by omega
    have h1 : (x.toNat / 2 ^ n).testBit (i - n) = x.toNat.testBit i := by
      rw [Nat.testBit_div_two_pow]; congr 1; omega
    rw [h0] at h1
    unfold tb at hb
    rw [hb.1] at h1
    simp at h1
theorem down_zero {x : Int} (hx : R x) (n : Nat) : (x * ((2 ^ n : Nat) : Int) % 18446744073709551616 != 0) = (List.range 64).any fun i => tb x i && decide (n + i < 64) := by
  have e : x * ((2 ^ n : Nat) : Int) % 18446744073709551616 = ((x.toNat * 2 ^ n % 2 ^ 64 : Nat) : Int) := by
    have : x = (x.toNat : Int) := by unfold R at hx; omega
    rw [this]; simp
  rw [e, Bool.eq_iff_iff, bne_iff_ne, List.any_eq_true]
  constructor
  · intro hne
    have h0 : x.toNat * 2 ^ n % 2 ^ 64 ≠ 0 := by intro h; rw [h] at hne; exact hne rfl
    obtain ⟨i, hi⟩ := Nat.exists_testBit_of_ne_zero h0
    rw [Nat.testBit_mod_two_pow, Nat.testBit_mul_two_pow] at hi
    simp at hi
    obtain ⟨h1, h2, h3⟩ := hi
    exact ⟨i - n, by simp; omega, by unfold tb; simp [h3]; omega⟩
  · rintro ⟨i, hi, hb⟩ hz
    simp at hi hb
    have h0 : x.toNat * 2 ^ n % 2 ^ 64 = 0 := by omega
    have h1 : (x.toNat * 2 ^ n % 2 ^ 64).testBit (n + i) = x.toNat.testBit i := by
      rw [Nat.testBit_mod_two_pow, Nat.testBit_mul_two_pow]
      simp [hb.2]
    rw [h0] at h1
    unfold tb at hb
    rw [hb.1] at h1
    simp at h1
theorem any_congr (x : Int) (P Q : Nat → Bool) (h : ∀ i, i < 64 → tb x i = true → P i = Q i) : ((List.range 64).any fun i => tb x i && P i) = (List.range 64).any fun i => tb x i && Q i := by
  rw [Bool.eq_iff_iff, List.any_eq_true, List.any_eq_true]
  constructor
  · rintro ⟨i, hi, hb⟩
    simp at hi hb
    exact ⟨i, by simpa using hi, by simp [hb.1, ← h i hi hb.1, hb.2]⟩
  · rintro ⟨i, hi, hb⟩
    simp at hi hb
    exact ⟨i, by simpa using hi, by simp [hb.1, h i hi hb.1, hb.2]⟩
theorem ah_up (x f : Int) : ahB x f 1 = (List.range 64).any fun i => tb x i && decide (f < i) := by unfold ahB; simp
theorem ah_down (x f : Int) : ahB x f 2 = (List.range 64).any fun i => tb x i && decide ((i : Int) < f) := by unfold ahB; simp
theorem ah_none (x f way : Int) (h1 : (way == 1) = false) (h2 : (way == 2) = false) : ahB x f way = false := by unfold ahB; rw [h1, h2]; rfl
theorem up_fact {x : Int} (hx : R x) (f : Int) (h0 : -1 ≤ f) (h1 : f ≤ 64) : (x / 2 ^ (min (f + 1).toNat 64) != 0) = ahB x f 1 := by
  have h := up_zero hx (min (f + 1).toNat 64) (by omega)
  rw [ah_up, show ((2 : Int) ^ (min (f + 1).toNat 64)) = ((2 ^ (min (f + 1).toNat 64) : Nat) : Int) by simp, h]
  exact any_congr _ _ _ fun i _ _ => by rw [decide_eq_decide]; omega
theorem down_fact {x : Int} (hx : R x) (f : Int) (h0 : 0 ≤ f) (h1 : f ≤ 64) : (IntKind.u64.wrap (x * 2 ^ (64 - f).toNat) != 0) = ahB x f 2 := by
  have h := down_zero hx (64 - f).toNat
  rw [ah_down, show ((2 : Int) ^ (64 - f).toNat) = ((2 ^ (64 - f).toNat : Nat) : Int) by simp,
    show IntKind.u64.wrap (x * ((2 ^ (64 - f).toNat : Nat) : Int)) = x * ((2 ^ (64 - f).toNat : Nat) : Int) % 18446744073709551616 by simp [IntKind.wrap, IntKind.bits, IntKind.signed], h]
  exact any_congr _ _ _ fun i _ _ => by rw [decide_eq_decide]; omega
theorem down_65 {x : Int} : (IntKind.u64.wrap (x * 18446744073709551616) != 0) = false := by
  simp [IntKind.wrap, IntKind.bits, IntKind.signed]
theorem ahB_low (x f : Int) (h : f < -1) : ahB x f 1 = ahB x (-1) 1 ∧ ahB x f 2 = ahB x (-1) 2 := by
  rw [ah_up, ah_up, ah_down, ah_down]
  exact ⟨any_congr _ _ _ fun i _ _ => by rw [decide_eq_decide]; omega, any_congr _ _ _ fun i _ _ => by rw [decide_eq_decide]; omega⟩
theorem ahB_high (x f : Int) (h : 64 < f) : ahB x f 1 = ahB x 64 1 ∧ ahB x f 2 = ahB x 64 2 := by
  rw [ah_up, ah_up, ah_down, ah_down]
  exact ⟨any_congr _ _ _ fun i _ _ => by rw [decide_eq_decide]; omega, any_congr _ _ _ fun i _ _ => by rw [decide_eq_decide]; omega⟩
theorem ahB_m1 (x : Int) : ahB x (-1) 2 = false := by
  rw [ah_down, List.any_eq_false]; intro i hi; simp <;> omega
theorem aheadT (p u d f way : Int) (hp : R p) (hu : R u) (hd : R d) (w : World) : Calls Try.prog 32 #[.agg #[.int .u64 p, .int .u64 u, .int .u64 d], .int .i64 f, .int .i64 way] w fun e w' => e = .returned (.bool (ahB (al p u d) f way)) ∧ Since w w' := by
  have hal := al_R hp hu hd
  by_cases h1 : way = 1
  · subst h1
    rcases (show f < -1 ∨ f = -1 ∨ 64 < f ∨ (0 ≤ f ∧ f ≤ 64) by omega) with hf | hf | hf | ⟨hf0, hf1⟩
    · have HU := Lib.hid (up_fact hal (-1) (by omega) (by omega))
      have HV := Lib.hid (ahB_low (al p u d) f hf).1
      go_enter Try.func32, Try.ntmps32
      go_wp2_with fail
      refine (allT _ _ _ _).mono ?_
      rintro e w1 ⟨rfl, hb1⟩
      go_wp2
      go_ret
      exact ⟨ret_bool (by rw [HV.out, ← HU.out]; simp), (by repeat (first | exact Since.refl _ | assumption | refine Since.setCell ?_ (by first | (simp; done) | (simp; omega)) _ | refine Since.drew ?_ | refine Since.drewN ?_ _ | refine Since.alloc ?_ _ | refine Since.trans ?_ (by assumption) | refine Since.trans ?_ (Hid.out (by assumption))))⟩
    · subst hf
      have HU := Lib.hid (up_fact hal (-1) (by omega) (by omega))
      go_enter Try.func32, Try.ntmps32
      go_wp2_with fail
      refine (allT _ _ _ _).mono ?_
      rintro e w1 ⟨rfl, hb1⟩
      go_wp2
      go_ret
      exact ⟨ret_bool (by rw [← HU.out]; simp), (by repeat (first | exact Since.refl _ | assumption | refine Since.setCell ?_ (by first | (simp; done) | (simp; omega)) _ | refine Since.drew ?_ | refine Since.drewN ?_ _ | refine Since.alloc ?_ _ | refine Since.trans ?_ (by assumption) | refine Since.trans ?_ (Hid.out (by assumption))))⟩
    · have HU := Lib.hid (up_fact hal 64 (by omega) (by omega))
      have HV := Lib.hid (ahB_high (al p u d) f hf).1
      go_enter Try.func32, Try.ntmps32
      go_wp2_with fail
      refine (allT _ _ _ _).mono ?_
      rintro e w1 ⟨rfl, hb1⟩
      go_wp2
      go_ret
      exact ⟨ret_bool (by rw [HV.out, ← HU.out]; simp), (by repeat (first | exact Since.refl _ | assumption | refine Since.setCell ?_ (by first | (simp; done) | (simp; omega)) _ | refine Since.drew ?_ | refine Since.drewN ?_ _ | refine Since.alloc ?_ _ | refine Since.trans ?_ (by assumption) | refine Since.trans ?_ (Hid.out (by assumption))))⟩
    · have HU := Lib.hid (up_fact hal f (by omega) (by omega))
      have hf2 : 0 ≤ f + 1 := by omega
      have hf3 : f + 1 ≤ 65 := by omega
      go_enter Try.func32, Try.ntmps32
      go_wp2_with fail
      refine (allT _ _ _ _).mono ?_
      rintro e w1 ⟨rfl, hb1⟩
      go_wp2
      go_ret
      exact ⟨ret_bool HU.out, (by repeat (first | exact Since.refl _ | assumption | refine Since.setCell ?_ (by first | (simp; done) | (simp; omega)) _ | refine Since.drew ?_ | refine Since.drewN ?_ _ | refine Since.alloc ?_ _ | refine Since.trans ?_ (by assumption) | refine Since.trans ?_ (Hid.out (by assumption))))⟩
  · have h1' : (way == 1) = false := by simpa using h1
    by_cases h2 : way = 2
    · subst h2
      rcases (show f < -1 ∨ f = -1 ∨ 64 < f ∨ (0 ≤ f ∧ f ≤ 64) by omega) with hf | hf | hf | ⟨hf0, hf1⟩
      · have HV := Lib.hid ((ahB_low (al p u d) f hf).2.trans (ahB_m1 _))
        have HU := Lib.hid (down_65 (x := al p u d))
        go_enter Try.func32, Try.ntmps32
        go_wp2_with fail
        refine (allT _ _ _ _).mono ?_
        rintro e w1 ⟨rfl, hb1⟩
        go_wp2
        go_ret
        exact ⟨ret_bool (by rw [HV.out]; exact HU.out), (by repeat (first | exact Since.refl _ | assumption | refine Since.setCell ?_ (by first | (simp; done) | (simp; omega)) _ | refine Since.drew ?_ | refine Since.drewN ?_ _ | refine Since.alloc ?_ _ | refine Since.trans ?_ (by assumption) | refine Since.trans ?_ (Hid.out (by assumption))))⟩
      · subst hf
        have HV := Lib.hid (ahB_m1 (al p u d))
        have HU := Lib.hid (down_65 (x := al p u d))
        go_enter Try.func32, Try.ntmps32
        go_wp2_with fail
        refine (allT _ _ _ _).mono ?_
        rintro e w1 ⟨rfl, hb1⟩
        go_wp2
        go_ret
        exact ⟨ret_bool (by rw [HV.out]; exact HU.out), (by repeat (first | exact Since.refl _ | assumption | refine Since.setCell ?_ (by first | (simp; done) | (simp; omega)) _ | refine Since.drew ?_ | refine Since.drewN ?_ _ | refine Since.alloc ?_ _ | refine Since.trans ?_ (by assumption) | refine Since.trans ?_ (Hid.out (by assumption))))⟩
      · have HU := Lib.hid (down_fact hal 64 (by omega) (by omega))
        have HV := Lib.hid (ahB_high (al p u d) f hf).2
        go_enter Try.func32, Try.ntmps32
        go_wp2_with fail
        refine (allT _ _ _ _).mono ?_
        rintro e w1 ⟨rfl, hb1⟩
        go_wp2
        go_ret
        exact ⟨ret_bool (by rw [HV.out, ← HU.out]; simp), (by repeat (first | exact Since.refl _ | assumption | refine Since.setCell ?_ (by first | (simp; done) | (simp; omega)) _ | refine Since.drew ?_ | refine Since.drewN ?_ _ | refine Since.alloc ?_ _ | refine Since.trans ?_ (by assumption) | refine Since.trans ?_ (Hid.out (by assumption))))⟩
      · have HU := Lib.hid (down_fact hal f (by omega) (by omega))
        go_enter Try.func32, Try.ntmps32
        go_wp2_with fail
        refine (allT _ _ _ _).mono ?_
        rintro e w1 ⟨rfl, hb1⟩
        go_wp2
        go_ret
        exact ⟨ret_bool HU.out, (by repeat (first | exact Since.refl _ | assumption | refine Since.setCell ?_ (by first | (simp; done) | (simp; omega)) _ | refine Since.drew ?_ | refine Since.drewN ?_ _ | refine Since.alloc ?_ _ | refine Since.trans ?_ (by assumption) | refine Since.trans ?_ (Hid.out (by assumption))))⟩
    · have h2' : (way == 2) = false := by simpa using h2
      have HN := Lib.hid (ah_none (al p u d) f way h1' h2')
      rcases (show f < -1 ∨ 64 < f ∨ (-1 ≤ f ∧ f ≤ 64) by omega) with hf | hf | ⟨hf0, hf1⟩
      all_goals
        go_enter Try.func32, Try.ntmps32
        go_wp2
        go_ret
        exact ⟨ret_bool HN.out.symm, (by repeat (first | exact Since.refl _ | assumption | refine Since.setCell ?_ (by first | (simp; done) | (simp; omega)) _ | refine Since.drew ?_ | refine Since.drewN ?_ _ | refine Since.alloc ?_ _ | refine Since.trans ?_ (by assumption) | refine Since.trans ?_ (Hid.out (by assumption))))⟩
end Go.Proofs.Ytdbbacpofgjgoaa.St
