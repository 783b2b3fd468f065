/-
  What is wanted by the last of these texts, part 6.
  No condition.
-/
import Derived.Test.YtpacieocmogjeaaKGv5
namespace Go.Proofs.Ytpacieocmogjeaa.St
set_option linter.unusedVariables false
set_option linter.unusedSimpArgs false
open Go.RowKit Go.Proofs.Ytpacieocmogjeaa.Ba
set_option maxRecDepth 100000
/-- Is there one of them that way? -/
def ahB (x f way : Int) : Bool := (way == 1 && (List.range 64).any fun i => tb x i && decide (f < i)) || (way == 2 && (List.range 64).any fun i => tb x i && decide ((i : Int) < f))
theorem up_zero {x : Int} (hx : R x) (n : Nat) (h : n ≤ 65) : (x / ((2 ^ n : Nat) : Int) != 0) = (List.range 64).any fun i => tb x i && decide (n ≤ i) := by
  have e : x / ((2 ^ n : Nat) : Int) = ((x.toNat / 2 ^ n : Nat) : Int) := by
    have : x = (x.toNat : Int) := by unfold R at hx; omega
    rw [this]; simp
  rw [e, Bool.eq_iff_iff, bne_iff_ne, List.any_eq_true]
  constructor
  · intro hne
    have h0 : x.toNat / 2 ^ n ≠ 0 := by intro h; rw [h] at hne; exact hne rfl
    obtain ⟨i, hi⟩ := Nat.exists_testBit_of_ne_zero h0
    rw [Nat.testBit_div_two_pow] at hi
    have hlt : n + i < 64 := by
      rcases Nat.lt_or_ge (n + i) 64 with h | h
      · exact h
      · have := tb_hi hx h; unfold tb at this; rw [Nat.add_comm] at hi; simp_all
    refine ⟨n + i, by simp [hlt], ?_⟩
    unfold tb
    rw [Nat.add_comm] at hi
    simp [hi]
  · rintro ⟨i, hi, hb⟩ hz
    simp at hi hb
    have h0 : x.toNat / 2 ^ n = 0 := by omega
    have h1 : (x.toNat / 2 ^ n).testBit (i - n) = x.toNat.testBit i := by
      rw [Nat.testBit_div_two_pow]; congr 1; omega
    rw [h0] at h1
    unfold tb at hb
    rw [hb.1] at h1
    simp at h1
theorem down_zero {x : Int} (hx : R x) (n : Nat) : (x * ((2 ^ n : Nat) : Int) % 18446744073709551616 != 0) = (List.range 64).any fun i => tb x i && decide (n + i < 64) := by
  have e : x * ((2 ^ n : Nat) : Int) % 18446744073709551616 = ((x.toNat * 2 ^ n % 2 ^ 64 : Nat) : Int) := by
    have : x = (x.toNat : Int) := by unfold R at hx; omega
    rw [this]; simp
  rw [e, Bool.eq_iff_iff, bne_iff_ne, List.any_eq_true]
  constructor
  · intro hne
    have h0 : x.toNat * 2 ^ n % 2 ^ 64 ≠ 0 := by intro h; rw [h] at hne; exact hne rfl
    obtain ⟨i, hi⟩ := Nat.exists_testBit_of_ne_zero h0
    rw [Nat.testBit_mod_two_pow, Nat.testBit_mul_two_pow] at hi
    simp at hi
    obtain ⟨h1, h2, h3⟩ := hi
    exact ⟨i - n, by simp; omega, by unfold tb; simp [h3]; omega⟩
  · rintro ⟨i, hi, hb⟩ hz
    simp at hi hb
    have h0 : x.toNat * 2 ^ n % 2 ^ 64 = 0 := by omega
    have h1 : (x.toNat * 2 ^ n % 2 ^ 64).testBit (n + i) = x.toNat.testBit i := by
      rw [Nat.testBit_mod_two_pow, Nat.testBit_mul_two_pow]
      simp [hb.2]
    rw [h0] at h1
    unfold tb at hb
    rw [hb.1] at h1
    simp at h1
theorem any_congr (x : Int) (P Q : Nat → Bool) (h : ∀ i, i < 64 → tb x i = true → P i = Q i) : ((List.range 64).any fun i => tb x i && P i) = (List.range 64).any fun i => tb x i && Q i := by
  rw [Bool.eq_iff_iff, List.any_eq_true, List.any_eq_true]
  constructor
  · rintro ⟨i, hi, hb⟩
    simp at hi hb
    exact ⟨i, by simpa using hi, by simp [hb.1, ← h i hi hb.1, hb.2]⟩
  · rintro ⟨i, hi, hb⟩
    simp at hi hb
    exact ⟨i, by simpa using hi, by simp [hb.1, h i hi hb.1, hb.2]⟩
theorem ah_up (x f : Int) : ahB x f 1 = (List.range 64).any fun i => tb x i && decide (f < i) := by unfold ahB; simp
theorem ah_down (x f : Int) : ahB x f 2 = (List.range 64).any fun i => tb x i && decide ((i : Int) < f) := by unfold ahB; simp
theorem ah_none (x f way : Int) (h1 : (way == 1) = false) (h2 : (way == 2) = false) : ahB x f way = false := by unfold ahB; rw [h1, h2]; rfl
theorem up_fact {x : Int} (hx : R x) (f : Int) (h0 : -1 ≤ f) (h1 : f ≤ 64) : (x / 2 ^ (min (f + 1).toNat 64) != 0) = ahB x f 1 := by
  have h := up_zero hx (min (f + 1).toNat 64) (by omega)
  rw [ah_up, show ((2 : Int) ^ (min (f + 1).toNat 64)) = ((2 ^ (min (f + 1).toNat 64) : Nat) : Int) by simp, h]
  exact any_congr _ _ _ fun i _ _ => by rw [decide_eq_decide]; omega
theorem down_fact {x : Int} (hx : R x) (f : Int) (h0 : 0 ≤ f) (h1 : f ≤ 64) : (IntKind.u64.wrap (x * 2 ^ (64 - f).toNat) != 0) = ahB x f 2 := by
  have h := down_zero hx (64 - f).toNat
  rw [ah_down, show ((2 : Int) ^ (64 - f).toNat) = ((2 ^ (64 - f).toNat : Nat) : Int) by simp,
    show IntKind.u64.wrap (x * ((2 ^ (64 - f).toNat : Nat) : Int)) = x * ((2 ^ (64 - f).toNat : Nat) : Int) % 18446744073709551616 by simp [IntKind.wrap, IntKind.bits, IntKind.signed], h]
  exact any_congr _ _ _ fun i _ _ => by rw [decide_eq_decide]; omega
theorem down_65 {x : Int} : (IntKind.u64.wrap (x * 18446744073709551616) != 0) = false := by
  simp [IntKind.wrap, IntKind.bits, IntKind.signed]
theorem ahB_low (x f : Int) (h : f < -1) : ahB x f 1 = ahB x (-1) 1 ∧ ahB x f 2 = ahB x (-1) 2 := by
  rw [ah_up, ah_up, ah_down, ah_down]
  exact ⟨any_congr _ _ _ fun i _ _ => by rw [decide_eq_decide]; omega, any_congr _ _ _ fun i _ _ => by rw [decide_eq_decide]; omega⟩
theorem ahB_high (x f : Int) (h : 64 < f) : ahB x f 1 = ahB x 64 1 ∧ ahB x f 2 = ahB x 64 2 := by
  rw [ah_up, ah_up, ah_down, ah_down]
  exact ⟨any_congr _ _ _ fun i _ _ => by rw [decide_eq_decide]; omega, any_congr _ _ _ fun i _ _ => by rw [decide_eq_decide]; omega⟩
theorem ahB_m1 (x : Int) : ahB x (-1) 2 = false := by
  rw [ah_down, List.any_eq_false]; intro i hi; simp <;> omega
theorem aheadT (p u d f way : Int) (hp : R p) (hu : R u) (hd : R d) (w : World) : Calls Try.prog 109 #[.agg #[.int .u64 p, .int .u64 u, .int .u64 d], .int .i64 f, .int .i64 way] w fun e w' => e = .returned (.bool (ahB (al p u d) f way)) ∧ Since w w' := by
  have hal := al_R hp hu hd
  by_cases h1 : way = 1
  · subst h1
    rcases (show f < -1 ∨ f = -1 ∨ 64 < f ∨ (0 ≤ f ∧ f ≤ 64) by omega) with hf | hf | hf | ⟨hf0, hf1⟩
    · have HU := Lib.hid (up_fact hal (-1) (by omega) (by omega))
      have HV := Lib.hid (ahB_low (al p u d) f hf).1
      go_enter Try.func109, Try.ntmps109
      go_wp2_with fail
      refine (allT _ _ _ _).mono ?_
      rintro e w1 ⟨rfl, hb1⟩
      go_wp2
      go_ret
      exact ⟨ret_bool (by rw [HV.out, ← HU.out]; simp), (by repeat (first | exact Since.refl _ | assumption | refine Since.setCell ?_ (by first | (simp; done) | (simp; omega)) _ | refine Since.drew ?_ | refine Since.drewN ?_ _ | refine Since.alloc ?_ _ | refine Since.trans ?_ (by assumption) | refine Since.trans ?_ (Hid.out (by assumption))))⟩
    · subst hf
      have HU := Lib.hid (up_fact hal (-1) (by omega) (by omega))
      go_enter Try.func109, Try.ntmps109
      go_wp2_with fail
      refine (allT _ _ _ _).mono ?_
      rintro e w1 ⟨rfl, hb1⟩
      go_wp2
      go_ret
      exact ⟨ret_bool (by rw [← HU.out]; simp), (by repeat (first | exact Since.refl _ | assumption | refine Since.setCell ?_ (by first | (simp; done) | (simp; omega)) _ | refine Since.drew ?_ | refine Since.drewN ?_ _ | refine Since.alloc ?_ _ | refine Since.trans ?_ (by assumption) | refine Since.trans ?_ (Hid.out (by assumption))))⟩
    · have HU := Lib.hid (up_fact hal 64 (by omega) (by omega))
      have HV := Lib.hid (ahB_high (al p u d) f hf).1
      go_enter Try.func109, Try.ntmps109
      go_wp2_with fail
      refine (allT _ _ _ _).mono ?_
      rintro e w1 ⟨rfl, hb1⟩
      go_wp2
      go_ret
      exact ⟨ret_bool (by rw [HV.out, ← HU.out]; simp), (by repeat (first | exact Since.refl _ | assumption | refine Since.setCell ?_ (by first | (simp; done) | (simp; omega)) _ | refine Since.drew ?_ | refine Since.drewN ?_ _ | refine Since.alloc ?_ _ | refine Since.trans ?_ (by assumption) | refine Since.trans ?_ (Hid.out (by assumption))))⟩
    · have HU := Lib.hid (up_fact hal f (by omega) (by omega))
      have hf2 : 0 ≤ f + 1 := by omega
      have hf3 : f + 1 ≤ 65 := by omega
      go_enter Try.func109, Try.ntmps109
      go_wp2_with fail
      refine (allT _ _ _ _).mono ?_
      rintro e w1 ⟨rfl, hb1⟩
      go_wp2
      go_ret
      exact ⟨ret_bool HU.out, (by repeat (first | exact Since.refl _ | assumption | refine Since.setCell ?_ (by first | (simp; done) | (simp; omega)) _ | refine Since.drew ?_ | refine Since.drewN ?_ _ | refine Since.alloc ?_ _ | refine Since.trans ?_ (by assumption) | refine Since.trans ?_ (Hid.out (by assumption))))⟩
  · have h1' : (way == 1) = false := by simpa using h1
    by_cases h2 : way = 2
    · subst h2
      rcases (show f < -1 ∨ f = -1 ∨ 64 < f ∨ (0 ≤ f ∧ f ≤ 64) by omega) with hf | hf | hf | ⟨hf0, hf1⟩
      · have HV := Lib.hid ((ahB_low (al p u d) f hf).2.trans (ahB_m1 _))
        have HU := Lib.hid (down_65 (x := al p u d))
        go_enter Try.func109, Try.ntmps109
        go_wp2_with fail
        refine (allT _ _ _ _).mono ?_
        rintro e w1 ⟨rfl, hb1⟩
        go_wp2
        go_ret
        exact ⟨ret_bool (by rw [HV.out]; exact HU.out), (by repeat (first | exact Since.refl _ | assumption | refine Since.setCell ?_ (by first | (simp; done) | (simp; omega)) _ | refine Since.drew ?_ | refine Since.drewN ?_ _ | refine Since.alloc ?_ _ | refine Since.trans ?_ (by assumption) | refine Since.trans ?_ (Hid.out (by assumption))))⟩
      · subst hf
        have HV := Lib.hid (ahB_m1 (al p u d))
        have HU := Lib.hid (down_65 (x := al p u d))
        go_enter Try.func109, Try.ntmps109
        go_wp2_with fail
        refine (allT _ _ _ _).mono ?_
        rintro e w1 ⟨rfl, hb1⟩
        go_wp2
        go_ret
        exact ⟨ret_bool (by rw [HV.out]; exact HU.out), (by repeat (first | exact Since.refl _ | assumption | refine Since.setCell ?_ (by first | (simp; done) | (simp; omega)) _ | refine Since.drew ?_ | refine Since.drewN ?_ _ | refine Since.alloc ?_ _ | refine Since.trans ?_ (by assumption) | refine Since.trans ?_ (Hid.out (by assumption))))⟩
      · have HU := Lib.hid (down_fact hal 64 (by omega) (by omega))
        have HV := Lib.hid (ahB_high (al p u d) f hf).2
        go_enter Try.func109, Try.ntmps109
        go_wp2_with fail
        refine (allT _ _ _ _).mono ?_
        rintro e w1 ⟨rfl, hb1⟩
        go_wp2
        go_ret
        exact ⟨ret_bool (by rw [HV.out, ← HU.out]; simp), (by repeat (first | exact Since.refl _ | assumption | refine Since.setCell ?_ (by first | (simp; done) | (simp; omega)) _ | refine Since.drew ?_ | refine Since.drewN ?_ _ | refine Since.alloc ?_ _ | refine Since.trans ?_ (by assumption) | refine Since.trans ?_ (Hid.out (by assumption))))⟩
      · have HU := Lib.hid (down_fact hal f (by omega) (by omega))
        go_enter Try.func109, Try.ntmps109
        go_wp2_with fail
        refine (allT _ _ _ _).mono ?_
        rintro e w1 ⟨rfl, hb1⟩
        go_wp2
        go_ret
        exact ⟨ret_bool HU.out, (by repeat (first | exact Since.refl _ | assumption | refine Since.setCell ?_ (by first | (simp; done) | (simp; omega)) _ | refine Since.drew ?_ | refine Since.drewN ?_ _ | refine Since.alloc ?_ _ | refine Since.trans ?_ (by assumption) | refine Since.trans ?_ (Hid.out (by assumption))))⟩
    · have h2' : (way == 2) = false := by simpa using h2
      have HN := Lib.hid (ah_none (al p u d) f way h1' h2')
      rcases (show f < -1 ∨ 64 < f ∨ (-1 ≤ f ∧ f ≤ 64) by omega) with hf | hf | ⟨hf0, hf1⟩
      all_goals
        go_enter Try.func109, Try.ntmps109
        go_wp2
        go_ret
        exact ⟨ret_bool HN.out.symm, (by repeat (first | exact Since.refl _ | assumption | refine Since.setCell ?_ (by first | (simp; done) | (simp; omega)) _ | refine Since.drew ?_ | refine Since.drewN ?_ _ | refine Since.alloc ?_ _ | refine Since.trans ?_ (by assumption) | refine Since.trans ?_ (Hid.out (by assumption))))⟩
end Go.Proofs.Ytpacieocmogjeaa.St
namespace Go.Proofs.Ytpacieocmogjeaa.Sc
set_option linter.unusedVariables false
set_option linter.unusedSimpArgs false
open Go.RowKit Go.Proofs.Ytpacieocmogjeaa.Ba Go.Proofs.Ytpacieocmogjeaa.St
set_option maxRecDepth 100000
theorem calledT (p u d f way : Int) (hu : R u) (hd : R d) (w : World) : Calls Try.prog 104 #[.agg #[.int .u64 p, .int .u64 u, .int .u64 d, .int .i64 f], .int .i64 way] w fun e w' => e = .returned (.bool (atB u d f way)) ∧ Since w w' := by
  go_enter Try.func104, Try.ntmps104
  go_wp2_with (first | (go_at_call 93; refine (atT _ _ _ _ _ hu hd _).mono ?_; rintro e w1 ⟨rfl, hb1⟩))
  go_ret
  exact ⟨rfl, (by repeat (first | exact Since.refl _ | assumption | refine Since.setCell ?_ (by first | (simp; done) | (simp; omega)) _ | refine Since.drew ?_ | refine Since.drewN ?_ _ | refine Since.alloc ?_ _ | refine Since.trans ?_ (by assumption) | refine Since.trans ?_ (Hid.out (by assumption))))⟩
theorem aheadP (p u d f way : Int) (hp : R p) (hu : R u) (hd : R d) (w : World) : Calls Try.prog 105 #[.agg #[.int .u64 p, .int .u64 u, .int .u64 d, .int .i64 f], .int .i64 way] w fun e w' => e = .returned (.bool (ahB (al p u d) f way)) ∧ Since w w' := by
  go_enter Try.func105, Try.ntmps105
  go_wp2_with (first | (go_at_call 109; refine (aheadT _ _ _ _ _ hp hu hd _).mono ?_; rintro e w1 ⟨rfl, hb1⟩))
  go_ret
  exact ⟨rfl, (by repeat (first | exact Since.refl _ | assumption | refine Since.setCell ?_ (by first | (simp; done) | (simp; omega)) _ | refine Since.drew ?_ | refine Since.drewN ?_ _ | refine Since.alloc ?_ _ | refine Since.trans ?_ (by assumption) | refine Since.trans ?_ (Hid.out (by assumption))))⟩
theorem pressedT (p u d f : Int) (hp : R p) (w : World) : Calls Try.prog 107 #[.agg #[.int .u64 p, .int .u64 u, .int .u64 d, .int .i64 f]] w fun e w' => e = .returned (.bool (heB p 0 0 f)) ∧ Since w w' := by
  go_enter Try.func107, Try.ntmps107
  go_wp2_with (first | (go_at_call 108; refine (hereT _ _ _ _ hp R.zero R.zero _).mono ?_; rintro e w1 ⟨rfl, hb1⟩))
  go_ret
  exact ⟨rfl, (by repeat (first | exact Since.refl _ | assumption | refine Since.setCell ?_ (by first | (simp; done) | (simp; omega)) _ | refine Since.drew ?_ | refine Since.drewN ?_ _ | refine Since.alloc ?_ _ | refine Since.trans ?_ (by assumption) | refine Since.trans ?_ (Hid.out (by assumption))))⟩
/-- Is there something here that was not served just now, or nothing else to do? -/
def svB (p u d f j : Int) : Bool := heB p u d f && (!(f == j) || (!ahB (al p u d) f 1 && !ahB (al p u d) f 2))
theorem servesT (p u d f j : Int) (hp : R p) (hu : R u) (hd : R d) (w : World) : Calls Try.prog 102 #[.agg #[.int .u64 p, .int .u64 u, .int .u64 d, .int .i64 f], .int .i64 j] w fun e w' => e = .returned (.bool (svB p u d f j)) ∧ Since w w' := by
  go_enter Try.func102, Try.ntmps102
  go_wp2_with (first | (go_at_call 108; refine (hereT _ _ _ _ hp hu hd _).mono ?_; rintro e w1 ⟨rfl, hb1⟩; have hq1 : w.heap.size < w1.heap.size := (by have := hb1.size; simp at this; omega); obtain ⟨hc1, hf1⟩ := hb1.cf) | (go_at_call 105; refine (aheadP _ _ _ _ _ hp hu hd _).mono ?_; rintro e w2 ⟨rfl, hb2⟩; have hq2 : w.heap.size < w2.heap.size := (by have := hb2.size; omega); obtain ⟨hc2, hf2⟩ := hb2.cf))
  all_goals
    go_ret
    exact ⟨ret_bool (by unfold svB; simp_all), (by repeat (first | exact Since.refl _ | assumption | refine Since.setCell ?_ (by first | (simp; done) | (simp; omega)) _ | refine Since.drew ?_ | refine Since.drewN ?_ _ | refine Since.alloc ?_ _ | refine Since.trans ?_ (by assumption) | refine Since.trans ?_ (Hid.out (by assumption))))⟩
/-- The other way. -/
def ot (way : Int) : Int := if way = 1 then 2 else 1
theorem otherT (way : Int) (w : World) : Calls Try.prog 106 #[.int .i64 way] w fun e w' => e = .returned (.int .i64 (ot way)) ∧ w = w' := by
  by_cases h : way = 1
  · subst h
    go_enter Try.func106, Try.ntmps106
    go_wp2
    go_ret
    exact ⟨rfl, rfl⟩
  · have h' : (way == 1) = false := by simpa using h
    have HO := Lib.hid (show ot way = 1 from if_neg h)
    go_enter Try.func106, Try.ntmps106
    go_wp2
    go_ret
    exact ⟨ret_int HO.out.symm, rfl⟩
/-- The first of two ways that is right, or none. -/
def fst2 (a b : Bool) (x y : Int) : Int := if a = true then x else if b = true then y else 0
/-- The first k of two ways are not right. -/
def offC (u d f y1 y2 : Int) (k : Nat) : Prop := (1 ≤ k → atB u d f y1 = false) ∧ (2 ≤ k → atB u d f y2 = false)
def offA (p u d f y1 y2 : Int) (k : Nat) : Prop := (1 ≤ k → ahB (al p u d) f y1 = false) ∧ (2 ≤ k → ahB (al p u d) f y2 = false)
theorem firstC (p u d f y1 y2 : Int) (b cap : Nat) (hp : R p) (hu : R u) (hd : R d) (w : World) (h1 : w.cell? ⟨b, 0, none⟩ = some (.int .i64 y1)) (h2 : w.cell? ⟨b, 1, none⟩ = some (.int .i64 y2)) : Calls Try.prog 103 #[.func (.func 104) #[.agg #[.int .u64 p, .int .u64 u, .int .u64 d, .int .i64 f]] #[], .slice (some ⟨b, 0, none⟩) 2 cap] w fun e w' => e = .returned (.int .i64 (fst2 (atB u d f y1) (atB u d f y2) y1 y2)) ∧ Since w w' := by
  have HB := Lib.hid (World.block_lt_of_cell? _ _ h1)
  have H1 := Lib.hid h1
  have H2 := Lib.hid h2
  clear h1 h2
  go_enter Try.func103, Try.ntmps103
  go_wp2_with fail
  go_loopw [9] (fun i wr => ∃ k : Nat, k ≤ 2 ∧ i = .int .i64 k ∧ offC u d f y1 y2 k ∧ Since w wr) (fun i _ => (2 - intOf i).toNat)
  case atStart => exact ⟨0, by omega, rfl, (⟨fun h => by omega, fun h => by omega⟩ : offC u d f y1 y2 0), Since.refl _⟩
  case round =>
    obtain ⟨k, hk, rfl, HN, hs⟩ := hrel
    have c1 := keep_cell hs H1.out
    have c2 := keep_cell hs H2.out
    have HW := Lib.hid hs
    clear hs
    rcases (show k = 0 ∨ k = 1 ∨ k = 2 by omega) with rfl | rfl | rfl
    · cases hK : atB u d f y1
      · have HK := Lib.hid hK
        go_wp2_with (first | (go_at_call 104; refine (calledT _ _ _ _ _ hu hd _).mono ?_; rintro e w2 ⟨rfl, hb2⟩))
        go_roundw
        case rel => exact ⟨1, by omega, rfl, (⟨fun _ => HK.out, fun h => by omega⟩ : offC u d f y1 y2 1), (by repeat (first | exact Since.refl _ | assumption | refine Since.setCell ?_ (by first | (simp; done) | (simp; omega)) _ | refine Since.drew ?_ | refine Since.drewN ?_ _ | refine Since.alloc ?_ _ | refine Since.trans ?_ (by assumption) | refine Since.trans ?_ (Hid.out (by assumption))))⟩
        case measure => simp [intOf]
      · have HK := Lib.hid hK
        go_wp2_with (first | (go_at_call 104; refine (calledT _ _ _ _ _ hu hd _).mono ?_; rintro e w2 ⟨rfl, hb2⟩))
        go_ret
        exact ⟨ret_int (by rw [HK.out]; rfl), (by repeat (first | exact Since.refl _ | assumption | refine Since.setCell ?_ (by first | (simp; done) | (simp; omega)) _ | refine Since.drew ?_ | refine Since.drewN ?_ _ | refine Since.alloc ?_ _ | refine Since.trans ?_ (by assumption) | refine Since.trans ?_ (Hid.out (by assumption))))⟩
    · cases hK : atB u d f y2
      · have HK := Lib.hid hK
        go_wp2_with (first | (go_at_call 104; refine (calledT _ _ _ _ _ hu hd _).mono ?_; rintro e w2 ⟨rfl, hb2⟩))
        go_roundw
        case rel => exact ⟨2, by omega, rfl, (⟨fun _ => HN.1 (by omega), fun _ => HK.out⟩ : offC u d f y1 y2 2), (by repeat (first | exact Since.refl _ | assumption | refine Since.setCell ?_ (by first | (simp; done) | (simp; omega)) _ | refine Since.drew ?_ | refine Since.drewN ?_ _ | refine Since.alloc ?_ _ | refine Since.trans ?_ (by assumption) | refine Since.trans ?_ (Hid.out (by assumption))))⟩
        case measure => simp [intOf]
      · have HK := Lib.hid hK
        go_wp2_with (first | (go_at_call 104; refine (calledT _ _ _ _ _ hu hd _).mono ?_; rintro e w2 ⟨rfl, hb2⟩))
        go_ret
        exact ⟨ret_int (by rw [HK.out, HN.1 (by omega)]; rfl), (by repeat (first | exact Since.refl _ | assumption | refine Since.setCell ?_ (by first | (simp; done) | (simp; omega)) _ | refine Since.drew ?_ | refine Since.drewN ?_ _ | refine Since.alloc ?_ _ | refine Since.trans ?_ (by assumption) | refine Since.trans ?_ (Hid.out (by assumption))))⟩
    · go_wp2
      go_ret
      exact ⟨ret_int (by rw [HN.1 (by omega), HN.2 (by omega)]; rfl), (by repeat (first | exact Since.refl _ | assumption | refine Since.setCell ?_ (by first | (simp; done) | (simp; omega)) _ | refine Since.drew ?_ | refine Since.drewN ?_ _ | refine Since.alloc ?_ _ | refine Since.trans ?_ (by assumption) | refine Since.trans ?_ (Hid.out (by assumption))))⟩
theorem firstA (p u d f y1 y2 : Int) (b cap : Nat) (hp : R p) (hu : R u) (hd : R d) (w : World) (h1 : w.cell? ⟨b, 0, none⟩ = some (.int .i64 y1)) (h2 : w.cell? ⟨b, 1, none⟩ = some (.int .i64 y2)) : Calls Try.prog 103 #[.func (.func 105) #[.agg #[.int .u64 p, .int .u64 u, .int .u64 d, .int .i64 f]] #[], .slice (some ⟨b, 0, none⟩) 2 cap] w fun e w' => e = .returned (.int .i64 (fst2 (ahB (al p u d) f y1) (ahB (al p u d) f y2) y1 y2)) ∧ Since w w' := by
  have HB := Lib.hid (World.block_lt_of_cell? _ _ h1)
  have H1 := Lib.hid h1
  have H2 := Lib.hid h2
  clear h1 h2
  go_enter Try.func103, Try.ntmps103
  go_wp2_with fail
  go_loopw [9] (fun i wr => ∃ k : Nat, k ≤ 2 ∧ i = .int .i64 k ∧ offA p u d f y1 y2 k ∧ Since w wr) (fun i _ => (2 - intOf i).toNat)
  case atStart => exact ⟨0, by omega, rfl, (⟨fun h => by omega, fun h => by omega⟩ : offA p u d f y1 y2 0), Since.refl _⟩
  case round =>
    obtain ⟨k, hk, rfl, HN, hs⟩ := hrel
    have c1 := keep_cell hs H1.out
    have c2 := keep_cell hs H2.out
    have HW := Lib.hid hs
    clear hs
    rcases (show k = 0 ∨ k = 1 ∨ k = 2 by omega) with rfl | rfl | rfl
    · cases hK : ahB (al p u d) f y1
      · have HK := Lib.hid hK
        go_wp2_with (first | (go_at_call 105; refine (aheadP _ _ _ _ _ hp hu hd _).mono ?_; rintro e w2 ⟨rfl, hb2⟩))
        go_roundw
        case rel => exact ⟨1, by omega, rfl, (⟨fun _ => HK.out, fun h => by omega⟩ : offA p u d f y1 y2 1), (by repeat (first | exact Since.refl _ | assumption | refine Since.setCell ?_ (by first | (simp; done) | (simp; omega)) _ | refine Since.drew ?_ | refine Since.drewN ?_ _ | refine Since.alloc ?_ _ | refine Since.trans ?_ (by assumption) | refine Since.trans ?_ (Hid.out (by assumption))))⟩
        case measure => simp [intOf]
      · have HK := Lib.hid hK
        go_wp2_with (first | (go_at_call 105; refine (aheadP _ _ _ _ _ hp hu hd _).mono ?_; rintro e w2 ⟨rfl, hb2⟩))
        go_ret
        exact ⟨ret_int (by rw [HK.out]; rfl), (by repeat (first | exact Since.refl _ | assumption | refine Since.setCell ?_ (by first | (simp; done) | (simp; omega)) _ | refine Since.drew ?_ | refine Since.drewN ?_ _ | refine Since.alloc ?_ _ | refine Since.trans ?_ (by assumption) | refine Since.trans ?_ (Hid.out (by assumption))))⟩
    · cases hK : ahB (al p u d) f y2
      · have HK := Lib.hid hK
        go_wp2_with (first | (go_at_call 105; refine (aheadP _ _ _ _ _ hp hu hd _).mono ?_; rintro e w2 ⟨rfl, hb2⟩))
        go_roundw
        case rel => exact ⟨2, by omega, rfl, (⟨fun _ => HN.1 (by omega), fun _ => HK.out⟩ : offA p u d f y1 y2 2), (by repeat (first | exact Since.refl _ | assumption | refine Since.setCell ?_ (by first | (simp; done) | (simp; omega)) _ | refine Since.drew ?_ | refine Since.drewN ?_ _ | refine Since.alloc ?_ _ | refine Since.trans ?_ (by assumption) | refine Since.trans ?_ (Hid.out (by assumption))))⟩
        case measure => simp [intOf]
      · have HK := Lib.hid hK
        go_wp2_with (first | (go_at_call 105; refine (aheadP _ _ _ _ _ hp hu hd _).mono ?_; rintro e w2 ⟨rfl, hb2⟩))
        go_ret
        exact ⟨ret_int (by rw [HK.out, HN.1 (by omega)]; rfl), (by repeat (first | exact Since.refl _ | assumption | refine Since.setCell ?_ (by first | (simp; done) | (simp; omega)) _ | refine Since.drew ?_ | refine Since.drewN ?_ _ | refine Since.alloc ?_ _ | refine Since.trans ?_ (by assumption) | refine Since.trans ?_ (Hid.out (by assumption))))⟩
    · go_wp2
      go_ret
      exact ⟨ret_int (by rw [HN.1 (by omega), HN.2 (by omega)]; rfl), (by repeat (first | exact Since.refl _ | assumption | refine Since.setCell ?_ (by first | (simp; done) | (simp; omega)) _ | refine Since.drew ?_ | refine Since.drewN ?_ _ | refine Since.alloc ?_ _ | refine Since.trans ?_ (by assumption) | refine Since.trans ?_ (Hid.out (by assumption))))⟩
/-- Where a car goes that stands. -/
def stW (p u d f j : Int) : Int := if svB p u d f j = true then fst2 (atB u d f 1) (atB u d f 2) 1 2 else fst2 (ahB (al p u d) f 1) (ahB (al p u d) f 2) 1 2
theorem ret_wo {a a' : Int} {b b' : Bool} (h : a = a') (k : b = b') : Ending.returned (.tuple #[.int .i64 a, .bool b]) = .returned (.tuple #[.int .i64 a', .bool b']) := by rw [h, k]
theorem fromStillT (p u d f j : Int) (hp : R p) (hu : R u) (hd : R d) (w : World) : Calls Try.prog 91 #[.agg #[.int .u64 p, .int .u64 u, .int .u64 d, .int .i64 f], .int .i64 j] w fun e w' => e = .returned (.tuple #[.int .i64 (stW p u d f j), .bool (svB p u d f j)]) ∧ Since w w' := by
  cases hs : svB p u d f j
  · have HS := Lib.hid hs
    go_enter Try.func91, Try.ntmps91
    go_wp2_with fail
    refine (servesT _ _ _ _ _ hp hu hd _).mono ?_
    rintro e w1 ⟨rfl, hb1⟩
    have hz1 := hb1.size
    try simp at hz1
    have hl1_0 : w.heap.size < w1.heap.size := by omega
    obtain ⟨hc1, hf1⟩ := hb1.cf
    have HB1 := Lib.hid hb1
    clear hb1
    go_wp2_with fail
    refine (firstA _ _ _ _ 1 2 _ _ hp hu hd _ (by simp) (by simp)).mono ?_
    rintro e w2 ⟨rfl, hb2⟩
    go_wp2
    go_ret2
    exact ⟨ret_wo (by unfold stW; rw [HS.out]; rfl) rfl, (by repeat (first | exact Since.refl _ | assumption | refine Since.setCell ?_ (by first | (simp; done) | (simp; omega)) _ | refine Since.drew ?_ | refine Since.drewN ?_ _ | refine Since.alloc ?_ _ | refine Since.trans ?_ (by assumption) | refine Since.trans ?_ (Hid.out (by assumption))))⟩
  · have HS := Lib.hid hs
    go_enter Try.func91, Try.ntmps91
    go_wp2_with fail
    refine (servesT _ _ _ _ _ hp hu hd _).mono ?_
    rintro e w1 ⟨rfl, hb1⟩
    have hz1 := hb1.size
    try simp at hz1
    have hl1_0 : w.heap.size < w1.heap.size := by omega
    obtain ⟨hc1, hf1⟩ := hb1.cf
    have HB1 := Lib.hid hb1
    clear hb1
    go_wp2_with fail
    refine (firstC _ _ _ _ 1 2 _ _ hp hu hd _ (by simp) (by simp)).mono ?_
    rintro e w2 ⟨rfl, hb2⟩
    go_wp2
    go_ret2
    exact ⟨ret_wo (by unfold stW; rw [HS.out]; rfl) rfl, (by repeat (first | exact Since.refl _ | assumption | refine Since.setCell ?_ (by first | (simp; done) | (simp; omega)) _ | refine Since.drew ?_ | refine Since.drewN ?_ _ | refine Since.alloc ?_ _ | refine Since.trans ?_ (by assumption) | refine Since.trans ?_ (Hid.out (by assumption))))⟩
end Go.Proofs.Ytpacieocmogjeaa.Sc
namespace Go.Proofs.Ytpacieocmogjeaa.Sc
set_option linter.unusedVariables false
set_option linter.unusedSimpArgs false
open Go.RowKit Go.Proofs.Ytpacieocmogjeaa.Ba Go.Proofs.Ytpacieocmogjeaa.St
set_option maxRecDepth 100000
/-- Where a car goes that went some way, and whether it opens. -/
def onO (p u d f way j : Int) : Bool := svB p u d f j && (atB u d f way || (heB p 0 0 f && ahB (al p u d) f way) || !ahB (al p u d) f way)
def onW (p u d f way j : Int) : Int :=
  if svB p u d f j = true then
    (if atB u d f way = true ∨ (heB p 0 0 f = true ∧ ahB (al p u d) f way = true) then way
     else if ahB (al p u d) f way = false ∧ atB u d f (ot way) = true then ot way
     else if ahB (al p u d) f way = false then way
     else fst2 (ahB (al p u d) f way) (ahB (al p u d) f (ot way)) way (ot way))
  else fst2 (ahB (al p u d) f way) (ahB (al p u d) f (ot way)) way (ot way)
theorem onwardT (p u d f way j : Int) (hp : R p) (hu : R u) (hd : R d) (w : World) : Calls Try.prog 92 #[.agg #[.int .u64 p, .int .u64 u, .int .u64 d, .int .i64 f], .int .i64 way, .int .i64 j] w fun e w' => e = .returned (.tuple #[.int .i64 (onW p u d f way j), .bool (onO p u d f way j)]) ∧ Since w w' := by
  cases hs : svB p u d f j
  · have HS := Lib.hid hs
    go_enter Try.func92, Try.ntmps92
    go_wp2_with fail
    refine (otherT _ _).mono ?_
    rintro e w' ⟨rfl, rfl⟩
    go_wp2_with fail
    refine (servesT _ _ _ _ _ hp hu hd _).mono ?_
    rintro e w1 ⟨rfl, hb1⟩
    have hz1 := hb1.size
    try simp at hz1
    have hl1_0 : w.heap.size < w1.heap.size := by omega
    obtain ⟨hc1, hf1⟩ := hb1.cf
    have HB1 := Lib.hid hb1
    clear hb1
    go_wp2_with fail
    refine (firstA _ _ _ _ way (ot way) _ _ hp hu hd _ (by simp) (by simp)).mono ?_
    rintro e w2 ⟨rfl, hb2⟩
    go_wp2
    go_ret2
    exact ⟨ret_wo (by unfold onW; rw [HS.out]; rfl) (by unfold onO; rw [HS.out]; rfl), (by repeat (first | exact Since.refl _ | assumption | refine Since.setCell ?_ (by first | (simp; done) | (simp; omega)) _ | refine Since.drew ?_ | refine Since.drewN ?_ _ | refine Since.alloc ?_ _ | refine Since.trans ?_ (by assumption) | refine Since.trans ?_ (Hid.out (by assumption))))⟩
  · have HS := Lib.hid hs
    cases ha : ahB (al p u d) f way
    · have HA := Lib.hid ha
      cases hc : atB u d f way
      · have HC := Lib.hid hc
        cases hb : atB u d f (ot way)
        all_goals
          have HBK := Lib.hid hb
          go_enter Try.func92, Try.ntmps92
          go_wp2_with fail
          refine (otherT _ _).mono ?_
          rintro e w' ⟨rfl, rfl⟩
          go_wp2_with fail
          refine (servesT _ _ _ _ _ hp hu hd _).mono ?_
          rintro e w1 ⟨rfl, hb1⟩
          have hq1 : w.heap.size < w1.heap.size := by have := hb1.size; simp at this; omega
          obtain ⟨hc1, hf1⟩ := hb1.cf
          go_wp2_with fail
          refine (aheadP _ _ _ _ _ hp hu hd _).mono ?_
          rintro e w2 ⟨rfl, hb2⟩
          have hq2 : w.heap.size < w2.heap.size := by have := hb2.size; omega
          obtain ⟨hc2, hf2⟩ := hb2.cf
          go_wp2_with fail
          refine (calledT _ _ _ _ _ hu hd _).mono ?_
          rintro e w3 ⟨rfl, hb3⟩
          have hq3 : w.heap.size < w3.heap.size := by have := hb3.size; omega
          obtain ⟨hc3, hf3⟩ := hb3.cf
          go_wp2_with fail
          refine (pressedT _ _ _ _ hp _).mono ?_
          rintro e w4 ⟨rfl, hb4⟩
          have hq4 : w.heap.size < w4.heap.size := by have := hb4.size; omega
          obtain ⟨hc4, hf4⟩ := hb4.cf
          cases hpr : heB p 0 0 f
          all_goals
            have HPR := Lib.hid hpr
            go_wp2_with (first | (go_at_call 104; refine (calledT _ _ _ _ _ hu hd _).mono ?_; rintro e w5 ⟨rfl, hb5⟩))
            go_ret2
            exact ⟨ret_wo (by unfold onW; rw [HS.out, HA.out, HC.out, HBK.out]; simp) (by unfold onO; rw [HS.out, HA.out, HC.out]; simp), (by repeat (first | exact Since.refl _ | assumption | refine Since.setCell ?_ (by first | (simp; done) | (simp; omega)) _ | refine Since.drew ?_ | refine Since.drewN ?_ _ | refine Since.alloc ?_ _ | refine Since.trans ?_ (by assumption) | refine Since.trans ?_ (Hid.out (by assumption))))⟩
      · have HC := Lib.hid hc
        go_enter Try.func92, Try.ntmps92
        go_wp2_with fail
        refine (otherT _ _).mono ?_
        rintro e w' ⟨rfl, rfl⟩
        go_wp2_with fail
        refine (servesT _ _ _ _ _ hp hu hd _).mono ?_
        rintro e w1 ⟨rfl, hb1⟩
        have hz1 := hb1.size
        try simp at hz1
        have hl1_0 : w.heap.size < w1.heap.size := by omega
        obtain ⟨hc1, hf1⟩ := hb1.cf
        have HB1 := Lib.hid hb1
        clear hb1
        go_wp2_with fail
        refine (aheadP _ _ _ _ _ hp hu hd _).mono ?_
        rintro e w2 ⟨rfl, hb2⟩
        have hq2 : w.heap.size < w2.heap.size := by have := hb2.size; omega
        obtain ⟨hc2, hf2⟩ := hb2.cf
        go_wp2_with fail
        refine (calledT _ _ _ _ _ hu hd _).mono ?_
        rintro e w3 ⟨rfl, hb3⟩
        go_wp2
        go_ret2
        exact ⟨ret_wo (by unfold onW; rw [HS.out, HC.out]; simp) (by unfold onO; rw [HS.out, HC.out]; simp), (by repeat (first | exact Since.refl _ | assumption | refine Since.setCell ?_ (by first | (simp; done) | (simp; omega)) _ | refine Since.drew ?_ | refine Since.drewN ?_ _ | refine Since.alloc ?_ _ | refine Since.trans ?_ (by assumption) | refine Since.trans ?_ (Hid.out (by assumption))))⟩
    · have HA := Lib.hid ha
      cases hc : atB u d f way
      · have HC := Lib.hid hc
        cases hpr : heB p 0 0 f
        · have HPR := Lib.hid hpr
          go_enter Try.func92, Try.ntmps92
          go_wp2_with fail
          refine (otherT _ _).mono ?_
          rintro e w' ⟨rfl, rfl⟩
          go_wp2_with fail
          refine (servesT _ _ _ _ _ hp hu hd _).mono ?_
          rintro e w1 ⟨rfl, hb1⟩
          have hz1 := hb1.size
          try simp at hz1
          have hl1_0 : w.heap.size < w1.heap.size := by omega
          obtain ⟨hc1, hf1⟩ := hb1.cf
          have HB1 := Lib.hid hb1
          clear hb1
          go_wp2_with fail
          refine (aheadP _ _ _ _ _ hp hu hd _).mono ?_
          rintro e w2 ⟨rfl, hb2⟩
          have hq2 : w.heap.size < w2.heap.size := by have := hb2.size; omega
          obtain ⟨hc2, hf2⟩ := hb2.cf
          go_wp2_with fail
          refine (calledT _ _ _ _ _ hu hd _).mono ?_
          rintro e w3 ⟨rfl, hb3⟩
          have hq3 : w.heap.size < w3.heap.size := by have := hb3.size; omega
          obtain ⟨hc3, hf3⟩ := hb3.cf
          go_wp2_with fail
          refine (pressedT _ _ _ _ hp _).mono ?_
          rintro e w4 ⟨rfl, hb4⟩
          have hq4 : w.heap.size < w4.heap.size := by have := hb4.size; omega
          obtain ⟨hc4, hf4⟩ := hb4.cf
          go_wp2_with fail
          refine (firstA _ _ _ _ way (ot way) _ _ hp hu hd _ (by simp) (by simp)).mono ?_
          rintro e w5 ⟨rfl, hb5⟩
          go_wp2
          go_ret2
          exact ⟨ret_wo (by unfold onW; rw [HS.out, HA.out, HC.out, HPR.out]; simp) (by unfold onO; rw [HS.out, HA.out, HC.out, HPR.out]; simp), (by repeat (first | exact Since.refl _ | assumption | refine Since.setCell ?_ (by first | (simp; done) | (simp; omega)) _ | refine Since.drew ?_ | refine Since.drewN ?_ _ | refine Since.alloc ?_ _ | refine Since.trans ?_ (by assumption) | refine Since.trans ?_ (Hid.out (by assumption))))⟩
        · have HPR := Lib.hid hpr
          go_enter Try.func92, Try.ntmps92
          go_wp2_with fail
          refine (otherT _ _).mono ?_
          rintro e w' ⟨rfl, rfl⟩
          go_wp2_with fail
          refine (servesT _ _ _ _ _ hp hu hd _).mono ?_
          rintro e w1 ⟨rfl, hb1⟩
          have hz1 := hb1.size
          try simp at hz1
          have hl1_0 : w.heap.size < w1.heap.size := by omega
          obtain ⟨hc1, hf1⟩ := hb1.cf
          have HB1 := Lib.hid hb1
          clear hb1
          go_wp2_with fail
          refine (aheadP _ _ _ _ _ hp hu hd _).mono ?_
          rintro e w2 ⟨rfl, hb2⟩
          have hq2 : w.heap.size < w2.heap.size := by have := hb2.size; omega
          obtain ⟨hc2, hf2⟩ := hb2.cf
          go_wp2_with fail
          refine (calledT _ _ _ _ _ hu hd _).mono ?_
          rintro e w3 ⟨rfl, hb3⟩
          have hq3 : w.heap.size < w3.heap.size := by have := hb3.size; omega
          obtain ⟨hc3, hf3⟩ := hb3.cf
          go_wp2_with fail
          refine (pressedT _ _ _ _ hp _).mono ?_
          rintro e w4 ⟨rfl, hb4⟩
          go_wp2
          go_ret2
          exact ⟨ret_wo (by unfold onW; rw [HS.out, HA.out, HC.out, HPR.out]; simp) (by unfold onO; rw [HS.out, HA.out, HC.out, HPR.out]; simp), (by repeat (first | exact Since.refl _ | assumption | refine Since.setCell ?_ (by first | (simp; done) | (simp; omega)) _ | refine Since.drew ?_ | refine Since.drewN ?_ _ | refine Since.alloc ?_ _ | refine Since.trans ?_ (by assumption) | refine Since.trans ?_ (Hid.out (by assumption))))⟩
      · have HC := Lib.hid hc
        go_enter Try.func92, Try.ntmps92
        go_wp2_with fail
        refine (otherT _ _).mono ?_
        rintro e w' ⟨rfl, rfl⟩
        go_wp2_with fail
        refine (servesT _ _ _ _ _ hp hu hd _).mono ?_
        rintro e w1 ⟨rfl, hb1⟩
        have hz1 := hb1.size
        try simp at hz1
        have hl1_0 : w.heap.size < w1.heap.size := by omega
        obtain ⟨hc1, hf1⟩ := hb1.cf
        have HB1 := Lib.hid hb1
        clear hb1
        go_wp2_with fail
        refine (aheadP _ _ _ _ _ hp hu hd _).mono ?_
        rintro e w2 ⟨rfl, hb2⟩
        have hq2 : w.heap.size < w2.heap.size := by have := hb2.size; omega
        obtain ⟨hc2, hf2⟩ := hb2.cf
        go_wp2_with fail
        refine (calledT _ _ _ _ _ hu hd _).mono ?_
        rintro e w3 ⟨rfl, hb3⟩
        go_wp2
        go_ret2
        exact ⟨ret_wo (by unfold onW; rw [HS.out, HC.out]; simp) (by unfold onO; rw [HS.out, HC.out]; simp), (by repeat (first | exact Since.refl _ | assumption | refine Since.setCell ?_ (by first | (simp; done) | (simp; omega)) _ | refine Since.drew ?_ | refine Since.drewN ?_ _ | refine Since.alloc ?_ _ | refine Since.trans ?_ (by assumption) | refine Since.trans ?_ (Hid.out (by assumption))))⟩
/-- Where any car goes. -/
def nxW (p u d f way j : Int) : Int := if way = 0 then stW p u d f j else onW p u d f way j
def nxO (p u d f way j : Int) : Bool := if way = 0 then svB p u d f j else onO p u d f way j
theorem nextT (p u d f way j : Int) (hp : R p) (hu : R u) (hd : R d) (w : World) : Calls Try.prog 83 #[.agg #[.int .u64 p, .int .u64 u, .int .u64 d], .int .i64 f, .int .i64 way, .int .i64 j] w fun e w' => e = .returned (.tuple #[.int .i64 (nxW p u d f way j), .bool (nxO p u d f way j)]) ∧ Since w w' := by
  by_cases h : way = 0
  · subst h
    have HW := Lib.hid (show nxW p u d f 0 j = stW p u d f j from if_pos rfl)
    have HO := Lib.hid (show nxO p u d f 0 j = svB p u d f j from if_pos rfl)
    go_enter Try.func83, Try.ntmps83
    go_wp2_with (first | (go_at_call 91; refine (fromStillT _ _ _ _ _ hp hu hd _).mono ?_; rintro e w1 ⟨rfl, hb1⟩))
    go_ret2
    exact ⟨ret_wo HW.out.symm HO.out.symm, (by repeat (first | exact Since.refl _ | assumption | refine Since.setCell ?_ (by first | (simp; done) | (simp; omega)) _ | refine Since.drew ?_ | refine Since.drewN ?_ _ | refine Since.alloc ?_ _ | refine Since.trans ?_ (by assumption) | refine Since.trans ?_ (Hid.out (by assumption))))⟩
  · have h' : (way == 0) = false := by simpa using h
    have HW := Lib.hid (show nxW p u d f way j = onW p u d f way j from if_neg h)
    have HO := Lib.hid (show nxO p u d f way j = onO p u d f way j from if_neg h)
    go_enter Try.func83, Try.ntmps83
    go_wp2_with (first | (go_at_call 92; refine (onwardT _ _ _ _ _ _ hp hu hd _).mono ?_; rintro e w1 ⟨rfl, hb1⟩))
    go_ret2
    exact ⟨ret_wo HW.out.symm HO.out.symm, (by repeat (first | exact Since.refl _ | assumption | refine Since.setCell ?_ (by first | (simp; done) | (simp; omega)) _ | refine Since.drew ?_ | refine Since.drewN ?_ _ | refine Since.alloc ?_ _ | refine Since.trans ?_ (by assumption) | refine Since.trans ?_ (Hid.out (by assumption))))⟩
end Go.Proofs.Ytpacieocmogjeaa.Sc
