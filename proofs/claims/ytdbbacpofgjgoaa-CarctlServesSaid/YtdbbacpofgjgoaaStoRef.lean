/-
  The walks of the reference's stops (layers 12, 13).
  Conditions: the three sets fit 64 bits; a floor is an int.
-/
import Derived.Test.YtdbbacpofgjgoaaStoAh
namespace Go.Proofs.Ytdbbacpofgjgoaa.St
set_option linter.unusedVariables false
set_option linter.unusedSimpArgs false
open Go.RowKit Go.Proofs.Ytdbbacpofgjgoaa.Ba
set_option maxRecDepth 100000
theorem bitR (f : Int) (w : World) : Calls Try.prog 22 #[.int .i64 f] w fun e w' => e = .returned (.int .u64 (bit f)) ∧ w = w' := by
  by_cases h : 0 ≤ f ∧ f < 64
  · obtain ⟨h0, h1⟩ := h
    have hb := (bit_R f)
    have e : IntKind.u64.wrap (2 ^ f.toNat) = bit f := by
      have e1 : bit f = ((2 ^ f.toNat : Nat) : Int) := by unfold bit; rw [if_pos ⟨h0, h1⟩]
      unfold R at hb
      rw [e1] at hb
      rw [IntWalk.u64_in _ (by rw [Int.natCast_pow] at hb; simp at hb; omega), e1]
      simp
    have HE := Lib.hid e
    clear e hb
    go_enter Try.func22, Try.ntmps22
    go_wp2
    go_ret
    exact ⟨ret_int HE.out, rfl⟩
  · have e : bit f = 0 := by unfold bit; rw [if_neg h]
    have HE := Lib.hid e
    clear e
    rcases (show f < 0 ∨ 63 < f by omega) with h1 | h1
    all_goals
      clear h
      go_enter Try.func22, Try.ntmps22
      go_wp2
      go_ret
      exact ⟨ret_int HE.out.symm, rfl⟩
theorem has_fact {x : Int} (hx : R x) (f : Int) (h0 : 0 ≤ f) (h1 : f < 64) : (bits .and .u64 (x / 2 ^ f.toNat) 1 == 1) = mem x f := by
  have hn := hx.nat
  have e : x / 2 ^ f.toNat = ((x.toNat / 2 ^ f.toNat : Nat) : Int) := by
    have h2 : x = (x.toNat : Int) := by unfold R at hx; omega
    conv => lhs; rw [h2]
    simp
  have hlt : x.toNat / 2 ^ f.toNat < 18446744073709551616 := Nat.lt_of_le_of_lt (Nat.div_le_self _ _) hn
  have e2 := u64_and_nat (x.toNat / 2 ^ f.toNat) 1 hlt (by omega)
  rw [nat_mask1] at e2
  have e3 : bits .and .u64 (x / 2 ^ f.toNat) 1 = ((x.toNat / 2 ^ f.toNat % 2 : Nat) : Int) := by rw [e]; exact e2
  rw [e3]
  unfold mem tb
  rw [Nat.testBit_eq_decide_div_mod_eq]
  have hd : decide (0 ≤ f ∧ f < 64) = true := by simp; omega
  rw [hd]
  rcases Nat.mod_two_eq_zero_or_one (x.toNat / 2 ^ f.toNat) with h | h
  · rw [h]; rfl
  · rw [h]; rfl
theorem hasR (x f : Int) (hx : R x) (w : World) : Calls Try.prog 57 #[.int .u64 x, .int .i64 f] w fun e w' => e = .returned (.bool (mem x f)) ∧ w = w' := by
  by_cases h : 0 ≤ f ∧ f < 64
  · obtain ⟨h0, h1⟩ := h
    have HF := Lib.hid (has_fact hx f h0 h1)
    go_enter Try.func57, Try.ntmps57
    go_wp2
    go_ret
    exact ⟨ret_bool HF.out, rfl⟩
  · have e : mem x f = false := by unfold mem; simp; intro a b; omega
    have HE := Lib.hid e
    clear e
    rcases (show f < 0 ∨ 64 ≤ f by omega) with h1 | h1
    all_goals
      clear h
      go_enter Try.func57, Try.ntmps57
      go_wp2
      go_ret
      exact ⟨ret_bool HE.out.symm, rfl⟩
theorem anyR (p u d f : Int) (hp : R p) (hu : R u) (hd : R d) (w : World) : Calls Try.prog 31 #[.agg #[.int .u64 p, .int .u64 u, .int .u64 d], .int .i64 f] w fun e w' => e = .returned (.bool (heB p u d f)) ∧ Since w w' := by
  have HA := Lib.hid (al_mem hp hu hd f)
  go_enter Try.func31, Try.ntmps31
  go_wp2_with (first | (go_at_call 57; refine (hasR _ _ (by assumption) _).mono ?_; rintro e w' ⟨rfl, rfl⟩))
  all_goals
    go_ret
    exact ⟨ret_bool (by unfold heB; rw [HA.out]; simp [*]), (by repeat (first | exact Since.refl _ | assumption | refine Since.setCell ?_ (by first | (simp; done) | (simp; omega)) _ | refine Since.drew ?_ | refine Since.drewN ?_ _ | refine Since.alloc ?_ _ | refine Since.trans ?_ (by assumption) | refine Since.trans ?_ (Hid.out (by assumption))))⟩
theorem hallR (p u d f way : Int) (hu : R u) (hd : R d) (w : World) : Calls Try.prog 29 #[.agg #[.int .u64 p, .int .u64 u, .int .u64 d], .int .i64 f, .int .i64 way] w fun e w' => e = .returned (.bool (atB u d f way)) ∧ Since w w' := by
  go_enter Try.func29, Try.ntmps29
  go_wp2_with (first | (go_at_call 57; refine (hasR _ _ (by assumption) _).mono ?_; rintro e w' ⟨rfl, rfl⟩))
  all_goals
    go_ret
    exact ⟨ret_bool (by unfold atB; simp [*]), (by repeat (first | exact Since.refl _ | assumption | refine Since.setCell ?_ (by first | (simp; done) | (simp; omega)) _ | refine Since.drew ?_ | refine Since.drewN ?_ _ | refine Since.alloc ?_ _ | refine Since.trans ?_ (by assumption) | refine Since.trans ?_ (Hid.out (by assumption))))⟩
/-- No floor ahead of k is one that way. -/
def noHit (p u d f way : Int) (k : Nat) : Prop := ∀ j : Nat, j < k → ¬ (heB p u d j = true ∧ (way = 1 ∧ f < j ∨ way = 2 ∧ (j : Int) < f))
theorem noHit_succ {p u d f way : Int} {k : Nat} (h : noHit p u d f way k) (n : ¬ (heB p u d k = true ∧ (way = 1 ∧ f < k ∨ way = 2 ∧ (k : Int) < f))) : noHit p u d f way (k + 1) := by
  intro j hj
  rcases Nat.lt_succ_iff_lt_or_eq.1 hj with h1 | h1
  · exact h j h1
  · subst h1; exact n
theorem he_tb (p u d : Int) (k : Nat) (hk : k < 64) : heB p u d k = tb (al p u d) k := by unfold heB; exact mem_at _ _ hk
theorem ah_hit {p u d f way : Int} {k : Nat} (hk : k < 64) (h : heB p u d k = true) (c : way = 1 ∧ f < k ∨ way = 2 ∧ (k : Int) < f) : ahB (al p u d) f way = true := by
  rw [he_tb _ _ _ _ hk] at h
  rcases c with ⟨rfl, c⟩ | ⟨rfl, c⟩
  · rw [ah_up, List.any_eq_true]; exact ⟨k, by simpa using hk, by simp [h, c]⟩
  · rw [ah_down, List.any_eq_true]; exact ⟨k, by simpa using hk, by simp [h, c]⟩
theorem ah_no {p u d f way : Int} (h : noHit p u d f way 64) : ahB (al p u d) f way = false := by
  cases e : ahB (al p u d) f way
  · rfl
  · exfalso
    unfold ahB at e
    rw [Bool.or_eq_true] at e
    rcases e with e | e
    · rw [Bool.and_eq_true, List.any_eq_true] at e
      obtain ⟨e1, i, hi, hb⟩ := e
      simp at e1 hi hb
      exact h i hi ⟨by rw [he_tb _ _ _ _ hi]; exact hb.1, .inl ⟨e1, hb.2⟩⟩
    · rw [Bool.and_eq_true, List.any_eq_true] at e
      obtain ⟨e1, i, hi, hb⟩ := e
      simp at e1 hi hb
      exact h i hi ⟨by rw [he_tb _ _ _ _ hi]; exact hb.1, .inr ⟨e1, hb.2⟩⟩
theorem aheadR (p u d f way : Int) (hp : R p) (hu : R u) (hd : R d) (w : World) : Calls Try.prog 33 #[.agg #[.int .u64 p, .int .u64 u, .int .u64 d], .int .i64 f, .int .i64 way] w fun e w' => e = .returned (.bool (ahB (al p u d) f way)) ∧ Since w w' := by
  go_enter Try.func33, Try.ntmps33
  go_wp2_with fail
  go_loopw [7] (fun i wr => ∃ k : Nat, k ≤ 64 ∧ i = .int .i64 k ∧ Hid (noHit p u d f way k) ∧ Since w wr ∧ wr.cell? ⟨w.heap.size, 0, none⟩ = some (.int .u64 p) ∧ wr.cell? ⟨w.heap.size, 1, none⟩ = some (.int .u64 u) ∧ wr.cell? ⟨w.heap.size, 2, none⟩ = some (.int .u64 d) ∧ wr.frozen? ⟨w.heap.size, 0, none⟩ = false ∧ wr.frozen? ⟨w.heap.size, 1, none⟩ = false ∧ wr.frozen? ⟨w.heap.size, 2, none⟩ = false ∧ w.heap.size < wr.heap.size) (fun i _ => (64 - intOf i).toNat)
  case atStart => exact ⟨0, by omega, rfl, Lib.hid (fun j hj => by omega), (by repeat (first | exact Since.refl _ | assumption | refine Since.setCell ?_ (by first | (simp; done) | (simp; omega)) _ | refine Since.drew ?_ | refine Since.drewN ?_ _ | refine Since.alloc ?_ _ | refine Since.trans ?_ (by assumption) | refine Since.trans ?_ (Hid.out (by assumption)))), by simp, by simp, by simp, by simp, by simp, by simp, by simp⟩
  case round =>
    obtain ⟨k, hk, rfl, HN, hs, c0, c1, c2, f0, f1, f2, hl⟩ := hrel
    have HW := Lib.hid hs
    clear hs
    by_cases hlt : k < 64
    · have hk0 : (k : Int) < 64 := by omega
      by_cases hh : heB p u d k = true
      · rcases (show (way = 1 ∧ f < k) ∨ (way = 1 ∧ ¬ f < k) ∨ (way = 2 ∧ (k : Int) < f) ∨ (way = 2 ∧ ¬ (k : Int) < f) ∨ (way ≠ 1 ∧ way ≠ 2) by omega) with ⟨rfl, hc⟩ | ⟨rfl, hc⟩ | ⟨rfl, hc⟩ | ⟨rfl, hc⟩ | ⟨hc1, hc2⟩
        · have HA := Lib.hid (ah_hit hlt hh (.inl ⟨rfl, hc⟩))
          go_wp2_with (first | (go_at_call 31; refine (anyR _ _ _ _ hp hu hd _).mono ?_; rintro e w2 ⟨rfl, hb2⟩; obtain ⟨hc2, hf2⟩ := hb2.cf))
          go_ret
          exact ⟨ret_bool HA.out.symm, (by repeat (first | exact Since.refl _ | assumption | refine Since.setCell ?_ (by first | (simp; done) | (simp; omega)) _ | refine Since.drew ?_ | refine Since.drewN ?_ _ | refine Since.alloc ?_ _ | refine Since.trans ?_ (by assumption) | refine Since.trans ?_ (Hid.out (by assumption))))⟩
        · have HM := Lib.hid (noHit_succ HN.out (by omega))
          go_wp2_with (first | (go_at_call 31; refine (anyR _ _ _ _ hp hu hd _).mono ?_; rintro e w2 ⟨rfl, hb2⟩; obtain ⟨hc2, hf2⟩ := hb2.cf))
          go_roundw
          case rel => exact ⟨k + 1, by omega, by go_num, HM, (by repeat (first | exact Since.refl _ | assumption | refine Since.setCell ?_ (by first | (simp; done) | (simp; omega)) _ | refine Since.drew ?_ | refine Since.drewN ?_ _ | refine Since.alloc ?_ _ | refine Since.trans ?_ (by assumption) | refine Since.trans ?_ (Hid.out (by assumption)))), keep_cell hb2 c0, keep_cell hb2 c1, keep_cell hb2 c2, keep_frz hb2 c0 f0, keep_frz hb2 c1 f1, keep_frz hb2 c2 f2, by have := hb2.size; omega⟩
          case measure => simp [intOf]; omega
        · have HA := Lib.hid (ah_hit hlt hh (.inr ⟨rfl, hc⟩))
          go_wp2_with (first | (go_at_call 31; refine (anyR _ _ _ _ hp hu hd _).mono ?_; rintro e w2 ⟨rfl, hb2⟩; obtain ⟨hc2, hf2⟩ := hb2.cf))
          go_ret
          exact ⟨ret_bool HA.out.symm, (by repeat (first | exact Since.refl _ | assumption | refine Since.setCell ?_ (by first | (simp; done) | (simp; omega)) _ | refine Since.drew ?_ | refine Since.drewN ?_ _ | refine Since.alloc ?_ _ | refine Since.trans ?_ (by assumption) | refine Since.trans ?_ (Hid.out (by assumption))))⟩
        · have HM := Lib.hid (noHit_succ HN.out (by omega))
          go_wp2_with (first | (go_at_call 31; refine (anyR _ _ _ _ hp hu hd _).mono ?_; rintro e w2 ⟨rfl, hb2⟩; obtain ⟨hc2, hf2⟩ := hb2.cf))
          go_roundw
          case rel => exact ⟨k + 1, by omega, by go_num, HM, (by repeat (first | exact Since.refl _ | assumption | refine Since.setCell ?_ (by first | (simp; done) | (simp; omega)) _ | refine Since.drew ?_ | refine Since.drewN ?_ _ | refine Since.alloc ?_ _ | refine Since.trans ?_ (by assumption) | refine Since.trans ?_ (Hid.out (by assumption)))), keep_cell hb2 c0, keep_cell hb2 c1, keep_cell hb2 c2, keep_frz hb2 c0 f0, keep_frz hb2 c1 f1, keep_frz hb2 c2 f2, by have := hb2.size; omega⟩
          case measure => simp [intOf]; omega
        · have HM := Lib.hid (noHit_succ HN.out (by omega))
          have d1 : (way == 1) = false := by simpa using hc1
          have d2 : (way == 2) = false := by simpa using hc2
          clear hc1 hc2
          go_wp2_with (first | (go_at_call 31; refine (anyR _ _ _ _ hp hu hd _).mono ?_; rintro e w2 ⟨rfl, hb2⟩; obtain ⟨hc2, hf2⟩ := hb2.cf))
          go_roundw
          case rel => exact ⟨k + 1, by omega, by go_num, HM, (by repeat (first | exact Since.refl _ | assumption | refine Since.setCell ?_ (by first | (simp; done) | (simp; omega)) _ | refine Since.drew ?_ | refine Since.drewN ?_ _ | refine Since.alloc ?_ _ | refine Since.trans ?_ (by assumption) | refine Since.trans ?_ (Hid.out (by assumption)))), keep_cell hb2 c0, keep_cell hb2 c1, keep_cell hb2 c2, keep_frz hb2 c0 f0, keep_frz hb2 c1 f1, keep_frz hb2 c2 f2, by have := hb2.size; omega⟩
          case measure => simp [intOf]; omega
      · have HM := Lib.hid (noHit_succ HN.out (fun e => hh e.1))
        have hh' : heB p u d k = false := by simpa using hh
        clear hh
        go_wp2_with (first | (go_at_call 31; refine (anyR _ _ _ _ hp hu hd _).mono ?_; rintro e w2 ⟨rfl, hb2⟩; obtain ⟨hc2, hf2⟩ := hb2.cf))
        go_roundw
        case rel => exact ⟨k + 1, by omega, by go_num, HM, (by repeat (first | exact Since.refl _ | assumption | refine Since.setCell ?_ (by first | (simp; done) | (simp; omega)) _ | refine Since.drew ?_ | refine Since.drewN ?_ _ | refine Since.alloc ?_ _ | refine Since.trans ?_ (by assumption) | refine Since.trans ?_ (Hid.out (by assumption)))), keep_cell hb2 c0, keep_cell hb2 c1, keep_cell hb2 c2, keep_frz hb2 c0 f0, keep_frz hb2 c1 f1, keep_frz hb2 c2 f2, by have := hb2.size; omega⟩
        case measure => simp [intOf]; omega
    · obtain rfl : k = 64 := by omega
      have HA := Lib.hid (ah_no HN.out)
      go_wp2
      go_ret
      exact ⟨ret_bool HA.out.symm, (by repeat (first | exact Since.refl _ | assumption | refine Since.setCell ?_ (by first | (simp; done) | (simp; omega)) _ | refine Since.drew ?_ | refine Since.drewN ?_ _ | refine Since.alloc ?_ _ | refine Since.trans ?_ (by assumption) | refine Since.trans ?_ (Hid.out (by assumption))))⟩
end Go.Proofs.Ytdbbacpofgjgoaa.St
