/-
  Layer 15 (eta), its small parts: a timer's ticks, on the way, within a house; and how many stops, counted one by one.
  No condition.
-/
import Derived.Test.YtfbnmoegdbdhjaaStoCnt
import Derived.Test.YtfbnmoegdbdhjaaStoRef
import Derived.Test.YtfbnmoegdbdhjaaStoPop
import Derived.Test.YtfbnmoegdbdhjaaMotW
import Derived.Test.YtfbnmoegdbdhjaaDoorW
import Derived.Test.YtfbnmoegdbdhjaaTyp
import Derived.Test.YtfbnmoegdbdhjaaRow
namespace Go.Proofs.Ytfbnmoegdbdhjaa.Et
set_option linter.unusedVariables false
set_option linter.unusedSimpArgs false
open Go.RowKit Go.Proofs.Ytfbnmoegdbdhjaa.Ba Go.Proofs.Ytfbnmoegdbdhjaa.Mo Go.Proofs.Ytfbnmoegdbdhjaa.Ty Go.Proofs.Ytfbnmoegdbdhjaa.Mem Go.Proofs.Ytfbnmoegdbdhjaa.St
open Go.Proofs.Ytfbnmoegdbdhjaa.Do (hd hd_lo hd_hi spanR)
set_option maxRecDepth 100000
theorem wr (x : Int) (h0 : -9223372036854775808 ≤ x) (h1 : x ≤ 9223372036854775807) : IntKind.i64.wrap x = x := by
  simp only [IntKind.wrap, IntKind.bits, IntKind.signed]; simp; omega
theorem spanT (n : Int) (w : World) : Calls Try.prog 65 #[.int .i64 n] w fun e w' => e = .returned (.int .i64 (hd n)) ∧ w = w' := by
  by_cases h0 : n < 1
  · go_enter Try.func65, Try.ntmps65
    go_wp2
    go_ret
    exact ⟨ret_int (by unfold hd; repeat' split <;> omega), rfl⟩
  · by_cases h1 : 1000 < n
    · go_enter Try.func65, Try.ntmps65
      go_wp2
      go_ret
      exact ⟨ret_int (by unfold hd; repeat' split <;> omega), rfl⟩
    · go_enter Try.func65, Try.ntmps65
      go_wp2
      go_ret
      exact ⟨ret_int (by unfold hd; repeat' split <;> omega), rfl⟩
def behB (wy t : Int) : Bool := decide ((wy = 1 ∧ t = 2) ∨ (wy = 2 ∧ t = 1))
theorem behindT (x : CarV) (f : Int) (h0 : -1099511627776 ≤ f) (h1 : f ≤ 1099511627776) (w : World) : Calls Try.prog 84 #[.agg #[.int .i64 x.ds, .int .i64 x.da, .int .i64 x.un, .int .i64 x.wy, .int .i64 x.ti, .int .i64 x.ju, .int .i64 x.lo, .bool x.bl, .bool x.br, .int .i64 x.mo, .int .i64 x.ta, .bool x.ho, .int .u64 x.sp, .int .u64 x.su, .int .u64 x.sd], .int .i64 f] w fun e w' => e = .returned (.bool (behB x.wy (tw x.un f))) ∧ Since w w' := by
  obtain ⟨ds, da, un, wy, ti, ju, lo, bl, br, mo, ta, ho, sp, su, sd⟩ := x
  have HT := Lib.hid (towardT un f h0 h1)
  clear h0 h1
  generalize htw : tw un f = t at HT
  clear htw
  by_cases h1 : wy = 1
  · subst h1
    by_cases h2 : t = 2
    · subst h2
      have HB := Lib.hid (show behB 1 2 = true by decide)
      go_enter Try.func84, Try.ntmps84
      go_wp2_with fail
      refine (HT.out _).mono ?_
      rintro e w' ⟨rfl, rfl⟩
      go_wp2
      go_ret
      exact ⟨ret_bool HB.out.symm, (by repeat (first | exact Since.refl _ | assumption | refine Since.setCell ?_ (by first | (simp; done) | (simp; omega)) _ | refine Since.drew ?_ | refine Since.drewN ?_ _ | refine Since.alloc ?_ _ | refine Since.trans ?_ (by assumption) | refine Since.trans ?_ (Hid.out (by assumption))))⟩
    · have k2 : (t == 2) = false := by simpa using h2
      have HB := Lib.hid (show behB 1 t = false by unfold behB; simp [h2])
      clear h2
      go_enter Try.func84, Try.ntmps84
      go_wp2_with fail
      refine (HT.out _).mono ?_
      rintro e w' ⟨rfl, rfl⟩
      go_wp2
      go_ret
      exact ⟨ret_bool HB.out.symm, (by repeat (first | exact Since.refl _ | assumption | refine Since.setCell ?_ (by first | (simp; done) | (simp; omega)) _ | refine Since.drew ?_ | refine Since.drewN ?_ _ | refine Since.alloc ?_ _ | refine Since.trans ?_ (by assumption) | refine Since.trans ?_ (Hid.out (by assumption))))⟩
  · have k1 : (wy == 1) = false := by simpa using h1
    by_cases h2 : wy = 2
    · subst h2
      have HB := Lib.hid (show behB 2 t = (t == 1) by unfold behB; rw [Bool.eq_iff_iff]; simp)
      clear h1
      go_enter Try.func84, Try.ntmps84
      go_wp2_with fail
      refine (HT.out _).mono ?_
      rintro e w' ⟨rfl, rfl⟩
      go_wp2
      go_ret
      exact ⟨ret_bool HB.out.symm, (by repeat (first | exact Since.refl _ | assumption | refine Since.setCell ?_ (by first | (simp; done) | (simp; omega)) _ | refine Since.drew ?_ | refine Since.drewN ?_ _ | refine Since.alloc ?_ _ | refine Since.trans ?_ (by assumption) | refine Since.trans ?_ (Hid.out (by assumption))))⟩
    · have k2 : (wy == 2) = false := by simpa using h2
      have HB := Lib.hid (show behB wy t = false by unfold behB; simp [h1, h2])
      clear h1 h2
      go_enter Try.func84, Try.ntmps84
      go_wp2_with fail
      refine (HT.out _).mono ?_
      rintro e w' ⟨rfl, rfl⟩
      go_wp2
      go_ret
      exact ⟨ret_bool HB.out.symm, (by repeat (first | exact Since.refl _ | assumption | refine Since.setCell ?_ (by first | (simp; done) | (simp; omega)) _ | refine Since.drew ?_ | refine Since.drewN ?_ _ | refine Since.alloc ?_ _ | refine Since.trans ?_ (by assumption) | refine Since.trans ?_ (Hid.out (by assumption))))⟩
def onB (wy cw t : Int) : Bool := decide (wy = 0 ∨ (wy = cw ∧ behB wy t = false))
theorem onT (x : CarV) (f cw : Int) (h0 : -1099511627776 ≤ f) (h1 : f ≤ 1099511627776) (w : World) : Calls Try.prog 67 #[.agg #[.int .i64 x.ds, .int .i64 x.da, .int .i64 x.un, .int .i64 x.wy, .int .i64 x.ti, .int .i64 x.ju, .int .i64 x.lo, .bool x.bl, .bool x.br, .int .i64 x.mo, .int .i64 x.ta, .bool x.ho, .int .u64 x.sp, .int .u64 x.su, .int .u64 x.sd], .agg #[.int .i64 f, .int .i64 cw]] w fun e w' => e = .returned (.bool (onB x.wy cw (tw x.un f))) ∧ Since w w' := by
  obtain ⟨ds, da, un, wy, ti, ju, lo, bl, br, mo, ta, ho, sp, su, sd⟩ := x
  have HH := Lib.hid (fun w => behindT ⟨ds, da, un, wy, ti, ju, lo, bl, br, mo, ta, ho, sp, su, sd⟩ f h0 h1 w)
  clear h0 h1
  by_cases g0 : wy = 0
  · have k0 : (wy == 0) = true := by simpa using g0
    have HB := Lib.hid (show onB wy cw (tw un f) = true by unfold onB; simp [g0])
    clear g0
    go_enter Try.func67, Try.ntmps67
    go_wp2
    go_ret
    exact ⟨ret_bool HB.out.symm, (by repeat (first | exact Since.refl _ | assumption | refine Since.setCell ?_ (by first | (simp; done) | (simp; omega)) _ | refine Since.drew ?_ | refine Since.drewN ?_ _ | refine Since.alloc ?_ _ | refine Since.trans ?_ (by assumption) | refine Since.trans ?_ (Hid.out (by assumption))))⟩
  · have k0 : (wy == 0) = false := by simpa using g0
    by_cases g1 : wy = cw
    · subst g1
      have HB := Lib.hid (show onB wy wy (tw un f) = !behB wy (tw un f) by unfold onB; rw [Bool.eq_iff_iff]; simp [g0])
      clear g0
      go_enter Try.func67, Try.ntmps67
      go_wp2_with fail
      refine (HH.out _).mono ?_
      rintro e w1 ⟨rfl, hb1⟩
      go_wp2
      go_ret
      exact ⟨ret_bool HB.out.symm, (by repeat (first | exact Since.refl _ | assumption | refine Since.setCell ?_ (by first | (simp; done) | (simp; omega)) _ | refine Since.drew ?_ | refine Since.drewN ?_ _ | refine Since.alloc ?_ _ | refine Since.trans ?_ (by assumption) | refine Since.trans ?_ (Hid.out (by assumption))))⟩
    · have k1 : (wy == cw) = false := by simpa using g1
      have HB := Lib.hid (show onB wy cw (tw un f) = false by unfold onB; simp [g0, g1])
      clear g0 g1
      go_enter Try.func67, Try.ntmps67
      go_wp2
      go_ret
      exact ⟨ret_bool HB.out.symm, (by repeat (first | exact Since.refl _ | assumption | refine Since.setCell ?_ (by first | (simp; done) | (simp; omega)) _ | refine Since.drew ?_ | refine Since.drewN ?_ _ | refine Since.alloc ?_ _ | refine Since.trans ?_ (by assumption) | refine Since.trans ?_ (Hid.out (by assumption))))⟩
def wiB (un wy f cw : Int) : Bool := decide (0 ≤ un ∧ un ≤ 252 ∧ 0 ≤ f ∧ f ≤ 63 ∧ 0 ≤ wy ∧ wy ≤ 2 ∧ 1 ≤ cw ∧ cw ≤ 2)
theorem wiB_iff (un wy f cw : Int) : wiB un wy f cw = true ↔ (0 ≤ un ∧ un ≤ 252 ∧ 0 ≤ f ∧ f ≤ 63 ∧ 0 ≤ wy ∧ wy ≤ 2 ∧ 1 ≤ cw ∧ cw ≤ 2) := by unfold wiB; simp
set_option maxHeartbeats 1000000 in
theorem withinT (x : CarV) (f cw : Int) (w : World) : Calls Try.prog 40 #[.agg #[.int .i64 x.ds, .int .i64 x.da, .int .i64 x.un, .int .i64 x.wy, .int .i64 x.ti, .int .i64 x.ju, .int .i64 x.lo, .bool x.bl, .bool x.br, .int .i64 x.mo, .int .i64 x.ta, .bool x.ho, .int .u64 x.sp, .int .u64 x.su, .int .u64 x.sd], .agg #[.int .i64 f, .int .i64 cw]] w fun e w' => e = .returned (.bool (wiB x.un x.wy f cw)) ∧ Since w w' := by
  obtain ⟨ds, da, un, wy, ti, ju, lo, bl, br, mo, ta, ho, sp, su, sd⟩ := x
  by_cases h0 : 0 ≤ un
  · skip
    by_cases h1 : un ≤ 252
    · skip
      by_cases h2 : 0 ≤ f
      · skip
        by_cases h3 : f ≤ 63
        · skip
          by_cases h4 : 0 ≤ wy
          · skip
            by_cases h5 : wy ≤ 2
            · skip
              by_cases h6 : 1 ≤ cw
              · skip
                by_cases h7 : cw ≤ 2
                · skip
                  have d0 : decide (0 ≤ un) = true := decide_eq_true h0
                  have d1 : decide (un ≤ 252) = true := decide_eq_true h1
                  have d2 : decide (0 ≤ f) = true := decide_eq_true h2
                  have d3 : decide (f ≤ 63) = true := decide_eq_true h3
                  have d4 : decide (0 ≤ wy) = true := decide_eq_true h4
                  have d5 : decide (wy ≤ 2) = true := decide_eq_true h5
                  have d6 : decide (1 ≤ cw) = true := decide_eq_true h6
                  have d7 : decide (cw ≤ 2) = true := decide_eq_true h7
                  have HB := Lib.hid (show wiB un wy f cw = true by rw [wiB_iff]; exact ⟨h0, h1, h2, h3, h4, h5, h6, h7⟩)
                  go_enter Try.func40, Try.ntmps40
                  go_wp2
                  go_ret
                  exact ⟨ret_bool HB.out.symm, (by repeat (first | exact Since.refl _ | assumption | refine Since.setCell ?_ (by first | (simp; done) | (simp; omega)) _ | refine Since.drew ?_ | refine Since.drewN ?_ _ | refine Since.alloc ?_ _ | refine Since.trans ?_ (by assumption) | refine Since.trans ?_ (Hid.out (by assumption))))⟩
                · skip
                  have d0 : decide (0 ≤ un) = true := decide_eq_true h0
                  have d1 : decide (un ≤ 252) = true := decide_eq_true h1
                  have d2 : decide (0 ≤ f) = true := decide_eq_true h2
                  have d3 : decide (f ≤ 63) = true := decide_eq_true h3
                  have d4 : decide (0 ≤ wy) = true := decide_eq_true h4
                  have d5 : decide (wy ≤ 2) = true := decide_eq_true h5
                  have d6 : decide (1 ≤ cw) = true := decide_eq_true h6
                  have d7 : decide (cw ≤ 2) = false := decide_eq_false h7
                  have HB := Lib.hid (show wiB un wy f cw = false by rw [← Bool.not_eq_true, wiB_iff]; intro h; omega)
                  go_enter Try.func40, Try.ntmps40
                  go_wp2
                  go_ret
                  exact ⟨ret_bool HB.out.symm, (by repeat (first | exact Since.refl _ | assumption | refine Since.setCell ?_ (by first | (simp; done) | (simp; omega)) _ | refine Since.drew ?_ | refine Since.drewN ?_ _ | refine Since.alloc ?_ _ | refine Since.trans ?_ (by assumption) | refine Since.trans ?_ (Hid.out (by assumption))))⟩
              · skip
                have d0 : decide (0 ≤ un) = true := decide_eq_true h0
                have d1 : decide (un ≤ 252) = true := decide_eq_true h1
                have d2 : decide (0 ≤ f) = true := decide_eq_true h2
                have d3 : decide (f ≤ 63) = true := decide_eq_true h3
                have d4 : decide (0 ≤ wy) = true := decide_eq_true h4
                have d5 : decide (wy ≤ 2) = true := decide_eq_true h5
                have d6 : decide (1 ≤ cw) = false := decide_eq_false h6
                have HB := Lib.hid (show wiB un wy f cw = false by rw [← Bool.not_eq_true, wiB_iff]; intro h; omega)
                go_enter Try.func40, Try.ntmps40
                go_wp2
                go_ret
                exact ⟨ret_bool HB.out.symm, (by repeat (first | exact Since.refl _ | assumption | refine Since.setCell ?_ (by first | (simp; done) | (simp; omega)) _ | refine Since.drew ?_ | refine Since.drewN ?_ _ | refine Since.alloc ?_ _ | refine Since.trans ?_ (by assumption) | refine Since.trans ?_ (Hid.out (by assumption))))⟩
            · skip
              have d0 : decide (0 ≤ un) = true := decide_eq_true h0
              have d1 : decide (un ≤ 252) = true := decide_eq_true h1
              have d2 : decide (0 ≤ f) = true := decide_eq_true h2
              have d3 : decide (f ≤ 63) = true := decide_eq_true h3
              have d4 : decide (0 ≤ wy) = true := decide_eq_true h4
              have d5 : decide (wy ≤ 2) = false := decide_eq_false h5
              have HB := Lib.hid (show wiB un wy f cw = false by rw [← Bool.not_eq_true, wiB_iff]; intro h; omega)
              go_enter Try.func40, Try.ntmps40
              go_wp2
              go_ret
              exact ⟨ret_bool HB.out.symm, (by repeat (first | exact Since.refl _ | assumption | refine Since.setCell ?_ (by first | (simp; done) | (simp; omega)) _ | refine Since.drew ?_ | refine Since.drewN ?_ _ | refine Since.alloc ?_ _ | refine Since.trans ?_ (by assumption) | refine Since.trans ?_ (Hid.out (by assumption))))⟩
          · skip
            have d0 : decide (0 ≤ un) = true := decide_eq_true h0
            have d1 : decide (un ≤ 252) = true := decide_eq_true h1
            have d2 : decide (0 ≤ f) = true := decide_eq_true h2
            have d3 : decide (f ≤ 63) = true := decide_eq_true h3
            have d4 : decide (0 ≤ wy) = false := decide_eq_false h4
            have HB := Lib.hid (show wiB un wy f cw = false by rw [← Bool.not_eq_true, wiB_iff]; intro h; omega)
            go_enter Try.func40, Try.ntmps40
            go_wp2
            go_ret
            exact ⟨ret_bool HB.out.symm, (by repeat (first | exact Since.refl _ | assumption | refine Since.setCell ?_ (by first | (simp; done) | (simp; omega)) _ | refine Since.drew ?_ | refine Since.drewN ?_ _ | refine Since.alloc ?_ _ | refine Since.trans ?_ (by assumption) | refine Since.trans ?_ (Hid.out (by assumption))))⟩
        · skip
          have d0 : decide (0 ≤ un) = true := decide_eq_true h0
          have d1 : decide (un ≤ 252) = true := decide_eq_true h1
          have d2 : decide (0 ≤ f) = true := decide_eq_true h2
          have d3 : decide (f ≤ 63) = false := decide_eq_false h3
          have HB := Lib.hid (show wiB un wy f cw = false by rw [← Bool.not_eq_true, wiB_iff]; intro h; omega)
          go_enter Try.func40, Try.ntmps40
          go_wp2
          go_ret
          exact ⟨ret_bool HB.out.symm, (by repeat (first | exact Since.refl _ | assumption | refine Since.setCell ?_ (by first | (simp; done) | (simp; omega)) _ | refine Since.drew ?_ | refine Since.drewN ?_ _ | refine Since.alloc ?_ _ | refine Since.trans ?_ (by assumption) | refine Since.trans ?_ (Hid.out (by assumption))))⟩
      · skip
        have d0 : decide (0 ≤ un) = true := decide_eq_true h0
        have d1 : decide (un ≤ 252) = true := decide_eq_true h1
        have d2 : decide (0 ≤ f) = false := decide_eq_false h2
        have HB := Lib.hid (show wiB un wy f cw = false by rw [← Bool.not_eq_true, wiB_iff]; intro h; omega)
        go_enter Try.func40, Try.ntmps40
        go_wp2
        go_ret
        exact ⟨ret_bool HB.out.symm, (by repeat (first | exact Since.refl _ | assumption | refine Since.setCell ?_ (by first | (simp; done) | (simp; omega)) _ | refine Since.drew ?_ | refine Since.drewN ?_ _ | refine Since.alloc ?_ _ | refine Since.trans ?_ (by assumption) | refine Since.trans ?_ (Hid.out (by assumption))))⟩
    · skip
      have d0 : decide (0 ≤ un) = true := decide_eq_true h0
      have d1 : decide (un ≤ 252) = false := decide_eq_false h1
      have HB := Lib.hid (show wiB un wy f cw = false by rw [← Bool.not_eq_true, wiB_iff]; intro h; omega)
      go_enter Try.func40, Try.ntmps40
      go_wp2
      go_ret
      exact ⟨ret_bool HB.out.symm, (by repeat (first | exact Since.refl _ | assumption | refine Since.setCell ?_ (by first | (simp; done) | (simp; omega)) _ | refine Since.drew ?_ | refine Since.drewN ?_ _ | refine Since.alloc ?_ _ | refine Since.trans ?_ (by assumption) | refine Since.trans ?_ (Hid.out (by assumption))))⟩
  · skip
    have d0 : decide (0 ≤ un) = false := decide_eq_false h0
    have HB := Lib.hid (show wiB un wy f cw = false by rw [← Bool.not_eq_true, wiB_iff]; intro h; omega)
    go_enter Try.func40, Try.ntmps40
    go_wp2
    go_ret
    exact ⟨ret_bool HB.out.symm, (by repeat (first | exact Since.refl _ | assumption | refine Since.setCell ?_ (by first | (simp; done) | (simp; omega)) _ | refine Since.drew ?_ | refine Since.drewN ?_ _ | refine Since.alloc ?_ _ | refine Since.trans ?_ (by assumption) | refine Since.trans ?_ (Hid.out (by assumption))))⟩
theorem up_lo (x : Int) : ∀ k : Nat, 0 ≤ up x k ∧ up x k ≤ k
  | 0 => by simp [up]
  | k + 1 => by
    have := up_lo x k
    unfold up
    split <;> omega
def Own3 (w wr : World) (p u d : Int) (k : Nat) (N : Int) : Prop := N = up p k + up u k + up d k ∧ Since w wr ∧ Blk wr w.heap.size 28 #[.int .u64 p, .int .u64 u, .int .u64 d]
set_option maxHeartbeats 4000000 in
theorem onesR (p u d : Int) (hp : R p) (hu : R u) (hd : R d) (w : World) : Calls Try.prog 69 #[.agg #[.int .u64 p, .int .u64 u, .int .u64 d]] w fun e w' => e = .returned (.int .i64 (cn p + cn u + cn d)) ∧ Since w w' := by
  go_enter Try.func69, Try.ntmps69
  go_wp2_with fail
  go_loopw [3, 4] (fun n i wr => ∃ k : Nat, k ≤ 64 ∧ i = .int .i64 k ∧ ∃ N : Int, n = .int .i64 N ∧ Hid (Own3 w wr p u d k N)) (fun _ i _ => (64 - intOf i).toNat)
  case atStart => exact ⟨0, by omega, rfl, 0, rfl, Lib.hid ⟨rfl, (by repeat (first | exact Since.refl _ | assumption | refine Since.setCell ?_ (by first | (simp; done) | (simp; omega)) _ | refine Since.drew ?_ | refine Since.drewN ?_ _ | refine Since.alloc ?_ _ | refine Since.trans ?_ (by assumption) | refine Since.trans ?_ (Hid.out (by assumption)))), Blk.new _ _ _⟩⟩
  case round =>
    obtain ⟨k, hk, rfl, N, rfl, HO⟩ := hrel
    have hN : 0 ≤ N ∧ N ≤ 192 := by have h := HO.out.1; have h1 := up_lo p k; have h2 := up_lo u k; have h3 := up_lo d k; omega
    obtain ⟨hN0, hN1⟩ := hN
    by_cases hlt : k < 64
    · have hk0 : (k : Int) < 64 := by omega
      have hk1 : (0 : Int) ≤ (k : Int) := by omega
      have m0 := mem_at p k hlt
      have m1 := mem_at u k hlt
      have m2 := mem_at d k hlt
      obtain ⟨_, S, B⟩ := HO.out
      have c0 := B.cell 0; have c1 := B.cell 1; have c2 := B.cell 2
      simp at c0 c1 c2
      have HS := Lib.hid S; have HB := Lib.hid B; clear S B
      rcases (show (tb p k = true ∨ tb p k = false) by cases tb p k <;> simp) with h0 | h0 <;> rcases (show (tb u k = true ∨ tb u k = false) by cases tb u k <;> simp) with h1 | h1 <;> rcases (show (tb d k = true ∨ tb d k = false) by cases tb d k <;> simp) with h2 | h2
      all_goals
        rw [h0] at m0
        rw [h1] at m1
        rw [h2] at m2
        have HNN : Hid (∃ c : Int, c = (if tb p k = true then 1 else 0) + (if tb u k = true then 1 else 0) + (if tb d k = true then 1 else 0) ∧ N + c = up p (k + 1) + up u (k + 1) + up d (k + 1)) := Lib.hid ⟨_, rfl, by have h := HO.out.1; simp only [up]; omega⟩
        rw [h0, h1, h2] at HNN
        have HNe := Lib.hid HO.out.1
        clear h0 h1 h2 HO
        go_wp2_with (first | (go_at_call 59; refine (hasR _ _ (by assumption) _).mono ?_; rintro e w' ⟨rfl, rfl⟩))
        go_roundw
        case rel =>
          obtain ⟨c, hc, hcc⟩ := HNN.out
          simp at hc
          subst hc
          exact ⟨k + 1, by omega, by go_num, up p (k + 1) + up u (k + 1) + up d (k + 1), (by have h := HNe.out; congr 1; omega), Lib.hid ⟨rfl, HS.out, HB.out⟩⟩
        case measure => simp [intOf]; omega
    · obtain rfl : k = 64 := by omega
      obtain ⟨hh, S, _⟩ := HO.out
      have HN := Lib.hid (show up p 64 + up u 64 + up d 64 = cn p + cn u + cn d by rw [up_cn p hp, up_cn u hu, up_cn d hd])
      go_wp2
      go_ret
      exact ⟨ret_int (hh.trans HN.out), S⟩
end Go.Proofs.Ytfbnmoegdbdhjaa.Et
