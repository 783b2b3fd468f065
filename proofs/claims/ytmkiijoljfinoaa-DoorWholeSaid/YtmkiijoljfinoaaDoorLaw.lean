/-
  The laws of layer 8 (door), walked: each answers true.
  Conditions: each argument fits its kind.
-/
import Derived.Test.YtmkiijoljfinoaaDoorRef
import Derived.Test.YtmkiijoljfinoaaByt
import Derived.Test.YtmkiijoljfinoaaLoc
namespace Go.Proofs.Ytmkiijoljfinoaa.Do
set_option linter.unusedVariables false
set_option linter.unusedSimpArgs false
open Go.RowKit Go.Proofs.Ytmkiijoljfinoaa.Ba
theorem ans (w : World) : Calls Try.prog 18 #[] w fun e w' => e = .returned (.bool true) ∧ Since w w' := by
  have e1 : oS 0 = 1 := by decide
  have e2 : tS 1 0 2 false = 1 := by decide
  have e3 : tA 1 0 2 false = 1 := by decide
  have e4 : tS 1 1 2 false = 2 := by decide
  have e5 : tA 1 1 2 false = 2 := by decide
  have e6 : cS 2 = 3 := by decide
  have e7 : gd 2 2 2 = true := by decide
  have e8 : gd 2 2 3 = false := by decide
  go_enter Try.func18, Try.ntmps18
  have kf : ∀ (w : World) (a b : Value), (Instr.field 29 (.agg #[a, b]) 0).run Try.prog w = .ok a w := fun _ _ _ => by kernel_rfl
  go_wp2_with fail
  refine (openD _ _ _).mono ?_
  rintro e w1 ⟨rfl, hb1⟩
  have hz1 := hb1.size
  try simp at hz1
  obtain ⟨hc1, hf1⟩ := hb1.cf
  have HB1 := Lib.hid hb1
  clear hb1
  go_wp2_with fail
  refine (tickD _ _ _ _ (by omega) (by omega) _).mono ?_
  rintro e w2 ⟨rfl, hb2⟩
  have hz2 := hb2.size
  try simp at hz2
  have hl2_0 : w1.heap.size < w2.heap.size := by omega
  obtain ⟨hc2, hf2⟩ := hb2.cf
  have HB2 := Lib.hid hb2
  clear hb2
  go_wp2_with fail
  refine (tickD _ _ _ _ (by omega) (by omega) _).mono ?_
  rintro e w3 ⟨rfl, hb3⟩
  have hz3 := hb3.size
  try simp at hz3
  have hl3_0 : w1.heap.size < w3.heap.size := by omega
  obtain ⟨hc3, hf3⟩ := hb3.cf
  have HB3 := Lib.hid hb3
  clear hb3
  go_wp2_with fail
  refine (closeD _ _ _).mono ?_
  rintro e w4 ⟨rfl, hb4⟩
  have hz4 := hb4.size
  try simp at hz4
  have hl4_0 : w1.heap.size < w4.heap.size := by omega
  have hl4_1 : w3.heap.size < w4.heap.size := by omega
  obtain ⟨hc4, hf4⟩ := hb4.cf
  have HB4 := Lib.hid hb4
  clear hb4
  go_wp2_with fail
  refine (goodD _ _ _ _).mono ?_
  rintro e w5 ⟨rfl, hb5⟩
  have hz5 := hb5.size
  try simp at hz5
  have hl5_0 : w1.heap.size < w5.heap.size := by omega
  have hl5_1 : w3.heap.size < w5.heap.size := by omega
  obtain ⟨hc5, hf5⟩ := hb5.cf
  have HB5 := Lib.hid hb5
  clear hb5
  go_wp2_with fail
  refine (goodD _ _ _ _).mono ?_
  rintro e w6 ⟨rfl, hb6⟩
  have hz6 := hb6.size
  try simp at hz6
  have hl6_0 : w1.heap.size < w6.heap.size := by omega
  have hl6_1 : w3.heap.size < w6.heap.size := by omega
  obtain ⟨hc6, hf6⟩ := hb6.cf
  have HB6 := Lib.hid hb6
  clear hb6
  go_wp2
  go_ret
  exact ⟨rfl, (by repeat (first | exact Since.refl _ | assumption | refine Since.setCell ?_ (by first | (simp; done) | (simp; omega)) _ | refine Since.drew ?_ | refine Since.drewN ?_ _ | refine Since.alloc ?_ _ | refine Since.trans ?_ (by assumption) | refine Since.trans ?_ (Hid.out (by assumption))))⟩
set_option maxRecDepth 100000 in
set_option maxHeartbeats 1000000 in
theorem stays (t : Int) (a : Option Addr) (len cap : Nat) (zs : List Int) (w : World) (hb : Byt.BV w a len zs) : Calls Try.prog 6 #[.int .i64 t, .slice a len cap] w fun e w' => e = .returned (.bool true) ∧ Since w w' := by
  have g0 : gd 0 0 t = true := by rw [gd_iff]; simp
  by_cases hz : len = 0
  · subst hz
    go_enter Try.func6, Try.ntmps6
    go_wp2_with fail
    go_loop [6] (fun i => i = .int .i64 0) (fun _ => 0)
    case atStart => exact rfl
    case round =>
      obtain rfl := hrel
      go_wp2_with fail
      refine (ans _).mono ?_
      rintro e w1 ⟨rfl, hb1⟩
      have hz1 := hb1.size
      try simp at hz1
      obtain ⟨hc1, hf1⟩ := hb1.cf
      have HB1 := Lib.hid hb1
      clear hb1
      go_wp2
      go_ret
      exact ⟨rfl, (by repeat (first | exact Since.refl _ | assumption | refine Since.setCell ?_ (by first | (simp; done) | (simp; omega)) _ | refine Since.drew ?_ | refine Since.drewN ?_ _ | refine Since.alloc ?_ _ | refine Since.trans ?_ (by assumption) | refine Since.trans ?_ (Hid.out (by assumption))))⟩
  · obtain ⟨b, off, rfl, hbl, hc⟩ := hb.addr hz
    have hB := hb.2.2.1
    have hL := hb.1
    have HC := Lib.hid hc
    clear hc hb
    go_enter Try.func6, Try.ntmps6
    go_wp2_with fail
    go_loopw [6] (fun i wr => ∃ (k : Nat) (s x : Int), k ≤ 500 ∧ i = .int .i64 k ∧ gd s x t = true ∧ Since w wr ∧ wr.cell? ⟨w.heap.size, 0, none⟩ = some (.int .i64 s) ∧ wr.cell? ⟨w.heap.size, 1, none⟩ = some (.int .i64 x) ∧ wr.frozen? ⟨w.heap.size, 0, none⟩ = false ∧ wr.frozen? ⟨w.heap.size, 1, none⟩ = false ∧ w.heap.size < wr.heap.size) (fun i _ => (500 - intOf i).toNat)
    case atStart => exact ⟨0, 0, 0, by omega, rfl, g0, (by repeat (first | exact Since.refl _ | assumption | refine Since.setCell ?_ (by first | (simp; done) | (simp; omega)) _ | refine Since.drew ?_ | refine Since.drewN ?_ _ | refine Since.alloc ?_ _ | refine Since.trans ?_ (by assumption) | refine Since.trans ?_ (Hid.out (by assumption)))), by simp, by simp, by simp, by simp, by simp⟩
    case round =>
      obtain ⟨k, s, x, hk, rfl, hg, hs, c0, c1, f0, f1, hl⟩ := hrel
      by_cases hlt2 : k < len ∧ k < 500
      · obtain ⟨hl1, hl2⟩ := hlt2
        have hc := (hs.cell (p := ⟨b, off + k, none⟩) hbl).trans (HC.out k hl1)
        have hk0 : (0 : Int) ≤ (k : Int) := by omega
        have hk1 : (k : Int) < (len : Int) := by omega
        have hk2 : (k : Int) < 500 := by omega
        have hz0 : 0 ≤ zs.getD k 0 ∧ zs.getD k 0 ≤ 255 := by
          have : zs.getD k 0 = zs[k]'(by omega) := by simp [List.getD, show k < zs.length by omega]
          rw [this]; have := hB _ (List.getElem_mem (show k < zs.length by omega)); unfold Byt.isB at this; omega
        generalize zs.getD k 0 = z at hc hz0
        obtain ⟨z0, z1⟩ := hz0
        have HW := Lib.hid hs
        clear hs
        obtain ⟨u1, u2, u3, u4⟩ := gd_bd _ _ _ hg
        have hbw : b < wr.heap.size := by have := HW.out.size; omega
        rcases (show z % 4 = 0 ∨ z % 4 = 1 ∨ z % 4 = 2 ∨ z % 4 = 3 by omega) with hm | hm | hm | hm
        · have gq := gd_open s x t hg
          go_wp2_with fail
          refine (openD _ _ _).mono ?_
          rintro e w2 ⟨rfl, hb2⟩
          have hz2 := hb2.size
          try simp at hz2
          have hl2_0 : wr.heap.size < w2.heap.size := by omega
          obtain ⟨hc2, hf2⟩ := hb2.cf
          have HB2 := Lib.hid hb2
          clear hb2
          have hl2w : w.heap.size < w2.heap.size := by omega
          have q0 : w2.cell? ⟨wr.heap.size, 0, none⟩ = some (.int .i64 s) := new_alloc HB2.out rfl
          have q1 : w2.cell? ⟨wr.heap.size, 1, none⟩ = some (.int .i64 x) := new_alloc HB2.out rfl
          have q2 : w2.cell? ⟨w.heap.size, 0, none⟩ = some (.int .i64 s) := keep_alloc HB2.out c0
          have q3 : w2.cell? ⟨w.heap.size, 1, none⟩ = some (.int .i64 x) := keep_alloc HB2.out c1
          have q4 : w2.frozen? ⟨w.heap.size, 0, none⟩ = false := keep_frz_alloc HB2.out c0 f0
          have q5 : w2.frozen? ⟨w.heap.size, 1, none⟩ = false := keep_frz_alloc HB2.out c1 f1
          obtain ⟨e0, e1⟩ := set_two (W := w2) (.int .i64 (oS s)) (.int .i64 (x)) q0 q1
          have e2 : ((w2.setCell ⟨wr.heap.size, 0, none⟩ (.int .i64 (oS s))).setCell ⟨wr.heap.size, 1, none⟩ (.int .i64 (x))).cell? ⟨w.heap.size, 0, none⟩ = some (.int .i64 s) := by rw [set_far _ (by omega), set_far _ (by omega)]; exact q2
          have e3 : ((w2.setCell ⟨wr.heap.size, 0, none⟩ (.int .i64 (oS s))).setCell ⟨wr.heap.size, 1, none⟩ (.int .i64 (x))).cell? ⟨w.heap.size, 1, none⟩ = some (.int .i64 x) := by rw [set_far _ (by omega), set_far _ (by omega)]; exact q3
          have e4 : ((w2.setCell ⟨wr.heap.size, 0, none⟩ (.int .i64 (oS s))).setCell ⟨wr.heap.size, 1, none⟩ (.int .i64 (x))).frozen? ⟨w.heap.size, 0, none⟩ = false := set_frz (set_frz q4)
          have e5 : ((w2.setCell ⟨wr.heap.size, 0, none⟩ (.int .i64 (oS s))).setCell ⟨wr.heap.size, 1, none⟩ (.int .i64 (x))).frozen? ⟨w.heap.size, 1, none⟩ = false := set_frz (set_frz q5)
          have E0 := Lib.hid e0
          have E1 := Lib.hid e1
          have E2 := Lib.hid e2
          have E3 := Lib.hid e3
          have E4 := Lib.hid e4
          have E5 := Lib.hid e5
          clear e0 e1 e2 e3 e4 e5 q2 q3 q4 q5
          go_wp2_with fail
          refine (goodR _ _ _ _).mono ?_
          rintro e w3 ⟨rfl, hb3⟩
          have hz3 := hb3.size
          simp at hz3
          have hl3 : w.heap.size < w3.heap.size := by omega
          have hl4 : wr.heap.size < w3.heap.size := by omega
          have p0 := keep_cell hb3 E0.out
          have p1 := keep_cell hb3 E1.out
          have p2 := keep_cell hb3 E2.out
          have p3 := keep_cell hb3 E3.out
          have p4 := keep_frz hb3 E2.out E4.out
          have p5 := keep_frz hb3 E3.out E5.out
          have HB3 := Lib.hid hb3
          clear hb3 hc2 hf2 c0 c1 f0 f1 q0 q1
          go_wp2
          go_roundw
          case rel =>
            obtain ⟨e0, e1⟩ := set_two (W := w3) (.int .i64 (oS s)) (.int .i64 (x)) p2 p3
            exact ⟨k + 1, oS s, x, by omega, by go_num, gq, (by repeat (first | exact Since.refl _ | assumption | refine Since.setCell ?_ (by first | (simp; done) | (simp; omega)) _ | refine Since.drew ?_ | refine Since.drewN ?_ _ | refine Since.alloc ?_ _ | refine Since.trans ?_ (by assumption) | refine Since.trans ?_ (Hid.out (by assumption)))), e0, e1, set_frz (set_frz p4), set_frz (set_frz p5), by simp [*]⟩
          case measure => simp [intOf]; omega
        · have gq := gd_close s x t hg
          go_wp2_with fail
          refine (closeD _ _ _).mono ?_
          rintro e w2 ⟨rfl, hb2⟩
          have hz2 := hb2.size
          try simp at hz2
          have hl2_0 : wr.heap.size < w2.heap.size := by omega
          obtain ⟨hc2, hf2⟩ := hb2.cf
          have HB2 := Lib.hid hb2
          clear hb2
          have hl2w : w.heap.size < w2.heap.size := by omega
          have q0 : w2.cell? ⟨wr.heap.size, 0, none⟩ = some (.int .i64 s) := new_alloc HB2.out rfl
          have q1 : w2.cell? ⟨wr.heap.size, 1, none⟩ = some (.int .i64 x) := new_alloc HB2.out rfl
          have q2 : w2.cell? ⟨w.heap.size, 0, none⟩ = some (.int .i64 s) := keep_alloc HB2.out c0
          have q3 : w2.cell? ⟨w.heap.size, 1, none⟩ = some (.int .i64 x) := keep_alloc HB2.out c1
          have q4 : w2.frozen? ⟨w.heap.size, 0, none⟩ = false := keep_frz_alloc HB2.out c0 f0
          have q5 : w2.frozen? ⟨w.heap.size, 1, none⟩ = false := keep_frz_alloc HB2.out c1 f1
          obtain ⟨e0, e1⟩ := set_two (W := w2) (.int .i64 (cS s)) (.int .i64 (x)) q0 q1
          have e2 : ((w2.setCell ⟨wr.heap.size, 0, none⟩ (.int .i64 (cS s))).setCell ⟨wr.heap.size, 1, none⟩ (.int .i64 (x))).cell? ⟨w.heap.size, 0, none⟩ = some (.int .i64 s) := by rw [set_far _ (by omega), set_far _ (by omega)]; exact q2
          have e3 : ((w2.setCell ⟨wr.heap.size, 0, none⟩ (.int .i64 (cS s))).setCell ⟨wr.heap.size, 1, none⟩ (.int .i64 (x))).cell? ⟨w.heap.size, 1, none⟩ = some (.int .i64 x) := by rw [set_far _ (by omega), set_far _ (by omega)]; exact q3
          have e4 : ((w2.setCell ⟨wr.heap.size, 0, none⟩ (.int .i64 (cS s))).setCell ⟨wr.heap.size, 1, none⟩ (.int .i64 (x))).frozen? ⟨w.heap.size, 0, none⟩ = false := set_frz (set_frz q4)
          have e5 : ((w2.setCell ⟨wr.heap.size, 0, none⟩ (.int .i64 (cS s))).setCell ⟨wr.heap.size, 1, none⟩ (.int .i64 (x))).frozen? ⟨w.heap.size, 1, none⟩ = false := set_frz (set_frz q5)
          have E0 := Lib.hid e0
          have E1 := Lib.hid e1
          have E2 := Lib.hid e2
          have E3 := Lib.hid e3
          have E4 := Lib.hid e4
          have E5 := Lib.hid e5
          clear e0 e1 e2 e3 e4 e5 q2 q3 q4 q5
          go_wp2_with fail
          refine (goodR _ _ _ _).mono ?_
          rintro e w3 ⟨rfl, hb3⟩
          have hz3 := hb3.size
          simp at hz3
          have hl3 : w.heap.size < w3.heap.size := by omega
          have hl4 : wr.heap.size < w3.heap.size := by omega
          have p0 := keep_cell hb3 E0.out
          have p1 := keep_cell hb3 E1.out
          have p2 := keep_cell hb3 E2.out
          have p3 := keep_cell hb3 E3.out
          have p4 := keep_frz hb3 E2.out E4.out
          have p5 := keep_frz hb3 E3.out E5.out
          have HB3 := Lib.hid hb3
          clear hb3 hc2 hf2 c0 c1 f0 f1 q0 q1
          go_wp2
          go_roundw
          case rel =>
            obtain ⟨e0, e1⟩ := set_two (W := w3) (.int .i64 (cS s)) (.int .i64 (x)) p2 p3
            exact ⟨k + 1, cS s, x, by omega, by go_num, gq, (by repeat (first | exact Since.refl _ | assumption | refine Since.setCell ?_ (by first | (simp; done) | (simp; omega)) _ | refine Since.drew ?_ | refine Since.drewN ?_ _ | refine Since.alloc ?_ _ | refine Since.trans ?_ (by assumption) | refine Since.trans ?_ (Hid.out (by assumption)))), e0, e1, set_frz (set_frz p4), set_frz (set_frz p5), by simp [*]⟩
          case measure => simp [intOf]; omega
        · have gq := gd_tick s x t false hg
          obtain ⟨v1, v2⟩ := tA_near s x t false hg
          obtain ⟨_, _, v3, v4⟩ := gd_bd _ _ _ gq
          go_wp2
          go_region_with (first | (go_at_call 21; refine (tickD _ _ _ _ (by assumption) (by assumption) _).mono ?_; rintro e w2 ⟨rfl, hb2⟩; obtain ⟨hc2, hf2⟩ := hb2.cf))
          all_goals
            have hz2 := hb2.size
            simp at hz2
            have hl2_0 : wr.heap.size < w2.heap.size := by omega
            have hl2w : w.heap.size < w2.heap.size := by omega
            have HB2 := Lib.hid (Since.trans ((Since.refl (wr.alloc (.cells #[.int .i64 s, .int .i64 x] 29))).drew) hb2)
            clear hb2
            have q0 : w2.cell? ⟨wr.heap.size, 0, none⟩ = some (.int .i64 s) := new_alloc HB2.out rfl
            have q1 : w2.cell? ⟨wr.heap.size, 1, none⟩ = some (.int .i64 x) := new_alloc HB2.out rfl
            have q2 : w2.cell? ⟨w.heap.size, 0, none⟩ = some (.int .i64 s) := keep_alloc HB2.out c0
            have q3 : w2.cell? ⟨w.heap.size, 1, none⟩ = some (.int .i64 x) := keep_alloc HB2.out c1
            have q4 : w2.frozen? ⟨w.heap.size, 0, none⟩ = false := keep_frz_alloc HB2.out c0 f0
            have q5 : w2.frozen? ⟨w.heap.size, 1, none⟩ = false := keep_frz_alloc HB2.out c1 f1
            obtain ⟨e0, e1⟩ := set_two (W := w2) (.int .i64 (tS s x t false)) (.int .i64 (tA s x t false)) q0 q1
            have e2 : ((w2.setCell ⟨wr.heap.size, 0, none⟩ (.int .i64 (tS s x t false))).setCell ⟨wr.heap.size, 1, none⟩ (.int .i64 (tA s x t false))).cell? ⟨w.heap.size, 0, none⟩ = some (.int .i64 s) := by rw [set_far _ (by omega), set_far _ (by omega)]; exact q2
            have e3 : ((w2.setCell ⟨wr.heap.size, 0, none⟩ (.int .i64 (tS s x t false))).setCell ⟨wr.heap.size, 1, none⟩ (.int .i64 (tA s x t false))).cell? ⟨w.heap.size, 1, none⟩ = some (.int .i64 x) := by rw [set_far _ (by omega), set_far _ (by omega)]; exact q3
            have e4 : ((w2.setCell ⟨wr.heap.size, 0, none⟩ (.int .i64 (tS s x t false))).setCell ⟨wr.heap.size, 1, none⟩ (.int .i64 (tA s x t false))).frozen? ⟨w.heap.size, 0, none⟩ = false := set_frz (set_frz q4)
            have e5 : ((w2.setCell ⟨wr.heap.size, 0, none⟩ (.int .i64 (tS s x t false))).setCell ⟨wr.heap.size, 1, none⟩ (.int .i64 (tA s x t false))).frozen? ⟨w.heap.size, 1, none⟩ = false := set_frz (set_frz q5)
            have E0 := Lib.hid e0
            have E1 := Lib.hid e1
            have E2 := Lib.hid e2
            have E3 := Lib.hid e3
            have E4 := Lib.hid e4
            have E5 := Lib.hid e5
            clear e0 e1 e2 e3 e4 e5 q2 q3 q4 q5
            go_wp2_with fail
            refine (goodR _ _ _ _).mono ?_
            rintro e w3 ⟨rfl, hb3⟩
            have hz3 := hb3.size
            simp at hz3
            have hl3 : w.heap.size < w3.heap.size := by omega
            have hl4 : wr.heap.size < w3.heap.size := by omega
            have p0 := keep_cell hb3 E0.out
            have p1 := keep_cell hb3 E1.out
            have p2 := keep_cell hb3 E2.out
            have p3 := keep_cell hb3 E3.out
            have p4 := keep_frz hb3 E2.out E4.out
            have p5 := keep_frz hb3 E3.out E5.out
            have HB3 := Lib.hid hb3
            clear hb3 hc2 hf2 c0 c1 f0 f1 q0 q1
            go_wp2
            go_roundw
            case rel =>
              obtain ⟨e0, e1⟩ := set_two (W := w3) (.int .i64 (tS s x t false)) (.int .i64 (tA s x t false)) p2 p3
              exact ⟨k + 1, tS s x t false, tA s x t false, by omega, by go_num, gq, (by repeat (first | exact Since.refl _ | assumption | refine Since.setCell ?_ (by first | (simp; done) | (simp; omega)) _ | refine Since.drew ?_ | refine Since.drewN ?_ _ | refine Since.alloc ?_ _ | refine Since.trans ?_ (by assumption) | refine Since.trans ?_ (Hid.out (by assumption)))), e0, e1, set_frz (set_frz p4), set_frz (set_frz p5), by simp [*]⟩
            case measure => simp [intOf]; omega
        · have gq := gd_tick s x t true hg
          obtain ⟨v1, v2⟩ := tA_near s x t true hg
          obtain ⟨_, _, v3, v4⟩ := gd_bd _ _ _ gq
          go_wp2
          go_region_with (first | (go_at_call 21; refine (tickD _ _ _ _ (by assumption) (by assumption) _).mono ?_; rintro e w2 ⟨rfl, hb2⟩; obtain ⟨hc2, hf2⟩ := hb2.cf))
          all_goals
            have hz2 := hb2.size
            simp at hz2
            have hl2_0 : wr.heap.size < w2.heap.size := by omega
            have hl2w : w.heap.size < w2.heap.size := by omega
            have HB2 := Lib.hid (Since.trans ((Since.refl (wr.alloc (.cells #[.int .i64 s, .int .i64 x] 29))).drew) hb2)
            clear hb2
            have q0 : w2.cell? ⟨wr.heap.size, 0, none⟩ = some (.int .i64 s) := new_alloc HB2.out rfl
            have q1 : w2.cell? ⟨wr.heap.size, 1, none⟩ = some (.int .i64 x) := new_alloc HB2.out rfl
            have q2 : w2.cell? ⟨w.heap.size, 0, none⟩ = some (.int .i64 s) := keep_alloc HB2.out c0
            have q3 : w2.cell? ⟨w.heap.size, 1, none⟩ = some (.int .i64 x) := keep_alloc HB2.out c1
            have q4 : w2.frozen? ⟨w.heap.size, 0, none⟩ = false := keep_frz_alloc HB2.out c0 f0
            have q5 : w2.frozen? ⟨w.heap.size, 1, none⟩ = false := keep_frz_alloc HB2.out c1 f1
            obtain ⟨e0, e1⟩ := set_two (W := w2) (.int .i64 (tS s x t true)) (.int .i64 (tA s x t true)) q0 q1
            have e2 : ((w2.setCell ⟨wr.heap.size, 0, none⟩ (.int .i64 (tS s x t true))).setCell ⟨wr.heap.size, 1, none⟩ (.int .i64 (tA s x t true))).cell? ⟨w.heap.size, 0, none⟩ = some (.int .i64 s) := by rw [set_far _ (by omega), set_far _ (by omega)]; exact q2
            have e3 : ((w2.setCell ⟨wr.heap.size, 0, none⟩ (.int .i64 (tS s x t true))).setCell ⟨wr.heap.size, 1, none⟩ (.int .i64 (tA s x t true))).cell? ⟨w.heap.size, 1, none⟩ = some (.int .i64 x) := by rw [set_far _ (by omega), set_far _ (by omega)]; exact q3
            have e4 : ((w2.setCell ⟨wr.heap.size, 0, none⟩ (.int .i64 (tS s x t true))).setCell ⟨wr.heap.size, 1, none⟩ (.int .i64 (tA s x t true))).frozen? ⟨w.heap.size, 0, none⟩ = false := set_frz (set_frz q4)
            have e5 : ((w2.setCell ⟨wr.heap.size, 0, none⟩ (.int .i64 (tS s x t true))).setCell ⟨wr.heap.size, 1, none⟩ (.int .i64 (tA s x t true))).frozen? ⟨w.heap.size, 1, none⟩ = false := set_frz (set_frz q5)
            have E0 := Lib.hid e0
            have E1 := Lib.hid e1
            have E2 := Lib.hid e2
            have E3 := Lib.hid e3
            have E4 := Lib.hid e4
            have E5 := Lib.hid e5
            clear e0 e1 e2 e3 e4 e5 q2 q3 q4 q5
            go_wp2_with fail
            refine (goodR _ _ _ _).mono ?_
            rintro e w3 ⟨rfl, hb3⟩
            have hz3 := hb3.size
            simp at hz3
            have hl3 : w.heap.size < w3.heap.size := by omega
            have hl4 : wr.heap.size < w3.heap.size := by omega
            have p0 := keep_cell hb3 E0.out
            have p1 := keep_cell hb3 E1.out
            have p2 := keep_cell hb3 E2.out
            have p3 := keep_cell hb3 E3.out
            have p4 := keep_frz hb3 E2.out E4.out
            have p5 := keep_frz hb3 E3.out E5.out
            have HB3 := Lib.hid hb3
            clear hb3 hc2 hf2 c0 c1 f0 f1 q0 q1
            go_wp2
            go_roundw
            case rel =>
              obtain ⟨e0, e1⟩ := set_two (W := w3) (.int .i64 (tS s x t true)) (.int .i64 (tA s x t true)) p2 p3
              exact ⟨k + 1, tS s x t true, tA s x t true, by omega, by go_num, gq, (by repeat (first | exact Since.refl _ | assumption | refine Since.setCell ?_ (by first | (simp; done) | (simp; omega)) _ | refine Since.drew ?_ | refine Since.drewN ?_ _ | refine Since.alloc ?_ _ | refine Since.trans ?_ (by assumption) | refine Since.trans ?_ (Hid.out (by assumption)))), e0, e1, set_frz (set_frz p4), set_frz (set_frz p5), by simp [*]⟩
            case measure => simp [intOf]; omega
      · have HW := Lib.hid hs
        clear hs
        by_cases hl1 : k < len
        · have hl2 : ¬ k < 500 := by omega
          go_wp2_with fail
          refine (ans _).mono ?_
          rintro e w1 ⟨rfl, hb1⟩
          have hz1 := hb1.size
          try simp at hz1
          obtain ⟨hc1, hf1⟩ := hb1.cf
          have HB1 := Lib.hid hb1
          clear hb1
          go_wp2
          go_ret
          exact ⟨rfl, (by repeat (first | exact Since.refl _ | assumption | refine Since.setCell ?_ (by first | (simp; done) | (simp; omega)) _ | refine Since.drew ?_ | refine Since.drewN ?_ _ | refine Since.alloc ?_ _ | refine Since.trans ?_ (by assumption) | refine Since.trans ?_ (Hid.out (by assumption))))⟩
        · skip
          go_wp2_with fail
          refine (ans _).mono ?_
          rintro e w1 ⟨rfl, hb1⟩
          have hz1 := hb1.size
          try simp at hz1
          obtain ⟨hc1, hf1⟩ := hb1.cf
          have HB1 := Lib.hid hb1
          clear hb1
          go_wp2
          go_ret
          exact ⟨rfl, (by repeat (first | exact Since.refl _ | assumption | refine Since.setCell ?_ (by first | (simp; done) | (simp; omega)) _ | refine Since.drew ?_ | refine Since.drewN ?_ _ | refine Since.alloc ?_ _ | refine Since.trans ?_ (by assumption) | refine Since.trans ?_ (Hid.out (by assumption))))⟩
set_option maxRecDepth 100000 in
set_option maxHeartbeats 1000000 in
theorem whole (t : Int) (b : Bool) (w : World) (wt : (Lit.int .u16 t).wf = true) : Calls Try.prog 7 #[.int .u16 t, .bool b] w fun e w' => e = .returned (.bool true) ∧ Since w w' := by
  have ⟨bt1, bt2⟩ := bounds_u16 wt
  clear wt
  have o0 : oS 0 = 1 := by decide
  have m0 : 0 ≤ t % 1000 := by omega
  have m1 : t % 1000 ≤ 999 := by omega
  have kf : ∀ (w : World) (a b : Value), (Instr.field 29 (.agg #[a, b]) 0).run Try.prog w = .ok a w := fun _ _ _ => by kernel_rfl
  go_enter Try.func7, Try.ntmps7
  go_wp2_with fail
  refine (openD _ _ _).mono ?_
  rintro e w1 ⟨rfl, hb1⟩
  have hz1 := hb1.size
  try simp at hz1
  obtain ⟨hc1, hf1⟩ := hb1.cf
  have HB1 := Lib.hid hb1
  clear hb1
  have hw1 : w.heap.size ≤ w1.heap.size := (HB1.out).size
  go_wp2_with fail
  go_loopw [7] (fun i wr => ∃ k : Nat, (k : Int) ≤ t % 1000 + 1 ∧ i = .int .i64 k ∧ Since w wr ∧ wr.cell? ⟨w1.heap.size, 0, none⟩ = some (.int .i64 (opS k (t % 1000 + 1))) ∧ wr.cell? ⟨w1.heap.size, 1, none⟩ = some (.int .i64 k) ∧ wr.frozen? ⟨w1.heap.size, 0, none⟩ = false ∧ wr.frozen? ⟨w1.heap.size, 1, none⟩ = false ∧ w1.heap.size < wr.heap.size) (fun i _ => (1001 - intOf i).toNat)
  case atStart =>
    have o1 := opS_go 0 (t % 1000 + 1) (by omega)
    exact ⟨0, by omega, rfl, (by repeat (first | exact Since.refl _ | assumption | refine Since.setCell ?_ (by first | (simp; done) | (simp; omega)) _ | refine Since.drew ?_ | refine Since.drewN ?_ _ | refine Since.alloc ?_ _ | refine Since.trans ?_ (by assumption) | refine Since.trans ?_ (Hid.out (by assumption)))), by simp [o1], by simp, by simp, by simp, by simp⟩
  case round =>
    obtain ⟨k, hk, rfl, hs, c0, c1, f0, f1, hl⟩ := hrel
    have HW := Lib.hid hs
    clear hs
    by_cases hlt : (k : Int) < t % 1000 + 1
    · obtain ⟨q1, q2⟩ := op_tick k (t % 1000 + 1) b (by omega) hlt (by omega)
      rw [opS_go _ _ hlt] at c0
      have k0 : (0 : Int) ≤ k := by omega
      have k1 : (k : Int) ≤ 1000 := by omega
      go_wp2_with fail
      refine (tickD _ _ _ _ (by assumption) (by assumption) _).mono ?_
      rintro e w2 ⟨rfl, hb2⟩
      have hz2 := hb2.size
      try simp at hz2
      have hl2_0 : w1.heap.size < w2.heap.size := by omega
      obtain ⟨hc2, hf2⟩ := hb2.cf
      have HB2 := Lib.hid hb2
      clear hb2
      go_wp2_with fail
      go_roundw
      case rel =>
        obtain ⟨e0, e1⟩ := set_two (W := w2) (.int .i64 (opS (k + 1) (t % 1000 + 1))) (.int .i64 (k + 1)) (by rw [hc2 _ _ hl]; exact c0) (by rw [hc2 _ _ hl]; exact c1)
        exact ⟨k + 1, by omega, by go_num, (by repeat (first | exact Since.refl _ | assumption | refine Since.setCell ?_ (by first | (simp; done) | (simp; omega)) _ | refine Since.drew ?_ | refine Since.drewN ?_ _ | refine Since.alloc ?_ _ | refine Since.trans ?_ (by assumption) | refine Since.trans ?_ (Hid.out (by assumption)))), e0, e1, by simp [*], by simp [*], by simp [*]⟩
      case measure => simp [intOf]; omega
    · have e : (k : Int) = t % 1000 + 1 := by omega
      rw [e, opS_end] at c0
      rw [e] at c1
      have kge : ¬ ((k : Int) < t % 1000 + 1) := hlt
      clear hlt hk e
      have k3 : cS 2 = 3 := by decide
      go_wp2_with fail
      refine (closeD _ _ _).mono ?_
      rintro e w2 ⟨rfl, hb2⟩
      have hz2 := hb2.size
      try simp at hz2
      have hl2_0 : w1.heap.size < w2.heap.size := by omega
      obtain ⟨hc2, hf2⟩ := hb2.cf
      have HB2 := Lib.hid hb2
      clear hb2
      rw [k3]
      go_wp2_with fail
      obtain ⟨e0, e1⟩ := set_two (W := w2) (.int .i64 3) (.int .i64 (t % 1000 + 1)) (by rw [hc2 _ _ hl]; exact c0) (by rw [hc2 _ _ hl]; exact c1)
      have E0 := Lib.hid e0
      have E1 := Lib.hid e1
      clear e0 e1
      go_loopw [8] (fun i wr => ∃ k : Nat, (k : Int) ≤ t % 1000 + 1 ∧ i = .int .i64 k ∧ Since w wr ∧ wr.cell? ⟨w1.heap.size, 0, none⟩ = some (.int .i64 (clS k (t % 1000 + 1))) ∧ wr.cell? ⟨w1.heap.size, 1, none⟩ = some (.int .i64 (t % 1000 + 1 - k)) ∧ wr.frozen? ⟨w1.heap.size, 0, none⟩ = false ∧ wr.frozen? ⟨w1.heap.size, 1, none⟩ = false ∧ w1.heap.size < wr.heap.size) (fun i _ => (1001 - intOf i).toNat)
      case atStart =>
        have o1 := clS_go 0 (t % 1000 + 1) (by omega)
        exact ⟨0, by omega, rfl, (by repeat (first | exact Since.refl _ | assumption | refine Since.setCell ?_ (by first | (simp; done) | (simp; omega)) _ | refine Since.drew ?_ | refine Since.drewN ?_ _ | refine Since.alloc ?_ _ | refine Since.trans ?_ (by assumption) | refine Since.trans ?_ (Hid.out (by assumption)))), by simpa [o1] using E0.out, by simpa using E1.out, by simp [*], by simp [*], by simp [*]⟩
      case round =>
        clear c0 c1 f0 f1 hl E0 E1 hc2 hf2 hl2_0 hz2
        obtain ⟨j, hj, rfl, hs, c0, c1, f0, f1, hl⟩ := hrel
        have HW2 := Lib.hid hs
        clear hs
        by_cases hlt : (j : Int) < t % 1000 + 1
        · obtain ⟨q1, q2⟩ := cl_tick j (t % 1000 + 1) (by omega) hlt (by omega)
          rw [clS_go _ _ hlt] at c0
          have j0 : (0 : Int) ≤ t % 1000 + 1 - j := by omega
          have j1 : t % 1000 + 1 - (j : Int) ≤ 1000 := by omega
          have j2 : (j : Int) ≤ 1000 := by omega
          go_wp2_with fail
          refine (tickD _ _ _ _ (by assumption) (by assumption) _).mono ?_
          rintro e w3 ⟨rfl, hb3⟩
          have hz3 := hb3.size
          try simp at hz3
          have hl3_0 : w1.heap.size < w3.heap.size := by omega
          obtain ⟨hc3, hf3⟩ := hb3.cf
          have HB3 := Lib.hid hb3
          clear hb3
          rw [q1, q2]
          go_wp2_with fail
          go_roundw
          case rel =>
            obtain ⟨e0, e1⟩ := set_two (W := w3) (.int .i64 (clS (j + 1) (t % 1000 + 1))) (.int .i64 (t % 1000 + 1 - (j + 1))) (by rw [hc3 _ _ hl]; exact c0) (by rw [hc3 _ _ hl]; exact c1)
            exact ⟨j + 1, by omega, by go_num, (by repeat (first | exact Since.refl _ | assumption | refine Since.setCell ?_ (by first | (simp; done) | (simp; omega)) _ | refine Since.drew ?_ | refine Since.drewN ?_ _ | refine Since.alloc ?_ _ | refine Since.trans ?_ (by assumption) | refine Since.trans ?_ (Hid.out (by assumption)))), e0, e1, by simp [*], by simp [*], by simp [*]⟩
          case measure => simp [intOf]; omega
        · have e : (j : Int) = t % 1000 + 1 := by omega
          rw [e, clS_end] at c0
          have jge : ¬ ((j : Int) < t % 1000 + 1) := hlt
          clear hlt hj e
          go_wp2_with fail
          refine (closeD _ _ _).mono ?_
          rintro e w3 ⟨rfl, hb3⟩
          have hz3 := hb3.size
          try simp at hz3
          have hl3_0 : w1.heap.size < w3.heap.size := by omega
          obtain ⟨hc3, hf3⟩ := hb3.cf
          have HB3 := Lib.hid hb3
          clear hb3
          rw [k3]
          have n1 : t % 1000 + 1 ≤ 1000 := by omega
          have n0 : 0 ≤ t % 1000 + 1 := by omega
          have q1 := tS_b (t % 1000 + 1) (t % 1000 + 1)
          have o3 : oS 3 = 1 := by decide
          rw [o3] at q1
          go_wp2_with fail
          refine (tickD _ _ _ _ (by assumption) (by assumption) _).mono ?_
          rintro e w4 ⟨rfl, hb4⟩
          have hz4 := hb4.size
          try simp at hz4
          have hl4_0 : w1.heap.size < w4.heap.size := by omega
          have hl4_1 : w3.heap.size < w4.heap.size := by omega
          obtain ⟨hc4, hf4⟩ := hb4.cf
          have HB4 := Lib.hid hb4
          clear hb4
          rw [q1]
          go_wp2_with fail
          refine (ans _).mono ?_
          rintro e w5 ⟨rfl, hb5⟩
          have hz5 := hb5.size
          try simp at hz5
          have hl5_0 : w1.heap.size < w5.heap.size := by omega
          have hl5_1 : w3.heap.size < w5.heap.size := by omega
          obtain ⟨hc5, hf5⟩ := hb5.cf
          have HB5 := Lib.hid hb5
          clear hb5
          go_wp2
          go_ret
          exact ⟨rfl, (by repeat (first | exact Since.refl _ | assumption | refine Since.setCell ?_ (by first | (simp; done) | (simp; omega)) _ | refine Since.drew ?_ | refine Since.drewN ?_ _ | refine Since.alloc ?_ _ | refine Since.trans ?_ (by assumption) | refine Since.trans ?_ (Hid.out (by assumption))))⟩
end Go.Proofs.Ytmkiijoljfinoaa.Do
