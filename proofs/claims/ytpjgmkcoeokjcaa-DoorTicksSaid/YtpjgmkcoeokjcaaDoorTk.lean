/-
  The laws of layer 8 (door), walked: each answers true.
  Conditions: each argument fits its kind.
-/
import Derived.Test.YtpjgmkcoeokjcaaDoorRef
import Derived.Test.YtpjgmkcoeokjcaaRow
import Derived.BigRegion
namespace Go.Proofs.Ytpjgmkcoeokjcaa.Do
set_option linter.unusedVariables false
set_option linter.unusedSimpArgs false
open Go.RowKit Go.Proofs.Ytpjgmkcoeokjcaa.Ba Go.Proofs.Ytpjgmkcoeokjcaa.Mem
set_option maxRecDepth 100000
theorem ans (w : World) : Calls Try.prog 9 #[] w fun e w' => e = .returned (.bool true) ∧ Since w w' := by
  have e1 : oS 0 = 1 := by decide
  have e2 : tS 1 0 2 false = 1 := by decide
  have e3 : tA 1 0 2 false = 1 := by decide
  have e4 : tS 1 1 2 false = 2 := by decide
  have e5 : tA 1 1 2 false = 2 := by decide
  have e6 : cS 2 = 3 := by decide
  have e7 : gd 2 2 2 = true := by decide
  have e8 : gd 2 2 3 = false := by decide
  go_enter Try.func9, Try.ntmps9
  have kf : ∀ (w : World) (a b : Value), (Instr.field 23 (.agg #[a, b]) 0).run Try.prog w = .ok a w := fun _ _ _ => by kernel_rfl
  go_wp2_with fail
  refine (openD _ _ _).mono ?_
  rintro e w1 ⟨rfl, hb1⟩
  have hz1 := hb1.size
  try simp at hz1
  obtain ⟨hc1, hf1⟩ := hb1.cf
  have HB1 := Lib.hid hb1
  clear hb1
  go_wp2_with fail
  refine (tickD _ _ _ _ (by omega) (by omega) _).mono ?_
  rintro e w2 ⟨rfl, hb2⟩
  have hz2 := hb2.size
  try simp at hz2
  have hl2_0 : w1.heap.size < w2.heap.size := by omega
  obtain ⟨hc2, hf2⟩ := hb2.cf
  have HB2 := Lib.hid hb2
  clear hb2
  go_wp2_with fail
  refine (tickD _ _ _ _ (by omega) (by omega) _).mono ?_
  rintro e w3 ⟨rfl, hb3⟩
  have hz3 := hb3.size
  try simp at hz3
  have hl3_0 : w1.heap.size < w3.heap.size := by omega
  obtain ⟨hc3, hf3⟩ := hb3.cf
  have HB3 := Lib.hid hb3
  clear hb3
  go_wp2_with fail
  refine (closeD _ _ _).mono ?_
  rintro e w4 ⟨rfl, hb4⟩
  have hz4 := hb4.size
  try simp at hz4
  have hl4_0 : w1.heap.size < w4.heap.size := by omega
  have hl4_1 : w3.heap.size < w4.heap.size := by omega
  obtain ⟨hc4, hf4⟩ := hb4.cf
  have HB4 := Lib.hid hb4
  clear hb4
  go_wp2_with fail
  refine (goodD _ _ _ _).mono ?_
  rintro e w5 ⟨rfl, hb5⟩
  have hz5 := hb5.size
  try simp at hz5
  have hl5_0 : w1.heap.size < w5.heap.size := by omega
  have hl5_1 : w3.heap.size < w5.heap.size := by omega
  obtain ⟨hc5, hf5⟩ := hb5.cf
  have HB5 := Lib.hid hb5
  clear hb5
  go_wp2_with fail
  refine (goodD _ _ _ _).mono ?_
  rintro e w6 ⟨rfl, hb6⟩
  have hz6 := hb6.size
  try simp at hz6
  have hl6_0 : w1.heap.size < w6.heap.size := by omega
  have hl6_1 : w3.heap.size < w6.heap.size := by omega
  obtain ⟨hc6, hf6⟩ := hb6.cf
  have HB6 := Lib.hid hb6
  clear hb6
  go_wp2
  go_ret
  exact ⟨rfl, (by repeat (first | exact Since.refl _ | assumption | refine Since.setCell ?_ (by first | (simp; done) | (simp; omega)) _ | refine Since.drew ?_ | refine Since.drewN ?_ _ | refine Since.alloc ?_ _ | refine Since.trans ?_ (by assumption) | refine Since.trans ?_ (Hid.out (by assumption))))⟩
set_option maxHeartbeats 4000000 in
theorem ticks (s a t : Int) (b : Bool) (w : World) : Calls Try.prog 3 #[.agg #[.int .i64 s, .int .i64 a], .int .i64 t, .bool b] w fun e w' => e = .returned (.bool true) ∧ Since w w' := by
  go_enter Try.func3, Try.ntmps3
  go_upto_region 1 with fail
  obtain ⟨w1, hw1⟩ : ∃ w1, w1 = w.alloc (.cells #[.int .i64 s, .int .i64 a] 23) := ⟨_, rfl⟩
  rw [← hw1]
  have c0 : w1.cell? ⟨w.heap.size, 0, none⟩ = some (.int .i64 s) := by rw [hw1]; simp [go_sem]
  have c1 : w1.cell? ⟨w.heap.size, 1, none⟩ = some (.int .i64 a) := by rw [hw1]; simp [go_sem]
  have HS1 := Lib.hid (show Since w w1 by rw [hw1]; exact (Since.refl w).alloc _)
  clear hw1
  go_cut [17] (fun s17 wx => s17 = .bool false ∧ Hid (Since w wx ∧ wx.cell? ⟨w.heap.size, 0, none⟩ = some (.int .i64 s) ∧ wx.cell? ⟨w.heap.size, 1, none⟩ = some (.int .i64 a)))
  case first =>
    have hrK : ∀ W W' : World, Since W W' → (Since w1 W ∧ W.cell? ⟨w.heap.size, 0, none⟩ = some (.int .i64 s) ∧ W.cell? ⟨w.heap.size, 1, none⟩ = some (.int .i64 a)) → (Since w1 W' ∧ W'.cell? ⟨w.heap.size, 0, none⟩ = some (.int .i64 s) ∧ W'.cell? ⟨w.heap.size, 1, none⟩ = some (.int .i64 a)) := fun W W' k ⟨h, h0, h1⟩ => ⟨h.trans k, keep_cell k h0, keep_cell k h1⟩
    have hrS : (fun W : World => Since w1 W ∧ W.cell? ⟨w.heap.size, 0, none⟩ = some (.int .i64 s) ∧ W.cell? ⟨w.heap.size, 1, none⟩ = some (.int .i64 a)) (w1) := ⟨Since.refl _, by first | assumption | (simp; done), by first | assumption | (simp; done)⟩
    have HRK := Lib.hid hrK
    have HRD := Lib.hid (show (fun W : World => Since w1 W ∧ W.cell? ⟨w.heap.size, 0, none⟩ = some (.int .i64 s) ∧ W.cell? ⟨w.heap.size, 1, none⟩ = some (.int .i64 a)) (World.drew (w1)) from ⟨(Since.refl _).drew, hrS.2⟩)
    clear hrK hrS
    refine wp_region_held_drew (S := fun W : World => Since w1 W ∧ W.cell? ⟨w.heap.size, 0, none⟩ = some (.int .i64 s) ∧ W.cell? ⟨w.heap.size, 1, none⟩ = some (.int .i64 a)) (by kernel_rfl) HRD.out (fun hHeld => ?_)
    refine wpAnyH_take (i := 0) (oi := ?o_0) (v := .agg #[.int .i64 s, .int .i64 a]) ?h_0 (by kernel_rfl) (by kernel_rfl) (by kernel_rfl) ?q_0 ?y_0 (by assumption) ?_
    case h_0 => (first | (simp only [List.getElem?_toArray, List.getElem?_cons_zero, List.getElem?_cons_succ]; done) | (simp only [List.getElem?_toArray, List.getElem?_cons_zero, List.getElem?_cons_succ]; exact rfl))
    case q_0 => exact fun _ _ _ h => h
    case y_0 => (refine Or.inl ⟨rfl, ?_⟩; intro w hSw; (try dsimp only at hSw); go_simp; (try with_reducible rfl))
    (try simp only [Act.put, List.setIfInBounds_toArray, List.set_cons_zero, List.set_cons_succ])
    refine wpAnyH_take (i := 1) (oi := ?o_1) (v := ?v_1) ?h_1 (by kernel_rfl) (by kernel_rfl) (by kernel_rfl) ?q_1 ?y_1 (by assumption) ?_
    case h_1 => (first | (simp only [List.getElem?_toArray, List.getElem?_cons_zero, List.getElem?_cons_succ]; done) | (simp only [List.getElem?_toArray, List.getElem?_cons_zero, List.getElem?_cons_succ]; exact rfl))
    case q_1 => exact fun _ _ _ h => h
    case y_1 => (refine Or.inl ⟨rfl, ?_⟩; intro w hSw; (try dsimp only at hSw); go_simp; (try with_reducible rfl))
    (try simp only [Act.put, List.setIfInBounds_toArray, List.set_cons_zero, List.set_cons_succ])
    refine wpAnyH_take (i := 3) (oi := ?o_3) (v := .agg #[.int .i64 s, .int .i64 a]) ?h_3 (by kernel_rfl) (by kernel_rfl) (by kernel_rfl) ?q_3 ?y_3 (by assumption) ?_
    case h_3 => (first | (simp only [List.getElem?_toArray, List.getElem?_cons_zero, List.getElem?_cons_succ]; done) | (simp only [List.getElem?_toArray, List.getElem?_cons_zero, List.getElem?_cons_succ]; exact rfl))
    case q_3 => exact fun _ _ _ h => h
    case y_3 => (refine Or.inl ⟨rfl, ?_⟩; intro w hSw; (try dsimp only at hSw); go_simp; (try with_reducible rfl))
    (try simp only [Act.put, List.setIfInBounds_toArray, List.set_cons_zero, List.set_cons_succ])
    refine wpAnyH_take (i := 4) (oi := ?o_4) (v := ?v_4) ?h_4 (by kernel_rfl) (by kernel_rfl) (by kernel_rfl) ?q_4 ?y_4 (by assumption) ?_
    case h_4 => (first | (simp only [List.getElem?_toArray, List.getElem?_cons_zero, List.getElem?_cons_succ]; done) | (simp only [List.getElem?_toArray, List.getElem?_cons_zero, List.getElem?_cons_succ]; exact rfl))
    case q_4 => exact fun _ _ _ h => h
    case y_4 => (refine Or.inl ⟨rfl, ?_⟩; intro w hSw; (try dsimp only at hSw); go_simp; (try with_reducible rfl))
    (try simp only [Act.put, List.setIfInBounds_toArray, List.set_cons_zero, List.set_cons_succ])
    refine wpAnyH_ready (rs := [2]) (by kernel_rfl) (by simp) ?_
    refine AllReadyH.cons (o := ?o_2) ?h_2 (fun K hK => ?_) AllReadyH.nil
    case h_2 => (first | (simp only [List.getElem?_toArray, List.getElem?_cons_zero, List.getElem?_cons_succ]; done) | (simp only [List.getElem?_toArray, List.getElem?_cons_zero, List.getElem?_cons_succ]; exact rfl))
    (try go_simp)
    (go_at_call 7; refine (goodD s a t _).mono ?_; rintro e w9 ⟨rfl, hb9⟩)
    (try go_wp2_with fail)
    refine hK.out _ _ ?_ (fun hHeld2 => ?_)
    · first | exact HRD.out | exact hHeld | (apply HRK.out; assumption; assumption)
    clear hK K hHeld
    have hHeld := hHeld2
    clear hHeld2
    (try simp only [Act.put, List.setIfInBounds_toArray, List.set_cons_zero, List.set_cons_succ])
    refine wpAnyH_ready (rs := [5]) (by kernel_rfl) (by simp) ?_
    refine AllReadyH.cons (o := ?o_5) ?h_5 (fun K hK => ?_) AllReadyH.nil
    case h_5 => (first | (simp only [List.getElem?_toArray, List.getElem?_cons_zero, List.getElem?_cons_succ]; done) | (simp only [List.getElem?_toArray, List.getElem?_cons_zero, List.getElem?_cons_succ]; exact rfl))
    (try go_simp)
    (go_at_call 8; refine (goodR s a t _).mono ?_; rintro e w9 ⟨rfl, hb9⟩)
    (try go_wp2_with fail)
    refine hK.out _ _ ?_ (fun hHeld2 => ?_)
    · first | exact HRD.out | exact hHeld | (apply HRK.out; assumption; assumption)
    clear hK K hHeld
    have hHeld := hHeld2
    clear hHeld2
    (try simp only [Act.put, List.setIfInBounds_toArray, List.set_cons_zero, List.set_cons_succ])
    refine wpAnyH_take (i := 6) (oi := ?o_6) (v := .bool false) ?h_6 (by kernel_rfl) (by kernel_rfl) (by kernel_rfl) ?q_6 ?y_6 (by assumption) ?_
    case h_6 => (first | (simp only [List.getElem?_toArray, List.getElem?_cons_zero, List.getElem?_cons_succ]; done) | (simp only [List.getElem?_toArray, List.getElem?_cons_zero, List.getElem?_cons_succ]; exact rfl))
    case q_6 => exact fun _ _ _ h => h
    case y_6 => (refine Or.inl ⟨rfl, ?_⟩; intro w hSw; (try dsimp only at hSw); go_simp; (try with_reducible rfl))
    (try simp only [Act.put, List.setIfInBounds_toArray, List.set_cons_zero, List.set_cons_succ])
    refine wpAnyH_done (by kernel_rfl) ?_ _
    obtain ⟨hs2, _⟩ := hHeld
    have HS2 := Lib.hid hs2
    clear hs2 HRK HRD
    go_wp2_with fail
    go_meet
    case rel => exact ⟨rfl, Lib.hid ⟨HS1.out.trans HS2.out, keep_cell HS2.out c0, keep_cell HS2.out c1⟩⟩
  case rest =>
    obtain ⟨rfl, H2⟩ := hcut
    clear c0 c1 HS1
    obtain ⟨S2, c0, c1⟩ := H2.out
    have HS2 := Lib.hid S2
    clear S2 H2
    go_wp2_with fail
    refine (goodR s a t _).mono ?_
    rintro e w3 ⟨rfl, hb3⟩
    replace c0 := keep_cell hb3 c0
    replace c1 := keep_cell hb3 c1
    have HS3 := Lib.hid (HS2.out.trans hb3)
    clear hb3 HS2
    cases hg : gd s a t
    · go_wp2_with fail
      refine (ans _).mono ?_
      rintro e w4 ⟨rfl, hb4⟩
      go_wp2
      go_ret
      exact ⟨rfl, HS3.out.trans hb4⟩
    · obtain ⟨g1, g2, g3, g4⟩ := gd_bd s a t hg
      go_upto_region 5 with fail
      have n2 := World.new_ne w3 _ c0
      have n3 := World.new_ne w3 _ c1
      have hl : w.heap.size < w3.heap.size := World.block_lt_of_cell? _ _ c0
      go_cut [7, 8] (fun s7 s8 wx => ∃ g h : Nat, s7 = .pointer (some ⟨g, 0, none⟩) ∧ s8 = .pointer (some ⟨h, 0, none⟩) ∧ Hid (Since w3 wx ∧ wx.cell? ⟨g, 0, none⟩ = some (.int .i64 (oS s)) ∧ wx.cell? ⟨g, 1, none⟩ = some (.int .i64 a) ∧ wx.cell? ⟨h, 0, none⟩ = some (.int .i64 (cS s)) ∧ wx.cell? ⟨h, 1, none⟩ = some (.int .i64 a)))
      case first =>
        go_region_held3 (fun W => W.cell? ⟨w.heap.size, 0, none⟩ = some (.int .i64 s) ∧ W.cell? ⟨w.heap.size, 1, none⟩ = some (.int .i64 a)) (exact ⟨keep_cell (W := w3) (by repeat (first | exact Since.refl _ | assumption | refine Since.setCell ?_ (by first | (simp; done) | (simp; omega)) _ | refine Since.drew ?_ | refine Since.drewN ?_ _ | refine Since.alloc ?_ _ | refine Since.trans ?_ (by assumption) | refine Since.trans ?_ (Hid.out (by assumption)))) c0, keep_cell (W := w3) (by repeat (first | exact Since.refl _ | assumption | refine Since.setCell ?_ (by first | (simp; done) | (simp; omega)) _ | refine Since.drew ?_ | refine Since.drewN ?_ _ | refine Since.alloc ?_ _ | refine Since.trans ?_ (by assumption) | refine Since.trans ?_ (Hid.out (by assumption)))) c1⟩) (first | (go_at_call 10; refine (openX s a _).mono ?_; rintro e w9 ⟨rfl, rfl⟩; unfold two) | (go_at_call 11; refine (closeX s a _).mono ?_; rintro e w9 ⟨rfl, rfl⟩; unfold two))
        all_goals
          go_wp2_with fail
          go_meet
          case rel => exact ⟨_, _, rfl, rfl, Lib.hid ⟨(by repeat (first | exact Since.refl _ | assumption | refine Since.setCell ?_ (by first | (simp; done) | (simp; omega)) _ | refine Since.drew ?_ | refine Since.drewN ?_ _ | refine Since.alloc ?_ _ | refine Since.trans ?_ (by assumption) | refine Since.trans ?_ (Hid.out (by assumption)))), by simp [go_sem], by simp [go_sem], by simp [go_sem], by simp [go_sem]⟩⟩
      case rest =>
        obtain ⟨g, h, rfl, rfl, H4⟩ := hcut
        obtain ⟨S4, p0, p1, q0, q1⟩ := H4.out
        replace c0 := keep_cell S4 c0; replace c1 := keep_cell S4 c1
        have HS4 := Lib.hid (HS3.out.trans S4)
        clear S4 H4 HS3 n2 n3 hl
        generalize wc = w4 at *
        have m0 := World.new_ne w4 _ c0; have m1 := World.new_ne w4 _ p0; have m2 := World.new_ne w4 _ q0
        have hl : w.heap.size < w4.heap.size := World.block_lt_of_cell? _ _ c0; have hg4 : g < w4.heap.size := World.block_lt_of_cell? _ _ p0; have hh4 : h < w4.heap.size := World.block_lt_of_cell? _ _ q0
        go_upto_region 6 with fail
        go_cut [9, 10] (fun s9 s10 wx => ∃ j k : Nat, s9 = .pointer (some ⟨j, 0, none⟩) ∧ s10 = .pointer (some ⟨k, 0, none⟩) ∧ Hid ((w4.heap.size ≤ j ∧ w4.heap.size ≤ k ∧ j ≠ k) ∧ Since w4 wx ∧ (wx.cell? ⟨j, 0, none⟩ = some (.int .i64 s) ∧ wx.cell? ⟨j, 1, none⟩ = some (.int .i64 a) ∧ wx.cell? ⟨k, 0, none⟩ = some (.int .i64 s) ∧ wx.cell? ⟨k, 1, none⟩ = some (.int .i64 a)) ∧ wx.frozen? ⟨j, 0, none⟩ = false ∧ wx.frozen? ⟨k, 0, none⟩ = false))
        case first =>
          go_region
          all_goals
            go_wp2_with fail
            go_meet
            case rel => exact ⟨_, _, rfl, rfl, Lib.hid ⟨by omega, (by repeat (first | exact Since.refl _ | assumption | refine Since.setCell ?_ (by first | (simp; done) | (simp; omega)) _ | refine Since.drew ?_ | refine Since.drewN ?_ _ | refine Since.alloc ?_ _ | refine Since.trans ?_ (by assumption) | refine Since.trans ?_ (Hid.out (by assumption)))), ⟨by simp [go_sem], by simp [go_sem], by simp [go_sem], by simp [go_sem]⟩, by simp [go_sem], by simp [go_sem]⟩⟩
        case rest =>
          obtain ⟨j, k, rfl, rfl, H5⟩ := hcut
          obtain ⟨⟨j1, k1, jk⟩, S5, ⟨u0, u1, v0, v1⟩, uf, vf⟩ := H5.out
          replace c0 := keep_cell S5 c0; replace c1 := keep_cell S5 c1; replace p0 := keep_cell S5 p0; replace p1 := keep_cell S5 p1; replace q0 := keep_cell S5 q0; replace q1 := keep_cell S5 q1
          have HS5 := Lib.hid (HS4.out.trans S5)
          clear S5 H5 HS4 m0 m1 m2
          generalize wc = w5 at *
          rcases (show s = 0 ∨ s = 1 ∨ s = 2 ∨ s = 3 by omega) with rfl | rfl | rfl | rfl
          · have o0 : oS 0 = 1 := by decide
            have k0 : cS 0 = 0 := by decide
            rw [o0] at p0; rw [k0] at q0
            clear o0 k0 g1 g2
            go_upto_region 11 with fail
            obtain ⟨w6, hw6⟩ : ∃ w6, w6 = w5.setCell ⟨j, 0, none⟩ (.int .i64 1) := ⟨_, rfl⟩
            rw [← hw6]
            have c0' : w6.cell? ⟨w.heap.size, 0, none⟩ = some (.int .i64 0) := by rw [hw6]; exact (set_far _ (by omega)).trans c0
            have c1' : w6.cell? ⟨w.heap.size, 1, none⟩ = some (.int .i64 a) := by rw [hw6]; exact (set_far _ (by omega)).trans c1
            have p0' : w6.cell? ⟨g, 0, none⟩ = some (.int .i64 1) := by rw [hw6]; exact (set_far _ (by omega)).trans p0
            have p1' : w6.cell? ⟨g, 1, none⟩ = some (.int .i64 a) := by rw [hw6]; exact (set_far _ (by omega)).trans p1
            have q0' : w6.cell? ⟨h, 0, none⟩ = some (.int .i64 0) := by rw [hw6]; exact (set_far _ (by omega)).trans q0
            have q1' : w6.cell? ⟨h, 1, none⟩ = some (.int .i64 a) := by rw [hw6]; exact (set_far _ (by omega)).trans q1
            have u0' : w6.cell? ⟨j, 0, none⟩ = some (.int .i64 1) := by rw [hw6]; exact set_same u0
            have u1' : w6.cell? ⟨j, 1, none⟩ = some (.int .i64 a) := by rw [hw6]; exact (set_ne _ (by omega)).trans u1
            have v0' : w6.cell? ⟨k, 0, none⟩ = some (.int .i64 0) := by rw [hw6]; exact (set_far _ (by omega)).trans v0
            have v1' : w6.cell? ⟨k, 1, none⟩ = some (.int .i64 a) := by rw [hw6]; exact (set_far _ (by omega)).trans v1
            have HS6 := Lib.hid (show Since w w6 by rw [hw6]; exact HS5.out.setCell (by simp; omega) _)
            clear hw6 HS5 c0 c1 p0 p1 q0 q1 u0 u1 v0 v1 uf vf
            have hrK : ∀ W W' : World, Since W W' → (Since w6 W ∧ W.cell? ⟨w.heap.size, 0, none⟩ = some (.int .i64 0) ∧ W.cell? ⟨w.heap.size, 1, none⟩ = some (.int .i64 a) ∧ W.cell? ⟨g, 0, none⟩ = some (.int .i64 1) ∧ W.cell? ⟨g, 1, none⟩ = some (.int .i64 a) ∧ W.cell? ⟨h, 0, none⟩ = some (.int .i64 0) ∧ W.cell? ⟨h, 1, none⟩ = some (.int .i64 a) ∧ W.cell? ⟨j, 0, none⟩ = some (.int .i64 1) ∧ W.cell? ⟨j, 1, none⟩ = some (.int .i64 a) ∧ W.cell? ⟨k, 0, none⟩ = some (.int .i64 0) ∧ W.cell? ⟨k, 1, none⟩ = some (.int .i64 a)) → (Since w6 W' ∧ W'.cell? ⟨w.heap.size, 0, none⟩ = some (.int .i64 0) ∧ W'.cell? ⟨w.heap.size, 1, none⟩ = some (.int .i64 a) ∧ W'.cell? ⟨g, 0, none⟩ = some (.int .i64 1) ∧ W'.cell? ⟨g, 1, none⟩ = some (.int .i64 a) ∧ W'.cell? ⟨h, 0, none⟩ = some (.int .i64 0) ∧ W'.cell? ⟨h, 1, none⟩ = some (.int .i64 a) ∧ W'.cell? ⟨j, 0, none⟩ = some (.int .i64 1) ∧ W'.cell? ⟨j, 1, none⟩ = some (.int .i64 a) ∧ W'.cell? ⟨k, 0, none⟩ = some (.int .i64 0) ∧ W'.cell? ⟨k, 1, none⟩ = some (.int .i64 a)) := fun W W' k ⟨h, h0, h1, h2, h3, h4, h5, h6, h7, h8, h9⟩ => ⟨h.trans k, keep_cell k h0, keep_cell k h1, keep_cell k h2, keep_cell k h3, keep_cell k h4, keep_cell k h5, keep_cell k h6, keep_cell k h7, keep_cell k h8, keep_cell k h9⟩
            have hrS : (fun W : World => Since w6 W ∧ W.cell? ⟨w.heap.size, 0, none⟩ = some (.int .i64 0) ∧ W.cell? ⟨w.heap.size, 1, none⟩ = some (.int .i64 a) ∧ W.cell? ⟨g, 0, none⟩ = some (.int .i64 1) ∧ W.cell? ⟨g, 1, none⟩ = some (.int .i64 a) ∧ W.cell? ⟨h, 0, none⟩ = some (.int .i64 0) ∧ W.cell? ⟨h, 1, none⟩ = some (.int .i64 a) ∧ W.cell? ⟨j, 0, none⟩ = some (.int .i64 1) ∧ W.cell? ⟨j, 1, none⟩ = some (.int .i64 a) ∧ W.cell? ⟨k, 0, none⟩ = some (.int .i64 0) ∧ W.cell? ⟨k, 1, none⟩ = some (.int .i64 a)) (w6) := ⟨Since.refl _, by first | assumption | (simp; done), by first | assumption | (simp; done), by first | assumption | (simp; done), by first | assumption | (simp; done), by first | assumption | (simp; done), by first | assumption | (simp; done), by first | assumption | (simp; done), by first | assumption | (simp; done), by first | assumption | (simp; done), by first | assumption | (simp; done)⟩
            have HRK := Lib.hid hrK
            have HRD := Lib.hid (show (fun W : World => Since w6 W ∧ W.cell? ⟨w.heap.size, 0, none⟩ = some (.int .i64 0) ∧ W.cell? ⟨w.heap.size, 1, none⟩ = some (.int .i64 a) ∧ W.cell? ⟨g, 0, none⟩ = some (.int .i64 1) ∧ W.cell? ⟨g, 1, none⟩ = some (.int .i64 a) ∧ W.cell? ⟨h, 0, none⟩ = some (.int .i64 0) ∧ W.cell? ⟨h, 1, none⟩ = some (.int .i64 a) ∧ W.cell? ⟨j, 0, none⟩ = some (.int .i64 1) ∧ W.cell? ⟨j, 1, none⟩ = some (.int .i64 a) ∧ W.cell? ⟨k, 0, none⟩ = some (.int .i64 0) ∧ W.cell? ⟨k, 1, none⟩ = some (.int .i64 a)) (World.drew (w6)) from ⟨(Since.refl _).drew, hrS.2⟩)
            clear hrK hrS
            refine wp_region_held_drew (S := fun W : World => Since w6 W ∧ W.cell? ⟨w.heap.size, 0, none⟩ = some (.int .i64 0) ∧ W.cell? ⟨w.heap.size, 1, none⟩ = some (.int .i64 a) ∧ W.cell? ⟨g, 0, none⟩ = some (.int .i64 1) ∧ W.cell? ⟨g, 1, none⟩ = some (.int .i64 a) ∧ W.cell? ⟨h, 0, none⟩ = some (.int .i64 0) ∧ W.cell? ⟨h, 1, none⟩ = some (.int .i64 a) ∧ W.cell? ⟨j, 0, none⟩ = some (.int .i64 1) ∧ W.cell? ⟨j, 1, none⟩ = some (.int .i64 a) ∧ W.cell? ⟨k, 0, none⟩ = some (.int .i64 0) ∧ W.cell? ⟨k, 1, none⟩ = some (.int .i64 a)) (by kernel_rfl) HRD.out (fun hHeld => ?_)
            refine wpAnyH_ready (rs := [0]) (by kernel_rfl) (by simp) ?_
            refine AllReadyH.cons (o := ?od0_0) ?hd0_0 (fun K hK => ?_) AllReadyH.nil
            case hd0_0 => (first | (simp only [List.getElem?_toArray, List.getElem?_cons_zero, List.getElem?_cons_succ]; done) | (simp only [List.getElem?_toArray, List.getElem?_cons_zero, List.getElem?_cons_succ]; exact rfl))
            (try go_simp)
            (go_at_call 9; refine (ans _).mono ?_; rintro e w9 ⟨rfl, hb9⟩)
            (try go_wp2_with fail)
            refine hK.out _ _ ?_ (fun hHeld2 => ?_)
            · first | exact HRD.out | exact hHeld | (apply HRK.out; assumption; assumption)
            clear hK K hHeld
            have hHeld := hHeld2
            clear hHeld2
            (try simp only [Act.put, List.setIfInBounds_toArray, List.set_cons_zero, List.set_cons_succ])
            refine wpAnyH_take (i := 1) (oi := ?od0_1) (v := ?vd0_1) ?hd0_1 (by kernel_rfl) (by kernel_rfl) (by kernel_rfl) ?qd0_1 ?yd0_1 (by assumption) ?_
            case hd0_1 => (first | (simp only [List.getElem?_toArray, List.getElem?_cons_zero, List.getElem?_cons_succ]; done) | (simp only [List.getElem?_toArray, List.getElem?_cons_zero, List.getElem?_cons_succ]; exact rfl))
            case qd0_1 => exact fun _ _ _ h => h
            case yd0_1 => (refine Or.inl ⟨rfl, ?_⟩; intro w hSw; (try dsimp only at hSw); go_simp; (try with_reducible rfl))
            (try simp only [Act.put, List.setIfInBounds_toArray, List.set_cons_zero, List.set_cons_succ])
            refine wpAnyH_take (i := 2) (oi := ?od0_2) (v := .agg #[.int .i64 0, .int .i64 a]) ?hd0_2 (by kernel_rfl) (by kernel_rfl) (by kernel_rfl) ?qd0_2 ?yd0_2 (by assumption) ?_
            case hd0_2 => (first | (simp only [List.getElem?_toArray, List.getElem?_cons_zero, List.getElem?_cons_succ]; done) | (simp only [List.getElem?_toArray, List.getElem?_cons_zero, List.getElem?_cons_succ]; exact rfl))
            case qd0_2 => exact fun _ _ _ h => h
            case yd0_2 => (refine Or.inl ⟨rfl, ?_⟩; intro w hSw; (try dsimp only at hSw); go_simp; (try with_reducible rfl))
            (try simp only [Act.put, List.setIfInBounds_toArray, List.set_cons_zero, List.set_cons_succ])
            refine wpAnyH_take (i := 3) (oi := ?od0_3) (v := ?vd0_3) ?hd0_3 (by kernel_rfl) (by kernel_rfl) (by kernel_rfl) ?qd0_3 ?yd0_3 (by assumption) ?_
            case hd0_3 => (first | (simp only [List.getElem?_toArray, List.getElem?_cons_zero, List.getElem?_cons_succ]; done) | (simp only [List.getElem?_toArray, List.getElem?_cons_zero, List.getElem?_cons_succ]; exact rfl))
            case qd0_3 => exact fun _ _ _ h => h
            case yd0_3 => (refine Or.inl ⟨rfl, ?_⟩; intro w hSw; (try dsimp only at hSw); go_simp; (try with_reducible rfl))
            (try simp only [Act.put, List.setIfInBounds_toArray, List.set_cons_zero, List.set_cons_succ])
            refine wpAnyH_take (i := 4) (oi := ?od0_4) (v := ?vd0_4) ?hd0_4 (by kernel_rfl) (by kernel_rfl) (by kernel_rfl) ?qd0_4 ?yd0_4 (by assumption) ?_
            case hd0_4 => (first | (simp only [List.getElem?_toArray, List.getElem?_cons_zero, List.getElem?_cons_succ]; done) | (simp only [List.getElem?_toArray, List.getElem?_cons_zero, List.getElem?_cons_succ]; exact rfl))
            case qd0_4 => exact fun _ _ _ h => h
            case yd0_4 => (refine Or.inl ⟨rfl, ?_⟩; intro w hSw; (try dsimp only at hSw); go_simp; (try with_reducible rfl))
            (try simp only [Act.put, List.setIfInBounds_toArray, List.set_cons_zero, List.set_cons_succ])
            refine wpAnyH_take (i := 6) (oi := ?od0_6) (v := .agg #[.int .i64 0, .int .i64 a]) ?hd0_6 (by kernel_rfl) (by kernel_rfl) (by kernel_rfl) ?qd0_6 ?yd0_6 (by assumption) ?_
            case hd0_6 => (first | (simp only [List.getElem?_toArray, List.getElem?_cons_zero, List.getElem?_cons_succ]; done) | (simp only [List.getElem?_toArray, List.getElem?_cons_zero, List.getElem?_cons_succ]; exact rfl))
            case qd0_6 => exact fun _ _ _ h => h
            case yd0_6 => (refine Or.inl ⟨rfl, ?_⟩; intro w hSw; (try dsimp only at hSw); go_simp; (try with_reducible rfl))
            (try simp only [Act.put, List.setIfInBounds_toArray, List.set_cons_zero, List.set_cons_succ])
            refine wpAnyH_take (i := 7) (oi := ?od0_7) (v := ?vd0_7) ?hd0_7 (by kernel_rfl) (by kernel_rfl) (by kernel_rfl) ?qd0_7 ?yd0_7 (by assumption) ?_
            case hd0_7 => (first | (simp only [List.getElem?_toArray, List.getElem?_cons_zero, List.getElem?_cons_succ]; done) | (simp only [List.getElem?_toArray, List.getElem?_cons_zero, List.getElem?_cons_succ]; exact rfl))
            case qd0_7 => exact fun _ _ _ h => h
            case yd0_7 => (refine Or.inl ⟨rfl, ?_⟩; intro w hSw; (try dsimp only at hSw); go_simp; (try with_reducible rfl))
            (try simp only [Act.put, List.setIfInBounds_toArray, List.set_cons_zero, List.set_cons_succ])
            refine wpAnyH_take (i := 8) (oi := ?od0_8) (v := ?vd0_8) ?hd0_8 (by kernel_rfl) (by kernel_rfl) (by kernel_rfl) ?qd0_8 ?yd0_8 (by assumption) ?_
            case hd0_8 => (first | (simp only [List.getElem?_toArray, List.getElem?_cons_zero, List.getElem?_cons_succ]; done) | (simp only [List.getElem?_toArray, List.getElem?_cons_zero, List.getElem?_cons_succ]; exact rfl))
            case qd0_8 => exact fun _ _ _ h => h
            case yd0_8 => (refine Or.inl ⟨rfl, ?_⟩; intro w hSw; (try dsimp only at hSw); go_simp; (try with_reducible rfl))
            (try simp only [Act.put, List.setIfInBounds_toArray, List.set_cons_zero, List.set_cons_succ])
            refine wpAnyH_ready (rs := [5]) (by kernel_rfl) (by simp) ?_
            refine AllReadyH.cons (o := ?od0_5) ?hd0_5 (fun K hK => ?_) AllReadyH.nil
            case hd0_5 => (first | (simp only [List.getElem?_toArray, List.getElem?_cons_zero, List.getElem?_cons_succ]; done) | (simp only [List.getElem?_toArray, List.getElem?_cons_zero, List.getElem?_cons_succ]; exact rfl))
            (try go_simp)
            (go_at_call 12; refine (tickD 0 a t b g3 g4 _).mono ?_; rintro e w9 ⟨rfl, hb9⟩)
            (try go_wp2_with fail)
            refine hK.out _ _ ?_ (fun hHeld2 => ?_)
            · first | exact HRD.out | exact hHeld | (apply HRK.out; assumption; assumption)
            clear hK K hHeld
            have hHeld := hHeld2
            clear hHeld2
            (try simp only [Act.put, List.setIfInBounds_toArray, List.set_cons_zero, List.set_cons_succ])
            refine wpAnyH_ready (rs := [9]) (by kernel_rfl) (by simp) ?_
            refine AllReadyH.cons (o := ?od0_9) ?hd0_9 (fun K hK => ?_) AllReadyH.nil
            case hd0_9 => (first | (simp only [List.getElem?_toArray, List.getElem?_cons_zero, List.getElem?_cons_succ]; done) | (simp only [List.getElem?_toArray, List.getElem?_cons_zero, List.getElem?_cons_succ]; exact rfl))
            (try go_simp)
            (go_at_call 13; refine (doorR 0 a t b g3 g4 _).mono ?_; rintro e w9 ⟨rfl, hb9⟩)
            (try go_wp2_with fail)
            refine hK.out _ _ ?_ (fun hHeld2 => ?_)
            · first | exact HRD.out | exact hHeld | (apply HRK.out; assumption; assumption)
            clear hK K hHeld
            have hHeld := hHeld2
            clear hHeld2
            (try simp only [Act.put, List.setIfInBounds_toArray, List.set_cons_zero, List.set_cons_succ])
            refine wpAnyH_take (i := 10) (oi := ?od0_10) (v := .bool true) ?hd0_10 (by kernel_rfl) (by kernel_rfl) (by kernel_rfl) ?qd0_10 ?yd0_10 (by assumption) ?_
            case hd0_10 => (first | (simp only [List.getElem?_toArray, List.getElem?_cons_zero, List.getElem?_cons_succ]; done) | (simp only [List.getElem?_toArray, List.getElem?_cons_zero, List.getElem?_cons_succ]; exact rfl))
            case qd0_10 => exact fun _ _ _ h => h
            case yd0_10 => (refine Or.inl ⟨rfl, ?_⟩; intro w hSw; (try dsimp only at hSw); go_simp; (try with_reducible rfl))
            (try simp only [Act.put, List.setIfInBounds_toArray, List.set_cons_zero, List.set_cons_succ])
            refine wpAnyH_take (i := 11) (oi := ?od0_11) (v := .bool true) ?hd0_11 (by kernel_rfl) (by kernel_rfl) (by kernel_rfl) ?qd0_11 ?yd0_11 (by assumption) ?_
            case hd0_11 => (first | (simp only [List.getElem?_toArray, List.getElem?_cons_zero, List.getElem?_cons_succ]; done) | (simp only [List.getElem?_toArray, List.getElem?_cons_zero, List.getElem?_cons_succ]; exact rfl))
            case qd0_11 => exact fun _ _ _ h => h
            case yd0_11 => (refine Or.inl ⟨rfl, ?_⟩; intro w hSw; (try dsimp only at hSw); go_simp; (try with_reducible rfl))
            (try simp only [Act.put, List.setIfInBounds_toArray, List.set_cons_zero, List.set_cons_succ])
            refine wpAnyH_take (i := 12) (oi := ?od0_12) (v := .bool true) ?hd0_12 (by kernel_rfl) (by kernel_rfl) (by kernel_rfl) ?qd0_12 ?yd0_12 (by assumption) ?_
            case hd0_12 => (first | (simp only [List.getElem?_toArray, List.getElem?_cons_zero, List.getElem?_cons_succ]; done) | (simp only [List.getElem?_toArray, List.getElem?_cons_zero, List.getElem?_cons_succ]; exact rfl))
            case qd0_12 => exact fun _ _ _ h => h
            case yd0_12 => (refine Or.inl ⟨rfl, ?_⟩; intro w hSw; (try dsimp only at hSw); go_simp; (try with_reducible rfl))
            (try simp only [Act.put, List.setIfInBounds_toArray, List.set_cons_zero, List.set_cons_succ])
            refine wpAnyH_take (i := 13) (oi := ?od0_13) (v := .agg #[.int .i64 1, .int .i64 a]) ?hd0_13 (by kernel_rfl) (by kernel_rfl) (by kernel_rfl) ?qd0_13 ?yd0_13 (by assumption) ?_
            case hd0_13 => (first | (simp only [List.getElem?_toArray, List.getElem?_cons_zero, List.getElem?_cons_succ]; done) | (simp only [List.getElem?_toArray, List.getElem?_cons_zero, List.getElem?_cons_succ]; exact rfl))
            case qd0_13 => exact fun _ _ _ h => h
            case yd0_13 => (refine Or.inl ⟨rfl, ?_⟩; intro w hSw; (try dsimp only at hSw); go_simp; (try with_reducible rfl))
            (try simp only [Act.put, List.setIfInBounds_toArray, List.set_cons_zero, List.set_cons_succ])
            refine wpAnyH_take (i := 14) (oi := ?od0_14) (v := .agg #[.int .i64 1, .int .i64 a]) ?hd0_14 (by kernel_rfl) (by kernel_rfl) (by kernel_rfl) ?qd0_14 ?yd0_14 (by assumption) ?_
            case hd0_14 => (first | (simp only [List.getElem?_toArray, List.getElem?_cons_zero, List.getElem?_cons_succ]; done) | (simp only [List.getElem?_toArray, List.getElem?_cons_zero, List.getElem?_cons_succ]; exact rfl))
            case qd0_14 => exact fun _ _ _ h => h
            case yd0_14 => (refine Or.inl ⟨rfl, ?_⟩; intro w hSw; (try dsimp only at hSw); go_simp; (try with_reducible rfl))
            (try simp only [Act.put, List.setIfInBounds_toArray, List.set_cons_zero, List.set_cons_succ])
            refine wpAnyH_take (i := 15) (oi := ?od0_15) (v := .bool true) ?hd0_15 (by kernel_rfl) (by kernel_rfl) (by kernel_rfl) ?qd0_15 ?yd0_15 (by assumption) ?_
            case hd0_15 => (first | (simp only [List.getElem?_toArray, List.getElem?_cons_zero, List.getElem?_cons_succ]; done) | (simp only [List.getElem?_toArray, List.getElem?_cons_zero, List.getElem?_cons_succ]; exact rfl))
            case qd0_15 => exact fun _ _ _ h => h
            case yd0_15 => (refine Or.inl ⟨rfl, ?_⟩; intro w hSw; (try dsimp only at hSw); go_simp; (try with_reducible rfl))
            (try simp only [Act.put, List.setIfInBounds_toArray, List.set_cons_zero, List.set_cons_succ])
            refine wpAnyH_take (i := 16) (oi := ?od0_16) (v := .bool true) ?hd0_16 (by kernel_rfl) (by kernel_rfl) (by kernel_rfl) ?qd0_16 ?yd0_16 (by assumption) ?_
            case hd0_16 => (first | (simp only [List.getElem?_toArray, List.getElem?_cons_zero, List.getElem?_cons_succ]; done) | (simp only [List.getElem?_toArray, List.getElem?_cons_zero, List.getElem?_cons_succ]; exact rfl))
            case qd0_16 => exact fun _ _ _ h => h
            case yd0_16 => (refine Or.inl ⟨rfl, ?_⟩; intro w hSw; (try dsimp only at hSw); go_simp; (try with_reducible rfl))
            (try simp only [Act.put, List.setIfInBounds_toArray, List.set_cons_zero, List.set_cons_succ])
            refine wpAnyH_take (i := 17) (oi := ?od0_17) (v := .bool true) ?hd0_17 (by kernel_rfl) (by kernel_rfl) (by kernel_rfl) ?qd0_17 ?yd0_17 (by assumption) ?_
            case hd0_17 => (first | (simp only [List.getElem?_toArray, List.getElem?_cons_zero, List.getElem?_cons_succ]; done) | (simp only [List.getElem?_toArray, List.getElem?_cons_zero, List.getElem?_cons_succ]; exact rfl))
            case qd0_17 => exact fun _ _ _ h => h
            case yd0_17 => (refine Or.inl ⟨rfl, ?_⟩; intro w hSw; (try dsimp only at hSw); go_simp; (try with_reducible rfl))
            (try simp only [Act.put, List.setIfInBounds_toArray, List.set_cons_zero, List.set_cons_succ])
            refine wpAnyH_take (i := 18) (oi := ?od0_18) (v := .agg #[.int .i64 0, .int .i64 a]) ?hd0_18 (by kernel_rfl) (by kernel_rfl) (by kernel_rfl) ?qd0_18 ?yd0_18 (by assumption) ?_
            case hd0_18 => (first | (simp only [List.getElem?_toArray, List.getElem?_cons_zero, List.getElem?_cons_succ]; done) | (simp only [List.getElem?_toArray, List.getElem?_cons_zero, List.getElem?_cons_succ]; exact rfl))
            case qd0_18 => exact fun _ _ _ h => h
            case yd0_18 => (refine Or.inl ⟨rfl, ?_⟩; intro w hSw; (try dsimp only at hSw); go_simp; (try with_reducible rfl))
            (try simp only [Act.put, List.setIfInBounds_toArray, List.set_cons_zero, List.set_cons_succ])
            refine wpAnyH_take (i := 19) (oi := ?od0_19) (v := .agg #[.int .i64 0, .int .i64 a]) ?hd0_19 (by kernel_rfl) (by kernel_rfl) (by kernel_rfl) ?qd0_19 ?yd0_19 (by assumption) ?_
            case hd0_19 => (first | (simp only [List.getElem?_toArray, List.getElem?_cons_zero, List.getElem?_cons_succ]; done) | (simp only [List.getElem?_toArray, List.getElem?_cons_zero, List.getElem?_cons_succ]; exact rfl))
            case qd0_19 => exact fun _ _ _ h => h
            case yd0_19 => (refine Or.inl ⟨rfl, ?_⟩; intro w hSw; (try dsimp only at hSw); go_simp; (try with_reducible rfl))
            (try simp only [Act.put, List.setIfInBounds_toArray, List.set_cons_zero, List.set_cons_succ])
            refine wpAnyH_take (i := 20) (oi := ?od0_20) (v := .bool true) ?hd0_20 (by kernel_rfl) (by kernel_rfl) (by kernel_rfl) ?qd0_20 ?yd0_20 (by assumption) ?_
            case hd0_20 => (first | (simp only [List.getElem?_toArray, List.getElem?_cons_zero, List.getElem?_cons_succ]; done) | (simp only [List.getElem?_toArray, List.getElem?_cons_zero, List.getElem?_cons_succ]; exact rfl))
            case qd0_20 => exact fun _ _ _ h => h
            case yd0_20 => (refine Or.inl ⟨rfl, ?_⟩; intro w hSw; (try dsimp only at hSw); go_simp; (try with_reducible rfl))
            (try simp only [Act.put, List.setIfInBounds_toArray, List.set_cons_zero, List.set_cons_succ])
            refine wpAnyH_take (i := 21) (oi := ?od0_21) (v := .bool true) ?hd0_21 (by kernel_rfl) (by kernel_rfl) (by kernel_rfl) ?qd0_21 ?yd0_21 (by assumption) ?_
            case hd0_21 => (first | (simp only [List.getElem?_toArray, List.getElem?_cons_zero, List.getElem?_cons_succ]; done) | (simp only [List.getElem?_toArray, List.getElem?_cons_zero, List.getElem?_cons_succ]; exact rfl))
            case qd0_21 => exact fun _ _ _ h => h
            case yd0_21 => (refine Or.inl ⟨rfl, ?_⟩; intro w hSw; (try dsimp only at hSw); go_simp; (try with_reducible rfl))
            (try simp only [Act.put, List.setIfInBounds_toArray, List.set_cons_zero, List.set_cons_succ])
            refine wpAnyH_take (i := 22) (oi := ?od0_22) (v := .bool true) ?hd0_22 (by kernel_rfl) (by kernel_rfl) (by kernel_rfl) ?qd0_22 ?yd0_22 (by assumption) ?_
            case hd0_22 => (first | (simp only [List.getElem?_toArray, List.getElem?_cons_zero, List.getElem?_cons_succ]; done) | (simp only [List.getElem?_toArray, List.getElem?_cons_zero, List.getElem?_cons_succ]; exact rfl))
            case qd0_22 => exact fun _ _ _ h => h
            case yd0_22 => (refine Or.inl ⟨rfl, ?_⟩; intro w hSw; (try dsimp only at hSw); go_simp; (try with_reducible rfl))
            (try simp only [Act.put, List.setIfInBounds_toArray, List.set_cons_zero, List.set_cons_succ])
            refine wpAnyH_done (by kernel_rfl) ?_ _
            obtain ⟨hs2, _⟩ := hHeld
            have HS2 := Lib.hid hs2
            clear hs2 HRK HRD
            go_wp2
            go_ret
            exact ⟨rfl, HS6.out.trans HS2.out⟩
          · have o0 : oS 1 = 1 := by decide
            have k0 : cS 1 = 3 := by decide
            rw [o0] at p0; rw [k0] at q0
            clear o0 k0 g1 g2
            go_upto_region 11 with fail
            obtain ⟨w6, hw6⟩ : ∃ w6, w6 = w5.setCell ⟨k, 0, none⟩ (.int .i64 3) := ⟨_, rfl⟩
            rw [← hw6]
            have c0' : w6.cell? ⟨w.heap.size, 0, none⟩ = some (.int .i64 1) := by rw [hw6]; exact (set_far _ (by omega)).trans c0
            have c1' : w6.cell? ⟨w.heap.size, 1, none⟩ = some (.int .i64 a) := by rw [hw6]; exact (set_far _ (by omega)).trans c1
            have p0' : w6.cell? ⟨g, 0, none⟩ = some (.int .i64 1) := by rw [hw6]; exact (set_far _ (by omega)).trans p0
            have p1' : w6.cell? ⟨g, 1, none⟩ = some (.int .i64 a) := by rw [hw6]; exact (set_far _ (by omega)).trans p1
            have q0' : w6.cell? ⟨h, 0, none⟩ = some (.int .i64 3) := by rw [hw6]; exact (set_far _ (by omega)).trans q0
            have q1' : w6.cell? ⟨h, 1, none⟩ = some (.int .i64 a) := by rw [hw6]; exact (set_far _ (by omega)).trans q1
            have u0' : w6.cell? ⟨j, 0, none⟩ = some (.int .i64 1) := by rw [hw6]; exact (set_far _ (by omega)).trans u0
            have u1' : w6.cell? ⟨j, 1, none⟩ = some (.int .i64 a) := by rw [hw6]; exact (set_far _ (by omega)).trans u1
            have v0' : w6.cell? ⟨k, 0, none⟩ = some (.int .i64 3) := by rw [hw6]; exact set_same v0
            have v1' : w6.cell? ⟨k, 1, none⟩ = some (.int .i64 a) := by rw [hw6]; exact (set_ne _ (by omega)).trans v1
            have HS6 := Lib.hid (show Since w w6 by rw [hw6]; exact HS5.out.setCell (by simp; omega) _)
            clear hw6 HS5 c0 c1 p0 p1 q0 q1 u0 u1 v0 v1 uf vf
            have hrK : ∀ W W' : World, Since W W' → (Since w6 W ∧ W.cell? ⟨w.heap.size, 0, none⟩ = some (.int .i64 1) ∧ W.cell? ⟨w.heap.size, 1, none⟩ = some (.int .i64 a) ∧ W.cell? ⟨g, 0, none⟩ = some (.int .i64 1) ∧ W.cell? ⟨g, 1, none⟩ = some (.int .i64 a) ∧ W.cell? ⟨h, 0, none⟩ = some (.int .i64 3) ∧ W.cell? ⟨h, 1, none⟩ = some (.int .i64 a) ∧ W.cell? ⟨j, 0, none⟩ = some (.int .i64 1) ∧ W.cell? ⟨j, 1, none⟩ = some (.int .i64 a) ∧ W.cell? ⟨k, 0, none⟩ = some (.int .i64 3) ∧ W.cell? ⟨k, 1, none⟩ = some (.int .i64 a)) → (Since w6 W' ∧ W'.cell? ⟨w.heap.size, 0, none⟩ = some (.int .i64 1) ∧ W'.cell? ⟨w.heap.size, 1, none⟩ = some (.int .i64 a) ∧ W'.cell? ⟨g, 0, none⟩ = some (.int .i64 1) ∧ W'.cell? ⟨g, 1, none⟩ = some (.int .i64 a) ∧ W'.cell? ⟨h, 0, none⟩ = some (.int .i64 3) ∧ W'.cell? ⟨h, 1, none⟩ = some (.int .i64 a) ∧ W'.cell? ⟨j, 0, none⟩ = some (.int .i64 1) ∧ W'.cell? ⟨j, 1, none⟩ = some (.int .i64 a) ∧ W'.cell? ⟨k, 0, none⟩ = some (.int .i64 3) ∧ W'.cell? ⟨k, 1, none⟩ = some (.int .i64 a)) := fun W W' k ⟨h, h0, h1, h2, h3, h4, h5, h6, h7, h8, h9⟩ => ⟨h.trans k, keep_cell k h0, keep_cell k h1, keep_cell k h2, keep_cell k h3, keep_cell k h4, keep_cell k h5, keep_cell k h6, keep_cell k h7, keep_cell k h8, keep_cell k h9⟩
            have hrS : (fun W : World => Since w6 W ∧ W.cell? ⟨w.heap.size, 0, none⟩ = some (.int .i64 1) ∧ W.cell? ⟨w.heap.size, 1, none⟩ = some (.int .i64 a) ∧ W.cell? ⟨g, 0, none⟩ = some (.int .i64 1) ∧ W.cell? ⟨g, 1, none⟩ = some (.int .i64 a) ∧ W.cell? ⟨h, 0, none⟩ = some (.int .i64 3) ∧ W.cell? ⟨h, 1, none⟩ = some (.int .i64 a) ∧ W.cell? ⟨j, 0, none⟩ = some (.int .i64 1) ∧ W.cell? ⟨j, 1, none⟩ = some (.int .i64 a) ∧ W.cell? ⟨k, 0, none⟩ = some (.int .i64 3) ∧ W.cell? ⟨k, 1, none⟩ = some (.int .i64 a)) (w6) := ⟨Since.refl _, by first | assumption | (simp; done), by first | assumption | (simp; done), by first | assumption | (simp; done), by first | assumption | (simp; done), by first | assumption | (simp; done), by first | assumption | (simp; done), by first | assumption | (simp; done), by first | assumption | (simp; done), by first | assumption | (simp; done), by first | assumption | (simp; done)⟩
            have HRK := Lib.hid hrK
            have HRD := Lib.hid (show (fun W : World => Since w6 W ∧ W.cell? ⟨w.heap.size, 0, none⟩ = some (.int .i64 1) ∧ W.cell? ⟨w.heap.size, 1, none⟩ = some (.int .i64 a) ∧ W.cell? ⟨g, 0, none⟩ = some (.int .i64 1) ∧ W.cell? ⟨g, 1, none⟩ = some (.int .i64 a) ∧ W.cell? ⟨h, 0, none⟩ = some (.int .i64 3) ∧ W.cell? ⟨h, 1, none⟩ = some (.int .i64 a) ∧ W.cell? ⟨j, 0, none⟩ = some (.int .i64 1) ∧ W.cell? ⟨j, 1, none⟩ = some (.int .i64 a) ∧ W.cell? ⟨k, 0, none⟩ = some (.int .i64 3) ∧ W.cell? ⟨k, 1, none⟩ = some (.int .i64 a)) (World.drew (w6)) from ⟨(Since.refl _).drew, hrS.2⟩)
            clear hrK hrS
            refine wp_region_held_drew (S := fun W : World => Since w6 W ∧ W.cell? ⟨w.heap.size, 0, none⟩ = some (.int .i64 1) ∧ W.cell? ⟨w.heap.size, 1, none⟩ = some (.int .i64 a) ∧ W.cell? ⟨g, 0, none⟩ = some (.int .i64 1) ∧ W.cell? ⟨g, 1, none⟩ = some (.int .i64 a) ∧ W.cell? ⟨h, 0, none⟩ = some (.int .i64 3) ∧ W.cell? ⟨h, 1, none⟩ = some (.int .i64 a) ∧ W.cell? ⟨j, 0, none⟩ = some (.int .i64 1) ∧ W.cell? ⟨j, 1, none⟩ = some (.int .i64 a) ∧ W.cell? ⟨k, 0, none⟩ = some (.int .i64 3) ∧ W.cell? ⟨k, 1, none⟩ = some (.int .i64 a)) (by kernel_rfl) HRD.out (fun hHeld => ?_)
            refine wpAnyH_ready (rs := [0]) (by kernel_rfl) (by simp) ?_
            refine AllReadyH.cons (o := ?od1_0) ?hd1_0 (fun K hK => ?_) AllReadyH.nil
            case hd1_0 => (first | (simp only [List.getElem?_toArray, List.getElem?_cons_zero, List.getElem?_cons_succ]; done) | (simp only [List.getElem?_toArray, List.getElem?_cons_zero, List.getElem?_cons_succ]; exact rfl))
            (try go_simp)
            (go_at_call 9; refine (ans _).mono ?_; rintro e w9 ⟨rfl, hb9⟩)
            (try go_wp2_with fail)
            refine hK.out _ _ ?_ (fun hHeld2 => ?_)
            · first | exact HRD.out | exact hHeld | (apply HRK.out; assumption; assumption)
            clear hK K hHeld
            have hHeld := hHeld2
            clear hHeld2
            (try simp only [Act.put, List.setIfInBounds_toArray, List.set_cons_zero, List.set_cons_succ])
            refine wpAnyH_take (i := 1) (oi := ?od1_1) (v := ?vd1_1) ?hd1_1 (by kernel_rfl) (by kernel_rfl) (by kernel_rfl) ?qd1_1 ?yd1_1 (by assumption) ?_
            case hd1_1 => (first | (simp only [List.getElem?_toArray, List.getElem?_cons_zero, List.getElem?_cons_succ]; done) | (simp only [List.getElem?_toArray, List.getElem?_cons_zero, List.getElem?_cons_succ]; exact rfl))
            case qd1_1 => exact fun _ _ _ h => h
            case yd1_1 => (refine Or.inl ⟨rfl, ?_⟩; intro w hSw; (try dsimp only at hSw); go_simp; (try with_reducible rfl))
            (try simp only [Act.put, List.setIfInBounds_toArray, List.set_cons_zero, List.set_cons_succ])
            refine wpAnyH_take (i := 2) (oi := ?od1_2) (v := .agg #[.int .i64 1, .int .i64 a]) ?hd1_2 (by kernel_rfl) (by kernel_rfl) (by kernel_rfl) ?qd1_2 ?yd1_2 (by assumption) ?_
            case hd1_2 => (first | (simp only [List.getElem?_toArray, List.getElem?_cons_zero, List.getElem?_cons_succ]; done) | (simp only [List.getElem?_toArray, List.getElem?_cons_zero, List.getElem?_cons_succ]; exact rfl))
            case qd1_2 => exact fun _ _ _ h => h
            case yd1_2 => (refine Or.inl ⟨rfl, ?_⟩; intro w hSw; (try dsimp only at hSw); go_simp; (try with_reducible rfl))
            (try simp only [Act.put, List.setIfInBounds_toArray, List.set_cons_zero, List.set_cons_succ])
            refine wpAnyH_take (i := 3) (oi := ?od1_3) (v := ?vd1_3) ?hd1_3 (by kernel_rfl) (by kernel_rfl) (by kernel_rfl) ?qd1_3 ?yd1_3 (by assumption) ?_
            case hd1_3 => (first | (simp only [List.getElem?_toArray, List.getElem?_cons_zero, List.getElem?_cons_succ]; done) | (simp only [List.getElem?_toArray, List.getElem?_cons_zero, List.getElem?_cons_succ]; exact rfl))
            case qd1_3 => exact fun _ _ _ h => h
            case yd1_3 => (refine Or.inl ⟨rfl, ?_⟩; intro w hSw; (try dsimp only at hSw); go_simp; (try with_reducible rfl))
            (try simp only [Act.put, List.setIfInBounds_toArray, List.set_cons_zero, List.set_cons_succ])
            refine wpAnyH_take (i := 4) (oi := ?od1_4) (v := ?vd1_4) ?hd1_4 (by kernel_rfl) (by kernel_rfl) (by kernel_rfl) ?qd1_4 ?yd1_4 (by assumption) ?_
            case hd1_4 => (first | (simp only [List.getElem?_toArray, List.getElem?_cons_zero, List.getElem?_cons_succ]; done) | (simp only [List.getElem?_toArray, List.getElem?_cons_zero, List.getElem?_cons_succ]; exact rfl))
            case qd1_4 => exact fun _ _ _ h => h
            case yd1_4 => (refine Or.inl ⟨rfl, ?_⟩; intro w hSw; (try dsimp only at hSw); go_simp; (try with_reducible rfl))
            (try simp only [Act.put, List.setIfInBounds_toArray, List.set_cons_zero, List.set_cons_succ])
            refine wpAnyH_take (i := 6) (oi := ?od1_6) (v := .agg #[.int .i64 1, .int .i64 a]) ?hd1_6 (by kernel_rfl) (by kernel_rfl) (by kernel_rfl) ?qd1_6 ?yd1_6 (by assumption) ?_
            case hd1_6 => (first | (simp only [List.getElem?_toArray, List.getElem?_cons_zero, List.getElem?_cons_succ]; done) | (simp only [List.getElem?_toArray, List.getElem?_cons_zero, List.getElem?_cons_succ]; exact rfl))
            case qd1_6 => exact fun _ _ _ h => h
            case yd1_6 => (refine Or.inl ⟨rfl, ?_⟩; intro w hSw; (try dsimp only at hSw); go_simp; (try with_reducible rfl))
            (try simp only [Act.put, List.setIfInBounds_toArray, List.set_cons_zero, List.set_cons_succ])
            refine wpAnyH_take (i := 7) (oi := ?od1_7) (v := ?vd1_7) ?hd1_7 (by kernel_rfl) (by kernel_rfl) (by kernel_rfl) ?qd1_7 ?yd1_7 (by assumption) ?_
            case hd1_7 => (first | (simp only [List.getElem?_toArray, List.getElem?_cons_zero, List.getElem?_cons_succ]; done) | (simp only [List.getElem?_toArray, List.getElem?_cons_zero, List.getElem?_cons_succ]; exact rfl))
            case qd1_7 => exact fun _ _ _ h => h
            case yd1_7 => (refine Or.inl ⟨rfl, ?_⟩; intro w hSw; (try dsimp only at hSw); go_simp; (try with_reducible rfl))
            (try simp only [Act.put, List.setIfInBounds_toArray, List.set_cons_zero, List.set_cons_succ])
            refine wpAnyH_take (i := 8) (oi := ?od1_8) (v := ?vd1_8) ?hd1_8 (by kernel_rfl) (by kernel_rfl) (by kernel_rfl) ?qd1_8 ?yd1_8 (by assumption) ?_
            case hd1_8 => (first | (simp only [List.getElem?_toArray, List.getElem?_cons_zero, List.getElem?_cons_succ]; done) | (simp only [List.getElem?_toArray, List.getElem?_cons_zero, List.getElem?_cons_succ]; exact rfl))
            case qd1_8 => exact fun _ _ _ h => h
            case yd1_8 => (refine Or.inl ⟨rfl, ?_⟩; intro w hSw; (try dsimp only at hSw); go_simp; (try with_reducible rfl))
            (try simp only [Act.put, List.setIfInBounds_toArray, List.set_cons_zero, List.set_cons_succ])
            refine wpAnyH_ready (rs := [5]) (by kernel_rfl) (by simp) ?_
            refine AllReadyH.cons (o := ?od1_5) ?hd1_5 (fun K hK => ?_) AllReadyH.nil
            case hd1_5 => (first | (simp only [List.getElem?_toArray, List.getElem?_cons_zero, List.getElem?_cons_succ]; done) | (simp only [List.getElem?_toArray, List.getElem?_cons_zero, List.getElem?_cons_succ]; exact rfl))
            (try go_simp)
            (go_at_call 12; refine (tickD 1 a t b g3 g4 _).mono ?_; rintro e w9 ⟨rfl, hb9⟩)
            (try go_wp2_with fail)
            refine hK.out _ _ ?_ (fun hHeld2 => ?_)
            · first | exact HRD.out | exact hHeld | (apply HRK.out; assumption; assumption)
            clear hK K hHeld
            have hHeld := hHeld2
            clear hHeld2
            (try simp only [Act.put, List.setIfInBounds_toArray, List.set_cons_zero, List.set_cons_succ])
            refine wpAnyH_ready (rs := [9]) (by kernel_rfl) (by simp) ?_
            refine AllReadyH.cons (o := ?od1_9) ?hd1_9 (fun K hK => ?_) AllReadyH.nil
            case hd1_9 => (first | (simp only [List.getElem?_toArray, List.getElem?_cons_zero, List.getElem?_cons_succ]; done) | (simp only [List.getElem?_toArray, List.getElem?_cons_zero, List.getElem?_cons_succ]; exact rfl))
            (try go_simp)
            (go_at_call 13; refine (doorR 1 a t b g3 g4 _).mono ?_; rintro e w9 ⟨rfl, hb9⟩)
            (try go_wp2_with fail)
            refine hK.out _ _ ?_ (fun hHeld2 => ?_)
            · first | exact HRD.out | exact hHeld | (apply HRK.out; assumption; assumption)
            clear hK K hHeld
            have hHeld := hHeld2
            clear hHeld2
            (try simp only [Act.put, List.setIfInBounds_toArray, List.set_cons_zero, List.set_cons_succ])
            refine wpAnyH_take (i := 10) (oi := ?od1_10) (v := .bool true) ?hd1_10 (by kernel_rfl) (by kernel_rfl) (by kernel_rfl) ?qd1_10 ?yd1_10 (by assumption) ?_
            case hd1_10 => (first | (simp only [List.getElem?_toArray, List.getElem?_cons_zero, List.getElem?_cons_succ]; done) | (simp only [List.getElem?_toArray, List.getElem?_cons_zero, List.getElem?_cons_succ]; exact rfl))
            case qd1_10 => exact fun _ _ _ h => h
            case yd1_10 => (refine Or.inl ⟨rfl, ?_⟩; intro w hSw; (try dsimp only at hSw); go_simp; (try with_reducible rfl))
            (try simp only [Act.put, List.setIfInBounds_toArray, List.set_cons_zero, List.set_cons_succ])
            refine wpAnyH_take (i := 11) (oi := ?od1_11) (v := .bool true) ?hd1_11 (by kernel_rfl) (by kernel_rfl) (by kernel_rfl) ?qd1_11 ?yd1_11 (by assumption) ?_
            case hd1_11 => (first | (simp only [List.getElem?_toArray, List.getElem?_cons_zero, List.getElem?_cons_succ]; done) | (simp only [List.getElem?_toArray, List.getElem?_cons_zero, List.getElem?_cons_succ]; exact rfl))
            case qd1_11 => exact fun _ _ _ h => h
            case yd1_11 => (refine Or.inl ⟨rfl, ?_⟩; intro w hSw; (try dsimp only at hSw); go_simp; (try with_reducible rfl))
            (try simp only [Act.put, List.setIfInBounds_toArray, List.set_cons_zero, List.set_cons_succ])
            refine wpAnyH_take (i := 12) (oi := ?od1_12) (v := .bool true) ?hd1_12 (by kernel_rfl) (by kernel_rfl) (by kernel_rfl) ?qd1_12 ?yd1_12 (by assumption) ?_
            case hd1_12 => (first | (simp only [List.getElem?_toArray, List.getElem?_cons_zero, List.getElem?_cons_succ]; done) | (simp only [List.getElem?_toArray, List.getElem?_cons_zero, List.getElem?_cons_succ]; exact rfl))
            case qd1_12 => exact fun _ _ _ h => h
            case yd1_12 => (refine Or.inl ⟨rfl, ?_⟩; intro w hSw; (try dsimp only at hSw); go_simp; (try with_reducible rfl))
            (try simp only [Act.put, List.setIfInBounds_toArray, List.set_cons_zero, List.set_cons_succ])
            refine wpAnyH_take (i := 13) (oi := ?od1_13) (v := .agg #[.int .i64 1, .int .i64 a]) ?hd1_13 (by kernel_rfl) (by kernel_rfl) (by kernel_rfl) ?qd1_13 ?yd1_13 (by assumption) ?_
            case hd1_13 => (first | (simp only [List.getElem?_toArray, List.getElem?_cons_zero, List.getElem?_cons_succ]; done) | (simp only [List.getElem?_toArray, List.getElem?_cons_zero, List.getElem?_cons_succ]; exact rfl))
            case qd1_13 => exact fun _ _ _ h => h
            case yd1_13 => (refine Or.inl ⟨rfl, ?_⟩; intro w hSw; (try dsimp only at hSw); go_simp; (try with_reducible rfl))
            (try simp only [Act.put, List.setIfInBounds_toArray, List.set_cons_zero, List.set_cons_succ])
            refine wpAnyH_take (i := 14) (oi := ?od1_14) (v := .agg #[.int .i64 1, .int .i64 a]) ?hd1_14 (by kernel_rfl) (by kernel_rfl) (by kernel_rfl) ?qd1_14 ?yd1_14 (by assumption) ?_
            case hd1_14 => (first | (simp only [List.getElem?_toArray, List.getElem?_cons_zero, List.getElem?_cons_succ]; done) | (simp only [List.getElem?_toArray, List.getElem?_cons_zero, List.getElem?_cons_succ]; exact rfl))
            case qd1_14 => exact fun _ _ _ h => h
            case yd1_14 => (refine Or.inl ⟨rfl, ?_⟩; intro w hSw; (try dsimp only at hSw); go_simp; (try with_reducible rfl))
            (try simp only [Act.put, List.setIfInBounds_toArray, List.set_cons_zero, List.set_cons_succ])
            refine wpAnyH_take (i := 15) (oi := ?od1_15) (v := .bool true) ?hd1_15 (by kernel_rfl) (by kernel_rfl) (by kernel_rfl) ?qd1_15 ?yd1_15 (by assumption) ?_
            case hd1_15 => (first | (simp only [List.getElem?_toArray, List.getElem?_cons_zero, List.getElem?_cons_succ]; done) | (simp only [List.getElem?_toArray, List.getElem?_cons_zero, List.getElem?_cons_succ]; exact rfl))
            case qd1_15 => exact fun _ _ _ h => h
            case yd1_15 => (refine Or.inl ⟨rfl, ?_⟩; intro w hSw; (try dsimp only at hSw); go_simp; (try with_reducible rfl))
            (try simp only [Act.put, List.setIfInBounds_toArray, List.set_cons_zero, List.set_cons_succ])
            refine wpAnyH_take (i := 16) (oi := ?od1_16) (v := .bool true) ?hd1_16 (by kernel_rfl) (by kernel_rfl) (by kernel_rfl) ?qd1_16 ?yd1_16 (by assumption) ?_
            case hd1_16 => (first | (simp only [List.getElem?_toArray, List.getElem?_cons_zero, List.getElem?_cons_succ]; done) | (simp only [List.getElem?_toArray, List.getElem?_cons_zero, List.getElem?_cons_succ]; exact rfl))
            case qd1_16 => exact fun _ _ _ h => h
            case yd1_16 => (refine Or.inl ⟨rfl, ?_⟩; intro w hSw; (try dsimp only at hSw); go_simp; (try with_reducible rfl))
            (try simp only [Act.put, List.setIfInBounds_toArray, List.set_cons_zero, List.set_cons_succ])
            refine wpAnyH_take (i := 17) (oi := ?od1_17) (v := .bool true) ?hd1_17 (by kernel_rfl) (by kernel_rfl) (by kernel_rfl) ?qd1_17 ?yd1_17 (by assumption) ?_
            case hd1_17 => (first | (simp only [List.getElem?_toArray, List.getElem?_cons_zero, List.getElem?_cons_succ]; done) | (simp only [List.getElem?_toArray, List.getElem?_cons_zero, List.getElem?_cons_succ]; exact rfl))
            case qd1_17 => exact fun _ _ _ h => h
            case yd1_17 => (refine Or.inl ⟨rfl, ?_⟩; intro w hSw; (try dsimp only at hSw); go_simp; (try with_reducible rfl))
            (try simp only [Act.put, List.setIfInBounds_toArray, List.set_cons_zero, List.set_cons_succ])
            refine wpAnyH_take (i := 18) (oi := ?od1_18) (v := .agg #[.int .i64 3, .int .i64 a]) ?hd1_18 (by kernel_rfl) (by kernel_rfl) (by kernel_rfl) ?qd1_18 ?yd1_18 (by assumption) ?_
            case hd1_18 => (first | (simp only [List.getElem?_toArray, List.getElem?_cons_zero, List.getElem?_cons_succ]; done) | (simp only [List.getElem?_toArray, List.getElem?_cons_zero, List.getElem?_cons_succ]; exact rfl))
            case qd1_18 => exact fun _ _ _ h => h
            case yd1_18 => (refine Or.inl ⟨rfl, ?_⟩; intro w hSw; (try dsimp only at hSw); go_simp; (try with_reducible rfl))
            (try simp only [Act.put, List.setIfInBounds_toArray, List.set_cons_zero, List.set_cons_succ])
            refine wpAnyH_take (i := 19) (oi := ?od1_19) (v := .agg #[.int .i64 3, .int .i64 a]) ?hd1_19 (by kernel_rfl) (by kernel_rfl) (by kernel_rfl) ?qd1_19 ?yd1_19 (by assumption) ?_
            case hd1_19 => (first | (simp only [List.getElem?_toArray, List.getElem?_cons_zero, List.getElem?_cons_succ]; done) | (simp only [List.getElem?_toArray, List.getElem?_cons_zero, List.getElem?_cons_succ]; exact rfl))
            case qd1_19 => exact fun _ _ _ h => h
            case yd1_19 => (refine Or.inl ⟨rfl, ?_⟩; intro w hSw; (try dsimp only at hSw); go_simp; (try with_reducible rfl))
            (try simp only [Act.put, List.setIfInBounds_toArray, List.set_cons_zero, List.set_cons_succ])
            refine wpAnyH_take (i := 20) (oi := ?od1_20) (v := .bool true) ?hd1_20 (by kernel_rfl) (by kernel_rfl) (by kernel_rfl) ?qd1_20 ?yd1_20 (by assumption) ?_
            case hd1_20 => (first | (simp only [List.getElem?_toArray, List.getElem?_cons_zero, List.getElem?_cons_succ]; done) | (simp only [List.getElem?_toArray, List.getElem?_cons_zero, List.getElem?_cons_succ]; exact rfl))
            case qd1_20 => exact fun _ _ _ h => h
            case yd1_20 => (refine Or.inl ⟨rfl, ?_⟩; intro w hSw; (try dsimp only at hSw); go_simp; (try with_reducible rfl))
            (try simp only [Act.put, List.setIfInBounds_toArray, List.set_cons_zero, List.set_cons_succ])
            refine wpAnyH_take (i := 21) (oi := ?od1_21) (v := .bool true) ?hd1_21 (by kernel_rfl) (by kernel_rfl) (by kernel_rfl) ?qd1_21 ?yd1_21 (by assumption) ?_
            case hd1_21 => (first | (simp only [List.getElem?_toArray, List.getElem?_cons_zero, List.getElem?_cons_succ]; done) | (simp only [List.getElem?_toArray, List.getElem?_cons_zero, List.getElem?_cons_succ]; exact rfl))
            case qd1_21 => exact fun _ _ _ h => h
            case yd1_21 => (refine Or.inl ⟨rfl, ?_⟩; intro w hSw; (try dsimp only at hSw); go_simp; (try with_reducible rfl))
            (try simp only [Act.put, List.setIfInBounds_toArray, List.set_cons_zero, List.set_cons_succ])
            refine wpAnyH_take (i := 22) (oi := ?od1_22) (v := .bool true) ?hd1_22 (by kernel_rfl) (by kernel_rfl) (by kernel_rfl) ?qd1_22 ?yd1_22 (by assumption) ?_
            case hd1_22 => (first | (simp only [List.getElem?_toArray, List.getElem?_cons_zero, List.getElem?_cons_succ]; done) | (simp only [List.getElem?_toArray, List.getElem?_cons_zero, List.getElem?_cons_succ]; exact rfl))
            case qd1_22 => exact fun _ _ _ h => h
            case yd1_22 => (refine Or.inl ⟨rfl, ?_⟩; intro w hSw; (try dsimp only at hSw); go_simp; (try with_reducible rfl))
            (try simp only [Act.put, List.setIfInBounds_toArray, List.set_cons_zero, List.set_cons_succ])
            refine wpAnyH_done (by kernel_rfl) ?_ _
            obtain ⟨hs2, _⟩ := hHeld
            have HS2 := Lib.hid hs2
            clear hs2 HRK HRD
            go_wp2
            go_ret
            exact ⟨rfl, HS6.out.trans HS2.out⟩
          · have o0 : oS 2 = 2 := by decide
            have k0 : cS 2 = 3 := by decide
            rw [o0] at p0; rw [k0] at q0
            clear o0 k0 g1 g2
            go_upto_region 11 with fail
            obtain ⟨w6, hw6⟩ : ∃ w6, w6 = w5.setCell ⟨k, 0, none⟩ (.int .i64 3) := ⟨_, rfl⟩
            rw [← hw6]
            have c0' : w6.cell? ⟨w.heap.size, 0, none⟩ = some (.int .i64 2) := by rw [hw6]; exact (set_far _ (by omega)).trans c0
            have c1' : w6.cell? ⟨w.heap.size, 1, none⟩ = some (.int .i64 a) := by rw [hw6]; exact (set_far _ (by omega)).trans c1
            have p0' : w6.cell? ⟨g, 0, none⟩ = some (.int .i64 2) := by rw [hw6]; exact (set_far _ (by omega)).trans p0
            have p1' : w6.cell? ⟨g, 1, none⟩ = some (.int .i64 a) := by rw [hw6]; exact (set_far _ (by omega)).trans p1
            have q0' : w6.cell? ⟨h, 0, none⟩ = some (.int .i64 3) := by rw [hw6]; exact (set_far _ (by omega)).trans q0
            have q1' : w6.cell? ⟨h, 1, none⟩ = some (.int .i64 a) := by rw [hw6]; exact (set_far _ (by omega)).trans q1
            have u0' : w6.cell? ⟨j, 0, none⟩ = some (.int .i64 2) := by rw [hw6]; exact (set_far _ (by omega)).trans u0
            have u1' : w6.cell? ⟨j, 1, none⟩ = some (.int .i64 a) := by rw [hw6]; exact (set_far _ (by omega)).trans u1
            have v0' : w6.cell? ⟨k, 0, none⟩ = some (.int .i64 3) := by rw [hw6]; exact set_same v0
            have v1' : w6.cell? ⟨k, 1, none⟩ = some (.int .i64 a) := by rw [hw6]; exact (set_ne _ (by omega)).trans v1
            have HS6 := Lib.hid (show Since w w6 by rw [hw6]; exact HS5.out.setCell (by simp; omega) _)
            clear hw6 HS5 c0 c1 p0 p1 q0 q1 u0 u1 v0 v1 uf vf
            have hrK : ∀ W W' : World, Since W W' → (Since w6 W ∧ W.cell? ⟨w.heap.size, 0, none⟩ = some (.int .i64 2) ∧ W.cell? ⟨w.heap.size, 1, none⟩ = some (.int .i64 a) ∧ W.cell? ⟨g, 0, none⟩ = some (.int .i64 2) ∧ W.cell? ⟨g, 1, none⟩ = some (.int .i64 a) ∧ W.cell? ⟨h, 0, none⟩ = some (.int .i64 3) ∧ W.cell? ⟨h, 1, none⟩ = some (.int .i64 a) ∧ W.cell? ⟨j, 0, none⟩ = some (.int .i64 2) ∧ W.cell? ⟨j, 1, none⟩ = some (.int .i64 a) ∧ W.cell? ⟨k, 0, none⟩ = some (.int .i64 3) ∧ W.cell? ⟨k, 1, none⟩ = some (.int .i64 a)) → (Since w6 W' ∧ W'.cell? ⟨w.heap.size, 0, none⟩ = some (.int .i64 2) ∧ W'.cell? ⟨w.heap.size, 1, none⟩ = some (.int .i64 a) ∧ W'.cell? ⟨g, 0, none⟩ = some (.int .i64 2) ∧ W'.cell? ⟨g, 1, none⟩ = some (.int .i64 a) ∧ W'.cell? ⟨h, 0, none⟩ = some (.int .i64 3) ∧ W'.cell? ⟨h, 1, none⟩ = some (.int .i64 a) ∧ W'.cell? ⟨j, 0, none⟩ = some (.int .i64 2) ∧ W'.cell? ⟨j, 1, none⟩ = some (.int .i64 a) ∧ W'.cell? ⟨k, 0, none⟩ = some (.int .i64 3) ∧ W'.cell? ⟨k, 1, none⟩ = some (.int .i64 a)) := fun W W' k ⟨h, h0, h1, h2, h3, h4, h5, h6, h7, h8, h9⟩ => ⟨h.trans k, keep_cell k h0, keep_cell k h1, keep_cell k h2, keep_cell k h3, keep_cell k h4, keep_cell k h5, keep_cell k h6, keep_cell k h7, keep_cell k h8, keep_cell k h9⟩
            have hrS : (fun W : World => Since w6 W ∧ W.cell? ⟨w.heap.size, 0, none⟩ = some (.int .i64 2) ∧ W.cell? ⟨w.heap.size, 1, none⟩ = some (.int .i64 a) ∧ W.cell? ⟨g, 0, none⟩ = some (.int .i64 2) ∧ W.cell? ⟨g, 1, none⟩ = some (.int .i64 a) ∧ W.cell? ⟨h, 0, none⟩ = some (.int .i64 3) ∧ W.cell? ⟨h, 1, none⟩ = some (.int .i64 a) ∧ W.cell? ⟨j, 0, none⟩ = some (.int .i64 2) ∧ W.cell? ⟨j, 1, none⟩ = some (.int .i64 a) ∧ W.cell? ⟨k, 0, none⟩ = some (.int .i64 3) ∧ W.cell? ⟨k, 1, none⟩ = some (.int .i64 a)) (w6) := ⟨Since.refl _, by first | assumption | (simp; done), by first | assumption | (simp; done), by first | assumption | (simp; done), by first | assumption | (simp; done), by first | assumption | (simp; done), by first | assumption | (simp; done), by first | assumption | (simp; done), by first | assumption | (simp; done), by first | assumption | (simp; done), by first | assumption | (simp; done)⟩
            have HRK := Lib.hid hrK
            have HRD := Lib.hid (show (fun W : World => Since w6 W ∧ W.cell? ⟨w.heap.size, 0, none⟩ = some (.int .i64 2) ∧ W.cell? ⟨w.heap.size, 1, none⟩ = some (.int .i64 a) ∧ W.cell? ⟨g, 0, none⟩ = some (.int .i64 2) ∧ W.cell? ⟨g, 1, none⟩ = some (.int .i64 a) ∧ W.cell? ⟨h, 0, none⟩ = some (.int .i64 3) ∧ W.cell? ⟨h, 1, none⟩ = some (.int .i64 a) ∧ W.cell? ⟨j, 0, none⟩ = some (.int .i64 2) ∧ W.cell? ⟨j, 1, none⟩ = some (.int .i64 a) ∧ W.cell? ⟨k, 0, none⟩ = some (.int .i64 3) ∧ W.cell? ⟨k, 1, none⟩ = some (.int .i64 a)) (World.drew (w6)) from ⟨(Since.refl _).drew, hrS.2⟩)
            clear hrK hrS
            refine wp_region_held_drew (S := fun W : World => Since w6 W ∧ W.cell? ⟨w.heap.size, 0, none⟩ = some (.int .i64 2) ∧ W.cell? ⟨w.heap.size, 1, none⟩ = some (.int .i64 a) ∧ W.cell? ⟨g, 0, none⟩ = some (.int .i64 2) ∧ W.cell? ⟨g, 1, none⟩ = some (.int .i64 a) ∧ W.cell? ⟨h, 0, none⟩ = some (.int .i64 3) ∧ W.cell? ⟨h, 1, none⟩ = some (.int .i64 a) ∧ W.cell? ⟨j, 0, none⟩ = some (.int .i64 2) ∧ W.cell? ⟨j, 1, none⟩ = some (.int .i64 a) ∧ W.cell? ⟨k, 0, none⟩ = some (.int .i64 3) ∧ W.cell? ⟨k, 1, none⟩ = some (.int .i64 a)) (by kernel_rfl) HRD.out (fun hHeld => ?_)
            refine wpAnyH_ready (rs := [0]) (by kernel_rfl) (by simp) ?_
            refine AllReadyH.cons (o := ?od2_0) ?hd2_0 (fun K hK => ?_) AllReadyH.nil
            case hd2_0 => (first | (simp only [List.getElem?_toArray, List.getElem?_cons_zero, List.getElem?_cons_succ]; done) | (simp only [List.getElem?_toArray, List.getElem?_cons_zero, List.getElem?_cons_succ]; exact rfl))
            (try go_simp)
            (go_at_call 9; refine (ans _).mono ?_; rintro e w9 ⟨rfl, hb9⟩)
            (try go_wp2_with fail)
            refine hK.out _ _ ?_ (fun hHeld2 => ?_)
            · first | exact HRD.out | exact hHeld | (apply HRK.out; assumption; assumption)
            clear hK K hHeld
            have hHeld := hHeld2
            clear hHeld2
            (try simp only [Act.put, List.setIfInBounds_toArray, List.set_cons_zero, List.set_cons_succ])
            refine wpAnyH_take (i := 1) (oi := ?od2_1) (v := ?vd2_1) ?hd2_1 (by kernel_rfl) (by kernel_rfl) (by kernel_rfl) ?qd2_1 ?yd2_1 (by assumption) ?_
            case hd2_1 => (first | (simp only [List.getElem?_toArray, List.getElem?_cons_zero, List.getElem?_cons_succ]; done) | (simp only [List.getElem?_toArray, List.getElem?_cons_zero, List.getElem?_cons_succ]; exact rfl))
            case qd2_1 => exact fun _ _ _ h => h
            case yd2_1 => (refine Or.inl ⟨rfl, ?_⟩; intro w hSw; (try dsimp only at hSw); go_simp; (try with_reducible rfl))
            (try simp only [Act.put, List.setIfInBounds_toArray, List.set_cons_zero, List.set_cons_succ])
            refine wpAnyH_take (i := 2) (oi := ?od2_2) (v := .agg #[.int .i64 2, .int .i64 a]) ?hd2_2 (by kernel_rfl) (by kernel_rfl) (by kernel_rfl) ?qd2_2 ?yd2_2 (by assumption) ?_
            case hd2_2 => (first | (simp only [List.getElem?_toArray, List.getElem?_cons_zero, List.getElem?_cons_succ]; done) | (simp only [List.getElem?_toArray, List.getElem?_cons_zero, List.getElem?_cons_succ]; exact rfl))
            case qd2_2 => exact fun _ _ _ h => h
            case yd2_2 => (refine Or.inl ⟨rfl, ?_⟩; intro w hSw; (try dsimp only at hSw); go_simp; (try with_reducible rfl))
            (try simp only [Act.put, List.setIfInBounds_toArray, List.set_cons_zero, List.set_cons_succ])
            refine wpAnyH_take (i := 3) (oi := ?od2_3) (v := ?vd2_3) ?hd2_3 (by kernel_rfl) (by kernel_rfl) (by kernel_rfl) ?qd2_3 ?yd2_3 (by assumption) ?_
            case hd2_3 => (first | (simp only [List.getElem?_toArray, List.getElem?_cons_zero, List.getElem?_cons_succ]; done) | (simp only [List.getElem?_toArray, List.getElem?_cons_zero, List.getElem?_cons_succ]; exact rfl))
            case qd2_3 => exact fun _ _ _ h => h
            case yd2_3 => (refine Or.inl ⟨rfl, ?_⟩; intro w hSw; (try dsimp only at hSw); go_simp; (try with_reducible rfl))
            (try simp only [Act.put, List.setIfInBounds_toArray, List.set_cons_zero, List.set_cons_succ])
            refine wpAnyH_take (i := 4) (oi := ?od2_4) (v := ?vd2_4) ?hd2_4 (by kernel_rfl) (by kernel_rfl) (by kernel_rfl) ?qd2_4 ?yd2_4 (by assumption) ?_
            case hd2_4 => (first | (simp only [List.getElem?_toArray, List.getElem?_cons_zero, List.getElem?_cons_succ]; done) | (simp only [List.getElem?_toArray, List.getElem?_cons_zero, List.getElem?_cons_succ]; exact rfl))
            case qd2_4 => exact fun _ _ _ h => h
            case yd2_4 => (refine Or.inl ⟨rfl, ?_⟩; intro w hSw; (try dsimp only at hSw); go_simp; (try with_reducible rfl))
            (try simp only [Act.put, List.setIfInBounds_toArray, List.set_cons_zero, List.set_cons_succ])
            refine wpAnyH_take (i := 6) (oi := ?od2_6) (v := .agg #[.int .i64 2, .int .i64 a]) ?hd2_6 (by kernel_rfl) (by kernel_rfl) (by kernel_rfl) ?qd2_6 ?yd2_6 (by assumption) ?_
            case hd2_6 => (first | (simp only [List.getElem?_toArray, List.getElem?_cons_zero, List.getElem?_cons_succ]; done) | (simp only [List.getElem?_toArray, List.getElem?_cons_zero, List.getElem?_cons_succ]; exact rfl))
            case qd2_6 => exact fun _ _ _ h => h
            case yd2_6 => (refine Or.inl ⟨rfl, ?_⟩; intro w hSw; (try dsimp only at hSw); go_simp; (try with_reducible rfl))
            (try simp only [Act.put, List.setIfInBounds_toArray, List.set_cons_zero, List.set_cons_succ])
            refine wpAnyH_take (i := 7) (oi := ?od2_7) (v := ?vd2_7) ?hd2_7 (by kernel_rfl) (by kernel_rfl) (by kernel_rfl) ?qd2_7 ?yd2_7 (by assumption) ?_
            case hd2_7 => (first | (simp only [List.getElem?_toArray, List.getElem?_cons_zero, List.getElem?_cons_succ]; done) | (simp only [List.getElem?_toArray, List.getElem?_cons_zero, List.getElem?_cons_succ]; exact rfl))
            case qd2_7 => exact fun _ _ _ h => h
            case yd2_7 => (refine Or.inl ⟨rfl, ?_⟩; intro w hSw; (try dsimp only at hSw); go_simp; (try with_reducible rfl))
            (try simp only [Act.put, List.setIfInBounds_toArray, List.set_cons_zero, List.set_cons_succ])
            refine wpAnyH_take (i := 8) (oi := ?od2_8) (v := ?vd2_8) ?hd2_8 (by kernel_rfl) (by kernel_rfl) (by kernel_rfl) ?qd2_8 ?yd2_8 (by assumption) ?_
            case hd2_8 => (first | (simp only [List.getElem?_toArray, List.getElem?_cons_zero, List.getElem?_cons_succ]; done) | (simp only [List.getElem?_toArray, List.getElem?_cons_zero, List.getElem?_cons_succ]; exact rfl))
            case qd2_8 => exact fun _ _ _ h => h
            case yd2_8 => (refine Or.inl ⟨rfl, ?_⟩; intro w hSw; (try dsimp only at hSw); go_simp; (try with_reducible rfl))
            (try simp only [Act.put, List.setIfInBounds_toArray, List.set_cons_zero, List.set_cons_succ])
            refine wpAnyH_ready (rs := [5]) (by kernel_rfl) (by simp) ?_
            refine AllReadyH.cons (o := ?od2_5) ?hd2_5 (fun K hK => ?_) AllReadyH.nil
            case hd2_5 => (first | (simp only [List.getElem?_toArray, List.getElem?_cons_zero, List.getElem?_cons_succ]; done) | (simp only [List.getElem?_toArray, List.getElem?_cons_zero, List.getElem?_cons_succ]; exact rfl))
            (try go_simp)
            (go_at_call 12; refine (tickD 2 a t b g3 g4 _).mono ?_; rintro e w9 ⟨rfl, hb9⟩)
            (try go_wp2_with fail)
            refine hK.out _ _ ?_ (fun hHeld2 => ?_)
            · first | exact HRD.out | exact hHeld | (apply HRK.out; assumption; assumption)
            clear hK K hHeld
            have hHeld := hHeld2
            clear hHeld2
            (try simp only [Act.put, List.setIfInBounds_toArray, List.set_cons_zero, List.set_cons_succ])
            refine wpAnyH_ready (rs := [9]) (by kernel_rfl) (by simp) ?_
            refine AllReadyH.cons (o := ?od2_9) ?hd2_9 (fun K hK => ?_) AllReadyH.nil
            case hd2_9 => (first | (simp only [List.getElem?_toArray, List.getElem?_cons_zero, List.getElem?_cons_succ]; done) | (simp only [List.getElem?_toArray, List.getElem?_cons_zero, List.getElem?_cons_succ]; exact rfl))
            (try go_simp)
            (go_at_call 13; refine (doorR 2 a t b g3 g4 _).mono ?_; rintro e w9 ⟨rfl, hb9⟩)
            (try go_wp2_with fail)
            refine hK.out _ _ ?_ (fun hHeld2 => ?_)
            · first | exact HRD.out | exact hHeld | (apply HRK.out; assumption; assumption)
            clear hK K hHeld
            have hHeld := hHeld2
            clear hHeld2
            (try simp only [Act.put, List.setIfInBounds_toArray, List.set_cons_zero, List.set_cons_succ])
            refine wpAnyH_take (i := 10) (oi := ?od2_10) (v := .bool true) ?hd2_10 (by kernel_rfl) (by kernel_rfl) (by kernel_rfl) ?qd2_10 ?yd2_10 (by assumption) ?_
            case hd2_10 => (first | (simp only [List.getElem?_toArray, List.getElem?_cons_zero, List.getElem?_cons_succ]; done) | (simp only [List.getElem?_toArray, List.getElem?_cons_zero, List.getElem?_cons_succ]; exact rfl))
            case qd2_10 => exact fun _ _ _ h => h
            case yd2_10 => (refine Or.inl ⟨rfl, ?_⟩; intro w hSw; (try dsimp only at hSw); go_simp; (try with_reducible rfl))
            (try simp only [Act.put, List.setIfInBounds_toArray, List.set_cons_zero, List.set_cons_succ])
            refine wpAnyH_take (i := 11) (oi := ?od2_11) (v := .bool true) ?hd2_11 (by kernel_rfl) (by kernel_rfl) (by kernel_rfl) ?qd2_11 ?yd2_11 (by assumption) ?_
            case hd2_11 => (first | (simp only [List.getElem?_toArray, List.getElem?_cons_zero, List.getElem?_cons_succ]; done) | (simp only [List.getElem?_toArray, List.getElem?_cons_zero, List.getElem?_cons_succ]; exact rfl))
            case qd2_11 => exact fun _ _ _ h => h
            case yd2_11 => (refine Or.inl ⟨rfl, ?_⟩; intro w hSw; (try dsimp only at hSw); go_simp; (try with_reducible rfl))
            (try simp only [Act.put, List.setIfInBounds_toArray, List.set_cons_zero, List.set_cons_succ])
            refine wpAnyH_take (i := 12) (oi := ?od2_12) (v := .bool true) ?hd2_12 (by kernel_rfl) (by kernel_rfl) (by kernel_rfl) ?qd2_12 ?yd2_12 (by assumption) ?_
            case hd2_12 => (first | (simp only [List.getElem?_toArray, List.getElem?_cons_zero, List.getElem?_cons_succ]; done) | (simp only [List.getElem?_toArray, List.getElem?_cons_zero, List.getElem?_cons_succ]; exact rfl))
            case qd2_12 => exact fun _ _ _ h => h
            case yd2_12 => (refine Or.inl ⟨rfl, ?_⟩; intro w hSw; (try dsimp only at hSw); go_simp; (try with_reducible rfl))
            (try simp only [Act.put, List.setIfInBounds_toArray, List.set_cons_zero, List.set_cons_succ])
            refine wpAnyH_take (i := 13) (oi := ?od2_13) (v := .agg #[.int .i64 2, .int .i64 a]) ?hd2_13 (by kernel_rfl) (by kernel_rfl) (by kernel_rfl) ?qd2_13 ?yd2_13 (by assumption) ?_
            case hd2_13 => (first | (simp only [List.getElem?_toArray, List.getElem?_cons_zero, List.getElem?_cons_succ]; done) | (simp only [List.getElem?_toArray, List.getElem?_cons_zero, List.getElem?_cons_succ]; exact rfl))
            case qd2_13 => exact fun _ _ _ h => h
            case yd2_13 => (refine Or.inl ⟨rfl, ?_⟩; intro w hSw; (try dsimp only at hSw); go_simp; (try with_reducible rfl))
            (try simp only [Act.put, List.setIfInBounds_toArray, List.set_cons_zero, List.set_cons_succ])
            refine wpAnyH_take (i := 14) (oi := ?od2_14) (v := .agg #[.int .i64 2, .int .i64 a]) ?hd2_14 (by kernel_rfl) (by kernel_rfl) (by kernel_rfl) ?qd2_14 ?yd2_14 (by assumption) ?_
            case hd2_14 => (first | (simp only [List.getElem?_toArray, List.getElem?_cons_zero, List.getElem?_cons_succ]; done) | (simp only [List.getElem?_toArray, List.getElem?_cons_zero, List.getElem?_cons_succ]; exact rfl))
            case qd2_14 => exact fun _ _ _ h => h
            case yd2_14 => (refine Or.inl ⟨rfl, ?_⟩; intro w hSw; (try dsimp only at hSw); go_simp; (try with_reducible rfl))
            (try simp only [Act.put, List.setIfInBounds_toArray, List.set_cons_zero, List.set_cons_succ])
            refine wpAnyH_take (i := 15) (oi := ?od2_15) (v := .bool true) ?hd2_15 (by kernel_rfl) (by kernel_rfl) (by kernel_rfl) ?qd2_15 ?yd2_15 (by assumption) ?_
            case hd2_15 => (first | (simp only [List.getElem?_toArray, List.getElem?_cons_zero, List.getElem?_cons_succ]; done) | (simp only [List.getElem?_toArray, List.getElem?_cons_zero, List.getElem?_cons_succ]; exact rfl))
            case qd2_15 => exact fun _ _ _ h => h
            case yd2_15 => (refine Or.inl ⟨rfl, ?_⟩; intro w hSw; (try dsimp only at hSw); go_simp; (try with_reducible rfl))
            (try simp only [Act.put, List.setIfInBounds_toArray, List.set_cons_zero, List.set_cons_succ])
            refine wpAnyH_take (i := 16) (oi := ?od2_16) (v := .bool true) ?hd2_16 (by kernel_rfl) (by kernel_rfl) (by kernel_rfl) ?qd2_16 ?yd2_16 (by assumption) ?_
            case hd2_16 => (first | (simp only [List.getElem?_toArray, List.getElem?_cons_zero, List.getElem?_cons_succ]; done) | (simp only [List.getElem?_toArray, List.getElem?_cons_zero, List.getElem?_cons_succ]; exact rfl))
            case qd2_16 => exact fun _ _ _ h => h
            case yd2_16 => (refine Or.inl ⟨rfl, ?_⟩; intro w hSw; (try dsimp only at hSw); go_simp; (try with_reducible rfl))
            (try simp only [Act.put, List.setIfInBounds_toArray, List.set_cons_zero, List.set_cons_succ])
            refine wpAnyH_take (i := 17) (oi := ?od2_17) (v := .bool true) ?hd2_17 (by kernel_rfl) (by kernel_rfl) (by kernel_rfl) ?qd2_17 ?yd2_17 (by assumption) ?_
            case hd2_17 => (first | (simp only [List.getElem?_toArray, List.getElem?_cons_zero, List.getElem?_cons_succ]; done) | (simp only [List.getElem?_toArray, List.getElem?_cons_zero, List.getElem?_cons_succ]; exact rfl))
            case qd2_17 => exact fun _ _ _ h => h
            case yd2_17 => (refine Or.inl ⟨rfl, ?_⟩; intro w hSw; (try dsimp only at hSw); go_simp; (try with_reducible rfl))
            (try simp only [Act.put, List.setIfInBounds_toArray, List.set_cons_zero, List.set_cons_succ])
            refine wpAnyH_take (i := 18) (oi := ?od2_18) (v := .agg #[.int .i64 3, .int .i64 a]) ?hd2_18 (by kernel_rfl) (by kernel_rfl) (by kernel_rfl) ?qd2_18 ?yd2_18 (by assumption) ?_
            case hd2_18 => (first | (simp only [List.getElem?_toArray, List.getElem?_cons_zero, List.getElem?_cons_succ]; done) | (simp only [List.getElem?_toArray, List.getElem?_cons_zero, List.getElem?_cons_succ]; exact rfl))
            case qd2_18 => exact fun _ _ _ h => h
            case yd2_18 => (refine Or.inl ⟨rfl, ?_⟩; intro w hSw; (try dsimp only at hSw); go_simp; (try with_reducible rfl))
            (try simp only [Act.put, List.setIfInBounds_toArray, List.set_cons_zero, List.set_cons_succ])
            refine wpAnyH_take (i := 19) (oi := ?od2_19) (v := .agg #[.int .i64 3, .int .i64 a]) ?hd2_19 (by kernel_rfl) (by kernel_rfl) (by kernel_rfl) ?qd2_19 ?yd2_19 (by assumption) ?_
            case hd2_19 => (first | (simp only [List.getElem?_toArray, List.getElem?_cons_zero, List.getElem?_cons_succ]; done) | (simp only [List.getElem?_toArray, List.getElem?_cons_zero, List.getElem?_cons_succ]; exact rfl))
            case qd2_19 => exact fun _ _ _ h => h
            case yd2_19 => (refine Or.inl ⟨rfl, ?_⟩; intro w hSw; (try dsimp only at hSw); go_simp; (try with_reducible rfl))
            (try simp only [Act.put, List.setIfInBounds_toArray, List.set_cons_zero, List.set_cons_succ])
            refine wpAnyH_take (i := 20) (oi := ?od2_20) (v := .bool true) ?hd2_20 (by kernel_rfl) (by kernel_rfl) (by kernel_rfl) ?qd2_20 ?yd2_20 (by assumption) ?_
            case hd2_20 => (first | (simp only [List.getElem?_toArray, List.getElem?_cons_zero, List.getElem?_cons_succ]; done) | (simp only [List.getElem?_toArray, List.getElem?_cons_zero, List.getElem?_cons_succ]; exact rfl))
            case qd2_20 => exact fun _ _ _ h => h
            case yd2_20 => (refine Or.inl ⟨rfl, ?_⟩; intro w hSw; (try dsimp only at hSw); go_simp; (try with_reducible rfl))
            (try simp only [Act.put, List.setIfInBounds_toArray, List.set_cons_zero, List.set_cons_succ])
            refine wpAnyH_take (i := 21) (oi := ?od2_21) (v := .bool true) ?hd2_21 (by kernel_rfl) (by kernel_rfl) (by kernel_rfl) ?qd2_21 ?yd2_21 (by assumption) ?_
            case hd2_21 => (first | (simp only [List.getElem?_toArray, List.getElem?_cons_zero, List.getElem?_cons_succ]; done) | (simp only [List.getElem?_toArray, List.getElem?_cons_zero, List.getElem?_cons_succ]; exact rfl))
            case qd2_21 => exact fun _ _ _ h => h
            case yd2_21 => (refine Or.inl ⟨rfl, ?_⟩; intro w hSw; (try dsimp only at hSw); go_simp; (try with_reducible rfl))
            (try simp only [Act.put, List.setIfInBounds_toArray, List.set_cons_zero, List.set_cons_succ])
            refine wpAnyH_take (i := 22) (oi := ?od2_22) (v := .bool true) ?hd2_22 (by kernel_rfl) (by kernel_rfl) (by kernel_rfl) ?qd2_22 ?yd2_22 (by assumption) ?_
            case hd2_22 => (first | (simp only [List.getElem?_toArray, List.getElem?_cons_zero, List.getElem?_cons_succ]; done) | (simp only [List.getElem?_toArray, List.getElem?_cons_zero, List.getElem?_cons_succ]; exact rfl))
            case qd2_22 => exact fun _ _ _ h => h
            case yd2_22 => (refine Or.inl ⟨rfl, ?_⟩; intro w hSw; (try dsimp only at hSw); go_simp; (try with_reducible rfl))
            (try simp only [Act.put, List.setIfInBounds_toArray, List.set_cons_zero, List.set_cons_succ])
            refine wpAnyH_done (by kernel_rfl) ?_ _
            obtain ⟨hs2, _⟩ := hHeld
            have HS2 := Lib.hid hs2
            clear hs2 HRK HRD
            go_wp2
            go_ret
            exact ⟨rfl, HS6.out.trans HS2.out⟩
          · have o0 : oS 3 = 1 := by decide
            have k0 : cS 3 = 3 := by decide
            rw [o0] at p0; rw [k0] at q0
            clear o0 k0 g1 g2
            go_upto_region 11 with fail
            obtain ⟨w6, hw6⟩ : ∃ w6, w6 = w5.setCell ⟨j, 0, none⟩ (.int .i64 1) := ⟨_, rfl⟩
            rw [← hw6]
            have c0' : w6.cell? ⟨w.heap.size, 0, none⟩ = some (.int .i64 3) := by rw [hw6]; exact (set_far _ (by omega)).trans c0
            have c1' : w6.cell? ⟨w.heap.size, 1, none⟩ = some (.int .i64 a) := by rw [hw6]; exact (set_far _ (by omega)).trans c1
            have p0' : w6.cell? ⟨g, 0, none⟩ = some (.int .i64 1) := by rw [hw6]; exact (set_far _ (by omega)).trans p0
            have p1' : w6.cell? ⟨g, 1, none⟩ = some (.int .i64 a) := by rw [hw6]; exact (set_far _ (by omega)).trans p1
            have q0' : w6.cell? ⟨h, 0, none⟩ = some (.int .i64 3) := by rw [hw6]; exact (set_far _ (by omega)).trans q0
            have q1' : w6.cell? ⟨h, 1, none⟩ = some (.int .i64 a) := by rw [hw6]; exact (set_far _ (by omega)).trans q1
            have u0' : w6.cell? ⟨j, 0, none⟩ = some (.int .i64 1) := by rw [hw6]; exact set_same u0
            have u1' : w6.cell? ⟨j, 1, none⟩ = some (.int .i64 a) := by rw [hw6]; exact (set_ne _ (by omega)).trans u1
            have v0' : w6.cell? ⟨k, 0, none⟩ = some (.int .i64 3) := by rw [hw6]; exact (set_far _ (by omega)).trans v0
            have v1' : w6.cell? ⟨k, 1, none⟩ = some (.int .i64 a) := by rw [hw6]; exact (set_far _ (by omega)).trans v1
            have HS6 := Lib.hid (show Since w w6 by rw [hw6]; exact HS5.out.setCell (by simp; omega) _)
            clear hw6 HS5 c0 c1 p0 p1 q0 q1 u0 u1 v0 v1 uf vf
            have hrK : ∀ W W' : World, Since W W' → (Since w6 W ∧ W.cell? ⟨w.heap.size, 0, none⟩ = some (.int .i64 3) ∧ W.cell? ⟨w.heap.size, 1, none⟩ = some (.int .i64 a) ∧ W.cell? ⟨g, 0, none⟩ = some (.int .i64 1) ∧ W.cell? ⟨g, 1, none⟩ = some (.int .i64 a) ∧ W.cell? ⟨h, 0, none⟩ = some (.int .i64 3) ∧ W.cell? ⟨h, 1, none⟩ = some (.int .i64 a) ∧ W.cell? ⟨j, 0, none⟩ = some (.int .i64 1) ∧ W.cell? ⟨j, 1, none⟩ = some (.int .i64 a) ∧ W.cell? ⟨k, 0, none⟩ = some (.int .i64 3) ∧ W.cell? ⟨k, 1, none⟩ = some (.int .i64 a)) → (Since w6 W' ∧ W'.cell? ⟨w.heap.size, 0, none⟩ = some (.int .i64 3) ∧ W'.cell? ⟨w.heap.size, 1, none⟩ = some (.int .i64 a) ∧ W'.cell? ⟨g, 0, none⟩ = some (.int .i64 1) ∧ W'.cell? ⟨g, 1, none⟩ = some (.int .i64 a) ∧ W'.cell? ⟨h, 0, none⟩ = some (.int .i64 3) ∧ W'.cell? ⟨h, 1, none⟩ = some (.int .i64 a) ∧ W'.cell? ⟨j, 0, none⟩ = some (.int .i64 1) ∧ W'.cell? ⟨j, 1, none⟩ = some (.int .i64 a) ∧ W'.cell? ⟨k, 0, none⟩ = some (.int .i64 3) ∧ W'.cell? ⟨k, 1, none⟩ = some (.int .i64 a)) := fun W W' k ⟨h, h0, h1, h2, h3, h4, h5, h6, h7, h8, h9⟩ => ⟨h.trans k, keep_cell k h0, keep_cell k h1, keep_cell k h2, keep_cell k h3, keep_cell k h4, keep_cell k h5, keep_cell k h6, keep_cell k h7, keep_cell k h8, keep_cell k h9⟩
            have hrS : (fun W : World => Since w6 W ∧ W.cell? ⟨w.heap.size, 0, none⟩ = some (.int .i64 3) ∧ W.cell? ⟨w.heap.size, 1, none⟩ = some (.int .i64 a) ∧ W.cell? ⟨g, 0, none⟩ = some (.int .i64 1) ∧ W.cell? ⟨g, 1, none⟩ = some (.int .i64 a) ∧ W.cell? ⟨h, 0, none⟩ = some (.int .i64 3) ∧ W.cell? ⟨h, 1, none⟩ = some (.int .i64 a) ∧ W.cell? ⟨j, 0, none⟩ = some (.int .i64 1) ∧ W.cell? ⟨j, 1, none⟩ = some (.int .i64 a) ∧ W.cell? ⟨k, 0, none⟩ = some (.int .i64 3) ∧ W.cell? ⟨k, 1, none⟩ = some (.int .i64 a)) (w6) := ⟨Since.refl _, by first | assumption | (simp; done), by first | assumption | (simp; done), by first | assumption | (simp; done), by first | assumption | (simp; done), by first | assumption | (simp; done), by first | assumption | (simp; done), by first | assumption | (simp; done), by first | assumption | (simp; done), by first | assumption | (simp; done), by first | assumption | (simp; done)⟩
            have HRK := Lib.hid hrK
            have HRD := Lib.hid (show (fun W : World => Since w6 W ∧ W.cell? ⟨w.heap.size, 0, none⟩ = some (.int .i64 3) ∧ W.cell? ⟨w.heap.size, 1, none⟩ = some (.int .i64 a) ∧ W.cell? ⟨g, 0, none⟩ = some (.int .i64 1) ∧ W.cell? ⟨g, 1, none⟩ = some (.int .i64 a) ∧ W.cell? ⟨h, 0, none⟩ = some (.int .i64 3) ∧ W.cell? ⟨h, 1, none⟩ = some (.int .i64 a) ∧ W.cell? ⟨j, 0, none⟩ = some (.int .i64 1) ∧ W.cell? ⟨j, 1, none⟩ = some (.int .i64 a) ∧ W.cell? ⟨k, 0, none⟩ = some (.int .i64 3) ∧ W.cell? ⟨k, 1, none⟩ = some (.int .i64 a)) (World.drew (w6)) from ⟨(Since.refl _).drew, hrS.2⟩)
            clear hrK hrS
            refine wp_region_held_drew (S := fun W : World => Since w6 W ∧ W.cell? ⟨w.heap.size, 0, none⟩ = some (.int .i64 3) ∧ W.cell? ⟨w.heap.size, 1, none⟩ = some (.int .i64 a) ∧ W.cell? ⟨g, 0, none⟩ = some (.int .i64 1) ∧ W.cell? ⟨g, 1, none⟩ = some (.int .i64 a) ∧ W.cell? ⟨h, 0, none⟩ = some (.int .i64 3) ∧ W.cell? ⟨h, 1, none⟩ = some (.int .i64 a) ∧ W.cell? ⟨j, 0, none⟩ = some (.int .i64 1) ∧ W.cell? ⟨j, 1, none⟩ = some (.int .i64 a) ∧ W.cell? ⟨k, 0, none⟩ = some (.int .i64 3) ∧ W.cell? ⟨k, 1, none⟩ = some (.int .i64 a)) (by kernel_rfl) HRD.out (fun hHeld => ?_)
            refine wpAnyH_ready (rs := [0]) (by kernel_rfl) (by simp) ?_
            refine AllReadyH.cons (o := ?od3_0) ?hd3_0 (fun K hK => ?_) AllReadyH.nil
            case hd3_0 => (first | (simp only [List.getElem?_toArray, List.getElem?_cons_zero, List.getElem?_cons_succ]; done) | (simp only [List.getElem?_toArray, List.getElem?_cons_zero, List.getElem?_cons_succ]; exact rfl))
            (try go_simp)
            (go_at_call 9; refine (ans _).mono ?_; rintro e w9 ⟨rfl, hb9⟩)
            (try go_wp2_with fail)
            refine hK.out _ _ ?_ (fun hHeld2 => ?_)
            · first | exact HRD.out | exact hHeld | (apply HRK.out; assumption; assumption)
            clear hK K hHeld
            have hHeld := hHeld2
            clear hHeld2
            (try simp only [Act.put, List.setIfInBounds_toArray, List.set_cons_zero, List.set_cons_succ])
            refine wpAnyH_take (i := 1) (oi := ?od3_1) (v := ?vd3_1) ?hd3_1 (by kernel_rfl) (by kernel_rfl) (by kernel_rfl) ?qd3_1 ?yd3_1 (by assumption) ?_
            case hd3_1 => (first | (simp only [List.getElem?_toArray, List.getElem?_cons_zero, List.getElem?_cons_succ]; done) | (simp only [List.getElem?_toArray, List.getElem?_cons_zero, List.getElem?_cons_succ]; exact rfl))
            case qd3_1 => exact fun _ _ _ h => h
            case yd3_1 => (refine Or.inl ⟨rfl, ?_⟩; intro w hSw; (try dsimp only at hSw); go_simp; (try with_reducible rfl))
            (try simp only [Act.put, List.setIfInBounds_toArray, List.set_cons_zero, List.set_cons_succ])
            refine wpAnyH_take (i := 2) (oi := ?od3_2) (v := .agg #[.int .i64 3, .int .i64 a]) ?hd3_2 (by kernel_rfl) (by kernel_rfl) (by kernel_rfl) ?qd3_2 ?yd3_2 (by assumption) ?_
            case hd3_2 => (first | (simp only [List.getElem?_toArray, List.getElem?_cons_zero, List.getElem?_cons_succ]; done) | (simp only [List.getElem?_toArray, List.getElem?_cons_zero, List.getElem?_cons_succ]; exact rfl))
            case qd3_2 => exact fun _ _ _ h => h
            case yd3_2 => (refine Or.inl ⟨rfl, ?_⟩; intro w hSw; (try dsimp only at hSw); go_simp; (try with_reducible rfl))
            (try simp only [Act.put, List.setIfInBounds_toArray, List.set_cons_zero, List.set_cons_succ])
            refine wpAnyH_take (i := 3) (oi := ?od3_3) (v := ?vd3_3) ?hd3_3 (by kernel_rfl) (by kernel_rfl) (by kernel_rfl) ?qd3_3 ?yd3_3 (by assumption) ?_
            case hd3_3 => (first | (simp only [List.getElem?_toArray, List.getElem?_cons_zero, List.getElem?_cons_succ]; done) | (simp only [List.getElem?_toArray, List.getElem?_cons_zero, List.getElem?_cons_succ]; exact rfl))
            case qd3_3 => exact fun _ _ _ h => h
            case yd3_3 => (refine Or.inl ⟨rfl, ?_⟩; intro w hSw; (try dsimp only at hSw); go_simp; (try with_reducible rfl))
            (try simp only [Act.put, List.setIfInBounds_toArray, List.set_cons_zero, List.set_cons_succ])
            refine wpAnyH_take (i := 4) (oi := ?od3_4) (v := ?vd3_4) ?hd3_4 (by kernel_rfl) (by kernel_rfl) (by kernel_rfl) ?qd3_4 ?yd3_4 (by assumption) ?_
            case hd3_4 => (first | (simp only [List.getElem?_toArray, List.getElem?_cons_zero, List.getElem?_cons_succ]; done) | (simp only [List.getElem?_toArray, List.getElem?_cons_zero, List.getElem?_cons_succ]; exact rfl))
            case qd3_4 => exact fun _ _ _ h => h
            case yd3_4 => (refine Or.inl ⟨rfl, ?_⟩; intro w hSw; (try dsimp only at hSw); go_simp; (try with_reducible rfl))
            (try simp only [Act.put, List.setIfInBounds_toArray, List.set_cons_zero, List.set_cons_succ])
            refine wpAnyH_take (i := 6) (oi := ?od3_6) (v := .agg #[.int .i64 3, .int .i64 a]) ?hd3_6 (by kernel_rfl) (by kernel_rfl) (by kernel_rfl) ?qd3_6 ?yd3_6 (by assumption) ?_
            case hd3_6 => (first | (simp only [List.getElem?_toArray, List.getElem?_cons_zero, List.getElem?_cons_succ]; done) | (simp only [List.getElem?_toArray, List.getElem?_cons_zero, List.getElem?_cons_succ]; exact rfl))
            case qd3_6 => exact fun _ _ _ h => h
            case yd3_6 => (refine Or.inl ⟨rfl, ?_⟩; intro w hSw; (try dsimp only at hSw); go_simp; (try with_reducible rfl))
            (try simp only [Act.put, List.setIfInBounds_toArray, List.set_cons_zero, List.set_cons_succ])
            refine wpAnyH_take (i := 7) (oi := ?od3_7) (v := ?vd3_7) ?hd3_7 (by kernel_rfl) (by kernel_rfl) (by kernel_rfl) ?qd3_7 ?yd3_7 (by assumption) ?_
            case hd3_7 => (first | (simp only [List.getElem?_toArray, List.getElem?_cons_zero, List.getElem?_cons_succ]; done) | (simp only [List.getElem?_toArray, List.getElem?_cons_zero, List.getElem?_cons_succ]; exact rfl))
            case qd3_7 => exact fun _ _ _ h => h
            case yd3_7 => (refine Or.inl ⟨rfl, ?_⟩; intro w hSw; (try dsimp only at hSw); go_simp; (try with_reducible rfl))
            (try simp only [Act.put, List.setIfInBounds_toArray, List.set_cons_zero, List.set_cons_succ])
            refine wpAnyH_take (i := 8) (oi := ?od3_8) (v := ?vd3_8) ?hd3_8 (by kernel_rfl) (by kernel_rfl) (by kernel_rfl) ?qd3_8 ?yd3_8 (by assumption) ?_
            case hd3_8 => (first | (simp only [List.getElem?_toArray, List.getElem?_cons_zero, List.getElem?_cons_succ]; done) | (simp only [List.getElem?_toArray, List.getElem?_cons_zero, List.getElem?_cons_succ]; exact rfl))
            case qd3_8 => exact fun _ _ _ h => h
            case yd3_8 => (refine Or.inl ⟨rfl, ?_⟩; intro w hSw; (try dsimp only at hSw); go_simp; (try with_reducible rfl))
            (try simp only [Act.put, List.setIfInBounds_toArray, List.set_cons_zero, List.set_cons_succ])
            refine wpAnyH_ready (rs := [5]) (by kernel_rfl) (by simp) ?_
            refine AllReadyH.cons (o := ?od3_5) ?hd3_5 (fun K hK => ?_) AllReadyH.nil
            case hd3_5 => (first | (simp only [List.getElem?_toArray, List.getElem?_cons_zero, List.getElem?_cons_succ]; done) | (simp only [List.getElem?_toArray, List.getElem?_cons_zero, List.getElem?_cons_succ]; exact rfl))
            (try go_simp)
            (go_at_call 12; refine (tickD 3 a t b g3 g4 _).mono ?_; rintro e w9 ⟨rfl, hb9⟩)
            (try go_wp2_with fail)
            refine hK.out _ _ ?_ (fun hHeld2 => ?_)
            · first | exact HRD.out | exact hHeld | (apply HRK.out; assumption; assumption)
            clear hK K hHeld
            have hHeld := hHeld2
            clear hHeld2
            (try simp only [Act.put, List.setIfInBounds_toArray, List.set_cons_zero, List.set_cons_succ])
            refine wpAnyH_ready (rs := [9]) (by kernel_rfl) (by simp) ?_
            refine AllReadyH.cons (o := ?od3_9) ?hd3_9 (fun K hK => ?_) AllReadyH.nil
            case hd3_9 => (first | (simp only [List.getElem?_toArray, List.getElem?_cons_zero, List.getElem?_cons_succ]; done) | (simp only [List.getElem?_toArray, List.getElem?_cons_zero, List.getElem?_cons_succ]; exact rfl))
            (try go_simp)
            (go_at_call 13; refine (doorR 3 a t b g3 g4 _).mono ?_; rintro e w9 ⟨rfl, hb9⟩)
            (try go_wp2_with fail)
            refine hK.out _ _ ?_ (fun hHeld2 => ?_)
            · first | exact HRD.out | exact hHeld | (apply HRK.out; assumption; assumption)
            clear hK K hHeld
            have hHeld := hHeld2
            clear hHeld2
            (try simp only [Act.put, List.setIfInBounds_toArray, List.set_cons_zero, List.set_cons_succ])
            refine wpAnyH_take (i := 10) (oi := ?od3_10) (v := .bool true) ?hd3_10 (by kernel_rfl) (by kernel_rfl) (by kernel_rfl) ?qd3_10 ?yd3_10 (by assumption) ?_
            case hd3_10 => (first | (simp only [List.getElem?_toArray, List.getElem?_cons_zero, List.getElem?_cons_succ]; done) | (simp only [List.getElem?_toArray, List.getElem?_cons_zero, List.getElem?_cons_succ]; exact rfl))
            case qd3_10 => exact fun _ _ _ h => h
            case yd3_10 => (refine Or.inl ⟨rfl, ?_⟩; intro w hSw; (try dsimp only at hSw); go_simp; (try with_reducible rfl))
            (try simp only [Act.put, List.setIfInBounds_toArray, List.set_cons_zero, List.set_cons_succ])
            refine wpAnyH_take (i := 11) (oi := ?od3_11) (v := .bool true) ?hd3_11 (by kernel_rfl) (by kernel_rfl) (by kernel_rfl) ?qd3_11 ?yd3_11 (by assumption) ?_
            case hd3_11 => (first | (simp only [List.getElem?_toArray, List.getElem?_cons_zero, List.getElem?_cons_succ]; done) | (simp only [List.getElem?_toArray, List.getElem?_cons_zero, List.getElem?_cons_succ]; exact rfl))
            case qd3_11 => exact fun _ _ _ h => h
            case yd3_11 => (refine Or.inl ⟨rfl, ?_⟩; intro w hSw; (try dsimp only at hSw); go_simp; (try with_reducible rfl))
            (try simp only [Act.put, List.setIfInBounds_toArray, List.set_cons_zero, List.set_cons_succ])
            refine wpAnyH_take (i := 12) (oi := ?od3_12) (v := .bool true) ?hd3_12 (by kernel_rfl) (by kernel_rfl) (by kernel_rfl) ?qd3_12 ?yd3_12 (by assumption) ?_
            case hd3_12 => (first | (simp only [List.getElem?_toArray, List.getElem?_cons_zero, List.getElem?_cons_succ]; done) | (simp only [List.getElem?_toArray, List.getElem?_cons_zero, List.getElem?_cons_succ]; exact rfl))
            case qd3_12 => exact fun _ _ _ h => h
            case yd3_12 => (refine Or.inl ⟨rfl, ?_⟩; intro w hSw; (try dsimp only at hSw); go_simp; (try with_reducible rfl))
            (try simp only [Act.put, List.setIfInBounds_toArray, List.set_cons_zero, List.set_cons_succ])
            refine wpAnyH_take (i := 13) (oi := ?od3_13) (v := .agg #[.int .i64 1, .int .i64 a]) ?hd3_13 (by kernel_rfl) (by kernel_rfl) (by kernel_rfl) ?qd3_13 ?yd3_13 (by assumption) ?_
            case hd3_13 => (first | (simp only [List.getElem?_toArray, List.getElem?_cons_zero, List.getElem?_cons_succ]; done) | (simp only [List.getElem?_toArray, List.getElem?_cons_zero, List.getElem?_cons_succ]; exact rfl))
            case qd3_13 => exact fun _ _ _ h => h
            case yd3_13 => (refine Or.inl ⟨rfl, ?_⟩; intro w hSw; (try dsimp only at hSw); go_simp; (try with_reducible rfl))
            (try simp only [Act.put, List.setIfInBounds_toArray, List.set_cons_zero, List.set_cons_succ])
            refine wpAnyH_take (i := 14) (oi := ?od3_14) (v := .agg #[.int .i64 1, .int .i64 a]) ?hd3_14 (by kernel_rfl) (by kernel_rfl) (by kernel_rfl) ?qd3_14 ?yd3_14 (by assumption) ?_
            case hd3_14 => (first | (simp only [List.getElem?_toArray, List.getElem?_cons_zero, List.getElem?_cons_succ]; done) | (simp only [List.getElem?_toArray, List.getElem?_cons_zero, List.getElem?_cons_succ]; exact rfl))
            case qd3_14 => exact fun _ _ _ h => h
            case yd3_14 => (refine Or.inl ⟨rfl, ?_⟩; intro w hSw; (try dsimp only at hSw); go_simp; (try with_reducible rfl))
            (try simp only [Act.put, List.setIfInBounds_toArray, List.set_cons_zero, List.set_cons_succ])
            refine wpAnyH_take (i := 15) (oi := ?od3_15) (v := .bool true) ?hd3_15 (by kernel_rfl) (by kernel_rfl) (by kernel_rfl) ?qd3_15 ?yd3_15 (by assumption) ?_
            case hd3_15 => (first | (simp only [List.getElem?_toArray, List.getElem?_cons_zero, List.getElem?_cons_succ]; done) | (simp only [List.getElem?_toArray, List.getElem?_cons_zero, List.getElem?_cons_succ]; exact rfl))
            case qd3_15 => exact fun _ _ _ h => h
            case yd3_15 => (refine Or.inl ⟨rfl, ?_⟩; intro w hSw; (try dsimp only at hSw); go_simp; (try with_reducible rfl))
            (try simp only [Act.put, List.setIfInBounds_toArray, List.set_cons_zero, List.set_cons_succ])
            refine wpAnyH_take (i := 16) (oi := ?od3_16) (v := .bool true) ?hd3_16 (by kernel_rfl) (by kernel_rfl) (by kernel_rfl) ?qd3_16 ?yd3_16 (by assumption) ?_
            case hd3_16 => (first | (simp only [List.getElem?_toArray, List.getElem?_cons_zero, List.getElem?_cons_succ]; done) | (simp only [List.getElem?_toArray, List.getElem?_cons_zero, List.getElem?_cons_succ]; exact rfl))
            case qd3_16 => exact fun _ _ _ h => h
            case yd3_16 => (refine Or.inl ⟨rfl, ?_⟩; intro w hSw; (try dsimp only at hSw); go_simp; (try with_reducible rfl))
            (try simp only [Act.put, List.setIfInBounds_toArray, List.set_cons_zero, List.set_cons_succ])
            refine wpAnyH_take (i := 17) (oi := ?od3_17) (v := .bool true) ?hd3_17 (by kernel_rfl) (by kernel_rfl) (by kernel_rfl) ?qd3_17 ?yd3_17 (by assumption) ?_
            case hd3_17 => (first | (simp only [List.getElem?_toArray, List.getElem?_cons_zero, List.getElem?_cons_succ]; done) | (simp only [List.getElem?_toArray, List.getElem?_cons_zero, List.getElem?_cons_succ]; exact rfl))
            case qd3_17 => exact fun _ _ _ h => h
            case yd3_17 => (refine Or.inl ⟨rfl, ?_⟩; intro w hSw; (try dsimp only at hSw); go_simp; (try with_reducible rfl))
            (try simp only [Act.put, List.setIfInBounds_toArray, List.set_cons_zero, List.set_cons_succ])
            refine wpAnyH_take (i := 18) (oi := ?od3_18) (v := .agg #[.int .i64 3, .int .i64 a]) ?hd3_18 (by kernel_rfl) (by kernel_rfl) (by kernel_rfl) ?qd3_18 ?yd3_18 (by assumption) ?_
            case hd3_18 => (first | (simp only [List.getElem?_toArray, List.getElem?_cons_zero, List.getElem?_cons_succ]; done) | (simp only [List.getElem?_toArray, List.getElem?_cons_zero, List.getElem?_cons_succ]; exact rfl))
            case qd3_18 => exact fun _ _ _ h => h
            case yd3_18 => (refine Or.inl ⟨rfl, ?_⟩; intro w hSw; (try dsimp only at hSw); go_simp; (try with_reducible rfl))
            (try simp only [Act.put, List.setIfInBounds_toArray, List.set_cons_zero, List.set_cons_succ])
            refine wpAnyH_take (i := 19) (oi := ?od3_19) (v := .agg #[.int .i64 3, .int .i64 a]) ?hd3_19 (by kernel_rfl) (by kernel_rfl) (by kernel_rfl) ?qd3_19 ?yd3_19 (by assumption) ?_
            case hd3_19 => (first | (simp only [List.getElem?_toArray, List.getElem?_cons_zero, List.getElem?_cons_succ]; done) | (simp only [List.getElem?_toArray, List.getElem?_cons_zero, List.getElem?_cons_succ]; exact rfl))
            case qd3_19 => exact fun _ _ _ h => h
            case yd3_19 => (refine Or.inl ⟨rfl, ?_⟩; intro w hSw; (try dsimp only at hSw); go_simp; (try with_reducible rfl))
            (try simp only [Act.put, List.setIfInBounds_toArray, List.set_cons_zero, List.set_cons_succ])
            refine wpAnyH_take (i := 20) (oi := ?od3_20) (v := .bool true) ?hd3_20 (by kernel_rfl) (by kernel_rfl) (by kernel_rfl) ?qd3_20 ?yd3_20 (by assumption) ?_
            case hd3_20 => (first | (simp only [List.getElem?_toArray, List.getElem?_cons_zero, List.getElem?_cons_succ]; done) | (simp only [List.getElem?_toArray, List.getElem?_cons_zero, List.getElem?_cons_succ]; exact rfl))
            case qd3_20 => exact fun _ _ _ h => h
            case yd3_20 => (refine Or.inl ⟨rfl, ?_⟩; intro w hSw; (try dsimp only at hSw); go_simp; (try with_reducible rfl))
            (try simp only [Act.put, List.setIfInBounds_toArray, List.set_cons_zero, List.set_cons_succ])
            refine wpAnyH_take (i := 21) (oi := ?od3_21) (v := .bool true) ?hd3_21 (by kernel_rfl) (by kernel_rfl) (by kernel_rfl) ?qd3_21 ?yd3_21 (by assumption) ?_
            case hd3_21 => (first | (simp only [List.getElem?_toArray, List.getElem?_cons_zero, List.getElem?_cons_succ]; done) | (simp only [List.getElem?_toArray, List.getElem?_cons_zero, List.getElem?_cons_succ]; exact rfl))
            case qd3_21 => exact fun _ _ _ h => h
            case yd3_21 => (refine Or.inl ⟨rfl, ?_⟩; intro w hSw; (try dsimp only at hSw); go_simp; (try with_reducible rfl))
            (try simp only [Act.put, List.setIfInBounds_toArray, List.set_cons_zero, List.set_cons_succ])
            refine wpAnyH_take (i := 22) (oi := ?od3_22) (v := .bool true) ?hd3_22 (by kernel_rfl) (by kernel_rfl) (by kernel_rfl) ?qd3_22 ?yd3_22 (by assumption) ?_
            case hd3_22 => (first | (simp only [List.getElem?_toArray, List.getElem?_cons_zero, List.getElem?_cons_succ]; done) | (simp only [List.getElem?_toArray, List.getElem?_cons_zero, List.getElem?_cons_succ]; exact rfl))
            case qd3_22 => exact fun _ _ _ h => h
            case yd3_22 => (refine Or.inl ⟨rfl, ?_⟩; intro w hSw; (try dsimp only at hSw); go_simp; (try with_reducible rfl))
            (try simp only [Act.put, List.setIfInBounds_toArray, List.set_cons_zero, List.set_cons_succ])
            refine wpAnyH_done (by kernel_rfl) ?_ _
            obtain ⟨hs2, _⟩ := hHeld
            have HS2 := Lib.hid hs2
            clear hs2 HRK HRD
            go_wp2
            go_ret
            exact ⟨rfl, HS6.out.trans HS2.out⟩
theorem ticksF (s a t : Int) (b : Bool) (w : World) (_ : (Lit.int .i64 s).wf = true) (_ : (Lit.int .i64 a).wf = true) (_ : (Lit.int .i64 t).wf = true) : Calls Try.prog 3 #[.agg #[.int .i64 s, .int .i64 a], .int .i64 t, .bool b] w fun e w' => e = .returned (.bool true) ∧ Since w w' := ticks s a t b w
end Go.Proofs.Ytpjgmkcoeokjcaa.Do
