/-
  The laws of layer 9 (motor), walked: each answers true.
  Conditions: each argument fits its kind; the table of ways' names holds what the program's text lays.
-/
import Derived.Test.YtmkiijoljfinoaaDoorMotW
import Derived.Test.YtmkiijoljfinoaaDoorByt
namespace Go.Proofs.YtmkiijoljfinoaaDoor.Mo
set_option linter.unusedVariables false
set_option linter.unusedSimpArgs false
open Go.RowKit Go.Proofs.YtmkiijoljfinoaaDoor.Ba
/-- What the table of names holds. -/
def Nm (w : World) : Prop := w.cell? ⟨0, 0, none⟩ = some (.string ⟨#[115, 116, 105, 108, 108]⟩) ∧ w.cell? ⟨0, 1, none⟩ = some (.string ⟨#[117, 112]⟩) ∧ w.cell? ⟨0, 2, none⟩ = some (.string ⟨#[100, 111, 119, 110]⟩)
def nmS (n : Int) : ByteArray := if n = 0 then ⟨#[115, 116, 105, 108, 108]⟩ else if n = 1 then ⟨#[117, 112]⟩ else if n = 2 then ⟨#[100, 111, 119, 110]⟩ else ⟨#[]⟩
theorem ret_str {a b : ByteArray} (h : a = b) : Ending.returned (.string a) = .returned (.string b) := by rw [h]
theorem nameT (n : Int) (w : World) (h : Nm w) : Calls Tryd.prog 16 #[.int .i64 n] w fun e w' => e = .returned (.string (nmS n)) ∧ w = w' := by
  obtain ⟨h0, h1, h2⟩ := h
  by_cases n0 : n < 0
  · go_enter Tryd.func16, Tryd.ntmps16
    go_wp2
    go_ret
    exact ⟨ret_str (by unfold nmS; rw [if_neg (by omega), if_neg (by omega), if_neg (by omega)]), rfl⟩
  · by_cases n3 : 3 ≤ n
    · go_enter Tryd.func16, Tryd.ntmps16
      go_wp2
      go_ret
      exact ⟨ret_str (by unfold nmS; rw [if_neg (by omega), if_neg (by omega), if_neg (by omega)]), rfl⟩
    · rcases (show n = 0 ∨ n = 1 ∨ n = 2 by omega) with rfl | rfl | rfl
      all_goals
        go_enter Tryd.func16, Tryd.ntmps16
        go_wp2
        go_ret
        exact ⟨ret_str rfl, rfl⟩
theorem lvB8 : lvB 8 = true := by decide
theorem lvN8 : (lvN 8 == 2) = true := by decide
theorem mv8 : (mv 8 1 9 == 9) = true := by decide
theorem tw6 : (tw 6 2 == 1) = true := by decide
theorem fr6 : (fr 6 2 == 2) = true := by decide
theorem fl1 : (fl 1 == 2) = true := by decide
theorem ans (w : World) (h : Nm w) : Calls Tryd.prog 9 #[] w fun e w' => e = .returned (.bool true) ∧ w = w' := by
  have h1 := lvB8
  have h2 := lvN8
  have h3 := mv8
  have h4 := tw6
  have h5 := fr6
  have h6 := fl1
  have h7 : nmS 1 = ⟨#[117, 112]⟩ := by decide
  have H := Lib.hid h
  clear h
  go_enter Tryd.func9, Tryd.ntmps9
  go_wp2_with (first | (go_at_call 7; refine (levelT _ _).mono ?_; rintro e w' ⟨rfl, rfl⟩) | (go_at_call 10; refine (moveT _ _ _ (by omega) (by omega) _).mono ?_; rintro e w' ⟨rfl, rfl⟩) | (go_at_call 15; refine (towardT _ _ (by omega) (by omega) _).mono ?_; rintro e w' ⟨rfl, rfl⟩) | (go_at_call 14; refine (farT _ _ (by omega) (by omega) (by omega) (by omega) _).mono ?_; rintro e w' ⟨rfl, rfl⟩) | (go_at_call 12; refine (floorsT _ _).mono ?_; rintro e w' ⟨rfl, rfl⟩) | (go_at_call 16; refine (nameT _ _ H.out).mono ?_; rintro e w' ⟨rfl, rfl⟩))
  go_ret
  exact ⟨rfl, rfl⟩
theorem moves (u way f : Int) (w : World) (h : Nm w) (wu : (Lit.int .i64 u).wf = true) (ww : (Lit.int .i64 way).wf = true) (wf : (Lit.int .i64 f).wf = true) : Calls Tryd.prog 3 #[.int .i64 u, .int .i64 way, .int .i64 f] w fun e w' => e = .returned (.bool true) ∧ Below w.heap.size w w' := by
  have H := Lib.hid h
  have ⟨bu1, bu2⟩ := bounds_i64 wu
  clear h wu ww wf
  go_enter Tryd.func3, Tryd.ntmps3
  go_wp2_with (first | (go_at_call 7; refine (levelT _ _).mono ?_; rintro e w' ⟨rfl, rfl⟩) | (go_at_call 10; refine (moveT _ _ _ (by omega) (by omega) _).mono ?_; rintro e w' ⟨rfl, rfl⟩) | (go_at_call 15; refine (towardT _ _ (by omega) (by omega) _).mono ?_; rintro e w' ⟨rfl, rfl⟩) | (go_at_call 14; refine (farT _ _ (by omega) (by omega) (by omega) (by omega) _).mono ?_; rintro e w' ⟨rfl, rfl⟩) | (go_at_call 12; refine (floorsT _ _).mono ?_; rintro e w' ⟨rfl, rfl⟩) | (go_at_call 16; refine (nameT _ _ H.out).mono ?_; rintro e w' ⟨rfl, rfl⟩) | (go_at_call 9; refine (ans _ H.out).mono ?_; rintro e w' ⟨rfl, rfl⟩) | (go_at_call 8; refine (levelR _ _).mono ?_; rintro e w' ⟨rfl, rfl⟩) | (go_at_call 11; refine (moveR _ _ _ (by omega) (by omega) _).mono ?_; rintro e w' ⟨rfl, rfl⟩) | (go_at_call 13; refine (floorsR _ _).mono ?_; rintro e w' ⟨rfl, rfl⟩))
  go_ret
  exact ⟨rfl, Below.refl _ _⟩
theorem goes (u f : Int) (w : World) (h : Nm w) (wu : (Lit.int .u8 u).wf = true) (wf : (Lit.int .u8 f).wf = true) : Calls Tryd.prog 4 #[.int .u8 u, .int .u8 f] w fun e w' => e = .returned (.bool true) ∧ Below w.heap.size w w' := by
  have ⟨bu1, bu2⟩ := bounds_u8 wu
  have ⟨bf1, bf2⟩ := bounds_u8 wf
  clear wu wf
  have H := Lib.hid h
  clear h
  go_enter Tryd.func4, Tryd.ntmps4
  have U0 : 0 ≤ u % 253 := by omega
  have U1 : u % 253 ≤ 252 := by omega
  have F0 : 0 ≤ f % 64 := by omega
  have F1 : f % 64 ≤ 63 := by omega
  have N0 := fr_lo (u % 253) (f % 64)
  have N1 : fr (u % 253) (f % 64) ≤ 300 := by unfold fr; split <;> omega
  go_wp2_with (first | (go_at_call 14; refine (farT _ _ (by omega) (by omega) (by omega) (by omega) _).mono ?_; rintro e w' ⟨rfl, rfl⟩))
  go_loop [5, 8] (fun x i => ∃ (k : Nat) (y : Int), i = .int .i64 k ∧ x = .int .i64 y ∧ 0 ≤ y ∧ y ≤ 252 ∧ Hid (fr y (f % 64) = fr (u % 253) (f % 64) - k)) (fun _ i => (300 - intOf i).toNat)
  case atStart => exact ⟨0, u % 253, rfl, rfl, U0, U1, Lib.hid (by omega)⟩
  case round =>
    obtain ⟨k, y, rfl, rfl, y0, y1, HY⟩ := hrel
    have Z0 := fr_lo y (f % 64)
    have hk := HY.out
    have kle : (k : Int) ≤ fr (u % 253) (f % 64) := by omega
    by_cases hlt : (k : Int) < fr (u % 253) (f % 64)
    · have hpos : 0 < fr y (f % 64) := by omega
      have hm := nearer y (f % 64) y0 y1 F0 F1 hpos
      obtain ⟨m1, m2, m3⟩ := hm
      have HM := Lib.hid m1
      have e1 : (fr y (f % 64) != fr (u % 253) (f % 64) - k) = false := by rw [hk]; simp
      clear m1 hk
      rcases tw_some y (f % 64) hpos with ht | ht
      all_goals
        rw [ht] at HM m2 m3
        go_wp2_with (first | (go_at_call 14; refine (farT _ _ (by omega) (by omega) (by omega) (by omega) _).mono ?_; rintro e w' ⟨rfl, rfl⟩) | (go_at_call 15; refine (towardT _ _ (by omega) (by omega) _).mono ?_; rintro e w' ⟨rfl, rfl⟩) | (go_at_call 10; refine (moveT _ _ _ (by omega) (by omega) _).mono ?_; rintro e w' ⟨rfl, rfl⟩))
        go_round
        case rel => exact ⟨k + 1, _, by go_num, rfl, m2, m3, Lib.hid (by have := HM.out; have := HY.out; omega)⟩
        case measure => simp [intOf]; omega
    · have hz : fr y (f % 64) = 0 := by omega
      obtain ⟨t0, t1⟩ := tw_none y (f % 64) hz
      obtain ⟨l1, l2⟩ := far_lv (f % 64) F0 F1
      rw [← t1] at l1 l2
      have e2 : (lvN y == f % 64) = true := by rw [l2]; simp
      clear hk l2 t1
      go_wp2_with (first | (go_at_call 14; refine (farT _ _ (by omega) (by omega) (by omega) (by omega) _).mono ?_; rintro e w' ⟨rfl, rfl⟩) | (go_at_call 15; refine (towardT _ _ (by omega) (by omega) _).mono ?_; rintro e w' ⟨rfl, rfl⟩) | (go_at_call 7; refine (levelT _ _).mono ?_; rintro e w' ⟨rfl, rfl⟩) | (go_at_call 9; refine (ans _ H.out).mono ?_; rintro e w' ⟨rfl, rfl⟩))
      go_ret
      exact ⟨rfl, Below.refl _ _⟩
set_option maxRecDepth 100000 in
theorem stays (n : Int) (a : Option Addr) (len cap : Nat) (zs : List Int) (w : World) (h : Nm w) (hb : Byt.BV w a len zs) : Calls Tryd.prog 5 #[.int .i64 n, .slice a len cap] w fun e w' => e = .returned (.bool true) ∧ Below w.heap.size w w' := by
  have H := Lib.hid h
  clear h
  have f1 := fl_lo n
  have f2 := fl_hi n
  by_cases hz : len = 0
  · subst hz
    go_enter Tryd.func5, Tryd.ntmps5
    go_wp2_with (first | (go_at_call 9; refine (ans _ H.out).mono ?_; rintro e w' ⟨rfl, rfl⟩))
    go_loop [5, 6] (fun u i => u = .int .i64 0 ∧ i = .int .i64 0) (fun _ _ => 0)
    case atStart => exact ⟨rfl, rfl⟩
    case round =>
      obtain ⟨rfl, rfl⟩ := hrel
      go_wp2_with (first | (go_at_call 9; refine (ans _ H.out).mono ?_; rintro e w' ⟨rfl, rfl⟩))
      go_ret
      exact ⟨rfl, Below.refl _ _⟩
  · obtain ⟨b, off, rfl, hlt, hc⟩ := hb.addr hz
    have hB := hb.2.2.1
    have hL := hb.1
    have HC := Lib.hid hc
    clear hc hb
    go_enter Tryd.func5, Tryd.ntmps5
    go_wp2_with (first | (go_at_call 9; refine (ans _ H.out).mono ?_; rintro e w' ⟨rfl, rfl⟩))
    go_loop [5, 6] (fun u i => ∃ (k : Nat) (y : Int), k ≤ 1000 ∧ i = .int .i64 k ∧ u = .int .i64 y ∧ 0 ≤ y ∧ y ≤ 4 * (fl n - 1)) (fun _ i => (1000 - intOf i).toNat)
    case atStart => exact ⟨0, 0, by omega, rfl, rfl, by omega, by omega⟩
    case round =>
      obtain ⟨k, y, hk, rfl, rfl, y0, y1⟩ := hrel
      by_cases hlt2 : k < len ∧ k < 1000
      · obtain ⟨hl1, hl2⟩ := hlt2
        have hc := HC.out k hl1
        have hk0 : (0 : Int) ≤ (k : Int) := by omega
        have hk1 : (k : Int) < (len : Int) := by omega
        have hk2 : (k : Int) < 1000 := by omega
        have hz0 : 0 ≤ zs.getD k 0 ∧ zs.getD k 0 ≤ 255 := by
          have : zs.getD k 0 = zs[k]'(by omega) := by simp [List.getD, show k < zs.length by omega]
          rw [this]; have := hB _ (List.getElem_mem (show k < zs.length by omega)); unfold Byt.isB at this; omega
        generalize zs.getD k 0 = z at hc hz0
        obtain ⟨z0, z1⟩ := hz0
        obtain ⟨m1, m2⟩ := mv_in y (z % 4) n y0 y1
        obtain ⟨m3, m4⟩ := mv_near y (z % 4) n
        go_wp2_with (first | (go_at_call 10; refine (moveT _ _ _ (by omega) (by omega) _).mono ?_; rintro e w' ⟨rfl, rfl⟩) | (go_at_call 12; refine (floorsT _ _).mono ?_; rintro e w' ⟨rfl, rfl⟩))
        all_goals
          go_round
          case rel => exact ⟨k + 1, _, by omega, by go_num, rfl, m1, m2⟩
          case measure => simp [intOf]; omega
      · by_cases hl1 : k < len
        · have hl2 : ¬ k < 1000 := by omega
          go_wp2_with (first | (go_at_call 9; refine (ans _ H.out).mono ?_; rintro e w' ⟨rfl, rfl⟩))
          go_ret
          exact ⟨rfl, Below.refl _ _⟩
        · go_wp2_with (first | (go_at_call 9; refine (ans _ H.out).mono ?_; rintro e w' ⟨rfl, rfl⟩))
          go_ret
          exact ⟨rfl, Below.refl _ _⟩
theorem names (n : Int) (w : World) (h : Nm w) : Calls Tryd.prog 6 #[.int .i64 n] w fun e w' => e = .returned (.bool true) ∧ Below w.heap.size w w' := by
  have H := Lib.hid h
  clear h
  by_cases h0 : n = 0
  · subst h0
    have e : nmS 0 = ⟨#[115, 116, 105, 108, 108]⟩ := by decide
    go_enter Tryd.func6, Tryd.ntmps6
    go_wp2_with (first | (go_at_call 16; refine (nameT _ _ H.out).mono ?_; rintro e w' ⟨rfl, rfl⟩) | (go_at_call 9; refine (ans _ H.out).mono ?_; rintro e w' ⟨rfl, rfl⟩))
    go_ret
    exact ⟨rfl, Below.refl _ _⟩
  · by_cases h1 : n = 1
    · subst h1
      have e : nmS 1 = ⟨#[117, 112]⟩ := by decide
      go_enter Tryd.func6, Tryd.ntmps6
      go_wp2_with (first | (go_at_call 16; refine (nameT _ _ H.out).mono ?_; rintro e w' ⟨rfl, rfl⟩) | (go_at_call 9; refine (ans _ H.out).mono ?_; rintro e w' ⟨rfl, rfl⟩))
      go_ret
      exact ⟨rfl, Below.refl _ _⟩
    · by_cases h2 : n = 2
      · subst h2
        have e : nmS 2 = ⟨#[100, 111, 119, 110]⟩ := by decide
        go_enter Tryd.func6, Tryd.ntmps6
        go_wp2_with (first | (go_at_call 16; refine (nameT _ _ H.out).mono ?_; rintro e w' ⟨rfl, rfl⟩) | (go_at_call 9; refine (ans _ H.out).mono ?_; rintro e w' ⟨rfl, rfl⟩))
        go_ret
        exact ⟨rfl, Below.refl _ _⟩
      · have e : nmS n = ⟨#[]⟩ := by unfold nmS; rw [if_neg h0, if_neg h1, if_neg h2]
        go_enter Tryd.func6, Tryd.ntmps6
        go_wp2_with (first | (go_at_call 16; refine (nameT _ _ H.out).mono ?_; rintro e w' ⟨rfl, rfl⟩) | (go_at_call 9; refine (ans _ H.out).mono ?_; rintro e w' ⟨rfl, rfl⟩))
        go_ret
        exact ⟨rfl, Below.refl _ _⟩
end Go.Proofs.YtmkiijoljfinoaaDoor.Mo
