/-
  Bounds (layer 23): how long it may take, by any setting.
  No condition.
-/
import Derived.Test.YtpjgmkcoeokjcaaMotW
import Derived.Test.YtpjgmkcoeokjcaaDoorMath
import Derived.Test.YtpjgmkcoeokjcaaTyp
import Derived.Test.YtpjgmkcoeokjcaaRow
namespace Go.Proofs.Ytpjgmkcoeokjcaa.Bn
set_option linter.unusedVariables false
set_option linter.unusedSimpArgs false
open Go.RowKit Go.Proofs.Ytpjgmkcoeokjcaa.Mem Go.Proofs.Ytpjgmkcoeokjcaa.Ba Go.Proofs.Ytpjgmkcoeokjcaa.Mo Go.Proofs.Ytpjgmkcoeokjcaa.Ty
open Go.Proofs.Ytpjgmkcoeokjcaa.Do (hd hd_lo hd_hi)
set_option maxRecDepth 100000
theorem wr (x : Int) (h0 : -9223372036854775808 ≤ x) (h1 : x ≤ 9223372036854775807) : IntKind.i64.wrap x = x := by
  simp only [IntKind.wrap, IntKind.bits, IntKind.signed]; simp; omega
def rn (n : Int) : Int := if n < 0 then 0 else if 1000 < n then 1000 else n
theorem rn_lo (n : Int) : 0 ≤ rn n := by unfold rn; repeat' split <;> omega
theorem rn_hi (n : Int) : rn n ≤ 1000 := by unfold rn; repeat' split <;> omega
def trV (c : CfgV) : Int := 4 * (fl c.fl - 1) + 3 * hd c.dr + 4
theorem tr_lo (c : CfgV) : 0 ≤ trV c := by have := fl_lo c.fl; have := hd_lo c.dr; unfold trV; omega
theorem tr_hi (c : CfgV) : trV c ≤ 4000 := by have := fl_hi c.fl; have := hd_hi c.dr; unfold trV; omega
def leV (c : CfgV) : Int := 2 * trV c + hd c.ho * (2 + rn c.re)
def seV (c : CfgV) : Int := 5 * (4 * (fl c.fl - 1) + fl c.fl * (2 * hd c.dr + hd c.dw + 4))
theorem mul_bd (a b A B : Int) (h0 : 0 ≤ a) (h1 : a ≤ A) (k0 : 0 ≤ b) (k1 : b ≤ B) : 0 ≤ a * b ∧ a * b ≤ A * B :=
  ⟨Int.mul_nonneg h0 k0, Int.mul_le_mul h1 k1 k0 (by omega)⟩
theorem spanT (n : Int) (w : World) : Calls Try.prog 44 #[.int .i64 n] w fun e w' => e = .returned (.int .i64 (hd n)) ∧ w = w' := by
  by_cases h0 : n < 1
  · go_enter Try.func44, Try.ntmps44
    go_wp2
    go_ret
    exact ⟨ret_int (by unfold hd; repeat' split <;> omega), rfl⟩
  · by_cases h1 : 1000 < n
    · go_enter Try.func44, Try.ntmps44
      go_wp2
      go_ret
      exact ⟨ret_int (by unfold hd; repeat' split <;> omega), rfl⟩
    · go_enter Try.func44, Try.ntmps44
      go_wp2
      go_ret
      exact ⟨ret_int (by unfold hd; repeat' split <;> omega), rfl⟩
def btw (n lo hi : Int) : Int := if n < lo then lo else if hi < n then hi else n
theorem nearR (n lo hi : Int) (w : World) : Calls Try.prog 36 #[.int .i64 n, .int .i64 lo, .int .i64 hi] w fun e w' => e = .returned (.int .i64 (btw n lo hi)) ∧ w = w' := by
  go_enter Try.func36, Try.ntmps36
  go_wp2
  all_goals
    go_ret
    exact ⟨ret_int (by unfold btw; repeat' split <;> omega), rfl⟩
theorem near1 (n : Int) (w : World) : Calls Try.prog 36 #[.int .i64 n, .int .i64 1, .int .i64 1000] w fun e w' => e = .returned (.int .i64 (hd n)) ∧ w = w' := nearR n 1 1000 w
theorem near0 (n : Int) (w : World) : Calls Try.prog 36 #[.int .i64 n, .int .i64 0, .int .i64 1000] w fun e w' => e = .returned (.int .i64 (rn n)) ∧ w = w' := nearR n 0 1000 w
theorem spanR17 (n : Int) (w : World) : Calls Try.prog 43 #[.int .i64 n] w fun e w' => e = .returned (.int .i64 (hd n)) ∧ w = w' := by
  go_enter Try.func43, Try.ntmps43
  go_wp2_with (first | (go_at_call 36; refine (near1 _ _).mono ?_; rintro e w' ⟨rfl, rfl⟩))
  go_ret
  exact ⟨rfl, rfl⟩
theorem renR (c : CfgV) (w : World) : Calls Try.prog 45 #[.agg #[.int .i64 c.ca, .int .i64 c.fl, .int .i64 c.ft, .int .i64 c.se, .int .i64 c.dr, .int .i64 c.dw, .int .i64 c.ho, .int .i64 c.re, .int .i64 c.yi, .int .i64 c.qu, .int .i64 c.qo, .int .i64 c.lo, .int .i64 c.sl, .int .i64 c.rt, .int .i64 c.cp, .int .i64 c.tr, .int .i64 c.de, .int .i64 c.wi]] w fun e w' => e = .returned (.int .i64 (rn c.re)) ∧ Since w w' := by
  go_enter Try.func45, Try.ntmps45
  go_wp2_with (first | (go_at_call 36; refine (near0 _ _).mono ?_; rintro e w' ⟨rfl, rfl⟩))
  go_ret
  exact ⟨rfl, (by repeat (first | exact Since.refl _ | assumption | refine Since.setCell ?_ (by first | (simp; done) | (simp; omega)) _ | refine Since.drew ?_ | refine Since.drewN ?_ _ | refine Since.alloc ?_ _ | refine Since.trans ?_ (by assumption) | refine Since.trans ?_ (Hid.out (by assumption))))⟩
theorem tripT (c : CfgV) (w : World) : Calls Try.prog 42 #[.agg #[.int .i64 c.ca, .int .i64 c.fl, .int .i64 c.ft, .int .i64 c.se, .int .i64 c.dr, .int .i64 c.dw, .int .i64 c.ho, .int .i64 c.re, .int .i64 c.yi, .int .i64 c.qu, .int .i64 c.qo, .int .i64 c.lo, .int .i64 c.sl, .int .i64 c.rt, .int .i64 c.cp, .int .i64 c.tr, .int .i64 c.de, .int .i64 c.wi]] w fun e w' => e = .returned (.int .i64 (trV c)) ∧ Since w w' := by
  have f1 := fl_lo c.fl
  have f2 := fl_hi c.fl
  have f3 := hd_lo c.dr
  have f4 := hd_hi c.dr
  go_enter Try.func42, Try.ntmps42
  go_wp2_with fail
  go_quiet ((first | (go_at_call 37; exact quiet_eq (floorsT _ _)) | (go_at_call 44; exact quiet_eq (spanT _ _))))
  go_wp2
  go_ret
  exact ⟨ret_int (by unfold trV; simp (disch := omega) only [wr]), (by repeat (first | exact Since.refl _ | assumption | refine Since.setCell ?_ (by first | (simp; done) | (simp; omega)) _ | refine Since.drew ?_ | refine Since.drewN ?_ _ | refine Since.alloc ?_ _ | refine Since.trans ?_ (by assumption) | refine Since.trans ?_ (Hid.out (by assumption))))⟩
theorem tripR (c : CfgV) (w : World) : Calls Try.prog 24 #[.agg #[.int .i64 c.ca, .int .i64 c.fl, .int .i64 c.ft, .int .i64 c.se, .int .i64 c.dr, .int .i64 c.dw, .int .i64 c.ho, .int .i64 c.re, .int .i64 c.yi, .int .i64 c.qu, .int .i64 c.qo, .int .i64 c.lo, .int .i64 c.sl, .int .i64 c.rt, .int .i64 c.cp, .int .i64 c.tr, .int .i64 c.de, .int .i64 c.wi]] w fun e w' => e = .returned (.int .i64 (trV c)) ∧ Since w w' := by
  have f1 := fl_lo c.fl
  have f2 := fl_hi c.fl
  have f3 := hd_lo c.dr
  have f4 := hd_hi c.dr
  go_enter Try.func24, Try.ntmps24
  go_wp2_with fail
  go_quiet ((first | (go_at_call 40; exact quiet_eq (floorsR _ _)) | (go_at_call 43; exact quiet_eq (spanR17 _ _))))
  go_wp2
  go_ret
  exact ⟨ret_int (by unfold trV; simp (disch := omega) only [wr]), (by repeat (first | exact Since.refl _ | assumption | refine Since.setCell ?_ (by first | (simp; done) | (simp; omega)) _ | refine Since.drew ?_ | refine Since.drewN ?_ _ | refine Since.alloc ?_ _ | refine Since.trans ?_ (by assumption) | refine Since.trans ?_ (Hid.out (by assumption))))⟩
theorem tripsT (c : CfgV) (w : World) : Calls Try.prog 23 #[.agg #[.int .i64 c.ca, .int .i64 c.fl, .int .i64 c.ft, .int .i64 c.se, .int .i64 c.dr, .int .i64 c.dw, .int .i64 c.ho, .int .i64 c.re, .int .i64 c.yi, .int .i64 c.qu, .int .i64 c.qo, .int .i64 c.lo, .int .i64 c.sl, .int .i64 c.rt, .int .i64 c.cp, .int .i64 c.tr, .int .i64 c.de, .int .i64 c.wi]] w fun e w' => e = .returned (.int .i64 (2 * trV c)) ∧ Since w w' := by
  have f1 := tr_lo c
  have f2 := tr_hi c
  go_enter Try.func23, Try.ntmps23
  go_wp2_with (first | (go_at_call 42; refine (tripT _ _).mono ?_; rintro e w1 ⟨rfl, hb1⟩))
  go_ret
  exact ⟨rfl, (by repeat (first | exact Since.refl _ | assumption | refine Since.setCell ?_ (by first | (simp; done) | (simp; omega)) _ | refine Since.drew ?_ | refine Since.drewN ?_ _ | refine Since.alloc ?_ _ | refine Since.trans ?_ (by assumption) | refine Since.trans ?_ (Hid.out (by assumption))))⟩
theorem rideT (c : CfgV) (w : World) : Calls Try.prog 29 #[.agg #[.int .i64 c.ca, .int .i64 c.fl, .int .i64 c.ft, .int .i64 c.se, .int .i64 c.dr, .int .i64 c.dw, .int .i64 c.ho, .int .i64 c.re, .int .i64 c.yi, .int .i64 c.qu, .int .i64 c.qo, .int .i64 c.lo, .int .i64 c.sl, .int .i64 c.rt, .int .i64 c.cp, .int .i64 c.tr, .int .i64 c.de, .int .i64 c.wi]] w fun e w' => e = .returned (.int .i64 (2 * trV c + 24)) ∧ Since w w' := by
  have f1 := tr_lo c
  have f2 := tr_hi c
  go_enter Try.func29, Try.ntmps29
  go_wp2_with (first | (go_at_call 23; refine (tripsT _ _).mono ?_; rintro e w1 ⟨rfl, hb1⟩))
  go_ret
  exact ⟨rfl, (by repeat (first | exact Since.refl _ | assumption | refine Since.setCell ?_ (by first | (simp; done) | (simp; omega)) _ | refine Since.drew ?_ | refine Since.drewN ?_ _ | refine Since.alloc ?_ _ | refine Since.trans ?_ (by assumption) | refine Since.trans ?_ (Hid.out (by assumption))))⟩
set_option maxHeartbeats 1000000 in
theorem leaseT (c : CfgV) (w : World) : Calls Try.prog 25 #[.agg #[.int .i64 c.ca, .int .i64 c.fl, .int .i64 c.ft, .int .i64 c.se, .int .i64 c.dr, .int .i64 c.dw, .int .i64 c.ho, .int .i64 c.re, .int .i64 c.yi, .int .i64 c.qu, .int .i64 c.qo, .int .i64 c.lo, .int .i64 c.sl, .int .i64 c.rt, .int .i64 c.cp, .int .i64 c.tr, .int .i64 c.de, .int .i64 c.wi]] w fun e w' => e = .returned (.int .i64 (leV c)) ∧ Since w w' := by
  have f1 := tr_lo c
  have f2 := tr_hi c
  have f3 := hd_lo c.ho
  have f4 := hd_hi c.ho
  have f5 := rn_lo c.re
  have f6 := rn_hi c.re
  obtain ⟨f7, f8⟩ := mul_bd (hd c.ho) (2 + rn c.re) 1000 1002 (by omega) f4 (by omega) (by omega)
  go_enter Try.func25, Try.ntmps25
  go_upto_region 1 with fail
  obtain ⟨w1, hw1⟩ : ∃ w1, w1 = w.alloc (.cells #[.int .i64 c.ca, .int .i64 c.fl, .int .i64 c.ft, .int .i64 c.se, .int .i64 c.dr, .int .i64 c.dw, .int .i64 c.ho, .int .i64 c.re, .int .i64 c.yi, .int .i64 c.qu, .int .i64 c.qo, .int .i64 c.lo, .int .i64 c.sl, .int .i64 c.rt, .int .i64 c.cp, .int .i64 c.tr, .int .i64 c.de, .int .i64 c.wi] 30) := ⟨_, rfl⟩
  rw [← hw1]
  have BC : Blk w1 w.heap.size 30 #[.int .i64 c.ca, .int .i64 c.fl, .int .i64 c.ft, .int .i64 c.se, .int .i64 c.dr, .int .i64 c.dw, .int .i64 c.ho, .int .i64 c.re, .int .i64 c.yi, .int .i64 c.qu, .int .i64 c.qo, .int .i64 c.lo, .int .i64 c.sl, .int .i64 c.rt, .int .i64 c.cp, .int .i64 c.tr, .int .i64 c.de, .int .i64 c.wi] := by rw [hw1]; exact Blk.new w _ _
  have c1 : w1.cell? ⟨w.heap.size, 1, none⟩ = some (.int .i64 c.fl) := BC.cell 1
  have c4 : w1.cell? ⟨w.heap.size, 4, none⟩ = some (.int .i64 c.dr) := BC.cell 4
  have c5 : w1.cell? ⟨w.heap.size, 5, none⟩ = some (.int .i64 c.dw) := BC.cell 5
  have c6 : w1.cell? ⟨w.heap.size, 6, none⟩ = some (.int .i64 c.ho) := BC.cell 6
  have c7 : w1.cell? ⟨w.heap.size, 7, none⟩ = some (.int .i64 c.re) := BC.cell 7
  have hs1 : Since w w1 := by rw [hw1]; exact (Since.refl _).alloc _
  have HS1 := Lib.hid hs1
  clear hs1 hw1
  have HBC := Lib.hid BC
  go_cut [3] (fun s3 wx => s3 = .int .i64 (rn c.re) ∧ Hid (Since w wx ∧ Blk wx w.heap.size 30 #[.int .i64 c.ca, .int .i64 c.fl, .int .i64 c.ft, .int .i64 c.se, .int .i64 c.dr, .int .i64 c.dw, .int .i64 c.ho, .int .i64 c.re, .int .i64 c.yi, .int .i64 c.qu, .int .i64 c.qo, .int .i64 c.lo, .int .i64 c.sl, .int .i64 c.rt, .int .i64 c.cp, .int .i64 c.tr, .int .i64 c.de, .int .i64 c.wi]))
  case first =>
    by_cases r0 : c.re < 0
    · have HR := Lib.hid (show rn c.re = 0 by unfold rn; rw [if_pos r0])
      go_wp2_with fail
      go_meet
      case rel => exact ⟨by rw [HR.out], Lib.hid ⟨HS1.out, HBC.out⟩⟩
    · by_cases r1 : 1000 < c.re
      · have HR := Lib.hid (show rn c.re = 1000 by unfold rn; rw [if_neg r0, if_pos r1])
        go_wp2_with fail
        go_meet
        case rel => exact ⟨by rw [HR.out], Lib.hid ⟨HS1.out, HBC.out⟩⟩
      · have HR := Lib.hid (show rn c.re = c.re by unfold rn; rw [if_neg r0, if_neg r1])
        go_wp2_with fail
        go_meet
        case rel => exact ⟨by rw [HR.out], Lib.hid ⟨HS1.out, HBC.out⟩⟩
  case rest =>
    obtain ⟨rfl, H2⟩ := hcut
    clear BC c1 c4 c5 c6 c7 HBC HS1
    obtain ⟨hs1, BC⟩ := H2.out
    have c6 : wc.cell? ⟨w.heap.size, 6, none⟩ = some (.int .i64 c.ho) := BC.cell 6
    have HS1 := Lib.hid hs1
    clear hs1 H2
    go_wp2_with fail
    have hrK : ∀ W W' : World, Since W W' → (Since wc W ∧ Blk W (w.heap.size) 30 #[.int .i64 c.ca, .int .i64 c.fl, .int .i64 c.ft, .int .i64 c.se, .int .i64 c.dr, .int .i64 c.dw, .int .i64 c.ho, .int .i64 c.re, .int .i64 c.yi, .int .i64 c.qu, .int .i64 c.qo, .int .i64 c.lo, .int .i64 c.sl, .int .i64 c.rt, .int .i64 c.cp, .int .i64 c.tr, .int .i64 c.de, .int .i64 c.wi] ∧ W.cell? ⟨w.heap.size, 6, none⟩ = some (.int .i64 c.ho)) → (Since wc W' ∧ Blk W' (w.heap.size) 30 #[.int .i64 c.ca, .int .i64 c.fl, .int .i64 c.ft, .int .i64 c.se, .int .i64 c.dr, .int .i64 c.dw, .int .i64 c.ho, .int .i64 c.re, .int .i64 c.yi, .int .i64 c.qu, .int .i64 c.qo, .int .i64 c.lo, .int .i64 c.sl, .int .i64 c.rt, .int .i64 c.cp, .int .i64 c.tr, .int .i64 c.de, .int .i64 c.wi] ∧ W'.cell? ⟨w.heap.size, 6, none⟩ = some (.int .i64 c.ho)) := fun W W' k ⟨h, h0, h1⟩ => ⟨h.trans k, keep_blk k h0, keep_cell k h1⟩
    have hrS : (fun W : World => Since wc W ∧ Blk W (w.heap.size) 30 #[.int .i64 c.ca, .int .i64 c.fl, .int .i64 c.ft, .int .i64 c.se, .int .i64 c.dr, .int .i64 c.dw, .int .i64 c.ho, .int .i64 c.re, .int .i64 c.yi, .int .i64 c.qu, .int .i64 c.qo, .int .i64 c.lo, .int .i64 c.sl, .int .i64 c.rt, .int .i64 c.cp, .int .i64 c.tr, .int .i64 c.de, .int .i64 c.wi] ∧ W.cell? ⟨w.heap.size, 6, none⟩ = some (.int .i64 c.ho)) (wc) := ⟨Since.refl _, by first | assumption | (simp; done), by first | assumption | (simp; done)⟩
    have HRK := Lib.hid hrK
    have HRD := Lib.hid (show (fun W : World => Since wc W ∧ Blk W (w.heap.size) 30 #[.int .i64 c.ca, .int .i64 c.fl, .int .i64 c.ft, .int .i64 c.se, .int .i64 c.dr, .int .i64 c.dw, .int .i64 c.ho, .int .i64 c.re, .int .i64 c.yi, .int .i64 c.qu, .int .i64 c.qo, .int .i64 c.lo, .int .i64 c.sl, .int .i64 c.rt, .int .i64 c.cp, .int .i64 c.tr, .int .i64 c.de, .int .i64 c.wi] ∧ W.cell? ⟨w.heap.size, 6, none⟩ = some (.int .i64 c.ho)) (World.drew (wc)) from ⟨(Since.refl _).drew, hrS.2⟩)
    clear hrK hrS
    refine wp_region_held_drew (S := fun W : World => Since wc W ∧ Blk W (w.heap.size) 30 #[.int .i64 c.ca, .int .i64 c.fl, .int .i64 c.ft, .int .i64 c.se, .int .i64 c.dr, .int .i64 c.dw, .int .i64 c.ho, .int .i64 c.re, .int .i64 c.yi, .int .i64 c.qu, .int .i64 c.qo, .int .i64 c.lo, .int .i64 c.sl, .int .i64 c.rt, .int .i64 c.cp, .int .i64 c.tr, .int .i64 c.de, .int .i64 c.wi] ∧ W.cell? ⟨w.heap.size, 6, none⟩ = some (.int .i64 c.ho)) (by kernel_rfl) HRD.out (fun hHeld => ?_)
    refine wpAnyH_take (i := 0) (oi := ?o_0) (v := .agg #[.int .i64 c.ca, .int .i64 c.fl, .int .i64 c.ft, .int .i64 c.se, .int .i64 c.dr, .int .i64 c.dw, .int .i64 c.ho, .int .i64 c.re, .int .i64 c.yi, .int .i64 c.qu, .int .i64 c.qo, .int .i64 c.lo, .int .i64 c.sl, .int .i64 c.rt, .int .i64 c.cp, .int .i64 c.tr, .int .i64 c.de, .int .i64 c.wi]) ?h_0 (by kernel_rfl) (by kernel_rfl) (by kernel_rfl) ?q_0 ?y_0 (by assumption) ?_
    case h_0 => (first | (simp only [List.getElem?_toArray, List.getElem?_cons_zero, List.getElem?_cons_succ]; done) | (simp only [List.getElem?_toArray, List.getElem?_cons_zero, List.getElem?_cons_succ]; exact rfl))
    case q_0 => exact fun _ _ _ h => h
    case y_0 => exact Or.inl ⟨rfl, fun w hSw => exec_load_row 30 (.tmp 1) _ hSw.2.1 rfl rfl Try.underlying30 rfl (by kernel_rfl)⟩
    (try simp only [Act.put, List.setIfInBounds_toArray, List.set_cons_zero, List.set_cons_succ])
    refine wpAnyH_take (i := 2) (oi := ?o_2) (v := ?v_2) ?h_2 (by kernel_rfl) (by kernel_rfl) (by kernel_rfl) ?q_2 ?y_2 (by assumption) ?_
    case h_2 => (first | (simp only [List.getElem?_toArray, List.getElem?_cons_zero, List.getElem?_cons_succ]; done) | (simp only [List.getElem?_toArray, List.getElem?_cons_zero, List.getElem?_cons_succ]; exact rfl))
    case q_2 => exact fun _ _ _ h => h
    case y_2 => (refine Or.inl ⟨rfl, ?_⟩; intro w hSw; (try dsimp only at hSw); go_simp; (try with_reducible rfl))
    (try simp only [Act.put, List.setIfInBounds_toArray, List.set_cons_zero, List.set_cons_succ])
    refine wpAnyH_take (i := 3) (oi := ?o_3) (v := ?v_3) ?h_3 (by kernel_rfl) (by kernel_rfl) (by kernel_rfl) ?q_3 ?y_3 (by assumption) ?_
    case h_3 => (first | (simp only [List.getElem?_toArray, List.getElem?_cons_zero, List.getElem?_cons_succ]; done) | (simp only [List.getElem?_toArray, List.getElem?_cons_zero, List.getElem?_cons_succ]; exact rfl))
    case q_3 => exact fun _ _ _ h => h
    case y_3 => (refine Or.inl ⟨rfl, ?_⟩; intro w hSw; (try dsimp only at hSw); go_simp; (try with_reducible rfl))
    (try simp only [Act.put, List.setIfInBounds_toArray, List.set_cons_zero, List.set_cons_succ])
    refine wpAnyH_take (i := 5) (oi := ?o_5) (v := .int .i64 (rn c.re)) ?h_5 (by kernel_rfl) (by kernel_rfl) (by kernel_rfl) ?q_5 ?y_5 (by assumption) ?_
    case h_5 => (first | (simp only [List.getElem?_toArray, List.getElem?_cons_zero, List.getElem?_cons_succ]; done) | (simp only [List.getElem?_toArray, List.getElem?_cons_zero, List.getElem?_cons_succ]; exact rfl))
    case q_5 => exact fun _ _ _ h => h
    case y_5 => (refine Or.inl ⟨rfl, ?_⟩; intro w hSw; (try dsimp only at hSw); go_simp; (try with_reducible rfl))
    (try simp only [Act.put, List.setIfInBounds_toArray, List.set_cons_zero, List.set_cons_succ])
    refine wpAnyH_take (i := 6) (oi := ?o_6) (v := ?v_6) ?h_6 (by kernel_rfl) (by kernel_rfl) (by kernel_rfl) ?q_6 ?y_6 (by assumption) ?_
    case h_6 => (first | (simp only [List.getElem?_toArray, List.getElem?_cons_zero, List.getElem?_cons_succ]; done) | (simp only [List.getElem?_toArray, List.getElem?_cons_zero, List.getElem?_cons_succ]; exact rfl))
    case q_6 => exact fun _ _ _ h => h
    case y_6 => (refine Or.inl ⟨rfl, ?_⟩; intro w hSw; (try dsimp only at hSw); go_simp; (try with_reducible rfl))
    (try simp only [Act.put, List.setIfInBounds_toArray, List.set_cons_zero, List.set_cons_succ])
    refine wpAnyH_ready (rs := [1]) (by kernel_rfl) (by simp) ?_
    refine AllReadyH.cons (o := ?o_1) ?h_1 (fun K hK => ?_) AllReadyH.nil
    case h_1 => (first | (simp only [List.getElem?_toArray, List.getElem?_cons_zero, List.getElem?_cons_succ]; done) | (simp only [List.getElem?_toArray, List.getElem?_cons_zero, List.getElem?_cons_succ]; exact rfl))
    (try go_simp)
    (go_at_call 23; refine (tripsT c _).mono ?_; rintro e w9 ⟨rfl, hb9⟩)
    (try go_wp2_with fail)
    refine hK.out _ _ ?_ (fun hHeld2 => ?_)
    · first | exact HRD.out | exact hHeld | (apply HRK.out; assumption; assumption)
    clear hK K hHeld
    have hHeld := hHeld2
    clear hHeld2
    (try simp only [Act.put, List.setIfInBounds_toArray, List.set_cons_zero, List.set_cons_succ])
    refine wpAnyH_ready (rs := [4]) (by kernel_rfl) (by simp) ?_
    refine AllReadyH.cons (o := ?o_4) ?h_4 (fun K hK => ?_) AllReadyH.nil
    case h_4 => (first | (simp only [List.getElem?_toArray, List.getElem?_cons_zero, List.getElem?_cons_succ]; done) | (simp only [List.getElem?_toArray, List.getElem?_cons_zero, List.getElem?_cons_succ]; exact rfl))
    (try go_simp)
    (go_at_call 44; refine (spanT _ _).mono ?_; rintro e w' ⟨rfl, rfl⟩)
    (try go_wp2_with fail)
    refine hK.out _ _ ?_ (fun hHeld2 => ?_)
    · first | exact HRD.out | exact hHeld | (apply HRK.out; assumption; assumption)
    clear hK K hHeld
    have hHeld := hHeld2
    clear hHeld2
    (try simp only [Act.put, List.setIfInBounds_toArray, List.set_cons_zero, List.set_cons_succ])
    refine wpAnyH_take (i := 7) (oi := ?o_7) (v := ?v_7) ?h_7 (by kernel_rfl) (by kernel_rfl) (by kernel_rfl) ?q_7 ?y_7 (by assumption) ?_
    case h_7 => (first | (simp only [List.getElem?_toArray, List.getElem?_cons_zero, List.getElem?_cons_succ]; done) | (simp only [List.getElem?_toArray, List.getElem?_cons_zero, List.getElem?_cons_succ]; exact rfl))
    case q_7 => exact fun _ _ _ h => h
    case y_7 => (refine Or.inl ⟨rfl, ?_⟩; intro w hSw; (try dsimp only at hSw); go_simp; (try with_reducible rfl))
    (try simp only [Act.put, List.setIfInBounds_toArray, List.set_cons_zero, List.set_cons_succ])
    refine wpAnyH_take (i := 8) (oi := ?o_8) (v := ?v_8) ?h_8 (by kernel_rfl) (by kernel_rfl) (by kernel_rfl) ?q_8 ?y_8 (by assumption) ?_
    case h_8 => (first | (simp only [List.getElem?_toArray, List.getElem?_cons_zero, List.getElem?_cons_succ]; done) | (simp only [List.getElem?_toArray, List.getElem?_cons_zero, List.getElem?_cons_succ]; exact rfl))
    case q_8 => exact fun _ _ _ h => h
    case y_8 => (refine Or.inl ⟨rfl, ?_⟩; intro w hSw; (try dsimp only at hSw); go_simp; (try with_reducible rfl))
    (try simp only [Act.put, List.setIfInBounds_toArray, List.set_cons_zero, List.set_cons_succ])
    refine wpAnyH_take (i := 9) (oi := ?o_9) (v := ?v_9) ?h_9 (by kernel_rfl) (by kernel_rfl) (by kernel_rfl) ?q_9 ?y_9 (by assumption) ?_
    case h_9 => (first | (simp only [List.getElem?_toArray, List.getElem?_cons_zero, List.getElem?_cons_succ]; done) | (simp only [List.getElem?_toArray, List.getElem?_cons_zero, List.getElem?_cons_succ]; exact rfl))
    case q_9 => exact fun _ _ _ h => h
    case y_9 => (refine Or.inl ⟨rfl, ?_⟩; intro w hSw; (try dsimp only at hSw); go_simp; (try with_reducible rfl))
    (try simp only [Act.put, List.setIfInBounds_toArray, List.set_cons_zero, List.set_cons_succ])
    refine wpAnyH_done (by kernel_rfl) ?_ _
    obtain ⟨hs2, _⟩ := hHeld
    have HS2 := Lib.hid hs2
    clear hs2 HRK HRD
    go_wp2
    go_ret
    exact ⟨ret_int (by unfold leV; simp (disch := omega) only [wr]; (try omega)), HS1.out.trans HS2.out⟩
set_option maxHeartbeats 1000000 in
theorem boundR (c : CfgV) (w : World) : Calls Try.prog 26 #[.agg #[.int .i64 c.ca, .int .i64 c.fl, .int .i64 c.ft, .int .i64 c.se, .int .i64 c.dr, .int .i64 c.dw, .int .i64 c.ho, .int .i64 c.re, .int .i64 c.yi, .int .i64 c.qu, .int .i64 c.qo, .int .i64 c.lo, .int .i64 c.sl, .int .i64 c.rt, .int .i64 c.cp, .int .i64 c.tr, .int .i64 c.de, .int .i64 c.wi]] w fun e w' => e = .returned (.int .i64 (leV c)) ∧ Since w w' := by
  have f1 := tr_lo c
  have f2 := tr_hi c
  have f3 := hd_lo c.ho
  have f4 := hd_hi c.ho
  have f5 := rn_lo c.re
  have f6 := rn_hi c.re
  obtain ⟨f7, f8⟩ := mul_bd (hd c.ho) (2 + rn c.re) 1000 1002 (by omega) f4 (by omega) (by omega)
  go_enter Try.func26, Try.ntmps26
  go_upto_region 1 with fail
  obtain ⟨w1, hw1⟩ : ∃ w1, w1 = w.alloc (.cells #[.int .i64 c.ca, .int .i64 c.fl, .int .i64 c.ft, .int .i64 c.se, .int .i64 c.dr, .int .i64 c.dw, .int .i64 c.ho, .int .i64 c.re, .int .i64 c.yi, .int .i64 c.qu, .int .i64 c.qo, .int .i64 c.lo, .int .i64 c.sl, .int .i64 c.rt, .int .i64 c.cp, .int .i64 c.tr, .int .i64 c.de, .int .i64 c.wi] 30) := ⟨_, rfl⟩
  rw [← hw1]
  have BC : Blk w1 w.heap.size 30 #[.int .i64 c.ca, .int .i64 c.fl, .int .i64 c.ft, .int .i64 c.se, .int .i64 c.dr, .int .i64 c.dw, .int .i64 c.ho, .int .i64 c.re, .int .i64 c.yi, .int .i64 c.qu, .int .i64 c.qo, .int .i64 c.lo, .int .i64 c.sl, .int .i64 c.rt, .int .i64 c.cp, .int .i64 c.tr, .int .i64 c.de, .int .i64 c.wi] := by rw [hw1]; exact Blk.new w _ _
  have c1 : w1.cell? ⟨w.heap.size, 1, none⟩ = some (.int .i64 c.fl) := BC.cell 1
  have c4 : w1.cell? ⟨w.heap.size, 4, none⟩ = some (.int .i64 c.dr) := BC.cell 4
  have c5 : w1.cell? ⟨w.heap.size, 5, none⟩ = some (.int .i64 c.dw) := BC.cell 5
  have c6 : w1.cell? ⟨w.heap.size, 6, none⟩ = some (.int .i64 c.ho) := BC.cell 6
  have c7 : w1.cell? ⟨w.heap.size, 7, none⟩ = some (.int .i64 c.re) := BC.cell 7
  have hs1 : Since w w1 := by rw [hw1]; exact (Since.refl _).alloc _
  have HS1 := Lib.hid hs1
  clear hs1 hw1
  have hrK : ∀ W W' : World, Since W W' → (Since w1 W ∧ Blk W (w.heap.size) 30 #[.int .i64 c.ca, .int .i64 c.fl, .int .i64 c.ft, .int .i64 c.se, .int .i64 c.dr, .int .i64 c.dw, .int .i64 c.ho, .int .i64 c.re, .int .i64 c.yi, .int .i64 c.qu, .int .i64 c.qo, .int .i64 c.lo, .int .i64 c.sl, .int .i64 c.rt, .int .i64 c.cp, .int .i64 c.tr, .int .i64 c.de, .int .i64 c.wi] ∧ W.cell? ⟨w.heap.size, 6, none⟩ = some (.int .i64 c.ho)) → (Since w1 W' ∧ Blk W' (w.heap.size) 30 #[.int .i64 c.ca, .int .i64 c.fl, .int .i64 c.ft, .int .i64 c.se, .int .i64 c.dr, .int .i64 c.dw, .int .i64 c.ho, .int .i64 c.re, .int .i64 c.yi, .int .i64 c.qu, .int .i64 c.qo, .int .i64 c.lo, .int .i64 c.sl, .int .i64 c.rt, .int .i64 c.cp, .int .i64 c.tr, .int .i64 c.de, .int .i64 c.wi] ∧ W'.cell? ⟨w.heap.size, 6, none⟩ = some (.int .i64 c.ho)) := fun W W' k ⟨h, h0, h1⟩ => ⟨h.trans k, keep_blk k h0, keep_cell k h1⟩
  have hrS : (fun W : World => Since w1 W ∧ Blk W (w.heap.size) 30 #[.int .i64 c.ca, .int .i64 c.fl, .int .i64 c.ft, .int .i64 c.se, .int .i64 c.dr, .int .i64 c.dw, .int .i64 c.ho, .int .i64 c.re, .int .i64 c.yi, .int .i64 c.qu, .int .i64 c.qo, .int .i64 c.lo, .int .i64 c.sl, .int .i64 c.rt, .int .i64 c.cp, .int .i64 c.tr, .int .i64 c.de, .int .i64 c.wi] ∧ W.cell? ⟨w.heap.size, 6, none⟩ = some (.int .i64 c.ho)) (w1) := ⟨Since.refl _, by first | assumption | (simp; done), by first | assumption | (simp; done)⟩
  have HRK := Lib.hid hrK
  have HRD := Lib.hid (show (fun W : World => Since w1 W ∧ Blk W (w.heap.size) 30 #[.int .i64 c.ca, .int .i64 c.fl, .int .i64 c.ft, .int .i64 c.se, .int .i64 c.dr, .int .i64 c.dw, .int .i64 c.ho, .int .i64 c.re, .int .i64 c.yi, .int .i64 c.qu, .int .i64 c.qo, .int .i64 c.lo, .int .i64 c.sl, .int .i64 c.rt, .int .i64 c.cp, .int .i64 c.tr, .int .i64 c.de, .int .i64 c.wi] ∧ W.cell? ⟨w.heap.size, 6, none⟩ = some (.int .i64 c.ho)) (World.drew (w1)) from ⟨(Since.refl _).drew, hrS.2⟩)
  clear hrK hrS
  refine wp_region_held_drew (S := fun W : World => Since w1 W ∧ Blk W (w.heap.size) 30 #[.int .i64 c.ca, .int .i64 c.fl, .int .i64 c.ft, .int .i64 c.se, .int .i64 c.dr, .int .i64 c.dw, .int .i64 c.ho, .int .i64 c.re, .int .i64 c.yi, .int .i64 c.qu, .int .i64 c.qo, .int .i64 c.lo, .int .i64 c.sl, .int .i64 c.rt, .int .i64 c.cp, .int .i64 c.tr, .int .i64 c.de, .int .i64 c.wi] ∧ W.cell? ⟨w.heap.size, 6, none⟩ = some (.int .i64 c.ho)) (by kernel_rfl) HRD.out (fun hHeld => ?_)
  refine wpAnyH_take (i := 0) (oi := ?o_0) (v := .agg #[.int .i64 c.ca, .int .i64 c.fl, .int .i64 c.ft, .int .i64 c.se, .int .i64 c.dr, .int .i64 c.dw, .int .i64 c.ho, .int .i64 c.re, .int .i64 c.yi, .int .i64 c.qu, .int .i64 c.qo, .int .i64 c.lo, .int .i64 c.sl, .int .i64 c.rt, .int .i64 c.cp, .int .i64 c.tr, .int .i64 c.de, .int .i64 c.wi]) ?h_0 (by kernel_rfl) (by kernel_rfl) (by kernel_rfl) ?q_0 ?y_0 (by assumption) ?_
  case h_0 => (first | (simp only [List.getElem?_toArray, List.getElem?_cons_zero, List.getElem?_cons_succ]; done) | (simp only [List.getElem?_toArray, List.getElem?_cons_zero, List.getElem?_cons_succ]; exact rfl))
  case q_0 => exact fun _ _ _ h => h
  case y_0 => exact Or.inl ⟨rfl, fun w hSw => exec_load_row 30 (.tmp 1) _ hSw.2.1 rfl rfl Try.underlying30 rfl (by kernel_rfl)⟩
  (try simp only [Act.put, List.setIfInBounds_toArray, List.set_cons_zero, List.set_cons_succ])
  refine wpAnyH_take (i := 3) (oi := ?o_3) (v := ?v_3) ?h_3 (by kernel_rfl) (by kernel_rfl) (by kernel_rfl) ?q_3 ?y_3 (by assumption) ?_
  case h_3 => (first | (simp only [List.getElem?_toArray, List.getElem?_cons_zero, List.getElem?_cons_succ]; done) | (simp only [List.getElem?_toArray, List.getElem?_cons_zero, List.getElem?_cons_succ]; exact rfl))
  case q_3 => exact fun _ _ _ h => h
  case y_3 => (refine Or.inl ⟨rfl, ?_⟩; intro w hSw; (try dsimp only at hSw); go_simp; (try with_reducible rfl))
  (try simp only [Act.put, List.setIfInBounds_toArray, List.set_cons_zero, List.set_cons_succ])
  refine wpAnyH_take (i := 4) (oi := ?o_4) (v := ?v_4) ?h_4 (by kernel_rfl) (by kernel_rfl) (by kernel_rfl) ?q_4 ?y_4 (by assumption) ?_
  case h_4 => (first | (simp only [List.getElem?_toArray, List.getElem?_cons_zero, List.getElem?_cons_succ]; done) | (simp only [List.getElem?_toArray, List.getElem?_cons_zero, List.getElem?_cons_succ]; exact rfl))
  case q_4 => exact fun _ _ _ h => h
  case y_4 => (refine Or.inl ⟨rfl, ?_⟩; intro w hSw; (try dsimp only at hSw); go_simp; (try with_reducible rfl))
  (try simp only [Act.put, List.setIfInBounds_toArray, List.set_cons_zero, List.set_cons_succ])
  refine wpAnyH_take (i := 6) (oi := ?o_6) (v := .agg #[.int .i64 c.ca, .int .i64 c.fl, .int .i64 c.ft, .int .i64 c.se, .int .i64 c.dr, .int .i64 c.dw, .int .i64 c.ho, .int .i64 c.re, .int .i64 c.yi, .int .i64 c.qu, .int .i64 c.qo, .int .i64 c.lo, .int .i64 c.sl, .int .i64 c.rt, .int .i64 c.cp, .int .i64 c.tr, .int .i64 c.de, .int .i64 c.wi]) ?h_6 (by kernel_rfl) (by kernel_rfl) (by kernel_rfl) ?q_6 ?y_6 (by assumption) ?_
  case h_6 => (first | (simp only [List.getElem?_toArray, List.getElem?_cons_zero, List.getElem?_cons_succ]; done) | (simp only [List.getElem?_toArray, List.getElem?_cons_zero, List.getElem?_cons_succ]; exact rfl))
  case q_6 => exact fun _ _ _ h => h
  case y_6 => exact Or.inl ⟨rfl, fun w hSw => exec_load_row 30 (.tmp 1) _ hSw.2.1 rfl rfl Try.underlying30 rfl (by kernel_rfl)⟩
  (try simp only [Act.put, List.setIfInBounds_toArray, List.set_cons_zero, List.set_cons_succ])
  refine wpAnyH_ready (rs := [1]) (by kernel_rfl) (by simp) ?_
  refine AllReadyH.cons (o := ?o_1) ?h_1 (fun K hK => ?_) AllReadyH.nil
  case h_1 => (first | (simp only [List.getElem?_toArray, List.getElem?_cons_zero, List.getElem?_cons_succ]; done) | (simp only [List.getElem?_toArray, List.getElem?_cons_zero, List.getElem?_cons_succ]; exact rfl))
  (try go_simp)
  (go_at_call 24; refine (tripR c _).mono ?_; rintro e w9 ⟨rfl, hb9⟩)
  (try go_wp2_with fail)
  refine hK.out _ _ ?_ (fun hHeld2 => ?_)
  · first | exact HRD.out | exact hHeld | (apply HRK.out; assumption; assumption)
  clear hK K hHeld
  have hHeld := hHeld2
  clear hHeld2
  (try simp only [Act.put, List.setIfInBounds_toArray, List.set_cons_zero, List.set_cons_succ])
  refine wpAnyH_take (i := 2) (oi := ?o_2) (v := ?v_2) ?h_2 (by kernel_rfl) (by kernel_rfl) (by kernel_rfl) ?q_2 ?y_2 (by assumption) ?_
  case h_2 => (first | (simp only [List.getElem?_toArray, List.getElem?_cons_zero, List.getElem?_cons_succ]; done) | (simp only [List.getElem?_toArray, List.getElem?_cons_zero, List.getElem?_cons_succ]; exact rfl))
  case q_2 => exact fun _ _ _ h => h
  case y_2 => (refine Or.inl ⟨rfl, ?_⟩; intro w hSw; (try dsimp only at hSw); go_simp; (try with_reducible rfl))
  (try simp only [Act.put, List.setIfInBounds_toArray, List.set_cons_zero, List.set_cons_succ])
  refine wpAnyH_ready (rs := [5]) (by kernel_rfl) (by simp) ?_
  refine AllReadyH.cons (o := ?o_5) ?h_5 (fun K hK => ?_) AllReadyH.nil
  case h_5 => (first | (simp only [List.getElem?_toArray, List.getElem?_cons_zero, List.getElem?_cons_succ]; done) | (simp only [List.getElem?_toArray, List.getElem?_cons_zero, List.getElem?_cons_succ]; exact rfl))
  (try go_simp)
  (go_at_call 43; refine (spanR17 _ _).mono ?_; rintro e w' ⟨rfl, rfl⟩)
  (try go_wp2_with fail)
  refine hK.out _ _ ?_ (fun hHeld2 => ?_)
  · first | exact HRD.out | exact hHeld | (apply HRK.out; assumption; assumption)
  clear hK K hHeld
  have hHeld := hHeld2
  clear hHeld2
  (try simp only [Act.put, List.setIfInBounds_toArray, List.set_cons_zero, List.set_cons_succ])
  refine wpAnyH_ready (rs := [7]) (by kernel_rfl) (by simp) ?_
  refine AllReadyH.cons (o := ?o_7) ?h_7 (fun K hK => ?_) AllReadyH.nil
  case h_7 => (first | (simp only [List.getElem?_toArray, List.getElem?_cons_zero, List.getElem?_cons_succ]; done) | (simp only [List.getElem?_toArray, List.getElem?_cons_zero, List.getElem?_cons_succ]; exact rfl))
  (try go_simp)
  (go_at_call 45; refine (renR c _).mono ?_; rintro e w9 ⟨rfl, hb9⟩)
  (try go_wp2_with fail)
  refine hK.out _ _ ?_ (fun hHeld2 => ?_)
  · first | exact HRD.out | exact hHeld | (apply HRK.out; assumption; assumption)
  clear hK K hHeld
  have hHeld := hHeld2
  clear hHeld2
  (try simp only [Act.put, List.setIfInBounds_toArray, List.set_cons_zero, List.set_cons_succ])
  refine wpAnyH_take (i := 8) (oi := ?o_8) (v := ?v_8) ?h_8 (by kernel_rfl) (by kernel_rfl) (by kernel_rfl) ?q_8 ?y_8 (by assumption) ?_
  case h_8 => (first | (simp only [List.getElem?_toArray, List.getElem?_cons_zero, List.getElem?_cons_succ]; done) | (simp only [List.getElem?_toArray, List.getElem?_cons_zero, List.getElem?_cons_succ]; exact rfl))
  case q_8 => exact fun _ _ _ h => h
  case y_8 => (refine Or.inl ⟨rfl, ?_⟩; intro w hSw; (try dsimp only at hSw); go_simp; (try with_reducible rfl))
  (try simp only [Act.put, List.setIfInBounds_toArray, List.set_cons_zero, List.set_cons_succ])
  refine wpAnyH_take (i := 9) (oi := ?o_9) (v := ?v_9) ?h_9 (by kernel_rfl) (by kernel_rfl) (by kernel_rfl) ?q_9 ?y_9 (by assumption) ?_
  case h_9 => (first | (simp only [List.getElem?_toArray, List.getElem?_cons_zero, List.getElem?_cons_succ]; done) | (simp only [List.getElem?_toArray, List.getElem?_cons_zero, List.getElem?_cons_succ]; exact rfl))
  case q_9 => exact fun _ _ _ h => h
  case y_9 => (refine Or.inl ⟨rfl, ?_⟩; intro w hSw; (try dsimp only at hSw); go_simp; (try with_reducible rfl))
  (try simp only [Act.put, List.setIfInBounds_toArray, List.set_cons_zero, List.set_cons_succ])
  refine wpAnyH_take (i := 10) (oi := ?o_10) (v := ?v_10) ?h_10 (by kernel_rfl) (by kernel_rfl) (by kernel_rfl) ?q_10 ?y_10 (by assumption) ?_
  case h_10 => (first | (simp only [List.getElem?_toArray, List.getElem?_cons_zero, List.getElem?_cons_succ]; done) | (simp only [List.getElem?_toArray, List.getElem?_cons_zero, List.getElem?_cons_succ]; exact rfl))
  case q_10 => exact fun _ _ _ h => h
  case y_10 => (refine Or.inl ⟨rfl, ?_⟩; intro w hSw; (try dsimp only at hSw); go_simp; (try with_reducible rfl))
  (try simp only [Act.put, List.setIfInBounds_toArray, List.set_cons_zero, List.set_cons_succ])
  refine wpAnyH_take (i := 11) (oi := ?o_11) (v := ?v_11) ?h_11 (by kernel_rfl) (by kernel_rfl) (by kernel_rfl) ?q_11 ?y_11 (by assumption) ?_
  case h_11 => (first | (simp only [List.getElem?_toArray, List.getElem?_cons_zero, List.getElem?_cons_succ]; done) | (simp only [List.getElem?_toArray, List.getElem?_cons_zero, List.getElem?_cons_succ]; exact rfl))
  case q_11 => exact fun _ _ _ h => h
  case y_11 => (refine Or.inl ⟨rfl, ?_⟩; intro w hSw; (try dsimp only at hSw); go_simp; (try with_reducible rfl))
  (try simp only [Act.put, List.setIfInBounds_toArray, List.set_cons_zero, List.set_cons_succ])
  refine wpAnyH_done (by kernel_rfl) ?_ _
  obtain ⟨hs2, _⟩ := hHeld
  have HS2 := Lib.hid hs2
  clear hs2 HRK HRD
  go_wp2
  go_ret
  exact ⟨ret_int (by unfold leV; simp (disch := omega) only [wr]; (try omega)), HS1.out.trans HS2.out⟩

set_option maxHeartbeats 1000000 in
theorem serveT (c : CfgV) (w : World) : Calls Try.prog 27 #[.agg #[.int .i64 c.ca, .int .i64 c.fl, .int .i64 c.ft, .int .i64 c.se, .int .i64 c.dr, .int .i64 c.dw, .int .i64 c.ho, .int .i64 c.re, .int .i64 c.yi, .int .i64 c.qu, .int .i64 c.qo, .int .i64 c.lo, .int .i64 c.sl, .int .i64 c.rt, .int .i64 c.cp, .int .i64 c.tr, .int .i64 c.de, .int .i64 c.wi]] w fun e w' => e = .returned (.int .i64 (seV c)) ∧ Since w w' := by
  have f1 := fl_lo c.fl
  have f2 := fl_hi c.fl
  have f3 := hd_lo c.dr
  have f4 := hd_hi c.dr
  have f5 := hd_lo c.dw
  have f6 := hd_hi c.dw
  obtain ⟨f7, f8⟩ := mul_bd (fl c.fl) (2 * hd c.dr + hd c.dw + 4) 64 3004 (by omega) f2 (by omega) (by omega)
  go_enter Try.func27, Try.ntmps27
  go_wp2_with fail
  refine (floorsT _ _).mono ?_
  rintro e w' ⟨rfl, rfl⟩
  go_wp2_with fail
  go_quiet ((first | (go_at_call 44; exact quiet_eq (spanT _ _))))
  go_wp2
  go_ret
  exact ⟨ret_int (by unfold seV; (try simp (disch := omega) only [wr]); (try omega)), (by repeat (first | exact Since.refl _ | assumption | refine Since.setCell ?_ (by first | (simp; done) | (simp; omega)) _ | refine Since.drew ?_ | refine Since.drewN ?_ _ | refine Since.alloc ?_ _ | refine Since.trans ?_ (by assumption) | refine Since.trans ?_ (Hid.out (by assumption))))⟩
set_option maxHeartbeats 1000000 in
theorem serveR (c : CfgV) (w : World) : Calls Try.prog 28 #[.agg #[.int .i64 c.ca, .int .i64 c.fl, .int .i64 c.ft, .int .i64 c.se, .int .i64 c.dr, .int .i64 c.dw, .int .i64 c.ho, .int .i64 c.re, .int .i64 c.yi, .int .i64 c.qu, .int .i64 c.qo, .int .i64 c.lo, .int .i64 c.sl, .int .i64 c.rt, .int .i64 c.cp, .int .i64 c.tr, .int .i64 c.de, .int .i64 c.wi]] w fun e w' => e = .returned (.int .i64 (seV c)) ∧ Since w w' := by
  have f1 := fl_lo c.fl
  have f2 := fl_hi c.fl
  have f3 := hd_lo c.dr
  have f4 := hd_hi c.dr
  have f5 := hd_lo c.dw
  have f6 := hd_hi c.dw
  obtain ⟨f7, f8⟩ := mul_bd (fl c.fl) (2 * hd c.dr + hd c.dw + 4) 64 3004 (by omega) f2 (by omega) (by omega)
  go_enter Try.func28, Try.ntmps28
  go_wp2_with fail
  refine (floorsR _ _).mono ?_
  rintro e w' ⟨rfl, rfl⟩
  go_wp2_with fail
  go_quiet ((first | (go_at_call 43; exact quiet_eq (spanR17 _ _))))
  go_wp2
  go_ret
  exact ⟨ret_int (by unfold seV; simp (disch := omega) only [wr]), (by repeat (first | exact Since.refl _ | assumption | refine Since.setCell ?_ (by first | (simp; done) | (simp; omega)) _ | refine Since.drew ?_ | refine Since.drewN ?_ _ | refine Since.alloc ?_ _ | refine Since.trans ?_ (by assumption) | refine Since.trans ?_ (Hid.out (by assumption))))⟩
theorem tripsA (w : World) : Calls Try.prog 23 #[.agg #[.int .i64 0, .int .i64 2, .int .i64 0, .int .i64 0, .int .i64 1, .int .i64 2, .int .i64 5, .int .i64 1, .int .i64 0, .int .i64 0, .int .i64 0, .int .i64 0, .int .i64 0, .int .i64 0, .int .i64 0, .int .i64 0, .int .i64 0, .int .i64 0]] w fun e w' => e = .returned (.int .i64 22) ∧ Since w w' := by
  have h := tripsT ⟨0, 2, 0, 0, 1, 2, 5, 1, 0, 0, 0, 0, 0, 0, 0, 0, 0, 0⟩ w
  rw [show 2 * trV ⟨0, 2, 0, 0, 1, 2, 5, 1, 0, 0, 0, 0, 0, 0, 0, 0, 0, 0⟩ = 22 by decide +kernel] at h
  exact h
theorem leaseA (w : World) : Calls Try.prog 25 #[.agg #[.int .i64 0, .int .i64 2, .int .i64 0, .int .i64 0, .int .i64 1, .int .i64 2, .int .i64 5, .int .i64 1, .int .i64 0, .int .i64 0, .int .i64 0, .int .i64 0, .int .i64 0, .int .i64 0, .int .i64 0, .int .i64 0, .int .i64 0, .int .i64 0]] w fun e w' => e = .returned (.int .i64 37) ∧ Since w w' := by
  have h := leaseT ⟨0, 2, 0, 0, 1, 2, 5, 1, 0, 0, 0, 0, 0, 0, 0, 0, 0, 0⟩ w
  rw [show leV ⟨0, 2, 0, 0, 1, 2, 5, 1, 0, 0, 0, 0, 0, 0, 0, 0, 0, 0⟩ = 37 by decide +kernel] at h
  exact h
theorem serveA (w : World) : Calls Try.prog 27 #[.agg #[.int .i64 0, .int .i64 2, .int .i64 0, .int .i64 0, .int .i64 1, .int .i64 2, .int .i64 5, .int .i64 1, .int .i64 0, .int .i64 0, .int .i64 0, .int .i64 0, .int .i64 0, .int .i64 0, .int .i64 0, .int .i64 0, .int .i64 0, .int .i64 0]] w fun e w' => e = .returned (.int .i64 100) ∧ Since w w' := by
  have h := serveT ⟨0, 2, 0, 0, 1, 2, 5, 1, 0, 0, 0, 0, 0, 0, 0, 0, 0, 0⟩ w
  rw [show seV ⟨0, 2, 0, 0, 1, 2, 5, 1, 0, 0, 0, 0, 0, 0, 0, 0, 0, 0⟩ = 100 by decide +kernel] at h
  exact h
theorem rideA (w : World) : Calls Try.prog 29 #[.agg #[.int .i64 0, .int .i64 2, .int .i64 0, .int .i64 0, .int .i64 1, .int .i64 2, .int .i64 5, .int .i64 1, .int .i64 0, .int .i64 0, .int .i64 0, .int .i64 0, .int .i64 0, .int .i64 0, .int .i64 0, .int .i64 0, .int .i64 0, .int .i64 0]] w fun e w' => e = .returned (.int .i64 46) ∧ Since w w' := by
  have h := rideT ⟨0, 2, 0, 0, 1, 2, 5, 1, 0, 0, 0, 0, 0, 0, 0, 0, 0, 0⟩ w
  rw [show 2 * trV ⟨0, 2, 0, 0, 1, 2, 5, 1, 0, 0, 0, 0, 0, 0, 0, 0, 0, 0⟩ + 24 = 46 by decide +kernel] at h
  exact h
end Go.Proofs.Ytpjgmkcoeokjcaa.Bn
