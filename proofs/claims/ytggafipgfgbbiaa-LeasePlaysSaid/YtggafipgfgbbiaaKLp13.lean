/-
  What is wanted by the last of these texts, part 13.
  No condition.
-/
import Derived.WalkKit
import Derived.Test.YtggafipgfgbbiaaRows
import Derived.Test.YtggafipgfgbbiaaKLp0
import Derived.Test.YtggafipgfgbbiaaKLp3
import Derived.Test.YtggafipgfgbbiaaProg
import Derived.Test.YtggafipgfgbbiaaKLp11
import Derived.Deep.Slices
namespace Go.Proofs.Ytggafipgfgbbiaa.Tm
set_option linter.unusedVariables false
set_option linter.unusedSimpArgs false

/-- n, held between 0 and top. -/
def cl (n : Int) : Int := if n < 0 then 0 else if 1099511627776 < n then 1099511627776 else n

/-- How often a pause is doubled: never below 0 times; past 100 it makes no difference. -/
def tr (t : Int) (m : Nat) : Nat := min t.toNat m

end Go.Proofs.Ytggafipgfgbbiaa.Tm
namespace Go.Proofs.Ytggafipgfgbbiaa.Tw
set_option linter.unusedVariables false
set_option linter.unusedSimpArgs false
open Go.RowKit Go.Proofs.Ytggafipgfgbbiaa.Tm Go.Proofs.Ytggafipgfgbbiaa.Ba
end Go.Proofs.Ytggafipgfgbbiaa.Tw
namespace Go.Proofs.Ytggafipgfgbbiaa.Ri
set_option linter.unusedVariables false
set_option linter.unusedSimpArgs false
open Go.RowKit Go.Proofs.Ytggafipgfgbbiaa.Ba Go.Proofs.Ytggafipgfgbbiaa.Mo Go.Proofs.Ytggafipgfgbbiaa.Ty Go.Proofs.Ytggafipgfgbbiaa.Mem Go.Proofs.Ytggafipgfgbbiaa.Tm Go.Proofs.Ytggafipgfgbbiaa.Tw
open Go.Proofs.Ytggafipgfgbbiaa.Ce (ms ms_lo ms_hi massT nearT nr)
open Go.Proofs.Ytggafipgfgbbiaa.Fl (btw btw_lo btw_hi nearestR massR)
set_option maxRecDepth 100000
theorem wr (x : Int) (h0 : -9223372036854775808 ≤ x) (h1 : x ≤ 9223372036854775807) : IntKind.i64.wrap x = x := by
  simp only [IntKind.wrap, IntKind.bits, IntKind.signed]; simp; omega
/-- A timer's ticks. -/
def sp (n : Int) : Int := if n < 1 then 1 else if 1000 < n then 1000 else n
theorem sp_lo (n : Int) : 1 ≤ sp n := by unfold sp; repeat' split <;> omega
theorem sp_hi (n : Int) : sp n ≤ 1000 := by unfold sp; repeat' split <;> omega
def trV (c : CfgV) : Int := 4 * (fl c.fl - 1) + 3 * sp c.dr + 4
theorem spanT (n : Int) (w : World) : Calls Try.prog 45 #[.int .i64 n] w fun e w' => e = .returned (.int .i64 (sp n)) ∧ w = w' := by
  by_cases h0 : n < 1
  · go_enter Try.func45, Try.ntmps45
    go_wp2
    go_ret
    exact ⟨ret_int (by unfold sp; repeat' split <;> omega), rfl⟩
  · by_cases h1 : 1000 < n
    · go_enter Try.func45, Try.ntmps45
      go_wp2
      go_ret
      exact ⟨ret_int (by unfold sp; repeat' split <;> omega), rfl⟩
    · go_enter Try.func45, Try.ntmps45
      go_wp2
      go_ret
      exact ⟨ret_int (by unfold sp; repeat' split <;> omega), rfl⟩
theorem near1 (n : Int) (w : World) : Calls Try.prog 63 #[.int .i64 n, .int .i64 1, .int .i64 1000] w fun e w' => e = .returned (.int .i64 (sp n)) ∧ w = w' := nearestR n 1 1000 w
theorem spanR (n : Int) (w : World) : Calls Try.prog 46 #[.int .i64 n] w fun e w' => e = .returned (.int .i64 (sp n)) ∧ w = w' := by
  go_enter Try.func46, Try.ntmps46
  go_wp2_with (first | (go_at_call 63; refine (near1 _ _).mono ?_; rintro e w' ⟨rfl, rfl⟩))
  go_ret
  exact ⟨rfl, rfl⟩
theorem tripT (c : CfgV) (w : World) : Calls Try.prog 43 #[.agg #[.int .i64 c.ca, .int .i64 c.fl, .int .i64 c.ft, .int .i64 c.se, .int .i64 c.dr, .int .i64 c.dw, .int .i64 c.ho, .int .i64 c.re, .int .i64 c.yi, .int .i64 c.qu, .int .i64 c.qo, .int .i64 c.lo, .int .i64 c.sl, .int .i64 c.rt, .int .i64 c.cp, .int .i64 c.tr, .int .i64 c.de, .int .i64 c.wi]] w fun e w' => e = .returned (.int .i64 (trV c)) ∧ Since w w' := by
  have f1 := fl_lo c.fl
  have f2 := fl_hi c.fl
  have f3 := sp_lo c.dr
  have f4 := sp_hi c.dr
  go_enter Try.func43, Try.ntmps43
  go_wp2_with fail
  go_quiet ((first | (go_at_call 64; exact quiet_eq (floorsT _ _)) | (go_at_call 45; exact quiet_eq (spanT _ _))))
  go_wp2
  go_ret
  exact ⟨ret_int (by unfold trV; simp (disch := omega) only [wr]), (by repeat (first | exact Since.refl _ | assumption | refine Since.setCell ?_ (by first | (simp; done) | (simp; omega)) _ | refine Since.drew ?_ | refine Since.drewN ?_ _ | refine Since.alloc ?_ _ | refine Since.trans ?_ (by assumption) | refine Since.trans ?_ (Hid.out (by assumption))))⟩
theorem tripR (c : CfgV) (w : World) : Calls Try.prog 44 #[.agg #[.int .i64 c.ca, .int .i64 c.fl, .int .i64 c.ft, .int .i64 c.se, .int .i64 c.dr, .int .i64 c.dw, .int .i64 c.ho, .int .i64 c.re, .int .i64 c.yi, .int .i64 c.qu, .int .i64 c.qo, .int .i64 c.lo, .int .i64 c.sl, .int .i64 c.rt, .int .i64 c.cp, .int .i64 c.tr, .int .i64 c.de, .int .i64 c.wi]] w fun e w' => e = .returned (.int .i64 (trV c)) ∧ Since w w' := by
  have f1 := fl_lo c.fl
  have f2 := fl_hi c.fl
  have f3 := sp_lo c.dr
  have f4 := sp_hi c.dr
  go_enter Try.func44, Try.ntmps44
  go_wp2_with fail
  go_quiet ((first | (go_at_call 67; exact quiet_eq (floorsR _ _)) | (go_at_call 46; exact quiet_eq (spanR _ _))))
  go_wp2
  go_ret
  exact ⟨ret_int (by unfold trV; simp (disch := omega) only [wr]), (by repeat (first | exact Since.refl _ | assumption | refine Since.setCell ?_ (by first | (simp; done) | (simp; omega)) _ | refine Since.drew ?_ | refine Since.drewN ?_ _ | refine Since.alloc ?_ _ | refine Since.trans ?_ (by assumption) | refine Since.trans ?_ (Hid.out (by assumption))))⟩
/-- A message's fields. -/
structure MsgV where
  ki : Int
  a : Int
  b : Int
  c : Int
def msgC (m : MsgV) : Array Value := #[.int .i64 m.ki, .int .i64 m.a, .int .i64 m.b, .int .i64 m.c]
/-- What is said: nothing, or one message in a block that is newer than w0's. -/
def Ms (w0 w : World) (v : Value) (o : Option MsgV) : Prop :=
  match o with
  | none => v = .slice none 0 0
  | some m => ∃ b, v = .slice (some ⟨b, 0, none⟩) 1 1 ∧ w0.heap.size ≤ b ∧ Blk w b 85 (msgC m)
theorem Ms.keep {w0 w w' : World} {v : Value} {o : Option MsgV} (k : Since w w') (h : Ms w0 w v o) : Ms w0 w' v o := by
  cases o with
  | none => exact h
  | some m =>
    obtain ⟨b, e, hb, B⟩ := h
    exact ⟨b, e, hb, keep_blk k B⟩
end Go.Proofs.Ytggafipgfgbbiaa.Ri
namespace Go.Proofs.Ytggafipgfgbbiaa.Le
set_option linter.unusedVariables false
set_option linter.unusedSimpArgs false
open Go.RowKit Go.Proofs.Ytggafipgfgbbiaa.Ba Go.Proofs.Ytggafipgfgbbiaa.Mem Go.Proofs.Ytggafipgfgbbiaa.Ty
open Go.Proofs.Ytggafipgfgbbiaa.Ls (LV leaC)
open Go.Proofs.Ytggafipgfgbbiaa.Fl (mayB btw cnt)
set_option maxRecDepth 100000
attribute [local irreducible] Go.wpList
open Go.Proofs.Ytggafipgfgbbiaa.Ri (sp spanT spanR trV tripT tripR)
def kC : CfgV := ⟨0, 5, 2, 4, 2, 0, 0, 0, 0, 0, 1, 300, 0, 0, 0, 0, 0, 0⟩
def oneV : LeaseV := ⟨0, 0, 0, 1, 5, 0, 1, 0, 0, 0⟩
theorem spanV (n v : Int) (w : World) (h : sp n = v) : Calls Try.prog 45 #[.int .i64 n] w fun e w' => e = .returned (.int .i64 v) ∧ w = w' := by subst h; exact spanT n w
theorem tripV (c : CfgV) (v : Int) (w : World) (h : trV c = v) : Calls Try.prog 43 #[.agg #[.int .i64 c.ca, .int .i64 c.fl, .int .i64 c.ft, .int .i64 c.se, .int .i64 c.dr, .int .i64 c.dw, .int .i64 c.ho, .int .i64 c.re, .int .i64 c.yi, .int .i64 c.qu, .int .i64 c.qo, .int .i64 c.lo, .int .i64 c.sl, .int .i64 c.rt, .int .i64 c.cp, .int .i64 c.tr, .int .i64 c.de, .int .i64 c.wi]] w fun e w' => e = .returned (.int .i64 v) ∧ Since w w' := by subst h; exact tripT c w
set_option maxHeartbeats 4000000 in
theorem configT (w : World) : Calls Try.prog 47 #[] w fun e w' => e = .returned (.agg #[.int .i64 0, .int .i64 5, .int .i64 2, .int .i64 4, .int .i64 2, .int .i64 0, .int .i64 0, .int .i64 0, .int .i64 0, .int .i64 0, .int .i64 1, .int .i64 300, .int .i64 0, .int .i64 0, .int .i64 0, .int .i64 0, .int .i64 0, .int .i64 0]) ∧ Since w w' := by
  go_enter Try.func47, Try.ntmps47
  go_upto_region 1 with fail
  obtain ⟨w1, hw1⟩ : ∃ w1, w1 = (w.alloc (.cells #[.int .i64 0, .int .i64 0, .int .i64 0, .int .i64 0, .int .i64 0, .int .i64 0, .int .i64 0, .int .i64 0, .int .i64 0, .int .i64 0, .int .i64 0, .int .i64 0, .int .i64 0, .int .i64 0, .int .i64 0, .int .i64 0, .int .i64 0, .int .i64 0] 23)) := ⟨_, rfl⟩
  rw [← hw1]
  have HBR1 := Lib.hid (show Blk w1 (w.heap.size) 23 #[.int .i64 0, .int .i64 0, .int .i64 0, .int .i64 0, .int .i64 0, .int .i64 0, .int .i64 0, .int .i64 0, .int .i64 0, .int .i64 0, .int .i64 0, .int .i64 0, .int .i64 0, .int .i64 0, .int .i64 0, .int .i64 0, .int .i64 0, .int .i64 0] by rw [hw1]; exact Blk.at_ (by (try simp only [size_alloc])) _ _)
  have HS1 := Lib.hid (show Since w w1 by rw [hw1]; exact Since.alloc (Since.refl w) _)
  have hNE : w.heap.size ≤ w.heap.size := by omega
  have HNE := Lib.hid hNE
  clear hNE hw1
  have HNE3 := Lib.hid (show w.heap.size ≤ w.heap.size from HNE.out)
  clear HNE
  refine wp_region_lit ?_
  refine wpList_q (by rfl) (.agg #[.int .i64 0, .int .i64 5, .int .i64 2, .int .i64 4, .int .i64 2, .int .i64 0, .int .i64 0, .int .i64 0, .int .i64 0, .int .i64 0, .int .i64 1, .int .i64 300, .int .i64 0, .int .i64 0, .int .i64 0, .int .i64 0, .int .i64 0, .int .i64 0]) ?he ?_
  case he => kernel_rfl
  (try simp only [Act.put, sA, sB, sC])
  refine wpList_wp (by rfl) (fun K hK => ?_)
  refine wp_st_row 23 _ _ rfl #[.int .i64 0, .int .i64 5, .int .i64 2, .int .i64 4, .int .i64 2, .int .i64 0, .int .i64 0, .int .i64 0, .int .i64 0, .int .i64 0, .int .i64 1, .int .i64 300, .int .i64 0, .int .i64 0, .int .i64 0, .int .i64 0, .int .i64 0, .int .i64 0] rfl rfl (HasRow.of HBR1.out rfl) rfl (by simp [Value.oneCell']) (by kernel_rfl) ?_
  intro w2 hw
  refine hK.out _ _ ?_
  clear hK K
  (try simp only [Act.put, sA, sB, sC])
  have HS2 := Lib.hid (show Since w w2 by rw [hw]; exact Since.setRow HS1.out (by have := HNE3.out; omega) _)
  have HBR2 := Lib.hid (show Blk w2 w.heap.size 23 #[.int .i64 0, .int .i64 5, .int .i64 2, .int .i64 4, .int .i64 2, .int .i64 0, .int .i64 0, .int .i64 0, .int .i64 0, .int .i64 0, .int .i64 1, .int .i64 300, .int .i64 0, .int .i64 0, .int .i64 0, .int .i64 0, .int .i64 0, .int .i64 0] by rw [hw]; exact Blk.row HBR1.out _)
  clear hw HS1 HBR1
  refine wpList_nil ?_
  (try go_wp2_with fail)
  exact bodyPost_ret (results_cell_row rfl _ _ w.heap.size 23 #[.int .i64 0, .int .i64 5, .int .i64 2, .int .i64 4, .int .i64 2, .int .i64 0, .int .i64 0, .int .i64 0, .int .i64 0, .int .i64 0, .int .i64 1, .int .i64 300, .int .i64 0, .int .i64 0, .int .i64 0, .int .i64 0, .int .i64 0, .int .i64 0] (0, 0) _ rfl HBR2.out Try.underlying23 rfl (by kernel_rfl)) rfl ⟨rfl, HS2.out⟩
set_option maxHeartbeats 4000000 in
theorem oneT (w : World) : Calls Try.prog 48 #[] w fun e w' => e = .returned (.agg #[.int .i64 0, .int .i64 0, .int .i64 0, .int .i64 1, .int .i64 5, .int .i64 0, .int .i64 1, .int .i64 0, .int .i64 0, .int .i64 0]) ∧ Since w w' := by
  go_enter Try.func48, Try.ntmps48
  go_upto_region 1 with fail
  obtain ⟨w1, hw1⟩ : ∃ w1, w1 = (w.alloc (.cells #[.int .i64 0, .int .i64 0, .int .i64 0, .int .i64 0, .int .i64 0, .int .i64 0, .int .i64 0, .int .i64 0, .int .i64 0, .int .i64 0] 56)) := ⟨_, rfl⟩
  rw [← hw1]
  have HBR1 := Lib.hid (show Blk w1 (w.heap.size) 56 #[.int .i64 0, .int .i64 0, .int .i64 0, .int .i64 0, .int .i64 0, .int .i64 0, .int .i64 0, .int .i64 0, .int .i64 0, .int .i64 0] by rw [hw1]; exact Blk.at_ (by (try simp only [size_alloc])) _ _)
  have HS1 := Lib.hid (show Since w w1 by rw [hw1]; exact Since.alloc (Since.refl w) _)
  have hNE : w.heap.size ≤ w.heap.size := by omega
  have HNE := Lib.hid hNE
  clear hNE hw1
  have HNE3 := Lib.hid (show w.heap.size ≤ w.heap.size from HNE.out)
  clear HNE
  refine wp_region_lit ?_
  refine wpList_q (by rfl) (.agg #[.int .i64 0, .int .i64 0, .int .i64 0, .int .i64 1, .int .i64 5]) ?he ?_
  case he => kernel_rfl
  (try simp only [Act.put, sA, sB, sC])
  refine wpList_q (by rfl) (.agg #[.int .i64 0, .int .i64 0, .int .i64 0, .int .i64 1, .int .i64 5, .int .i64 0, .int .i64 1, .int .i64 0, .int .i64 0, .int .i64 0]) ?he ?_
  case he => kernel_rfl
  (try simp only [Act.put, sA, sB, sC])
  refine wpList_wp (by rfl) (fun K hK => ?_)
  refine wp_st_row 56 _ _ rfl #[.int .i64 0, .int .i64 0, .int .i64 0, .int .i64 1, .int .i64 5, .int .i64 0, .int .i64 1, .int .i64 0, .int .i64 0, .int .i64 0] rfl rfl (HasRow.of HBR1.out rfl) rfl (by simp [Value.oneCell']) (by kernel_rfl) ?_
  intro w2 hw
  refine hK.out _ _ ?_
  clear hK K
  (try simp only [Act.put, sA, sB, sC])
  have HS2 := Lib.hid (show Since w w2 by rw [hw]; exact Since.setRow HS1.out (by have := HNE3.out; omega) _)
  have HBR2 := Lib.hid (show Blk w2 w.heap.size 56 #[.int .i64 0, .int .i64 0, .int .i64 0, .int .i64 1, .int .i64 5, .int .i64 0, .int .i64 1, .int .i64 0, .int .i64 0, .int .i64 0] by rw [hw]; exact Blk.row HBR1.out _)
  clear hw HS1 HBR1
  refine wpList_nil ?_
  (try go_wp2_with fail)
  exact bodyPost_ret (results_cell_row rfl _ _ w.heap.size 56 #[.int .i64 0, .int .i64 0, .int .i64 0, .int .i64 1, .int .i64 5, .int .i64 0, .int .i64 1, .int .i64 0, .int .i64 0, .int .i64 0] (0, 0) _ rfl HBR2.out Try.underlying56 rfl (by kernel_rfl)) rfl ⟨rfl, HS2.out⟩
set_option maxHeartbeats 4000000 in
theorem ans (w : World) : Calls Try.prog 42 #[] w fun e w' => e = .returned (.bool true) ∧ Since w w' := by
  go_enter Try.func42, Try.ntmps42
  go_upto_region 1 with fail
  have HS1 := Lib.hid (Since.refl w)
  refine wp_region_lit ?_
  refine wpList_wp (by rfl) (fun K hK => ?_)
  (try go_simp)
  refine (configT _).mono ?_
  rintro e w2 ⟨rfl, hb⟩
  (try go_wp2_with fail)
  refine hK.out _ _ ?_
  clear hK K
  (try simp only [Act.put, sA, sB, sC])
  have HS2 := Lib.hid (Since.trans HS1.out hb)
  clear HS1 
  clear hb
  refine wpList_wp (by rfl) (fun K hK => ?_)
  (try go_simp)
  refine (newV w.heap.size kC _ (Since.size HS2.out)).mono ?_
  rintro e w3 ⟨t1, rfl, hT, hge, hb⟩
  (try go_wp2_with fail)
  refine hK.out _ _ ?_
  clear hK K
  (try simp only [Act.put, sA, sB, sC])
  have HS3 := Lib.hid (Since.trans HS2.out hb)
  clear HS2 
  clear hb
  have HFt := Lib.hid hT
  clear hT hge
  refine wpList_q (by rfl) (.pointer (some ⟨t1, 0, none⟩)) ?he ?_
  case he => (first | rfl | (go_simp; (try with_reducible rfl)))
  (try simp only [Act.put, sA, sB, sC])
  refine wpList_nil ?_
  go_upto_region 2 with fail
  refine wp_region_lit ?_
  refine wpList_q (by rfl) (.pointer (some ⟨t1, 0, none⟩)) ?he ?_
  case he => (first | rfl | (go_simp; (try with_reducible rfl)))
  (try simp only [Act.put, sA, sB, sC])
  refine wpList_wp (by rfl) (fun K hK => ?_)
  (try go_simp)
  refine (oneT _).mono ?_
  rintro e w4 ⟨rfl, hb⟩
  (try go_wp2_with fail)
  refine hK.out _ _ ?_
  clear hK K
  (try simp only [Act.put, sA, sB, sC])
  have HS4 := Lib.hid (Since.trans HS3.out hb)
  have HFt4 := Lib.hid (TO.keep hb HFt.out)
  clear HS3 HFt
  clear hb
  refine wpList_wp (by rfl) (fun K hK => ?_)
  (try go_simp)
  refine (putV w.heap.size t1 kC ([]) [t1] oneV _ HFt4.out (by decide) 0 ([oneV]) (by first | rfl | decide | decide +kernel) (by first | rfl | decide | decide +kernel)).mono ?_
  rintro e w5 ⟨St_1, rfl, hobj, hupd, hfar⟩
  (try go_wp2_with fail)
  refine hK.out _ _ ?_
  clear hK K
  (try simp only [Act.put, sA, sB, sC])
  have HS5 := Lib.hid (Since.upd HS4.out hupd (TO.low HFt4.out))
  have HFt5 := Lib.hid hobj
  clear hupd hobj hfar HS4 HFt4
  refine wpList_q (by rfl) (.pointer (some ⟨t1, 0, none⟩)) ?he ?_
  case he => (first | rfl | (go_simp; (try with_reducible rfl)))
  (try simp only [Act.put, sA, sB, sC])
  refine wpList_wp (by rfl) (fun K hK => ?_)
  (try go_simp)
  refine (oneT _).mono ?_
  rintro e w6 ⟨rfl, hb⟩
  (try go_wp2_with fail)
  refine hK.out _ _ ?_
  clear hK K
  (try simp only [Act.put, sA, sB, sC])
  have HS6 := Lib.hid (Since.trans HS5.out hb)
  have HFt6 := Lib.hid (TO.keep hb HFt5.out)
  clear HS5 HFt5
  clear hb
  refine wpList_wp (by rfl) (fun K hK => ?_)
  (try go_simp)
  refine (putV w.heap.size t1 kC ([oneV]) St_1 oneV _ HFt6.out (by decide) 7 ([oneV]) (by first | rfl | decide | decide +kernel) (by first | rfl | decide | decide +kernel)).mono ?_
  rintro e w7 ⟨St_2, rfl, hobj, hupd, hfar⟩
  (try go_wp2_with fail)
  refine hK.out _ _ ?_
  clear hK K
  (try simp only [Act.put, sA, sB, sC])
  have HS7 := Lib.hid (Since.upd HS6.out hupd (TO.low HFt6.out))
  have HFt7 := Lib.hid hobj
  clear hupd hobj hfar HS6 HFt6
  refine wpList_q (by rfl) (.int .i64 0) ?he ?_
  case he => (first | rfl | (go_simp; (try with_reducible rfl)))
  (try simp only [Act.put, sA, sB, sC])
  refine wpList_q (by rfl) (.int .i64 7) ?he ?_
  case he => (first | rfl | (go_simp; (try with_reducible rfl)))
  (try simp only [Act.put, sA, sB, sC])
  refine wpList_nil ?_
  go_upto_region 3 with fail
  refine wp_region_lit ?_
  refine wpList_q (by rfl) (.pointer (some ⟨t1, 0, none⟩)) ?he ?_
  case he => (first | rfl | (go_simp; (try with_reducible rfl)))
  (try simp only [Act.put, sA, sB, sC])
  refine wpList_wp (by rfl) (fun K hK => ?_)
  (try go_simp)
  refine (ofV w.heap.size t1 kC [oneV] St_2 0 oneV true _ HFt7.out (by decide) (by first | rfl | decide | decide +kernel)).mono ?_
  rintro e w8 ⟨rfl, hb⟩
  (try go_wp2_with fail)
  refine hK.out _ _ ?_
  clear hK K
  (try simp only [Act.put, sA, sB, sC])
  have HS8 := Lib.hid (Since.trans HS7.out hb)
  have HFt8 := Lib.hid (TO.keep hb HFt7.out)
  clear HS7 HFt7
  clear hb
  refine wpList_q (by rfl) (.tuple #[.agg #[.int .i64 0, .int .i64 0, .int .i64 0, .int .i64 1, .int .i64 5, .int .i64 0, .int .i64 1, .int .i64 0, .int .i64 0, .int .i64 0], .bool true]) ?he ?_
  case he => (first | rfl | (go_simp; (try with_reducible rfl)))
  (try simp only [Act.put, sA, sB, sC])
  refine wpList_q (by rfl) (.agg #[.int .i64 0, .int .i64 0, .int .i64 0, .int .i64 1, .int .i64 5, .int .i64 0, .int .i64 1, .int .i64 0, .int .i64 0, .int .i64 0]) ?he ?_
  case he => (first | rfl | (go_simp; (try with_reducible rfl)))
  (try simp only [Act.put, sA, sB, sC])
  refine wpList_q (by rfl) (.bool true) ?he ?_
  case he => (first | rfl | (go_simp; (try with_reducible rfl)))
  (try simp only [Act.put, sA, sB, sC])
  refine wpList_wp (by rfl) (fun K hK => ?_)
  refine wp_new (fun b => .pointer (some ⟨b, 0, none⟩)) 56 #[.int .i64 0, .int .i64 0, .int .i64 0, .int .i64 0, .int .i64 0, .int .i64 0, .int .i64 0, .int .i64 0, .int .i64 0, .int .i64 0] (by rintro b rfl; first | rfl | kernel_rfl) ?_
  intro bn4 w9 hge hB hb
  refine hK.out _ _ ?_
  clear hK K
  (try simp only [Act.put, sA, sB, sC])
  have HGn4 := Lib.hid (show w.heap.size ≤ bn4 by have := Since.size HS8.out; omega)
  have HIn4_t := Lib.hid (TO.far HFt8.out hge)
  have HS9 := Lib.hid (Since.trans HS8.out hb)
  have HFt9 := Lib.hid (TO.keep hb HFt8.out)
  clear HS8 HFt8
  clear hb hge
  have HBn49 := Lib.hid hB
  clear hB
  refine wpList_wp (by rfl) (fun K hK => ?_)
  refine wp_st_row 56 _ _ rfl #[.int .i64 0, .int .i64 0, .int .i64 0, .int .i64 1, .int .i64 5, .int .i64 0, .int .i64 1, .int .i64 0, .int .i64 0, .int .i64 0] rfl rfl (HasRow.of HBn49.out rfl) rfl (by simp [Value.oneCell']) (by kernel_rfl) ?_
  intro w10 hw
  refine hK.out _ _ ?_
  clear hK K
  (try simp only [Act.put, sA, sB, sC])
  have HS10 := Lib.hid (show Since w w10 by rw [hw]; exact Since.setRow HS9.out HGn4.out _)
  have HBn410 := Lib.hid (show Blk w10 bn4 56 #[.int .i64 0, .int .i64 0, .int .i64 0, .int .i64 1, .int .i64 5, .int .i64 0, .int .i64 1, .int .i64 0, .int .i64 0, .int .i64 0] by rw [hw]; exact Blk.row HBn49.out _)
  have HFt_10 := Lib.hid (show TO w.heap.size t1 kC ([oneV]) St_2 w10 by rw [hw]; exact TO.row_far HFt9.out HIn4_t.out _)
  clear hw HS9 HBn49 HFt9
  refine wpList_q (by rfl) (.bool true) ?he ?_
  case he => (first | rfl | (go_simp; (try with_reducible rfl)))
  (try simp only [Act.put, sA, sB, sC])
  refine wpList_nil ?_
  go_upto_region 4 with fail
  refine wp_region_lit ?_
  refine wpList_q (by rfl) (.pointer (some ⟨t1, 0, none⟩)) ?he ?_
  case he => (first | rfl | (go_simp; (try with_reducible rfl)))
  (try simp only [Act.put, sA, sB, sC])
  refine wpList_wp (by rfl) (fun K hK => ?_)
  (try go_simp)
  refine (carV w.heap.size t1 kC [oneV] St_2 0 oneV true _ HFt_10.out (by decide) (by first | rfl | decide | decide +kernel)).mono ?_
  rintro e w11 ⟨rfl, hb⟩
  (try go_wp2_with fail)
  refine hK.out _ _ ?_
  clear hK K
  (try simp only [Act.put, sA, sB, sC])
  have HS11 := Lib.hid (Since.trans HS10.out hb)
  have HBn411 := Lib.hid (keep_blk hb HBn410.out)
  have HFt11 := Lib.hid (TO.keep hb HFt_10.out)
  clear HS10 HBn410 HFt_10
  clear hb
  refine wpList_q (by rfl) (.tuple #[.agg #[.int .i64 0, .int .i64 0, .int .i64 0, .int .i64 1, .int .i64 5, .int .i64 0, .int .i64 1, .int .i64 0, .int .i64 0, .int .i64 0], .bool true]) ?he ?_
  case he => (first | rfl | (go_simp; (try with_reducible rfl)))
  (try simp only [Act.put, sA, sB, sC])
  refine wpList_q (by rfl) (.agg #[.int .i64 0, .int .i64 0, .int .i64 0, .int .i64 1, .int .i64 5, .int .i64 0, .int .i64 1, .int .i64 0, .int .i64 0, .int .i64 0]) ?he ?_
  case he => (first | rfl | (go_simp; (try with_reducible rfl)))
  (try simp only [Act.put, sA, sB, sC])
  refine wpList_q (by rfl) (.bool true) ?he ?_
  case he => (first | rfl | (go_simp; (try with_reducible rfl)))
  (try simp only [Act.put, sA, sB, sC])
  refine wpList_wp (by rfl) (fun K hK => ?_)
  refine wp_new (fun b => .pointer (some ⟨b, 0, none⟩)) 56 #[.int .i64 0, .int .i64 0, .int .i64 0, .int .i64 0, .int .i64 0, .int .i64 0, .int .i64 0, .int .i64 0, .int .i64 0, .int .i64 0] (by rintro b rfl; first | rfl | kernel_rfl) ?_
  intro bn6 w12 hge hB hb
  refine hK.out _ _ ?_
  clear hK K
  (try simp only [Act.put, sA, sB, sC])
  have HNn6n4 := Lib.hid (show bn6 ≠ bn4 by have := Blk.lt HBn411.out; omega)
  have HGn6 := Lib.hid (show w.heap.size ≤ bn6 by have := Since.size HS11.out; omega)
  have HIn6_t := Lib.hid (TO.far HFt11.out hge)
  have HS12 := Lib.hid (Since.trans HS11.out hb)
  have HBn412 := Lib.hid (keep_blk hb HBn411.out)
  have HFt12 := Lib.hid (TO.keep hb HFt11.out)
  clear HS11 HBn411 HFt11
  clear hb hge
  have HBn612 := Lib.hid hB
  clear hB
  refine wpList_wp (by rfl) (fun K hK => ?_)
  refine wp_st_row 56 _ _ rfl #[.int .i64 0, .int .i64 0, .int .i64 0, .int .i64 1, .int .i64 5, .int .i64 0, .int .i64 1, .int .i64 0, .int .i64 0, .int .i64 0] rfl rfl (HasRow.of HBn612.out rfl) rfl (by simp [Value.oneCell']) (by kernel_rfl) ?_
  intro w13 hw
  refine hK.out _ _ ?_
  clear hK K
  (try simp only [Act.put, sA, sB, sC])
  have HS13 := Lib.hid (show Since w w13 by rw [hw]; exact Since.setRow HS12.out HGn6.out _)
  have HBn413 := Lib.hid (show Blk w13 bn4 56 #[.int .i64 0, .int .i64 0, .int .i64 0, .int .i64 1, .int .i64 5, .int .i64 0, .int .i64 1, .int .i64 0, .int .i64 0, .int .i64 0] by rw [hw]; exact Blk.row_far HBn412.out (Ne.symm HNn6n4.out) _)
  have HBn613 := Lib.hid (show Blk w13 bn6 56 #[.int .i64 0, .int .i64 0, .int .i64 0, .int .i64 1, .int .i64 5, .int .i64 0, .int .i64 1, .int .i64 0, .int .i64 0, .int .i64 0] by rw [hw]; exact Blk.row HBn612.out _)
  have HFt_13 := Lib.hid (show TO w.heap.size t1 kC ([oneV]) St_2 w13 by rw [hw]; exact TO.row_far HFt12.out HIn6_t.out _)
  clear hw HS12 HBn412 HBn612 HFt12
  refine wpList_q (by rfl) (.bool true) ?he ?_
  case he => (first | rfl | (go_simp; (try with_reducible rfl)))
  (try simp only [Act.put, sA, sB, sC])
  refine wpList_nil ?_
  go_upto_region 5 with fail
  have hrK : ∀ W W' : World, Since W W' → (Since w W ∧ Blk W bn4 56 #[.int .i64 0, .int .i64 0, .int .i64 0, .int .i64 1, .int .i64 5, .int .i64 0, .int .i64 1, .int .i64 0, .int .i64 0, .int .i64 0] ∧ Blk W bn6 56 #[.int .i64 0, .int .i64 0, .int .i64 0, .int .i64 1, .int .i64 5, .int .i64 0, .int .i64 1, .int .i64 0, .int .i64 0, .int .i64 0] ∧ TO w.heap.size t1 kC ([oneV]) St_2 W) → (Since w W' ∧ Blk W' bn4 56 #[.int .i64 0, .int .i64 0, .int .i64 0, .int .i64 1, .int .i64 5, .int .i64 0, .int .i64 1, .int .i64 0, .int .i64 0, .int .i64 0] ∧ Blk W' bn6 56 #[.int .i64 0, .int .i64 0, .int .i64 0, .int .i64 1, .int .i64 5, .int .i64 0, .int .i64 1, .int .i64 0, .int .i64 0, .int .i64 0] ∧ TO w.heap.size t1 kC ([oneV]) St_2 W') := fun W W' k ⟨h, h0, h1, h2⟩ => ⟨h.trans k, keep_blk k h0, keep_blk k h1, TO.keep k h2⟩
  have hrS : (fun W : World => Since w W ∧ Blk W bn4 56 #[.int .i64 0, .int .i64 0, .int .i64 0, .int .i64 1, .int .i64 5, .int .i64 0, .int .i64 1, .int .i64 0, .int .i64 0, .int .i64 0] ∧ Blk W bn6 56 #[.int .i64 0, .int .i64 0, .int .i64 0, .int .i64 1, .int .i64 5, .int .i64 0, .int .i64 1, .int .i64 0, .int .i64 0, .int .i64 0] ∧ TO w.heap.size t1 kC ([oneV]) St_2 W) w13 := ⟨HS13.out, HBn413.out, HBn613.out, HFt_13.out⟩
  have HRK := Lib.hid hrK
  have HRD := Lib.hid (show (fun W : World => Since w W ∧ Blk W bn4 56 #[.int .i64 0, .int .i64 0, .int .i64 0, .int .i64 1, .int .i64 5, .int .i64 0, .int .i64 1, .int .i64 0, .int .i64 0, .int .i64 0] ∧ Blk W bn6 56 #[.int .i64 0, .int .i64 0, .int .i64 0, .int .i64 1, .int .i64 5, .int .i64 0, .int .i64 1, .int .i64 0, .int .i64 0, .int .i64 0] ∧ TO w.heap.size t1 kC ([oneV]) St_2 W) (World.drew w13) from ⟨Since.drew hrS.1, hrS.2⟩)
  clear hrK hrS
  refine wp_region_held_drew (S := fun W : World => Since w W ∧ Blk W bn4 56 #[.int .i64 0, .int .i64 0, .int .i64 0, .int .i64 1, .int .i64 5, .int .i64 0, .int .i64 1, .int .i64 0, .int .i64 0, .int .i64 0] ∧ Blk W bn6 56 #[.int .i64 0, .int .i64 0, .int .i64 0, .int .i64 1, .int .i64 5, .int .i64 0, .int .i64 1, .int .i64 0, .int .i64 0, .int .i64 0] ∧ TO w.heap.size t1 kC ([oneV]) St_2 W) (by kernel_rfl) HRD.out (fun hHeld => ?_)
  refine wpAnyH_take (i := 0) (oi := ?o5__0) (v := .int .i64 0) ?h5__0 (by kernel_rfl) (by kernel_rfl) (by kernel_rfl) ?q5__0 ?y5__0 (by assumption) ?_
  case h5__0 => (first | (simp only [gA, gB, gC]; done) | (simp only [gA, gB, gC]; exact rfl))
  case q5__0 => exact fun _ _ _ h => h
  case y5__0 => (refine Or.inl ⟨rfl, ?_⟩; intro w hSw; (first | rfl | (go_simp; (try with_reducible rfl))))
  (try simp only [Act.put, sA, sB, sC])
  refine wpAnyH_take (i := 1) (oi := ?o5__1) (v := .bool true) ?h5__1 (by kernel_rfl) (by kernel_rfl) (by kernel_rfl) ?q5__1 ?y5__1 (by assumption) ?_
  case h5__1 => (first | (simp only [gA, gB, gC]; done) | (simp only [gA, gB, gC]; exact rfl))
  case q5__1 => exact fun _ _ _ h => h
  case y5__1 => (refine Or.inl ⟨rfl, ?_⟩; intro w hSw; (go_simp; (try with_reducible rfl)))
  (try simp only [Act.put, sA, sB, sC])
  refine wpAnyH_take (i := 2) (oi := ?o5__2) (v := .bool true) ?h5__2 (by kernel_rfl) (by kernel_rfl) (by kernel_rfl) ?q5__2 ?y5__2 (by assumption) ?_
  case h5__2 => (first | (simp only [gA, gB, gC]; done) | (simp only [gA, gB, gC]; exact rfl))
  case q5__2 => exact fun _ _ _ h => h
  case y5__2 => (refine Or.inl ⟨rfl, ?_⟩; intro w hSw; (first | rfl | (go_simp; (try with_reducible rfl))))
  (try simp only [Act.put, sA, sB, sC])
  refine wpAnyH_take (i := 3) (oi := ?o5__3) (v := .int .i64 7) ?h5__3 (by kernel_rfl) (by kernel_rfl) (by kernel_rfl) ?q5__3 ?y5__3 (by assumption) ?_
  case h5__3 => (first | (simp only [gA, gB, gC]; done) | (simp only [gA, gB, gC]; exact rfl))
  case q5__3 => exact fun _ _ _ h => h
  case y5__3 => (refine Or.inl ⟨rfl, ?_⟩; intro w hSw; (first | rfl | (go_simp; (try with_reducible rfl))))
  (try simp only [Act.put, sA, sB, sC])
  refine wpAnyH_take (i := 4) (oi := ?o5__4) (v := .bool true) ?h5__4 (by kernel_rfl) (by kernel_rfl) (by kernel_rfl) ?q5__4 ?y5__4 (by assumption) ?_
  case h5__4 => (first | (simp only [gA, gB, gC]; done) | (simp only [gA, gB, gC]; exact rfl))
  case q5__4 => exact fun _ _ _ h => h
  case y5__4 => (refine Or.inl ⟨rfl, ?_⟩; intro w hSw; (go_simp; (try with_reducible rfl)))
  (try simp only [Act.put, sA, sB, sC])
  refine wpAnyH_take (i := 5) (oi := ?o5__5) (v := .bool true) ?h5__5 (by kernel_rfl) (by kernel_rfl) (by kernel_rfl) ?q5__5 ?y5__5 (by assumption) ?_
  case h5__5 => (first | (simp only [gA, gB, gC]; done) | (simp only [gA, gB, gC]; exact rfl))
  case q5__5 => exact fun _ _ _ h => h
  case y5__5 => (refine Or.inl ⟨rfl, ?_⟩; intro w hSw; (first | rfl | (go_simp; (try with_reducible rfl))))
  (try simp only [Act.put, sA, sB, sC])
  refine wpAnyH_take (i := 6) (oi := ?o5__6) (v := .bool true) ?h5__6 (by kernel_rfl) (by kernel_rfl) (by kernel_rfl) ?q5__6 ?y5__6 (by assumption) ?_
  case h5__6 => (first | (simp only [gA, gB, gC]; done) | (simp only [gA, gB, gC]; exact rfl))
  case q5__6 => exact fun _ _ _ h => h
  case y5__6 => (refine Or.inl ⟨rfl, ?_⟩; intro w hSw; (first | rfl | (go_simp; (try with_reducible rfl))))
  (try simp only [Act.put, sA, sB, sC])
  refine wpAnyH_take (i := 7) (oi := ?o5__7) (v := .bool true) ?h5__7 (by kernel_rfl) (by kernel_rfl) (by kernel_rfl) ?q5__7 ?y5__7 (by assumption) ?_
  case h5__7 => (first | (simp only [gA, gB, gC]; done) | (simp only [gA, gB, gC]; exact rfl))
  case q5__7 => exact fun _ _ _ h => h
  case y5__7 => (refine Or.inl ⟨rfl, ?_⟩; intro w hSw; (first | rfl | (go_simp; (try with_reducible rfl))))
  (try simp only [Act.put, sA, sB, sC])
  refine wpAnyH_take (i := 8) (oi := ?o5__8) (v := .bool true) ?h5__8 (by kernel_rfl) (by kernel_rfl) (by kernel_rfl) ?q5__8 ?y5__8 (by assumption) ?_
  case h5__8 => (first | (simp only [gA, gB, gC]; done) | (simp only [gA, gB, gC]; exact rfl))
  case q5__8 => exact fun _ _ _ h => h
  case y5__8 => (refine Or.inl ⟨rfl, ?_⟩; intro w hSw; (first | rfl | (go_simp; (try with_reducible rfl))))
  (try simp only [Act.put, sA, sB, sC])
  refine wpAnyH_take (i := 9) (oi := ?o5__9) (v := .bool true) ?h5__9 (by kernel_rfl) (by kernel_rfl) (by kernel_rfl) ?q5__9 ?y5__9 (by assumption) ?_
  case h5__9 => (first | (simp only [gA, gB, gC]; done) | (simp only [gA, gB, gC]; exact rfl))
  case q5__9 => exact fun _ _ _ h => h
  case y5__9 => (refine Or.inl ⟨rfl, ?_⟩; intro w hSw; (first | rfl | (go_simp; (try with_reducible rfl))))
  (try simp only [Act.put, sA, sB, sC])
  refine wpAnyH_take (i := 10) (oi := ?o5__10) (v := .agg #[.int .i64 0, .int .i64 0, .int .i64 0, .int .i64 1, .int .i64 5, .int .i64 0, .int .i64 1, .int .i64 0, .int .i64 0, .int .i64 0]) ?h5__10 (by kernel_rfl) (by kernel_rfl) (by kernel_rfl) ?q5__10 ?y5__10 (by assumption) ?_
  case h5__10 => (first | (simp only [gA, gB, gC]; done) | (simp only [gA, gB, gC]; exact rfl))
  case q5__10 => exact fun _ _ _ h => h
  case y5__10 => (refine Or.inl ⟨rfl, ?_⟩; intro w hSw; exact exec_load_row 56 _ _ hSw.2.1 rfl rfl Try.underlying56 rfl (by kernel_rfl))
  (try simp only [Act.put, sA, sB, sC])
  refine wpAnyH_ready (rs := [11]) (by kernel_rfl) (by simp) ?_
  refine AllReadyH.cons (o := ?o5__11) ?h5__11 (fun K hK => ?_) AllReadyH.nil
  case h5__11 => (first | (simp only [gA, gB, gC]; done) | (simp only [gA, gB, gC]; exact rfl))
  (try go_simp)
  refine (oneT _).mono ?_
  rintro e w14 ⟨rfl, hb⟩
  (try go_wp2_with fail)
  refine hK.out _ _ (by (apply HRK.out; exact hb; exact hHeld)) (fun hHeld2 => ?_)
  clear hK K hHeld hb
  have hHeld := hHeld2
  clear hHeld2
  (try simp only [Act.put, sA, sB, sC])
  refine wpAnyH_take (i := 12) (oi := ?o5__12) (v := .bool true) ?h5__12 (by kernel_rfl) (by kernel_rfl) (by kernel_rfl) ?q5__12 ?y5__12 (by assumption) ?_
  case h5__12 => (first | (simp only [gA, gB, gC]; done) | (simp only [gA, gB, gC]; exact rfl))
  case q5__12 => exact fun _ _ _ h => h
  case y5__12 => (refine Or.inl ⟨rfl, ?_⟩; intro w hSw; (first | (go_simp; done) | (go_simp; simp)))
  (try simp only [Act.put, sA, sB, sC])
  refine wpAnyH_take (i := 13) (oi := ?o5__13) (v := .bool true) ?h5__13 (by kernel_rfl) (by kernel_rfl) (by kernel_rfl) ?q5__13 ?y5__13 (by assumption) ?_
  case h5__13 => (first | (simp only [gA, gB, gC]; done) | (simp only [gA, gB, gC]; exact rfl))
  case q5__13 => exact fun _ _ _ h => h
  case y5__13 => (refine Or.inl ⟨rfl, ?_⟩; intro w hSw; (first | rfl | (go_simp; (try with_reducible rfl))))
  (try simp only [Act.put, sA, sB, sC])
  refine wpAnyH_take (i := 14) (oi := ?o5__14) (v := .bool true) ?h5__14 (by kernel_rfl) (by kernel_rfl) (by kernel_rfl) ?q5__14 ?y5__14 (by assumption) ?_
  case h5__14 => (first | (simp only [gA, gB, gC]; done) | (simp only [gA, gB, gC]; exact rfl))
  case q5__14 => exact fun _ _ _ h => h
  case y5__14 => (refine Or.inl ⟨rfl, ?_⟩; intro w hSw; (first | rfl | (go_simp; (try with_reducible rfl))))
  (try simp only [Act.put, sA, sB, sC])
  refine wpAnyH_take (i := 15) (oi := ?o5__15) (v := .bool true) ?h5__15 (by kernel_rfl) (by kernel_rfl) (by kernel_rfl) ?q5__15 ?y5__15 (by assumption) ?_
  case h5__15 => (first | (simp only [gA, gB, gC]; done) | (simp only [gA, gB, gC]; exact rfl))
  case q5__15 => exact fun _ _ _ h => h
  case y5__15 => (refine Or.inl ⟨rfl, ?_⟩; intro w hSw; (first | rfl | (go_simp; (try with_reducible rfl))))
  (try simp only [Act.put, sA, sB, sC])
  refine wpAnyH_take (i := 16) (oi := ?o5__16) (v := .bool true) ?h5__16 (by kernel_rfl) (by kernel_rfl) (by kernel_rfl) ?q5__16 ?y5__16 (by assumption) ?_
  case h5__16 => (first | (simp only [gA, gB, gC]; done) | (simp only [gA, gB, gC]; exact rfl))
  case q5__16 => exact fun _ _ _ h => h
  case y5__16 => (refine Or.inl ⟨rfl, ?_⟩; intro w hSw; (first | rfl | (go_simp; (try with_reducible rfl))))
  (try simp only [Act.put, sA, sB, sC])
  refine wpAnyH_take (i := 17) (oi := ?o5__17) (v := .bool true) ?h5__17 (by kernel_rfl) (by kernel_rfl) (by kernel_rfl) ?q5__17 ?y5__17 (by assumption) ?_
  case h5__17 => (first | (simp only [gA, gB, gC]; done) | (simp only [gA, gB, gC]; exact rfl))
  case q5__17 => exact fun _ _ _ h => h
  case y5__17 => (refine Or.inl ⟨rfl, ?_⟩; intro w hSw; (first | rfl | (go_simp; (try with_reducible rfl))))
  (try simp only [Act.put, sA, sB, sC])
  refine wpAnyH_take (i := 18) (oi := ?o5__18) (v := .agg #[.int .i64 0, .int .i64 0, .int .i64 0, .int .i64 1, .int .i64 5, .int .i64 0, .int .i64 1, .int .i64 0, .int .i64 0, .int .i64 0]) ?h5__18 (by kernel_rfl) (by kernel_rfl) (by kernel_rfl) ?q5__18 ?y5__18 (by assumption) ?_
  case h5__18 => (first | (simp only [gA, gB, gC]; done) | (simp only [gA, gB, gC]; exact rfl))
  case q5__18 => exact fun _ _ _ h => h
  case y5__18 => (refine Or.inl ⟨rfl, ?_⟩; intro w hSw; exact exec_load_row 56 _ _ hSw.2.2.1 rfl rfl Try.underlying56 rfl (by kernel_rfl))
  (try simp only [Act.put, sA, sB, sC])
  refine wpAnyH_ready (rs := [19]) (by kernel_rfl) (by simp) ?_
  refine AllReadyH.cons (o := ?o5__19) ?h5__19 (fun K hK => ?_) AllReadyH.nil
  case h5__19 => (first | (simp only [gA, gB, gC]; done) | (simp only [gA, gB, gC]; exact rfl))
  (try go_simp)
  refine (oneT _).mono ?_
  rintro e w15 ⟨rfl, hb⟩
  (try go_wp2_with fail)
  refine hK.out _ _ (by (apply HRK.out; exact hb; exact hHeld)) (fun hHeld2 => ?_)
  clear hK K hHeld hb
  have hHeld := hHeld2
  clear hHeld2
  (try simp only [Act.put, sA, sB, sC])
  refine wpAnyH_take (i := 20) (oi := ?o5__20) (v := .bool true) ?h5__20 (by kernel_rfl) (by kernel_rfl) (by kernel_rfl) ?q5__20 ?y5__20 (by assumption) ?_
  case h5__20 => (first | (simp only [gA, gB, gC]; done) | (simp only [gA, gB, gC]; exact rfl))
  case q5__20 => exact fun _ _ _ h => h
  case y5__20 => (refine Or.inl ⟨rfl, ?_⟩; intro w hSw; (first | (go_simp; done) | (go_simp; simp)))
  (try simp only [Act.put, sA, sB, sC])
  refine wpAnyH_take (i := 21) (oi := ?o5__21) (v := .bool true) ?h5__21 (by kernel_rfl) (by kernel_rfl) (by kernel_rfl) ?q5__21 ?y5__21 (by assumption) ?_
  case h5__21 => (first | (simp only [gA, gB, gC]; done) | (simp only [gA, gB, gC]; exact rfl))
  case q5__21 => exact fun _ _ _ h => h
  case y5__21 => (refine Or.inl ⟨rfl, ?_⟩; intro w hSw; (first | rfl | (go_simp; (try with_reducible rfl))))
  (try simp only [Act.put, sA, sB, sC])
  refine wpAnyH_take (i := 22) (oi := ?o5__22) (v := .bool true) ?h5__22 (by kernel_rfl) (by kernel_rfl) (by kernel_rfl) ?q5__22 ?y5__22 (by assumption) ?_
  case h5__22 => (first | (simp only [gA, gB, gC]; done) | (simp only [gA, gB, gC]; exact rfl))
  case q5__22 => exact fun _ _ _ h => h
  case y5__22 => (refine Or.inl ⟨rfl, ?_⟩; intro w hSw; (first | rfl | (go_simp; (try with_reducible rfl))))
  (try simp only [Act.put, sA, sB, sC])
  refine wpAnyH_take (i := 23) (oi := ?o5__23) (v := .pointer (some ⟨t1, 0, none⟩)) ?h5__23 (by kernel_rfl) (by kernel_rfl) (by kernel_rfl) ?q5__23 ?y5__23 (by assumption) ?_
  case h5__23 => (first | (simp only [gA, gB, gC]; done) | (simp only [gA, gB, gC]; exact rfl))
  case q5__23 => exact fun _ _ _ h => h
  case y5__23 => (refine Or.inl ⟨rfl, ?_⟩; intro w hSw; (first | rfl | (go_simp; (try with_reducible rfl))))
  (try simp only [Act.put, sA, sB, sC])
  refine wpAnyH_ready (rs := [24]) (by kernel_rfl) (by simp) ?_
  refine AllReadyH.cons (o := ?o5__24) ?h5__24 (fun K hK => ?_) AllReadyH.nil
  case h5__24 => (first | (simp only [gA, gB, gC]; done) | (simp only [gA, gB, gC]; exact rfl))
  (try go_simp)
  refine (listV w.heap.size t1 kC [oneV] St_2 _ (hHeld.2.2.2) (by decide) 1 rfl).mono ?_
  rintro e w16 ⟨A2, c2, rfl, hown, hb⟩
  (try go_wp2_with fail)
  refine hK.out _ _ (by (apply HRK.out; exact hb; exact hHeld)) (fun hHeld2 => ?_)
  clear hown
  clear hK K hHeld hb
  have hHeld := hHeld2
  clear hHeld2
  (try simp only [Act.put, sA, sB, sC])
  refine wpAnyH_take (i := 25) (oi := ?o5__25) (v := .int .i64 1) ?h5__25 (by kernel_rfl) (by kernel_rfl) (by kernel_rfl) ?q5__25 ?y5__25 (by assumption) ?_
  case h5__25 => (first | (simp only [gA, gB, gC]; done) | (simp only [gA, gB, gC]; exact rfl))
  case q5__25 => exact fun _ _ _ h => h
  case y5__25 => (refine Or.inl ⟨rfl, ?_⟩; intro w hSw; (first | rfl | (go_simp; (try with_reducible rfl))))
  (try simp only [Act.put, sA, sB, sC])
  refine wpAnyH_take (i := 26) (oi := ?o5__26) (v := .bool true) ?h5__26 (by kernel_rfl) (by kernel_rfl) (by kernel_rfl) ?q5__26 ?y5__26 (by assumption) ?_
  case h5__26 => (first | (simp only [gA, gB, gC]; done) | (simp only [gA, gB, gC]; exact rfl))
  case q5__26 => exact fun _ _ _ h => h
  case y5__26 => (refine Or.inl ⟨rfl, ?_⟩; intro w hSw; (go_simp; (try with_reducible rfl)))
  (try simp only [Act.put, sA, sB, sC])
  refine wpAnyH_take (i := 27) (oi := ?o5__27) (v := .bool true) ?h5__27 (by kernel_rfl) (by kernel_rfl) (by kernel_rfl) ?q5__27 ?y5__27 (by assumption) ?_
  case h5__27 => (first | (simp only [gA, gB, gC]; done) | (simp only [gA, gB, gC]; exact rfl))
  case q5__27 => exact fun _ _ _ h => h
  case y5__27 => (refine Or.inl ⟨rfl, ?_⟩; intro w hSw; (first | rfl | (go_simp; (try with_reducible rfl))))
  (try simp only [Act.put, sA, sB, sC])
  refine wpAnyH_take (i := 28) (oi := ?o5__28) (v := .bool true) ?h5__28 (by kernel_rfl) (by kernel_rfl) (by kernel_rfl) ?q5__28 ?y5__28 (by assumption) ?_
  case h5__28 => (first | (simp only [gA, gB, gC]; done) | (simp only [gA, gB, gC]; exact rfl))
  case q5__28 => exact fun _ _ _ h => h
  case y5__28 => (refine Or.inl ⟨rfl, ?_⟩; intro w hSw; (first | rfl | (go_simp; (try with_reducible rfl))))
  (try simp only [Act.put, sA, sB, sC])
  refine wpAnyH_ready (rs := [29]) (by kernel_rfl) (by simp) ?_
  refine AllReadyH.cons (o := ?o5__29) ?h5__29 (fun K hK => ?_) AllReadyH.nil
  case h5__29 => (first | (simp only [gA, gB, gC]; done) | (simp only [gA, gB, gC]; exact rfl))
  (try go_simp)
  refine (spanV 0 1 _ (by decide)).mono ?_
  rintro e w' ⟨rfl, rfl⟩
  (try go_wp2_with fail)
  refine hK.out _ _ hHeld (fun hHeld2 => ?_)
  clear hK K hHeld2
  (try simp only [Act.put, sA, sB, sC])
  refine wpAnyH_take (i := 30) (oi := ?o5__30) (v := .bool true) ?h5__30 (by kernel_rfl) (by kernel_rfl) (by kernel_rfl) ?q5__30 ?y5__30 (by assumption) ?_
  case h5__30 => (first | (simp only [gA, gB, gC]; done) | (simp only [gA, gB, gC]; exact rfl))
  case q5__30 => exact fun _ _ _ h => h
  case y5__30 => (refine Or.inl ⟨rfl, ?_⟩; intro w hSw; (go_simp; (try with_reducible rfl)))
  (try simp only [Act.put, sA, sB, sC])
  refine wpAnyH_take (i := 31) (oi := ?o5__31) (v := .bool true) ?h5__31 (by kernel_rfl) (by kernel_rfl) (by kernel_rfl) ?q5__31 ?y5__31 (by assumption) ?_
  case h5__31 => (first | (simp only [gA, gB, gC]; done) | (simp only [gA, gB, gC]; exact rfl))
  case q5__31 => exact fun _ _ _ h => h
  case y5__31 => (refine Or.inl ⟨rfl, ?_⟩; intro w hSw; (first | rfl | (go_simp; (try with_reducible rfl))))
  (try simp only [Act.put, sA, sB, sC])
  refine wpAnyH_take (i := 32) (oi := ?o5__32) (v := .bool true) ?h5__32 (by kernel_rfl) (by kernel_rfl) (by kernel_rfl) ?q5__32 ?y5__32 (by assumption) ?_
  case h5__32 => (first | (simp only [gA, gB, gC]; done) | (simp only [gA, gB, gC]; exact rfl))
  case q5__32 => exact fun _ _ _ h => h
  case y5__32 => (refine Or.inl ⟨rfl, ?_⟩; intro w hSw; (first | rfl | (go_simp; (try with_reducible rfl))))
  (try simp only [Act.put, sA, sB, sC])
  refine wpAnyH_ready (rs := [33]) (by kernel_rfl) (by simp) ?_
  refine AllReadyH.cons (o := ?o5__33) ?h5__33 (fun K hK => ?_) AllReadyH.nil
  case h5__33 => (first | (simp only [gA, gB, gC]; done) | (simp only [gA, gB, gC]; exact rfl))
  (try go_simp)
  refine (configT _).mono ?_
  rintro e w17 ⟨rfl, hb⟩
  (try go_wp2_with fail)
  refine hK.out _ _ (by (apply HRK.out; exact hb; exact hHeld)) (fun hHeld2 => ?_)
  clear hK K hHeld hb
  have hHeld := hHeld2
  clear hHeld2
  (try simp only [Act.put, sA, sB, sC])
  refine wpAnyH_ready (rs := [34]) (by kernel_rfl) (by simp) ?_
  refine AllReadyH.cons (o := ?o5__34) ?h5__34 (fun K hK => ?_) AllReadyH.nil
  case h5__34 => (first | (simp only [gA, gB, gC]; done) | (simp only [gA, gB, gC]; exact rfl))
  (try go_simp)
  refine (tripV kC 26 _ (by first | rfl | decide | decide +kernel)).mono ?_
  rintro e w18 ⟨rfl, hb⟩
  (try go_wp2_with fail)
  refine hK.out _ _ (by (apply HRK.out; exact hb; exact hHeld)) (fun hHeld2 => ?_)
  clear hK K hHeld hb
  have hHeld := hHeld2
  clear hHeld2
  (try simp only [Act.put, sA, sB, sC])
  refine wpAnyH_take (i := 35) (oi := ?o5__35) (v := .bool true) ?h5__35 (by kernel_rfl) (by kernel_rfl) (by kernel_rfl) ?q5__35 ?y5__35 (by assumption) ?_
  case h5__35 => (first | (simp only [gA, gB, gC]; done) | (simp only [gA, gB, gC]; exact rfl))
  case q5__35 => exact fun _ _ _ h => h
  case y5__35 => (refine Or.inl ⟨rfl, ?_⟩; intro w hSw; (go_simp; (try with_reducible rfl)))
  (try simp only [Act.put, sA, sB, sC])
  refine wpAnyH_take (i := 36) (oi := ?o5__36) (v := .bool true) ?h5__36 (by kernel_rfl) (by kernel_rfl) (by kernel_rfl) ?q5__36 ?y5__36 (by assumption) ?_
  case h5__36 => (first | (simp only [gA, gB, gC]; done) | (simp only [gA, gB, gC]; exact rfl))
  case q5__36 => exact fun _ _ _ h => h
  case y5__36 => (refine Or.inl ⟨rfl, ?_⟩; intro w hSw; (first | rfl | (go_simp; (try with_reducible rfl))))
  (try simp only [Act.put, sA, sB, sC])
  refine wpAnyH_take (i := 37) (oi := ?o5__37) (v := .bool true) ?h5__37 (by kernel_rfl) (by kernel_rfl) (by kernel_rfl) ?q5__37 ?y5__37 (by assumption) ?_
  case h5__37 => (first | (simp only [gA, gB, gC]; done) | (simp only [gA, gB, gC]; exact rfl))
  case q5__37 => exact fun _ _ _ h => h
  case y5__37 => (refine Or.inl ⟨rfl, ?_⟩; intro w hSw; (first | rfl | (go_simp; (try with_reducible rfl))))
  (try simp only [Act.put, sA, sB, sC])
  refine wpAnyH_done (by kernel_rfl) ?_ _
  have HSd5 := Lib.hid hHeld.1
  have HBn4d5 := Lib.hid (hHeld.2.1)
  have HBn6d5 := Lib.hid (hHeld.2.2.1)
  have HFtd5 := Lib.hid (hHeld.2.2.2)
  clear hHeld HRK HRD HS13 HBn413 HBn613 HFt_13
  (try go_wp2_with fail)
  go_ret
  exact ⟨rfl, HSd5.out⟩
end Go.Proofs.Ytggafipgfgbbiaa.Le
namespace Go.Proofs.Ytggafipgfgbbiaa.Le
set_option linter.unusedVariables false
set_option linter.unusedSimpArgs false
open Go.RowKit Go.Proofs.Ytggafipgfgbbiaa.Ba Go.Proofs.Ytggafipgfgbbiaa.Mem Go.Proofs.Ytggafipgfgbbiaa.Ty
open Go.Proofs.Ytggafipgfgbbiaa.Ls (LV leaC)
structure LopV where
  k : Int
  l : LeaseV
instance : Inhabited LopV := ⟨⟨0, ⟨0, 0, 0, 0, 0, 0, 0, 0, 0, 0⟩⟩⟩
def lopC (o : LopV) : List Value := .int .i64 o.k :: leaC o.l
set_option maxRecDepth 100000
section
variable {H : Type} {enc : TypeId × Value → H} {w : World} {base : Nat} {spare : Nat → Bool} {held : Bool}
theorem lop_of {fuel : Nat} {cs : List Value} {x : DataW H × List MemPlace} (h : DataW.trod enc Try.prog w base spare held fuel 58 cs = some x) : ∃ o : LopV, cs = lopC o := by
  have e1 : Try.prog.cellsOf 3 = 1 := by kernel_rfl
  have e10 : Try.prog.cellsOf 56 = 10 := by kernel_rfl
  obtain ⟨xs, n, rfl, _, hl, hx, hf⟩ := DataW.trod_struct Try.underlying58 h
  have hl' : cs.length = 11 := hl.trans (by kernel_rfl)
  match cs, hl' with
  | [a0, a1, a2, a3, a4, a5, a6, a7, a8, a9, a10], _ =>
    have hx' : xs.length = 2 := hx
    match xs, hx' with
    | [y0, y1], _ =>
      have g0 := hf 0 _ rfl
      have g1 := hf 1 _ rfl
      simp [e1, e10] at g0 g1
      obtain ⟨v0, q0, _⟩ := DataW.trod_int Try.underlying3 g0
      obtain ⟨l, hl⟩ := Ls.lease_of g1
      simp at q0
      exact ⟨⟨v0, l⟩, by rw [q0, hl]; rfl⟩
/-- The slice (address a, n elements) reads as these calls. -/
def Lops (w : World) (a : Option Addr) (n : Nat) (ls : Nat → LopV) : Prop :=
  n = 0 ∨ ∃ b off, a = some ⟨b, off, none⟩ ∧ b < w.heap.size ∧ ∀ i, i < n → ∀ j v, (lopC (ls i))[j]? = some v → w.cell? ⟨b, off + i * 11 + j, none⟩ = some v
theorem Lops.at_ {w : World} {a : Option Addr} {n : Nat} {ls : Nat → LopV} (h : Lops w a n ls) {k : Nat} (hk : k < n) : ∃ b off, a = some ⟨b, off, none⟩ ∧ b < w.heap.size ∧ ∀ i, i < n → ∀ j v, (lopC (ls i))[j]? = some v → w.cell? ⟨b, off + i * 11 + j, none⟩ = some v := by
  rcases h with h | h
  · omega
  · exact h
theorem Lops.open_ {fuel : Nat} {a : Option Addr} {len cap : Nat} {x : DataW H × List MemPlace} (h : DataW.trod enc Try.prog w base spare held fuel 52 [.slice a len cap] = some x) : ∃ ls, Lops w a len ls ∧ len ≤ 9223372036854775807 := by
  have ce : Try.prog.cellsOf 58 = 11 := by kernel_rfl
  rcases Go.Deep.open_slice Try.underlying52 h with ⟨hcs, _⟩ | ⟨a', len', cap', m, n, D, Pl, hcs, hb, hlc, hcm, hm, _, hx⟩
  · simp at hcs
    obtain ⟨rfl, rfl, rfl⟩ := hcs
    exact ⟨default, .inl rfl, by omega⟩
  · simp at hcs
    obtain ⟨rfl, rfl, rfl⟩ := hcs
    have hlm : len ≤ m := by rw [hm]; split <;> omega
    have each : ∀ i, i < len → ∃ l : LopV, ∀ j v, (lopC l)[j]? = some v → w.cell? ((a'.add (i * 11)).add j) = some v := by
      intro i hi
      obtain ⟨cs', h1, h2⟩ := hx i (by omega)
      rw [ce] at h1
      obtain ⟨_, hlen, hcell⟩ := World.cells?_some h1
      obtain ⟨l, rfl⟩ := lop_of h2
      refine ⟨l, fun j v hj => ?_⟩
      have hj9 : j < 11 := by
        obtain ⟨hlt, _⟩ := List.getElem?_eq_some_iff.1 hj
        simpa [lopC, leaC] using hlt
      rw [hcell j hj9, hj]
    obtain ⟨ls, hls⟩ := Go.Deep.choose_lt each
    refine ⟨ls, ?_, by unfold maxLen at hcm; omega⟩
    rcases Nat.eq_zero_or_pos len with h0 | h0
    · exact .inl h0
    · obtain ⟨b, off, idx⟩ := a'
      have c0 := hls 0 h0 0 _ rfl
      cases idx with
      | none =>
        rw [Go.WideShapes.add_plain, Go.WideShapes.add_plain] at c0
        refine .inr ⟨b, off, rfl, World.block_lt_of_cell? _ _ c0, fun i hi j v hj => ?_⟩
        have := hls i hi j v hj
        rw [Go.WideShapes.add_plain, Go.WideShapes.add_plain] at this
        exact this
      | some q =>
        exfalso
        simp [World.cell?, Addr.add] at c0
        split at c0 <;> simp at c0
end
end Go.Proofs.Ytggafipgfgbbiaa.Le
