/-
  Spans and trips (layer 19), and what rides (layer 20) call: as plain numbers.
  No condition.
-/
import Derived.Test.YtggafipgfgbbiaaTck
import Derived.Test.YtggafipgfgbbiaaFltRb
import Derived.Test.YtggafipgfgbbiaaStp
namespace Go.Proofs.Ytggafipgfgbbiaa.Ri
set_option linter.unusedVariables false
set_option linter.unusedSimpArgs false
open Go.RowKit Go.Proofs.Ytggafipgfgbbiaa.Ba Go.Proofs.Ytggafipgfgbbiaa.Mo Go.Proofs.Ytggafipgfgbbiaa.Ty Go.Proofs.Ytggafipgfgbbiaa.Mem Go.Proofs.Ytggafipgfgbbiaa.Tm Go.Proofs.Ytggafipgfgbbiaa.Tw
open Go.Proofs.Ytggafipgfgbbiaa.Ce (ms ms_lo ms_hi massT nearT nr)
open Go.Proofs.Ytggafipgfgbbiaa.Fl (btw btw_lo btw_hi nearestR massR)
set_option maxRecDepth 100000
theorem wr (x : Int) (h0 : -9223372036854775808 ≤ x) (h1 : x ≤ 9223372036854775807) : IntKind.i64.wrap x = x := by
  simp only [IntKind.wrap, IntKind.bits, IntKind.signed]; simp; omega
/-- A timer's ticks. -/
def sp (n : Int) : Int := if n < 1 then 1 else if 1000 < n then 1000 else n
theorem sp_lo (n : Int) : 1 ≤ sp n := by unfold sp; repeat' split <;> omega
theorem sp_hi (n : Int) : sp n ≤ 1000 := by unfold sp; repeat' split <;> omega
def rn (n : Int) : Int := if n < 0 then 0 else if 1000 < n then 1000 else n
theorem rn_lo (n : Int) : 0 ≤ rn n := by unfold rn; repeat' split <;> omega
theorem rn_hi (n : Int) : rn n ≤ 1000 := by unfold rn; repeat' split <;> omega
def trV (c : CfgV) : Int := 4 * (fl c.fl - 1) + 3 * sp c.dr + 4
theorem tr_lo (c : CfgV) : 11 ≤ trV c := by have := fl_lo c.fl; have := sp_lo c.dr; unfold trV; omega
theorem tr_hi (c : CfgV) : trV c ≤ 4000 := by have := fl_hi c.fl; have := sp_hi c.dr; unfold trV; omega
theorem spanT (n : Int) (w : World) : Calls Try.prog 45 #[.int .i64 n] w fun e w' => e = .returned (.int .i64 (sp n)) ∧ w = w' := by
  by_cases h0 : n < 1
  · go_enter Try.func45, Try.ntmps45
    go_wp2
    go_ret
    exact ⟨ret_int (by unfold sp; repeat' split <;> omega), rfl⟩
  · by_cases h1 : 1000 < n
    · go_enter Try.func45, Try.ntmps45
      go_wp2
      go_ret
      exact ⟨ret_int (by unfold sp; repeat' split <;> omega), rfl⟩
    · go_enter Try.func45, Try.ntmps45
      go_wp2
      go_ret
      exact ⟨ret_int (by unfold sp; repeat' split <;> omega), rfl⟩
theorem near1 (n : Int) (w : World) : Calls Try.prog 63 #[.int .i64 n, .int .i64 1, .int .i64 1000] w fun e w' => e = .returned (.int .i64 (sp n)) ∧ w = w' := nearestR n 1 1000 w
theorem near0 (n : Int) (w : World) : Calls Try.prog 63 #[.int .i64 n, .int .i64 0, .int .i64 1000] w fun e w' => e = .returned (.int .i64 (rn n)) ∧ w = w' := nearestR n 0 1000 w
theorem spanR (n : Int) (w : World) : Calls Try.prog 46 #[.int .i64 n] w fun e w' => e = .returned (.int .i64 (sp n)) ∧ w = w' := by
  go_enter Try.func46, Try.ntmps46
  go_wp2_with (first | (go_at_call 63; refine (near1 _ _).mono ?_; rintro e w' ⟨rfl, rfl⟩))
  go_ret
  exact ⟨rfl, rfl⟩
theorem renR (c : CfgV) (w : World) : Calls Try.prog 60 #[.agg #[.int .i64 c.ca, .int .i64 c.fl, .int .i64 c.ft, .int .i64 c.se, .int .i64 c.dr, .int .i64 c.dw, .int .i64 c.ho, .int .i64 c.re, .int .i64 c.yi, .int .i64 c.qu, .int .i64 c.qo, .int .i64 c.lo, .int .i64 c.sl, .int .i64 c.rt, .int .i64 c.cp, .int .i64 c.tr, .int .i64 c.de, .int .i64 c.wi]] w fun e w' => e = .returned (.int .i64 (rn c.re)) ∧ Since w w' := by
  go_enter Try.func60, Try.ntmps60
  go_wp2_with (first | (go_at_call 63; refine (near0 _ _).mono ?_; rintro e w' ⟨rfl, rfl⟩))
  go_ret
  exact ⟨rfl, (by repeat (first | exact Since.refl _ | assumption | refine Since.setCell ?_ (by first | (simp; done) | (simp; omega)) _ | refine Since.drew ?_ | refine Since.drewN ?_ _ | refine Since.alloc ?_ _ | refine Since.trans ?_ (by assumption) | refine Since.trans ?_ (Hid.out (by assumption))))⟩
theorem tripT (c : CfgV) (w : World) : Calls Try.prog 43 #[.agg #[.int .i64 c.ca, .int .i64 c.fl, .int .i64 c.ft, .int .i64 c.se, .int .i64 c.dr, .int .i64 c.dw, .int .i64 c.ho, .int .i64 c.re, .int .i64 c.yi, .int .i64 c.qu, .int .i64 c.qo, .int .i64 c.lo, .int .i64 c.sl, .int .i64 c.rt, .int .i64 c.cp, .int .i64 c.tr, .int .i64 c.de, .int .i64 c.wi]] w fun e w' => e = .returned (.int .i64 (trV c)) ∧ Since w w' := by
  have f1 := fl_lo c.fl
  have f2 := fl_hi c.fl
  have f3 := sp_lo c.dr
  have f4 := sp_hi c.dr
  go_enter Try.func43, Try.ntmps43
  go_wp2_with fail
  go_quiet ((first | (go_at_call 64; exact quiet_eq (floorsT _ _)) | (go_at_call 45; exact quiet_eq (spanT _ _))))
  go_wp2
  go_ret
  exact ⟨ret_int (by unfold trV; simp (disch := omega) only [wr]), (by repeat (first | exact Since.refl _ | assumption | refine Since.setCell ?_ (by first | (simp; done) | (simp; omega)) _ | refine Since.drew ?_ | refine Since.drewN ?_ _ | refine Since.alloc ?_ _ | refine Since.trans ?_ (by assumption) | refine Since.trans ?_ (Hid.out (by assumption))))⟩
theorem tripR (c : CfgV) (w : World) : Calls Try.prog 44 #[.agg #[.int .i64 c.ca, .int .i64 c.fl, .int .i64 c.ft, .int .i64 c.se, .int .i64 c.dr, .int .i64 c.dw, .int .i64 c.ho, .int .i64 c.re, .int .i64 c.yi, .int .i64 c.qu, .int .i64 c.qo, .int .i64 c.lo, .int .i64 c.sl, .int .i64 c.rt, .int .i64 c.cp, .int .i64 c.tr, .int .i64 c.de, .int .i64 c.wi]] w fun e w' => e = .returned (.int .i64 (trV c)) ∧ Since w w' := by
  have f1 := fl_lo c.fl
  have f2 := fl_hi c.fl
  have f3 := sp_lo c.dr
  have f4 := sp_hi c.dr
  go_enter Try.func44, Try.ntmps44
  go_wp2_with fail
  go_quiet ((first | (go_at_call 67; exact quiet_eq (floorsR _ _)) | (go_at_call 46; exact quiet_eq (spanR _ _))))
  go_wp2
  go_ret
  exact ⟨ret_int (by unfold trV; simp (disch := omega) only [wr]), (by repeat (first | exact Since.refl _ | assumption | refine Since.setCell ?_ (by first | (simp; done) | (simp; omega)) _ | refine Since.drew ?_ | refine Since.drewN ?_ _ | refine Since.alloc ?_ _ | refine Since.trans ?_ (by assumption) | refine Since.trans ?_ (Hid.out (by assumption))))⟩
/-- A message's fields. -/
structure MsgV where
  ki : Int
  a : Int
  b : Int
  c : Int
def msgC (m : MsgV) : Array Value := #[.int .i64 m.ki, .int .i64 m.a, .int .i64 m.b, .int .i64 m.c]
/-- What is said: nothing, or one message in a block that is newer than w0's. -/
def Ms (w0 w : World) (v : Value) (o : Option MsgV) : Prop :=
  match o with
  | none => v = .slice none 0 0
  | some m => ∃ b, v = .slice (some ⟨b, 0, none⟩) 1 1 ∧ w0.heap.size ≤ b ∧ Blk w b 85 (msgC m)
theorem Ms.keep {w0 w w' : World} {v : Value} {o : Option MsgV} (k : Since w w') (h : Ms w0 w v o) : Ms w0 w' v o := by
  cases o with
  | none => exact h
  | some m =>
    obtain ⟨b, e, hb, B⟩ := h
    exact ⟨b, e, hb, keep_blk k B⟩
/-- Is a car open at a floor? -/
def opB (x : CarV) (f : Int) : Bool := lvB x.un && (lvN x.un == f) && (x.ds == 2)
theorem openT (x : CarV) (f : Int) (w : World) : Calls Try.prog 84 #[.agg #[.int .i64 x.ds, .int .i64 x.da, .int .i64 x.un, .int .i64 x.wy, .int .i64 x.ti, .int .i64 x.ju, .int .i64 x.lo, .bool x.bl, .bool x.br, .int .i64 x.mo, .int .i64 x.ta, .bool x.ho, .int .u64 x.sp, .int .u64 x.su, .int .u64 x.sd], .int .i64 f] w fun e w' => e = .returned (.bool (opB x f)) ∧ Since w w' := by
  cases h0 : lvB x.un
  · have H0 := Lib.hid h0
    go_enter Try.func84, Try.ntmps84
    go_wp2_with (first | (go_at_call 94; refine (levelT _ _).mono ?_; rintro e w' ⟨rfl, rfl⟩))
    go_ret
    exact ⟨ret_bool (by unfold opB; rw [H0.out]; rfl), (by repeat (first | exact Since.refl _ | assumption | refine Since.setCell ?_ (by first | (simp; done) | (simp; omega)) _ | refine Since.drew ?_ | refine Since.drewN ?_ _ | refine Since.alloc ?_ _ | refine Since.trans ?_ (by assumption) | refine Since.trans ?_ (Hid.out (by assumption))))⟩
  · have H0 := Lib.hid h0
    cases h1 : (lvN x.un == f)
    · have H1 := Lib.hid h1
      go_enter Try.func84, Try.ntmps84
      go_wp2_with (first | (go_at_call 94; refine (levelT _ _).mono ?_; rintro e w' ⟨rfl, rfl⟩))
      go_ret
      exact ⟨ret_bool (by unfold opB; rw [H0.out, H1.out]; rfl), (by repeat (first | exact Since.refl _ | assumption | refine Since.setCell ?_ (by first | (simp; done) | (simp; omega)) _ | refine Since.drew ?_ | refine Since.drewN ?_ _ | refine Since.alloc ?_ _ | refine Since.trans ?_ (by assumption) | refine Since.trans ?_ (Hid.out (by assumption))))⟩
    · have H1 := Lib.hid h1
      go_enter Try.func84, Try.ntmps84
      go_wp2_with (first | (go_at_call 94; refine (levelT _ _).mono ?_; rintro e w' ⟨rfl, rfl⟩))
      go_ret
      exact ⟨ret_bool (by unfold opB; rw [H0.out, H1.out]; rfl), (by repeat (first | exact Since.refl _ | assumption | refine Since.setCell ?_ (by first | (simp; done) | (simp; omega)) _ | refine Since.drew ?_ | refine Since.drewN ?_ _ | refine Since.alloc ?_ _ | refine Since.trans ?_ (by assumption) | refine Since.trans ?_ (Hid.out (by assumption))))⟩
theorem sayT (k a : Int) (w : World) : Calls Try.prog 83 #[.int .i64 k, .int .i64 a] w fun e w' => ∃ b, e = .returned (.slice (some ⟨b, 0, none⟩) 1 1) ∧ w.heap.size ≤ b ∧ Blk w' b 85 #[.int .i64 k, .int .i64 a, .int .i64 0, .int .i64 0] ∧ Since w w' := by
  go_enter Try.func83, Try.ntmps83
  go_wp2
  go_ret
  exact ⟨_, rfl, Nat.le_refl _, Blk.new _ _ _, (by repeat (first | exact Since.refl _ | assumption | refine Since.setCell ?_ (by first | (simp; done) | (simp; omega)) _ | refine Since.drew ?_ | refine Since.drewN ?_ _ | refine Since.alloc ?_ _ | refine Since.trans ?_ (by assumption) | refine Since.trans ?_ (Hid.out (by assumption))))⟩
def cfgA (c : CfgV) : Array Value := #[.int .i64 c.ca, .int .i64 c.fl, .int .i64 c.ft, .int .i64 c.se, .int .i64 c.dr, .int .i64 c.dw, .int .i64 c.ho, .int .i64 c.re, .int .i64 c.yi, .int .i64 c.qu, .int .i64 c.qo, .int .i64 c.lo, .int .i64 c.sl, .int .i64 c.rt, .int .i64 c.cp, .int .i64 c.tr, .int .i64 c.de, .int .i64 c.wi]
def leaA (l : LeaseV) : Array Value := #[.int .i64 l.se, .int .i64 l.fl, .int .i64 l.fm, .int .i64 l.to, .int .i64 l.ma, .int .i64 l.ca, .int .i64 l.ph, .int .i64 l.un, .int .i64 l.re, .int .i64 l.gr]
def carA (x : CarV) : Array Value := #[.int .i64 x.ds, .int .i64 x.da, .int .i64 x.un, .int .i64 x.wy, .int .i64 x.ti, .int .i64 x.ju, .int .i64 x.lo, .bool x.bl, .bool x.br, .int .i64 x.mo, .int .i64 x.ta, .bool x.ho, .int .u64 x.sp, .int .u64 x.su, .int .u64 x.sd]
/-- What a step of a lease answers: the lease, what is said, is it over; nothing that was there has changed. -/
def Said (w : World) (r : LeaseV × Option MsgV × Bool) (e : Ending) (w' : World) : Prop := ∃ v, e = .returned (.tuple #[.agg #[.int .i64 r.1.se, .int .i64 r.1.fl, .int .i64 r.1.fm, .int .i64 r.1.to, .int .i64 r.1.ma, .int .i64 r.1.ca, .int .i64 r.1.ph, .int .i64 r.1.un, .int .i64 r.1.re, .int .i64 r.1.gr], v, .bool r.2.2]) ∧ Ms w w' v r.2.1 ∧ Since w w'
end Go.Proofs.Ytggafipgfgbbiaa.Ri
