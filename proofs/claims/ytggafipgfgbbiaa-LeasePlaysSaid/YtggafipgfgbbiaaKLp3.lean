/-
  What is wanted by the last of these texts, part 3.
  No condition.
-/
import Derived.Test.YtggafipgfgbbiaaRows
import Derived.Test.YtggafipgfgbbiaaKLp0
import Derived.Test.YtggafipgfgbbiaaKLp2
import Derived.Deep.Slices
import Derived.WalkKit
import Derived.WalkLawsBesides
import Derived.IntWalk
import Derived.Lib.Hide
set_option maxRecDepth 100000
namespace Go.Proofs.Ytggafipgfgbbiaa.Ls
set_option linter.unusedVariables false
set_option linter.unusedSimpArgs false
open Go.RowKit Go.Proofs.Ytggafipgfgbbiaa.Ba Go.Proofs.Ytggafipgfgbbiaa.Ty Go.Proofs.Ytggafipgfgbbiaa.Mem
def leaC (l : LeaseV) : List Value := [.int .i64 l.se, .int .i64 l.fl, .int .i64 l.fm, .int .i64 l.to, .int .i64 l.ma, .int .i64 l.ca, .int .i64 l.ph, .int .i64 l.un, .int .i64 l.re, .int .i64 l.gr]
instance : Inhabited LeaseV := ⟨⟨0, 0, 0, 0, 0, 0, 0, 0, 0, 0⟩⟩
section
variable {H : Type} {enc : TypeId × Value → H} {w : World} {base : Nat} {spare : Nat → Bool} {held : Bool}
theorem lease_of {fuel : Nat} {cs : List Value} {x : DataW H × List MemPlace} (h : DataW.trod enc Try.prog w base spare held fuel 56 cs = some x) : ∃ l : LeaseV, cs = leaC l := by
  have e1 : Try.prog.cellsOf 3 = 1 := by kernel_rfl
  have e5 : Try.prog.cellsOf 30 = 5 := by kernel_rfl
  obtain ⟨xs, n, rfl, _, hl, hx, hf⟩ := DataW.trod_struct Try.underlying56 h
  have hl' : cs.length = 10 := hl.trans (by kernel_rfl)
  match cs, hl' with
  | [a0, a1, a2, a3, a4, a5, a6, a7, a8, a9], _ =>
    have hx' : xs.length = 6 := hx
    match xs, hx' with
    | [y0, y1, y2, y3, y4, y5], _ =>
      have g0 := hf 0 _ rfl
      have g1 := hf 1 _ rfl
      have g2 := hf 2 _ rfl
      have g3 := hf 3 _ rfl
      have g4 := hf 4 _ rfl
      have g5 := hf 5 _ rfl
      simp [e1, e5] at g0 g1 g2 g3 g4 g5
      obtain ⟨zs, m, rfl, _, _, hz, hg⟩ := DataW.trod_struct Try.underlying30 g0
      have hz' : zs.length = 5 := hz
      match zs, hz' with
      | [z0, z1, z2, z3, z4], _ =>
        have k0 := hg 0 _ rfl
        have k1 := hg 1 _ rfl
        have k2 := hg 2 _ rfl
        have k3 := hg 3 _ rfl
        have k4 := hg 4 _ rfl
        simp [e1] at k0 k1 k2 k3 k4
        obtain ⟨v0, q0, _⟩ := DataW.trod_int Try.underlying3 k0
        obtain ⟨v1, q1, _⟩ := DataW.trod_int Try.underlying3 k1
        obtain ⟨v2, q2, _⟩ := DataW.trod_int Try.underlying3 k2
        obtain ⟨v3, q3, _⟩ := DataW.trod_int Try.underlying3 k3
        obtain ⟨v4, q4, _⟩ := DataW.trod_int Try.underlying3 k4
        obtain ⟨v5, q5, _⟩ := DataW.trod_int Try.underlying3 g1
        obtain ⟨v6, q6, _⟩ := DataW.trod_int Try.underlying3 g2
        obtain ⟨v7, q7, _⟩ := DataW.trod_int Try.underlying3 g3
        obtain ⟨v8, q8, _⟩ := DataW.trod_int Try.underlying3 g4
        obtain ⟨v9, q9, _⟩ := DataW.trod_int Try.underlying3 g5
        simp at q0 q1 q2 q3 q4 q5 q6 q7 q8 q9
        exact ⟨⟨v0, v1, v2, v3, v4, v5, v6, v7, v8, v9⟩, by simp [leaC, *]⟩
/-- The slice (address a, n elements) reads as these leases. -/
def LV (w : World) (a : Option Addr) (n : Nat) (ls : Nat → LeaseV) : Prop :=
  n = 0 ∨ ∃ b off, a = some ⟨b, off, none⟩ ∧ b < w.heap.size ∧ ∀ i, i < n → ∀ j v, (leaC (ls i))[j]? = some v → w.cell? ⟨b, off + i * 10 + j, none⟩ = some v
theorem LV.keep {w w' : World} {a : Option Addr} {n : Nat} {ls : Nat → LeaseV} (k : Since w w') (h : LV w a n ls) : LV w' a n ls := by
  rcases h with h | ⟨b, off, e, hb, hc⟩
  · exact .inl h
  · exact .inr ⟨b, off, e, Nat.lt_of_lt_of_le hb k.size, fun i hi j v hj => keep_cell k (hc i hi j v hj)⟩
theorem LV.open_ {fuel : Nat} {a : Option Addr} {len cap : Nat} {x : DataW H × List MemPlace} (h : DataW.trod enc Try.prog w base spare held fuel 24 [.slice a len cap] = some x) : ∃ ls, LV w a len ls ∧ len ≤ 9223372036854775807 := by
  have ce : Try.prog.cellsOf 56 = 10 := by kernel_rfl
  rcases Go.Deep.open_slice Try.underlying24 h with ⟨hcs, _⟩ | ⟨a', len', cap', m, n, D, Pl, hcs, hb, hlc, hcm, hm, _, hx⟩
  · simp at hcs
    obtain ⟨rfl, rfl, rfl⟩ := hcs
    exact ⟨default, .inl rfl, by omega⟩
  · simp at hcs
    obtain ⟨rfl, rfl, rfl⟩ := hcs
    have hlm : len ≤ m := by rw [hm]; split <;> omega
    have each : ∀ i, i < len → ∃ l : LeaseV, ∀ j v, (leaC l)[j]? = some v → w.cell? ((a'.add (i * 10)).add j) = some v := by
      intro i hi
      obtain ⟨cs', h1, h2⟩ := hx i (by omega)
      rw [ce] at h1
      obtain ⟨_, hlen, hcell⟩ := World.cells?_some h1
      obtain ⟨l, rfl⟩ := lease_of h2
      refine ⟨l, fun j v hj => ?_⟩
      have hj10 : j < 10 := by
        obtain ⟨hlt, _⟩ := List.getElem?_eq_some_iff.1 hj
        simpa [leaC] using hlt
      rw [hcell j hj10, hj]
    obtain ⟨ls, hls⟩ := Go.Deep.choose_lt each
    refine ⟨ls, ?_, by unfold maxLen at hcm; omega⟩
    rcases Nat.eq_zero_or_pos len with h0 | h0
    · exact .inl h0
    · obtain ⟨b, off, idx⟩ := a'
      have c0 := hls 0 h0 0 _ rfl
      cases idx with
      | none =>
        rw [Go.WideShapes.add_plain, Go.WideShapes.add_plain] at c0
        refine .inr ⟨b, off, rfl, World.block_lt_of_cell? _ _ c0, fun i hi j v hj => ?_⟩
        have := hls i hi j v hj
        rw [Go.WideShapes.add_plain, Go.WideShapes.add_plain] at this
        exact this
      | some q =>
        exfalso
        simp [World.cell?, Addr.add] at c0
        split at c0 <;> simp at c0
end
end Go.Proofs.Ytggafipgfgbbiaa.Ls
namespace Go.Proofs.Ytggafipgfgbbiaa.Mo
set_option linter.unusedVariables false
set_option linter.unusedSimpArgs false
def fl (n : Int) : Int := if n < 2 then 2 else if 64 < n then 64 else n
theorem fl_lo (n : Int) : 2 ≤ fl n := by unfold fl; repeat' split <;> omega
theorem fl_hi (n : Int) : fl n ≤ 64 := by unfold fl; repeat' split <;> omega
def fr (u f : Int) : Int := if u - 4 * f < 0 then 4 * f - u else u - 4 * f
end Go.Proofs.Ytggafipgfgbbiaa.Mo
namespace Go.Proofs.Ytggafipgfgbbiaa.Mo
set_option linter.unusedVariables false
set_option linter.unusedSimpArgs false
open Go.RowKit Go.Proofs.Ytggafipgfgbbiaa.Ba
theorem floorsT (n : Int) (w : World) : Calls Try.prog 64 #[.int .i64 n] w fun e w' => e = .returned (.int .i64 (fl n)) ∧ w = w' := by
  by_cases h0 : n < 2
  · go_enter Try.func64, Try.ntmps64
    go_wp2
    go_ret
    exact ⟨ret_int (by unfold fl; repeat' split <;> omega), rfl⟩
  · by_cases h1 : 64 < n
    · go_enter Try.func64, Try.ntmps64
      go_wp2
      go_ret
      exact ⟨ret_int (by unfold fl; repeat' split <;> omega), rfl⟩
    · go_enter Try.func64, Try.ntmps64
      go_wp2
      go_ret
      exact ⟨ret_int (by unfold fl; repeat' split <;> omega), rfl⟩
theorem floorsR (n : Int) (w : World) : Calls Try.prog 67 #[.int .i64 n] w fun e w' => e = .returned (.int .i64 (fl n)) ∧ w = w' := by
  go_enter Try.func67, Try.ntmps67
  go_wp2
  all_goals
    go_ret
    exact ⟨ret_int (by unfold fl; repeat' split <;> omega), rfl⟩
end Go.Proofs.Ytggafipgfgbbiaa.Mo
namespace Go.Proofs.Ytggafipgfgbbiaa.Ce
set_option linter.unusedVariables false
set_option linter.unusedSimpArgs false
def ms (n : Int) : Int := if n < 0 then 0 else if 10000 < n then 10000 else n
theorem ms_lo (n : Int) : 0 ≤ ms n := by unfold ms; repeat' split <;> omega
theorem ms_hi (n : Int) : ms n ≤ 10000 := by unfold ms; repeat' split <;> omega
def ab (n : Int) : Int := if n < 0 then -n else n
def nr (a b c : Int) : Bool := decide (ab (ms a - ms b) ≤ ms c)
end Go.Proofs.Ytggafipgfgbbiaa.Ce
namespace Go.Proofs.Ytggafipgfgbbiaa.Ce
set_option linter.unusedVariables false
set_option linter.unusedSimpArgs false
open Go.RowKit
theorem ret_int {k : IntKind} {a b : Int} (h : a = b) : Ending.returned (.int k a) = .returned (.int k b) := by rw [h]
theorem ret_bool {a b : Bool} (h : a = b) : Ending.returned (.bool a) = .returned (.bool b) := by rw [h]
theorem massT (n : Int) (w : World) : Calls Try.prog 66 #[.int .i64 n] w fun e w' => e = .returned (.int .i64 (ms n)) ∧ w = w' := by
  by_cases h0 : n < 0
  · go_enter Try.func66, Try.ntmps66
    go_wp2
    go_ret
    exact ⟨ret_int (by unfold ms; repeat' split <;> omega), rfl⟩
  · by_cases h1 : 10000 < n
    · go_enter Try.func66, Try.ntmps66
      go_wp2
      go_ret
      exact ⟨ret_int (by unfold ms; repeat' split <;> omega), rfl⟩
    · go_enter Try.func66, Try.ntmps66
      go_wp2
      go_ret
      exact ⟨ret_int (by unfold ms; repeat' split <;> omega), rfl⟩
theorem nearT (a b c : Int) (w : World) : Calls Try.prog 96 #[.int .i64 a, .int .i64 b, .int .i64 c] w fun e w' => e = .returned (.bool (nr a b c)) ∧ w = w' := by
  have h1 := ms_lo a
  have h2 := ms_hi a
  have h3 := ms_lo b
  have h4 := ms_hi b
  go_enter Try.func96, Try.ntmps96
  go_wp2_with (go_at_call 66; refine (massT _ _).mono ?_; rintro e w' ⟨rfl, rfl⟩)
  all_goals
    go_ret
    exact ⟨ret_bool (by unfold nr ab; congr 1; rw [eq_iff_iff]; split <;> omega), rfl⟩
end Go.Proofs.Ytggafipgfgbbiaa.Ce
namespace Go.Proofs.Ytggafipgfgbbiaa.Fl
set_option linter.unusedVariables false
set_option linter.unusedSimpArgs false
open Go.RowKit Go.Proofs.Ytggafipgfgbbiaa.Ba Go.Proofs.Ytggafipgfgbbiaa.Mo Go.Proofs.Ytggafipgfgbbiaa.Ty
open Go.Proofs.Ytggafipgfgbbiaa.Ce (ms massT)
set_option maxRecDepth 100000
/-- Within bounds. -/
def btw (n lo hi : Int) : Int := if n < lo then lo else if hi < n then hi else n
theorem btw_lo (n lo hi : Int) (h : lo ≤ hi) : lo ≤ btw n lo hi := by unfold btw; repeat' split <;> omega
theorem btw_hi (n lo hi : Int) (h : lo ≤ hi) : btw n lo hi ≤ hi := by unfold btw; repeat' split <;> omega
theorem betweenT (n lo hi : Int) (h : lo ≤ hi) (w : World) : Calls Try.prog 62 #[.int .i64 n, .int .i64 lo, .int .i64 hi] w fun e w' => e = .returned (.int .i64 (btw n lo hi)) ∧ w = w' := by
  by_cases h0 : n < lo
  · go_enter Try.func62, Try.ntmps62
    go_wp2
    all_goals
      go_ret
      exact ⟨ret_int (by unfold btw; repeat' split <;> omega), rfl⟩
  · by_cases h1 : hi < n
    · go_enter Try.func62, Try.ntmps62
      go_wp2
      all_goals
        go_ret
        exact ⟨ret_int (by unfold btw; repeat' split <;> omega), rfl⟩
    · go_enter Try.func62, Try.ntmps62
      go_wp2
      all_goals
        go_ret
        exact ⟨ret_int (by unfold btw; repeat' split <;> omega), rfl⟩
theorem quotaT (c : CfgV) (w : World) : Calls Try.prog 17 #[.agg #[.int .i64 c.ca, .int .i64 c.fl, .int .i64 c.ft, .int .i64 c.se, .int .i64 c.dr, .int .i64 c.dw, .int .i64 c.ho, .int .i64 c.re, .int .i64 c.yi, .int .i64 c.qu, .int .i64 c.qo, .int .i64 c.lo, .int .i64 c.sl, .int .i64 c.rt, .int .i64 c.cp, .int .i64 c.tr, .int .i64 c.de, .int .i64 c.wi]] w fun e w' => e = .returned (.int .i64 (btw c.qo 1 8)) ∧ Since w w' := by
  go_enter Try.func17, Try.ntmps17
  go_wp2_with (first | (go_at_call 62; refine (betweenT _ _ _ (by omega) _).mono ?_; rintro e w' ⟨rfl, rfl⟩))
  go_ret
  exact ⟨rfl, (by repeat (first | exact Since.refl _ | assumption | refine Since.setCell ?_ (by first | (simp; done) | (simp; omega)) _ | refine Since.drew ?_ | refine Since.drewN ?_ _ | refine Since.alloc ?_ _ | refine Since.trans ?_ (by assumption) | refine Since.trans ?_ (Hid.out (by assumption))))⟩
/-- One of so many numbers, from 0 on. -/
def belB (n m : Int) : Bool := decide (0 ≤ n ∧ n < m)
theorem belowT (n m : Int) (w : World) : Calls Try.prog 65 #[.int .i64 n, .int .i64 m] w fun e w' => e = .returned (.bool (belB n m)) ∧ w = w' := by
  go_enter Try.func65, Try.ntmps65
  go_wp2
  all_goals
    go_ret
    exact ⟨ret_bool (by unfold belB; rw [Bool.eq_iff_iff]; simp <;> omega), rfl⟩
def mayB (c : CfgV) (a : AskV) : Bool := belB a.se (btw c.se 1 64) && belB a.fl (btw c.ft 1 8) && belB a.fm (fl c.fl) && belB a.to (fl c.fl) && (a.fm != a.to) && decide (1 ≤ a.ma) && decide (a.ma ≤ ms c.lo)
set_option maxHeartbeats 4000000 in
theorem mayT (c : CfgV) (a : AskV) (w : World) : Calls Try.prog 22 #[.agg #[.int .i64 c.ca, .int .i64 c.fl, .int .i64 c.ft, .int .i64 c.se, .int .i64 c.dr, .int .i64 c.dw, .int .i64 c.ho, .int .i64 c.re, .int .i64 c.yi, .int .i64 c.qu, .int .i64 c.qo, .int .i64 c.lo, .int .i64 c.sl, .int .i64 c.rt, .int .i64 c.cp, .int .i64 c.tr, .int .i64 c.de, .int .i64 c.wi], .agg #[.int .i64 a.se, .int .i64 a.fl, .int .i64 a.fm, .int .i64 a.to, .int .i64 a.ma]] w fun e w' => e = .returned (.bool (mayB c a)) ∧ Since w w' := by
  cases h0 : belB a.se (btw c.se 1 64)
  · have H0 := Lib.hid h0
    go_enter Try.func22, Try.ntmps22
    go_wp2_with fail
    refine (floorsT _ _).mono ?_
    rintro e w' ⟨rfl, rfl⟩
    go_wp2_with fail
    go_quiet ((first | (go_at_call 62; exact quiet_eq (betweenT _ _ _ (by omega) _)) | (go_at_call 65; exact quiet_eq (belowT _ _ _)) | (go_at_call 66; exact quiet_eq (massT _ _))))
    go_wp2
    go_ret
    exact ⟨ret_bool (by unfold mayB; rw [H0.out]; simp), (by repeat (first | exact Since.refl _ | assumption | refine Since.setCell ?_ (by first | (simp; done) | (simp; omega)) _ | refine Since.drew ?_ | refine Since.drewN ?_ _ | refine Since.alloc ?_ _ | refine Since.trans ?_ (by assumption) | refine Since.trans ?_ (Hid.out (by assumption))))⟩
  · have H0 := Lib.hid h0
    cases h1 : belB a.fl (btw c.ft 1 8)
    · have H1 := Lib.hid h1
      go_enter Try.func22, Try.ntmps22
      go_wp2_with fail
      refine (floorsT _ _).mono ?_
      rintro e w' ⟨rfl, rfl⟩
      go_wp2_with fail
      go_quiet ((first | (go_at_call 62; exact quiet_eq (betweenT _ _ _ (by omega) _)) | (go_at_call 65; exact quiet_eq (belowT _ _ _)) | (go_at_call 66; exact quiet_eq (massT _ _))))
      go_wp2
      go_ret
      exact ⟨ret_bool (by unfold mayB; rw [H0.out, H1.out]; simp), (by repeat (first | exact Since.refl _ | assumption | refine Since.setCell ?_ (by first | (simp; done) | (simp; omega)) _ | refine Since.drew ?_ | refine Since.drewN ?_ _ | refine Since.alloc ?_ _ | refine Since.trans ?_ (by assumption) | refine Since.trans ?_ (Hid.out (by assumption))))⟩
    · have H1 := Lib.hid h1
      cases h2 : belB a.fm (fl c.fl)
      · have H2 := Lib.hid h2
        go_enter Try.func22, Try.ntmps22
        go_wp2_with fail
        refine (floorsT _ _).mono ?_
        rintro e w' ⟨rfl, rfl⟩
        go_wp2_with fail
        go_quiet ((first | (go_at_call 62; exact quiet_eq (betweenT _ _ _ (by omega) _)) | (go_at_call 65; exact quiet_eq (belowT _ _ _)) | (go_at_call 66; exact quiet_eq (massT _ _))))
        go_wp2
        go_ret
        exact ⟨ret_bool (by unfold mayB; rw [H0.out, H1.out, H2.out]; simp), (by repeat (first | exact Since.refl _ | assumption | refine Since.setCell ?_ (by first | (simp; done) | (simp; omega)) _ | refine Since.drew ?_ | refine Since.drewN ?_ _ | refine Since.alloc ?_ _ | refine Since.trans ?_ (by assumption) | refine Since.trans ?_ (Hid.out (by assumption))))⟩
      · have H2 := Lib.hid h2
        cases h3 : belB a.to (fl c.fl)
        · have H3 := Lib.hid h3
          go_enter Try.func22, Try.ntmps22
          go_wp2_with fail
          refine (floorsT _ _).mono ?_
          rintro e w' ⟨rfl, rfl⟩
          go_wp2_with fail
          go_quiet ((first | (go_at_call 62; exact quiet_eq (betweenT _ _ _ (by omega) _)) | (go_at_call 65; exact quiet_eq (belowT _ _ _)) | (go_at_call 66; exact quiet_eq (massT _ _))))
          go_wp2
          go_ret
          exact ⟨ret_bool (by unfold mayB; rw [H0.out, H1.out, H2.out, H3.out]; simp), (by repeat (first | exact Since.refl _ | assumption | refine Since.setCell ?_ (by first | (simp; done) | (simp; omega)) _ | refine Since.drew ?_ | refine Since.drewN ?_ _ | refine Since.alloc ?_ _ | refine Since.trans ?_ (by assumption) | refine Since.trans ?_ (Hid.out (by assumption))))⟩
        · have H3 := Lib.hid h3
          cases h4 : (a.fm != a.to)
          · have H4 := Lib.hid h4
            go_enter Try.func22, Try.ntmps22
            go_wp2_with fail
            refine (floorsT _ _).mono ?_
            rintro e w' ⟨rfl, rfl⟩
            go_wp2_with fail
            go_quiet ((first | (go_at_call 62; exact quiet_eq (betweenT _ _ _ (by omega) _)) | (go_at_call 65; exact quiet_eq (belowT _ _ _)) | (go_at_call 66; exact quiet_eq (massT _ _))))
            go_wp2
            go_ret
            exact ⟨ret_bool (by unfold mayB; rw [H0.out, H1.out, H2.out, H3.out, H4.out]; simp), (by repeat (first | exact Since.refl _ | assumption | refine Since.setCell ?_ (by first | (simp; done) | (simp; omega)) _ | refine Since.drew ?_ | refine Since.drewN ?_ _ | refine Since.alloc ?_ _ | refine Since.trans ?_ (by assumption) | refine Since.trans ?_ (Hid.out (by assumption))))⟩
          · have H4 := Lib.hid h4
            cases h5 : decide (1 ≤ a.ma)
            · have H5 := Lib.hid h5
              go_enter Try.func22, Try.ntmps22
              go_wp2_with fail
              refine (floorsT _ _).mono ?_
              rintro e w' ⟨rfl, rfl⟩
              go_wp2_with fail
              go_quiet ((first | (go_at_call 62; exact quiet_eq (betweenT _ _ _ (by omega) _)) | (go_at_call 65; exact quiet_eq (belowT _ _ _)) | (go_at_call 66; exact quiet_eq (massT _ _))))
              go_wp2
              go_ret
              exact ⟨ret_bool (by unfold mayB; rw [H0.out, H1.out, H2.out, H3.out, H4.out, H5.out]; simp), (by repeat (first | exact Since.refl _ | assumption | refine Since.setCell ?_ (by first | (simp; done) | (simp; omega)) _ | refine Since.drew ?_ | refine Since.drewN ?_ _ | refine Since.alloc ?_ _ | refine Since.trans ?_ (by assumption) | refine Since.trans ?_ (Hid.out (by assumption))))⟩
            · have H5 := Lib.hid h5
              go_enter Try.func22, Try.ntmps22
              go_wp2_with fail
              refine (floorsT _ _).mono ?_
              rintro e w' ⟨rfl, rfl⟩
              go_wp2_with fail
              go_quiet ((first | (go_at_call 62; exact quiet_eq (betweenT _ _ _ (by omega) _)) | (go_at_call 65; exact quiet_eq (belowT _ _ _)) | (go_at_call 66; exact quiet_eq (massT _ _))))
              go_wp2
              go_ret
              exact ⟨ret_bool (by unfold mayB; rw [H0.out, H1.out, H2.out, H3.out, H4.out, H5.out]; simp), (by repeat (first | exact Since.refl _ | assumption | refine Since.setCell ?_ (by first | (simp; done) | (simp; omega)) _ | refine Since.drew ?_ | refine Since.drewN ?_ _ | refine Since.alloc ?_ _ | refine Since.trans ?_ (by assumption) | refine Since.trans ?_ (Hid.out (by assumption))))⟩
end Go.Proofs.Ytggafipgfgbbiaa.Fl
namespace Go.Proofs.Ytggafipgfgbbiaa.Fl
set_option linter.unusedVariables false
set_option linter.unusedSimpArgs false
open Go.RowKit Go.Proofs.Ytggafipgfgbbiaa.Ba Go.Proofs.Ytggafipgfgbbiaa.Mo Go.Proofs.Ytggafipgfgbbiaa.Ty
open Go.Proofs.Ytggafipgfgbbiaa.Ce (ms massT)
set_option maxRecDepth 100000
theorem nearestR (n lo hi : Int) (w : World) : Calls Try.prog 63 #[.int .i64 n, .int .i64 lo, .int .i64 hi] w fun e w' => e = .returned (.int .i64 (btw n lo hi)) ∧ w = w' := by
  go_enter Try.func63, Try.ntmps63
  go_wp2
  all_goals
    go_ret
    exact ⟨ret_int (by unfold btw; repeat' split <;> omega), rfl⟩
theorem massR (n : Int) (w : World) : Calls Try.prog 68 #[.int .i64 n] w fun e w' => e = .returned (.int .i64 (ms n)) ∧ w = w' := by
  go_enter Try.func68, Try.ntmps68
  go_wp2
  all_goals
    go_ret
    exact ⟨ret_int (by unfold ms; repeat' split <;> omega), rfl⟩
theorem mayB_iff (c : CfgV) (a : AskV) : mayB c a = true ↔ ((0 ≤ a.se ∧ a.se < btw c.se 1 64) ∧ (0 ≤ a.fl ∧ a.fl < btw c.ft 1 8) ∧ (0 ≤ a.fm ∧ a.fm < fl c.fl) ∧ (0 ≤ a.to ∧ a.to < fl c.fl) ∧ a.fm ≠ a.to ∧ 1 ≤ a.ma ∧ a.ma ≤ ms c.lo) := by
  unfold mayB belB; simp [and_assoc]
end Go.Proofs.Ytggafipgfgbbiaa.Fl
