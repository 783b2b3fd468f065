/-
  The walks of layer 13 (scan): where a car goes next.
  Conditions: the three sets fit 64 bits.
-/
import Derived.Test.YtdbbacpofgjgoaaScaW
namespace Go.Proofs.Ytdbbacpofgjgoaa.Sc
set_option linter.unusedVariables false
set_option linter.unusedSimpArgs false
open Go.RowKit Go.Proofs.Ytdbbacpofgjgoaa.Ba Go.Proofs.Ytdbbacpofgjgoaa.St
set_option maxRecDepth 100000
/-- Where a car goes that went some way, and whether it opens. -/
def onO (p u d f way j : Int) : Bool := svB p u d f j && (atB u d f way || (heB p 0 0 f && ahB (al p u d) f way) || !ahB (al p u d) f way)
def onW (p u d f way j : Int) : Int :=
  if svB p u d f j = true then
    (if atB u d f way = true ∨ (heB p 0 0 f = true ∧ ahB (al p u d) f way = true) then way
     else if ahB (al p u d) f way = false ∧ atB u d f (ot way) = true then ot way
     else if ahB (al p u d) f way = false then way
     else fst2 (ahB (al p u d) f way) (ahB (al p u d) f (ot way)) way (ot way))
  else fst2 (ahB (al p u d) f way) (ahB (al p u d) f (ot way)) way (ot way)
theorem onwardT (p u d f way j : Int) (hp : R p) (hu : R u) (hd : R d) (w : World) : Calls Try.prog 61 #[.agg #[.int .u64 p, .int .u64 u, .int .u64 d, .int .i64 f], .int .i64 way, .int .i64 j] w fun e w' => e = .returned (.tuple #[.int .i64 (onW p u d f way j), .bool (onO p u d f way j)]) ∧ Since w w' := by
  cases hs : svB p u d f j
  · have HS := Lib.hid hs
    go_enter Try.func61, Try.ntmps61
    go_wp2_with fail
    refine (otherT _ _).mono ?_
    rintro e w' ⟨rfl, rfl⟩
    go_wp2_with fail
    refine (servesT _ _ _ _ _ hp hu hd _).mono ?_
    rintro e w1 ⟨rfl, hb1⟩
    have hz1 := hb1.size
    try simp at hz1
    have hl1_0 : w.heap.size < w1.heap.size := by omega
    obtain ⟨hc1, hf1⟩ := hb1.cf
    have HB1 := Lib.hid hb1
    clear hb1
    go_wp2_with fail
    refine (firstA _ _ _ _ way (ot way) _ _ hp hu hd _ (by simp) (by simp)).mono ?_
    rintro e w2 ⟨rfl, hb2⟩
    go_wp2
    go_ret2
    exact ⟨ret_wo (by unfold onW; rw [HS.out]; rfl) (by unfold onO; rw [HS.out]; rfl), (by repeat (first | exact Since.refl _ | assumption | refine Since.setCell ?_ (by first | (simp; done) | (simp; omega)) _ | refine Since.drew ?_ | refine Since.drewN ?_ _ | refine Since.alloc ?_ _ | refine Since.trans ?_ (by assumption) | refine Since.trans ?_ (Hid.out (by assumption))))⟩
  · have HS := Lib.hid hs
    cases ha : ahB (al p u d) f way
    · have HA := Lib.hid ha
      cases hc : atB u d f way
      · have HC := Lib.hid hc
        cases hb : atB u d f (ot way)
        all_goals
          have HBK := Lib.hid hb
          go_enter Try.func61, Try.ntmps61
          go_wp2_with fail
          refine (otherT _ _).mono ?_
          rintro e w' ⟨rfl, rfl⟩
          go_wp2_with fail
          refine (servesT _ _ _ _ _ hp hu hd _).mono ?_
          rintro e w1 ⟨rfl, hb1⟩
          have hq1 : w.heap.size < w1.heap.size := by have := hb1.size; simp at this; omega
          obtain ⟨hc1, hf1⟩ := hb1.cf
          go_wp2_with fail
          refine (aheadP _ _ _ _ _ hp hu hd _).mono ?_
          rintro e w2 ⟨rfl, hb2⟩
          have hq2 : w.heap.size < w2.heap.size := by have := hb2.size; omega
          obtain ⟨hc2, hf2⟩ := hb2.cf
          go_wp2_with fail
          refine (calledT _ _ _ _ _ hu hd _).mono ?_
          rintro e w3 ⟨rfl, hb3⟩
          have hq3 : w.heap.size < w3.heap.size := by have := hb3.size; omega
          obtain ⟨hc3, hf3⟩ := hb3.cf
          go_wp2_with fail
          refine (pressedT _ _ _ _ hp _).mono ?_
          rintro e w4 ⟨rfl, hb4⟩
          have hq4 : w.heap.size < w4.heap.size := by have := hb4.size; omega
          obtain ⟨hc4, hf4⟩ := hb4.cf
          cases hpr : heB p 0 0 f
          all_goals
            have HPR := Lib.hid hpr
            go_wp2_with (first | (go_at_call 78; refine (calledT _ _ _ _ _ hu hd _).mono ?_; rintro e w5 ⟨rfl, hb5⟩))
            go_ret2
            exact ⟨ret_wo (by unfold onW; rw [HS.out, HA.out, HC.out, HBK.out]; simp) (by unfold onO; rw [HS.out, HA.out, HC.out]; simp), (by repeat (first | exact Since.refl _ | assumption | refine Since.setCell ?_ (by first | (simp; done) | (simp; omega)) _ | refine Since.drew ?_ | refine Since.drewN ?_ _ | refine Since.alloc ?_ _ | refine Since.trans ?_ (by assumption) | refine Since.trans ?_ (Hid.out (by assumption))))⟩
      · have HC := Lib.hid hc
        go_enter Try.func61, Try.ntmps61
        go_wp2_with fail
        refine (otherT _ _).mono ?_
        rintro e w' ⟨rfl, rfl⟩
        go_wp2_with fail
        refine (servesT _ _ _ _ _ hp hu hd _).mono ?_
        rintro e w1 ⟨rfl, hb1⟩
        have hz1 := hb1.size
        try simp at hz1
        have hl1_0 : w.heap.size < w1.heap.size := by omega
        obtain ⟨hc1, hf1⟩ := hb1.cf
        have HB1 := Lib.hid hb1
        clear hb1
        go_wp2_with fail
        refine (aheadP _ _ _ _ _ hp hu hd _).mono ?_
        rintro e w2 ⟨rfl, hb2⟩
        have hq2 : w.heap.size < w2.heap.size := by have := hb2.size; omega
        obtain ⟨hc2, hf2⟩ := hb2.cf
        go_wp2_with fail
        refine (calledT _ _ _ _ _ hu hd _).mono ?_
        rintro e w3 ⟨rfl, hb3⟩
        go_wp2
        go_ret2
        exact ⟨ret_wo (by unfold onW; rw [HS.out, HC.out]; simp) (by unfold onO; rw [HS.out, HC.out]; simp), (by repeat (first | exact Since.refl _ | assumption | refine Since.setCell ?_ (by first | (simp; done) | (simp; omega)) _ | refine Since.drew ?_ | refine Since.drewN ?_ _ | refine Since.alloc ?_ _ | refine Since.trans ?_ (by assumption) | refine Since.trans ?_ (Hid.out (by assumption))))⟩
    · have HA := Lib.hid ha
      cases hc : atB u d f way
      · have HC := Lib.hid hc
        cases hpr : heB p 0 0 f
        · have HPR := Lib.hid hpr
          go_enter Try.func61, Try.ntmps61
          go_wp2_with fail
          refine (otherT _ _).mono ?_
          rintro e w' ⟨rfl, rfl⟩
          go_wp2_with fail
          refine (servesT _ _ _ _ _ hp hu hd _).mono ?_
          rintro e w1 ⟨rfl, hb1⟩
          have hz1 := hb1.size
          try simp at hz1
          have hl1_0 : w.heap.size < w1.heap.size := by omega
          obtain ⟨hc1, hf1⟩ := hb1.cf
          have HB1 := Lib.hid hb1
          clear hb1
          go_wp2_with fail
          refine (aheadP _ _ _ _ _ hp hu hd _).mono ?_
          rintro e w2 ⟨rfl, hb2⟩
          have hq2 : w.heap.size < w2.heap.size := by have := hb2.size; omega
          obtain ⟨hc2, hf2⟩ := hb2.cf
          go_wp2_with fail
          refine (calledT _ _ _ _ _ hu hd _).mono ?_
          rintro e w3 ⟨rfl, hb3⟩
          have hq3 : w.heap.size < w3.heap.size := by have := hb3.size; omega
          obtain ⟨hc3, hf3⟩ := hb3.cf
          go_wp2_with fail
          refine (pressedT _ _ _ _ hp _).mono ?_
          rintro e w4 ⟨rfl, hb4⟩
          have hq4 : w.heap.size < w4.heap.size := by have := hb4.size; omega
          obtain ⟨hc4, hf4⟩ := hb4.cf
          go_wp2_with fail
          refine (firstA _ _ _ _ way (ot way) _ _ hp hu hd _ (by simp) (by simp)).mono ?_
          rintro e w5 ⟨rfl, hb5⟩
          go_wp2
          go_ret2
          exact ⟨ret_wo (by unfold onW; rw [HS.out, HA.out, HC.out, HPR.out]; simp) (by unfold onO; rw [HS.out, HA.out, HC.out, HPR.out]; simp), (by repeat (first | exact Since.refl _ | assumption | refine Since.setCell ?_ (by first | (simp; done) | (simp; omega)) _ | refine Since.drew ?_ | refine Since.drewN ?_ _ | refine Since.alloc ?_ _ | refine Since.trans ?_ (by assumption) | refine Since.trans ?_ (Hid.out (by assumption))))⟩
        · have HPR := Lib.hid hpr
          go_enter Try.func61, Try.ntmps61
          go_wp2_with fail
          refine (otherT _ _).mono ?_
          rintro e w' ⟨rfl, rfl⟩
          go_wp2_with fail
          refine (servesT _ _ _ _ _ hp hu hd _).mono ?_
          rintro e w1 ⟨rfl, hb1⟩
          have hz1 := hb1.size
          try simp at hz1
          have hl1_0 : w.heap.size < w1.heap.size := by omega
          obtain ⟨hc1, hf1⟩ := hb1.cf
          have HB1 := Lib.hid hb1
          clear hb1
          go_wp2_with fail
          refine (aheadP _ _ _ _ _ hp hu hd _).mono ?_
          rintro e w2 ⟨rfl, hb2⟩
          have hq2 : w.heap.size < w2.heap.size := by have := hb2.size; omega
          obtain ⟨hc2, hf2⟩ := hb2.cf
          go_wp2_with fail
          refine (calledT _ _ _ _ _ hu hd _).mono ?_
          rintro e w3 ⟨rfl, hb3⟩
          have hq3 : w.heap.size < w3.heap.size := by have := hb3.size; omega
          obtain ⟨hc3, hf3⟩ := hb3.cf
          go_wp2_with fail
          refine (pressedT _ _ _ _ hp _).mono ?_
          rintro e w4 ⟨rfl, hb4⟩
          go_wp2
          go_ret2
          exact ⟨ret_wo (by unfold onW; rw [HS.out, HA.out, HC.out, HPR.out]; simp) (by unfold onO; rw [HS.out, HA.out, HC.out, HPR.out]; simp), (by repeat (first | exact Since.refl _ | assumption | refine Since.setCell ?_ (by first | (simp; done) | (simp; omega)) _ | refine Since.drew ?_ | refine Since.drewN ?_ _ | refine Since.alloc ?_ _ | refine Since.trans ?_ (by assumption) | refine Since.trans ?_ (Hid.out (by assumption))))⟩
      · have HC := Lib.hid hc
        go_enter Try.func61, Try.ntmps61
        go_wp2_with fail
        refine (otherT _ _).mono ?_
        rintro e w' ⟨rfl, rfl⟩
        go_wp2_with fail
        refine (servesT _ _ _ _ _ hp hu hd _).mono ?_
        rintro e w1 ⟨rfl, hb1⟩
        have hz1 := hb1.size
        try simp at hz1
        have hl1_0 : w.heap.size < w1.heap.size := by omega
        obtain ⟨hc1, hf1⟩ := hb1.cf
        have HB1 := Lib.hid hb1
        clear hb1
        go_wp2_with fail
        refine (aheadP _ _ _ _ _ hp hu hd _).mono ?_
        rintro e w2 ⟨rfl, hb2⟩
        have hq2 : w.heap.size < w2.heap.size := by have := hb2.size; omega
        obtain ⟨hc2, hf2⟩ := hb2.cf
        go_wp2_with fail
        refine (calledT _ _ _ _ _ hu hd _).mono ?_
        rintro e w3 ⟨rfl, hb3⟩
        go_wp2
        go_ret2
        exact ⟨ret_wo (by unfold onW; rw [HS.out, HC.out]; simp) (by unfold onO; rw [HS.out, HC.out]; simp), (by repeat (first | exact Since.refl _ | assumption | refine Since.setCell ?_ (by first | (simp; done) | (simp; omega)) _ | refine Since.drew ?_ | refine Since.drewN ?_ _ | refine Since.alloc ?_ _ | refine Since.trans ?_ (by assumption) | refine Since.trans ?_ (Hid.out (by assumption))))⟩
/-- Where any car goes. -/
def nxW (p u d f way j : Int) : Int := if way = 0 then stW p u d f j else onW p u d f way j
def nxO (p u d f way j : Int) : Bool := if way = 0 then svB p u d f j else onO p u d f way j
theorem nextT (p u d f way j : Int) (hp : R p) (hu : R u) (hd : R d) (w : World) : Calls Try.prog 35 #[.agg #[.int .u64 p, .int .u64 u, .int .u64 d], .int .i64 f, .int .i64 way, .int .i64 j] w fun e w' => e = .returned (.tuple #[.int .i64 (nxW p u d f way j), .bool (nxO p u d f way j)]) ∧ Since w w' := by
  by_cases h : way = 0
  · subst h
    have HW := Lib.hid (show nxW p u d f 0 j = stW p u d f j from if_pos rfl)
    have HO := Lib.hid (show nxO p u d f 0 j = svB p u d f j from if_pos rfl)
    go_enter Try.func35, Try.ntmps35
    go_wp2_with (first | (go_at_call 60; refine (fromStillT _ _ _ _ _ hp hu hd _).mono ?_; rintro e w1 ⟨rfl, hb1⟩))
    go_ret2
    exact ⟨ret_wo HW.out.symm HO.out.symm, (by repeat (first | exact Since.refl _ | assumption | refine Since.setCell ?_ (by first | (simp; done) | (simp; omega)) _ | refine Since.drew ?_ | refine Since.drewN ?_ _ | refine Since.alloc ?_ _ | refine Since.trans ?_ (by assumption) | refine Since.trans ?_ (Hid.out (by assumption))))⟩
  · have h' : (way == 0) = false := by simpa using h
    have HW := Lib.hid (show nxW p u d f way j = onW p u d f way j from if_neg h)
    have HO := Lib.hid (show nxO p u d f way j = onO p u d f way j from if_neg h)
    go_enter Try.func35, Try.ntmps35
    go_wp2_with (first | (go_at_call 61; refine (onwardT _ _ _ _ _ _ hp hu hd _).mono ?_; rintro e w1 ⟨rfl, hb1⟩))
    go_ret2
    exact ⟨ret_wo HW.out.symm HO.out.symm, (by repeat (first | exact Since.refl _ | assumption | refine Since.setCell ?_ (by first | (simp; done) | (simp; omega)) _ | refine Since.drew ?_ | refine Since.drewN ?_ _ | refine Since.alloc ?_ _ | refine Since.trans ?_ (by assumption) | refine Since.trans ?_ (Hid.out (by assumption))))⟩
end Go.Proofs.Ytdbbacpofgjgoaa.Sc
