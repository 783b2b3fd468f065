/-
  The walks of layer 13 (scan): a place with its stops; the first way that is right.
  Conditions: the three sets fit 64 bits.
-/
import Derived.Test.YtdbbacpofgjgoaaStoAh
namespace Go.Proofs.Ytdbbacpofgjgoaa.Sc
set_option linter.unusedVariables false
set_option linter.unusedSimpArgs false
open Go.RowKit Go.Proofs.Ytdbbacpofgjgoaa.Ba Go.Proofs.Ytdbbacpofgjgoaa.St
set_option maxRecDepth 100000
theorem calledT (p u d f way : Int) (hu : R u) (hd : R d) (w : World) : Calls Try.prog 78 #[.agg #[.int .u64 p, .int .u64 u, .int .u64 d, .int .i64 f], .int .i64 way] w fun e w' => e = .returned (.bool (atB u d f way)) ∧ Since w w' := by
  go_enter Try.func78, Try.ntmps78
  go_wp2_with (first | (go_at_call 28; refine (atT _ _ _ _ _ hu hd _).mono ?_; rintro e w1 ⟨rfl, hb1⟩))
  go_ret
  exact ⟨rfl, (by repeat (first | exact Since.refl _ | assumption | refine Since.setCell ?_ (by first | (simp; done) | (simp; omega)) _ | refine Since.drew ?_ | refine Since.drewN ?_ _ | refine Since.alloc ?_ _ | refine Since.trans ?_ (by assumption) | refine Since.trans ?_ (Hid.out (by assumption))))⟩
theorem aheadP (p u d f way : Int) (hp : R p) (hu : R u) (hd : R d) (w : World) : Calls Try.prog 79 #[.agg #[.int .u64 p, .int .u64 u, .int .u64 d, .int .i64 f], .int .i64 way] w fun e w' => e = .returned (.bool (ahB (al p u d) f way)) ∧ Since w w' := by
  go_enter Try.func79, Try.ntmps79
  go_wp2_with (first | (go_at_call 32; refine (aheadT _ _ _ _ _ hp hu hd _).mono ?_; rintro e w1 ⟨rfl, hb1⟩))
  go_ret
  exact ⟨rfl, (by repeat (first | exact Since.refl _ | assumption | refine Since.setCell ?_ (by first | (simp; done) | (simp; omega)) _ | refine Since.drew ?_ | refine Since.drewN ?_ _ | refine Since.alloc ?_ _ | refine Since.trans ?_ (by assumption) | refine Since.trans ?_ (Hid.out (by assumption))))⟩
theorem pressedT (p u d f : Int) (hp : R p) (w : World) : Calls Try.prog 81 #[.agg #[.int .u64 p, .int .u64 u, .int .u64 d, .int .i64 f]] w fun e w' => e = .returned (.bool (heB p 0 0 f)) ∧ Since w w' := by
  go_enter Try.func81, Try.ntmps81
  go_wp2_with (first | (go_at_call 30; refine (hereT _ _ _ _ hp R.zero R.zero _).mono ?_; rintro e w1 ⟨rfl, hb1⟩))
  go_ret
  exact ⟨rfl, (by repeat (first | exact Since.refl _ | assumption | refine Since.setCell ?_ (by first | (simp; done) | (simp; omega)) _ | refine Since.drew ?_ | refine Since.drewN ?_ _ | refine Since.alloc ?_ _ | refine Since.trans ?_ (by assumption) | refine Since.trans ?_ (Hid.out (by assumption))))⟩
/-- Is there something here that was not served just now, or nothing else to do? -/
def svB (p u d f j : Int) : Bool := heB p u d f && (!(f == j) || (!ahB (al p u d) f 1 && !ahB (al p u d) f 2))
theorem servesT (p u d f j : Int) (hp : R p) (hu : R u) (hd : R d) (w : World) : Calls Try.prog 76 #[.agg #[.int .u64 p, .int .u64 u, .int .u64 d, .int .i64 f], .int .i64 j] w fun e w' => e = .returned (.bool (svB p u d f j)) ∧ Since w w' := by
  go_enter Try.func76, Try.ntmps76
  go_wp2_with (first | (go_at_call 30; refine (hereT _ _ _ _ hp hu hd _).mono ?_; rintro e w1 ⟨rfl, hb1⟩; have hq1 : w.heap.size < w1.heap.size := (by have := hb1.size; simp at this; omega); obtain ⟨hc1, hf1⟩ := hb1.cf) | (go_at_call 79; refine (aheadP _ _ _ _ _ hp hu hd _).mono ?_; rintro e w2 ⟨rfl, hb2⟩; have hq2 : w.heap.size < w2.heap.size := (by have := hb2.size; omega); obtain ⟨hc2, hf2⟩ := hb2.cf))
  all_goals
    go_ret
    exact ⟨ret_bool (by unfold svB; simp_all), (by repeat (first | exact Since.refl _ | assumption | refine Since.setCell ?_ (by first | (simp; done) | (simp; omega)) _ | refine Since.drew ?_ | refine Since.drewN ?_ _ | refine Since.alloc ?_ _ | refine Since.trans ?_ (by assumption) | refine Since.trans ?_ (Hid.out (by assumption))))⟩
/-- The other way. -/
def ot (way : Int) : Int := if way = 1 then 2 else 1
theorem otherT (way : Int) (w : World) : Calls Try.prog 80 #[.int .i64 way] w fun e w' => e = .returned (.int .i64 (ot way)) ∧ w = w' := by
  by_cases h : way = 1
  · subst h
    go_enter Try.func80, Try.ntmps80
    go_wp2
    go_ret
    exact ⟨rfl, rfl⟩
  · have h' : (way == 1) = false := by simpa using h
    have HO := Lib.hid (show ot way = 1 from if_neg h)
    go_enter Try.func80, Try.ntmps80
    go_wp2
    go_ret
    exact ⟨ret_int HO.out.symm, rfl⟩
/-- The first of two ways that is right, or none. -/
def fst2 (a b : Bool) (x y : Int) : Int := if a = true then x else if b = true then y else 0
/-- The first k of two ways are not right. -/
def offC (u d f y1 y2 : Int) (k : Nat) : Prop := (1 ≤ k → atB u d f y1 = false) ∧ (2 ≤ k → atB u d f y2 = false)
def offA (p u d f y1 y2 : Int) (k : Nat) : Prop := (1 ≤ k → ahB (al p u d) f y1 = false) ∧ (2 ≤ k → ahB (al p u d) f y2 = false)
theorem firstC (p u d f y1 y2 : Int) (b cap : Nat) (hp : R p) (hu : R u) (hd : R d) (w : World) (h1 : w.cell? ⟨b, 0, none⟩ = some (.int .i64 y1)) (h2 : w.cell? ⟨b, 1, none⟩ = some (.int .i64 y2)) : Calls Try.prog 77 #[.func (.func 78) #[.agg #[.int .u64 p, .int .u64 u, .int .u64 d, .int .i64 f]] #[], .slice (some ⟨b, 0, none⟩) 2 cap] w fun e w' => e = .returned (.int .i64 (fst2 (atB u d f y1) (atB u d f y2) y1 y2)) ∧ Since w w' := by
  have HB := Lib.hid (World.block_lt_of_cell? _ _ h1)
  have H1 := Lib.hid h1
  have H2 := Lib.hid h2
  clear h1 h2
  go_enter Try.func77, Try.ntmps77
  go_wp2_with fail
  go_loopw [9] (fun i wr => ∃ k : Nat, k ≤ 2 ∧ i = .int .i64 k ∧ offC u d f y1 y2 k ∧ Since w wr) (fun i _ => (2 - intOf i).toNat)
  case atStart => exact ⟨0, by omega, rfl, (⟨fun h => by omega, fun h => by omega⟩ : offC u d f y1 y2 0), Since.refl _⟩
  case round =>
    obtain ⟨k, hk, rfl, HN, hs⟩ := hrel
    have c1 := keep_cell hs H1.out
    have c2 := keep_cell hs H2.out
    have HW := Lib.hid hs
    clear hs
    rcases (show k = 0 ∨ k = 1 ∨ k = 2 by omega) with rfl | rfl | rfl
    · cases hK : atB u d f y1
      · have HK := Lib.hid hK
        go_wp2_with (first | (go_at_call 78; refine (calledT _ _ _ _ _ hu hd _).mono ?_; rintro e w2 ⟨rfl, hb2⟩))
        go_roundw
        case rel => exact ⟨1, by omega, rfl, (⟨fun _ => HK.out, fun h => by omega⟩ : offC u d f y1 y2 1), (by repeat (first | exact Since.refl _ | assumption | refine Since.setCell ?_ (by first | (simp; done) | (simp; omega)) _ | refine Since.drew ?_ | refine Since.drewN ?_ _ | refine Since.alloc ?_ _ | refine Since.trans ?_ (by assumption) | refine Since.trans ?_ (Hid.out (by assumption))))⟩
        case measure => simp [intOf]
      · have HK := Lib.hid hK
        go_wp2_with (first | (go_at_call 78; refine (calledT _ _ _ _ _ hu hd _).mono ?_; rintro e w2 ⟨rfl, hb2⟩))
        go_ret
        exact ⟨ret_int (by rw [HK.out]; rfl), (by repeat (first | exact Since.refl _ | assumption | refine Since.setCell ?_ (by first | (simp; done) | (simp; omega)) _ | refine Since.drew ?_ | refine Since.drewN ?_ _ | refine Since.alloc ?_ _ | refine Since.trans ?_ (by assumption) | refine Since.trans ?_ (Hid.out (by assumption))))⟩
    · cases hK : atB u d f y2
      · have HK := Lib.hid hK
        go_wp2_with (first | (go_at_call 78; refine (calledT _ _ _ _ _ hu hd _).mono ?_; rintro e w2 ⟨rfl, hb2⟩))
        go_roundw
        case rel => exact ⟨2, by omega, rfl, (⟨fun _ => HN.1 (by omega), fun _ => HK.out⟩ : offC u d f y1 y2 2), (by repeat (first | exact Since.refl _ | assumption | refine Since.setCell ?_ (by first | (simp; done) | (simp; omega)) _ | refine Since.drew ?_ | refine Since.drewN ?_ _ | refine Since.alloc ?_ _ | refine Since.trans ?_ (by assumption) | refine Since.trans ?_ (Hid.out (by assumption))))⟩
        case measure => simp [intOf]
      · have HK := Lib.hid hK
        go_wp2_with (first | (go_at_call 78; refine (calledT _ _ _ _ _ hu hd _).mono ?_; rintro e w2 ⟨rfl, hb2⟩))
        go_ret
        exact ⟨ret_int (by rw [HK.out, HN.1 (by omega)]; rfl), (by repeat (first | exact Since.refl _ | assumption | refine Since.setCell ?_ (by first | (simp; done) | (simp; omega)) _ | refine Since.drew ?_ | refine Since.drewN ?_ _ | refine Since.alloc ?_ _ | refine Since.trans ?_ (by assumption) | refine Since.trans ?_ (Hid.out (by assumption))))⟩
    · go_wp2
      go_ret
      exact ⟨ret_int (by rw [HN.1 (by omega), HN.2 (by omega)]; rfl), (by repeat (first | exact Since.refl _ | assumption | refine Since.setCell ?_ (by first | (simp; done) | (simp; omega)) _ | refine Since.drew ?_ | refine Since.drewN ?_ _ | refine Since.alloc ?_ _ | refine Since.trans ?_ (by assumption) | refine Since.trans ?_ (Hid.out (by assumption))))⟩
theorem firstA (p u d f y1 y2 : Int) (b cap : Nat) (hp : R p) (hu : R u) (hd : R d) (w : World) (h1 : w.cell? ⟨b, 0, none⟩ = some (.int .i64 y1)) (h2 : w.cell? ⟨b, 1, none⟩ = some (.int .i64 y2)) : Calls Try.prog 77 #[.func (.func 79) #[.agg #[.int .u64 p, .int .u64 u, .int .u64 d, .int .i64 f]] #[], .slice (some ⟨b, 0, none⟩) 2 cap] w fun e w' => e = .returned (.int .i64 (fst2 (ahB (al p u d) f y1) (ahB (al p u d) f y2) y1 y2)) ∧ Since w w' := by
  have HB := Lib.hid (World.block_lt_of_cell? _ _ h1)
  have H1 := Lib.hid h1
  have H2 := Lib.hid h2
  clear h1 h2
  go_enter Try.func77, Try.ntmps77
  go_wp2_with fail
  go_loopw [9] (fun i wr => ∃ k : Nat, k ≤ 2 ∧ i = .int .i64 k ∧ offA p u d f y1 y2 k ∧ Since w wr) (fun i _ => (2 - intOf i).toNat)
  case atStart => exact ⟨0, by omega, rfl, (⟨fun h => by omega, fun h => by omega⟩ : offA p u d f y1 y2 0), Since.refl _⟩
  case round =>
    obtain ⟨k, hk, rfl, HN, hs⟩ := hrel
    have c1 := keep_cell hs H1.out
    have c2 := keep_cell hs H2.out
    have HW := Lib.hid hs
    clear hs
    rcases (show k = 0 ∨ k = 1 ∨ k = 2 by omega) with rfl | rfl | rfl
    · cases hK : ahB (al p u d) f y1
      · have HK := Lib.hid hK
        go_wp2_with (first | (go_at_call 79; refine (aheadP _ _ _ _ _ hp hu hd _).mono ?_; rintro e w2 ⟨rfl, hb2⟩))
        go_roundw
        case rel => exact ⟨1, by omega, rfl, (⟨fun _ => HK.out, fun h => by omega⟩ : offA p u d f y1 y2 1), (by repeat (first | exact Since.refl _ | assumption | refine Since.setCell ?_ (by first | (simp; done) | (simp; omega)) _ | refine Since.drew ?_ | refine Since.drewN ?_ _ | refine Since.alloc ?_ _ | refine Since.trans ?_ (by assumption) | refine Since.trans ?_ (Hid.out (by assumption))))⟩
        case measure => simp [intOf]
      · have HK := Lib.hid hK
        go_wp2_with (first | (go_at_call 79; refine (aheadP _ _ _ _ _ hp hu hd _).mono ?_; rintro e w2 ⟨rfl, hb2⟩))
        go_ret
        exact ⟨ret_int (by rw [HK.out]; rfl), (by repeat (first | exact Since.refl _ | assumption | refine Since.setCell ?_ (by first | (simp; done) | (simp; omega)) _ | refine Since.drew ?_ | refine Since.drewN ?_ _ | refine Since.alloc ?_ _ | refine Since.trans ?_ (by assumption) | refine Since.trans ?_ (Hid.out (by assumption))))⟩
    · cases hK : ahB (al p u d) f y2
      · have HK := Lib.hid hK
        go_wp2_with (first | (go_at_call 79; refine (aheadP _ _ _ _ _ hp hu hd _).mono ?_; rintro e w2 ⟨rfl, hb2⟩))
        go_roundw
        case rel => exact ⟨2, by omega, rfl, (⟨fun _ => HN.1 (by omega), fun _ => HK.out⟩ : offA p u d f y1 y2 2), (by repeat (first | exact Since.refl _ | assumption | refine Since.setCell ?_ (by first | (simp; done) | (simp; omega)) _ | refine Since.drew ?_ | refine Since.drewN ?_ _ | refine Since.alloc ?_ _ | refine Since.trans ?_ (by assumption) | refine Since.trans ?_ (Hid.out (by assumption))))⟩
        case measure => simp [intOf]
      · have HK := Lib.hid hK
        go_wp2_with (first | (go_at_call 79; refine (aheadP _ _ _ _ _ hp hu hd _).mono ?_; rintro e w2 ⟨rfl, hb2⟩))
        go_ret
        exact ⟨ret_int (by rw [HK.out, HN.1 (by omega)]; rfl), (by repeat (first | exact Since.refl _ | assumption | refine Since.setCell ?_ (by first | (simp; done) | (simp; omega)) _ | refine Since.drew ?_ | refine Since.drewN ?_ _ | refine Since.alloc ?_ _ | refine Since.trans ?_ (by assumption) | refine Since.trans ?_ (Hid.out (by assumption))))⟩
    · go_wp2
      go_ret
      exact ⟨ret_int (by rw [HN.1 (by omega), HN.2 (by omega)]; rfl), (by repeat (first | exact Since.refl _ | assumption | refine Since.setCell ?_ (by first | (simp; done) | (simp; omega)) _ | refine Since.drew ?_ | refine Since.drewN ?_ _ | refine Since.alloc ?_ _ | refine Since.trans ?_ (by assumption) | refine Since.trans ?_ (Hid.out (by assumption))))⟩
/-- Where a car goes that stands. -/
def stW (p u d f j : Int) : Int := if svB p u d f j = true then fst2 (atB u d f 1) (atB u d f 2) 1 2 else fst2 (ahB (al p u d) f 1) (ahB (al p u d) f 2) 1 2
theorem ret_wo {a a' : Int} {b b' : Bool} (h : a = a') (k : b = b') : Ending.returned (.tuple #[.int .i64 a, .bool b]) = .returned (.tuple #[.int .i64 a', .bool b']) := by rw [h, k]
theorem fromStillT (p u d f j : Int) (hp : R p) (hu : R u) (hd : R d) (w : World) : Calls Try.prog 60 #[.agg #[.int .u64 p, .int .u64 u, .int .u64 d, .int .i64 f], .int .i64 j] w fun e w' => e = .returned (.tuple #[.int .i64 (stW p u d f j), .bool (svB p u d f j)]) ∧ Since w w' := by
  cases hs : svB p u d f j
  · have HS := Lib.hid hs
    go_enter Try.func60, Try.ntmps60
    go_wp2_with fail
    refine (servesT _ _ _ _ _ hp hu hd _).mono ?_
    rintro e w1 ⟨rfl, hb1⟩
    have hz1 := hb1.size
    try simp at hz1
    have hl1_0 : w.heap.size < w1.heap.size := by omega
    obtain ⟨hc1, hf1⟩ := hb1.cf
    have HB1 := Lib.hid hb1
    clear hb1
    go_wp2_with fail
    refine (firstA _ _ _ _ 1 2 _ _ hp hu hd _ (by simp) (by simp)).mono ?_
    rintro e w2 ⟨rfl, hb2⟩
    go_wp2
    go_ret2
    exact ⟨ret_wo (by unfold stW; rw [HS.out]; rfl) rfl, (by repeat (first | exact Since.refl _ | assumption | refine Since.setCell ?_ (by first | (simp; done) | (simp; omega)) _ | refine Since.drew ?_ | refine Since.drewN ?_ _ | refine Since.alloc ?_ _ | refine Since.trans ?_ (by assumption) | refine Since.trans ?_ (Hid.out (by assumption))))⟩
  · have HS := Lib.hid hs
    go_enter Try.func60, Try.ntmps60
    go_wp2_with fail
    refine (servesT _ _ _ _ _ hp hu hd _).mono ?_
    rintro e w1 ⟨rfl, hb1⟩
    have hz1 := hb1.size
    try simp at hz1
    have hl1_0 : w.heap.size < w1.heap.size := by omega
    obtain ⟨hc1, hf1⟩ := hb1.cf
    have HB1 := Lib.hid hb1
    clear hb1
    go_wp2_with fail
    refine (firstC _ _ _ _ 1 2 _ _ hp hu hd _ (by simp) (by simp)).mono ?_
    rintro e w2 ⟨rfl, hb2⟩
    go_wp2
    go_ret2
    exact ⟨ret_wo (by unfold stW; rw [HS.out]; rfl) rfl, (by repeat (first | exact Since.refl _ | assumption | refine Since.setCell ?_ (by first | (simp; done) | (simp; omega)) _ | refine Since.drew ?_ | refine Since.drewN ?_ _ | refine Since.alloc ?_ _ | refine Since.trans ?_ (by assumption) | refine Since.trans ?_ (Hid.out (by assumption))))⟩
end Go.Proofs.Ytdbbacpofgjgoaa.Sc
