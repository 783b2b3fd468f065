/-
  The walks of layer 11 (plant).
  Conditions: a door's place is from 0 to 1000.
-/
import Derived.Test.YtdbbacpofgjgoaaDoorW
import Derived.Test.YtdbbacpofgjgoaaMotW
import Derived.Test.YtdbbacpofgjgoaaPlaMath
import Derived.Test.YtdbbacpofgjgoaaLoc
namespace Go.Proofs.Ytdbbacpofgjgoaa.Pl
set_option linter.unusedVariables false
set_option linter.unusedSimpArgs false
open Go.RowKit Go.Proofs.Ytdbbacpofgjgoaa.Ba Go.Proofs.Ytdbbacpofgjgoaa.Do Go.Proofs.Ytdbbacpofgjgoaa.Mo Go.Proofs.Ytdbbacpofgjgoaa.Ty
set_option maxRecDepth 100000
theorem newT (w : World) : Calls Try.prog 21 #[] w fun e w' => e = .returned (.agg #[.int .i64 0, .int .i64 0, .int .i64 0, .int .i64 0, .int .i64 0, .int .i64 (-1), .int .i64 0, .bool false, .bool false, .int .i64 0, .int .i64 0, .bool false, .int .u64 0, .int .u64 0, .int .u64 0]) ∧ Since w w' := by
  go_enter Try.func21, Try.ntmps21
  go_wp2
  exact bodyPost_ret (v := .agg #[.int .i64 0, .int .i64 0, .int .i64 0, .int .i64 0, .int .i64 0, .int .i64 (-1), .int .i64 0, .bool false, .bool false, .int .i64 0, .int .i64 0, .bool false, .int .u64 0, .int .u64 0, .int .u64 0]) (by simp [results, Try.results21, go_sem]) rfl ⟨rfl, (by repeat (first | exact Since.refl _ | assumption | refine Since.setCell ?_ (by first | (simp; done) | (simp; omega)) _ | refine Since.drew ?_ | refine Since.drewN ?_ _ | refine Since.alloc ?_ _ | refine Since.trans ?_ (by assumption) | refine Since.trans ?_ (Hid.out (by assumption))))⟩
theorem closedT (x : CarV) (w : World) : Calls Try.prog 49 #[.agg #[.int .i64 x.ds, .int .i64 x.da, .int .i64 x.un, .int .i64 x.wy, .int .i64 x.ti, .int .i64 x.ju, .int .i64 x.lo, .bool x.bl, .bool x.br, .int .i64 x.mo, .int .i64 x.ta, .bool x.ho, .int .u64 x.sp, .int .u64 x.su, .int .u64 x.sd]] w fun e w' => e = .returned (.bool (x.ds == 0)) ∧ Since w w' := by
  go_enter Try.func49, Try.ntmps49
  go_wp2
  go_ret
  exact ⟨rfl, (by repeat (first | exact Since.refl _ | assumption | refine Since.setCell ?_ (by first | (simp; done) | (simp; omega)) _ | refine Since.drew ?_ | refine Since.drewN ?_ _ | refine Since.alloc ?_ _ | refine Since.trans ?_ (by assumption) | refine Since.trans ?_ (Hid.out (by assumption))))⟩
theorem atFloorT (x : CarV) (w : World) : Calls Try.prog 55 #[.agg #[.int .i64 x.ds, .int .i64 x.da, .int .i64 x.un, .int .i64 x.wy, .int .i64 x.ti, .int .i64 x.ju, .int .i64 x.lo, .bool x.bl, .bool x.br, .int .i64 x.mo, .int .i64 x.ta, .bool x.ho, .int .u64 x.sp, .int .u64 x.su, .int .u64 x.sd]] w fun e w' => e = .returned (.bool (lvB x.un)) ∧ Since w w' := by
  go_enter Try.func55, Try.ntmps55
  go_wp2_with (first | (go_at_call 68; refine (levelT _ _).mono ?_; rintro e w' ⟨rfl, rfl⟩))
  go_ret
  exact ⟨rfl, (by repeat (first | exact Since.refl _ | assumption | refine Since.setCell ?_ (by first | (simp; done) | (simp; omega)) _ | refine Since.drew ?_ | refine Since.drewN ?_ _ | refine Since.alloc ?_ _ | refine Since.trans ?_ (by assumption) | refine Since.trans ?_ (Hid.out (by assumption))))⟩
theorem safeT (x : CarV) (w : World) : Calls Try.prog 20 #[.agg #[.int .i64 x.ds, .int .i64 x.da, .int .i64 x.un, .int .i64 x.wy, .int .i64 x.ti, .int .i64 x.ju, .int .i64 x.lo, .bool x.bl, .bool x.br, .int .i64 x.mo, .int .i64 x.ta, .bool x.ho, .int .u64 x.sp, .int .u64 x.su, .int .u64 x.sd]] w fun e w' => e = .returned (.bool (safeB x)) ∧ Since w w' := by
  have HS := Lib.hid (show safeB x = (x.ds == 0 || lvB x.un) by unfold safeB; rw [Bool.eq_iff_iff]; simp)
  go_enter Try.func20, Try.ntmps20
  go_wp2_with (first | (go_at_call 49; refine (closedT _ _).mono ?_; rintro e w1 ⟨rfl, hb1⟩; have hq0 : w.heap.size < w1.heap.size := (by have := hb1.size; (try simp at this); omega); obtain ⟨hc1, hf1⟩ := hb1.cf) | (go_at_call 55; refine (atFloorT _ _).mono ?_; rintro e w2 ⟨rfl, hb2⟩))
  all_goals
    go_ret
    exact ⟨ret_bool (by rw [HS.out] <;> simp [*]), (by repeat (first | exact Since.refl _ | assumption | refine Since.setCell ?_ (by first | (simp; done) | (simp; omega)) _ | refine Since.drew ?_ | refine Since.drewN ?_ _ | refine Since.alloc ?_ _ | refine Since.trans ?_ (by assumption) | refine Since.trans ?_ (Hid.out (by assumption))))⟩
theorem toldT (x : CarV) (r : Int) (o k : Bool) (w : World) : Calls Try.prog 50 #[.agg #[.int .i64 x.ds, .int .i64 x.da, .int .i64 x.un, .int .i64 x.wy, .int .i64 x.ti, .int .i64 x.ju, .int .i64 x.lo, .bool x.bl, .bool x.br, .int .i64 x.mo, .int .i64 x.ta, .bool x.ho, .int .u64 x.sp, .int .u64 x.su, .int .u64 x.sd], .agg #[.int .i64 r, .bool o, .bool k]] w fun e w' => e = .returned (.agg #[.int .i64 (toldS x.ds x.un o k), .int .i64 x.da]) ∧ Since w w' := by
  cases o
  · cases k
    · have HT := Lib.hid (show toldS x.ds x.un false false = x.ds by unfold toldS; simp)
      go_enter Try.func50, Try.ntmps50
      go_wp2
      exact bodyPost_ret (v := .agg #[.int .i64 x.ds, .int .i64 x.da]) (by simp [results, Try.results50, go_sem]) rfl ⟨by rw [HT.out], (by repeat (first | exact Since.refl _ | assumption | refine Since.setCell ?_ (by first | (simp; done) | (simp; omega)) _ | refine Since.drew ?_ | refine Since.drewN ?_ _ | refine Since.alloc ?_ _ | refine Since.trans ?_ (by assumption) | refine Since.trans ?_ (Hid.out (by assumption))))⟩
    · have HT := Lib.hid (show toldS x.ds x.un false true = cS x.ds by unfold toldS; simp)
      go_enter Try.func50, Try.ntmps50
      go_wp2_with (first | (go_at_call 72; refine (closeD _ _ _).mono ?_; rintro e w1 ⟨rfl, hb1⟩; have hq0 : w.heap.size < w1.heap.size := (by have := hb1.size; (try simp at this); omega); have hq2 : w.heap.size + 2 < w1.heap.size := (by have := hb1.size; (try simp at this); omega); obtain ⟨hc1, hf1⟩ := hb1.cf))
      exact bodyPost_ret (v := .agg #[.int .i64 (cS x.ds), .int .i64 x.da]) (by simp [results, Try.results50, go_sem, hc1]) rfl ⟨by rw [HT.out], (by repeat (first | exact Since.refl _ | assumption | refine Since.setCell ?_ (by first | (simp; done) | (simp; omega)) _ | refine Since.drew ?_ | refine Since.drewN ?_ _ | refine Since.alloc ?_ _ | refine Since.trans ?_ (by assumption) | refine Since.trans ?_ (Hid.out (by assumption))))⟩
  · cases hl : lvB x.un
    · cases k
      · have HT := Lib.hid (show toldS x.ds x.un true false = x.ds by unfold toldS; simp [hl])
        go_enter Try.func50, Try.ntmps50
        go_wp2_with (first | (go_at_call 55; refine (atFloorT _ _).mono ?_; rintro e w1 ⟨rfl, hb1⟩; have hq0 : w.heap.size < w1.heap.size := (by have := hb1.size; (try simp at this); omega); have hq1 : w.heap.size + 1 < w1.heap.size := (by have := hb1.size; (try simp at this); omega); have hq2 : w.heap.size + 2 < w1.heap.size := (by have := hb1.size; (try simp at this); omega); obtain ⟨hc1, hf1⟩ := hb1.cf))
        exact bodyPost_ret (v := .agg #[.int .i64 x.ds, .int .i64 x.da]) (by simp [results, Try.results50, go_sem, hc1]) rfl ⟨by rw [HT.out], (by repeat (first | exact Since.refl _ | assumption | refine Since.setCell ?_ (by first | (simp; done) | (simp; omega)) _ | refine Since.drew ?_ | refine Since.drewN ?_ _ | refine Since.alloc ?_ _ | refine Since.trans ?_ (by assumption) | refine Since.trans ?_ (Hid.out (by assumption))))⟩
      · have HT := Lib.hid (show toldS x.ds x.un true true = cS x.ds by unfold toldS; simp [hl])
        go_enter Try.func50, Try.ntmps50
        go_wp2_with (first | (go_at_call 55; refine (atFloorT _ _).mono ?_; rintro e w1 ⟨rfl, hb1⟩; have hq0 : w.heap.size < w1.heap.size := (by have := hb1.size; (try simp at this); omega); have hq1 : w.heap.size + 1 < w1.heap.size := (by have := hb1.size; (try simp at this); omega); have hq2 : w.heap.size + 2 < w1.heap.size := (by have := hb1.size; (try simp at this); omega); obtain ⟨hc1, hf1⟩ := hb1.cf) | (go_at_call 72; refine (closeD _ _ _).mono ?_; rintro e w2 ⟨rfl, hb2⟩; have hq0 : w.heap.size < w2.heap.size := (by have := hb2.size; (try simp at this); omega); have hq2 : w.heap.size + 2 < w2.heap.size := (by have := hb2.size; (try simp at this); omega); obtain ⟨hc2, hf2⟩ := hb2.cf))
        exact bodyPost_ret (v := .agg #[.int .i64 (cS x.ds), .int .i64 x.da]) (by simp [results, Try.results50, go_sem, *]) rfl ⟨by rw [HT.out], (by repeat (first | exact Since.refl _ | assumption | refine Since.setCell ?_ (by first | (simp; done) | (simp; omega)) _ | refine Since.drew ?_ | refine Since.drewN ?_ _ | refine Since.alloc ?_ _ | refine Since.trans ?_ (by assumption) | refine Since.trans ?_ (Hid.out (by assumption))))⟩
    · have HT := Lib.hid (show toldS x.ds x.un true k = oS x.ds by unfold toldS; simp [hl])
      go_enter Try.func50, Try.ntmps50
      go_wp2_with (first | (go_at_call 55; refine (atFloorT _ _).mono ?_; rintro e w1 ⟨rfl, hb1⟩; have hq0 : w.heap.size < w1.heap.size := (by have := hb1.size; (try simp at this); omega); have hq1 : w.heap.size + 1 < w1.heap.size := (by have := hb1.size; (try simp at this); omega); have hq2 : w.heap.size + 2 < w1.heap.size := (by have := hb1.size; (try simp at this); omega); obtain ⟨hc1, hf1⟩ := hb1.cf) | (go_at_call 71; refine (openD _ _ _).mono ?_; rintro e w2 ⟨rfl, hb2⟩; have hq0 : w.heap.size < w2.heap.size := (by have := hb2.size; (try simp at this); omega); have hq2 : w.heap.size + 2 < w2.heap.size := (by have := hb2.size; (try simp at this); omega); obtain ⟨hc2, hf2⟩ := hb2.cf))
      exact bodyPost_ret (v := .agg #[.int .i64 (oS x.ds), .int .i64 x.da]) (by simp [results, Try.results50, go_sem, *]) rfl ⟨by rw [HT.out], (by repeat (first | exact Since.refl _ | assumption | refine Since.setCell ?_ (by first | (simp; done) | (simp; omega)) _ | refine Since.drew ?_ | refine Since.drewN ?_ _ | refine Since.alloc ?_ _ | refine Since.trans ?_ (by assumption) | refine Since.trans ?_ (Hid.out (by assumption))))⟩
end Go.Proofs.Ytdbbacpofgjgoaa.Pl
