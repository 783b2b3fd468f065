/-
  Which cars are good: the program's word, and the reference's (layer 11).
  No condition.
-/
import Derived.Test.YtfbnmoegdbdhjaaPlaK
import Derived.Test.YtfbnmoegdbdhjaaDoorRef
namespace Go.Proofs.Ytfbnmoegdbdhjaa.Pl
set_option linter.unusedVariables false
set_option linter.unusedSimpArgs false
open Go.RowKit Go.Proofs.Ytfbnmoegdbdhjaa.Ba Go.Proofs.Ytfbnmoegdbdhjaa.Do Go.Proofs.Ytfbnmoegdbdhjaa.Mo Go.Proofs.Ytfbnmoegdbdhjaa.Ty
set_option maxRecDepth 100000
theorem safeK (ds da un wy ti ju lo : Int) (bl br : Bool) (mo ta : Int) (ho : Bool) (sp su sd : Int) (w : World) : Calls Try.prog 22 #[.agg #[.int .i64 ds, .int .i64 da, .int .i64 un, .int .i64 wy, .int .i64 ti, .int .i64 ju, .int .i64 lo, .bool bl, .bool br, .int .i64 mo, .int .i64 ta, .bool ho, .int .u64 sp, .int .u64 su, .int .u64 sd]] w fun e w' => e = .returned (.bool (safeB ⟨ds, da, un, wy, ti, ju, lo, bl, br, mo, ta, ho, sp, su, sd⟩)) ∧ Since w w' := safeT ⟨ds, da, un, wy, ti, ju, lo, bl, br, mo, ta, ho, sp, su, sd⟩ w
set_option maxHeartbeats 4000000 in
theorem goodT (c : CfgV) (x : CarV) (w : World) : Calls Try.prog 17 #[.agg #[.int .i64 c.ca, .int .i64 c.fl, .int .i64 c.ft, .int .i64 c.se, .int .i64 c.dr, .int .i64 c.dw, .int .i64 c.ho, .int .i64 c.re, .int .i64 c.yi, .int .i64 c.qu, .int .i64 c.qo, .int .i64 c.lo, .int .i64 c.sl, .int .i64 c.rt, .int .i64 c.cp, .int .i64 c.tr, .int .i64 c.de, .int .i64 c.wi], .agg #[.int .i64 x.ds, .int .i64 x.da, .int .i64 x.un, .int .i64 x.wy, .int .i64 x.ti, .int .i64 x.ju, .int .i64 x.lo, .bool x.bl, .bool x.br, .int .i64 x.mo, .int .i64 x.ta, .bool x.ho, .int .u64 x.sp, .int .u64 x.su, .int .u64 x.sd]] w fun e w' => e = .returned (.bool (goodB c x)) ∧ Since w w' := by
  obtain ⟨ds, da, un, wy, ti, ju, lo, bl, br, mo, ta, ho, sp, su, sd⟩ := x
  have f1 := fl_lo c.fl
  have f2 := fl_hi c.fl
  by_cases hg : gd ds da c.dr = true
  · by_cases hu1 : un < 0
    · have HB := Lib.hid (show goodB c ⟨ds, da, un, wy, ti, ju, lo, bl, br, mo, ta, ho, sp, su, sd⟩ = false by rw [← Bool.not_eq_true, goodB_iff]; intro h; have := h.2.1; simp at this; omega)
      go_enter Try.func17, Try.ntmps17
      go_wp2_with fail
      refine (goodD _ _ _ _).mono ?_
      rintro e w1 ⟨rfl, hb1⟩
      have c1 : w1.cell? ⟨w.heap.size, 1, none⟩ = some (.int .i64 c.fl) := keep_cell hb1 (by simp [go_sem])
      have x2 : w1.cell? ⟨w.heap.size + 1, 2, none⟩ = some (.int .i64 un) := keep_cell hb1 (by simp [go_sem])
      have x3 : w1.cell? ⟨w.heap.size + 1, 3, none⟩ = some (.int .i64 wy) := keep_cell hb1 (by simp [go_sem])
      have HB1 := Lib.hid hb1
      clear hb1
      go_wp2_with fail
      refine (floorsT _ _).mono ?_
      rintro e w' ⟨rfl, rfl⟩
      go_wp2
      go_ret
      exact ⟨ret_bool HB.out.symm, Since.trans (by (repeat (first | exact Since.refl _ | refine Since.setCell ?_ (by first | (simp; done) | (simp; omega)) _ | refine Since.alloc ?_ _))) HB1.out⟩
    · by_cases hu2 : 4 * (fl c.fl - 1) < un
      · have HB := Lib.hid (show goodB c ⟨ds, da, un, wy, ti, ju, lo, bl, br, mo, ta, ho, sp, su, sd⟩ = false by rw [← Bool.not_eq_true, goodB_iff]; intro h; have := h.2.2.1; simp at this; omega)
        go_enter Try.func17, Try.ntmps17
        go_wp2_with fail
        refine (goodD _ _ _ _).mono ?_
        rintro e w1 ⟨rfl, hb1⟩
        have c1 : w1.cell? ⟨w.heap.size, 1, none⟩ = some (.int .i64 c.fl) := keep_cell hb1 (by simp [go_sem])
        have x2 : w1.cell? ⟨w.heap.size + 1, 2, none⟩ = some (.int .i64 un) := keep_cell hb1 (by simp [go_sem])
        have x3 : w1.cell? ⟨w.heap.size + 1, 3, none⟩ = some (.int .i64 wy) := keep_cell hb1 (by simp [go_sem])
        have HB1 := Lib.hid hb1
        clear hb1
        go_wp2_with fail
        refine (floorsT _ _).mono ?_
        rintro e w' ⟨rfl, rfl⟩
        go_wp2
        go_ret
        exact ⟨ret_bool HB.out.symm, Since.trans (by (repeat (first | exact Since.refl _ | refine Since.setCell ?_ (by first | (simp; done) | (simp; omega)) _ | refine Since.alloc ?_ _))) HB1.out⟩
      · by_cases hw : wy = 0 ∨ wy = 1 ∨ wy = 2
        · have HB := Lib.hid (show goodB c ⟨ds, da, un, wy, ti, ju, lo, bl, br, mo, ta, ho, sp, su, sd⟩ = safeB ⟨ds, da, un, wy, ti, ju, lo, bl, br, mo, ta, ho, sp, su, sd⟩ by rw [Bool.eq_iff_iff, goodB_iff, safeB_iff]; simp only [hg, true_and]; constructor <;> intro h <;> first | exact h.2.2.2 | exact ⟨by omega, by omega, hw, h⟩)
          rcases hw with rfl | rfl | rfl
          ·
            go_enter Try.func17, Try.ntmps17
            go_wp2_with fail
            refine (goodD _ _ _ _).mono ?_
            rintro e w1 ⟨rfl, hb1⟩
            have c1 : w1.cell? ⟨w.heap.size, 1, none⟩ = some (.int .i64 c.fl) := keep_cell hb1 (by simp [go_sem])
            have x0 : w1.cell? ⟨w.heap.size + 1, 0, none⟩ = some (.int .i64 ds) := keep_cell hb1 (by simp [go_sem])
            have x1 : w1.cell? ⟨w.heap.size + 1, 1, none⟩ = some (.int .i64 da) := keep_cell hb1 (by simp [go_sem])
            have x2 : w1.cell? ⟨w.heap.size + 1, 2, none⟩ = some (.int .i64 un) := keep_cell hb1 (by simp [go_sem])
            have x3 : w1.cell? ⟨w.heap.size + 1, 3, none⟩ = some (.int .i64 0) := keep_cell hb1 (by simp [go_sem])
            have x4 : w1.cell? ⟨w.heap.size + 1, 4, none⟩ = some (.int .i64 ti) := keep_cell hb1 (by simp [go_sem])
            have x5 : w1.cell? ⟨w.heap.size + 1, 5, none⟩ = some (.int .i64 ju) := keep_cell hb1 (by simp [go_sem])
            have x6 : w1.cell? ⟨w.heap.size + 1, 6, none⟩ = some (.int .i64 lo) := keep_cell hb1 (by simp [go_sem])
            have x7 : w1.cell? ⟨w.heap.size + 1, 7, none⟩ = some (.bool bl) := keep_cell hb1 (by simp [go_sem])
            have x8 : w1.cell? ⟨w.heap.size + 1, 8, none⟩ = some (.bool br) := keep_cell hb1 (by simp [go_sem])
            have x9 : w1.cell? ⟨w.heap.size + 1, 9, none⟩ = some (.int .i64 mo) := keep_cell hb1 (by simp [go_sem])
            have x10 : w1.cell? ⟨w.heap.size + 1, 10, none⟩ = some (.int .i64 ta) := keep_cell hb1 (by simp [go_sem])
            have x11 : w1.cell? ⟨w.heap.size + 1, 11, none⟩ = some (.bool ho) := keep_cell hb1 (by simp [go_sem])
            have x12 : w1.cell? ⟨w.heap.size + 1, 12, none⟩ = some (.int .u64 sp) := keep_cell hb1 (by simp [go_sem])
            have x13 : w1.cell? ⟨w.heap.size + 1, 13, none⟩ = some (.int .u64 su) := keep_cell hb1 (by simp [go_sem])
            have x14 : w1.cell? ⟨w.heap.size + 1, 14, none⟩ = some (.int .u64 sd) := keep_cell hb1 (by simp [go_sem])
            have HB1 := Lib.hid hb1
            clear hb1
            go_wp2_with fail
            refine (floorsT _ _).mono ?_
            rintro e w' ⟨rfl, rfl⟩
            go_wp2_with fail
            refine (safeK _ _ _ _ _ _ _ _ _ _ _ _ _ _ _ _).mono ?_
            rintro e w2 ⟨rfl, hb2⟩
            go_wp2
            go_ret
            exact ⟨ret_bool HB.out.symm, Since.trans (Since.trans (by (repeat (first | exact Since.refl _ | refine Since.setCell ?_ (by first | (simp; done) | (simp; omega)) _ | refine Since.alloc ?_ _))) HB1.out) hb2⟩
          ·
            go_enter Try.func17, Try.ntmps17
            go_wp2_with fail
            refine (goodD _ _ _ _).mono ?_
            rintro e w1 ⟨rfl, hb1⟩
            have c1 : w1.cell? ⟨w.heap.size, 1, none⟩ = some (.int .i64 c.fl) := keep_cell hb1 (by simp [go_sem])
            have x0 : w1.cell? ⟨w.heap.size + 1, 0, none⟩ = some (.int .i64 ds) := keep_cell hb1 (by simp [go_sem])
            have x1 : w1.cell? ⟨w.heap.size + 1, 1, none⟩ = some (.int .i64 da) := keep_cell hb1 (by simp [go_sem])
            have x2 : w1.cell? ⟨w.heap.size + 1, 2, none⟩ = some (.int .i64 un) := keep_cell hb1 (by simp [go_sem])
            have x3 : w1.cell? ⟨w.heap.size + 1, 3, none⟩ = some (.int .i64 1) := keep_cell hb1 (by simp [go_sem])
            have x4 : w1.cell? ⟨w.heap.size + 1, 4, none⟩ = some (.int .i64 ti) := keep_cell hb1 (by simp [go_sem])
            have x5 : w1.cell? ⟨w.heap.size + 1, 5, none⟩ = some (.int .i64 ju) := keep_cell hb1 (by simp [go_sem])
            have x6 : w1.cell? ⟨w.heap.size + 1, 6, none⟩ = some (.int .i64 lo) := keep_cell hb1 (by simp [go_sem])
            have x7 : w1.cell? ⟨w.heap.size + 1, 7, none⟩ = some (.bool bl) := keep_cell hb1 (by simp [go_sem])
            have x8 : w1.cell? ⟨w.heap.size + 1, 8, none⟩ = some (.bool br) := keep_cell hb1 (by simp [go_sem])
            have x9 : w1.cell? ⟨w.heap.size + 1, 9, none⟩ = some (.int .i64 mo) := keep_cell hb1 (by simp [go_sem])
            have x10 : w1.cell? ⟨w.heap.size + 1, 10, none⟩ = some (.int .i64 ta) := keep_cell hb1 (by simp [go_sem])
            have x11 : w1.cell? ⟨w.heap.size + 1, 11, none⟩ = some (.bool ho) := keep_cell hb1 (by simp [go_sem])
            have x12 : w1.cell? ⟨w.heap.size + 1, 12, none⟩ = some (.int .u64 sp) := keep_cell hb1 (by simp [go_sem])
            have x13 : w1.cell? ⟨w.heap.size + 1, 13, none⟩ = some (.int .u64 su) := keep_cell hb1 (by simp [go_sem])
            have x14 : w1.cell? ⟨w.heap.size + 1, 14, none⟩ = some (.int .u64 sd) := keep_cell hb1 (by simp [go_sem])
            have HB1 := Lib.hid hb1
            clear hb1
            go_wp2_with fail
            refine (floorsT _ _).mono ?_
            rintro e w' ⟨rfl, rfl⟩
            go_wp2_with fail
            refine (safeK _ _ _ _ _ _ _ _ _ _ _ _ _ _ _ _).mono ?_
            rintro e w2 ⟨rfl, hb2⟩
            go_wp2
            go_ret
            exact ⟨ret_bool HB.out.symm, Since.trans (Since.trans (by (repeat (first | exact Since.refl _ | refine Since.setCell ?_ (by first | (simp; done) | (simp; omega)) _ | refine Since.alloc ?_ _))) HB1.out) hb2⟩
          ·
            go_enter Try.func17, Try.ntmps17
            go_wp2_with fail
            refine (goodD _ _ _ _).mono ?_
            rintro e w1 ⟨rfl, hb1⟩
            have c1 : w1.cell? ⟨w.heap.size, 1, none⟩ = some (.int .i64 c.fl) := keep_cell hb1 (by simp [go_sem])
            have x0 : w1.cell? ⟨w.heap.size + 1, 0, none⟩ = some (.int .i64 ds) := keep_cell hb1 (by simp [go_sem])
            have x1 : w1.cell? ⟨w.heap.size + 1, 1, none⟩ = some (.int .i64 da) := keep_cell hb1 (by simp [go_sem])
            have x2 : w1.cell? ⟨w.heap.size + 1, 2, none⟩ = some (.int .i64 un) := keep_cell hb1 (by simp [go_sem])
            have x3 : w1.cell? ⟨w.heap.size + 1, 3, none⟩ = some (.int .i64 2) := keep_cell hb1 (by simp [go_sem])
            have x4 : w1.cell? ⟨w.heap.size + 1, 4, none⟩ = some (.int .i64 ti) := keep_cell hb1 (by simp [go_sem])
            have x5 : w1.cell? ⟨w.heap.size + 1, 5, none⟩ = some (.int .i64 ju) := keep_cell hb1 (by simp [go_sem])
            have x6 : w1.cell? ⟨w.heap.size + 1, 6, none⟩ = some (.int .i64 lo) := keep_cell hb1 (by simp [go_sem])
            have x7 : w1.cell? ⟨w.heap.size + 1, 7, none⟩ = some (.bool bl) := keep_cell hb1 (by simp [go_sem])
            have x8 : w1.cell? ⟨w.heap.size + 1, 8, none⟩ = some (.bool br) := keep_cell hb1 (by simp [go_sem])
            have x9 : w1.cell? ⟨w.heap.size + 1, 9, none⟩ = some (.int .i64 mo) := keep_cell hb1 (by simp [go_sem])
            have x10 : w1.cell? ⟨w.heap.size + 1, 10, none⟩ = some (.int .i64 ta) := keep_cell hb1 (by simp [go_sem])
            have x11 : w1.cell? ⟨w.heap.size + 1, 11, none⟩ = some (.bool ho) := keep_cell hb1 (by simp [go_sem])
            have x12 : w1.cell? ⟨w.heap.size + 1, 12, none⟩ = some (.int .u64 sp) := keep_cell hb1 (by simp [go_sem])
            have x13 : w1.cell? ⟨w.heap.size + 1, 13, none⟩ = some (.int .u64 su) := keep_cell hb1 (by simp [go_sem])
            have x14 : w1.cell? ⟨w.heap.size + 1, 14, none⟩ = some (.int .u64 sd) := keep_cell hb1 (by simp [go_sem])
            have HB1 := Lib.hid hb1
            clear hb1
            go_wp2_with fail
            refine (floorsT _ _).mono ?_
            rintro e w' ⟨rfl, rfl⟩
            go_wp2_with fail
            refine (safeK _ _ _ _ _ _ _ _ _ _ _ _ _ _ _ _).mono ?_
            rintro e w2 ⟨rfl, hb2⟩
            go_wp2
            go_ret
            exact ⟨ret_bool HB.out.symm, Since.trans (Since.trans (by (repeat (first | exact Since.refl _ | refine Since.setCell ?_ (by first | (simp; done) | (simp; omega)) _ | refine Since.alloc ?_ _))) HB1.out) hb2⟩
        · have HB := Lib.hid (show goodB c ⟨ds, da, un, wy, ti, ju, lo, bl, br, mo, ta, ho, sp, su, sd⟩ = false by rw [← Bool.not_eq_true, goodB_iff]; intro h; exact hw h.2.2.2.1)
          have k0 : (wy == 0) = false := by simp; omega
          have k1 : (wy == 1) = false := by simp; omega
          have k2 : (wy == 2) = false := by simp; omega
          go_enter Try.func17, Try.ntmps17
          go_wp2_with fail
          refine (goodD _ _ _ _).mono ?_
          rintro e w1 ⟨rfl, hb1⟩
          have c1 : w1.cell? ⟨w.heap.size, 1, none⟩ = some (.int .i64 c.fl) := keep_cell hb1 (by simp [go_sem])
          have x2 : w1.cell? ⟨w.heap.size + 1, 2, none⟩ = some (.int .i64 un) := keep_cell hb1 (by simp [go_sem])
          have x3 : w1.cell? ⟨w.heap.size + 1, 3, none⟩ = some (.int .i64 wy) := keep_cell hb1 (by simp [go_sem])
          have HB1 := Lib.hid hb1
          clear hb1
          go_wp2_with fail
          refine (floorsT _ _).mono ?_
          rintro e w' ⟨rfl, rfl⟩
          go_wp2
          go_ret
          exact ⟨ret_bool HB.out.symm, Since.trans (by (repeat (first | exact Since.refl _ | refine Since.setCell ?_ (by first | (simp; done) | (simp; omega)) _ | refine Since.alloc ?_ _))) HB1.out⟩
  · have HB := Lib.hid (show goodB c ⟨ds, da, un, wy, ti, ju, lo, bl, br, mo, ta, ho, sp, su, sd⟩ = false by rw [← Bool.not_eq_true, goodB_iff]; intro h; exact hg h.1)
    have hg' : gd ds da c.dr = false := by simpa using hg
    go_enter Try.func17, Try.ntmps17
    go_wp2_with fail
    refine (goodD _ _ _ _).mono ?_
    rintro e w1 ⟨rfl, hb1⟩
    have c1 : w1.cell? ⟨w.heap.size, 1, none⟩ = some (.int .i64 c.fl) := keep_cell hb1 (by simp [go_sem])
    have x2 : w1.cell? ⟨w.heap.size + 1, 2, none⟩ = some (.int .i64 un) := keep_cell hb1 (by simp [go_sem])
    have x3 : w1.cell? ⟨w.heap.size + 1, 3, none⟩ = some (.int .i64 wy) := keep_cell hb1 (by simp [go_sem])
    have HB1 := Lib.hid hb1
    clear hb1
    go_wp2
    go_ret
    exact ⟨ret_bool HB.out.symm, Since.trans (by (repeat (first | exact Since.refl _ | refine Since.setCell ?_ (by first | (simp; done) | (simp; omega)) _ | refine Since.alloc ?_ _))) HB1.out⟩
end Go.Proofs.Ytfbnmoegdbdhjaa.Pl
