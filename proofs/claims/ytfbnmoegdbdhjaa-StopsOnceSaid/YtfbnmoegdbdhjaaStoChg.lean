/-
  StopsChange, walked (layer 12).
  Conditions: each argument fits its kind.
-/
import Derived.Test.YtfbnmoegdbdhjaaStoAns
import Derived.Test.YtfbnmoegdbdhjaaStoRef
import Derived.BigRegion
namespace Go.Proofs.Ytfbnmoegdbdhjaa.St
set_option linter.unusedVariables false
set_option linter.unusedSimpArgs false
open Go.RowKit Go.Proofs.Ytfbnmoegdbdhjaa.Ba Go.Proofs.Ytfbnmoegdbdhjaa.Mem
set_option maxRecDepth 100000
/-- A local of three cells. -/
def L3 (wx : World) (b : Nat) (x y z : Int) : Prop := (wx.cell? ⟨b, 0, none⟩ = some (.int .u64 x) ∧ wx.cell? ⟨b, 1, none⟩ = some (.int .u64 y) ∧ wx.cell? ⟨b, 2, none⟩ = some (.int .u64 z)) ∧ wx.frozen? ⟨b, 0, none⟩ = false ∧ wx.frozen? ⟨b, 1, none⟩ = false ∧ wx.frozen? ⟨b, 2, none⟩ = false
section
variable {wx : World} {b c : Nat} {x y z : Int}
theorem L3.drew (h : L3 wx b x y z) : L3 wx.drew b x y z := h
theorem L3.far (h : L3 wx c x y z) (i : Nat) (v : Value) (n : b ≠ c) : L3 (wx.setCell ⟨b, i, none⟩ v) c x y z := by
  obtain ⟨⟨h0, h1, h2⟩, f0, f1, f2⟩ := h
  exact ⟨⟨(set_far v n).trans h0, (set_far v n).trans h1, (set_far v n).trans h2⟩, set_frz f0, set_frz f1, set_frz f2⟩
theorem L3.set0 (h : L3 wx b x y z) (v : Int) : L3 (wx.setCell ⟨b, 0, none⟩ (.int .u64 v)) b v y z := by
  obtain ⟨⟨h0, h1, h2⟩, f0, f1, f2⟩ := h
  exact ⟨⟨set_same h0, (set_ne _ (by omega)).trans h1, (set_ne _ (by omega)).trans h2⟩, set_frz f0, set_frz f1, set_frz f2⟩
theorem L3.set1 (h : L3 wx b x y z) (v : Int) : L3 (wx.setCell ⟨b, 1, none⟩ (.int .u64 v)) b x v z := by
  obtain ⟨⟨h0, h1, h2⟩, f0, f1, f2⟩ := h
  exact ⟨⟨(set_ne _ (by omega)).trans h0, set_same h1, (set_ne _ (by omega)).trans h2⟩, set_frz f0, set_frz f1, set_frz f2⟩
theorem L3.set2 (h : L3 wx b x y z) (v : Int) : L3 (wx.setCell ⟨b, 2, none⟩ (.int .u64 v)) b x y v := by
  obtain ⟨⟨h0, h1, h2⟩, f0, f1, f2⟩ := h
  exact ⟨⟨(set_ne _ (by omega)).trans h0, (set_ne _ (by omega)).trans h1, set_same h2⟩, set_frz f0, set_frz f1, set_frz f2⟩
end
/-- Three locals, and where s lies. -/
structure Th (w wx : World) (g h j : Nat) (p u d p7 u7 d7 p8 u8 d8 p9 u9 d9 : Int) : Prop where
  n : g ≠ h ∧ g ≠ j ∧ h ≠ j ∧ w.heap.size < g ∧ w.heap.size < h ∧ w.heap.size < j
  s : Since w wx
  l0 : L3 wx w.heap.size p u d
  l7 : L3 wx g p7 u7 d7
  l8 : L3 wx h p8 u8 d8
  l9 : L3 wx j p9 u9 d9
section
variable {w wx : World} {g h j : Nat} {p u d p7 u7 d7 p8 u8 d8 p9 u9 d9 : Int}
theorem Th.drew (t : Th w wx g h j p u d p7 u7 d7 p8 u8 d8 p9 u9 d9) : Th w wx.drew g h j p u d p7 u7 d7 p8 u8 d8 p9 u9 d9 := ⟨t.n, t.s.drew, t.l0, t.l7, t.l8, t.l9⟩
theorem Th.t70 (t : Th w wx g h j p u d p7 u7 d7 p8 u8 d8 p9 u9 d9) (v : Int) : Th w (wx.setCell ⟨g, 0, none⟩ (.int .u64 v)) g h j p u d v u7 d7 p8 u8 d8 p9 u9 d9 := ⟨t.n, t.s.setCell (by have := t.n; simp; omega) _, t.l0.far 0 _ (by have := t.n; omega), t.l7.set0 v, t.l8.far 0 _ (by have := t.n; omega), t.l9.far 0 _ (by have := t.n; omega)⟩
theorem Th.t71 (t : Th w wx g h j p u d p7 u7 d7 p8 u8 d8 p9 u9 d9) (v : Int) : Th w (wx.setCell ⟨g, 1, none⟩ (.int .u64 v)) g h j p u d p7 v d7 p8 u8 d8 p9 u9 d9 := ⟨t.n, t.s.setCell (by have := t.n; simp; omega) _, t.l0.far 1 _ (by have := t.n; omega), t.l7.set1 v, t.l8.far 1 _ (by have := t.n; omega), t.l9.far 1 _ (by have := t.n; omega)⟩
theorem Th.t72 (t : Th w wx g h j p u d p7 u7 d7 p8 u8 d8 p9 u9 d9) (v : Int) : Th w (wx.setCell ⟨g, 2, none⟩ (.int .u64 v)) g h j p u d p7 u7 v p8 u8 d8 p9 u9 d9 := ⟨t.n, t.s.setCell (by have := t.n; simp; omega) _, t.l0.far 2 _ (by have := t.n; omega), t.l7.set2 v, t.l8.far 2 _ (by have := t.n; omega), t.l9.far 2 _ (by have := t.n; omega)⟩
theorem Th.t80 (t : Th w wx g h j p u d p7 u7 d7 p8 u8 d8 p9 u9 d9) (v : Int) : Th w (wx.setCell ⟨h, 0, none⟩ (.int .u64 v)) g h j p u d p7 u7 d7 v u8 d8 p9 u9 d9 := ⟨t.n, t.s.setCell (by have := t.n; simp; omega) _, t.l0.far 0 _ (by have := t.n; omega), t.l7.far 0 _ (by have := t.n; omega), t.l8.set0 v, t.l9.far 0 _ (by have := t.n; omega)⟩
theorem Th.t81 (t : Th w wx g h j p u d p7 u7 d7 p8 u8 d8 p9 u9 d9) (v : Int) : Th w (wx.setCell ⟨h, 1, none⟩ (.int .u64 v)) g h j p u d p7 u7 d7 p8 v d8 p9 u9 d9 := ⟨t.n, t.s.setCell (by have := t.n; simp; omega) _, t.l0.far 1 _ (by have := t.n; omega), t.l7.far 1 _ (by have := t.n; omega), t.l8.set1 v, t.l9.far 1 _ (by have := t.n; omega)⟩
theorem Th.t82 (t : Th w wx g h j p u d p7 u7 d7 p8 u8 d8 p9 u9 d9) (v : Int) : Th w (wx.setCell ⟨h, 2, none⟩ (.int .u64 v)) g h j p u d p7 u7 d7 p8 u8 v p9 u9 d9 := ⟨t.n, t.s.setCell (by have := t.n; simp; omega) _, t.l0.far 2 _ (by have := t.n; omega), t.l7.far 2 _ (by have := t.n; omega), t.l8.set2 v, t.l9.far 2 _ (by have := t.n; omega)⟩
theorem Th.t90 (t : Th w wx g h j p u d p7 u7 d7 p8 u8 d8 p9 u9 d9) (v : Int) : Th w (wx.setCell ⟨j, 0, none⟩ (.int .u64 v)) g h j p u d p7 u7 d7 p8 u8 d8 v u9 d9 := ⟨t.n, t.s.setCell (by have := t.n; simp; omega) _, t.l0.far 0 _ (by have := t.n; omega), t.l7.far 0 _ (by have := t.n; omega), t.l8.far 0 _ (by have := t.n; omega), t.l9.set0 v⟩
theorem Th.t91 (t : Th w wx g h j p u d p7 u7 d7 p8 u8 d8 p9 u9 d9) (v : Int) : Th w (wx.setCell ⟨j, 1, none⟩ (.int .u64 v)) g h j p u d p7 u7 d7 p8 u8 d8 p9 v d9 := ⟨t.n, t.s.setCell (by have := t.n; simp; omega) _, t.l0.far 1 _ (by have := t.n; omega), t.l7.far 1 _ (by have := t.n; omega), t.l8.far 1 _ (by have := t.n; omega), t.l9.set1 v⟩
theorem Th.t92 (t : Th w wx g h j p u d p7 u7 d7 p8 u8 d8 p9 u9 d9) (v : Int) : Th w (wx.setCell ⟨j, 2, none⟩ (.int .u64 v)) g h j p u d p7 u7 d7 p8 u8 d8 p9 u9 v := ⟨t.n, t.s.setCell (by have := t.n; simp; omega) _, t.l0.far 2 _ (by have := t.n; omega), t.l7.far 2 _ (by have := t.n; omega), t.l8.far 2 _ (by have := t.n; omega), t.l9.set2 v⟩
end
set_option maxHeartbeats 4000000 in
theorem change (p u d f way : Int) (w : World) :
    Calls Try.prog 6 #[.agg #[.int .u64 p, .int .u64 u, .int .u64 d], .int .i64 f, .int .i64 way] w fun e w' => e = .returned (.bool true) ∧ Since w w' := by
  go_enter Try.func6, Try.ntmps6
  go_wp2_with fail
  go_cut [7, 8, 9] (fun s7 s8 s9 wx => ∃ g h j : Nat, s7 = .pointer (some ⟨g, 0, none⟩) ∧ s8 = .pointer (some ⟨h, 0, none⟩) ∧ s9 = .pointer (some ⟨j, 0, none⟩) ∧ Hid (Th w wx g h j p u d p u d p u d p u d))
  case first =>
    go_region
    all_goals
      go_wp2_with fail
      go_meet
      case rel => exact ⟨_, _, _, rfl, rfl, rfl, Lib.hid ⟨by omega, (by repeat (first | exact Since.refl _ | assumption | refine Since.setCell ?_ (by first | (simp; done) | (simp; omega)) _ | refine Since.drew ?_ | refine Since.drewN ?_ _ | refine Since.alloc ?_ _ | refine Since.trans ?_ (by assumption) | refine Since.trans ?_ (Hid.out (by assumption)))), ⟨by simp [go_sem], by simp [go_sem]⟩, ⟨by simp [go_sem], by simp [go_sem]⟩, ⟨by simp [go_sem], by simp [go_sem]⟩, ⟨by simp [go_sem], by simp [go_sem]⟩⟩⟩
  case rest =>
    obtain ⟨g, h, j, rfl, rfl, rfl, HT⟩ := hcut
    have x1 := HT.out.l7.1.1; have y1 := HT.out.l7.2.1
    go_wp2_with fail
    go_cut [7, 8, 9] (fun s7 s8 s9 wx => s7 = .pointer (some ⟨g, 0, none⟩) ∧ s8 = .pointer (some ⟨h, 0, none⟩) ∧ s9 = .pointer (some ⟨j, 0, none⟩) ∧ Hid (Th w wx g h j p u d (bits .or .u64 p (bit f)) u d p u d p u d))
    case first =>
      go_region_with (first | (go_at_call 24; refine (bitR _ _).mono ?_; rintro e w' ⟨rfl, rfl⟩))
      all_goals
        go_wp2_with fail
        go_meet
        case rel => exact ⟨rfl, rfl, rfl, Lib.hid (by first | exact (HT.out.t70 _).drew | exact (HT.out.drew.t70 _).drew | exact HT.out.t70 _ | exact (HT.out.t70 _).drew.drew)⟩
    case rest =>
      clear x1 y1 HT
      obtain ⟨rfl, rfl, rfl, HT⟩ := hcut
      have x2 := HT.out.l9.1.1; have y2 := HT.out.l9.2.1
      go_wp2_with fail
      go_cut [7, 8, 9] (fun s7 s8 s9 wx => s7 = .pointer (some ⟨g, 0, none⟩) ∧ s8 = .pointer (some ⟨h, 0, none⟩) ∧ s9 = .pointer (some ⟨j, 0, none⟩) ∧ Hid (Th w wx g h j p u d (bits .or .u64 p (bit f)) u d p u d (bits .andNot .u64 p (bit f)) u d))
      case first =>
        go_region_with (first | (go_at_call 24; refine (bitR _ _).mono ?_; rintro e w' ⟨rfl, rfl⟩))
        all_goals
          go_wp2_with fail
          go_meet
          case rel => exact ⟨rfl, rfl, rfl, Lib.hid (by first | exact (HT.out.t90 _).drew | exact (HT.out.drew.t90 _).drew | exact HT.out.t90 _ | exact (HT.out.t90 _).drew.drew)⟩
      case rest =>
        clear x2 y2 HT
        obtain ⟨rfl, rfl, rfl, HT⟩ := hcut
        by_cases h1 : way = 1
        · subst h1
          have HHU := Lib.hid (show haU u f 1 = bits .or .u64 u (bit f) by unfold haU; simp)
          have HHD := Lib.hid (show haD d f 1 = d by unfold haD; simp)
          have HCP := Lib.hid (show clP p f = bits .andNot .u64 p (bit f) by unfold clP; rfl)
          have HCU := Lib.hid (show clU u f 1 = bits .andNot .u64 u (bit f) by unfold clU; simp)
          have HCD := Lib.hid (show clD d f 1 = d by unfold clD; simp)
          have x3 := HT.out.l8.1.2.1; have y3 := HT.out.l8.2.2.1
          go_wp2_with fail
          go_cut [7, 8, 9] (fun s7 s8 s9 wx => s7 = .pointer (some ⟨g, 0, none⟩) ∧ s8 = .pointer (some ⟨h, 0, none⟩) ∧ s9 = .pointer (some ⟨j, 0, none⟩) ∧ Hid (Th w wx g h j p u d (bits .or .u64 p (bit f)) u d p (bits .or .u64 u (bit f)) d (bits .andNot .u64 p (bit f)) u d))
          case first =>
            go_region_with (first | (go_at_call 24; refine (bitR _ _).mono ?_; rintro e w' ⟨rfl, rfl⟩))
            all_goals
              go_wp2_with fail
              go_meet
              case rel => exact ⟨rfl, rfl, rfl, Lib.hid (by first | exact (HT.out.t81 _).drew | exact (HT.out.drew.t81 _).drew | exact HT.out.t81 _ | exact (HT.out.t81 _).drew.drew)⟩
          case rest =>
            clear x3 y3 HT
            obtain ⟨rfl, rfl, rfl, HT⟩ := hcut
            have x4 := HT.out.l9.1.2.1; have y4 := HT.out.l9.2.2.1
            go_wp2_with fail
            go_cut [7, 8, 9] (fun s7 s8 s9 wx => s7 = .pointer (some ⟨g, 0, none⟩) ∧ s8 = .pointer (some ⟨h, 0, none⟩) ∧ s9 = .pointer (some ⟨j, 0, none⟩) ∧ Hid (Th w wx g h j p u d (bits .or .u64 p (bit f)) u d p (bits .or .u64 u (bit f)) d (bits .andNot .u64 p (bit f)) (bits .andNot .u64 u (bit f)) d))
            case first =>
              go_region_with (first | (go_at_call 24; refine (bitR _ _).mono ?_; rintro e w' ⟨rfl, rfl⟩))
              all_goals
                go_wp2_with fail
                go_meet
                case rel => exact ⟨rfl, rfl, rfl, Lib.hid (by first | exact (HT.out.t91 _).drew | exact (HT.out.drew.t91 _).drew | exact HT.out.t91 _ | exact (HT.out.t91 _).drew.drew)⟩
            case rest =>
              clear x4 y4 HT
              obtain ⟨rfl, rfl, rfl, HT⟩ := hcut
              have HT2 : Hid (Th w wc g h j p u d (bits .or .u64 p (bit f)) u d p (haU u f 1) (haD d f 1) (clP p f) (clU u f 1) (clD d f 1)) := Lib.hid (by rw [HHU.out, HHD.out, HCP.out, HCU.out, HCD.out]; exact HT.out)
              clear HT HHU HHD HCP HCU HCD
              obtain ⟨⟨n1, n2, n3, n4, n5, n6⟩, S, ⟨⟨a0, a1, a2⟩, _⟩, ⟨⟨b0, b1, b2⟩, _⟩, ⟨⟨c0, c1, c2⟩, _⟩, ⟨⟨d0, d1, d2⟩, _⟩⟩ := HT2.out
              have HS := Lib.hid S
              clear S HT2
              go_wp2_with fail
              have hrK : ∀ W W' : World, Since W W' → (Since (wc) W ∧ W.cell? ⟨w.heap.size, 0, none⟩ = some (.int .u64 p) ∧ W.cell? ⟨w.heap.size, 1, none⟩ = some (.int .u64 u) ∧ W.cell? ⟨w.heap.size, 2, none⟩ = some (.int .u64 d) ∧ W.cell? ⟨g, 0, none⟩ = some (.int .u64 (bits .or .u64 p (bit f))) ∧ W.cell? ⟨g, 1, none⟩ = some (.int .u64 u) ∧ W.cell? ⟨g, 2, none⟩ = some (.int .u64 d) ∧ W.cell? ⟨h, 0, none⟩ = some (.int .u64 p) ∧ W.cell? ⟨h, 1, none⟩ = some (.int .u64 (haU u f 1)) ∧ W.cell? ⟨h, 2, none⟩ = some (.int .u64 (haD d f 1)) ∧ W.cell? ⟨j, 0, none⟩ = some (.int .u64 (clP p f)) ∧ W.cell? ⟨j, 1, none⟩ = some (.int .u64 (clU u f 1)) ∧ W.cell? ⟨j, 2, none⟩ = some (.int .u64 (clD d f 1))) → (Since (wc) W' ∧ W'.cell? ⟨w.heap.size, 0, none⟩ = some (.int .u64 p) ∧ W'.cell? ⟨w.heap.size, 1, none⟩ = some (.int .u64 u) ∧ W'.cell? ⟨w.heap.size, 2, none⟩ = some (.int .u64 d) ∧ W'.cell? ⟨g, 0, none⟩ = some (.int .u64 (bits .or .u64 p (bit f))) ∧ W'.cell? ⟨g, 1, none⟩ = some (.int .u64 u) ∧ W'.cell? ⟨g, 2, none⟩ = some (.int .u64 d) ∧ W'.cell? ⟨h, 0, none⟩ = some (.int .u64 p) ∧ W'.cell? ⟨h, 1, none⟩ = some (.int .u64 (haU u f 1)) ∧ W'.cell? ⟨h, 2, none⟩ = some (.int .u64 (haD d f 1)) ∧ W'.cell? ⟨j, 0, none⟩ = some (.int .u64 (clP p f)) ∧ W'.cell? ⟨j, 1, none⟩ = some (.int .u64 (clU u f 1)) ∧ W'.cell? ⟨j, 2, none⟩ = some (.int .u64 (clD d f 1))) := fun W W' k ⟨h, h0, h1, h2, h3, h4, h5, h6, h7, h8, h9, h10, h11⟩ => ⟨h.trans k, keep_cell k h0, keep_cell k h1, keep_cell k h2, keep_cell k h3, keep_cell k h4, keep_cell k h5, keep_cell k h6, keep_cell k h7, keep_cell k h8, keep_cell k h9, keep_cell k h10, keep_cell k h11⟩
              have hrS : (fun W : World => Since (wc) W ∧ W.cell? ⟨w.heap.size, 0, none⟩ = some (.int .u64 p) ∧ W.cell? ⟨w.heap.size, 1, none⟩ = some (.int .u64 u) ∧ W.cell? ⟨w.heap.size, 2, none⟩ = some (.int .u64 d) ∧ W.cell? ⟨g, 0, none⟩ = some (.int .u64 (bits .or .u64 p (bit f))) ∧ W.cell? ⟨g, 1, none⟩ = some (.int .u64 u) ∧ W.cell? ⟨g, 2, none⟩ = some (.int .u64 d) ∧ W.cell? ⟨h, 0, none⟩ = some (.int .u64 p) ∧ W.cell? ⟨h, 1, none⟩ = some (.int .u64 (haU u f 1)) ∧ W.cell? ⟨h, 2, none⟩ = some (.int .u64 (haD d f 1)) ∧ W.cell? ⟨j, 0, none⟩ = some (.int .u64 (clP p f)) ∧ W.cell? ⟨j, 1, none⟩ = some (.int .u64 (clU u f 1)) ∧ W.cell? ⟨j, 2, none⟩ = some (.int .u64 (clD d f 1))) (wc) := ⟨Since.refl _, by first | assumption | (simp; done), by first | assumption | (simp; done), by first | assumption | (simp; done), by first | assumption | (simp; done), by first | assumption | (simp; done), by first | assumption | (simp; done), by first | assumption | (simp; done), by first | assumption | (simp; done), by first | assumption | (simp; done), by first | assumption | (simp; done), by first | assumption | (simp; done), by first | assumption | (simp; done)⟩
              have hrD : (fun W : World => Since (wc) W ∧ W.cell? ⟨w.heap.size, 0, none⟩ = some (.int .u64 p) ∧ W.cell? ⟨w.heap.size, 1, none⟩ = some (.int .u64 u) ∧ W.cell? ⟨w.heap.size, 2, none⟩ = some (.int .u64 d) ∧ W.cell? ⟨g, 0, none⟩ = some (.int .u64 (bits .or .u64 p (bit f))) ∧ W.cell? ⟨g, 1, none⟩ = some (.int .u64 u) ∧ W.cell? ⟨g, 2, none⟩ = some (.int .u64 d) ∧ W.cell? ⟨h, 0, none⟩ = some (.int .u64 p) ∧ W.cell? ⟨h, 1, none⟩ = some (.int .u64 (haU u f 1)) ∧ W.cell? ⟨h, 2, none⟩ = some (.int .u64 (haD d f 1)) ∧ W.cell? ⟨j, 0, none⟩ = some (.int .u64 (clP p f)) ∧ W.cell? ⟨j, 1, none⟩ = some (.int .u64 (clU u f 1)) ∧ W.cell? ⟨j, 2, none⟩ = some (.int .u64 (clD d f 1))) (World.drew (wc)) := ⟨(Since.refl _).drew, hrS.2⟩
              have HRK := Lib.hid hrK
              have HRD := Lib.hid hrD
              clear hrK hrS hrD
              go_region_held3 (fun W => Since (wc) W ∧ W.cell? ⟨w.heap.size, 0, none⟩ = some (.int .u64 p) ∧ W.cell? ⟨w.heap.size, 1, none⟩ = some (.int .u64 u) ∧ W.cell? ⟨w.heap.size, 2, none⟩ = some (.int .u64 d) ∧ W.cell? ⟨g, 0, none⟩ = some (.int .u64 (bits .or .u64 p (bit f))) ∧ W.cell? ⟨g, 1, none⟩ = some (.int .u64 u) ∧ W.cell? ⟨g, 2, none⟩ = some (.int .u64 d) ∧ W.cell? ⟨h, 0, none⟩ = some (.int .u64 p) ∧ W.cell? ⟨h, 1, none⟩ = some (.int .u64 (haU u f 1)) ∧ W.cell? ⟨h, 2, none⟩ = some (.int .u64 (haD d f 1)) ∧ W.cell? ⟨j, 0, none⟩ = some (.int .u64 (clP p f)) ∧ W.cell? ⟨j, 1, none⟩ = some (.int .u64 (clU u f 1)) ∧ W.cell? ⟨j, 2, none⟩ = some (.int .u64 (clD d f 1))) (first | exact HRD.out | (apply HRK.out; assumption; assumption)) (first | (go_at_call 25; refine (ans _).mono ?_; rintro e w9 ⟨rfl, hb9⟩) | (go_at_call 26; refine (pressT _ _ _ _ _).mono ?_; rintro e w9 ⟨rfl, hb9⟩) | (go_at_call 27; refine (hallT _ _ _ _ _ _).mono ?_; rintro e w9 ⟨rfl, hb9⟩) | (go_at_call 28; refine (clearT _ _ _ _ _ _).mono ?_; rintro e w9 ⟨rfl, hb9⟩))
              rename_i hq
              obtain ⟨hs9, hc9_0_0, hc9_0_1, hc9_0_2, hc9_1_0, hc9_1_1, hc9_1_2, hc9_2_0, hc9_2_1, hc9_2_2, hc9_3_0, hc9_3_1, hc9_3_2⟩ := hq
              clear HRK HRD
              have hl9_0 : w.heap.size < w9.heap.size := World.block_lt_of_cell? _ _ hc9_0_0
              have hl9_1 : g < w9.heap.size := World.block_lt_of_cell? _ _ hc9_1_0
              have hl9_2 : h < w9.heap.size := World.block_lt_of_cell? _ _ hc9_2_0
              have hl9_3 : j < w9.heap.size := World.block_lt_of_cell? _ _ hc9_3_0
              have HS9 := Lib.hid hs9
              clear hs9
              go_wp2
              go_ret
              exact ⟨rfl, HS.out.trans HS9.out⟩
        · by_cases h2 : way = 2
          · subst h2
            have HHU := Lib.hid (show haU u f 2 = u by unfold haU; simp)
            have HHD := Lib.hid (show haD d f 2 = bits .or .u64 d (bit f) by unfold haD; simp)
            have HCP := Lib.hid (show clP p f = bits .andNot .u64 p (bit f) by unfold clP; rfl)
            have HCU := Lib.hid (show clU u f 2 = u by unfold clU; simp)
            have HCD := Lib.hid (show clD d f 2 = bits .andNot .u64 d (bit f) by unfold clD; simp)
            have x5 := HT.out.l8.1.2.2; have y5 := HT.out.l8.2.2.2
            go_wp2_with fail
            go_cut [7, 8, 9] (fun s7 s8 s9 wx => s7 = .pointer (some ⟨g, 0, none⟩) ∧ s8 = .pointer (some ⟨h, 0, none⟩) ∧ s9 = .pointer (some ⟨j, 0, none⟩) ∧ Hid (Th w wx g h j p u d (bits .or .u64 p (bit f)) u d p u (bits .or .u64 d (bit f)) (bits .andNot .u64 p (bit f)) u d))
            case first =>
              go_region_with (first | (go_at_call 24; refine (bitR _ _).mono ?_; rintro e w' ⟨rfl, rfl⟩))
              all_goals
                go_wp2_with fail
                go_meet
                case rel => exact ⟨rfl, rfl, rfl, Lib.hid (by first | exact (HT.out.t82 _).drew | exact (HT.out.drew.t82 _).drew | exact HT.out.t82 _ | exact (HT.out.t82 _).drew.drew)⟩
            case rest =>
              clear x5 y5 HT
              obtain ⟨rfl, rfl, rfl, HT⟩ := hcut
              have x6 := HT.out.l9.1.2.2; have y6 := HT.out.l9.2.2.2
              go_wp2_with fail
              go_cut [7, 8, 9] (fun s7 s8 s9 wx => s7 = .pointer (some ⟨g, 0, none⟩) ∧ s8 = .pointer (some ⟨h, 0, none⟩) ∧ s9 = .pointer (some ⟨j, 0, none⟩) ∧ Hid (Th w wx g h j p u d (bits .or .u64 p (bit f)) u d p u (bits .or .u64 d (bit f)) (bits .andNot .u64 p (bit f)) u (bits .andNot .u64 d (bit f))))
              case first =>
                go_region_with (first | (go_at_call 24; refine (bitR _ _).mono ?_; rintro e w' ⟨rfl, rfl⟩))
                all_goals
                  go_wp2_with fail
                  go_meet
                  case rel => exact ⟨rfl, rfl, rfl, Lib.hid (by first | exact (HT.out.t92 _).drew | exact (HT.out.drew.t92 _).drew | exact HT.out.t92 _ | exact (HT.out.t92 _).drew.drew)⟩
              case rest =>
                clear x6 y6 HT
                obtain ⟨rfl, rfl, rfl, HT⟩ := hcut
                have HT2 : Hid (Th w wc g h j p u d (bits .or .u64 p (bit f)) u d p (haU u f 2) (haD d f 2) (clP p f) (clU u f 2) (clD d f 2)) := Lib.hid (by rw [HHU.out, HHD.out, HCP.out, HCU.out, HCD.out]; exact HT.out)
                clear HT HHU HHD HCP HCU HCD
                obtain ⟨⟨n1, n2, n3, n4, n5, n6⟩, S, ⟨⟨a0, a1, a2⟩, _⟩, ⟨⟨b0, b1, b2⟩, _⟩, ⟨⟨c0, c1, c2⟩, _⟩, ⟨⟨d0, d1, d2⟩, _⟩⟩ := HT2.out
                have HS := Lib.hid S
                clear S HT2
                go_wp2_with fail
                have hrK : ∀ W W' : World, Since W W' → (Since (wc) W ∧ W.cell? ⟨w.heap.size, 0, none⟩ = some (.int .u64 p) ∧ W.cell? ⟨w.heap.size, 1, none⟩ = some (.int .u64 u) ∧ W.cell? ⟨w.heap.size, 2, none⟩ = some (.int .u64 d) ∧ W.cell? ⟨g, 0, none⟩ = some (.int .u64 (bits .or .u64 p (bit f))) ∧ W.cell? ⟨g, 1, none⟩ = some (.int .u64 u) ∧ W.cell? ⟨g, 2, none⟩ = some (.int .u64 d) ∧ W.cell? ⟨h, 0, none⟩ = some (.int .u64 p) ∧ W.cell? ⟨h, 1, none⟩ = some (.int .u64 (haU u f 2)) ∧ W.cell? ⟨h, 2, none⟩ = some (.int .u64 (haD d f 2)) ∧ W.cell? ⟨j, 0, none⟩ = some (.int .u64 (clP p f)) ∧ W.cell? ⟨j, 1, none⟩ = some (.int .u64 (clU u f 2)) ∧ W.cell? ⟨j, 2, none⟩ = some (.int .u64 (clD d f 2))) → (Since (wc) W' ∧ W'.cell? ⟨w.heap.size, 0, none⟩ = some (.int .u64 p) ∧ W'.cell? ⟨w.heap.size, 1, none⟩ = some (.int .u64 u) ∧ W'.cell? ⟨w.heap.size, 2, none⟩ = some (.int .u64 d) ∧ W'.cell? ⟨g, 0, none⟩ = some (.int .u64 (bits .or .u64 p (bit f))) ∧ W'.cell? ⟨g, 1, none⟩ = some (.int .u64 u) ∧ W'.cell? ⟨g, 2, none⟩ = some (.int .u64 d) ∧ W'.cell? ⟨h, 0, none⟩ = some (.int .u64 p) ∧ W'.cell? ⟨h, 1, none⟩ = some (.int .u64 (haU u f 2)) ∧ W'.cell? ⟨h, 2, none⟩ = some (.int .u64 (haD d f 2)) ∧ W'.cell? ⟨j, 0, none⟩ = some (.int .u64 (clP p f)) ∧ W'.cell? ⟨j, 1, none⟩ = some (.int .u64 (clU u f 2)) ∧ W'.cell? ⟨j, 2, none⟩ = some (.int .u64 (clD d f 2))) := fun W W' k ⟨h, h0, h1, h2, h3, h4, h5, h6, h7, h8, h9, h10, h11⟩ => ⟨h.trans k, keep_cell k h0, keep_cell k h1, keep_cell k h2, keep_cell k h3, keep_cell k h4, keep_cell k h5, keep_cell k h6, keep_cell k h7, keep_cell k h8, keep_cell k h9, keep_cell k h10, keep_cell k h11⟩
                have hrS : (fun W : World => Since (wc) W ∧ W.cell? ⟨w.heap.size, 0, none⟩ = some (.int .u64 p) ∧ W.cell? ⟨w.heap.size, 1, none⟩ = some (.int .u64 u) ∧ W.cell? ⟨w.heap.size, 2, none⟩ = some (.int .u64 d) ∧ W.cell? ⟨g, 0, none⟩ = some (.int .u64 (bits .or .u64 p (bit f))) ∧ W.cell? ⟨g, 1, none⟩ = some (.int .u64 u) ∧ W.cell? ⟨g, 2, none⟩ = some (.int .u64 d) ∧ W.cell? ⟨h, 0, none⟩ = some (.int .u64 p) ∧ W.cell? ⟨h, 1, none⟩ = some (.int .u64 (haU u f 2)) ∧ W.cell? ⟨h, 2, none⟩ = some (.int .u64 (haD d f 2)) ∧ W.cell? ⟨j, 0, none⟩ = some (.int .u64 (clP p f)) ∧ W.cell? ⟨j, 1, none⟩ = some (.int .u64 (clU u f 2)) ∧ W.cell? ⟨j, 2, none⟩ = some (.int .u64 (clD d f 2))) (wc) := ⟨Since.refl _, by first | assumption | (simp; done), by first | assumption | (simp; done), by first | assumption | (simp; done), by first | assumption | (simp; done), by first | assumption | (simp; done), by first | assumption | (simp; done), by first | assumption | (simp; done), by first | assumption | (simp; done), by first | assumption | (simp; done), by first | assumption | (simp; done), by first | assumption | (simp; done), by first | assumption | (simp; done)⟩
                have hrD : (fun W : World => Since (wc) W ∧ W.cell? ⟨w.heap.size, 0, none⟩ = some (.int .u64 p) ∧ W.cell? ⟨w.heap.size, 1, none⟩ = some (.int .u64 u) ∧ W.cell? ⟨w.heap.size, 2, none⟩ = some (.int .u64 d) ∧ W.cell? ⟨g, 0, none⟩ = some (.int .u64 (bits .or .u64 p (bit f))) ∧ W.cell? ⟨g, 1, none⟩ = some (.int .u64 u) ∧ W.cell? ⟨g, 2, none⟩ = some (.int .u64 d) ∧ W.cell? ⟨h, 0, none⟩ = some (.int .u64 p) ∧ W.cell? ⟨h, 1, none⟩ = some (.int .u64 (haU u f 2)) ∧ W.cell? ⟨h, 2, none⟩ = some (.int .u64 (haD d f 2)) ∧ W.cell? ⟨j, 0, none⟩ = some (.int .u64 (clP p f)) ∧ W.cell? ⟨j, 1, none⟩ = some (.int .u64 (clU u f 2)) ∧ W.cell? ⟨j, 2, none⟩ = some (.int .u64 (clD d f 2))) (World.drew (wc)) := ⟨(Since.refl _).drew, hrS.2⟩
                have HRK := Lib.hid hrK
                have HRD := Lib.hid hrD
                clear hrK hrS hrD
                go_region_held3 (fun W => Since (wc) W ∧ W.cell? ⟨w.heap.size, 0, none⟩ = some (.int .u64 p) ∧ W.cell? ⟨w.heap.size, 1, none⟩ = some (.int .u64 u) ∧ W.cell? ⟨w.heap.size, 2, none⟩ = some (.int .u64 d) ∧ W.cell? ⟨g, 0, none⟩ = some (.int .u64 (bits .or .u64 p (bit f))) ∧ W.cell? ⟨g, 1, none⟩ = some (.int .u64 u) ∧ W.cell? ⟨g, 2, none⟩ = some (.int .u64 d) ∧ W.cell? ⟨h, 0, none⟩ = some (.int .u64 p) ∧ W.cell? ⟨h, 1, none⟩ = some (.int .u64 (haU u f 2)) ∧ W.cell? ⟨h, 2, none⟩ = some (.int .u64 (haD d f 2)) ∧ W.cell? ⟨j, 0, none⟩ = some (.int .u64 (clP p f)) ∧ W.cell? ⟨j, 1, none⟩ = some (.int .u64 (clU u f 2)) ∧ W.cell? ⟨j, 2, none⟩ = some (.int .u64 (clD d f 2))) (first | exact HRD.out | (apply HRK.out; assumption; assumption)) (first | (go_at_call 25; refine (ans _).mono ?_; rintro e w9 ⟨rfl, hb9⟩) | (go_at_call 26; refine (pressT _ _ _ _ _).mono ?_; rintro e w9 ⟨rfl, hb9⟩) | (go_at_call 27; refine (hallT _ _ _ _ _ _).mono ?_; rintro e w9 ⟨rfl, hb9⟩) | (go_at_call 28; refine (clearT _ _ _ _ _ _).mono ?_; rintro e w9 ⟨rfl, hb9⟩))
                rename_i hq
                obtain ⟨hs9, hc9_0_0, hc9_0_1, hc9_0_2, hc9_1_0, hc9_1_1, hc9_1_2, hc9_2_0, hc9_2_1, hc9_2_2, hc9_3_0, hc9_3_1, hc9_3_2⟩ := hq
                clear HRK HRD
                have hl9_0 : w.heap.size < w9.heap.size := World.block_lt_of_cell? _ _ hc9_0_0
                have hl9_1 : g < w9.heap.size := World.block_lt_of_cell? _ _ hc9_1_0
                have hl9_2 : h < w9.heap.size := World.block_lt_of_cell? _ _ hc9_2_0
                have hl9_3 : j < w9.heap.size := World.block_lt_of_cell? _ _ hc9_3_0
                have HS9 := Lib.hid hs9
                clear hs9
                go_wp2
                go_ret
                exact ⟨rfl, HS.out.trans HS9.out⟩
          · have k1 : (way == 1) = false := by simpa using h1
            have k2 : (way == 2) = false := by simpa using h2
            have HHU := Lib.hid (show haU u f way = u by unfold haU; simp [h1, h2])
            have HHD := Lib.hid (show haD d f way = d by unfold haD; simp [h1, h2])
            have HCP := Lib.hid (show clP p f = bits .andNot .u64 p (bit f) by unfold clP; rfl)
            have HCU := Lib.hid (show clU u f way = u by unfold clU; simp [h1, h2])
            have HCD := Lib.hid (show clD d f way = d by unfold clD; simp [h1, h2])
            clear h1 h2
            have HT2 : Hid (Th w wc g h j p u d (bits .or .u64 p (bit f)) u d p (haU u f way) (haD d f way) (clP p f) (clU u f way) (clD d f way)) := Lib.hid (by rw [HHU.out, HHD.out, HCP.out, HCU.out, HCD.out]; exact HT.out)
            clear HT HHU HHD HCP HCU HCD
            obtain ⟨⟨n1, n2, n3, n4, n5, n6⟩, S, ⟨⟨a0, a1, a2⟩, _⟩, ⟨⟨b0, b1, b2⟩, _⟩, ⟨⟨c0, c1, c2⟩, _⟩, ⟨⟨d0, d1, d2⟩, _⟩⟩ := HT2.out
            have HS := Lib.hid S
            clear S HT2
            go_wp2_with fail
            have hrK : ∀ W W' : World, Since W W' → (Since (wc) W ∧ W.cell? ⟨w.heap.size, 0, none⟩ = some (.int .u64 p) ∧ W.cell? ⟨w.heap.size, 1, none⟩ = some (.int .u64 u) ∧ W.cell? ⟨w.heap.size, 2, none⟩ = some (.int .u64 d) ∧ W.cell? ⟨g, 0, none⟩ = some (.int .u64 (bits .or .u64 p (bit f))) ∧ W.cell? ⟨g, 1, none⟩ = some (.int .u64 u) ∧ W.cell? ⟨g, 2, none⟩ = some (.int .u64 d) ∧ W.cell? ⟨h, 0, none⟩ = some (.int .u64 p) ∧ W.cell? ⟨h, 1, none⟩ = some (.int .u64 (haU u f way)) ∧ W.cell? ⟨h, 2, none⟩ = some (.int .u64 (haD d f way)) ∧ W.cell? ⟨j, 0, none⟩ = some (.int .u64 (clP p f)) ∧ W.cell? ⟨j, 1, none⟩ = some (.int .u64 (clU u f way)) ∧ W.cell? ⟨j, 2, none⟩ = some (.int .u64 (clD d f way))) → (Since (wc) W' ∧ W'.cell? ⟨w.heap.size, 0, none⟩ = some (.int .u64 p) ∧ W'.cell? ⟨w.heap.size, 1, none⟩ = some (.int .u64 u) ∧ W'.cell? ⟨w.heap.size, 2, none⟩ = some (.int .u64 d) ∧ W'.cell? ⟨g, 0, none⟩ = some (.int .u64 (bits .or .u64 p (bit f))) ∧ W'.cell? ⟨g, 1, none⟩ = some (.int .u64 u) ∧ W'.cell? ⟨g, 2, none⟩ = some (.int .u64 d) ∧ W'.cell? ⟨h, 0, none⟩ = some (.int .u64 p) ∧ W'.cell? ⟨h, 1, none⟩ = some (.int .u64 (haU u f way)) ∧ W'.cell? ⟨h, 2, none⟩ = some (.int .u64 (haD d f way)) ∧ W'.cell? ⟨j, 0, none⟩ = some (.int .u64 (clP p f)) ∧ W'.cell? ⟨j, 1, none⟩ = some (.int .u64 (clU u f way)) ∧ W'.cell? ⟨j, 2, none⟩ = some (.int .u64 (clD d f way))) := fun W W' k ⟨h, h0, h1, h2, h3, h4, h5, h6, h7, h8, h9, h10, h11⟩ => ⟨h.trans k, keep_cell k h0, keep_cell k h1, keep_cell k h2, keep_cell k h3, keep_cell k h4, keep_cell k h5, keep_cell k h6, keep_cell k h7, keep_cell k h8, keep_cell k h9, keep_cell k h10, keep_cell k h11⟩
            have hrS : (fun W : World => Since (wc) W ∧ W.cell? ⟨w.heap.size, 0, none⟩ = some (.int .u64 p) ∧ W.cell? ⟨w.heap.size, 1, none⟩ = some (.int .u64 u) ∧ W.cell? ⟨w.heap.size, 2, none⟩ = some (.int .u64 d) ∧ W.cell? ⟨g, 0, none⟩ = some (.int .u64 (bits .or .u64 p (bit f))) ∧ W.cell? ⟨g, 1, none⟩ = some (.int .u64 u) ∧ W.cell? ⟨g, 2, none⟩ = some (.int .u64 d) ∧ W.cell? ⟨h, 0, none⟩ = some (.int .u64 p) ∧ W.cell? ⟨h, 1, none⟩ = some (.int .u64 (haU u f way)) ∧ W.cell? ⟨h, 2, none⟩ = some (.int .u64 (haD d f way)) ∧ W.cell? ⟨j, 0, none⟩ = some (.int .u64 (clP p f)) ∧ W.cell? ⟨j, 1, none⟩ = some (.int .u64 (clU u f way)) ∧ W.cell? ⟨j, 2, none⟩ = some (.int .u64 (clD d f way))) (wc) := ⟨Since.refl _, by first | assumption | (simp; done), by first | assumption | (simp; done), by first | assumption | (simp; done), by first | assumption | (simp; done), by first | assumption | (simp; done), by first | assumption | (simp; done), by first | assumption | (simp; done), by first | assumption | (simp; done), by first | assumption | (simp; done), by first | assumption | (simp; done), by first | assumption | (simp; done), by first | assumption | (simp; done)⟩
            have hrD : (fun W : World => Since (wc) W ∧ W.cell? ⟨w.heap.size, 0, none⟩ = some (.int .u64 p) ∧ W.cell? ⟨w.heap.size, 1, none⟩ = some (.int .u64 u) ∧ W.cell? ⟨w.heap.size, 2, none⟩ = some (.int .u64 d) ∧ W.cell? ⟨g, 0, none⟩ = some (.int .u64 (bits .or .u64 p (bit f))) ∧ W.cell? ⟨g, 1, none⟩ = some (.int .u64 u) ∧ W.cell? ⟨g, 2, none⟩ = some (.int .u64 d) ∧ W.cell? ⟨h, 0, none⟩ = some (.int .u64 p) ∧ W.cell? ⟨h, 1, none⟩ = some (.int .u64 (haU u f way)) ∧ W.cell? ⟨h, 2, none⟩ = some (.int .u64 (haD d f way)) ∧ W.cell? ⟨j, 0, none⟩ = some (.int .u64 (clP p f)) ∧ W.cell? ⟨j, 1, none⟩ = some (.int .u64 (clU u f way)) ∧ W.cell? ⟨j, 2, none⟩ = some (.int .u64 (clD d f way))) (World.drew (wc)) := ⟨(Since.refl _).drew, hrS.2⟩
            have HRK := Lib.hid hrK
            have HRD := Lib.hid hrD
            clear hrK hrS hrD
            go_region_held3 (fun W => Since (wc) W ∧ W.cell? ⟨w.heap.size, 0, none⟩ = some (.int .u64 p) ∧ W.cell? ⟨w.heap.size, 1, none⟩ = some (.int .u64 u) ∧ W.cell? ⟨w.heap.size, 2, none⟩ = some (.int .u64 d) ∧ W.cell? ⟨g, 0, none⟩ = some (.int .u64 (bits .or .u64 p (bit f))) ∧ W.cell? ⟨g, 1, none⟩ = some (.int .u64 u) ∧ W.cell? ⟨g, 2, none⟩ = some (.int .u64 d) ∧ W.cell? ⟨h, 0, none⟩ = some (.int .u64 p) ∧ W.cell? ⟨h, 1, none⟩ = some (.int .u64 (haU u f way)) ∧ W.cell? ⟨h, 2, none⟩ = some (.int .u64 (haD d f way)) ∧ W.cell? ⟨j, 0, none⟩ = some (.int .u64 (clP p f)) ∧ W.cell? ⟨j, 1, none⟩ = some (.int .u64 (clU u f way)) ∧ W.cell? ⟨j, 2, none⟩ = some (.int .u64 (clD d f way))) (first | exact HRD.out | (apply HRK.out; assumption; assumption)) (first | (go_at_call 25; refine (ans _).mono ?_; rintro e w9 ⟨rfl, hb9⟩) | (go_at_call 26; refine (pressT _ _ _ _ _).mono ?_; rintro e w9 ⟨rfl, hb9⟩) | (go_at_call 27; refine (hallT _ _ _ _ _ _).mono ?_; rintro e w9 ⟨rfl, hb9⟩) | (go_at_call 28; refine (clearT _ _ _ _ _ _).mono ?_; rintro e w9 ⟨rfl, hb9⟩))
            rename_i hq
            obtain ⟨hs9, hc9_0_0, hc9_0_1, hc9_0_2, hc9_1_0, hc9_1_1, hc9_1_2, hc9_2_0, hc9_2_1, hc9_2_2, hc9_3_0, hc9_3_1, hc9_3_2⟩ := hq
            clear HRK HRD
            have hl9_0 : w.heap.size < w9.heap.size := World.block_lt_of_cell? _ _ hc9_0_0
            have hl9_1 : g < w9.heap.size := World.block_lt_of_cell? _ _ hc9_1_0
            have hl9_2 : h < w9.heap.size := World.block_lt_of_cell? _ _ hc9_2_0
            have hl9_3 : j < w9.heap.size := World.block_lt_of_cell? _ _ hc9_3_0
            have HS9 := Lib.hid hs9
            clear hs9
            go_wp2
            go_ret
            exact ⟨rfl, HS.out.trans HS9.out⟩
end Go.Proofs.Ytfbnmoegdbdhjaa.St
