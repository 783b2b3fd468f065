/-
  The walks of the reference's Next (layer 13): it is where the program's car goes.
  Conditions: the three sets fit 64 bits; a car went up, down, or stood.
-/
import Derived.Test.YtdbbacpofgjgoaaScaN
import Derived.Test.YtdbbacpofgjgoaaStoRef
namespace Go.Proofs.Ytdbbacpofgjgoaa.Sc
set_option linter.unusedVariables false
set_option linter.unusedSimpArgs false
open Go.RowKit Go.Proofs.Ytdbbacpofgjgoaa.Ba Go.Proofs.Ytdbbacpofgjgoaa.St
set_option maxRecDepth 100000
theorem otR (way : Int) (h : way = 1 ∨ way = 2) (w : World) : Calls Try.prog 62 #[.int .i64 way] w fun e w' => e = .returned (.int .i64 (ot way)) ∧ w = w' := by
  rcases h with rfl | rfl
  all_goals
    go_enter Try.func62, Try.ntmps62
    go_wp2
    go_ret
    exact ⟨rfl, rfl⟩
set_option maxHeartbeats 2000000 in
theorem nextR0 (p u d f j : Int) (hp : R p) (hu : R u) (hd : R d) (w : World) : Calls Try.prog 36 #[.agg #[.int .u64 p, .int .u64 u, .int .u64 d], .int .i64 f, .int .i64 0, .int .i64 j] w fun e w' => e = .returned (.tuple #[.int .i64 (nxW p u d f 0 j), .bool (nxO p u d f 0 j)]) ∧ Since w w' := by
  by_cases hf : f = j
  · subst hf
    have HW := Lib.hid (show nxW p u d f 0 f = stW p u d f f from if_pos rfl)
    have HO := Lib.hid (show nxO p u d f 0 f = svB p u d f f from if_pos rfl)
    go_enter Try.func36, Try.ntmps36
    go_wp2_with (first | (go_at_call 31; refine (anyR _ _ _ _ hp hu hd _).mono ?_; rintro e w1 ⟨rfl, hb1⟩; have hq1 : w.heap.size < w1.heap.size := (by have := hb1.size; (try simp at this); omega); obtain ⟨hc1, hf1⟩ := hb1.cf) | (go_at_call 33; refine (aheadR _ _ _ _ _ hp hu hd _).mono ?_; rintro e w1 ⟨rfl, hb1⟩; have hq1 : w.heap.size < w1.heap.size := (by have := hb1.size; (try simp at this); omega); obtain ⟨hc1, hf1⟩ := hb1.cf) | (go_at_call 29; refine (hallR _ _ _ _ _ hu hd _).mono ?_; rintro e w1 ⟨rfl, hb1⟩; have hq1 : w.heap.size < w1.heap.size := (by have := hb1.size; (try simp at this); omega); obtain ⟨hc1, hf1⟩ := hb1.cf))
    all_goals
      go_ret2
      exact ⟨ret_wo (by rw [HW.out]; unfold stW svB fst2; first | (simp [*]; done) | (simp_all; done)) (by rw [HO.out]; unfold svB; first | (simp [*]; done) | (simp_all; done)), (by repeat (first | exact Since.refl _ | assumption | refine Since.setCell ?_ (by first | (simp; done) | (simp; omega)) _ | refine Since.drew ?_ | refine Since.drewN ?_ _ | refine Since.alloc ?_ _ | refine Since.trans ?_ (by assumption) | refine Since.trans ?_ (Hid.out (by assumption))))⟩
  · have e1 : (f == j) = false := by simpa using hf
    have e2 : (f != j) = true := by simpa using hf
    have HW := Lib.hid (show nxW p u d f 0 j = stW p u d f j from if_pos rfl)
    have HO := Lib.hid (show nxO p u d f 0 j = svB p u d f j from if_pos rfl)
    go_enter Try.func36, Try.ntmps36
    go_wp2_with (first | (go_at_call 31; refine (anyR _ _ _ _ hp hu hd _).mono ?_; rintro e w1 ⟨rfl, hb1⟩; have hq1 : w.heap.size < w1.heap.size := (by have := hb1.size; (try simp at this); omega); obtain ⟨hc1, hf1⟩ := hb1.cf) | (go_at_call 33; refine (aheadR _ _ _ _ _ hp hu hd _).mono ?_; rintro e w1 ⟨rfl, hb1⟩; have hq1 : w.heap.size < w1.heap.size := (by have := hb1.size; (try simp at this); omega); obtain ⟨hc1, hf1⟩ := hb1.cf) | (go_at_call 29; refine (hallR _ _ _ _ _ hu hd _).mono ?_; rintro e w1 ⟨rfl, hb1⟩; have hq1 : w.heap.size < w1.heap.size := (by have := hb1.size; (try simp at this); omega); obtain ⟨hc1, hf1⟩ := hb1.cf))
    all_goals
      go_ret2
      exact ⟨ret_wo (by rw [HW.out]; unfold stW svB fst2; first | (simp [*]; done) | (simp_all; done)) (by rw [HO.out]; unfold svB; first | (simp [*]; done) | (simp_all; done)), (by repeat (first | exact Since.refl _ | assumption | refine Since.setCell ?_ (by first | (simp; done) | (simp; omega)) _ | refine Since.drew ?_ | refine Since.drewN ?_ _ | refine Since.alloc ?_ _ | refine Since.trans ?_ (by assumption) | refine Since.trans ?_ (Hid.out (by assumption))))⟩
theorem sv_way (p u d f j way : Int) (h : way = 1 ∨ way = 2) : svB p u d f j = (heB p u d f && (!(f == j) || (!ahB (al p u d) f way && !ahB (al p u d) f (ot way)))) := by
  rcases h with rfl | rfl
  · rfl
  · unfold svB
    show _ = (heB p u d f && (!(f == j) || (!ahB (al p u d) f 2 && !ahB (al p u d) f 1)))
    rw [Bool.and_comm (!ahB (al p u d) f 1)]
set_option maxHeartbeats 4000000 in
theorem nextRe (p u d f way : Int) (hw : way = 1 ∨ way = 2) (hp : R p) (hu : R u) (hd : R d) (w : World) : Calls Try.prog 36 #[.agg #[.int .u64 p, .int .u64 u, .int .u64 d], .int .i64 f, .int .i64 way, .int .i64 f] w fun e w' => e = .returned (.tuple #[.int .i64 (nxW p u d f way f), .bool (nxO p u d f way f)]) ∧ Since w w' := by
  have HWW := Lib.hid hw
  have hz : (way == 0) = false := by rcases hw with rfl | rfl <;> rfl
  have HW := Lib.hid (show nxW p u d f way f = onW p u d f way f from if_neg (by simpa using hz))
  have HO := Lib.hid (show nxO p u d f way f = onO p u d f way f from if_neg (by simpa using hz))
  have HSV := Lib.hid (sv_way p u d f f way hw)
  have HP := Lib.hid (show heB p 0 0 f = mem p f by unfold heB; rw [al_mem hp R.zero R.zero]; simp [mem, tb])
  clear hw
  go_enter Try.func36, Try.ntmps36
  go_wp2_with fail
  refine (anyR _ _ _ _ hp hu hd _).mono ?_
  rintro e w1 ⟨rfl, hb1⟩
  have hq1 : w.heap.size < w1.heap.size := by have := hb1.size; simp at this; omega
  have g0 : w1.cell? ⟨w.heap.size, 0, none⟩ = some (.int .u64 p) := new_alloc hb1 rfl
  have g1 : w1.cell? ⟨w.heap.size, 1, none⟩ = some (.int .u64 u) := new_alloc hb1 rfl
  have g2 : w1.cell? ⟨w.heap.size, 2, none⟩ = some (.int .u64 d) := new_alloc hb1 rfl
  go_wp2_with fail
  have hrK : ∀ W W' : World, Since W W' → (Since (w1) W ∧ W.cell? ⟨w.heap.size, 0, none⟩ = some (.int .u64 p) ∧ W.cell? ⟨w.heap.size, 1, none⟩ = some (.int .u64 u) ∧ W.cell? ⟨w.heap.size, 2, none⟩ = some (.int .u64 d)) → (Since (w1) W' ∧ W'.cell? ⟨w.heap.size, 0, none⟩ = some (.int .u64 p) ∧ W'.cell? ⟨w.heap.size, 1, none⟩ = some (.int .u64 u) ∧ W'.cell? ⟨w.heap.size, 2, none⟩ = some (.int .u64 d)) := fun W W' k ⟨h, h0, h1, h2⟩ => ⟨h.trans k, keep_cell k h0, keep_cell k h1, keep_cell k h2⟩
  have hrS : (fun W : World => Since (w1) W ∧ W.cell? ⟨w.heap.size, 0, none⟩ = some (.int .u64 p) ∧ W.cell? ⟨w.heap.size, 1, none⟩ = some (.int .u64 u) ∧ W.cell? ⟨w.heap.size, 2, none⟩ = some (.int .u64 d)) (w1) := ⟨Since.refl _, by first | assumption | (simp; done), by first | assumption | (simp; done), by first | assumption | (simp; done)⟩
  have hrD : (fun W : World => Since (w1) W ∧ W.cell? ⟨w.heap.size, 0, none⟩ = some (.int .u64 p) ∧ W.cell? ⟨w.heap.size, 1, none⟩ = some (.int .u64 u) ∧ W.cell? ⟨w.heap.size, 2, none⟩ = some (.int .u64 d)) (World.drew (w1)) := ⟨(Since.refl _).drew, hrS.2⟩
  have HRK := Lib.hid hrK
  have HRD := Lib.hid hrD
  clear hrK hrS hrD
  go_region_held3 (fun W => Since (w1) W ∧ W.cell? ⟨w.heap.size, 0, none⟩ = some (.int .u64 p) ∧ W.cell? ⟨w.heap.size, 1, none⟩ = some (.int .u64 u) ∧ W.cell? ⟨w.heap.size, 2, none⟩ = some (.int .u64 d)) (first | exact HRD.out | (apply HRK.out; assumption; assumption)) (first | (go_at_call 33; refine (aheadR _ _ _ _ _ hp hu hd _).mono ?_; rintro e w2 ⟨rfl, hb2⟩) | (go_at_call 62; refine (otR _ HWW.out _).mono ?_; rintro e w' ⟨rfl, rfl⟩))
  rename_i hq
  obtain ⟨hs2, hc2_0_0, hc2_0_1, hc2_0_2⟩ := hq
  clear HRK HRD
  have hl2_0 : w.heap.size < w2.heap.size := World.block_lt_of_cell? _ _ hc2_0_0
  have HS2 := Lib.hid hs2
  clear hs2
  go_wp2_with (first | (go_at_call 29; refine (hallR _ _ _ _ _ hu hd _).mono ?_; rintro e w3 ⟨rfl, hb3⟩; have hq3 : w.heap.size < w3.heap.size := (by have := hb3.size; omega); obtain ⟨hc3, hf3⟩ := hb3.cf) | (go_at_call 57; refine (hasR _ _ hp _).mono ?_; rintro e w' ⟨rfl, rfl⟩) | (go_at_call 62; refine (otR _ HWW.out _).mono ?_; rintro e w' ⟨rfl, rfl⟩))
  any_goals
    go_ret2
    exact ⟨ret_wo (by rw [HW.out]; unfold onW; rw [HSV.out, HP.out]; unfold fst2; first | (simp [*]; done) | (simp_all; done)) (by rw [HO.out]; unfold onO; rw [HSV.out, HP.out]; first | (simp [*]; done) | (simp_all; done)), (by repeat (first | exact Since.refl _ | assumption | refine Since.setCell ?_ (by first | (simp; done) | (simp; omega)) _ | refine Since.drew ?_ | refine Since.drewN ?_ _ | refine Since.alloc ?_ _ | refine Since.trans ?_ (by assumption) | refine Since.trans ?_ (Hid.out (by assumption))))⟩
  all_goals
    have g3 := keep_cell hb3 hc2_0_0
    have g4 := keep_cell hb3 hc2_0_1
    have g5 := keep_cell hb3 hc2_0_2
    clear hc3 hf3
    have hrK : ∀ W W' : World, Since W W' → (Since (w3) W ∧ W.cell? ⟨w.heap.size, 0, none⟩ = some (.int .u64 p) ∧ W.cell? ⟨w.heap.size, 1, none⟩ = some (.int .u64 u) ∧ W.cell? ⟨w.heap.size, 2, none⟩ = some (.int .u64 d)) → (Since (w3) W' ∧ W'.cell? ⟨w.heap.size, 0, none⟩ = some (.int .u64 p) ∧ W'.cell? ⟨w.heap.size, 1, none⟩ = some (.int .u64 u) ∧ W'.cell? ⟨w.heap.size, 2, none⟩ = some (.int .u64 d)) := fun W W' k ⟨h, h0, h1, h2⟩ => ⟨h.trans k, keep_cell k h0, keep_cell k h1, keep_cell k h2⟩
    have hrS : (fun W : World => Since (w3) W ∧ W.cell? ⟨w.heap.size, 0, none⟩ = some (.int .u64 p) ∧ W.cell? ⟨w.heap.size, 1, none⟩ = some (.int .u64 u) ∧ W.cell? ⟨w.heap.size, 2, none⟩ = some (.int .u64 d)) (w3) := ⟨Since.refl _, by first | assumption | (simp; done), by first | assumption | (simp; done), by first | assumption | (simp; done)⟩
    have hrD : (fun W : World => Since (w3) W ∧ W.cell? ⟨w.heap.size, 0, none⟩ = some (.int .u64 p) ∧ W.cell? ⟨w.heap.size, 1, none⟩ = some (.int .u64 u) ∧ W.cell? ⟨w.heap.size, 2, none⟩ = some (.int .u64 d)) (World.drew (w3)) := ⟨(Since.refl _).drew, hrS.2⟩
    have HRK := Lib.hid hrK
    have HRD := Lib.hid hrD
    clear hrK hrS hrD
    go_region_held3 (fun W => Since (w3) W ∧ W.cell? ⟨w.heap.size, 0, none⟩ = some (.int .u64 p) ∧ W.cell? ⟨w.heap.size, 1, none⟩ = some (.int .u64 u) ∧ W.cell? ⟨w.heap.size, 2, none⟩ = some (.int .u64 d)) (first | exact HRD.out | (apply HRK.out; assumption; assumption)) (first | (go_at_call 29; refine (hallR _ _ _ _ _ hu hd _).mono ?_; rintro e w4 ⟨rfl, hb4⟩) | (go_at_call 62; refine (otR _ HWW.out _).mono ?_; rintro e w' ⟨rfl, rfl⟩))
    rename_i hq
    obtain ⟨hs4, hc4_0_0, hc4_0_1, hc4_0_2⟩ := hq
    clear HRK HRD
    have hl4_0 : w.heap.size < w4.heap.size := World.block_lt_of_cell? _ _ hc4_0_0
    have HS4 := Lib.hid hs4
    clear hs4
    go_wp2_with (first | (go_at_call 62; refine (otR _ HWW.out _).mono ?_; rintro e w' ⟨rfl, rfl⟩))
    all_goals
      go_ret2
      exact ⟨ret_wo (by rw [HW.out]; unfold onW; rw [HSV.out, HP.out]; unfold fst2; first | (simp [*]; done) | (simp_all; done)) (by rw [HO.out]; unfold onO; rw [HSV.out, HP.out]; first | (simp [*]; done) | (simp_all; done)), (by repeat (first | exact Since.refl _ | assumption | refine Since.setCell ?_ (by first | (simp; done) | (simp; omega)) _ | refine Since.drew ?_ | refine Since.drewN ?_ _ | refine Since.alloc ?_ _ | refine Since.trans ?_ (by assumption) | refine Since.trans ?_ (Hid.out (by assumption))))⟩
set_option maxHeartbeats 4000000 in
theorem nextRn (p u d f way j : Int) (hf : f ≠ j) (hw : way = 1 ∨ way = 2) (hp : R p) (hu : R u) (hd : R d) (w : World) : Calls Try.prog 36 #[.agg #[.int .u64 p, .int .u64 u, .int .u64 d], .int .i64 f, .int .i64 way, .int .i64 j] w fun e w' => e = .returned (.tuple #[.int .i64 (nxW p u d f way j), .bool (nxO p u d f way j)]) ∧ Since w w' := by
  have HWW := Lib.hid hw
  have hz : (way == 0) = false := by rcases hw with rfl | rfl <;> rfl
  have e1 : (f == j) = false := by simpa using hf
  have e2 : (f != j) = true := by simpa using hf
  have HW := Lib.hid (show nxW p u d f way j = onW p u d f way j from if_neg (by simpa using hz))
  have HO := Lib.hid (show nxO p u d f way j = onO p u d f way j from if_neg (by simpa using hz))
  have HSV := Lib.hid (sv_way p u d f j way hw)
  have HP := Lib.hid (show heB p 0 0 f = mem p f by unfold heB; rw [al_mem hp R.zero R.zero]; simp [mem, tb])
  clear hw
  go_enter Try.func36, Try.ntmps36
  go_wp2_with fail
  refine (anyR _ _ _ _ hp hu hd _).mono ?_
  rintro e w1 ⟨rfl, hb1⟩
  have hq1 : w.heap.size < w1.heap.size := by have := hb1.size; simp at this; omega
  have g0 : w1.cell? ⟨w.heap.size, 0, none⟩ = some (.int .u64 p) := new_alloc hb1 rfl
  have g1 : w1.cell? ⟨w.heap.size, 1, none⟩ = some (.int .u64 u) := new_alloc hb1 rfl
  have g2 : w1.cell? ⟨w.heap.size, 2, none⟩ = some (.int .u64 d) := new_alloc hb1 rfl
  go_wp2_with fail
  have hrK : ∀ W W' : World, Since W W' → (Since (w1) W ∧ W.cell? ⟨w.heap.size, 0, none⟩ = some (.int .u64 p) ∧ W.cell? ⟨w.heap.size, 1, none⟩ = some (.int .u64 u) ∧ W.cell? ⟨w.heap.size, 2, none⟩ = some (.int .u64 d)) → (Since (w1) W' ∧ W'.cell? ⟨w.heap.size, 0, none⟩ = some (.int .u64 p) ∧ W'.cell? ⟨w.heap.size, 1, none⟩ = some (.int .u64 u) ∧ W'.cell? ⟨w.heap.size, 2, none⟩ = some (.int .u64 d)) := fun W W' k ⟨h, h0, h1, h2⟩ => ⟨h.trans k, keep_cell k h0, keep_cell k h1, keep_cell k h2⟩
  have hrS : (fun W : World => Since (w1) W ∧ W.cell? ⟨w.heap.size, 0, none⟩ = some (.int .u64 p) ∧ W.cell? ⟨w.heap.size, 1, none⟩ = some (.int .u64 u) ∧ W.cell? ⟨w.heap.size, 2, none⟩ = some (.int .u64 d)) (w1) := ⟨Since.refl _, by first | assumption | (simp; done), by first | assumption | (simp; done), by first | assumption | (simp; done)⟩
  have hrD : (fun W : World => Since (w1) W ∧ W.cell? ⟨w.heap.size, 0, none⟩ = some (.int .u64 p) ∧ W.cell? ⟨w.heap.size, 1, none⟩ = some (.int .u64 u) ∧ W.cell? ⟨w.heap.size, 2, none⟩ = some (.int .u64 d)) (World.drew (w1)) := ⟨(Since.refl _).drew, hrS.2⟩
  have HRK := Lib.hid hrK
  have HRD := Lib.hid hrD
  clear hrK hrS hrD
  go_region_held3 (fun W => Since (w1) W ∧ W.cell? ⟨w.heap.size, 0, none⟩ = some (.int .u64 p) ∧ W.cell? ⟨w.heap.size, 1, none⟩ = some (.int .u64 u) ∧ W.cell? ⟨w.heap.size, 2, none⟩ = some (.int .u64 d)) (first | exact HRD.out | (apply HRK.out; assumption; assumption)) (first | (go_at_call 33; refine (aheadR _ _ _ _ _ hp hu hd _).mono ?_; rintro e w2 ⟨rfl, hb2⟩) | (go_at_call 62; refine (otR _ HWW.out _).mono ?_; rintro e w' ⟨rfl, rfl⟩))
  rename_i hq
  obtain ⟨hs2, hc2_0_0, hc2_0_1, hc2_0_2⟩ := hq
  clear HRK HRD
  have hl2_0 : w.heap.size < w2.heap.size := World.block_lt_of_cell? _ _ hc2_0_0
  have HS2 := Lib.hid hs2
  clear hs2
  go_wp2_with (first | (go_at_call 29; refine (hallR _ _ _ _ _ hu hd _).mono ?_; rintro e w3 ⟨rfl, hb3⟩; have hq3 : w.heap.size < w3.heap.size := (by have := hb3.size; omega); obtain ⟨hc3, hf3⟩ := hb3.cf) | (go_at_call 57; refine (hasR _ _ hp _).mono ?_; rintro e w' ⟨rfl, rfl⟩) | (go_at_call 62; refine (otR _ HWW.out _).mono ?_; rintro e w' ⟨rfl, rfl⟩))
  any_goals
    go_ret2
    exact ⟨ret_wo (by rw [HW.out]; unfold onW; rw [HSV.out, HP.out]; unfold fst2; first | (simp [*]; done) | (simp_all; done)) (by rw [HO.out]; unfold onO; rw [HSV.out, HP.out]; first | (simp [*]; done) | (simp_all; done)), (by repeat (first | exact Since.refl _ | assumption | refine Since.setCell ?_ (by first | (simp; done) | (simp; omega)) _ | refine Since.drew ?_ | refine Since.drewN ?_ _ | refine Since.alloc ?_ _ | refine Since.trans ?_ (by assumption) | refine Since.trans ?_ (Hid.out (by assumption))))⟩
  all_goals
    have g3 := keep_cell hb3 hc2_0_0
    have g4 := keep_cell hb3 hc2_0_1
    have g5 := keep_cell hb3 hc2_0_2
    clear hc3 hf3
    have hrK : ∀ W W' : World, Since W W' → (Since (w3) W ∧ W.cell? ⟨w.heap.size, 0, none⟩ = some (.int .u64 p) ∧ W.cell? ⟨w.heap.size, 1, none⟩ = some (.int .u64 u) ∧ W.cell? ⟨w.heap.size, 2, none⟩ = some (.int .u64 d)) → (Since (w3) W' ∧ W'.cell? ⟨w.heap.size, 0, none⟩ = some (.int .u64 p) ∧ W'.cell? ⟨w.heap.size, 1, none⟩ = some (.int .u64 u) ∧ W'.cell? ⟨w.heap.size, 2, none⟩ = some (.int .u64 d)) := fun W W' k ⟨h, h0, h1, h2⟩ => ⟨h.trans k, keep_cell k h0, keep_cell k h1, keep_cell k h2⟩
    have hrS : (fun W : World => Since (w3) W ∧ W.cell? ⟨w.heap.size, 0, none⟩ = some (.int .u64 p) ∧ W.cell? ⟨w.heap.size, 1, none⟩ = some (.int .u64 u) ∧ W.cell? ⟨w.heap.size, 2, none⟩ = some (.int .u64 d)) (w3) := ⟨Since.refl _, by first | assumption | (simp; done), by first | assumption | (simp; done), by first | assumption | (simp; done)⟩
    have hrD : (fun W : World => Since (w3) W ∧ W.cell? ⟨w.heap.size, 0, none⟩ = some (.int .u64 p) ∧ W.cell? ⟨w.heap.size, 1, none⟩ = some (.int .u64 u) ∧ W.cell? ⟨w.heap.size, 2, none⟩ = some (.int .u64 d)) (World.drew (w3)) := ⟨(Since.refl _).drew, hrS.2⟩
    have HRK := Lib.hid hrK
    have HRD := Lib.hid hrD
    clear hrK hrS hrD
    go_region_held3 (fun W => Since (w3) W ∧ W.cell? ⟨w.heap.size, 0, none⟩ = some (.int .u64 p) ∧ W.cell? ⟨w.heap.size, 1, none⟩ = some (.int .u64 u) ∧ W.cell? ⟨w.heap.size, 2, none⟩ = some (.int .u64 d)) (first | exact HRD.out | (apply HRK.out; assumption; assumption)) (first | (go_at_call 29; refine (hallR _ _ _ _ _ hu hd _).mono ?_; rintro e w4 ⟨rfl, hb4⟩) | (go_at_call 62; refine (otR _ HWW.out _).mono ?_; rintro e w' ⟨rfl, rfl⟩))
    rename_i hq
    obtain ⟨hs4, hc4_0_0, hc4_0_1, hc4_0_2⟩ := hq
    clear HRK HRD
    have hl4_0 : w.heap.size < w4.heap.size := World.block_lt_of_cell? _ _ hc4_0_0
    have HS4 := Lib.hid hs4
    clear hs4
    go_wp2_with (first | (go_at_call 62; refine (otR _ HWW.out _).mono ?_; rintro e w' ⟨rfl, rfl⟩))
    all_goals
      go_ret2
      exact ⟨ret_wo (by rw [HW.out]; unfold onW; rw [HSV.out, HP.out]; unfold fst2; first | (simp [*]; done) | (simp_all; done)) (by rw [HO.out]; unfold onO; rw [HSV.out, HP.out]; first | (simp [*]; done) | (simp_all; done)), (by repeat (first | exact Since.refl _ | assumption | refine Since.setCell ?_ (by first | (simp; done) | (simp; omega)) _ | refine Since.drew ?_ | refine Since.drewN ?_ _ | refine Since.alloc ?_ _ | refine Since.trans ?_ (by assumption) | refine Since.trans ?_ (Hid.out (by assumption))))⟩
theorem nextR (p u d f way j : Int) (hw : way = 0 ∨ way = 1 ∨ way = 2) (hp : R p) (hu : R u) (hd : R d) (w : World) : Calls Try.prog 36 #[.agg #[.int .u64 p, .int .u64 u, .int .u64 d], .int .i64 f, .int .i64 way, .int .i64 j] w fun e w' => e = .returned (.tuple #[.int .i64 (nxW p u d f way j), .bool (nxO p u d f way j)]) ∧ Since w w' := by
  rcases hw with rfl | hw
  · exact nextR0 p u d f j hp hu hd w
  · by_cases hf : f = j
    · subst hf; exact nextRe p u d f way hw hp hu hd w
    · exact nextRn p u d f way j hf hw hp hu hd w
end Go.Proofs.Ytdbbacpofgjgoaa.Sc
