/-
  What is wanted by the last of these texts, part 7.
  No condition.
-/
import Derived.Test.YtggafipgfgbbiaaKLp4
import Derived.Test.YtggafipgfgbbiaaKLp5
import Derived.Test.YtggafipgfgbbiaaKLp6
import Derived.Test.YtggafipgfgbbiaaKLp0
import Derived.LoopN
import Derived.Test.YtggafipgfgbbiaaKLp3
import Derived.Test.YtggafipgfgbbiaaKLp1
import Derived.Test.YtggafipgfgbbiaaKLp2
namespace Go.Proofs.Ytggafipgfgbbiaa.Fl
set_option linter.unusedVariables false
set_option linter.unusedSimpArgs false
open Go.RowKit Go.Proofs.Ytggafipgfgbbiaa.Mem Go.Proofs.Ytggafipgfgbbiaa.Ba Go.Proofs.Ytggafipgfgbbiaa.Mo Go.Proofs.Ytggafipgfgbbiaa.Ty
open Go.Proofs.Ytggafipgfgbbiaa.Ce (ms massT)
set_option maxRecDepth 100000
theorem mayR (c : CfgV) (a : AskV) (w : World) : Calls Try.prog 23 #[.agg #[.int .i64 c.ca, .int .i64 c.fl, .int .i64 c.ft, .int .i64 c.se, .int .i64 c.dr, .int .i64 c.dw, .int .i64 c.ho, .int .i64 c.re, .int .i64 c.yi, .int .i64 c.qu, .int .i64 c.qo, .int .i64 c.lo, .int .i64 c.sl, .int .i64 c.rt, .int .i64 c.cp, .int .i64 c.tr, .int .i64 c.de, .int .i64 c.wi], .agg #[.int .i64 a.se, .int .i64 a.fl, .int .i64 a.fm, .int .i64 a.to, .int .i64 a.ma]] w fun e w' => e = .returned (.bool (mayB c a)) ∧ Since w w' := by
  by_cases h0 : 0 ≤ a.se
  · skip
    by_cases h1 : a.se < btw c.se 1 64
    · skip
      by_cases h2 : 0 ≤ a.fl
      · skip
        by_cases h3 : a.fl < btw c.ft 1 8
        · skip
          by_cases h4 : 0 ≤ a.fm
          · skip
            by_cases h5 : a.fm < fl c.fl
            · skip
              by_cases h6 : 0 ≤ a.to
              · skip
                by_cases h7 : a.to < fl c.fl
                · skip
                  by_cases h8 : a.fm ≠ a.to
                  · skip
                    by_cases h9 : 1 ≤ a.ma
                    · skip
                      by_cases h10 : a.ma ≤ ms c.lo
                      · skip
                        exact my_ok c a h0 h1 h2 h3 h4 h5 h6 h7 h8 h9 h10 w
                      · exact my10 c a h0 h1 h2 h3 h4 h5 h6 h7 h8 h9 h10 w
                    · exact my9 c a h0 h1 h2 h3 h4 h5 h6 h7 h8 h9 w
                  · exact my8 c a h0 h1 h2 h3 h4 h5 h6 h7 h8 w
                · exact my7 c a h0 h1 h2 h3 h4 h5 h6 h7 w
              · exact my6 c a h0 h1 h2 h3 h4 h5 h6 w
            · exact my5 c a h0 h1 h2 h3 h4 h5 w
          · exact my4 c a h0 h1 h2 h3 h4 w
        · exact my3 c a h0 h1 h2 h3 w
      · exact my2 c a h0 h1 h2 w
    · exact my1 c a h0 h1 w
  · exact my0 c a h0 w
end Go.Proofs.Ytggafipgfgbbiaa.Fl
namespace Go.Proofs.Ytggafipgfgbbiaa.Fl
set_option linter.unusedVariables false
set_option linter.unusedSimpArgs false
open Go.RowKit Go.Proofs.Ytggafipgfgbbiaa.Ba Go.Proofs.Ytggafipgfgbbiaa.Mo Go.Proofs.Ytggafipgfgbbiaa.Ty Go.Proofs.Ytggafipgfgbbiaa.Mem
open Go.Proofs.Ytggafipgfgbbiaa.Ce (ms massT)
set_option maxRecDepth 100000
theorem configA (w : World) : Calls Try.prog 61 #[] w fun e w' => e = .returned (.agg #[.int .i64 0, .int .i64 5, .int .i64 2, .int .i64 4, .int .i64 0, .int .i64 0, .int .i64 0, .int .i64 0, .int .i64 0, .int .i64 0, .int .i64 2, .int .i64 300, .int .i64 0, .int .i64 0, .int .i64 0, .int .i64 0, .int .i64 0, .int .i64 0]) ∧ Since w w' := by
  go_enter Try.func61, Try.ntmps61
  go_wp2
  exact bodyPost_ret (results_cell_row rfl _ _ w.heap.size 23 #[.int .i64 0, .int .i64 5, .int .i64 2, .int .i64 4, .int .i64 0, .int .i64 0, .int .i64 0, .int .i64 0, .int .i64 0, .int .i64 0, .int .i64 2, .int .i64 300, .int .i64 0, .int .i64 0, .int .i64 0, .int .i64 0, .int .i64 0, .int .i64 0] (0, 0) _ rfl (heap_alloc_new w _) Try.underlying23 rfl (by kernel_rfl)) rfl ⟨rfl, (Since.refl w).alloc _⟩
theorem quotaA (w : World) : Calls Try.prog 17 #[.agg #[.int .i64 0, .int .i64 5, .int .i64 2, .int .i64 4, .int .i64 0, .int .i64 0, .int .i64 0, .int .i64 0, .int .i64 0, .int .i64 0, .int .i64 2, .int .i64 300, .int .i64 0, .int .i64 0, .int .i64 0, .int .i64 0, .int .i64 0, .int .i64 0]] w fun e w' => e = .returned (.int .i64 2) ∧ Since w w' := by
  have h := quotaT ⟨0, 5, 2, 4, 0, 0, 0, 0, 0, 0, 2, 300, 0, 0, 0, 0, 0, 0⟩ w
  rw [show btw 2 1 8 = 2 by decide] at h
  exact h
theorem mayA1 (w : World) : Calls Try.prog 22 #[.agg #[.int .i64 0, .int .i64 5, .int .i64 2, .int .i64 4, .int .i64 0, .int .i64 0, .int .i64 0, .int .i64 0, .int .i64 0, .int .i64 0, .int .i64 2, .int .i64 300, .int .i64 0, .int .i64 0, .int .i64 0, .int .i64 0, .int .i64 0, .int .i64 0], .agg #[.int .i64 0, .int .i64 0, .int .i64 1, .int .i64 0, .int .i64 5]] w fun e w' => e = .returned (.bool true) ∧ Since w w' := by
  have h := mayT ⟨0, 5, 2, 4, 0, 0, 0, 0, 0, 0, 2, 300, 0, 0, 0, 0, 0, 0⟩ ⟨0, 0, 1, 0, 5⟩ w
  rw [show mayB ⟨0, 5, 2, 4, 0, 0, 0, 0, 0, 0, 2, 300, 0, 0, 0, 0, 0, 0⟩ ⟨0, 0, 1, 0, 5⟩ = true by decide +kernel] at h
  exact h
theorem mayA2 (w : World) : Calls Try.prog 22 #[.agg #[.int .i64 0, .int .i64 5, .int .i64 2, .int .i64 4, .int .i64 0, .int .i64 0, .int .i64 0, .int .i64 0, .int .i64 0, .int .i64 0, .int .i64 2, .int .i64 300, .int .i64 0, .int .i64 0, .int .i64 0, .int .i64 0, .int .i64 0, .int .i64 0], .agg #[.int .i64 0, .int .i64 0, .int .i64 0, .int .i64 0, .int .i64 5]] w fun e w' => e = .returned (.bool false) ∧ Since w w' := by
  have h := mayT ⟨0, 5, 2, 4, 0, 0, 0, 0, 0, 0, 2, 300, 0, 0, 0, 0, 0, 0⟩ ⟨0, 0, 0, 0, 5⟩ w
  rw [show mayB ⟨0, 5, 2, 4, 0, 0, 0, 0, 0, 0, 2, 300, 0, 0, 0, 0, 0, 0⟩ ⟨0, 0, 0, 0, 5⟩ = false by decide +kernel] at h
  exact h
theorem countA (w : World) (g : Nat) (B : Blk w g 56 #[.int .i64 0, .int .i64 1, .int .i64 0, .int .i64 0, .int .i64 0, .int .i64 0, .int .i64 0, .int .i64 0, .int .i64 0, .int .i64 0]) : Calls Try.prog 19 #[.slice (some ⟨g, 0, none⟩) 1 1, .int .i64 1] w fun e w' => e = .returned (.int .i64 1) ∧ Since w w' := by
  have l0 : w.cell? ⟨g, 0, none⟩ = some (.int .i64 0) := B.cell 0
  have l1 : w.cell? ⟨g, 1, none⟩ = some (.int .i64 1) := B.cell 1
  have l2 : w.cell? ⟨g, 2, none⟩ = some (.int .i64 0) := B.cell 2
  have l3 : w.cell? ⟨g, 3, none⟩ = some (.int .i64 0) := B.cell 3
  have l4 : w.cell? ⟨g, 4, none⟩ = some (.int .i64 0) := B.cell 4
  have l5 : w.cell? ⟨g, 5, none⟩ = some (.int .i64 0) := B.cell 5
  have l6 : w.cell? ⟨g, 6, none⟩ = some (.int .i64 0) := B.cell 6
  have l7 : w.cell? ⟨g, 7, none⟩ = some (.int .i64 0) := B.cell 7
  have l8 : w.cell? ⟨g, 8, none⟩ = some (.int .i64 0) := B.cell 8
  have l9 : w.cell? ⟨g, 9, none⟩ = some (.int .i64 0) := B.cell 9
  clear B
  go_enter Try.func19, Try.ntmps19
  go_wp2_with fail
  refine wp_loop_rounds 2 ?_
  rw [rounds_succ]
  go_wp2_with fail
  rw [rounds_succ]
  go_wp2
  go_ret
  exact ⟨rfl, (by repeat (first | exact Since.refl _ | assumption | refine Since.setCell ?_ (by first | (simp; done) | (simp; omega)) _ | refine Since.drew ?_ | refine Since.drewN ?_ _ | refine Since.alloc ?_ _ | refine Since.trans ?_ (by assumption) | refine Since.trans ?_ (Hid.out (by assumption))))⟩
theorem freeA (w : World) (g : Nat) (B : Blk w g 56 #[.int .i64 0, .int .i64 1, .int .i64 0, .int .i64 0, .int .i64 0, .int .i64 0, .int .i64 0, .int .i64 0, .int .i64 0, .int .i64 0]) : Calls Try.prog 21 #[.agg #[.int .i64 0, .int .i64 5, .int .i64 2, .int .i64 4, .int .i64 0, .int .i64 0, .int .i64 0, .int .i64 0, .int .i64 0, .int .i64 0, .int .i64 2, .int .i64 300, .int .i64 0, .int .i64 0, .int .i64 0, .int .i64 0, .int .i64 0, .int .i64 0], .slice (some ⟨g, 0, none⟩) 1 1, .int .i64 1] w fun e w' => e = .returned (.bool true) ∧ Since w w' := by
  go_enter Try.func21, Try.ntmps21
  go_upto_region 1 with fail
  obtain ⟨w1, hw1⟩ : ∃ w1, w1 = w.alloc (.cells #[.int .i64 0, .int .i64 5, .int .i64 2, .int .i64 4, .int .i64 0, .int .i64 0, .int .i64 0, .int .i64 0, .int .i64 0, .int .i64 0, .int .i64 2, .int .i64 300, .int .i64 0, .int .i64 0, .int .i64 0, .int .i64 0, .int .i64 0, .int .i64 0] 23) := ⟨_, rfl⟩
  rw [← hw1]
  have BC : Blk w1 w.heap.size 23 #[.int .i64 0, .int .i64 5, .int .i64 2, .int .i64 4, .int .i64 0, .int .i64 0, .int .i64 0, .int .i64 0, .int .i64 0, .int .i64 0, .int .i64 2, .int .i64 300, .int .i64 0, .int .i64 0, .int .i64 0, .int .i64 0, .int .i64 0, .int .i64 0] := by rw [hw1]; exact Blk.new w _ _
  have BL : Blk w1 g 56 #[.int .i64 0, .int .i64 1, .int .i64 0, .int .i64 0, .int .i64 0, .int .i64 0, .int .i64 0, .int .i64 0, .int .i64 0, .int .i64 0] := by rw [hw1]; exact B.alloc _
  have HS1 := Lib.hid (show Since w w1 by rw [hw1]; exact (Since.refl w).alloc _)
  clear hw1 B
  have hrK : ∀ W W' : World, Since W W' → (Since w1 W ∧ Blk W (w.heap.size) 23 #[.int .i64 0, .int .i64 5, .int .i64 2, .int .i64 4, .int .i64 0, .int .i64 0, .int .i64 0, .int .i64 0, .int .i64 0, .int .i64 0, .int .i64 2, .int .i64 300, .int .i64 0, .int .i64 0, .int .i64 0, .int .i64 0, .int .i64 0, .int .i64 0] ∧ Blk W (g) 56 #[.int .i64 0, .int .i64 1, .int .i64 0, .int .i64 0, .int .i64 0, .int .i64 0, .int .i64 0, .int .i64 0, .int .i64 0, .int .i64 0]) → (Since w1 W' ∧ Blk W' (w.heap.size) 23 #[.int .i64 0, .int .i64 5, .int .i64 2, .int .i64 4, .int .i64 0, .int .i64 0, .int .i64 0, .int .i64 0, .int .i64 0, .int .i64 0, .int .i64 2, .int .i64 300, .int .i64 0, .int .i64 0, .int .i64 0, .int .i64 0, .int .i64 0, .int .i64 0] ∧ Blk W' (g) 56 #[.int .i64 0, .int .i64 1, .int .i64 0, .int .i64 0, .int .i64 0, .int .i64 0, .int .i64 0, .int .i64 0, .int .i64 0, .int .i64 0]) := fun W W' k ⟨h, h0, h1⟩ => ⟨h.trans k, keep_blk k h0, keep_blk k h1⟩
  have hrS : (fun W : World => Since w1 W ∧ Blk W (w.heap.size) 23 #[.int .i64 0, .int .i64 5, .int .i64 2, .int .i64 4, .int .i64 0, .int .i64 0, .int .i64 0, .int .i64 0, .int .i64 0, .int .i64 0, .int .i64 2, .int .i64 300, .int .i64 0, .int .i64 0, .int .i64 0, .int .i64 0, .int .i64 0, .int .i64 0] ∧ Blk W (g) 56 #[.int .i64 0, .int .i64 1, .int .i64 0, .int .i64 0, .int .i64 0, .int .i64 0, .int .i64 0, .int .i64 0, .int .i64 0, .int .i64 0]) (w1) := ⟨Since.refl _, by first | assumption | (simp; done), by first | assumption | (simp; done)⟩
  have HRK := Lib.hid hrK
  have HRD := Lib.hid (show (fun W : World => Since w1 W ∧ Blk W (w.heap.size) 23 #[.int .i64 0, .int .i64 5, .int .i64 2, .int .i64 4, .int .i64 0, .int .i64 0, .int .i64 0, .int .i64 0, .int .i64 0, .int .i64 0, .int .i64 2, .int .i64 300, .int .i64 0, .int .i64 0, .int .i64 0, .int .i64 0, .int .i64 0, .int .i64 0] ∧ Blk W (g) 56 #[.int .i64 0, .int .i64 1, .int .i64 0, .int .i64 0, .int .i64 0, .int .i64 0, .int .i64 0, .int .i64 0, .int .i64 0, .int .i64 0]) (World.drew (w1)) from ⟨(Since.refl _).drew, hrS.2⟩)
  clear hrK hrS
  refine wp_region_held_drew (S := fun W : World => Since w1 W ∧ Blk W (w.heap.size) 23 #[.int .i64 0, .int .i64 5, .int .i64 2, .int .i64 4, .int .i64 0, .int .i64 0, .int .i64 0, .int .i64 0, .int .i64 0, .int .i64 0, .int .i64 2, .int .i64 300, .int .i64 0, .int .i64 0, .int .i64 0, .int .i64 0, .int .i64 0, .int .i64 0] ∧ Blk W (g) 56 #[.int .i64 0, .int .i64 1, .int .i64 0, .int .i64 0, .int .i64 0, .int .i64 0, .int .i64 0, .int .i64 0, .int .i64 0, .int .i64 0]) (by kernel_rfl) HRD.out (fun hHeld => ?_)
  refine wpAnyH_take (i := 0) (oi := ?o_0) (v := ?v_0) ?h_0 (by kernel_rfl) (by kernel_rfl) (by kernel_rfl) ?q_0 ?y_0 (by assumption) ?_
  case h_0 => (first | (simp only [List.getElem?_toArray, List.getElem?_cons_zero, List.getElem?_cons_succ]; done) | (simp only [List.getElem?_toArray, List.getElem?_cons_zero, List.getElem?_cons_succ]; exact rfl))
  case q_0 => exact fun _ _ _ h => h
  case y_0 => (refine Or.inl ⟨rfl, ?_⟩; intro w hSw; (try dsimp only at hSw); go_simp; (try with_reducible rfl))
  (try simp only [Act.put, List.setIfInBounds_toArray, List.set_cons_zero, List.set_cons_succ])
  refine wpAnyH_take (i := 1) (oi := ?o_1) (v := ?v_1) ?h_1 (by kernel_rfl) (by kernel_rfl) (by kernel_rfl) ?q_1 ?y_1 (by assumption) ?_
  case h_1 => (first | (simp only [List.getElem?_toArray, List.getElem?_cons_zero, List.getElem?_cons_succ]; done) | (simp only [List.getElem?_toArray, List.getElem?_cons_zero, List.getElem?_cons_succ]; exact rfl))
  case q_1 => exact fun _ _ _ h => h
  case y_1 => (refine Or.inl ⟨rfl, ?_⟩; intro w hSw; (try dsimp only at hSw); go_simp; (try with_reducible rfl))
  (try simp only [Act.put, List.setIfInBounds_toArray, List.set_cons_zero, List.set_cons_succ])
  refine wpAnyH_take (i := 3) (oi := ?o_3) (v := .agg #[.int .i64 0, .int .i64 5, .int .i64 2, .int .i64 4, .int .i64 0, .int .i64 0, .int .i64 0, .int .i64 0, .int .i64 0, .int .i64 0, .int .i64 2, .int .i64 300, .int .i64 0, .int .i64 0, .int .i64 0, .int .i64 0, .int .i64 0, .int .i64 0]) ?h_3 (by kernel_rfl) (by kernel_rfl) (by kernel_rfl) ?q_3 ?y_3 (by assumption) ?_
  case h_3 => (first | (simp only [List.getElem?_toArray, List.getElem?_cons_zero, List.getElem?_cons_succ]; done) | (simp only [List.getElem?_toArray, List.getElem?_cons_zero, List.getElem?_cons_succ]; exact rfl))
  case q_3 => exact fun _ _ _ h => h
  case y_3 => exact Or.inl ⟨rfl, fun w hSw => exec_load_row 23 (.tmp 3) _ hSw.2.1 rfl rfl Try.underlying23 rfl (by kernel_rfl)⟩
  (try simp only [Act.put, List.setIfInBounds_toArray, List.set_cons_zero, List.set_cons_succ])
  refine wpAnyH_ready (rs := [2]) (by kernel_rfl) (by simp) ?_
  refine AllReadyH.cons (o := ?o_2) ?h_2 (fun K hK => ?_) AllReadyH.nil
  case h_2 => (first | (simp only [List.getElem?_toArray, List.getElem?_cons_zero, List.getElem?_cons_succ]; done) | (simp only [List.getElem?_toArray, List.getElem?_cons_zero, List.getElem?_cons_succ]; exact rfl))
  (try go_simp)
  (go_at_call 19; refine (countA _ g hHeld.2.2).mono ?_; rintro e w9 ⟨rfl, hb9⟩)
  (try go_wp2_with fail)
  refine hK.out _ _ ?_ (fun hHeld2 => ?_)
  · first | exact HRD.out | exact hHeld | (apply HRK.out; assumption; assumption)
  clear hK K hHeld
  have hHeld := hHeld2
  clear hHeld2
  (try simp only [Act.put, List.setIfInBounds_toArray, List.set_cons_zero, List.set_cons_succ])
  refine wpAnyH_ready (rs := [4]) (by kernel_rfl) (by simp) ?_
  refine AllReadyH.cons (o := ?o_4) ?h_4 (fun K hK => ?_) AllReadyH.nil
  case h_4 => (first | (simp only [List.getElem?_toArray, List.getElem?_cons_zero, List.getElem?_cons_succ]; done) | (simp only [List.getElem?_toArray, List.getElem?_cons_zero, List.getElem?_cons_succ]; exact rfl))
  (try go_simp)
  (go_at_call 17; refine (quotaA _).mono ?_; rintro e w9 ⟨rfl, hb9⟩)
  (try go_wp2_with fail)
  refine hK.out _ _ ?_ (fun hHeld2 => ?_)
  · first | exact HRD.out | exact hHeld | (apply HRK.out; assumption; assumption)
  clear hK K hHeld
  have hHeld := hHeld2
  clear hHeld2
  (try simp only [Act.put, List.setIfInBounds_toArray, List.set_cons_zero, List.set_cons_succ])
  refine wpAnyH_take (i := 5) (oi := ?o_5) (v := ?v_5) ?h_5 (by kernel_rfl) (by kernel_rfl) (by kernel_rfl) ?q_5 ?y_5 (by assumption) ?_
  case h_5 => (first | (simp only [List.getElem?_toArray, List.getElem?_cons_zero, List.getElem?_cons_succ]; done) | (simp only [List.getElem?_toArray, List.getElem?_cons_zero, List.getElem?_cons_succ]; exact rfl))
  case q_5 => exact fun _ _ _ h => h
  case y_5 => (refine Or.inl ⟨rfl, ?_⟩; intro w hSw; (try dsimp only at hSw); go_simp; (try with_reducible rfl))
  (try simp only [Act.put, List.setIfInBounds_toArray, List.set_cons_zero, List.set_cons_succ])
  refine wpAnyH_take (i := 6) (oi := ?o_6) (v := ?v_6) ?h_6 (by kernel_rfl) (by kernel_rfl) (by kernel_rfl) ?q_6 ?y_6 (by assumption) ?_
  case h_6 => (first | (simp only [List.getElem?_toArray, List.getElem?_cons_zero, List.getElem?_cons_succ]; done) | (simp only [List.getElem?_toArray, List.getElem?_cons_zero, List.getElem?_cons_succ]; exact rfl))
  case q_6 => exact fun _ _ _ h => h
  case y_6 => (refine Or.inl ⟨rfl, ?_⟩; intro w hSw; (try dsimp only at hSw); go_simp; (try with_reducible rfl))
  (try simp only [Act.put, List.setIfInBounds_toArray, List.set_cons_zero, List.set_cons_succ])
  refine wpAnyH_done (by kernel_rfl) ?_ _
  obtain ⟨hs2, _⟩ := hHeld
  have HS2 := Lib.hid hs2
  clear hs2 HRK HRD
  go_wp2
  go_ret
  exact ⟨rfl, HS1.out.trans HS2.out⟩
set_option maxHeartbeats 1000000 in
theorem ans (w : World) : Calls Try.prog 16 #[] w fun e w' => e = .returned (.bool true) ∧ Since w w' := by
  go_enter Try.func16, Try.ntmps16
  go_wp2_with fail
  have B0 : Blk (w.alloc (.cells #[.int .i64 0, .int .i64 1, .int .i64 0, .int .i64 0, .int .i64 0, .int .i64 0, .int .i64 0, .int .i64 0, .int .i64 0, .int .i64 0] 56)) w.heap.size 56 #[.int .i64 0, .int .i64 1, .int .i64 0, .int .i64 0, .int .i64 0, .int .i64 0, .int .i64 0, .int .i64 0, .int .i64 0, .int .i64 0] := Blk.new w _ _
  have HB0 := Lib.hid B0
  clear B0
  refine (configA _).mono ?_
  rintro e w1 ⟨rfl, hb1⟩
  have HB1 := Lib.hid (keep_blk hb1 HB0.out)
  have HS1 := Lib.hid (show Since w w1 from Since.trans ((Since.refl w).alloc _) hb1)
  clear hb1
  go_wp2_with fail
  refine (quotaA _).mono ?_
  rintro e w2 ⟨rfl, hb2⟩
  have HB2 := Lib.hid (keep_blk hb2 HB1.out)
  have HS2 := Lib.hid (HS1.out.trans hb2)
  clear hb2
  go_wp2_with fail
  refine (countA _ _ HB2.out).mono ?_
  rintro e w3 ⟨rfl, hb3⟩
  have HB3 := Lib.hid (keep_blk hb3 HB2.out)
  have HS3 := Lib.hid (HS2.out.trans hb3)
  clear hb3
  go_wp2_with fail
  refine (configA _).mono ?_
  rintro e w4 ⟨rfl, hb4⟩
  have HB4 := Lib.hid (keep_blk hb4 HB3.out)
  have HS4 := Lib.hid (HS3.out.trans hb4)
  clear hb4
  go_wp2_with fail
  refine (freeA _ _ HB4.out).mono ?_
  rintro e w5 ⟨rfl, hb5⟩
  have HB5 := Lib.hid (keep_blk hb5 HB4.out)
  have HS5 := Lib.hid (HS4.out.trans hb5)
  clear hb5
  go_wp2_with fail
  refine (configA _).mono ?_
  rintro e w6 ⟨rfl, hb6⟩
  have HB6 := Lib.hid (keep_blk hb6 HB5.out)
  have HS6 := Lib.hid (HS5.out.trans hb6)
  clear hb6
  go_wp2_with fail
  refine (mayA1 _).mono ?_
  rintro e w7 ⟨rfl, hb7⟩
  have HB7 := Lib.hid (keep_blk hb7 HB6.out)
  have HS7 := Lib.hid (HS6.out.trans hb7)
  clear hb7
  go_wp2_with fail
  refine (configA _).mono ?_
  rintro e w8 ⟨rfl, hb8⟩
  have HB8 := Lib.hid (keep_blk hb8 HB7.out)
  have HS8 := Lib.hid (HS7.out.trans hb8)
  clear hb8
  go_wp2_with fail
  refine (mayA2 _).mono ?_
  rintro e w9 ⟨rfl, hb9⟩
  have HB9 := Lib.hid (keep_blk hb9 HB8.out)
  have HS9 := Lib.hid (HS8.out.trans hb9)
  clear hb9
  go_wp2
  go_ret
  exact ⟨rfl, HS9.out⟩
end Go.Proofs.Ytggafipgfgbbiaa.Fl
namespace Go.Proofs.Ytggafipgfgbbiaa.Fl
set_option linter.unusedVariables false
set_option linter.unusedSimpArgs false
open Go.RowKit Go.Proofs.Ytggafipgfgbbiaa.Ba Go.Proofs.Ytggafipgfgbbiaa.Mo Go.Proofs.Ytggafipgfgbbiaa.Ty Go.Proofs.Ytggafipgfgbbiaa.Mem
open Go.Proofs.Ytggafipgfgbbiaa.Ce (ms massT)
open Go.Proofs.Ytggafipgfgbbiaa.Ls (LV leaC)
set_option maxRecDepth 100000
/-- How many of the first k are of fleet n. -/
def cnt (ls : Nat → LeaseV) (n : Int) : Nat → Int
  | 0 => 0
  | k + 1 => cnt ls n k + (if (ls k).fl = n then 1 else 0)
theorem cnt_bd (ls : Nat → LeaseV) (n : Int) : ∀ k : Nat, 0 ≤ cnt ls n k ∧ cnt ls n k ≤ k
  | 0 => by simp [cnt]
  | k + 1 => by
    have := cnt_bd ls n k
    unfold cnt
    split <;> omega
theorem at_lease {w : World} {a : Option Addr} {len : Nat} {ls : Nat → LeaseV} (h : LV w a len ls) {k : Nat} (hk : k < len) : ∃ b off, a = some ⟨b, off, none⟩ ∧ b < w.heap.size ∧ ∀ j v, (leaC (ls k))[j]? = some v → w.cell? ⟨b, off + k * 10 + j, none⟩ = some v := by
  rcases h with h | ⟨b, off, e, hb, hc⟩
  · omega
  · exact ⟨b, off, e, hb, fun j v hj => hc k hk j v hj⟩
set_option maxHeartbeats 1000000 in
theorem countT (a : Option Addr) (len cap : Nat) (ls : Nat → LeaseV) (n : Int) (w : World) (h : LV w a len ls) (hl : len ≤ 9223372036854775807) : Calls Try.prog 19 #[.slice a len cap, .int .i64 n] w fun e w' => e = .returned (.int .i64 (cnt ls n len)) ∧ Since w w' := by
  have hlI : (len : Int) ≤ 9223372036854775807 := by omega
  have HL := Lib.hid h
  clear h
  go_enter Try.func19, Try.ntmps19
  go_wp2_with fail
  go_loopw [5, 10] (fun c i wr => ∃ k : Nat, k ≤ len ∧ i = .int .i64 k ∧ ∃ N : Int, c = .int .i64 N ∧ Hid (N = cnt ls n k ∧ Since w wr)) (fun c i _ => ((len : Int) - intOf i).toNat)
  case atStart => exact ⟨0, by omega, rfl, 0, rfl, Lib.hid ⟨rfl, (by repeat (first | exact Since.refl _ | assumption | refine Since.setCell ?_ (by first | (simp; done) | (simp; omega)) _ | refine Since.drew ?_ | refine Since.drewN ?_ _ | refine Since.alloc ?_ _ | refine Since.trans ?_ (by assumption) | refine Since.trans ?_ (Hid.out (by assumption))))⟩⟩
  case round =>
    obtain ⟨k, hk, rfl, N, rfl, HO⟩ := hrel
    have hN := cnt_bd ls n k
    by_cases hlt : k < len
    · have hk0 : (k : Int) < (len : Int) := by omega
      have hk1 : (0 : Int) ≤ (k : Int) := by omega
      have HJ := Lib.hid hlt
      obtain ⟨b, off, rfl, hb, hc⟩ := at_lease (HL.out.keep HO.out.2) hlt
      have l0 : wr.cell? ⟨b, off + k * 10, none⟩ = some (.int .i64 (ls k).se) := hc 0 _ rfl
      have l1 : wr.cell? ⟨b, off + k * 10 + 1, none⟩ = some (.int .i64 (ls k).fl) := hc 1 _ rfl
      have l2 : wr.cell? ⟨b, off + k * 10 + 2, none⟩ = some (.int .i64 (ls k).fm) := hc 2 _ rfl
      have l3 : wr.cell? ⟨b, off + k * 10 + 3, none⟩ = some (.int .i64 (ls k).to) := hc 3 _ rfl
      have l4 : wr.cell? ⟨b, off + k * 10 + 4, none⟩ = some (.int .i64 (ls k).ma) := hc 4 _ rfl
      have l5 : wr.cell? ⟨b, off + k * 10 + 5, none⟩ = some (.int .i64 (ls k).ca) := hc 5 _ rfl
      have l6 : wr.cell? ⟨b, off + k * 10 + 6, none⟩ = some (.int .i64 (ls k).ph) := hc 6 _ rfl
      have l7 : wr.cell? ⟨b, off + k * 10 + 7, none⟩ = some (.int .i64 (ls k).un) := hc 7 _ rfl
      have l8 : wr.cell? ⟨b, off + k * 10 + 8, none⟩ = some (.int .i64 (ls k).re) := hc 8 _ rfl
      have l9 : wr.cell? ⟨b, off + k * 10 + 9, none⟩ = some (.int .i64 (ls k).gr) := hc 9 _ rfl
      have HS := Lib.hid HO.out.2
      clear hc
      obtain ⟨hN0, hN1⟩ := hN
      have hNe := Lib.hid HO.out.1
      rw [← HO.out.1] at hN0 hN1
      clear HO
      by_cases hf : (ls k).fl = n
      · have hf' : ((ls k).fl == n) = true := by simpa using hf
        have HC := Lib.hid (show N + 1 = cnt ls n (k + 1) by rw [cnt, if_pos hf, hNe.out])
        clear hf
        go_wp2_with fail
        go_roundw
        case rel => exact ⟨k + 1, by have := HJ.out; omega, by go_num, cnt ls n (k + 1), by rw [← HC.out, hNe.out]; (try go_num), Lib.hid ⟨rfl, (by repeat (first | exact Since.refl _ | assumption | refine Since.setCell ?_ (by first | (simp; done) | (simp; omega)) _ | refine Since.drew ?_ | refine Since.drewN ?_ _ | refine Since.alloc ?_ _ | refine Since.trans ?_ (by assumption) | refine Since.trans ?_ (Hid.out (by assumption))))⟩⟩
        case measure => have := HJ.out; simp [intOf]; omega
      · have hf' : ((ls k).fl == n) = false := by simpa using hf
        have HC := Lib.hid (show N = cnt ls n (k + 1) by rw [cnt, if_neg hf, hNe.out]; simp)
        clear hf
        go_wp2_with fail
        go_roundw
        case rel => exact ⟨k + 1, by have := HJ.out; omega, by go_num, cnt ls n (k + 1), by rw [← HC.out, hNe.out], Lib.hid ⟨rfl, (by repeat (first | exact Since.refl _ | assumption | refine Since.setCell ?_ (by first | (simp; done) | (simp; omega)) _ | refine Since.drew ?_ | refine Since.drewN ?_ _ | refine Since.alloc ?_ _ | refine Since.trans ?_ (by assumption) | refine Since.trans ?_ (Hid.out (by assumption))))⟩⟩
        case measure => have := HJ.out; simp [intOf]; omega
    · obtain rfl : k = len := by omega
      obtain ⟨hh, S⟩ := HO.out
      have HH := Lib.hid hh
      have HS := Lib.hid S
      clear S hh HO
      go_wp2
      go_ret
      exact ⟨ret_int HH.out, HS.out⟩
set_option maxHeartbeats 1000000 in
theorem countR (a : Option Addr) (len cap : Nat) (ls : Nat → LeaseV) (n : Int) (w : World) (h : LV w a len ls) (hl : len ≤ 9223372036854775807) : Calls Try.prog 20 #[.slice a len cap, .int .i64 n] w fun e w' => e = .returned (.int .i64 (cnt ls n len)) ∧ Since w w' := by
  have hlI : (len : Int) ≤ 9223372036854775807 := by omega
  have HL := Lib.hid h
  clear h
  go_enter Try.func20, Try.ntmps20
  go_wp2_with fail
  go_loopw [5, 6] (fun c i wr => ∃ k : Nat, k ≤ len ∧ i = .int .i64 k ∧ ∃ N : Int, c = .int .i64 N ∧ Hid (N = cnt ls n k ∧ Since w wr)) (fun c i _ => ((len : Int) - intOf i).toNat)
  case atStart => exact ⟨0, by omega, rfl, 0, rfl, Lib.hid ⟨rfl, (by repeat (first | exact Since.refl _ | assumption | refine Since.setCell ?_ (by first | (simp; done) | (simp; omega)) _ | refine Since.drew ?_ | refine Since.drewN ?_ _ | refine Since.alloc ?_ _ | refine Since.trans ?_ (by assumption) | refine Since.trans ?_ (Hid.out (by assumption))))⟩⟩
  case round =>
    obtain ⟨k, hk, rfl, N, rfl, HO⟩ := hrel
    have hN := cnt_bd ls n k
    by_cases hlt : k < len
    · have hk0 : (k : Int) < (len : Int) := by omega
      have hk1 : (0 : Int) ≤ (k : Int) := by omega
      have HJ := Lib.hid hlt
      obtain ⟨b, off, rfl, hb, hc⟩ := at_lease (HL.out.keep HO.out.2) hlt
      have l0 : wr.cell? ⟨b, off + k * 10, none⟩ = some (.int .i64 (ls k).se) := hc 0 _ rfl
      have l1 : wr.cell? ⟨b, off + k * 10 + 1, none⟩ = some (.int .i64 (ls k).fl) := hc 1 _ rfl
      have l2 : wr.cell? ⟨b, off + k * 10 + 2, none⟩ = some (.int .i64 (ls k).fm) := hc 2 _ rfl
      have l3 : wr.cell? ⟨b, off + k * 10 + 3, none⟩ = some (.int .i64 (ls k).to) := hc 3 _ rfl
      have l4 : wr.cell? ⟨b, off + k * 10 + 4, none⟩ = some (.int .i64 (ls k).ma) := hc 4 _ rfl
      have l5 : wr.cell? ⟨b, off + k * 10 + 5, none⟩ = some (.int .i64 (ls k).ca) := hc 5 _ rfl
      have l6 : wr.cell? ⟨b, off + k * 10 + 6, none⟩ = some (.int .i64 (ls k).ph) := hc 6 _ rfl
      have l7 : wr.cell? ⟨b, off + k * 10 + 7, none⟩ = some (.int .i64 (ls k).un) := hc 7 _ rfl
      have l8 : wr.cell? ⟨b, off + k * 10 + 8, none⟩ = some (.int .i64 (ls k).re) := hc 8 _ rfl
      have l9 : wr.cell? ⟨b, off + k * 10 + 9, none⟩ = some (.int .i64 (ls k).gr) := hc 9 _ rfl
      have HS := Lib.hid HO.out.2
      clear hc
      obtain ⟨hN0, hN1⟩ := hN
      have hNe := Lib.hid HO.out.1
      rw [← HO.out.1] at hN0 hN1
      clear HO
      by_cases hf : (ls k).fl = n
      · have hf' : ((ls k).fl == n) = true := by simpa using hf
        have HC := Lib.hid (show N + 1 = cnt ls n (k + 1) by rw [cnt, if_pos hf, hNe.out])
        clear hf
        go_wp2_with fail
        go_roundw
        case rel => exact ⟨k + 1, by have := HJ.out; omega, by go_num, cnt ls n (k + 1), by rw [← HC.out, hNe.out]; (try go_num), Lib.hid ⟨rfl, (by repeat (first | exact Since.refl _ | assumption | refine Since.setCell ?_ (by first | (simp; done) | (simp; omega)) _ | refine Since.drew ?_ | refine Since.drewN ?_ _ | refine Since.alloc ?_ _ | refine Since.trans ?_ (by assumption) | refine Since.trans ?_ (Hid.out (by assumption))))⟩⟩
        case measure => have := HJ.out; simp [intOf]; omega
      · have hf' : ((ls k).fl == n) = false := by simpa using hf
        have HC := Lib.hid (show N = cnt ls n (k + 1) by rw [cnt, if_neg hf, hNe.out]; simp)
        clear hf
        go_wp2_with fail
        go_roundw
        case rel => exact ⟨k + 1, by have := HJ.out; omega, by go_num, cnt ls n (k + 1), by rw [← HC.out, hNe.out], Lib.hid ⟨rfl, (by repeat (first | exact Since.refl _ | assumption | refine Since.setCell ?_ (by first | (simp; done) | (simp; omega)) _ | refine Since.drew ?_ | refine Since.drewN ?_ _ | refine Since.alloc ?_ _ | refine Since.trans ?_ (by assumption) | refine Since.trans ?_ (Hid.out (by assumption))))⟩⟩
        case measure => have := HJ.out; simp [intOf]; omega
    · obtain rfl : k = len := by omega
      obtain ⟨hh, S⟩ := HO.out
      have HH := Lib.hid hh
      have HS := Lib.hid S
      clear S hh HO
      go_wp2
      go_ret
      exact ⟨ret_int HH.out, HS.out⟩
theorem quotaR (c : CfgV) (w : World) : Calls Try.prog 18 #[.agg #[.int .i64 c.ca, .int .i64 c.fl, .int .i64 c.ft, .int .i64 c.se, .int .i64 c.dr, .int .i64 c.dw, .int .i64 c.ho, .int .i64 c.re, .int .i64 c.yi, .int .i64 c.qu, .int .i64 c.qo, .int .i64 c.lo, .int .i64 c.sl, .int .i64 c.rt, .int .i64 c.cp, .int .i64 c.tr, .int .i64 c.de, .int .i64 c.wi]] w fun e w' => e = .returned (.int .i64 (btw c.qo 1 8)) ∧ Since w w' := by
  go_enter Try.func18, Try.ntmps18
  go_wp2_with (first | (go_at_call 63; refine (nearestR _ _ _ _).mono ?_; rintro e w' ⟨rfl, rfl⟩))
  go_ret
  exact ⟨rfl, (by repeat (first | exact Since.refl _ | assumption | refine Since.setCell ?_ (by first | (simp; done) | (simp; omega)) _ | refine Since.drew ?_ | refine Since.drewN ?_ _ | refine Since.alloc ?_ _ | refine Since.trans ?_ (by assumption) | refine Since.trans ?_ (Hid.out (by assumption))))⟩
theorem freeT (c : CfgV) (a : Option Addr) (len cap : Nat) (ls : Nat → LeaseV) (n : Int) (w : World) (h : LV w a len ls) (hl : len ≤ 9223372036854775807) : Calls Try.prog 21 #[.agg #[.int .i64 c.ca, .int .i64 c.fl, .int .i64 c.ft, .int .i64 c.se, .int .i64 c.dr, .int .i64 c.dw, .int .i64 c.ho, .int .i64 c.re, .int .i64 c.yi, .int .i64 c.qu, .int .i64 c.qo, .int .i64 c.lo, .int .i64 c.sl, .int .i64 c.rt, .int .i64 c.cp, .int .i64 c.tr, .int .i64 c.de, .int .i64 c.wi], .slice a len cap, .int .i64 n] w fun e w' => e = .returned (.bool (decide (cnt ls n len < btw c.qo 1 8))) ∧ Since w w' := by
  have HL := Lib.hid h
  clear h
  go_enter Try.func21, Try.ntmps21
  go_upto_region 1 with fail
  obtain ⟨w1, hw1⟩ : ∃ w1, w1 = w.alloc (.cells #[.int .i64 c.ca, .int .i64 c.fl, .int .i64 c.ft, .int .i64 c.se, .int .i64 c.dr, .int .i64 c.dw, .int .i64 c.ho, .int .i64 c.re, .int .i64 c.yi, .int .i64 c.qu, .int .i64 c.qo, .int .i64 c.lo, .int .i64 c.sl, .int .i64 c.rt, .int .i64 c.cp, .int .i64 c.tr, .int .i64 c.de, .int .i64 c.wi] 23) := ⟨_, rfl⟩
  rw [← hw1]
  have BC : Blk w1 w.heap.size 23 #[.int .i64 c.ca, .int .i64 c.fl, .int .i64 c.ft, .int .i64 c.se, .int .i64 c.dr, .int .i64 c.dw, .int .i64 c.ho, .int .i64 c.re, .int .i64 c.yi, .int .i64 c.qu, .int .i64 c.qo, .int .i64 c.lo, .int .i64 c.sl, .int .i64 c.rt, .int .i64 c.cp, .int .i64 c.tr, .int .i64 c.de, .int .i64 c.wi] := by rw [hw1]; exact Blk.new w _ _
  have HS1 := Lib.hid (show Since w w1 by rw [hw1]; exact (Since.refl w).alloc _)
  have HL1 := Lib.hid (LV.keep HS1.out HL.out)
  clear hw1
  have hrK : ∀ W W' : World, Since W W' → (Since w1 W ∧ Blk W (w.heap.size) 23 #[.int .i64 c.ca, .int .i64 c.fl, .int .i64 c.ft, .int .i64 c.se, .int .i64 c.dr, .int .i64 c.dw, .int .i64 c.ho, .int .i64 c.re, .int .i64 c.yi, .int .i64 c.qu, .int .i64 c.qo, .int .i64 c.lo, .int .i64 c.sl, .int .i64 c.rt, .int .i64 c.cp, .int .i64 c.tr, .int .i64 c.de, .int .i64 c.wi]) → (Since w1 W' ∧ Blk W' (w.heap.size) 23 #[.int .i64 c.ca, .int .i64 c.fl, .int .i64 c.ft, .int .i64 c.se, .int .i64 c.dr, .int .i64 c.dw, .int .i64 c.ho, .int .i64 c.re, .int .i64 c.yi, .int .i64 c.qu, .int .i64 c.qo, .int .i64 c.lo, .int .i64 c.sl, .int .i64 c.rt, .int .i64 c.cp, .int .i64 c.tr, .int .i64 c.de, .int .i64 c.wi]) := fun W W' k ⟨h, h0⟩ => ⟨h.trans k, keep_blk k h0⟩
  have hrS : (fun W : World => Since w1 W ∧ Blk W (w.heap.size) 23 #[.int .i64 c.ca, .int .i64 c.fl, .int .i64 c.ft, .int .i64 c.se, .int .i64 c.dr, .int .i64 c.dw, .int .i64 c.ho, .int .i64 c.re, .int .i64 c.yi, .int .i64 c.qu, .int .i64 c.qo, .int .i64 c.lo, .int .i64 c.sl, .int .i64 c.rt, .int .i64 c.cp, .int .i64 c.tr, .int .i64 c.de, .int .i64 c.wi]) (w1) := ⟨Since.refl _, by first | assumption | (simp; done)⟩
  have HRK := Lib.hid hrK
  have HRD := Lib.hid (show (fun W : World => Since w1 W ∧ Blk W (w.heap.size) 23 #[.int .i64 c.ca, .int .i64 c.fl, .int .i64 c.ft, .int .i64 c.se, .int .i64 c.dr, .int .i64 c.dw, .int .i64 c.ho, .int .i64 c.re, .int .i64 c.yi, .int .i64 c.qu, .int .i64 c.qo, .int .i64 c.lo, .int .i64 c.sl, .int .i64 c.rt, .int .i64 c.cp, .int .i64 c.tr, .int .i64 c.de, .int .i64 c.wi]) (World.drew (w1)) from ⟨(Since.refl _).drew, hrS.2⟩)
  clear hrK hrS
  refine wp_region_held_drew (S := fun W : World => Since w1 W ∧ Blk W (w.heap.size) 23 #[.int .i64 c.ca, .int .i64 c.fl, .int .i64 c.ft, .int .i64 c.se, .int .i64 c.dr, .int .i64 c.dw, .int .i64 c.ho, .int .i64 c.re, .int .i64 c.yi, .int .i64 c.qu, .int .i64 c.qo, .int .i64 c.lo, .int .i64 c.sl, .int .i64 c.rt, .int .i64 c.cp, .int .i64 c.tr, .int .i64 c.de, .int .i64 c.wi]) (by kernel_rfl) HRD.out (fun hHeld => ?_)
  refine wpAnyH_take (i := 0) (oi := ?of_0) (v := .slice a len cap) ?hf_0 (by kernel_rfl) (by kernel_rfl) (by kernel_rfl) ?qf_0 ?yf_0 (by assumption) ?_
  case hf_0 => (first | (simp only [List.getElem?_toArray, List.getElem?_cons_zero, List.getElem?_cons_succ]; done) | (simp only [List.getElem?_toArray, List.getElem?_cons_zero, List.getElem?_cons_succ]; exact rfl))
  case qf_0 => exact fun _ _ _ h => h
  case yf_0 => (refine Or.inl ⟨rfl, ?_⟩; intro w hSw; (try dsimp only at hSw); go_simp; (try with_reducible rfl))
  (try simp only [Act.put, List.setIfInBounds_toArray, List.set_cons_zero, List.set_cons_succ])
  refine wpAnyH_take (i := 1) (oi := ?of_1) (v := .int .i64 n) ?hf_1 (by kernel_rfl) (by kernel_rfl) (by kernel_rfl) ?qf_1 ?yf_1 (by assumption) ?_
  case hf_1 => (first | (simp only [List.getElem?_toArray, List.getElem?_cons_zero, List.getElem?_cons_succ]; done) | (simp only [List.getElem?_toArray, List.getElem?_cons_zero, List.getElem?_cons_succ]; exact rfl))
  case qf_1 => exact fun _ _ _ h => h
  case yf_1 => (refine Or.inl ⟨rfl, ?_⟩; intro w hSw; (try dsimp only at hSw); go_simp; (try with_reducible rfl))
  (try simp only [Act.put, List.setIfInBounds_toArray, List.set_cons_zero, List.set_cons_succ])
  refine wpAnyH_take (i := 3) (oi := ?of_3) (v := .agg #[.int .i64 c.ca, .int .i64 c.fl, .int .i64 c.ft, .int .i64 c.se, .int .i64 c.dr, .int .i64 c.dw, .int .i64 c.ho, .int .i64 c.re, .int .i64 c.yi, .int .i64 c.qu, .int .i64 c.qo, .int .i64 c.lo, .int .i64 c.sl, .int .i64 c.rt, .int .i64 c.cp, .int .i64 c.tr, .int .i64 c.de, .int .i64 c.wi]) ?hf_3 (by kernel_rfl) (by kernel_rfl) (by kernel_rfl) ?qf_3 ?yf_3 (by assumption) ?_
  case hf_3 => (first | (simp only [List.getElem?_toArray, List.getElem?_cons_zero, List.getElem?_cons_succ]; done) | (simp only [List.getElem?_toArray, List.getElem?_cons_zero, List.getElem?_cons_succ]; exact rfl))
  case qf_3 => exact fun _ _ _ h => h
  case yf_3 => exact Or.inl ⟨rfl, fun w hSw => exec_load_row 23 (.tmp 3) _ hSw.2 rfl rfl Try.underlying23 rfl (by kernel_rfl)⟩
  (try simp only [Act.put, List.setIfInBounds_toArray, List.set_cons_zero, List.set_cons_succ])
  refine wpAnyH_ready (rs := [2]) (by kernel_rfl) (by simp) ?_
  refine AllReadyH.cons (o := ?of_2) ?hf_2 (fun K hK => ?_) AllReadyH.nil
  case hf_2 => (first | (simp only [List.getElem?_toArray, List.getElem?_cons_zero, List.getElem?_cons_succ]; done) | (simp only [List.getElem?_toArray, List.getElem?_cons_zero, List.getElem?_cons_succ]; exact rfl))
  (try go_simp)
  (go_at_call 19; refine (countT a len cap ls n _ (LV.keep hHeld.1 HL1.out) hl).mono ?_; rintro e w9 ⟨rfl, hb9⟩)
  (try go_wp2_with fail)
  refine hK.out _ _ ?_ (fun hHeld2 => ?_)
  · first | exact HRD.out | exact hHeld | (apply HRK.out; assumption; assumption)
  clear hK K hHeld
  have hHeld := hHeld2
  clear hHeld2
  (try simp only [Act.put, List.setIfInBounds_toArray, List.set_cons_zero, List.set_cons_succ])
  refine wpAnyH_ready (rs := [4]) (by kernel_rfl) (by simp) ?_
  refine AllReadyH.cons (o := ?of_4) ?hf_4 (fun K hK => ?_) AllReadyH.nil
  case hf_4 => (first | (simp only [List.getElem?_toArray, List.getElem?_cons_zero, List.getElem?_cons_succ]; done) | (simp only [List.getElem?_toArray, List.getElem?_cons_zero, List.getElem?_cons_succ]; exact rfl))
  (try go_simp)
  (go_at_call 17; refine (quotaT c _).mono ?_; rintro e w9 ⟨rfl, hb9⟩)
  (try go_wp2_with fail)
  refine hK.out _ _ ?_ (fun hHeld2 => ?_)
  · first | exact HRD.out | exact hHeld | (apply HRK.out; assumption; assumption)
  clear hK K hHeld
  have hHeld := hHeld2
  clear hHeld2
  (try simp only [Act.put, List.setIfInBounds_toArray, List.set_cons_zero, List.set_cons_succ])
  refine wpAnyH_take (i := 5) (oi := ?of_5) (v := ?vf_5) ?hf_5 (by kernel_rfl) (by kernel_rfl) (by kernel_rfl) ?qf_5 ?yf_5 (by assumption) ?_
  case hf_5 => (first | (simp only [List.getElem?_toArray, List.getElem?_cons_zero, List.getElem?_cons_succ]; done) | (simp only [List.getElem?_toArray, List.getElem?_cons_zero, List.getElem?_cons_succ]; exact rfl))
  case qf_5 => exact fun _ _ _ h => h
  case yf_5 => (refine Or.inl ⟨rfl, ?_⟩; intro w hSw; (try dsimp only at hSw); go_simp; (try with_reducible rfl))
  (try simp only [Act.put, List.setIfInBounds_toArray, List.set_cons_zero, List.set_cons_succ])
  refine wpAnyH_take (i := 6) (oi := ?of_6) (v := ?vf_6) ?hf_6 (by kernel_rfl) (by kernel_rfl) (by kernel_rfl) ?qf_6 ?yf_6 (by assumption) ?_
  case hf_6 => (first | (simp only [List.getElem?_toArray, List.getElem?_cons_zero, List.getElem?_cons_succ]; done) | (simp only [List.getElem?_toArray, List.getElem?_cons_zero, List.getElem?_cons_succ]; exact rfl))
  case qf_6 => exact fun _ _ _ h => h
  case yf_6 => (refine Or.inl ⟨rfl, ?_⟩; intro w hSw; (try dsimp only at hSw); go_simp; (try with_reducible rfl))
  (try simp only [Act.put, List.setIfInBounds_toArray, List.set_cons_zero, List.set_cons_succ])
  refine wpAnyH_done (by kernel_rfl) ?_ _
  obtain ⟨hs2, _⟩ := hHeld
  have HS2 := Lib.hid hs2
  clear hs2 HRK HRD
  go_wp2
  go_ret
  exact ⟨rfl, HS1.out.trans HS2.out⟩
end Go.Proofs.Ytggafipgfgbbiaa.Fl
namespace Go.Proofs.Ytggafipgfgbbiaa.Le
set_option linter.unusedVariables false
set_option linter.unusedSimpArgs false
open Go.RowKit Go.Proofs.Ytggafipgfgbbiaa.Ba Go.Proofs.Ytggafipgfgbbiaa.Mem Go.Proofs.Ytggafipgfgbbiaa.Ty
open Go.Proofs.Ytggafipgfgbbiaa.Ls (LV leaC)
open Go.Proofs.Ytggafipgfgbbiaa.Fl (mayB btw cnt)
theorem leaC_len (a : LeaseV) : (leaC a).length = 10 := rfl
theorem leaC_one (a : LeaseV) : ∀ u ∈ leaC a, u.oneCell' = true := by
  intro u hu
  simp only [leaC, List.mem_cons, List.not_mem_nil, or_false] at hu
  rcases hu with rfl | rfl | rfl | rfl | rfl | rfl | rfl | rfl | rfl | rfl <;> rfl
theorem leas_one (ls : List LeaseV) : ∀ u ∈ rowsOf leaC ls, u.oneCell' = true := rowsOf_one' leaC_one ls
def zeroL : LeaseV := ⟨0, 0, 0, 0, 0, 0, 0, 0, 0, 0⟩
def askOf (l : LeaseV) : AskV := ⟨l.se, l.fl, l.fm, l.to, l.ma⟩
def tabC (c : CfgV) (v : Value) : Array Value := #[.int .i64 c.ca, .int .i64 c.fl, .int .i64 c.ft, .int .i64 c.se, .int .i64 c.dr, .int .i64 c.dw, .int .i64 c.ho, .int .i64 c.re, .int .i64 c.yi, .int .i64 c.qu, .int .i64 c.qo, .int .i64 c.lo, .int .i64 c.sl, .int .i64 c.rt, .int .i64 c.cp, .int .i64 c.tr, .int .i64 c.de, .int .i64 c.wi, v]
/-- The table t of world w: its setting, its leases; S: its blocks, all from lo on. -/
def TO (lo t : Nat) (c : CfgV) (ls : List LeaseV) (S : List Nat) (w : World) : Prop :=
  lo ≤ t ∧ ∃ A cap, S = t :: blkOf A ∧ Blk w t 101 (tabC c (.slice A ls.length cap)) ∧ w.ownsRow lo 56 10 (.slice A ls.length cap) ls.length (rowsOf leaC ls)
section
variable {w w' : World} {lo t b : Nat} {c : CfgV} {ls : List LeaseV} {S T : List Nat}
theorem TO.keep (k : Since w w') (h : TO lo t c ls S w) : TO lo t c ls S w' := by
  obtain ⟨h0, A, cap, rfl, B, O⟩ := h
  exact ⟨h0, A, cap, rfl, keep_blk k B, keep_own k O⟩
theorem TO.upd (k : Upd T w w') (h : TO lo t c ls S w) (hT : ∀ g ∈ S, g ∉ T) : TO lo t c ls S w' := by
  obtain ⟨h0, A, cap, rfl, B, O⟩ := h
  exact ⟨h0, A, cap, rfl, k.blk B (hT _ (by simp)), k.own O (fun g hg => hT g (by simp [hg]))⟩
theorem TO.low (h : TO lo t c ls S w) : ∀ g ∈ S, lo ≤ g := by
  obtain ⟨h0, A, cap, rfl, B, O⟩ := h
  intro g hg
  rcases List.mem_cons.1 hg with rfl | hg
  · exact h0
  · exact own_low O g hg
theorem TO.lt (h : TO lo t c ls S w) : ∀ g ∈ S, g < w.heap.size := by
  obtain ⟨h0, A, cap, rfl, B, O⟩ := h
  intro g hg
  rcases List.mem_cons.1 hg with rfl | hg
  · exact B.lt
  · exact own_lt O g hg
theorem TO.far (h : TO lo t c ls S w) (hb : w.heap.size ≤ b) : b ∉ S := fun hm => by have := h.lt b hm; omega
theorem TO.row_far (h : TO lo t c ls S w) (hb : b ∉ S) (cs : Array Value) : TO lo t c ls S (w.setRow b cs) :=
  h.upd (T := [b]) ((Upd.refl _ w).setRow (.inl (by simp)) cs) (fun g hg hgb => hb (by simpa using (List.mem_singleton.1 hgb) ▸ hg))
theorem TO.base {lo' : Nat} (h : TO lo t c ls S w) (hb : lo' ≤ lo) : TO lo' t c ls S w := by
  obtain ⟨h0, A, cap, rfl, B, O⟩ := h
  exact ⟨by omega, A, cap, rfl, B, own_base O hb⟩
end
theorem row_at {w : World} {g lo n c i : Nat} {ls : List LeaseV} (h : w.ownsRow lo 56 10 (.slice (some ⟨g, 0, none⟩) n c) n (rowsOf leaC ls)) (hi : i < ls.length) :
    ∀ j v, (leaC ls[i])[j]? = some v → w.cell? ⟨g, i * 10 + j, none⟩ = some v := own_rng h (rowsOf_at leaC_len hi)
/-- The leases, as fleet's calls read them. -/
theorem lv_own {w : World} {lo c : Nat} {A : Option Addr} {ls : List LeaseV} (h : w.ownsRow lo 56 10 (.slice A ls.length c) ls.length (rowsOf leaC ls)) : LV w A ls.length (fun i => ls.getD i zeroL) := by
  rcases Nat.eq_zero_or_pos ls.length with h0 | h0
  · exact .inl h0
  · obtain ⟨g, rfl⟩ := own_addr h h0
    refine .inr ⟨g, 0, rfl, own_lt h g (by simp [blkOf]), fun i hi j v hj => ?_⟩
    have e : ls.getD i zeroL = ls[i] := by simp [List.getD, hi]
    change (leaC (ls.getD i zeroL))[j]? = some v at hj
    rw [e] at hj
    rw [Nat.zero_add]
    exact row_at h hi j v hj
def goodB (c : CfgV) (l : LeaseV) : Bool := mayB c (askOf l) && decide (0 ≤ l.ca) && decide (l.ca < 8) && decide (1 ≤ l.ph) && decide (l.ph ≤ 4)
def isP (x l : LeaseV) : Bool := l.se == x.se || l.ca == x.ca
def isS (s : Int) (l : LeaseV) : Bool := l.se == s
def isC (s : Int) (l : LeaseV) : Bool := l.ca == s
def isT (x l : LeaseV) : Bool := l.se == x.se && l.ca == x.ca && l.fl == x.fl
def atP (ls : List LeaseV) (p : LeaseV → Bool) : Option Nat := ls.findIdx? p
theorem atP_some {ls : List LeaseV} {p : LeaseV → Bool} {k : Nat} (h : atP ls p = some k) : k < ls.length ∧ (∀ hk : k < ls.length, p ls[k] = true) ∧ ∀ j, j < k → ∀ hj : j < ls.length, p ls[j] = false := by
  obtain ⟨hk, h1, h2⟩ := List.findIdx?_eq_some_iff_getElem.1 h
  exact ⟨hk, fun _ => h1, fun j hj _ => by have := h2 j hj; simpa using this⟩
theorem atP_none {ls : List LeaseV} {p : LeaseV → Bool} (h : atP ls p = none) : ∀ j, ∀ hj : j < ls.length, p ls[j] = false := by
  intro j hj
  exact List.findIdx?_eq_none_iff.1 h ls[j] (List.getElem_mem hj)
def full (c : CfgV) (ls : List LeaseV) (f : Int) : Bool := !decide (cnt (fun i => ls.getD i zeroL) f ls.length < btw c.qo 1 8)
def putE (c : CfgV) (ls : List LeaseV) (l : LeaseV) : Int := if goodB c l = false then 1 else if (atP ls (isP l)).isSome then 7 else if full c ls l.fl then 5 else 0
def putL (c : CfgV) (ls : List LeaseV) (l : LeaseV) : List LeaseV := if putE c ls l = 0 then ls ++ [l] else ls
end Go.Proofs.Ytggafipgfgbbiaa.Le
