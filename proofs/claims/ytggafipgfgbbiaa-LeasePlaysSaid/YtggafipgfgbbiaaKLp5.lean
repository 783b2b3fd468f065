/-
  What is wanted by the last of these texts, part 5.
  No condition.
-/
import Derived.Test.YtggafipgfgbbiaaKLp3
namespace Go.Proofs.Ytggafipgfgbbiaa.Fl
set_option linter.unusedVariables false
set_option linter.unusedSimpArgs false
open Go.RowKit Go.Proofs.Ytggafipgfgbbiaa.Mem Go.Proofs.Ytggafipgfgbbiaa.Ba Go.Proofs.Ytggafipgfgbbiaa.Mo Go.Proofs.Ytggafipgfgbbiaa.Ty
open Go.Proofs.Ytggafipgfgbbiaa.Ce (ms massT)
set_option maxRecDepth 100000
set_option maxHeartbeats 4000000 in
theorem my1 (c : CfgV) (a : AskV) (h0 : 0 ≤ a.se) (h1 : ¬ (a.se < btw c.se 1 64)) (w : World) : Calls Try.prog 23 #[.agg #[.int .i64 c.ca, .int .i64 c.fl, .int .i64 c.ft, .int .i64 c.se, .int .i64 c.dr, .int .i64 c.dw, .int .i64 c.ho, .int .i64 c.re, .int .i64 c.yi, .int .i64 c.qu, .int .i64 c.qo, .int .i64 c.lo, .int .i64 c.sl, .int .i64 c.rt, .int .i64 c.cp, .int .i64 c.tr, .int .i64 c.de, .int .i64 c.wi], .agg #[.int .i64 a.se, .int .i64 a.fl, .int .i64 a.fm, .int .i64 a.to, .int .i64 a.ma]] w fun e w' => e = .returned (.bool (mayB c a)) ∧ Since w w' := by
  have d0 : decide (0 ≤ a.se) = true := decide_eq_true h0
  have d1 : decide (a.se < btw c.se 1 64) = false := decide_eq_false h1
  have HB := Lib.hid (show mayB c a = false by rw [← Bool.not_eq_true, mayB_iff]; intro h; exact h1 (by first | exact h.1.1 | exact h.1.2 | exact h.2.1.1 | exact h.2.1.2 | exact h.2.2.1.1 | exact h.2.2.1.2 | exact h.2.2.2.1.1 | exact h.2.2.2.1.2 | exact h.2.2.2.2.1 | exact h.2.2.2.2.2.1 | exact h.2.2.2.2.2.2))
  clear h0 h1
  go_enter Try.func23, Try.ntmps23
  go_wp2_with fail
  refine (floorsR _ _).mono ?_
  rintro e w1 ⟨rfl, hw1⟩
  have q0 : w1.cell? ⟨w.heap.size, 2, none⟩ = some (.int .i64 c.ft) := by rw [← hw1]; simp [go_sem]
  have q1 : w1.cell? ⟨w.heap.size, 3, none⟩ = some (.int .i64 c.se) := by rw [← hw1]; simp [go_sem]
  have q2 : w1.cell? ⟨w.heap.size, 11, none⟩ = some (.int .i64 c.lo) := by rw [← hw1]; simp [go_sem]
  have q3 : w1.cell? ⟨w.heap.size + 1, 0, none⟩ = some (.int .i64 a.se) := by rw [← hw1]; simp [go_sem]
  have q4 : w1.cell? ⟨w.heap.size + 1, 1, none⟩ = some (.int .i64 a.fl) := by rw [← hw1]; simp [go_sem]
  have q5 : w1.cell? ⟨w.heap.size + 1, 2, none⟩ = some (.int .i64 a.fm) := by rw [← hw1]; simp [go_sem]
  have q6 : w1.cell? ⟨w.heap.size + 1, 3, none⟩ = some (.int .i64 a.to) := by rw [← hw1]; simp [go_sem]
  have q7 : w1.cell? ⟨w.heap.size + 1, 4, none⟩ = some (.int .i64 a.ma) := by rw [← hw1]; simp [go_sem]
  have HS1 := Lib.hid (show Since w w1 by rw [← hw1]; exact ((Since.refl _).alloc _).alloc _)
  clear hw1
  go_wp2_with fail
  have hrK : ∀ W W' : World, Since W W' → (Since w1 W ∧ W.cell? ⟨w.heap.size, 2, none⟩ = some (.int .i64 c.ft) ∧ W.cell? ⟨w.heap.size, 3, none⟩ = some (.int .i64 c.se) ∧ W.cell? ⟨w.heap.size, 11, none⟩ = some (.int .i64 c.lo) ∧ W.cell? ⟨w.heap.size + 1, 0, none⟩ = some (.int .i64 a.se) ∧ W.cell? ⟨w.heap.size + 1, 1, none⟩ = some (.int .i64 a.fl) ∧ W.cell? ⟨w.heap.size + 1, 2, none⟩ = some (.int .i64 a.fm) ∧ W.cell? ⟨w.heap.size + 1, 3, none⟩ = some (.int .i64 a.to) ∧ W.cell? ⟨w.heap.size + 1, 4, none⟩ = some (.int .i64 a.ma)) → (Since w1 W' ∧ W'.cell? ⟨w.heap.size, 2, none⟩ = some (.int .i64 c.ft) ∧ W'.cell? ⟨w.heap.size, 3, none⟩ = some (.int .i64 c.se) ∧ W'.cell? ⟨w.heap.size, 11, none⟩ = some (.int .i64 c.lo) ∧ W'.cell? ⟨w.heap.size + 1, 0, none⟩ = some (.int .i64 a.se) ∧ W'.cell? ⟨w.heap.size + 1, 1, none⟩ = some (.int .i64 a.fl) ∧ W'.cell? ⟨w.heap.size + 1, 2, none⟩ = some (.int .i64 a.fm) ∧ W'.cell? ⟨w.heap.size + 1, 3, none⟩ = some (.int .i64 a.to) ∧ W'.cell? ⟨w.heap.size + 1, 4, none⟩ = some (.int .i64 a.ma)) := fun W W' k ⟨h, h0, h1, h2, h3, h4, h5, h6, h7⟩ => ⟨h.trans k, keep_cell k h0, keep_cell k h1, keep_cell k h2, keep_cell k h3, keep_cell k h4, keep_cell k h5, keep_cell k h6, keep_cell k h7⟩
  have hrS : (fun W : World => Since w1 W ∧ W.cell? ⟨w.heap.size, 2, none⟩ = some (.int .i64 c.ft) ∧ W.cell? ⟨w.heap.size, 3, none⟩ = some (.int .i64 c.se) ∧ W.cell? ⟨w.heap.size, 11, none⟩ = some (.int .i64 c.lo) ∧ W.cell? ⟨w.heap.size + 1, 0, none⟩ = some (.int .i64 a.se) ∧ W.cell? ⟨w.heap.size + 1, 1, none⟩ = some (.int .i64 a.fl) ∧ W.cell? ⟨w.heap.size + 1, 2, none⟩ = some (.int .i64 a.fm) ∧ W.cell? ⟨w.heap.size + 1, 3, none⟩ = some (.int .i64 a.to) ∧ W.cell? ⟨w.heap.size + 1, 4, none⟩ = some (.int .i64 a.ma)) (w1) := ⟨Since.refl _, by first | assumption | (simp; done), by first | assumption | (simp; done), by first | assumption | (simp; done), by first | assumption | (simp; done), by first | assumption | (simp; done), by first | assumption | (simp; done), by first | assumption | (simp; done), by first | assumption | (simp; done)⟩
  have HRK := Lib.hid hrK
  have HRD := Lib.hid (show (fun W : World => Since w1 W ∧ W.cell? ⟨w.heap.size, 2, none⟩ = some (.int .i64 c.ft) ∧ W.cell? ⟨w.heap.size, 3, none⟩ = some (.int .i64 c.se) ∧ W.cell? ⟨w.heap.size, 11, none⟩ = some (.int .i64 c.lo) ∧ W.cell? ⟨w.heap.size + 1, 0, none⟩ = some (.int .i64 a.se) ∧ W.cell? ⟨w.heap.size + 1, 1, none⟩ = some (.int .i64 a.fl) ∧ W.cell? ⟨w.heap.size + 1, 2, none⟩ = some (.int .i64 a.fm) ∧ W.cell? ⟨w.heap.size + 1, 3, none⟩ = some (.int .i64 a.to) ∧ W.cell? ⟨w.heap.size + 1, 4, none⟩ = some (.int .i64 a.ma)) (World.drew (w1)) from ⟨(Since.refl _).drew, hrS.2⟩)
  clear hrK hrS
  refine wp_region_held_drew (S := fun W : World => Since w1 W ∧ W.cell? ⟨w.heap.size, 2, none⟩ = some (.int .i64 c.ft) ∧ W.cell? ⟨w.heap.size, 3, none⟩ = some (.int .i64 c.se) ∧ W.cell? ⟨w.heap.size, 11, none⟩ = some (.int .i64 c.lo) ∧ W.cell? ⟨w.heap.size + 1, 0, none⟩ = some (.int .i64 a.se) ∧ W.cell? ⟨w.heap.size + 1, 1, none⟩ = some (.int .i64 a.fl) ∧ W.cell? ⟨w.heap.size + 1, 2, none⟩ = some (.int .i64 a.fm) ∧ W.cell? ⟨w.heap.size + 1, 3, none⟩ = some (.int .i64 a.to) ∧ W.cell? ⟨w.heap.size + 1, 4, none⟩ = some (.int .i64 a.ma)) (by kernel_rfl) HRD.out (fun hHeld => ?_)
  refine wpAnyH_take (i := 0) (oi := ?o_0) (v := ?v_0) ?h_0 (by kernel_rfl) (by kernel_rfl) (by kernel_rfl) ?q_0 ?y_0 (by assumption) ?_
  case h_0 => (first | (simp only [List.getElem?_toArray, List.getElem?_cons_zero, List.getElem?_cons_succ]; done) | (simp only [List.getElem?_toArray, List.getElem?_cons_zero, List.getElem?_cons_succ]; exact rfl))
  case q_0 => exact fun _ _ _ h => h
  case y_0 => (refine Or.inl ⟨rfl, ?_⟩; intro w hSw; (try dsimp only at hSw); go_simp; (try with_reducible rfl))
  (try simp only [Act.put, List.setIfInBounds_toArray, List.set_cons_zero, List.set_cons_succ])
  refine wpAnyH_take (i := 1) (oi := ?o_1) (v := .int .i64 a.se) ?h_1 (by kernel_rfl) (by kernel_rfl) (by kernel_rfl) ?q_1 ?y_1 (by assumption) ?_
  case h_1 => (first | (simp only [List.getElem?_toArray, List.getElem?_cons_zero, List.getElem?_cons_succ]; done) | (simp only [List.getElem?_toArray, List.getElem?_cons_zero, List.getElem?_cons_succ]; exact rfl))
  case q_1 => exact fun _ _ _ h => h
  case y_1 => (refine Or.inl ⟨rfl, ?_⟩; intro w hSw; (try dsimp only at hSw); go_simp; (try with_reducible rfl))
  (try simp only [Act.put, List.setIfInBounds_toArray, List.set_cons_zero, List.set_cons_succ])
  refine wpAnyH_take (i := 2) (oi := ?o_2) (v := .bool true) ?h_2 (by kernel_rfl) (by kernel_rfl) (by kernel_rfl) ?q_2 ?y_2 (by assumption) ?_
  case h_2 => (first | (simp only [List.getElem?_toArray, List.getElem?_cons_zero, List.getElem?_cons_succ]; done) | (simp only [List.getElem?_toArray, List.getElem?_cons_zero, List.getElem?_cons_succ]; exact rfl))
  case q_2 => exact fun _ _ _ h => h
  case y_2 => (refine Or.inl ⟨rfl, ?_⟩; intro w hSw; (try dsimp only at hSw); go_simp; (try with_reducible rfl))
  (try simp only [Act.put, List.setIfInBounds_toArray, List.set_cons_zero, List.set_cons_succ])
  refine wpAnyH_take (i := 3) (oi := ?o_3) (v := .bool true) ?h_3 (by kernel_rfl) (by kernel_rfl) (by kernel_rfl) ?q_3 ?y_3 (by assumption) ?_
  case h_3 => (first | (simp only [List.getElem?_toArray, List.getElem?_cons_zero, List.getElem?_cons_succ]; done) | (simp only [List.getElem?_toArray, List.getElem?_cons_zero, List.getElem?_cons_succ]; exact rfl))
  case q_3 => exact fun _ _ _ h => h
  case y_3 => (refine Or.inl ⟨rfl, ?_⟩; intro w hSw; (try dsimp only at hSw); go_simp; (try with_reducible rfl))
  (try simp only [Act.put, List.setIfInBounds_toArray, List.set_cons_zero, List.set_cons_succ])
  refine wpAnyH_take (i := 4) (oi := ?o_4) (v := ?v_4) ?h_4 (by kernel_rfl) (by kernel_rfl) (by kernel_rfl) ?q_4 ?y_4 (by assumption) ?_
  case h_4 => (first | (simp only [List.getElem?_toArray, List.getElem?_cons_zero, List.getElem?_cons_succ]; done) | (simp only [List.getElem?_toArray, List.getElem?_cons_zero, List.getElem?_cons_succ]; exact rfl))
  case q_4 => exact fun _ _ _ h => h
  case y_4 => (refine Or.inl ⟨rfl, ?_⟩; intro w hSw; (try dsimp only at hSw); go_simp; (try with_reducible rfl))
  (try simp only [Act.put, List.setIfInBounds_toArray, List.set_cons_zero, List.set_cons_succ])
  refine wpAnyH_take (i := 5) (oi := ?o_5) (v := .int .i64 a.se) ?h_5 (by kernel_rfl) (by kernel_rfl) (by kernel_rfl) ?q_5 ?y_5 (by assumption) ?_
  case h_5 => (first | (simp only [List.getElem?_toArray, List.getElem?_cons_zero, List.getElem?_cons_succ]; done) | (simp only [List.getElem?_toArray, List.getElem?_cons_zero, List.getElem?_cons_succ]; exact rfl))
  case q_5 => exact fun _ _ _ h => h
  case y_5 => (refine Or.inl ⟨rfl, ?_⟩; intro w hSw; (try dsimp only at hSw); go_simp; (try with_reducible rfl))
  (try simp only [Act.put, List.setIfInBounds_toArray, List.set_cons_zero, List.set_cons_succ])
  refine wpAnyH_take (i := 6) (oi := ?o_6) (v := ?v_6) ?h_6 (by kernel_rfl) (by kernel_rfl) (by kernel_rfl) ?q_6 ?y_6 (by assumption) ?_
  case h_6 => (first | (simp only [List.getElem?_toArray, List.getElem?_cons_zero, List.getElem?_cons_succ]; done) | (simp only [List.getElem?_toArray, List.getElem?_cons_zero, List.getElem?_cons_succ]; exact rfl))
  case q_6 => exact fun _ _ _ h => h
  case y_6 => (refine Or.inl ⟨rfl, ?_⟩; intro w hSw; (try dsimp only at hSw); go_simp; (try with_reducible rfl))
  (try simp only [Act.put, List.setIfInBounds_toArray, List.set_cons_zero, List.set_cons_succ])
  refine wpAnyH_take (i := 7) (oi := ?o_7) (v := .int .i64 c.se) ?h_7 (by kernel_rfl) (by kernel_rfl) (by kernel_rfl) ?q_7 ?y_7 (by assumption) ?_
  case h_7 => (first | (simp only [List.getElem?_toArray, List.getElem?_cons_zero, List.getElem?_cons_succ]; done) | (simp only [List.getElem?_toArray, List.getElem?_cons_zero, List.getElem?_cons_succ]; exact rfl))
  case q_7 => exact fun _ _ _ h => h
  case y_7 => (refine Or.inl ⟨rfl, ?_⟩; intro w hSw; (try dsimp only at hSw); go_simp; (try with_reducible rfl))
  (try simp only [Act.put, List.setIfInBounds_toArray, List.set_cons_zero, List.set_cons_succ])
  refine wpAnyH_ready (rs := [8]) (by kernel_rfl) (by simp) ?_
  refine AllReadyH.cons (o := ?o_8) ?h_8 (fun K hK => ?_) AllReadyH.nil
  case h_8 => (first | (simp only [List.getElem?_toArray, List.getElem?_cons_zero, List.getElem?_cons_succ]; done) | (simp only [List.getElem?_toArray, List.getElem?_cons_zero, List.getElem?_cons_succ]; exact rfl))
  (try go_simp)
  (go_at_call 63; refine (nearestR _ _ _ _).mono ?_; rintro e w' ⟨rfl, rfl⟩)
  (try go_wp2_with fail)
  refine hK.out _ _ ?_ (fun hHeld2 => ?_)
  · first | exact HRD.out | exact hHeld | (apply HRK.out; assumption; assumption)
  clear hK K hHeld
  have hHeld := hHeld2
  clear hHeld2
  (try simp only [Act.put, List.setIfInBounds_toArray, List.set_cons_zero, List.set_cons_succ])
  refine wpAnyH_take (i := 9) (oi := ?o_9) (v := .bool false) ?h_9 (by kernel_rfl) (by kernel_rfl) (by kernel_rfl) ?q_9 ?y_9 (by assumption) ?_
  case h_9 => (first | (simp only [List.getElem?_toArray, List.getElem?_cons_zero, List.getElem?_cons_succ]; done) | (simp only [List.getElem?_toArray, List.getElem?_cons_zero, List.getElem?_cons_succ]; exact rfl))
  case q_9 => exact fun _ _ _ h => h
  case y_9 => (refine Or.inl ⟨rfl, ?_⟩; intro w hSw; (try dsimp only at hSw); go_simp; (try with_reducible rfl))
  (try simp only [Act.put, List.setIfInBounds_toArray, List.set_cons_zero, List.set_cons_succ])
  refine wpAnyH_take (i := 10) (oi := ?o_10) (v := .bool false) ?h_10 (by kernel_rfl) (by kernel_rfl) (by kernel_rfl) ?q_10 ?y_10 (by assumption) ?_
  case h_10 => (first | (simp only [List.getElem?_toArray, List.getElem?_cons_zero, List.getElem?_cons_succ]; done) | (simp only [List.getElem?_toArray, List.getElem?_cons_zero, List.getElem?_cons_succ]; exact rfl))
  case q_10 => exact fun _ _ _ h => h
  case y_10 => (refine Or.inl ⟨rfl, ?_⟩; intro w hSw; (try dsimp only at hSw); go_simp; (try with_reducible rfl))
  (try simp only [Act.put, List.setIfInBounds_toArray, List.set_cons_zero, List.set_cons_succ])
  refine wpAnyH_take (i := 11) (oi := ?o_11) (v := .bool false) ?h_11 (by kernel_rfl) (by kernel_rfl) (by kernel_rfl) ?q_11 ?y_11 (by assumption) ?_
  case h_11 => (first | (simp only [List.getElem?_toArray, List.getElem?_cons_zero, List.getElem?_cons_succ]; done) | (simp only [List.getElem?_toArray, List.getElem?_cons_zero, List.getElem?_cons_succ]; exact rfl))
  case q_11 => exact fun _ _ _ h => h
  case y_11 => (refine Or.inl ⟨rfl, ?_⟩; intro w hSw; (try dsimp only at hSw); go_simp; (try with_reducible rfl))
  (try simp only [Act.put, List.setIfInBounds_toArray, List.set_cons_zero, List.set_cons_succ])
  refine wpAnyH_take (i := 12) (oi := ?o_12) (v := undef) ?h_12 (by kernel_rfl) (by kernel_rfl) (by kernel_rfl) ?q_12 ?y_12 (by assumption) ?_
  case h_12 => (first | (simp only [List.getElem?_toArray, List.getElem?_cons_zero, List.getElem?_cons_succ]; done) | (simp only [List.getElem?_toArray, List.getElem?_cons_zero, List.getElem?_cons_succ]; exact rfl))
  case q_12 => exact fun _ _ _ h => h
  case y_12 => exact Or.inr ⟨rfl, rfl⟩
  (try simp only [Act.put, List.setIfInBounds_toArray, List.set_cons_zero, List.set_cons_succ])
  refine wpAnyH_take (i := 13) (oi := ?o_13) (v := undef) ?h_13 (by kernel_rfl) (by kernel_rfl) (by kernel_rfl) ?q_13 ?y_13 (by assumption) ?_
  case h_13 => (first | (simp only [List.getElem?_toArray, List.getElem?_cons_zero, List.getElem?_cons_succ]; done) | (simp only [List.getElem?_toArray, List.getElem?_cons_zero, List.getElem?_cons_succ]; exact rfl))
  case q_13 => exact fun _ _ _ h => h
  case y_13 => exact Or.inr ⟨rfl, rfl⟩
  (try simp only [Act.put, List.setIfInBounds_toArray, List.set_cons_zero, List.set_cons_succ])
  refine wpAnyH_take (i := 14) (oi := ?o_14) (v := undef) ?h_14 (by kernel_rfl) (by kernel_rfl) (by kernel_rfl) ?q_14 ?y_14 (by assumption) ?_
  case h_14 => (first | (simp only [List.getElem?_toArray, List.getElem?_cons_zero, List.getElem?_cons_succ]; done) | (simp only [List.getElem?_toArray, List.getElem?_cons_zero, List.getElem?_cons_succ]; exact rfl))
  case q_14 => exact fun _ _ _ h => h
  case y_14 => exact Or.inr ⟨rfl, rfl⟩
  (try simp only [Act.put, List.setIfInBounds_toArray, List.set_cons_zero, List.set_cons_succ])
  refine wpAnyH_take (i := 15) (oi := ?o_15) (v := .bool false) ?h_15 (by kernel_rfl) (by kernel_rfl) (by kernel_rfl) ?q_15 ?y_15 (by assumption) ?_
  case h_15 => (first | (simp only [List.getElem?_toArray, List.getElem?_cons_zero, List.getElem?_cons_succ]; done) | (simp only [List.getElem?_toArray, List.getElem?_cons_zero, List.getElem?_cons_succ]; exact rfl))
  case q_15 => exact fun _ _ _ h => h
  case y_15 => (refine Or.inl ⟨rfl, ?_⟩; intro w hSw; (try dsimp only at hSw); go_simp; (try with_reducible rfl))
  (try simp only [Act.put, List.setIfInBounds_toArray, List.set_cons_zero, List.set_cons_succ])
  refine wpAnyH_take (i := 16) (oi := ?o_16) (v := .bool false) ?h_16 (by kernel_rfl) (by kernel_rfl) (by kernel_rfl) ?q_16 ?y_16 (by assumption) ?_
  case h_16 => (first | (simp only [List.getElem?_toArray, List.getElem?_cons_zero, List.getElem?_cons_succ]; done) | (simp only [List.getElem?_toArray, List.getElem?_cons_zero, List.getElem?_cons_succ]; exact rfl))
  case q_16 => exact fun _ _ _ h => h
  case y_16 => (refine Or.inl ⟨rfl, ?_⟩; intro w hSw; (try dsimp only at hSw); go_simp; (try with_reducible rfl))
  (try simp only [Act.put, List.setIfInBounds_toArray, List.set_cons_zero, List.set_cons_succ])
  refine wpAnyH_take (i := 17) (oi := ?o_17) (v := undef) ?h_17 (by kernel_rfl) (by kernel_rfl) (by kernel_rfl) ?q_17 ?y_17 (by assumption) ?_
  case h_17 => (first | (simp only [List.getElem?_toArray, List.getElem?_cons_zero, List.getElem?_cons_succ]; done) | (simp only [List.getElem?_toArray, List.getElem?_cons_zero, List.getElem?_cons_succ]; exact rfl))
  case q_17 => exact fun _ _ _ h => h
  case y_17 => exact Or.inr ⟨rfl, rfl⟩
  (try simp only [Act.put, List.setIfInBounds_toArray, List.set_cons_zero, List.set_cons_succ])
  refine wpAnyH_take (i := 18) (oi := ?o_18) (v := undef) ?h_18 (by kernel_rfl) (by kernel_rfl) (by kernel_rfl) ?q_18 ?y_18 (by assumption) ?_
  case h_18 => (first | (simp only [List.getElem?_toArray, List.getElem?_cons_zero, List.getElem?_cons_succ]; done) | (simp only [List.getElem?_toArray, List.getElem?_cons_zero, List.getElem?_cons_succ]; exact rfl))
  case q_18 => exact fun _ _ _ h => h
  case y_18 => exact Or.inr ⟨rfl, rfl⟩
  (try simp only [Act.put, List.setIfInBounds_toArray, List.set_cons_zero, List.set_cons_succ])
  refine wpAnyH_take (i := 19) (oi := ?o_19) (v := undef) ?h_19 (by kernel_rfl) (by kernel_rfl) (by kernel_rfl) ?q_19 ?y_19 (by assumption) ?_
  case h_19 => (first | (simp only [List.getElem?_toArray, List.getElem?_cons_zero, List.getElem?_cons_succ]; done) | (simp only [List.getElem?_toArray, List.getElem?_cons_zero, List.getElem?_cons_succ]; exact rfl))
  case q_19 => exact fun _ _ _ h => h
  case y_19 => exact Or.inr ⟨rfl, rfl⟩
  (try simp only [Act.put, List.setIfInBounds_toArray, List.set_cons_zero, List.set_cons_succ])
  refine wpAnyH_take (i := 20) (oi := ?o_20) (v := undef) ?h_20 (by kernel_rfl) (by kernel_rfl) (by kernel_rfl) ?q_20 ?y_20 (by assumption) ?_
  case h_20 => (first | (simp only [List.getElem?_toArray, List.getElem?_cons_zero, List.getElem?_cons_succ]; done) | (simp only [List.getElem?_toArray, List.getElem?_cons_zero, List.getElem?_cons_succ]; exact rfl))
  case q_20 => exact fun _ _ _ h => h
  case y_20 => exact Or.inr ⟨rfl, rfl⟩
  (try simp only [Act.put, List.setIfInBounds_toArray, List.set_cons_zero, List.set_cons_succ])
  refine wpAnyH_take (i := 21) (oi := ?o_21) (v := undef) ?h_21 (by kernel_rfl) (by kernel_rfl) (by kernel_rfl) ?q_21 ?y_21 (by assumption) ?_
  case h_21 => (first | (simp only [List.getElem?_toArray, List.getElem?_cons_zero, List.getElem?_cons_succ]; done) | (simp only [List.getElem?_toArray, List.getElem?_cons_zero, List.getElem?_cons_succ]; exact rfl))
  case q_21 => exact fun _ _ _ h => h
  case y_21 => exact Or.inr ⟨rfl, rfl⟩
  (try simp only [Act.put, List.setIfInBounds_toArray, List.set_cons_zero, List.set_cons_succ])
  refine wpAnyH_take (i := 22) (oi := ?o_22) (v := undef) ?h_22 (by kernel_rfl) (by kernel_rfl) (by kernel_rfl) ?q_22 ?y_22 (by assumption) ?_
  case h_22 => (first | (simp only [List.getElem?_toArray, List.getElem?_cons_zero, List.getElem?_cons_succ]; done) | (simp only [List.getElem?_toArray, List.getElem?_cons_zero, List.getElem?_cons_succ]; exact rfl))
  case q_22 => exact fun _ _ _ h => h
  case y_22 => exact Or.inr ⟨rfl, rfl⟩
  (try simp only [Act.put, List.setIfInBounds_toArray, List.set_cons_zero, List.set_cons_succ])
  refine wpAnyH_take (i := 23) (oi := ?o_23) (v := .bool false) ?h_23 (by kernel_rfl) (by kernel_rfl) (by kernel_rfl) ?q_23 ?y_23 (by assumption) ?_
  case h_23 => (first | (simp only [List.getElem?_toArray, List.getElem?_cons_zero, List.getElem?_cons_succ]; done) | (simp only [List.getElem?_toArray, List.getElem?_cons_zero, List.getElem?_cons_succ]; exact rfl))
  case q_23 => exact fun _ _ _ h => h
  case y_23 => (refine Or.inl ⟨rfl, ?_⟩; intro w hSw; (try dsimp only at hSw); go_simp; (try with_reducible rfl))
  (try simp only [Act.put, List.setIfInBounds_toArray, List.set_cons_zero, List.set_cons_succ])
  refine wpAnyH_take (i := 24) (oi := ?o_24) (v := .bool false) ?h_24 (by kernel_rfl) (by kernel_rfl) (by kernel_rfl) ?q_24 ?y_24 (by assumption) ?_
  case h_24 => (first | (simp only [List.getElem?_toArray, List.getElem?_cons_zero, List.getElem?_cons_succ]; done) | (simp only [List.getElem?_toArray, List.getElem?_cons_zero, List.getElem?_cons_succ]; exact rfl))
  case q_24 => exact fun _ _ _ h => h
  case y_24 => (refine Or.inl ⟨rfl, ?_⟩; intro w hSw; (try dsimp only at hSw); go_simp; (try with_reducible rfl))
  (try simp only [Act.put, List.setIfInBounds_toArray, List.set_cons_zero, List.set_cons_succ])
  refine wpAnyH_take (i := 25) (oi := ?o_25) (v := undef) ?h_25 (by kernel_rfl) (by kernel_rfl) (by kernel_rfl) ?q_25 ?y_25 (by assumption) ?_
  case h_25 => (first | (simp only [List.getElem?_toArray, List.getElem?_cons_zero, List.getElem?_cons_succ]; done) | (simp only [List.getElem?_toArray, List.getElem?_cons_zero, List.getElem?_cons_succ]; exact rfl))
  case q_25 => exact fun _ _ _ h => h
  case y_25 => exact Or.inr ⟨rfl, rfl⟩
  (try simp only [Act.put, List.setIfInBounds_toArray, List.set_cons_zero, List.set_cons_succ])
  refine wpAnyH_take (i := 26) (oi := ?o_26) (v := undef) ?h_26 (by kernel_rfl) (by kernel_rfl) (by kernel_rfl) ?q_26 ?y_26 (by assumption) ?_
  case h_26 => (first | (simp only [List.getElem?_toArray, List.getElem?_cons_zero, List.getElem?_cons_succ]; done) | (simp only [List.getElem?_toArray, List.getElem?_cons_zero, List.getElem?_cons_succ]; exact rfl))
  case q_26 => exact fun _ _ _ h => h
  case y_26 => exact Or.inr ⟨rfl, rfl⟩
  (try simp only [Act.put, List.setIfInBounds_toArray, List.set_cons_zero, List.set_cons_succ])
  refine wpAnyH_take (i := 27) (oi := ?o_27) (v := undef) ?h_27 (by kernel_rfl) (by kernel_rfl) (by kernel_rfl) ?q_27 ?y_27 (by assumption) ?_
  case h_27 => (first | (simp only [List.getElem?_toArray, List.getElem?_cons_zero, List.getElem?_cons_succ]; done) | (simp only [List.getElem?_toArray, List.getElem?_cons_zero, List.getElem?_cons_succ]; exact rfl))
  case q_27 => exact fun _ _ _ h => h
  case y_27 => exact Or.inr ⟨rfl, rfl⟩
  (try simp only [Act.put, List.setIfInBounds_toArray, List.set_cons_zero, List.set_cons_succ])
  refine wpAnyH_take (i := 28) (oi := ?o_28) (v := .bool false) ?h_28 (by kernel_rfl) (by kernel_rfl) (by kernel_rfl) ?q_28 ?y_28 (by assumption) ?_
  case h_28 => (first | (simp only [List.getElem?_toArray, List.getElem?_cons_zero, List.getElem?_cons_succ]; done) | (simp only [List.getElem?_toArray, List.getElem?_cons_zero, List.getElem?_cons_succ]; exact rfl))
  case q_28 => exact fun _ _ _ h => h
  case y_28 => (refine Or.inl ⟨rfl, ?_⟩; intro w hSw; (try dsimp only at hSw); go_simp; (try with_reducible rfl))
  (try simp only [Act.put, List.setIfInBounds_toArray, List.set_cons_zero, List.set_cons_succ])
  refine wpAnyH_take (i := 29) (oi := ?o_29) (v := .bool false) ?h_29 (by kernel_rfl) (by kernel_rfl) (by kernel_rfl) ?q_29 ?y_29 (by assumption) ?_
  case h_29 => (first | (simp only [List.getElem?_toArray, List.getElem?_cons_zero, List.getElem?_cons_succ]; done) | (simp only [List.getElem?_toArray, List.getElem?_cons_zero, List.getElem?_cons_succ]; exact rfl))
  case q_29 => exact fun _ _ _ h => h
  case y_29 => (refine Or.inl ⟨rfl, ?_⟩; intro w hSw; (try dsimp only at hSw); go_simp; (try with_reducible rfl))
  (try simp only [Act.put, List.setIfInBounds_toArray, List.set_cons_zero, List.set_cons_succ])
  refine wpAnyH_take (i := 30) (oi := ?o_30) (v := undef) ?h_30 (by kernel_rfl) (by kernel_rfl) (by kernel_rfl) ?q_30 ?y_30 (by assumption) ?_
  case h_30 => (first | (simp only [List.getElem?_toArray, List.getElem?_cons_zero, List.getElem?_cons_succ]; done) | (simp only [List.getElem?_toArray, List.getElem?_cons_zero, List.getElem?_cons_succ]; exact rfl))
  case q_30 => exact fun _ _ _ h => h
  case y_30 => exact Or.inr ⟨rfl, rfl⟩
  (try simp only [Act.put, List.setIfInBounds_toArray, List.set_cons_zero, List.set_cons_succ])
  refine wpAnyH_take (i := 31) (oi := ?o_31) (v := undef) ?h_31 (by kernel_rfl) (by kernel_rfl) (by kernel_rfl) ?q_31 ?y_31 (by assumption) ?_
  case h_31 => (first | (simp only [List.getElem?_toArray, List.getElem?_cons_zero, List.getElem?_cons_succ]; done) | (simp only [List.getElem?_toArray, List.getElem?_cons_zero, List.getElem?_cons_succ]; exact rfl))
  case q_31 => exact fun _ _ _ h => h
  case y_31 => exact Or.inr ⟨rfl, rfl⟩
  (try simp only [Act.put, List.setIfInBounds_toArray, List.set_cons_zero, List.set_cons_succ])
  refine wpAnyH_take (i := 32) (oi := ?o_32) (v := undef) ?h_32 (by kernel_rfl) (by kernel_rfl) (by kernel_rfl) ?q_32 ?y_32 (by assumption) ?_
  case h_32 => (first | (simp only [List.getElem?_toArray, List.getElem?_cons_zero, List.getElem?_cons_succ]; done) | (simp only [List.getElem?_toArray, List.getElem?_cons_zero, List.getElem?_cons_succ]; exact rfl))
  case q_32 => exact fun _ _ _ h => h
  case y_32 => exact Or.inr ⟨rfl, rfl⟩
  (try simp only [Act.put, List.setIfInBounds_toArray, List.set_cons_zero, List.set_cons_succ])
  refine wpAnyH_take (i := 33) (oi := ?o_33) (v := undef) ?h_33 (by kernel_rfl) (by kernel_rfl) (by kernel_rfl) ?q_33 ?y_33 (by assumption) ?_
  case h_33 => (first | (simp only [List.getElem?_toArray, List.getElem?_cons_zero, List.getElem?_cons_succ]; done) | (simp only [List.getElem?_toArray, List.getElem?_cons_zero, List.getElem?_cons_succ]; exact rfl))
  case q_33 => exact fun _ _ _ h => h
  case y_33 => exact Or.inr ⟨rfl, rfl⟩
  (try simp only [Act.put, List.setIfInBounds_toArray, List.set_cons_zero, List.set_cons_succ])
  refine wpAnyH_take (i := 34) (oi := ?o_34) (v := .bool false) ?h_34 (by kernel_rfl) (by kernel_rfl) (by kernel_rfl) ?q_34 ?y_34 (by assumption) ?_
  case h_34 => (first | (simp only [List.getElem?_toArray, List.getElem?_cons_zero, List.getElem?_cons_succ]; done) | (simp only [List.getElem?_toArray, List.getElem?_cons_zero, List.getElem?_cons_succ]; exact rfl))
  case q_34 => exact fun _ _ _ h => h
  case y_34 => (refine Or.inl ⟨rfl, ?_⟩; intro w hSw; (try dsimp only at hSw); go_simp; (try with_reducible rfl))
  (try simp only [Act.put, List.setIfInBounds_toArray, List.set_cons_zero, List.set_cons_succ])
  refine wpAnyH_take (i := 35) (oi := ?o_35) (v := .bool false) ?h_35 (by kernel_rfl) (by kernel_rfl) (by kernel_rfl) ?q_35 ?y_35 (by assumption) ?_
  case h_35 => (first | (simp only [List.getElem?_toArray, List.getElem?_cons_zero, List.getElem?_cons_succ]; done) | (simp only [List.getElem?_toArray, List.getElem?_cons_zero, List.getElem?_cons_succ]; exact rfl))
  case q_35 => exact fun _ _ _ h => h
  case y_35 => (refine Or.inl ⟨rfl, ?_⟩; intro w hSw; (try dsimp only at hSw); go_simp; (try with_reducible rfl))
  (try simp only [Act.put, List.setIfInBounds_toArray, List.set_cons_zero, List.set_cons_succ])
  refine wpAnyH_take (i := 36) (oi := ?o_36) (v := undef) ?h_36 (by kernel_rfl) (by kernel_rfl) (by kernel_rfl) ?q_36 ?y_36 (by assumption) ?_
  case h_36 => (first | (simp only [List.getElem?_toArray, List.getElem?_cons_zero, List.getElem?_cons_succ]; done) | (simp only [List.getElem?_toArray, List.getElem?_cons_zero, List.getElem?_cons_succ]; exact rfl))
  case q_36 => exact fun _ _ _ h => h
  case y_36 => exact Or.inr ⟨rfl, rfl⟩
  (try simp only [Act.put, List.setIfInBounds_toArray, List.set_cons_zero, List.set_cons_succ])
  refine wpAnyH_take (i := 37) (oi := ?o_37) (v := undef) ?h_37 (by kernel_rfl) (by kernel_rfl) (by kernel_rfl) ?q_37 ?y_37 (by assumption) ?_
  case h_37 => (first | (simp only [List.getElem?_toArray, List.getElem?_cons_zero, List.getElem?_cons_succ]; done) | (simp only [List.getElem?_toArray, List.getElem?_cons_zero, List.getElem?_cons_succ]; exact rfl))
  case q_37 => exact fun _ _ _ h => h
  case y_37 => exact Or.inr ⟨rfl, rfl⟩
  (try simp only [Act.put, List.setIfInBounds_toArray, List.set_cons_zero, List.set_cons_succ])
  refine wpAnyH_take (i := 38) (oi := ?o_38) (v := undef) ?h_38 (by kernel_rfl) (by kernel_rfl) (by kernel_rfl) ?q_38 ?y_38 (by assumption) ?_
  case h_38 => (first | (simp only [List.getElem?_toArray, List.getElem?_cons_zero, List.getElem?_cons_succ]; done) | (simp only [List.getElem?_toArray, List.getElem?_cons_zero, List.getElem?_cons_succ]; exact rfl))
  case q_38 => exact fun _ _ _ h => h
  case y_38 => exact Or.inr ⟨rfl, rfl⟩
  (try simp only [Act.put, List.setIfInBounds_toArray, List.set_cons_zero, List.set_cons_succ])
  refine wpAnyH_take (i := 39) (oi := ?o_39) (v := .bool false) ?h_39 (by kernel_rfl) (by kernel_rfl) (by kernel_rfl) ?q_39 ?y_39 (by assumption) ?_
  case h_39 => (first | (simp only [List.getElem?_toArray, List.getElem?_cons_zero, List.getElem?_cons_succ]; done) | (simp only [List.getElem?_toArray, List.getElem?_cons_zero, List.getElem?_cons_succ]; exact rfl))
  case q_39 => exact fun _ _ _ h => h
  case y_39 => (refine Or.inl ⟨rfl, ?_⟩; intro w hSw; (try dsimp only at hSw); go_simp; (try with_reducible rfl))
  (try simp only [Act.put, List.setIfInBounds_toArray, List.set_cons_zero, List.set_cons_succ])
  refine wpAnyH_take (i := 40) (oi := ?o_40) (v := .bool false) ?h_40 (by kernel_rfl) (by kernel_rfl) (by kernel_rfl) ?q_40 ?y_40 (by assumption) ?_
  case h_40 => (first | (simp only [List.getElem?_toArray, List.getElem?_cons_zero, List.getElem?_cons_succ]; done) | (simp only [List.getElem?_toArray, List.getElem?_cons_zero, List.getElem?_cons_succ]; exact rfl))
  case q_40 => exact fun _ _ _ h => h
  case y_40 => (refine Or.inl ⟨rfl, ?_⟩; intro w hSw; (try dsimp only at hSw); go_simp; (try with_reducible rfl))
  (try simp only [Act.put, List.setIfInBounds_toArray, List.set_cons_zero, List.set_cons_succ])
  refine wpAnyH_take (i := 41) (oi := ?o_41) (v := undef) ?h_41 (by kernel_rfl) (by kernel_rfl) (by kernel_rfl) ?q_41 ?y_41 (by assumption) ?_
  case h_41 => (first | (simp only [List.getElem?_toArray, List.getElem?_cons_zero, List.getElem?_cons_succ]; done) | (simp only [List.getElem?_toArray, List.getElem?_cons_zero, List.getElem?_cons_succ]; exact rfl))
  case q_41 => exact fun _ _ _ h => h
  case y_41 => exact Or.inr ⟨rfl, rfl⟩
  (try simp only [Act.put, List.setIfInBounds_toArray, List.set_cons_zero, List.set_cons_succ])
  refine wpAnyH_take (i := 42) (oi := ?o_42) (v := undef) ?h_42 (by kernel_rfl) (by kernel_rfl) (by kernel_rfl) ?q_42 ?y_42 (by assumption) ?_
  case h_42 => (first | (simp only [List.getElem?_toArray, List.getElem?_cons_zero, List.getElem?_cons_succ]; done) | (simp only [List.getElem?_toArray, List.getElem?_cons_zero, List.getElem?_cons_succ]; exact rfl))
  case q_42 => exact fun _ _ _ h => h
  case y_42 => exact Or.inr ⟨rfl, rfl⟩
  (try simp only [Act.put, List.setIfInBounds_toArray, List.set_cons_zero, List.set_cons_succ])
  refine wpAnyH_take (i := 43) (oi := ?o_43) (v := undef) ?h_43 (by kernel_rfl) (by kernel_rfl) (by kernel_rfl) ?q_43 ?y_43 (by assumption) ?_
  case h_43 => (first | (simp only [List.getElem?_toArray, List.getElem?_cons_zero, List.getElem?_cons_succ]; done) | (simp only [List.getElem?_toArray, List.getElem?_cons_zero, List.getElem?_cons_succ]; exact rfl))
  case q_43 => exact fun _ _ _ h => h
  case y_43 => exact Or.inr ⟨rfl, rfl⟩
  (try simp only [Act.put, List.setIfInBounds_toArray, List.set_cons_zero, List.set_cons_succ])
  refine wpAnyH_take (i := 44) (oi := ?o_44) (v := undef) ?h_44 (by kernel_rfl) (by kernel_rfl) (by kernel_rfl) ?q_44 ?y_44 (by assumption) ?_
  case h_44 => (first | (simp only [List.getElem?_toArray, List.getElem?_cons_zero, List.getElem?_cons_succ]; done) | (simp only [List.getElem?_toArray, List.getElem?_cons_zero, List.getElem?_cons_succ]; exact rfl))
  case q_44 => exact fun _ _ _ h => h
  case y_44 => exact Or.inr ⟨rfl, rfl⟩
  (try simp only [Act.put, List.setIfInBounds_toArray, List.set_cons_zero, List.set_cons_succ])
  refine wpAnyH_take (i := 45) (oi := ?o_45) (v := .bool false) ?h_45 (by kernel_rfl) (by kernel_rfl) (by kernel_rfl) ?q_45 ?y_45 (by assumption) ?_
  case h_45 => (first | (simp only [List.getElem?_toArray, List.getElem?_cons_zero, List.getElem?_cons_succ]; done) | (simp only [List.getElem?_toArray, List.getElem?_cons_zero, List.getElem?_cons_succ]; exact rfl))
  case q_45 => exact fun _ _ _ h => h
  case y_45 => (refine Or.inl ⟨rfl, ?_⟩; intro w hSw; (try dsimp only at hSw); go_simp; (try with_reducible rfl))
  (try simp only [Act.put, List.setIfInBounds_toArray, List.set_cons_zero, List.set_cons_succ])
  refine wpAnyH_take (i := 46) (oi := ?o_46) (v := .bool false) ?h_46 (by kernel_rfl) (by kernel_rfl) (by kernel_rfl) ?q_46 ?y_46 (by assumption) ?_
  case h_46 => (first | (simp only [List.getElem?_toArray, List.getElem?_cons_zero, List.getElem?_cons_succ]; done) | (simp only [List.getElem?_toArray, List.getElem?_cons_zero, List.getElem?_cons_succ]; exact rfl))
  case q_46 => exact fun _ _ _ h => h
  case y_46 => (refine Or.inl ⟨rfl, ?_⟩; intro w hSw; (try dsimp only at hSw); go_simp; (try with_reducible rfl))
  (try simp only [Act.put, List.setIfInBounds_toArray, List.set_cons_zero, List.set_cons_succ])
  refine wpAnyH_take (i := 47) (oi := ?o_47) (v := undef) ?h_47 (by kernel_rfl) (by kernel_rfl) (by kernel_rfl) ?q_47 ?y_47 (by assumption) ?_
  case h_47 => (first | (simp only [List.getElem?_toArray, List.getElem?_cons_zero, List.getElem?_cons_succ]; done) | (simp only [List.getElem?_toArray, List.getElem?_cons_zero, List.getElem?_cons_succ]; exact rfl))
  case q_47 => exact fun _ _ _ h => h
  case y_47 => exact Or.inr ⟨rfl, rfl⟩
  (try simp only [Act.put, List.setIfInBounds_toArray, List.set_cons_zero, List.set_cons_succ])
  refine wpAnyH_take (i := 48) (oi := ?o_48) (v := undef) ?h_48 (by kernel_rfl) (by kernel_rfl) (by kernel_rfl) ?q_48 ?y_48 (by assumption) ?_
  case h_48 => (first | (simp only [List.getElem?_toArray, List.getElem?_cons_zero, List.getElem?_cons_succ]; done) | (simp only [List.getElem?_toArray, List.getElem?_cons_zero, List.getElem?_cons_succ]; exact rfl))
  case q_48 => exact fun _ _ _ h => h
  case y_48 => exact Or.inr ⟨rfl, rfl⟩
  (try simp only [Act.put, List.setIfInBounds_toArray, List.set_cons_zero, List.set_cons_succ])
  refine wpAnyH_take (i := 49) (oi := ?o_49) (v := undef) ?h_49 (by kernel_rfl) (by kernel_rfl) (by kernel_rfl) ?q_49 ?y_49 (by assumption) ?_
  case h_49 => (first | (simp only [List.getElem?_toArray, List.getElem?_cons_zero, List.getElem?_cons_succ]; done) | (simp only [List.getElem?_toArray, List.getElem?_cons_zero, List.getElem?_cons_succ]; exact rfl))
  case q_49 => exact fun _ _ _ h => h
  case y_49 => exact Or.inr ⟨rfl, rfl⟩
  (try simp only [Act.put, List.setIfInBounds_toArray, List.set_cons_zero, List.set_cons_succ])
  refine wpAnyH_take (i := 50) (oi := ?o_50) (v := undef) ?h_50 (by kernel_rfl) (by kernel_rfl) (by kernel_rfl) ?q_50 ?y_50 (by assumption) ?_
  case h_50 => (first | (simp only [List.getElem?_toArray, List.getElem?_cons_zero, List.getElem?_cons_succ]; done) | (simp only [List.getElem?_toArray, List.getElem?_cons_zero, List.getElem?_cons_succ]; exact rfl))
  case q_50 => exact fun _ _ _ h => h
  case y_50 => exact Or.inr ⟨rfl, rfl⟩
  (try simp only [Act.put, List.setIfInBounds_toArray, List.set_cons_zero, List.set_cons_succ])
  refine wpAnyH_take (i := 51) (oi := ?o_51) (v := undef) ?h_51 (by kernel_rfl) (by kernel_rfl) (by kernel_rfl) ?q_51 ?y_51 (by assumption) ?_
  case h_51 => (first | (simp only [List.getElem?_toArray, List.getElem?_cons_zero, List.getElem?_cons_succ]; done) | (simp only [List.getElem?_toArray, List.getElem?_cons_zero, List.getElem?_cons_succ]; exact rfl))
  case q_51 => exact fun _ _ _ h => h
  case y_51 => exact Or.inr ⟨rfl, rfl⟩
  (try simp only [Act.put, List.setIfInBounds_toArray, List.set_cons_zero, List.set_cons_succ])
  refine wpAnyH_take (i := 52) (oi := ?o_52) (v := .bool false) ?h_52 (by kernel_rfl) (by kernel_rfl) (by kernel_rfl) ?q_52 ?y_52 (by assumption) ?_
  case h_52 => (first | (simp only [List.getElem?_toArray, List.getElem?_cons_zero, List.getElem?_cons_succ]; done) | (simp only [List.getElem?_toArray, List.getElem?_cons_zero, List.getElem?_cons_succ]; exact rfl))
  case q_52 => exact fun _ _ _ h => h
  case y_52 => (refine Or.inl ⟨rfl, ?_⟩; intro w hSw; (try dsimp only at hSw); go_simp; (try with_reducible rfl))
  (try simp only [Act.put, List.setIfInBounds_toArray, List.set_cons_zero, List.set_cons_succ])
  refine wpAnyH_take (i := 53) (oi := ?o_53) (v := .bool false) ?h_53 (by kernel_rfl) (by kernel_rfl) (by kernel_rfl) ?q_53 ?y_53 (by assumption) ?_
  case h_53 => (first | (simp only [List.getElem?_toArray, List.getElem?_cons_zero, List.getElem?_cons_succ]; done) | (simp only [List.getElem?_toArray, List.getElem?_cons_zero, List.getElem?_cons_succ]; exact rfl))
  case q_53 => exact fun _ _ _ h => h
  case y_53 => (refine Or.inl ⟨rfl, ?_⟩; intro w hSw; (try dsimp only at hSw); go_simp; (try with_reducible rfl))
  (try simp only [Act.put, List.setIfInBounds_toArray, List.set_cons_zero, List.set_cons_succ])
  refine wpAnyH_take (i := 54) (oi := ?o_54) (v := undef) ?h_54 (by kernel_rfl) (by kernel_rfl) (by kernel_rfl) ?q_54 ?y_54 (by assumption) ?_
  case h_54 => (first | (simp only [List.getElem?_toArray, List.getElem?_cons_zero, List.getElem?_cons_succ]; done) | (simp only [List.getElem?_toArray, List.getElem?_cons_zero, List.getElem?_cons_succ]; exact rfl))
  case q_54 => exact fun _ _ _ h => h
  case y_54 => exact Or.inr ⟨rfl, rfl⟩
  (try simp only [Act.put, List.setIfInBounds_toArray, List.set_cons_zero, List.set_cons_succ])
  refine wpAnyH_take (i := 55) (oi := ?o_55) (v := undef) ?h_55 (by kernel_rfl) (by kernel_rfl) (by kernel_rfl) ?q_55 ?y_55 (by assumption) ?_
  case h_55 => (first | (simp only [List.getElem?_toArray, List.getElem?_cons_zero, List.getElem?_cons_succ]; done) | (simp only [List.getElem?_toArray, List.getElem?_cons_zero, List.getElem?_cons_succ]; exact rfl))
  case q_55 => exact fun _ _ _ h => h
  case y_55 => exact Or.inr ⟨rfl, rfl⟩
  (try simp only [Act.put, List.setIfInBounds_toArray, List.set_cons_zero, List.set_cons_succ])
  refine wpAnyH_take (i := 56) (oi := ?o_56) (v := undef) ?h_56 (by kernel_rfl) (by kernel_rfl) (by kernel_rfl) ?q_56 ?y_56 (by assumption) ?_
  case h_56 => (first | (simp only [List.getElem?_toArray, List.getElem?_cons_zero, List.getElem?_cons_succ]; done) | (simp only [List.getElem?_toArray, List.getElem?_cons_zero, List.getElem?_cons_succ]; exact rfl))
  case q_56 => exact fun _ _ _ h => h
  case y_56 => exact Or.inr ⟨rfl, rfl⟩
  (try simp only [Act.put, List.setIfInBounds_toArray, List.set_cons_zero, List.set_cons_succ])
  refine wpAnyH_take (i := 57) (oi := ?o_57) (v := .bool false) ?h_57 (by kernel_rfl) (by kernel_rfl) (by kernel_rfl) ?q_57 ?y_57 (by assumption) ?_
  case h_57 => (first | (simp only [List.getElem?_toArray, List.getElem?_cons_zero, List.getElem?_cons_succ]; done) | (simp only [List.getElem?_toArray, List.getElem?_cons_zero, List.getElem?_cons_succ]; exact rfl))
  case q_57 => exact fun _ _ _ h => h
  case y_57 => (refine Or.inl ⟨rfl, ?_⟩; intro w hSw; (try dsimp only at hSw); go_simp; (try with_reducible rfl))
  (try simp only [Act.put, List.setIfInBounds_toArray, List.set_cons_zero, List.set_cons_succ])
  refine wpAnyH_take (i := 58) (oi := ?o_58) (v := .bool false) ?h_58 (by kernel_rfl) (by kernel_rfl) (by kernel_rfl) ?q_58 ?y_58 (by assumption) ?_
  case h_58 => (first | (simp only [List.getElem?_toArray, List.getElem?_cons_zero, List.getElem?_cons_succ]; done) | (simp only [List.getElem?_toArray, List.getElem?_cons_zero, List.getElem?_cons_succ]; exact rfl))
  case q_58 => exact fun _ _ _ h => h
  case y_58 => (refine Or.inl ⟨rfl, ?_⟩; intro w hSw; (try dsimp only at hSw); go_simp; (try with_reducible rfl))
  (try simp only [Act.put, List.setIfInBounds_toArray, List.set_cons_zero, List.set_cons_succ])
  refine wpAnyH_take (i := 59) (oi := ?o_59) (v := undef) ?h_59 (by kernel_rfl) (by kernel_rfl) (by kernel_rfl) ?q_59 ?y_59 (by assumption) ?_
  case h_59 => (first | (simp only [List.getElem?_toArray, List.getElem?_cons_zero, List.getElem?_cons_succ]; done) | (simp only [List.getElem?_toArray, List.getElem?_cons_zero, List.getElem?_cons_succ]; exact rfl))
  case q_59 => exact fun _ _ _ h => h
  case y_59 => exact Or.inr ⟨rfl, rfl⟩
  (try simp only [Act.put, List.setIfInBounds_toArray, List.set_cons_zero, List.set_cons_succ])
  refine wpAnyH_take (i := 60) (oi := ?o_60) (v := undef) ?h_60 (by kernel_rfl) (by kernel_rfl) (by kernel_rfl) ?q_60 ?y_60 (by assumption) ?_
  case h_60 => (first | (simp only [List.getElem?_toArray, List.getElem?_cons_zero, List.getElem?_cons_succ]; done) | (simp only [List.getElem?_toArray, List.getElem?_cons_zero, List.getElem?_cons_succ]; exact rfl))
  case q_60 => exact fun _ _ _ h => h
  case y_60 => exact Or.inr ⟨rfl, rfl⟩
  (try simp only [Act.put, List.setIfInBounds_toArray, List.set_cons_zero, List.set_cons_succ])
  refine wpAnyH_take (i := 61) (oi := ?o_61) (v := undef) ?h_61 (by kernel_rfl) (by kernel_rfl) (by kernel_rfl) ?q_61 ?y_61 (by assumption) ?_
  case h_61 => (first | (simp only [List.getElem?_toArray, List.getElem?_cons_zero, List.getElem?_cons_succ]; done) | (simp only [List.getElem?_toArray, List.getElem?_cons_zero, List.getElem?_cons_succ]; exact rfl))
  case q_61 => exact fun _ _ _ h => h
  case y_61 => exact Or.inr ⟨rfl, rfl⟩
  (try simp only [Act.put, List.setIfInBounds_toArray, List.set_cons_zero, List.set_cons_succ])
  refine wpAnyH_take (i := 62) (oi := ?o_62) (v := undef) ?h_62 (by kernel_rfl) (by kernel_rfl) (by kernel_rfl) ?q_62 ?y_62 (by assumption) ?_
  case h_62 => (first | (simp only [List.getElem?_toArray, List.getElem?_cons_zero, List.getElem?_cons_succ]; done) | (simp only [List.getElem?_toArray, List.getElem?_cons_zero, List.getElem?_cons_succ]; exact rfl))
  case q_62 => exact fun _ _ _ h => h
  case y_62 => exact Or.inr ⟨rfl, rfl⟩
  (try simp only [Act.put, List.setIfInBounds_toArray, List.set_cons_zero, List.set_cons_succ])
  refine wpAnyH_take (i := 63) (oi := ?o_63) (v := undef) ?h_63 (by kernel_rfl) (by kernel_rfl) (by kernel_rfl) ?q_63 ?y_63 (by assumption) ?_
  case h_63 => (first | (simp only [List.getElem?_toArray, List.getElem?_cons_zero, List.getElem?_cons_succ]; done) | (simp only [List.getElem?_toArray, List.getElem?_cons_zero, List.getElem?_cons_succ]; exact rfl))
  case q_63 => exact fun _ _ _ h => h
  case y_63 => exact Or.inr ⟨rfl, rfl⟩
  (try simp only [Act.put, List.setIfInBounds_toArray, List.set_cons_zero, List.set_cons_succ])
  refine wpAnyH_take (i := 64) (oi := ?o_64) (v := undef) ?h_64 (by kernel_rfl) (by kernel_rfl) (by kernel_rfl) ?q_64 ?y_64 (by assumption) ?_
  case h_64 => (first | (simp only [List.getElem?_toArray, List.getElem?_cons_zero, List.getElem?_cons_succ]; done) | (simp only [List.getElem?_toArray, List.getElem?_cons_zero, List.getElem?_cons_succ]; exact rfl))
  case q_64 => exact fun _ _ _ h => h
  case y_64 => exact Or.inr ⟨rfl, rfl⟩
  (try simp only [Act.put, List.setIfInBounds_toArray, List.set_cons_zero, List.set_cons_succ])
  refine wpAnyH_take (i := 65) (oi := ?o_65) (v := .bool false) ?h_65 (by kernel_rfl) (by kernel_rfl) (by kernel_rfl) ?q_65 ?y_65 (by assumption) ?_
  case h_65 => (first | (simp only [List.getElem?_toArray, List.getElem?_cons_zero, List.getElem?_cons_succ]; done) | (simp only [List.getElem?_toArray, List.getElem?_cons_zero, List.getElem?_cons_succ]; exact rfl))
  case q_65 => exact fun _ _ _ h => h
  case y_65 => (refine Or.inl ⟨rfl, ?_⟩; intro w hSw; (try dsimp only at hSw); go_simp; (try with_reducible rfl))
  (try simp only [Act.put, List.setIfInBounds_toArray, List.set_cons_zero, List.set_cons_succ])
  refine wpAnyH_take (i := 66) (oi := ?o_66) (v := .bool false) ?h_66 (by kernel_rfl) (by kernel_rfl) (by kernel_rfl) ?q_66 ?y_66 (by assumption) ?_
  case h_66 => (first | (simp only [List.getElem?_toArray, List.getElem?_cons_zero, List.getElem?_cons_succ]; done) | (simp only [List.getElem?_toArray, List.getElem?_cons_zero, List.getElem?_cons_succ]; exact rfl))
  case q_66 => exact fun _ _ _ h => h
  case y_66 => (refine Or.inl ⟨rfl, ?_⟩; intro w hSw; (try dsimp only at hSw); go_simp; (try with_reducible rfl))
  (try simp only [Act.put, List.setIfInBounds_toArray, List.set_cons_zero, List.set_cons_succ])
  refine wpAnyH_done (by kernel_rfl) ?_ _
  obtain ⟨hs2, _⟩ := hHeld
  have HS2 := Lib.hid hs2
  clear hs2 HRK HRD
  go_wp2
  go_ret
  exact ⟨ret_bool HB.out.symm, HS1.out.trans HS2.out⟩
set_option maxHeartbeats 4000000 in
theorem my4 (c : CfgV) (a : AskV) (h0 : 0 ≤ a.se) (h1 : a.se < btw c.se 1 64) (h2 : 0 ≤ a.fl) (h3 : a.fl < btw c.ft 1 8) (h4 : ¬ (0 ≤ a.fm)) (w : World) : Calls Try.prog 23 #[.agg #[.int .i64 c.ca, .int .i64 c.fl, .int .i64 c.ft, .int .i64 c.se, .int .i64 c.dr, .int .i64 c.dw, .int .i64 c.ho, .int .i64 c.re, .int .i64 c.yi, .int .i64 c.qu, .int .i64 c.qo, .int .i64 c.lo, .int .i64 c.sl, .int .i64 c.rt, .int .i64 c.cp, .int .i64 c.tr, .int .i64 c.de, .int .i64 c.wi], .agg #[.int .i64 a.se, .int .i64 a.fl, .int .i64 a.fm, .int .i64 a.to, .int .i64 a.ma]] w fun e w' => e = .returned (.bool (mayB c a)) ∧ Since w w' := by
  have d0 : decide (0 ≤ a.se) = true := decide_eq_true h0
  have d1 : decide (a.se < btw c.se 1 64) = true := decide_eq_true h1
  have d2 : decide (0 ≤ a.fl) = true := decide_eq_true h2
  have d3 : decide (a.fl < btw c.ft 1 8) = true := decide_eq_true h3
  have d4 : decide (0 ≤ a.fm) = false := decide_eq_false h4
  have HB := Lib.hid (show mayB c a = false by rw [← Bool.not_eq_true, mayB_iff]; intro h; exact h4 (by first | exact h.1.1 | exact h.1.2 | exact h.2.1.1 | exact h.2.1.2 | exact h.2.2.1.1 | exact h.2.2.1.2 | exact h.2.2.2.1.1 | exact h.2.2.2.1.2 | exact h.2.2.2.2.1 | exact h.2.2.2.2.2.1 | exact h.2.2.2.2.2.2))
  clear h0 h1 h2 h3 h4
  go_enter Try.func23, Try.ntmps23
  go_wp2_with fail
  refine (floorsR _ _).mono ?_
  rintro e w1 ⟨rfl, hw1⟩
  have q0 : w1.cell? ⟨w.heap.size, 2, none⟩ = some (.int .i64 c.ft) := by rw [← hw1]; simp [go_sem]
  have q1 : w1.cell? ⟨w.heap.size, 3, none⟩ = some (.int .i64 c.se) := by rw [← hw1]; simp [go_sem]
  have q2 : w1.cell? ⟨w.heap.size, 11, none⟩ = some (.int .i64 c.lo) := by rw [← hw1]; simp [go_sem]
  have q3 : w1.cell? ⟨w.heap.size + 1, 0, none⟩ = some (.int .i64 a.se) := by rw [← hw1]; simp [go_sem]
  have q4 : w1.cell? ⟨w.heap.size + 1, 1, none⟩ = some (.int .i64 a.fl) := by rw [← hw1]; simp [go_sem]
  have q5 : w1.cell? ⟨w.heap.size + 1, 2, none⟩ = some (.int .i64 a.fm) := by rw [← hw1]; simp [go_sem]
  have q6 : w1.cell? ⟨w.heap.size + 1, 3, none⟩ = some (.int .i64 a.to) := by rw [← hw1]; simp [go_sem]
  have q7 : w1.cell? ⟨w.heap.size + 1, 4, none⟩ = some (.int .i64 a.ma) := by rw [← hw1]; simp [go_sem]
  have HS1 := Lib.hid (show Since w w1 by rw [← hw1]; exact ((Since.refl _).alloc _).alloc _)
  clear hw1
  go_wp2_with fail
  have hrK : ∀ W W' : World, Since W W' → (Since w1 W ∧ W.cell? ⟨w.heap.size, 2, none⟩ = some (.int .i64 c.ft) ∧ W.cell? ⟨w.heap.size, 3, none⟩ = some (.int .i64 c.se) ∧ W.cell? ⟨w.heap.size, 11, none⟩ = some (.int .i64 c.lo) ∧ W.cell? ⟨w.heap.size + 1, 0, none⟩ = some (.int .i64 a.se) ∧ W.cell? ⟨w.heap.size + 1, 1, none⟩ = some (.int .i64 a.fl) ∧ W.cell? ⟨w.heap.size + 1, 2, none⟩ = some (.int .i64 a.fm) ∧ W.cell? ⟨w.heap.size + 1, 3, none⟩ = some (.int .i64 a.to) ∧ W.cell? ⟨w.heap.size + 1, 4, none⟩ = some (.int .i64 a.ma)) → (Since w1 W' ∧ W'.cell? ⟨w.heap.size, 2, none⟩ = some (.int .i64 c.ft) ∧ W'.cell? ⟨w.heap.size, 3, none⟩ = some (.int .i64 c.se) ∧ W'.cell? ⟨w.heap.size, 11, none⟩ = some (.int .i64 c.lo) ∧ W'.cell? ⟨w.heap.size + 1, 0, none⟩ = some (.int .i64 a.se) ∧ W'.cell? ⟨w.heap.size + 1, 1, none⟩ = some (.int .i64 a.fl) ∧ W'.cell? ⟨w.heap.size + 1, 2, none⟩ = some (.int .i64 a.fm) ∧ W'.cell? ⟨w.heap.size + 1, 3, none⟩ = some (.int .i64 a.to) ∧ W'.cell? ⟨w.heap.size + 1, 4, none⟩ = some (.int .i64 a.ma)) := fun W W' k ⟨h, h0, h1, h2, h3, h4, h5, h6, h7⟩ => ⟨h.trans k, keep_cell k h0, keep_cell k h1, keep_cell k h2, keep_cell k h3, keep_cell k h4, keep_cell k h5, keep_cell k h6, keep_cell k h7⟩
  have hrS : (fun W : World => Since w1 W ∧ W.cell? ⟨w.heap.size, 2, none⟩ = some (.int .i64 c.ft) ∧ W.cell? ⟨w.heap.size, 3, none⟩ = some (.int .i64 c.se) ∧ W.cell? ⟨w.heap.size, 11, none⟩ = some (.int .i64 c.lo) ∧ W.cell? ⟨w.heap.size + 1, 0, none⟩ = some (.int .i64 a.se) ∧ W.cell? ⟨w.heap.size + 1, 1, none⟩ = some (.int .i64 a.fl) ∧ W.cell? ⟨w.heap.size + 1, 2, none⟩ = some (.int .i64 a.fm) ∧ W.cell? ⟨w.heap.size + 1, 3, none⟩ = some (.int .i64 a.to) ∧ W.cell? ⟨w.heap.size + 1, 4, none⟩ = some (.int .i64 a.ma)) (w1) := ⟨Since.refl _, by first | assumption | (simp; done), by first | assumption | (simp; done), by first | assumption | (simp; done), by first | assumption | (simp; done), by first | assumption | (simp; done), by first | assumption | (simp; done), by first | assumption | (simp; done), by first | assumption | (simp; done)⟩
  have HRK := Lib.hid hrK
  have HRD := Lib.hid (show (fun W : World => Since w1 W ∧ W.cell? ⟨w.heap.size, 2, none⟩ = some (.int .i64 c.ft) ∧ W.cell? ⟨w.heap.size, 3, none⟩ = some (.int .i64 c.se) ∧ W.cell? ⟨w.heap.size, 11, none⟩ = some (.int .i64 c.lo) ∧ W.cell? ⟨w.heap.size + 1, 0, none⟩ = some (.int .i64 a.se) ∧ W.cell? ⟨w.heap.size + 1, 1, none⟩ = some (.int .i64 a.fl) ∧ W.cell? ⟨w.heap.size + 1, 2, none⟩ = some (.int .i64 a.fm) ∧ W.cell? ⟨w.heap.size + 1, 3, none⟩ = some (.int .i64 a.to) ∧ W.cell? ⟨w.heap.size + 1, 4, none⟩ = some (.int .i64 a.ma)) (World.drew (w1)) from ⟨(Since.refl _).drew, hrS.2⟩)
  clear hrK hrS
  refine wp_region_held_drew (S := fun W : World => Since w1 W ∧ W.cell? ⟨w.heap.size, 2, none⟩ = some (.int .i64 c.ft) ∧ W.cell? ⟨w.heap.size, 3, none⟩ = some (.int .i64 c.se) ∧ W.cell? ⟨w.heap.size, 11, none⟩ = some (.int .i64 c.lo) ∧ W.cell? ⟨w.heap.size + 1, 0, none⟩ = some (.int .i64 a.se) ∧ W.cell? ⟨w.heap.size + 1, 1, none⟩ = some (.int .i64 a.fl) ∧ W.cell? ⟨w.heap.size + 1, 2, none⟩ = some (.int .i64 a.fm) ∧ W.cell? ⟨w.heap.size + 1, 3, none⟩ = some (.int .i64 a.to) ∧ W.cell? ⟨w.heap.size + 1, 4, none⟩ = some (.int .i64 a.ma)) (by kernel_rfl) HRD.out (fun hHeld => ?_)
  refine wpAnyH_take (i := 0) (oi := ?o_0) (v := ?v_0) ?h_0 (by kernel_rfl) (by kernel_rfl) (by kernel_rfl) ?q_0 ?y_0 (by assumption) ?_
  case h_0 => (first | (simp only [List.getElem?_toArray, List.getElem?_cons_zero, List.getElem?_cons_succ]; done) | (simp only [List.getElem?_toArray, List.getElem?_cons_zero, List.getElem?_cons_succ]; exact rfl))
  case q_0 => exact fun _ _ _ h => h
  case y_0 => (refine Or.inl ⟨rfl, ?_⟩; intro w hSw; (try dsimp only at hSw); go_simp; (try with_reducible rfl))
  (try simp only [Act.put, List.setIfInBounds_toArray, List.set_cons_zero, List.set_cons_succ])
  refine wpAnyH_take (i := 1) (oi := ?o_1) (v := .int .i64 a.se) ?h_1 (by kernel_rfl) (by kernel_rfl) (by kernel_rfl) ?q_1 ?y_1 (by assumption) ?_
  case h_1 => (first | (simp only [List.getElem?_toArray, List.getElem?_cons_zero, List.getElem?_cons_succ]; done) | (simp only [List.getElem?_toArray, List.getElem?_cons_zero, List.getElem?_cons_succ]; exact rfl))
  case q_1 => exact fun _ _ _ h => h
  case y_1 => (refine Or.inl ⟨rfl, ?_⟩; intro w hSw; (try dsimp only at hSw); go_simp; (try with_reducible rfl))
  (try simp only [Act.put, List.setIfInBounds_toArray, List.set_cons_zero, List.set_cons_succ])
  refine wpAnyH_take (i := 2) (oi := ?o_2) (v := .bool true) ?h_2 (by kernel_rfl) (by kernel_rfl) (by kernel_rfl) ?q_2 ?y_2 (by assumption) ?_
  case h_2 => (first | (simp only [List.getElem?_toArray, List.getElem?_cons_zero, List.getElem?_cons_succ]; done) | (simp only [List.getElem?_toArray, List.getElem?_cons_zero, List.getElem?_cons_succ]; exact rfl))
  case q_2 => exact fun _ _ _ h => h
  case y_2 => (refine Or.inl ⟨rfl, ?_⟩; intro w hSw; (try dsimp only at hSw); go_simp; (try with_reducible rfl))
  (try simp only [Act.put, List.setIfInBounds_toArray, List.set_cons_zero, List.set_cons_succ])
  refine wpAnyH_take (i := 3) (oi := ?o_3) (v := .bool true) ?h_3 (by kernel_rfl) (by kernel_rfl) (by kernel_rfl) ?q_3 ?y_3 (by assumption) ?_
  case h_3 => (first | (simp only [List.getElem?_toArray, List.getElem?_cons_zero, List.getElem?_cons_succ]; done) | (simp only [List.getElem?_toArray, List.getElem?_cons_zero, List.getElem?_cons_succ]; exact rfl))
  case q_3 => exact fun _ _ _ h => h
  case y_3 => (refine Or.inl ⟨rfl, ?_⟩; intro w hSw; (try dsimp only at hSw); go_simp; (try with_reducible rfl))
  (try simp only [Act.put, List.setIfInBounds_toArray, List.set_cons_zero, List.set_cons_succ])
  refine wpAnyH_take (i := 4) (oi := ?o_4) (v := ?v_4) ?h_4 (by kernel_rfl) (by kernel_rfl) (by kernel_rfl) ?q_4 ?y_4 (by assumption) ?_
  case h_4 => (first | (simp only [List.getElem?_toArray, List.getElem?_cons_zero, List.getElem?_cons_succ]; done) | (simp only [List.getElem?_toArray, List.getElem?_cons_zero, List.getElem?_cons_succ]; exact rfl))
  case q_4 => exact fun _ _ _ h => h
  case y_4 => (refine Or.inl ⟨rfl, ?_⟩; intro w hSw; (try dsimp only at hSw); go_simp; (try with_reducible rfl))
  (try simp only [Act.put, List.setIfInBounds_toArray, List.set_cons_zero, List.set_cons_succ])
  refine wpAnyH_take (i := 5) (oi := ?o_5) (v := .int .i64 a.se) ?h_5 (by kernel_rfl) (by kernel_rfl) (by kernel_rfl) ?q_5 ?y_5 (by assumption) ?_
  case h_5 => (first | (simp only [List.getElem?_toArray, List.getElem?_cons_zero, List.getElem?_cons_succ]; done) | (simp only [List.getElem?_toArray, List.getElem?_cons_zero, List.getElem?_cons_succ]; exact rfl))
  case q_5 => exact fun _ _ _ h => h
  case y_5 => (refine Or.inl ⟨rfl, ?_⟩; intro w hSw; (try dsimp only at hSw); go_simp; (try with_reducible rfl))
  (try simp only [Act.put, List.setIfInBounds_toArray, List.set_cons_zero, List.set_cons_succ])
  refine wpAnyH_take (i := 6) (oi := ?o_6) (v := ?v_6) ?h_6 (by kernel_rfl) (by kernel_rfl) (by kernel_rfl) ?q_6 ?y_6 (by assumption) ?_
  case h_6 => (first | (simp only [List.getElem?_toArray, List.getElem?_cons_zero, List.getElem?_cons_succ]; done) | (simp only [List.getElem?_toArray, List.getElem?_cons_zero, List.getElem?_cons_succ]; exact rfl))
  case q_6 => exact fun _ _ _ h => h
  case y_6 => (refine Or.inl ⟨rfl, ?_⟩; intro w hSw; (try dsimp only at hSw); go_simp; (try with_reducible rfl))
  (try simp only [Act.put, List.setIfInBounds_toArray, List.set_cons_zero, List.set_cons_succ])
  refine wpAnyH_take (i := 7) (oi := ?o_7) (v := .int .i64 c.se) ?h_7 (by kernel_rfl) (by kernel_rfl) (by kernel_rfl) ?q_7 ?y_7 (by assumption) ?_
  case h_7 => (first | (simp only [List.getElem?_toArray, List.getElem?_cons_zero, List.getElem?_cons_succ]; done) | (simp only [List.getElem?_toArray, List.getElem?_cons_zero, List.getElem?_cons_succ]; exact rfl))
  case q_7 => exact fun _ _ _ h => h
  case y_7 => (refine Or.inl ⟨rfl, ?_⟩; intro w hSw; (try dsimp only at hSw); go_simp; (try with_reducible rfl))
  (try simp only [Act.put, List.setIfInBounds_toArray, List.set_cons_zero, List.set_cons_succ])
  refine wpAnyH_ready (rs := [8]) (by kernel_rfl) (by simp) ?_
  refine AllReadyH.cons (o := ?o_8) ?h_8 (fun K hK => ?_) AllReadyH.nil
  case h_8 => (first | (simp only [List.getElem?_toArray, List.getElem?_cons_zero, List.getElem?_cons_succ]; done) | (simp only [List.getElem?_toArray, List.getElem?_cons_zero, List.getElem?_cons_succ]; exact rfl))
  (try go_simp)
  (go_at_call 63; refine (nearestR _ _ _ _).mono ?_; rintro e w' ⟨rfl, rfl⟩)
  (try go_wp2_with fail)
  refine hK.out _ _ ?_ (fun hHeld2 => ?_)
  · first | exact HRD.out | exact hHeld | (apply HRK.out; assumption; assumption)
  clear hK K hHeld
  have hHeld := hHeld2
  clear hHeld2
  (try simp only [Act.put, List.setIfInBounds_toArray, List.set_cons_zero, List.set_cons_succ])
  refine wpAnyH_take (i := 9) (oi := ?o_9) (v := .bool true) ?h_9 (by kernel_rfl) (by kernel_rfl) (by kernel_rfl) ?q_9 ?y_9 (by assumption) ?_
  case h_9 => (first | (simp only [List.getElem?_toArray, List.getElem?_cons_zero, List.getElem?_cons_succ]; done) | (simp only [List.getElem?_toArray, List.getElem?_cons_zero, List.getElem?_cons_succ]; exact rfl))
  case q_9 => exact fun _ _ _ h => h
  case y_9 => (refine Or.inl ⟨rfl, ?_⟩; intro w hSw; (try dsimp only at hSw); go_simp; (try with_reducible rfl))
  (try simp only [Act.put, List.setIfInBounds_toArray, List.set_cons_zero, List.set_cons_succ])
  refine wpAnyH_take (i := 10) (oi := ?o_10) (v := .bool true) ?h_10 (by kernel_rfl) (by kernel_rfl) (by kernel_rfl) ?q_10 ?y_10 (by assumption) ?_
  case h_10 => (first | (simp only [List.getElem?_toArray, List.getElem?_cons_zero, List.getElem?_cons_succ]; done) | (simp only [List.getElem?_toArray, List.getElem?_cons_zero, List.getElem?_cons_succ]; exact rfl))
  case q_10 => exact fun _ _ _ h => h
  case y_10 => (refine Or.inl ⟨rfl, ?_⟩; intro w hSw; (try dsimp only at hSw); go_simp; (try with_reducible rfl))
  (try simp only [Act.put, List.setIfInBounds_toArray, List.set_cons_zero, List.set_cons_succ])
  refine wpAnyH_take (i := 11) (oi := ?o_11) (v := .bool true) ?h_11 (by kernel_rfl) (by kernel_rfl) (by kernel_rfl) ?q_11 ?y_11 (by assumption) ?_
  case h_11 => (first | (simp only [List.getElem?_toArray, List.getElem?_cons_zero, List.getElem?_cons_succ]; done) | (simp only [List.getElem?_toArray, List.getElem?_cons_zero, List.getElem?_cons_succ]; exact rfl))
  case q_11 => exact fun _ _ _ h => h
  case y_11 => (refine Or.inl ⟨rfl, ?_⟩; intro w hSw; (try dsimp only at hSw); go_simp; (try with_reducible rfl))
  (try simp only [Act.put, List.setIfInBounds_toArray, List.set_cons_zero, List.set_cons_succ])
  refine wpAnyH_take (i := 12) (oi := ?o_12) (v := ?v_12) ?h_12 (by kernel_rfl) (by kernel_rfl) (by kernel_rfl) ?q_12 ?y_12 (by assumption) ?_
  case h_12 => (first | (simp only [List.getElem?_toArray, List.getElem?_cons_zero, List.getElem?_cons_succ]; done) | (simp only [List.getElem?_toArray, List.getElem?_cons_zero, List.getElem?_cons_succ]; exact rfl))
  case q_12 => exact fun _ _ _ h => h
  case y_12 => (refine Or.inl ⟨rfl, ?_⟩; intro w hSw; (try dsimp only at hSw); go_simp; (try with_reducible rfl))
  (try simp only [Act.put, List.setIfInBounds_toArray, List.set_cons_zero, List.set_cons_succ])
  refine wpAnyH_take (i := 13) (oi := ?o_13) (v := .int .i64 a.fl) ?h_13 (by kernel_rfl) (by kernel_rfl) (by kernel_rfl) ?q_13 ?y_13 (by assumption) ?_
  case h_13 => (first | (simp only [List.getElem?_toArray, List.getElem?_cons_zero, List.getElem?_cons_succ]; done) | (simp only [List.getElem?_toArray, List.getElem?_cons_zero, List.getElem?_cons_succ]; exact rfl))
  case q_13 => exact fun _ _ _ h => h
  case y_13 => (refine Or.inl ⟨rfl, ?_⟩; intro w hSw; (try dsimp only at hSw); go_simp; (try with_reducible rfl))
  (try simp only [Act.put, List.setIfInBounds_toArray, List.set_cons_zero, List.set_cons_succ])
  refine wpAnyH_take (i := 14) (oi := ?o_14) (v := .bool true) ?h_14 (by kernel_rfl) (by kernel_rfl) (by kernel_rfl) ?q_14 ?y_14 (by assumption) ?_
  case h_14 => (first | (simp only [List.getElem?_toArray, List.getElem?_cons_zero, List.getElem?_cons_succ]; done) | (simp only [List.getElem?_toArray, List.getElem?_cons_zero, List.getElem?_cons_succ]; exact rfl))
  case q_14 => exact fun _ _ _ h => h
  case y_14 => (refine Or.inl ⟨rfl, ?_⟩; intro w hSw; (try dsimp only at hSw); go_simp; (try with_reducible rfl))
  (try simp only [Act.put, List.setIfInBounds_toArray, List.set_cons_zero, List.set_cons_succ])
  refine wpAnyH_take (i := 15) (oi := ?o_15) (v := .bool true) ?h_15 (by kernel_rfl) (by kernel_rfl) (by kernel_rfl) ?q_15 ?y_15 (by assumption) ?_
  case h_15 => (first | (simp only [List.getElem?_toArray, List.getElem?_cons_zero, List.getElem?_cons_succ]; done) | (simp only [List.getElem?_toArray, List.getElem?_cons_zero, List.getElem?_cons_succ]; exact rfl))
  case q_15 => exact fun _ _ _ h => h
  case y_15 => (refine Or.inl ⟨rfl, ?_⟩; intro w hSw; (try dsimp only at hSw); go_simp; (try with_reducible rfl))
  (try simp only [Act.put, List.setIfInBounds_toArray, List.set_cons_zero, List.set_cons_succ])
  refine wpAnyH_take (i := 16) (oi := ?o_16) (v := .bool true) ?h_16 (by kernel_rfl) (by kernel_rfl) (by kernel_rfl) ?q_16 ?y_16 (by assumption) ?_
  case h_16 => (first | (simp only [List.getElem?_toArray, List.getElem?_cons_zero, List.getElem?_cons_succ]; done) | (simp only [List.getElem?_toArray, List.getElem?_cons_zero, List.getElem?_cons_succ]; exact rfl))
  case q_16 => exact fun _ _ _ h => h
  case y_16 => (refine Or.inl ⟨rfl, ?_⟩; intro w hSw; (try dsimp only at hSw); go_simp; (try with_reducible rfl))
  (try simp only [Act.put, List.setIfInBounds_toArray, List.set_cons_zero, List.set_cons_succ])
  refine wpAnyH_take (i := 17) (oi := ?o_17) (v := ?v_17) ?h_17 (by kernel_rfl) (by kernel_rfl) (by kernel_rfl) ?q_17 ?y_17 (by assumption) ?_
  case h_17 => (first | (simp only [List.getElem?_toArray, List.getElem?_cons_zero, List.getElem?_cons_succ]; done) | (simp only [List.getElem?_toArray, List.getElem?_cons_zero, List.getElem?_cons_succ]; exact rfl))
  case q_17 => exact fun _ _ _ h => h
  case y_17 => (refine Or.inl ⟨rfl, ?_⟩; intro w hSw; (try dsimp only at hSw); go_simp; (try with_reducible rfl))
  (try simp only [Act.put, List.setIfInBounds_toArray, List.set_cons_zero, List.set_cons_succ])
  refine wpAnyH_take (i := 18) (oi := ?o_18) (v := .int .i64 a.fl) ?h_18 (by kernel_rfl) (by kernel_rfl) (by kernel_rfl) ?q_18 ?y_18 (by assumption) ?_
  case h_18 => (first | (simp only [List.getElem?_toArray, List.getElem?_cons_zero, List.getElem?_cons_succ]; done) | (simp only [List.getElem?_toArray, List.getElem?_cons_zero, List.getElem?_cons_succ]; exact rfl))
  case q_18 => exact fun _ _ _ h => h
  case y_18 => (refine Or.inl ⟨rfl, ?_⟩; intro w hSw; (try dsimp only at hSw); go_simp; (try with_reducible rfl))
  (try simp only [Act.put, List.setIfInBounds_toArray, List.set_cons_zero, List.set_cons_succ])
  refine wpAnyH_take (i := 19) (oi := ?o_19) (v := ?v_19) ?h_19 (by kernel_rfl) (by kernel_rfl) (by kernel_rfl) ?q_19 ?y_19 (by assumption) ?_
  case h_19 => (first | (simp only [List.getElem?_toArray, List.getElem?_cons_zero, List.getElem?_cons_succ]; done) | (simp only [List.getElem?_toArray, List.getElem?_cons_zero, List.getElem?_cons_succ]; exact rfl))
  case q_19 => exact fun _ _ _ h => h
  case y_19 => (refine Or.inl ⟨rfl, ?_⟩; intro w hSw; (try dsimp only at hSw); go_simp; (try with_reducible rfl))
  (try simp only [Act.put, List.setIfInBounds_toArray, List.set_cons_zero, List.set_cons_succ])
  refine wpAnyH_take (i := 20) (oi := ?o_20) (v := .int .i64 c.ft) ?h_20 (by kernel_rfl) (by kernel_rfl) (by kernel_rfl) ?q_20 ?y_20 (by assumption) ?_
  case h_20 => (first | (simp only [List.getElem?_toArray, List.getElem?_cons_zero, List.getElem?_cons_succ]; done) | (simp only [List.getElem?_toArray, List.getElem?_cons_zero, List.getElem?_cons_succ]; exact rfl))
  case q_20 => exact fun _ _ _ h => h
  case y_20 => (refine Or.inl ⟨rfl, ?_⟩; intro w hSw; (try dsimp only at hSw); go_simp; (try with_reducible rfl))
  (try simp only [Act.put, List.setIfInBounds_toArray, List.set_cons_zero, List.set_cons_succ])
  refine wpAnyH_ready (rs := [21]) (by kernel_rfl) (by simp) ?_
  refine AllReadyH.cons (o := ?o_21) ?h_21 (fun K hK => ?_) AllReadyH.nil
  case h_21 => (first | (simp only [List.getElem?_toArray, List.getElem?_cons_zero, List.getElem?_cons_succ]; done) | (simp only [List.getElem?_toArray, List.getElem?_cons_zero, List.getElem?_cons_succ]; exact rfl))
  (try go_simp)
  (go_at_call 63; refine (nearestR _ _ _ _).mono ?_; rintro e w' ⟨rfl, rfl⟩)
  (try go_wp2_with fail)
  refine hK.out _ _ ?_ (fun hHeld2 => ?_)
  · first | exact HRD.out | exact hHeld | (apply HRK.out; assumption; assumption)
  clear hK K hHeld
  have hHeld := hHeld2
  clear hHeld2
  (try simp only [Act.put, List.setIfInBounds_toArray, List.set_cons_zero, List.set_cons_succ])
  refine wpAnyH_take (i := 22) (oi := ?o_22) (v := .bool true) ?h_22 (by kernel_rfl) (by kernel_rfl) (by kernel_rfl) ?q_22 ?y_22 (by assumption) ?_
  case h_22 => (first | (simp only [List.getElem?_toArray, List.getElem?_cons_zero, List.getElem?_cons_succ]; done) | (simp only [List.getElem?_toArray, List.getElem?_cons_zero, List.getElem?_cons_succ]; exact rfl))
  case q_22 => exact fun _ _ _ h => h
  case y_22 => (refine Or.inl ⟨rfl, ?_⟩; intro w hSw; (try dsimp only at hSw); go_simp; (try with_reducible rfl))
  (try simp only [Act.put, List.setIfInBounds_toArray, List.set_cons_zero, List.set_cons_succ])
  refine wpAnyH_take (i := 23) (oi := ?o_23) (v := .bool true) ?h_23 (by kernel_rfl) (by kernel_rfl) (by kernel_rfl) ?q_23 ?y_23 (by assumption) ?_
  case h_23 => (first | (simp only [List.getElem?_toArray, List.getElem?_cons_zero, List.getElem?_cons_succ]; done) | (simp only [List.getElem?_toArray, List.getElem?_cons_zero, List.getElem?_cons_succ]; exact rfl))
  case q_23 => exact fun _ _ _ h => h
  case y_23 => (refine Or.inl ⟨rfl, ?_⟩; intro w hSw; (try dsimp only at hSw); go_simp; (try with_reducible rfl))
  (try simp only [Act.put, List.setIfInBounds_toArray, List.set_cons_zero, List.set_cons_succ])
  refine wpAnyH_take (i := 24) (oi := ?o_24) (v := .bool true) ?h_24 (by kernel_rfl) (by kernel_rfl) (by kernel_rfl) ?q_24 ?y_24 (by assumption) ?_
  case h_24 => (first | (simp only [List.getElem?_toArray, List.getElem?_cons_zero, List.getElem?_cons_succ]; done) | (simp only [List.getElem?_toArray, List.getElem?_cons_zero, List.getElem?_cons_succ]; exact rfl))
  case q_24 => exact fun _ _ _ h => h
  case y_24 => (refine Or.inl ⟨rfl, ?_⟩; intro w hSw; (try dsimp only at hSw); go_simp; (try with_reducible rfl))
  (try simp only [Act.put, List.setIfInBounds_toArray, List.set_cons_zero, List.set_cons_succ])
  refine wpAnyH_take (i := 25) (oi := ?o_25) (v := ?v_25) ?h_25 (by kernel_rfl) (by kernel_rfl) (by kernel_rfl) ?q_25 ?y_25 (by assumption) ?_
  case h_25 => (first | (simp only [List.getElem?_toArray, List.getElem?_cons_zero, List.getElem?_cons_succ]; done) | (simp only [List.getElem?_toArray, List.getElem?_cons_zero, List.getElem?_cons_succ]; exact rfl))
  case q_25 => exact fun _ _ _ h => h
  case y_25 => (refine Or.inl ⟨rfl, ?_⟩; intro w hSw; (try dsimp only at hSw); go_simp; (try with_reducible rfl))
  (try simp only [Act.put, List.setIfInBounds_toArray, List.set_cons_zero, List.set_cons_succ])
  refine wpAnyH_take (i := 26) (oi := ?o_26) (v := .int .i64 a.fm) ?h_26 (by kernel_rfl) (by kernel_rfl) (by kernel_rfl) ?q_26 ?y_26 (by assumption) ?_
  case h_26 => (first | (simp only [List.getElem?_toArray, List.getElem?_cons_zero, List.getElem?_cons_succ]; done) | (simp only [List.getElem?_toArray, List.getElem?_cons_zero, List.getElem?_cons_succ]; exact rfl))
  case q_26 => exact fun _ _ _ h => h
  case y_26 => (refine Or.inl ⟨rfl, ?_⟩; intro w hSw; (try dsimp only at hSw); go_simp; (try with_reducible rfl))
  (try simp only [Act.put, List.setIfInBounds_toArray, List.set_cons_zero, List.set_cons_succ])
  refine wpAnyH_take (i := 27) (oi := ?o_27) (v := .bool false) ?h_27 (by kernel_rfl) (by kernel_rfl) (by kernel_rfl) ?q_27 ?y_27 (by assumption) ?_
  case h_27 => (first | (simp only [List.getElem?_toArray, List.getElem?_cons_zero, List.getElem?_cons_succ]; done) | (simp only [List.getElem?_toArray, List.getElem?_cons_zero, List.getElem?_cons_succ]; exact rfl))
  case q_27 => exact fun _ _ _ h => h
  case y_27 => (refine Or.inl ⟨rfl, ?_⟩; intro w hSw; (try dsimp only at hSw); go_simp; (try with_reducible rfl))
  (try simp only [Act.put, List.setIfInBounds_toArray, List.set_cons_zero, List.set_cons_succ])
  refine wpAnyH_take (i := 28) (oi := ?o_28) (v := .bool false) ?h_28 (by kernel_rfl) (by kernel_rfl) (by kernel_rfl) ?q_28 ?y_28 (by assumption) ?_
  case h_28 => (first | (simp only [List.getElem?_toArray, List.getElem?_cons_zero, List.getElem?_cons_succ]; done) | (simp only [List.getElem?_toArray, List.getElem?_cons_zero, List.getElem?_cons_succ]; exact rfl))
  case q_28 => exact fun _ _ _ h => h
  case y_28 => (refine Or.inl ⟨rfl, ?_⟩; intro w hSw; (try dsimp only at hSw); go_simp; (try with_reducible rfl))
  (try simp only [Act.put, List.setIfInBounds_toArray, List.set_cons_zero, List.set_cons_succ])
  refine wpAnyH_take (i := 29) (oi := ?o_29) (v := .bool false) ?h_29 (by kernel_rfl) (by kernel_rfl) (by kernel_rfl) ?q_29 ?y_29 (by assumption) ?_
  case h_29 => (first | (simp only [List.getElem?_toArray, List.getElem?_cons_zero, List.getElem?_cons_succ]; done) | (simp only [List.getElem?_toArray, List.getElem?_cons_zero, List.getElem?_cons_succ]; exact rfl))
  case q_29 => exact fun _ _ _ h => h
  case y_29 => (refine Or.inl ⟨rfl, ?_⟩; intro w hSw; (try dsimp only at hSw); go_simp; (try with_reducible rfl))
  (try simp only [Act.put, List.setIfInBounds_toArray, List.set_cons_zero, List.set_cons_succ])
  refine wpAnyH_take (i := 30) (oi := ?o_30) (v := undef) ?h_30 (by kernel_rfl) (by kernel_rfl) (by kernel_rfl) ?q_30 ?y_30 (by assumption) ?_
  case h_30 => (first | (simp only [List.getElem?_toArray, List.getElem?_cons_zero, List.getElem?_cons_succ]; done) | (simp only [List.getElem?_toArray, List.getElem?_cons_zero, List.getElem?_cons_succ]; exact rfl))
  case q_30 => exact fun _ _ _ h => h
  case y_30 => exact Or.inr ⟨rfl, rfl⟩
  (try simp only [Act.put, List.setIfInBounds_toArray, List.set_cons_zero, List.set_cons_succ])
  refine wpAnyH_take (i := 31) (oi := ?o_31) (v := undef) ?h_31 (by kernel_rfl) (by kernel_rfl) (by kernel_rfl) ?q_31 ?y_31 (by assumption) ?_
  case h_31 => (first | (simp only [List.getElem?_toArray, List.getElem?_cons_zero, List.getElem?_cons_succ]; done) | (simp only [List.getElem?_toArray, List.getElem?_cons_zero, List.getElem?_cons_succ]; exact rfl))
  case q_31 => exact fun _ _ _ h => h
  case y_31 => exact Or.inr ⟨rfl, rfl⟩
  (try simp only [Act.put, List.setIfInBounds_toArray, List.set_cons_zero, List.set_cons_succ])
  refine wpAnyH_take (i := 32) (oi := ?o_32) (v := undef) ?h_32 (by kernel_rfl) (by kernel_rfl) (by kernel_rfl) ?q_32 ?y_32 (by assumption) ?_
  case h_32 => (first | (simp only [List.getElem?_toArray, List.getElem?_cons_zero, List.getElem?_cons_succ]; done) | (simp only [List.getElem?_toArray, List.getElem?_cons_zero, List.getElem?_cons_succ]; exact rfl))
  case q_32 => exact fun _ _ _ h => h
  case y_32 => exact Or.inr ⟨rfl, rfl⟩
  (try simp only [Act.put, List.setIfInBounds_toArray, List.set_cons_zero, List.set_cons_succ])
  refine wpAnyH_take (i := 33) (oi := ?o_33) (v := undef) ?h_33 (by kernel_rfl) (by kernel_rfl) (by kernel_rfl) ?q_33 ?y_33 (by assumption) ?_
  case h_33 => (first | (simp only [List.getElem?_toArray, List.getElem?_cons_zero, List.getElem?_cons_succ]; done) | (simp only [List.getElem?_toArray, List.getElem?_cons_zero, List.getElem?_cons_succ]; exact rfl))
  case q_33 => exact fun _ _ _ h => h
  case y_33 => exact Or.inr ⟨rfl, rfl⟩
  (try simp only [Act.put, List.setIfInBounds_toArray, List.set_cons_zero, List.set_cons_succ])
  refine wpAnyH_take (i := 34) (oi := ?o_34) (v := .bool false) ?h_34 (by kernel_rfl) (by kernel_rfl) (by kernel_rfl) ?q_34 ?y_34 (by assumption) ?_
  case h_34 => (first | (simp only [List.getElem?_toArray, List.getElem?_cons_zero, List.getElem?_cons_succ]; done) | (simp only [List.getElem?_toArray, List.getElem?_cons_zero, List.getElem?_cons_succ]; exact rfl))
  case q_34 => exact fun _ _ _ h => h
  case y_34 => (refine Or.inl ⟨rfl, ?_⟩; intro w hSw; (try dsimp only at hSw); go_simp; (try with_reducible rfl))
  (try simp only [Act.put, List.setIfInBounds_toArray, List.set_cons_zero, List.set_cons_succ])
  refine wpAnyH_take (i := 35) (oi := ?o_35) (v := .bool false) ?h_35 (by kernel_rfl) (by kernel_rfl) (by kernel_rfl) ?q_35 ?y_35 (by assumption) ?_
  case h_35 => (first | (simp only [List.getElem?_toArray, List.getElem?_cons_zero, List.getElem?_cons_succ]; done) | (simp only [List.getElem?_toArray, List.getElem?_cons_zero, List.getElem?_cons_succ]; exact rfl))
  case q_35 => exact fun _ _ _ h => h
  case y_35 => (refine Or.inl ⟨rfl, ?_⟩; intro w hSw; (try dsimp only at hSw); go_simp; (try with_reducible rfl))
  (try simp only [Act.put, List.setIfInBounds_toArray, List.set_cons_zero, List.set_cons_succ])
  refine wpAnyH_take (i := 36) (oi := ?o_36) (v := undef) ?h_36 (by kernel_rfl) (by kernel_rfl) (by kernel_rfl) ?q_36 ?y_36 (by assumption) ?_
  case h_36 => (first | (simp only [List.getElem?_toArray, List.getElem?_cons_zero, List.getElem?_cons_succ]; done) | (simp only [List.getElem?_toArray, List.getElem?_cons_zero, List.getElem?_cons_succ]; exact rfl))
  case q_36 => exact fun _ _ _ h => h
  case y_36 => exact Or.inr ⟨rfl, rfl⟩
  (try simp only [Act.put, List.setIfInBounds_toArray, List.set_cons_zero, List.set_cons_succ])
  refine wpAnyH_take (i := 37) (oi := ?o_37) (v := undef) ?h_37 (by kernel_rfl) (by kernel_rfl) (by kernel_rfl) ?q_37 ?y_37 (by assumption) ?_
  case h_37 => (first | (simp only [List.getElem?_toArray, List.getElem?_cons_zero, List.getElem?_cons_succ]; done) | (simp only [List.getElem?_toArray, List.getElem?_cons_zero, List.getElem?_cons_succ]; exact rfl))
  case q_37 => exact fun _ _ _ h => h
  case y_37 => exact Or.inr ⟨rfl, rfl⟩
  (try simp only [Act.put, List.setIfInBounds_toArray, List.set_cons_zero, List.set_cons_succ])
  refine wpAnyH_take (i := 38) (oi := ?o_38) (v := undef) ?h_38 (by kernel_rfl) (by kernel_rfl) (by kernel_rfl) ?q_38 ?y_38 (by assumption) ?_
  case h_38 => (first | (simp only [List.getElem?_toArray, List.getElem?_cons_zero, List.getElem?_cons_succ]; done) | (simp only [List.getElem?_toArray, List.getElem?_cons_zero, List.getElem?_cons_succ]; exact rfl))
  case q_38 => exact fun _ _ _ h => h
  case y_38 => exact Or.inr ⟨rfl, rfl⟩
  (try simp only [Act.put, List.setIfInBounds_toArray, List.set_cons_zero, List.set_cons_succ])
  refine wpAnyH_take (i := 39) (oi := ?o_39) (v := .bool false) ?h_39 (by kernel_rfl) (by kernel_rfl) (by kernel_rfl) ?q_39 ?y_39 (by assumption) ?_
  case h_39 => (first | (simp only [List.getElem?_toArray, List.getElem?_cons_zero, List.getElem?_cons_succ]; done) | (simp only [List.getElem?_toArray, List.getElem?_cons_zero, List.getElem?_cons_succ]; exact rfl))
  case q_39 => exact fun _ _ _ h => h
  case y_39 => (refine Or.inl ⟨rfl, ?_⟩; intro w hSw; (try dsimp only at hSw); go_simp; (try with_reducible rfl))
  (try simp only [Act.put, List.setIfInBounds_toArray, List.set_cons_zero, List.set_cons_succ])
  refine wpAnyH_take (i := 40) (oi := ?o_40) (v := .bool false) ?h_40 (by kernel_rfl) (by kernel_rfl) (by kernel_rfl) ?q_40 ?y_40 (by assumption) ?_
  case h_40 => (first | (simp only [List.getElem?_toArray, List.getElem?_cons_zero, List.getElem?_cons_succ]; done) | (simp only [List.getElem?_toArray, List.getElem?_cons_zero, List.getElem?_cons_succ]; exact rfl))
  case q_40 => exact fun _ _ _ h => h
  case y_40 => (refine Or.inl ⟨rfl, ?_⟩; intro w hSw; (try dsimp only at hSw); go_simp; (try with_reducible rfl))
  (try simp only [Act.put, List.setIfInBounds_toArray, List.set_cons_zero, List.set_cons_succ])
  refine wpAnyH_take (i := 41) (oi := ?o_41) (v := undef) ?h_41 (by kernel_rfl) (by kernel_rfl) (by kernel_rfl) ?q_41 ?y_41 (by assumption) ?_
  case h_41 => (first | (simp only [List.getElem?_toArray, List.getElem?_cons_zero, List.getElem?_cons_succ]; done) | (simp only [List.getElem?_toArray, List.getElem?_cons_zero, List.getElem?_cons_succ]; exact rfl))
  case q_41 => exact fun _ _ _ h => h
  case y_41 => exact Or.inr ⟨rfl, rfl⟩
  (try simp only [Act.put, List.setIfInBounds_toArray, List.set_cons_zero, List.set_cons_succ])
  refine wpAnyH_take (i := 42) (oi := ?o_42) (v := undef) ?h_42 (by kernel_rfl) (by kernel_rfl) (by kernel_rfl) ?q_42 ?y_42 (by assumption) ?_
  case h_42 => (first | (simp only [List.getElem?_toArray, List.getElem?_cons_zero, List.getElem?_cons_succ]; done) | (simp only [List.getElem?_toArray, List.getElem?_cons_zero, List.getElem?_cons_succ]; exact rfl))
  case q_42 => exact fun _ _ _ h => h
  case y_42 => exact Or.inr ⟨rfl, rfl⟩
  (try simp only [Act.put, List.setIfInBounds_toArray, List.set_cons_zero, List.set_cons_succ])
  refine wpAnyH_take (i := 43) (oi := ?o_43) (v := undef) ?h_43 (by kernel_rfl) (by kernel_rfl) (by kernel_rfl) ?q_43 ?y_43 (by assumption) ?_
  case h_43 => (first | (simp only [List.getElem?_toArray, List.getElem?_cons_zero, List.getElem?_cons_succ]; done) | (simp only [List.getElem?_toArray, List.getElem?_cons_zero, List.getElem?_cons_succ]; exact rfl))
  case q_43 => exact fun _ _ _ h => h
  case y_43 => exact Or.inr ⟨rfl, rfl⟩
  (try simp only [Act.put, List.setIfInBounds_toArray, List.set_cons_zero, List.set_cons_succ])
  refine wpAnyH_take (i := 44) (oi := ?o_44) (v := undef) ?h_44 (by kernel_rfl) (by kernel_rfl) (by kernel_rfl) ?q_44 ?y_44 (by assumption) ?_
  case h_44 => (first | (simp only [List.getElem?_toArray, List.getElem?_cons_zero, List.getElem?_cons_succ]; done) | (simp only [List.getElem?_toArray, List.getElem?_cons_zero, List.getElem?_cons_succ]; exact rfl))
  case q_44 => exact fun _ _ _ h => h
  case y_44 => exact Or.inr ⟨rfl, rfl⟩
  (try simp only [Act.put, List.setIfInBounds_toArray, List.set_cons_zero, List.set_cons_succ])
  refine wpAnyH_take (i := 45) (oi := ?o_45) (v := .bool false) ?h_45 (by kernel_rfl) (by kernel_rfl) (by kernel_rfl) ?q_45 ?y_45 (by assumption) ?_
  case h_45 => (first | (simp only [List.getElem?_toArray, List.getElem?_cons_zero, List.getElem?_cons_succ]; done) | (simp only [List.getElem?_toArray, List.getElem?_cons_zero, List.getElem?_cons_succ]; exact rfl))
  case q_45 => exact fun _ _ _ h => h
  case y_45 => (refine Or.inl ⟨rfl, ?_⟩; intro w hSw; (try dsimp only at hSw); go_simp; (try with_reducible rfl))
  (try simp only [Act.put, List.setIfInBounds_toArray, List.set_cons_zero, List.set_cons_succ])
  refine wpAnyH_take (i := 46) (oi := ?o_46) (v := .bool false) ?h_46 (by kernel_rfl) (by kernel_rfl) (by kernel_rfl) ?q_46 ?y_46 (by assumption) ?_
  case h_46 => (first | (simp only [List.getElem?_toArray, List.getElem?_cons_zero, List.getElem?_cons_succ]; done) | (simp only [List.getElem?_toArray, List.getElem?_cons_zero, List.getElem?_cons_succ]; exact rfl))
  case q_46 => exact fun _ _ _ h => h
  case y_46 => (refine Or.inl ⟨rfl, ?_⟩; intro w hSw; (try dsimp only at hSw); go_simp; (try with_reducible rfl))
  (try simp only [Act.put, List.setIfInBounds_toArray, List.set_cons_zero, List.set_cons_succ])
  refine wpAnyH_take (i := 47) (oi := ?o_47) (v := undef) ?h_47 (by kernel_rfl) (by kernel_rfl) (by kernel_rfl) ?q_47 ?y_47 (by assumption) ?_
  case h_47 => (first | (simp only [List.getElem?_toArray, List.getElem?_cons_zero, List.getElem?_cons_succ]; done) | (simp only [List.getElem?_toArray, List.getElem?_cons_zero, List.getElem?_cons_succ]; exact rfl))
  case q_47 => exact fun _ _ _ h => h
  case y_47 => exact Or.inr ⟨rfl, rfl⟩
  (try simp only [Act.put, List.setIfInBounds_toArray, List.set_cons_zero, List.set_cons_succ])
  refine wpAnyH_take (i := 48) (oi := ?o_48) (v := undef) ?h_48 (by kernel_rfl) (by kernel_rfl) (by kernel_rfl) ?q_48 ?y_48 (by assumption) ?_
  case h_48 => (first | (simp only [List.getElem?_toArray, List.getElem?_cons_zero, List.getElem?_cons_succ]; done) | (simp only [List.getElem?_toArray, List.getElem?_cons_zero, List.getElem?_cons_succ]; exact rfl))
  case q_48 => exact fun _ _ _ h => h
  case y_48 => exact Or.inr ⟨rfl, rfl⟩
  (try simp only [Act.put, List.setIfInBounds_toArray, List.set_cons_zero, List.set_cons_succ])
  refine wpAnyH_take (i := 49) (oi := ?o_49) (v := undef) ?h_49 (by kernel_rfl) (by kernel_rfl) (by kernel_rfl) ?q_49 ?y_49 (by assumption) ?_
  case h_49 => (first | (simp only [List.getElem?_toArray, List.getElem?_cons_zero, List.getElem?_cons_succ]; done) | (simp only [List.getElem?_toArray, List.getElem?_cons_zero, List.getElem?_cons_succ]; exact rfl))
  case q_49 => exact fun _ _ _ h => h
  case y_49 => exact Or.inr ⟨rfl, rfl⟩
  (try simp only [Act.put, List.setIfInBounds_toArray, List.set_cons_zero, List.set_cons_succ])
  refine wpAnyH_take (i := 50) (oi := ?o_50) (v := undef) ?h_50 (by kernel_rfl) (by kernel_rfl) (by kernel_rfl) ?q_50 ?y_50 (by assumption) ?_
  case h_50 => (first | (simp only [List.getElem?_toArray, List.getElem?_cons_zero, List.getElem?_cons_succ]; done) | (simp only [List.getElem?_toArray, List.getElem?_cons_zero, List.getElem?_cons_succ]; exact rfl))
  case q_50 => exact fun _ _ _ h => h
  case y_50 => exact Or.inr ⟨rfl, rfl⟩
  (try simp only [Act.put, List.setIfInBounds_toArray, List.set_cons_zero, List.set_cons_succ])
  refine wpAnyH_take (i := 51) (oi := ?o_51) (v := undef) ?h_51 (by kernel_rfl) (by kernel_rfl) (by kernel_rfl) ?q_51 ?y_51 (by assumption) ?_
  case h_51 => (first | (simp only [List.getElem?_toArray, List.getElem?_cons_zero, List.getElem?_cons_succ]; done) | (simp only [List.getElem?_toArray, List.getElem?_cons_zero, List.getElem?_cons_succ]; exact rfl))
  case q_51 => exact fun _ _ _ h => h
  case y_51 => exact Or.inr ⟨rfl, rfl⟩
  (try simp only [Act.put, List.setIfInBounds_toArray, List.set_cons_zero, List.set_cons_succ])
  refine wpAnyH_take (i := 52) (oi := ?o_52) (v := .bool false) ?h_52 (by kernel_rfl) (by kernel_rfl) (by kernel_rfl) ?q_52 ?y_52 (by assumption) ?_
  case h_52 => (first | (simp only [List.getElem?_toArray, List.getElem?_cons_zero, List.getElem?_cons_succ]; done) | (simp only [List.getElem?_toArray, List.getElem?_cons_zero, List.getElem?_cons_succ]; exact rfl))
  case q_52 => exact fun _ _ _ h => h
  case y_52 => (refine Or.inl ⟨rfl, ?_⟩; intro w hSw; (try dsimp only at hSw); go_simp; (try with_reducible rfl))
  (try simp only [Act.put, List.setIfInBounds_toArray, List.set_cons_zero, List.set_cons_succ])
  refine wpAnyH_take (i := 53) (oi := ?o_53) (v := .bool false) ?h_53 (by kernel_rfl) (by kernel_rfl) (by kernel_rfl) ?q_53 ?y_53 (by assumption) ?_
  case h_53 => (first | (simp only [List.getElem?_toArray, List.getElem?_cons_zero, List.getElem?_cons_succ]; done) | (simp only [List.getElem?_toArray, List.getElem?_cons_zero, List.getElem?_cons_succ]; exact rfl))
  case q_53 => exact fun _ _ _ h => h
  case y_53 => (refine Or.inl ⟨rfl, ?_⟩; intro w hSw; (try dsimp only at hSw); go_simp; (try with_reducible rfl))
  (try simp only [Act.put, List.setIfInBounds_toArray, List.set_cons_zero, List.set_cons_succ])
  refine wpAnyH_take (i := 54) (oi := ?o_54) (v := undef) ?h_54 (by kernel_rfl) (by kernel_rfl) (by kernel_rfl) ?q_54 ?y_54 (by assumption) ?_
  case h_54 => (first | (simp only [List.getElem?_toArray, List.getElem?_cons_zero, List.getElem?_cons_succ]; done) | (simp only [List.getElem?_toArray, List.getElem?_cons_zero, List.getElem?_cons_succ]; exact rfl))
  case q_54 => exact fun _ _ _ h => h
  case y_54 => exact Or.inr ⟨rfl, rfl⟩
  (try simp only [Act.put, List.setIfInBounds_toArray, List.set_cons_zero, List.set_cons_succ])
  refine wpAnyH_take (i := 55) (oi := ?o_55) (v := undef) ?h_55 (by kernel_rfl) (by kernel_rfl) (by kernel_rfl) ?q_55 ?y_55 (by assumption) ?_
  case h_55 => (first | (simp only [List.getElem?_toArray, List.getElem?_cons_zero, List.getElem?_cons_succ]; done) | (simp only [List.getElem?_toArray, List.getElem?_cons_zero, List.getElem?_cons_succ]; exact rfl))
  case q_55 => exact fun _ _ _ h => h
  case y_55 => exact Or.inr ⟨rfl, rfl⟩
  (try simp only [Act.put, List.setIfInBounds_toArray, List.set_cons_zero, List.set_cons_succ])
  refine wpAnyH_take (i := 56) (oi := ?o_56) (v := undef) ?h_56 (by kernel_rfl) (by kernel_rfl) (by kernel_rfl) ?q_56 ?y_56 (by assumption) ?_
  case h_56 => (first | (simp only [List.getElem?_toArray, List.getElem?_cons_zero, List.getElem?_cons_succ]; done) | (simp only [List.getElem?_toArray, List.getElem?_cons_zero, List.getElem?_cons_succ]; exact rfl))
  case q_56 => exact fun _ _ _ h => h
  case y_56 => exact Or.inr ⟨rfl, rfl⟩
  (try simp only [Act.put, List.setIfInBounds_toArray, List.set_cons_zero, List.set_cons_succ])
  refine wpAnyH_take (i := 57) (oi := ?o_57) (v := .bool false) ?h_57 (by kernel_rfl) (by kernel_rfl) (by kernel_rfl) ?q_57 ?y_57 (by assumption) ?_
  case h_57 => (first | (simp only [List.getElem?_toArray, List.getElem?_cons_zero, List.getElem?_cons_succ]; done) | (simp only [List.getElem?_toArray, List.getElem?_cons_zero, List.getElem?_cons_succ]; exact rfl))
  case q_57 => exact fun _ _ _ h => h
  case y_57 => (refine Or.inl ⟨rfl, ?_⟩; intro w hSw; (try dsimp only at hSw); go_simp; (try with_reducible rfl))
  (try simp only [Act.put, List.setIfInBounds_toArray, List.set_cons_zero, List.set_cons_succ])
  refine wpAnyH_take (i := 58) (oi := ?o_58) (v := .bool false) ?h_58 (by kernel_rfl) (by kernel_rfl) (by kernel_rfl) ?q_58 ?y_58 (by assumption) ?_
  case h_58 => (first | (simp only [List.getElem?_toArray, List.getElem?_cons_zero, List.getElem?_cons_succ]; done) | (simp only [List.getElem?_toArray, List.getElem?_cons_zero, List.getElem?_cons_succ]; exact rfl))
  case q_58 => exact fun _ _ _ h => h
  case y_58 => (refine Or.inl ⟨rfl, ?_⟩; intro w hSw; (try dsimp only at hSw); go_simp; (try with_reducible rfl))
  (try simp only [Act.put, List.setIfInBounds_toArray, List.set_cons_zero, List.set_cons_succ])
  refine wpAnyH_take (i := 59) (oi := ?o_59) (v := undef) ?h_59 (by kernel_rfl) (by kernel_rfl) (by kernel_rfl) ?q_59 ?y_59 (by assumption) ?_
  case h_59 => (first | (simp only [List.getElem?_toArray, List.getElem?_cons_zero, List.getElem?_cons_succ]; done) | (simp only [List.getElem?_toArray, List.getElem?_cons_zero, List.getElem?_cons_succ]; exact rfl))
  case q_59 => exact fun _ _ _ h => h
  case y_59 => exact Or.inr ⟨rfl, rfl⟩
  (try simp only [Act.put, List.setIfInBounds_toArray, List.set_cons_zero, List.set_cons_succ])
  refine wpAnyH_take (i := 60) (oi := ?o_60) (v := undef) ?h_60 (by kernel_rfl) (by kernel_rfl) (by kernel_rfl) ?q_60 ?y_60 (by assumption) ?_
  case h_60 => (first | (simp only [List.getElem?_toArray, List.getElem?_cons_zero, List.getElem?_cons_succ]; done) | (simp only [List.getElem?_toArray, List.getElem?_cons_zero, List.getElem?_cons_succ]; exact rfl))
  case q_60 => exact fun _ _ _ h => h
  case y_60 => exact Or.inr ⟨rfl, rfl⟩
  (try simp only [Act.put, List.setIfInBounds_toArray, List.set_cons_zero, List.set_cons_succ])
  refine wpAnyH_take (i := 61) (oi := ?o_61) (v := undef) ?h_61 (by kernel_rfl) (by kernel_rfl) (by kernel_rfl) ?q_61 ?y_61 (by assumption) ?_
  case h_61 => (first | (simp only [List.getElem?_toArray, List.getElem?_cons_zero, List.getElem?_cons_succ]; done) | (simp only [List.getElem?_toArray, List.getElem?_cons_zero, List.getElem?_cons_succ]; exact rfl))
  case q_61 => exact fun _ _ _ h => h
  case y_61 => exact Or.inr ⟨rfl, rfl⟩
  (try simp only [Act.put, List.setIfInBounds_toArray, List.set_cons_zero, List.set_cons_succ])
  refine wpAnyH_take (i := 62) (oi := ?o_62) (v := undef) ?h_62 (by kernel_rfl) (by kernel_rfl) (by kernel_rfl) ?q_62 ?y_62 (by assumption) ?_
  case h_62 => (first | (simp only [List.getElem?_toArray, List.getElem?_cons_zero, List.getElem?_cons_succ]; done) | (simp only [List.getElem?_toArray, List.getElem?_cons_zero, List.getElem?_cons_succ]; exact rfl))
  case q_62 => exact fun _ _ _ h => h
  case y_62 => exact Or.inr ⟨rfl, rfl⟩
  (try simp only [Act.put, List.setIfInBounds_toArray, List.set_cons_zero, List.set_cons_succ])
  refine wpAnyH_take (i := 63) (oi := ?o_63) (v := undef) ?h_63 (by kernel_rfl) (by kernel_rfl) (by kernel_rfl) ?q_63 ?y_63 (by assumption) ?_
  case h_63 => (first | (simp only [List.getElem?_toArray, List.getElem?_cons_zero, List.getElem?_cons_succ]; done) | (simp only [List.getElem?_toArray, List.getElem?_cons_zero, List.getElem?_cons_succ]; exact rfl))
  case q_63 => exact fun _ _ _ h => h
  case y_63 => exact Or.inr ⟨rfl, rfl⟩
  (try simp only [Act.put, List.setIfInBounds_toArray, List.set_cons_zero, List.set_cons_succ])
  refine wpAnyH_take (i := 64) (oi := ?o_64) (v := undef) ?h_64 (by kernel_rfl) (by kernel_rfl) (by kernel_rfl) ?q_64 ?y_64 (by assumption) ?_
  case h_64 => (first | (simp only [List.getElem?_toArray, List.getElem?_cons_zero, List.getElem?_cons_succ]; done) | (simp only [List.getElem?_toArray, List.getElem?_cons_zero, List.getElem?_cons_succ]; exact rfl))
  case q_64 => exact fun _ _ _ h => h
  case y_64 => exact Or.inr ⟨rfl, rfl⟩
  (try simp only [Act.put, List.setIfInBounds_toArray, List.set_cons_zero, List.set_cons_succ])
  refine wpAnyH_take (i := 65) (oi := ?o_65) (v := .bool false) ?h_65 (by kernel_rfl) (by kernel_rfl) (by kernel_rfl) ?q_65 ?y_65 (by assumption) ?_
  case h_65 => (first | (simp only [List.getElem?_toArray, List.getElem?_cons_zero, List.getElem?_cons_succ]; done) | (simp only [List.getElem?_toArray, List.getElem?_cons_zero, List.getElem?_cons_succ]; exact rfl))
  case q_65 => exact fun _ _ _ h => h
  case y_65 => (refine Or.inl ⟨rfl, ?_⟩; intro w hSw; (try dsimp only at hSw); go_simp; (try with_reducible rfl))
  (try simp only [Act.put, List.setIfInBounds_toArray, List.set_cons_zero, List.set_cons_succ])
  refine wpAnyH_take (i := 66) (oi := ?o_66) (v := .bool false) ?h_66 (by kernel_rfl) (by kernel_rfl) (by kernel_rfl) ?q_66 ?y_66 (by assumption) ?_
  case h_66 => (first | (simp only [List.getElem?_toArray, List.getElem?_cons_zero, List.getElem?_cons_succ]; done) | (simp only [List.getElem?_toArray, List.getElem?_cons_zero, List.getElem?_cons_succ]; exact rfl))
  case q_66 => exact fun _ _ _ h => h
  case y_66 => (refine Or.inl ⟨rfl, ?_⟩; intro w hSw; (try dsimp only at hSw); go_simp; (try with_reducible rfl))
  (try simp only [Act.put, List.setIfInBounds_toArray, List.set_cons_zero, List.set_cons_succ])
  refine wpAnyH_done (by kernel_rfl) ?_ _
  obtain ⟨hs2, _⟩ := hHeld
  have HS2 := Lib.hid hs2
  clear hs2 HRK HRD
  go_wp2
  go_ret
  exact ⟨ret_bool HB.out.symm, HS1.out.trans HS2.out⟩
set_option maxHeartbeats 4000000 in
theorem my7 (c : CfgV) (a : AskV) (h0 : 0 ≤ a.se) (h1 : a.se < btw c.se 1 64) (h2 : 0 ≤ a.fl) (h3 : a.fl < btw c.ft 1 8) (h4 : 0 ≤ a.fm) (h5 : a.fm < fl c.fl) (h6 : 0 ≤ a.to) (h7 : ¬ (a.to < fl c.fl)) (w : World) : Calls Try.prog 23 #[.agg #[.int .i64 c.ca, .int .i64 c.fl, .int .i64 c.ft, .int .i64 c.se, .int .i64 c.dr, .int .i64 c.dw, .int .i64 c.ho, .int .i64 c.re, .int .i64 c.yi, .int .i64 c.qu, .int .i64 c.qo, .int .i64 c.lo, .int .i64 c.sl, .int .i64 c.rt, .int .i64 c.cp, .int .i64 c.tr, .int .i64 c.de, .int .i64 c.wi], .agg #[.int .i64 a.se, .int .i64 a.fl, .int .i64 a.fm, .int .i64 a.to, .int .i64 a.ma]] w fun e w' => e = .returned (.bool (mayB c a)) ∧ Since w w' := by
  have d0 : decide (0 ≤ a.se) = true := decide_eq_true h0
  have d1 : decide (a.se < btw c.se 1 64) = true := decide_eq_true h1
  have d2 : decide (0 ≤ a.fl) = true := decide_eq_true h2
  have d3 : decide (a.fl < btw c.ft 1 8) = true := decide_eq_true h3
  have d4 : decide (0 ≤ a.fm) = true := decide_eq_true h4
  have d5 : decide (a.fm < fl c.fl) = true := decide_eq_true h5
  have d6 : decide (0 ≤ a.to) = true := decide_eq_true h6
  have d7 : decide (a.to < fl c.fl) = false := decide_eq_false h7
  have HB := Lib.hid (show mayB c a = false by rw [← Bool.not_eq_true, mayB_iff]; intro h; exact h7 (by first | exact h.1.1 | exact h.1.2 | exact h.2.1.1 | exact h.2.1.2 | exact h.2.2.1.1 | exact h.2.2.1.2 | exact h.2.2.2.1.1 | exact h.2.2.2.1.2 | exact h.2.2.2.2.1 | exact h.2.2.2.2.2.1 | exact h.2.2.2.2.2.2))
  clear h0 h1 h2 h3 h4 h5 h6 h7
  go_enter Try.func23, Try.ntmps23
  go_wp2_with fail
  refine (floorsR _ _).mono ?_
  rintro e w1 ⟨rfl, hw1⟩
  have q0 : w1.cell? ⟨w.heap.size, 2, none⟩ = some (.int .i64 c.ft) := by rw [← hw1]; simp [go_sem]
  have q1 : w1.cell? ⟨w.heap.size, 3, none⟩ = some (.int .i64 c.se) := by rw [← hw1]; simp [go_sem]
  have q2 : w1.cell? ⟨w.heap.size, 11, none⟩ = some (.int .i64 c.lo) := by rw [← hw1]; simp [go_sem]
  have q3 : w1.cell? ⟨w.heap.size + 1, 0, none⟩ = some (.int .i64 a.se) := by rw [← hw1]; simp [go_sem]
  have q4 : w1.cell? ⟨w.heap.size + 1, 1, none⟩ = some (.int .i64 a.fl) := by rw [← hw1]; simp [go_sem]
  have q5 : w1.cell? ⟨w.heap.size + 1, 2, none⟩ = some (.int .i64 a.fm) := by rw [← hw1]; simp [go_sem]
  have q6 : w1.cell? ⟨w.heap.size + 1, 3, none⟩ = some (.int .i64 a.to) := by rw [← hw1]; simp [go_sem]
  have q7 : w1.cell? ⟨w.heap.size + 1, 4, none⟩ = some (.int .i64 a.ma) := by rw [← hw1]; simp [go_sem]
  have HS1 := Lib.hid (show Since w w1 by rw [← hw1]; exact ((Since.refl _).alloc _).alloc _)
  clear hw1
  go_wp2_with fail
  have hrK : ∀ W W' : World, Since W W' → (Since w1 W ∧ W.cell? ⟨w.heap.size, 2, none⟩ = some (.int .i64 c.ft) ∧ W.cell? ⟨w.heap.size, 3, none⟩ = some (.int .i64 c.se) ∧ W.cell? ⟨w.heap.size, 11, none⟩ = some (.int .i64 c.lo) ∧ W.cell? ⟨w.heap.size + 1, 0, none⟩ = some (.int .i64 a.se) ∧ W.cell? ⟨w.heap.size + 1, 1, none⟩ = some (.int .i64 a.fl) ∧ W.cell? ⟨w.heap.size + 1, 2, none⟩ = some (.int .i64 a.fm) ∧ W.cell? ⟨w.heap.size + 1, 3, none⟩ = some (.int .i64 a.to) ∧ W.cell? ⟨w.heap.size + 1, 4, none⟩ = some (.int .i64 a.ma)) → (Since w1 W' ∧ W'.cell? ⟨w.heap.size, 2, none⟩ = some (.int .i64 c.ft) ∧ W'.cell? ⟨w.heap.size, 3, none⟩ = some (.int .i64 c.se) ∧ W'.cell? ⟨w.heap.size, 11, none⟩ = some (.int .i64 c.lo) ∧ W'.cell? ⟨w.heap.size + 1, 0, none⟩ = some (.int .i64 a.se) ∧ W'.cell? ⟨w.heap.size + 1, 1, none⟩ = some (.int .i64 a.fl) ∧ W'.cell? ⟨w.heap.size + 1, 2, none⟩ = some (.int .i64 a.fm) ∧ W'.cell? ⟨w.heap.size + 1, 3, none⟩ = some (.int .i64 a.to) ∧ W'.cell? ⟨w.heap.size + 1, 4, none⟩ = some (.int .i64 a.ma)) := fun W W' k ⟨h, h0, h1, h2, h3, h4, h5, h6, h7⟩ => ⟨h.trans k, keep_cell k h0, keep_cell k h1, keep_cell k h2, keep_cell k h3, keep_cell k h4, keep_cell k h5, keep_cell k h6, keep_cell k h7⟩
  have hrS : (fun W : World => Since w1 W ∧ W.cell? ⟨w.heap.size, 2, none⟩ = some (.int .i64 c.ft) ∧ W.cell? ⟨w.heap.size, 3, none⟩ = some (.int .i64 c.se) ∧ W.cell? ⟨w.heap.size, 11, none⟩ = some (.int .i64 c.lo) ∧ W.cell? ⟨w.heap.size + 1, 0, none⟩ = some (.int .i64 a.se) ∧ W.cell? ⟨w.heap.size + 1, 1, none⟩ = some (.int .i64 a.fl) ∧ W.cell? ⟨w.heap.size + 1, 2, none⟩ = some (.int .i64 a.fm) ∧ W.cell? ⟨w.heap.size + 1, 3, none⟩ = some (.int .i64 a.to) ∧ W.cell? ⟨w.heap.size + 1, 4, none⟩ = some (.int .i64 a.ma)) (w1) := ⟨Since.refl _, by first | assumption | (simp; done), by first | assumption | (simp; done), by first | assumption | (simp; done), by first | assumption | (simp; done), by first | assumption | (simp; done), by first | assumption | (simp; done), by first | assumption | (simp; done), by first | assumption | (simp; done)⟩
  have HRK := Lib.hid hrK
  have HRD := Lib.hid (show (fun W : World => Since w1 W ∧ W.cell? ⟨w.heap.size, 2, none⟩ = some (.int .i64 c.ft) ∧ W.cell? ⟨w.heap.size, 3, none⟩ = some (.int .i64 c.se) ∧ W.cell? ⟨w.heap.size, 11, none⟩ = some (.int .i64 c.lo) ∧ W.cell? ⟨w.heap.size + 1, 0, none⟩ = some (.int .i64 a.se) ∧ W.cell? ⟨w.heap.size + 1, 1, none⟩ = some (.int .i64 a.fl) ∧ W.cell? ⟨w.heap.size + 1, 2, none⟩ = some (.int .i64 a.fm) ∧ W.cell? ⟨w.heap.size + 1, 3, none⟩ = some (.int .i64 a.to) ∧ W.cell? ⟨w.heap.size + 1, 4, none⟩ = some (.int .i64 a.ma)) (World.drew (w1)) from ⟨(Since.refl _).drew, hrS.2⟩)
  clear hrK hrS
  refine wp_region_held_drew (S := fun W : World => Since w1 W ∧ W.cell? ⟨w.heap.size, 2, none⟩ = some (.int .i64 c.ft) ∧ W.cell? ⟨w.heap.size, 3, none⟩ = some (.int .i64 c.se) ∧ W.cell? ⟨w.heap.size, 11, none⟩ = some (.int .i64 c.lo) ∧ W.cell? ⟨w.heap.size + 1, 0, none⟩ = some (.int .i64 a.se) ∧ W.cell? ⟨w.heap.size + 1, 1, none⟩ = some (.int .i64 a.fl) ∧ W.cell? ⟨w.heap.size + 1, 2, none⟩ = some (.int .i64 a.fm) ∧ W.cell? ⟨w.heap.size + 1, 3, none⟩ = some (.int .i64 a.to) ∧ W.cell? ⟨w.heap.size + 1, 4, none⟩ = some (.int .i64 a.ma)) (by kernel_rfl) HRD.out (fun hHeld => ?_)
  refine wpAnyH_take (i := 0) (oi := ?o_0) (v := ?v_0) ?h_0 (by kernel_rfl) (by kernel_rfl) (by kernel_rfl) ?q_0 ?y_0 (by assumption) ?_
  case h_0 => (first | (simp only [List.getElem?_toArray, List.getElem?_cons_zero, List.getElem?_cons_succ]; done) | (simp only [List.getElem?_toArray, List.getElem?_cons_zero, List.getElem?_cons_succ]; exact rfl))
  case q_0 => exact fun _ _ _ h => h
  case y_0 => (refine Or.inl ⟨rfl, ?_⟩; intro w hSw; (try dsimp only at hSw); go_simp; (try with_reducible rfl))
  (try simp only [Act.put, List.setIfInBounds_toArray, List.set_cons_zero, List.set_cons_succ])
  refine wpAnyH_take (i := 1) (oi := ?o_1) (v := .int .i64 a.se) ?h_1 (by kernel_rfl) (by kernel_rfl) (by kernel_rfl) ?q_1 ?y_1 (by assumption) ?_
  case h_1 => (first | (simp only [List.getElem?_toArray, List.getElem?_cons_zero, List.getElem?_cons_succ]; done) | (simp only [List.getElem?_toArray, List.getElem?_cons_zero, List.getElem?_cons_succ]; exact rfl))
  case q_1 => exact fun _ _ _ h => h
  case y_1 => (refine Or.inl ⟨rfl, ?_⟩; intro w hSw; (try dsimp only at hSw); go_simp; (try with_reducible rfl))
  (try simp only [Act.put, List.setIfInBounds_toArray, List.set_cons_zero, List.set_cons_succ])
  refine wpAnyH_take (i := 2) (oi := ?o_2) (v := .bool true) ?h_2 (by kernel_rfl) (by kernel_rfl) (by kernel_rfl) ?q_2 ?y_2 (by assumption) ?_
  case h_2 => (first | (simp only [List.getElem?_toArray, List.getElem?_cons_zero, List.getElem?_cons_succ]; done) | (simp only [List.getElem?_toArray, List.getElem?_cons_zero, List.getElem?_cons_succ]; exact rfl))
  case q_2 => exact fun _ _ _ h => h
  case y_2 => (refine Or.inl ⟨rfl, ?_⟩; intro w hSw; (try dsimp only at hSw); go_simp; (try with_reducible rfl))
  (try simp only [Act.put, List.setIfInBounds_toArray, List.set_cons_zero, List.set_cons_succ])
  refine wpAnyH_take (i := 3) (oi := ?o_3) (v := .bool true) ?h_3 (by kernel_rfl) (by kernel_rfl) (by kernel_rfl) ?q_3 ?y_3 (by assumption) ?_
  case h_3 => (first | (simp only [List.getElem?_toArray, List.getElem?_cons_zero, List.getElem?_cons_succ]; done) | (simp only [List.getElem?_toArray, List.getElem?_cons_zero, List.getElem?_cons_succ]; exact rfl))
  case q_3 => exact fun _ _ _ h => h
  case y_3 => (refine Or.inl ⟨rfl, ?_⟩; intro w hSw; (try dsimp only at hSw); go_simp; (try with_reducible rfl))
  (try simp only [Act.put, List.setIfInBounds_toArray, List.set_cons_zero, List.set_cons_succ])
  refine wpAnyH_take (i := 4) (oi := ?o_4) (v := ?v_4) ?h_4 (by kernel_rfl) (by kernel_rfl) (by kernel_rfl) ?q_4 ?y_4 (by assumption) ?_
  case h_4 => (first | (simp only [List.getElem?_toArray, List.getElem?_cons_zero, List.getElem?_cons_succ]; done) | (simp only [List.getElem?_toArray, List.getElem?_cons_zero, List.getElem?_cons_succ]; exact rfl))
  case q_4 => exact fun _ _ _ h => h
  case y_4 => (refine Or.inl ⟨rfl, ?_⟩; intro w hSw; (try dsimp only at hSw); go_simp; (try with_reducible rfl))
  (try simp only [Act.put, List.setIfInBounds_toArray, List.set_cons_zero, List.set_cons_succ])
  refine wpAnyH_take (i := 5) (oi := ?o_5) (v := .int .i64 a.se) ?h_5 (by kernel_rfl) (by kernel_rfl) (by kernel_rfl) ?q_5 ?y_5 (by assumption) ?_
  case h_5 => (first | (simp only [List.getElem?_toArray, List.getElem?_cons_zero, List.getElem?_cons_succ]; done) | (simp only [List.getElem?_toArray, List.getElem?_cons_zero, List.getElem?_cons_succ]; exact rfl))
  case q_5 => exact fun _ _ _ h => h
  case y_5 => (refine Or.inl ⟨rfl, ?_⟩; intro w hSw; (try dsimp only at hSw); go_simp; (try with_reducible rfl))
  (try simp only [Act.put, List.setIfInBounds_toArray, List.set_cons_zero, List.set_cons_succ])
  refine wpAnyH_take (i := 6) (oi := ?o_6) (v := ?v_6) ?h_6 (by kernel_rfl) (by kernel_rfl) (by kernel_rfl) ?q_6 ?y_6 (by assumption) ?_
  case h_6 => (first | (simp only [List.getElem?_toArray, List.getElem?_cons_zero, List.getElem?_cons_succ]; done) | (simp only [List.getElem?_toArray, List.getElem?_cons_zero, List.getElem?_cons_succ]; exact rfl))
  case q_6 => exact fun _ _ _ h => h
  case y_6 => (refine Or.inl ⟨rfl, ?_⟩; intro w hSw; (try dsimp only at hSw); go_simp; (try with_reducible rfl))
  (try simp only [Act.put, List.setIfInBounds_toArray, List.set_cons_zero, List.set_cons_succ])
  refine wpAnyH_take (i := 7) (oi := ?o_7) (v := .int .i64 c.se) ?h_7 (by kernel_rfl) (by kernel_rfl) (by kernel_rfl) ?q_7 ?y_7 (by assumption) ?_
  case h_7 => (first | (simp only [List.getElem?_toArray, List.getElem?_cons_zero, List.getElem?_cons_succ]; done) | (simp only [List.getElem?_toArray, List.getElem?_cons_zero, List.getElem?_cons_succ]; exact rfl))
  case q_7 => exact fun _ _ _ h => h
  case y_7 => (refine Or.inl ⟨rfl, ?_⟩; intro w hSw; (try dsimp only at hSw); go_simp; (try with_reducible rfl))
  (try simp only [Act.put, List.setIfInBounds_toArray, List.set_cons_zero, List.set_cons_succ])
  refine wpAnyH_ready (rs := [8]) (by kernel_rfl) (by simp) ?_
  refine AllReadyH.cons (o := ?o_8) ?h_8 (fun K hK => ?_) AllReadyH.nil
  case h_8 => (first | (simp only [List.getElem?_toArray, List.getElem?_cons_zero, List.getElem?_cons_succ]; done) | (simp only [List.getElem?_toArray, List.getElem?_cons_zero, List.getElem?_cons_succ]; exact rfl))
  (try go_simp)
  (go_at_call 63; refine (nearestR _ _ _ _).mono ?_; rintro e w' ⟨rfl, rfl⟩)
  (try go_wp2_with fail)
  refine hK.out _ _ ?_ (fun hHeld2 => ?_)
  · first | exact HRD.out | exact hHeld | (apply HRK.out; assumption; assumption)
  clear hK K hHeld
  have hHeld := hHeld2
  clear hHeld2
  (try simp only [Act.put, List.setIfInBounds_toArray, List.set_cons_zero, List.set_cons_succ])
  refine wpAnyH_take (i := 9) (oi := ?o_9) (v := .bool true) ?h_9 (by kernel_rfl) (by kernel_rfl) (by kernel_rfl) ?q_9 ?y_9 (by assumption) ?_
  case h_9 => (first | (simp only [List.getElem?_toArray, List.getElem?_cons_zero, List.getElem?_cons_succ]; done) | (simp only [List.getElem?_toArray, List.getElem?_cons_zero, List.getElem?_cons_succ]; exact rfl))
  case q_9 => exact fun _ _ _ h => h
  case y_9 => (refine Or.inl ⟨rfl, ?_⟩; intro w hSw; (try dsimp only at hSw); go_simp; (try with_reducible rfl))
  (try simp only [Act.put, List.setIfInBounds_toArray, List.set_cons_zero, List.set_cons_succ])
  refine wpAnyH_take (i := 10) (oi := ?o_10) (v := .bool true) ?h_10 (by kernel_rfl) (by kernel_rfl) (by kernel_rfl) ?q_10 ?y_10 (by assumption) ?_
  case h_10 => (first | (simp only [List.getElem?_toArray, List.getElem?_cons_zero, List.getElem?_cons_succ]; done) | (simp only [List.getElem?_toArray, List.getElem?_cons_zero, List.getElem?_cons_succ]; exact rfl))
  case q_10 => exact fun _ _ _ h => h
  case y_10 => (refine Or.inl ⟨rfl, ?_⟩; intro w hSw; (try dsimp only at hSw); go_simp; (try with_reducible rfl))
  (try simp only [Act.put, List.setIfInBounds_toArray, List.set_cons_zero, List.set_cons_succ])
  refine wpAnyH_take (i := 11) (oi := ?o_11) (v := .bool true) ?h_11 (by kernel_rfl) (by kernel_rfl) (by kernel_rfl) ?q_11 ?y_11 (by assumption) ?_
  case h_11 => (first | (simp only [List.getElem?_toArray, List.getElem?_cons_zero, List.getElem?_cons_succ]; done) | (simp only [List.getElem?_toArray, List.getElem?_cons_zero, List.getElem?_cons_succ]; exact rfl))
  case q_11 => exact fun _ _ _ h => h
  case y_11 => (refine Or.inl ⟨rfl, ?_⟩; intro w hSw; (try dsimp only at hSw); go_simp; (try with_reducible rfl))
  (try simp only [Act.put, List.setIfInBounds_toArray, List.set_cons_zero, List.set_cons_succ])
  refine wpAnyH_take (i := 12) (oi := ?o_12) (v := ?v_12) ?h_12 (by kernel_rfl) (by kernel_rfl) (by kernel_rfl) ?q_12 ?y_12 (by assumption) ?_
  case h_12 => (first | (simp only [List.getElem?_toArray, List.getElem?_cons_zero, List.getElem?_cons_succ]; done) | (simp only [List.getElem?_toArray, List.getElem?_cons_zero, List.getElem?_cons_succ]; exact rfl))
  case q_12 => exact fun _ _ _ h => h
  case y_12 => (refine Or.inl ⟨rfl, ?_⟩; intro w hSw; (try dsimp only at hSw); go_simp; (try with_reducible rfl))
  (try simp only [Act.put, List.setIfInBounds_toArray, List.set_cons_zero, List.set_cons_succ])
  refine wpAnyH_take (i := 13) (oi := ?o_13) (v := .int .i64 a.fl) ?h_13 (by kernel_rfl) (by kernel_rfl) (by kernel_rfl) ?q_13 ?y_13 (by assumption) ?_
  case h_13 => (first | (simp only [List.getElem?_toArray, List.getElem?_cons_zero, List.getElem?_cons_succ]; done) | (simp only [List.getElem?_toArray, List.getElem?_cons_zero, List.getElem?_cons_succ]; exact rfl))
  case q_13 => exact fun _ _ _ h => h
  case y_13 => (refine Or.inl ⟨rfl, ?_⟩; intro w hSw; (try dsimp only at hSw); go_simp; (try with_reducible rfl))
  (try simp only [Act.put, List.setIfInBounds_toArray, List.set_cons_zero, List.set_cons_succ])
  refine wpAnyH_take (i := 14) (oi := ?o_14) (v := .bool true) ?h_14 (by kernel_rfl) (by kernel_rfl) (by kernel_rfl) ?q_14 ?y_14 (by assumption) ?_
  case h_14 => (first | (simp only [List.getElem?_toArray, List.getElem?_cons_zero, List.getElem?_cons_succ]; done) | (simp only [List.getElem?_toArray, List.getElem?_cons_zero, List.getElem?_cons_succ]; exact rfl))
  case q_14 => exact fun _ _ _ h => h
  case y_14 => (refine Or.inl ⟨rfl, ?_⟩; intro w hSw; (try dsimp only at hSw); go_simp; (try with_reducible rfl))
  (try simp only [Act.put, List.setIfInBounds_toArray, List.set_cons_zero, List.set_cons_succ])
  refine wpAnyH_take (i := 15) (oi := ?o_15) (v := .bool true) ?h_15 (by kernel_rfl) (by kernel_rfl) (by kernel_rfl) ?q_15 ?y_15 (by assumption) ?_
  case h_15 => (first | (simp only [List.getElem?_toArray, List.getElem?_cons_zero, List.getElem?_cons_succ]; done) | (simp only [List.getElem?_toArray, List.getElem?_cons_zero, List.getElem?_cons_succ]; exact rfl))
  case q_15 => exact fun _ _ _ h => h
  case y_15 => (refine Or.inl ⟨rfl, ?_⟩; intro w hSw; (try dsimp only at hSw); go_simp; (try with_reducible rfl))
  (try simp only [Act.put, List.setIfInBounds_toArray, List.set_cons_zero, List.set_cons_succ])
  refine wpAnyH_take (i := 16) (oi := ?o_16) (v := .bool true) ?h_16 (by kernel_rfl) (by kernel_rfl) (by kernel_rfl) ?q_16 ?y_16 (by assumption) ?_
  case h_16 => (first | (simp only [List.getElem?_toArray, List.getElem?_cons_zero, List.getElem?_cons_succ]; done) | (simp only [List.getElem?_toArray, List.getElem?_cons_zero, List.getElem?_cons_succ]; exact rfl))
  case q_16 => exact fun _ _ _ h => h
  case y_16 => (refine Or.inl ⟨rfl, ?_⟩; intro w hSw; (try dsimp only at hSw); go_simp; (try with_reducible rfl))
  (try simp only [Act.put, List.setIfInBounds_toArray, List.set_cons_zero, List.set_cons_succ])
  refine wpAnyH_take (i := 17) (oi := ?o_17) (v := ?v_17) ?h_17 (by kernel_rfl) (by kernel_rfl) (by kernel_rfl) ?q_17 ?y_17 (by assumption) ?_
  case h_17 => (first | (simp only [List.getElem?_toArray, List.getElem?_cons_zero, List.getElem?_cons_succ]; done) | (simp only [List.getElem?_toArray, List.getElem?_cons_zero, List.getElem?_cons_succ]; exact rfl))
  case q_17 => exact fun _ _ _ h => h
  case y_17 => (refine Or.inl ⟨rfl, ?_⟩; intro w hSw; (try dsimp only at hSw); go_simp; (try with_reducible rfl))
  (try simp only [Act.put, List.setIfInBounds_toArray, List.set_cons_zero, List.set_cons_succ])
  refine wpAnyH_take (i := 18) (oi := ?o_18) (v := .int .i64 a.fl) ?h_18 (by kernel_rfl) (by kernel_rfl) (by kernel_rfl) ?q_18 ?y_18 (by assumption) ?_
  case h_18 => (first | (simp only [List.getElem?_toArray, List.getElem?_cons_zero, List.getElem?_cons_succ]; done) | (simp only [List.getElem?_toArray, List.getElem?_cons_zero, List.getElem?_cons_succ]; exact rfl))
  case q_18 => exact fun _ _ _ h => h
  case y_18 => (refine Or.inl ⟨rfl, ?_⟩; intro w hSw; (try dsimp only at hSw); go_simp; (try with_reducible rfl))
  (try simp only [Act.put, List.setIfInBounds_toArray, List.set_cons_zero, List.set_cons_succ])
  refine wpAnyH_take (i := 19) (oi := ?o_19) (v := ?v_19) ?h_19 (by kernel_rfl) (by kernel_rfl) (by kernel_rfl) ?q_19 ?y_19 (by assumption) ?_
  case h_19 => (first | (simp only [List.getElem?_toArray, List.getElem?_cons_zero, List.getElem?_cons_succ]; done) | (simp only [List.getElem?_toArray, List.getElem?_cons_zero, List.getElem?_cons_succ]; exact rfl))
  case q_19 => exact fun _ _ _ h => h
  case y_19 => (refine Or.inl ⟨rfl, ?_⟩; intro w hSw; (try dsimp only at hSw); go_simp; (try with_reducible rfl))
  (try simp only [Act.put, List.setIfInBounds_toArray, List.set_cons_zero, List.set_cons_succ])
  refine wpAnyH_take (i := 20) (oi := ?o_20) (v := .int .i64 c.ft) ?h_20 (by kernel_rfl) (by kernel_rfl) (by kernel_rfl) ?q_20 ?y_20 (by assumption) ?_
  case h_20 => (first | (simp only [List.getElem?_toArray, List.getElem?_cons_zero, List.getElem?_cons_succ]; done) | (simp only [List.getElem?_toArray, List.getElem?_cons_zero, List.getElem?_cons_succ]; exact rfl))
  case q_20 => exact fun _ _ _ h => h
  case y_20 => (refine Or.inl ⟨rfl, ?_⟩; intro w hSw; (try dsimp only at hSw); go_simp; (try with_reducible rfl))
  (try simp only [Act.put, List.setIfInBounds_toArray, List.set_cons_zero, List.set_cons_succ])
  refine wpAnyH_ready (rs := [21]) (by kernel_rfl) (by simp) ?_
  refine AllReadyH.cons (o := ?o_21) ?h_21 (fun K hK => ?_) AllReadyH.nil
  case h_21 => (first | (simp only [List.getElem?_toArray, List.getElem?_cons_zero, List.getElem?_cons_succ]; done) | (simp only [List.getElem?_toArray, List.getElem?_cons_zero, List.getElem?_cons_succ]; exact rfl))
  (try go_simp)
  (go_at_call 63; refine (nearestR _ _ _ _).mono ?_; rintro e w' ⟨rfl, rfl⟩)
  (try go_wp2_with fail)
  refine hK.out _ _ ?_ (fun hHeld2 => ?_)
  · first | exact HRD.out | exact hHeld | (apply HRK.out; assumption; assumption)
  clear hK K hHeld
  have hHeld := hHeld2
  clear hHeld2
  (try simp only [Act.put, List.setIfInBounds_toArray, List.set_cons_zero, List.set_cons_succ])
  refine wpAnyH_take (i := 22) (oi := ?o_22) (v := .bool true) ?h_22 (by kernel_rfl) (by kernel_rfl) (by kernel_rfl) ?q_22 ?y_22 (by assumption) ?_
  case h_22 => (first | (simp only [List.getElem?_toArray, List.getElem?_cons_zero, List.getElem?_cons_succ]; done) | (simp only [List.getElem?_toArray, List.getElem?_cons_zero, List.getElem?_cons_succ]; exact rfl))
  case q_22 => exact fun _ _ _ h => h
  case y_22 => (refine Or.inl ⟨rfl, ?_⟩; intro w hSw; (try dsimp only at hSw); go_simp; (try with_reducible rfl))
  (try simp only [Act.put, List.setIfInBounds_toArray, List.set_cons_zero, List.set_cons_succ])
  refine wpAnyH_take (i := 23) (oi := ?o_23) (v := .bool true) ?h_23 (by kernel_rfl) (by kernel_rfl) (by kernel_rfl) ?q_23 ?y_23 (by assumption) ?_
  case h_23 => (first | (simp only [List.getElem?_toArray, List.getElem?_cons_zero, List.getElem?_cons_succ]; done) | (simp only [List.getElem?_toArray, List.getElem?_cons_zero, List.getElem?_cons_succ]; exact rfl))
  case q_23 => exact fun _ _ _ h => h
  case y_23 => (refine Or.inl ⟨rfl, ?_⟩; intro w hSw; (try dsimp only at hSw); go_simp; (try with_reducible rfl))
  (try simp only [Act.put, List.setIfInBounds_toArray, List.set_cons_zero, List.set_cons_succ])
  refine wpAnyH_take (i := 24) (oi := ?o_24) (v := .bool true) ?h_24 (by kernel_rfl) (by kernel_rfl) (by kernel_rfl) ?q_24 ?y_24 (by assumption) ?_
  case h_24 => (first | (simp only [List.getElem?_toArray, List.getElem?_cons_zero, List.getElem?_cons_succ]; done) | (simp only [List.getElem?_toArray, List.getElem?_cons_zero, List.getElem?_cons_succ]; exact rfl))
  case q_24 => exact fun _ _ _ h => h
  case y_24 => (refine Or.inl ⟨rfl, ?_⟩; intro w hSw; (try dsimp only at hSw); go_simp; (try with_reducible rfl))
  (try simp only [Act.put, List.setIfInBounds_toArray, List.set_cons_zero, List.set_cons_succ])
  refine wpAnyH_take (i := 25) (oi := ?o_25) (v := ?v_25) ?h_25 (by kernel_rfl) (by kernel_rfl) (by kernel_rfl) ?q_25 ?y_25 (by assumption) ?_
  case h_25 => (first | (simp only [List.getElem?_toArray, List.getElem?_cons_zero, List.getElem?_cons_succ]; done) | (simp only [List.getElem?_toArray, List.getElem?_cons_zero, List.getElem?_cons_succ]; exact rfl))
  case q_25 => exact fun _ _ _ h => h
  case y_25 => (refine Or.inl ⟨rfl, ?_⟩; intro w hSw; (try dsimp only at hSw); go_simp; (try with_reducible rfl))
  (try simp only [Act.put, List.setIfInBounds_toArray, List.set_cons_zero, List.set_cons_succ])
  refine wpAnyH_take (i := 26) (oi := ?o_26) (v := .int .i64 a.fm) ?h_26 (by kernel_rfl) (by kernel_rfl) (by kernel_rfl) ?q_26 ?y_26 (by assumption) ?_
  case h_26 => (first | (simp only [List.getElem?_toArray, List.getElem?_cons_zero, List.getElem?_cons_succ]; done) | (simp only [List.getElem?_toArray, List.getElem?_cons_zero, List.getElem?_cons_succ]; exact rfl))
  case q_26 => exact fun _ _ _ h => h
  case y_26 => (refine Or.inl ⟨rfl, ?_⟩; intro w hSw; (try dsimp only at hSw); go_simp; (try with_reducible rfl))
  (try simp only [Act.put, List.setIfInBounds_toArray, List.set_cons_zero, List.set_cons_succ])
  refine wpAnyH_take (i := 27) (oi := ?o_27) (v := .bool true) ?h_27 (by kernel_rfl) (by kernel_rfl) (by kernel_rfl) ?q_27 ?y_27 (by assumption) ?_
  case h_27 => (first | (simp only [List.getElem?_toArray, List.getElem?_cons_zero, List.getElem?_cons_succ]; done) | (simp only [List.getElem?_toArray, List.getElem?_cons_zero, List.getElem?_cons_succ]; exact rfl))
  case q_27 => exact fun _ _ _ h => h
  case y_27 => (refine Or.inl ⟨rfl, ?_⟩; intro w hSw; (try dsimp only at hSw); go_simp; (try with_reducible rfl))
  (try simp only [Act.put, List.setIfInBounds_toArray, List.set_cons_zero, List.set_cons_succ])
  refine wpAnyH_take (i := 28) (oi := ?o_28) (v := .bool true) ?h_28 (by kernel_rfl) (by kernel_rfl) (by kernel_rfl) ?q_28 ?y_28 (by assumption) ?_
  case h_28 => (first | (simp only [List.getElem?_toArray, List.getElem?_cons_zero, List.getElem?_cons_succ]; done) | (simp only [List.getElem?_toArray, List.getElem?_cons_zero, List.getElem?_cons_succ]; exact rfl))
  case q_28 => exact fun _ _ _ h => h
  case y_28 => (refine Or.inl ⟨rfl, ?_⟩; intro w hSw; (try dsimp only at hSw); go_simp; (try with_reducible rfl))
  (try simp only [Act.put, List.setIfInBounds_toArray, List.set_cons_zero, List.set_cons_succ])
  refine wpAnyH_take (i := 29) (oi := ?o_29) (v := .bool true) ?h_29 (by kernel_rfl) (by kernel_rfl) (by kernel_rfl) ?q_29 ?y_29 (by assumption) ?_
  case h_29 => (first | (simp only [List.getElem?_toArray, List.getElem?_cons_zero, List.getElem?_cons_succ]; done) | (simp only [List.getElem?_toArray, List.getElem?_cons_zero, List.getElem?_cons_succ]; exact rfl))
  case q_29 => exact fun _ _ _ h => h
  case y_29 => (refine Or.inl ⟨rfl, ?_⟩; intro w hSw; (try dsimp only at hSw); go_simp; (try with_reducible rfl))
  (try simp only [Act.put, List.setIfInBounds_toArray, List.set_cons_zero, List.set_cons_succ])
  refine wpAnyH_take (i := 30) (oi := ?o_30) (v := ?v_30) ?h_30 (by kernel_rfl) (by kernel_rfl) (by kernel_rfl) ?q_30 ?y_30 (by assumption) ?_
  case h_30 => (first | (simp only [List.getElem?_toArray, List.getElem?_cons_zero, List.getElem?_cons_succ]; done) | (simp only [List.getElem?_toArray, List.getElem?_cons_zero, List.getElem?_cons_succ]; exact rfl))
  case q_30 => exact fun _ _ _ h => h
  case y_30 => (refine Or.inl ⟨rfl, ?_⟩; intro w hSw; (try dsimp only at hSw); go_simp; (try with_reducible rfl))
  (try simp only [Act.put, List.setIfInBounds_toArray, List.set_cons_zero, List.set_cons_succ])
  refine wpAnyH_take (i := 31) (oi := ?o_31) (v := .int .i64 a.fm) ?h_31 (by kernel_rfl) (by kernel_rfl) (by kernel_rfl) ?q_31 ?y_31 (by assumption) ?_
  case h_31 => (first | (simp only [List.getElem?_toArray, List.getElem?_cons_zero, List.getElem?_cons_succ]; done) | (simp only [List.getElem?_toArray, List.getElem?_cons_zero, List.getElem?_cons_succ]; exact rfl))
  case q_31 => exact fun _ _ _ h => h
  case y_31 => (refine Or.inl ⟨rfl, ?_⟩; intro w hSw; (try dsimp only at hSw); go_simp; (try with_reducible rfl))
  (try simp only [Act.put, List.setIfInBounds_toArray, List.set_cons_zero, List.set_cons_succ])
  refine wpAnyH_take (i := 32) (oi := ?o_32) (v := .int .i64 (fl c.fl)) ?h_32 (by kernel_rfl) (by kernel_rfl) (by kernel_rfl) ?q_32 ?y_32 (by assumption) ?_
  case h_32 => (first | (simp only [List.getElem?_toArray, List.getElem?_cons_zero, List.getElem?_cons_succ]; done) | (simp only [List.getElem?_toArray, List.getElem?_cons_zero, List.getElem?_cons_succ]; exact rfl))
  case q_32 => exact fun _ _ _ h => h
  case y_32 => (refine Or.inl ⟨rfl, ?_⟩; intro w hSw; (try dsimp only at hSw); go_simp; (try with_reducible rfl))
  (try simp only [Act.put, List.setIfInBounds_toArray, List.set_cons_zero, List.set_cons_succ])
  refine wpAnyH_take (i := 33) (oi := ?o_33) (v := .bool true) ?h_33 (by kernel_rfl) (by kernel_rfl) (by kernel_rfl) ?q_33 ?y_33 (by assumption) ?_
  case h_33 => (first | (simp only [List.getElem?_toArray, List.getElem?_cons_zero, List.getElem?_cons_succ]; done) | (simp only [List.getElem?_toArray, List.getElem?_cons_zero, List.getElem?_cons_succ]; exact rfl))
  case q_33 => exact fun _ _ _ h => h
  case y_33 => (refine Or.inl ⟨rfl, ?_⟩; intro w hSw; (try dsimp only at hSw); go_simp; (try with_reducible rfl))
  (try simp only [Act.put, List.setIfInBounds_toArray, List.set_cons_zero, List.set_cons_succ])
  refine wpAnyH_take (i := 34) (oi := ?o_34) (v := .bool true) ?h_34 (by kernel_rfl) (by kernel_rfl) (by kernel_rfl) ?q_34 ?y_34 (by assumption) ?_
  case h_34 => (first | (simp only [List.getElem?_toArray, List.getElem?_cons_zero, List.getElem?_cons_succ]; done) | (simp only [List.getElem?_toArray, List.getElem?_cons_zero, List.getElem?_cons_succ]; exact rfl))
  case q_34 => exact fun _ _ _ h => h
  case y_34 => (refine Or.inl ⟨rfl, ?_⟩; intro w hSw; (try dsimp only at hSw); go_simp; (try with_reducible rfl))
  (try simp only [Act.put, List.setIfInBounds_toArray, List.set_cons_zero, List.set_cons_succ])
  refine wpAnyH_take (i := 35) (oi := ?o_35) (v := .bool true) ?h_35 (by kernel_rfl) (by kernel_rfl) (by kernel_rfl) ?q_35 ?y_35 (by assumption) ?_
  case h_35 => (first | (simp only [List.getElem?_toArray, List.getElem?_cons_zero, List.getElem?_cons_succ]; done) | (simp only [List.getElem?_toArray, List.getElem?_cons_zero, List.getElem?_cons_succ]; exact rfl))
  case q_35 => exact fun _ _ _ h => h
  case y_35 => (refine Or.inl ⟨rfl, ?_⟩; intro w hSw; (try dsimp only at hSw); go_simp; (try with_reducible rfl))
  (try simp only [Act.put, List.setIfInBounds_toArray, List.set_cons_zero, List.set_cons_succ])
  refine wpAnyH_take (i := 36) (oi := ?o_36) (v := ?v_36) ?h_36 (by kernel_rfl) (by kernel_rfl) (by kernel_rfl) ?q_36 ?y_36 (by assumption) ?_
  case h_36 => (first | (simp only [List.getElem?_toArray, List.getElem?_cons_zero, List.getElem?_cons_succ]; done) | (simp only [List.getElem?_toArray, List.getElem?_cons_zero, List.getElem?_cons_succ]; exact rfl))
  case q_36 => exact fun _ _ _ h => h
  case y_36 => (refine Or.inl ⟨rfl, ?_⟩; intro w hSw; (try dsimp only at hSw); go_simp; (try with_reducible rfl))
  (try simp only [Act.put, List.setIfInBounds_toArray, List.set_cons_zero, List.set_cons_succ])
  refine wpAnyH_take (i := 37) (oi := ?o_37) (v := .int .i64 a.to) ?h_37 (by kernel_rfl) (by kernel_rfl) (by kernel_rfl) ?q_37 ?y_37 (by assumption) ?_
  case h_37 => (first | (simp only [List.getElem?_toArray, List.getElem?_cons_zero, List.getElem?_cons_succ]; done) | (simp only [List.getElem?_toArray, List.getElem?_cons_zero, List.getElem?_cons_succ]; exact rfl))
  case q_37 => exact fun _ _ _ h => h
  case y_37 => (refine Or.inl ⟨rfl, ?_⟩; intro w hSw; (try dsimp only at hSw); go_simp; (try with_reducible rfl))
  (try simp only [Act.put, List.setIfInBounds_toArray, List.set_cons_zero, List.set_cons_succ])
  refine wpAnyH_take (i := 38) (oi := ?o_38) (v := .bool true) ?h_38 (by kernel_rfl) (by kernel_rfl) (by kernel_rfl) ?q_38 ?y_38 (by assumption) ?_
  case h_38 => (first | (simp only [List.getElem?_toArray, List.getElem?_cons_zero, List.getElem?_cons_succ]; done) | (simp only [List.getElem?_toArray, List.getElem?_cons_zero, List.getElem?_cons_succ]; exact rfl))
  case q_38 => exact fun _ _ _ h => h
  case y_38 => (refine Or.inl ⟨rfl, ?_⟩; intro w hSw; (try dsimp only at hSw); go_simp; (try with_reducible rfl))
  (try simp only [Act.put, List.setIfInBounds_toArray, List.set_cons_zero, List.set_cons_succ])
  refine wpAnyH_take (i := 39) (oi := ?o_39) (v := .bool true) ?h_39 (by kernel_rfl) (by kernel_rfl) (by kernel_rfl) ?q_39 ?y_39 (by assumption) ?_
  case h_39 => (first | (simp only [List.getElem?_toArray, List.getElem?_cons_zero, List.getElem?_cons_succ]; done) | (simp only [List.getElem?_toArray, List.getElem?_cons_zero, List.getElem?_cons_succ]; exact rfl))
  case q_39 => exact fun _ _ _ h => h
  case y_39 => (refine Or.inl ⟨rfl, ?_⟩; intro w hSw; (try dsimp only at hSw); go_simp; (try with_reducible rfl))
  (try simp only [Act.put, List.setIfInBounds_toArray, List.set_cons_zero, List.set_cons_succ])
  refine wpAnyH_take (i := 40) (oi := ?o_40) (v := .bool true) ?h_40 (by kernel_rfl) (by kernel_rfl) (by kernel_rfl) ?q_40 ?y_40 (by assumption) ?_
  case h_40 => (first | (simp only [List.getElem?_toArray, List.getElem?_cons_zero, List.getElem?_cons_succ]; done) | (simp only [List.getElem?_toArray, List.getElem?_cons_zero, List.getElem?_cons_succ]; exact rfl))
  case q_40 => exact fun _ _ _ h => h
  case y_40 => (refine Or.inl ⟨rfl, ?_⟩; intro w hSw; (try dsimp only at hSw); go_simp; (try with_reducible rfl))
  (try simp only [Act.put, List.setIfInBounds_toArray, List.set_cons_zero, List.set_cons_succ])
  refine wpAnyH_take (i := 41) (oi := ?o_41) (v := ?v_41) ?h_41 (by kernel_rfl) (by kernel_rfl) (by kernel_rfl) ?q_41 ?y_41 (by assumption) ?_
  case h_41 => (first | (simp only [List.getElem?_toArray, List.getElem?_cons_zero, List.getElem?_cons_succ]; done) | (simp only [List.getElem?_toArray, List.getElem?_cons_zero, List.getElem?_cons_succ]; exact rfl))
  case q_41 => exact fun _ _ _ h => h
  case y_41 => (refine Or.inl ⟨rfl, ?_⟩; intro w hSw; (try dsimp only at hSw); go_simp; (try with_reducible rfl))
  (try simp only [Act.put, List.setIfInBounds_toArray, List.set_cons_zero, List.set_cons_succ])
  refine wpAnyH_take (i := 42) (oi := ?o_42) (v := .int .i64 a.to) ?h_42 (by kernel_rfl) (by kernel_rfl) (by kernel_rfl) ?q_42 ?y_42 (by assumption) ?_
  case h_42 => (first | (simp only [List.getElem?_toArray, List.getElem?_cons_zero, List.getElem?_cons_succ]; done) | (simp only [List.getElem?_toArray, List.getElem?_cons_zero, List.getElem?_cons_succ]; exact rfl))
  case q_42 => exact fun _ _ _ h => h
  case y_42 => (refine Or.inl ⟨rfl, ?_⟩; intro w hSw; (try dsimp only at hSw); go_simp; (try with_reducible rfl))
  (try simp only [Act.put, List.setIfInBounds_toArray, List.set_cons_zero, List.set_cons_succ])
  refine wpAnyH_take (i := 43) (oi := ?o_43) (v := .int .i64 (fl c.fl)) ?h_43 (by kernel_rfl) (by kernel_rfl) (by kernel_rfl) ?q_43 ?y_43 (by assumption) ?_
  case h_43 => (first | (simp only [List.getElem?_toArray, List.getElem?_cons_zero, List.getElem?_cons_succ]; done) | (simp only [List.getElem?_toArray, List.getElem?_cons_zero, List.getElem?_cons_succ]; exact rfl))
  case q_43 => exact fun _ _ _ h => h
  case y_43 => (refine Or.inl ⟨rfl, ?_⟩; intro w hSw; (try dsimp only at hSw); go_simp; (try with_reducible rfl))
  (try simp only [Act.put, List.setIfInBounds_toArray, List.set_cons_zero, List.set_cons_succ])
  refine wpAnyH_take (i := 44) (oi := ?o_44) (v := .bool false) ?h_44 (by kernel_rfl) (by kernel_rfl) (by kernel_rfl) ?q_44 ?y_44 (by assumption) ?_
  case h_44 => (first | (simp only [List.getElem?_toArray, List.getElem?_cons_zero, List.getElem?_cons_succ]; done) | (simp only [List.getElem?_toArray, List.getElem?_cons_zero, List.getElem?_cons_succ]; exact rfl))
  case q_44 => exact fun _ _ _ h => h
  case y_44 => (refine Or.inl ⟨rfl, ?_⟩; intro w hSw; (try dsimp only at hSw); go_simp; (try with_reducible rfl))
  (try simp only [Act.put, List.setIfInBounds_toArray, List.set_cons_zero, List.set_cons_succ])
  refine wpAnyH_take (i := 45) (oi := ?o_45) (v := .bool false) ?h_45 (by kernel_rfl) (by kernel_rfl) (by kernel_rfl) ?q_45 ?y_45 (by assumption) ?_
  case h_45 => (first | (simp only [List.getElem?_toArray, List.getElem?_cons_zero, List.getElem?_cons_succ]; done) | (simp only [List.getElem?_toArray, List.getElem?_cons_zero, List.getElem?_cons_succ]; exact rfl))
  case q_45 => exact fun _ _ _ h => h
  case y_45 => (refine Or.inl ⟨rfl, ?_⟩; intro w hSw; (try dsimp only at hSw); go_simp; (try with_reducible rfl))
  (try simp only [Act.put, List.setIfInBounds_toArray, List.set_cons_zero, List.set_cons_succ])
  refine wpAnyH_take (i := 46) (oi := ?o_46) (v := .bool false) ?h_46 (by kernel_rfl) (by kernel_rfl) (by kernel_rfl) ?q_46 ?y_46 (by assumption) ?_
  case h_46 => (first | (simp only [List.getElem?_toArray, List.getElem?_cons_zero, List.getElem?_cons_succ]; done) | (simp only [List.getElem?_toArray, List.getElem?_cons_zero, List.getElem?_cons_succ]; exact rfl))
  case q_46 => exact fun _ _ _ h => h
  case y_46 => (refine Or.inl ⟨rfl, ?_⟩; intro w hSw; (try dsimp only at hSw); go_simp; (try with_reducible rfl))
  (try simp only [Act.put, List.setIfInBounds_toArray, List.set_cons_zero, List.set_cons_succ])
  refine wpAnyH_take (i := 47) (oi := ?o_47) (v := undef) ?h_47 (by kernel_rfl) (by kernel_rfl) (by kernel_rfl) ?q_47 ?y_47 (by assumption) ?_
  case h_47 => (first | (simp only [List.getElem?_toArray, List.getElem?_cons_zero, List.getElem?_cons_succ]; done) | (simp only [List.getElem?_toArray, List.getElem?_cons_zero, List.getElem?_cons_succ]; exact rfl))
  case q_47 => exact fun _ _ _ h => h
  case y_47 => exact Or.inr ⟨rfl, rfl⟩
  (try simp only [Act.put, List.setIfInBounds_toArray, List.set_cons_zero, List.set_cons_succ])
  refine wpAnyH_take (i := 48) (oi := ?o_48) (v := undef) ?h_48 (by kernel_rfl) (by kernel_rfl) (by kernel_rfl) ?q_48 ?y_48 (by assumption) ?_
  case h_48 => (first | (simp only [List.getElem?_toArray, List.getElem?_cons_zero, List.getElem?_cons_succ]; done) | (simp only [List.getElem?_toArray, List.getElem?_cons_zero, List.getElem?_cons_succ]; exact rfl))
  case q_48 => exact fun _ _ _ h => h
  case y_48 => exact Or.inr ⟨rfl, rfl⟩
  (try simp only [Act.put, List.setIfInBounds_toArray, List.set_cons_zero, List.set_cons_succ])
  refine wpAnyH_take (i := 49) (oi := ?o_49) (v := undef) ?h_49 (by kernel_rfl) (by kernel_rfl) (by kernel_rfl) ?q_49 ?y_49 (by assumption) ?_
  case h_49 => (first | (simp only [List.getElem?_toArray, List.getElem?_cons_zero, List.getElem?_cons_succ]; done) | (simp only [List.getElem?_toArray, List.getElem?_cons_zero, List.getElem?_cons_succ]; exact rfl))
  case q_49 => exact fun _ _ _ h => h
  case y_49 => exact Or.inr ⟨rfl, rfl⟩
  (try simp only [Act.put, List.setIfInBounds_toArray, List.set_cons_zero, List.set_cons_succ])
  refine wpAnyH_take (i := 50) (oi := ?o_50) (v := undef) ?h_50 (by kernel_rfl) (by kernel_rfl) (by kernel_rfl) ?q_50 ?y_50 (by assumption) ?_
  case h_50 => (first | (simp only [List.getElem?_toArray, List.getElem?_cons_zero, List.getElem?_cons_succ]; done) | (simp only [List.getElem?_toArray, List.getElem?_cons_zero, List.getElem?_cons_succ]; exact rfl))
  case q_50 => exact fun _ _ _ h => h
  case y_50 => exact Or.inr ⟨rfl, rfl⟩
  (try simp only [Act.put, List.setIfInBounds_toArray, List.set_cons_zero, List.set_cons_succ])
  refine wpAnyH_take (i := 51) (oi := ?o_51) (v := undef) ?h_51 (by kernel_rfl) (by kernel_rfl) (by kernel_rfl) ?q_51 ?y_51 (by assumption) ?_
  case h_51 => (first | (simp only [List.getElem?_toArray, List.getElem?_cons_zero, List.getElem?_cons_succ]; done) | (simp only [List.getElem?_toArray, List.getElem?_cons_zero, List.getElem?_cons_succ]; exact rfl))
  case q_51 => exact fun _ _ _ h => h
  case y_51 => exact Or.inr ⟨rfl, rfl⟩
  (try simp only [Act.put, List.setIfInBounds_toArray, List.set_cons_zero, List.set_cons_succ])
  refine wpAnyH_take (i := 52) (oi := ?o_52) (v := .bool false) ?h_52 (by kernel_rfl) (by kernel_rfl) (by kernel_rfl) ?q_52 ?y_52 (by assumption) ?_
  case h_52 => (first | (simp only [List.getElem?_toArray, List.getElem?_cons_zero, List.getElem?_cons_succ]; done) | (simp only [List.getElem?_toArray, List.getElem?_cons_zero, List.getElem?_cons_succ]; exact rfl))
  case q_52 => exact fun _ _ _ h => h
  case y_52 => (refine Or.inl ⟨rfl, ?_⟩; intro w hSw; (try dsimp only at hSw); go_simp; (try with_reducible rfl))
  (try simp only [Act.put, List.setIfInBounds_toArray, List.set_cons_zero, List.set_cons_succ])
  refine wpAnyH_take (i := 53) (oi := ?o_53) (v := .bool false) ?h_53 (by kernel_rfl) (by kernel_rfl) (by kernel_rfl) ?q_53 ?y_53 (by assumption) ?_
  case h_53 => (first | (simp only [List.getElem?_toArray, List.getElem?_cons_zero, List.getElem?_cons_succ]; done) | (simp only [List.getElem?_toArray, List.getElem?_cons_zero, List.getElem?_cons_succ]; exact rfl))
  case q_53 => exact fun _ _ _ h => h
  case y_53 => (refine Or.inl ⟨rfl, ?_⟩; intro w hSw; (try dsimp only at hSw); go_simp; (try with_reducible rfl))
  (try simp only [Act.put, List.setIfInBounds_toArray, List.set_cons_zero, List.set_cons_succ])
  refine wpAnyH_take (i := 54) (oi := ?o_54) (v := undef) ?h_54 (by kernel_rfl) (by kernel_rfl) (by kernel_rfl) ?q_54 ?y_54 (by assumption) ?_
  case h_54 => (first | (simp only [List.getElem?_toArray, List.getElem?_cons_zero, List.getElem?_cons_succ]; done) | (simp only [List.getElem?_toArray, List.getElem?_cons_zero, List.getElem?_cons_succ]; exact rfl))
  case q_54 => exact fun _ _ _ h => h
  case y_54 => exact Or.inr ⟨rfl, rfl⟩
  (try simp only [Act.put, List.setIfInBounds_toArray, List.set_cons_zero, List.set_cons_succ])
  refine wpAnyH_take (i := 55) (oi := ?o_55) (v := undef) ?h_55 (by kernel_rfl) (by kernel_rfl) (by kernel_rfl) ?q_55 ?y_55 (by assumption) ?_
  case h_55 => (first | (simp only [List.getElem?_toArray, List.getElem?_cons_zero, List.getElem?_cons_succ]; done) | (simp only [List.getElem?_toArray, List.getElem?_cons_zero, List.getElem?_cons_succ]; exact rfl))
  case q_55 => exact fun _ _ _ h => h
  case y_55 => exact Or.inr ⟨rfl, rfl⟩
  (try simp only [Act.put, List.setIfInBounds_toArray, List.set_cons_zero, List.set_cons_succ])
  refine wpAnyH_take (i := 56) (oi := ?o_56) (v := undef) ?h_56 (by kernel_rfl) (by kernel_rfl) (by kernel_rfl) ?q_56 ?y_56 (by assumption) ?_
  case h_56 => (first | (simp only [List.getElem?_toArray, List.getElem?_cons_zero, List.getElem?_cons_succ]; done) | (simp only [List.getElem?_toArray, List.getElem?_cons_zero, List.getElem?_cons_succ]; exact rfl))
  case q_56 => exact fun _ _ _ h => h
  case y_56 => exact Or.inr ⟨rfl, rfl⟩
  (try simp only [Act.put, List.setIfInBounds_toArray, List.set_cons_zero, List.set_cons_succ])
  refine wpAnyH_take (i := 57) (oi := ?o_57) (v := .bool false) ?h_57 (by kernel_rfl) (by kernel_rfl) (by kernel_rfl) ?q_57 ?y_57 (by assumption) ?_
  case h_57 => (first | (simp only [List.getElem?_toArray, List.getElem?_cons_zero, List.getElem?_cons_succ]; done) | (simp only [List.getElem?_toArray, List.getElem?_cons_zero, List.getElem?_cons_succ]; exact rfl))
  case q_57 => exact fun _ _ _ h => h
  case y_57 => (refine Or.inl ⟨rfl, ?_⟩; intro w hSw; (try dsimp only at hSw); go_simp; (try with_reducible rfl))
  (try simp only [Act.put, List.setIfInBounds_toArray, List.set_cons_zero, List.set_cons_succ])
  refine wpAnyH_take (i := 58) (oi := ?o_58) (v := .bool false) ?h_58 (by kernel_rfl) (by kernel_rfl) (by kernel_rfl) ?q_58 ?y_58 (by assumption) ?_
  case h_58 => (first | (simp only [List.getElem?_toArray, List.getElem?_cons_zero, List.getElem?_cons_succ]; done) | (simp only [List.getElem?_toArray, List.getElem?_cons_zero, List.getElem?_cons_succ]; exact rfl))
  case q_58 => exact fun _ _ _ h => h
  case y_58 => (refine Or.inl ⟨rfl, ?_⟩; intro w hSw; (try dsimp only at hSw); go_simp; (try with_reducible rfl))
  (try simp only [Act.put, List.setIfInBounds_toArray, List.set_cons_zero, List.set_cons_succ])
  refine wpAnyH_take (i := 59) (oi := ?o_59) (v := undef) ?h_59 (by kernel_rfl) (by kernel_rfl) (by kernel_rfl) ?q_59 ?y_59 (by assumption) ?_
  case h_59 => (first | (simp only [List.getElem?_toArray, List.getElem?_cons_zero, List.getElem?_cons_succ]; done) | (simp only [List.getElem?_toArray, List.getElem?_cons_zero, List.getElem?_cons_succ]; exact rfl))
  case q_59 => exact fun _ _ _ h => h
  case y_59 => exact Or.inr ⟨rfl, rfl⟩
  (try simp only [Act.put, List.setIfInBounds_toArray, List.set_cons_zero, List.set_cons_succ])
  refine wpAnyH_take (i := 60) (oi := ?o_60) (v := undef) ?h_60 (by kernel_rfl) (by kernel_rfl) (by kernel_rfl) ?q_60 ?y_60 (by assumption) ?_
  case h_60 => (first | (simp only [List.getElem?_toArray, List.getElem?_cons_zero, List.getElem?_cons_succ]; done) | (simp only [List.getElem?_toArray, List.getElem?_cons_zero, List.getElem?_cons_succ]; exact rfl))
  case q_60 => exact fun _ _ _ h => h
  case y_60 => exact Or.inr ⟨rfl, rfl⟩
  (try simp only [Act.put, List.setIfInBounds_toArray, List.set_cons_zero, List.set_cons_succ])
  refine wpAnyH_take (i := 61) (oi := ?o_61) (v := undef) ?h_61 (by kernel_rfl) (by kernel_rfl) (by kernel_rfl) ?q_61 ?y_61 (by assumption) ?_
  case h_61 => (first | (simp only [List.getElem?_toArray, List.getElem?_cons_zero, List.getElem?_cons_succ]; done) | (simp only [List.getElem?_toArray, List.getElem?_cons_zero, List.getElem?_cons_succ]; exact rfl))
  case q_61 => exact fun _ _ _ h => h
  case y_61 => exact Or.inr ⟨rfl, rfl⟩
  (try simp only [Act.put, List.setIfInBounds_toArray, List.set_cons_zero, List.set_cons_succ])
  refine wpAnyH_take (i := 62) (oi := ?o_62) (v := undef) ?h_62 (by kernel_rfl) (by kernel_rfl) (by kernel_rfl) ?q_62 ?y_62 (by assumption) ?_
  case h_62 => (first | (simp only [List.getElem?_toArray, List.getElem?_cons_zero, List.getElem?_cons_succ]; done) | (simp only [List.getElem?_toArray, List.getElem?_cons_zero, List.getElem?_cons_succ]; exact rfl))
  case q_62 => exact fun _ _ _ h => h
  case y_62 => exact Or.inr ⟨rfl, rfl⟩
  (try simp only [Act.put, List.setIfInBounds_toArray, List.set_cons_zero, List.set_cons_succ])
  refine wpAnyH_take (i := 63) (oi := ?o_63) (v := undef) ?h_63 (by kernel_rfl) (by kernel_rfl) (by kernel_rfl) ?q_63 ?y_63 (by assumption) ?_
  case h_63 => (first | (simp only [List.getElem?_toArray, List.getElem?_cons_zero, List.getElem?_cons_succ]; done) | (simp only [List.getElem?_toArray, List.getElem?_cons_zero, List.getElem?_cons_succ]; exact rfl))
  case q_63 => exact fun _ _ _ h => h
  case y_63 => exact Or.inr ⟨rfl, rfl⟩
  (try simp only [Act.put, List.setIfInBounds_toArray, List.set_cons_zero, List.set_cons_succ])
  refine wpAnyH_take (i := 64) (oi := ?o_64) (v := undef) ?h_64 (by kernel_rfl) (by kernel_rfl) (by kernel_rfl) ?q_64 ?y_64 (by assumption) ?_
  case h_64 => (first | (simp only [List.getElem?_toArray, List.getElem?_cons_zero, List.getElem?_cons_succ]; done) | (simp only [List.getElem?_toArray, List.getElem?_cons_zero, List.getElem?_cons_succ]; exact rfl))
  case q_64 => exact fun _ _ _ h => h
  case y_64 => exact Or.inr ⟨rfl, rfl⟩
  (try simp only [Act.put, List.setIfInBounds_toArray, List.set_cons_zero, List.set_cons_succ])
  refine wpAnyH_take (i := 65) (oi := ?o_65) (v := .bool false) ?h_65 (by kernel_rfl) (by kernel_rfl) (by kernel_rfl) ?q_65 ?y_65 (by assumption) ?_
  case h_65 => (first | (simp only [List.getElem?_toArray, List.getElem?_cons_zero, List.getElem?_cons_succ]; done) | (simp only [List.getElem?_toArray, List.getElem?_cons_zero, List.getElem?_cons_succ]; exact rfl))
  case q_65 => exact fun _ _ _ h => h
  case y_65 => (refine Or.inl ⟨rfl, ?_⟩; intro w hSw; (try dsimp only at hSw); go_simp; (try with_reducible rfl))
  (try simp only [Act.put, List.setIfInBounds_toArray, List.set_cons_zero, List.set_cons_succ])
  refine wpAnyH_take (i := 66) (oi := ?o_66) (v := .bool false) ?h_66 (by kernel_rfl) (by kernel_rfl) (by kernel_rfl) ?q_66 ?y_66 (by assumption) ?_
  case h_66 => (first | (simp only [List.getElem?_toArray, List.getElem?_cons_zero, List.getElem?_cons_succ]; done) | (simp only [List.getElem?_toArray, List.getElem?_cons_zero, List.getElem?_cons_succ]; exact rfl))
  case q_66 => exact fun _ _ _ h => h
  case y_66 => (refine Or.inl ⟨rfl, ?_⟩; intro w hSw; (try dsimp only at hSw); go_simp; (try with_reducible rfl))
  (try simp only [Act.put, List.setIfInBounds_toArray, List.set_cons_zero, List.set_cons_succ])
  refine wpAnyH_done (by kernel_rfl) ?_ _
  obtain ⟨hs2, _⟩ := hHeld
  have HS2 := Lib.hid hs2
  clear hs2 HRK HRD
  go_wp2
  go_ret
  exact ⟨ret_bool HB.out.symm, HS1.out.trans HS2.out⟩
set_option maxHeartbeats 4000000 in
theorem my10 (c : CfgV) (a : AskV) (h0 : 0 ≤ a.se) (h1 : a.se < btw c.se 1 64) (h2 : 0 ≤ a.fl) (h3 : a.fl < btw c.ft 1 8) (h4 : 0 ≤ a.fm) (h5 : a.fm < fl c.fl) (h6 : 0 ≤ a.to) (h7 : a.to < fl c.fl) (h8 : a.fm ≠ a.to) (h9 : 1 ≤ a.ma) (h10 : ¬ (a.ma ≤ ms c.lo)) (w : World) : Calls Try.prog 23 #[.agg #[.int .i64 c.ca, .int .i64 c.fl, .int .i64 c.ft, .int .i64 c.se, .int .i64 c.dr, .int .i64 c.dw, .int .i64 c.ho, .int .i64 c.re, .int .i64 c.yi, .int .i64 c.qu, .int .i64 c.qo, .int .i64 c.lo, .int .i64 c.sl, .int .i64 c.rt, .int .i64 c.cp, .int .i64 c.tr, .int .i64 c.de, .int .i64 c.wi], .agg #[.int .i64 a.se, .int .i64 a.fl, .int .i64 a.fm, .int .i64 a.to, .int .i64 a.ma]] w fun e w' => e = .returned (.bool (mayB c a)) ∧ Since w w' := by
  have d0 : decide (0 ≤ a.se) = true := decide_eq_true h0
  have d1 : decide (a.se < btw c.se 1 64) = true := decide_eq_true h1
  have d2 : decide (0 ≤ a.fl) = true := decide_eq_true h2
  have d3 : decide (a.fl < btw c.ft 1 8) = true := decide_eq_true h3
  have d4 : decide (0 ≤ a.fm) = true := decide_eq_true h4
  have d5 : decide (a.fm < fl c.fl) = true := decide_eq_true h5
  have d6 : decide (0 ≤ a.to) = true := decide_eq_true h6
  have d7 : decide (a.to < fl c.fl) = true := decide_eq_true h7
  have d8 : (a.fm != a.to) = true := by simpa using h8
  have d9 : decide (1 ≤ a.ma) = true := decide_eq_true h9
  have d10 : decide (a.ma ≤ ms c.lo) = false := decide_eq_false h10
  have HB := Lib.hid (show mayB c a = false by rw [← Bool.not_eq_true, mayB_iff]; intro h; exact h10 (by first | exact h.1.1 | exact h.1.2 | exact h.2.1.1 | exact h.2.1.2 | exact h.2.2.1.1 | exact h.2.2.1.2 | exact h.2.2.2.1.1 | exact h.2.2.2.1.2 | exact h.2.2.2.2.1 | exact h.2.2.2.2.2.1 | exact h.2.2.2.2.2.2))
  clear h0 h1 h2 h3 h4 h5 h6 h7 h8 h9 h10
  go_enter Try.func23, Try.ntmps23
  go_wp2_with fail
  refine (floorsR _ _).mono ?_
  rintro e w1 ⟨rfl, hw1⟩
  have q0 : w1.cell? ⟨w.heap.size, 2, none⟩ = some (.int .i64 c.ft) := by rw [← hw1]; simp [go_sem]
  have q1 : w1.cell? ⟨w.heap.size, 3, none⟩ = some (.int .i64 c.se) := by rw [← hw1]; simp [go_sem]
  have q2 : w1.cell? ⟨w.heap.size, 11, none⟩ = some (.int .i64 c.lo) := by rw [← hw1]; simp [go_sem]
  have q3 : w1.cell? ⟨w.heap.size + 1, 0, none⟩ = some (.int .i64 a.se) := by rw [← hw1]; simp [go_sem]
  have q4 : w1.cell? ⟨w.heap.size + 1, 1, none⟩ = some (.int .i64 a.fl) := by rw [← hw1]; simp [go_sem]
  have q5 : w1.cell? ⟨w.heap.size + 1, 2, none⟩ = some (.int .i64 a.fm) := by rw [← hw1]; simp [go_sem]
  have q6 : w1.cell? ⟨w.heap.size + 1, 3, none⟩ = some (.int .i64 a.to) := by rw [← hw1]; simp [go_sem]
  have q7 : w1.cell? ⟨w.heap.size + 1, 4, none⟩ = some (.int .i64 a.ma) := by rw [← hw1]; simp [go_sem]
  have HS1 := Lib.hid (show Since w w1 by rw [← hw1]; exact ((Since.refl _).alloc _).alloc _)
  clear hw1
  go_wp2_with fail
  have hrK : ∀ W W' : World, Since W W' → (Since w1 W ∧ W.cell? ⟨w.heap.size, 2, none⟩ = some (.int .i64 c.ft) ∧ W.cell? ⟨w.heap.size, 3, none⟩ = some (.int .i64 c.se) ∧ W.cell? ⟨w.heap.size, 11, none⟩ = some (.int .i64 c.lo) ∧ W.cell? ⟨w.heap.size + 1, 0, none⟩ = some (.int .i64 a.se) ∧ W.cell? ⟨w.heap.size + 1, 1, none⟩ = some (.int .i64 a.fl) ∧ W.cell? ⟨w.heap.size + 1, 2, none⟩ = some (.int .i64 a.fm) ∧ W.cell? ⟨w.heap.size + 1, 3, none⟩ = some (.int .i64 a.to) ∧ W.cell? ⟨w.heap.size + 1, 4, none⟩ = some (.int .i64 a.ma)) → (Since w1 W' ∧ W'.cell? ⟨w.heap.size, 2, none⟩ = some (.int .i64 c.ft) ∧ W'.cell? ⟨w.heap.size, 3, none⟩ = some (.int .i64 c.se) ∧ W'.cell? ⟨w.heap.size, 11, none⟩ = some (.int .i64 c.lo) ∧ W'.cell? ⟨w.heap.size + 1, 0, none⟩ = some (.int .i64 a.se) ∧ W'.cell? ⟨w.heap.size + 1, 1, none⟩ = some (.int .i64 a.fl) ∧ W'.cell? ⟨w.heap.size + 1, 2, none⟩ = some (.int .i64 a.fm) ∧ W'.cell? ⟨w.heap.size + 1, 3, none⟩ = some (.int .i64 a.to) ∧ W'.cell? ⟨w.heap.size + 1, 4, none⟩ = some (.int .i64 a.ma)) := fun W W' k ⟨h, h0, h1, h2, h3, h4, h5, h6, h7⟩ => ⟨h.trans k, keep_cell k h0, keep_cell k h1, keep_cell k h2, keep_cell k h3, keep_cell k h4, keep_cell k h5, keep_cell k h6, keep_cell k h7⟩
  have hrS : (fun W : World => Since w1 W ∧ W.cell? ⟨w.heap.size, 2, none⟩ = some (.int .i64 c.ft) ∧ W.cell? ⟨w.heap.size, 3, none⟩ = some (.int .i64 c.se) ∧ W.cell? ⟨w.heap.size, 11, none⟩ = some (.int .i64 c.lo) ∧ W.cell? ⟨w.heap.size + 1, 0, none⟩ = some (.int .i64 a.se) ∧ W.cell? ⟨w.heap.size + 1, 1, none⟩ = some (.int .i64 a.fl) ∧ W.cell? ⟨w.heap.size + 1, 2, none⟩ = some (.int .i64 a.fm) ∧ W.cell? ⟨w.heap.size + 1, 3, none⟩ = some (.int .i64 a.to) ∧ W.cell? ⟨w.heap.size + 1, 4, none⟩ = some (.int .i64 a.ma)) (w1) := ⟨Since.refl _, by first | assumption | (simp; done), by first | assumption | (simp; done), by first | assumption | (simp; done), by first | assumption | (simp; done), by first | assumption | (simp; done), by first | assumption | (simp; done), by first | assumption | (simp; done), by first | assumption | (simp; done)⟩
  have HRK := Lib.hid hrK
  have HRD := Lib.hid (show (fun W : World => Since w1 W ∧ W.cell? ⟨w.heap.size, 2, none⟩ = some (.int .i64 c.ft) ∧ W.cell? ⟨w.heap.size, 3, none⟩ = some (.int .i64 c.se) ∧ W.cell? ⟨w.heap.size, 11, none⟩ = some (.int .i64 c.lo) ∧ W.cell? ⟨w.heap.size + 1, 0, none⟩ = some (.int .i64 a.se) ∧ W.cell? ⟨w.heap.size + 1, 1, none⟩ = some (.int .i64 a.fl) ∧ W.cell? ⟨w.heap.size + 1, 2, none⟩ = some (.int .i64 a.fm) ∧ W.cell? ⟨w.heap.size + 1, 3, none⟩ = some (.int .i64 a.to) ∧ W.cell? ⟨w.heap.size + 1, 4, none⟩ = some (.int .i64 a.ma)) (World.drew (w1)) from ⟨(Since.refl _).drew, hrS.2⟩)
  clear hrK hrS
  refine wp_region_held_drew (S := fun W : World => Since w1 W ∧ W.cell? ⟨w.heap.size, 2, none⟩ = some (.int .i64 c.ft) ∧ W.cell? ⟨w.heap.size, 3, none⟩ = some (.int .i64 c.se) ∧ W.cell? ⟨w.heap.size, 11, none⟩ = some (.int .i64 c.lo) ∧ W.cell? ⟨w.heap.size + 1, 0, none⟩ = some (.int .i64 a.se) ∧ W.cell? ⟨w.heap.size + 1, 1, none⟩ = some (.int .i64 a.fl) ∧ W.cell? ⟨w.heap.size + 1, 2, none⟩ = some (.int .i64 a.fm) ∧ W.cell? ⟨w.heap.size + 1, 3, none⟩ = some (.int .i64 a.to) ∧ W.cell? ⟨w.heap.size + 1, 4, none⟩ = some (.int .i64 a.ma)) (by kernel_rfl) HRD.out (fun hHeld => ?_)
  refine wpAnyH_take (i := 0) (oi := ?o_0) (v := ?v_0) ?h_0 (by kernel_rfl) (by kernel_rfl) (by kernel_rfl) ?q_0 ?y_0 (by assumption) ?_
  case h_0 => (first | (simp only [List.getElem?_toArray, List.getElem?_cons_zero, List.getElem?_cons_succ]; done) | (simp only [List.getElem?_toArray, List.getElem?_cons_zero, List.getElem?_cons_succ]; exact rfl))
  case q_0 => exact fun _ _ _ h => h
  case y_0 => (refine Or.inl ⟨rfl, ?_⟩; intro w hSw; (try dsimp only at hSw); go_simp; (try with_reducible rfl))
  (try simp only [Act.put, List.setIfInBounds_toArray, List.set_cons_zero, List.set_cons_succ])
  refine wpAnyH_take (i := 1) (oi := ?o_1) (v := .int .i64 a.se) ?h_1 (by kernel_rfl) (by kernel_rfl) (by kernel_rfl) ?q_1 ?y_1 (by assumption) ?_
  case h_1 => (first | (simp only [List.getElem?_toArray, List.getElem?_cons_zero, List.getElem?_cons_succ]; done) | (simp only [List.getElem?_toArray, List.getElem?_cons_zero, List.getElem?_cons_succ]; exact rfl))
  case q_1 => exact fun _ _ _ h => h
  case y_1 => (refine Or.inl ⟨rfl, ?_⟩; intro w hSw; (try dsimp only at hSw); go_simp; (try with_reducible rfl))
  (try simp only [Act.put, List.setIfInBounds_toArray, List.set_cons_zero, List.set_cons_succ])
  refine wpAnyH_take (i := 2) (oi := ?o_2) (v := .bool true) ?h_2 (by kernel_rfl) (by kernel_rfl) (by kernel_rfl) ?q_2 ?y_2 (by assumption) ?_
  case h_2 => (first | (simp only [List.getElem?_toArray, List.getElem?_cons_zero, List.getElem?_cons_succ]; done) | (simp only [List.getElem?_toArray, List.getElem?_cons_zero, List.getElem?_cons_succ]; exact rfl))
  case q_2 => exact fun _ _ _ h => h
  case y_2 => (refine Or.inl ⟨rfl, ?_⟩; intro w hSw; (try dsimp only at hSw); go_simp; (try with_reducible rfl))
  (try simp only [Act.put, List.setIfInBounds_toArray, List.set_cons_zero, List.set_cons_succ])
  refine wpAnyH_take (i := 3) (oi := ?o_3) (v := .bool true) ?h_3 (by kernel_rfl) (by kernel_rfl) (by kernel_rfl) ?q_3 ?y_3 (by assumption) ?_
  case h_3 => (first | (simp only [List.getElem?_toArray, List.getElem?_cons_zero, List.getElem?_cons_succ]; done) | (simp only [List.getElem?_toArray, List.getElem?_cons_zero, List.getElem?_cons_succ]; exact rfl))
  case q_3 => exact fun _ _ _ h => h
  case y_3 => (refine Or.inl ⟨rfl, ?_⟩; intro w hSw; (try dsimp only at hSw); go_simp; (try with_reducible rfl))
  (try simp only [Act.put, List.setIfInBounds_toArray, List.set_cons_zero, List.set_cons_succ])
  refine wpAnyH_take (i := 4) (oi := ?o_4) (v := ?v_4) ?h_4 (by kernel_rfl) (by kernel_rfl) (by kernel_rfl) ?q_4 ?y_4 (by assumption) ?_
  case h_4 => (first | (simp only [List.getElem?_toArray, List.getElem?_cons_zero, List.getElem?_cons_succ]; done) | (simp only [List.getElem?_toArray, List.getElem?_cons_zero, List.getElem?_cons_succ]; exact rfl))
  case q_4 => exact fun _ _ _ h => h
  case y_4 => (refine Or.inl ⟨rfl, ?_⟩; intro w hSw; (try dsimp only at hSw); go_simp; (try with_reducible rfl))
  (try simp only [Act.put, List.setIfInBounds_toArray, List.set_cons_zero, List.set_cons_succ])
  refine wpAnyH_take (i := 5) (oi := ?o_5) (v := .int .i64 a.se) ?h_5 (by kernel_rfl) (by kernel_rfl) (by kernel_rfl) ?q_5 ?y_5 (by assumption) ?_
  case h_5 => (first | (simp only [List.getElem?_toArray, List.getElem?_cons_zero, List.getElem?_cons_succ]; done) | (simp only [List.getElem?_toArray, List.getElem?_cons_zero, List.getElem?_cons_succ]; exact rfl))
  case q_5 => exact fun _ _ _ h => h
  case y_5 => (refine Or.inl ⟨rfl, ?_⟩; intro w hSw; (try dsimp only at hSw); go_simp; (try with_reducible rfl))
  (try simp only [Act.put, List.setIfInBounds_toArray, List.set_cons_zero, List.set_cons_succ])
  refine wpAnyH_take (i := 6) (oi := ?o_6) (v := ?v_6) ?h_6 (by kernel_rfl) (by kernel_rfl) (by kernel_rfl) ?q_6 ?y_6 (by assumption) ?_
  case h_6 => (first | (simp only [List.getElem?_toArray, List.getElem?_cons_zero, List.getElem?_cons_succ]; done) | (simp only [List.getElem?_toArray, List.getElem?_cons_zero, List.getElem?_cons_succ]; exact rfl))
  case q_6 => exact fun _ _ _ h => h
  case y_6 => (refine Or.inl ⟨rfl, ?_⟩; intro w hSw; (try dsimp only at hSw); go_simp; (try with_reducible rfl))
  (try simp only [Act.put, List.setIfInBounds_toArray, List.set_cons_zero, List.set_cons_succ])
  refine wpAnyH_take (i := 7) (oi := ?o_7) (v := .int .i64 c.se) ?h_7 (by kernel_rfl) (by kernel_rfl) (by kernel_rfl) ?q_7 ?y_7 (by assumption) ?_
  case h_7 => (first | (simp only [List.getElem?_toArray, List.getElem?_cons_zero, List.getElem?_cons_succ]; done) | (simp only [List.getElem?_toArray, List.getElem?_cons_zero, List.getElem?_cons_succ]; exact rfl))
  case q_7 => exact fun _ _ _ h => h
  case y_7 => (refine Or.inl ⟨rfl, ?_⟩; intro w hSw; (try dsimp only at hSw); go_simp; (try with_reducible rfl))
  (try simp only [Act.put, List.setIfInBounds_toArray, List.set_cons_zero, List.set_cons_succ])
  refine wpAnyH_ready (rs := [8]) (by kernel_rfl) (by simp) ?_
  refine AllReadyH.cons (o := ?o_8) ?h_8 (fun K hK => ?_) AllReadyH.nil
  case h_8 => (first | (simp only [List.getElem?_toArray, List.getElem?_cons_zero, List.getElem?_cons_succ]; done) | (simp only [List.getElem?_toArray, List.getElem?_cons_zero, List.getElem?_cons_succ]; exact rfl))
  (try go_simp)
  (go_at_call 63; refine (nearestR _ _ _ _).mono ?_; rintro e w' ⟨rfl, rfl⟩)
  (try go_wp2_with fail)
  refine hK.out _ _ ?_ (fun hHeld2 => ?_)
  · first | exact HRD.out | exact hHeld | (apply HRK.out; assumption; assumption)
  clear hK K hHeld
  have hHeld := hHeld2
  clear hHeld2
  (try simp only [Act.put, List.setIfInBounds_toArray, List.set_cons_zero, List.set_cons_succ])
  refine wpAnyH_take (i := 9) (oi := ?o_9) (v := .bool true) ?h_9 (by kernel_rfl) (by kernel_rfl) (by kernel_rfl) ?q_9 ?y_9 (by assumption) ?_
  case h_9 => (first | (simp only [List.getElem?_toArray, List.getElem?_cons_zero, List.getElem?_cons_succ]; done) | (simp only [List.getElem?_toArray, List.getElem?_cons_zero, List.getElem?_cons_succ]; exact rfl))
  case q_9 => exact fun _ _ _ h => h
  case y_9 => (refine Or.inl ⟨rfl, ?_⟩; intro w hSw; (try dsimp only at hSw); go_simp; (try with_reducible rfl))
  (try simp only [Act.put, List.setIfInBounds_toArray, List.set_cons_zero, List.set_cons_succ])
  refine wpAnyH_take (i := 10) (oi := ?o_10) (v := .bool true) ?h_10 (by kernel_rfl) (by kernel_rfl) (by kernel_rfl) ?q_10 ?y_10 (by assumption) ?_
  case h_10 => (first | (simp only [List.getElem?_toArray, List.getElem?_cons_zero, List.getElem?_cons_succ]; done) | (simp only [List.getElem?_toArray, List.getElem?_cons_zero, List.getElem?_cons_succ]; exact rfl))
  case q_10 => exact fun _ _ _ h => h
  case y_10 => (refine Or.inl ⟨rfl, ?_⟩; intro w hSw; (try dsimp only at hSw); go_simp; (try with_reducible rfl))
  (try simp only [Act.put, List.setIfInBounds_toArray, List.set_cons_zero, List.set_cons_succ])
  refine wpAnyH_take (i := 11) (oi := ?o_11) (v := .bool true) ?h_11 (by kernel_rfl) (by kernel_rfl) (by kernel_rfl) ?q_11 ?y_11 (by assumption) ?_
  case h_11 => (first | (simp only [List.getElem?_toArray, List.getElem?_cons_zero, List.getElem?_cons_succ]; done) | (simp only [List.getElem?_toArray, List.getElem?_cons_zero, List.getElem?_cons_succ]; exact rfl))
  case q_11 => exact fun _ _ _ h => h
  case y_11 => (refine Or.inl ⟨rfl, ?_⟩; intro w hSw; (try dsimp only at hSw); go_simp; (try with_reducible rfl))
  (try simp only [Act.put, List.setIfInBounds_toArray, List.set_cons_zero, List.set_cons_succ])
  refine wpAnyH_take (i := 12) (oi := ?o_12) (v := ?v_12) ?h_12 (by kernel_rfl) (by kernel_rfl) (by kernel_rfl) ?q_12 ?y_12 (by assumption) ?_
  case h_12 => (first | (simp only [List.getElem?_toArray, List.getElem?_cons_zero, List.getElem?_cons_succ]; done) | (simp only [List.getElem?_toArray, List.getElem?_cons_zero, List.getElem?_cons_succ]; exact rfl))
  case q_12 => exact fun _ _ _ h => h
  case y_12 => (refine Or.inl ⟨rfl, ?_⟩; intro w hSw; (try dsimp only at hSw); go_simp; (try with_reducible rfl))
  (try simp only [Act.put, List.setIfInBounds_toArray, List.set_cons_zero, List.set_cons_succ])
  refine wpAnyH_take (i := 13) (oi := ?o_13) (v := .int .i64 a.fl) ?h_13 (by kernel_rfl) (by kernel_rfl) (by kernel_rfl) ?q_13 ?y_13 (by assumption) ?_
  case h_13 => (first | (simp only [List.getElem?_toArray, List.getElem?_cons_zero, List.getElem?_cons_succ]; done) | (simp only [List.getElem?_toArray, List.getElem?_cons_zero, List.getElem?_cons_succ]; exact rfl))
  case q_13 => exact fun _ _ _ h => h
  case y_13 => (refine Or.inl ⟨rfl, ?_⟩; intro w hSw; (try dsimp only at hSw); go_simp; (try with_reducible rfl))
  (try simp only [Act.put, List.setIfInBounds_toArray, List.set_cons_zero, List.set_cons_succ])
  refine wpAnyH_take (i := 14) (oi := ?o_14) (v := .bool true) ?h_14 (by kernel_rfl) (by kernel_rfl) (by kernel_rfl) ?q_14 ?y_14 (by assumption) ?_
  case h_14 => (first | (simp only [List.getElem?_toArray, List.getElem?_cons_zero, List.getElem?_cons_succ]; done) | (simp only [List.getElem?_toArray, List.getElem?_cons_zero, List.getElem?_cons_succ]; exact rfl))
  case q_14 => exact fun _ _ _ h => h
  case y_14 => (refine Or.inl ⟨rfl, ?_⟩; intro w hSw; (try dsimp only at hSw); go_simp; (try with_reducible rfl))
  (try simp only [Act.put, List.setIfInBounds_toArray, List.set_cons_zero, List.set_cons_succ])
  refine wpAnyH_take (i := 15) (oi := ?o_15) (v := .bool true) ?h_15 (by kernel_rfl) (by kernel_rfl) (by kernel_rfl) ?q_15 ?y_15 (by assumption) ?_
  case h_15 => (first | (simp only [List.getElem?_toArray, List.getElem?_cons_zero, List.getElem?_cons_succ]; done) | (simp only [List.getElem?_toArray, List.getElem?_cons_zero, List.getElem?_cons_succ]; exact rfl))
  case q_15 => exact fun _ _ _ h => h
  case y_15 => (refine Or.inl ⟨rfl, ?_⟩; intro w hSw; (try dsimp only at hSw); go_simp; (try with_reducible rfl))
  (try simp only [Act.put, List.setIfInBounds_toArray, List.set_cons_zero, List.set_cons_succ])
  refine wpAnyH_take (i := 16) (oi := ?o_16) (v := .bool true) ?h_16 (by kernel_rfl) (by kernel_rfl) (by kernel_rfl) ?q_16 ?y_16 (by assumption) ?_
  case h_16 => (first | (simp only [List.getElem?_toArray, List.getElem?_cons_zero, List.getElem?_cons_succ]; done) | (simp only [List.getElem?_toArray, List.getElem?_cons_zero, List.getElem?_cons_succ]; exact rfl))
  case q_16 => exact fun _ _ _ h => h
  case y_16 => (refine Or.inl ⟨rfl, ?_⟩; intro w hSw; (try dsimp only at hSw); go_simp; (try with_reducible rfl))
  (try simp only [Act.put, List.setIfInBounds_toArray, List.set_cons_zero, List.set_cons_succ])
  refine wpAnyH_take (i := 17) (oi := ?o_17) (v := ?v_17) ?h_17 (by kernel_rfl) (by kernel_rfl) (by kernel_rfl) ?q_17 ?y_17 (by assumption) ?_
  case h_17 => (first | (simp only [List.getElem?_toArray, List.getElem?_cons_zero, List.getElem?_cons_succ]; done) | (simp only [List.getElem?_toArray, List.getElem?_cons_zero, List.getElem?_cons_succ]; exact rfl))
  case q_17 => exact fun _ _ _ h => h
  case y_17 => (refine Or.inl ⟨rfl, ?_⟩; intro w hSw; (try dsimp only at hSw); go_simp; (try with_reducible rfl))
  (try simp only [Act.put, List.setIfInBounds_toArray, List.set_cons_zero, List.set_cons_succ])
  refine wpAnyH_take (i := 18) (oi := ?o_18) (v := .int .i64 a.fl) ?h_18 (by kernel_rfl) (by kernel_rfl) (by kernel_rfl) ?q_18 ?y_18 (by assumption) ?_
  case h_18 => (first | (simp only [List.getElem?_toArray, List.getElem?_cons_zero, List.getElem?_cons_succ]; done) | (simp only [List.getElem?_toArray, List.getElem?_cons_zero, List.getElem?_cons_succ]; exact rfl))
  case q_18 => exact fun _ _ _ h => h
  case y_18 => (refine Or.inl ⟨rfl, ?_⟩; intro w hSw; (try dsimp only at hSw); go_simp; (try with_reducible rfl))
  (try simp only [Act.put, List.setIfInBounds_toArray, List.set_cons_zero, List.set_cons_succ])
  refine wpAnyH_take (i := 19) (oi := ?o_19) (v := ?v_19) ?h_19 (by kernel_rfl) (by kernel_rfl) (by kernel_rfl) ?q_19 ?y_19 (by assumption) ?_
  case h_19 => (first | (simp only [List.getElem?_toArray, List.getElem?_cons_zero, List.getElem?_cons_succ]; done) | (simp only [List.getElem?_toArray, List.getElem?_cons_zero, List.getElem?_cons_succ]; exact rfl))
  case q_19 => exact fun _ _ _ h => h
  case y_19 => (refine Or.inl ⟨rfl, ?_⟩; intro w hSw; (try dsimp only at hSw); go_simp; (try with_reducible rfl))
  (try simp only [Act.put, List.setIfInBounds_toArray, List.set_cons_zero, List.set_cons_succ])
  refine wpAnyH_take (i := 20) (oi := ?o_20) (v := .int .i64 c.ft) ?h_20 (by kernel_rfl) (by kernel_rfl) (by kernel_rfl) ?q_20 ?y_20 (by assumption) ?_
  case h_20 => (first | (simp only [List.getElem?_toArray, List.getElem?_cons_zero, List.getElem?_cons_succ]; done) | (simp only [List.getElem?_toArray, List.getElem?_cons_zero, List.getElem?_cons_succ]; exact rfl))
  case q_20 => exact fun _ _ _ h => h
  case y_20 => (refine Or.inl ⟨rfl, ?_⟩; intro w hSw; (try dsimp only at hSw); go_simp; (try with_reducible rfl))
  (try simp only [Act.put, List.setIfInBounds_toArray, List.set_cons_zero, List.set_cons_succ])
  refine wpAnyH_ready (rs := [21]) (by kernel_rfl) (by simp) ?_
  refine AllReadyH.cons (o := ?o_21) ?h_21 (fun K hK => ?_) AllReadyH.nil
  case h_21 => (first | (simp only [List.getElem?_toArray, List.getElem?_cons_zero, List.getElem?_cons_succ]; done) | (simp only [List.getElem?_toArray, List.getElem?_cons_zero, List.getElem?_cons_succ]; exact rfl))
  (try go_simp)
  (go_at_call 63; refine (nearestR _ _ _ _).mono ?_; rintro e w' ⟨rfl, rfl⟩)
  (try go_wp2_with fail)
  refine hK.out _ _ ?_ (fun hHeld2 => ?_)
  · first | exact HRD.out | exact hHeld | (apply HRK.out; assumption; assumption)
  clear hK K hHeld
  have hHeld := hHeld2
  clear hHeld2
  (try simp only [Act.put, List.setIfInBounds_toArray, List.set_cons_zero, List.set_cons_succ])
  refine wpAnyH_take (i := 22) (oi := ?o_22) (v := .bool true) ?h_22 (by kernel_rfl) (by kernel_rfl) (by kernel_rfl) ?q_22 ?y_22 (by assumption) ?_
  case h_22 => (first | (simp only [List.getElem?_toArray, List.getElem?_cons_zero, List.getElem?_cons_succ]; done) | (simp only [List.getElem?_toArray, List.getElem?_cons_zero, List.getElem?_cons_succ]; exact rfl))
  case q_22 => exact fun _ _ _ h => h
  case y_22 => (refine Or.inl ⟨rfl, ?_⟩; intro w hSw; (try dsimp only at hSw); go_simp; (try with_reducible rfl))
  (try simp only [Act.put, List.setIfInBounds_toArray, List.set_cons_zero, List.set_cons_succ])
  refine wpAnyH_take (i := 23) (oi := ?o_23) (v := .bool true) ?h_23 (by kernel_rfl) (by kernel_rfl) (by kernel_rfl) ?q_23 ?y_23 (by assumption) ?_
  case h_23 => (first | (simp only [List.getElem?_toArray, List.getElem?_cons_zero, List.getElem?_cons_succ]; done) | (simp only [List.getElem?_toArray, List.getElem?_cons_zero, List.getElem?_cons_succ]; exact rfl))
  case q_23 => exact fun _ _ _ h => h
  case y_23 => (refine Or.inl ⟨rfl, ?_⟩; intro w hSw; (try dsimp only at hSw); go_simp; (try with_reducible rfl))
  (try simp only [Act.put, List.setIfInBounds_toArray, List.set_cons_zero, List.set_cons_succ])
  refine wpAnyH_take (i := 24) (oi := ?o_24) (v := .bool true) ?h_24 (by kernel_rfl) (by kernel_rfl) (by kernel_rfl) ?q_24 ?y_24 (by assumption) ?_
  case h_24 => (first | (simp only [List.getElem?_toArray, List.getElem?_cons_zero, List.getElem?_cons_succ]; done) | (simp only [List.getElem?_toArray, List.getElem?_cons_zero, List.getElem?_cons_succ]; exact rfl))
  case q_24 => exact fun _ _ _ h => h
  case y_24 => (refine Or.inl ⟨rfl, ?_⟩; intro w hSw; (try dsimp only at hSw); go_simp; (try with_reducible rfl))
  (try simp only [Act.put, List.setIfInBounds_toArray, List.set_cons_zero, List.set_cons_succ])
  refine wpAnyH_take (i := 25) (oi := ?o_25) (v := ?v_25) ?h_25 (by kernel_rfl) (by kernel_rfl) (by kernel_rfl) ?q_25 ?y_25 (by assumption) ?_
  case h_25 => (first | (simp only [List.getElem?_toArray, List.getElem?_cons_zero, List.getElem?_cons_succ]; done) | (simp only [List.getElem?_toArray, List.getElem?_cons_zero, List.getElem?_cons_succ]; exact rfl))
  case q_25 => exact fun _ _ _ h => h
  case y_25 => (refine Or.inl ⟨rfl, ?_⟩; intro w hSw; (try dsimp only at hSw); go_simp; (try with_reducible rfl))
  (try simp only [Act.put, List.setIfInBounds_toArray, List.set_cons_zero, List.set_cons_succ])
  refine wpAnyH_take (i := 26) (oi := ?o_26) (v := .int .i64 a.fm) ?h_26 (by kernel_rfl) (by kernel_rfl) (by kernel_rfl) ?q_26 ?y_26 (by assumption) ?_
  case h_26 => (first | (simp only [List.getElem?_toArray, List.getElem?_cons_zero, List.getElem?_cons_succ]; done) | (simp only [List.getElem?_toArray, List.getElem?_cons_zero, List.getElem?_cons_succ]; exact rfl))
  case q_26 => exact fun _ _ _ h => h
  case y_26 => (refine Or.inl ⟨rfl, ?_⟩; intro w hSw; (try dsimp only at hSw); go_simp; (try with_reducible rfl))
  (try simp only [Act.put, List.setIfInBounds_toArray, List.set_cons_zero, List.set_cons_succ])
  refine wpAnyH_take (i := 27) (oi := ?o_27) (v := .bool true) ?h_27 (by kernel_rfl) (by kernel_rfl) (by kernel_rfl) ?q_27 ?y_27 (by assumption) ?_
  case h_27 => (first | (simp only [List.getElem?_toArray, List.getElem?_cons_zero, List.getElem?_cons_succ]; done) | (simp only [List.getElem?_toArray, List.getElem?_cons_zero, List.getElem?_cons_succ]; exact rfl))
  case q_27 => exact fun _ _ _ h => h
  case y_27 => (refine Or.inl ⟨rfl, ?_⟩; intro w hSw; (try dsimp only at hSw); go_simp; (try with_reducible rfl))
  (try simp only [Act.put, List.setIfInBounds_toArray, List.set_cons_zero, List.set_cons_succ])
  refine wpAnyH_take (i := 28) (oi := ?o_28) (v := .bool true) ?h_28 (by kernel_rfl) (by kernel_rfl) (by kernel_rfl) ?q_28 ?y_28 (by assumption) ?_
  case h_28 => (first | (simp only [List.getElem?_toArray, List.getElem?_cons_zero, List.getElem?_cons_succ]; done) | (simp only [List.getElem?_toArray, List.getElem?_cons_zero, List.getElem?_cons_succ]; exact rfl))
  case q_28 => exact fun _ _ _ h => h
  case y_28 => (refine Or.inl ⟨rfl, ?_⟩; intro w hSw; (try dsimp only at hSw); go_simp; (try with_reducible rfl))
  (try simp only [Act.put, List.setIfInBounds_toArray, List.set_cons_zero, List.set_cons_succ])
  refine wpAnyH_take (i := 29) (oi := ?o_29) (v := .bool true) ?h_29 (by kernel_rfl) (by kernel_rfl) (by kernel_rfl) ?q_29 ?y_29 (by assumption) ?_
  case h_29 => (first | (simp only [List.getElem?_toArray, List.getElem?_cons_zero, List.getElem?_cons_succ]; done) | (simp only [List.getElem?_toArray, List.getElem?_cons_zero, List.getElem?_cons_succ]; exact rfl))
  case q_29 => exact fun _ _ _ h => h
  case y_29 => (refine Or.inl ⟨rfl, ?_⟩; intro w hSw; (try dsimp only at hSw); go_simp; (try with_reducible rfl))
  (try simp only [Act.put, List.setIfInBounds_toArray, List.set_cons_zero, List.set_cons_succ])
  refine wpAnyH_take (i := 30) (oi := ?o_30) (v := ?v_30) ?h_30 (by kernel_rfl) (by kernel_rfl) (by kernel_rfl) ?q_30 ?y_30 (by assumption) ?_
  case h_30 => (first | (simp only [List.getElem?_toArray, List.getElem?_cons_zero, List.getElem?_cons_succ]; done) | (simp only [List.getElem?_toArray, List.getElem?_cons_zero, List.getElem?_cons_succ]; exact rfl))
  case q_30 => exact fun _ _ _ h => h
  case y_30 => (refine Or.inl ⟨rfl, ?_⟩; intro w hSw; (try dsimp only at hSw); go_simp; (try with_reducible rfl))
  (try simp only [Act.put, List.setIfInBounds_toArray, List.set_cons_zero, List.set_cons_succ])
  refine wpAnyH_take (i := 31) (oi := ?o_31) (v := .int .i64 a.fm) ?h_31 (by kernel_rfl) (by kernel_rfl) (by kernel_rfl) ?q_31 ?y_31 (by assumption) ?_
  case h_31 => (first | (simp only [List.getElem?_toArray, List.getElem?_cons_zero, List.getElem?_cons_succ]; done) | (simp only [List.getElem?_toArray, List.getElem?_cons_zero, List.getElem?_cons_succ]; exact rfl))
  case q_31 => exact fun _ _ _ h => h
  case y_31 => (refine Or.inl ⟨rfl, ?_⟩; intro w hSw; (try dsimp only at hSw); go_simp; (try with_reducible rfl))
  (try simp only [Act.put, List.setIfInBounds_toArray, List.set_cons_zero, List.set_cons_succ])
  refine wpAnyH_take (i := 32) (oi := ?o_32) (v := .int .i64 (fl c.fl)) ?h_32 (by kernel_rfl) (by kernel_rfl) (by kernel_rfl) ?q_32 ?y_32 (by assumption) ?_
  case h_32 => (first | (simp only [List.getElem?_toArray, List.getElem?_cons_zero, List.getElem?_cons_succ]; done) | (simp only [List.getElem?_toArray, List.getElem?_cons_zero, List.getElem?_cons_succ]; exact rfl))
  case q_32 => exact fun _ _ _ h => h
  case y_32 => (refine Or.inl ⟨rfl, ?_⟩; intro w hSw; (try dsimp only at hSw); go_simp; (try with_reducible rfl))
  (try simp only [Act.put, List.setIfInBounds_toArray, List.set_cons_zero, List.set_cons_succ])
  refine wpAnyH_take (i := 33) (oi := ?o_33) (v := .bool true) ?h_33 (by kernel_rfl) (by kernel_rfl) (by kernel_rfl) ?q_33 ?y_33 (by assumption) ?_
  case h_33 => (first | (simp only [List.getElem?_toArray, List.getElem?_cons_zero, List.getElem?_cons_succ]; done) | (simp only [List.getElem?_toArray, List.getElem?_cons_zero, List.getElem?_cons_succ]; exact rfl))
  case q_33 => exact fun _ _ _ h => h
  case y_33 => (refine Or.inl ⟨rfl, ?_⟩; intro w hSw; (try dsimp only at hSw); go_simp; (try with_reducible rfl))
  (try simp only [Act.put, List.setIfInBounds_toArray, List.set_cons_zero, List.set_cons_succ])
  refine wpAnyH_take (i := 34) (oi := ?o_34) (v := .bool true) ?h_34 (by kernel_rfl) (by kernel_rfl) (by kernel_rfl) ?q_34 ?y_34 (by assumption) ?_
  case h_34 => (first | (simp only [List.getElem?_toArray, List.getElem?_cons_zero, List.getElem?_cons_succ]; done) | (simp only [List.getElem?_toArray, List.getElem?_cons_zero, List.getElem?_cons_succ]; exact rfl))
  case q_34 => exact fun _ _ _ h => h
  case y_34 => (refine Or.inl ⟨rfl, ?_⟩; intro w hSw; (try dsimp only at hSw); go_simp; (try with_reducible rfl))
  (try simp only [Act.put, List.setIfInBounds_toArray, List.set_cons_zero, List.set_cons_succ])
  refine wpAnyH_take (i := 35) (oi := ?o_35) (v := .bool true) ?h_35 (by kernel_rfl) (by kernel_rfl) (by kernel_rfl) ?q_35 ?y_35 (by assumption) ?_
  case h_35 => (first | (simp only [List.getElem?_toArray, List.getElem?_cons_zero, List.getElem?_cons_succ]; done) | (simp only [List.getElem?_toArray, List.getElem?_cons_zero, List.getElem?_cons_succ]; exact rfl))
  case q_35 => exact fun _ _ _ h => h
  case y_35 => (refine Or.inl ⟨rfl, ?_⟩; intro w hSw; (try dsimp only at hSw); go_simp; (try with_reducible rfl))
  (try simp only [Act.put, List.setIfInBounds_toArray, List.set_cons_zero, List.set_cons_succ])
  refine wpAnyH_take (i := 36) (oi := ?o_36) (v := ?v_36) ?h_36 (by kernel_rfl) (by kernel_rfl) (by kernel_rfl) ?q_36 ?y_36 (by assumption) ?_
  case h_36 => (first | (simp only [List.getElem?_toArray, List.getElem?_cons_zero, List.getElem?_cons_succ]; done) | (simp only [List.getElem?_toArray, List.getElem?_cons_zero, List.getElem?_cons_succ]; exact rfl))
  case q_36 => exact fun _ _ _ h => h
  case y_36 => (refine Or.inl ⟨rfl, ?_⟩; intro w hSw; (try dsimp only at hSw); go_simp; (try with_reducible rfl))
  (try simp only [Act.put, List.setIfInBounds_toArray, List.set_cons_zero, List.set_cons_succ])
  refine wpAnyH_take (i := 37) (oi := ?o_37) (v := .int .i64 a.to) ?h_37 (by kernel_rfl) (by kernel_rfl) (by kernel_rfl) ?q_37 ?y_37 (by assumption) ?_
  case h_37 => (first | (simp only [List.getElem?_toArray, List.getElem?_cons_zero, List.getElem?_cons_succ]; done) | (simp only [List.getElem?_toArray, List.getElem?_cons_zero, List.getElem?_cons_succ]; exact rfl))
  case q_37 => exact fun _ _ _ h => h
  case y_37 => (refine Or.inl ⟨rfl, ?_⟩; intro w hSw; (try dsimp only at hSw); go_simp; (try with_reducible rfl))
  (try simp only [Act.put, List.setIfInBounds_toArray, List.set_cons_zero, List.set_cons_succ])
  refine wpAnyH_take (i := 38) (oi := ?o_38) (v := .bool true) ?h_38 (by kernel_rfl) (by kernel_rfl) (by kernel_rfl) ?q_38 ?y_38 (by assumption) ?_
  case h_38 => (first | (simp only [List.getElem?_toArray, List.getElem?_cons_zero, List.getElem?_cons_succ]; done) | (simp only [List.getElem?_toArray, List.getElem?_cons_zero, List.getElem?_cons_succ]; exact rfl))
  case q_38 => exact fun _ _ _ h => h
  case y_38 => (refine Or.inl ⟨rfl, ?_⟩; intro w hSw; (try dsimp only at hSw); go_simp; (try with_reducible rfl))
  (try simp only [Act.put, List.setIfInBounds_toArray, List.set_cons_zero, List.set_cons_succ])
  refine wpAnyH_take (i := 39) (oi := ?o_39) (v := .bool true) ?h_39 (by kernel_rfl) (by kernel_rfl) (by kernel_rfl) ?q_39 ?y_39 (by assumption) ?_
  case h_39 => (first | (simp only [List.getElem?_toArray, List.getElem?_cons_zero, List.getElem?_cons_succ]; done) | (simp only [List.getElem?_toArray, List.getElem?_cons_zero, List.getElem?_cons_succ]; exact rfl))
  case q_39 => exact fun _ _ _ h => h
  case y_39 => (refine Or.inl ⟨rfl, ?_⟩; intro w hSw; (try dsimp only at hSw); go_simp; (try with_reducible rfl))
  (try simp only [Act.put, List.setIfInBounds_toArray, List.set_cons_zero, List.set_cons_succ])
  refine wpAnyH_take (i := 40) (oi := ?o_40) (v := .bool true) ?h_40 (by kernel_rfl) (by kernel_rfl) (by kernel_rfl) ?q_40 ?y_40 (by assumption) ?_
  case h_40 => (first | (simp only [List.getElem?_toArray, List.getElem?_cons_zero, List.getElem?_cons_succ]; done) | (simp only [List.getElem?_toArray, List.getElem?_cons_zero, List.getElem?_cons_succ]; exact rfl))
  case q_40 => exact fun _ _ _ h => h
  case y_40 => (refine Or.inl ⟨rfl, ?_⟩; intro w hSw; (try dsimp only at hSw); go_simp; (try with_reducible rfl))
  (try simp only [Act.put, List.setIfInBounds_toArray, List.set_cons_zero, List.set_cons_succ])
  refine wpAnyH_take (i := 41) (oi := ?o_41) (v := ?v_41) ?h_41 (by kernel_rfl) (by kernel_rfl) (by kernel_rfl) ?q_41 ?y_41 (by assumption) ?_
  case h_41 => (first | (simp only [List.getElem?_toArray, List.getElem?_cons_zero, List.getElem?_cons_succ]; done) | (simp only [List.getElem?_toArray, List.getElem?_cons_zero, List.getElem?_cons_succ]; exact rfl))
  case q_41 => exact fun _ _ _ h => h
  case y_41 => (refine Or.inl ⟨rfl, ?_⟩; intro w hSw; (try dsimp only at hSw); go_simp; (try with_reducible rfl))
  (try simp only [Act.put, List.setIfInBounds_toArray, List.set_cons_zero, List.set_cons_succ])
  refine wpAnyH_take (i := 42) (oi := ?o_42) (v := .int .i64 a.to) ?h_42 (by kernel_rfl) (by kernel_rfl) (by kernel_rfl) ?q_42 ?y_42 (by assumption) ?_
  case h_42 => (first | (simp only [List.getElem?_toArray, List.getElem?_cons_zero, List.getElem?_cons_succ]; done) | (simp only [List.getElem?_toArray, List.getElem?_cons_zero, List.getElem?_cons_succ]; exact rfl))
  case q_42 => exact fun _ _ _ h => h
  case y_42 => (refine Or.inl ⟨rfl, ?_⟩; intro w hSw; (try dsimp only at hSw); go_simp; (try with_reducible rfl))
  (try simp only [Act.put, List.setIfInBounds_toArray, List.set_cons_zero, List.set_cons_succ])
  refine wpAnyH_take (i := 43) (oi := ?o_43) (v := .int .i64 (fl c.fl)) ?h_43 (by kernel_rfl) (by kernel_rfl) (by kernel_rfl) ?q_43 ?y_43 (by assumption) ?_
  case h_43 => (first | (simp only [List.getElem?_toArray, List.getElem?_cons_zero, List.getElem?_cons_succ]; done) | (simp only [List.getElem?_toArray, List.getElem?_cons_zero, List.getElem?_cons_succ]; exact rfl))
  case q_43 => exact fun _ _ _ h => h
  case y_43 => (refine Or.inl ⟨rfl, ?_⟩; intro w hSw; (try dsimp only at hSw); go_simp; (try with_reducible rfl))
  (try simp only [Act.put, List.setIfInBounds_toArray, List.set_cons_zero, List.set_cons_succ])
  refine wpAnyH_take (i := 44) (oi := ?o_44) (v := .bool true) ?h_44 (by kernel_rfl) (by kernel_rfl) (by kernel_rfl) ?q_44 ?y_44 (by assumption) ?_
  case h_44 => (first | (simp only [List.getElem?_toArray, List.getElem?_cons_zero, List.getElem?_cons_succ]; done) | (simp only [List.getElem?_toArray, List.getElem?_cons_zero, List.getElem?_cons_succ]; exact rfl))
  case q_44 => exact fun _ _ _ h => h
  case y_44 => (refine Or.inl ⟨rfl, ?_⟩; intro w hSw; (try dsimp only at hSw); go_simp; (try with_reducible rfl))
  (try simp only [Act.put, List.setIfInBounds_toArray, List.set_cons_zero, List.set_cons_succ])
  refine wpAnyH_take (i := 45) (oi := ?o_45) (v := .bool true) ?h_45 (by kernel_rfl) (by kernel_rfl) (by kernel_rfl) ?q_45 ?y_45 (by assumption) ?_
  case h_45 => (first | (simp only [List.getElem?_toArray, List.getElem?_cons_zero, List.getElem?_cons_succ]; done) | (simp only [List.getElem?_toArray, List.getElem?_cons_zero, List.getElem?_cons_succ]; exact rfl))
  case q_45 => exact fun _ _ _ h => h
  case y_45 => (refine Or.inl ⟨rfl, ?_⟩; intro w hSw; (try dsimp only at hSw); go_simp; (try with_reducible rfl))
  (try simp only [Act.put, List.setIfInBounds_toArray, List.set_cons_zero, List.set_cons_succ])
  refine wpAnyH_take (i := 46) (oi := ?o_46) (v := .bool true) ?h_46 (by kernel_rfl) (by kernel_rfl) (by kernel_rfl) ?q_46 ?y_46 (by assumption) ?_
  case h_46 => (first | (simp only [List.getElem?_toArray, List.getElem?_cons_zero, List.getElem?_cons_succ]; done) | (simp only [List.getElem?_toArray, List.getElem?_cons_zero, List.getElem?_cons_succ]; exact rfl))
  case q_46 => exact fun _ _ _ h => h
  case y_46 => (refine Or.inl ⟨rfl, ?_⟩; intro w hSw; (try dsimp only at hSw); go_simp; (try with_reducible rfl))
  (try simp only [Act.put, List.setIfInBounds_toArray, List.set_cons_zero, List.set_cons_succ])
  refine wpAnyH_take (i := 47) (oi := ?o_47) (v := ?v_47) ?h_47 (by kernel_rfl) (by kernel_rfl) (by kernel_rfl) ?q_47 ?y_47 (by assumption) ?_
  case h_47 => (first | (simp only [List.getElem?_toArray, List.getElem?_cons_zero, List.getElem?_cons_succ]; done) | (simp only [List.getElem?_toArray, List.getElem?_cons_zero, List.getElem?_cons_succ]; exact rfl))
  case q_47 => exact fun _ _ _ h => h
  case y_47 => (refine Or.inl ⟨rfl, ?_⟩; intro w hSw; (try dsimp only at hSw); go_simp; (try with_reducible rfl))
  (try simp only [Act.put, List.setIfInBounds_toArray, List.set_cons_zero, List.set_cons_succ])
  refine wpAnyH_take (i := 48) (oi := ?o_48) (v := .int .i64 a.fm) ?h_48 (by kernel_rfl) (by kernel_rfl) (by kernel_rfl) ?q_48 ?y_48 (by assumption) ?_
  case h_48 => (first | (simp only [List.getElem?_toArray, List.getElem?_cons_zero, List.getElem?_cons_succ]; done) | (simp only [List.getElem?_toArray, List.getElem?_cons_zero, List.getElem?_cons_succ]; exact rfl))
  case q_48 => exact fun _ _ _ h => h
  case y_48 => (refine Or.inl ⟨rfl, ?_⟩; intro w hSw; (try dsimp only at hSw); go_simp; (try with_reducible rfl))
  (try simp only [Act.put, List.setIfInBounds_toArray, List.set_cons_zero, List.set_cons_succ])
  refine wpAnyH_take (i := 49) (oi := ?o_49) (v := ?v_49) ?h_49 (by kernel_rfl) (by kernel_rfl) (by kernel_rfl) ?q_49 ?y_49 (by assumption) ?_
  case h_49 => (first | (simp only [List.getElem?_toArray, List.getElem?_cons_zero, List.getElem?_cons_succ]; done) | (simp only [List.getElem?_toArray, List.getElem?_cons_zero, List.getElem?_cons_succ]; exact rfl))
  case q_49 => exact fun _ _ _ h => h
  case y_49 => (refine Or.inl ⟨rfl, ?_⟩; intro w hSw; (try dsimp only at hSw); go_simp; (try with_reducible rfl))
  (try simp only [Act.put, List.setIfInBounds_toArray, List.set_cons_zero, List.set_cons_succ])
  refine wpAnyH_take (i := 50) (oi := ?o_50) (v := .int .i64 a.to) ?h_50 (by kernel_rfl) (by kernel_rfl) (by kernel_rfl) ?q_50 ?y_50 (by assumption) ?_
  case h_50 => (first | (simp only [List.getElem?_toArray, List.getElem?_cons_zero, List.getElem?_cons_succ]; done) | (simp only [List.getElem?_toArray, List.getElem?_cons_zero, List.getElem?_cons_succ]; exact rfl))
  case q_50 => exact fun _ _ _ h => h
  case y_50 => (refine Or.inl ⟨rfl, ?_⟩; intro w hSw; (try dsimp only at hSw); go_simp; (try with_reducible rfl))
  (try simp only [Act.put, List.setIfInBounds_toArray, List.set_cons_zero, List.set_cons_succ])
  refine wpAnyH_take (i := 51) (oi := ?o_51) (v := .bool true) ?h_51 (by kernel_rfl) (by kernel_rfl) (by kernel_rfl) ?q_51 ?y_51 (by assumption) ?_
  case h_51 => (first | (simp only [List.getElem?_toArray, List.getElem?_cons_zero, List.getElem?_cons_succ]; done) | (simp only [List.getElem?_toArray, List.getElem?_cons_zero, List.getElem?_cons_succ]; exact rfl))
  case q_51 => exact fun _ _ _ h => h
  case y_51 => (refine Or.inl ⟨rfl, ?_⟩; intro w hSw; (try dsimp only at hSw); go_simp; (try with_reducible rfl))
  (try simp only [Act.put, List.setIfInBounds_toArray, List.set_cons_zero, List.set_cons_succ])
  refine wpAnyH_take (i := 52) (oi := ?o_52) (v := .bool true) ?h_52 (by kernel_rfl) (by kernel_rfl) (by kernel_rfl) ?q_52 ?y_52 (by assumption) ?_
  case h_52 => (first | (simp only [List.getElem?_toArray, List.getElem?_cons_zero, List.getElem?_cons_succ]; done) | (simp only [List.getElem?_toArray, List.getElem?_cons_zero, List.getElem?_cons_succ]; exact rfl))
  case q_52 => exact fun _ _ _ h => h
  case y_52 => (refine Or.inl ⟨rfl, ?_⟩; intro w hSw; (try dsimp only at hSw); go_simp; (try with_reducible rfl))
  (try simp only [Act.put, List.setIfInBounds_toArray, List.set_cons_zero, List.set_cons_succ])
  refine wpAnyH_take (i := 53) (oi := ?o_53) (v := .bool true) ?h_53 (by kernel_rfl) (by kernel_rfl) (by kernel_rfl) ?q_53 ?y_53 (by assumption) ?_
  case h_53 => (first | (simp only [List.getElem?_toArray, List.getElem?_cons_zero, List.getElem?_cons_succ]; done) | (simp only [List.getElem?_toArray, List.getElem?_cons_zero, List.getElem?_cons_succ]; exact rfl))
  case q_53 => exact fun _ _ _ h => h
  case y_53 => (refine Or.inl ⟨rfl, ?_⟩; intro w hSw; (try dsimp only at hSw); go_simp; (try with_reducible rfl))
  (try simp only [Act.put, List.setIfInBounds_toArray, List.set_cons_zero, List.set_cons_succ])
  refine wpAnyH_take (i := 54) (oi := ?o_54) (v := ?v_54) ?h_54 (by kernel_rfl) (by kernel_rfl) (by kernel_rfl) ?q_54 ?y_54 (by assumption) ?_
  case h_54 => (first | (simp only [List.getElem?_toArray, List.getElem?_cons_zero, List.getElem?_cons_succ]; done) | (simp only [List.getElem?_toArray, List.getElem?_cons_zero, List.getElem?_cons_succ]; exact rfl))
  case q_54 => exact fun _ _ _ h => h
  case y_54 => (refine Or.inl ⟨rfl, ?_⟩; intro w hSw; (try dsimp only at hSw); go_simp; (try with_reducible rfl))
  (try simp only [Act.put, List.setIfInBounds_toArray, List.set_cons_zero, List.set_cons_succ])
  refine wpAnyH_take (i := 55) (oi := ?o_55) (v := .int .i64 a.ma) ?h_55 (by kernel_rfl) (by kernel_rfl) (by kernel_rfl) ?q_55 ?y_55 (by assumption) ?_
  case h_55 => (first | (simp only [List.getElem?_toArray, List.getElem?_cons_zero, List.getElem?_cons_succ]; done) | (simp only [List.getElem?_toArray, List.getElem?_cons_zero, List.getElem?_cons_succ]; exact rfl))
  case q_55 => exact fun _ _ _ h => h
  case y_55 => (refine Or.inl ⟨rfl, ?_⟩; intro w hSw; (try dsimp only at hSw); go_simp; (try with_reducible rfl))
  (try simp only [Act.put, List.setIfInBounds_toArray, List.set_cons_zero, List.set_cons_succ])
  refine wpAnyH_take (i := 56) (oi := ?o_56) (v := .bool true) ?h_56 (by kernel_rfl) (by kernel_rfl) (by kernel_rfl) ?q_56 ?y_56 (by assumption) ?_
  case h_56 => (first | (simp only [List.getElem?_toArray, List.getElem?_cons_zero, List.getElem?_cons_succ]; done) | (simp only [List.getElem?_toArray, List.getElem?_cons_zero, List.getElem?_cons_succ]; exact rfl))
  case q_56 => exact fun _ _ _ h => h
  case y_56 => (refine Or.inl ⟨rfl, ?_⟩; intro w hSw; (try dsimp only at hSw); go_simp; (try with_reducible rfl))
  (try simp only [Act.put, List.setIfInBounds_toArray, List.set_cons_zero, List.set_cons_succ])
  refine wpAnyH_take (i := 57) (oi := ?o_57) (v := .bool true) ?h_57 (by kernel_rfl) (by kernel_rfl) (by kernel_rfl) ?q_57 ?y_57 (by assumption) ?_
  case h_57 => (first | (simp only [List.getElem?_toArray, List.getElem?_cons_zero, List.getElem?_cons_succ]; done) | (simp only [List.getElem?_toArray, List.getElem?_cons_zero, List.getElem?_cons_succ]; exact rfl))
  case q_57 => exact fun _ _ _ h => h
  case y_57 => (refine Or.inl ⟨rfl, ?_⟩; intro w hSw; (try dsimp only at hSw); go_simp; (try with_reducible rfl))
  (try simp only [Act.put, List.setIfInBounds_toArray, List.set_cons_zero, List.set_cons_succ])
  refine wpAnyH_take (i := 58) (oi := ?o_58) (v := .bool true) ?h_58 (by kernel_rfl) (by kernel_rfl) (by kernel_rfl) ?q_58 ?y_58 (by assumption) ?_
  case h_58 => (first | (simp only [List.getElem?_toArray, List.getElem?_cons_zero, List.getElem?_cons_succ]; done) | (simp only [List.getElem?_toArray, List.getElem?_cons_zero, List.getElem?_cons_succ]; exact rfl))
  case q_58 => exact fun _ _ _ h => h
  case y_58 => (refine Or.inl ⟨rfl, ?_⟩; intro w hSw; (try dsimp only at hSw); go_simp; (try with_reducible rfl))
  (try simp only [Act.put, List.setIfInBounds_toArray, List.set_cons_zero, List.set_cons_succ])
  refine wpAnyH_take (i := 59) (oi := ?o_59) (v := ?v_59) ?h_59 (by kernel_rfl) (by kernel_rfl) (by kernel_rfl) ?q_59 ?y_59 (by assumption) ?_
  case h_59 => (first | (simp only [List.getElem?_toArray, List.getElem?_cons_zero, List.getElem?_cons_succ]; done) | (simp only [List.getElem?_toArray, List.getElem?_cons_zero, List.getElem?_cons_succ]; exact rfl))
  case q_59 => exact fun _ _ _ h => h
  case y_59 => (refine Or.inl ⟨rfl, ?_⟩; intro w hSw; (try dsimp only at hSw); go_simp; (try with_reducible rfl))
  (try simp only [Act.put, List.setIfInBounds_toArray, List.set_cons_zero, List.set_cons_succ])
  refine wpAnyH_take (i := 60) (oi := ?o_60) (v := .int .i64 a.ma) ?h_60 (by kernel_rfl) (by kernel_rfl) (by kernel_rfl) ?q_60 ?y_60 (by assumption) ?_
  case h_60 => (first | (simp only [List.getElem?_toArray, List.getElem?_cons_zero, List.getElem?_cons_succ]; done) | (simp only [List.getElem?_toArray, List.getElem?_cons_zero, List.getElem?_cons_succ]; exact rfl))
  case q_60 => exact fun _ _ _ h => h
  case y_60 => (refine Or.inl ⟨rfl, ?_⟩; intro w hSw; (try dsimp only at hSw); go_simp; (try with_reducible rfl))
  (try simp only [Act.put, List.setIfInBounds_toArray, List.set_cons_zero, List.set_cons_succ])
  refine wpAnyH_take (i := 61) (oi := ?o_61) (v := ?v_61) ?h_61 (by kernel_rfl) (by kernel_rfl) (by kernel_rfl) ?q_61 ?y_61 (by assumption) ?_
  case h_61 => (first | (simp only [List.getElem?_toArray, List.getElem?_cons_zero, List.getElem?_cons_succ]; done) | (simp only [List.getElem?_toArray, List.getElem?_cons_zero, List.getElem?_cons_succ]; exact rfl))
  case q_61 => exact fun _ _ _ h => h
  case y_61 => (refine Or.inl ⟨rfl, ?_⟩; intro w hSw; (try dsimp only at hSw); go_simp; (try with_reducible rfl))
  (try simp only [Act.put, List.setIfInBounds_toArray, List.set_cons_zero, List.set_cons_succ])
  refine wpAnyH_take (i := 62) (oi := ?o_62) (v := .int .i64 c.lo) ?h_62 (by kernel_rfl) (by kernel_rfl) (by kernel_rfl) ?q_62 ?y_62 (by assumption) ?_
  case h_62 => (first | (simp only [List.getElem?_toArray, List.getElem?_cons_zero, List.getElem?_cons_succ]; done) | (simp only [List.getElem?_toArray, List.getElem?_cons_zero, List.getElem?_cons_succ]; exact rfl))
  case q_62 => exact fun _ _ _ h => h
  case y_62 => (refine Or.inl ⟨rfl, ?_⟩; intro w hSw; (try dsimp only at hSw); go_simp; (try with_reducible rfl))
  (try simp only [Act.put, List.setIfInBounds_toArray, List.set_cons_zero, List.set_cons_succ])
  refine wpAnyH_ready (rs := [63]) (by kernel_rfl) (by simp) ?_
  refine AllReadyH.cons (o := ?o_63) ?h_63 (fun K hK => ?_) AllReadyH.nil
  case h_63 => (first | (simp only [List.getElem?_toArray, List.getElem?_cons_zero, List.getElem?_cons_succ]; done) | (simp only [List.getElem?_toArray, List.getElem?_cons_zero, List.getElem?_cons_succ]; exact rfl))
  (try go_simp)
  (go_at_call 68; refine (massR _ _).mono ?_; rintro e w' ⟨rfl, rfl⟩)
  (try go_wp2_with fail)
  refine hK.out _ _ ?_ (fun hHeld2 => ?_)
  · first | exact HRD.out | exact hHeld | (apply HRK.out; assumption; assumption)
  clear hK K hHeld
  have hHeld := hHeld2
  clear hHeld2
  (try simp only [Act.put, List.setIfInBounds_toArray, List.set_cons_zero, List.set_cons_succ])
  refine wpAnyH_take (i := 64) (oi := ?o_64) (v := .bool false) ?h_64 (by kernel_rfl) (by kernel_rfl) (by kernel_rfl) ?q_64 ?y_64 (by assumption) ?_
  case h_64 => (first | (simp only [List.getElem?_toArray, List.getElem?_cons_zero, List.getElem?_cons_succ]; done) | (simp only [List.getElem?_toArray, List.getElem?_cons_zero, List.getElem?_cons_succ]; exact rfl))
  case q_64 => exact fun _ _ _ h => h
  case y_64 => (refine Or.inl ⟨rfl, ?_⟩; intro w hSw; (try dsimp only at hSw); go_simp; (try with_reducible rfl))
  (try simp only [Act.put, List.setIfInBounds_toArray, List.set_cons_zero, List.set_cons_succ])
  refine wpAnyH_take (i := 65) (oi := ?o_65) (v := .bool false) ?h_65 (by kernel_rfl) (by kernel_rfl) (by kernel_rfl) ?q_65 ?y_65 (by assumption) ?_
  case h_65 => (first | (simp only [List.getElem?_toArray, List.getElem?_cons_zero, List.getElem?_cons_succ]; done) | (simp only [List.getElem?_toArray, List.getElem?_cons_zero, List.getElem?_cons_succ]; exact rfl))
  case q_65 => exact fun _ _ _ h => h
  case y_65 => (refine Or.inl ⟨rfl, ?_⟩; intro w hSw; (try dsimp only at hSw); go_simp; (try with_reducible rfl))
  (try simp only [Act.put, List.setIfInBounds_toArray, List.set_cons_zero, List.set_cons_succ])
  refine wpAnyH_take (i := 66) (oi := ?o_66) (v := .bool false) ?h_66 (by kernel_rfl) (by kernel_rfl) (by kernel_rfl) ?q_66 ?y_66 (by assumption) ?_
  case h_66 => (first | (simp only [List.getElem?_toArray, List.getElem?_cons_zero, List.getElem?_cons_succ]; done) | (simp only [List.getElem?_toArray, List.getElem?_cons_zero, List.getElem?_cons_succ]; exact rfl))
  case q_66 => exact fun _ _ _ h => h
  case y_66 => (refine Or.inl ⟨rfl, ?_⟩; intro w hSw; (try dsimp only at hSw); go_simp; (try with_reducible rfl))
  (try simp only [Act.put, List.setIfInBounds_toArray, List.set_cons_zero, List.set_cons_succ])
  refine wpAnyH_done (by kernel_rfl) ?_ _
  obtain ⟨hs2, _⟩ := hHeld
  have HS2 := Lib.hid hs2
  clear hs2 HRK HRD
  go_wp2
  go_ret
  exact ⟨ret_bool HB.out.symm, HS1.out.trans HS2.out⟩
end Go.Proofs.Ytggafipgfgbbiaa.Fl
