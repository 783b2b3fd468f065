/-
  RideEnds, walked.
  No condition.
-/
import Derived.Test.YtggafipgfgbbiaaRidA
import Derived.Test.YtggafipgfgbbiaaMsgL
import Derived.Test.YtggafipgfgbbiaaExt
namespace Go.Proofs.Ytggafipgfgbbiaa.Ri
set_option linter.unusedVariables false
set_option linter.unusedSimpArgs false
open Go.RowKit Go.Proofs.Ytggafipgfgbbiaa.Ba Go.Proofs.Ytggafipgfgbbiaa.Mo Go.Proofs.Ytggafipgfgbbiaa.Ty Go.Proofs.Ytggafipgfgbbiaa.Mem Go.Proofs.Ytggafipgfgbbiaa.Tm Go.Proofs.Ytggafipgfgbbiaa.Tw
open Go.Proofs.Ytggafipgfgbbiaa.Ce (ms ms_lo ms_hi massT nearT nr)
open Go.Proofs.Ytggafipgfgbbiaa.Fl (massR)
open Go.Proofs.Ytggafipgfgbbiaa.Gl (Msgs)
set_option maxRecDepth 100000
/-- How long a lease lasts at most; what is still to come behind its time. -/
def boV (c : CfgV) : Int := 2 * trV c + sp c.ho * (2 + rn c.re)
def rem (c : CfgV) (ph re : Int) : Int := if ph = 1 then trV c + sp c.ho * (2 + (rn c.re - re)) else if ph = 2 then trV c + sp c.ho * (1 + (rn c.re - re)) else if ph = 3 then sp c.ho * (1 + (rn c.re - re)) else sp c.ho * (rn c.re - re)
/-- It lives, at a time: its time is not over, and what is to come fits. -/
def Lv (c : CfgV) (l : LeaseV) (now : Int) : Prop := 1 ≤ l.ph ∧ l.ph ≤ 4 ∧ 0 ≤ l.re ∧ l.re ≤ rn c.re ∧ now ≤ l.un ∧ l.un + rem c l.ph l.re ≤ boV c
theorem sp_mul (c : CfgV) (k : Int) (h : 0 ≤ k) : 0 ≤ sp c.ho * k := Int.mul_nonneg (by have := sp_lo c.ho; omega) h
theorem sp_step (c : CfgV) (k : Int) : sp c.ho * (k + 1) = sp c.ho * k + sp c.ho := by rw [Int.mul_add, Int.mul_one]
theorem rem_nn (c : CfgV) (ph re : Int) (h : re ≤ rn c.re) : 0 ≤ rem c ph re := by
  have := tr_lo c
  have h2 := sp_mul c (2 + (rn c.re - re)) (by omega)
  have h1 := sp_mul c (1 + (rn c.re - re)) (by omega)
  have h0 := sp_mul c (rn c.re - re) (by omega)
  unfold rem
  split
  · omega
  · split
    · omega
    · split <;> omega
theorem bo_hi (c : CfgV) : 0 ≤ boV c ∧ boV c ≤ 1100000 := by
  have h1 := tr_hi c
  have h2 := tr_lo c
  have h3 : sp c.ho * (2 + rn c.re) ≤ 1000 * 1002 := Int.mul_le_mul (sp_hi _) (by have := rn_hi c.re; omega) (by have := rn_lo c.re; omega) (by omega)
  have h4 := sp_mul c (2 + rn c.re) (by have := rn_lo c.re; omega)
  unfold boV; omega
def ROWof (l : LeaseV) (ph un re : Int) : LeaseV := ⟨l.se, l.fl, l.fm, l.to, l.ma, l.ca, ph, un, re, l.gr⟩
def Go1 (c : CfgV) (l : LeaseV) (t : Int) (r : LeaseV × Option MsgV × Bool) : Prop := ∃ ph un re : Int, r.1 = ⟨l.se, l.fl, l.fm, l.to, l.ma, l.ca, ph, un, re, l.gr⟩ ∧ (r.2.2 = true ∨ Lv c ⟨l.se, l.fl, l.fm, l.to, l.ma, l.ca, ph, un, re, l.gr⟩ t)
theorem cl_sum (a b : Int) (h0 : 0 ≤ a) (h1 : a ≤ 2000000) (h2 : 0 ≤ b) (h3 : b ≤ 4000) : cl (cl a + cl b) = a + b := by
  rw [cl_id a h0 (by omega), cl_id b h2 (by omega), cl_id _ (by omega) (by omega)]
theorem tick_go (c : CfgV) (l : LeaseV) (x : CarV) (now : Int) (h0 : 0 ≤ now) (h : Lv c l now) : Go1 c l (now + 1) (tickV c l x now) := by
  obtain ⟨p1, p4, r0, r1, hu, hb⟩ := h
  have hr := rem_nn c l.ph l.re r1
  have hB := bo_hi c
  have s1 := sp_lo c.ho
  have s2 := sp_hi c.ho
  have hcu : cl l.un = l.un := cl_id _ (by omega) (by omega)
  have hcn : cl now = now := cl_id _ h0 (by omega)
  unfold tickV
  rw [hcu, hcn]
  split
  · exact ⟨_, _, _, rfl, .inl rfl⟩
  · rename_i hn
    have hlt : now < l.un := by
      have : ¬ l.un ≤ now := fun e => hn (Or.inr e)
      omega
    have hs : cl (now + cl (sp c.ho)) = now + sp c.ho := by rw [cl_id (sp c.ho) (by omega) (by omega), cl_id _ (by omega) (by omega)]
    split
    · rename_i hp
      refine ⟨_, _, _, rfl, .inr ⟨by simp, by simp, r0, r1, by show now + 1 ≤ cl (now + cl (sp c.ho)); rw [hs]; omega, ?_⟩⟩
      show cl (now + cl (sp c.ho)) + rem c 2 l.re ≤ boV c
      rw [hs]
      rw [hp.1] at hb
      unfold rem at hb ⊢
      simp at hb ⊢
      have := sp_step c (1 + (rn c.re - l.re))
      rw [show 1 + (rn c.re - l.re) + 1 = 2 + (rn c.re - l.re) by omega] at this
      omega
    · split
      · rename_i hp
        refine ⟨_, _, _, rfl, .inr ⟨by simp, by simp, r0, r1, by show now + 1 ≤ cl (now + cl (sp c.ho)); rw [hs]; omega, ?_⟩⟩
        show cl (now + cl (sp c.ho)) + rem c 4 l.re ≤ boV c
        rw [hs]
        rw [hp.1] at hb
        unfold rem at hb ⊢
        simp at hb ⊢
        have := sp_step c (rn c.re - l.re)
        rw [show rn c.re - l.re + 1 = 1 + (rn c.re - l.re) by omega] at this
        omega
      · exact ⟨_, _, _, rfl, .inr ⟨p1, p4, r0, r1, by show now + 1 ≤ l.un; omega, hb⟩⟩
theorem hear_go (c : CfgV) (l : LeaseV) (x : CarV) (now : Int) (m : MsgV) (h0 : 0 ≤ now) (h : Lv c l now) : Go1 c l now (hearV c l x now m) := by
  obtain ⟨p1, p4, r0, r1, hu, hb⟩ := h
  have hr := rem_nn c l.ph l.re r1
  have hB := bo_hi c
  have s1 := sp_lo c.ho
  have s2 := sp_hi c.ho
  have t1 := tr_lo c
  have t2 := tr_hi c
  have hcn : cl now = now := cl_id _ h0 (by omega)
  have same : Lv c ⟨l.se, l.fl, l.fm, l.to, l.ma, l.ca, l.ph, l.un, l.re, l.gr⟩ now := ⟨p1, p4, r0, r1, hu, hb⟩
  unfold hearV
  rw [hcn]
  split
  · rename_i hp
    split
    · have hs : cl (now + cl (trV c)) = now + trV c := by rw [cl_id (trV c) (by omega) (by omega), cl_id _ (by omega) (by omega)]
      refine ⟨_, _, _, rfl, .inr ⟨by simp, by simp, r0, r1, by show now ≤ cl (now + cl (trV c)); rw [hs]; omega, ?_⟩⟩
      show cl (now + cl (trV c)) + rem c 3 l.re ≤ boV c
      rw [hs]
      rw [hp.2] at hb
      unfold rem at hb ⊢
      simp at hb ⊢
      omega
    · exact ⟨_, _, _, rfl, .inr same⟩
  · split
    · exact ⟨_, _, _, rfl, .inl rfl⟩
    · split
      · rename_i hp
        have hm : (l.ph = 2 ∨ l.ph = 4) ∧ l.re < rn c.re := by
          have := hp.2
          unfold mayRe at this
          simpa using this
        have g2 := rn_hi c.re
        have hs : cl (now + cl (sp c.ho)) = now + sp c.ho := by rw [cl_id (sp c.ho) (by omega) (by omega), cl_id _ (by omega) (by omega)]
        have hw : IntKind.i64.wrap (l.re + 1) = l.re + 1 := wr _ (by omega) (by omega)
        refine ⟨_, _, _, rfl, .inr ⟨p1, p4, by show 0 ≤ IntKind.i64.wrap (l.re + 1); rw [hw]; omega, by show IntKind.i64.wrap (l.re + 1) ≤ rn c.re; rw [hw]; omega, by show now ≤ cl (now + cl (sp c.ho)); rw [hs]; omega, ?_⟩⟩
        show cl (now + cl (sp c.ho)) + rem c l.ph (IntKind.i64.wrap (l.re + 1)) ≤ boV c
        rw [hs, hw]
        rcases hm.1 with e | e <;> rw [e] at hb ⊢ <;> unfold rem at hb ⊢ <;> simp at hb ⊢
        · have := sp_step c (1 + (rn c.re - (l.re + 1)))
          rw [show 1 + (rn c.re - (l.re + 1)) + 1 = 1 + (rn c.re - l.re) by omega] at this
          omega
        · have := sp_step c (rn c.re - (l.re + 1))
          rw [show rn c.re - (l.re + 1) + 1 = rn c.re - l.re by omega] at this
          omega
      · exact ⟨_, _, _, rfl, .inr same⟩
def StepE (c : CfgV) (l : LeaseV) (t : Int) (W : World) (e : Ending) (w' : World) : Prop := ∃ (v : Value) (ph un re : Int) (ov : Bool), e = .returned (.tuple #[.agg (leaA ⟨l.se, l.fl, l.fm, l.to, l.ma, l.ca, ph, un, re, l.gr⟩), v, .bool ov]) ∧ (ov = true ∨ Lv c ⟨l.se, l.fl, l.fm, l.to, l.ma, l.ca, ph, un, re, l.gr⟩ t) ∧ Since W w'
theorem said_e {c : CfgV} {l : LeaseV} {t : Int} {r : LeaseV × Option MsgV × Bool} {W : World} {e : Ending} {w' : World} (hok : Go1 c l t r) (h : Said W r e w') : StepE c l t W e w' := by
  obtain ⟨a, o, ov⟩ := r
  obtain ⟨v, he, _, hb⟩ := h
  obtain ⟨ph, un, re, ha, hn⟩ := hok
  have ha' : a = ⟨l.se, l.fl, l.fm, l.to, l.ma, l.ca, ph, un, re, l.gr⟩ := ha
  subst ha'
  exact ⟨v, ph, un, re, ov, he, hn, hb⟩
theorem tickE2 (c : CfgV) (l : LeaseV) (x : CarV) (now : Int) (h0 : 0 ≤ now) (h : Lv c l now) (W : World) : Calls Try.prog 50 #[.agg (cfgA c), .agg (leaA l), .agg (carA x), .int .i64 now] W (StepE c l (now + 1) W) :=
  (tickT c l x now W).mono fun _ _ k => said_e (tick_go c l x now h0 h) k
theorem hearE2 (c : CfgV) (l : LeaseV) (x : CarV) (now : Int) (m : MsgV) (h0 : 0 ≤ now) (h : Lv c l now) (W : World) : Calls Try.prog 57 #[.agg (cfgA c), .agg (leaA l), .agg (carA x), .int .i64 now, .agg (msgC m)] W (StepE c l now W) :=
  (hearT c l x now m W).mono fun _ _ k => said_e (hear_go c l x now m h0 h) k
theorem boundT (c : CfgV) (w : World) : Calls Try.prog 59 #[.agg #[.int .i64 c.ca, .int .i64 c.fl, .int .i64 c.ft, .int .i64 c.se, .int .i64 c.dr, .int .i64 c.dw, .int .i64 c.ho, .int .i64 c.re, .int .i64 c.yi, .int .i64 c.qu, .int .i64 c.qo, .int .i64 c.lo, .int .i64 c.sl, .int .i64 c.rt, .int .i64 c.cp, .int .i64 c.tr, .int .i64 c.de, .int .i64 c.wi]] w fun e w' => e = .returned (.int .i64 (boV c)) ∧ Since w w' := by
  have f1 := tr_lo c; have f2 := tr_hi c; have f3 := sp_lo c.ho; have f4 := sp_hi c.ho; have f5 := rn_lo c.re; have f6 := rn_hi c.re; have f7 := bo_hi c; have f8 := sp_mul c (2 + rn c.re) (by omega)
  have HF := Lib.hid (show (0 ≤ trV c ∧ trV c ≤ 4000) ∧ (0 ≤ rn c.re ∧ rn c.re ≤ 1000) ∧ (0 ≤ sp c.ho * (2 + rn c.re) ∧ 2 * trV c + sp c.ho * (2 + rn c.re) ≤ 1100000) from ⟨⟨by omega, f2⟩, ⟨f5, f6⟩, ⟨f8, f7.2⟩⟩)
  clear f1 f2 f3 f4 f5 f6 f7 f8
  go_enter Try.func59, Try.ntmps59
  go_upto_region 1 with fail
  obtain ⟨w1, hw1⟩ : ∃ w1, w1 = (w.alloc (.cells #[.int .i64 c.ca, .int .i64 c.fl, .int .i64 c.ft, .int .i64 c.se, .int .i64 c.dr, .int .i64 c.dw, .int .i64 c.ho, .int .i64 c.re, .int .i64 c.yi, .int .i64 c.qu, .int .i64 c.qo, .int .i64 c.lo, .int .i64 c.sl, .int .i64 c.rt, .int .i64 c.cp, .int .i64 c.tr, .int .i64 c.de, .int .i64 c.wi] 23)) := ⟨_, rfl⟩
  rw [← hw1]
  have HBC1 := Lib.hid (show Blk w1 (w.heap.size) 23 (cfgA c) by rw [hw1]; exact Blk.at_ (by (try simp only [size_alloc])) _ _)
  have HS1 := Lib.hid (show Since w w1 by rw [hw1]; exact Since.alloc (Since.refl w) _)
  have hNE : w.heap.size ≤ w.heap.size := by omega
  have HNE := Lib.hid hNE
  clear hNE hw1
  have HNE3 := Lib.hid (show w.heap.size ≤ w.heap.size from HNE.out)
  clear HNE
  have hrK : ∀ W W' : World, Since W W' → (Since w W ∧ Blk W w.heap.size 23 (cfgA c)) → (Since w W' ∧ Blk W' w.heap.size 23 (cfgA c)) := fun W W' k ⟨h, h0⟩ => ⟨h.trans k, keep_blk k h0⟩
  have hrS : (fun W : World => Since w W ∧ Blk W w.heap.size 23 (cfgA c)) w1 := ⟨HS1.out, HBC1.out⟩
  have HRK := Lib.hid hrK
  have HRD := Lib.hid (show (fun W : World => Since w W ∧ Blk W w.heap.size 23 (cfgA c)) (World.drew w1) from ⟨Since.drew hrS.1, hrS.2⟩)
  clear hrK hrS
  refine wp_region_held_drew (S := fun W : World => Since w W ∧ Blk W w.heap.size 23 (cfgA c)) (by kernel_rfl) HRD.out (fun hHeld => ?_)
  refine wpAnyH_take (i := 0) (oi := ?o1__0) (v := .agg (cfgA c)) ?h1__0 (by kernel_rfl) (by kernel_rfl) (by kernel_rfl) ?q1__0 ?y1__0 (by assumption) ?_
  case h1__0 => (first | (simp only [gA, gB, gC]; done) | (simp only [gA, gB, gC]; exact rfl))
  case q1__0 => exact fun _ _ _ h => h
  case y1__0 => (refine Or.inl ⟨rfl, ?_⟩; intro w hSw; exact exec_load_row 23 _ _ hSw.2 rfl rfl Try.underlying23 rfl (by kernel_rfl))
  (try simp only [Act.put, sA, sB, sC])
  refine wpAnyH_take (i := 3) (oi := ?o1__3) (v := .pointer (some ⟨w.heap.size, 6, none⟩)) ?h1__3 (by kernel_rfl) (by kernel_rfl) (by kernel_rfl) ?q1__3 ?y1__3 (by assumption) ?_
  case h1__3 => (first | (simp only [gA, gB, gC]; done) | (simp only [gA, gB, gC]; exact rfl))
  case q1__3 => exact fun _ _ _ h => h
  case y1__3 => (refine Or.inl ⟨rfl, ?_⟩; intro w hSw; (first | rfl | (go_simp; (try with_reducible rfl))))
  (try simp only [Act.put, sA, sB, sC])
  refine wpAnyH_take (i := 4) (oi := ?o1__4) (v := .int .i64 c.ho) ?h1__4 (by kernel_rfl) (by kernel_rfl) (by kernel_rfl) ?q1__4 ?y1__4 (by assumption) ?_
  case h1__4 => (first | (simp only [gA, gB, gC]; done) | (simp only [gA, gB, gC]; exact rfl))
  case q1__4 => exact fun _ _ _ h => h
  case y1__4 => (refine Or.inl ⟨rfl, ?_⟩; intro w hSw; exact exec_cell 3 _ _ hSw.2 rfl rfl rfl Try.underlying3 rfl)
  (try simp only [Act.put, sA, sB, sC])
  refine wpAnyH_take (i := 6) (oi := ?o1__6) (v := .agg (cfgA c)) ?h1__6 (by kernel_rfl) (by kernel_rfl) (by kernel_rfl) ?q1__6 ?y1__6 (by assumption) ?_
  case h1__6 => (first | (simp only [gA, gB, gC]; done) | (simp only [gA, gB, gC]; exact rfl))
  case q1__6 => exact fun _ _ _ h => h
  case y1__6 => (refine Or.inl ⟨rfl, ?_⟩; intro w hSw; exact exec_load_row 23 _ _ hSw.2 rfl rfl Try.underlying23 rfl (by kernel_rfl))
  (try simp only [Act.put, sA, sB, sC])
  refine wpAnyH_ready (rs := [1]) (by kernel_rfl) (by simp) ?_
  refine AllReadyH.cons (o := ?o1__1) ?h1__1 (fun K hK => ?_) AllReadyH.nil
  case h1__1 => (first | (simp only [gA, gB, gC]; done) | (simp only [gA, gB, gC]; exact rfl))
  (try go_simp)
  refine (tripR c _).mono ?_
  rintro e w2 ⟨rfl, hb⟩
  (try go_wp2_with fail)
  refine hK.out _ _ (by (apply HRK.out; exact hb; exact hHeld)) (fun hHeld2 => ?_)
  clear hK K hHeld hb
  have hHeld := hHeld2
  clear hHeld2
  (try simp only [Act.put, sA, sB, sC])
  refine wpAnyH_take (i := 2) (oi := ?o1__2) (v := .int .i64 (2 * trV c)) ?h1__2 (by kernel_rfl) (by kernel_rfl) (by kernel_rfl) ?q1__2 ?y1__2 (by assumption) ?_
  case h1__2 => (first | (simp only [gA, gB, gC]; done) | (simp only [gA, gB, gC]; exact rfl))
  case q1__2 => exact fun _ _ _ h => h
  case y1__2 => (refine Or.inl ⟨rfl, ?_⟩; intro w hSw; (go_simp; (first | done | (refine Ri.wr _ ?_ ?_ <;> (have q0 := HF.out; omega)) | (have q0 := HF.out; omega) | (have q0 := HF.out; split <;> omega) | (have q0 := HF.out; intro hh; omega))))
  (try simp only [Act.put, sA, sB, sC])
  refine wpAnyH_ready (rs := [5]) (by kernel_rfl) (by simp) ?_
  refine AllReadyH.cons (o := ?o1__5) ?h1__5 (fun K hK => ?_) AllReadyH.nil
  case h1__5 => (first | (simp only [gA, gB, gC]; done) | (simp only [gA, gB, gC]; exact rfl))
  (try go_simp)
  refine (spanR _ _).mono ?_
  rintro e w' ⟨rfl, rfl⟩
  (try go_wp2_with fail)
  refine hK.out _ _ hHeld (fun hHeld2 => ?_)
  clear hK K hHeld2
  (try simp only [Act.put, sA, sB, sC])
  refine wpAnyH_ready (rs := [7]) (by kernel_rfl) (by simp) ?_
  refine AllReadyH.cons (o := ?o1__7) ?h1__7 (fun K hK => ?_) AllReadyH.nil
  case h1__7 => (first | (simp only [gA, gB, gC]; done) | (simp only [gA, gB, gC]; exact rfl))
  (try go_simp)
  refine (renR c _).mono ?_
  rintro e w3 ⟨rfl, hb⟩
  (try go_wp2_with fail)
  refine hK.out _ _ (by (apply HRK.out; exact hb; exact hHeld)) (fun hHeld2 => ?_)
  clear hK K hHeld hb
  have hHeld := hHeld2
  clear hHeld2
  (try simp only [Act.put, sA, sB, sC])
  refine wpAnyH_take (i := 8) (oi := ?o1__8) (v := .int .i64 (2 + rn c.re)) ?h1__8 (by kernel_rfl) (by kernel_rfl) (by kernel_rfl) ?q1__8 ?y1__8 (by assumption) ?_
  case h1__8 => (first | (simp only [gA, gB, gC]; done) | (simp only [gA, gB, gC]; exact rfl))
  case q1__8 => exact fun _ _ _ h => h
  case y1__8 => (refine Or.inl ⟨rfl, ?_⟩; intro w hSw; (go_simp; (first | done | (refine Ri.wr _ ?_ ?_ <;> (have q0 := HF.out; omega)) | (have q0 := HF.out; omega) | (have q0 := HF.out; split <;> omega) | (have q0 := HF.out; intro hh; omega))))
  (try simp only [Act.put, sA, sB, sC])
  refine wpAnyH_take (i := 9) (oi := ?o1__9) (v := .int .i64 (sp c.ho * (2 + rn c.re))) ?h1__9 (by kernel_rfl) (by kernel_rfl) (by kernel_rfl) ?q1__9 ?y1__9 (by assumption) ?_
  case h1__9 => (first | (simp only [gA, gB, gC]; done) | (simp only [gA, gB, gC]; exact rfl))
  case q1__9 => exact fun _ _ _ h => h
  case y1__9 => (refine Or.inl ⟨rfl, ?_⟩; intro w hSw; (go_simp; (first | done | (refine Ri.wr _ ?_ ?_ <;> (have q0 := HF.out; omega)) | (have q0 := HF.out; omega) | (have q0 := HF.out; split <;> omega) | (have q0 := HF.out; intro hh; omega))))
  (try simp only [Act.put, sA, sB, sC])
  refine wpAnyH_take (i := 10) (oi := ?o1__10) (v := .int .i64 (2 * trV c + sp c.ho * (2 + rn c.re))) ?h1__10 (by kernel_rfl) (by kernel_rfl) (by kernel_rfl) ?q1__10 ?y1__10 (by assumption) ?_
  case h1__10 => (first | (simp only [gA, gB, gC]; done) | (simp only [gA, gB, gC]; exact rfl))
  case q1__10 => exact fun _ _ _ h => h
  case y1__10 => (refine Or.inl ⟨rfl, ?_⟩; intro w hSw; (go_simp; (first | done | (refine Ri.wr _ ?_ ?_ <;> (have q0 := HF.out; omega)) | (have q0 := HF.out; omega) | (have q0 := HF.out; split <;> omega) | (have q0 := HF.out; intro hh; omega))))
  (try simp only [Act.put, sA, sB, sC])
  refine wpAnyH_take (i := 11) (oi := ?o1__11) (v := .int .i64 (2 * trV c + sp c.ho * (2 + rn c.re))) ?h1__11 (by kernel_rfl) (by kernel_rfl) (by kernel_rfl) ?q1__11 ?y1__11 (by assumption) ?_
  case h1__11 => (first | (simp only [gA, gB, gC]; done) | (simp only [gA, gB, gC]; exact rfl))
  case q1__11 => exact fun _ _ _ h => h
  case y1__11 => (refine Or.inl ⟨rfl, ?_⟩; intro w hSw; (first | rfl | (go_simp; (try with_reducible rfl))))
  (try simp only [Act.put, sA, sB, sC])
  refine wpAnyH_done (by kernel_rfl) ?_ _
  have HSd1 := Lib.hid hHeld.1
  have HBCd1 := Lib.hid (hHeld.2)
  clear hHeld HRK HRD HS1 HBC1
  (try go_wp2_with fail)
  go_ret
  exact ⟨rfl, HSd1.out⟩
set_option maxHeartbeats 4000000 in
theorem enX0 (c : CfgV) (l : LeaseV) (x : CarV) (a3 : Option Addr) (len3 cap3 : Nat) (gs : Nat → MsgV) (w : World) (hG : Msgs w a3 len3 gs) (hl3 : len3 ≤ 9223372036854775807) (h0 : 30 < c.ho) : Calls Try.prog 14 #[.agg #[.int .i64 c.ca, .int .i64 c.fl, .int .i64 c.ft, .int .i64 c.se, .int .i64 c.dr, .int .i64 c.dw, .int .i64 c.ho, .int .i64 c.re, .int .i64 c.yi, .int .i64 c.qu, .int .i64 c.qo, .int .i64 c.lo, .int .i64 c.sl, .int .i64 c.rt, .int .i64 c.cp, .int .i64 c.tr, .int .i64 c.de, .int .i64 c.wi], .agg #[.int .i64 l.se, .int .i64 l.fl, .int .i64 l.fm, .int .i64 l.to, .int .i64 l.ma, .int .i64 l.ca, .int .i64 l.ph, .int .i64 l.un, .int .i64 l.re, .int .i64 l.gr], .agg #[.int .i64 x.ds, .int .i64 x.da, .int .i64 x.un, .int .i64 x.wy, .int .i64 x.ti, .int .i64 x.ju, .int .i64 x.lo, .bool x.bl, .bool x.br, .int .i64 x.mo, .int .i64 x.ta, .bool x.ho, .int .u64 x.sp, .int .u64 x.su, .int .u64 x.sd], .slice a3 len3 cap3] w fun e w' => e = .returned (.bool true) ∧ Since w w' := by
  have hlI3 : (len3 : Int) ≤ 9223372036854775807 := by omega
  have HGV := Lib.hid hG
  clear hG
  have H0 := Lib.hid h0
  clear h0
  go_enter Try.func14, Try.ntmps14
  go_upto_region 1 with fail
  obtain ⟨w1, hw1⟩ : ∃ w1, w1 = (((w.alloc (.cells #[.int .i64 c.ca, .int .i64 c.fl, .int .i64 c.ft, .int .i64 c.se, .int .i64 c.dr, .int .i64 c.dw, .int .i64 c.ho, .int .i64 c.re, .int .i64 c.yi, .int .i64 c.qu, .int .i64 c.qo, .int .i64 c.lo, .int .i64 c.sl, .int .i64 c.rt, .int .i64 c.cp, .int .i64 c.tr, .int .i64 c.de, .int .i64 c.wi] 23)).alloc (.cells #[.int .i64 l.se, .int .i64 l.fl, .int .i64 l.fm, .int .i64 l.to, .int .i64 l.ma, .int .i64 l.ca, .int .i64 l.ph, .int .i64 l.un, .int .i64 l.re, .int .i64 l.gr] 56)).alloc (.cells #[.int .i64 x.ds, .int .i64 x.da, .int .i64 x.un, .int .i64 x.wy, .int .i64 x.ti, .int .i64 x.ju, .int .i64 x.lo, .bool x.bl, .bool x.br, .int .i64 x.mo, .int .i64 x.ta, .bool x.ho, .int .u64 x.sp, .int .u64 x.su, .int .u64 x.sd] 76)) := ⟨_, rfl⟩
  rw [← hw1]
  have HBC1 := Lib.hid (show Blk w1 (w.heap.size) 23 (cfgA c) by rw [hw1]; exact Blk.alloc (Blk.alloc (Blk.at_ (by (try simp only [size_alloc])) _ _) _) _)
  have HBL1 := Lib.hid (show Blk w1 (w.heap.size + 1) 56 (leaA l) by rw [hw1]; exact Blk.alloc (Blk.at_ (by (try simp only [size_alloc])) _ _) _)
  have HBX1 := Lib.hid (show Blk w1 (w.heap.size + 1 + 1) 76 (carA x) by rw [hw1]; exact Blk.at_ (by (try simp only [size_alloc])) _ _)
  have HS1 := Lib.hid (show Since w w1 by rw [hw1]; exact Since.alloc (Since.alloc (Since.alloc (Since.refl w) _) _) _)
  have hNE : w.heap.size ≤ w.heap.size ∧ w.heap.size < w.heap.size + 1 ∧ w.heap.size + 1 < w.heap.size + 1 + 1 := by omega
  have HNE := Lib.hid hNE
  clear hNE hw1
  generalize w.heap.size + 1 + 1 = bX at *
  generalize w.heap.size + 1 = bL at *
  have HNE3 := Lib.hid (show w.heap.size ≤ w.heap.size ∧ w.heap.size < bL ∧ bL < bX from HNE.out)
  clear HNE
  refine wp_region_lit ?_
  refine wpList_q (by rfl) (.pointer (some ⟨w.heap.size, 6, none⟩)) ?he ?_
  case he => (first | rfl | (go_simp; (try with_reducible rfl)))
  (try simp only [Act.put, sA, sB, sC])
  refine wpList_q (by rfl) (.int .i64 c.ho) ?he ?_
  case he => exact exec_cell 3 _ _ HBC1.out rfl rfl rfl Try.underlying3 rfl
  (try simp only [Act.put, sA, sB, sC])
  refine wpList_q (by rfl) (.bool true) ?he ?_
  case he => (have hq := H0.out; go_simp; (try with_reducible rfl))
  (try simp only [Act.put, sA, sB, sC])
  refine wpList_q (by rfl) (.bool true) ?he ?_
  case he => (first | rfl | (go_simp; (try with_reducible rfl)))
  (try simp only [Act.put, sA, sB, sC])
  refine wpList_no (by rfl) ?_
  (try simp only [Act.put, sA, sB, sC])
  refine wpList_no (by rfl) ?_
  (try simp only [Act.put, sA, sB, sC])
  refine wpList_no (by rfl) ?_
  (try simp only [Act.put, sA, sB, sC])
  refine wpList_q (by rfl) (.bool true) ?he ?_
  case he => (first | rfl | (go_simp; (try with_reducible rfl)))
  (try simp only [Act.put, sA, sB, sC])
  refine wpList_q (by rfl) (.bool true) ?he ?_
  case he => (first | rfl | (go_simp; (try with_reducible rfl)))
  (try simp only [Act.put, sA, sB, sC])
  refine wpList_no (by rfl) ?_
  (try simp only [Act.put, sA, sB, sC])
  refine wpList_no (by rfl) ?_
  (try simp only [Act.put, sA, sB, sC])
  refine wpList_no (by rfl) ?_
  (try simp only [Act.put, sA, sB, sC])
  refine wpList_q (by rfl) (.bool true) ?he ?_
  case he => (first | rfl | (go_simp; (try with_reducible rfl)))
  (try simp only [Act.put, sA, sB, sC])
  refine wpList_q (by rfl) (.bool true) ?he ?_
  case he => (first | rfl | (go_simp; (try with_reducible rfl)))
  (try simp only [Act.put, sA, sB, sC])
  refine wpList_no (by rfl) ?_
  (try simp only [Act.put, sA, sB, sC])
  refine wpList_no (by rfl) ?_
  (try simp only [Act.put, sA, sB, sC])
  refine wpList_no (by rfl) ?_
  (try simp only [Act.put, sA, sB, sC])
  refine wpList_q (by rfl) (.bool true) ?he ?_
  case he => (first | rfl | (go_simp; (try with_reducible rfl)))
  (try simp only [Act.put, sA, sB, sC])
  refine wpList_q (by rfl) (.bool true) ?he ?_
  case he => (first | rfl | (go_simp; (try with_reducible rfl)))
  (try simp only [Act.put, sA, sB, sC])
  refine wpList_no (by rfl) ?_
  (try simp only [Act.put, sA, sB, sC])
  refine wpList_no (by rfl) ?_
  (try simp only [Act.put, sA, sB, sC])
  refine wpList_no (by rfl) ?_
  (try simp only [Act.put, sA, sB, sC])
  refine wpList_no (by rfl) ?_
  (try simp only [Act.put, sA, sB, sC])
  refine wpList_q (by rfl) (.bool true) ?he ?_
  case he => (first | rfl | (go_simp; (try with_reducible rfl)))
  (try simp only [Act.put, sA, sB, sC])
  refine wpList_q (by rfl) (.bool true) ?he ?_
  case he => (first | rfl | (go_simp; (try with_reducible rfl)))
  (try simp only [Act.put, sA, sB, sC])
  refine wpList_no (by rfl) ?_
  (try simp only [Act.put, sA, sB, sC])
  refine wpList_no (by rfl) ?_
  (try simp only [Act.put, sA, sB, sC])
  refine wpList_no (by rfl) ?_
  (try simp only [Act.put, sA, sB, sC])
  refine wpList_no (by rfl) ?_
  (try simp only [Act.put, sA, sB, sC])
  refine wpList_q (by rfl) (.bool true) ?he ?_
  case he => (first | rfl | (go_simp; (try with_reducible rfl)))
  (try simp only [Act.put, sA, sB, sC])
  refine wpList_q (by rfl) (.bool true) ?he ?_
  case he => (first | rfl | (go_simp; (try with_reducible rfl)))
  (try simp only [Act.put, sA, sB, sC])
  refine wpList_no (by rfl) ?_
  (try simp only [Act.put, sA, sB, sC])
  refine wpList_no (by rfl) ?_
  (try simp only [Act.put, sA, sB, sC])
  refine wpList_no (by rfl) ?_
  (try simp only [Act.put, sA, sB, sC])
  refine wpList_no (by rfl) ?_
  (try simp only [Act.put, sA, sB, sC])
  refine wpList_q (by rfl) (.bool true) ?he ?_
  case he => (first | rfl | (go_simp; (try with_reducible rfl)))
  (try simp only [Act.put, sA, sB, sC])
  refine wpList_q (by rfl) (.bool true) ?he ?_
  case he => (first | rfl | (go_simp; (try with_reducible rfl)))
  (try simp only [Act.put, sA, sB, sC])
  refine wpList_no (by rfl) ?_
  (try simp only [Act.put, sA, sB, sC])
  refine wpList_no (by rfl) ?_
  (try simp only [Act.put, sA, sB, sC])
  refine wpList_no (by rfl) ?_
  (try simp only [Act.put, sA, sB, sC])
  refine wpList_no (by rfl) ?_
  (try simp only [Act.put, sA, sB, sC])
  refine wpList_q (by rfl) (.bool true) ?he ?_
  case he => (first | rfl | (go_simp; (try with_reducible rfl)))
  (try simp only [Act.put, sA, sB, sC])
  refine wpList_nil ?_
  go_upto_region 2 with fail
  refine wp_region_lit ?_
  refine wpList_wp (by rfl) (fun K hK => ?_)
  (try go_simp)
  refine (ans _).mono ?_
  rintro e w2 ⟨rfl, hb⟩
  (try go_wp2_with fail)
  refine hK.out _ _ ?_
  clear hK K
  (try simp only [Act.put, sA, sB, sC])
  have HS2 := Lib.hid (Since.trans HS1.out hb)
  have HBC2 := Lib.hid (keep_blk hb HBC1.out)
  have HBL2 := Lib.hid (keep_blk hb HBL1.out)
  have HBX2 := Lib.hid (keep_blk hb HBX1.out)
  clear HS1 HBC1 HBL1 HBX1
  clear hb
  refine wpList_q (by rfl) (.bool true) ?he ?_
  case he => (first | rfl | (go_simp; (try with_reducible rfl)))
  (try simp only [Act.put, sA, sB, sC])
  refine wpList_nil ?_
  (try go_wp2_with fail)
  go_ret
  exact ⟨rfl, HS2.out⟩
set_option maxHeartbeats 4000000 in
theorem enX1 (c : CfgV) (l : LeaseV) (x : CarV) (a3 : Option Addr) (len3 cap3 : Nat) (gs : Nat → MsgV) (w : World) (hG : Msgs w a3 len3 gs) (hl3 : len3 ≤ 9223372036854775807) (h0 : ¬ (30 < c.ho)) (h1 : 5 < c.re) : Calls Try.prog 14 #[.agg #[.int .i64 c.ca, .int .i64 c.fl, .int .i64 c.ft, .int .i64 c.se, .int .i64 c.dr, .int .i64 c.dw, .int .i64 c.ho, .int .i64 c.re, .int .i64 c.yi, .int .i64 c.qu, .int .i64 c.qo, .int .i64 c.lo, .int .i64 c.sl, .int .i64 c.rt, .int .i64 c.cp, .int .i64 c.tr, .int .i64 c.de, .int .i64 c.wi], .agg #[.int .i64 l.se, .int .i64 l.fl, .int .i64 l.fm, .int .i64 l.to, .int .i64 l.ma, .int .i64 l.ca, .int .i64 l.ph, .int .i64 l.un, .int .i64 l.re, .int .i64 l.gr], .agg #[.int .i64 x.ds, .int .i64 x.da, .int .i64 x.un, .int .i64 x.wy, .int .i64 x.ti, .int .i64 x.ju, .int .i64 x.lo, .bool x.bl, .bool x.br, .int .i64 x.mo, .int .i64 x.ta, .bool x.ho, .int .u64 x.sp, .int .u64 x.su, .int .u64 x.sd], .slice a3 len3 cap3] w fun e w' => e = .returned (.bool true) ∧ Since w w' := by
  have hlI3 : (len3 : Int) ≤ 9223372036854775807 := by omega
  have HGV := Lib.hid hG
  clear hG
  have H0 := Lib.hid h0
  clear h0
  have H1 := Lib.hid h1
  clear h1
  go_enter Try.func14, Try.ntmps14
  go_upto_region 1 with fail
  obtain ⟨w1, hw1⟩ : ∃ w1, w1 = (((w.alloc (.cells #[.int .i64 c.ca, .int .i64 c.fl, .int .i64 c.ft, .int .i64 c.se, .int .i64 c.dr, .int .i64 c.dw, .int .i64 c.ho, .int .i64 c.re, .int .i64 c.yi, .int .i64 c.qu, .int .i64 c.qo, .int .i64 c.lo, .int .i64 c.sl, .int .i64 c.rt, .int .i64 c.cp, .int .i64 c.tr, .int .i64 c.de, .int .i64 c.wi] 23)).alloc (.cells #[.int .i64 l.se, .int .i64 l.fl, .int .i64 l.fm, .int .i64 l.to, .int .i64 l.ma, .int .i64 l.ca, .int .i64 l.ph, .int .i64 l.un, .int .i64 l.re, .int .i64 l.gr] 56)).alloc (.cells #[.int .i64 x.ds, .int .i64 x.da, .int .i64 x.un, .int .i64 x.wy, .int .i64 x.ti, .int .i64 x.ju, .int .i64 x.lo, .bool x.bl, .bool x.br, .int .i64 x.mo, .int .i64 x.ta, .bool x.ho, .int .u64 x.sp, .int .u64 x.su, .int .u64 x.sd] 76)) := ⟨_, rfl⟩
  rw [← hw1]
  have HBC1 := Lib.hid (show Blk w1 (w.heap.size) 23 (cfgA c) by rw [hw1]; exact Blk.alloc (Blk.alloc (Blk.at_ (by (try simp only [size_alloc])) _ _) _) _)
  have HBL1 := Lib.hid (show Blk w1 (w.heap.size + 1) 56 (leaA l) by rw [hw1]; exact Blk.alloc (Blk.at_ (by (try simp only [size_alloc])) _ _) _)
  have HBX1 := Lib.hid (show Blk w1 (w.heap.size + 1 + 1) 76 (carA x) by rw [hw1]; exact Blk.at_ (by (try simp only [size_alloc])) _ _)
  have HS1 := Lib.hid (show Since w w1 by rw [hw1]; exact Since.alloc (Since.alloc (Since.alloc (Since.refl w) _) _) _)
  have hNE : w.heap.size ≤ w.heap.size ∧ w.heap.size < w.heap.size + 1 ∧ w.heap.size + 1 < w.heap.size + 1 + 1 := by omega
  have HNE := Lib.hid hNE
  clear hNE hw1
  generalize w.heap.size + 1 + 1 = bX at *
  generalize w.heap.size + 1 = bL at *
  have HNE3 := Lib.hid (show w.heap.size ≤ w.heap.size ∧ w.heap.size < bL ∧ bL < bX from HNE.out)
  clear HNE
  refine wp_region_lit ?_
  refine wpList_q (by rfl) (.pointer (some ⟨w.heap.size, 6, none⟩)) ?he ?_
  case he => (first | rfl | (go_simp; (try with_reducible rfl)))
  (try simp only [Act.put, sA, sB, sC])
  refine wpList_q (by rfl) (.int .i64 c.ho) ?he ?_
  case he => exact exec_cell 3 _ _ HBC1.out rfl rfl rfl Try.underlying3 rfl
  (try simp only [Act.put, sA, sB, sC])
  refine wpList_q (by rfl) (.bool false) ?he ?_
  case he => (have hq := H0.out; go_simp; (try with_reducible rfl))
  (try simp only [Act.put, sA, sB, sC])
  refine wpList_q (by rfl) (.bool false) ?he ?_
  case he => (first | rfl | (go_simp; (try with_reducible rfl)))
  (try simp only [Act.put, sA, sB, sC])
  refine wpList_q (by rfl) (.pointer (some ⟨w.heap.size, 7, none⟩)) ?he ?_
  case he => (first | rfl | (go_simp; (try with_reducible rfl)))
  (try simp only [Act.put, sA, sB, sC])
  refine wpList_q (by rfl) (.int .i64 c.re) ?he ?_
  case he => exact exec_cell 3 _ _ HBC1.out rfl rfl rfl Try.underlying3 rfl
  (try simp only [Act.put, sA, sB, sC])
  refine wpList_q (by rfl) (.bool true) ?he ?_
  case he => (have hq := H1.out; go_simp; (try with_reducible rfl))
  (try simp only [Act.put, sA, sB, sC])
  refine wpList_q (by rfl) (.bool true) ?he ?_
  case he => (first | rfl | (go_simp; (try with_reducible rfl)))
  (try simp only [Act.put, sA, sB, sC])
  refine wpList_q (by rfl) (.bool true) ?he ?_
  case he => (first | rfl | (go_simp; (try with_reducible rfl)))
  (try simp only [Act.put, sA, sB, sC])
  refine wpList_no (by rfl) ?_
  (try simp only [Act.put, sA, sB, sC])
  refine wpList_no (by rfl) ?_
  (try simp only [Act.put, sA, sB, sC])
  refine wpList_no (by rfl) ?_
  (try simp only [Act.put, sA, sB, sC])
  refine wpList_q (by rfl) (.bool true) ?he ?_
  case he => (first | rfl | (go_simp; (try with_reducible rfl)))
  (try simp only [Act.put, sA, sB, sC])
  refine wpList_q (by rfl) (.bool true) ?he ?_
  case he => (first | rfl | (go_simp; (try with_reducible rfl)))
  (try simp only [Act.put, sA, sB, sC])
  refine wpList_no (by rfl) ?_
  (try simp only [Act.put, sA, sB, sC])
  refine wpList_no (by rfl) ?_
  (try simp only [Act.put, sA, sB, sC])
  refine wpList_no (by rfl) ?_
  (try simp only [Act.put, sA, sB, sC])
  refine wpList_q (by rfl) (.bool true) ?he ?_
  case he => (first | rfl | (go_simp; (try with_reducible rfl)))
  (try simp only [Act.put, sA, sB, sC])
  refine wpList_q (by rfl) (.bool true) ?he ?_
  case he => (first | rfl | (go_simp; (try with_reducible rfl)))
  (try simp only [Act.put, sA, sB, sC])
  refine wpList_no (by rfl) ?_
  (try simp only [Act.put, sA, sB, sC])
  refine wpList_no (by rfl) ?_
  (try simp only [Act.put, sA, sB, sC])
  refine wpList_no (by rfl) ?_
  (try simp only [Act.put, sA, sB, sC])
  refine wpList_no (by rfl) ?_
  (try simp only [Act.put, sA, sB, sC])
  refine wpList_q (by rfl) (.bool true) ?he ?_
  case he => (first | rfl | (go_simp; (try with_reducible rfl)))
  (try simp only [Act.put, sA, sB, sC])
  refine wpList_q (by rfl) (.bool true) ?he ?_
  case he => (first | rfl | (go_simp; (try with_reducible rfl)))
  (try simp only [Act.put, sA, sB, sC])
  refine wpList_no (by rfl) ?_
  (try simp only [Act.put, sA, sB, sC])
  refine wpList_no (by rfl) ?_
  (try simp only [Act.put, sA, sB, sC])
  refine wpList_no (by rfl) ?_
  (try simp only [Act.put, sA, sB, sC])
  refine wpList_no (by rfl) ?_
  (try simp only [Act.put, sA, sB, sC])
  refine wpList_q (by rfl) (.bool true) ?he ?_
  case he => (first | rfl | (go_simp; (try with_reducible rfl)))
  (try simp only [Act.put, sA, sB, sC])
  refine wpList_q (by rfl) (.bool true) ?he ?_
  case he => (first | rfl | (go_simp; (try with_reducible rfl)))
  (try simp only [Act.put, sA, sB, sC])
  refine wpList_no (by rfl) ?_
  (try simp only [Act.put, sA, sB, sC])
  refine wpList_no (by rfl) ?_
  (try simp only [Act.put, sA, sB, sC])
  refine wpList_no (by rfl) ?_
  (try simp only [Act.put, sA, sB, sC])
  refine wpList_no (by rfl) ?_
  (try simp only [Act.put, sA, sB, sC])
  refine wpList_q (by rfl) (.bool true) ?he ?_
  case he => (first | rfl | (go_simp; (try with_reducible rfl)))
  (try simp only [Act.put, sA, sB, sC])
  refine wpList_q (by rfl) (.bool true) ?he ?_
  case he => (first | rfl | (go_simp; (try with_reducible rfl)))
  (try simp only [Act.put, sA, sB, sC])
  refine wpList_no (by rfl) ?_
  (try simp only [Act.put, sA, sB, sC])
  refine wpList_no (by rfl) ?_
  (try simp only [Act.put, sA, sB, sC])
  refine wpList_no (by rfl) ?_
  (try simp only [Act.put, sA, sB, sC])
  refine wpList_no (by rfl) ?_
  (try simp only [Act.put, sA, sB, sC])
  refine wpList_q (by rfl) (.bool true) ?he ?_
  case he => (first | rfl | (go_simp; (try with_reducible rfl)))
  (try simp only [Act.put, sA, sB, sC])
  refine wpList_nil ?_
  go_upto_region 2 with fail
  refine wp_region_lit ?_
  refine wpList_wp (by rfl) (fun K hK => ?_)
  (try go_simp)
  refine (ans _).mono ?_
  rintro e w2 ⟨rfl, hb⟩
  (try go_wp2_with fail)
  refine hK.out _ _ ?_
  clear hK K
  (try simp only [Act.put, sA, sB, sC])
  have HS2 := Lib.hid (Since.trans HS1.out hb)
  have HBC2 := Lib.hid (keep_blk hb HBC1.out)
  have HBL2 := Lib.hid (keep_blk hb HBL1.out)
  have HBX2 := Lib.hid (keep_blk hb HBX1.out)
  clear HS1 HBC1 HBL1 HBX1
  clear hb
  refine wpList_q (by rfl) (.bool true) ?he ?_
  case he => (first | rfl | (go_simp; (try with_reducible rfl)))
  (try simp only [Act.put, sA, sB, sC])
  refine wpList_nil ?_
  (try go_wp2_with fail)
  go_ret
  exact ⟨rfl, HS2.out⟩
set_option maxHeartbeats 4000000 in
theorem enX2 (c : CfgV) (l : LeaseV) (x : CarV) (a3 : Option Addr) (len3 cap3 : Nat) (gs : Nat → MsgV) (w : World) (hG : Msgs w a3 len3 gs) (hl3 : len3 ≤ 9223372036854775807) (h0 : ¬ (30 < c.ho)) (h1 : ¬ (5 < c.re)) (h2 : 10 < c.fl) : Calls Try.prog 14 #[.agg #[.int .i64 c.ca, .int .i64 c.fl, .int .i64 c.ft, .int .i64 c.se, .int .i64 c.dr, .int .i64 c.dw, .int .i64 c.ho, .int .i64 c.re, .int .i64 c.yi, .int .i64 c.qu, .int .i64 c.qo, .int .i64 c.lo, .int .i64 c.sl, .int .i64 c.rt, .int .i64 c.cp, .int .i64 c.tr, .int .i64 c.de, .int .i64 c.wi], .agg #[.int .i64 l.se, .int .i64 l.fl, .int .i64 l.fm, .int .i64 l.to, .int .i64 l.ma, .int .i64 l.ca, .int .i64 l.ph, .int .i64 l.un, .int .i64 l.re, .int .i64 l.gr], .agg #[.int .i64 x.ds, .int .i64 x.da, .int .i64 x.un, .int .i64 x.wy, .int .i64 x.ti, .int .i64 x.ju, .int .i64 x.lo, .bool x.bl, .bool x.br, .int .i64 x.mo, .int .i64 x.ta, .bool x.ho, .int .u64 x.sp, .int .u64 x.su, .int .u64 x.sd], .slice a3 len3 cap3] w fun e w' => e = .returned (.bool true) ∧ Since w w' := by
  have hlI3 : (len3 : Int) ≤ 9223372036854775807 := by omega
  have HGV := Lib.hid hG
  clear hG
  have H0 := Lib.hid h0
  clear h0
  have H1 := Lib.hid h1
  clear h1
  have H2 := Lib.hid h2
  clear h2
  go_enter Try.func14, Try.ntmps14
  go_upto_region 1 with fail
  obtain ⟨w1, hw1⟩ : ∃ w1, w1 = (((w.alloc (.cells #[.int .i64 c.ca, .int .i64 c.fl, .int .i64 c.ft, .int .i64 c.se, .int .i64 c.dr, .int .i64 c.dw, .int .i64 c.ho, .int .i64 c.re, .int .i64 c.yi, .int .i64 c.qu, .int .i64 c.qo, .int .i64 c.lo, .int .i64 c.sl, .int .i64 c.rt, .int .i64 c.cp, .int .i64 c.tr, .int .i64 c.de, .int .i64 c.wi] 23)).alloc (.cells #[.int .i64 l.se, .int .i64 l.fl, .int .i64 l.fm, .int .i64 l.to, .int .i64 l.ma, .int .i64 l.ca, .int .i64 l.ph, .int .i64 l.un, .int .i64 l.re, .int .i64 l.gr] 56)).alloc (.cells #[.int .i64 x.ds, .int .i64 x.da, .int .i64 x.un, .int .i64 x.wy, .int .i64 x.ti, .int .i64 x.ju, .int .i64 x.lo, .bool x.bl, .bool x.br, .int .i64 x.mo, .int .i64 x.ta, .bool x.ho, .int .u64 x.sp, .int .u64 x.su, .int .u64 x.sd] 76)) := ⟨_, rfl⟩
  rw [← hw1]
  have HBC1 := Lib.hid (show Blk w1 (w.heap.size) 23 (cfgA c) by rw [hw1]; exact Blk.alloc (Blk.alloc (Blk.at_ (by (try simp only [size_alloc])) _ _) _) _)
  have HBL1 := Lib.hid (show Blk w1 (w.heap.size + 1) 56 (leaA l) by rw [hw1]; exact Blk.alloc (Blk.at_ (by (try simp only [size_alloc])) _ _) _)
  have HBX1 := Lib.hid (show Blk w1 (w.heap.size + 1 + 1) 76 (carA x) by rw [hw1]; exact Blk.at_ (by (try simp only [size_alloc])) _ _)
  have HS1 := Lib.hid (show Since w w1 by rw [hw1]; exact Since.alloc (Since.alloc (Since.alloc (Since.refl w) _) _) _)
  have hNE : w.heap.size ≤ w.heap.size ∧ w.heap.size < w.heap.size + 1 ∧ w.heap.size + 1 < w.heap.size + 1 + 1 := by omega
  have HNE := Lib.hid hNE
  clear hNE hw1
  generalize w.heap.size + 1 + 1 = bX at *
  generalize w.heap.size + 1 = bL at *
  have HNE3 := Lib.hid (show w.heap.size ≤ w.heap.size ∧ w.heap.size < bL ∧ bL < bX from HNE.out)
  clear HNE
  refine wp_region_lit ?_
  refine wpList_q (by rfl) (.pointer (some ⟨w.heap.size, 6, none⟩)) ?he ?_
  case he => (first | rfl | (go_simp; (try with_reducible rfl)))
  (try simp only [Act.put, sA, sB, sC])
  refine wpList_q (by rfl) (.int .i64 c.ho) ?he ?_
  case he => exact exec_cell 3 _ _ HBC1.out rfl rfl rfl Try.underlying3 rfl
  (try simp only [Act.put, sA, sB, sC])
  refine wpList_q (by rfl) (.bool false) ?he ?_
  case he => (have hq := H0.out; go_simp; (try with_reducible rfl))
  (try simp only [Act.put, sA, sB, sC])
  refine wpList_q (by rfl) (.bool false) ?he ?_
  case he => (first | rfl | (go_simp; (try with_reducible rfl)))
  (try simp only [Act.put, sA, sB, sC])
  refine wpList_q (by rfl) (.pointer (some ⟨w.heap.size, 7, none⟩)) ?he ?_
  case he => (first | rfl | (go_simp; (try with_reducible rfl)))
  (try simp only [Act.put, sA, sB, sC])
  refine wpList_q (by rfl) (.int .i64 c.re) ?he ?_
  case he => exact exec_cell 3 _ _ HBC1.out rfl rfl rfl Try.underlying3 rfl
  (try simp only [Act.put, sA, sB, sC])
  refine wpList_q (by rfl) (.bool false) ?he ?_
  case he => (have hq := H1.out; go_simp; (try with_reducible rfl))
  (try simp only [Act.put, sA, sB, sC])
  refine wpList_q (by rfl) (.bool false) ?he ?_
  case he => (first | rfl | (go_simp; (try with_reducible rfl)))
  (try simp only [Act.put, sA, sB, sC])
  refine wpList_q (by rfl) (.bool false) ?he ?_
  case he => (first | rfl | (go_simp; (try with_reducible rfl)))
  (try simp only [Act.put, sA, sB, sC])
  refine wpList_q (by rfl) (.pointer (some ⟨w.heap.size, 1, none⟩)) ?he ?_
  case he => (first | rfl | (go_simp; (try with_reducible rfl)))
  (try simp only [Act.put, sA, sB, sC])
  refine wpList_q (by rfl) (.int .i64 c.fl) ?he ?_
  case he => exact exec_cell 3 _ _ HBC1.out rfl rfl rfl Try.underlying3 rfl
  (try simp only [Act.put, sA, sB, sC])
  refine wpList_q (by rfl) (.bool true) ?he ?_
  case he => (have hq := H2.out; go_simp; (try with_reducible rfl))
  (try simp only [Act.put, sA, sB, sC])
  refine wpList_q (by rfl) (.bool true) ?he ?_
  case he => (first | rfl | (go_simp; (try with_reducible rfl)))
  (try simp only [Act.put, sA, sB, sC])
  refine wpList_q (by rfl) (.bool true) ?he ?_
  case he => (first | rfl | (go_simp; (try with_reducible rfl)))
  (try simp only [Act.put, sA, sB, sC])
  refine wpList_no (by rfl) ?_
  (try simp only [Act.put, sA, sB, sC])
  refine wpList_no (by rfl) ?_
  (try simp only [Act.put, sA, sB, sC])
  refine wpList_no (by rfl) ?_
  (try simp only [Act.put, sA, sB, sC])
  refine wpList_q (by rfl) (.bool true) ?he ?_
  case he => (first | rfl | (go_simp; (try with_reducible rfl)))
  (try simp only [Act.put, sA, sB, sC])
  refine wpList_q (by rfl) (.bool true) ?he ?_
  case he => (first | rfl | (go_simp; (try with_reducible rfl)))
  (try simp only [Act.put, sA, sB, sC])
  refine wpList_no (by rfl) ?_
  (try simp only [Act.put, sA, sB, sC])
  refine wpList_no (by rfl) ?_
  (try simp only [Act.put, sA, sB, sC])
  refine wpList_no (by rfl) ?_
  (try simp only [Act.put, sA, sB, sC])
  refine wpList_no (by rfl) ?_
  (try simp only [Act.put, sA, sB, sC])
  refine wpList_q (by rfl) (.bool true) ?he ?_
  case he => (first | rfl | (go_simp; (try with_reducible rfl)))
  (try simp only [Act.put, sA, sB, sC])
  refine wpList_q (by rfl) (.bool true) ?he ?_
  case he => (first | rfl | (go_simp; (try with_reducible rfl)))
  (try simp only [Act.put, sA, sB, sC])
  refine wpList_no (by rfl) ?_
  (try simp only [Act.put, sA, sB, sC])
  refine wpList_no (by rfl) ?_
  (try simp only [Act.put, sA, sB, sC])
  refine wpList_no (by rfl) ?_
  (try simp only [Act.put, sA, sB, sC])
  refine wpList_no (by rfl) ?_
  (try simp only [Act.put, sA, sB, sC])
  refine wpList_q (by rfl) (.bool true) ?he ?_
  case he => (first | rfl | (go_simp; (try with_reducible rfl)))
  (try simp only [Act.put, sA, sB, sC])
  refine wpList_q (by rfl) (.bool true) ?he ?_
  case he => (first | rfl | (go_simp; (try with_reducible rfl)))
  (try simp only [Act.put, sA, sB, sC])
  refine wpList_no (by rfl) ?_
  (try simp only [Act.put, sA, sB, sC])
  refine wpList_no (by rfl) ?_
  (try simp only [Act.put, sA, sB, sC])
  refine wpList_no (by rfl) ?_
  (try simp only [Act.put, sA, sB, sC])
  refine wpList_no (by rfl) ?_
  (try simp only [Act.put, sA, sB, sC])
  refine wpList_q (by rfl) (.bool true) ?he ?_
  case he => (first | rfl | (go_simp; (try with_reducible rfl)))
  (try simp only [Act.put, sA, sB, sC])
  refine wpList_q (by rfl) (.bool true) ?he ?_
  case he => (first | rfl | (go_simp; (try with_reducible rfl)))
  (try simp only [Act.put, sA, sB, sC])
  refine wpList_no (by rfl) ?_
  (try simp only [Act.put, sA, sB, sC])
  refine wpList_no (by rfl) ?_
  (try simp only [Act.put, sA, sB, sC])
  refine wpList_no (by rfl) ?_
  (try simp only [Act.put, sA, sB, sC])
  refine wpList_no (by rfl) ?_
  (try simp only [Act.put, sA, sB, sC])
  refine wpList_q (by rfl) (.bool true) ?he ?_
  case he => (first | rfl | (go_simp; (try with_reducible rfl)))
  (try simp only [Act.put, sA, sB, sC])
  refine wpList_nil ?_
  go_upto_region 2 with fail
  refine wp_region_lit ?_
  refine wpList_wp (by rfl) (fun K hK => ?_)
  (try go_simp)
  refine (ans _).mono ?_
  rintro e w2 ⟨rfl, hb⟩
  (try go_wp2_with fail)
  refine hK.out _ _ ?_
  clear hK K
  (try simp only [Act.put, sA, sB, sC])
  have HS2 := Lib.hid (Since.trans HS1.out hb)
  have HBC2 := Lib.hid (keep_blk hb HBC1.out)
  have HBL2 := Lib.hid (keep_blk hb HBL1.out)
  have HBX2 := Lib.hid (keep_blk hb HBX1.out)
  clear HS1 HBC1 HBL1 HBX1
  clear hb
  refine wpList_q (by rfl) (.bool true) ?he ?_
  case he => (first | rfl | (go_simp; (try with_reducible rfl)))
  (try simp only [Act.put, sA, sB, sC])
  refine wpList_nil ?_
  (try go_wp2_with fail)
  go_ret
  exact ⟨rfl, HS2.out⟩
set_option maxHeartbeats 4000000 in
theorem enX3 (c : CfgV) (l : LeaseV) (x : CarV) (a3 : Option Addr) (len3 cap3 : Nat) (gs : Nat → MsgV) (w : World) (hG : Msgs w a3 len3 gs) (hl3 : len3 ≤ 9223372036854775807) (h0 : ¬ (30 < c.ho)) (h1 : ¬ (5 < c.re)) (h2 : ¬ (10 < c.fl)) (h3 : 5 < c.dr) : Calls Try.prog 14 #[.agg #[.int .i64 c.ca, .int .i64 c.fl, .int .i64 c.ft, .int .i64 c.se, .int .i64 c.dr, .int .i64 c.dw, .int .i64 c.ho, .int .i64 c.re, .int .i64 c.yi, .int .i64 c.qu, .int .i64 c.qo, .int .i64 c.lo, .int .i64 c.sl, .int .i64 c.rt, .int .i64 c.cp, .int .i64 c.tr, .int .i64 c.de, .int .i64 c.wi], .agg #[.int .i64 l.se, .int .i64 l.fl, .int .i64 l.fm, .int .i64 l.to, .int .i64 l.ma, .int .i64 l.ca, .int .i64 l.ph, .int .i64 l.un, .int .i64 l.re, .int .i64 l.gr], .agg #[.int .i64 x.ds, .int .i64 x.da, .int .i64 x.un, .int .i64 x.wy, .int .i64 x.ti, .int .i64 x.ju, .int .i64 x.lo, .bool x.bl, .bool x.br, .int .i64 x.mo, .int .i64 x.ta, .bool x.ho, .int .u64 x.sp, .int .u64 x.su, .int .u64 x.sd], .slice a3 len3 cap3] w fun e w' => e = .returned (.bool true) ∧ Since w w' := by
  have hlI3 : (len3 : Int) ≤ 9223372036854775807 := by omega
  have HGV := Lib.hid hG
  clear hG
  have H0 := Lib.hid h0
  clear h0
  have H1 := Lib.hid h1
  clear h1
  have H2 := Lib.hid h2
  clear h2
  have H3 := Lib.hid h3
  clear h3
  go_enter Try.func14, Try.ntmps14
  go_upto_region 1 with fail
  obtain ⟨w1, hw1⟩ : ∃ w1, w1 = (((w.alloc (.cells #[.int .i64 c.ca, .int .i64 c.fl, .int .i64 c.ft, .int .i64 c.se, .int .i64 c.dr, .int .i64 c.dw, .int .i64 c.ho, .int .i64 c.re, .int .i64 c.yi, .int .i64 c.qu, .int .i64 c.qo, .int .i64 c.lo, .int .i64 c.sl, .int .i64 c.rt, .int .i64 c.cp, .int .i64 c.tr, .int .i64 c.de, .int .i64 c.wi] 23)).alloc (.cells #[.int .i64 l.se, .int .i64 l.fl, .int .i64 l.fm, .int .i64 l.to, .int .i64 l.ma, .int .i64 l.ca, .int .i64 l.ph, .int .i64 l.un, .int .i64 l.re, .int .i64 l.gr] 56)).alloc (.cells #[.int .i64 x.ds, .int .i64 x.da, .int .i64 x.un, .int .i64 x.wy, .int .i64 x.ti, .int .i64 x.ju, .int .i64 x.lo, .bool x.bl, .bool x.br, .int .i64 x.mo, .int .i64 x.ta, .bool x.ho, .int .u64 x.sp, .int .u64 x.su, .int .u64 x.sd] 76)) := ⟨_, rfl⟩
  rw [← hw1]
  have HBC1 := Lib.hid (show Blk w1 (w.heap.size) 23 (cfgA c) by rw [hw1]; exact Blk.alloc (Blk.alloc (Blk.at_ (by (try simp only [size_alloc])) _ _) _) _)
  have HBL1 := Lib.hid (show Blk w1 (w.heap.size + 1) 56 (leaA l) by rw [hw1]; exact Blk.alloc (Blk.at_ (by (try simp only [size_alloc])) _ _) _)
  have HBX1 := Lib.hid (show Blk w1 (w.heap.size + 1 + 1) 76 (carA x) by rw [hw1]; exact Blk.at_ (by (try simp only [size_alloc])) _ _)
  have HS1 := Lib.hid (show Since w w1 by rw [hw1]; exact Since.alloc (Since.alloc (Since.alloc (Since.refl w) _) _) _)
  have hNE : w.heap.size ≤ w.heap.size ∧ w.heap.size < w.heap.size + 1 ∧ w.heap.size + 1 < w.heap.size + 1 + 1 := by omega
  have HNE := Lib.hid hNE
  clear hNE hw1
  generalize w.heap.size + 1 + 1 = bX at *
  generalize w.heap.size + 1 = bL at *
  have HNE3 := Lib.hid (show w.heap.size ≤ w.heap.size ∧ w.heap.size < bL ∧ bL < bX from HNE.out)
  clear HNE
  refine wp_region_lit ?_
  refine wpList_q (by rfl) (.pointer (some ⟨w.heap.size, 6, none⟩)) ?he ?_
  case he => (first | rfl | (go_simp; (try with_reducible rfl)))
  (try simp only [Act.put, sA, sB, sC])
  refine wpList_q (by rfl) (.int .i64 c.ho) ?he ?_
  case he => exact exec_cell 3 _ _ HBC1.out rfl rfl rfl Try.underlying3 rfl
  (try simp only [Act.put, sA, sB, sC])
  refine wpList_q (by rfl) (.bool false) ?he ?_
  case he => (have hq := H0.out; go_simp; (try with_reducible rfl))
  (try simp only [Act.put, sA, sB, sC])
  refine wpList_q (by rfl) (.bool false) ?he ?_
  case he => (first | rfl | (go_simp; (try with_reducible rfl)))
  (try simp only [Act.put, sA, sB, sC])
  refine wpList_q (by rfl) (.pointer (some ⟨w.heap.size, 7, none⟩)) ?he ?_
  case he => (first | rfl | (go_simp; (try with_reducible rfl)))
  (try simp only [Act.put, sA, sB, sC])
  refine wpList_q (by rfl) (.int .i64 c.re) ?he ?_
  case he => exact exec_cell 3 _ _ HBC1.out rfl rfl rfl Try.underlying3 rfl
  (try simp only [Act.put, sA, sB, sC])
  refine wpList_q (by rfl) (.bool false) ?he ?_
  case he => (have hq := H1.out; go_simp; (try with_reducible rfl))
  (try simp only [Act.put, sA, sB, sC])
  refine wpList_q (by rfl) (.bool false) ?he ?_
  case he => (first | rfl | (go_simp; (try with_reducible rfl)))
  (try simp only [Act.put, sA, sB, sC])
  refine wpList_q (by rfl) (.bool false) ?he ?_
  case he => (first | rfl | (go_simp; (try with_reducible rfl)))
  (try simp only [Act.put, sA, sB, sC])
  refine wpList_q (by rfl) (.pointer (some ⟨w.heap.size, 1, none⟩)) ?he ?_
  case he => (first | rfl | (go_simp; (try with_reducible rfl)))
  (try simp only [Act.put, sA, sB, sC])
  refine wpList_q (by rfl) (.int .i64 c.fl) ?he ?_
  case he => exact exec_cell 3 _ _ HBC1.out rfl rfl rfl Try.underlying3 rfl
  (try simp only [Act.put, sA, sB, sC])
  refine wpList_q (by rfl) (.bool false) ?he ?_
  case he => (have hq := H2.out; go_simp; (try with_reducible rfl))
  (try simp only [Act.put, sA, sB, sC])
  refine wpList_q (by rfl) (.bool false) ?he ?_
  case he => (first | rfl | (go_simp; (try with_reducible rfl)))
  (try simp only [Act.put, sA, sB, sC])
  refine wpList_q (by rfl) (.bool false) ?he ?_
  case he => (first | rfl | (go_simp; (try with_reducible rfl)))
  (try simp only [Act.put, sA, sB, sC])
  refine wpList_q (by rfl) (.pointer (some ⟨w.heap.size, 4, none⟩)) ?he ?_
  case he => (first | rfl | (go_simp; (try with_reducible rfl)))
  (try simp only [Act.put, sA, sB, sC])
  refine wpList_q (by rfl) (.int .i64 c.dr) ?he ?_
  case he => exact exec_cell 3 _ _ HBC1.out rfl rfl rfl Try.underlying3 rfl
  (try simp only [Act.put, sA, sB, sC])
  refine wpList_q (by rfl) (.bool true) ?he ?_
  case he => (have hq := H3.out; go_simp; (try with_reducible rfl))
  (try simp only [Act.put, sA, sB, sC])
  refine wpList_q (by rfl) (.bool true) ?he ?_
  case he => (first | rfl | (go_simp; (try with_reducible rfl)))
  (try simp only [Act.put, sA, sB, sC])
  refine wpList_q (by rfl) (.bool true) ?he ?_
  case he => (first | rfl | (go_simp; (try with_reducible rfl)))
  (try simp only [Act.put, sA, sB, sC])
  refine wpList_no (by rfl) ?_
  (try simp only [Act.put, sA, sB, sC])
  refine wpList_no (by rfl) ?_
  (try simp only [Act.put, sA, sB, sC])
  refine wpList_no (by rfl) ?_
  (try simp only [Act.put, sA, sB, sC])
  refine wpList_no (by rfl) ?_
  (try simp only [Act.put, sA, sB, sC])
  refine wpList_q (by rfl) (.bool true) ?he ?_
  case he => (first | rfl | (go_simp; (try with_reducible rfl)))
  (try simp only [Act.put, sA, sB, sC])
  refine wpList_q (by rfl) (.bool true) ?he ?_
  case he => (first | rfl | (go_simp; (try with_reducible rfl)))
  (try simp only [Act.put, sA, sB, sC])
  refine wpList_no (by rfl) ?_
  (try simp only [Act.put, sA, sB, sC])
  refine wpList_no (by rfl) ?_
  (try simp only [Act.put, sA, sB, sC])
  refine wpList_no (by rfl) ?_
  (try simp only [Act.put, sA, sB, sC])
  refine wpList_no (by rfl) ?_
  (try simp only [Act.put, sA, sB, sC])
  refine wpList_q (by rfl) (.bool true) ?he ?_
  case he => (first | rfl | (go_simp; (try with_reducible rfl)))
  (try simp only [Act.put, sA, sB, sC])
  refine wpList_q (by rfl) (.bool true) ?he ?_
  case he => (first | rfl | (go_simp; (try with_reducible rfl)))
  (try simp only [Act.put, sA, sB, sC])
  refine wpList_no (by rfl) ?_
  (try simp only [Act.put, sA, sB, sC])
  refine wpList_no (by rfl) ?_
  (try simp only [Act.put, sA, sB, sC])
  refine wpList_no (by rfl) ?_
  (try simp only [Act.put, sA, sB, sC])
  refine wpList_no (by rfl) ?_
  (try simp only [Act.put, sA, sB, sC])
  refine wpList_q (by rfl) (.bool true) ?he ?_
  case he => (first | rfl | (go_simp; (try with_reducible rfl)))
  (try simp only [Act.put, sA, sB, sC])
  refine wpList_q (by rfl) (.bool true) ?he ?_
  case he => (first | rfl | (go_simp; (try with_reducible rfl)))
  (try simp only [Act.put, sA, sB, sC])
  refine wpList_no (by rfl) ?_
  (try simp only [Act.put, sA, sB, sC])
  refine wpList_no (by rfl) ?_
  (try simp only [Act.put, sA, sB, sC])
  refine wpList_no (by rfl) ?_
  (try simp only [Act.put, sA, sB, sC])
  refine wpList_no (by rfl) ?_
  (try simp only [Act.put, sA, sB, sC])
  refine wpList_q (by rfl) (.bool true) ?he ?_
  case he => (first | rfl | (go_simp; (try with_reducible rfl)))
  (try simp only [Act.put, sA, sB, sC])
  refine wpList_nil ?_
  go_upto_region 2 with fail
  refine wp_region_lit ?_
  refine wpList_wp (by rfl) (fun K hK => ?_)
  (try go_simp)
  refine (ans _).mono ?_
  rintro e w2 ⟨rfl, hb⟩
  (try go_wp2_with fail)
  refine hK.out _ _ ?_
  clear hK K
  (try simp only [Act.put, sA, sB, sC])
  have HS2 := Lib.hid (Since.trans HS1.out hb)
  have HBC2 := Lib.hid (keep_blk hb HBC1.out)
  have HBL2 := Lib.hid (keep_blk hb HBL1.out)
  have HBX2 := Lib.hid (keep_blk hb HBX1.out)
  clear HS1 HBC1 HBL1 HBX1
  clear hb
  refine wpList_q (by rfl) (.bool true) ?he ?_
  case he => (first | rfl | (go_simp; (try with_reducible rfl)))
  (try simp only [Act.put, sA, sB, sC])
  refine wpList_nil ?_
  (try go_wp2_with fail)
  go_ret
  exact ⟨rfl, HS2.out⟩
set_option maxHeartbeats 4000000 in
theorem enX4 (c : CfgV) (l : LeaseV) (x : CarV) (a3 : Option Addr) (len3 cap3 : Nat) (gs : Nat → MsgV) (w : World) (hG : Msgs w a3 len3 gs) (hl3 : len3 ≤ 9223372036854775807) (h0 : ¬ (30 < c.ho)) (h1 : ¬ (5 < c.re)) (h2 : ¬ (10 < c.fl)) (h3 : ¬ (5 < c.dr)) (h4 : l.fm < 0) : Calls Try.prog 14 #[.agg #[.int .i64 c.ca, .int .i64 c.fl, .int .i64 c.ft, .int .i64 c.se, .int .i64 c.dr, .int .i64 c.dw, .int .i64 c.ho, .int .i64 c.re, .int .i64 c.yi, .int .i64 c.qu, .int .i64 c.qo, .int .i64 c.lo, .int .i64 c.sl, .int .i64 c.rt, .int .i64 c.cp, .int .i64 c.tr, .int .i64 c.de, .int .i64 c.wi], .agg #[.int .i64 l.se, .int .i64 l.fl, .int .i64 l.fm, .int .i64 l.to, .int .i64 l.ma, .int .i64 l.ca, .int .i64 l.ph, .int .i64 l.un, .int .i64 l.re, .int .i64 l.gr], .agg #[.int .i64 x.ds, .int .i64 x.da, .int .i64 x.un, .int .i64 x.wy, .int .i64 x.ti, .int .i64 x.ju, .int .i64 x.lo, .bool x.bl, .bool x.br, .int .i64 x.mo, .int .i64 x.ta, .bool x.ho, .int .u64 x.sp, .int .u64 x.su, .int .u64 x.sd], .slice a3 len3 cap3] w fun e w' => e = .returned (.bool true) ∧ Since w w' := by
  have hlI3 : (len3 : Int) ≤ 9223372036854775807 := by omega
  have HGV := Lib.hid hG
  clear hG
  have H0 := Lib.hid h0
  clear h0
  have H1 := Lib.hid h1
  clear h1
  have H2 := Lib.hid h2
  clear h2
  have H3 := Lib.hid h3
  clear h3
  have H4 := Lib.hid h4
  clear h4
  go_enter Try.func14, Try.ntmps14
  go_upto_region 1 with fail
  obtain ⟨w1, hw1⟩ : ∃ w1, w1 = (((w.alloc (.cells #[.int .i64 c.ca, .int .i64 c.fl, .int .i64 c.ft, .int .i64 c.se, .int .i64 c.dr, .int .i64 c.dw, .int .i64 c.ho, .int .i64 c.re, .int .i64 c.yi, .int .i64 c.qu, .int .i64 c.qo, .int .i64 c.lo, .int .i64 c.sl, .int .i64 c.rt, .int .i64 c.cp, .int .i64 c.tr, .int .i64 c.de, .int .i64 c.wi] 23)).alloc (.cells #[.int .i64 l.se, .int .i64 l.fl, .int .i64 l.fm, .int .i64 l.to, .int .i64 l.ma, .int .i64 l.ca, .int .i64 l.ph, .int .i64 l.un, .int .i64 l.re, .int .i64 l.gr] 56)).alloc (.cells #[.int .i64 x.ds, .int .i64 x.da, .int .i64 x.un, .int .i64 x.wy, .int .i64 x.ti, .int .i64 x.ju, .int .i64 x.lo, .bool x.bl, .bool x.br, .int .i64 x.mo, .int .i64 x.ta, .bool x.ho, .int .u64 x.sp, .int .u64 x.su, .int .u64 x.sd] 76)) := ⟨_, rfl⟩
  rw [← hw1]
  have HBC1 := Lib.hid (show Blk w1 (w.heap.size) 23 (cfgA c) by rw [hw1]; exact Blk.alloc (Blk.alloc (Blk.at_ (by (try simp only [size_alloc])) _ _) _) _)
  have HBL1 := Lib.hid (show Blk w1 (w.heap.size + 1) 56 (leaA l) by rw [hw1]; exact Blk.alloc (Blk.at_ (by (try simp only [size_alloc])) _ _) _)
  have HBX1 := Lib.hid (show Blk w1 (w.heap.size + 1 + 1) 76 (carA x) by rw [hw1]; exact Blk.at_ (by (try simp only [size_alloc])) _ _)
  have HS1 := Lib.hid (show Since w w1 by rw [hw1]; exact Since.alloc (Since.alloc (Since.alloc (Since.refl w) _) _) _)
  have hNE : w.heap.size ≤ w.heap.size ∧ w.heap.size < w.heap.size + 1 ∧ w.heap.size + 1 < w.heap.size + 1 + 1 := by omega
  have HNE := Lib.hid hNE
  clear hNE hw1
  generalize w.heap.size + 1 + 1 = bX at *
  generalize w.heap.size + 1 = bL at *
  have HNE3 := Lib.hid (show w.heap.size ≤ w.heap.size ∧ w.heap.size < bL ∧ bL < bX from HNE.out)
  clear HNE
  refine wp_region_lit ?_
  refine wpList_q (by rfl) (.pointer (some ⟨w.heap.size, 6, none⟩)) ?he ?_
  case he => (first | rfl | (go_simp; (try with_reducible rfl)))
  (try simp only [Act.put, sA, sB, sC])
  refine wpList_q (by rfl) (.int .i64 c.ho) ?he ?_
  case he => exact exec_cell 3 _ _ HBC1.out rfl rfl rfl Try.underlying3 rfl
  (try simp only [Act.put, sA, sB, sC])
  refine wpList_q (by rfl) (.bool false) ?he ?_
  case he => (have hq := H0.out; go_simp; (try with_reducible rfl))
  (try simp only [Act.put, sA, sB, sC])
  refine wpList_q (by rfl) (.bool false) ?he ?_
  case he => (first | rfl | (go_simp; (try with_reducible rfl)))
  (try simp only [Act.put, sA, sB, sC])
  refine wpList_q (by rfl) (.pointer (some ⟨w.heap.size, 7, none⟩)) ?he ?_
  case he => (first | rfl | (go_simp; (try with_reducible rfl)))
  (try simp only [Act.put, sA, sB, sC])
  refine wpList_q (by rfl) (.int .i64 c.re) ?he ?_
  case he => exact exec_cell 3 _ _ HBC1.out rfl rfl rfl Try.underlying3 rfl
  (try simp only [Act.put, sA, sB, sC])
  refine wpList_q (by rfl) (.bool false) ?he ?_
  case he => (have hq := H1.out; go_simp; (try with_reducible rfl))
  (try simp only [Act.put, sA, sB, sC])
  refine wpList_q (by rfl) (.bool false) ?he ?_
  case he => (first | rfl | (go_simp; (try with_reducible rfl)))
  (try simp only [Act.put, sA, sB, sC])
  refine wpList_q (by rfl) (.bool false) ?he ?_
  case he => (first | rfl | (go_simp; (try with_reducible rfl)))
  (try simp only [Act.put, sA, sB, sC])
  refine wpList_q (by rfl) (.pointer (some ⟨w.heap.size, 1, none⟩)) ?he ?_
  case he => (first | rfl | (go_simp; (try with_reducible rfl)))
  (try simp only [Act.put, sA, sB, sC])
  refine wpList_q (by rfl) (.int .i64 c.fl) ?he ?_
  case he => exact exec_cell 3 _ _ HBC1.out rfl rfl rfl Try.underlying3 rfl
  (try simp only [Act.put, sA, sB, sC])
  refine wpList_q (by rfl) (.bool false) ?he ?_
  case he => (have hq := H2.out; go_simp; (try with_reducible rfl))
  (try simp only [Act.put, sA, sB, sC])
  refine wpList_q (by rfl) (.bool false) ?he ?_
  case he => (first | rfl | (go_simp; (try with_reducible rfl)))
  (try simp only [Act.put, sA, sB, sC])
  refine wpList_q (by rfl) (.bool false) ?he ?_
  case he => (first | rfl | (go_simp; (try with_reducible rfl)))
  (try simp only [Act.put, sA, sB, sC])
  refine wpList_q (by rfl) (.pointer (some ⟨w.heap.size, 4, none⟩)) ?he ?_
  case he => (first | rfl | (go_simp; (try with_reducible rfl)))
  (try simp only [Act.put, sA, sB, sC])
  refine wpList_q (by rfl) (.int .i64 c.dr) ?he ?_
  case he => exact exec_cell 3 _ _ HBC1.out rfl rfl rfl Try.underlying3 rfl
  (try simp only [Act.put, sA, sB, sC])
  refine wpList_q (by rfl) (.bool false) ?he ?_
  case he => (have hq := H3.out; go_simp; (try with_reducible rfl))
  (try simp only [Act.put, sA, sB, sC])
  refine wpList_q (by rfl) (.bool false) ?he ?_
  case he => (first | rfl | (go_simp; (try with_reducible rfl)))
  (try simp only [Act.put, sA, sB, sC])
  refine wpList_q (by rfl) (.bool false) ?he ?_
  case he => (first | rfl | (go_simp; (try with_reducible rfl)))
  (try simp only [Act.put, sA, sB, sC])
  refine wpList_q (by rfl) (.pointer (some ⟨bL, 0, none⟩)) ?he ?_
  case he => (first | rfl | (go_simp; (try with_reducible rfl)))
  (try simp only [Act.put, sA, sB, sC])
  refine wpList_q (by rfl) (.pointer (some ⟨bL, 2, none⟩)) ?he ?_
  case he => (first | rfl | (go_simp; (try with_reducible rfl)))
  (try simp only [Act.put, sA, sB, sC])
  refine wpList_q (by rfl) (.int .i64 l.fm) ?he ?_
  case he => exact exec_cell 3 _ _ HBL1.out rfl rfl rfl Try.underlying3 rfl
  (try simp only [Act.put, sA, sB, sC])
  refine wpList_q (by rfl) (.bool true) ?he ?_
  case he => (have hq := H4.out; go_simp; (try with_reducible rfl))
  (try simp only [Act.put, sA, sB, sC])
  refine wpList_q (by rfl) (.bool true) ?he ?_
  case he => (first | rfl | (go_simp; (try with_reducible rfl)))
  (try simp only [Act.put, sA, sB, sC])
  refine wpList_q (by rfl) (.bool true) ?he ?_
  case he => (first | rfl | (go_simp; (try with_reducible rfl)))
  (try simp only [Act.put, sA, sB, sC])
  refine wpList_no (by rfl) ?_
  (try simp only [Act.put, sA, sB, sC])
  refine wpList_no (by rfl) ?_
  (try simp only [Act.put, sA, sB, sC])
  refine wpList_no (by rfl) ?_
  (try simp only [Act.put, sA, sB, sC])
  refine wpList_no (by rfl) ?_
  (try simp only [Act.put, sA, sB, sC])
  refine wpList_q (by rfl) (.bool true) ?he ?_
  case he => (first | rfl | (go_simp; (try with_reducible rfl)))
  (try simp only [Act.put, sA, sB, sC])
  refine wpList_q (by rfl) (.bool true) ?he ?_
  case he => (first | rfl | (go_simp; (try with_reducible rfl)))
  (try simp only [Act.put, sA, sB, sC])
  refine wpList_no (by rfl) ?_
  (try simp only [Act.put, sA, sB, sC])
  refine wpList_no (by rfl) ?_
  (try simp only [Act.put, sA, sB, sC])
  refine wpList_no (by rfl) ?_
  (try simp only [Act.put, sA, sB, sC])
  refine wpList_no (by rfl) ?_
  (try simp only [Act.put, sA, sB, sC])
  refine wpList_q (by rfl) (.bool true) ?he ?_
  case he => (first | rfl | (go_simp; (try with_reducible rfl)))
  (try simp only [Act.put, sA, sB, sC])
  refine wpList_q (by rfl) (.bool true) ?he ?_
  case he => (first | rfl | (go_simp; (try with_reducible rfl)))
  (try simp only [Act.put, sA, sB, sC])
  refine wpList_no (by rfl) ?_
  (try simp only [Act.put, sA, sB, sC])
  refine wpList_no (by rfl) ?_
  (try simp only [Act.put, sA, sB, sC])
  refine wpList_no (by rfl) ?_
  (try simp only [Act.put, sA, sB, sC])
  refine wpList_no (by rfl) ?_
  (try simp only [Act.put, sA, sB, sC])
  refine wpList_q (by rfl) (.bool true) ?he ?_
  case he => (first | rfl | (go_simp; (try with_reducible rfl)))
  (try simp only [Act.put, sA, sB, sC])
  refine wpList_nil ?_
  go_upto_region 2 with fail
  refine wp_region_lit ?_
  refine wpList_wp (by rfl) (fun K hK => ?_)
  (try go_simp)
  refine (ans _).mono ?_
  rintro e w2 ⟨rfl, hb⟩
  (try go_wp2_with fail)
  refine hK.out _ _ ?_
  clear hK K
  (try simp only [Act.put, sA, sB, sC])
  have HS2 := Lib.hid (Since.trans HS1.out hb)
  have HBC2 := Lib.hid (keep_blk hb HBC1.out)
  have HBL2 := Lib.hid (keep_blk hb HBL1.out)
  have HBX2 := Lib.hid (keep_blk hb HBX1.out)
  clear HS1 HBC1 HBL1 HBX1
  clear hb
  refine wpList_q (by rfl) (.bool true) ?he ?_
  case he => (first | rfl | (go_simp; (try with_reducible rfl)))
  (try simp only [Act.put, sA, sB, sC])
  refine wpList_nil ?_
  (try go_wp2_with fail)
  go_ret
  exact ⟨rfl, HS2.out⟩
set_option maxHeartbeats 4000000 in
theorem enX5 (c : CfgV) (l : LeaseV) (x : CarV) (a3 : Option Addr) (len3 cap3 : Nat) (gs : Nat → MsgV) (w : World) (hG : Msgs w a3 len3 gs) (hl3 : len3 ≤ 9223372036854775807) (h0 : ¬ (30 < c.ho)) (h1 : ¬ (5 < c.re)) (h2 : ¬ (10 < c.fl)) (h3 : ¬ (5 < c.dr)) (h4 : ¬ (l.fm < 0)) (h5 : 63 < l.fm) : Calls Try.prog 14 #[.agg #[.int .i64 c.ca, .int .i64 c.fl, .int .i64 c.ft, .int .i64 c.se, .int .i64 c.dr, .int .i64 c.dw, .int .i64 c.ho, .int .i64 c.re, .int .i64 c.yi, .int .i64 c.qu, .int .i64 c.qo, .int .i64 c.lo, .int .i64 c.sl, .int .i64 c.rt, .int .i64 c.cp, .int .i64 c.tr, .int .i64 c.de, .int .i64 c.wi], .agg #[.int .i64 l.se, .int .i64 l.fl, .int .i64 l.fm, .int .i64 l.to, .int .i64 l.ma, .int .i64 l.ca, .int .i64 l.ph, .int .i64 l.un, .int .i64 l.re, .int .i64 l.gr], .agg #[.int .i64 x.ds, .int .i64 x.da, .int .i64 x.un, .int .i64 x.wy, .int .i64 x.ti, .int .i64 x.ju, .int .i64 x.lo, .bool x.bl, .bool x.br, .int .i64 x.mo, .int .i64 x.ta, .bool x.ho, .int .u64 x.sp, .int .u64 x.su, .int .u64 x.sd], .slice a3 len3 cap3] w fun e w' => e = .returned (.bool true) ∧ Since w w' := by
  have hlI3 : (len3 : Int) ≤ 9223372036854775807 := by omega
  have HGV := Lib.hid hG
  clear hG
  have H0 := Lib.hid h0
  clear h0
  have H1 := Lib.hid h1
  clear h1
  have H2 := Lib.hid h2
  clear h2
  have H3 := Lib.hid h3
  clear h3
  have H4 := Lib.hid h4
  clear h4
  have H5 := Lib.hid h5
  clear h5
  go_enter Try.func14, Try.ntmps14
  go_upto_region 1 with fail
  obtain ⟨w1, hw1⟩ : ∃ w1, w1 = (((w.alloc (.cells #[.int .i64 c.ca, .int .i64 c.fl, .int .i64 c.ft, .int .i64 c.se, .int .i64 c.dr, .int .i64 c.dw, .int .i64 c.ho, .int .i64 c.re, .int .i64 c.yi, .int .i64 c.qu, .int .i64 c.qo, .int .i64 c.lo, .int .i64 c.sl, .int .i64 c.rt, .int .i64 c.cp, .int .i64 c.tr, .int .i64 c.de, .int .i64 c.wi] 23)).alloc (.cells #[.int .i64 l.se, .int .i64 l.fl, .int .i64 l.fm, .int .i64 l.to, .int .i64 l.ma, .int .i64 l.ca, .int .i64 l.ph, .int .i64 l.un, .int .i64 l.re, .int .i64 l.gr] 56)).alloc (.cells #[.int .i64 x.ds, .int .i64 x.da, .int .i64 x.un, .int .i64 x.wy, .int .i64 x.ti, .int .i64 x.ju, .int .i64 x.lo, .bool x.bl, .bool x.br, .int .i64 x.mo, .int .i64 x.ta, .bool x.ho, .int .u64 x.sp, .int .u64 x.su, .int .u64 x.sd] 76)) := ⟨_, rfl⟩
  rw [← hw1]
  have HBC1 := Lib.hid (show Blk w1 (w.heap.size) 23 (cfgA c) by rw [hw1]; exact Blk.alloc (Blk.alloc (Blk.at_ (by (try simp only [size_alloc])) _ _) _) _)
  have HBL1 := Lib.hid (show Blk w1 (w.heap.size + 1) 56 (leaA l) by rw [hw1]; exact Blk.alloc (Blk.at_ (by (try simp only [size_alloc])) _ _) _)
  have HBX1 := Lib.hid (show Blk w1 (w.heap.size + 1 + 1) 76 (carA x) by rw [hw1]; exact Blk.at_ (by (try simp only [size_alloc])) _ _)
  have HS1 := Lib.hid (show Since w w1 by rw [hw1]; exact Since.alloc (Since.alloc (Since.alloc (Since.refl w) _) _) _)
  have hNE : w.heap.size ≤ w.heap.size ∧ w.heap.size < w.heap.size + 1 ∧ w.heap.size + 1 < w.heap.size + 1 + 1 := by omega
  have HNE := Lib.hid hNE
  clear hNE hw1
  generalize w.heap.size + 1 + 1 = bX at *
  generalize w.heap.size + 1 = bL at *
  have HNE3 := Lib.hid (show w.heap.size ≤ w.heap.size ∧ w.heap.size < bL ∧ bL < bX from HNE.out)
  clear HNE
  refine wp_region_lit ?_
  refine wpList_q (by rfl) (.pointer (some ⟨w.heap.size, 6, none⟩)) ?he ?_
  case he => (first | rfl | (go_simp; (try with_reducible rfl)))
  (try simp only [Act.put, sA, sB, sC])
  refine wpList_q (by rfl) (.int .i64 c.ho) ?he ?_
  case he => exact exec_cell 3 _ _ HBC1.out rfl rfl rfl Try.underlying3 rfl
  (try simp only [Act.put, sA, sB, sC])
  refine wpList_q (by rfl) (.bool false) ?he ?_
  case he => (have hq := H0.out; go_simp; (try with_reducible rfl))
  (try simp only [Act.put, sA, sB, sC])
  refine wpList_q (by rfl) (.bool false) ?he ?_
  case he => (first | rfl | (go_simp; (try with_reducible rfl)))
  (try simp only [Act.put, sA, sB, sC])
  refine wpList_q (by rfl) (.pointer (some ⟨w.heap.size, 7, none⟩)) ?he ?_
  case he => (first | rfl | (go_simp; (try with_reducible rfl)))
  (try simp only [Act.put, sA, sB, sC])
  refine wpList_q (by rfl) (.int .i64 c.re) ?he ?_
  case he => exact exec_cell 3 _ _ HBC1.out rfl rfl rfl Try.underlying3 rfl
  (try simp only [Act.put, sA, sB, sC])
  refine wpList_q (by rfl) (.bool false) ?he ?_
  case he => (have hq := H1.out; go_simp; (try with_reducible rfl))
  (try simp only [Act.put, sA, sB, sC])
  refine wpList_q (by rfl) (.bool false) ?he ?_
  case he => (first | rfl | (go_simp; (try with_reducible rfl)))
  (try simp only [Act.put, sA, sB, sC])
  refine wpList_q (by rfl) (.bool false) ?he ?_
  case he => (first | rfl | (go_simp; (try with_reducible rfl)))
  (try simp only [Act.put, sA, sB, sC])
  refine wpList_q (by rfl) (.pointer (some ⟨w.heap.size, 1, none⟩)) ?he ?_
  case he => (first | rfl | (go_simp; (try with_reducible rfl)))
  (try simp only [Act.put, sA, sB, sC])
  refine wpList_q (by rfl) (.int .i64 c.fl) ?he ?_
  case he => exact exec_cell 3 _ _ HBC1.out rfl rfl rfl Try.underlying3 rfl
  (try simp only [Act.put, sA, sB, sC])
  refine wpList_q (by rfl) (.bool false) ?he ?_
  case he => (have hq := H2.out; go_simp; (try with_reducible rfl))
  (try simp only [Act.put, sA, sB, sC])
  refine wpList_q (by rfl) (.bool false) ?he ?_
  case he => (first | rfl | (go_simp; (try with_reducible rfl)))
  (try simp only [Act.put, sA, sB, sC])
  refine wpList_q (by rfl) (.bool false) ?he ?_
  case he => (first | rfl | (go_simp; (try with_reducible rfl)))
  (try simp only [Act.put, sA, sB, sC])
  refine wpList_q (by rfl) (.pointer (some ⟨w.heap.size, 4, none⟩)) ?he ?_
  case he => (first | rfl | (go_simp; (try with_reducible rfl)))
  (try simp only [Act.put, sA, sB, sC])
  refine wpList_q (by rfl) (.int .i64 c.dr) ?he ?_
  case he => exact exec_cell 3 _ _ HBC1.out rfl rfl rfl Try.underlying3 rfl
  (try simp only [Act.put, sA, sB, sC])
  refine wpList_q (by rfl) (.bool false) ?he ?_
  case he => (have hq := H3.out; go_simp; (try with_reducible rfl))
  (try simp only [Act.put, sA, sB, sC])
  refine wpList_q (by rfl) (.bool false) ?he ?_
  case he => (first | rfl | (go_simp; (try with_reducible rfl)))
  (try simp only [Act.put, sA, sB, sC])
  refine wpList_q (by rfl) (.bool false) ?he ?_
  case he => (first | rfl | (go_simp; (try with_reducible rfl)))
  (try simp only [Act.put, sA, sB, sC])
  refine wpList_q (by rfl) (.pointer (some ⟨bL, 0, none⟩)) ?he ?_
  case he => (first | rfl | (go_simp; (try with_reducible rfl)))
  (try simp only [Act.put, sA, sB, sC])
  refine wpList_q (by rfl) (.pointer (some ⟨bL, 2, none⟩)) ?he ?_
  case he => (first | rfl | (go_simp; (try with_reducible rfl)))
  (try simp only [Act.put, sA, sB, sC])
  refine wpList_q (by rfl) (.int .i64 l.fm) ?he ?_
  case he => exact exec_cell 3 _ _ HBL1.out rfl rfl rfl Try.underlying3 rfl
  (try simp only [Act.put, sA, sB, sC])
  refine wpList_q (by rfl) (.bool false) ?he ?_
  case he => (have hq := H4.out; go_simp; (try with_reducible rfl))
  (try simp only [Act.put, sA, sB, sC])
  refine wpList_q (by rfl) (.bool false) ?he ?_
  case he => (first | rfl | (go_simp; (try with_reducible rfl)))
  (try simp only [Act.put, sA, sB, sC])
  refine wpList_q (by rfl) (.bool false) ?he ?_
  case he => (first | rfl | (go_simp; (try with_reducible rfl)))
  (try simp only [Act.put, sA, sB, sC])
  refine wpList_q (by rfl) (.pointer (some ⟨bL, 0, none⟩)) ?he ?_
  case he => (first | rfl | (go_simp; (try with_reducible rfl)))
  (try simp only [Act.put, sA, sB, sC])
  refine wpList_q (by rfl) (.pointer (some ⟨bL, 2, none⟩)) ?he ?_
  case he => (first | rfl | (go_simp; (try with_reducible rfl)))
  (try simp only [Act.put, sA, sB, sC])
  refine wpList_q (by rfl) (.int .i64 l.fm) ?he ?_
  case he => exact exec_cell 3 _ _ HBL1.out rfl rfl rfl Try.underlying3 rfl
  (try simp only [Act.put, sA, sB, sC])
  refine wpList_q (by rfl) (.bool true) ?he ?_
  case he => (have hq := H5.out; go_simp; (try with_reducible rfl))
  (try simp only [Act.put, sA, sB, sC])
  refine wpList_q (by rfl) (.bool true) ?he ?_
  case he => (first | rfl | (go_simp; (try with_reducible rfl)))
  (try simp only [Act.put, sA, sB, sC])
  refine wpList_q (by rfl) (.bool true) ?he ?_
  case he => (first | rfl | (go_simp; (try with_reducible rfl)))
  (try simp only [Act.put, sA, sB, sC])
  refine wpList_no (by rfl) ?_
  (try simp only [Act.put, sA, sB, sC])
  refine wpList_no (by rfl) ?_
  (try simp only [Act.put, sA, sB, sC])
  refine wpList_no (by rfl) ?_
  (try simp only [Act.put, sA, sB, sC])
  refine wpList_no (by rfl) ?_
  (try simp only [Act.put, sA, sB, sC])
  refine wpList_q (by rfl) (.bool true) ?he ?_
  case he => (first | rfl | (go_simp; (try with_reducible rfl)))
  (try simp only [Act.put, sA, sB, sC])
  refine wpList_q (by rfl) (.bool true) ?he ?_
  case he => (first | rfl | (go_simp; (try with_reducible rfl)))
  (try simp only [Act.put, sA, sB, sC])
  refine wpList_no (by rfl) ?_
  (try simp only [Act.put, sA, sB, sC])
  refine wpList_no (by rfl) ?_
  (try simp only [Act.put, sA, sB, sC])
  refine wpList_no (by rfl) ?_
  (try simp only [Act.put, sA, sB, sC])
  refine wpList_no (by rfl) ?_
  (try simp only [Act.put, sA, sB, sC])
  refine wpList_q (by rfl) (.bool true) ?he ?_
  case he => (first | rfl | (go_simp; (try with_reducible rfl)))
  (try simp only [Act.put, sA, sB, sC])
  refine wpList_nil ?_
  go_upto_region 2 with fail
  refine wp_region_lit ?_
  refine wpList_wp (by rfl) (fun K hK => ?_)
  (try go_simp)
  refine (ans _).mono ?_
  rintro e w2 ⟨rfl, hb⟩
  (try go_wp2_with fail)
  refine hK.out _ _ ?_
  clear hK K
  (try simp only [Act.put, sA, sB, sC])
  have HS2 := Lib.hid (Since.trans HS1.out hb)
  have HBC2 := Lib.hid (keep_blk hb HBC1.out)
  have HBL2 := Lib.hid (keep_blk hb HBL1.out)
  have HBX2 := Lib.hid (keep_blk hb HBX1.out)
  clear HS1 HBC1 HBL1 HBX1
  clear hb
  refine wpList_q (by rfl) (.bool true) ?he ?_
  case he => (first | rfl | (go_simp; (try with_reducible rfl)))
  (try simp only [Act.put, sA, sB, sC])
  refine wpList_nil ?_
  (try go_wp2_with fail)
  go_ret
  exact ⟨rfl, HS2.out⟩
set_option maxHeartbeats 4000000 in
theorem enX6 (c : CfgV) (l : LeaseV) (x : CarV) (a3 : Option Addr) (len3 cap3 : Nat) (gs : Nat → MsgV) (w : World) (hG : Msgs w a3 len3 gs) (hl3 : len3 ≤ 9223372036854775807) (h0 : ¬ (30 < c.ho)) (h1 : ¬ (5 < c.re)) (h2 : ¬ (10 < c.fl)) (h3 : ¬ (5 < c.dr)) (h4 : ¬ (l.fm < 0)) (h5 : ¬ (63 < l.fm)) (h6 : l.to < 0) : Calls Try.prog 14 #[.agg #[.int .i64 c.ca, .int .i64 c.fl, .int .i64 c.ft, .int .i64 c.se, .int .i64 c.dr, .int .i64 c.dw, .int .i64 c.ho, .int .i64 c.re, .int .i64 c.yi, .int .i64 c.qu, .int .i64 c.qo, .int .i64 c.lo, .int .i64 c.sl, .int .i64 c.rt, .int .i64 c.cp, .int .i64 c.tr, .int .i64 c.de, .int .i64 c.wi], .agg #[.int .i64 l.se, .int .i64 l.fl, .int .i64 l.fm, .int .i64 l.to, .int .i64 l.ma, .int .i64 l.ca, .int .i64 l.ph, .int .i64 l.un, .int .i64 l.re, .int .i64 l.gr], .agg #[.int .i64 x.ds, .int .i64 x.da, .int .i64 x.un, .int .i64 x.wy, .int .i64 x.ti, .int .i64 x.ju, .int .i64 x.lo, .bool x.bl, .bool x.br, .int .i64 x.mo, .int .i64 x.ta, .bool x.ho, .int .u64 x.sp, .int .u64 x.su, .int .u64 x.sd], .slice a3 len3 cap3] w fun e w' => e = .returned (.bool true) ∧ Since w w' := by
  have hlI3 : (len3 : Int) ≤ 9223372036854775807 := by omega
  have HGV := Lib.hid hG
  clear hG
  have H0 := Lib.hid h0
  clear h0
  have H1 := Lib.hid h1
  clear h1
  have H2 := Lib.hid h2
  clear h2
  have H3 := Lib.hid h3
  clear h3
  have H4 := Lib.hid h4
  clear h4
  have H5 := Lib.hid h5
  clear h5
  have H6 := Lib.hid h6
  clear h6
  go_enter Try.func14, Try.ntmps14
  go_upto_region 1 with fail
  obtain ⟨w1, hw1⟩ : ∃ w1, w1 = (((w.alloc (.cells #[.int .i64 c.ca, .int .i64 c.fl, .int .i64 c.ft, .int .i64 c.se, .int .i64 c.dr, .int .i64 c.dw, .int .i64 c.ho, .int .i64 c.re, .int .i64 c.yi, .int .i64 c.qu, .int .i64 c.qo, .int .i64 c.lo, .int .i64 c.sl, .int .i64 c.rt, .int .i64 c.cp, .int .i64 c.tr, .int .i64 c.de, .int .i64 c.wi] 23)).alloc (.cells #[.int .i64 l.se, .int .i64 l.fl, .int .i64 l.fm, .int .i64 l.to, .int .i64 l.ma, .int .i64 l.ca, .int .i64 l.ph, .int .i64 l.un, .int .i64 l.re, .int .i64 l.gr] 56)).alloc (.cells #[.int .i64 x.ds, .int .i64 x.da, .int .i64 x.un, .int .i64 x.wy, .int .i64 x.ti, .int .i64 x.ju, .int .i64 x.lo, .bool x.bl, .bool x.br, .int .i64 x.mo, .int .i64 x.ta, .bool x.ho, .int .u64 x.sp, .int .u64 x.su, .int .u64 x.sd] 76)) := ⟨_, rfl⟩
  rw [← hw1]
  have HBC1 := Lib.hid (show Blk w1 (w.heap.size) 23 (cfgA c) by rw [hw1]; exact Blk.alloc (Blk.alloc (Blk.at_ (by (try simp only [size_alloc])) _ _) _) _)
  have HBL1 := Lib.hid (show Blk w1 (w.heap.size + 1) 56 (leaA l) by rw [hw1]; exact Blk.alloc (Blk.at_ (by (try simp only [size_alloc])) _ _) _)
  have HBX1 := Lib.hid (show Blk w1 (w.heap.size + 1 + 1) 76 (carA x) by rw [hw1]; exact Blk.at_ (by (try simp only [size_alloc])) _ _)
  have HS1 := Lib.hid (show Since w w1 by rw [hw1]; exact Since.alloc (Since.alloc (Since.alloc (Since.refl w) _) _) _)
  have hNE : w.heap.size ≤ w.heap.size ∧ w.heap.size < w.heap.size + 1 ∧ w.heap.size + 1 < w.heap.size + 1 + 1 := by omega
  have HNE := Lib.hid hNE
  clear hNE hw1
  generalize w.heap.size + 1 + 1 = bX at *
  generalize w.heap.size + 1 = bL at *
  have HNE3 := Lib.hid (show w.heap.size ≤ w.heap.size ∧ w.heap.size < bL ∧ bL < bX from HNE.out)
  clear HNE
  refine wp_region_lit ?_
  refine wpList_q (by rfl) (.pointer (some ⟨w.heap.size, 6, none⟩)) ?he ?_
  case he => (first | rfl | (go_simp; (try with_reducible rfl)))
  (try simp only [Act.put, sA, sB, sC])
  refine wpList_q (by rfl) (.int .i64 c.ho) ?he ?_
  case he => exact exec_cell 3 _ _ HBC1.out rfl rfl rfl Try.underlying3 rfl
  (try simp only [Act.put, sA, sB, sC])
  refine wpList_q (by rfl) (.bool false) ?he ?_
  case he => (have hq := H0.out; go_simp; (try with_reducible rfl))
  (try simp only [Act.put, sA, sB, sC])
  refine wpList_q (by rfl) (.bool false) ?he ?_
  case he => (first | rfl | (go_simp; (try with_reducible rfl)))
  (try simp only [Act.put, sA, sB, sC])
  refine wpList_q (by rfl) (.pointer (some ⟨w.heap.size, 7, none⟩)) ?he ?_
  case he => (first | rfl | (go_simp; (try with_reducible rfl)))
  (try simp only [Act.put, sA, sB, sC])
  refine wpList_q (by rfl) (.int .i64 c.re) ?he ?_
  case he => exact exec_cell 3 _ _ HBC1.out rfl rfl rfl Try.underlying3 rfl
  (try simp only [Act.put, sA, sB, sC])
  refine wpList_q (by rfl) (.bool false) ?he ?_
  case he => (have hq := H1.out; go_simp; (try with_reducible rfl))
  (try simp only [Act.put, sA, sB, sC])
  refine wpList_q (by rfl) (.bool false) ?he ?_
  case he => (first | rfl | (go_simp; (try with_reducible rfl)))
  (try simp only [Act.put, sA, sB, sC])
  refine wpList_q (by rfl) (.bool false) ?he ?_
  case he => (first | rfl | (go_simp; (try with_reducible rfl)))
  (try simp only [Act.put, sA, sB, sC])
  refine wpList_q (by rfl) (.pointer (some ⟨w.heap.size, 1, none⟩)) ?he ?_
  case he => (first | rfl | (go_simp; (try with_reducible rfl)))
  (try simp only [Act.put, sA, sB, sC])
  refine wpList_q (by rfl) (.int .i64 c.fl) ?he ?_
  case he => exact exec_cell 3 _ _ HBC1.out rfl rfl rfl Try.underlying3 rfl
  (try simp only [Act.put, sA, sB, sC])
  refine wpList_q (by rfl) (.bool false) ?he ?_
  case he => (have hq := H2.out; go_simp; (try with_reducible rfl))
  (try simp only [Act.put, sA, sB, sC])
  refine wpList_q (by rfl) (.bool false) ?he ?_
  case he => (first | rfl | (go_simp; (try with_reducible rfl)))
  (try simp only [Act.put, sA, sB, sC])
  refine wpList_q (by rfl) (.bool false) ?he ?_
  case he => (first | rfl | (go_simp; (try with_reducible rfl)))
  (try simp only [Act.put, sA, sB, sC])
  refine wpList_q (by rfl) (.pointer (some ⟨w.heap.size, 4, none⟩)) ?he ?_
  case he => (first | rfl | (go_simp; (try with_reducible rfl)))
  (try simp only [Act.put, sA, sB, sC])
  refine wpList_q (by rfl) (.int .i64 c.dr) ?he ?_
  case he => exact exec_cell 3 _ _ HBC1.out rfl rfl rfl Try.underlying3 rfl
  (try simp only [Act.put, sA, sB, sC])
  refine wpList_q (by rfl) (.bool false) ?he ?_
  case he => (have hq := H3.out; go_simp; (try with_reducible rfl))
  (try simp only [Act.put, sA, sB, sC])
  refine wpList_q (by rfl) (.bool false) ?he ?_
  case he => (first | rfl | (go_simp; (try with_reducible rfl)))
  (try simp only [Act.put, sA, sB, sC])
  refine wpList_q (by rfl) (.bool false) ?he ?_
  case he => (first | rfl | (go_simp; (try with_reducible rfl)))
  (try simp only [Act.put, sA, sB, sC])
  refine wpList_q (by rfl) (.pointer (some ⟨bL, 0, none⟩)) ?he ?_
  case he => (first | rfl | (go_simp; (try with_reducible rfl)))
  (try simp only [Act.put, sA, sB, sC])
  refine wpList_q (by rfl) (.pointer (some ⟨bL, 2, none⟩)) ?he ?_
  case he => (first | rfl | (go_simp; (try with_reducible rfl)))
  (try simp only [Act.put, sA, sB, sC])
  refine wpList_q (by rfl) (.int .i64 l.fm) ?he ?_
  case he => exact exec_cell 3 _ _ HBL1.out rfl rfl rfl Try.underlying3 rfl
  (try simp only [Act.put, sA, sB, sC])
  refine wpList_q (by rfl) (.bool false) ?he ?_
  case he => (have hq := H4.out; go_simp; (try with_reducible rfl))
  (try simp only [Act.put, sA, sB, sC])
  refine wpList_q (by rfl) (.bool false) ?he ?_
  case he => (first | rfl | (go_simp; (try with_reducible rfl)))
  (try simp only [Act.put, sA, sB, sC])
  refine wpList_q (by rfl) (.bool false) ?he ?_
  case he => (first | rfl | (go_simp; (try with_reducible rfl)))
  (try simp only [Act.put, sA, sB, sC])
  refine wpList_q (by rfl) (.pointer (some ⟨bL, 0, none⟩)) ?he ?_
  case he => (first | rfl | (go_simp; (try with_reducible rfl)))
  (try simp only [Act.put, sA, sB, sC])
  refine wpList_q (by rfl) (.pointer (some ⟨bL, 2, none⟩)) ?he ?_
  case he => (first | rfl | (go_simp; (try with_reducible rfl)))
  (try simp only [Act.put, sA, sB, sC])
  refine wpList_q (by rfl) (.int .i64 l.fm) ?he ?_
  case he => exact exec_cell 3 _ _ HBL1.out rfl rfl rfl Try.underlying3 rfl
  (try simp only [Act.put, sA, sB, sC])
  refine wpList_q (by rfl) (.bool false) ?he ?_
  case he => (have hq := H5.out; go_simp; (try with_reducible rfl))
  (try simp only [Act.put, sA, sB, sC])
  refine wpList_q (by rfl) (.bool false) ?he ?_
  case he => (first | rfl | (go_simp; (try with_reducible rfl)))
  (try simp only [Act.put, sA, sB, sC])
  refine wpList_q (by rfl) (.bool false) ?he ?_
  case he => (first | rfl | (go_simp; (try with_reducible rfl)))
  (try simp only [Act.put, sA, sB, sC])
  refine wpList_q (by rfl) (.pointer (some ⟨bL, 0, none⟩)) ?he ?_
  case he => (first | rfl | (go_simp; (try with_reducible rfl)))
  (try simp only [Act.put, sA, sB, sC])
  refine wpList_q (by rfl) (.pointer (some ⟨bL, 3, none⟩)) ?he ?_
  case he => (first | rfl | (go_simp; (try with_reducible rfl)))
  (try simp only [Act.put, sA, sB, sC])
  refine wpList_q (by rfl) (.int .i64 l.to) ?he ?_
  case he => exact exec_cell 3 _ _ HBL1.out rfl rfl rfl Try.underlying3 rfl
  (try simp only [Act.put, sA, sB, sC])
  refine wpList_q (by rfl) (.bool true) ?he ?_
  case he => (have hq := H6.out; go_simp; (try with_reducible rfl))
  (try simp only [Act.put, sA, sB, sC])
  refine wpList_q (by rfl) (.bool true) ?he ?_
  case he => (first | rfl | (go_simp; (try with_reducible rfl)))
  (try simp only [Act.put, sA, sB, sC])
  refine wpList_q (by rfl) (.bool true) ?he ?_
  case he => (first | rfl | (go_simp; (try with_reducible rfl)))
  (try simp only [Act.put, sA, sB, sC])
  refine wpList_no (by rfl) ?_
  (try simp only [Act.put, sA, sB, sC])
  refine wpList_no (by rfl) ?_
  (try simp only [Act.put, sA, sB, sC])
  refine wpList_no (by rfl) ?_
  (try simp only [Act.put, sA, sB, sC])
  refine wpList_no (by rfl) ?_
  (try simp only [Act.put, sA, sB, sC])
  refine wpList_q (by rfl) (.bool true) ?he ?_
  case he => (first | rfl | (go_simp; (try with_reducible rfl)))
  (try simp only [Act.put, sA, sB, sC])
  refine wpList_nil ?_
  go_upto_region 2 with fail
  refine wp_region_lit ?_
  refine wpList_wp (by rfl) (fun K hK => ?_)
  (try go_simp)
  refine (ans _).mono ?_
  rintro e w2 ⟨rfl, hb⟩
  (try go_wp2_with fail)
  refine hK.out _ _ ?_
  clear hK K
  (try simp only [Act.put, sA, sB, sC])
  have HS2 := Lib.hid (Since.trans HS1.out hb)
  have HBC2 := Lib.hid (keep_blk hb HBC1.out)
  have HBL2 := Lib.hid (keep_blk hb HBL1.out)
  have HBX2 := Lib.hid (keep_blk hb HBX1.out)
  clear HS1 HBC1 HBL1 HBX1
  clear hb
  refine wpList_q (by rfl) (.bool true) ?he ?_
  case he => (first | rfl | (go_simp; (try with_reducible rfl)))
  (try simp only [Act.put, sA, sB, sC])
  refine wpList_nil ?_
  (try go_wp2_with fail)
  go_ret
  exact ⟨rfl, HS2.out⟩
set_option maxHeartbeats 4000000 in
theorem enX7 (c : CfgV) (l : LeaseV) (x : CarV) (a3 : Option Addr) (len3 cap3 : Nat) (gs : Nat → MsgV) (w : World) (hG : Msgs w a3 len3 gs) (hl3 : len3 ≤ 9223372036854775807) (h0 : ¬ (30 < c.ho)) (h1 : ¬ (5 < c.re)) (h2 : ¬ (10 < c.fl)) (h3 : ¬ (5 < c.dr)) (h4 : ¬ (l.fm < 0)) (h5 : ¬ (63 < l.fm)) (h6 : ¬ (l.to < 0)) (h7 : 63 < l.to) : Calls Try.prog 14 #[.agg #[.int .i64 c.ca, .int .i64 c.fl, .int .i64 c.ft, .int .i64 c.se, .int .i64 c.dr, .int .i64 c.dw, .int .i64 c.ho, .int .i64 c.re, .int .i64 c.yi, .int .i64 c.qu, .int .i64 c.qo, .int .i64 c.lo, .int .i64 c.sl, .int .i64 c.rt, .int .i64 c.cp, .int .i64 c.tr, .int .i64 c.de, .int .i64 c.wi], .agg #[.int .i64 l.se, .int .i64 l.fl, .int .i64 l.fm, .int .i64 l.to, .int .i64 l.ma, .int .i64 l.ca, .int .i64 l.ph, .int .i64 l.un, .int .i64 l.re, .int .i64 l.gr], .agg #[.int .i64 x.ds, .int .i64 x.da, .int .i64 x.un, .int .i64 x.wy, .int .i64 x.ti, .int .i64 x.ju, .int .i64 x.lo, .bool x.bl, .bool x.br, .int .i64 x.mo, .int .i64 x.ta, .bool x.ho, .int .u64 x.sp, .int .u64 x.su, .int .u64 x.sd], .slice a3 len3 cap3] w fun e w' => e = .returned (.bool true) ∧ Since w w' := by
  have hlI3 : (len3 : Int) ≤ 9223372036854775807 := by omega
  have HGV := Lib.hid hG
  clear hG
  have H0 := Lib.hid h0
  clear h0
  have H1 := Lib.hid h1
  clear h1
  have H2 := Lib.hid h2
  clear h2
  have H3 := Lib.hid h3
  clear h3
  have H4 := Lib.hid h4
  clear h4
  have H5 := Lib.hid h5
  clear h5
  have H6 := Lib.hid h6
  clear h6
  have H7 := Lib.hid h7
  clear h7
  go_enter Try.func14, Try.ntmps14
  go_upto_region 1 with fail
  obtain ⟨w1, hw1⟩ : ∃ w1, w1 = (((w.alloc (.cells #[.int .i64 c.ca, .int .i64 c.fl, .int .i64 c.ft, .int .i64 c.se, .int .i64 c.dr, .int .i64 c.dw, .int .i64 c.ho, .int .i64 c.re, .int .i64 c.yi, .int .i64 c.qu, .int .i64 c.qo, .int .i64 c.lo, .int .i64 c.sl, .int .i64 c.rt, .int .i64 c.cp, .int .i64 c.tr, .int .i64 c.de, .int .i64 c.wi] 23)).alloc (.cells #[.int .i64 l.se, .int .i64 l.fl, .int .i64 l.fm, .int .i64 l.to, .int .i64 l.ma, .int .i64 l.ca, .int .i64 l.ph, .int .i64 l.un, .int .i64 l.re, .int .i64 l.gr] 56)).alloc (.cells #[.int .i64 x.ds, .int .i64 x.da, .int .i64 x.un, .int .i64 x.wy, .int .i64 x.ti, .int .i64 x.ju, .int .i64 x.lo, .bool x.bl, .bool x.br, .int .i64 x.mo, .int .i64 x.ta, .bool x.ho, .int .u64 x.sp, .int .u64 x.su, .int .u64 x.sd] 76)) := ⟨_, rfl⟩
  rw [← hw1]
  have HBC1 := Lib.hid (show Blk w1 (w.heap.size) 23 (cfgA c) by rw [hw1]; exact Blk.alloc (Blk.alloc (Blk.at_ (by (try simp only [size_alloc])) _ _) _) _)
  have HBL1 := Lib.hid (show Blk w1 (w.heap.size + 1) 56 (leaA l) by rw [hw1]; exact Blk.alloc (Blk.at_ (by (try simp only [size_alloc])) _ _) _)
  have HBX1 := Lib.hid (show Blk w1 (w.heap.size + 1 + 1) 76 (carA x) by rw [hw1]; exact Blk.at_ (by (try simp only [size_alloc])) _ _)
  have HS1 := Lib.hid (show Since w w1 by rw [hw1]; exact Since.alloc (Since.alloc (Since.alloc (Since.refl w) _) _) _)
  have hNE : w.heap.size ≤ w.heap.size ∧ w.heap.size < w.heap.size + 1 ∧ w.heap.size + 1 < w.heap.size + 1 + 1 := by omega
  have HNE := Lib.hid hNE
  clear hNE hw1
  generalize w.heap.size + 1 + 1 = bX at *
  generalize w.heap.size + 1 = bL at *
  have HNE3 := Lib.hid (show w.heap.size ≤ w.heap.size ∧ w.heap.size < bL ∧ bL < bX from HNE.out)
  clear HNE
  refine wp_region_lit ?_
  refine wpList_q (by rfl) (.pointer (some ⟨w.heap.size, 6, none⟩)) ?he ?_
  case he => (first | rfl | (go_simp; (try with_reducible rfl)))
  (try simp only [Act.put, sA, sB, sC])
  refine wpList_q (by rfl) (.int .i64 c.ho) ?he ?_
  case he => exact exec_cell 3 _ _ HBC1.out rfl rfl rfl Try.underlying3 rfl
  (try simp only [Act.put, sA, sB, sC])
  refine wpList_q (by rfl) (.bool false) ?he ?_
  case he => (have hq := H0.out; go_simp; (try with_reducible rfl))
  (try simp only [Act.put, sA, sB, sC])
  refine wpList_q (by rfl) (.bool false) ?he ?_
  case he => (first | rfl | (go_simp; (try with_reducible rfl)))
  (try simp only [Act.put, sA, sB, sC])
  refine wpList_q (by rfl) (.pointer (some ⟨w.heap.size, 7, none⟩)) ?he ?_
  case he => (first | rfl | (go_simp; (try with_reducible rfl)))
  (try simp only [Act.put, sA, sB, sC])
  refine wpList_q (by rfl) (.int .i64 c.re) ?he ?_
  case he => exact exec_cell 3 _ _ HBC1.out rfl rfl rfl Try.underlying3 rfl
  (try simp only [Act.put, sA, sB, sC])
  refine wpList_q (by rfl) (.bool false) ?he ?_
  case he => (have hq := H1.out; go_simp; (try with_reducible rfl))
  (try simp only [Act.put, sA, sB, sC])
  refine wpList_q (by rfl) (.bool false) ?he ?_
  case he => (first | rfl | (go_simp; (try with_reducible rfl)))
  (try simp only [Act.put, sA, sB, sC])
  refine wpList_q (by rfl) (.bool false) ?he ?_
  case he => (first | rfl | (go_simp; (try with_reducible rfl)))
  (try simp only [Act.put, sA, sB, sC])
  refine wpList_q (by rfl) (.pointer (some ⟨w.heap.size, 1, none⟩)) ?he ?_
  case he => (first | rfl | (go_simp; (try with_reducible rfl)))
  (try simp only [Act.put, sA, sB, sC])
  refine wpList_q (by rfl) (.int .i64 c.fl) ?he ?_
  case he => exact exec_cell 3 _ _ HBC1.out rfl rfl rfl Try.underlying3 rfl
  (try simp only [Act.put, sA, sB, sC])
  refine wpList_q (by rfl) (.bool false) ?he ?_
  case he => (have hq := H2.out; go_simp; (try with_reducible rfl))
  (try simp only [Act.put, sA, sB, sC])
  refine wpList_q (by rfl) (.bool false) ?he ?_
  case he => (first | rfl | (go_simp; (try with_reducible rfl)))
  (try simp only [Act.put, sA, sB, sC])
  refine wpList_q (by rfl) (.bool false) ?he ?_
  case he => (first | rfl | (go_simp; (try with_reducible rfl)))
  (try simp only [Act.put, sA, sB, sC])
  refine wpList_q (by rfl) (.pointer (some ⟨w.heap.size, 4, none⟩)) ?he ?_
  case he => (first | rfl | (go_simp; (try with_reducible rfl)))
  (try simp only [Act.put, sA, sB, sC])
  refine wpList_q (by rfl) (.int .i64 c.dr) ?he ?_
  case he => exact exec_cell 3 _ _ HBC1.out rfl rfl rfl Try.underlying3 rfl
  (try simp only [Act.put, sA, sB, sC])
  refine wpList_q (by rfl) (.bool false) ?he ?_
  case he => (have hq := H3.out; go_simp; (try with_reducible rfl))
  (try simp only [Act.put, sA, sB, sC])
  refine wpList_q (by rfl) (.bool false) ?he ?_
  case he => (first | rfl | (go_simp; (try with_reducible rfl)))
  (try simp only [Act.put, sA, sB, sC])
  refine wpList_q (by rfl) (.bool false) ?he ?_
  case he => (first | rfl | (go_simp; (try with_reducible rfl)))
  (try simp only [Act.put, sA, sB, sC])
  refine wpList_q (by rfl) (.pointer (some ⟨bL, 0, none⟩)) ?he ?_
  case he => (first | rfl | (go_simp; (try with_reducible rfl)))
  (try simp only [Act.put, sA, sB, sC])
  refine wpList_q (by rfl) (.pointer (some ⟨bL, 2, none⟩)) ?he ?_
  case he => (first | rfl | (go_simp; (try with_reducible rfl)))
  (try simp only [Act.put, sA, sB, sC])
  refine wpList_q (by rfl) (.int .i64 l.fm) ?he ?_
  case he => exact exec_cell 3 _ _ HBL1.out rfl rfl rfl Try.underlying3 rfl
  (try simp only [Act.put, sA, sB, sC])
  refine wpList_q (by rfl) (.bool false) ?he ?_
  case he => (have hq := H4.out; go_simp; (try with_reducible rfl))
  (try simp only [Act.put, sA, sB, sC])
  refine wpList_q (by rfl) (.bool false) ?he ?_
  case he => (first | rfl | (go_simp; (try with_reducible rfl)))
  (try simp only [Act.put, sA, sB, sC])
  refine wpList_q (by rfl) (.bool false) ?he ?_
  case he => (first | rfl | (go_simp; (try with_reducible rfl)))
  (try simp only [Act.put, sA, sB, sC])
  refine wpList_q (by rfl) (.pointer (some ⟨bL, 0, none⟩)) ?he ?_
  case he => (first | rfl | (go_simp; (try with_reducible rfl)))
  (try simp only [Act.put, sA, sB, sC])
  refine wpList_q (by rfl) (.pointer (some ⟨bL, 2, none⟩)) ?he ?_
  case he => (first | rfl | (go_simp; (try with_reducible rfl)))
  (try simp only [Act.put, sA, sB, sC])
  refine wpList_q (by rfl) (.int .i64 l.fm) ?he ?_
  case he => exact exec_cell 3 _ _ HBL1.out rfl rfl rfl Try.underlying3 rfl
  (try simp only [Act.put, sA, sB, sC])
  refine wpList_q (by rfl) (.bool false) ?he ?_
  case he => (have hq := H5.out; go_simp; (try with_reducible rfl))
  (try simp only [Act.put, sA, sB, sC])
  refine wpList_q (by rfl) (.bool false) ?he ?_
  case he => (first | rfl | (go_simp; (try with_reducible rfl)))
  (try simp only [Act.put, sA, sB, sC])
  refine wpList_q (by rfl) (.bool false) ?he ?_
  case he => (first | rfl | (go_simp; (try with_reducible rfl)))
  (try simp only [Act.put, sA, sB, sC])
  refine wpList_q (by rfl) (.pointer (some ⟨bL, 0, none⟩)) ?he ?_
  case he => (first | rfl | (go_simp; (try with_reducible rfl)))
  (try simp only [Act.put, sA, sB, sC])
  refine wpList_q (by rfl) (.pointer (some ⟨bL, 3, none⟩)) ?he ?_
  case he => (first | rfl | (go_simp; (try with_reducible rfl)))
  (try simp only [Act.put, sA, sB, sC])
  refine wpList_q (by rfl) (.int .i64 l.to) ?he ?_
  case he => exact exec_cell 3 _ _ HBL1.out rfl rfl rfl Try.underlying3 rfl
  (try simp only [Act.put, sA, sB, sC])
  refine wpList_q (by rfl) (.bool false) ?he ?_
  case he => (have hq := H6.out; go_simp; (try with_reducible rfl))
  (try simp only [Act.put, sA, sB, sC])
  refine wpList_q (by rfl) (.bool false) ?he ?_
  case he => (first | rfl | (go_simp; (try with_reducible rfl)))
  (try simp only [Act.put, sA, sB, sC])
  refine wpList_q (by rfl) (.bool false) ?he ?_
  case he => (first | rfl | (go_simp; (try with_reducible rfl)))
  (try simp only [Act.put, sA, sB, sC])
  refine wpList_q (by rfl) (.pointer (some ⟨bL, 0, none⟩)) ?he ?_
  case he => (first | rfl | (go_simp; (try with_reducible rfl)))
  (try simp only [Act.put, sA, sB, sC])
  refine wpList_q (by rfl) (.pointer (some ⟨bL, 3, none⟩)) ?he ?_
  case he => (first | rfl | (go_simp; (try with_reducible rfl)))
  (try simp only [Act.put, sA, sB, sC])
  refine wpList_q (by rfl) (.int .i64 l.to) ?he ?_
  case he => exact exec_cell 3 _ _ HBL1.out rfl rfl rfl Try.underlying3 rfl
  (try simp only [Act.put, sA, sB, sC])
  refine wpList_q (by rfl) (.bool true) ?he ?_
  case he => (have hq := H7.out; go_simp; (try with_reducible rfl))
  (try simp only [Act.put, sA, sB, sC])
  refine wpList_q (by rfl) (.bool true) ?he ?_
  case he => (first | rfl | (go_simp; (try with_reducible rfl)))
  (try simp only [Act.put, sA, sB, sC])
  refine wpList_nil ?_
  go_upto_region 2 with fail
  refine wp_region_lit ?_
  refine wpList_wp (by rfl) (fun K hK => ?_)
  (try go_simp)
  refine (ans _).mono ?_
  rintro e w2 ⟨rfl, hb⟩
  (try go_wp2_with fail)
  refine hK.out _ _ ?_
  clear hK K
  (try simp only [Act.put, sA, sB, sC])
  have HS2 := Lib.hid (Since.trans HS1.out hb)
  have HBC2 := Lib.hid (keep_blk hb HBC1.out)
  have HBL2 := Lib.hid (keep_blk hb HBL1.out)
  have HBX2 := Lib.hid (keep_blk hb HBX1.out)
  clear HS1 HBC1 HBL1 HBX1
  clear hb
  refine wpList_q (by rfl) (.bool true) ?he ?_
  case he => (first | rfl | (go_simp; (try with_reducible rfl)))
  (try simp only [Act.put, sA, sB, sC])
  refine wpList_nil ?_
  (try go_wp2_with fail)
  go_ret
  exact ⟨rfl, HS2.out⟩
set_option maxHeartbeats 16000000 in
theorem ends (c : CfgV) (l : LeaseV) (x : CarV) (a3 : Option Addr) (len3 cap3 : Nat) (gs : Nat → MsgV) (w : World) (hG : Msgs w a3 len3 gs) (hl3 : len3 ≤ 9223372036854775807) (h0 : ¬ (30 < c.ho)) (h1 : ¬ (5 < c.re)) (h2 : ¬ (10 < c.fl)) (h3 : ¬ (5 < c.dr)) (h4 : ¬ (l.fm < 0)) (h5 : ¬ (63 < l.fm)) (h6 : ¬ (l.to < 0)) (h7 : ¬ (63 < l.to)) : Calls Try.prog 14 #[.agg #[.int .i64 c.ca, .int .i64 c.fl, .int .i64 c.ft, .int .i64 c.se, .int .i64 c.dr, .int .i64 c.dw, .int .i64 c.ho, .int .i64 c.re, .int .i64 c.yi, .int .i64 c.qu, .int .i64 c.qo, .int .i64 c.lo, .int .i64 c.sl, .int .i64 c.rt, .int .i64 c.cp, .int .i64 c.tr, .int .i64 c.de, .int .i64 c.wi], .agg #[.int .i64 l.se, .int .i64 l.fl, .int .i64 l.fm, .int .i64 l.to, .int .i64 l.ma, .int .i64 l.ca, .int .i64 l.ph, .int .i64 l.un, .int .i64 l.re, .int .i64 l.gr], .agg #[.int .i64 x.ds, .int .i64 x.da, .int .i64 x.un, .int .i64 x.wy, .int .i64 x.ti, .int .i64 x.ju, .int .i64 x.lo, .bool x.bl, .bool x.br, .int .i64 x.mo, .int .i64 x.ta, .bool x.ho, .int .u64 x.sp, .int .u64 x.su, .int .u64 x.sd], .slice a3 len3 cap3] w fun e w' => e = .returned (.bool true) ∧ Since w w' := by
  have hlI3 : (len3 : Int) ≤ 9223372036854775807 := by omega
  have HGV := Lib.hid hG
  clear hG
  have H0 := Lib.hid h0
  clear h0
  have H1 := Lib.hid h1
  clear h1
  have H2 := Lib.hid h2
  clear h2
  have H3 := Lib.hid h3
  clear h3
  have H4 := Lib.hid h4
  clear h4
  have H5 := Lib.hid h5
  clear h5
  have H6 := Lib.hid h6
  clear h6
  have H7 := Lib.hid h7
  clear h7
  go_enter Try.func14, Try.ntmps14
  go_upto_region 1 with fail
  obtain ⟨w1, hw1⟩ : ∃ w1, w1 = (((w.alloc (.cells #[.int .i64 c.ca, .int .i64 c.fl, .int .i64 c.ft, .int .i64 c.se, .int .i64 c.dr, .int .i64 c.dw, .int .i64 c.ho, .int .i64 c.re, .int .i64 c.yi, .int .i64 c.qu, .int .i64 c.qo, .int .i64 c.lo, .int .i64 c.sl, .int .i64 c.rt, .int .i64 c.cp, .int .i64 c.tr, .int .i64 c.de, .int .i64 c.wi] 23)).alloc (.cells #[.int .i64 l.se, .int .i64 l.fl, .int .i64 l.fm, .int .i64 l.to, .int .i64 l.ma, .int .i64 l.ca, .int .i64 l.ph, .int .i64 l.un, .int .i64 l.re, .int .i64 l.gr] 56)).alloc (.cells #[.int .i64 x.ds, .int .i64 x.da, .int .i64 x.un, .int .i64 x.wy, .int .i64 x.ti, .int .i64 x.ju, .int .i64 x.lo, .bool x.bl, .bool x.br, .int .i64 x.mo, .int .i64 x.ta, .bool x.ho, .int .u64 x.sp, .int .u64 x.su, .int .u64 x.sd] 76)) := ⟨_, rfl⟩
  rw [← hw1]
  have HBC1 := Lib.hid (show Blk w1 (w.heap.size) 23 (cfgA c) by rw [hw1]; exact Blk.alloc (Blk.alloc (Blk.at_ (by (try simp only [size_alloc])) _ _) _) _)
  have HBL1 := Lib.hid (show Blk w1 (w.heap.size + 1) 56 (leaA l) by rw [hw1]; exact Blk.alloc (Blk.at_ (by (try simp only [size_alloc])) _ _) _)
  have HBX1 := Lib.hid (show Blk w1 (w.heap.size + 1 + 1) 76 (carA x) by rw [hw1]; exact Blk.at_ (by (try simp only [size_alloc])) _ _)
  have HS1 := Lib.hid (show Since w w1 by rw [hw1]; exact Since.alloc (Since.alloc (Since.alloc (Since.refl w) _) _) _)
  have hNE : w.heap.size ≤ w.heap.size ∧ w.heap.size < w.heap.size + 1 ∧ w.heap.size + 1 < w.heap.size + 1 + 1 := by omega
  have HNE := Lib.hid hNE
  clear hNE hw1
  generalize w.heap.size + 1 + 1 = bX at *
  generalize w.heap.size + 1 = bL at *
  have HNE3 := Lib.hid (show w.heap.size ≤ w.heap.size ∧ w.heap.size < bL ∧ bL < bX from HNE.out)
  clear HNE
  refine wp_region_lit ?_
  refine wpList_q (by rfl) (.pointer (some ⟨w.heap.size, 6, none⟩)) ?he ?_
  case he => (first | rfl | (go_simp; (try with_reducible rfl)))
  (try simp only [Act.put, sA, sB, sC])
  refine wpList_q (by rfl) (.int .i64 c.ho) ?he ?_
  case he => exact exec_cell 3 _ _ HBC1.out rfl rfl rfl Try.underlying3 rfl
  (try simp only [Act.put, sA, sB, sC])
  refine wpList_q (by rfl) (.bool false) ?he ?_
  case he => (have hq := H0.out; go_simp; (try with_reducible rfl))
  (try simp only [Act.put, sA, sB, sC])
  refine wpList_q (by rfl) (.bool false) ?he ?_
  case he => (first | rfl | (go_simp; (try with_reducible rfl)))
  (try simp only [Act.put, sA, sB, sC])
  refine wpList_q (by rfl) (.pointer (some ⟨w.heap.size, 7, none⟩)) ?he ?_
  case he => (first | rfl | (go_simp; (try with_reducible rfl)))
  (try simp only [Act.put, sA, sB, sC])
  refine wpList_q (by rfl) (.int .i64 c.re) ?he ?_
  case he => exact exec_cell 3 _ _ HBC1.out rfl rfl rfl Try.underlying3 rfl
  (try simp only [Act.put, sA, sB, sC])
  refine wpList_q (by rfl) (.bool false) ?he ?_
  case he => (have hq := H1.out; go_simp; (try with_reducible rfl))
  (try simp only [Act.put, sA, sB, sC])
  refine wpList_q (by rfl) (.bool false) ?he ?_
  case he => (first | rfl | (go_simp; (try with_reducible rfl)))
  (try simp only [Act.put, sA, sB, sC])
  refine wpList_q (by rfl) (.bool false) ?he ?_
  case he => (first | rfl | (go_simp; (try with_reducible rfl)))
  (try simp only [Act.put, sA, sB, sC])
  refine wpList_q (by rfl) (.pointer (some ⟨w.heap.size, 1, none⟩)) ?he ?_
  case he => (first | rfl | (go_simp; (try with_reducible rfl)))
  (try simp only [Act.put, sA, sB, sC])
  refine wpList_q (by rfl) (.int .i64 c.fl) ?he ?_
  case he => exact exec_cell 3 _ _ HBC1.out rfl rfl rfl Try.underlying3 rfl
  (try simp only [Act.put, sA, sB, sC])
  refine wpList_q (by rfl) (.bool false) ?he ?_
  case he => (have hq := H2.out; go_simp; (try with_reducible rfl))
  (try simp only [Act.put, sA, sB, sC])
  refine wpList_q (by rfl) (.bool false) ?he ?_
  case he => (first | rfl | (go_simp; (try with_reducible rfl)))
  (try simp only [Act.put, sA, sB, sC])
  refine wpList_q (by rfl) (.bool false) ?he ?_
  case he => (first | rfl | (go_simp; (try with_reducible rfl)))
  (try simp only [Act.put, sA, sB, sC])
  refine wpList_q (by rfl) (.pointer (some ⟨w.heap.size, 4, none⟩)) ?he ?_
  case he => (first | rfl | (go_simp; (try with_reducible rfl)))
  (try simp only [Act.put, sA, sB, sC])
  refine wpList_q (by rfl) (.int .i64 c.dr) ?he ?_
  case he => exact exec_cell 3 _ _ HBC1.out rfl rfl rfl Try.underlying3 rfl
  (try simp only [Act.put, sA, sB, sC])
  refine wpList_q (by rfl) (.bool false) ?he ?_
  case he => (have hq := H3.out; go_simp; (try with_reducible rfl))
  (try simp only [Act.put, sA, sB, sC])
  refine wpList_q (by rfl) (.bool false) ?he ?_
  case he => (first | rfl | (go_simp; (try with_reducible rfl)))
  (try simp only [Act.put, sA, sB, sC])
  refine wpList_q (by rfl) (.bool false) ?he ?_
  case he => (first | rfl | (go_simp; (try with_reducible rfl)))
  (try simp only [Act.put, sA, sB, sC])
  refine wpList_q (by rfl) (.pointer (some ⟨bL, 0, none⟩)) ?he ?_
  case he => (first | rfl | (go_simp; (try with_reducible rfl)))
  (try simp only [Act.put, sA, sB, sC])
  refine wpList_q (by rfl) (.pointer (some ⟨bL, 2, none⟩)) ?he ?_
  case he => (first | rfl | (go_simp; (try with_reducible rfl)))
  (try simp only [Act.put, sA, sB, sC])
  refine wpList_q (by rfl) (.int .i64 l.fm) ?he ?_
  case he => exact exec_cell 3 _ _ HBL1.out rfl rfl rfl Try.underlying3 rfl
  (try simp only [Act.put, sA, sB, sC])
  refine wpList_q (by rfl) (.bool false) ?he ?_
  case he => (have hq := H4.out; go_simp; (try with_reducible rfl))
  (try simp only [Act.put, sA, sB, sC])
  refine wpList_q (by rfl) (.bool false) ?he ?_
  case he => (first | rfl | (go_simp; (try with_reducible rfl)))
  (try simp only [Act.put, sA, sB, sC])
  refine wpList_q (by rfl) (.bool false) ?he ?_
  case he => (first | rfl | (go_simp; (try with_reducible rfl)))
  (try simp only [Act.put, sA, sB, sC])
  refine wpList_q (by rfl) (.pointer (some ⟨bL, 0, none⟩)) ?he ?_
  case he => (first | rfl | (go_simp; (try with_reducible rfl)))
  (try simp only [Act.put, sA, sB, sC])
  refine wpList_q (by rfl) (.pointer (some ⟨bL, 2, none⟩)) ?he ?_
  case he => (first | rfl | (go_simp; (try with_reducible rfl)))
  (try simp only [Act.put, sA, sB, sC])
  refine wpList_q (by rfl) (.int .i64 l.fm) ?he ?_
  case he => exact exec_cell 3 _ _ HBL1.out rfl rfl rfl Try.underlying3 rfl
  (try simp only [Act.put, sA, sB, sC])
  refine wpList_q (by rfl) (.bool false) ?he ?_
  case he => (have hq := H5.out; go_simp; (try with_reducible rfl))
  (try simp only [Act.put, sA, sB, sC])
  refine wpList_q (by rfl) (.bool false) ?he ?_
  case he => (first | rfl | (go_simp; (try with_reducible rfl)))
  (try simp only [Act.put, sA, sB, sC])
  refine wpList_q (by rfl) (.bool false) ?he ?_
  case he => (first | rfl | (go_simp; (try with_reducible rfl)))
  (try simp only [Act.put, sA, sB, sC])
  refine wpList_q (by rfl) (.pointer (some ⟨bL, 0, none⟩)) ?he ?_
  case he => (first | rfl | (go_simp; (try with_reducible rfl)))
  (try simp only [Act.put, sA, sB, sC])
  refine wpList_q (by rfl) (.pointer (some ⟨bL, 3, none⟩)) ?he ?_
  case he => (first | rfl | (go_simp; (try with_reducible rfl)))
  (try simp only [Act.put, sA, sB, sC])
  refine wpList_q (by rfl) (.int .i64 l.to) ?he ?_
  case he => exact exec_cell 3 _ _ HBL1.out rfl rfl rfl Try.underlying3 rfl
  (try simp only [Act.put, sA, sB, sC])
  refine wpList_q (by rfl) (.bool false) ?he ?_
  case he => (have hq := H6.out; go_simp; (try with_reducible rfl))
  (try simp only [Act.put, sA, sB, sC])
  refine wpList_q (by rfl) (.bool false) ?he ?_
  case he => (first | rfl | (go_simp; (try with_reducible rfl)))
  (try simp only [Act.put, sA, sB, sC])
  refine wpList_q (by rfl) (.bool false) ?he ?_
  case he => (first | rfl | (go_simp; (try with_reducible rfl)))
  (try simp only [Act.put, sA, sB, sC])
  refine wpList_q (by rfl) (.pointer (some ⟨bL, 0, none⟩)) ?he ?_
  case he => (first | rfl | (go_simp; (try with_reducible rfl)))
  (try simp only [Act.put, sA, sB, sC])
  refine wpList_q (by rfl) (.pointer (some ⟨bL, 3, none⟩)) ?he ?_
  case he => (first | rfl | (go_simp; (try with_reducible rfl)))
  (try simp only [Act.put, sA, sB, sC])
  refine wpList_q (by rfl) (.int .i64 l.to) ?he ?_
  case he => exact exec_cell 3 _ _ HBL1.out rfl rfl rfl Try.underlying3 rfl
  (try simp only [Act.put, sA, sB, sC])
  refine wpList_q (by rfl) (.bool false) ?he ?_
  case he => (have hq := H7.out; go_simp; (try with_reducible rfl))
  (try simp only [Act.put, sA, sB, sC])
  refine wpList_q (by rfl) (.bool false) ?he ?_
  case he => (first | rfl | (go_simp; (try with_reducible rfl)))
  (try simp only [Act.put, sA, sB, sC])
  refine wpList_nil ?_
  go_upto_region 3 with fail
  refine wp_region_lit ?_
  refine wpList_q (by rfl) (.agg (cfgA c)) ?he ?_
  case he => exact exec_load_row 23 _ _ HBC1.out rfl rfl Try.underlying23 rfl (by kernel_rfl)
  (try simp only [Act.put, sA, sB, sC])
  refine wpList_wp (by rfl) (fun K hK => ?_)
  (try go_simp)
  refine (tripR c _).mono ?_
  rintro e w2 ⟨rfl, hb⟩
  (try go_wp2_with fail)
  refine hK.out _ _ ?_
  clear hK K
  (try simp only [Act.put, sA, sB, sC])
  have HS2 := Lib.hid (Since.trans HS1.out hb)
  have HBC2 := Lib.hid (keep_blk hb HBC1.out)
  have HBL2 := Lib.hid (keep_blk hb HBL1.out)
  have HBX2 := Lib.hid (keep_blk hb HBX1.out)
  clear HS1 HBC1 HBL1 HBX1
  clear hb
  refine wpList_q (by rfl) (.pointer (some ⟨bL, 6, none⟩)) ?he ?_
  case he => (first | rfl | (go_simp; (try with_reducible rfl)))
  (try simp only [Act.put, sA, sB, sC])
  refine wpList_wp (by rfl) (fun K hK => ?_)
  refine wp_st_cell 3 _ _ rfl #[.int .i64 l.se, .int .i64 l.fl, .int .i64 l.fm, .int .i64 l.to, .int .i64 l.ma, .int .i64 l.ca, .int .i64 1, .int .i64 l.un, .int .i64 l.re, .int .i64 l.gr] (.int .i64 1) rfl rfl HBL2.out (by show 6 < 10; decide) rfl (by first | rfl | simp [Value.oneCell']) (by kernel_rfl) ?_
  intro w3 hw
  refine hK.out _ _ ?_
  clear hK K
  (try simp only [Act.put, sA, sB, sC])
  have HS3 := Lib.hid (show Since w w3 by rw [hw]; exact Since.setRow HS2.out (by have := HNE3.out; omega) _)
  have HBC3 := Lib.hid (show Blk w3 w.heap.size 23 (cfgA c) by rw [hw]; exact Blk.row_far HBC2.out (by have := HNE3.out; omega) _)
  have HBL3 := Lib.hid (show Blk w3 bL 56 #[.int .i64 l.se, .int .i64 l.fl, .int .i64 l.fm, .int .i64 l.to, .int .i64 l.ma, .int .i64 l.ca, .int .i64 1, .int .i64 l.un, .int .i64 l.re, .int .i64 l.gr] by rw [hw]; exact Blk.row HBL2.out _)
  have HBX3 := Lib.hid (show Blk w3 bX 76 (carA x) by rw [hw]; exact Blk.row_far HBX2.out (by have := HNE3.out; omega) _)
  clear hw HS2 HBC2 HBL2 HBX2
  refine wpList_q (by rfl) (.pointer (some ⟨bL, 8, none⟩)) ?he ?_
  case he => (first | rfl | (go_simp; (try with_reducible rfl)))
  (try simp only [Act.put, sA, sB, sC])
  refine wpList_wp (by rfl) (fun K hK => ?_)
  refine wp_st_cell 3 _ _ rfl #[.int .i64 l.se, .int .i64 l.fl, .int .i64 l.fm, .int .i64 l.to, .int .i64 l.ma, .int .i64 l.ca, .int .i64 1, .int .i64 l.un, .int .i64 0, .int .i64 l.gr] (.int .i64 0) rfl rfl HBL3.out (by show 8 < 10; decide) rfl (by first | rfl | simp [Value.oneCell']) (by kernel_rfl) ?_
  intro w4 hw
  refine hK.out _ _ ?_
  clear hK K
  (try simp only [Act.put, sA, sB, sC])
  have HS4 := Lib.hid (show Since w w4 by rw [hw]; exact Since.setRow HS3.out (by have := HNE3.out; omega) _)
  have HBC4 := Lib.hid (show Blk w4 w.heap.size 23 (cfgA c) by rw [hw]; exact Blk.row_far HBC3.out (by have := HNE3.out; omega) _)
  have HBL4 := Lib.hid (show Blk w4 bL 56 #[.int .i64 l.se, .int .i64 l.fl, .int .i64 l.fm, .int .i64 l.to, .int .i64 l.ma, .int .i64 l.ca, .int .i64 1, .int .i64 l.un, .int .i64 0, .int .i64 l.gr] by rw [hw]; exact Blk.row HBL3.out _)
  have HBX4 := Lib.hid (show Blk w4 bX 76 (carA x) by rw [hw]; exact Blk.row_far HBX3.out (by have := HNE3.out; omega) _)
  clear hw HS3 HBC3 HBL3 HBX3
  refine wpList_q (by rfl) (.pointer (some ⟨bL, 7, none⟩)) ?he ?_
  case he => (first | rfl | (go_simp; (try with_reducible rfl)))
  (try simp only [Act.put, sA, sB, sC])
  refine wpList_wp (by rfl) (fun K hK => ?_)
  refine wp_st_cell 3 _ _ rfl #[.int .i64 l.se, .int .i64 l.fl, .int .i64 l.fm, .int .i64 l.to, .int .i64 l.ma, .int .i64 l.ca, .int .i64 1, .int .i64 (trV c), .int .i64 0, .int .i64 l.gr] (.int .i64 (trV c)) rfl rfl HBL4.out (by show 7 < 10; decide) rfl (by first | rfl | simp [Value.oneCell']) (by kernel_rfl) ?_
  intro w5 hw
  refine hK.out _ _ ?_
  clear hK K
  (try simp only [Act.put, sA, sB, sC])
  have HS5 := Lib.hid (show Since w w5 by rw [hw]; exact Since.setRow HS4.out (by have := HNE3.out; omega) _)
  have HBC5 := Lib.hid (show Blk w5 w.heap.size 23 (cfgA c) by rw [hw]; exact Blk.row_far HBC4.out (by have := HNE3.out; omega) _)
  have HBL5 := Lib.hid (show Blk w5 bL 56 #[.int .i64 l.se, .int .i64 l.fl, .int .i64 l.fm, .int .i64 l.to, .int .i64 l.ma, .int .i64 l.ca, .int .i64 1, .int .i64 (trV c), .int .i64 0, .int .i64 l.gr] by rw [hw]; exact Blk.row HBL4.out _)
  have HBX5 := Lib.hid (show Blk w5 bX 76 (carA x) by rw [hw]; exact Blk.row_far HBX4.out (by have := HNE3.out; omega) _)
  clear hw HS4 HBC4 HBL4 HBX4
  refine wpList_q (by rfl) (.pointer (some ⟨bL, 9, none⟩)) ?he ?_
  case he => (first | rfl | (go_simp; (try with_reducible rfl)))
  (try simp only [Act.put, sA, sB, sC])
  refine wpList_wp (by rfl) (fun K hK => ?_)
  refine wp_st_cell 3 _ _ rfl #[.int .i64 l.se, .int .i64 l.fl, .int .i64 l.fm, .int .i64 l.to, .int .i64 l.ma, .int .i64 l.ca, .int .i64 1, .int .i64 (trV c), .int .i64 0, .int .i64 0] (.int .i64 0) rfl rfl HBL5.out (by show 9 < 10; decide) rfl (by first | rfl | simp [Value.oneCell']) (by kernel_rfl) ?_
  intro w6 hw
  refine hK.out _ _ ?_
  clear hK K
  (try simp only [Act.put, sA, sB, sC])
  have HS6 := Lib.hid (show Since w w6 by rw [hw]; exact Since.setRow HS5.out (by have := HNE3.out; omega) _)
  have HBC6 := Lib.hid (show Blk w6 w.heap.size 23 (cfgA c) by rw [hw]; exact Blk.row_far HBC5.out (by have := HNE3.out; omega) _)
  have HBL6 := Lib.hid (show Blk w6 bL 56 #[.int .i64 l.se, .int .i64 l.fl, .int .i64 l.fm, .int .i64 l.to, .int .i64 l.ma, .int .i64 l.ca, .int .i64 1, .int .i64 (trV c), .int .i64 0, .int .i64 0] by rw [hw]; exact Blk.row HBL5.out _)
  have HBX6 := Lib.hid (show Blk w6 bX 76 (carA x) by rw [hw]; exact Blk.row_far HBX5.out (by have := HNE3.out; omega) _)
  clear hw HS5 HBC5 HBL5 HBX5
  refine wpList_nil ?_
  go_wp2_with fail
  go_loopw [9] (fun s9 wr => ∃ (t : Int) (l2 : LeaseV) (x2 : CarV), 1 ≤ t ∧ s9 = .int .i64 t ∧ Hid ((0 ≤ l2.fm ∧ l2.fm ≤ 63 ∧ 0 ≤ l2.to ∧ l2.to ≤ 63) ∧ Lv c l2 t ∧ Since w wr ∧ Blk wr w.heap.size 23 (cfgA c) ∧ Blk wr bL 56 (leaA l2) ∧ Blk wr bX 76 (carA x2))) (fun s9 _ => (boV c + 1 - intOf s9).toNat)
  case atStart => exact ⟨1, (⟨l.se, l.fl, l.fm, l.to, l.ma, l.ca, 1, trV c, 0, 0⟩ : LeaseV), x, by omega, rfl, Lib.hid ⟨⟨by have := H4.out; show 0 ≤ l.fm; omega, by have := H5.out; show l.fm ≤ 63; omega, by have := H6.out; show 0 ≤ l.to; omega, by have := H7.out; show l.to ≤ 63; omega⟩, ⟨by simp, by simp, by simp, rn_lo _, by have := tr_lo c; show 1 ≤ trV c; omega, by show trV c + rem c 1 0 ≤ boV c; unfold rem boV; simp; omega⟩, HS6.out, HBC6.out, HBL6.out, HBX6.out⟩⟩
  case round =>
    obtain ⟨t, l2, x2, ht1, rfl, HO⟩ := hrel
    obtain ⟨e0, e1, g0, g1, g2, g3⟩ := HO.out
    clear HO HS6 HBC6 HBL6 HBX6
    have HFT := Lib.hid e0
    have HLV := Lib.hid e1
    have HS56 := Lib.hid g0
    have HBC56 := Lib.hid g1
    have HBL56 := Lib.hid g2
    have HBX56 := Lib.hid g3
    clear e0 e1 g0 g1 g2 g3
    have htB : t ≤ boV c := by obtain ⟨_, _, _, r1, hu, hb⟩ := HLV.out; have := rem_nn c l2.ph l2.re r1; omega
    have htb2 : t ≤ 1100000 := by have := bo_hi c; omega
    have HTB := Lib.hid htB; clear htB
    go_upto_region 5 with fail
    refine wp_region_lit ?_
    refine wpList_q (by rfl) (.int .i64 t) ?he ?_
    case he => (first | rfl | (go_simp; (try with_reducible rfl)))
    (try simp only [Act.put, sA, sB, sC])
    refine wpList_q (by rfl) (.agg (cfgA c)) ?he ?_
    case he => exact exec_load_row 23 _ _ HBC56.out rfl rfl Try.underlying23 rfl (by kernel_rfl)
    (try simp only [Act.put, sA, sB, sC])
    refine wpList_wp (by rfl) (fun K hK => ?_)
    (try go_simp)
    refine (boundT c _).mono ?_
    rintro e w57 ⟨rfl, hb⟩
    (try go_wp2_with fail)
    refine hK.out _ _ ?_
    clear hK K
    (try simp only [Act.put, sA, sB, sC])
    have HS57 := Lib.hid (Since.trans HS56.out hb)
    have HBC57 := Lib.hid (keep_blk hb HBC56.out)
    have HBL57 := Lib.hid (keep_blk hb HBL56.out)
    have HBX57 := Lib.hid (keep_blk hb HBX56.out)
    clear HS56 HBC56 HBL56 HBX56
    clear hb
    refine wpList_q (by rfl) (.bool true) ?he ?_
    case he => (have q := HTB.out; go_simp; (first | done | omega))
    (try simp only [Act.put, sA, sB, sC])
    refine wpList_nil ?_
    have HT0 := Lib.hid ht1
    by_cases hg : t < (len3 : Int)
    · obtain ⟨k, rfl⟩ := Int.eq_ofNat_of_zero_le (show 0 ≤ t by omega)
      have hgk : k < len3 := by omega
      obtain ⟨bG, oG, rfl, hbG, hcG⟩ : ∃ b o, a3 = some ⟨b, o, none⟩ ∧ b < w.heap.size ∧ ∀ j v, (Gl.msgC (gs k))[j]? = some v → w.cell? ⟨b, o + k * 4 + j, none⟩ = some v := by obtain ⟨b, o, e, h1, h2⟩ := Msgs.at_ HGV.out hgk; exact ⟨b, o, e, h1, fun j v hj => h2 k hgk j v hj⟩
      have HCG := Lib.hid hcG; clear hcG hbG
      go_upto_region 7 with fail
      refine wp_region_lit ?_
      refine wpList_q (by rfl) (.int .i64 (k : Int)) ?he ?_
      case he => (first | rfl | (go_simp; (try with_reducible rfl)))
      (try simp only [Act.put, sA, sB, sC])
      refine wpList_q (by rfl) (.slice (some ⟨bG, oG, none⟩) len3 cap3) ?he ?_
      case he => (first | rfl | (go_simp; (try with_reducible rfl)))
      (try simp only [Act.put, sA, sB, sC])
      refine wpList_q (by rfl) (.int .i64 len3) ?he ?_
      case he => (go_simp; (try with_reducible rfl))
      (try simp only [Act.put, sA, sB, sC])
      refine wpList_q (by rfl) (.bool true) ?he ?_
      case he => (go_simp; (first | done | omega))
      (try simp only [Act.put, sA, sB, sC])
      refine wpList_nil ?_
      go_upto_region 8 with fail
      have hrK : ∀ W W' : World, Since W W' → (Since w W ∧ Blk W w.heap.size 23 (cfgA c) ∧ Blk W bL 56 (leaA l2) ∧ Blk W bX 76 (carA x2)) → (Since w W' ∧ Blk W' w.heap.size 23 (cfgA c) ∧ Blk W' bL 56 (leaA l2) ∧ Blk W' bX 76 (carA x2)) := fun W W' k ⟨h, h0, h1, h2⟩ => ⟨h.trans k, keep_blk k h0, keep_blk k h1, keep_blk k h2⟩
      have hrS : (fun W : World => Since w W ∧ Blk W w.heap.size 23 (cfgA c) ∧ Blk W bL 56 (leaA l2) ∧ Blk W bX 76 (carA x2)) w57 := ⟨HS57.out, HBC57.out, HBL57.out, HBX57.out⟩
      have HRK := Lib.hid hrK
      have HRD := Lib.hid (show (fun W : World => Since w W ∧ Blk W w.heap.size 23 (cfgA c) ∧ Blk W bL 56 (leaA l2) ∧ Blk W bX 76 (carA x2)) (World.drew w57) from ⟨Since.drew hrS.1, hrS.2⟩)
      clear hrK hrS
      refine wp_region_held_drew (S := fun W : World => Since w W ∧ Blk W w.heap.size 23 (cfgA c) ∧ Blk W bL 56 (leaA l2) ∧ Blk W bX 76 (carA x2)) (by kernel_rfl) HRD.out (fun hHeld => ?_)
      refine wpAnyH_take (i := 0) (oi := ?o8__0) (v := .agg (cfgA c)) ?h8__0 (by kernel_rfl) (by kernel_rfl) (by kernel_rfl) ?q8__0 ?y8__0 (by assumption) ?_
      case h8__0 => (first | (simp only [gA, gB, gC]; done) | (simp only [gA, gB, gC]; exact rfl))
      case q8__0 => exact fun _ _ _ h => h
      case y8__0 => (refine Or.inl ⟨rfl, ?_⟩; intro w hSw; exact exec_load_row 23 _ _ hSw.2.1 rfl rfl Try.underlying23 rfl (by kernel_rfl))
      (try simp only [Act.put, sA, sB, sC])
      refine wpAnyH_take (i := 1) (oi := ?o8__1) (v := .agg (leaA l2)) ?h8__1 (by kernel_rfl) (by kernel_rfl) (by kernel_rfl) ?q8__1 ?y8__1 (by assumption) ?_
      case h8__1 => (first | (simp only [gA, gB, gC]; done) | (simp only [gA, gB, gC]; exact rfl))
      case q8__1 => exact fun _ _ _ h => h
      case y8__1 => (refine Or.inl ⟨rfl, ?_⟩; intro w hSw; exact exec_load_row 56 _ _ hSw.2.2.1 rfl rfl Try.underlying56 rfl (by kernel_rfl))
      (try simp only [Act.put, sA, sB, sC])
      refine wpAnyH_take (i := 2) (oi := ?o8__2) (v := .agg (carA x2)) ?h8__2 (by kernel_rfl) (by kernel_rfl) (by kernel_rfl) ?q8__2 ?y8__2 (by assumption) ?_
      case h8__2 => (first | (simp only [gA, gB, gC]; done) | (simp only [gA, gB, gC]; exact rfl))
      case q8__2 => exact fun _ _ _ h => h
      case y8__2 => (refine Or.inl ⟨rfl, ?_⟩; intro w hSw; exact exec_load_row 76 _ _ hSw.2.2.2 rfl rfl Try.underlying76 rfl (by kernel_rfl))
      (try simp only [Act.put, sA, sB, sC])
      refine wpAnyH_take (i := 3) (oi := ?o8__3) (v := .int .i64 (k : Int)) ?h8__3 (by kernel_rfl) (by kernel_rfl) (by kernel_rfl) ?q8__3 ?y8__3 (by assumption) ?_
      case h8__3 => (first | (simp only [gA, gB, gC]; done) | (simp only [gA, gB, gC]; exact rfl))
      case q8__3 => exact fun _ _ _ h => h
      case y8__3 => (refine Or.inl ⟨rfl, ?_⟩; intro w hSw; (first | rfl | (go_simp; (try with_reducible rfl))))
      (try simp only [Act.put, sA, sB, sC])
      refine wpAnyH_take (i := 4) (oi := ?o8__4) (v := .slice (some ⟨bG, oG, none⟩) len3 cap3) ?h8__4 (by kernel_rfl) (by kernel_rfl) (by kernel_rfl) ?q8__4 ?y8__4 (by assumption) ?_
      case h8__4 => (first | (simp only [gA, gB, gC]; done) | (simp only [gA, gB, gC]; exact rfl))
      case q8__4 => exact fun _ _ _ h => h
      case y8__4 => (refine Or.inl ⟨rfl, ?_⟩; intro w hSw; (first | rfl | (go_simp; (try with_reducible rfl))))
      (try simp only [Act.put, sA, sB, sC])
      refine wpAnyH_take (i := 5) (oi := ?o8__5) (v := .int .i64 (k : Int)) ?h8__5 (by kernel_rfl) (by kernel_rfl) (by kernel_rfl) ?q8__5 ?y8__5 (by assumption) ?_
      case h8__5 => (first | (simp only [gA, gB, gC]; done) | (simp only [gA, gB, gC]; exact rfl))
      case q8__5 => exact fun _ _ _ h => h
      case y8__5 => (refine Or.inl ⟨rfl, ?_⟩; intro w hSw; (first | rfl | (go_simp; (try with_reducible rfl))))
      (try simp only [Act.put, sA, sB, sC])
      refine wpAnyH_take (i := 6) (oi := ?o8__6) (v := .pointer (some ⟨bG, (oG + k * 4), none⟩)) ?h8__6 (by kernel_rfl) (by kernel_rfl) (by kernel_rfl) ?q8__6 ?y8__6 (by assumption) ?_
      case h8__6 => (first | (simp only [gA, gB, gC]; done) | (simp only [gA, gB, gC]; exact rfl))
      case q8__6 => exact fun _ _ _ h => h
      case y8__6 => (refine Or.inl ⟨rfl, ?_⟩; intro w hSw; (first | rfl | (go_simp; (try with_reducible rfl))))
      (try simp only [Act.put, sA, sB, sC])
      refine wpAnyH_take (i := 7) (oi := ?o8__7) (v := .agg #[.int .i64 ((gs k).ki), .int .i64 ((gs k).a), .int .i64 ((gs k).b), .int .i64 ((gs k).c)]) ?h8__7 (by kernel_rfl) (by kernel_rfl) (by kernel_rfl) ?q8__7 ?y8__7 (by assumption) ?_
      case h8__7 => (first | (simp only [gA, gB, gC]; done) | (simp only [gA, gB, gC]; exact rfl))
      case q8__7 => exact fun _ _ _ h => h
      case y8__7 => (refine Or.inl ⟨rfl, ?_⟩; intro w hSw; exact exec_rng (l := Gl.msgC (gs k)) 85 _ _ (fun j v hv => keep_cell hSw.1 (HCG.out j v hv)) rfl rfl Try.underlying85 rfl (by kernel_rfl))
      (try simp only [Act.put, sA, sB, sC])
      refine wpAnyH_ready (rs := [8, 13]) (by kernel_rfl) (by simp) ?_
      refine AllReadyH.cons (o := ?o8__8b) ?h8__8b (fun K hK => ?g8__8b) (AllReadyH.cons (o := ?o8__13b) ?h8__13b (fun K hK => ?g8__13b) AllReadyH.nil)
      case h8__8b => (first | (simp only [gA, gB, gC]; done) | (simp only [gA, gB, gC]; exact rfl))
      case h8__13b => (first | (simp only [gA, gB, gC]; done) | (simp only [gA, gB, gC]; exact rfl))
      case g8__8b =>
        (try go_simp)
        refine (hearE2 c l2 x2 (k : Int) (gs k) (by omega) HLV.out _).mono ?_
        rintro e w58 ⟨v9, ph, un, re, ov, rfl, hfa, hb⟩
        (try go_wp2_with fail)
        refine hK.out _ _ (by (apply HRK.out; exact hb; exact hHeld)) (fun hHeld2 => ?_)
        have HFA := Lib.hid hfa
        clear hfa
        clear hK K hHeld hb
        have hHeld := hHeld2
        clear hHeld2
        (try simp only [Act.put, sA, sB, sC])
        refine wpAnyH_take (i := 9) (oi := ?o8_b8_9) (v := .tuple #[.agg (leaA ⟨l2.se, l2.fl, l2.fm, l2.to, l2.ma, l2.ca, ph, un, re, l2.gr⟩), v9, .bool ov]) ?h8_b8_9 (by kernel_rfl) (by kernel_rfl) (by kernel_rfl) ?q8_b8_9 ?y8_b8_9 (by assumption) ?_
        case h8_b8_9 => (first | (simp only [gA, gB, gC]; done) | (simp only [gA, gB, gC]; exact rfl))
        case q8_b8_9 => exact fun _ _ _ h => h
        case y8_b8_9 => (refine Or.inl ⟨rfl, ?_⟩; intro w hSw; (first | rfl | (go_simp; (try with_reducible rfl))))
        (try simp only [Act.put, sA, sB, sC])
        refine wpAnyH_take (i := 10) (oi := ?o8_b8_10) (v := .agg (leaA ⟨l2.se, l2.fl, l2.fm, l2.to, l2.ma, l2.ca, ph, un, re, l2.gr⟩)) ?h8_b8_10 (by kernel_rfl) (by kernel_rfl) (by kernel_rfl) ?q8_b8_10 ?y8_b8_10 (by assumption) ?_
        case h8_b8_10 => (first | (simp only [gA, gB, gC]; done) | (simp only [gA, gB, gC]; exact rfl))
        case q8_b8_10 => exact fun _ _ _ h => h
        case y8_b8_10 => (refine Or.inl ⟨rfl, ?_⟩; intro w hSw; (first | rfl | (go_simp; (try with_reducible rfl))))
        (try simp only [Act.put, sA, sB, sC])
        refine wpAnyH_take (i := 11) (oi := ?o8_b8_11) (v := v9) ?h8_b8_11 (by kernel_rfl) (by kernel_rfl) (by kernel_rfl) ?q8_b8_11 ?y8_b8_11 (by assumption) ?_
        case h8_b8_11 => (first | (simp only [gA, gB, gC]; done) | (simp only [gA, gB, gC]; exact rfl))
        case q8_b8_11 => exact fun _ _ _ h => h
        case y8_b8_11 => (refine Or.inl ⟨rfl, ?_⟩; intro w hSw; (first | rfl | (go_simp; (try with_reducible rfl))))
        (try simp only [Act.put, sA, sB, sC])
        refine wpAnyH_take (i := 12) (oi := ?o8_b8_12) (v := .bool ov) ?h8_b8_12 (by kernel_rfl) (by kernel_rfl) (by kernel_rfl) ?q8_b8_12 ?y8_b8_12 (by assumption) ?_
        case h8_b8_12 => (first | (simp only [gA, gB, gC]; done) | (simp only [gA, gB, gC]; exact rfl))
        case q8_b8_12 => exact fun _ _ _ h => h
        case y8_b8_12 => (refine Or.inl ⟨rfl, ?_⟩; intro w hSw; (first | rfl | (go_simp; (try with_reducible rfl))))
        (try simp only [Act.put, sA, sB, sC])
        refine wpAnyH_ready (rs := [13]) (by kernel_rfl) (by simp) ?_
        refine AllReadyH.cons (o := ?o8_b8_13) ?h8_b8_13 (fun K hK => ?_) AllReadyH.nil
        case h8_b8_13 => (first | (simp only [gA, gB, gC]; done) | (simp only [gA, gB, gC]; exact rfl))
        rw [if_pos (by rfl)]
        refine wp_new (fun b => .pointer (some ⟨b, 0, none⟩)) 56 #[.int .i64 0, .int .i64 0, .int .i64 0, .int .i64 0, .int .i64 0, .int .i64 0, .int .i64 0, .int .i64 0, .int .i64 0, .int .i64 0] (by rintro b rfl; first | rfl | kernel_rfl) ?_
        intro bn10 w59 hge hB hb
        refine hK.out _ _ (by (apply HRK.out; exact hb; exact hHeld)) (fun hHeld2 => ?_)
        have HNn10C := Lib.hid (show bn10 ≠ w.heap.size by have := Blk.lt (hHeld.2.1); (try simp at this); (try simp at hge); omega)
        have HNn10L := Lib.hid (show bn10 ≠ bL by have := Blk.lt (hHeld.2.2.1); (try simp at this); (try simp at hge); omega)
        have HNn10X := Lib.hid (show bn10 ≠ bX by have := Blk.lt (hHeld.2.2.2); (try simp at this); (try simp at hge); omega)
        have HGn10 := Lib.hid (show w.heap.size ≤ bn10 by have := Since.size hHeld.1; (try simp at this); (try simp at hge); omega)
        have HXn10 := Lib.hid hB
        clear hB
        clear hge
        clear hK K hHeld hb
        have hHeld := hHeld2
        clear hHeld2
        (try simp only [Act.put, sA, sB, sC])
        refine wpAnyH_ready (rs := [14]) (by kernel_rfl) (by simp) ?_
        refine AllReadyH.cons (o := ?o8_b8_14) ?h8_b8_14 (fun K hK => ?_) AllReadyH.nil
        case h8_b8_14 => (first | (simp only [gA, gB, gC]; done) | (simp only [gA, gB, gC]; exact rfl))
        rw [if_pos (by rfl)]
        refine wp_st_row 56 _ _ rfl (leaA ⟨l2.se, l2.fl, l2.fm, l2.to, l2.ma, l2.ca, ph, un, re, l2.gr⟩) rfl rfl (HasRow.of HXn10.out rfl) rfl (by simp [cfgA, leaA, carA, msgC, Value.oneCell']) (by kernel_rfl) ?_
        intro w60 hw
        have HXn102 := Lib.hid (show Blk w60 bn10 56 (leaA ⟨l2.se, l2.fl, l2.fm, l2.to, l2.ma, l2.ca, ph, un, re, l2.gr⟩) by rw [hw]; exact Blk.row HXn10.out _)
        have hHeld3 : (fun W : World => Since w W ∧ Blk W w.heap.size 23 (cfgA c) ∧ Blk W bL 56 (leaA l2) ∧ Blk W bX 76 (carA x2)) w60 := ⟨by rw [hw]; exact Since.setRow hHeld.1 HGn10.out _, by rw [hw]; exact Blk.row_far (hHeld.2.1) (Ne.symm HNn10C.out) _, by rw [hw]; exact Blk.row_far (hHeld.2.2.1) (Ne.symm HNn10L.out) _, by rw [hw]; exact Blk.row_far (hHeld.2.2.2) (Ne.symm HNn10X.out) _⟩
        refine hK.out _ _ hHeld3 (fun hHeld2 => ?_)
        clear HXn10 hK K hHeld hHeld3 hw
        have hHeld := hHeld2
        clear hHeld2
        (try simp only [Act.put, sA, sB, sC])
        refine wpAnyH_take (i := 15) (oi := ?o8_b8_15) (v := v9) ?h8_b8_15 (by kernel_rfl) (by kernel_rfl) (by kernel_rfl) ?q8_b8_15 ?y8_b8_15 (by assumption) ?_
        case h8_b8_15 => (first | (simp only [gA, gB, gC]; done) | (simp only [gA, gB, gC]; exact rfl))
        case q8_b8_15 => exact fun _ _ _ h => h
        case y8_b8_15 => (refine Or.inl ⟨rfl, ?_⟩; intro w hSw; (first | rfl | (go_simp; (try with_reducible rfl))))
        (try simp only [Act.put, sA, sB, sC])
        refine wpAnyH_take (i := 16) (oi := ?o8_b8_16) (v := .bool ov) ?h8_b8_16 (by kernel_rfl) (by kernel_rfl) (by kernel_rfl) ?q8_b8_16 ?y8_b8_16 (by assumption) ?_
        case h8_b8_16 => (first | (simp only [gA, gB, gC]; done) | (simp only [gA, gB, gC]; exact rfl))
        case q8_b8_16 => exact fun _ _ _ h => h
        case y8_b8_16 => (refine Or.inl ⟨rfl, ?_⟩; intro w hSw; (first | rfl | (go_simp; (try with_reducible rfl))))
        (try simp only [Act.put, sA, sB, sC])
        refine wpAnyH_done (by kernel_rfl) ?_ _
        have HSd8 := Lib.hid hHeld.1
        have HBCd8 := Lib.hid (hHeld.2.1)
        have HBLd8 := Lib.hid (hHeld.2.2.1)
        have HBXd8 := Lib.hid (hHeld.2.2.2)
        clear hHeld HRK HRD HS57 HBC57 HBL57 HBX57
        cases hov : ov
        · skip
          obtain ⟨l3, hl3⟩ : ∃ l3 : LeaseV, l3 = ⟨l2.se, l2.fl, l2.fm, l2.to, l2.ma, l2.ca, ph, un, re, l2.gr⟩ := ⟨_, rfl⟩
          have HL3 := Lib.hid (show Lv c l3 (k : Int) by rw [hl3]; rcases HFA.out with h | h; rw [hov] at h; exact absurd h (by decide); exact h)
          have HF3 := Lib.hid (show 0 ≤ l3.fm ∧ l3.fm ≤ 63 ∧ 0 ≤ l3.to ∧ l3.to ≤ 63 by rw [hl3]; exact HFT.out)
          clear hov
          go_upto_region 9 with fail
          refine wp_region_lit ?_
          refine wpList_q (by rfl) (.bool false) ?he ?_
          case he => (first | rfl | (go_simp; (try with_reducible rfl)))
          (try simp only [Act.put, sA, sB, sC])
          refine wpList_nil ?_
          go_upto_region 11 with fail
          refine wp_region_lit ?_
          refine wpList_q (by rfl) (.agg (leaA ⟨l2.se, l2.fl, l2.fm, l2.to, l2.ma, l2.ca, ph, un, re, l2.gr⟩)) ?he ?_
          case he => exact exec_load_row 56 _ _ HXn102.out rfl rfl Try.underlying56 rfl (by kernel_rfl)
          (try simp only [Act.put, sA, sB, sC])
          refine wpList_wp (by rfl) (fun K hK => ?_)
          refine wp_st_row 56 _ _ rfl (leaA ⟨l2.se, l2.fl, l2.fm, l2.to, l2.ma, l2.ca, ph, un, re, l2.gr⟩) rfl rfl (HasRow.of HBLd8.out rfl) rfl (by simp [cfgA, leaA, carA, msgC, Value.oneCell']) (by kernel_rfl) ?_
          intro w61 hw
          refine hK.out _ _ ?_
          clear hK K
          (try simp only [Act.put, sA, sB, sC])
          have HS61 := Lib.hid (show Since w w61 by rw [hw]; exact Since.setRow HSd8.out (by have := HNE3.out; omega) _)
          have HBC61 := Lib.hid (show Blk w61 w.heap.size 23 (cfgA c) by rw [hw]; exact Blk.row_far HBCd8.out (by have := HNE3.out; omega) _)
          have HBL61 := Lib.hid (show Blk w61 bL 56 (leaA ⟨l2.se, l2.fl, l2.fm, l2.to, l2.ma, l2.ca, ph, un, re, l2.gr⟩) by rw [hw]; exact Blk.row HBLd8.out _)
          have HBX61 := Lib.hid (show Blk w61 bX 76 (carA x2) by rw [hw]; exact Blk.row_far HBXd8.out (by have := HNE3.out; omega) _)
          have HBn1061 := Lib.hid (show Blk w61 bn10 56 (leaA ⟨l2.se, l2.fl, l2.fm, l2.to, l2.ma, l2.ca, ph, un, re, l2.gr⟩) by rw [hw]; exact Blk.row_far HXn102.out HNn10L.out _)
          clear hw HSd8 HBCd8 HBLd8 HBXd8 HXn102
          refine wpList_nil ?_
          have HBL3 := Lib.hid (show Blk w61 bL 56 (leaA l3) by rw [hl3]; exact HBL61.out)
          clear hl3 HFA HBL61
          go_upto_region 12 with fail
          refine wp_region_lit ?_
          refine wpList_q (by rfl) (.pointer (some ⟨bL, 0, none⟩)) ?he ?_
          case he => (first | rfl | (go_simp; (try with_reducible rfl)))
          (try simp only [Act.put, sA, sB, sC])
          refine wpList_q (by rfl) (.pointer (some ⟨bL, 2, none⟩)) ?he ?_
          case he => (first | rfl | (go_simp; (try with_reducible rfl)))
          (try simp only [Act.put, sA, sB, sC])
          refine wpList_q (by rfl) (.int .i64 l3.fm) ?he ?_
          case he => exact exec_cell 3 _ _ HBL3.out rfl rfl rfl Try.underlying3 rfl
          (try simp only [Act.put, sA, sB, sC])
          refine wpList_q (by rfl) (.int .i64 (4 * l3.fm)) ?he ?_
          case he => (go_simp; (first | done | (refine Ri.wr _ ?_ ?_ <;> (have q0 := HF3.out; omega)) | (have q0 := HF3.out; omega) | (have q0 := HF3.out; split <;> omega) | (have q0 := HF3.out; intro hh; omega)))
          (try simp only [Act.put, sA, sB, sC])
          refine wpList_q (by rfl) (.pointer (some ⟨bX, 2, none⟩)) ?he ?_
          case he => (first | rfl | (go_simp; (try with_reducible rfl)))
          (try simp only [Act.put, sA, sB, sC])
          refine wpList_wp (by rfl) (fun K hK => ?_)
          refine wp_st_cell 3 _ _ rfl #[.int .i64 x2.ds, .int .i64 x2.da, .int .i64 (4 * l3.fm), .int .i64 x2.wy, .int .i64 x2.ti, .int .i64 x2.ju, .int .i64 x2.lo, .bool x2.bl, .bool x2.br, .int .i64 x2.mo, .int .i64 x2.ta, .bool x2.ho, .int .u64 x2.sp, .int .u64 x2.su, .int .u64 x2.sd] (.int .i64 (4 * l3.fm)) rfl rfl HBX61.out (by show 2 < 15; decide) rfl (by first | rfl | simp [Value.oneCell']) (by kernel_rfl) ?_
          intro w62 hw
          refine hK.out _ _ ?_
          clear hK K
          (try simp only [Act.put, sA, sB, sC])
          have HS62 := Lib.hid (show Since w w62 by rw [hw]; exact Since.setRow HS61.out (by have := HNE3.out; omega) _)
          have HBC62 := Lib.hid (show Blk w62 w.heap.size 23 (cfgA c) by rw [hw]; exact Blk.row_far HBC61.out (by have := HNE3.out; omega) _)
          have HBL62 := Lib.hid (show Blk w62 bL 56 (leaA l3) by rw [hw]; exact Blk.row_far HBL3.out (by have := HNE3.out; omega) _)
          have HBX62 := Lib.hid (show Blk w62 bX 76 (carA (⟨x2.ds, x2.da, (4 * l3.fm), x2.wy, x2.ti, x2.ju, x2.lo, x2.bl, x2.br, x2.mo, x2.ta, x2.ho, x2.sp, x2.su, x2.sd⟩ : CarV)) by rw [hw]; exact Blk.row HBX61.out _)
          have HBn1062 := Lib.hid (show Blk w62 bn10 56 (leaA ⟨l2.se, l2.fl, l2.fm, l2.to, l2.ma, l2.ca, ph, un, re, l2.gr⟩) by rw [hw]; exact Blk.row_far HBn1061.out HNn10X.out _)
          clear hw HS61 HBC61 HBL3 HBX61 HBn1061
          refine wpList_nil ?_
          by_cases hp : 3 ≤ l3.ph
          · have HP9 := Lib.hid hp; clear hp
            go_upto_region 13 with fail
            refine wp_region_lit ?_
            refine wpList_q (by rfl) (.pointer (some ⟨bL, 6, none⟩)) ?he ?_
            case he => (first | rfl | (go_simp; (try with_reducible rfl)))
            (try simp only [Act.put, sA, sB, sC])
            refine wpList_q (by rfl) (.int .i64 l3.ph) ?he ?_
            case he => exact exec_cell 3 _ _ HBL62.out rfl rfl rfl Try.underlying3 rfl
            (try simp only [Act.put, sA, sB, sC])
            refine wpList_q (by rfl) (.bool true) ?he ?_
            case he => (have q := HP9.out; go_simp; (first | done | omega))
            (try simp only [Act.put, sA, sB, sC])
            refine wpList_nil ?_
            go_upto_region 14 with fail
            refine wp_region_lit ?_
            refine wpList_q (by rfl) (.pointer (some ⟨bL, 0, none⟩)) ?he ?_
            case he => (first | rfl | (go_simp; (try with_reducible rfl)))
            (try simp only [Act.put, sA, sB, sC])
            refine wpList_q (by rfl) (.pointer (some ⟨bL, 3, none⟩)) ?he ?_
            case he => (first | rfl | (go_simp; (try with_reducible rfl)))
            (try simp only [Act.put, sA, sB, sC])
            refine wpList_q (by rfl) (.int .i64 l3.to) ?he ?_
            case he => exact exec_cell 3 _ _ HBL62.out rfl rfl rfl Try.underlying3 rfl
            (try simp only [Act.put, sA, sB, sC])
            refine wpList_q (by rfl) (.int .i64 (4 * l3.to)) ?he ?_
            case he => (go_simp; (first | done | (refine Ri.wr _ ?_ ?_ <;> (have q0 := HF3.out; omega)) | (have q0 := HF3.out; omega) | (have q0 := HF3.out; split <;> omega) | (have q0 := HF3.out; intro hh; omega)))
            (try simp only [Act.put, sA, sB, sC])
            refine wpList_q (by rfl) (.pointer (some ⟨bX, 2, none⟩)) ?he ?_
            case he => (first | rfl | (go_simp; (try with_reducible rfl)))
            (try simp only [Act.put, sA, sB, sC])
            refine wpList_wp (by rfl) (fun K hK => ?_)
            refine wp_st_cell 3 _ _ rfl #[.int .i64 x2.ds, .int .i64 x2.da, .int .i64 (4 * l3.to), .int .i64 x2.wy, .int .i64 x2.ti, .int .i64 x2.ju, .int .i64 x2.lo, .bool x2.bl, .bool x2.br, .int .i64 x2.mo, .int .i64 x2.ta, .bool x2.ho, .int .u64 x2.sp, .int .u64 x2.su, .int .u64 x2.sd] (.int .i64 (4 * l3.to)) rfl rfl HBX62.out (by show 2 < 15; decide) rfl (by first | rfl | simp [Value.oneCell']) (by kernel_rfl) ?_
            intro w63 hw
            refine hK.out _ _ ?_
            clear hK K
            (try simp only [Act.put, sA, sB, sC])
            have HS63 := Lib.hid (show Since w w63 by rw [hw]; exact Since.setRow HS62.out (by have := HNE3.out; omega) _)
            have HBC63 := Lib.hid (show Blk w63 w.heap.size 23 (cfgA c) by rw [hw]; exact Blk.row_far HBC62.out (by have := HNE3.out; omega) _)
            have HBL63 := Lib.hid (show Blk w63 bL 56 (leaA l3) by rw [hw]; exact Blk.row_far HBL62.out (by have := HNE3.out; omega) _)
            have HBX63 := Lib.hid (show Blk w63 bX 76 (carA (⟨x2.ds, x2.da, (4 * l3.to), x2.wy, x2.ti, x2.ju, x2.lo, x2.bl, x2.br, x2.mo, x2.ta, x2.ho, x2.sp, x2.su, x2.sd⟩ : CarV)) by rw [hw]; exact Blk.row HBX62.out _)
            have HBn1063 := Lib.hid (show Blk w63 bn10 56 (leaA ⟨l2.se, l2.fl, l2.fm, l2.to, l2.ma, l2.ca, ph, un, re, l2.gr⟩) by rw [hw]; exact Blk.row_far HBn1062.out HNn10X.out _)
            clear hw HS62 HBC62 HBL62 HBX62 HBn1062
            refine wpList_nil ?_
            go_upto_region 15 with fail
            refine wp_region_lit ?_
            refine wpList_q (by rfl) (.agg (cfgA c)) ?he ?_
            case he => exact exec_load_row 23 _ _ HBC63.out rfl rfl Try.underlying23 rfl (by kernel_rfl)
            (try simp only [Act.put, sA, sB, sC])
            refine wpList_q (by rfl) (.agg (leaA l3)) ?he ?_
            case he => exact exec_load_row 56 _ _ HBL63.out rfl rfl Try.underlying56 rfl (by kernel_rfl)
            (try simp only [Act.put, sA, sB, sC])
            refine wpList_q (by rfl) (.agg (carA (⟨x2.ds, x2.da, (4 * l3.to), x2.wy, x2.ti, x2.ju, x2.lo, x2.bl, x2.br, x2.mo, x2.ta, x2.ho, x2.sp, x2.su, x2.sd⟩ : CarV))) ?he ?_
            case he => exact exec_load_row 76 _ _ HBX63.out rfl rfl Try.underlying76 rfl (by kernel_rfl)
            (try simp only [Act.put, sA, sB, sC])
            refine wpList_q (by rfl) (.int .i64 (k : Int)) ?he ?_
            case he => (first | rfl | (go_simp; (try with_reducible rfl)))
            (try simp only [Act.put, sA, sB, sC])
            refine wpList_wp (by rfl) (fun K hK => ?_)
            (try go_simp)
            refine (tickE2 c l3 (⟨x2.ds, x2.da, (4 * l3.to), x2.wy, x2.ti, x2.ju, x2.lo, x2.bl, x2.br, x2.mo, x2.ta, x2.ho, x2.sp, x2.su, x2.sd⟩ : CarV) (k : Int) (by have := HT0.out; omega) HL3.out _).mono ?_
            rintro e w64 ⟨v92, ph2, un2, re2, ov2, rfl, hfa, hb⟩
            (try go_wp2_with fail)
            refine hK.out _ _ ?_
            clear hK K
            (try simp only [Act.put, sA, sB, sC])
            have HS64 := Lib.hid (Since.trans HS63.out hb)
            have HBC64 := Lib.hid (keep_blk hb HBC63.out)
            have HBL64 := Lib.hid (keep_blk hb HBL63.out)
            have HBX64 := Lib.hid (keep_blk hb HBX63.out)
            have HBn1064 := Lib.hid (keep_blk hb HBn1063.out)
            clear HS63 HBC63 HBL63 HBX63 HBn1063
            clear hb
            have HFA := Lib.hid hfa
            clear hfa
            refine wpList_q (by rfl) (.tuple #[.agg (leaA ⟨l3.se, l3.fl, l3.fm, l3.to, l3.ma, l3.ca, ph2, un2, re2, l3.gr⟩), v92, .bool ov2]) ?he ?_
            case he => (first | rfl | (go_simp; (try with_reducible rfl)))
            (try simp only [Act.put, sA, sB, sC])
            refine wpList_q (by rfl) (.agg (leaA ⟨l3.se, l3.fl, l3.fm, l3.to, l3.ma, l3.ca, ph2, un2, re2, l3.gr⟩)) ?he ?_
            case he => (first | rfl | (go_simp; (try with_reducible rfl)))
            (try simp only [Act.put, sA, sB, sC])
            refine wpList_q (by rfl) (v92) ?he ?_
            case he => (first | rfl | (go_simp; (try with_reducible rfl)))
            (try simp only [Act.put, sA, sB, sC])
            refine wpList_q (by rfl) (.bool ov2) ?he ?_
            case he => (first | rfl | (go_simp; (try with_reducible rfl)))
            (try simp only [Act.put, sA, sB, sC])
            refine wpList_wp (by rfl) (fun K hK => ?_)
            refine wp_new (fun b => .pointer (some ⟨b, 0, none⟩)) 56 #[.int .i64 0, .int .i64 0, .int .i64 0, .int .i64 0, .int .i64 0, .int .i64 0, .int .i64 0, .int .i64 0, .int .i64 0, .int .i64 0] (by rintro b rfl; first | rfl | kernel_rfl) ?_
            intro bn13 w65 hge hB hb
            refine hK.out _ _ ?_
            clear hK K
            (try simp only [Act.put, sA, sB, sC])
            have HNn13C := Lib.hid (show bn13 ≠ w.heap.size by have := Blk.lt HBC64.out; omega)
            have HNn13L := Lib.hid (show bn13 ≠ bL by have := Blk.lt HBL64.out; omega)
            have HNn13X := Lib.hid (show bn13 ≠ bX by have := Blk.lt HBX64.out; omega)
            have HNn13n10 := Lib.hid (show bn13 ≠ bn10 by have := Blk.lt HBn1064.out; omega)
            have HGn13 := Lib.hid (show w.heap.size ≤ bn13 by have := Since.size HS64.out; omega)
            have HS65 := Lib.hid (Since.trans HS64.out hb)
            have HBC65 := Lib.hid (keep_blk hb HBC64.out)
            have HBL65 := Lib.hid (keep_blk hb HBL64.out)
            have HBX65 := Lib.hid (keep_blk hb HBX64.out)
            have HBn1065 := Lib.hid (keep_blk hb HBn1064.out)
            clear HS64 HBC64 HBL64 HBX64 HBn1064
            clear hb hge
            have HBn1365 := Lib.hid hB
            clear hB
            refine wpList_wp (by rfl) (fun K hK => ?_)
            refine wp_st_row 56 _ _ rfl (leaA ⟨l3.se, l3.fl, l3.fm, l3.to, l3.ma, l3.ca, ph2, un2, re2, l3.gr⟩) rfl rfl (HasRow.of HBn1365.out rfl) rfl (by simp [cfgA, leaA, carA, msgC, Value.oneCell']) (by kernel_rfl) ?_
            intro w66 hw
            refine hK.out _ _ ?_
            clear hK K
            (try simp only [Act.put, sA, sB, sC])
            have HS66 := Lib.hid (show Since w w66 by rw [hw]; exact Since.setRow HS65.out HGn13.out _)
            have HBC66 := Lib.hid (show Blk w66 w.heap.size 23 (cfgA c) by rw [hw]; exact Blk.row_far HBC65.out (Ne.symm HNn13C.out) _)
            have HBL66 := Lib.hid (show Blk w66 bL 56 (leaA l3) by rw [hw]; exact Blk.row_far HBL65.out (Ne.symm HNn13L.out) _)
            have HBX66 := Lib.hid (show Blk w66 bX 76 (carA (⟨x2.ds, x2.da, (4 * l3.to), x2.wy, x2.ti, x2.ju, x2.lo, x2.bl, x2.br, x2.mo, x2.ta, x2.ho, x2.sp, x2.su, x2.sd⟩ : CarV)) by rw [hw]; exact Blk.row_far HBX65.out (Ne.symm HNn13X.out) _)
            have HBn1066 := Lib.hid (show Blk w66 bn10 56 (leaA ⟨l2.se, l2.fl, l2.fm, l2.to, l2.ma, l2.ca, ph, un, re, l2.gr⟩) by rw [hw]; exact Blk.row_far HBn1065.out (Ne.symm HNn13n10.out) _)
            have HBn1366 := Lib.hid (show Blk w66 bn13 56 (leaA ⟨l3.se, l3.fl, l3.fm, l3.to, l3.ma, l3.ca, ph2, un2, re2, l3.gr⟩) by rw [hw]; exact Blk.row HBn1365.out _)
            clear hw HS65 HBC65 HBL65 HBX65 HBn1065 HBn1365
            refine wpList_q (by rfl) (v92) ?he ?_
            case he => (first | rfl | (go_simp; (try with_reducible rfl)))
            (try simp only [Act.put, sA, sB, sC])
            refine wpList_q (by rfl) (.bool ov2) ?he ?_
            case he => (first | rfl | (go_simp; (try with_reducible rfl)))
            (try simp only [Act.put, sA, sB, sC])
            refine wpList_nil ?_
            cases hov : ov2
            · skip
              have HLN := Lib.hid (show Lv c ⟨l3.se, l3.fl, l3.fm, l3.to, l3.ma, l3.ca, ph2, un2, re2, l3.gr⟩ ((k : Int) + 1) by rcases HFA.out with h | h; rw [hov] at h; exact absurd h (by decide); exact h)
              clear hov
              go_upto_region 16 with fail
              refine wp_region_lit ?_
              refine wpList_q (by rfl) (.bool false) ?he ?_
              case he => (first | rfl | (go_simp; (try with_reducible rfl)))
              (try simp only [Act.put, sA, sB, sC])
              refine wpList_nil ?_
              go_upto_region 18 with fail
              refine wp_region_lit ?_
              refine wpList_q (by rfl) (.agg (leaA ⟨l3.se, l3.fl, l3.fm, l3.to, l3.ma, l3.ca, ph2, un2, re2, l3.gr⟩)) ?he ?_
              case he => exact exec_load_row 56 _ _ HBn1366.out rfl rfl Try.underlying56 rfl (by kernel_rfl)
              (try simp only [Act.put, sA, sB, sC])
              refine wpList_wp (by rfl) (fun K hK => ?_)
              refine wp_st_row 56 _ _ rfl (leaA ⟨l3.se, l3.fl, l3.fm, l3.to, l3.ma, l3.ca, ph2, un2, re2, l3.gr⟩) rfl rfl (HasRow.of HBL66.out rfl) rfl (by simp [cfgA, leaA, carA, msgC, Value.oneCell']) (by kernel_rfl) ?_
              intro w67 hw
              refine hK.out _ _ ?_
              clear hK K
              (try simp only [Act.put, sA, sB, sC])
              have HS67 := Lib.hid (show Since w w67 by rw [hw]; exact Since.setRow HS66.out (by have := HNE3.out; omega) _)
              have HBC67 := Lib.hid (show Blk w67 w.heap.size 23 (cfgA c) by rw [hw]; exact Blk.row_far HBC66.out (by have := HNE3.out; omega) _)
              have HBL67 := Lib.hid (show Blk w67 bL 56 (leaA ⟨l3.se, l3.fl, l3.fm, l3.to, l3.ma, l3.ca, ph2, un2, re2, l3.gr⟩) by rw [hw]; exact Blk.row HBL66.out _)
              have HBX67 := Lib.hid (show Blk w67 bX 76 (carA (⟨x2.ds, x2.da, (4 * l3.to), x2.wy, x2.ti, x2.ju, x2.lo, x2.bl, x2.br, x2.mo, x2.ta, x2.ho, x2.sp, x2.su, x2.sd⟩ : CarV)) by rw [hw]; exact Blk.row_far HBX66.out (by have := HNE3.out; omega) _)
              have HBn1067 := Lib.hid (show Blk w67 bn10 56 (leaA ⟨l2.se, l2.fl, l2.fm, l2.to, l2.ma, l2.ca, ph, un, re, l2.gr⟩) by rw [hw]; exact Blk.row_far HBn1066.out HNn10L.out _)
              have HBn1367 := Lib.hid (show Blk w67 bn13 56 (leaA ⟨l3.se, l3.fl, l3.fm, l3.to, l3.ma, l3.ca, ph2, un2, re2, l3.gr⟩) by rw [hw]; exact Blk.row_far HBn1366.out HNn13L.out _)
              clear hw HS66 HBC66 HBL66 HBX66 HBn1066 HBn1366
              refine wpList_nil ?_
              go_wp2_with fail
              go_roundw
              case rel => exact ⟨(k : Int) + 1, ⟨l3.se, l3.fl, l3.fm, l3.to, l3.ma, l3.ca, ph2, un2, re2, l3.gr⟩, (⟨x2.ds, x2.da, (4 * l3.to), x2.wy, x2.ti, x2.ju, x2.lo, x2.bl, x2.br, x2.mo, x2.ta, x2.ho, x2.sp, x2.su, x2.sd⟩ : CarV), by omega, by go_num, Lib.hid ⟨HF3.out, HLN.out, HS67.out, HBC67.out, HBL67.out, HBX67.out⟩⟩
              case measure => have := HTB.out; simp [intOf]; omega
            · skip
              clear hov
              go_upto_region 16 with fail
              refine wp_region_lit ?_
              refine wpList_q (by rfl) (.bool true) ?he ?_
              case he => (first | rfl | (go_simp; (try with_reducible rfl)))
              (try simp only [Act.put, sA, sB, sC])
              refine wpList_nil ?_
              go_upto_region 17 with fail
              refine wp_region_lit ?_
              refine wpList_wp (by rfl) (fun K hK => ?_)
              (try go_simp)
              refine (ans _).mono ?_
              rintro e w67 ⟨rfl, hb⟩
              (try go_wp2_with fail)
              refine hK.out _ _ ?_
              clear hK K
              (try simp only [Act.put, sA, sB, sC])
              have HS67 := Lib.hid (Since.trans HS66.out hb)
              have HBC67 := Lib.hid (keep_blk hb HBC66.out)
              have HBL67 := Lib.hid (keep_blk hb HBL66.out)
              have HBX67 := Lib.hid (keep_blk hb HBX66.out)
              have HBn1067 := Lib.hid (keep_blk hb HBn1066.out)
              have HBn1367 := Lib.hid (keep_blk hb HBn1366.out)
              clear HS66 HBC66 HBL66 HBX66 HBn1066 HBn1366
              clear hb
              refine wpList_q (by rfl) (.bool true) ?he ?_
              case he => (first | rfl | (go_simp; (try with_reducible rfl)))
              (try simp only [Act.put, sA, sB, sC])
              refine wpList_nil ?_
              (try go_wp2_with fail)
              go_ret
              exact ⟨rfl, HS67.out⟩
          · have HP9 := Lib.hid hp; clear hp
            go_upto_region 13 with fail
            refine wp_region_lit ?_
            refine wpList_q (by rfl) (.pointer (some ⟨bL, 6, none⟩)) ?he ?_
            case he => (first | rfl | (go_simp; (try with_reducible rfl)))
            (try simp only [Act.put, sA, sB, sC])
            refine wpList_q (by rfl) (.int .i64 l3.ph) ?he ?_
            case he => exact exec_cell 3 _ _ HBL62.out rfl rfl rfl Try.underlying3 rfl
            (try simp only [Act.put, sA, sB, sC])
            refine wpList_q (by rfl) (.bool false) ?he ?_
            case he => (have q := HP9.out; go_simp; (first | done | omega))
            (try simp only [Act.put, sA, sB, sC])
            refine wpList_nil ?_
            go_upto_region 15 with fail
            refine wp_region_lit ?_
            refine wpList_q (by rfl) (.agg (cfgA c)) ?he ?_
            case he => exact exec_load_row 23 _ _ HBC62.out rfl rfl Try.underlying23 rfl (by kernel_rfl)
            (try simp only [Act.put, sA, sB, sC])
            refine wpList_q (by rfl) (.agg (leaA l3)) ?he ?_
            case he => exact exec_load_row 56 _ _ HBL62.out rfl rfl Try.underlying56 rfl (by kernel_rfl)
            (try simp only [Act.put, sA, sB, sC])
            refine wpList_q (by rfl) (.agg (carA (⟨x2.ds, x2.da, (4 * l3.fm), x2.wy, x2.ti, x2.ju, x2.lo, x2.bl, x2.br, x2.mo, x2.ta, x2.ho, x2.sp, x2.su, x2.sd⟩ : CarV))) ?he ?_
            case he => exact exec_load_row 76 _ _ HBX62.out rfl rfl Try.underlying76 rfl (by kernel_rfl)
            (try simp only [Act.put, sA, sB, sC])
            refine wpList_q (by rfl) (.int .i64 (k : Int)) ?he ?_
            case he => (first | rfl | (go_simp; (try with_reducible rfl)))
            (try simp only [Act.put, sA, sB, sC])
            refine wpList_wp (by rfl) (fun K hK => ?_)
            (try go_simp)
            refine (tickE2 c l3 (⟨x2.ds, x2.da, (4 * l3.fm), x2.wy, x2.ti, x2.ju, x2.lo, x2.bl, x2.br, x2.mo, x2.ta, x2.ho, x2.sp, x2.su, x2.sd⟩ : CarV) (k : Int) (by have := HT0.out; omega) HL3.out _).mono ?_
            rintro e w63 ⟨v92, ph2, un2, re2, ov2, rfl, hfa, hb⟩
            (try go_wp2_with fail)
            refine hK.out _ _ ?_
            clear hK K
            (try simp only [Act.put, sA, sB, sC])
            have HS63 := Lib.hid (Since.trans HS62.out hb)
            have HBC63 := Lib.hid (keep_blk hb HBC62.out)
            have HBL63 := Lib.hid (keep_blk hb HBL62.out)
            have HBX63 := Lib.hid (keep_blk hb HBX62.out)
            have HBn1063 := Lib.hid (keep_blk hb HBn1062.out)
            clear HS62 HBC62 HBL62 HBX62 HBn1062
            clear hb
            have HFA := Lib.hid hfa
            clear hfa
            refine wpList_q (by rfl) (.tuple #[.agg (leaA ⟨l3.se, l3.fl, l3.fm, l3.to, l3.ma, l3.ca, ph2, un2, re2, l3.gr⟩), v92, .bool ov2]) ?he ?_
            case he => (first | rfl | (go_simp; (try with_reducible rfl)))
            (try simp only [Act.put, sA, sB, sC])
            refine wpList_q (by rfl) (.agg (leaA ⟨l3.se, l3.fl, l3.fm, l3.to, l3.ma, l3.ca, ph2, un2, re2, l3.gr⟩)) ?he ?_
            case he => (first | rfl | (go_simp; (try with_reducible rfl)))
            (try simp only [Act.put, sA, sB, sC])
            refine wpList_q (by rfl) (v92) ?he ?_
            case he => (first | rfl | (go_simp; (try with_reducible rfl)))
            (try simp only [Act.put, sA, sB, sC])
            refine wpList_q (by rfl) (.bool ov2) ?he ?_
            case he => (first | rfl | (go_simp; (try with_reducible rfl)))
            (try simp only [Act.put, sA, sB, sC])
            refine wpList_wp (by rfl) (fun K hK => ?_)
            refine wp_new (fun b => .pointer (some ⟨b, 0, none⟩)) 56 #[.int .i64 0, .int .i64 0, .int .i64 0, .int .i64 0, .int .i64 0, .int .i64 0, .int .i64 0, .int .i64 0, .int .i64 0, .int .i64 0] (by rintro b rfl; first | rfl | kernel_rfl) ?_
            intro bn13 w64 hge hB hb
            refine hK.out _ _ ?_
            clear hK K
            (try simp only [Act.put, sA, sB, sC])
            have HNn13C := Lib.hid (show bn13 ≠ w.heap.size by have := Blk.lt HBC63.out; omega)
            have HNn13L := Lib.hid (show bn13 ≠ bL by have := Blk.lt HBL63.out; omega)
            have HNn13X := Lib.hid (show bn13 ≠ bX by have := Blk.lt HBX63.out; omega)
            have HNn13n10 := Lib.hid (show bn13 ≠ bn10 by have := Blk.lt HBn1063.out; omega)
            have HGn13 := Lib.hid (show w.heap.size ≤ bn13 by have := Since.size HS63.out; omega)
            have HS64 := Lib.hid (Since.trans HS63.out hb)
            have HBC64 := Lib.hid (keep_blk hb HBC63.out)
            have HBL64 := Lib.hid (keep_blk hb HBL63.out)
            have HBX64 := Lib.hid (keep_blk hb HBX63.out)
            have HBn1064 := Lib.hid (keep_blk hb HBn1063.out)
            clear HS63 HBC63 HBL63 HBX63 HBn1063
            clear hb hge
            have HBn1364 := Lib.hid hB
            clear hB
            refine wpList_wp (by rfl) (fun K hK => ?_)
            refine wp_st_row 56 _ _ rfl (leaA ⟨l3.se, l3.fl, l3.fm, l3.to, l3.ma, l3.ca, ph2, un2, re2, l3.gr⟩) rfl rfl (HasRow.of HBn1364.out rfl) rfl (by simp [cfgA, leaA, carA, msgC, Value.oneCell']) (by kernel_rfl) ?_
            intro w65 hw
            refine hK.out _ _ ?_
            clear hK K
            (try simp only [Act.put, sA, sB, sC])
            have HS65 := Lib.hid (show Since w w65 by rw [hw]; exact Since.setRow HS64.out HGn13.out _)
            have HBC65 := Lib.hid (show Blk w65 w.heap.size 23 (cfgA c) by rw [hw]; exact Blk.row_far HBC64.out (Ne.symm HNn13C.out) _)
            have HBL65 := Lib.hid (show Blk w65 bL 56 (leaA l3) by rw [hw]; exact Blk.row_far HBL64.out (Ne.symm HNn13L.out) _)
            have HBX65 := Lib.hid (show Blk w65 bX 76 (carA (⟨x2.ds, x2.da, (4 * l3.fm), x2.wy, x2.ti, x2.ju, x2.lo, x2.bl, x2.br, x2.mo, x2.ta, x2.ho, x2.sp, x2.su, x2.sd⟩ : CarV)) by rw [hw]; exact Blk.row_far HBX64.out (Ne.symm HNn13X.out) _)
            have HBn1065 := Lib.hid (show Blk w65 bn10 56 (leaA ⟨l2.se, l2.fl, l2.fm, l2.to, l2.ma, l2.ca, ph, un, re, l2.gr⟩) by rw [hw]; exact Blk.row_far HBn1064.out (Ne.symm HNn13n10.out) _)
            have HBn1365 := Lib.hid (show Blk w65 bn13 56 (leaA ⟨l3.se, l3.fl, l3.fm, l3.to, l3.ma, l3.ca, ph2, un2, re2, l3.gr⟩) by rw [hw]; exact Blk.row HBn1364.out _)
            clear hw HS64 HBC64 HBL64 HBX64 HBn1064 HBn1364
            refine wpList_q (by rfl) (v92) ?he ?_
            case he => (first | rfl | (go_simp; (try with_reducible rfl)))
            (try simp only [Act.put, sA, sB, sC])
            refine wpList_q (by rfl) (.bool ov2) ?he ?_
            case he => (first | rfl | (go_simp; (try with_reducible rfl)))
            (try simp only [Act.put, sA, sB, sC])
            refine wpList_nil ?_
            cases hov : ov2
            · skip
              have HLN := Lib.hid (show Lv c ⟨l3.se, l3.fl, l3.fm, l3.to, l3.ma, l3.ca, ph2, un2, re2, l3.gr⟩ ((k : Int) + 1) by rcases HFA.out with h | h; rw [hov] at h; exact absurd h (by decide); exact h)
              clear hov
              go_upto_region 16 with fail
              refine wp_region_lit ?_
              refine wpList_q (by rfl) (.bool false) ?he ?_
              case he => (first | rfl | (go_simp; (try with_reducible rfl)))
              (try simp only [Act.put, sA, sB, sC])
              refine wpList_nil ?_
              go_upto_region 18 with fail
              refine wp_region_lit ?_
              refine wpList_q (by rfl) (.agg (leaA ⟨l3.se, l3.fl, l3.fm, l3.to, l3.ma, l3.ca, ph2, un2, re2, l3.gr⟩)) ?he ?_
              case he => exact exec_load_row 56 _ _ HBn1365.out rfl rfl Try.underlying56 rfl (by kernel_rfl)
              (try simp only [Act.put, sA, sB, sC])
              refine wpList_wp (by rfl) (fun K hK => ?_)
              refine wp_st_row 56 _ _ rfl (leaA ⟨l3.se, l3.fl, l3.fm, l3.to, l3.ma, l3.ca, ph2, un2, re2, l3.gr⟩) rfl rfl (HasRow.of HBL65.out rfl) rfl (by simp [cfgA, leaA, carA, msgC, Value.oneCell']) (by kernel_rfl) ?_
              intro w66 hw
              refine hK.out _ _ ?_
              clear hK K
              (try simp only [Act.put, sA, sB, sC])
              have HS66 := Lib.hid (show Since w w66 by rw [hw]; exact Since.setRow HS65.out (by have := HNE3.out; omega) _)
              have HBC66 := Lib.hid (show Blk w66 w.heap.size 23 (cfgA c) by rw [hw]; exact Blk.row_far HBC65.out (by have := HNE3.out; omega) _)
              have HBL66 := Lib.hid (show Blk w66 bL 56 (leaA ⟨l3.se, l3.fl, l3.fm, l3.to, l3.ma, l3.ca, ph2, un2, re2, l3.gr⟩) by rw [hw]; exact Blk.row HBL65.out _)
              have HBX66 := Lib.hid (show Blk w66 bX 76 (carA (⟨x2.ds, x2.da, (4 * l3.fm), x2.wy, x2.ti, x2.ju, x2.lo, x2.bl, x2.br, x2.mo, x2.ta, x2.ho, x2.sp, x2.su, x2.sd⟩ : CarV)) by rw [hw]; exact Blk.row_far HBX65.out (by have := HNE3.out; omega) _)
              have HBn1066 := Lib.hid (show Blk w66 bn10 56 (leaA ⟨l2.se, l2.fl, l2.fm, l2.to, l2.ma, l2.ca, ph, un, re, l2.gr⟩) by rw [hw]; exact Blk.row_far HBn1065.out HNn10L.out _)
              have HBn1366 := Lib.hid (show Blk w66 bn13 56 (leaA ⟨l3.se, l3.fl, l3.fm, l3.to, l3.ma, l3.ca, ph2, un2, re2, l3.gr⟩) by rw [hw]; exact Blk.row_far HBn1365.out HNn13L.out _)
              clear hw HS65 HBC65 HBL65 HBX65 HBn1065 HBn1365
              refine wpList_nil ?_
              go_wp2_with fail
              go_roundw
              case rel => exact ⟨(k : Int) + 1, ⟨l3.se, l3.fl, l3.fm, l3.to, l3.ma, l3.ca, ph2, un2, re2, l3.gr⟩, (⟨x2.ds, x2.da, (4 * l3.fm), x2.wy, x2.ti, x2.ju, x2.lo, x2.bl, x2.br, x2.mo, x2.ta, x2.ho, x2.sp, x2.su, x2.sd⟩ : CarV), by omega, by go_num, Lib.hid ⟨HF3.out, HLN.out, HS66.out, HBC66.out, HBL66.out, HBX66.out⟩⟩
              case measure => have := HTB.out; simp [intOf]; omega
            · skip
              clear hov
              go_upto_region 16 with fail
              refine wp_region_lit ?_
              refine wpList_q (by rfl) (.bool true) ?he ?_
              case he => (first | rfl | (go_simp; (try with_reducible rfl)))
              (try simp only [Act.put, sA, sB, sC])
              refine wpList_nil ?_
              go_upto_region 17 with fail
              refine wp_region_lit ?_
              refine wpList_wp (by rfl) (fun K hK => ?_)
              (try go_simp)
              refine (ans _).mono ?_
              rintro e w66 ⟨rfl, hb⟩
              (try go_wp2_with fail)
              refine hK.out _ _ ?_
              clear hK K
              (try simp only [Act.put, sA, sB, sC])
              have HS66 := Lib.hid (Since.trans HS65.out hb)
              have HBC66 := Lib.hid (keep_blk hb HBC65.out)
              have HBL66 := Lib.hid (keep_blk hb HBL65.out)
              have HBX66 := Lib.hid (keep_blk hb HBX65.out)
              have HBn1066 := Lib.hid (keep_blk hb HBn1065.out)
              have HBn1366 := Lib.hid (keep_blk hb HBn1365.out)
              clear HS65 HBC65 HBL65 HBX65 HBn1065 HBn1365
              clear hb
              refine wpList_q (by rfl) (.bool true) ?he ?_
              case he => (first | rfl | (go_simp; (try with_reducible rfl)))
              (try simp only [Act.put, sA, sB, sC])
              refine wpList_nil ?_
              (try go_wp2_with fail)
              go_ret
              exact ⟨rfl, HS66.out⟩
        · skip
          clear hov
          go_upto_region 9 with fail
          refine wp_region_lit ?_
          refine wpList_q (by rfl) (.bool true) ?he ?_
          case he => (first | rfl | (go_simp; (try with_reducible rfl)))
          (try simp only [Act.put, sA, sB, sC])
          refine wpList_nil ?_
          go_upto_region 10 with fail
          refine wp_region_lit ?_
          refine wpList_wp (by rfl) (fun K hK => ?_)
          (try go_simp)
          refine (ans _).mono ?_
          rintro e w61 ⟨rfl, hb⟩
          (try go_wp2_with fail)
          refine hK.out _ _ ?_
          clear hK K
          (try simp only [Act.put, sA, sB, sC])
          have HS61 := Lib.hid (Since.trans HSd8.out hb)
          have HBC61 := Lib.hid (keep_blk hb HBCd8.out)
          have HBL61 := Lib.hid (keep_blk hb HBLd8.out)
          have HBX61 := Lib.hid (keep_blk hb HBXd8.out)
          have HBn1061 := Lib.hid (keep_blk hb HXn102.out)
          clear HSd8 HBCd8 HBLd8 HBXd8 HXn102
          clear hb
          refine wpList_q (by rfl) (.bool true) ?he ?_
          case he => (first | rfl | (go_simp; (try with_reducible rfl)))
          (try simp only [Act.put, sA, sB, sC])
          refine wpList_nil ?_
          (try go_wp2_with fail)
          go_ret
          exact ⟨rfl, HS61.out⟩
      case g8__13b =>
        rw [if_pos (by rfl)]
        refine wp_new (fun b => .pointer (some ⟨b, 0, none⟩)) 56 #[.int .i64 0, .int .i64 0, .int .i64 0, .int .i64 0, .int .i64 0, .int .i64 0, .int .i64 0, .int .i64 0, .int .i64 0, .int .i64 0] (by rintro b rfl; first | rfl | kernel_rfl) ?_
        intro bn10 w58 hge hB hb
        refine hK.out _ _ (by (apply HRK.out; exact hb; exact hHeld)) (fun hHeld2 => ?_)
        have HNn10C := Lib.hid (show bn10 ≠ w.heap.size by have := Blk.lt (hHeld.2.1); (try simp at this); (try simp at hge); omega)
        have HNn10L := Lib.hid (show bn10 ≠ bL by have := Blk.lt (hHeld.2.2.1); (try simp at this); (try simp at hge); omega)
        have HNn10X := Lib.hid (show bn10 ≠ bX by have := Blk.lt (hHeld.2.2.2); (try simp at this); (try simp at hge); omega)
        have HGn10 := Lib.hid (show w.heap.size ≤ bn10 by have := Since.size hHeld.1; (try simp at this); (try simp at hge); omega)
        have HXn10 := Lib.hid hB
        clear hB
        clear hge
        clear hK K hHeld hb
        have hHeld := hHeld2
        clear hHeld2
        (try simp only [Act.put, sA, sB, sC])
        refine wpAnyH_ready (rs := [8]) (by kernel_rfl) (by simp) ?_
        refine AllReadyH.cons (o := ?o8_b13_8) ?h8_b13_8 (fun K hK => ?_) AllReadyH.nil
        case h8_b13_8 => (first | (simp only [gA, gB, gC]; done) | (simp only [gA, gB, gC]; exact rfl))
        (try go_simp)
        refine (hearE2 c l2 x2 (k : Int) (gs k) (by omega) HLV.out _).mono ?_
        rintro e w59 ⟨v9, ph, un, re, ov, rfl, hfa, hb⟩
        (try go_wp2_with fail)
        refine hK.out _ _ (by (apply HRK.out; exact hb; exact hHeld)) (fun hHeld2 => ?_)
        have HXn102 := Lib.hid (keep_blk hb HXn10.out)
        clear HXn10
        have HFA := Lib.hid hfa
        clear hfa
        clear hK K hHeld hb
        have hHeld := hHeld2
        clear hHeld2
        (try simp only [Act.put, sA, sB, sC])
        refine wpAnyH_take (i := 9) (oi := ?o8_b13_9) (v := .tuple #[.agg (leaA ⟨l2.se, l2.fl, l2.fm, l2.to, l2.ma, l2.ca, ph, un, re, l2.gr⟩), v9, .bool ov]) ?h8_b13_9 (by kernel_rfl) (by kernel_rfl) (by kernel_rfl) ?q8_b13_9 ?y8_b13_9 (by assumption) ?_
        case h8_b13_9 => (first | (simp only [gA, gB, gC]; done) | (simp only [gA, gB, gC]; exact rfl))
        case q8_b13_9 => exact fun _ _ _ h => h
        case y8_b13_9 => (refine Or.inl ⟨rfl, ?_⟩; intro w hSw; (first | rfl | (go_simp; (try with_reducible rfl))))
        (try simp only [Act.put, sA, sB, sC])
        refine wpAnyH_take (i := 10) (oi := ?o8_b13_10) (v := .agg (leaA ⟨l2.se, l2.fl, l2.fm, l2.to, l2.ma, l2.ca, ph, un, re, l2.gr⟩)) ?h8_b13_10 (by kernel_rfl) (by kernel_rfl) (by kernel_rfl) ?q8_b13_10 ?y8_b13_10 (by assumption) ?_
        case h8_b13_10 => (first | (simp only [gA, gB, gC]; done) | (simp only [gA, gB, gC]; exact rfl))
        case q8_b13_10 => exact fun _ _ _ h => h
        case y8_b13_10 => (refine Or.inl ⟨rfl, ?_⟩; intro w hSw; (first | rfl | (go_simp; (try with_reducible rfl))))
        (try simp only [Act.put, sA, sB, sC])
        refine wpAnyH_take (i := 11) (oi := ?o8_b13_11) (v := v9) ?h8_b13_11 (by kernel_rfl) (by kernel_rfl) (by kernel_rfl) ?q8_b13_11 ?y8_b13_11 (by assumption) ?_
        case h8_b13_11 => (first | (simp only [gA, gB, gC]; done) | (simp only [gA, gB, gC]; exact rfl))
        case q8_b13_11 => exact fun _ _ _ h => h
        case y8_b13_11 => (refine Or.inl ⟨rfl, ?_⟩; intro w hSw; (first | rfl | (go_simp; (try with_reducible rfl))))
        (try simp only [Act.put, sA, sB, sC])
        refine wpAnyH_take (i := 12) (oi := ?o8_b13_12) (v := .bool ov) ?h8_b13_12 (by kernel_rfl) (by kernel_rfl) (by kernel_rfl) ?q8_b13_12 ?y8_b13_12 (by assumption) ?_
        case h8_b13_12 => (first | (simp only [gA, gB, gC]; done) | (simp only [gA, gB, gC]; exact rfl))
        case q8_b13_12 => exact fun _ _ _ h => h
        case y8_b13_12 => (refine Or.inl ⟨rfl, ?_⟩; intro w hSw; (first | rfl | (go_simp; (try with_reducible rfl))))
        (try simp only [Act.put, sA, sB, sC])
        refine wpAnyH_ready (rs := [14]) (by kernel_rfl) (by simp) ?_
        refine AllReadyH.cons (o := ?o8_b13_14) ?h8_b13_14 (fun K hK => ?_) AllReadyH.nil
        case h8_b13_14 => (first | (simp only [gA, gB, gC]; done) | (simp only [gA, gB, gC]; exact rfl))
        rw [if_pos (by rfl)]
        refine wp_st_row 56 _ _ rfl (leaA ⟨l2.se, l2.fl, l2.fm, l2.to, l2.ma, l2.ca, ph, un, re, l2.gr⟩) rfl rfl (HasRow.of HXn102.out rfl) rfl (by simp [cfgA, leaA, carA, msgC, Value.oneCell']) (by kernel_rfl) ?_
        intro w60 hw
        have HXn1022 := Lib.hid (show Blk w60 bn10 56 (leaA ⟨l2.se, l2.fl, l2.fm, l2.to, l2.ma, l2.ca, ph, un, re, l2.gr⟩) by rw [hw]; exact Blk.row HXn102.out _)
        have hHeld3 : (fun W : World => Since w W ∧ Blk W w.heap.size 23 (cfgA c) ∧ Blk W bL 56 (leaA l2) ∧ Blk W bX 76 (carA x2)) w60 := ⟨by rw [hw]; exact Since.setRow hHeld.1 HGn10.out _, by rw [hw]; exact Blk.row_far (hHeld.2.1) (Ne.symm HNn10C.out) _, by rw [hw]; exact Blk.row_far (hHeld.2.2.1) (Ne.symm HNn10L.out) _, by rw [hw]; exact Blk.row_far (hHeld.2.2.2) (Ne.symm HNn10X.out) _⟩
        refine hK.out _ _ hHeld3 (fun hHeld2 => ?_)
        clear HXn102 hK K hHeld hHeld3 hw
        have hHeld := hHeld2
        clear hHeld2
        (try simp only [Act.put, sA, sB, sC])
        refine wpAnyH_take (i := 15) (oi := ?o8_b13_15) (v := v9) ?h8_b13_15 (by kernel_rfl) (by kernel_rfl) (by kernel_rfl) ?q8_b13_15 ?y8_b13_15 (by assumption) ?_
        case h8_b13_15 => (first | (simp only [gA, gB, gC]; done) | (simp only [gA, gB, gC]; exact rfl))
        case q8_b13_15 => exact fun _ _ _ h => h
        case y8_b13_15 => (refine Or.inl ⟨rfl, ?_⟩; intro w hSw; (first | rfl | (go_simp; (try with_reducible rfl))))
        (try simp only [Act.put, sA, sB, sC])
        refine wpAnyH_take (i := 16) (oi := ?o8_b13_16) (v := .bool ov) ?h8_b13_16 (by kernel_rfl) (by kernel_rfl) (by kernel_rfl) ?q8_b13_16 ?y8_b13_16 (by assumption) ?_
        case h8_b13_16 => (first | (simp only [gA, gB, gC]; done) | (simp only [gA, gB, gC]; exact rfl))
        case q8_b13_16 => exact fun _ _ _ h => h
        case y8_b13_16 => (refine Or.inl ⟨rfl, ?_⟩; intro w hSw; (first | rfl | (go_simp; (try with_reducible rfl))))
        (try simp only [Act.put, sA, sB, sC])
        refine wpAnyH_done (by kernel_rfl) ?_ _
        have HSd8 := Lib.hid hHeld.1
        have HBCd8 := Lib.hid (hHeld.2.1)
        have HBLd8 := Lib.hid (hHeld.2.2.1)
        have HBXd8 := Lib.hid (hHeld.2.2.2)
        clear hHeld HRK HRD HS57 HBC57 HBL57 HBX57
        cases hov : ov
        · skip
          obtain ⟨l3, hl3⟩ : ∃ l3 : LeaseV, l3 = ⟨l2.se, l2.fl, l2.fm, l2.to, l2.ma, l2.ca, ph, un, re, l2.gr⟩ := ⟨_, rfl⟩
          have HL3 := Lib.hid (show Lv c l3 (k : Int) by rw [hl3]; rcases HFA.out with h | h; rw [hov] at h; exact absurd h (by decide); exact h)
          have HF3 := Lib.hid (show 0 ≤ l3.fm ∧ l3.fm ≤ 63 ∧ 0 ≤ l3.to ∧ l3.to ≤ 63 by rw [hl3]; exact HFT.out)
          clear hov
          go_upto_region 9 with fail
          refine wp_region_lit ?_
          refine wpList_q (by rfl) (.bool false) ?he ?_
          case he => (first | rfl | (go_simp; (try with_reducible rfl)))
          (try simp only [Act.put, sA, sB, sC])
          refine wpList_nil ?_
          go_upto_region 11 with fail
          refine wp_region_lit ?_
          refine wpList_q (by rfl) (.agg (leaA ⟨l2.se, l2.fl, l2.fm, l2.to, l2.ma, l2.ca, ph, un, re, l2.gr⟩)) ?he ?_
          case he => exact exec_load_row 56 _ _ HXn1022.out rfl rfl Try.underlying56 rfl (by kernel_rfl)
          (try simp only [Act.put, sA, sB, sC])
          refine wpList_wp (by rfl) (fun K hK => ?_)
          refine wp_st_row 56 _ _ rfl (leaA ⟨l2.se, l2.fl, l2.fm, l2.to, l2.ma, l2.ca, ph, un, re, l2.gr⟩) rfl rfl (HasRow.of HBLd8.out rfl) rfl (by simp [cfgA, leaA, carA, msgC, Value.oneCell']) (by kernel_rfl) ?_
          intro w61 hw
          refine hK.out _ _ ?_
          clear hK K
          (try simp only [Act.put, sA, sB, sC])
          have HS61 := Lib.hid (show Since w w61 by rw [hw]; exact Since.setRow HSd8.out (by have := HNE3.out; omega) _)
          have HBC61 := Lib.hid (show Blk w61 w.heap.size 23 (cfgA c) by rw [hw]; exact Blk.row_far HBCd8.out (by have := HNE3.out; omega) _)
          have HBL61 := Lib.hid (show Blk w61 bL 56 (leaA ⟨l2.se, l2.fl, l2.fm, l2.to, l2.ma, l2.ca, ph, un, re, l2.gr⟩) by rw [hw]; exact Blk.row HBLd8.out _)
          have HBX61 := Lib.hid (show Blk w61 bX 76 (carA x2) by rw [hw]; exact Blk.row_far HBXd8.out (by have := HNE3.out; omega) _)
          have HBn1061 := Lib.hid (show Blk w61 bn10 56 (leaA ⟨l2.se, l2.fl, l2.fm, l2.to, l2.ma, l2.ca, ph, un, re, l2.gr⟩) by rw [hw]; exact Blk.row_far HXn1022.out HNn10L.out _)
          clear hw HSd8 HBCd8 HBLd8 HBXd8 HXn1022
          refine wpList_nil ?_
          have HBL3 := Lib.hid (show Blk w61 bL 56 (leaA l3) by rw [hl3]; exact HBL61.out)
          clear hl3 HFA HBL61
          go_upto_region 12 with fail
          refine wp_region_lit ?_
          refine wpList_q (by rfl) (.pointer (some ⟨bL, 0, none⟩)) ?he ?_
          case he => (first | rfl | (go_simp; (try with_reducible rfl)))
          (try simp only [Act.put, sA, sB, sC])
          refine wpList_q (by rfl) (.pointer (some ⟨bL, 2, none⟩)) ?he ?_
          case he => (first | rfl | (go_simp; (try with_reducible rfl)))
          (try simp only [Act.put, sA, sB, sC])
          refine wpList_q (by rfl) (.int .i64 l3.fm) ?he ?_
          case he => exact exec_cell 3 _ _ HBL3.out rfl rfl rfl Try.underlying3 rfl
          (try simp only [Act.put, sA, sB, sC])
          refine wpList_q (by rfl) (.int .i64 (4 * l3.fm)) ?he ?_
          case he => (go_simp; (first | done | (refine Ri.wr _ ?_ ?_ <;> (have q0 := HF3.out; omega)) | (have q0 := HF3.out; omega) | (have q0 := HF3.out; split <;> omega) | (have q0 := HF3.out; intro hh; omega)))
          (try simp only [Act.put, sA, sB, sC])
          refine wpList_q (by rfl) (.pointer (some ⟨bX, 2, none⟩)) ?he ?_
          case he => (first | rfl | (go_simp; (try with_reducible rfl)))
          (try simp only [Act.put, sA, sB, sC])
          refine wpList_wp (by rfl) (fun K hK => ?_)
          refine wp_st_cell 3 _ _ rfl #[.int .i64 x2.ds, .int .i64 x2.da, .int .i64 (4 * l3.fm), .int .i64 x2.wy, .int .i64 x2.ti, .int .i64 x2.ju, .int .i64 x2.lo, .bool x2.bl, .bool x2.br, .int .i64 x2.mo, .int .i64 x2.ta, .bool x2.ho, .int .u64 x2.sp, .int .u64 x2.su, .int .u64 x2.sd] (.int .i64 (4 * l3.fm)) rfl rfl HBX61.out (by show 2 < 15; decide) rfl (by first | rfl | simp [Value.oneCell']) (by kernel_rfl) ?_
          intro w62 hw
          refine hK.out _ _ ?_
          clear hK K
          (try simp only [Act.put, sA, sB, sC])
          have HS62 := Lib.hid (show Since w w62 by rw [hw]; exact Since.setRow HS61.out (by have := HNE3.out; omega) _)
          have HBC62 := Lib.hid (show Blk w62 w.heap.size 23 (cfgA c) by rw [hw]; exact Blk.row_far HBC61.out (by have := HNE3.out; omega) _)
          have HBL62 := Lib.hid (show Blk w62 bL 56 (leaA l3) by rw [hw]; exact Blk.row_far HBL3.out (by have := HNE3.out; omega) _)
          have HBX62 := Lib.hid (show Blk w62 bX 76 (carA (⟨x2.ds, x2.da, (4 * l3.fm), x2.wy, x2.ti, x2.ju, x2.lo, x2.bl, x2.br, x2.mo, x2.ta, x2.ho, x2.sp, x2.su, x2.sd⟩ : CarV)) by rw [hw]; exact Blk.row HBX61.out _)
          have HBn1062 := Lib.hid (show Blk w62 bn10 56 (leaA ⟨l2.se, l2.fl, l2.fm, l2.to, l2.ma, l2.ca, ph, un, re, l2.gr⟩) by rw [hw]; exact Blk.row_far HBn1061.out HNn10X.out _)
          clear hw HS61 HBC61 HBL3 HBX61 HBn1061
          refine wpList_nil ?_
          by_cases hp : 3 ≤ l3.ph
          · have HP9 := Lib.hid hp; clear hp
            go_upto_region 13 with fail
            refine wp_region_lit ?_
            refine wpList_q (by rfl) (.pointer (some ⟨bL, 6, none⟩)) ?he ?_
            case he => (first | rfl | (go_simp; (try with_reducible rfl)))
            (try simp only [Act.put, sA, sB, sC])
            refine wpList_q (by rfl) (.int .i64 l3.ph) ?he ?_
            case he => exact exec_cell 3 _ _ HBL62.out rfl rfl rfl Try.underlying3 rfl
            (try simp only [Act.put, sA, sB, sC])
            refine wpList_q (by rfl) (.bool true) ?he ?_
            case he => (have q := HP9.out; go_simp; (first | done | omega))
            (try simp only [Act.put, sA, sB, sC])
            refine wpList_nil ?_
            go_upto_region 14 with fail
            refine wp_region_lit ?_
            refine wpList_q (by rfl) (.pointer (some ⟨bL, 0, none⟩)) ?he ?_
            case he => (first | rfl | (go_simp; (try with_reducible rfl)))
            (try simp only [Act.put, sA, sB, sC])
            refine wpList_q (by rfl) (.pointer (some ⟨bL, 3, none⟩)) ?he ?_
            case he => (first | rfl | (go_simp; (try with_reducible rfl)))
            (try simp only [Act.put, sA, sB, sC])
            refine wpList_q (by rfl) (.int .i64 l3.to) ?he ?_
            case he => exact exec_cell 3 _ _ HBL62.out rfl rfl rfl Try.underlying3 rfl
            (try simp only [Act.put, sA, sB, sC])
            refine wpList_q (by rfl) (.int .i64 (4 * l3.to)) ?he ?_
            case he => (go_simp; (first | done | (refine Ri.wr _ ?_ ?_ <;> (have q0 := HF3.out; omega)) | (have q0 := HF3.out; omega) | (have q0 := HF3.out; split <;> omega) | (have q0 := HF3.out; intro hh; omega)))
            (try simp only [Act.put, sA, sB, sC])
            refine wpList_q (by rfl) (.pointer (some ⟨bX, 2, none⟩)) ?he ?_
            case he => (first | rfl | (go_simp; (try with_reducible rfl)))
            (try simp only [Act.put, sA, sB, sC])
            refine wpList_wp (by rfl) (fun K hK => ?_)
            refine wp_st_cell 3 _ _ rfl #[.int .i64 x2.ds, .int .i64 x2.da, .int .i64 (4 * l3.to), .int .i64 x2.wy, .int .i64 x2.ti, .int .i64 x2.ju, .int .i64 x2.lo, .bool x2.bl, .bool x2.br, .int .i64 x2.mo, .int .i64 x2.ta, .bool x2.ho, .int .u64 x2.sp, .int .u64 x2.su, .int .u64 x2.sd] (.int .i64 (4 * l3.to)) rfl rfl HBX62.out (by show 2 < 15; decide) rfl (by first | rfl | simp [Value.oneCell']) (by kernel_rfl) ?_
            intro w63 hw
            refine hK.out _ _ ?_
            clear hK K
            (try simp only [Act.put, sA, sB, sC])
            have HS63 := Lib.hid (show Since w w63 by rw [hw]; exact Since.setRow HS62.out (by have := HNE3.out; omega) _)
            have HBC63 := Lib.hid (show Blk w63 w.heap.size 23 (cfgA c) by rw [hw]; exact Blk.row_far HBC62.out (by have := HNE3.out; omega) _)
            have HBL63 := Lib.hid (show Blk w63 bL 56 (leaA l3) by rw [hw]; exact Blk.row_far HBL62.out (by have := HNE3.out; omega) _)
            have HBX63 := Lib.hid (show Blk w63 bX 76 (carA (⟨x2.ds, x2.da, (4 * l3.to), x2.wy, x2.ti, x2.ju, x2.lo, x2.bl, x2.br, x2.mo, x2.ta, x2.ho, x2.sp, x2.su, x2.sd⟩ : CarV)) by rw [hw]; exact Blk.row HBX62.out _)
            have HBn1063 := Lib.hid (show Blk w63 bn10 56 (leaA ⟨l2.se, l2.fl, l2.fm, l2.to, l2.ma, l2.ca, ph, un, re, l2.gr⟩) by rw [hw]; exact Blk.row_far HBn1062.out HNn10X.out _)
            clear hw HS62 HBC62 HBL62 HBX62 HBn1062
            refine wpList_nil ?_
            go_upto_region 15 with fail
            refine wp_region_lit ?_
            refine wpList_q (by rfl) (.agg (cfgA c)) ?he ?_
            case he => exact exec_load_row 23 _ _ HBC63.out rfl rfl Try.underlying23 rfl (by kernel_rfl)
            (try simp only [Act.put, sA, sB, sC])
            refine wpList_q (by rfl) (.agg (leaA l3)) ?he ?_
            case he => exact exec_load_row 56 _ _ HBL63.out rfl rfl Try.underlying56 rfl (by kernel_rfl)
            (try simp only [Act.put, sA, sB, sC])
            refine wpList_q (by rfl) (.agg (carA (⟨x2.ds, x2.da, (4 * l3.to), x2.wy, x2.ti, x2.ju, x2.lo, x2.bl, x2.br, x2.mo, x2.ta, x2.ho, x2.sp, x2.su, x2.sd⟩ : CarV))) ?he ?_
            case he => exact exec_load_row 76 _ _ HBX63.out rfl rfl Try.underlying76 rfl (by kernel_rfl)
            (try simp only [Act.put, sA, sB, sC])
            refine wpList_q (by rfl) (.int .i64 (k : Int)) ?he ?_
            case he => (first | rfl | (go_simp; (try with_reducible rfl)))
            (try simp only [Act.put, sA, sB, sC])
            refine wpList_wp (by rfl) (fun K hK => ?_)
            (try go_simp)
            refine (tickE2 c l3 (⟨x2.ds, x2.da, (4 * l3.to), x2.wy, x2.ti, x2.ju, x2.lo, x2.bl, x2.br, x2.mo, x2.ta, x2.ho, x2.sp, x2.su, x2.sd⟩ : CarV) (k : Int) (by have := HT0.out; omega) HL3.out _).mono ?_
            rintro e w64 ⟨v92, ph2, un2, re2, ov2, rfl, hfa, hb⟩
            (try go_wp2_with fail)
            refine hK.out _ _ ?_
            clear hK K
            (try simp only [Act.put, sA, sB, sC])
            have HS64 := Lib.hid (Since.trans HS63.out hb)
            have HBC64 := Lib.hid (keep_blk hb HBC63.out)
            have HBL64 := Lib.hid (keep_blk hb HBL63.out)
            have HBX64 := Lib.hid (keep_blk hb HBX63.out)
            have HBn1064 := Lib.hid (keep_blk hb HBn1063.out)
            clear HS63 HBC63 HBL63 HBX63 HBn1063
            clear hb
            have HFA := Lib.hid hfa
            clear hfa
            refine wpList_q (by rfl) (.tuple #[.agg (leaA ⟨l3.se, l3.fl, l3.fm, l3.to, l3.ma, l3.ca, ph2, un2, re2, l3.gr⟩), v92, .bool ov2]) ?he ?_
            case he => (first | rfl | (go_simp; (try with_reducible rfl)))
            (try simp only [Act.put, sA, sB, sC])
            refine wpList_q (by rfl) (.agg (leaA ⟨l3.se, l3.fl, l3.fm, l3.to, l3.ma, l3.ca, ph2, un2, re2, l3.gr⟩)) ?he ?_
            case he => (first | rfl | (go_simp; (try with_reducible rfl)))
            (try simp only [Act.put, sA, sB, sC])
            refine wpList_q (by rfl) (v92) ?he ?_
            case he => (first | rfl | (go_simp; (try with_reducible rfl)))
            (try simp only [Act.put, sA, sB, sC])
            refine wpList_q (by rfl) (.bool ov2) ?he ?_
            case he => (first | rfl | (go_simp; (try with_reducible rfl)))
            (try simp only [Act.put, sA, sB, sC])
            refine wpList_wp (by rfl) (fun K hK => ?_)
            refine wp_new (fun b => .pointer (some ⟨b, 0, none⟩)) 56 #[.int .i64 0, .int .i64 0, .int .i64 0, .int .i64 0, .int .i64 0, .int .i64 0, .int .i64 0, .int .i64 0, .int .i64 0, .int .i64 0] (by rintro b rfl; first | rfl | kernel_rfl) ?_
            intro bn13 w65 hge hB hb
            refine hK.out _ _ ?_
            clear hK K
            (try simp only [Act.put, sA, sB, sC])
            have HNn13C := Lib.hid (show bn13 ≠ w.heap.size by have := Blk.lt HBC64.out; omega)
            have HNn13L := Lib.hid (show bn13 ≠ bL by have := Blk.lt HBL64.out; omega)
            have HNn13X := Lib.hid (show bn13 ≠ bX by have := Blk.lt HBX64.out; omega)
            have HNn13n10 := Lib.hid (show bn13 ≠ bn10 by have := Blk.lt HBn1064.out; omega)
            have HGn13 := Lib.hid (show w.heap.size ≤ bn13 by have := Since.size HS64.out; omega)
            have HS65 := Lib.hid (Since.trans HS64.out hb)
            have HBC65 := Lib.hid (keep_blk hb HBC64.out)
            have HBL65 := Lib.hid (keep_blk hb HBL64.out)
            have HBX65 := Lib.hid (keep_blk hb HBX64.out)
            have HBn1065 := Lib.hid (keep_blk hb HBn1064.out)
            clear HS64 HBC64 HBL64 HBX64 HBn1064
            clear hb hge
            have HBn1365 := Lib.hid hB
            clear hB
            refine wpList_wp (by rfl) (fun K hK => ?_)
            refine wp_st_row 56 _ _ rfl (leaA ⟨l3.se, l3.fl, l3.fm, l3.to, l3.ma, l3.ca, ph2, un2, re2, l3.gr⟩) rfl rfl (HasRow.of HBn1365.out rfl) rfl (by simp [cfgA, leaA, carA, msgC, Value.oneCell']) (by kernel_rfl) ?_
            intro w66 hw
            refine hK.out _ _ ?_
            clear hK K
            (try simp only [Act.put, sA, sB, sC])
            have HS66 := Lib.hid (show Since w w66 by rw [hw]; exact Since.setRow HS65.out HGn13.out _)
            have HBC66 := Lib.hid (show Blk w66 w.heap.size 23 (cfgA c) by rw [hw]; exact Blk.row_far HBC65.out (Ne.symm HNn13C.out) _)
            have HBL66 := Lib.hid (show Blk w66 bL 56 (leaA l3) by rw [hw]; exact Blk.row_far HBL65.out (Ne.symm HNn13L.out) _)
            have HBX66 := Lib.hid (show Blk w66 bX 76 (carA (⟨x2.ds, x2.da, (4 * l3.to), x2.wy, x2.ti, x2.ju, x2.lo, x2.bl, x2.br, x2.mo, x2.ta, x2.ho, x2.sp, x2.su, x2.sd⟩ : CarV)) by rw [hw]; exact Blk.row_far HBX65.out (Ne.symm HNn13X.out) _)
            have HBn1066 := Lib.hid (show Blk w66 bn10 56 (leaA ⟨l2.se, l2.fl, l2.fm, l2.to, l2.ma, l2.ca, ph, un, re, l2.gr⟩) by rw [hw]; exact Blk.row_far HBn1065.out (Ne.symm HNn13n10.out) _)
            have HBn1366 := Lib.hid (show Blk w66 bn13 56 (leaA ⟨l3.se, l3.fl, l3.fm, l3.to, l3.ma, l3.ca, ph2, un2, re2, l3.gr⟩) by rw [hw]; exact Blk.row HBn1365.out _)
            clear hw HS65 HBC65 HBL65 HBX65 HBn1065 HBn1365
            refine wpList_q (by rfl) (v92) ?he ?_
            case he => (first | rfl | (go_simp; (try with_reducible rfl)))
            (try simp only [Act.put, sA, sB, sC])
            refine wpList_q (by rfl) (.bool ov2) ?he ?_
            case he => (first | rfl | (go_simp; (try with_reducible rfl)))
            (try simp only [Act.put, sA, sB, sC])
            refine wpList_nil ?_
            cases hov : ov2
            · skip
              have HLN := Lib.hid (show Lv c ⟨l3.se, l3.fl, l3.fm, l3.to, l3.ma, l3.ca, ph2, un2, re2, l3.gr⟩ ((k : Int) + 1) by rcases HFA.out with h | h; rw [hov] at h; exact absurd h (by decide); exact h)
              clear hov
              go_upto_region 16 with fail
              refine wp_region_lit ?_
              refine wpList_q (by rfl) (.bool false) ?he ?_
              case he => (first | rfl | (go_simp; (try with_reducible rfl)))
              (try simp only [Act.put, sA, sB, sC])
              refine wpList_nil ?_
              go_upto_region 18 with fail
              refine wp_region_lit ?_
              refine wpList_q (by rfl) (.agg (leaA ⟨l3.se, l3.fl, l3.fm, l3.to, l3.ma, l3.ca, ph2, un2, re2, l3.gr⟩)) ?he ?_
              case he => exact exec_load_row 56 _ _ HBn1366.out rfl rfl Try.underlying56 rfl (by kernel_rfl)
              (try simp only [Act.put, sA, sB, sC])
              refine wpList_wp (by rfl) (fun K hK => ?_)
              refine wp_st_row 56 _ _ rfl (leaA ⟨l3.se, l3.fl, l3.fm, l3.to, l3.ma, l3.ca, ph2, un2, re2, l3.gr⟩) rfl rfl (HasRow.of HBL66.out rfl) rfl (by simp [cfgA, leaA, carA, msgC, Value.oneCell']) (by kernel_rfl) ?_
              intro w67 hw
              refine hK.out _ _ ?_
              clear hK K
              (try simp only [Act.put, sA, sB, sC])
              have HS67 := Lib.hid (show Since w w67 by rw [hw]; exact Since.setRow HS66.out (by have := HNE3.out; omega) _)
              have HBC67 := Lib.hid (show Blk w67 w.heap.size 23 (cfgA c) by rw [hw]; exact Blk.row_far HBC66.out (by have := HNE3.out; omega) _)
              have HBL67 := Lib.hid (show Blk w67 bL 56 (leaA ⟨l3.se, l3.fl, l3.fm, l3.to, l3.ma, l3.ca, ph2, un2, re2, l3.gr⟩) by rw [hw]; exact Blk.row HBL66.out _)
              have HBX67 := Lib.hid (show Blk w67 bX 76 (carA (⟨x2.ds, x2.da, (4 * l3.to), x2.wy, x2.ti, x2.ju, x2.lo, x2.bl, x2.br, x2.mo, x2.ta, x2.ho, x2.sp, x2.su, x2.sd⟩ : CarV)) by rw [hw]; exact Blk.row_far HBX66.out (by have := HNE3.out; omega) _)
              have HBn1067 := Lib.hid (show Blk w67 bn10 56 (leaA ⟨l2.se, l2.fl, l2.fm, l2.to, l2.ma, l2.ca, ph, un, re, l2.gr⟩) by rw [hw]; exact Blk.row_far HBn1066.out HNn10L.out _)
              have HBn1367 := Lib.hid (show Blk w67 bn13 56 (leaA ⟨l3.se, l3.fl, l3.fm, l3.to, l3.ma, l3.ca, ph2, un2, re2, l3.gr⟩) by rw [hw]; exact Blk.row_far HBn1366.out HNn13L.out _)
              clear hw HS66 HBC66 HBL66 HBX66 HBn1066 HBn1366
              refine wpList_nil ?_
              go_wp2_with fail
              go_roundw
              case rel => exact ⟨(k : Int) + 1, ⟨l3.se, l3.fl, l3.fm, l3.to, l3.ma, l3.ca, ph2, un2, re2, l3.gr⟩, (⟨x2.ds, x2.da, (4 * l3.to), x2.wy, x2.ti, x2.ju, x2.lo, x2.bl, x2.br, x2.mo, x2.ta, x2.ho, x2.sp, x2.su, x2.sd⟩ : CarV), by omega, by go_num, Lib.hid ⟨HF3.out, HLN.out, HS67.out, HBC67.out, HBL67.out, HBX67.out⟩⟩
              case measure => have := HTB.out; simp [intOf]; omega
            · skip
              clear hov
              go_upto_region 16 with fail
              refine wp_region_lit ?_
              refine wpList_q (by rfl) (.bool true) ?he ?_
              case he => (first | rfl | (go_simp; (try with_reducible rfl)))
              (try simp only [Act.put, sA, sB, sC])
              refine wpList_nil ?_
              go_upto_region 17 with fail
              refine wp_region_lit ?_
              refine wpList_wp (by rfl) (fun K hK => ?_)
              (try go_simp)
              refine (ans _).mono ?_
              rintro e w67 ⟨rfl, hb⟩
              (try go_wp2_with fail)
              refine hK.out _ _ ?_
              clear hK K
              (try simp only [Act.put, sA, sB, sC])
              have HS67 := Lib.hid (Since.trans HS66.out hb)
              have HBC67 := Lib.hid (keep_blk hb HBC66.out)
              have HBL67 := Lib.hid (keep_blk hb HBL66.out)
              have HBX67 := Lib.hid (keep_blk hb HBX66.out)
              have HBn1067 := Lib.hid (keep_blk hb HBn1066.out)
              have HBn1367 := Lib.hid (keep_blk hb HBn1366.out)
              clear HS66 HBC66 HBL66 HBX66 HBn1066 HBn1366
              clear hb
              refine wpList_q (by rfl) (.bool true) ?he ?_
              case he => (first | rfl | (go_simp; (try with_reducible rfl)))
              (try simp only [Act.put, sA, sB, sC])
              refine wpList_nil ?_
              (try go_wp2_with fail)
              go_ret
              exact ⟨rfl, HS67.out⟩
          · have HP9 := Lib.hid hp; clear hp
            go_upto_region 13 with fail
            refine wp_region_lit ?_
            refine wpList_q (by rfl) (.pointer (some ⟨bL, 6, none⟩)) ?he ?_
            case he => (first | rfl | (go_simp; (try with_reducible rfl)))
            (try simp only [Act.put, sA, sB, sC])
            refine wpList_q (by rfl) (.int .i64 l3.ph) ?he ?_
            case he => exact exec_cell 3 _ _ HBL62.out rfl rfl rfl Try.underlying3 rfl
            (try simp only [Act.put, sA, sB, sC])
            refine wpList_q (by rfl) (.bool false) ?he ?_
            case he => (have q := HP9.out; go_simp; (first | done | omega))
            (try simp only [Act.put, sA, sB, sC])
            refine wpList_nil ?_
            go_upto_region 15 with fail
            refine wp_region_lit ?_
            refine wpList_q (by rfl) (.agg (cfgA c)) ?he ?_
            case he => exact exec_load_row 23 _ _ HBC62.out rfl rfl Try.underlying23 rfl (by kernel_rfl)
            (try simp only [Act.put, sA, sB, sC])
            refine wpList_q (by rfl) (.agg (leaA l3)) ?he ?_
            case he => exact exec_load_row 56 _ _ HBL62.out rfl rfl Try.underlying56 rfl (by kernel_rfl)
            (try simp only [Act.put, sA, sB, sC])
            refine wpList_q (by rfl) (.agg (carA (⟨x2.ds, x2.da, (4 * l3.fm), x2.wy, x2.ti, x2.ju, x2.lo, x2.bl, x2.br, x2.mo, x2.ta, x2.ho, x2.sp, x2.su, x2.sd⟩ : CarV))) ?he ?_
            case he => exact exec_load_row 76 _ _ HBX62.out rfl rfl Try.underlying76 rfl (by kernel_rfl)
            (try simp only [Act.put, sA, sB, sC])
            refine wpList_q (by rfl) (.int .i64 (k : Int)) ?he ?_
            case he => (first | rfl | (go_simp; (try with_reducible rfl)))
            (try simp only [Act.put, sA, sB, sC])
            refine wpList_wp (by rfl) (fun K hK => ?_)
            (try go_simp)
            refine (tickE2 c l3 (⟨x2.ds, x2.da, (4 * l3.fm), x2.wy, x2.ti, x2.ju, x2.lo, x2.bl, x2.br, x2.mo, x2.ta, x2.ho, x2.sp, x2.su, x2.sd⟩ : CarV) (k : Int) (by have := HT0.out; omega) HL3.out _).mono ?_
            rintro e w63 ⟨v92, ph2, un2, re2, ov2, rfl, hfa, hb⟩
            (try go_wp2_with fail)
            refine hK.out _ _ ?_
            clear hK K
            (try simp only [Act.put, sA, sB, sC])
            have HS63 := Lib.hid (Since.trans HS62.out hb)
            have HBC63 := Lib.hid (keep_blk hb HBC62.out)
            have HBL63 := Lib.hid (keep_blk hb HBL62.out)
            have HBX63 := Lib.hid (keep_blk hb HBX62.out)
            have HBn1063 := Lib.hid (keep_blk hb HBn1062.out)
            clear HS62 HBC62 HBL62 HBX62 HBn1062
            clear hb
            have HFA := Lib.hid hfa
            clear hfa
            refine wpList_q (by rfl) (.tuple #[.agg (leaA ⟨l3.se, l3.fl, l3.fm, l3.to, l3.ma, l3.ca, ph2, un2, re2, l3.gr⟩), v92, .bool ov2]) ?he ?_
            case he => (first | rfl | (go_simp; (try with_reducible rfl)))
            (try simp only [Act.put, sA, sB, sC])
            refine wpList_q (by rfl) (.agg (leaA ⟨l3.se, l3.fl, l3.fm, l3.to, l3.ma, l3.ca, ph2, un2, re2, l3.gr⟩)) ?he ?_
            case he => (first | rfl | (go_simp; (try with_reducible rfl)))
            (try simp only [Act.put, sA, sB, sC])
            refine wpList_q (by rfl) (v92) ?he ?_
            case he => (first | rfl | (go_simp; (try with_reducible rfl)))
            (try simp only [Act.put, sA, sB, sC])
            refine wpList_q (by rfl) (.bool ov2) ?he ?_
            case he => (first | rfl | (go_simp; (try with_reducible rfl)))
            (try simp only [Act.put, sA, sB, sC])
            refine wpList_wp (by rfl) (fun K hK => ?_)
            refine wp_new (fun b => .pointer (some ⟨b, 0, none⟩)) 56 #[.int .i64 0, .int .i64 0, .int .i64 0, .int .i64 0, .int .i64 0, .int .i64 0, .int .i64 0, .int .i64 0, .int .i64 0, .int .i64 0] (by rintro b rfl; first | rfl | kernel_rfl) ?_
            intro bn13 w64 hge hB hb
            refine hK.out _ _ ?_
            clear hK K
            (try simp only [Act.put, sA, sB, sC])
            have HNn13C := Lib.hid (show bn13 ≠ w.heap.size by have := Blk.lt HBC63.out; omega)
            have HNn13L := Lib.hid (show bn13 ≠ bL by have := Blk.lt HBL63.out; omega)
            have HNn13X := Lib.hid (show bn13 ≠ bX by have := Blk.lt HBX63.out; omega)
            have HNn13n10 := Lib.hid (show bn13 ≠ bn10 by have := Blk.lt HBn1063.out; omega)
            have HGn13 := Lib.hid (show w.heap.size ≤ bn13 by have := Since.size HS63.out; omega)
            have HS64 := Lib.hid (Since.trans HS63.out hb)
            have HBC64 := Lib.hid (keep_blk hb HBC63.out)
            have HBL64 := Lib.hid (keep_blk hb HBL63.out)
            have HBX64 := Lib.hid (keep_blk hb HBX63.out)
            have HBn1064 := Lib.hid (keep_blk hb HBn1063.out)
            clear HS63 HBC63 HBL63 HBX63 HBn1063
            clear hb hge
            have HBn1364 := Lib.hid hB
            clear hB
            refine wpList_wp (by rfl) (fun K hK => ?_)
            refine wp_st_row 56 _ _ rfl (leaA ⟨l3.se, l3.fl, l3.fm, l3.to, l3.ma, l3.ca, ph2, un2, re2, l3.gr⟩) rfl rfl (HasRow.of HBn1364.out rfl) rfl (by simp [cfgA, leaA, carA, msgC, Value.oneCell']) (by kernel_rfl) ?_
            intro w65 hw
            refine hK.out _ _ ?_
            clear hK K
            (try simp only [Act.put, sA, sB, sC])
            have HS65 := Lib.hid (show Since w w65 by rw [hw]; exact Since.setRow HS64.out HGn13.out _)
            have HBC65 := Lib.hid (show Blk w65 w.heap.size 23 (cfgA c) by rw [hw]; exact Blk.row_far HBC64.out (Ne.symm HNn13C.out) _)
            have HBL65 := Lib.hid (show Blk w65 bL 56 (leaA l3) by rw [hw]; exact Blk.row_far HBL64.out (Ne.symm HNn13L.out) _)
            have HBX65 := Lib.hid (show Blk w65 bX 76 (carA (⟨x2.ds, x2.da, (4 * l3.fm), x2.wy, x2.ti, x2.ju, x2.lo, x2.bl, x2.br, x2.mo, x2.ta, x2.ho, x2.sp, x2.su, x2.sd⟩ : CarV)) by rw [hw]; exact Blk.row_far HBX64.out (Ne.symm HNn13X.out) _)
            have HBn1065 := Lib.hid (show Blk w65 bn10 56 (leaA ⟨l2.se, l2.fl, l2.fm, l2.to, l2.ma, l2.ca, ph, un, re, l2.gr⟩) by rw [hw]; exact Blk.row_far HBn1064.out (Ne.symm HNn13n10.out) _)
            have HBn1365 := Lib.hid (show Blk w65 bn13 56 (leaA ⟨l3.se, l3.fl, l3.fm, l3.to, l3.ma, l3.ca, ph2, un2, re2, l3.gr⟩) by rw [hw]; exact Blk.row HBn1364.out _)
            clear hw HS64 HBC64 HBL64 HBX64 HBn1064 HBn1364
            refine wpList_q (by rfl) (v92) ?he ?_
            case he => (first | rfl | (go_simp; (try with_reducible rfl)))
            (try simp only [Act.put, sA, sB, sC])
            refine wpList_q (by rfl) (.bool ov2) ?he ?_
            case he => (first | rfl | (go_simp; (try with_reducible rfl)))
            (try simp only [Act.put, sA, sB, sC])
            refine wpList_nil ?_
            cases hov : ov2
            · skip
              have HLN := Lib.hid (show Lv c ⟨l3.se, l3.fl, l3.fm, l3.to, l3.ma, l3.ca, ph2, un2, re2, l3.gr⟩ ((k : Int) + 1) by rcases HFA.out with h | h; rw [hov] at h; exact absurd h (by decide); exact h)
              clear hov
              go_upto_region 16 with fail
              refine wp_region_lit ?_
              refine wpList_q (by rfl) (.bool false) ?he ?_
              case he => (first | rfl | (go_simp; (try with_reducible rfl)))
              (try simp only [Act.put, sA, sB, sC])
              refine wpList_nil ?_
              go_upto_region 18 with fail
              refine wp_region_lit ?_
              refine wpList_q (by rfl) (.agg (leaA ⟨l3.se, l3.fl, l3.fm, l3.to, l3.ma, l3.ca, ph2, un2, re2, l3.gr⟩)) ?he ?_
              case he => exact exec_load_row 56 _ _ HBn1365.out rfl rfl Try.underlying56 rfl (by kernel_rfl)
              (try simp only [Act.put, sA, sB, sC])
              refine wpList_wp (by rfl) (fun K hK => ?_)
              refine wp_st_row 56 _ _ rfl (leaA ⟨l3.se, l3.fl, l3.fm, l3.to, l3.ma, l3.ca, ph2, un2, re2, l3.gr⟩) rfl rfl (HasRow.of HBL65.out rfl) rfl (by simp [cfgA, leaA, carA, msgC, Value.oneCell']) (by kernel_rfl) ?_
              intro w66 hw
              refine hK.out _ _ ?_
              clear hK K
              (try simp only [Act.put, sA, sB, sC])
              have HS66 := Lib.hid (show Since w w66 by rw [hw]; exact Since.setRow HS65.out (by have := HNE3.out; omega) _)
              have HBC66 := Lib.hid (show Blk w66 w.heap.size 23 (cfgA c) by rw [hw]; exact Blk.row_far HBC65.out (by have := HNE3.out; omega) _)
              have HBL66 := Lib.hid (show Blk w66 bL 56 (leaA ⟨l3.se, l3.fl, l3.fm, l3.to, l3.ma, l3.ca, ph2, un2, re2, l3.gr⟩) by rw [hw]; exact Blk.row HBL65.out _)
              have HBX66 := Lib.hid (show Blk w66 bX 76 (carA (⟨x2.ds, x2.da, (4 * l3.fm), x2.wy, x2.ti, x2.ju, x2.lo, x2.bl, x2.br, x2.mo, x2.ta, x2.ho, x2.sp, x2.su, x2.sd⟩ : CarV)) by rw [hw]; exact Blk.row_far HBX65.out (by have := HNE3.out; omega) _)
              have HBn1066 := Lib.hid (show Blk w66 bn10 56 (leaA ⟨l2.se, l2.fl, l2.fm, l2.to, l2.ma, l2.ca, ph, un, re, l2.gr⟩) by rw [hw]; exact Blk.row_far HBn1065.out HNn10L.out _)
              have HBn1366 := Lib.hid (show Blk w66 bn13 56 (leaA ⟨l3.se, l3.fl, l3.fm, l3.to, l3.ma, l3.ca, ph2, un2, re2, l3.gr⟩) by rw [hw]; exact Blk.row_far HBn1365.out HNn13L.out _)
              clear hw HS65 HBC65 HBL65 HBX65 HBn1065 HBn1365
              refine wpList_nil ?_
              go_wp2_with fail
              go_roundw
              case rel => exact ⟨(k : Int) + 1, ⟨l3.se, l3.fl, l3.fm, l3.to, l3.ma, l3.ca, ph2, un2, re2, l3.gr⟩, (⟨x2.ds, x2.da, (4 * l3.fm), x2.wy, x2.ti, x2.ju, x2.lo, x2.bl, x2.br, x2.mo, x2.ta, x2.ho, x2.sp, x2.su, x2.sd⟩ : CarV), by omega, by go_num, Lib.hid ⟨HF3.out, HLN.out, HS66.out, HBC66.out, HBL66.out, HBX66.out⟩⟩
              case measure => have := HTB.out; simp [intOf]; omega
            · skip
              clear hov
              go_upto_region 16 with fail
              refine wp_region_lit ?_
              refine wpList_q (by rfl) (.bool true) ?he ?_
              case he => (first | rfl | (go_simp; (try with_reducible rfl)))
              (try simp only [Act.put, sA, sB, sC])
              refine wpList_nil ?_
              go_upto_region 17 with fail
              refine wp_region_lit ?_
              refine wpList_wp (by rfl) (fun K hK => ?_)
              (try go_simp)
              refine (ans _).mono ?_
              rintro e w66 ⟨rfl, hb⟩
              (try go_wp2_with fail)
              refine hK.out _ _ ?_
              clear hK K
              (try simp only [Act.put, sA, sB, sC])
              have HS66 := Lib.hid (Since.trans HS65.out hb)
              have HBC66 := Lib.hid (keep_blk hb HBC65.out)
              have HBL66 := Lib.hid (keep_blk hb HBL65.out)
              have HBX66 := Lib.hid (keep_blk hb HBX65.out)
              have HBn1066 := Lib.hid (keep_blk hb HBn1065.out)
              have HBn1366 := Lib.hid (keep_blk hb HBn1365.out)
              clear HS65 HBC65 HBL65 HBX65 HBn1065 HBn1365
              clear hb
              refine wpList_q (by rfl) (.bool true) ?he ?_
              case he => (first | rfl | (go_simp; (try with_reducible rfl)))
              (try simp only [Act.put, sA, sB, sC])
              refine wpList_nil ?_
              (try go_wp2_with fail)
              go_ret
              exact ⟨rfl, HS66.out⟩
        · skip
          clear hov
          go_upto_region 9 with fail
          refine wp_region_lit ?_
          refine wpList_q (by rfl) (.bool true) ?he ?_
          case he => (first | rfl | (go_simp; (try with_reducible rfl)))
          (try simp only [Act.put, sA, sB, sC])
          refine wpList_nil ?_
          go_upto_region 10 with fail
          refine wp_region_lit ?_
          refine wpList_wp (by rfl) (fun K hK => ?_)
          (try go_simp)
          refine (ans _).mono ?_
          rintro e w61 ⟨rfl, hb⟩
          (try go_wp2_with fail)
          refine hK.out _ _ ?_
          clear hK K
          (try simp only [Act.put, sA, sB, sC])
          have HS61 := Lib.hid (Since.trans HSd8.out hb)
          have HBC61 := Lib.hid (keep_blk hb HBCd8.out)
          have HBL61 := Lib.hid (keep_blk hb HBLd8.out)
          have HBX61 := Lib.hid (keep_blk hb HBXd8.out)
          have HBn1061 := Lib.hid (keep_blk hb HXn1022.out)
          clear HSd8 HBCd8 HBLd8 HBXd8 HXn1022
          clear hb
          refine wpList_q (by rfl) (.bool true) ?he ?_
          case he => (first | rfl | (go_simp; (try with_reducible rfl)))
          (try simp only [Act.put, sA, sB, sC])
          refine wpList_nil ?_
          (try go_wp2_with fail)
          go_ret
          exact ⟨rfl, HS61.out⟩
    · skip
      obtain ⟨l3, hl3⟩ : ∃ l3 : LeaseV, l3 = l2 := ⟨_, rfl⟩
      have HL3 := Lib.hid (show Lv c l3 t by rw [hl3]; exact HLV.out)
      have HF3 := Lib.hid (show 0 ≤ l3.fm ∧ l3.fm ≤ 63 ∧ 0 ≤ l3.to ∧ l3.to ≤ 63 by rw [hl3]; exact HFT.out)
      have HBL3 := Lib.hid (show Blk w57 bL 56 (leaA l3) by rw [hl3]; exact HBL57.out)
      clear hl3 HBL57
      go_upto_region 7 with fail
      refine wp_region_lit ?_
      refine wpList_q (by rfl) (.int .i64 t) ?he ?_
      case he => (first | rfl | (go_simp; (try with_reducible rfl)))
      (try simp only [Act.put, sA, sB, sC])
      refine wpList_q (by rfl) (.slice a3 len3 cap3) ?he ?_
      case he => (first | rfl | (go_simp; (try with_reducible rfl)))
      (try simp only [Act.put, sA, sB, sC])
      refine wpList_q (by rfl) (.int .i64 len3) ?he ?_
      case he => (go_simp; (try with_reducible rfl))
      (try simp only [Act.put, sA, sB, sC])
      refine wpList_q (by rfl) (.bool false) ?he ?_
      case he => (go_simp; (first | done | omega))
      (try simp only [Act.put, sA, sB, sC])
      refine wpList_nil ?_
      go_upto_region 12 with fail
      refine wp_region_lit ?_
      refine wpList_q (by rfl) (.pointer (some ⟨bL, 0, none⟩)) ?he ?_
      case he => (first | rfl | (go_simp; (try with_reducible rfl)))
      (try simp only [Act.put, sA, sB, sC])
      refine wpList_q (by rfl) (.pointer (some ⟨bL, 2, none⟩)) ?he ?_
      case he => (first | rfl | (go_simp; (try with_reducible rfl)))
      (try simp only [Act.put, sA, sB, sC])
      refine wpList_q (by rfl) (.int .i64 l3.fm) ?he ?_
      case he => exact exec_cell 3 _ _ HBL3.out rfl rfl rfl Try.underlying3 rfl
      (try simp only [Act.put, sA, sB, sC])
      refine wpList_q (by rfl) (.int .i64 (4 * l3.fm)) ?he ?_
      case he => (go_simp; (first | done | (refine Ri.wr _ ?_ ?_ <;> (have q0 := HF3.out; omega)) | (have q0 := HF3.out; omega) | (have q0 := HF3.out; split <;> omega) | (have q0 := HF3.out; intro hh; omega)))
      (try simp only [Act.put, sA, sB, sC])
      refine wpList_q (by rfl) (.pointer (some ⟨bX, 2, none⟩)) ?he ?_
      case he => (first | rfl | (go_simp; (try with_reducible rfl)))
      (try simp only [Act.put, sA, sB, sC])
      refine wpList_wp (by rfl) (fun K hK => ?_)
      refine wp_st_cell 3 _ _ rfl #[.int .i64 x2.ds, .int .i64 x2.da, .int .i64 (4 * l3.fm), .int .i64 x2.wy, .int .i64 x2.ti, .int .i64 x2.ju, .int .i64 x2.lo, .bool x2.bl, .bool x2.br, .int .i64 x2.mo, .int .i64 x2.ta, .bool x2.ho, .int .u64 x2.sp, .int .u64 x2.su, .int .u64 x2.sd] (.int .i64 (4 * l3.fm)) rfl rfl HBX57.out (by show 2 < 15; decide) rfl (by first | rfl | simp [Value.oneCell']) (by kernel_rfl) ?_
      intro w58 hw
      refine hK.out _ _ ?_
      clear hK K
      (try simp only [Act.put, sA, sB, sC])
      have HS58 := Lib.hid (show Since w w58 by rw [hw]; exact Since.setRow HS57.out (by have := HNE3.out; omega) _)
      have HBC58 := Lib.hid (show Blk w58 w.heap.size 23 (cfgA c) by rw [hw]; exact Blk.row_far HBC57.out (by have := HNE3.out; omega) _)
      have HBL58 := Lib.hid (show Blk w58 bL 56 (leaA l3) by rw [hw]; exact Blk.row_far HBL3.out (by have := HNE3.out; omega) _)
      have HBX58 := Lib.hid (show Blk w58 bX 76 (carA (⟨x2.ds, x2.da, (4 * l3.fm), x2.wy, x2.ti, x2.ju, x2.lo, x2.bl, x2.br, x2.mo, x2.ta, x2.ho, x2.sp, x2.su, x2.sd⟩ : CarV)) by rw [hw]; exact Blk.row HBX57.out _)
      clear hw HS57 HBC57 HBL3 HBX57
      refine wpList_nil ?_
      by_cases hp : 3 ≤ l3.ph
      · have HP9 := Lib.hid hp; clear hp
        go_upto_region 13 with fail
        refine wp_region_lit ?_
        refine wpList_q (by rfl) (.pointer (some ⟨bL, 6, none⟩)) ?he ?_
        case he => (first | rfl | (go_simp; (try with_reducible rfl)))
        (try simp only [Act.put, sA, sB, sC])
        refine wpList_q (by rfl) (.int .i64 l3.ph) ?he ?_
        case he => exact exec_cell 3 _ _ HBL58.out rfl rfl rfl Try.underlying3 rfl
        (try simp only [Act.put, sA, sB, sC])
        refine wpList_q (by rfl) (.bool true) ?he ?_
        case he => (have q := HP9.out; go_simp; (first | done | omega))
        (try simp only [Act.put, sA, sB, sC])
        refine wpList_nil ?_
        go_upto_region 14 with fail
        refine wp_region_lit ?_
        refine wpList_q (by rfl) (.pointer (some ⟨bL, 0, none⟩)) ?he ?_
        case he => (first | rfl | (go_simp; (try with_reducible rfl)))
        (try simp only [Act.put, sA, sB, sC])
        refine wpList_q (by rfl) (.pointer (some ⟨bL, 3, none⟩)) ?he ?_
        case he => (first | rfl | (go_simp; (try with_reducible rfl)))
        (try simp only [Act.put, sA, sB, sC])
        refine wpList_q (by rfl) (.int .i64 l3.to) ?he ?_
        case he => exact exec_cell 3 _ _ HBL58.out rfl rfl rfl Try.underlying3 rfl
        (try simp only [Act.put, sA, sB, sC])
        refine wpList_q (by rfl) (.int .i64 (4 * l3.to)) ?he ?_
        case he => (go_simp; (first | done | (refine Ri.wr _ ?_ ?_ <;> (have q0 := HF3.out; omega)) | (have q0 := HF3.out; omega) | (have q0 := HF3.out; split <;> omega) | (have q0 := HF3.out; intro hh; omega)))
        (try simp only [Act.put, sA, sB, sC])
        refine wpList_q (by rfl) (.pointer (some ⟨bX, 2, none⟩)) ?he ?_
        case he => (first | rfl | (go_simp; (try with_reducible rfl)))
        (try simp only [Act.put, sA, sB, sC])
        refine wpList_wp (by rfl) (fun K hK => ?_)
        refine wp_st_cell 3 _ _ rfl #[.int .i64 x2.ds, .int .i64 x2.da, .int .i64 (4 * l3.to), .int .i64 x2.wy, .int .i64 x2.ti, .int .i64 x2.ju, .int .i64 x2.lo, .bool x2.bl, .bool x2.br, .int .i64 x2.mo, .int .i64 x2.ta, .bool x2.ho, .int .u64 x2.sp, .int .u64 x2.su, .int .u64 x2.sd] (.int .i64 (4 * l3.to)) rfl rfl HBX58.out (by show 2 < 15; decide) rfl (by first | rfl | simp [Value.oneCell']) (by kernel_rfl) ?_
        intro w59 hw
        refine hK.out _ _ ?_
        clear hK K
        (try simp only [Act.put, sA, sB, sC])
        have HS59 := Lib.hid (show Since w w59 by rw [hw]; exact Since.setRow HS58.out (by have := HNE3.out; omega) _)
        have HBC59 := Lib.hid (show Blk w59 w.heap.size 23 (cfgA c) by rw [hw]; exact Blk.row_far HBC58.out (by have := HNE3.out; omega) _)
        have HBL59 := Lib.hid (show Blk w59 bL 56 (leaA l3) by rw [hw]; exact Blk.row_far HBL58.out (by have := HNE3.out; omega) _)
        have HBX59 := Lib.hid (show Blk w59 bX 76 (carA (⟨x2.ds, x2.da, (4 * l3.to), x2.wy, x2.ti, x2.ju, x2.lo, x2.bl, x2.br, x2.mo, x2.ta, x2.ho, x2.sp, x2.su, x2.sd⟩ : CarV)) by rw [hw]; exact Blk.row HBX58.out _)
        clear hw HS58 HBC58 HBL58 HBX58
        refine wpList_nil ?_
        go_upto_region 15 with fail
        refine wp_region_lit ?_
        refine wpList_q (by rfl) (.agg (cfgA c)) ?he ?_
        case he => exact exec_load_row 23 _ _ HBC59.out rfl rfl Try.underlying23 rfl (by kernel_rfl)
        (try simp only [Act.put, sA, sB, sC])
        refine wpList_q (by rfl) (.agg (leaA l3)) ?he ?_
        case he => exact exec_load_row 56 _ _ HBL59.out rfl rfl Try.underlying56 rfl (by kernel_rfl)
        (try simp only [Act.put, sA, sB, sC])
        refine wpList_q (by rfl) (.agg (carA (⟨x2.ds, x2.da, (4 * l3.to), x2.wy, x2.ti, x2.ju, x2.lo, x2.bl, x2.br, x2.mo, x2.ta, x2.ho, x2.sp, x2.su, x2.sd⟩ : CarV))) ?he ?_
        case he => exact exec_load_row 76 _ _ HBX59.out rfl rfl Try.underlying76 rfl (by kernel_rfl)
        (try simp only [Act.put, sA, sB, sC])
        refine wpList_q (by rfl) (.int .i64 t) ?he ?_
        case he => (first | rfl | (go_simp; (try with_reducible rfl)))
        (try simp only [Act.put, sA, sB, sC])
        refine wpList_wp (by rfl) (fun K hK => ?_)
        (try go_simp)
        refine (tickE2 c l3 (⟨x2.ds, x2.da, (4 * l3.to), x2.wy, x2.ti, x2.ju, x2.lo, x2.bl, x2.br, x2.mo, x2.ta, x2.ho, x2.sp, x2.su, x2.sd⟩ : CarV) t (by have := HT0.out; omega) HL3.out _).mono ?_
        rintro e w60 ⟨v92, ph2, un2, re2, ov2, rfl, hfa, hb⟩
        (try go_wp2_with fail)
        refine hK.out _ _ ?_
        clear hK K
        (try simp only [Act.put, sA, sB, sC])
        have HS60 := Lib.hid (Since.trans HS59.out hb)
        have HBC60 := Lib.hid (keep_blk hb HBC59.out)
        have HBL60 := Lib.hid (keep_blk hb HBL59.out)
        have HBX60 := Lib.hid (keep_blk hb HBX59.out)
        clear HS59 HBC59 HBL59 HBX59
        clear hb
        have HFA := Lib.hid hfa
        clear hfa
        refine wpList_q (by rfl) (.tuple #[.agg (leaA ⟨l3.se, l3.fl, l3.fm, l3.to, l3.ma, l3.ca, ph2, un2, re2, l3.gr⟩), v92, .bool ov2]) ?he ?_
        case he => (first | rfl | (go_simp; (try with_reducible rfl)))
        (try simp only [Act.put, sA, sB, sC])
        refine wpList_q (by rfl) (.agg (leaA ⟨l3.se, l3.fl, l3.fm, l3.to, l3.ma, l3.ca, ph2, un2, re2, l3.gr⟩)) ?he ?_
        case he => (first | rfl | (go_simp; (try with_reducible rfl)))
        (try simp only [Act.put, sA, sB, sC])
        refine wpList_q (by rfl) (v92) ?he ?_
        case he => (first | rfl | (go_simp; (try with_reducible rfl)))
        (try simp only [Act.put, sA, sB, sC])
        refine wpList_q (by rfl) (.bool ov2) ?he ?_
        case he => (first | rfl | (go_simp; (try with_reducible rfl)))
        (try simp only [Act.put, sA, sB, sC])
        refine wpList_wp (by rfl) (fun K hK => ?_)
        refine wp_new (fun b => .pointer (some ⟨b, 0, none⟩)) 56 #[.int .i64 0, .int .i64 0, .int .i64 0, .int .i64 0, .int .i64 0, .int .i64 0, .int .i64 0, .int .i64 0, .int .i64 0, .int .i64 0] (by rintro b rfl; first | rfl | kernel_rfl) ?_
        intro bn13 w61 hge hB hb
        refine hK.out _ _ ?_
        clear hK K
        (try simp only [Act.put, sA, sB, sC])
        have HNn13C := Lib.hid (show bn13 ≠ w.heap.size by have := Blk.lt HBC60.out; omega)
        have HNn13L := Lib.hid (show bn13 ≠ bL by have := Blk.lt HBL60.out; omega)
        have HNn13X := Lib.hid (show bn13 ≠ bX by have := Blk.lt HBX60.out; omega)
        have HGn13 := Lib.hid (show w.heap.size ≤ bn13 by have := Since.size HS60.out; omega)
        have HS61 := Lib.hid (Since.trans HS60.out hb)
        have HBC61 := Lib.hid (keep_blk hb HBC60.out)
        have HBL61 := Lib.hid (keep_blk hb HBL60.out)
        have HBX61 := Lib.hid (keep_blk hb HBX60.out)
        clear HS60 HBC60 HBL60 HBX60
        clear hb hge
        have HBn1361 := Lib.hid hB
        clear hB
        refine wpList_wp (by rfl) (fun K hK => ?_)
        refine wp_st_row 56 _ _ rfl (leaA ⟨l3.se, l3.fl, l3.fm, l3.to, l3.ma, l3.ca, ph2, un2, re2, l3.gr⟩) rfl rfl (HasRow.of HBn1361.out rfl) rfl (by simp [cfgA, leaA, carA, msgC, Value.oneCell']) (by kernel_rfl) ?_
        intro w62 hw
        refine hK.out _ _ ?_
        clear hK K
        (try simp only [Act.put, sA, sB, sC])
        have HS62 := Lib.hid (show Since w w62 by rw [hw]; exact Since.setRow HS61.out HGn13.out _)
        have HBC62 := Lib.hid (show Blk w62 w.heap.size 23 (cfgA c) by rw [hw]; exact Blk.row_far HBC61.out (Ne.symm HNn13C.out) _)
        have HBL62 := Lib.hid (show Blk w62 bL 56 (leaA l3) by rw [hw]; exact Blk.row_far HBL61.out (Ne.symm HNn13L.out) _)
        have HBX62 := Lib.hid (show Blk w62 bX 76 (carA (⟨x2.ds, x2.da, (4 * l3.to), x2.wy, x2.ti, x2.ju, x2.lo, x2.bl, x2.br, x2.mo, x2.ta, x2.ho, x2.sp, x2.su, x2.sd⟩ : CarV)) by rw [hw]; exact Blk.row_far HBX61.out (Ne.symm HNn13X.out) _)
        have HBn1362 := Lib.hid (show Blk w62 bn13 56 (leaA ⟨l3.se, l3.fl, l3.fm, l3.to, l3.ma, l3.ca, ph2, un2, re2, l3.gr⟩) by rw [hw]; exact Blk.row HBn1361.out _)
        clear hw HS61 HBC61 HBL61 HBX61 HBn1361
        refine wpList_q (by rfl) (v92) ?he ?_
        case he => (first | rfl | (go_simp; (try with_reducible rfl)))
        (try simp only [Act.put, sA, sB, sC])
        refine wpList_q (by rfl) (.bool ov2) ?he ?_
        case he => (first | rfl | (go_simp; (try with_reducible rfl)))
        (try simp only [Act.put, sA, sB, sC])
        refine wpList_nil ?_
        cases hov : ov2
        · skip
          have HLN := Lib.hid (show Lv c ⟨l3.se, l3.fl, l3.fm, l3.to, l3.ma, l3.ca, ph2, un2, re2, l3.gr⟩ (t + 1) by rcases HFA.out with h | h; rw [hov] at h; exact absurd h (by decide); exact h)
          clear hov
          go_upto_region 16 with fail
          refine wp_region_lit ?_
          refine wpList_q (by rfl) (.bool false) ?he ?_
          case he => (first | rfl | (go_simp; (try with_reducible rfl)))
          (try simp only [Act.put, sA, sB, sC])
          refine wpList_nil ?_
          go_upto_region 18 with fail
          refine wp_region_lit ?_
          refine wpList_q (by rfl) (.agg (leaA ⟨l3.se, l3.fl, l3.fm, l3.to, l3.ma, l3.ca, ph2, un2, re2, l3.gr⟩)) ?he ?_
          case he => exact exec_load_row 56 _ _ HBn1362.out rfl rfl Try.underlying56 rfl (by kernel_rfl)
          (try simp only [Act.put, sA, sB, sC])
          refine wpList_wp (by rfl) (fun K hK => ?_)
          refine wp_st_row 56 _ _ rfl (leaA ⟨l3.se, l3.fl, l3.fm, l3.to, l3.ma, l3.ca, ph2, un2, re2, l3.gr⟩) rfl rfl (HasRow.of HBL62.out rfl) rfl (by simp [cfgA, leaA, carA, msgC, Value.oneCell']) (by kernel_rfl) ?_
          intro w63 hw
          refine hK.out _ _ ?_
          clear hK K
          (try simp only [Act.put, sA, sB, sC])
          have HS63 := Lib.hid (show Since w w63 by rw [hw]; exact Since.setRow HS62.out (by have := HNE3.out; omega) _)
          have HBC63 := Lib.hid (show Blk w63 w.heap.size 23 (cfgA c) by rw [hw]; exact Blk.row_far HBC62.out (by have := HNE3.out; omega) _)
          have HBL63 := Lib.hid (show Blk w63 bL 56 (leaA ⟨l3.se, l3.fl, l3.fm, l3.to, l3.ma, l3.ca, ph2, un2, re2, l3.gr⟩) by rw [hw]; exact Blk.row HBL62.out _)
          have HBX63 := Lib.hid (show Blk w63 bX 76 (carA (⟨x2.ds, x2.da, (4 * l3.to), x2.wy, x2.ti, x2.ju, x2.lo, x2.bl, x2.br, x2.mo, x2.ta, x2.ho, x2.sp, x2.su, x2.sd⟩ : CarV)) by rw [hw]; exact Blk.row_far HBX62.out (by have := HNE3.out; omega) _)
          have HBn1363 := Lib.hid (show Blk w63 bn13 56 (leaA ⟨l3.se, l3.fl, l3.fm, l3.to, l3.ma, l3.ca, ph2, un2, re2, l3.gr⟩) by rw [hw]; exact Blk.row_far HBn1362.out HNn13L.out _)
          clear hw HS62 HBC62 HBL62 HBX62 HBn1362
          refine wpList_nil ?_
          go_wp2_with fail
          go_roundw
          case rel => exact ⟨t + 1, ⟨l3.se, l3.fl, l3.fm, l3.to, l3.ma, l3.ca, ph2, un2, re2, l3.gr⟩, (⟨x2.ds, x2.da, (4 * l3.to), x2.wy, x2.ti, x2.ju, x2.lo, x2.bl, x2.br, x2.mo, x2.ta, x2.ho, x2.sp, x2.su, x2.sd⟩ : CarV), by omega, by go_num, Lib.hid ⟨HF3.out, HLN.out, HS63.out, HBC63.out, HBL63.out, HBX63.out⟩⟩
          case measure => have := HTB.out; simp [intOf]; omega
        · skip
          clear hov
          go_upto_region 16 with fail
          refine wp_region_lit ?_
          refine wpList_q (by rfl) (.bool true) ?he ?_
          case he => (first | rfl | (go_simp; (try with_reducible rfl)))
          (try simp only [Act.put, sA, sB, sC])
          refine wpList_nil ?_
          go_upto_region 17 with fail
          refine wp_region_lit ?_
          refine wpList_wp (by rfl) (fun K hK => ?_)
          (try go_simp)
          refine (ans _).mono ?_
          rintro e w63 ⟨rfl, hb⟩
          (try go_wp2_with fail)
          refine hK.out _ _ ?_
          clear hK K
          (try simp only [Act.put, sA, sB, sC])
          have HS63 := Lib.hid (Since.trans HS62.out hb)
          have HBC63 := Lib.hid (keep_blk hb HBC62.out)
          have HBL63 := Lib.hid (keep_blk hb HBL62.out)
          have HBX63 := Lib.hid (keep_blk hb HBX62.out)
          have HBn1363 := Lib.hid (keep_blk hb HBn1362.out)
          clear HS62 HBC62 HBL62 HBX62 HBn1362
          clear hb
          refine wpList_q (by rfl) (.bool true) ?he ?_
          case he => (first | rfl | (go_simp; (try with_reducible rfl)))
          (try simp only [Act.put, sA, sB, sC])
          refine wpList_nil ?_
          (try go_wp2_with fail)
          go_ret
          exact ⟨rfl, HS63.out⟩
      · have HP9 := Lib.hid hp; clear hp
        go_upto_region 13 with fail
        refine wp_region_lit ?_
        refine wpList_q (by rfl) (.pointer (some ⟨bL, 6, none⟩)) ?he ?_
        case he => (first | rfl | (go_simp; (try with_reducible rfl)))
        (try simp only [Act.put, sA, sB, sC])
        refine wpList_q (by rfl) (.int .i64 l3.ph) ?he ?_
        case he => exact exec_cell 3 _ _ HBL58.out rfl rfl rfl Try.underlying3 rfl
        (try simp only [Act.put, sA, sB, sC])
        refine wpList_q (by rfl) (.bool false) ?he ?_
        case he => (have q := HP9.out; go_simp; (first | done | omega))
        (try simp only [Act.put, sA, sB, sC])
        refine wpList_nil ?_
        go_upto_region 15 with fail
        refine wp_region_lit ?_
        refine wpList_q (by rfl) (.agg (cfgA c)) ?he ?_
        case he => exact exec_load_row 23 _ _ HBC58.out rfl rfl Try.underlying23 rfl (by kernel_rfl)
        (try simp only [Act.put, sA, sB, sC])
        refine wpList_q (by rfl) (.agg (leaA l3)) ?he ?_
        case he => exact exec_load_row 56 _ _ HBL58.out rfl rfl Try.underlying56 rfl (by kernel_rfl)
        (try simp only [Act.put, sA, sB, sC])
        refine wpList_q (by rfl) (.agg (carA (⟨x2.ds, x2.da, (4 * l3.fm), x2.wy, x2.ti, x2.ju, x2.lo, x2.bl, x2.br, x2.mo, x2.ta, x2.ho, x2.sp, x2.su, x2.sd⟩ : CarV))) ?he ?_
        case he => exact exec_load_row 76 _ _ HBX58.out rfl rfl Try.underlying76 rfl (by kernel_rfl)
        (try simp only [Act.put, sA, sB, sC])
        refine wpList_q (by rfl) (.int .i64 t) ?he ?_
        case he => (first | rfl | (go_simp; (try with_reducible rfl)))
        (try simp only [Act.put, sA, sB, sC])
        refine wpList_wp (by rfl) (fun K hK => ?_)
        (try go_simp)
        refine (tickE2 c l3 (⟨x2.ds, x2.da, (4 * l3.fm), x2.wy, x2.ti, x2.ju, x2.lo, x2.bl, x2.br, x2.mo, x2.ta, x2.ho, x2.sp, x2.su, x2.sd⟩ : CarV) t (by have := HT0.out; omega) HL3.out _).mono ?_
        rintro e w59 ⟨v92, ph2, un2, re2, ov2, rfl, hfa, hb⟩
        (try go_wp2_with fail)
        refine hK.out _ _ ?_
        clear hK K
        (try simp only [Act.put, sA, sB, sC])
        have HS59 := Lib.hid (Since.trans HS58.out hb)
        have HBC59 := Lib.hid (keep_blk hb HBC58.out)
        have HBL59 := Lib.hid (keep_blk hb HBL58.out)
        have HBX59 := Lib.hid (keep_blk hb HBX58.out)
        clear HS58 HBC58 HBL58 HBX58
        clear hb
        have HFA := Lib.hid hfa
        clear hfa
        refine wpList_q (by rfl) (.tuple #[.agg (leaA ⟨l3.se, l3.fl, l3.fm, l3.to, l3.ma, l3.ca, ph2, un2, re2, l3.gr⟩), v92, .bool ov2]) ?he ?_
        case he => (first | rfl | (go_simp; (try with_reducible rfl)))
        (try simp only [Act.put, sA, sB, sC])
        refine wpList_q (by rfl) (.agg (leaA ⟨l3.se, l3.fl, l3.fm, l3.to, l3.ma, l3.ca, ph2, un2, re2, l3.gr⟩)) ?he ?_
        case he => (first | rfl | (go_simp; (try with_reducible rfl)))
        (try simp only [Act.put, sA, sB, sC])
        refine wpList_q (by rfl) (v92) ?he ?_
        case he => (first | rfl | (go_simp; (try with_reducible rfl)))
        (try simp only [Act.put, sA, sB, sC])
        refine wpList_q (by rfl) (.bool ov2) ?he ?_
        case he => (first | rfl | (go_simp; (try with_reducible rfl)))
        (try simp only [Act.put, sA, sB, sC])
        refine wpList_wp (by rfl) (fun K hK => ?_)
        refine wp_new (fun b => .pointer (some ⟨b, 0, none⟩)) 56 #[.int .i64 0, .int .i64 0, .int .i64 0, .int .i64 0, .int .i64 0, .int .i64 0, .int .i64 0, .int .i64 0, .int .i64 0, .int .i64 0] (by rintro b rfl; first | rfl | kernel_rfl) ?_
        intro bn13 w60 hge hB hb
        refine hK.out _ _ ?_
        clear hK K
        (try simp only [Act.put, sA, sB, sC])
        have HNn13C := Lib.hid (show bn13 ≠ w.heap.size by have := Blk.lt HBC59.out; omega)
        have HNn13L := Lib.hid (show bn13 ≠ bL by have := Blk.lt HBL59.out; omega)
        have HNn13X := Lib.hid (show bn13 ≠ bX by have := Blk.lt HBX59.out; omega)
        have HGn13 := Lib.hid (show w.heap.size ≤ bn13 by have := Since.size HS59.out; omega)
        have HS60 := Lib.hid (Since.trans HS59.out hb)
        have HBC60 := Lib.hid (keep_blk hb HBC59.out)
        have HBL60 := Lib.hid (keep_blk hb HBL59.out)
        have HBX60 := Lib.hid (keep_blk hb HBX59.out)
        clear HS59 HBC59 HBL59 HBX59
        clear hb hge
        have HBn1360 := Lib.hid hB
        clear hB
        refine wpList_wp (by rfl) (fun K hK => ?_)
        refine wp_st_row 56 _ _ rfl (leaA ⟨l3.se, l3.fl, l3.fm, l3.to, l3.ma, l3.ca, ph2, un2, re2, l3.gr⟩) rfl rfl (HasRow.of HBn1360.out rfl) rfl (by simp [cfgA, leaA, carA, msgC, Value.oneCell']) (by kernel_rfl) ?_
        intro w61 hw
        refine hK.out _ _ ?_
        clear hK K
        (try simp only [Act.put, sA, sB, sC])
        have HS61 := Lib.hid (show Since w w61 by rw [hw]; exact Since.setRow HS60.out HGn13.out _)
        have HBC61 := Lib.hid (show Blk w61 w.heap.size 23 (cfgA c) by rw [hw]; exact Blk.row_far HBC60.out (Ne.symm HNn13C.out) _)
        have HBL61 := Lib.hid (show Blk w61 bL 56 (leaA l3) by rw [hw]; exact Blk.row_far HBL60.out (Ne.symm HNn13L.out) _)
        have HBX61 := Lib.hid (show Blk w61 bX 76 (carA (⟨x2.ds, x2.da, (4 * l3.fm), x2.wy, x2.ti, x2.ju, x2.lo, x2.bl, x2.br, x2.mo, x2.ta, x2.ho, x2.sp, x2.su, x2.sd⟩ : CarV)) by rw [hw]; exact Blk.row_far HBX60.out (Ne.symm HNn13X.out) _)
        have HBn1361 := Lib.hid (show Blk w61 bn13 56 (leaA ⟨l3.se, l3.fl, l3.fm, l3.to, l3.ma, l3.ca, ph2, un2, re2, l3.gr⟩) by rw [hw]; exact Blk.row HBn1360.out _)
        clear hw HS60 HBC60 HBL60 HBX60 HBn1360
        refine wpList_q (by rfl) (v92) ?he ?_
        case he => (first | rfl | (go_simp; (try with_reducible rfl)))
        (try simp only [Act.put, sA, sB, sC])
        refine wpList_q (by rfl) (.bool ov2) ?he ?_
        case he => (first | rfl | (go_simp; (try with_reducible rfl)))
        (try simp only [Act.put, sA, sB, sC])
        refine wpList_nil ?_
        cases hov : ov2
        · skip
          have HLN := Lib.hid (show Lv c ⟨l3.se, l3.fl, l3.fm, l3.to, l3.ma, l3.ca, ph2, un2, re2, l3.gr⟩ (t + 1) by rcases HFA.out with h | h; rw [hov] at h; exact absurd h (by decide); exact h)
          clear hov
          go_upto_region 16 with fail
          refine wp_region_lit ?_
          refine wpList_q (by rfl) (.bool false) ?he ?_
          case he => (first | rfl | (go_simp; (try with_reducible rfl)))
          (try simp only [Act.put, sA, sB, sC])
          refine wpList_nil ?_
          go_upto_region 18 with fail
          refine wp_region_lit ?_
          refine wpList_q (by rfl) (.agg (leaA ⟨l3.se, l3.fl, l3.fm, l3.to, l3.ma, l3.ca, ph2, un2, re2, l3.gr⟩)) ?he ?_
          case he => exact exec_load_row 56 _ _ HBn1361.out rfl rfl Try.underlying56 rfl (by kernel_rfl)
          (try simp only [Act.put, sA, sB, sC])
          refine wpList_wp (by rfl) (fun K hK => ?_)
          refine wp_st_row 56 _ _ rfl (leaA ⟨l3.se, l3.fl, l3.fm, l3.to, l3.ma, l3.ca, ph2, un2, re2, l3.gr⟩) rfl rfl (HasRow.of HBL61.out rfl) rfl (by simp [cfgA, leaA, carA, msgC, Value.oneCell']) (by kernel_rfl) ?_
          intro w62 hw
          refine hK.out _ _ ?_
          clear hK K
          (try simp only [Act.put, sA, sB, sC])
          have HS62 := Lib.hid (show Since w w62 by rw [hw]; exact Since.setRow HS61.out (by have := HNE3.out; omega) _)
          have HBC62 := Lib.hid (show Blk w62 w.heap.size 23 (cfgA c) by rw [hw]; exact Blk.row_far HBC61.out (by have := HNE3.out; omega) _)
          have HBL62 := Lib.hid (show Blk w62 bL 56 (leaA ⟨l3.se, l3.fl, l3.fm, l3.to, l3.ma, l3.ca, ph2, un2, re2, l3.gr⟩) by rw [hw]; exact Blk.row HBL61.out _)
          have HBX62 := Lib.hid (show Blk w62 bX 76 (carA (⟨x2.ds, x2.da, (4 * l3.fm), x2.wy, x2.ti, x2.ju, x2.lo, x2.bl, x2.br, x2.mo, x2.ta, x2.ho, x2.sp, x2.su, x2.sd⟩ : CarV)) by rw [hw]; exact Blk.row_far HBX61.out (by have := HNE3.out; omega) _)
          have HBn1362 := Lib.hid (show Blk w62 bn13 56 (leaA ⟨l3.se, l3.fl, l3.fm, l3.to, l3.ma, l3.ca, ph2, un2, re2, l3.gr⟩) by rw [hw]; exact Blk.row_far HBn1361.out HNn13L.out _)
          clear hw HS61 HBC61 HBL61 HBX61 HBn1361
          refine wpList_nil ?_
          go_wp2_with fail
          go_roundw
          case rel => exact ⟨t + 1, ⟨l3.se, l3.fl, l3.fm, l3.to, l3.ma, l3.ca, ph2, un2, re2, l3.gr⟩, (⟨x2.ds, x2.da, (4 * l3.fm), x2.wy, x2.ti, x2.ju, x2.lo, x2.bl, x2.br, x2.mo, x2.ta, x2.ho, x2.sp, x2.su, x2.sd⟩ : CarV), by omega, by go_num, Lib.hid ⟨HF3.out, HLN.out, HS62.out, HBC62.out, HBL62.out, HBX62.out⟩⟩
          case measure => have := HTB.out; simp [intOf]; omega
        · skip
          clear hov
          go_upto_region 16 with fail
          refine wp_region_lit ?_
          refine wpList_q (by rfl) (.bool true) ?he ?_
          case he => (first | rfl | (go_simp; (try with_reducible rfl)))
          (try simp only [Act.put, sA, sB, sC])
          refine wpList_nil ?_
          go_upto_region 17 with fail
          refine wp_region_lit ?_
          refine wpList_wp (by rfl) (fun K hK => ?_)
          (try go_simp)
          refine (ans _).mono ?_
          rintro e w62 ⟨rfl, hb⟩
          (try go_wp2_with fail)
          refine hK.out _ _ ?_
          clear hK K
          (try simp only [Act.put, sA, sB, sC])
          have HS62 := Lib.hid (Since.trans HS61.out hb)
          have HBC62 := Lib.hid (keep_blk hb HBC61.out)
          have HBL62 := Lib.hid (keep_blk hb HBL61.out)
          have HBX62 := Lib.hid (keep_blk hb HBX61.out)
          have HBn1362 := Lib.hid (keep_blk hb HBn1361.out)
          clear HS61 HBC61 HBL61 HBX61 HBn1361
          clear hb
          refine wpList_q (by rfl) (.bool true) ?he ?_
          case he => (first | rfl | (go_simp; (try with_reducible rfl)))
          (try simp only [Act.put, sA, sB, sC])
          refine wpList_nil ?_
          (try go_wp2_with fail)
          go_ret
          exact ⟨rfl, HS62.out⟩
theorem endsA (c : CfgV) (l : LeaseV) (x : CarV) (a3 : Option Addr) (len3 cap3 : Nat) (gs : Nat → MsgV) (w : World) (hG : Msgs w a3 len3 gs) (hl3 : len3 ≤ 9223372036854775807) : Calls Try.prog 14 #[.agg #[.int .i64 c.ca, .int .i64 c.fl, .int .i64 c.ft, .int .i64 c.se, .int .i64 c.dr, .int .i64 c.dw, .int .i64 c.ho, .int .i64 c.re, .int .i64 c.yi, .int .i64 c.qu, .int .i64 c.qo, .int .i64 c.lo, .int .i64 c.sl, .int .i64 c.rt, .int .i64 c.cp, .int .i64 c.tr, .int .i64 c.de, .int .i64 c.wi], .agg #[.int .i64 l.se, .int .i64 l.fl, .int .i64 l.fm, .int .i64 l.to, .int .i64 l.ma, .int .i64 l.ca, .int .i64 l.ph, .int .i64 l.un, .int .i64 l.re, .int .i64 l.gr], .agg #[.int .i64 x.ds, .int .i64 x.da, .int .i64 x.un, .int .i64 x.wy, .int .i64 x.ti, .int .i64 x.ju, .int .i64 x.lo, .bool x.bl, .bool x.br, .int .i64 x.mo, .int .i64 x.ta, .bool x.ho, .int .u64 x.sp, .int .u64 x.su, .int .u64 x.sd], .slice a3 len3 cap3] w fun e w' => e = .returned (.bool true) ∧ Since w w' := by
  by_cases h0 : 30 < c.ho
  · exact enX0 c l x a3 len3 cap3 gs w hG hl3 h0
  · skip
    by_cases h1 : 5 < c.re
    · exact enX1 c l x a3 len3 cap3 gs w hG hl3 h0 h1
    · skip
      by_cases h2 : 10 < c.fl
      · exact enX2 c l x a3 len3 cap3 gs w hG hl3 h0 h1 h2
      · skip
        by_cases h3 : 5 < c.dr
        · exact enX3 c l x a3 len3 cap3 gs w hG hl3 h0 h1 h2 h3
        · skip
          by_cases h4 : l.fm < 0
          · exact enX4 c l x a3 len3 cap3 gs w hG hl3 h0 h1 h2 h3 h4
          · skip
            by_cases h5 : 63 < l.fm
            · exact enX5 c l x a3 len3 cap3 gs w hG hl3 h0 h1 h2 h3 h4 h5
            · skip
              by_cases h6 : l.to < 0
              · exact enX6 c l x a3 len3 cap3 gs w hG hl3 h0 h1 h2 h3 h4 h5 h6
              · skip
                by_cases h7 : 63 < l.to
                · exact enX7 c l x a3 len3 cap3 gs w hG hl3 h0 h1 h2 h3 h4 h5 h6 h7
                · skip
                  exact ends c l x a3 len3 cap3 gs w hG hl3 h0 h1 h2 h3 h4 h5 h6 h7
theorem enF {H : Type} {enc : TypeId × Value → H} {y1 : DataW H × List MemPlace} (cca : Int) (cfl : Int) (cft : Int) (cse : Int) (cdr : Int) (cdw : Int) (cho : Int) (cre : Int) (cyi : Int) (cqu : Int) (cqo : Int) (clo : Int) (csl : Int) (crt : Int) (ccp : Int) (ctr : Int) (cde : Int) (cwi : Int) (lse : Int) (lfl : Int) (lfm : Int) (lto : Int) (lma : Int) (lca : Int) (lph : Int) (lun : Int) (lre : Int) (lgr : Int) (xds : Int) (xda : Int) (xun : Int) (xwy : Int) (xti : Int) (xju : Int) (xlo : Int) (xbl : Bool) (xbr : Bool) (xmo : Int) (xta : Int) (xho : Bool) (xsp : Int) (xsu : Int) (xsd : Int) (a3 : Option Addr) (len3 cap3 : Nat) (w : World) (_ : (Lit.int .i64 cca).wf = true) (_ : (Lit.int .i64 cfl).wf = true) (_ : (Lit.int .i64 cft).wf = true) (_ : (Lit.int .i64 cse).wf = true) (_ : (Lit.int .i64 cdr).wf = true) (_ : (Lit.int .i64 cdw).wf = true) (_ : (Lit.int .i64 cho).wf = true) (_ : (Lit.int .i64 cre).wf = true) (_ : (Lit.int .i64 cyi).wf = true) (_ : (Lit.int .i64 cqu).wf = true) (_ : (Lit.int .i64 cqo).wf = true) (_ : (Lit.int .i64 clo).wf = true) (_ : (Lit.int .i64 csl).wf = true) (_ : (Lit.int .i64 crt).wf = true) (_ : (Lit.int .i64 ccp).wf = true) (_ : (Lit.int .i64 ctr).wf = true) (_ : (Lit.int .i64 cde).wf = true) (_ : (Lit.int .i64 cwi).wf = true) (_ : (Lit.int .i64 lse).wf = true) (_ : (Lit.int .i64 lfl).wf = true) (_ : (Lit.int .i64 lfm).wf = true) (_ : (Lit.int .i64 lto).wf = true) (_ : (Lit.int .i64 lma).wf = true) (_ : (Lit.int .i64 lca).wf = true) (_ : (Lit.int .i64 lph).wf = true) (_ : (Lit.int .i64 lun).wf = true) (_ : (Lit.int .i64 lre).wf = true) (_ : (Lit.int .i64 lgr).wf = true) (_ : (Lit.int .i64 xds).wf = true) (_ : (Lit.int .i64 xda).wf = true) (_ : (Lit.int .i64 xun).wf = true) (_ : (Lit.int .i64 xwy).wf = true) (_ : (Lit.int .i64 xti).wf = true) (_ : (Lit.int .i64 xju).wf = true) (_ : (Lit.int .i64 xlo).wf = true) (_ : (Lit.int .i64 xmo).wf = true) (_ : (Lit.int .i64 xta).wf = true) (_ : (Lit.int .u64 xsp).wf = true) (_ : (Lit.int .u64 xsu).wf = true) (_ : (Lit.int .u64 xsd).wf = true)
    (h3 : ∃ m, DataW.trod enc Try.prog w 0 (fun _ => true) true m 77 (Value.cells (.slice a3 len3 cap3)).toList = some y1) :
    Calls Try.prog 14 #[.agg #[.int .i64 cca, .int .i64 cfl, .int .i64 cft, .int .i64 cse, .int .i64 cdr, .int .i64 cdw, .int .i64 cho, .int .i64 cre, .int .i64 cyi, .int .i64 cqu, .int .i64 cqo, .int .i64 clo, .int .i64 csl, .int .i64 crt, .int .i64 ccp, .int .i64 ctr, .int .i64 cde, .int .i64 cwi], .agg #[.int .i64 lse, .int .i64 lfl, .int .i64 lfm, .int .i64 lto, .int .i64 lma, .int .i64 lca, .int .i64 lph, .int .i64 lun, .int .i64 lre, .int .i64 lgr], .agg #[.int .i64 xds, .int .i64 xda, .int .i64 xun, .int .i64 xwy, .int .i64 xti, .int .i64 xju, .int .i64 xlo, .bool xbl, .bool xbr, .int .i64 xmo, .int .i64 xta, .bool xho, .int .u64 xsp, .int .u64 xsu, .int .u64 xsd], .slice a3 len3 cap3] w fun e w' => e = .returned (.bool true) ∧ Since w w' := by
  obtain ⟨m3, h3⟩ := h3
  obtain ⟨gs, hG, hl3⟩ := Msgs.open_ h3
  exact endsA ⟨cca, cfl, cft, cse, cdr, cdw, cho, cre, cyi, cqu, cqo, clo, csl, crt, ccp, ctr, cde, cwi⟩ ⟨lse, lfl, lfm, lto, lma, lca, lph, lun, lre, lgr⟩ ⟨xds, xda, xun, xwy, xti, xju, xlo, xbl, xbr, xmo, xta, xho, xsp, xsu, xsd⟩ a3 len3 cap3 gs w hG hl3
end Go.Proofs.Ytggafipgfgbbiaa.Ri
