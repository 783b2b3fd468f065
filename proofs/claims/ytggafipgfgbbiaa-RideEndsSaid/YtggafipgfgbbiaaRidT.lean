/-
  ride.Tick, walked, way by way.
  No condition.
-/
import Derived.Test.YtggafipgfgbbiaaRidB
namespace Go.Proofs.Ytggafipgfgbbiaa.Ri
set_option linter.unusedVariables false
set_option linter.unusedSimpArgs false
open Go.RowKit Go.Proofs.Ytggafipgfgbbiaa.Ba Go.Proofs.Ytggafipgfgbbiaa.Mo Go.Proofs.Ytggafipgfgbbiaa.Ty Go.Proofs.Ytggafipgfgbbiaa.Mem Go.Proofs.Ytggafipgfgbbiaa.Tm Go.Proofs.Ytggafipgfgbbiaa.Tw
open Go.Proofs.Ytggafipgfgbbiaa.Ce (ms ms_lo ms_hi massT nearT nr)
open Go.Proofs.Ytggafipgfgbbiaa.Fl (massR)
set_option maxRecDepth 100000
theorem heldT (c : CfgV) (now : Int) (w : World) : Calls Try.prog 85 #[.agg #[.int .i64 c.ca, .int .i64 c.fl, .int .i64 c.ft, .int .i64 c.se, .int .i64 c.dr, .int .i64 c.dw, .int .i64 c.ho, .int .i64 c.re, .int .i64 c.yi, .int .i64 c.qu, .int .i64 c.qo, .int .i64 c.lo, .int .i64 c.sl, .int .i64 c.rt, .int .i64 c.cp, .int .i64 c.tr, .int .i64 c.de, .int .i64 c.wi], .int .i64 now] w fun e w' => e = .returned (.int .i64 (cl (cl now + cl (sp c.ho)))) ∧ Since w w' := by
  go_enter Try.func85, Try.ntmps85
  go_wp2_with (first | (go_at_call 45; refine (spanT _ _).mono ?_; rintro e w' ⟨rfl, rfl⟩) | (go_at_call 95; refine (addT _ _ _).mono ?_; rintro e w' ⟨rfl, rfl⟩))
  go_ret
  exact ⟨rfl, (by repeat (first | exact Since.refl _ | assumption | refine Since.setCell ?_ (by first | (simp; done) | (simp; omega)) _ | refine Since.drew ?_ | refine Since.drewN ?_ _ | refine Since.alloc ?_ _ | refine Since.trans ?_ (by assumption) | refine Since.trans ?_ (Hid.out (by assumption))))⟩
set_option maxHeartbeats 4000000 in
theorem tickA (c : CfgV) (l : LeaseV) (x : CarV) (now : Int) (h0 : x.br = true) (w : World) : Calls Try.prog 50 #[.agg #[.int .i64 c.ca, .int .i64 c.fl, .int .i64 c.ft, .int .i64 c.se, .int .i64 c.dr, .int .i64 c.dw, .int .i64 c.ho, .int .i64 c.re, .int .i64 c.yi, .int .i64 c.qu, .int .i64 c.qo, .int .i64 c.lo, .int .i64 c.sl, .int .i64 c.rt, .int .i64 c.cp, .int .i64 c.tr, .int .i64 c.de, .int .i64 c.wi], .agg #[.int .i64 l.se, .int .i64 l.fl, .int .i64 l.fm, .int .i64 l.to, .int .i64 l.ma, .int .i64 l.ca, .int .i64 l.ph, .int .i64 l.un, .int .i64 l.re, .int .i64 l.gr], .agg #[.int .i64 x.ds, .int .i64 x.da, .int .i64 x.un, .int .i64 x.wy, .int .i64 x.ti, .int .i64 x.ju, .int .i64 x.lo, .bool x.bl, .bool x.br, .int .i64 x.mo, .int .i64 x.ta, .bool x.ho, .int .u64 x.sp, .int .u64 x.su, .int .u64 x.sd], .int .i64 now] w (Said w (⟨l.se, l.fl, l.fm, l.to, l.ma, l.ca, l.ph, l.un, l.re, l.gr⟩, some ⟨16, l.ph, 0, 0⟩, true)) := by
  have H0 := Lib.hid h0
  clear h0
  go_enter Try.func50, Try.ntmps50
  go_upto_region 1 with fail
  obtain ⟨w1, hw1⟩ : ∃ w1, w1 = ((((w.alloc (.cells #[.int .i64 c.ca, .int .i64 c.fl, .int .i64 c.ft, .int .i64 c.se, .int .i64 c.dr, .int .i64 c.dw, .int .i64 c.ho, .int .i64 c.re, .int .i64 c.yi, .int .i64 c.qu, .int .i64 c.qo, .int .i64 c.lo, .int .i64 c.sl, .int .i64 c.rt, .int .i64 c.cp, .int .i64 c.tr, .int .i64 c.de, .int .i64 c.wi] 23)).alloc (.cells #[.int .i64 l.se, .int .i64 l.fl, .int .i64 l.fm, .int .i64 l.to, .int .i64 l.ma, .int .i64 l.ca, .int .i64 l.ph, .int .i64 l.un, .int .i64 l.re, .int .i64 l.gr] 56)).alloc (.cells #[.int .i64 x.ds, .int .i64 x.da, .int .i64 x.un, .int .i64 x.wy, .int .i64 x.ti, .int .i64 x.ju, .int .i64 x.lo, .bool x.bl, .bool x.br, .int .i64 x.mo, .int .i64 x.ta, .bool x.ho, .int .u64 x.sp, .int .u64 x.su, .int .u64 x.sd] 76)).alloc (.cells #[.int .i64 0, .int .i64 0, .int .i64 0, .int .i64 0, .int .i64 0, .int .i64 0, .int .i64 0, .int .i64 0, .int .i64 0, .int .i64 0] 56)) := ⟨_, rfl⟩
  rw [← hw1]
  have HBC1 := Lib.hid (show Blk w1 (w.heap.size) 23 (cfgA c) by rw [hw1]; exact Blk.alloc (Blk.alloc (Blk.alloc (Blk.at_ (by (try simp only [size_alloc])) _ _) _) _) _)
  have HBL1 := Lib.hid (show Blk w1 (w.heap.size + 1) 56 (leaA l) by rw [hw1]; exact Blk.alloc (Blk.alloc (Blk.at_ (by (try simp only [size_alloc])) _ _) _) _)
  have HBX1 := Lib.hid (show Blk w1 (w.heap.size + 1 + 1) 76 (carA x) by rw [hw1]; exact Blk.alloc (Blk.at_ (by (try simp only [size_alloc])) _ _) _)
  have HBR1 := Lib.hid (show Blk w1 (w.heap.size + 1 + 1 + 1) 56 #[.int .i64 0, .int .i64 0, .int .i64 0, .int .i64 0, .int .i64 0, .int .i64 0, .int .i64 0, .int .i64 0, .int .i64 0, .int .i64 0] by rw [hw1]; exact Blk.at_ (by (try simp only [size_alloc])) _ _)
  have HS1 := Lib.hid (show Since w w1 by rw [hw1]; exact Since.alloc (Since.alloc (Since.alloc (Since.alloc (Since.refl w) _) _) _) _)
  have hNE : w.heap.size ≤ w.heap.size ∧ w.heap.size < w.heap.size + 1 ∧ w.heap.size + 1 < w.heap.size + 1 + 1 ∧ w.heap.size + 1 + 1 < w.heap.size + 1 + 1 + 1 := by omega
  have HNE := Lib.hid hNE
  clear hNE hw1
  generalize w.heap.size + 1 + 1 + 1 = bR at *
  generalize w.heap.size + 1 + 1 = bX at *
  generalize w.heap.size + 1 = bL at *
  have HNE3 := Lib.hid (show w.heap.size ≤ w.heap.size ∧ w.heap.size < bL ∧ bL < bX ∧ bX < bR from HNE.out)
  clear HNE
  refine wp_region_lit ?_
  refine wpList_q (by rfl) (.pointer (some ⟨bX, 8, none⟩)) ?he ?_
  case he => (first | rfl | (go_simp; (try with_reducible rfl)))
  (try simp only [Act.put, sA, sB, sC])
  refine wpList_q (by rfl) (.bool x.br) ?he ?_
  case he => exact exec_cell 4 _ _ HBX1.out rfl rfl rfl Try.underlying4 rfl
  (try simp only [Act.put, sA, sB, sC])
  refine wpList_q (by rfl) (.bool true) ?he ?_
  case he => (have hq := H0.out; go_simp; (try with_reducible rfl))
  (try simp only [Act.put, sA, sB, sC])
  refine wpList_no (by rfl) ?_
  (try simp only [Act.put, sA, sB, sC])
  refine wpList_no (by rfl) ?_
  (try simp only [Act.put, sA, sB, sC])
  refine wpList_no (by rfl) ?_
  (try simp only [Act.put, sA, sB, sC])
  refine wpList_no (by rfl) ?_
  (try simp only [Act.put, sA, sB, sC])
  refine wpList_q (by rfl) (.bool true) ?he ?_
  case he => (first | rfl | (go_simp; (try with_reducible rfl)))
  (try simp only [Act.put, sA, sB, sC])
  refine wpList_q (by rfl) (.bool true) ?he ?_
  case he => (first | rfl | (go_simp; (try with_reducible rfl)))
  (try simp only [Act.put, sA, sB, sC])
  refine wpList_nil ?_
  go_upto_region 2 with fail
  have hrK : ∀ W W' : World, Since W W' → (Since w W ∧ Blk W w.heap.size 23 (cfgA c) ∧ Blk W bL 56 (leaA l) ∧ Blk W bX 76 (carA x) ∧ HasRow W bR 56 10) → (Since w W' ∧ Blk W' w.heap.size 23 (cfgA c) ∧ Blk W' bL 56 (leaA l) ∧ Blk W' bX 76 (carA x) ∧ HasRow W' bR 56 10) := fun W W' k ⟨h, h0, h1, h2, h3⟩ => ⟨h.trans k, keep_blk k h0, keep_blk k h1, keep_blk k h2, HasRow.keep k h3⟩
  have hrS : (fun W : World => Since w W ∧ Blk W w.heap.size 23 (cfgA c) ∧ Blk W bL 56 (leaA l) ∧ Blk W bX 76 (carA x) ∧ HasRow W bR 56 10) w1 := ⟨HS1.out, HBC1.out, HBL1.out, HBX1.out, HasRow.of HBR1.out rfl⟩
  have HRK := Lib.hid hrK
  have HRD := Lib.hid (show (fun W : World => Since w W ∧ Blk W w.heap.size 23 (cfgA c) ∧ Blk W bL 56 (leaA l) ∧ Blk W bX 76 (carA x) ∧ HasRow W bR 56 10) (World.drew w1) from ⟨Since.drew hrS.1, hrS.2⟩)
  clear hrK hrS
  refine wp_region_held_drew (S := fun W : World => Since w W ∧ Blk W w.heap.size 23 (cfgA c) ∧ Blk W bL 56 (leaA l) ∧ Blk W bX 76 (carA x) ∧ HasRow W bR 56 10) (by kernel_rfl) HRD.out (fun hHeld => ?_)
  refine wpAnyH_take (i := 0) (oi := ?o2__0) (v := .agg (leaA l)) ?h2__0 (by kernel_rfl) (by kernel_rfl) (by kernel_rfl) ?q2__0 ?y2__0 (by assumption) ?_
  case h2__0 => (first | (simp only [gA, gB, gC]; done) | (simp only [gA, gB, gC]; exact rfl))
  case q2__0 => exact fun _ _ _ h => h
  case y2__0 => (refine Or.inl ⟨rfl, ?_⟩; intro w hSw; exact exec_load_row 56 _ _ hSw.2.2.1 rfl rfl Try.underlying56 rfl (by kernel_rfl))
  (try simp only [Act.put, sA, sB, sC])
  refine wpAnyH_take (i := 1) (oi := ?o2__1) (v := .pointer (some ⟨bL, 6, none⟩)) ?h2__1 (by kernel_rfl) (by kernel_rfl) (by kernel_rfl) ?q2__1 ?y2__1 (by assumption) ?_
  case h2__1 => (first | (simp only [gA, gB, gC]; done) | (simp only [gA, gB, gC]; exact rfl))
  case q2__1 => exact fun _ _ _ h => h
  case y2__1 => (refine Or.inl ⟨rfl, ?_⟩; intro w hSw; (first | rfl | (go_simp; (try with_reducible rfl))))
  (try simp only [Act.put, sA, sB, sC])
  refine wpAnyH_take (i := 2) (oi := ?o2__2) (v := .int .i64 l.ph) ?h2__2 (by kernel_rfl) (by kernel_rfl) (by kernel_rfl) ?q2__2 ?y2__2 (by assumption) ?_
  case h2__2 => (first | (simp only [gA, gB, gC]; done) | (simp only [gA, gB, gC]; exact rfl))
  case q2__2 => exact fun _ _ _ h => h
  case y2__2 => (refine Or.inl ⟨rfl, ?_⟩; intro w hSw; exact exec_cell 3 _ _ hSw.2.2.1 rfl rfl rfl Try.underlying3 rfl)
  (try simp only [Act.put, sA, sB, sC])
  refine wpAnyH_ready (rs := [3]) (by kernel_rfl) (by simp) ?_
  refine AllReadyH.cons (o := ?o2__3) ?h2__3 (fun K hK => ?_) AllReadyH.nil
  case h2__3 => (first | (simp only [gA, gB, gC]; done) | (simp only [gA, gB, gC]; exact rfl))
  (try go_simp)
  refine (sayT 16 l.ph _).mono ?_
  rintro e w2 ⟨b9, rfl, hge, hB, hb⟩
  (try go_wp2_with fail)
  refine hK.out _ _ (by (apply HRK.out; exact hb; exact hHeld)) (fun hHeld2 => ?_)
  have HNmR := Lib.hid (show b9 ≠ bR by obtain ⟨old, Bo, _⟩ := hHeld.2.2.2.2; have := Blk.lt Bo; omega)
  have HGm := Lib.hid (show w.heap.size ≤ b9 by have := Since.size hHeld.1; (try simp at this); (try simp at hge); omega)
  have HXm := Lib.hid hB
  clear hB
  clear hge
  clear hK K hHeld hb
  have hHeld := hHeld2
  clear hHeld2
  (try simp only [Act.put, sA, sB, sC])
  refine wpAnyH_ready (rs := [4]) (by kernel_rfl) (by simp) ?_
  refine AllReadyH.cons (o := ?o2__4) ?h2__4 (fun K hK => ?_) AllReadyH.nil
  case h2__4 => (first | (simp only [gA, gB, gC]; done) | (simp only [gA, gB, gC]; exact rfl))
  rw [if_pos (by rfl)]
  refine wp_st_row 56 _ _ rfl #[.int .i64 l.se, .int .i64 l.fl, .int .i64 l.fm, .int .i64 l.to, .int .i64 l.ma, .int .i64 l.ca, .int .i64 l.ph, .int .i64 l.un, .int .i64 l.re, .int .i64 l.gr] rfl rfl (hHeld.2.2.2.2) rfl (by simp [cfgA, leaA, carA, msgC, Value.oneCell']) (by kernel_rfl) ?_
  intro w3 hw
  have HRR := Lib.hid (show Blk w3 bR 56 (leaA l) by obtain ⟨old, Bo, _⟩ := hHeld.2.2.2.2; rw [hw]; exact Blk.row Bo _)
  have HXm2 := Lib.hid (show Blk w3 b9 85 #[.int .i64 16, .int .i64 l.ph, .int .i64 0, .int .i64 0] by rw [hw]; exact Blk.row_far HXm.out HNmR.out _)
  clear HXm
  have hHeld3 : (fun W : World => Since w W ∧ Blk W w.heap.size 23 (cfgA c) ∧ Blk W bL 56 (leaA l) ∧ Blk W bX 76 (carA x) ∧ HasRow W bR 56 10) w3 := ⟨by rw [hw]; exact Since.setRow hHeld.1 (by have := HNE3.out; omega) _, by rw [hw]; exact Blk.row_far (hHeld.2.1) (by have := HNE3.out; omega) _, by rw [hw]; exact Blk.row_far (hHeld.2.2.1) (by have := HNE3.out; omega) _, by rw [hw]; exact Blk.row_far (hHeld.2.2.2.1) (by have := HNE3.out; omega) _, HasRow.of HRR.out rfl⟩
  refine hK.out _ _ hHeld3 (fun hHeld2 => ?_)
  clear hK K hHeld hHeld3 hw
  have hHeld := hHeld2
  clear hHeld2
  (try simp only [Act.put, sA, sB, sC])
  refine wpAnyH_take (i := 5) (oi := ?o2__5) (v := .slice (some ⟨b9, 0, none⟩) 1 1) ?h2__5 (by kernel_rfl) (by kernel_rfl) (by kernel_rfl) ?q2__5 ?y2__5 (by assumption) ?_
  case h2__5 => (first | (simp only [gA, gB, gC]; done) | (simp only [gA, gB, gC]; exact rfl))
  case q2__5 => exact fun _ _ _ h => h
  case y2__5 => (refine Or.inl ⟨rfl, ?_⟩; intro w hSw; (first | rfl | (go_simp; (try with_reducible rfl))))
  (try simp only [Act.put, sA, sB, sC])
  refine wpAnyH_take (i := 6) (oi := ?o2__6) (v := .bool true) ?h2__6 (by kernel_rfl) (by kernel_rfl) (by kernel_rfl) ?q2__6 ?y2__6 (by assumption) ?_
  case h2__6 => (first | (simp only [gA, gB, gC]; done) | (simp only [gA, gB, gC]; exact rfl))
  case q2__6 => exact fun _ _ _ h => h
  case y2__6 => (refine Or.inl ⟨rfl, ?_⟩; intro w hSw; (first | rfl | (go_simp; (try with_reducible rfl))))
  (try simp only [Act.put, sA, sB, sC])
  refine wpAnyH_done (by kernel_rfl) ?_ _
  have HSd2 := Lib.hid hHeld.1
  have HBCd2 := Lib.hid (hHeld.2.1)
  have HBLd2 := Lib.hid (hHeld.2.2.1)
  have HBXd2 := Lib.hid (hHeld.2.2.2.1)
  have HBRd2 := Lib.hid HRR.out
  clear HRR
  clear hHeld HRK HRD HS1 HBC1 HBL1 HBX1 HBR1
  (try go_wp2_with fail)
  exact bodyPost_ret (results_row3 rfl _ _ bR 56 #[.int .i64 l.se, .int .i64 l.fl, .int .i64 l.fm, .int .i64 l.to, .int .i64 l.ma, .int .i64 l.ca, .int .i64 l.ph, .int .i64 l.un, .int .i64 l.re, .int .i64 l.gr] _ (.slice (some ⟨b9, 0, none⟩) 1 1) (.bool true) rfl rfl rfl HBRd2.out Try.underlying56 rfl (by kernel_rfl)) rfl ⟨.slice (some ⟨b9, 0, none⟩) 1 1, rfl, ⟨b9, rfl, HGm.out, HXm2.out⟩, HSd2.out⟩
set_option maxHeartbeats 4000000 in
theorem tickB (c : CfgV) (l : LeaseV) (x : CarV) (now : Int) (h0 : x.br = false) (h1 : decide (cl l.un ≤ cl now) = true) (w : World) : Calls Try.prog 50 #[.agg #[.int .i64 c.ca, .int .i64 c.fl, .int .i64 c.ft, .int .i64 c.se, .int .i64 c.dr, .int .i64 c.dw, .int .i64 c.ho, .int .i64 c.re, .int .i64 c.yi, .int .i64 c.qu, .int .i64 c.qo, .int .i64 c.lo, .int .i64 c.sl, .int .i64 c.rt, .int .i64 c.cp, .int .i64 c.tr, .int .i64 c.de, .int .i64 c.wi], .agg #[.int .i64 l.se, .int .i64 l.fl, .int .i64 l.fm, .int .i64 l.to, .int .i64 l.ma, .int .i64 l.ca, .int .i64 l.ph, .int .i64 l.un, .int .i64 l.re, .int .i64 l.gr], .agg #[.int .i64 x.ds, .int .i64 x.da, .int .i64 x.un, .int .i64 x.wy, .int .i64 x.ti, .int .i64 x.ju, .int .i64 x.lo, .bool x.bl, .bool x.br, .int .i64 x.mo, .int .i64 x.ta, .bool x.ho, .int .u64 x.sp, .int .u64 x.su, .int .u64 x.sd], .int .i64 now] w (Said w (⟨l.se, l.fl, l.fm, l.to, l.ma, l.ca, l.ph, l.un, l.re, l.gr⟩, some ⟨16, l.ph, 0, 0⟩, true)) := by
  have H0 := Lib.hid h0
  clear h0
  have H1 := Lib.hid h1
  clear h1
  go_enter Try.func50, Try.ntmps50
  go_upto_region 1 with fail
  obtain ⟨w1, hw1⟩ : ∃ w1, w1 = ((((w.alloc (.cells #[.int .i64 c.ca, .int .i64 c.fl, .int .i64 c.ft, .int .i64 c.se, .int .i64 c.dr, .int .i64 c.dw, .int .i64 c.ho, .int .i64 c.re, .int .i64 c.yi, .int .i64 c.qu, .int .i64 c.qo, .int .i64 c.lo, .int .i64 c.sl, .int .i64 c.rt, .int .i64 c.cp, .int .i64 c.tr, .int .i64 c.de, .int .i64 c.wi] 23)).alloc (.cells #[.int .i64 l.se, .int .i64 l.fl, .int .i64 l.fm, .int .i64 l.to, .int .i64 l.ma, .int .i64 l.ca, .int .i64 l.ph, .int .i64 l.un, .int .i64 l.re, .int .i64 l.gr] 56)).alloc (.cells #[.int .i64 x.ds, .int .i64 x.da, .int .i64 x.un, .int .i64 x.wy, .int .i64 x.ti, .int .i64 x.ju, .int .i64 x.lo, .bool x.bl, .bool x.br, .int .i64 x.mo, .int .i64 x.ta, .bool x.ho, .int .u64 x.sp, .int .u64 x.su, .int .u64 x.sd] 76)).alloc (.cells #[.int .i64 0, .int .i64 0, .int .i64 0, .int .i64 0, .int .i64 0, .int .i64 0, .int .i64 0, .int .i64 0, .int .i64 0, .int .i64 0] 56)) := ⟨_, rfl⟩
  rw [← hw1]
  have HBC1 := Lib.hid (show Blk w1 (w.heap.size) 23 (cfgA c) by rw [hw1]; exact Blk.alloc (Blk.alloc (Blk.alloc (Blk.at_ (by (try simp only [size_alloc])) _ _) _) _) _)
  have HBL1 := Lib.hid (show Blk w1 (w.heap.size + 1) 56 (leaA l) by rw [hw1]; exact Blk.alloc (Blk.alloc (Blk.at_ (by (try simp only [size_alloc])) _ _) _) _)
  have HBX1 := Lib.hid (show Blk w1 (w.heap.size + 1 + 1) 76 (carA x) by rw [hw1]; exact Blk.alloc (Blk.at_ (by (try simp only [size_alloc])) _ _) _)
  have HBR1 := Lib.hid (show Blk w1 (w.heap.size + 1 + 1 + 1) 56 #[.int .i64 0, .int .i64 0, .int .i64 0, .int .i64 0, .int .i64 0, .int .i64 0, .int .i64 0, .int .i64 0, .int .i64 0, .int .i64 0] by rw [hw1]; exact Blk.at_ (by (try simp only [size_alloc])) _ _)
  have HS1 := Lib.hid (show Since w w1 by rw [hw1]; exact Since.alloc (Since.alloc (Since.alloc (Since.alloc (Since.refl w) _) _) _) _)
  have hNE : w.heap.size ≤ w.heap.size ∧ w.heap.size < w.heap.size + 1 ∧ w.heap.size + 1 < w.heap.size + 1 + 1 ∧ w.heap.size + 1 + 1 < w.heap.size + 1 + 1 + 1 := by omega
  have HNE := Lib.hid hNE
  clear hNE hw1
  generalize w.heap.size + 1 + 1 + 1 = bR at *
  generalize w.heap.size + 1 + 1 = bX at *
  generalize w.heap.size + 1 = bL at *
  have HNE3 := Lib.hid (show w.heap.size ≤ w.heap.size ∧ w.heap.size < bL ∧ bL < bX ∧ bX < bR from HNE.out)
  clear HNE
  refine wp_region_lit ?_
  refine wpList_q (by rfl) (.pointer (some ⟨bX, 8, none⟩)) ?he ?_
  case he => (first | rfl | (go_simp; (try with_reducible rfl)))
  (try simp only [Act.put, sA, sB, sC])
  refine wpList_q (by rfl) (.bool x.br) ?he ?_
  case he => exact exec_cell 4 _ _ HBX1.out rfl rfl rfl Try.underlying4 rfl
  (try simp only [Act.put, sA, sB, sC])
  refine wpList_q (by rfl) (.bool false) ?he ?_
  case he => (have hq := H0.out; go_simp; (try with_reducible rfl))
  (try simp only [Act.put, sA, sB, sC])
  refine wpList_q (by rfl) (.int .i64 now) ?he ?_
  case he => (first | rfl | (go_simp; (try with_reducible rfl)))
  (try simp only [Act.put, sA, sB, sC])
  refine wpList_q (by rfl) (.pointer (some ⟨bL, 7, none⟩)) ?he ?_
  case he => (first | rfl | (go_simp; (try with_reducible rfl)))
  (try simp only [Act.put, sA, sB, sC])
  refine wpList_q (by rfl) (.int .i64 l.un) ?he ?_
  case he => exact exec_cell 3 _ _ HBL1.out rfl rfl rfl Try.underlying3 rfl
  (try simp only [Act.put, sA, sB, sC])
  refine wpList_wp (by rfl) (fun K hK => ?_)
  (try go_simp)
  refine (lateT _ _ _).mono ?_
  rintro e w' ⟨rfl, rfl⟩
  (try go_wp2_with fail)
  refine hK.out _ _ ?_
  clear hK K
  (try simp only [Act.put, sA, sB, sC])
  refine wpList_q (by rfl) (.bool true) ?he ?_
  case he => (have hq := H1.out; go_simp; (try with_reducible rfl))
  (try simp only [Act.put, sA, sB, sC])
  refine wpList_q (by rfl) (.bool true) ?he ?_
  case he => (first | rfl | (go_simp; (try with_reducible rfl)))
  (try simp only [Act.put, sA, sB, sC])
  refine wpList_nil ?_
  go_upto_region 2 with fail
  have hrK : ∀ W W' : World, Since W W' → (Since w W ∧ Blk W w.heap.size 23 (cfgA c) ∧ Blk W bL 56 (leaA l) ∧ Blk W bX 76 (carA x) ∧ HasRow W bR 56 10) → (Since w W' ∧ Blk W' w.heap.size 23 (cfgA c) ∧ Blk W' bL 56 (leaA l) ∧ Blk W' bX 76 (carA x) ∧ HasRow W' bR 56 10) := fun W W' k ⟨h, h0, h1, h2, h3⟩ => ⟨h.trans k, keep_blk k h0, keep_blk k h1, keep_blk k h2, HasRow.keep k h3⟩
  have hrS : (fun W : World => Since w W ∧ Blk W w.heap.size 23 (cfgA c) ∧ Blk W bL 56 (leaA l) ∧ Blk W bX 76 (carA x) ∧ HasRow W bR 56 10) w1 := ⟨HS1.out, HBC1.out, HBL1.out, HBX1.out, HasRow.of HBR1.out rfl⟩
  have HRK := Lib.hid hrK
  have HRD := Lib.hid (show (fun W : World => Since w W ∧ Blk W w.heap.size 23 (cfgA c) ∧ Blk W bL 56 (leaA l) ∧ Blk W bX 76 (carA x) ∧ HasRow W bR 56 10) (World.drew w1) from ⟨Since.drew hrS.1, hrS.2⟩)
  clear hrK hrS
  refine wp_region_held_drew (S := fun W : World => Since w W ∧ Blk W w.heap.size 23 (cfgA c) ∧ Blk W bL 56 (leaA l) ∧ Blk W bX 76 (carA x) ∧ HasRow W bR 56 10) (by kernel_rfl) HRD.out (fun hHeld => ?_)
  refine wpAnyH_take (i := 0) (oi := ?o2__0) (v := .agg (leaA l)) ?h2__0 (by kernel_rfl) (by kernel_rfl) (by kernel_rfl) ?q2__0 ?y2__0 (by assumption) ?_
  case h2__0 => (first | (simp only [gA, gB, gC]; done) | (simp only [gA, gB, gC]; exact rfl))
  case q2__0 => exact fun _ _ _ h => h
  case y2__0 => (refine Or.inl ⟨rfl, ?_⟩; intro w hSw; exact exec_load_row 56 _ _ hSw.2.2.1 rfl rfl Try.underlying56 rfl (by kernel_rfl))
  (try simp only [Act.put, sA, sB, sC])
  refine wpAnyH_take (i := 1) (oi := ?o2__1) (v := .pointer (some ⟨bL, 6, none⟩)) ?h2__1 (by kernel_rfl) (by kernel_rfl) (by kernel_rfl) ?q2__1 ?y2__1 (by assumption) ?_
  case h2__1 => (first | (simp only [gA, gB, gC]; done) | (simp only [gA, gB, gC]; exact rfl))
  case q2__1 => exact fun _ _ _ h => h
  case y2__1 => (refine Or.inl ⟨rfl, ?_⟩; intro w hSw; (first | rfl | (go_simp; (try with_reducible rfl))))
  (try simp only [Act.put, sA, sB, sC])
  refine wpAnyH_take (i := 2) (oi := ?o2__2) (v := .int .i64 l.ph) ?h2__2 (by kernel_rfl) (by kernel_rfl) (by kernel_rfl) ?q2__2 ?y2__2 (by assumption) ?_
  case h2__2 => (first | (simp only [gA, gB, gC]; done) | (simp only [gA, gB, gC]; exact rfl))
  case q2__2 => exact fun _ _ _ h => h
  case y2__2 => (refine Or.inl ⟨rfl, ?_⟩; intro w hSw; exact exec_cell 3 _ _ hSw.2.2.1 rfl rfl rfl Try.underlying3 rfl)
  (try simp only [Act.put, sA, sB, sC])
  refine wpAnyH_ready (rs := [3]) (by kernel_rfl) (by simp) ?_
  refine AllReadyH.cons (o := ?o2__3) ?h2__3 (fun K hK => ?_) AllReadyH.nil
  case h2__3 => (first | (simp only [gA, gB, gC]; done) | (simp only [gA, gB, gC]; exact rfl))
  (try go_simp)
  refine (sayT 16 l.ph _).mono ?_
  rintro e w2 ⟨b9, rfl, hge, hB, hb⟩
  (try go_wp2_with fail)
  refine hK.out _ _ (by (apply HRK.out; exact hb; exact hHeld)) (fun hHeld2 => ?_)
  have HNmR := Lib.hid (show b9 ≠ bR by obtain ⟨old, Bo, _⟩ := hHeld.2.2.2.2; have := Blk.lt Bo; omega)
  have HGm := Lib.hid (show w.heap.size ≤ b9 by have := Since.size hHeld.1; (try simp at this); (try simp at hge); omega)
  have HXm := Lib.hid hB
  clear hB
  clear hge
  clear hK K hHeld hb
  have hHeld := hHeld2
  clear hHeld2
  (try simp only [Act.put, sA, sB, sC])
  refine wpAnyH_ready (rs := [4]) (by kernel_rfl) (by simp) ?_
  refine AllReadyH.cons (o := ?o2__4) ?h2__4 (fun K hK => ?_) AllReadyH.nil
  case h2__4 => (first | (simp only [gA, gB, gC]; done) | (simp only [gA, gB, gC]; exact rfl))
  rw [if_pos (by rfl)]
  refine wp_st_row 56 _ _ rfl #[.int .i64 l.se, .int .i64 l.fl, .int .i64 l.fm, .int .i64 l.to, .int .i64 l.ma, .int .i64 l.ca, .int .i64 l.ph, .int .i64 l.un, .int .i64 l.re, .int .i64 l.gr] rfl rfl (hHeld.2.2.2.2) rfl (by simp [cfgA, leaA, carA, msgC, Value.oneCell']) (by kernel_rfl) ?_
  intro w3 hw
  have HRR := Lib.hid (show Blk w3 bR 56 (leaA l) by obtain ⟨old, Bo, _⟩ := hHeld.2.2.2.2; rw [hw]; exact Blk.row Bo _)
  have HXm2 := Lib.hid (show Blk w3 b9 85 #[.int .i64 16, .int .i64 l.ph, .int .i64 0, .int .i64 0] by rw [hw]; exact Blk.row_far HXm.out HNmR.out _)
  clear HXm
  have hHeld3 : (fun W : World => Since w W ∧ Blk W w.heap.size 23 (cfgA c) ∧ Blk W bL 56 (leaA l) ∧ Blk W bX 76 (carA x) ∧ HasRow W bR 56 10) w3 := ⟨by rw [hw]; exact Since.setRow hHeld.1 (by have := HNE3.out; omega) _, by rw [hw]; exact Blk.row_far (hHeld.2.1) (by have := HNE3.out; omega) _, by rw [hw]; exact Blk.row_far (hHeld.2.2.1) (by have := HNE3.out; omega) _, by rw [hw]; exact Blk.row_far (hHeld.2.2.2.1) (by have := HNE3.out; omega) _, HasRow.of HRR.out rfl⟩
  refine hK.out _ _ hHeld3 (fun hHeld2 => ?_)
  clear hK K hHeld hHeld3 hw
  have hHeld := hHeld2
  clear hHeld2
  (try simp only [Act.put, sA, sB, sC])
  refine wpAnyH_take (i := 5) (oi := ?o2__5) (v := .slice (some ⟨b9, 0, none⟩) 1 1) ?h2__5 (by kernel_rfl) (by kernel_rfl) (by kernel_rfl) ?q2__5 ?y2__5 (by assumption) ?_
  case h2__5 => (first | (simp only [gA, gB, gC]; done) | (simp only [gA, gB, gC]; exact rfl))
  case q2__5 => exact fun _ _ _ h => h
  case y2__5 => (refine Or.inl ⟨rfl, ?_⟩; intro w hSw; (first | rfl | (go_simp; (try with_reducible rfl))))
  (try simp only [Act.put, sA, sB, sC])
  refine wpAnyH_take (i := 6) (oi := ?o2__6) (v := .bool true) ?h2__6 (by kernel_rfl) (by kernel_rfl) (by kernel_rfl) ?q2__6 ?y2__6 (by assumption) ?_
  case h2__6 => (first | (simp only [gA, gB, gC]; done) | (simp only [gA, gB, gC]; exact rfl))
  case q2__6 => exact fun _ _ _ h => h
  case y2__6 => (refine Or.inl ⟨rfl, ?_⟩; intro w hSw; (first | rfl | (go_simp; (try with_reducible rfl))))
  (try simp only [Act.put, sA, sB, sC])
  refine wpAnyH_done (by kernel_rfl) ?_ _
  have HSd2 := Lib.hid hHeld.1
  have HBCd2 := Lib.hid (hHeld.2.1)
  have HBLd2 := Lib.hid (hHeld.2.2.1)
  have HBXd2 := Lib.hid (hHeld.2.2.2.1)
  have HBRd2 := Lib.hid HRR.out
  clear HRR
  clear hHeld HRK HRD HS1 HBC1 HBL1 HBX1 HBR1
  (try go_wp2_with fail)
  exact bodyPost_ret (results_row3 rfl _ _ bR 56 #[.int .i64 l.se, .int .i64 l.fl, .int .i64 l.fm, .int .i64 l.to, .int .i64 l.ma, .int .i64 l.ca, .int .i64 l.ph, .int .i64 l.un, .int .i64 l.re, .int .i64 l.gr] _ (.slice (some ⟨b9, 0, none⟩) 1 1) (.bool true) rfl rfl rfl HBRd2.out Try.underlying56 rfl (by kernel_rfl)) rfl ⟨.slice (some ⟨b9, 0, none⟩) 1 1, rfl, ⟨b9, rfl, HGm.out, HXm2.out⟩, HSd2.out⟩
set_option maxHeartbeats 4000000 in
theorem tickC (c : CfgV) (l : LeaseV) (x : CarV) (now : Int) (h0 : x.br = false) (h1 : decide (cl l.un ≤ cl now) = false) (h2 : l.ph = 1) (h3 : opB x l.fm = true) (w : World) : Calls Try.prog 50 #[.agg #[.int .i64 c.ca, .int .i64 c.fl, .int .i64 c.ft, .int .i64 c.se, .int .i64 c.dr, .int .i64 c.dw, .int .i64 c.ho, .int .i64 c.re, .int .i64 c.yi, .int .i64 c.qu, .int .i64 c.qo, .int .i64 c.lo, .int .i64 c.sl, .int .i64 c.rt, .int .i64 c.cp, .int .i64 c.tr, .int .i64 c.de, .int .i64 c.wi], .agg #[.int .i64 l.se, .int .i64 l.fl, .int .i64 l.fm, .int .i64 l.to, .int .i64 l.ma, .int .i64 l.ca, .int .i64 l.ph, .int .i64 l.un, .int .i64 l.re, .int .i64 l.gr], .agg #[.int .i64 x.ds, .int .i64 x.da, .int .i64 x.un, .int .i64 x.wy, .int .i64 x.ti, .int .i64 x.ju, .int .i64 x.lo, .bool x.bl, .bool x.br, .int .i64 x.mo, .int .i64 x.ta, .bool x.ho, .int .u64 x.sp, .int .u64 x.su, .int .u64 x.sd], .int .i64 now] w (Said w (⟨l.se, l.fl, l.fm, l.to, l.ma, l.ca, 2, cl (cl now + cl (sp c.ho)), l.re, l.gr⟩, some ⟨8, l.fm, 0, 0⟩, false)) := by
  have H0 := Lib.hid h0
  clear h0
  have H1 := Lib.hid h1
  clear h1
  have H2 := Lib.hid h2
  clear h2
  have H3 := Lib.hid h3
  clear h3
  go_enter Try.func50, Try.ntmps50
  go_upto_region 1 with fail
  obtain ⟨w1, hw1⟩ : ∃ w1, w1 = ((((w.alloc (.cells #[.int .i64 c.ca, .int .i64 c.fl, .int .i64 c.ft, .int .i64 c.se, .int .i64 c.dr, .int .i64 c.dw, .int .i64 c.ho, .int .i64 c.re, .int .i64 c.yi, .int .i64 c.qu, .int .i64 c.qo, .int .i64 c.lo, .int .i64 c.sl, .int .i64 c.rt, .int .i64 c.cp, .int .i64 c.tr, .int .i64 c.de, .int .i64 c.wi] 23)).alloc (.cells #[.int .i64 l.se, .int .i64 l.fl, .int .i64 l.fm, .int .i64 l.to, .int .i64 l.ma, .int .i64 l.ca, .int .i64 l.ph, .int .i64 l.un, .int .i64 l.re, .int .i64 l.gr] 56)).alloc (.cells #[.int .i64 x.ds, .int .i64 x.da, .int .i64 x.un, .int .i64 x.wy, .int .i64 x.ti, .int .i64 x.ju, .int .i64 x.lo, .bool x.bl, .bool x.br, .int .i64 x.mo, .int .i64 x.ta, .bool x.ho, .int .u64 x.sp, .int .u64 x.su, .int .u64 x.sd] 76)).alloc (.cells #[.int .i64 0, .int .i64 0, .int .i64 0, .int .i64 0, .int .i64 0, .int .i64 0, .int .i64 0, .int .i64 0, .int .i64 0, .int .i64 0] 56)) := ⟨_, rfl⟩
  rw [← hw1]
  have HBC1 := Lib.hid (show Blk w1 (w.heap.size) 23 (cfgA c) by rw [hw1]; exact Blk.alloc (Blk.alloc (Blk.alloc (Blk.at_ (by (try simp only [size_alloc])) _ _) _) _) _)
  have HBL1 := Lib.hid (show Blk w1 (w.heap.size + 1) 56 (leaA l) by rw [hw1]; exact Blk.alloc (Blk.alloc (Blk.at_ (by (try simp only [size_alloc])) _ _) _) _)
  have HBX1 := Lib.hid (show Blk w1 (w.heap.size + 1 + 1) 76 (carA x) by rw [hw1]; exact Blk.alloc (Blk.at_ (by (try simp only [size_alloc])) _ _) _)
  have HBR1 := Lib.hid (show Blk w1 (w.heap.size + 1 + 1 + 1) 56 #[.int .i64 0, .int .i64 0, .int .i64 0, .int .i64 0, .int .i64 0, .int .i64 0, .int .i64 0, .int .i64 0, .int .i64 0, .int .i64 0] by rw [hw1]; exact Blk.at_ (by (try simp only [size_alloc])) _ _)
  have HS1 := Lib.hid (show Since w w1 by rw [hw1]; exact Since.alloc (Since.alloc (Since.alloc (Since.alloc (Since.refl w) _) _) _) _)
  have hNE : w.heap.size ≤ w.heap.size ∧ w.heap.size < w.heap.size + 1 ∧ w.heap.size + 1 < w.heap.size + 1 + 1 ∧ w.heap.size + 1 + 1 < w.heap.size + 1 + 1 + 1 := by omega
  have HNE := Lib.hid hNE
  clear hNE hw1
  generalize w.heap.size + 1 + 1 + 1 = bR at *
  generalize w.heap.size + 1 + 1 = bX at *
  generalize w.heap.size + 1 = bL at *
  have HNE3 := Lib.hid (show w.heap.size ≤ w.heap.size ∧ w.heap.size < bL ∧ bL < bX ∧ bX < bR from HNE.out)
  clear HNE
  refine wp_region_lit ?_
  refine wpList_q (by rfl) (.pointer (some ⟨bX, 8, none⟩)) ?he ?_
  case he => (first | rfl | (go_simp; (try with_reducible rfl)))
  (try simp only [Act.put, sA, sB, sC])
  refine wpList_q (by rfl) (.bool x.br) ?he ?_
  case he => exact exec_cell 4 _ _ HBX1.out rfl rfl rfl Try.underlying4 rfl
  (try simp only [Act.put, sA, sB, sC])
  refine wpList_q (by rfl) (.bool false) ?he ?_
  case he => (have hq := H0.out; go_simp; (try with_reducible rfl))
  (try simp only [Act.put, sA, sB, sC])
  refine wpList_q (by rfl) (.int .i64 now) ?he ?_
  case he => (first | rfl | (go_simp; (try with_reducible rfl)))
  (try simp only [Act.put, sA, sB, sC])
  refine wpList_q (by rfl) (.pointer (some ⟨bL, 7, none⟩)) ?he ?_
  case he => (first | rfl | (go_simp; (try with_reducible rfl)))
  (try simp only [Act.put, sA, sB, sC])
  refine wpList_q (by rfl) (.int .i64 l.un) ?he ?_
  case he => exact exec_cell 3 _ _ HBL1.out rfl rfl rfl Try.underlying3 rfl
  (try simp only [Act.put, sA, sB, sC])
  refine wpList_wp (by rfl) (fun K hK => ?_)
  (try go_simp)
  refine (lateT _ _ _).mono ?_
  rintro e w' ⟨rfl, rfl⟩
  (try go_wp2_with fail)
  refine hK.out _ _ ?_
  clear hK K
  (try simp only [Act.put, sA, sB, sC])
  refine wpList_q (by rfl) (.bool false) ?he ?_
  case he => (have hq := H1.out; go_simp; (try with_reducible rfl))
  (try simp only [Act.put, sA, sB, sC])
  refine wpList_q (by rfl) (.bool false) ?he ?_
  case he => (first | rfl | (go_simp; (try with_reducible rfl)))
  (try simp only [Act.put, sA, sB, sC])
  refine wpList_nil ?_
  go_upto_region 3 with fail
  refine wp_region_lit ?_
  refine wpList_q (by rfl) (.pointer (some ⟨bL, 6, none⟩)) ?he ?_
  case he => (first | rfl | (go_simp; (try with_reducible rfl)))
  (try simp only [Act.put, sA, sB, sC])
  refine wpList_q (by rfl) (.int .i64 l.ph) ?he ?_
  case he => exact exec_cell 3 _ _ HBL1.out rfl rfl rfl Try.underlying3 rfl
  (try simp only [Act.put, sA, sB, sC])
  refine wpList_q (by rfl) (.bool true) ?he ?_
  case he => (have hq := H2.out; go_simp; (try with_reducible rfl))
  (try simp only [Act.put, sA, sB, sC])
  refine wpList_q (by rfl) (.bool true) ?he ?_
  case he => (first | rfl | (go_simp; (try with_reducible rfl)))
  (try simp only [Act.put, sA, sB, sC])
  refine wpList_q (by rfl) (.agg (carA x)) ?he ?_
  case he => exact exec_load_row 76 _ _ HBX1.out rfl rfl Try.underlying76 rfl (by kernel_rfl)
  (try simp only [Act.put, sA, sB, sC])
  refine wpList_q (by rfl) (.pointer (some ⟨bL, 0, none⟩)) ?he ?_
  case he => (first | rfl | (go_simp; (try with_reducible rfl)))
  (try simp only [Act.put, sA, sB, sC])
  refine wpList_q (by rfl) (.pointer (some ⟨bL, 2, none⟩)) ?he ?_
  case he => (first | rfl | (go_simp; (try with_reducible rfl)))
  (try simp only [Act.put, sA, sB, sC])
  refine wpList_q (by rfl) (.int .i64 l.fm) ?he ?_
  case he => exact exec_cell 3 _ _ HBL1.out rfl rfl rfl Try.underlying3 rfl
  (try simp only [Act.put, sA, sB, sC])
  refine wpList_wp (by rfl) (fun K hK => ?_)
  (try go_simp)
  refine (openT x l.fm _).mono ?_
  rintro e w2 ⟨rfl, hb⟩
  (try go_wp2_with fail)
  refine hK.out _ _ ?_
  clear hK K
  (try simp only [Act.put, sA, sB, sC])
  have HS2 := Lib.hid (Since.trans HS1.out hb)
  have HBC2 := Lib.hid (keep_blk hb HBC1.out)
  have HBL2 := Lib.hid (keep_blk hb HBL1.out)
  have HBX2 := Lib.hid (keep_blk hb HBX1.out)
  have HBR2 := Lib.hid (keep_blk hb HBR1.out)
  clear HS1 HBC1 HBL1 HBX1 HBR1
  clear hb
  refine wpList_q (by rfl) (.bool true) ?he ?_
  case he => (have hq := H3.out; go_simp; (try with_reducible rfl))
  (try simp only [Act.put, sA, sB, sC])
  refine wpList_q (by rfl) (.bool true) ?he ?_
  case he => (first | rfl | (go_simp; (try with_reducible rfl)))
  (try simp only [Act.put, sA, sB, sC])
  refine wpList_nil ?_
  go_upto_region 4 with fail
  refine wp_region_lit ?_
  refine wpList_q (by rfl) (.agg (cfgA c)) ?he ?_
  case he => exact exec_load_row 23 _ _ HBC2.out rfl rfl Try.underlying23 rfl (by kernel_rfl)
  (try simp only [Act.put, sA, sB, sC])
  refine wpList_q (by rfl) (.int .i64 now) ?he ?_
  case he => (first | rfl | (go_simp; (try with_reducible rfl)))
  (try simp only [Act.put, sA, sB, sC])
  refine wpList_wp (by rfl) (fun K hK => ?_)
  (try go_simp)
  refine (heldT c now _).mono ?_
  rintro e w3 ⟨rfl, hb⟩
  (try go_wp2_with fail)
  refine hK.out _ _ ?_
  clear hK K
  (try simp only [Act.put, sA, sB, sC])
  have HS3 := Lib.hid (Since.trans HS2.out hb)
  have HBC3 := Lib.hid (keep_blk hb HBC2.out)
  have HBL3 := Lib.hid (keep_blk hb HBL2.out)
  have HBX3 := Lib.hid (keep_blk hb HBX2.out)
  have HBR3 := Lib.hid (keep_blk hb HBR2.out)
  clear HS2 HBC2 HBL2 HBX2 HBR2
  clear hb
  refine wpList_q (by rfl) (.pointer (some ⟨bL, 6, none⟩)) ?he ?_
  case he => (first | rfl | (go_simp; (try with_reducible rfl)))
  (try simp only [Act.put, sA, sB, sC])
  refine wpList_wp (by rfl) (fun K hK => ?_)
  refine wp_st_cell 3 _ _ rfl #[.int .i64 l.se, .int .i64 l.fl, .int .i64 l.fm, .int .i64 l.to, .int .i64 l.ma, .int .i64 l.ca, .int .i64 2, .int .i64 l.un, .int .i64 l.re, .int .i64 l.gr] (.int .i64 2) rfl rfl HBL3.out (by show 6 < 10; decide) rfl (by first | rfl | simp [Value.oneCell']) (by kernel_rfl) ?_
  intro w4 hw
  refine hK.out _ _ ?_
  clear hK K
  (try simp only [Act.put, sA, sB, sC])
  have HS4 := Lib.hid (show Since w w4 by rw [hw]; exact Since.setRow HS3.out (by have := HNE3.out; omega) _)
  have HBC4 := Lib.hid (show Blk w4 w.heap.size 23 (cfgA c) by rw [hw]; exact Blk.row_far HBC3.out (by have := HNE3.out; omega) _)
  have HBL4 := Lib.hid (show Blk w4 bL 56 #[.int .i64 l.se, .int .i64 l.fl, .int .i64 l.fm, .int .i64 l.to, .int .i64 l.ma, .int .i64 l.ca, .int .i64 2, .int .i64 l.un, .int .i64 l.re, .int .i64 l.gr] by rw [hw]; exact Blk.row HBL3.out _)
  have HBX4 := Lib.hid (show Blk w4 bX 76 (carA x) by rw [hw]; exact Blk.row_far HBX3.out (by have := HNE3.out; omega) _)
  have HBR4 := Lib.hid (show Blk w4 bR 56 #[.int .i64 0, .int .i64 0, .int .i64 0, .int .i64 0, .int .i64 0, .int .i64 0, .int .i64 0, .int .i64 0, .int .i64 0, .int .i64 0] by rw [hw]; exact Blk.row_far HBR3.out (by have := HNE3.out; omega) _)
  clear hw HS3 HBC3 HBL3 HBX3 HBR3
  refine wpList_q (by rfl) (.pointer (some ⟨bL, 7, none⟩)) ?he ?_
  case he => (first | rfl | (go_simp; (try with_reducible rfl)))
  (try simp only [Act.put, sA, sB, sC])
  refine wpList_wp (by rfl) (fun K hK => ?_)
  refine wp_st_cell 3 _ _ rfl #[.int .i64 l.se, .int .i64 l.fl, .int .i64 l.fm, .int .i64 l.to, .int .i64 l.ma, .int .i64 l.ca, .int .i64 2, .int .i64 (cl (cl now + cl (sp c.ho))), .int .i64 l.re, .int .i64 l.gr] (.int .i64 (cl (cl now + cl (sp c.ho)))) rfl rfl HBL4.out (by show 7 < 10; decide) rfl (by first | rfl | simp [Value.oneCell']) (by kernel_rfl) ?_
  intro w5 hw
  refine hK.out _ _ ?_
  clear hK K
  (try simp only [Act.put, sA, sB, sC])
  have HS5 := Lib.hid (show Since w w5 by rw [hw]; exact Since.setRow HS4.out (by have := HNE3.out; omega) _)
  have HBC5 := Lib.hid (show Blk w5 w.heap.size 23 (cfgA c) by rw [hw]; exact Blk.row_far HBC4.out (by have := HNE3.out; omega) _)
  have HBL5 := Lib.hid (show Blk w5 bL 56 #[.int .i64 l.se, .int .i64 l.fl, .int .i64 l.fm, .int .i64 l.to, .int .i64 l.ma, .int .i64 l.ca, .int .i64 2, .int .i64 (cl (cl now + cl (sp c.ho))), .int .i64 l.re, .int .i64 l.gr] by rw [hw]; exact Blk.row HBL4.out _)
  have HBX5 := Lib.hid (show Blk w5 bX 76 (carA x) by rw [hw]; exact Blk.row_far HBX4.out (by have := HNE3.out; omega) _)
  have HBR5 := Lib.hid (show Blk w5 bR 56 #[.int .i64 0, .int .i64 0, .int .i64 0, .int .i64 0, .int .i64 0, .int .i64 0, .int .i64 0, .int .i64 0, .int .i64 0, .int .i64 0] by rw [hw]; exact Blk.row_far HBR4.out (by have := HNE3.out; omega) _)
  clear hw HS4 HBC4 HBL4 HBX4 HBR4
  refine wpList_nil ?_
  go_upto_region 5 with fail
  have hrK : ∀ W W' : World, Since W W' → (Since w W ∧ Blk W w.heap.size 23 (cfgA c) ∧ Blk W bL 56 #[.int .i64 l.se, .int .i64 l.fl, .int .i64 l.fm, .int .i64 l.to, .int .i64 l.ma, .int .i64 l.ca, .int .i64 2, .int .i64 (cl (cl now + cl (sp c.ho))), .int .i64 l.re, .int .i64 l.gr] ∧ Blk W bX 76 (carA x) ∧ HasRow W bR 56 10) → (Since w W' ∧ Blk W' w.heap.size 23 (cfgA c) ∧ Blk W' bL 56 #[.int .i64 l.se, .int .i64 l.fl, .int .i64 l.fm, .int .i64 l.to, .int .i64 l.ma, .int .i64 l.ca, .int .i64 2, .int .i64 (cl (cl now + cl (sp c.ho))), .int .i64 l.re, .int .i64 l.gr] ∧ Blk W' bX 76 (carA x) ∧ HasRow W' bR 56 10) := fun W W' k ⟨h, h0, h1, h2, h3⟩ => ⟨h.trans k, keep_blk k h0, keep_blk k h1, keep_blk k h2, HasRow.keep k h3⟩
  have hrS : (fun W : World => Since w W ∧ Blk W w.heap.size 23 (cfgA c) ∧ Blk W bL 56 #[.int .i64 l.se, .int .i64 l.fl, .int .i64 l.fm, .int .i64 l.to, .int .i64 l.ma, .int .i64 l.ca, .int .i64 2, .int .i64 (cl (cl now + cl (sp c.ho))), .int .i64 l.re, .int .i64 l.gr] ∧ Blk W bX 76 (carA x) ∧ HasRow W bR 56 10) w5 := ⟨HS5.out, HBC5.out, HBL5.out, HBX5.out, HasRow.of HBR5.out rfl⟩
  have HRK := Lib.hid hrK
  have HRD := Lib.hid (show (fun W : World => Since w W ∧ Blk W w.heap.size 23 (cfgA c) ∧ Blk W bL 56 #[.int .i64 l.se, .int .i64 l.fl, .int .i64 l.fm, .int .i64 l.to, .int .i64 l.ma, .int .i64 l.ca, .int .i64 2, .int .i64 (cl (cl now + cl (sp c.ho))), .int .i64 l.re, .int .i64 l.gr] ∧ Blk W bX 76 (carA x) ∧ HasRow W bR 56 10) (World.drew w5) from ⟨Since.drew hrS.1, hrS.2⟩)
  clear hrK hrS
  refine wp_region_held_drew (S := fun W : World => Since w W ∧ Blk W w.heap.size 23 (cfgA c) ∧ Blk W bL 56 #[.int .i64 l.se, .int .i64 l.fl, .int .i64 l.fm, .int .i64 l.to, .int .i64 l.ma, .int .i64 l.ca, .int .i64 2, .int .i64 (cl (cl now + cl (sp c.ho))), .int .i64 l.re, .int .i64 l.gr] ∧ Blk W bX 76 (carA x) ∧ HasRow W bR 56 10) (by kernel_rfl) HRD.out (fun hHeld => ?_)
  refine wpAnyH_take (i := 0) (oi := ?o5__0) (v := .agg #[.int .i64 l.se, .int .i64 l.fl, .int .i64 l.fm, .int .i64 l.to, .int .i64 l.ma, .int .i64 l.ca, .int .i64 2, .int .i64 (cl (cl now + cl (sp c.ho))), .int .i64 l.re, .int .i64 l.gr]) ?h5__0 (by kernel_rfl) (by kernel_rfl) (by kernel_rfl) ?q5__0 ?y5__0 (by assumption) ?_
  case h5__0 => (first | (simp only [gA, gB, gC]; done) | (simp only [gA, gB, gC]; exact rfl))
  case q5__0 => exact fun _ _ _ h => h
  case y5__0 => (refine Or.inl ⟨rfl, ?_⟩; intro w hSw; exact exec_load_row 56 _ _ hSw.2.2.1 rfl rfl Try.underlying56 rfl (by kernel_rfl))
  (try simp only [Act.put, sA, sB, sC])
  refine wpAnyH_take (i := 1) (oi := ?o5__1) (v := .pointer (some ⟨bL, 0, none⟩)) ?h5__1 (by kernel_rfl) (by kernel_rfl) (by kernel_rfl) ?q5__1 ?y5__1 (by assumption) ?_
  case h5__1 => (first | (simp only [gA, gB, gC]; done) | (simp only [gA, gB, gC]; exact rfl))
  case q5__1 => exact fun _ _ _ h => h
  case y5__1 => (refine Or.inl ⟨rfl, ?_⟩; intro w hSw; (first | rfl | (go_simp; (try with_reducible rfl))))
  (try simp only [Act.put, sA, sB, sC])
  refine wpAnyH_take (i := 2) (oi := ?o5__2) (v := .pointer (some ⟨bL, 2, none⟩)) ?h5__2 (by kernel_rfl) (by kernel_rfl) (by kernel_rfl) ?q5__2 ?y5__2 (by assumption) ?_
  case h5__2 => (first | (simp only [gA, gB, gC]; done) | (simp only [gA, gB, gC]; exact rfl))
  case q5__2 => exact fun _ _ _ h => h
  case y5__2 => (refine Or.inl ⟨rfl, ?_⟩; intro w hSw; (first | rfl | (go_simp; (try with_reducible rfl))))
  (try simp only [Act.put, sA, sB, sC])
  refine wpAnyH_take (i := 3) (oi := ?o5__3) (v := .int .i64 l.fm) ?h5__3 (by kernel_rfl) (by kernel_rfl) (by kernel_rfl) ?q5__3 ?y5__3 (by assumption) ?_
  case h5__3 => (first | (simp only [gA, gB, gC]; done) | (simp only [gA, gB, gC]; exact rfl))
  case q5__3 => exact fun _ _ _ h => h
  case y5__3 => (refine Or.inl ⟨rfl, ?_⟩; intro w hSw; exact exec_cell 3 _ _ hSw.2.2.1 rfl rfl rfl Try.underlying3 rfl)
  (try simp only [Act.put, sA, sB, sC])
  refine wpAnyH_ready (rs := [4]) (by kernel_rfl) (by simp) ?_
  refine AllReadyH.cons (o := ?o5__4) ?h5__4 (fun K hK => ?_) AllReadyH.nil
  case h5__4 => (first | (simp only [gA, gB, gC]; done) | (simp only [gA, gB, gC]; exact rfl))
  (try go_simp)
  refine (sayT 8 l.fm _).mono ?_
  rintro e w6 ⟨b9, rfl, hge, hB, hb⟩
  (try go_wp2_with fail)
  refine hK.out _ _ (by (apply HRK.out; exact hb; exact hHeld)) (fun hHeld2 => ?_)
  have HNmR := Lib.hid (show b9 ≠ bR by obtain ⟨old, Bo, _⟩ := hHeld.2.2.2.2; have := Blk.lt Bo; omega)
  have HGm := Lib.hid (show w.heap.size ≤ b9 by have := Since.size hHeld.1; (try simp at this); (try simp at hge); omega)
  have HXm := Lib.hid hB
  clear hB
  clear hge
  clear hK K hHeld hb
  have hHeld := hHeld2
  clear hHeld2
  (try simp only [Act.put, sA, sB, sC])
  refine wpAnyH_ready (rs := [5]) (by kernel_rfl) (by simp) ?_
  refine AllReadyH.cons (o := ?o5__5) ?h5__5 (fun K hK => ?_) AllReadyH.nil
  case h5__5 => (first | (simp only [gA, gB, gC]; done) | (simp only [gA, gB, gC]; exact rfl))
  rw [if_pos (by rfl)]
  refine wp_st_row 56 _ _ rfl #[.int .i64 l.se, .int .i64 l.fl, .int .i64 l.fm, .int .i64 l.to, .int .i64 l.ma, .int .i64 l.ca, .int .i64 2, .int .i64 (cl (cl now + cl (sp c.ho))), .int .i64 l.re, .int .i64 l.gr] rfl rfl (hHeld.2.2.2.2) rfl (by simp [cfgA, leaA, carA, msgC, Value.oneCell']) (by kernel_rfl) ?_
  intro w7 hw
  have HRR := Lib.hid (show Blk w7 bR 56 #[.int .i64 l.se, .int .i64 l.fl, .int .i64 l.fm, .int .i64 l.to, .int .i64 l.ma, .int .i64 l.ca, .int .i64 2, .int .i64 (cl (cl now + cl (sp c.ho))), .int .i64 l.re, .int .i64 l.gr] by obtain ⟨old, Bo, _⟩ := hHeld.2.2.2.2; rw [hw]; exact Blk.row Bo _)
  have HXm2 := Lib.hid (show Blk w7 b9 85 #[.int .i64 8, .int .i64 l.fm, .int .i64 0, .int .i64 0] by rw [hw]; exact Blk.row_far HXm.out HNmR.out _)
  clear HXm
  have hHeld3 : (fun W : World => Since w W ∧ Blk W w.heap.size 23 (cfgA c) ∧ Blk W bL 56 #[.int .i64 l.se, .int .i64 l.fl, .int .i64 l.fm, .int .i64 l.to, .int .i64 l.ma, .int .i64 l.ca, .int .i64 2, .int .i64 (cl (cl now + cl (sp c.ho))), .int .i64 l.re, .int .i64 l.gr] ∧ Blk W bX 76 (carA x) ∧ HasRow W bR 56 10) w7 := ⟨by rw [hw]; exact Since.setRow hHeld.1 (by have := HNE3.out; omega) _, by rw [hw]; exact Blk.row_far (hHeld.2.1) (by have := HNE3.out; omega) _, by rw [hw]; exact Blk.row_far (hHeld.2.2.1) (by have := HNE3.out; omega) _, by rw [hw]; exact Blk.row_far (hHeld.2.2.2.1) (by have := HNE3.out; omega) _, HasRow.of HRR.out rfl⟩
  refine hK.out _ _ hHeld3 (fun hHeld2 => ?_)
  clear hK K hHeld hHeld3 hw
  have hHeld := hHeld2
  clear hHeld2
  (try simp only [Act.put, sA, sB, sC])
  refine wpAnyH_take (i := 6) (oi := ?o5__6) (v := .slice (some ⟨b9, 0, none⟩) 1 1) ?h5__6 (by kernel_rfl) (by kernel_rfl) (by kernel_rfl) ?q5__6 ?y5__6 (by assumption) ?_
  case h5__6 => (first | (simp only [gA, gB, gC]; done) | (simp only [gA, gB, gC]; exact rfl))
  case q5__6 => exact fun _ _ _ h => h
  case y5__6 => (refine Or.inl ⟨rfl, ?_⟩; intro w hSw; (first | rfl | (go_simp; (try with_reducible rfl))))
  (try simp only [Act.put, sA, sB, sC])
  refine wpAnyH_take (i := 7) (oi := ?o5__7) (v := .bool false) ?h5__7 (by kernel_rfl) (by kernel_rfl) (by kernel_rfl) ?q5__7 ?y5__7 (by assumption) ?_
  case h5__7 => (first | (simp only [gA, gB, gC]; done) | (simp only [gA, gB, gC]; exact rfl))
  case q5__7 => exact fun _ _ _ h => h
  case y5__7 => (refine Or.inl ⟨rfl, ?_⟩; intro w hSw; (first | rfl | (go_simp; (try with_reducible rfl))))
  (try simp only [Act.put, sA, sB, sC])
  refine wpAnyH_done (by kernel_rfl) ?_ _
  have HSd5 := Lib.hid hHeld.1
  have HBCd5 := Lib.hid (hHeld.2.1)
  have HBLd5 := Lib.hid (hHeld.2.2.1)
  have HBXd5 := Lib.hid (hHeld.2.2.2.1)
  have HBRd5 := Lib.hid HRR.out
  clear HRR
  clear hHeld HRK HRD HS5 HBC5 HBL5 HBX5 HBR5
  (try go_wp2_with fail)
  exact bodyPost_ret (results_row3 rfl _ _ bR 56 #[.int .i64 l.se, .int .i64 l.fl, .int .i64 l.fm, .int .i64 l.to, .int .i64 l.ma, .int .i64 l.ca, .int .i64 2, .int .i64 (cl (cl now + cl (sp c.ho))), .int .i64 l.re, .int .i64 l.gr] _ (.slice (some ⟨b9, 0, none⟩) 1 1) (.bool false) rfl rfl rfl HBRd5.out Try.underlying56 rfl (by kernel_rfl)) rfl ⟨.slice (some ⟨b9, 0, none⟩) 1 1, rfl, ⟨b9, rfl, HGm.out, HXm2.out⟩, HSd5.out⟩
set_option maxHeartbeats 4000000 in
theorem tickD (c : CfgV) (l : LeaseV) (x : CarV) (now : Int) (h0 : x.br = false) (h1 : decide (cl l.un ≤ cl now) = false) (h2 : l.ph = 3) (h3 : opB x l.to = true) (w : World) : Calls Try.prog 50 #[.agg #[.int .i64 c.ca, .int .i64 c.fl, .int .i64 c.ft, .int .i64 c.se, .int .i64 c.dr, .int .i64 c.dw, .int .i64 c.ho, .int .i64 c.re, .int .i64 c.yi, .int .i64 c.qu, .int .i64 c.qo, .int .i64 c.lo, .int .i64 c.sl, .int .i64 c.rt, .int .i64 c.cp, .int .i64 c.tr, .int .i64 c.de, .int .i64 c.wi], .agg #[.int .i64 l.se, .int .i64 l.fl, .int .i64 l.fm, .int .i64 l.to, .int .i64 l.ma, .int .i64 l.ca, .int .i64 l.ph, .int .i64 l.un, .int .i64 l.re, .int .i64 l.gr], .agg #[.int .i64 x.ds, .int .i64 x.da, .int .i64 x.un, .int .i64 x.wy, .int .i64 x.ti, .int .i64 x.ju, .int .i64 x.lo, .bool x.bl, .bool x.br, .int .i64 x.mo, .int .i64 x.ta, .bool x.ho, .int .u64 x.sp, .int .u64 x.su, .int .u64 x.sd], .int .i64 now] w (Said w (⟨l.se, l.fl, l.fm, l.to, l.ma, l.ca, 4, cl (cl now + cl (sp c.ho)), l.re, l.gr⟩, some ⟨12, l.to, 0, 0⟩, false)) := by
  have H0 := Lib.hid h0
  clear h0
  have H1 := Lib.hid h1
  clear h1
  have H2 := Lib.hid h2
  clear h2
  have H3 := Lib.hid h3
  clear h3
  go_enter Try.func50, Try.ntmps50
  go_upto_region 1 with fail
  obtain ⟨w1, hw1⟩ : ∃ w1, w1 = ((((w.alloc (.cells #[.int .i64 c.ca, .int .i64 c.fl, .int .i64 c.ft, .int .i64 c.se, .int .i64 c.dr, .int .i64 c.dw, .int .i64 c.ho, .int .i64 c.re, .int .i64 c.yi, .int .i64 c.qu, .int .i64 c.qo, .int .i64 c.lo, .int .i64 c.sl, .int .i64 c.rt, .int .i64 c.cp, .int .i64 c.tr, .int .i64 c.de, .int .i64 c.wi] 23)).alloc (.cells #[.int .i64 l.se, .int .i64 l.fl, .int .i64 l.fm, .int .i64 l.to, .int .i64 l.ma, .int .i64 l.ca, .int .i64 l.ph, .int .i64 l.un, .int .i64 l.re, .int .i64 l.gr] 56)).alloc (.cells #[.int .i64 x.ds, .int .i64 x.da, .int .i64 x.un, .int .i64 x.wy, .int .i64 x.ti, .int .i64 x.ju, .int .i64 x.lo, .bool x.bl, .bool x.br, .int .i64 x.mo, .int .i64 x.ta, .bool x.ho, .int .u64 x.sp, .int .u64 x.su, .int .u64 x.sd] 76)).alloc (.cells #[.int .i64 0, .int .i64 0, .int .i64 0, .int .i64 0, .int .i64 0, .int .i64 0, .int .i64 0, .int .i64 0, .int .i64 0, .int .i64 0] 56)) := ⟨_, rfl⟩
  rw [← hw1]
  have HBC1 := Lib.hid (show Blk w1 (w.heap.size) 23 (cfgA c) by rw [hw1]; exact Blk.alloc (Blk.alloc (Blk.alloc (Blk.at_ (by (try simp only [size_alloc])) _ _) _) _) _)
  have HBL1 := Lib.hid (show Blk w1 (w.heap.size + 1) 56 (leaA l) by rw [hw1]; exact Blk.alloc (Blk.alloc (Blk.at_ (by (try simp only [size_alloc])) _ _) _) _)
  have HBX1 := Lib.hid (show Blk w1 (w.heap.size + 1 + 1) 76 (carA x) by rw [hw1]; exact Blk.alloc (Blk.at_ (by (try simp only [size_alloc])) _ _) _)
  have HBR1 := Lib.hid (show Blk w1 (w.heap.size + 1 + 1 + 1) 56 #[.int .i64 0, .int .i64 0, .int .i64 0, .int .i64 0, .int .i64 0, .int .i64 0, .int .i64 0, .int .i64 0, .int .i64 0, .int .i64 0] by rw [hw1]; exact Blk.at_ (by (try simp only [size_alloc])) _ _)
  have HS1 := Lib.hid (show Since w w1 by rw [hw1]; exact Since.alloc (Since.alloc (Since.alloc (Since.alloc (Since.refl w) _) _) _) _)
  have hNE : w.heap.size ≤ w.heap.size ∧ w.heap.size < w.heap.size + 1 ∧ w.heap.size + 1 < w.heap.size + 1 + 1 ∧ w.heap.size + 1 + 1 < w.heap.size + 1 + 1 + 1 := by omega
  have HNE := Lib.hid hNE
  clear hNE hw1
  generalize w.heap.size + 1 + 1 + 1 = bR at *
  generalize w.heap.size + 1 + 1 = bX at *
  generalize w.heap.size + 1 = bL at *
  have HNE3 := Lib.hid (show w.heap.size ≤ w.heap.size ∧ w.heap.size < bL ∧ bL < bX ∧ bX < bR from HNE.out)
  clear HNE
  refine wp_region_lit ?_
  refine wpList_q (by rfl) (.pointer (some ⟨bX, 8, none⟩)) ?he ?_
  case he => (first | rfl | (go_simp; (try with_reducible rfl)))
  (try simp only [Act.put, sA, sB, sC])
  refine wpList_q (by rfl) (.bool x.br) ?he ?_
  case he => exact exec_cell 4 _ _ HBX1.out rfl rfl rfl Try.underlying4 rfl
  (try simp only [Act.put, sA, sB, sC])
  refine wpList_q (by rfl) (.bool false) ?he ?_
  case he => (have hq := H0.out; go_simp; (try with_reducible rfl))
  (try simp only [Act.put, sA, sB, sC])
  refine wpList_q (by rfl) (.int .i64 now) ?he ?_
  case he => (first | rfl | (go_simp; (try with_reducible rfl)))
  (try simp only [Act.put, sA, sB, sC])
  refine wpList_q (by rfl) (.pointer (some ⟨bL, 7, none⟩)) ?he ?_
  case he => (first | rfl | (go_simp; (try with_reducible rfl)))
  (try simp only [Act.put, sA, sB, sC])
  refine wpList_q (by rfl) (.int .i64 l.un) ?he ?_
  case he => exact exec_cell 3 _ _ HBL1.out rfl rfl rfl Try.underlying3 rfl
  (try simp only [Act.put, sA, sB, sC])
  refine wpList_wp (by rfl) (fun K hK => ?_)
  (try go_simp)
  refine (lateT _ _ _).mono ?_
  rintro e w' ⟨rfl, rfl⟩
  (try go_wp2_with fail)
  refine hK.out _ _ ?_
  clear hK K
  (try simp only [Act.put, sA, sB, sC])
  refine wpList_q (by rfl) (.bool false) ?he ?_
  case he => (have hq := H1.out; go_simp; (try with_reducible rfl))
  (try simp only [Act.put, sA, sB, sC])
  refine wpList_q (by rfl) (.bool false) ?he ?_
  case he => (first | rfl | (go_simp; (try with_reducible rfl)))
  (try simp only [Act.put, sA, sB, sC])
  refine wpList_nil ?_
  go_upto_region 3 with fail
  refine wp_region_lit ?_
  refine wpList_q (by rfl) (.pointer (some ⟨bL, 6, none⟩)) ?he ?_
  case he => (first | rfl | (go_simp; (try with_reducible rfl)))
  (try simp only [Act.put, sA, sB, sC])
  refine wpList_q (by rfl) (.int .i64 l.ph) ?he ?_
  case he => exact exec_cell 3 _ _ HBL1.out rfl rfl rfl Try.underlying3 rfl
  (try simp only [Act.put, sA, sB, sC])
  refine wpList_q (by rfl) (.bool false) ?he ?_
  case he => (have hq := H2.out; go_simp; (try with_reducible rfl))
  (try simp only [Act.put, sA, sB, sC])
  refine wpList_q (by rfl) (.bool false) ?he ?_
  case he => (first | rfl | (go_simp; (try with_reducible rfl)))
  (try simp only [Act.put, sA, sB, sC])
  refine wpList_no (by rfl) ?_
  (try simp only [Act.put, sA, sB, sC])
  refine wpList_no (by rfl) ?_
  (try simp only [Act.put, sA, sB, sC])
  refine wpList_no (by rfl) ?_
  (try simp only [Act.put, sA, sB, sC])
  refine wpList_no (by rfl) ?_
  (try simp only [Act.put, sA, sB, sC])
  refine wpList_no (by rfl) ?_
  (try simp only [Act.put, sA, sB, sC])
  refine wpList_q (by rfl) (.bool false) ?he ?_
  case he => (first | rfl | (go_simp; (try with_reducible rfl)))
  (try simp only [Act.put, sA, sB, sC])
  refine wpList_q (by rfl) (.bool false) ?he ?_
  case he => (first | rfl | (go_simp; (try with_reducible rfl)))
  (try simp only [Act.put, sA, sB, sC])
  refine wpList_nil ?_
  go_upto_region 6 with fail
  refine wp_region_lit ?_
  refine wpList_q (by rfl) (.pointer (some ⟨bL, 6, none⟩)) ?he ?_
  case he => (first | rfl | (go_simp; (try with_reducible rfl)))
  (try simp only [Act.put, sA, sB, sC])
  refine wpList_q (by rfl) (.int .i64 l.ph) ?he ?_
  case he => exact exec_cell 3 _ _ HBL1.out rfl rfl rfl Try.underlying3 rfl
  (try simp only [Act.put, sA, sB, sC])
  refine wpList_q (by rfl) (.bool true) ?he ?_
  case he => (have hq := H2.out; go_simp; (try with_reducible rfl))
  (try simp only [Act.put, sA, sB, sC])
  refine wpList_q (by rfl) (.bool true) ?he ?_
  case he => (first | rfl | (go_simp; (try with_reducible rfl)))
  (try simp only [Act.put, sA, sB, sC])
  refine wpList_q (by rfl) (.agg (carA x)) ?he ?_
  case he => exact exec_load_row 76 _ _ HBX1.out rfl rfl Try.underlying76 rfl (by kernel_rfl)
  (try simp only [Act.put, sA, sB, sC])
  refine wpList_q (by rfl) (.pointer (some ⟨bL, 0, none⟩)) ?he ?_
  case he => (first | rfl | (go_simp; (try with_reducible rfl)))
  (try simp only [Act.put, sA, sB, sC])
  refine wpList_q (by rfl) (.pointer (some ⟨bL, 3, none⟩)) ?he ?_
  case he => (first | rfl | (go_simp; (try with_reducible rfl)))
  (try simp only [Act.put, sA, sB, sC])
  refine wpList_q (by rfl) (.int .i64 l.to) ?he ?_
  case he => exact exec_cell 3 _ _ HBL1.out rfl rfl rfl Try.underlying3 rfl
  (try simp only [Act.put, sA, sB, sC])
  refine wpList_wp (by rfl) (fun K hK => ?_)
  (try go_simp)
  refine (openT x l.to _).mono ?_
  rintro e w2 ⟨rfl, hb⟩
  (try go_wp2_with fail)
  refine hK.out _ _ ?_
  clear hK K
  (try simp only [Act.put, sA, sB, sC])
  have HS2 := Lib.hid (Since.trans HS1.out hb)
  have HBC2 := Lib.hid (keep_blk hb HBC1.out)
  have HBL2 := Lib.hid (keep_blk hb HBL1.out)
  have HBX2 := Lib.hid (keep_blk hb HBX1.out)
  have HBR2 := Lib.hid (keep_blk hb HBR1.out)
  clear HS1 HBC1 HBL1 HBX1 HBR1
  clear hb
  refine wpList_q (by rfl) (.bool true) ?he ?_
  case he => (have hq := H3.out; go_simp; (try with_reducible rfl))
  (try simp only [Act.put, sA, sB, sC])
  refine wpList_q (by rfl) (.bool true) ?he ?_
  case he => (first | rfl | (go_simp; (try with_reducible rfl)))
  (try simp only [Act.put, sA, sB, sC])
  refine wpList_nil ?_
  go_upto_region 7 with fail
  refine wp_region_lit ?_
  refine wpList_q (by rfl) (.agg (cfgA c)) ?he ?_
  case he => exact exec_load_row 23 _ _ HBC2.out rfl rfl Try.underlying23 rfl (by kernel_rfl)
  (try simp only [Act.put, sA, sB, sC])
  refine wpList_q (by rfl) (.int .i64 now) ?he ?_
  case he => (first | rfl | (go_simp; (try with_reducible rfl)))
  (try simp only [Act.put, sA, sB, sC])
  refine wpList_wp (by rfl) (fun K hK => ?_)
  (try go_simp)
  refine (heldT c now _).mono ?_
  rintro e w3 ⟨rfl, hb⟩
  (try go_wp2_with fail)
  refine hK.out _ _ ?_
  clear hK K
  (try simp only [Act.put, sA, sB, sC])
  have HS3 := Lib.hid (Since.trans HS2.out hb)
  have HBC3 := Lib.hid (keep_blk hb HBC2.out)
  have HBL3 := Lib.hid (keep_blk hb HBL2.out)
  have HBX3 := Lib.hid (keep_blk hb HBX2.out)
  have HBR3 := Lib.hid (keep_blk hb HBR2.out)
  clear HS2 HBC2 HBL2 HBX2 HBR2
  clear hb
  refine wpList_q (by rfl) (.pointer (some ⟨bL, 6, none⟩)) ?he ?_
  case he => (first | rfl | (go_simp; (try with_reducible rfl)))
  (try simp only [Act.put, sA, sB, sC])
  refine wpList_wp (by rfl) (fun K hK => ?_)
  refine wp_st_cell 3 _ _ rfl #[.int .i64 l.se, .int .i64 l.fl, .int .i64 l.fm, .int .i64 l.to, .int .i64 l.ma, .int .i64 l.ca, .int .i64 4, .int .i64 l.un, .int .i64 l.re, .int .i64 l.gr] (.int .i64 4) rfl rfl HBL3.out (by show 6 < 10; decide) rfl (by first | rfl | simp [Value.oneCell']) (by kernel_rfl) ?_
  intro w4 hw
  refine hK.out _ _ ?_
  clear hK K
  (try simp only [Act.put, sA, sB, sC])
  have HS4 := Lib.hid (show Since w w4 by rw [hw]; exact Since.setRow HS3.out (by have := HNE3.out; omega) _)
  have HBC4 := Lib.hid (show Blk w4 w.heap.size 23 (cfgA c) by rw [hw]; exact Blk.row_far HBC3.out (by have := HNE3.out; omega) _)
  have HBL4 := Lib.hid (show Blk w4 bL 56 #[.int .i64 l.se, .int .i64 l.fl, .int .i64 l.fm, .int .i64 l.to, .int .i64 l.ma, .int .i64 l.ca, .int .i64 4, .int .i64 l.un, .int .i64 l.re, .int .i64 l.gr] by rw [hw]; exact Blk.row HBL3.out _)
  have HBX4 := Lib.hid (show Blk w4 bX 76 (carA x) by rw [hw]; exact Blk.row_far HBX3.out (by have := HNE3.out; omega) _)
  have HBR4 := Lib.hid (show Blk w4 bR 56 #[.int .i64 0, .int .i64 0, .int .i64 0, .int .i64 0, .int .i64 0, .int .i64 0, .int .i64 0, .int .i64 0, .int .i64 0, .int .i64 0] by rw [hw]; exact Blk.row_far HBR3.out (by have := HNE3.out; omega) _)
  clear hw HS3 HBC3 HBL3 HBX3 HBR3
  refine wpList_q (by rfl) (.pointer (some ⟨bL, 7, none⟩)) ?he ?_
  case he => (first | rfl | (go_simp; (try with_reducible rfl)))
  (try simp only [Act.put, sA, sB, sC])
  refine wpList_wp (by rfl) (fun K hK => ?_)
  refine wp_st_cell 3 _ _ rfl #[.int .i64 l.se, .int .i64 l.fl, .int .i64 l.fm, .int .i64 l.to, .int .i64 l.ma, .int .i64 l.ca, .int .i64 4, .int .i64 (cl (cl now + cl (sp c.ho))), .int .i64 l.re, .int .i64 l.gr] (.int .i64 (cl (cl now + cl (sp c.ho)))) rfl rfl HBL4.out (by show 7 < 10; decide) rfl (by first | rfl | simp [Value.oneCell']) (by kernel_rfl) ?_
  intro w5 hw
  refine hK.out _ _ ?_
  clear hK K
  (try simp only [Act.put, sA, sB, sC])
  have HS5 := Lib.hid (show Since w w5 by rw [hw]; exact Since.setRow HS4.out (by have := HNE3.out; omega) _)
  have HBC5 := Lib.hid (show Blk w5 w.heap.size 23 (cfgA c) by rw [hw]; exact Blk.row_far HBC4.out (by have := HNE3.out; omega) _)
  have HBL5 := Lib.hid (show Blk w5 bL 56 #[.int .i64 l.se, .int .i64 l.fl, .int .i64 l.fm, .int .i64 l.to, .int .i64 l.ma, .int .i64 l.ca, .int .i64 4, .int .i64 (cl (cl now + cl (sp c.ho))), .int .i64 l.re, .int .i64 l.gr] by rw [hw]; exact Blk.row HBL4.out _)
  have HBX5 := Lib.hid (show Blk w5 bX 76 (carA x) by rw [hw]; exact Blk.row_far HBX4.out (by have := HNE3.out; omega) _)
  have HBR5 := Lib.hid (show Blk w5 bR 56 #[.int .i64 0, .int .i64 0, .int .i64 0, .int .i64 0, .int .i64 0, .int .i64 0, .int .i64 0, .int .i64 0, .int .i64 0, .int .i64 0] by rw [hw]; exact Blk.row_far HBR4.out (by have := HNE3.out; omega) _)
  clear hw HS4 HBC4 HBL4 HBX4 HBR4
  refine wpList_nil ?_
  go_upto_region 8 with fail
  have hrK : ∀ W W' : World, Since W W' → (Since w W ∧ Blk W w.heap.size 23 (cfgA c) ∧ Blk W bL 56 #[.int .i64 l.se, .int .i64 l.fl, .int .i64 l.fm, .int .i64 l.to, .int .i64 l.ma, .int .i64 l.ca, .int .i64 4, .int .i64 (cl (cl now + cl (sp c.ho))), .int .i64 l.re, .int .i64 l.gr] ∧ Blk W bX 76 (carA x) ∧ HasRow W bR 56 10) → (Since w W' ∧ Blk W' w.heap.size 23 (cfgA c) ∧ Blk W' bL 56 #[.int .i64 l.se, .int .i64 l.fl, .int .i64 l.fm, .int .i64 l.to, .int .i64 l.ma, .int .i64 l.ca, .int .i64 4, .int .i64 (cl (cl now + cl (sp c.ho))), .int .i64 l.re, .int .i64 l.gr] ∧ Blk W' bX 76 (carA x) ∧ HasRow W' bR 56 10) := fun W W' k ⟨h, h0, h1, h2, h3⟩ => ⟨h.trans k, keep_blk k h0, keep_blk k h1, keep_blk k h2, HasRow.keep k h3⟩
  have hrS : (fun W : World => Since w W ∧ Blk W w.heap.size 23 (cfgA c) ∧ Blk W bL 56 #[.int .i64 l.se, .int .i64 l.fl, .int .i64 l.fm, .int .i64 l.to, .int .i64 l.ma, .int .i64 l.ca, .int .i64 4, .int .i64 (cl (cl now + cl (sp c.ho))), .int .i64 l.re, .int .i64 l.gr] ∧ Blk W bX 76 (carA x) ∧ HasRow W bR 56 10) w5 := ⟨HS5.out, HBC5.out, HBL5.out, HBX5.out, HasRow.of HBR5.out rfl⟩
  have HRK := Lib.hid hrK
  have HRD := Lib.hid (show (fun W : World => Since w W ∧ Blk W w.heap.size 23 (cfgA c) ∧ Blk W bL 56 #[.int .i64 l.se, .int .i64 l.fl, .int .i64 l.fm, .int .i64 l.to, .int .i64 l.ma, .int .i64 l.ca, .int .i64 4, .int .i64 (cl (cl now + cl (sp c.ho))), .int .i64 l.re, .int .i64 l.gr] ∧ Blk W bX 76 (carA x) ∧ HasRow W bR 56 10) (World.drew w5) from ⟨Since.drew hrS.1, hrS.2⟩)
  clear hrK hrS
  refine wp_region_held_drew (S := fun W : World => Since w W ∧ Blk W w.heap.size 23 (cfgA c) ∧ Blk W bL 56 #[.int .i64 l.se, .int .i64 l.fl, .int .i64 l.fm, .int .i64 l.to, .int .i64 l.ma, .int .i64 l.ca, .int .i64 4, .int .i64 (cl (cl now + cl (sp c.ho))), .int .i64 l.re, .int .i64 l.gr] ∧ Blk W bX 76 (carA x) ∧ HasRow W bR 56 10) (by kernel_rfl) HRD.out (fun hHeld => ?_)
  refine wpAnyH_take (i := 0) (oi := ?o8__0) (v := .agg #[.int .i64 l.se, .int .i64 l.fl, .int .i64 l.fm, .int .i64 l.to, .int .i64 l.ma, .int .i64 l.ca, .int .i64 4, .int .i64 (cl (cl now + cl (sp c.ho))), .int .i64 l.re, .int .i64 l.gr]) ?h8__0 (by kernel_rfl) (by kernel_rfl) (by kernel_rfl) ?q8__0 ?y8__0 (by assumption) ?_
  case h8__0 => (first | (simp only [gA, gB, gC]; done) | (simp only [gA, gB, gC]; exact rfl))
  case q8__0 => exact fun _ _ _ h => h
  case y8__0 => (refine Or.inl ⟨rfl, ?_⟩; intro w hSw; exact exec_load_row 56 _ _ hSw.2.2.1 rfl rfl Try.underlying56 rfl (by kernel_rfl))
  (try simp only [Act.put, sA, sB, sC])
  refine wpAnyH_take (i := 1) (oi := ?o8__1) (v := .pointer (some ⟨bL, 0, none⟩)) ?h8__1 (by kernel_rfl) (by kernel_rfl) (by kernel_rfl) ?q8__1 ?y8__1 (by assumption) ?_
  case h8__1 => (first | (simp only [gA, gB, gC]; done) | (simp only [gA, gB, gC]; exact rfl))
  case q8__1 => exact fun _ _ _ h => h
  case y8__1 => (refine Or.inl ⟨rfl, ?_⟩; intro w hSw; (first | rfl | (go_simp; (try with_reducible rfl))))
  (try simp only [Act.put, sA, sB, sC])
  refine wpAnyH_take (i := 2) (oi := ?o8__2) (v := .pointer (some ⟨bL, 3, none⟩)) ?h8__2 (by kernel_rfl) (by kernel_rfl) (by kernel_rfl) ?q8__2 ?y8__2 (by assumption) ?_
  case h8__2 => (first | (simp only [gA, gB, gC]; done) | (simp only [gA, gB, gC]; exact rfl))
  case q8__2 => exact fun _ _ _ h => h
  case y8__2 => (refine Or.inl ⟨rfl, ?_⟩; intro w hSw; (first | rfl | (go_simp; (try with_reducible rfl))))
  (try simp only [Act.put, sA, sB, sC])
  refine wpAnyH_take (i := 3) (oi := ?o8__3) (v := .int .i64 l.to) ?h8__3 (by kernel_rfl) (by kernel_rfl) (by kernel_rfl) ?q8__3 ?y8__3 (by assumption) ?_
  case h8__3 => (first | (simp only [gA, gB, gC]; done) | (simp only [gA, gB, gC]; exact rfl))
  case q8__3 => exact fun _ _ _ h => h
  case y8__3 => (refine Or.inl ⟨rfl, ?_⟩; intro w hSw; exact exec_cell 3 _ _ hSw.2.2.1 rfl rfl rfl Try.underlying3 rfl)
  (try simp only [Act.put, sA, sB, sC])
  refine wpAnyH_ready (rs := [4]) (by kernel_rfl) (by simp) ?_
  refine AllReadyH.cons (o := ?o8__4) ?h8__4 (fun K hK => ?_) AllReadyH.nil
  case h8__4 => (first | (simp only [gA, gB, gC]; done) | (simp only [gA, gB, gC]; exact rfl))
  (try go_simp)
  refine (sayT 12 l.to _).mono ?_
  rintro e w6 ⟨b9, rfl, hge, hB, hb⟩
  (try go_wp2_with fail)
  refine hK.out _ _ (by (apply HRK.out; exact hb; exact hHeld)) (fun hHeld2 => ?_)
  have HNmR := Lib.hid (show b9 ≠ bR by obtain ⟨old, Bo, _⟩ := hHeld.2.2.2.2; have := Blk.lt Bo; omega)
  have HGm := Lib.hid (show w.heap.size ≤ b9 by have := Since.size hHeld.1; (try simp at this); (try simp at hge); omega)
  have HXm := Lib.hid hB
  clear hB
  clear hge
  clear hK K hHeld hb
  have hHeld := hHeld2
  clear hHeld2
  (try simp only [Act.put, sA, sB, sC])
  refine wpAnyH_ready (rs := [5]) (by kernel_rfl) (by simp) ?_
  refine AllReadyH.cons (o := ?o8__5) ?h8__5 (fun K hK => ?_) AllReadyH.nil
  case h8__5 => (first | (simp only [gA, gB, gC]; done) | (simp only [gA, gB, gC]; exact rfl))
  rw [if_pos (by rfl)]
  refine wp_st_row 56 _ _ rfl #[.int .i64 l.se, .int .i64 l.fl, .int .i64 l.fm, .int .i64 l.to, .int .i64 l.ma, .int .i64 l.ca, .int .i64 4, .int .i64 (cl (cl now + cl (sp c.ho))), .int .i64 l.re, .int .i64 l.gr] rfl rfl (hHeld.2.2.2.2) rfl (by simp [cfgA, leaA, carA, msgC, Value.oneCell']) (by kernel_rfl) ?_
  intro w7 hw
  have HRR := Lib.hid (show Blk w7 bR 56 #[.int .i64 l.se, .int .i64 l.fl, .int .i64 l.fm, .int .i64 l.to, .int .i64 l.ma, .int .i64 l.ca, .int .i64 4, .int .i64 (cl (cl now + cl (sp c.ho))), .int .i64 l.re, .int .i64 l.gr] by obtain ⟨old, Bo, _⟩ := hHeld.2.2.2.2; rw [hw]; exact Blk.row Bo _)
  have HXm2 := Lib.hid (show Blk w7 b9 85 #[.int .i64 12, .int .i64 l.to, .int .i64 0, .int .i64 0] by rw [hw]; exact Blk.row_far HXm.out HNmR.out _)
  clear HXm
  have hHeld3 : (fun W : World => Since w W ∧ Blk W w.heap.size 23 (cfgA c) ∧ Blk W bL 56 #[.int .i64 l.se, .int .i64 l.fl, .int .i64 l.fm, .int .i64 l.to, .int .i64 l.ma, .int .i64 l.ca, .int .i64 4, .int .i64 (cl (cl now + cl (sp c.ho))), .int .i64 l.re, .int .i64 l.gr] ∧ Blk W bX 76 (carA x) ∧ HasRow W bR 56 10) w7 := ⟨by rw [hw]; exact Since.setRow hHeld.1 (by have := HNE3.out; omega) _, by rw [hw]; exact Blk.row_far (hHeld.2.1) (by have := HNE3.out; omega) _, by rw [hw]; exact Blk.row_far (hHeld.2.2.1) (by have := HNE3.out; omega) _, by rw [hw]; exact Blk.row_far (hHeld.2.2.2.1) (by have := HNE3.out; omega) _, HasRow.of HRR.out rfl⟩
  refine hK.out _ _ hHeld3 (fun hHeld2 => ?_)
  clear hK K hHeld hHeld3 hw
  have hHeld := hHeld2
  clear hHeld2
  (try simp only [Act.put, sA, sB, sC])
  refine wpAnyH_take (i := 6) (oi := ?o8__6) (v := .slice (some ⟨b9, 0, none⟩) 1 1) ?h8__6 (by kernel_rfl) (by kernel_rfl) (by kernel_rfl) ?q8__6 ?y8__6 (by assumption) ?_
  case h8__6 => (first | (simp only [gA, gB, gC]; done) | (simp only [gA, gB, gC]; exact rfl))
  case q8__6 => exact fun _ _ _ h => h
  case y8__6 => (refine Or.inl ⟨rfl, ?_⟩; intro w hSw; (first | rfl | (go_simp; (try with_reducible rfl))))
  (try simp only [Act.put, sA, sB, sC])
  refine wpAnyH_take (i := 7) (oi := ?o8__7) (v := .bool false) ?h8__7 (by kernel_rfl) (by kernel_rfl) (by kernel_rfl) ?q8__7 ?y8__7 (by assumption) ?_
  case h8__7 => (first | (simp only [gA, gB, gC]; done) | (simp only [gA, gB, gC]; exact rfl))
  case q8__7 => exact fun _ _ _ h => h
  case y8__7 => (refine Or.inl ⟨rfl, ?_⟩; intro w hSw; (first | rfl | (go_simp; (try with_reducible rfl))))
  (try simp only [Act.put, sA, sB, sC])
  refine wpAnyH_done (by kernel_rfl) ?_ _
  have HSd8 := Lib.hid hHeld.1
  have HBCd8 := Lib.hid (hHeld.2.1)
  have HBLd8 := Lib.hid (hHeld.2.2.1)
  have HBXd8 := Lib.hid (hHeld.2.2.2.1)
  have HBRd8 := Lib.hid HRR.out
  clear HRR
  clear hHeld HRK HRD HS5 HBC5 HBL5 HBX5 HBR5
  (try go_wp2_with fail)
  exact bodyPost_ret (results_row3 rfl _ _ bR 56 #[.int .i64 l.se, .int .i64 l.fl, .int .i64 l.fm, .int .i64 l.to, .int .i64 l.ma, .int .i64 l.ca, .int .i64 4, .int .i64 (cl (cl now + cl (sp c.ho))), .int .i64 l.re, .int .i64 l.gr] _ (.slice (some ⟨b9, 0, none⟩) 1 1) (.bool false) rfl rfl rfl HBRd8.out Try.underlying56 rfl (by kernel_rfl)) rfl ⟨.slice (some ⟨b9, 0, none⟩) 1 1, rfl, ⟨b9, rfl, HGm.out, HXm2.out⟩, HSd8.out⟩
set_option maxHeartbeats 4000000 in
theorem tickE (c : CfgV) (l : LeaseV) (x : CarV) (now : Int) (h0 : x.br = false) (h1 : decide (cl l.un ≤ cl now) = false) (h2 : l.ph = 1) (h3 : opB x l.fm = false) (w : World) : Calls Try.prog 50 #[.agg #[.int .i64 c.ca, .int .i64 c.fl, .int .i64 c.ft, .int .i64 c.se, .int .i64 c.dr, .int .i64 c.dw, .int .i64 c.ho, .int .i64 c.re, .int .i64 c.yi, .int .i64 c.qu, .int .i64 c.qo, .int .i64 c.lo, .int .i64 c.sl, .int .i64 c.rt, .int .i64 c.cp, .int .i64 c.tr, .int .i64 c.de, .int .i64 c.wi], .agg #[.int .i64 l.se, .int .i64 l.fl, .int .i64 l.fm, .int .i64 l.to, .int .i64 l.ma, .int .i64 l.ca, .int .i64 l.ph, .int .i64 l.un, .int .i64 l.re, .int .i64 l.gr], .agg #[.int .i64 x.ds, .int .i64 x.da, .int .i64 x.un, .int .i64 x.wy, .int .i64 x.ti, .int .i64 x.ju, .int .i64 x.lo, .bool x.bl, .bool x.br, .int .i64 x.mo, .int .i64 x.ta, .bool x.ho, .int .u64 x.sp, .int .u64 x.su, .int .u64 x.sd], .int .i64 now] w (Said w (⟨l.se, l.fl, l.fm, l.to, l.ma, l.ca, l.ph, l.un, l.re, l.gr⟩, none, false)) := by
  have H0 := Lib.hid h0
  clear h0
  have H1 := Lib.hid h1
  clear h1
  have H2 := Lib.hid h2
  clear h2
  have H3 := Lib.hid h3
  clear h3
  go_enter Try.func50, Try.ntmps50
  go_upto_region 1 with fail
  obtain ⟨w1, hw1⟩ : ∃ w1, w1 = ((((w.alloc (.cells #[.int .i64 c.ca, .int .i64 c.fl, .int .i64 c.ft, .int .i64 c.se, .int .i64 c.dr, .int .i64 c.dw, .int .i64 c.ho, .int .i64 c.re, .int .i64 c.yi, .int .i64 c.qu, .int .i64 c.qo, .int .i64 c.lo, .int .i64 c.sl, .int .i64 c.rt, .int .i64 c.cp, .int .i64 c.tr, .int .i64 c.de, .int .i64 c.wi] 23)).alloc (.cells #[.int .i64 l.se, .int .i64 l.fl, .int .i64 l.fm, .int .i64 l.to, .int .i64 l.ma, .int .i64 l.ca, .int .i64 l.ph, .int .i64 l.un, .int .i64 l.re, .int .i64 l.gr] 56)).alloc (.cells #[.int .i64 x.ds, .int .i64 x.da, .int .i64 x.un, .int .i64 x.wy, .int .i64 x.ti, .int .i64 x.ju, .int .i64 x.lo, .bool x.bl, .bool x.br, .int .i64 x.mo, .int .i64 x.ta, .bool x.ho, .int .u64 x.sp, .int .u64 x.su, .int .u64 x.sd] 76)).alloc (.cells #[.int .i64 0, .int .i64 0, .int .i64 0, .int .i64 0, .int .i64 0, .int .i64 0, .int .i64 0, .int .i64 0, .int .i64 0, .int .i64 0] 56)) := ⟨_, rfl⟩
  rw [← hw1]
  have HBC1 := Lib.hid (show Blk w1 (w.heap.size) 23 (cfgA c) by rw [hw1]; exact Blk.alloc (Blk.alloc (Blk.alloc (Blk.at_ (by (try simp only [size_alloc])) _ _) _) _) _)
  have HBL1 := Lib.hid (show Blk w1 (w.heap.size + 1) 56 (leaA l) by rw [hw1]; exact Blk.alloc (Blk.alloc (Blk.at_ (by (try simp only [size_alloc])) _ _) _) _)
  have HBX1 := Lib.hid (show Blk w1 (w.heap.size + 1 + 1) 76 (carA x) by rw [hw1]; exact Blk.alloc (Blk.at_ (by (try simp only [size_alloc])) _ _) _)
  have HBR1 := Lib.hid (show Blk w1 (w.heap.size + 1 + 1 + 1) 56 #[.int .i64 0, .int .i64 0, .int .i64 0, .int .i64 0, .int .i64 0, .int .i64 0, .int .i64 0, .int .i64 0, .int .i64 0, .int .i64 0] by rw [hw1]; exact Blk.at_ (by (try simp only [size_alloc])) _ _)
  have HS1 := Lib.hid (show Since w w1 by rw [hw1]; exact Since.alloc (Since.alloc (Since.alloc (Since.alloc (Since.refl w) _) _) _) _)
  have hNE : w.heap.size ≤ w.heap.size ∧ w.heap.size < w.heap.size + 1 ∧ w.heap.size + 1 < w.heap.size + 1 + 1 ∧ w.heap.size + 1 + 1 < w.heap.size + 1 + 1 + 1 := by omega
  have HNE := Lib.hid hNE
  clear hNE hw1
  generalize w.heap.size + 1 + 1 + 1 = bR at *
  generalize w.heap.size + 1 + 1 = bX at *
  generalize w.heap.size + 1 = bL at *
  have HNE3 := Lib.hid (show w.heap.size ≤ w.heap.size ∧ w.heap.size < bL ∧ bL < bX ∧ bX < bR from HNE.out)
  clear HNE
  refine wp_region_lit ?_
  refine wpList_q (by rfl) (.pointer (some ⟨bX, 8, none⟩)) ?he ?_
  case he => (first | rfl | (go_simp; (try with_reducible rfl)))
  (try simp only [Act.put, sA, sB, sC])
  refine wpList_q (by rfl) (.bool x.br) ?he ?_
  case he => exact exec_cell 4 _ _ HBX1.out rfl rfl rfl Try.underlying4 rfl
  (try simp only [Act.put, sA, sB, sC])
  refine wpList_q (by rfl) (.bool false) ?he ?_
  case he => (have hq := H0.out; go_simp; (try with_reducible rfl))
  (try simp only [Act.put, sA, sB, sC])
  refine wpList_q (by rfl) (.int .i64 now) ?he ?_
  case he => (first | rfl | (go_simp; (try with_reducible rfl)))
  (try simp only [Act.put, sA, sB, sC])
  refine wpList_q (by rfl) (.pointer (some ⟨bL, 7, none⟩)) ?he ?_
  case he => (first | rfl | (go_simp; (try with_reducible rfl)))
  (try simp only [Act.put, sA, sB, sC])
  refine wpList_q (by rfl) (.int .i64 l.un) ?he ?_
  case he => exact exec_cell 3 _ _ HBL1.out rfl rfl rfl Try.underlying3 rfl
  (try simp only [Act.put, sA, sB, sC])
  refine wpList_wp (by rfl) (fun K hK => ?_)
  (try go_simp)
  refine (lateT _ _ _).mono ?_
  rintro e w' ⟨rfl, rfl⟩
  (try go_wp2_with fail)
  refine hK.out _ _ ?_
  clear hK K
  (try simp only [Act.put, sA, sB, sC])
  refine wpList_q (by rfl) (.bool false) ?he ?_
  case he => (have hq := H1.out; go_simp; (try with_reducible rfl))
  (try simp only [Act.put, sA, sB, sC])
  refine wpList_q (by rfl) (.bool false) ?he ?_
  case he => (first | rfl | (go_simp; (try with_reducible rfl)))
  (try simp only [Act.put, sA, sB, sC])
  refine wpList_nil ?_
  go_upto_region 3 with fail
  refine wp_region_lit ?_
  refine wpList_q (by rfl) (.pointer (some ⟨bL, 6, none⟩)) ?he ?_
  case he => (first | rfl | (go_simp; (try with_reducible rfl)))
  (try simp only [Act.put, sA, sB, sC])
  refine wpList_q (by rfl) (.int .i64 l.ph) ?he ?_
  case he => exact exec_cell 3 _ _ HBL1.out rfl rfl rfl Try.underlying3 rfl
  (try simp only [Act.put, sA, sB, sC])
  refine wpList_q (by rfl) (.bool true) ?he ?_
  case he => (have hq := H2.out; go_simp; (try with_reducible rfl))
  (try simp only [Act.put, sA, sB, sC])
  refine wpList_q (by rfl) (.bool true) ?he ?_
  case he => (first | rfl | (go_simp; (try with_reducible rfl)))
  (try simp only [Act.put, sA, sB, sC])
  refine wpList_q (by rfl) (.agg (carA x)) ?he ?_
  case he => exact exec_load_row 76 _ _ HBX1.out rfl rfl Try.underlying76 rfl (by kernel_rfl)
  (try simp only [Act.put, sA, sB, sC])
  refine wpList_q (by rfl) (.pointer (some ⟨bL, 0, none⟩)) ?he ?_
  case he => (first | rfl | (go_simp; (try with_reducible rfl)))
  (try simp only [Act.put, sA, sB, sC])
  refine wpList_q (by rfl) (.pointer (some ⟨bL, 2, none⟩)) ?he ?_
  case he => (first | rfl | (go_simp; (try with_reducible rfl)))
  (try simp only [Act.put, sA, sB, sC])
  refine wpList_q (by rfl) (.int .i64 l.fm) ?he ?_
  case he => exact exec_cell 3 _ _ HBL1.out rfl rfl rfl Try.underlying3 rfl
  (try simp only [Act.put, sA, sB, sC])
  refine wpList_wp (by rfl) (fun K hK => ?_)
  (try go_simp)
  refine (openT x l.fm _).mono ?_
  rintro e w2 ⟨rfl, hb⟩
  (try go_wp2_with fail)
  refine hK.out _ _ ?_
  clear hK K
  (try simp only [Act.put, sA, sB, sC])
  have HS2 := Lib.hid (Since.trans HS1.out hb)
  have HBC2 := Lib.hid (keep_blk hb HBC1.out)
  have HBL2 := Lib.hid (keep_blk hb HBL1.out)
  have HBX2 := Lib.hid (keep_blk hb HBX1.out)
  have HBR2 := Lib.hid (keep_blk hb HBR1.out)
  clear HS1 HBC1 HBL1 HBX1 HBR1
  clear hb
  refine wpList_q (by rfl) (.bool false) ?he ?_
  case he => (have hq := H3.out; go_simp; (try with_reducible rfl))
  (try simp only [Act.put, sA, sB, sC])
  refine wpList_q (by rfl) (.bool false) ?he ?_
  case he => (first | rfl | (go_simp; (try with_reducible rfl)))
  (try simp only [Act.put, sA, sB, sC])
  refine wpList_nil ?_
  go_upto_region 6 with fail
  refine wp_region_lit ?_
  refine wpList_q (by rfl) (.pointer (some ⟨bL, 6, none⟩)) ?he ?_
  case he => (first | rfl | (go_simp; (try with_reducible rfl)))
  (try simp only [Act.put, sA, sB, sC])
  refine wpList_q (by rfl) (.int .i64 l.ph) ?he ?_
  case he => exact exec_cell 3 _ _ HBL2.out rfl rfl rfl Try.underlying3 rfl
  (try simp only [Act.put, sA, sB, sC])
  refine wpList_q (by rfl) (.bool false) ?he ?_
  case he => (have hq := H2.out; go_simp; (try with_reducible rfl))
  (try simp only [Act.put, sA, sB, sC])
  refine wpList_q (by rfl) (.bool false) ?he ?_
  case he => (first | rfl | (go_simp; (try with_reducible rfl)))
  (try simp only [Act.put, sA, sB, sC])
  refine wpList_no (by rfl) ?_
  (try simp only [Act.put, sA, sB, sC])
  refine wpList_no (by rfl) ?_
  (try simp only [Act.put, sA, sB, sC])
  refine wpList_no (by rfl) ?_
  (try simp only [Act.put, sA, sB, sC])
  refine wpList_no (by rfl) ?_
  (try simp only [Act.put, sA, sB, sC])
  refine wpList_no (by rfl) ?_
  (try simp only [Act.put, sA, sB, sC])
  refine wpList_q (by rfl) (.bool false) ?he ?_
  case he => (first | rfl | (go_simp; (try with_reducible rfl)))
  (try simp only [Act.put, sA, sB, sC])
  refine wpList_q (by rfl) (.bool false) ?he ?_
  case he => (first | rfl | (go_simp; (try with_reducible rfl)))
  (try simp only [Act.put, sA, sB, sC])
  refine wpList_nil ?_
  go_upto_region 9 with fail
  refine wp_region_lit ?_
  refine wpList_q (by rfl) (.agg (leaA l)) ?he ?_
  case he => exact exec_load_row 56 _ _ HBL2.out rfl rfl Try.underlying56 rfl (by kernel_rfl)
  (try simp only [Act.put, sA, sB, sC])
  refine wpList_wp (by rfl) (fun K hK => ?_)
  refine wp_st_row 56 _ _ rfl (leaA l) rfl rfl (HasRow.of HBR2.out rfl) rfl (by simp [cfgA, leaA, carA, msgC, Value.oneCell']) (by kernel_rfl) ?_
  intro w3 hw
  refine hK.out _ _ ?_
  clear hK K
  (try simp only [Act.put, sA, sB, sC])
  have HS3 := Lib.hid (show Since w w3 by rw [hw]; exact Since.setRow HS2.out (by have := HNE3.out; omega) _)
  have HBC3 := Lib.hid (show Blk w3 w.heap.size 23 (cfgA c) by rw [hw]; exact Blk.row_far HBC2.out (by have := HNE3.out; omega) _)
  have HBL3 := Lib.hid (show Blk w3 bL 56 (leaA l) by rw [hw]; exact Blk.row_far HBL2.out (by have := HNE3.out; omega) _)
  have HBX3 := Lib.hid (show Blk w3 bX 76 (carA x) by rw [hw]; exact Blk.row_far HBX2.out (by have := HNE3.out; omega) _)
  have HBR3 := Lib.hid (show Blk w3 bR 56 (leaA l) by rw [hw]; exact Blk.row HBR2.out _)
  clear hw HS2 HBC2 HBL2 HBX2 HBR2
  refine wpList_q (by rfl) (.slice none 0 0) ?he ?_
  case he => (first | rfl | (go_simp; (try with_reducible rfl)))
  (try simp only [Act.put, sA, sB, sC])
  refine wpList_q (by rfl) (.bool false) ?he ?_
  case he => (first | rfl | (go_simp; (try with_reducible rfl)))
  (try simp only [Act.put, sA, sB, sC])
  refine wpList_nil ?_
  (try go_wp2_with fail)
  exact bodyPost_ret (results_row3 rfl _ _ bR 56 #[.int .i64 l.se, .int .i64 l.fl, .int .i64 l.fm, .int .i64 l.to, .int .i64 l.ma, .int .i64 l.ca, .int .i64 l.ph, .int .i64 l.un, .int .i64 l.re, .int .i64 l.gr] _ (.slice none 0 0) (.bool false) rfl rfl rfl HBR3.out Try.underlying56 rfl (by kernel_rfl)) rfl ⟨.slice none 0 0, rfl, rfl, HS3.out⟩
set_option maxHeartbeats 4000000 in
theorem tickF (c : CfgV) (l : LeaseV) (x : CarV) (now : Int) (h0 : x.br = false) (h1 : decide (cl l.un ≤ cl now) = false) (h2 : l.ph = 3) (h3 : opB x l.to = false) (w : World) : Calls Try.prog 50 #[.agg #[.int .i64 c.ca, .int .i64 c.fl, .int .i64 c.ft, .int .i64 c.se, .int .i64 c.dr, .int .i64 c.dw, .int .i64 c.ho, .int .i64 c.re, .int .i64 c.yi, .int .i64 c.qu, .int .i64 c.qo, .int .i64 c.lo, .int .i64 c.sl, .int .i64 c.rt, .int .i64 c.cp, .int .i64 c.tr, .int .i64 c.de, .int .i64 c.wi], .agg #[.int .i64 l.se, .int .i64 l.fl, .int .i64 l.fm, .int .i64 l.to, .int .i64 l.ma, .int .i64 l.ca, .int .i64 l.ph, .int .i64 l.un, .int .i64 l.re, .int .i64 l.gr], .agg #[.int .i64 x.ds, .int .i64 x.da, .int .i64 x.un, .int .i64 x.wy, .int .i64 x.ti, .int .i64 x.ju, .int .i64 x.lo, .bool x.bl, .bool x.br, .int .i64 x.mo, .int .i64 x.ta, .bool x.ho, .int .u64 x.sp, .int .u64 x.su, .int .u64 x.sd], .int .i64 now] w (Said w (⟨l.se, l.fl, l.fm, l.to, l.ma, l.ca, l.ph, l.un, l.re, l.gr⟩, none, false)) := by
  have H0 := Lib.hid h0
  clear h0
  have H1 := Lib.hid h1
  clear h1
  have H2 := Lib.hid h2
  clear h2
  have H3 := Lib.hid h3
  clear h3
  go_enter Try.func50, Try.ntmps50
  go_upto_region 1 with fail
  obtain ⟨w1, hw1⟩ : ∃ w1, w1 = ((((w.alloc (.cells #[.int .i64 c.ca, .int .i64 c.fl, .int .i64 c.ft, .int .i64 c.se, .int .i64 c.dr, .int .i64 c.dw, .int .i64 c.ho, .int .i64 c.re, .int .i64 c.yi, .int .i64 c.qu, .int .i64 c.qo, .int .i64 c.lo, .int .i64 c.sl, .int .i64 c.rt, .int .i64 c.cp, .int .i64 c.tr, .int .i64 c.de, .int .i64 c.wi] 23)).alloc (.cells #[.int .i64 l.se, .int .i64 l.fl, .int .i64 l.fm, .int .i64 l.to, .int .i64 l.ma, .int .i64 l.ca, .int .i64 l.ph, .int .i64 l.un, .int .i64 l.re, .int .i64 l.gr] 56)).alloc (.cells #[.int .i64 x.ds, .int .i64 x.da, .int .i64 x.un, .int .i64 x.wy, .int .i64 x.ti, .int .i64 x.ju, .int .i64 x.lo, .bool x.bl, .bool x.br, .int .i64 x.mo, .int .i64 x.ta, .bool x.ho, .int .u64 x.sp, .int .u64 x.su, .int .u64 x.sd] 76)).alloc (.cells #[.int .i64 0, .int .i64 0, .int .i64 0, .int .i64 0, .int .i64 0, .int .i64 0, .int .i64 0, .int .i64 0, .int .i64 0, .int .i64 0] 56)) := ⟨_, rfl⟩
  rw [← hw1]
  have HBC1 := Lib.hid (show Blk w1 (w.heap.size) 23 (cfgA c) by rw [hw1]; exact Blk.alloc (Blk.alloc (Blk.alloc (Blk.at_ (by (try simp only [size_alloc])) _ _) _) _) _)
  have HBL1 := Lib.hid (show Blk w1 (w.heap.size + 1) 56 (leaA l) by rw [hw1]; exact Blk.alloc (Blk.alloc (Blk.at_ (by (try simp only [size_alloc])) _ _) _) _)
  have HBX1 := Lib.hid (show Blk w1 (w.heap.size + 1 + 1) 76 (carA x) by rw [hw1]; exact Blk.alloc (Blk.at_ (by (try simp only [size_alloc])) _ _) _)
  have HBR1 := Lib.hid (show Blk w1 (w.heap.size + 1 + 1 + 1) 56 #[.int .i64 0, .int .i64 0, .int .i64 0, .int .i64 0, .int .i64 0, .int .i64 0, .int .i64 0, .int .i64 0, .int .i64 0, .int .i64 0] by rw [hw1]; exact Blk.at_ (by (try simp only [size_alloc])) _ _)
  have HS1 := Lib.hid (show Since w w1 by rw [hw1]; exact Since.alloc (Since.alloc (Since.alloc (Since.alloc (Since.refl w) _) _) _) _)
  have hNE : w.heap.size ≤ w.heap.size ∧ w.heap.size < w.heap.size + 1 ∧ w.heap.size + 1 < w.heap.size + 1 + 1 ∧ w.heap.size + 1 + 1 < w.heap.size + 1 + 1 + 1 := by omega
  have HNE := Lib.hid hNE
  clear hNE hw1
  generalize w.heap.size + 1 + 1 + 1 = bR at *
  generalize w.heap.size + 1 + 1 = bX at *
  generalize w.heap.size + 1 = bL at *
  have HNE3 := Lib.hid (show w.heap.size ≤ w.heap.size ∧ w.heap.size < bL ∧ bL < bX ∧ bX < bR from HNE.out)
  clear HNE
  refine wp_region_lit ?_
  refine wpList_q (by rfl) (.pointer (some ⟨bX, 8, none⟩)) ?he ?_
  case he => (first | rfl | (go_simp; (try with_reducible rfl)))
  (try simp only [Act.put, sA, sB, sC])
  refine wpList_q (by rfl) (.bool x.br) ?he ?_
  case he => exact exec_cell 4 _ _ HBX1.out rfl rfl rfl Try.underlying4 rfl
  (try simp only [Act.put, sA, sB, sC])
  refine wpList_q (by rfl) (.bool false) ?he ?_
  case he => (have hq := H0.out; go_simp; (try with_reducible rfl))
  (try simp only [Act.put, sA, sB, sC])
  refine wpList_q (by rfl) (.int .i64 now) ?he ?_
  case he => (first | rfl | (go_simp; (try with_reducible rfl)))
  (try simp only [Act.put, sA, sB, sC])
  refine wpList_q (by rfl) (.pointer (some ⟨bL, 7, none⟩)) ?he ?_
  case he => (first | rfl | (go_simp; (try with_reducible rfl)))
  (try simp only [Act.put, sA, sB, sC])
  refine wpList_q (by rfl) (.int .i64 l.un) ?he ?_
  case he => exact exec_cell 3 _ _ HBL1.out rfl rfl rfl Try.underlying3 rfl
  (try simp only [Act.put, sA, sB, sC])
  refine wpList_wp (by rfl) (fun K hK => ?_)
  (try go_simp)
  refine (lateT _ _ _).mono ?_
  rintro e w' ⟨rfl, rfl⟩
  (try go_wp2_with fail)
  refine hK.out _ _ ?_
  clear hK K
  (try simp only [Act.put, sA, sB, sC])
  refine wpList_q (by rfl) (.bool false) ?he ?_
  case he => (have hq := H1.out; go_simp; (try with_reducible rfl))
  (try simp only [Act.put, sA, sB, sC])
  refine wpList_q (by rfl) (.bool false) ?he ?_
  case he => (first | rfl | (go_simp; (try with_reducible rfl)))
  (try simp only [Act.put, sA, sB, sC])
  refine wpList_nil ?_
  go_upto_region 3 with fail
  refine wp_region_lit ?_
  refine wpList_q (by rfl) (.pointer (some ⟨bL, 6, none⟩)) ?he ?_
  case he => (first | rfl | (go_simp; (try with_reducible rfl)))
  (try simp only [Act.put, sA, sB, sC])
  refine wpList_q (by rfl) (.int .i64 l.ph) ?he ?_
  case he => exact exec_cell 3 _ _ HBL1.out rfl rfl rfl Try.underlying3 rfl
  (try simp only [Act.put, sA, sB, sC])
  refine wpList_q (by rfl) (.bool false) ?he ?_
  case he => (have hq := H2.out; go_simp; (try with_reducible rfl))
  (try simp only [Act.put, sA, sB, sC])
  refine wpList_q (by rfl) (.bool false) ?he ?_
  case he => (first | rfl | (go_simp; (try with_reducible rfl)))
  (try simp only [Act.put, sA, sB, sC])
  refine wpList_no (by rfl) ?_
  (try simp only [Act.put, sA, sB, sC])
  refine wpList_no (by rfl) ?_
  (try simp only [Act.put, sA, sB, sC])
  refine wpList_no (by rfl) ?_
  (try simp only [Act.put, sA, sB, sC])
  refine wpList_no (by rfl) ?_
  (try simp only [Act.put, sA, sB, sC])
  refine wpList_no (by rfl) ?_
  (try simp only [Act.put, sA, sB, sC])
  refine wpList_q (by rfl) (.bool false) ?he ?_
  case he => (first | rfl | (go_simp; (try with_reducible rfl)))
  (try simp only [Act.put, sA, sB, sC])
  refine wpList_q (by rfl) (.bool false) ?he ?_
  case he => (first | rfl | (go_simp; (try with_reducible rfl)))
  (try simp only [Act.put, sA, sB, sC])
  refine wpList_nil ?_
  go_upto_region 6 with fail
  refine wp_region_lit ?_
  refine wpList_q (by rfl) (.pointer (some ⟨bL, 6, none⟩)) ?he ?_
  case he => (first | rfl | (go_simp; (try with_reducible rfl)))
  (try simp only [Act.put, sA, sB, sC])
  refine wpList_q (by rfl) (.int .i64 l.ph) ?he ?_
  case he => exact exec_cell 3 _ _ HBL1.out rfl rfl rfl Try.underlying3 rfl
  (try simp only [Act.put, sA, sB, sC])
  refine wpList_q (by rfl) (.bool true) ?he ?_
  case he => (have hq := H2.out; go_simp; (try with_reducible rfl))
  (try simp only [Act.put, sA, sB, sC])
  refine wpList_q (by rfl) (.bool true) ?he ?_
  case he => (first | rfl | (go_simp; (try with_reducible rfl)))
  (try simp only [Act.put, sA, sB, sC])
  refine wpList_q (by rfl) (.agg (carA x)) ?he ?_
  case he => exact exec_load_row 76 _ _ HBX1.out rfl rfl Try.underlying76 rfl (by kernel_rfl)
  (try simp only [Act.put, sA, sB, sC])
  refine wpList_q (by rfl) (.pointer (some ⟨bL, 0, none⟩)) ?he ?_
  case he => (first | rfl | (go_simp; (try with_reducible rfl)))
  (try simp only [Act.put, sA, sB, sC])
  refine wpList_q (by rfl) (.pointer (some ⟨bL, 3, none⟩)) ?he ?_
  case he => (first | rfl | (go_simp; (try with_reducible rfl)))
  (try simp only [Act.put, sA, sB, sC])
  refine wpList_q (by rfl) (.int .i64 l.to) ?he ?_
  case he => exact exec_cell 3 _ _ HBL1.out rfl rfl rfl Try.underlying3 rfl
  (try simp only [Act.put, sA, sB, sC])
  refine wpList_wp (by rfl) (fun K hK => ?_)
  (try go_simp)
  refine (openT x l.to _).mono ?_
  rintro e w2 ⟨rfl, hb⟩
  (try go_wp2_with fail)
  refine hK.out _ _ ?_
  clear hK K
  (try simp only [Act.put, sA, sB, sC])
  have HS2 := Lib.hid (Since.trans HS1.out hb)
  have HBC2 := Lib.hid (keep_blk hb HBC1.out)
  have HBL2 := Lib.hid (keep_blk hb HBL1.out)
  have HBX2 := Lib.hid (keep_blk hb HBX1.out)
  have HBR2 := Lib.hid (keep_blk hb HBR1.out)
  clear HS1 HBC1 HBL1 HBX1 HBR1
  clear hb
  refine wpList_q (by rfl) (.bool false) ?he ?_
  case he => (have hq := H3.out; go_simp; (try with_reducible rfl))
  (try simp only [Act.put, sA, sB, sC])
  refine wpList_q (by rfl) (.bool false) ?he ?_
  case he => (first | rfl | (go_simp; (try with_reducible rfl)))
  (try simp only [Act.put, sA, sB, sC])
  refine wpList_nil ?_
  go_upto_region 9 with fail
  refine wp_region_lit ?_
  refine wpList_q (by rfl) (.agg (leaA l)) ?he ?_
  case he => exact exec_load_row 56 _ _ HBL2.out rfl rfl Try.underlying56 rfl (by kernel_rfl)
  (try simp only [Act.put, sA, sB, sC])
  refine wpList_wp (by rfl) (fun K hK => ?_)
  refine wp_st_row 56 _ _ rfl (leaA l) rfl rfl (HasRow.of HBR2.out rfl) rfl (by simp [cfgA, leaA, carA, msgC, Value.oneCell']) (by kernel_rfl) ?_
  intro w3 hw
  refine hK.out _ _ ?_
  clear hK K
  (try simp only [Act.put, sA, sB, sC])
  have HS3 := Lib.hid (show Since w w3 by rw [hw]; exact Since.setRow HS2.out (by have := HNE3.out; omega) _)
  have HBC3 := Lib.hid (show Blk w3 w.heap.size 23 (cfgA c) by rw [hw]; exact Blk.row_far HBC2.out (by have := HNE3.out; omega) _)
  have HBL3 := Lib.hid (show Blk w3 bL 56 (leaA l) by rw [hw]; exact Blk.row_far HBL2.out (by have := HNE3.out; omega) _)
  have HBX3 := Lib.hid (show Blk w3 bX 76 (carA x) by rw [hw]; exact Blk.row_far HBX2.out (by have := HNE3.out; omega) _)
  have HBR3 := Lib.hid (show Blk w3 bR 56 (leaA l) by rw [hw]; exact Blk.row HBR2.out _)
  clear hw HS2 HBC2 HBL2 HBX2 HBR2
  refine wpList_q (by rfl) (.slice none 0 0) ?he ?_
  case he => (first | rfl | (go_simp; (try with_reducible rfl)))
  (try simp only [Act.put, sA, sB, sC])
  refine wpList_q (by rfl) (.bool false) ?he ?_
  case he => (first | rfl | (go_simp; (try with_reducible rfl)))
  (try simp only [Act.put, sA, sB, sC])
  refine wpList_nil ?_
  (try go_wp2_with fail)
  exact bodyPost_ret (results_row3 rfl _ _ bR 56 #[.int .i64 l.se, .int .i64 l.fl, .int .i64 l.fm, .int .i64 l.to, .int .i64 l.ma, .int .i64 l.ca, .int .i64 l.ph, .int .i64 l.un, .int .i64 l.re, .int .i64 l.gr] _ (.slice none 0 0) (.bool false) rfl rfl rfl HBR3.out Try.underlying56 rfl (by kernel_rfl)) rfl ⟨.slice none 0 0, rfl, rfl, HS3.out⟩
set_option maxHeartbeats 4000000 in
theorem tickG (c : CfgV) (l : LeaseV) (x : CarV) (now : Int) (h0 : x.br = false) (h1 : decide (cl l.un ≤ cl now) = false) (h2 : (l.ph == 1) = false) (h3 : (l.ph == 3) = false) (w : World) : Calls Try.prog 50 #[.agg #[.int .i64 c.ca, .int .i64 c.fl, .int .i64 c.ft, .int .i64 c.se, .int .i64 c.dr, .int .i64 c.dw, .int .i64 c.ho, .int .i64 c.re, .int .i64 c.yi, .int .i64 c.qu, .int .i64 c.qo, .int .i64 c.lo, .int .i64 c.sl, .int .i64 c.rt, .int .i64 c.cp, .int .i64 c.tr, .int .i64 c.de, .int .i64 c.wi], .agg #[.int .i64 l.se, .int .i64 l.fl, .int .i64 l.fm, .int .i64 l.to, .int .i64 l.ma, .int .i64 l.ca, .int .i64 l.ph, .int .i64 l.un, .int .i64 l.re, .int .i64 l.gr], .agg #[.int .i64 x.ds, .int .i64 x.da, .int .i64 x.un, .int .i64 x.wy, .int .i64 x.ti, .int .i64 x.ju, .int .i64 x.lo, .bool x.bl, .bool x.br, .int .i64 x.mo, .int .i64 x.ta, .bool x.ho, .int .u64 x.sp, .int .u64 x.su, .int .u64 x.sd], .int .i64 now] w (Said w (⟨l.se, l.fl, l.fm, l.to, l.ma, l.ca, l.ph, l.un, l.re, l.gr⟩, none, false)) := by
  have H0 := Lib.hid h0
  clear h0
  have H1 := Lib.hid h1
  clear h1
  have H2 := Lib.hid h2
  clear h2
  have H3 := Lib.hid h3
  clear h3
  go_enter Try.func50, Try.ntmps50
  go_upto_region 1 with fail
  obtain ⟨w1, hw1⟩ : ∃ w1, w1 = ((((w.alloc (.cells #[.int .i64 c.ca, .int .i64 c.fl, .int .i64 c.ft, .int .i64 c.se, .int .i64 c.dr, .int .i64 c.dw, .int .i64 c.ho, .int .i64 c.re, .int .i64 c.yi, .int .i64 c.qu, .int .i64 c.qo, .int .i64 c.lo, .int .i64 c.sl, .int .i64 c.rt, .int .i64 c.cp, .int .i64 c.tr, .int .i64 c.de, .int .i64 c.wi] 23)).alloc (.cells #[.int .i64 l.se, .int .i64 l.fl, .int .i64 l.fm, .int .i64 l.to, .int .i64 l.ma, .int .i64 l.ca, .int .i64 l.ph, .int .i64 l.un, .int .i64 l.re, .int .i64 l.gr] 56)).alloc (.cells #[.int .i64 x.ds, .int .i64 x.da, .int .i64 x.un, .int .i64 x.wy, .int .i64 x.ti, .int .i64 x.ju, .int .i64 x.lo, .bool x.bl, .bool x.br, .int .i64 x.mo, .int .i64 x.ta, .bool x.ho, .int .u64 x.sp, .int .u64 x.su, .int .u64 x.sd] 76)).alloc (.cells #[.int .i64 0, .int .i64 0, .int .i64 0, .int .i64 0, .int .i64 0, .int .i64 0, .int .i64 0, .int .i64 0, .int .i64 0, .int .i64 0] 56)) := ⟨_, rfl⟩
  rw [← hw1]
  have HBC1 := Lib.hid (show Blk w1 (w.heap.size) 23 (cfgA c) by rw [hw1]; exact Blk.alloc (Blk.alloc (Blk.alloc (Blk.at_ (by (try simp only [size_alloc])) _ _) _) _) _)
  have HBL1 := Lib.hid (show Blk w1 (w.heap.size + 1) 56 (leaA l) by rw [hw1]; exact Blk.alloc (Blk.alloc (Blk.at_ (by (try simp only [size_alloc])) _ _) _) _)
  have HBX1 := Lib.hid (show Blk w1 (w.heap.size + 1 + 1) 76 (carA x) by rw [hw1]; exact Blk.alloc (Blk.at_ (by (try simp only [size_alloc])) _ _) _)
  have HBR1 := Lib.hid (show Blk w1 (w.heap.size + 1 + 1 + 1) 56 #[.int .i64 0, .int .i64 0, .int .i64 0, .int .i64 0, .int .i64 0, .int .i64 0, .int .i64 0, .int .i64 0, .int .i64 0, .int .i64 0] by rw [hw1]; exact Blk.at_ (by (try simp only [size_alloc])) _ _)
  have HS1 := Lib.hid (show Since w w1 by rw [hw1]; exact Since.alloc (Since.alloc (Since.alloc (Since.alloc (Since.refl w) _) _) _) _)
  have hNE : w.heap.size ≤ w.heap.size ∧ w.heap.size < w.heap.size + 1 ∧ w.heap.size + 1 < w.heap.size + 1 + 1 ∧ w.heap.size + 1 + 1 < w.heap.size + 1 + 1 + 1 := by omega
  have HNE := Lib.hid hNE
  clear hNE hw1
  generalize w.heap.size + 1 + 1 + 1 = bR at *
  generalize w.heap.size + 1 + 1 = bX at *
  generalize w.heap.size + 1 = bL at *
  have HNE3 := Lib.hid (show w.heap.size ≤ w.heap.size ∧ w.heap.size < bL ∧ bL < bX ∧ bX < bR from HNE.out)
  clear HNE
  refine wp_region_lit ?_
  refine wpList_q (by rfl) (.pointer (some ⟨bX, 8, none⟩)) ?he ?_
  case he => (first | rfl | (go_simp; (try with_reducible rfl)))
  (try simp only [Act.put, sA, sB, sC])
  refine wpList_q (by rfl) (.bool x.br) ?he ?_
  case he => exact exec_cell 4 _ _ HBX1.out rfl rfl rfl Try.underlying4 rfl
  (try simp only [Act.put, sA, sB, sC])
  refine wpList_q (by rfl) (.bool false) ?he ?_
  case he => (have hq := H0.out; go_simp; (try with_reducible rfl))
  (try simp only [Act.put, sA, sB, sC])
  refine wpList_q (by rfl) (.int .i64 now) ?he ?_
  case he => (first | rfl | (go_simp; (try with_reducible rfl)))
  (try simp only [Act.put, sA, sB, sC])
  refine wpList_q (by rfl) (.pointer (some ⟨bL, 7, none⟩)) ?he ?_
  case he => (first | rfl | (go_simp; (try with_reducible rfl)))
  (try simp only [Act.put, sA, sB, sC])
  refine wpList_q (by rfl) (.int .i64 l.un) ?he ?_
  case he => exact exec_cell 3 _ _ HBL1.out rfl rfl rfl Try.underlying3 rfl
  (try simp only [Act.put, sA, sB, sC])
  refine wpList_wp (by rfl) (fun K hK => ?_)
  (try go_simp)
  refine (lateT _ _ _).mono ?_
  rintro e w' ⟨rfl, rfl⟩
  (try go_wp2_with fail)
  refine hK.out _ _ ?_
  clear hK K
  (try simp only [Act.put, sA, sB, sC])
  refine wpList_q (by rfl) (.bool false) ?he ?_
  case he => (have hq := H1.out; go_simp; (try with_reducible rfl))
  (try simp only [Act.put, sA, sB, sC])
  refine wpList_q (by rfl) (.bool false) ?he ?_
  case he => (first | rfl | (go_simp; (try with_reducible rfl)))
  (try simp only [Act.put, sA, sB, sC])
  refine wpList_nil ?_
  go_upto_region 3 with fail
  refine wp_region_lit ?_
  refine wpList_q (by rfl) (.pointer (some ⟨bL, 6, none⟩)) ?he ?_
  case he => (first | rfl | (go_simp; (try with_reducible rfl)))
  (try simp only [Act.put, sA, sB, sC])
  refine wpList_q (by rfl) (.int .i64 l.ph) ?he ?_
  case he => exact exec_cell 3 _ _ HBL1.out rfl rfl rfl Try.underlying3 rfl
  (try simp only [Act.put, sA, sB, sC])
  refine wpList_q (by rfl) (.bool false) ?he ?_
  case he => (have hq := H2.out; go_simp; (try with_reducible rfl))
  (try simp only [Act.put, sA, sB, sC])
  refine wpList_q (by rfl) (.bool false) ?he ?_
  case he => (first | rfl | (go_simp; (try with_reducible rfl)))
  (try simp only [Act.put, sA, sB, sC])
  refine wpList_no (by rfl) ?_
  (try simp only [Act.put, sA, sB, sC])
  refine wpList_no (by rfl) ?_
  (try simp only [Act.put, sA, sB, sC])
  refine wpList_no (by rfl) ?_
  (try simp only [Act.put, sA, sB, sC])
  refine wpList_no (by rfl) ?_
  (try simp only [Act.put, sA, sB, sC])
  refine wpList_no (by rfl) ?_
  (try simp only [Act.put, sA, sB, sC])
  refine wpList_q (by rfl) (.bool false) ?he ?_
  case he => (first | rfl | (go_simp; (try with_reducible rfl)))
  (try simp only [Act.put, sA, sB, sC])
  refine wpList_q (by rfl) (.bool false) ?he ?_
  case he => (first | rfl | (go_simp; (try with_reducible rfl)))
  (try simp only [Act.put, sA, sB, sC])
  refine wpList_nil ?_
  go_upto_region 6 with fail
  refine wp_region_lit ?_
  refine wpList_q (by rfl) (.pointer (some ⟨bL, 6, none⟩)) ?he ?_
  case he => (first | rfl | (go_simp; (try with_reducible rfl)))
  (try simp only [Act.put, sA, sB, sC])
  refine wpList_q (by rfl) (.int .i64 l.ph) ?he ?_
  case he => exact exec_cell 3 _ _ HBL1.out rfl rfl rfl Try.underlying3 rfl
  (try simp only [Act.put, sA, sB, sC])
  refine wpList_q (by rfl) (.bool false) ?he ?_
  case he => (have hq := H3.out; go_simp; (try with_reducible rfl))
  (try simp only [Act.put, sA, sB, sC])
  refine wpList_q (by rfl) (.bool false) ?he ?_
  case he => (first | rfl | (go_simp; (try with_reducible rfl)))
  (try simp only [Act.put, sA, sB, sC])
  refine wpList_no (by rfl) ?_
  (try simp only [Act.put, sA, sB, sC])
  refine wpList_no (by rfl) ?_
  (try simp only [Act.put, sA, sB, sC])
  refine wpList_no (by rfl) ?_
  (try simp only [Act.put, sA, sB, sC])
  refine wpList_no (by rfl) ?_
  (try simp only [Act.put, sA, sB, sC])
  refine wpList_no (by rfl) ?_
  (try simp only [Act.put, sA, sB, sC])
  refine wpList_q (by rfl) (.bool false) ?he ?_
  case he => (first | rfl | (go_simp; (try with_reducible rfl)))
  (try simp only [Act.put, sA, sB, sC])
  refine wpList_q (by rfl) (.bool false) ?he ?_
  case he => (first | rfl | (go_simp; (try with_reducible rfl)))
  (try simp only [Act.put, sA, sB, sC])
  refine wpList_nil ?_
  go_upto_region 9 with fail
  refine wp_region_lit ?_
  refine wpList_q (by rfl) (.agg (leaA l)) ?he ?_
  case he => exact exec_load_row 56 _ _ HBL1.out rfl rfl Try.underlying56 rfl (by kernel_rfl)
  (try simp only [Act.put, sA, sB, sC])
  refine wpList_wp (by rfl) (fun K hK => ?_)
  refine wp_st_row 56 _ _ rfl (leaA l) rfl rfl (HasRow.of HBR1.out rfl) rfl (by simp [cfgA, leaA, carA, msgC, Value.oneCell']) (by kernel_rfl) ?_
  intro w2 hw
  refine hK.out _ _ ?_
  clear hK K
  (try simp only [Act.put, sA, sB, sC])
  have HS2 := Lib.hid (show Since w w2 by rw [hw]; exact Since.setRow HS1.out (by have := HNE3.out; omega) _)
  have HBC2 := Lib.hid (show Blk w2 w.heap.size 23 (cfgA c) by rw [hw]; exact Blk.row_far HBC1.out (by have := HNE3.out; omega) _)
  have HBL2 := Lib.hid (show Blk w2 bL 56 (leaA l) by rw [hw]; exact Blk.row_far HBL1.out (by have := HNE3.out; omega) _)
  have HBX2 := Lib.hid (show Blk w2 bX 76 (carA x) by rw [hw]; exact Blk.row_far HBX1.out (by have := HNE3.out; omega) _)
  have HBR2 := Lib.hid (show Blk w2 bR 56 (leaA l) by rw [hw]; exact Blk.row HBR1.out _)
  clear hw HS1 HBC1 HBL1 HBX1 HBR1
  refine wpList_q (by rfl) (.slice none 0 0) ?he ?_
  case he => (first | rfl | (go_simp; (try with_reducible rfl)))
  (try simp only [Act.put, sA, sB, sC])
  refine wpList_q (by rfl) (.bool false) ?he ?_
  case he => (first | rfl | (go_simp; (try with_reducible rfl)))
  (try simp only [Act.put, sA, sB, sC])
  refine wpList_nil ?_
  (try go_wp2_with fail)
  exact bodyPost_ret (results_row3 rfl _ _ bR 56 #[.int .i64 l.se, .int .i64 l.fl, .int .i64 l.fm, .int .i64 l.to, .int .i64 l.ma, .int .i64 l.ca, .int .i64 l.ph, .int .i64 l.un, .int .i64 l.re, .int .i64 l.gr] _ (.slice none 0 0) (.bool false) rfl rfl rfl HBR2.out Try.underlying56 rfl (by kernel_rfl)) rfl ⟨.slice none 0 0, rfl, rfl, HS2.out⟩
end Go.Proofs.Ytggafipgfgbbiaa.Ri
