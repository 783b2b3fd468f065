/-
  The reference's Hear, walked, way by way.
  No condition.
-/
import Derived.Test.YtggafipgfgbbiaaRidB
namespace Go.Proofs.Ytggafipgfgbbiaa.Ri
set_option linter.unusedVariables false
set_option linter.unusedSimpArgs false
open Go.RowKit Go.Proofs.Ytggafipgfgbbiaa.Ba Go.Proofs.Ytggafipgfgbbiaa.Mo Go.Proofs.Ytggafipgfgbbiaa.Ty Go.Proofs.Ytggafipgfgbbiaa.Mem Go.Proofs.Ytggafipgfgbbiaa.Tm Go.Proofs.Ytggafipgfgbbiaa.Tw
open Go.Proofs.Ytggafipgfgbbiaa.Ce (ms ms_lo ms_hi massT nearT nr)
open Go.Proofs.Ytggafipgfgbbiaa.Fl (massR)
set_option maxRecDepth 100000
set_option maxHeartbeats 4000000 in
theorem hearRJ0 (c : CfgV) (l : LeaseV) (x : CarV) (now : Int) (m : MsgV) (h0 : (m.ki == 9) = true) (h1 : (l.ph == 2) = true) (h2 : (ms x.lo - ms l.ma) < 0) (h3 : ms c.sl < (-(ms x.lo - ms l.ma))) (w : World) : Calls Try.prog 58 #[.agg #[.int .i64 c.ca, .int .i64 c.fl, .int .i64 c.ft, .int .i64 c.se, .int .i64 c.dr, .int .i64 c.dw, .int .i64 c.ho, .int .i64 c.re, .int .i64 c.yi, .int .i64 c.qu, .int .i64 c.qo, .int .i64 c.lo, .int .i64 c.sl, .int .i64 c.rt, .int .i64 c.cp, .int .i64 c.tr, .int .i64 c.de, .int .i64 c.wi], .agg #[.int .i64 l.se, .int .i64 l.fl, .int .i64 l.fm, .int .i64 l.to, .int .i64 l.ma, .int .i64 l.ca, .int .i64 l.ph, .int .i64 l.un, .int .i64 l.re, .int .i64 l.gr], .agg #[.int .i64 x.ds, .int .i64 x.da, .int .i64 x.un, .int .i64 x.wy, .int .i64 x.ti, .int .i64 x.ju, .int .i64 x.lo, .bool x.bl, .bool x.br, .int .i64 x.mo, .int .i64 x.ta, .bool x.ho, .int .u64 x.sp, .int .u64 x.su, .int .u64 x.sd], .int .i64 now, .agg (msgC m)] w (Said w (⟨l.se, l.fl, l.fm, l.to, l.ma, l.ca, l.ph, l.un, l.re, l.gr⟩, some ⟨11, ms x.lo, 0, 0⟩, false)) := by
  have G1 := Lib.hid (show 0 ≤ ms x.lo by have := ms_lo x.lo; exact this)
  have G2 := Lib.hid (show ms x.lo ≤ 10000 by have := ms_hi x.lo; exact this)
  have G3 := Lib.hid (show 0 ≤ ms l.ma by have := ms_lo l.ma; exact this)
  have G4 := Lib.hid (show ms l.ma ≤ 10000 by have := ms_hi l.ma; exact this)
  have H0 := Lib.hid h0
  clear h0
  have H1 := Lib.hid h1
  clear h1
  have H2 := Lib.hid h2
  clear h2
  have H3 := Lib.hid h3
  clear h3
  go_enter Try.func58, Try.ntmps58
  go_upto_region 1 with fail
  obtain ⟨w1, hw1⟩ : ∃ w1, w1 = (((((w.alloc (.cells #[.int .i64 c.ca, .int .i64 c.fl, .int .i64 c.ft, .int .i64 c.se, .int .i64 c.dr, .int .i64 c.dw, .int .i64 c.ho, .int .i64 c.re, .int .i64 c.yi, .int .i64 c.qu, .int .i64 c.qo, .int .i64 c.lo, .int .i64 c.sl, .int .i64 c.rt, .int .i64 c.cp, .int .i64 c.tr, .int .i64 c.de, .int .i64 c.wi] 23)).alloc (.cells #[.int .i64 l.se, .int .i64 l.fl, .int .i64 l.fm, .int .i64 l.to, .int .i64 l.ma, .int .i64 l.ca, .int .i64 l.ph, .int .i64 l.un, .int .i64 l.re, .int .i64 l.gr] 56)).alloc (.cells #[.int .i64 x.ds, .int .i64 x.da, .int .i64 x.un, .int .i64 x.wy, .int .i64 x.ti, .int .i64 x.ju, .int .i64 x.lo, .bool x.bl, .bool x.br, .int .i64 x.mo, .int .i64 x.ta, .bool x.ho, .int .u64 x.sp, .int .u64 x.su, .int .u64 x.sd] 76)).alloc (.cells (msgC m) 85)).alloc (.cells #[.int .i64 0, .int .i64 0, .int .i64 0, .int .i64 0, .int .i64 0, .int .i64 0, .int .i64 0, .int .i64 0, .int .i64 0, .int .i64 0] 56)) := ⟨_, rfl⟩
  rw [← hw1]
  have HBC1 := Lib.hid (show Blk w1 (w.heap.size) 23 (cfgA c) by rw [hw1]; exact Blk.alloc (Blk.alloc (Blk.alloc (Blk.alloc (Blk.at_ (by (try simp only [size_alloc])) _ _) _) _) _) _)
  have HBL1 := Lib.hid (show Blk w1 (w.heap.size + 1) 56 (leaA l) by rw [hw1]; exact Blk.alloc (Blk.alloc (Blk.alloc (Blk.at_ (by (try simp only [size_alloc])) _ _) _) _) _)
  have HBX1 := Lib.hid (show Blk w1 (w.heap.size + 1 + 1) 76 (carA x) by rw [hw1]; exact Blk.alloc (Blk.alloc (Blk.at_ (by (try simp only [size_alloc])) _ _) _) _)
  have HBM1 := Lib.hid (show Blk w1 (w.heap.size + 1 + 1 + 1) 85 (msgC m) by rw [hw1]; exact Blk.alloc (Blk.at_ (by (try simp only [size_alloc])) _ _) _)
  have HBR1 := Lib.hid (show Blk w1 (w.heap.size + 1 + 1 + 1 + 1) 56 #[.int .i64 0, .int .i64 0, .int .i64 0, .int .i64 0, .int .i64 0, .int .i64 0, .int .i64 0, .int .i64 0, .int .i64 0, .int .i64 0] by rw [hw1]; exact Blk.at_ (by (try simp only [size_alloc])) _ _)
  have HS1 := Lib.hid (show Since w w1 by rw [hw1]; exact Since.alloc (Since.alloc (Since.alloc (Since.alloc (Since.alloc (Since.refl w) _) _) _) _) _)
  have hNE : w.heap.size ≤ w.heap.size ∧ w.heap.size < w.heap.size + 1 ∧ w.heap.size + 1 < w.heap.size + 1 + 1 ∧ w.heap.size + 1 + 1 < w.heap.size + 1 + 1 + 1 ∧ w.heap.size + 1 + 1 + 1 < w.heap.size + 1 + 1 + 1 + 1 := by omega
  have HNE := Lib.hid hNE
  clear hNE hw1
  generalize w.heap.size + 1 + 1 + 1 + 1 = bR at *
  generalize w.heap.size + 1 + 1 + 1 = bM at *
  generalize w.heap.size + 1 + 1 = bX at *
  generalize w.heap.size + 1 = bL at *
  have HNE3 := Lib.hid (show w.heap.size ≤ w.heap.size ∧ w.heap.size < bL ∧ bL < bX ∧ bX < bM ∧ bM < bR from HNE.out)
  clear HNE
  refine wp_region_lit ?_
  refine wpList_q (by rfl) (.pointer (some ⟨bM, 0, none⟩)) ?he ?_
  case he => (first | rfl | (go_simp; (try with_reducible rfl)))
  (try simp only [Act.put, sA, sB, sC])
  refine wpList_q (by rfl) (.int .i64 m.ki) ?he ?_
  case he => exact exec_cell 3 _ _ HBM1.out rfl rfl rfl Try.underlying3 rfl
  (try simp only [Act.put, sA, sB, sC])
  refine wpList_q (by rfl) (.bool true) ?he ?_
  case he => (have hq := H0.out; go_simp; (try with_reducible rfl))
  (try simp only [Act.put, sA, sB, sC])
  refine wpList_q (by rfl) (.bool true) ?he ?_
  case he => (first | rfl | (go_simp; (try with_reducible rfl)))
  (try simp only [Act.put, sA, sB, sC])
  refine wpList_q (by rfl) (.pointer (some ⟨bL, 6, none⟩)) ?he ?_
  case he => (first | rfl | (go_simp; (try with_reducible rfl)))
  (try simp only [Act.put, sA, sB, sC])
  refine wpList_q (by rfl) (.int .i64 l.ph) ?he ?_
  case he => exact exec_cell 3 _ _ HBL1.out rfl rfl rfl Try.underlying3 rfl
  (try simp only [Act.put, sA, sB, sC])
  refine wpList_q (by rfl) (.bool true) ?he ?_
  case he => (have hq := H1.out; go_simp; (try with_reducible rfl))
  (try simp only [Act.put, sA, sB, sC])
  refine wpList_q (by rfl) (.bool true) ?he ?_
  case he => (first | rfl | (go_simp; (try with_reducible rfl)))
  (try simp only [Act.put, sA, sB, sC])
  refine wpList_q (by rfl) (.bool true) ?he ?_
  case he => (first | rfl | (go_simp; (try with_reducible rfl)))
  (try simp only [Act.put, sA, sB, sC])
  refine wpList_nil ?_
  go_upto_region 2 with fail
  have hrK : ∀ W W' : World, Since W W' → (Since w W ∧ Blk W w.heap.size 23 (cfgA c) ∧ Blk W bL 56 (leaA l) ∧ Blk W bX 76 (carA x) ∧ Blk W bM 85 (msgC m) ∧ Blk W bR 56 #[.int .i64 0, .int .i64 0, .int .i64 0, .int .i64 0, .int .i64 0, .int .i64 0, .int .i64 0, .int .i64 0, .int .i64 0, .int .i64 0]) → (Since w W' ∧ Blk W' w.heap.size 23 (cfgA c) ∧ Blk W' bL 56 (leaA l) ∧ Blk W' bX 76 (carA x) ∧ Blk W' bM 85 (msgC m) ∧ Blk W' bR 56 #[.int .i64 0, .int .i64 0, .int .i64 0, .int .i64 0, .int .i64 0, .int .i64 0, .int .i64 0, .int .i64 0, .int .i64 0, .int .i64 0]) := fun W W' k ⟨h, h0, h1, h2, h3, h4⟩ => ⟨h.trans k, keep_blk k h0, keep_blk k h1, keep_blk k h2, keep_blk k h3, keep_blk k h4⟩
  have hrS : (fun W : World => Since w W ∧ Blk W w.heap.size 23 (cfgA c) ∧ Blk W bL 56 (leaA l) ∧ Blk W bX 76 (carA x) ∧ Blk W bM 85 (msgC m) ∧ Blk W bR 56 #[.int .i64 0, .int .i64 0, .int .i64 0, .int .i64 0, .int .i64 0, .int .i64 0, .int .i64 0, .int .i64 0, .int .i64 0, .int .i64 0]) w1 := ⟨HS1.out, HBC1.out, HBL1.out, HBX1.out, HBM1.out, HBR1.out⟩
  have HRK := Lib.hid hrK
  have HRD := Lib.hid (show (fun W : World => Since w W ∧ Blk W w.heap.size 23 (cfgA c) ∧ Blk W bL 56 (leaA l) ∧ Blk W bX 76 (carA x) ∧ Blk W bM 85 (msgC m) ∧ Blk W bR 56 #[.int .i64 0, .int .i64 0, .int .i64 0, .int .i64 0, .int .i64 0, .int .i64 0, .int .i64 0, .int .i64 0, .int .i64 0, .int .i64 0]) (World.drew w1) from ⟨Since.drew hrS.1, hrS.2⟩)
  clear hrK hrS
  refine wp_region_held_drew (S := fun W : World => Since w W ∧ Blk W w.heap.size 23 (cfgA c) ∧ Blk W bL 56 (leaA l) ∧ Blk W bX 76 (carA x) ∧ Blk W bM 85 (msgC m) ∧ Blk W bR 56 #[.int .i64 0, .int .i64 0, .int .i64 0, .int .i64 0, .int .i64 0, .int .i64 0, .int .i64 0, .int .i64 0, .int .i64 0, .int .i64 0]) (by kernel_rfl) HRD.out (fun hHeld => ?_)
  refine wpAnyH_take (i := 0) (oi := ?o2__0) (v := .pointer (some ⟨bX, 6, none⟩)) ?h2__0 (by kernel_rfl) (by kernel_rfl) (by kernel_rfl) ?q2__0 ?y2__0 (by assumption) ?_
  case h2__0 => (first | (simp only [gA, gB, gC]; done) | (simp only [gA, gB, gC]; exact rfl))
  case q2__0 => exact fun _ _ _ h => h
  case y2__0 => (refine Or.inl ⟨rfl, ?_⟩; intro w hSw; (first | rfl | (go_simp; (try with_reducible rfl))))
  (try simp only [Act.put, sA, sB, sC])
  refine wpAnyH_take (i := 1) (oi := ?o2__1) (v := .int .i64 x.lo) ?h2__1 (by kernel_rfl) (by kernel_rfl) (by kernel_rfl) ?q2__1 ?y2__1 (by assumption) ?_
  case h2__1 => (first | (simp only [gA, gB, gC]; done) | (simp only [gA, gB, gC]; exact rfl))
  case q2__1 => exact fun _ _ _ h => h
  case y2__1 => (refine Or.inl ⟨rfl, ?_⟩; intro w hSw; exact exec_cell 3 _ _ hSw.2.2.2.1 rfl rfl rfl Try.underlying3 rfl)
  (try simp only [Act.put, sA, sB, sC])
  refine wpAnyH_take (i := 3) (oi := ?o2__3) (v := .pointer (some ⟨bL, 0, none⟩)) ?h2__3 (by kernel_rfl) (by kernel_rfl) (by kernel_rfl) ?q2__3 ?y2__3 (by assumption) ?_
  case h2__3 => (first | (simp only [gA, gB, gC]; done) | (simp only [gA, gB, gC]; exact rfl))
  case q2__3 => exact fun _ _ _ h => h
  case y2__3 => (refine Or.inl ⟨rfl, ?_⟩; intro w hSw; (first | rfl | (go_simp; (try with_reducible rfl))))
  (try simp only [Act.put, sA, sB, sC])
  refine wpAnyH_take (i := 4) (oi := ?o2__4) (v := .pointer (some ⟨bL, 4, none⟩)) ?h2__4 (by kernel_rfl) (by kernel_rfl) (by kernel_rfl) ?q2__4 ?y2__4 (by assumption) ?_
  case h2__4 => (first | (simp only [gA, gB, gC]; done) | (simp only [gA, gB, gC]; exact rfl))
  case q2__4 => exact fun _ _ _ h => h
  case y2__4 => (refine Or.inl ⟨rfl, ?_⟩; intro w hSw; (first | rfl | (go_simp; (try with_reducible rfl))))
  (try simp only [Act.put, sA, sB, sC])
  refine wpAnyH_take (i := 5) (oi := ?o2__5) (v := .int .i64 l.ma) ?h2__5 (by kernel_rfl) (by kernel_rfl) (by kernel_rfl) ?q2__5 ?y2__5 (by assumption) ?_
  case h2__5 => (first | (simp only [gA, gB, gC]; done) | (simp only [gA, gB, gC]; exact rfl))
  case q2__5 => exact fun _ _ _ h => h
  case y2__5 => (refine Or.inl ⟨rfl, ?_⟩; intro w hSw; exact exec_cell 3 _ _ hSw.2.2.1 rfl rfl rfl Try.underlying3 rfl)
  (try simp only [Act.put, sA, sB, sC])
  refine wpAnyH_ready (rs := [2]) (by kernel_rfl) (by simp) ?_
  refine AllReadyH.cons (o := ?o2__2) ?h2__2 (fun K hK => ?_) AllReadyH.nil
  case h2__2 => (first | (simp only [gA, gB, gC]; done) | (simp only [gA, gB, gC]; exact rfl))
  (try go_simp)
  refine (massR _ _).mono ?_
  rintro e w' ⟨rfl, rfl⟩
  (try go_wp2_with fail)
  refine hK.out _ _ hHeld (fun hHeld2 => ?_)
  clear hK K hHeld2
  (try simp only [Act.put, sA, sB, sC])
  refine wpAnyH_ready (rs := [6]) (by kernel_rfl) (by simp) ?_
  refine AllReadyH.cons (o := ?o2__6) ?h2__6 (fun K hK => ?_) AllReadyH.nil
  case h2__6 => (first | (simp only [gA, gB, gC]; done) | (simp only [gA, gB, gC]; exact rfl))
  (try go_simp)
  refine (massR _ _).mono ?_
  rintro e w' ⟨rfl, rfl⟩
  (try go_wp2_with fail)
  refine hK.out _ _ hHeld (fun hHeld2 => ?_)
  clear hK K hHeld2
  (try simp only [Act.put, sA, sB, sC])
  refine wpAnyH_take (i := 7) (oi := ?o2__7) (v := .int .i64 (ms x.lo - ms l.ma)) ?h2__7 (by kernel_rfl) (by kernel_rfl) (by kernel_rfl) ?q2__7 ?y2__7 (by assumption) ?_
  case h2__7 => (first | (simp only [gA, gB, gC]; done) | (simp only [gA, gB, gC]; exact rfl))
  case q2__7 => exact fun _ _ _ h => h
  case y2__7 => (refine Or.inl ⟨rfl, ?_⟩; intro w hSw; (have q0 := G1.out; have q1 := G2.out; have q2 := G3.out; have q3 := G4.out; have q := wr (ms x.lo - ms l.ma) (by omega) (by omega); clear q0 q1 q2 q3; go_simp; (try rw [q]); (try rfl)))
  (try simp only [Act.put, sA, sB, sC])
  refine wpAnyH_take (i := 8) (oi := ?o2__8) (v := .int .i64 (ms x.lo - ms l.ma)) ?h2__8 (by kernel_rfl) (by kernel_rfl) (by kernel_rfl) ?q2__8 ?y2__8 (by assumption) ?_
  case h2__8 => (first | (simp only [gA, gB, gC]; done) | (simp only [gA, gB, gC]; exact rfl))
  case q2__8 => exact fun _ _ _ h => h
  case y2__8 => (refine Or.inl ⟨rfl, ?_⟩; intro w hSw; (first | rfl | (go_simp; (try with_reducible rfl))))
  (try simp only [Act.put, sA, sB, sC])
  refine wpAnyH_done (by kernel_rfl) ?_ _
  have HSd2 := Lib.hid hHeld.1
  have HBCd2 := Lib.hid (hHeld.2.1)
  have HBLd2 := Lib.hid (hHeld.2.2.1)
  have HBXd2 := Lib.hid (hHeld.2.2.2.1)
  have HBMd2 := Lib.hid (hHeld.2.2.2.2.1)
  have HBRd2 := Lib.hid (hHeld.2.2.2.2.2)
  clear hHeld HRK HRD HS1 HBC1 HBL1 HBX1 HBM1 HBR1
  go_upto_region 3 with fail
  refine wp_region_lit ?_
  refine wpList_q (by rfl) (.int .i64 (ms x.lo - ms l.ma)) ?he ?_
  case he => (first | rfl | (go_simp; (try with_reducible rfl)))
  (try simp only [Act.put, sA, sB, sC])
  refine wpList_q (by rfl) (.bool true) ?he ?_
  case he => (have q0 := H2.out; go_simp; (try with_reducible rfl))
  (try simp only [Act.put, sA, sB, sC])
  refine wpList_nil ?_
  go_upto_region 4 with fail
  refine wp_region_lit ?_
  refine wpList_q (by rfl) (.int .i64 (ms x.lo - ms l.ma)) ?he ?_
  case he => (first | rfl | (go_simp; (try with_reducible rfl)))
  (try simp only [Act.put, sA, sB, sC])
  refine wpList_q (by rfl) (.int .i64 (-(ms x.lo - ms l.ma))) ?he ?_
  case he => (have q0 := G1.out; have q1 := G2.out; have q2 := G3.out; have q3 := G4.out; have q := wr (-(ms x.lo - ms l.ma)) (by omega) (by omega); clear q0 q1 q2 q3; go_simp; (try rw [q]); (try rfl))
  (try simp only [Act.put, sA, sB, sC])
  refine wpList_q (by rfl) (.int .i64 (-(ms x.lo - ms l.ma))) ?he ?_
  case he => (first | rfl | (go_simp; (try with_reducible rfl)))
  (try simp only [Act.put, sA, sB, sC])
  refine wpList_nil ?_
  go_upto_region 5 with fail
  refine wp_region_lit ?_
  refine wpList_q (by rfl) (.int .i64 (-(ms x.lo - ms l.ma))) ?he ?_
  case he => (first | rfl | (go_simp; (try with_reducible rfl)))
  (try simp only [Act.put, sA, sB, sC])
  refine wpList_q (by rfl) (.pointer (some ⟨w.heap.size, 12, none⟩)) ?he ?_
  case he => (first | rfl | (go_simp; (try with_reducible rfl)))
  (try simp only [Act.put, sA, sB, sC])
  refine wpList_q (by rfl) (.int .i64 c.sl) ?he ?_
  case he => exact exec_cell 3 _ _ HBCd2.out rfl rfl rfl Try.underlying3 rfl
  (try simp only [Act.put, sA, sB, sC])
  refine wpList_wp (by rfl) (fun K hK => ?_)
  (try go_simp)
  refine (massR _ _).mono ?_
  rintro e w' ⟨rfl, rfl⟩
  (try go_wp2_with fail)
  refine hK.out _ _ ?_
  clear hK K
  (try simp only [Act.put, sA, sB, sC])
  refine wpList_q (by rfl) (.bool true) ?he ?_
  case he => (have q0 := H3.out; go_simp; (try with_reducible rfl))
  (try simp only [Act.put, sA, sB, sC])
  refine wpList_nil ?_
  go_upto_region 6 with fail
  have hrK : ∀ W W' : World, Since W W' → (Since w W ∧ Blk W w.heap.size 23 (cfgA c) ∧ Blk W bL 56 (leaA l) ∧ Blk W bX 76 (carA x) ∧ Blk W bM 85 (msgC m) ∧ HasRow W bR 56 10) → (Since w W' ∧ Blk W' w.heap.size 23 (cfgA c) ∧ Blk W' bL 56 (leaA l) ∧ Blk W' bX 76 (carA x) ∧ Blk W' bM 85 (msgC m) ∧ HasRow W' bR 56 10) := fun W W' k ⟨h, h0, h1, h2, h3, h4⟩ => ⟨h.trans k, keep_blk k h0, keep_blk k h1, keep_blk k h2, keep_blk k h3, HasRow.keep k h4⟩
  have hrS : (fun W : World => Since w W ∧ Blk W w.heap.size 23 (cfgA c) ∧ Blk W bL 56 (leaA l) ∧ Blk W bX 76 (carA x) ∧ Blk W bM 85 (msgC m) ∧ HasRow W bR 56 10) w1.drew := ⟨HSd2.out, HBCd2.out, HBLd2.out, HBXd2.out, HBMd2.out, HasRow.of HBRd2.out rfl⟩
  have HRK := Lib.hid hrK
  have HRD := Lib.hid (show (fun W : World => Since w W ∧ Blk W w.heap.size 23 (cfgA c) ∧ Blk W bL 56 (leaA l) ∧ Blk W bX 76 (carA x) ∧ Blk W bM 85 (msgC m) ∧ HasRow W bR 56 10) (World.drew w1.drew) from ⟨Since.drew hrS.1, hrS.2⟩)
  clear hrK hrS
  refine wp_region_held_drew (S := fun W : World => Since w W ∧ Blk W w.heap.size 23 (cfgA c) ∧ Blk W bL 56 (leaA l) ∧ Blk W bX 76 (carA x) ∧ Blk W bM 85 (msgC m) ∧ HasRow W bR 56 10) (by kernel_rfl) HRD.out (fun hHeld => ?_)
  refine wpAnyH_take (i := 0) (oi := ?o6__0) (v := .agg (leaA l)) ?h6__0 (by kernel_rfl) (by kernel_rfl) (by kernel_rfl) ?q6__0 ?y6__0 (by assumption) ?_
  case h6__0 => (first | (simp only [gA, gB, gC]; done) | (simp only [gA, gB, gC]; exact rfl))
  case q6__0 => exact fun _ _ _ h => h
  case y6__0 => (refine Or.inl ⟨rfl, ?_⟩; intro w hSw; exact exec_load_row 56 _ _ hSw.2.2.1 rfl rfl Try.underlying56 rfl (by kernel_rfl))
  (try simp only [Act.put, sA, sB, sC])
  refine wpAnyH_take (i := 1) (oi := ?o6__1) (v := .pointer (some ⟨bX, 6, none⟩)) ?h6__1 (by kernel_rfl) (by kernel_rfl) (by kernel_rfl) ?q6__1 ?y6__1 (by assumption) ?_
  case h6__1 => (first | (simp only [gA, gB, gC]; done) | (simp only [gA, gB, gC]; exact rfl))
  case q6__1 => exact fun _ _ _ h => h
  case y6__1 => (refine Or.inl ⟨rfl, ?_⟩; intro w hSw; (first | rfl | (go_simp; (try with_reducible rfl))))
  (try simp only [Act.put, sA, sB, sC])
  refine wpAnyH_take (i := 2) (oi := ?o6__2) (v := .int .i64 x.lo) ?h6__2 (by kernel_rfl) (by kernel_rfl) (by kernel_rfl) ?q6__2 ?y6__2 (by assumption) ?_
  case h6__2 => (first | (simp only [gA, gB, gC]; done) | (simp only [gA, gB, gC]; exact rfl))
  case q6__2 => exact fun _ _ _ h => h
  case y6__2 => (refine Or.inl ⟨rfl, ?_⟩; intro w hSw; exact exec_cell 3 _ _ hSw.2.2.2.1 rfl rfl rfl Try.underlying3 rfl)
  (try simp only [Act.put, sA, sB, sC])
  refine wpAnyH_ready (rs := [3]) (by kernel_rfl) (by simp) ?_
  refine AllReadyH.cons (o := ?o6__3) ?h6__3 (fun K hK => ?_) AllReadyH.nil
  case h6__3 => (first | (simp only [gA, gB, gC]; done) | (simp only [gA, gB, gC]; exact rfl))
  (try go_simp)
  refine (massR _ _).mono ?_
  rintro e w' ⟨rfl, rfl⟩
  (try go_wp2_with fail)
  refine hK.out _ _ hHeld (fun hHeld2 => ?_)
  clear hK K hHeld2
  (try simp only [Act.put, sA, sB, sC])
  refine wpAnyH_take (i := 4) (oi := ?o6__4) (v := .agg #[.int .i64 11, .int .i64 (ms x.lo), .int .i64 0, .int .i64 0]) ?h6__4 (by kernel_rfl) (by kernel_rfl) (by kernel_rfl) ?q6__4 ?y6__4 (by assumption) ?_
  case h6__4 => (first | (simp only [gA, gB, gC]; done) | (simp only [gA, gB, gC]; exact rfl))
  case q6__4 => exact fun _ _ _ h => h
  case y6__4 => (refine Or.inl ⟨rfl, ?_⟩; intro w hSw; kernel_rfl)
  (try simp only [Act.put, sA, sB, sC])
  refine wpAnyH_ready (rs := [5, 6]) (by kernel_rfl) (by simp) ?_
  refine AllReadyH.cons (o := ?o6__5b) ?h6__5b (fun K hK => ?g6__5b) (AllReadyH.cons (o := ?o6__6b) ?h6__6b (fun K hK => ?g6__6b) AllReadyH.nil)
  case h6__5b => (first | (simp only [gA, gB, gC]; done) | (simp only [gA, gB, gC]; exact rfl))
  case h6__6b => (first | (simp only [gA, gB, gC]; done) | (simp only [gA, gB, gC]; exact rfl))
  case g6__5b =>
    rw [if_pos (by rfl)]
    refine wp_new (fun b => .slice (some ⟨b, 0, none⟩) 1 1) 85 #[.int .i64 11, .int .i64 (ms x.lo), .int .i64 0, .int .i64 0] (by rintro b rfl; first | rfl | kernel_rfl) ?_
    intro bn45 w2 hge hB hb
    refine hK.out _ _ (by (apply HRK.out; exact hb; exact hHeld)) (fun hHeld2 => ?_)
    have HNn45R := Lib.hid (show bn45 ≠ bR by obtain ⟨old, Bo, _⟩ := hHeld.2.2.2.2.2; have := Blk.lt Bo; omega)
    have HGn45 := Lib.hid (show w.heap.size ≤ bn45 by have := Since.size hHeld.1; (try simp at this); (try simp at hge); omega)
    have HXn45 := Lib.hid hB
    clear hB
    clear hge
    clear hK K hHeld hb
    have hHeld := hHeld2
    clear hHeld2
    (try simp only [Act.put, sA, sB, sC])
    refine wpAnyH_ready (rs := [6]) (by kernel_rfl) (by simp) ?_
    refine AllReadyH.cons (o := ?o6_b5_6) ?h6_b5_6 (fun K hK => ?_) AllReadyH.nil
    case h6_b5_6 => (first | (simp only [gA, gB, gC]; done) | (simp only [gA, gB, gC]; exact rfl))
    rw [if_pos (by rfl)]
    refine wp_st_row 56 _ _ rfl #[.int .i64 l.se, .int .i64 l.fl, .int .i64 l.fm, .int .i64 l.to, .int .i64 l.ma, .int .i64 l.ca, .int .i64 l.ph, .int .i64 l.un, .int .i64 l.re, .int .i64 l.gr] rfl rfl (hHeld.2.2.2.2.2) rfl (by simp [cfgA, leaA, carA, msgC, Value.oneCell']) (by kernel_rfl) ?_
    intro w3 hw
    have HRR := Lib.hid (show Blk w3 bR 56 (leaA l) by obtain ⟨old, Bo, _⟩ := hHeld.2.2.2.2.2; rw [hw]; exact Blk.row Bo _)
    have HXn452 := Lib.hid (show Blk w3 bn45 85 #[.int .i64 11, .int .i64 (ms x.lo), .int .i64 0, .int .i64 0] by rw [hw]; exact Blk.row_far HXn45.out HNn45R.out _)
    clear HXn45
    have hHeld3 : (fun W : World => Since w W ∧ Blk W w.heap.size 23 (cfgA c) ∧ Blk W bL 56 (leaA l) ∧ Blk W bX 76 (carA x) ∧ Blk W bM 85 (msgC m) ∧ HasRow W bR 56 10) w3 := ⟨by rw [hw]; exact Since.setRow hHeld.1 (by have := HNE3.out; omega) _, by rw [hw]; exact Blk.row_far (hHeld.2.1) (by have := HNE3.out; omega) _, by rw [hw]; exact Blk.row_far (hHeld.2.2.1) (by have := HNE3.out; omega) _, by rw [hw]; exact Blk.row_far (hHeld.2.2.2.1) (by have := HNE3.out; omega) _, by rw [hw]; exact Blk.row_far (hHeld.2.2.2.2.1) (by have := HNE3.out; omega) _, HasRow.of HRR.out rfl⟩
    refine hK.out _ _ hHeld3 (fun hHeld2 => ?_)
    clear hK K hHeld hHeld3 hw
    have hHeld := hHeld2
    clear hHeld2
    (try simp only [Act.put, sA, sB, sC])
    refine wpAnyH_take (i := 7) (oi := ?o6_b5_7) (v := .slice (some ⟨bn45, 0, none⟩) 1 1) ?h6_b5_7 (by kernel_rfl) (by kernel_rfl) (by kernel_rfl) ?q6_b5_7 ?y6_b5_7 (by assumption) ?_
    case h6_b5_7 => (first | (simp only [gA, gB, gC]; done) | (simp only [gA, gB, gC]; exact rfl))
    case q6_b5_7 => exact fun _ _ _ h => h
    case y6_b5_7 => (refine Or.inl ⟨rfl, ?_⟩; intro w hSw; (first | rfl | (go_simp; (try with_reducible rfl))))
    (try simp only [Act.put, sA, sB, sC])
    refine wpAnyH_take (i := 8) (oi := ?o6_b5_8) (v := .bool false) ?h6_b5_8 (by kernel_rfl) (by kernel_rfl) (by kernel_rfl) ?q6_b5_8 ?y6_b5_8 (by assumption) ?_
    case h6_b5_8 => (first | (simp only [gA, gB, gC]; done) | (simp only [gA, gB, gC]; exact rfl))
    case q6_b5_8 => exact fun _ _ _ h => h
    case y6_b5_8 => (refine Or.inl ⟨rfl, ?_⟩; intro w hSw; (first | rfl | (go_simp; (try with_reducible rfl))))
    (try simp only [Act.put, sA, sB, sC])
    refine wpAnyH_done (by kernel_rfl) ?_ _
    have HSd6 := Lib.hid hHeld.1
    have HBCd6 := Lib.hid (hHeld.2.1)
    have HBLd6 := Lib.hid (hHeld.2.2.1)
    have HBXd6 := Lib.hid (hHeld.2.2.2.1)
    have HBMd6 := Lib.hid (hHeld.2.2.2.2.1)
    have HBRd6 := Lib.hid HRR.out
    clear HRR
    clear hHeld HRK HRD HSd2 HBCd2 HBLd2 HBXd2 HBMd2 HBRd2
    (try go_wp2_with fail)
    exact bodyPost_ret (results_row3 rfl _ _ bR 56 #[.int .i64 l.se, .int .i64 l.fl, .int .i64 l.fm, .int .i64 l.to, .int .i64 l.ma, .int .i64 l.ca, .int .i64 l.ph, .int .i64 l.un, .int .i64 l.re, .int .i64 l.gr] _ (.slice (some ⟨bn45, 0, none⟩) 1 1) (.bool false) rfl rfl rfl HBRd6.out Try.underlying56 rfl (by kernel_rfl)) rfl ⟨.slice (some ⟨bn45, 0, none⟩) 1 1, rfl, ⟨bn45, rfl, HGn45.out, HXn452.out⟩, HSd6.out⟩
  case g6__6b =>
    rw [if_pos (by rfl)]
    refine wp_st_row 56 _ _ rfl #[.int .i64 l.se, .int .i64 l.fl, .int .i64 l.fm, .int .i64 l.to, .int .i64 l.ma, .int .i64 l.ca, .int .i64 l.ph, .int .i64 l.un, .int .i64 l.re, .int .i64 l.gr] rfl rfl (hHeld.2.2.2.2.2) rfl (by simp [cfgA, leaA, carA, msgC, Value.oneCell']) (by kernel_rfl) ?_
    intro w2 hw
    have HRR := Lib.hid (show Blk w2 bR 56 (leaA l) by obtain ⟨old, Bo, _⟩ := hHeld.2.2.2.2.2; rw [hw]; exact Blk.row Bo _)
    have hHeld3 : (fun W : World => Since w W ∧ Blk W w.heap.size 23 (cfgA c) ∧ Blk W bL 56 (leaA l) ∧ Blk W bX 76 (carA x) ∧ Blk W bM 85 (msgC m) ∧ HasRow W bR 56 10) w2 := ⟨by rw [hw]; exact Since.setRow hHeld.1 (by have := HNE3.out; omega) _, by rw [hw]; exact Blk.row_far (hHeld.2.1) (by have := HNE3.out; omega) _, by rw [hw]; exact Blk.row_far (hHeld.2.2.1) (by have := HNE3.out; omega) _, by rw [hw]; exact Blk.row_far (hHeld.2.2.2.1) (by have := HNE3.out; omega) _, by rw [hw]; exact Blk.row_far (hHeld.2.2.2.2.1) (by have := HNE3.out; omega) _, HasRow.of HRR.out rfl⟩
    refine hK.out _ _ hHeld3 (fun hHeld2 => ?_)
    clear hK K hHeld hHeld3 hw
    have hHeld := hHeld2
    clear hHeld2
    (try simp only [Act.put, sA, sB, sC])
    refine wpAnyH_ready (rs := [5]) (by kernel_rfl) (by simp) ?_
    refine AllReadyH.cons (o := ?o6_b6_5) ?h6_b6_5 (fun K hK => ?_) AllReadyH.nil
    case h6_b6_5 => (first | (simp only [gA, gB, gC]; done) | (simp only [gA, gB, gC]; exact rfl))
    rw [if_pos (by rfl)]
    refine wp_new (fun b => .slice (some ⟨b, 0, none⟩) 1 1) 85 #[.int .i64 11, .int .i64 (ms x.lo), .int .i64 0, .int .i64 0] (by rintro b rfl; first | rfl | kernel_rfl) ?_
    intro bn45 w3 hge hB hb
    refine hK.out _ _ (by (apply HRK.out; exact hb; exact hHeld)) (fun hHeld2 => ?_)
    have HRRk := Lib.hid (keep_blk hb HRR.out)
    clear HRR
    have HNn45R := Lib.hid (show bn45 ≠ bR by obtain ⟨old, Bo, _⟩ := hHeld.2.2.2.2.2; have := Blk.lt Bo; omega)
    have HGn45 := Lib.hid (show w.heap.size ≤ bn45 by have := Since.size hHeld.1; (try simp at this); (try simp at hge); omega)
    have HXn45 := Lib.hid hB
    clear hB
    clear hge
    clear hK K hHeld hb
    have hHeld := hHeld2
    clear hHeld2
    (try simp only [Act.put, sA, sB, sC])
    refine wpAnyH_take (i := 7) (oi := ?o6_b6_7) (v := .slice (some ⟨bn45, 0, none⟩) 1 1) ?h6_b6_7 (by kernel_rfl) (by kernel_rfl) (by kernel_rfl) ?q6_b6_7 ?y6_b6_7 (by assumption) ?_
    case h6_b6_7 => (first | (simp only [gA, gB, gC]; done) | (simp only [gA, gB, gC]; exact rfl))
    case q6_b6_7 => exact fun _ _ _ h => h
    case y6_b6_7 => (refine Or.inl ⟨rfl, ?_⟩; intro w hSw; (first | rfl | (go_simp; (try with_reducible rfl))))
    (try simp only [Act.put, sA, sB, sC])
    refine wpAnyH_take (i := 8) (oi := ?o6_b6_8) (v := .bool false) ?h6_b6_8 (by kernel_rfl) (by kernel_rfl) (by kernel_rfl) ?q6_b6_8 ?y6_b6_8 (by assumption) ?_
    case h6_b6_8 => (first | (simp only [gA, gB, gC]; done) | (simp only [gA, gB, gC]; exact rfl))
    case q6_b6_8 => exact fun _ _ _ h => h
    case y6_b6_8 => (refine Or.inl ⟨rfl, ?_⟩; intro w hSw; (first | rfl | (go_simp; (try with_reducible rfl))))
    (try simp only [Act.put, sA, sB, sC])
    refine wpAnyH_done (by kernel_rfl) ?_ _
    have HSd6 := Lib.hid hHeld.1
    have HBCd6 := Lib.hid (hHeld.2.1)
    have HBLd6 := Lib.hid (hHeld.2.2.1)
    have HBXd6 := Lib.hid (hHeld.2.2.2.1)
    have HBMd6 := Lib.hid (hHeld.2.2.2.2.1)
    have HBRd6 := Lib.hid HRRk.out
    clear HRRk
    clear hHeld HRK HRD HSd2 HBCd2 HBLd2 HBXd2 HBMd2 HBRd2
    (try go_wp2_with fail)
    exact bodyPost_ret (results_row3 rfl _ _ bR 56 #[.int .i64 l.se, .int .i64 l.fl, .int .i64 l.fm, .int .i64 l.to, .int .i64 l.ma, .int .i64 l.ca, .int .i64 l.ph, .int .i64 l.un, .int .i64 l.re, .int .i64 l.gr] _ (.slice (some ⟨bn45, 0, none⟩) 1 1) (.bool false) rfl rfl rfl HBRd6.out Try.underlying56 rfl (by kernel_rfl)) rfl ⟨.slice (some ⟨bn45, 0, none⟩) 1 1, rfl, ⟨bn45, rfl, HGn45.out, HXn45.out⟩, HSd6.out⟩
set_option maxHeartbeats 4000000 in
theorem hearRK0 (c : CfgV) (l : LeaseV) (x : CarV) (now : Int) (m : MsgV) (h0 : (m.ki == 9) = true) (h1 : (l.ph == 2) = true) (h2 : (ms x.lo - ms l.ma) < 0) (h3 : ¬ (ms c.sl < (-(ms x.lo - ms l.ma)))) (w : World) : Calls Try.prog 58 #[.agg #[.int .i64 c.ca, .int .i64 c.fl, .int .i64 c.ft, .int .i64 c.se, .int .i64 c.dr, .int .i64 c.dw, .int .i64 c.ho, .int .i64 c.re, .int .i64 c.yi, .int .i64 c.qu, .int .i64 c.qo, .int .i64 c.lo, .int .i64 c.sl, .int .i64 c.rt, .int .i64 c.cp, .int .i64 c.tr, .int .i64 c.de, .int .i64 c.wi], .agg #[.int .i64 l.se, .int .i64 l.fl, .int .i64 l.fm, .int .i64 l.to, .int .i64 l.ma, .int .i64 l.ca, .int .i64 l.ph, .int .i64 l.un, .int .i64 l.re, .int .i64 l.gr], .agg #[.int .i64 x.ds, .int .i64 x.da, .int .i64 x.un, .int .i64 x.wy, .int .i64 x.ti, .int .i64 x.ju, .int .i64 x.lo, .bool x.bl, .bool x.br, .int .i64 x.mo, .int .i64 x.ta, .bool x.ho, .int .u64 x.sp, .int .u64 x.su, .int .u64 x.sd], .int .i64 now, .agg (msgC m)] w (Said w (⟨l.se, l.fl, l.fm, l.to, l.ma, l.ca, 3, cl (cl now + cl (trV c)), l.re, l.gr⟩, some ⟨10, 0, 0, 0⟩, false)) := by
  have G1 := Lib.hid (show 0 ≤ ms x.lo by have := ms_lo x.lo; exact this)
  have G2 := Lib.hid (show ms x.lo ≤ 10000 by have := ms_hi x.lo; exact this)
  have G3 := Lib.hid (show 0 ≤ ms l.ma by have := ms_lo l.ma; exact this)
  have G4 := Lib.hid (show ms l.ma ≤ 10000 by have := ms_hi l.ma; exact this)
  have H0 := Lib.hid h0
  clear h0
  have H1 := Lib.hid h1
  clear h1
  have H2 := Lib.hid h2
  clear h2
  have H3 := Lib.hid h3
  clear h3
  go_enter Try.func58, Try.ntmps58
  go_upto_region 1 with fail
  obtain ⟨w1, hw1⟩ : ∃ w1, w1 = (((((w.alloc (.cells #[.int .i64 c.ca, .int .i64 c.fl, .int .i64 c.ft, .int .i64 c.se, .int .i64 c.dr, .int .i64 c.dw, .int .i64 c.ho, .int .i64 c.re, .int .i64 c.yi, .int .i64 c.qu, .int .i64 c.qo, .int .i64 c.lo, .int .i64 c.sl, .int .i64 c.rt, .int .i64 c.cp, .int .i64 c.tr, .int .i64 c.de, .int .i64 c.wi] 23)).alloc (.cells #[.int .i64 l.se, .int .i64 l.fl, .int .i64 l.fm, .int .i64 l.to, .int .i64 l.ma, .int .i64 l.ca, .int .i64 l.ph, .int .i64 l.un, .int .i64 l.re, .int .i64 l.gr] 56)).alloc (.cells #[.int .i64 x.ds, .int .i64 x.da, .int .i64 x.un, .int .i64 x.wy, .int .i64 x.ti, .int .i64 x.ju, .int .i64 x.lo, .bool x.bl, .bool x.br, .int .i64 x.mo, .int .i64 x.ta, .bool x.ho, .int .u64 x.sp, .int .u64 x.su, .int .u64 x.sd] 76)).alloc (.cells (msgC m) 85)).alloc (.cells #[.int .i64 0, .int .i64 0, .int .i64 0, .int .i64 0, .int .i64 0, .int .i64 0, .int .i64 0, .int .i64 0, .int .i64 0, .int .i64 0] 56)) := ⟨_, rfl⟩
  rw [← hw1]
  have HBC1 := Lib.hid (show Blk w1 (w.heap.size) 23 (cfgA c) by rw [hw1]; exact Blk.alloc (Blk.alloc (Blk.alloc (Blk.alloc (Blk.at_ (by (try simp only [size_alloc])) _ _) _) _) _) _)
  have HBL1 := Lib.hid (show Blk w1 (w.heap.size + 1) 56 (leaA l) by rw [hw1]; exact Blk.alloc (Blk.alloc (Blk.alloc (Blk.at_ (by (try simp only [size_alloc])) _ _) _) _) _)
  have HBX1 := Lib.hid (show Blk w1 (w.heap.size + 1 + 1) 76 (carA x) by rw [hw1]; exact Blk.alloc (Blk.alloc (Blk.at_ (by (try simp only [size_alloc])) _ _) _) _)
  have HBM1 := Lib.hid (show Blk w1 (w.heap.size + 1 + 1 + 1) 85 (msgC m) by rw [hw1]; exact Blk.alloc (Blk.at_ (by (try simp only [size_alloc])) _ _) _)
  have HBR1 := Lib.hid (show Blk w1 (w.heap.size + 1 + 1 + 1 + 1) 56 #[.int .i64 0, .int .i64 0, .int .i64 0, .int .i64 0, .int .i64 0, .int .i64 0, .int .i64 0, .int .i64 0, .int .i64 0, .int .i64 0] by rw [hw1]; exact Blk.at_ (by (try simp only [size_alloc])) _ _)
  have HS1 := Lib.hid (show Since w w1 by rw [hw1]; exact Since.alloc (Since.alloc (Since.alloc (Since.alloc (Since.alloc (Since.refl w) _) _) _) _) _)
  have hNE : w.heap.size ≤ w.heap.size ∧ w.heap.size < w.heap.size + 1 ∧ w.heap.size + 1 < w.heap.size + 1 + 1 ∧ w.heap.size + 1 + 1 < w.heap.size + 1 + 1 + 1 ∧ w.heap.size + 1 + 1 + 1 < w.heap.size + 1 + 1 + 1 + 1 := by omega
  have HNE := Lib.hid hNE
  clear hNE hw1
  generalize w.heap.size + 1 + 1 + 1 + 1 = bR at *
  generalize w.heap.size + 1 + 1 + 1 = bM at *
  generalize w.heap.size + 1 + 1 = bX at *
  generalize w.heap.size + 1 = bL at *
  have HNE3 := Lib.hid (show w.heap.size ≤ w.heap.size ∧ w.heap.size < bL ∧ bL < bX ∧ bX < bM ∧ bM < bR from HNE.out)
  clear HNE
  refine wp_region_lit ?_
  refine wpList_q (by rfl) (.pointer (some ⟨bM, 0, none⟩)) ?he ?_
  case he => (first | rfl | (go_simp; (try with_reducible rfl)))
  (try simp only [Act.put, sA, sB, sC])
  refine wpList_q (by rfl) (.int .i64 m.ki) ?he ?_
  case he => exact exec_cell 3 _ _ HBM1.out rfl rfl rfl Try.underlying3 rfl
  (try simp only [Act.put, sA, sB, sC])
  refine wpList_q (by rfl) (.bool true) ?he ?_
  case he => (have hq := H0.out; go_simp; (try with_reducible rfl))
  (try simp only [Act.put, sA, sB, sC])
  refine wpList_q (by rfl) (.bool true) ?he ?_
  case he => (first | rfl | (go_simp; (try with_reducible rfl)))
  (try simp only [Act.put, sA, sB, sC])
  refine wpList_q (by rfl) (.pointer (some ⟨bL, 6, none⟩)) ?he ?_
  case he => (first | rfl | (go_simp; (try with_reducible rfl)))
  (try simp only [Act.put, sA, sB, sC])
  refine wpList_q (by rfl) (.int .i64 l.ph) ?he ?_
  case he => exact exec_cell 3 _ _ HBL1.out rfl rfl rfl Try.underlying3 rfl
  (try simp only [Act.put, sA, sB, sC])
  refine wpList_q (by rfl) (.bool true) ?he ?_
  case he => (have hq := H1.out; go_simp; (try with_reducible rfl))
  (try simp only [Act.put, sA, sB, sC])
  refine wpList_q (by rfl) (.bool true) ?he ?_
  case he => (first | rfl | (go_simp; (try with_reducible rfl)))
  (try simp only [Act.put, sA, sB, sC])
  refine wpList_q (by rfl) (.bool true) ?he ?_
  case he => (first | rfl | (go_simp; (try with_reducible rfl)))
  (try simp only [Act.put, sA, sB, sC])
  refine wpList_nil ?_
  go_upto_region 2 with fail
  have hrK : ∀ W W' : World, Since W W' → (Since w W ∧ Blk W w.heap.size 23 (cfgA c) ∧ Blk W bL 56 (leaA l) ∧ Blk W bX 76 (carA x) ∧ Blk W bM 85 (msgC m) ∧ Blk W bR 56 #[.int .i64 0, .int .i64 0, .int .i64 0, .int .i64 0, .int .i64 0, .int .i64 0, .int .i64 0, .int .i64 0, .int .i64 0, .int .i64 0]) → (Since w W' ∧ Blk W' w.heap.size 23 (cfgA c) ∧ Blk W' bL 56 (leaA l) ∧ Blk W' bX 76 (carA x) ∧ Blk W' bM 85 (msgC m) ∧ Blk W' bR 56 #[.int .i64 0, .int .i64 0, .int .i64 0, .int .i64 0, .int .i64 0, .int .i64 0, .int .i64 0, .int .i64 0, .int .i64 0, .int .i64 0]) := fun W W' k ⟨h, h0, h1, h2, h3, h4⟩ => ⟨h.trans k, keep_blk k h0, keep_blk k h1, keep_blk k h2, keep_blk k h3, keep_blk k h4⟩
  have hrS : (fun W : World => Since w W ∧ Blk W w.heap.size 23 (cfgA c) ∧ Blk W bL 56 (leaA l) ∧ Blk W bX 76 (carA x) ∧ Blk W bM 85 (msgC m) ∧ Blk W bR 56 #[.int .i64 0, .int .i64 0, .int .i64 0, .int .i64 0, .int .i64 0, .int .i64 0, .int .i64 0, .int .i64 0, .int .i64 0, .int .i64 0]) w1 := ⟨HS1.out, HBC1.out, HBL1.out, HBX1.out, HBM1.out, HBR1.out⟩
  have HRK := Lib.hid hrK
  have HRD := Lib.hid (show (fun W : World => Since w W ∧ Blk W w.heap.size 23 (cfgA c) ∧ Blk W bL 56 (leaA l) ∧ Blk W bX 76 (carA x) ∧ Blk W bM 85 (msgC m) ∧ Blk W bR 56 #[.int .i64 0, .int .i64 0, .int .i64 0, .int .i64 0, .int .i64 0, .int .i64 0, .int .i64 0, .int .i64 0, .int .i64 0, .int .i64 0]) (World.drew w1) from ⟨Since.drew hrS.1, hrS.2⟩)
  clear hrK hrS
  refine wp_region_held_drew (S := fun W : World => Since w W ∧ Blk W w.heap.size 23 (cfgA c) ∧ Blk W bL 56 (leaA l) ∧ Blk W bX 76 (carA x) ∧ Blk W bM 85 (msgC m) ∧ Blk W bR 56 #[.int .i64 0, .int .i64 0, .int .i64 0, .int .i64 0, .int .i64 0, .int .i64 0, .int .i64 0, .int .i64 0, .int .i64 0, .int .i64 0]) (by kernel_rfl) HRD.out (fun hHeld => ?_)
  refine wpAnyH_take (i := 0) (oi := ?o2__0) (v := .pointer (some ⟨bX, 6, none⟩)) ?h2__0 (by kernel_rfl) (by kernel_rfl) (by kernel_rfl) ?q2__0 ?y2__0 (by assumption) ?_
  case h2__0 => (first | (simp only [gA, gB, gC]; done) | (simp only [gA, gB, gC]; exact rfl))
  case q2__0 => exact fun _ _ _ h => h
  case y2__0 => (refine Or.inl ⟨rfl, ?_⟩; intro w hSw; (first | rfl | (go_simp; (try with_reducible rfl))))
  (try simp only [Act.put, sA, sB, sC])
  refine wpAnyH_take (i := 1) (oi := ?o2__1) (v := .int .i64 x.lo) ?h2__1 (by kernel_rfl) (by kernel_rfl) (by kernel_rfl) ?q2__1 ?y2__1 (by assumption) ?_
  case h2__1 => (first | (simp only [gA, gB, gC]; done) | (simp only [gA, gB, gC]; exact rfl))
  case q2__1 => exact fun _ _ _ h => h
  case y2__1 => (refine Or.inl ⟨rfl, ?_⟩; intro w hSw; exact exec_cell 3 _ _ hSw.2.2.2.1 rfl rfl rfl Try.underlying3 rfl)
  (try simp only [Act.put, sA, sB, sC])
  refine wpAnyH_take (i := 3) (oi := ?o2__3) (v := .pointer (some ⟨bL, 0, none⟩)) ?h2__3 (by kernel_rfl) (by kernel_rfl) (by kernel_rfl) ?q2__3 ?y2__3 (by assumption) ?_
  case h2__3 => (first | (simp only [gA, gB, gC]; done) | (simp only [gA, gB, gC]; exact rfl))
  case q2__3 => exact fun _ _ _ h => h
  case y2__3 => (refine Or.inl ⟨rfl, ?_⟩; intro w hSw; (first | rfl | (go_simp; (try with_reducible rfl))))
  (try simp only [Act.put, sA, sB, sC])
  refine wpAnyH_take (i := 4) (oi := ?o2__4) (v := .pointer (some ⟨bL, 4, none⟩)) ?h2__4 (by kernel_rfl) (by kernel_rfl) (by kernel_rfl) ?q2__4 ?y2__4 (by assumption) ?_
  case h2__4 => (first | (simp only [gA, gB, gC]; done) | (simp only [gA, gB, gC]; exact rfl))
  case q2__4 => exact fun _ _ _ h => h
  case y2__4 => (refine Or.inl ⟨rfl, ?_⟩; intro w hSw; (first | rfl | (go_simp; (try with_reducible rfl))))
  (try simp only [Act.put, sA, sB, sC])
  refine wpAnyH_take (i := 5) (oi := ?o2__5) (v := .int .i64 l.ma) ?h2__5 (by kernel_rfl) (by kernel_rfl) (by kernel_rfl) ?q2__5 ?y2__5 (by assumption) ?_
  case h2__5 => (first | (simp only [gA, gB, gC]; done) | (simp only [gA, gB, gC]; exact rfl))
  case q2__5 => exact fun _ _ _ h => h
  case y2__5 => (refine Or.inl ⟨rfl, ?_⟩; intro w hSw; exact exec_cell 3 _ _ hSw.2.2.1 rfl rfl rfl Try.underlying3 rfl)
  (try simp only [Act.put, sA, sB, sC])
  refine wpAnyH_ready (rs := [2]) (by kernel_rfl) (by simp) ?_
  refine AllReadyH.cons (o := ?o2__2) ?h2__2 (fun K hK => ?_) AllReadyH.nil
  case h2__2 => (first | (simp only [gA, gB, gC]; done) | (simp only [gA, gB, gC]; exact rfl))
  (try go_simp)
  refine (massR _ _).mono ?_
  rintro e w' ⟨rfl, rfl⟩
  (try go_wp2_with fail)
  refine hK.out _ _ hHeld (fun hHeld2 => ?_)
  clear hK K hHeld2
  (try simp only [Act.put, sA, sB, sC])
  refine wpAnyH_ready (rs := [6]) (by kernel_rfl) (by simp) ?_
  refine AllReadyH.cons (o := ?o2__6) ?h2__6 (fun K hK => ?_) AllReadyH.nil
  case h2__6 => (first | (simp only [gA, gB, gC]; done) | (simp only [gA, gB, gC]; exact rfl))
  (try go_simp)
  refine (massR _ _).mono ?_
  rintro e w' ⟨rfl, rfl⟩
  (try go_wp2_with fail)
  refine hK.out _ _ hHeld (fun hHeld2 => ?_)
  clear hK K hHeld2
  (try simp only [Act.put, sA, sB, sC])
  refine wpAnyH_take (i := 7) (oi := ?o2__7) (v := .int .i64 (ms x.lo - ms l.ma)) ?h2__7 (by kernel_rfl) (by kernel_rfl) (by kernel_rfl) ?q2__7 ?y2__7 (by assumption) ?_
  case h2__7 => (first | (simp only [gA, gB, gC]; done) | (simp only [gA, gB, gC]; exact rfl))
  case q2__7 => exact fun _ _ _ h => h
  case y2__7 => (refine Or.inl ⟨rfl, ?_⟩; intro w hSw; (have q0 := G1.out; have q1 := G2.out; have q2 := G3.out; have q3 := G4.out; have q := wr (ms x.lo - ms l.ma) (by omega) (by omega); clear q0 q1 q2 q3; go_simp; (try rw [q]); (try rfl)))
  (try simp only [Act.put, sA, sB, sC])
  refine wpAnyH_take (i := 8) (oi := ?o2__8) (v := .int .i64 (ms x.lo - ms l.ma)) ?h2__8 (by kernel_rfl) (by kernel_rfl) (by kernel_rfl) ?q2__8 ?y2__8 (by assumption) ?_
  case h2__8 => (first | (simp only [gA, gB, gC]; done) | (simp only [gA, gB, gC]; exact rfl))
  case q2__8 => exact fun _ _ _ h => h
  case y2__8 => (refine Or.inl ⟨rfl, ?_⟩; intro w hSw; (first | rfl | (go_simp; (try with_reducible rfl))))
  (try simp only [Act.put, sA, sB, sC])
  refine wpAnyH_done (by kernel_rfl) ?_ _
  have HSd2 := Lib.hid hHeld.1
  have HBCd2 := Lib.hid (hHeld.2.1)
  have HBLd2 := Lib.hid (hHeld.2.2.1)
  have HBXd2 := Lib.hid (hHeld.2.2.2.1)
  have HBMd2 := Lib.hid (hHeld.2.2.2.2.1)
  have HBRd2 := Lib.hid (hHeld.2.2.2.2.2)
  clear hHeld HRK HRD HS1 HBC1 HBL1 HBX1 HBM1 HBR1
  go_upto_region 3 with fail
  refine wp_region_lit ?_
  refine wpList_q (by rfl) (.int .i64 (ms x.lo - ms l.ma)) ?he ?_
  case he => (first | rfl | (go_simp; (try with_reducible rfl)))
  (try simp only [Act.put, sA, sB, sC])
  refine wpList_q (by rfl) (.bool true) ?he ?_
  case he => (have q0 := H2.out; go_simp; (try with_reducible rfl))
  (try simp only [Act.put, sA, sB, sC])
  refine wpList_nil ?_
  go_upto_region 4 with fail
  refine wp_region_lit ?_
  refine wpList_q (by rfl) (.int .i64 (ms x.lo - ms l.ma)) ?he ?_
  case he => (first | rfl | (go_simp; (try with_reducible rfl)))
  (try simp only [Act.put, sA, sB, sC])
  refine wpList_q (by rfl) (.int .i64 (-(ms x.lo - ms l.ma))) ?he ?_
  case he => (have q0 := G1.out; have q1 := G2.out; have q2 := G3.out; have q3 := G4.out; have q := wr (-(ms x.lo - ms l.ma)) (by omega) (by omega); clear q0 q1 q2 q3; go_simp; (try rw [q]); (try rfl))
  (try simp only [Act.put, sA, sB, sC])
  refine wpList_q (by rfl) (.int .i64 (-(ms x.lo - ms l.ma))) ?he ?_
  case he => (first | rfl | (go_simp; (try with_reducible rfl)))
  (try simp only [Act.put, sA, sB, sC])
  refine wpList_nil ?_
  go_upto_region 5 with fail
  refine wp_region_lit ?_
  refine wpList_q (by rfl) (.int .i64 (-(ms x.lo - ms l.ma))) ?he ?_
  case he => (first | rfl | (go_simp; (try with_reducible rfl)))
  (try simp only [Act.put, sA, sB, sC])
  refine wpList_q (by rfl) (.pointer (some ⟨w.heap.size, 12, none⟩)) ?he ?_
  case he => (first | rfl | (go_simp; (try with_reducible rfl)))
  (try simp only [Act.put, sA, sB, sC])
  refine wpList_q (by rfl) (.int .i64 c.sl) ?he ?_
  case he => exact exec_cell 3 _ _ HBCd2.out rfl rfl rfl Try.underlying3 rfl
  (try simp only [Act.put, sA, sB, sC])
  refine wpList_wp (by rfl) (fun K hK => ?_)
  (try go_simp)
  refine (massR _ _).mono ?_
  rintro e w' ⟨rfl, rfl⟩
  (try go_wp2_with fail)
  refine hK.out _ _ ?_
  clear hK K
  (try simp only [Act.put, sA, sB, sC])
  refine wpList_q (by rfl) (.bool false) ?he ?_
  case he => (go_simp; (have q := H3.out; omega))
  (try simp only [Act.put, sA, sB, sC])
  refine wpList_nil ?_
  go_upto_region 7 with fail
  refine wp_region_lit ?_
  refine wpList_q (by rfl) (.int .i64 now) ?he ?_
  case he => (first | rfl | (go_simp; (try with_reducible rfl)))
  (try simp only [Act.put, sA, sB, sC])
  refine wpList_q (by rfl) (.agg (cfgA c)) ?he ?_
  case he => exact exec_load_row 23 _ _ HBCd2.out rfl rfl Try.underlying23 rfl (by kernel_rfl)
  (try simp only [Act.put, sA, sB, sC])
  refine wpList_wp (by rfl) (fun K hK => ?_)
  (try go_simp)
  refine (tripR c _).mono ?_
  rintro e w2 ⟨rfl, hb⟩
  (try go_wp2_with fail)
  refine hK.out _ _ ?_
  clear hK K
  (try simp only [Act.put, sA, sB, sC])
  have HS2 := Lib.hid (Since.trans HSd2.out hb)
  have HBC2 := Lib.hid (keep_blk hb HBCd2.out)
  have HBL2 := Lib.hid (keep_blk hb HBLd2.out)
  have HBX2 := Lib.hid (keep_blk hb HBXd2.out)
  have HBM2 := Lib.hid (keep_blk hb HBMd2.out)
  have HBR2 := Lib.hid (keep_blk hb HBRd2.out)
  clear HSd2 HBCd2 HBLd2 HBXd2 HBMd2 HBRd2
  clear hb
  refine wpList_wp (by rfl) (fun K hK => ?_)
  (try go_simp)
  refine (addR _ _ _).mono ?_
  rintro e w' ⟨rfl, rfl⟩
  (try go_wp2_with fail)
  refine hK.out _ _ ?_
  clear hK K
  (try simp only [Act.put, sA, sB, sC])
  refine wpList_q (by rfl) (.pointer (some ⟨bL, 6, none⟩)) ?he ?_
  case he => (first | rfl | (go_simp; (try with_reducible rfl)))
  (try simp only [Act.put, sA, sB, sC])
  refine wpList_wp (by rfl) (fun K hK => ?_)
  refine wp_st_cell 3 _ _ rfl #[.int .i64 l.se, .int .i64 l.fl, .int .i64 l.fm, .int .i64 l.to, .int .i64 l.ma, .int .i64 l.ca, .int .i64 3, .int .i64 l.un, .int .i64 l.re, .int .i64 l.gr] (.int .i64 3) rfl rfl HBL2.out (by show 6 < 10; decide) rfl (by first | rfl | simp [Value.oneCell']) (by kernel_rfl) ?_
  intro w3 hw
  refine hK.out _ _ ?_
  clear hK K
  (try simp only [Act.put, sA, sB, sC])
  have HS3 := Lib.hid (show Since w w3 by rw [hw]; exact Since.setRow HS2.out (by have := HNE3.out; omega) _)
  have HBC3 := Lib.hid (show Blk w3 w.heap.size 23 (cfgA c) by rw [hw]; exact Blk.row_far HBC2.out (by have := HNE3.out; omega) _)
  have HBL3 := Lib.hid (show Blk w3 bL 56 #[.int .i64 l.se, .int .i64 l.fl, .int .i64 l.fm, .int .i64 l.to, .int .i64 l.ma, .int .i64 l.ca, .int .i64 3, .int .i64 l.un, .int .i64 l.re, .int .i64 l.gr] by rw [hw]; exact Blk.row HBL2.out _)
  have HBX3 := Lib.hid (show Blk w3 bX 76 (carA x) by rw [hw]; exact Blk.row_far HBX2.out (by have := HNE3.out; omega) _)
  have HBM3 := Lib.hid (show Blk w3 bM 85 (msgC m) by rw [hw]; exact Blk.row_far HBM2.out (by have := HNE3.out; omega) _)
  have HBR3 := Lib.hid (show Blk w3 bR 56 #[.int .i64 0, .int .i64 0, .int .i64 0, .int .i64 0, .int .i64 0, .int .i64 0, .int .i64 0, .int .i64 0, .int .i64 0, .int .i64 0] by rw [hw]; exact Blk.row_far HBR2.out (by have := HNE3.out; omega) _)
  clear hw HS2 HBC2 HBL2 HBX2 HBM2 HBR2
  refine wpList_q (by rfl) (.pointer (some ⟨bL, 7, none⟩)) ?he ?_
  case he => (first | rfl | (go_simp; (try with_reducible rfl)))
  (try simp only [Act.put, sA, sB, sC])
  refine wpList_wp (by rfl) (fun K hK => ?_)
  refine wp_st_cell 3 _ _ rfl #[.int .i64 l.se, .int .i64 l.fl, .int .i64 l.fm, .int .i64 l.to, .int .i64 l.ma, .int .i64 l.ca, .int .i64 3, .int .i64 (cl (cl now + cl (trV c))), .int .i64 l.re, .int .i64 l.gr] (.int .i64 (cl (cl now + cl (trV c)))) rfl rfl HBL3.out (by show 7 < 10; decide) rfl (by first | rfl | simp [Value.oneCell']) (by kernel_rfl) ?_
  intro w4 hw
  refine hK.out _ _ ?_
  clear hK K
  (try simp only [Act.put, sA, sB, sC])
  have HS4 := Lib.hid (show Since w w4 by rw [hw]; exact Since.setRow HS3.out (by have := HNE3.out; omega) _)
  have HBC4 := Lib.hid (show Blk w4 w.heap.size 23 (cfgA c) by rw [hw]; exact Blk.row_far HBC3.out (by have := HNE3.out; omega) _)
  have HBL4 := Lib.hid (show Blk w4 bL 56 #[.int .i64 l.se, .int .i64 l.fl, .int .i64 l.fm, .int .i64 l.to, .int .i64 l.ma, .int .i64 l.ca, .int .i64 3, .int .i64 (cl (cl now + cl (trV c))), .int .i64 l.re, .int .i64 l.gr] by rw [hw]; exact Blk.row HBL3.out _)
  have HBX4 := Lib.hid (show Blk w4 bX 76 (carA x) by rw [hw]; exact Blk.row_far HBX3.out (by have := HNE3.out; omega) _)
  have HBM4 := Lib.hid (show Blk w4 bM 85 (msgC m) by rw [hw]; exact Blk.row_far HBM3.out (by have := HNE3.out; omega) _)
  have HBR4 := Lib.hid (show Blk w4 bR 56 #[.int .i64 0, .int .i64 0, .int .i64 0, .int .i64 0, .int .i64 0, .int .i64 0, .int .i64 0, .int .i64 0, .int .i64 0, .int .i64 0] by rw [hw]; exact Blk.row_far HBR3.out (by have := HNE3.out; omega) _)
  clear hw HS3 HBC3 HBL3 HBX3 HBM3 HBR3
  refine wpList_nil ?_
  go_upto_region 8 with fail
  refine wp_region_lit ?_
  refine wpList_q (by rfl) (.agg #[.int .i64 l.se, .int .i64 l.fl, .int .i64 l.fm, .int .i64 l.to, .int .i64 l.ma, .int .i64 l.ca, .int .i64 3, .int .i64 (cl (cl now + cl (trV c))), .int .i64 l.re, .int .i64 l.gr]) ?he ?_
  case he => exact exec_load_row 56 _ _ HBL4.out rfl rfl Try.underlying56 rfl (by kernel_rfl)
  (try simp only [Act.put, sA, sB, sC])
  refine wpList_q (by rfl) (.agg #[.int .i64 10, .int .i64 0, .int .i64 0, .int .i64 0]) ?he ?_
  case he => kernel_rfl
  (try simp only [Act.put, sA, sB, sC])
  refine wpList_wp (by rfl) (fun K hK => ?_)
  refine wp_new (fun b => .slice (some ⟨b, 0, none⟩) 1 1) 85 #[.int .i64 10, .int .i64 0, .int .i64 0, .int .i64 0] (by rintro b rfl; first | rfl | kernel_rfl) ?_
  intro bn54 w5 hge hB hb
  refine hK.out _ _ ?_
  clear hK K
  (try simp only [Act.put, sA, sB, sC])
  have HNn54C := Lib.hid (show bn54 ≠ w.heap.size by have := Blk.lt HBC4.out; omega)
  have HNn54L := Lib.hid (show bn54 ≠ bL by have := Blk.lt HBL4.out; omega)
  have HNn54X := Lib.hid (show bn54 ≠ bX by have := Blk.lt HBX4.out; omega)
  have HNn54M := Lib.hid (show bn54 ≠ bM by have := Blk.lt HBM4.out; omega)
  have HNn54R := Lib.hid (show bn54 ≠ bR by have := Blk.lt HBR4.out; omega)
  have HGn54 := Lib.hid (show w.heap.size ≤ bn54 by have := Since.size HS4.out; omega)
  have HS5 := Lib.hid (Since.trans HS4.out hb)
  have HBC5 := Lib.hid (keep_blk hb HBC4.out)
  have HBL5 := Lib.hid (keep_blk hb HBL4.out)
  have HBX5 := Lib.hid (keep_blk hb HBX4.out)
  have HBM5 := Lib.hid (keep_blk hb HBM4.out)
  have HBR5 := Lib.hid (keep_blk hb HBR4.out)
  clear HS4 HBC4 HBL4 HBX4 HBM4 HBR4
  clear hb hge
  have HBn545 := Lib.hid hB
  clear hB
  refine wpList_wp (by rfl) (fun K hK => ?_)
  refine wp_st_row 56 _ _ rfl #[.int .i64 l.se, .int .i64 l.fl, .int .i64 l.fm, .int .i64 l.to, .int .i64 l.ma, .int .i64 l.ca, .int .i64 3, .int .i64 (cl (cl now + cl (trV c))), .int .i64 l.re, .int .i64 l.gr] rfl rfl (HasRow.of HBR5.out rfl) rfl (by simp [cfgA, leaA, carA, msgC, Value.oneCell']) (by kernel_rfl) ?_
  intro w6 hw
  refine hK.out _ _ ?_
  clear hK K
  (try simp only [Act.put, sA, sB, sC])
  have HS6 := Lib.hid (show Since w w6 by rw [hw]; exact Since.setRow HS5.out (by have := HNE3.out; omega) _)
  have HBC6 := Lib.hid (show Blk w6 w.heap.size 23 (cfgA c) by rw [hw]; exact Blk.row_far HBC5.out (by have := HNE3.out; omega) _)
  have HBL6 := Lib.hid (show Blk w6 bL 56 #[.int .i64 l.se, .int .i64 l.fl, .int .i64 l.fm, .int .i64 l.to, .int .i64 l.ma, .int .i64 l.ca, .int .i64 3, .int .i64 (cl (cl now + cl (trV c))), .int .i64 l.re, .int .i64 l.gr] by rw [hw]; exact Blk.row_far HBL5.out (by have := HNE3.out; omega) _)
  have HBX6 := Lib.hid (show Blk w6 bX 76 (carA x) by rw [hw]; exact Blk.row_far HBX5.out (by have := HNE3.out; omega) _)
  have HBM6 := Lib.hid (show Blk w6 bM 85 (msgC m) by rw [hw]; exact Blk.row_far HBM5.out (by have := HNE3.out; omega) _)
  have HBR6 := Lib.hid (show Blk w6 bR 56 #[.int .i64 l.se, .int .i64 l.fl, .int .i64 l.fm, .int .i64 l.to, .int .i64 l.ma, .int .i64 l.ca, .int .i64 3, .int .i64 (cl (cl now + cl (trV c))), .int .i64 l.re, .int .i64 l.gr] by rw [hw]; exact Blk.row HBR5.out _)
  have HBn546 := Lib.hid (show Blk w6 bn54 85 #[.int .i64 10, .int .i64 0, .int .i64 0, .int .i64 0] by rw [hw]; exact Blk.row_far HBn545.out HNn54R.out _)
  clear hw HS5 HBC5 HBL5 HBX5 HBM5 HBR5 HBn545
  refine wpList_q (by rfl) (.slice (some ⟨bn54, 0, none⟩) 1 1) ?he ?_
  case he => (first | rfl | (go_simp; (try with_reducible rfl)))
  (try simp only [Act.put, sA, sB, sC])
  refine wpList_q (by rfl) (.bool false) ?he ?_
  case he => (first | rfl | (go_simp; (try with_reducible rfl)))
  (try simp only [Act.put, sA, sB, sC])
  refine wpList_nil ?_
  (try go_wp2_with fail)
  exact bodyPost_ret (results_row3 rfl _ _ bR 56 #[.int .i64 l.se, .int .i64 l.fl, .int .i64 l.fm, .int .i64 l.to, .int .i64 l.ma, .int .i64 l.ca, .int .i64 3, .int .i64 (cl (cl now + cl (trV c))), .int .i64 l.re, .int .i64 l.gr] _ (.slice (some ⟨bn54, 0, none⟩) 1 1) (.bool false) rfl rfl rfl HBR6.out Try.underlying56 rfl (by kernel_rfl)) rfl ⟨.slice (some ⟨bn54, 0, none⟩) 1 1, rfl, ⟨bn54, rfl, HGn54.out, HBn546.out⟩, HS6.out⟩
set_option maxHeartbeats 4000000 in
theorem hearRJ1 (c : CfgV) (l : LeaseV) (x : CarV) (now : Int) (m : MsgV) (h0 : (m.ki == 9) = true) (h1 : (l.ph == 2) = true) (h2 : ¬ ((ms x.lo - ms l.ma) < 0)) (h3 : ms c.sl < (ms x.lo - ms l.ma)) (w : World) : Calls Try.prog 58 #[.agg #[.int .i64 c.ca, .int .i64 c.fl, .int .i64 c.ft, .int .i64 c.se, .int .i64 c.dr, .int .i64 c.dw, .int .i64 c.ho, .int .i64 c.re, .int .i64 c.yi, .int .i64 c.qu, .int .i64 c.qo, .int .i64 c.lo, .int .i64 c.sl, .int .i64 c.rt, .int .i64 c.cp, .int .i64 c.tr, .int .i64 c.de, .int .i64 c.wi], .agg #[.int .i64 l.se, .int .i64 l.fl, .int .i64 l.fm, .int .i64 l.to, .int .i64 l.ma, .int .i64 l.ca, .int .i64 l.ph, .int .i64 l.un, .int .i64 l.re, .int .i64 l.gr], .agg #[.int .i64 x.ds, .int .i64 x.da, .int .i64 x.un, .int .i64 x.wy, .int .i64 x.ti, .int .i64 x.ju, .int .i64 x.lo, .bool x.bl, .bool x.br, .int .i64 x.mo, .int .i64 x.ta, .bool x.ho, .int .u64 x.sp, .int .u64 x.su, .int .u64 x.sd], .int .i64 now, .agg (msgC m)] w (Said w (⟨l.se, l.fl, l.fm, l.to, l.ma, l.ca, l.ph, l.un, l.re, l.gr⟩, some ⟨11, ms x.lo, 0, 0⟩, false)) := by
  have G1 := Lib.hid (show 0 ≤ ms x.lo by have := ms_lo x.lo; exact this)
  have G2 := Lib.hid (show ms x.lo ≤ 10000 by have := ms_hi x.lo; exact this)
  have G3 := Lib.hid (show 0 ≤ ms l.ma by have := ms_lo l.ma; exact this)
  have G4 := Lib.hid (show ms l.ma ≤ 10000 by have := ms_hi l.ma; exact this)
  have H0 := Lib.hid h0
  clear h0
  have H1 := Lib.hid h1
  clear h1
  have H2 := Lib.hid h2
  clear h2
  have H3 := Lib.hid h3
  clear h3
  go_enter Try.func58, Try.ntmps58
  go_upto_region 1 with fail
  obtain ⟨w1, hw1⟩ : ∃ w1, w1 = (((((w.alloc (.cells #[.int .i64 c.ca, .int .i64 c.fl, .int .i64 c.ft, .int .i64 c.se, .int .i64 c.dr, .int .i64 c.dw, .int .i64 c.ho, .int .i64 c.re, .int .i64 c.yi, .int .i64 c.qu, .int .i64 c.qo, .int .i64 c.lo, .int .i64 c.sl, .int .i64 c.rt, .int .i64 c.cp, .int .i64 c.tr, .int .i64 c.de, .int .i64 c.wi] 23)).alloc (.cells #[.int .i64 l.se, .int .i64 l.fl, .int .i64 l.fm, .int .i64 l.to, .int .i64 l.ma, .int .i64 l.ca, .int .i64 l.ph, .int .i64 l.un, .int .i64 l.re, .int .i64 l.gr] 56)).alloc (.cells #[.int .i64 x.ds, .int .i64 x.da, .int .i64 x.un, .int .i64 x.wy, .int .i64 x.ti, .int .i64 x.ju, .int .i64 x.lo, .bool x.bl, .bool x.br, .int .i64 x.mo, .int .i64 x.ta, .bool x.ho, .int .u64 x.sp, .int .u64 x.su, .int .u64 x.sd] 76)).alloc (.cells (msgC m) 85)).alloc (.cells #[.int .i64 0, .int .i64 0, .int .i64 0, .int .i64 0, .int .i64 0, .int .i64 0, .int .i64 0, .int .i64 0, .int .i64 0, .int .i64 0] 56)) := ⟨_, rfl⟩
  rw [← hw1]
  have HBC1 := Lib.hid (show Blk w1 (w.heap.size) 23 (cfgA c) by rw [hw1]; exact Blk.alloc (Blk.alloc (Blk.alloc (Blk.alloc (Blk.at_ (by (try simp only [size_alloc])) _ _) _) _) _) _)
  have HBL1 := Lib.hid (show Blk w1 (w.heap.size + 1) 56 (leaA l) by rw [hw1]; exact Blk.alloc (Blk.alloc (Blk.alloc (Blk.at_ (by (try simp only [size_alloc])) _ _) _) _) _)
  have HBX1 := Lib.hid (show Blk w1 (w.heap.size + 1 + 1) 76 (carA x) by rw [hw1]; exact Blk.alloc (Blk.alloc (Blk.at_ (by (try simp only [size_alloc])) _ _) _) _)
  have HBM1 := Lib.hid (show Blk w1 (w.heap.size + 1 + 1 + 1) 85 (msgC m) by rw [hw1]; exact Blk.alloc (Blk.at_ (by (try simp only [size_alloc])) _ _) _)
  have HBR1 := Lib.hid (show Blk w1 (w.heap.size + 1 + 1 + 1 + 1) 56 #[.int .i64 0, .int .i64 0, .int .i64 0, .int .i64 0, .int .i64 0, .int .i64 0, .int .i64 0, .int .i64 0, .int .i64 0, .int .i64 0] by rw [hw1]; exact Blk.at_ (by (try simp only [size_alloc])) _ _)
  have HS1 := Lib.hid (show Since w w1 by rw [hw1]; exact Since.alloc (Since.alloc (Since.alloc (Since.alloc (Since.alloc (Since.refl w) _) _) _) _) _)
  have hNE : w.heap.size ≤ w.heap.size ∧ w.heap.size < w.heap.size + 1 ∧ w.heap.size + 1 < w.heap.size + 1 + 1 ∧ w.heap.size + 1 + 1 < w.heap.size + 1 + 1 + 1 ∧ w.heap.size + 1 + 1 + 1 < w.heap.size + 1 + 1 + 1 + 1 := by omega
  have HNE := Lib.hid hNE
  clear hNE hw1
  generalize w.heap.size + 1 + 1 + 1 + 1 = bR at *
  generalize w.heap.size + 1 + 1 + 1 = bM at *
  generalize w.heap.size + 1 + 1 = bX at *
  generalize w.heap.size + 1 = bL at *
  have HNE3 := Lib.hid (show w.heap.size ≤ w.heap.size ∧ w.heap.size < bL ∧ bL < bX ∧ bX < bM ∧ bM < bR from HNE.out)
  clear HNE
  refine wp_region_lit ?_
  refine wpList_q (by rfl) (.pointer (some ⟨bM, 0, none⟩)) ?he ?_
  case he => (first | rfl | (go_simp; (try with_reducible rfl)))
  (try simp only [Act.put, sA, sB, sC])
  refine wpList_q (by rfl) (.int .i64 m.ki) ?he ?_
  case he => exact exec_cell 3 _ _ HBM1.out rfl rfl rfl Try.underlying3 rfl
  (try simp only [Act.put, sA, sB, sC])
  refine wpList_q (by rfl) (.bool true) ?he ?_
  case he => (have hq := H0.out; go_simp; (try with_reducible rfl))
  (try simp only [Act.put, sA, sB, sC])
  refine wpList_q (by rfl) (.bool true) ?he ?_
  case he => (first | rfl | (go_simp; (try with_reducible rfl)))
  (try simp only [Act.put, sA, sB, sC])
  refine wpList_q (by rfl) (.pointer (some ⟨bL, 6, none⟩)) ?he ?_
  case he => (first | rfl | (go_simp; (try with_reducible rfl)))
  (try simp only [Act.put, sA, sB, sC])
  refine wpList_q (by rfl) (.int .i64 l.ph) ?he ?_
  case he => exact exec_cell 3 _ _ HBL1.out rfl rfl rfl Try.underlying3 rfl
  (try simp only [Act.put, sA, sB, sC])
  refine wpList_q (by rfl) (.bool true) ?he ?_
  case he => (have hq := H1.out; go_simp; (try with_reducible rfl))
  (try simp only [Act.put, sA, sB, sC])
  refine wpList_q (by rfl) (.bool true) ?he ?_
  case he => (first | rfl | (go_simp; (try with_reducible rfl)))
  (try simp only [Act.put, sA, sB, sC])
  refine wpList_q (by rfl) (.bool true) ?he ?_
  case he => (first | rfl | (go_simp; (try with_reducible rfl)))
  (try simp only [Act.put, sA, sB, sC])
  refine wpList_nil ?_
  go_upto_region 2 with fail
  have hrK : ∀ W W' : World, Since W W' → (Since w W ∧ Blk W w.heap.size 23 (cfgA c) ∧ Blk W bL 56 (leaA l) ∧ Blk W bX 76 (carA x) ∧ Blk W bM 85 (msgC m) ∧ Blk W bR 56 #[.int .i64 0, .int .i64 0, .int .i64 0, .int .i64 0, .int .i64 0, .int .i64 0, .int .i64 0, .int .i64 0, .int .i64 0, .int .i64 0]) → (Since w W' ∧ Blk W' w.heap.size 23 (cfgA c) ∧ Blk W' bL 56 (leaA l) ∧ Blk W' bX 76 (carA x) ∧ Blk W' bM 85 (msgC m) ∧ Blk W' bR 56 #[.int .i64 0, .int .i64 0, .int .i64 0, .int .i64 0, .int .i64 0, .int .i64 0, .int .i64 0, .int .i64 0, .int .i64 0, .int .i64 0]) := fun W W' k ⟨h, h0, h1, h2, h3, h4⟩ => ⟨h.trans k, keep_blk k h0, keep_blk k h1, keep_blk k h2, keep_blk k h3, keep_blk k h4⟩
  have hrS : (fun W : World => Since w W ∧ Blk W w.heap.size 23 (cfgA c) ∧ Blk W bL 56 (leaA l) ∧ Blk W bX 76 (carA x) ∧ Blk W bM 85 (msgC m) ∧ Blk W bR 56 #[.int .i64 0, .int .i64 0, .int .i64 0, .int .i64 0, .int .i64 0, .int .i64 0, .int .i64 0, .int .i64 0, .int .i64 0, .int .i64 0]) w1 := ⟨HS1.out, HBC1.out, HBL1.out, HBX1.out, HBM1.out, HBR1.out⟩
  have HRK := Lib.hid hrK
  have HRD := Lib.hid (show (fun W : World => Since w W ∧ Blk W w.heap.size 23 (cfgA c) ∧ Blk W bL 56 (leaA l) ∧ Blk W bX 76 (carA x) ∧ Blk W bM 85 (msgC m) ∧ Blk W bR 56 #[.int .i64 0, .int .i64 0, .int .i64 0, .int .i64 0, .int .i64 0, .int .i64 0, .int .i64 0, .int .i64 0, .int .i64 0, .int .i64 0]) (World.drew w1) from ⟨Since.drew hrS.1, hrS.2⟩)
  clear hrK hrS
  refine wp_region_held_drew (S := fun W : World => Since w W ∧ Blk W w.heap.size 23 (cfgA c) ∧ Blk W bL 56 (leaA l) ∧ Blk W bX 76 (carA x) ∧ Blk W bM 85 (msgC m) ∧ Blk W bR 56 #[.int .i64 0, .int .i64 0, .int .i64 0, .int .i64 0, .int .i64 0, .int .i64 0, .int .i64 0, .int .i64 0, .int .i64 0, .int .i64 0]) (by kernel_rfl) HRD.out (fun hHeld => ?_)
  refine wpAnyH_take (i := 0) (oi := ?o2__0) (v := .pointer (some ⟨bX, 6, none⟩)) ?h2__0 (by kernel_rfl) (by kernel_rfl) (by kernel_rfl) ?q2__0 ?y2__0 (by assumption) ?_
  case h2__0 => (first | (simp only [gA, gB, gC]; done) | (simp only [gA, gB, gC]; exact rfl))
  case q2__0 => exact fun _ _ _ h => h
  case y2__0 => (refine Or.inl ⟨rfl, ?_⟩; intro w hSw; (first | rfl | (go_simp; (try with_reducible rfl))))
  (try simp only [Act.put, sA, sB, sC])
  refine wpAnyH_take (i := 1) (oi := ?o2__1) (v := .int .i64 x.lo) ?h2__1 (by kernel_rfl) (by kernel_rfl) (by kernel_rfl) ?q2__1 ?y2__1 (by assumption) ?_
  case h2__1 => (first | (simp only [gA, gB, gC]; done) | (simp only [gA, gB, gC]; exact rfl))
  case q2__1 => exact fun _ _ _ h => h
  case y2__1 => (refine Or.inl ⟨rfl, ?_⟩; intro w hSw; exact exec_cell 3 _ _ hSw.2.2.2.1 rfl rfl rfl Try.underlying3 rfl)
  (try simp only [Act.put, sA, sB, sC])
  refine wpAnyH_take (i := 3) (oi := ?o2__3) (v := .pointer (some ⟨bL, 0, none⟩)) ?h2__3 (by kernel_rfl) (by kernel_rfl) (by kernel_rfl) ?q2__3 ?y2__3 (by assumption) ?_
  case h2__3 => (first | (simp only [gA, gB, gC]; done) | (simp only [gA, gB, gC]; exact rfl))
  case q2__3 => exact fun _ _ _ h => h
  case y2__3 => (refine Or.inl ⟨rfl, ?_⟩; intro w hSw; (first | rfl | (go_simp; (try with_reducible rfl))))
  (try simp only [Act.put, sA, sB, sC])
  refine wpAnyH_take (i := 4) (oi := ?o2__4) (v := .pointer (some ⟨bL, 4, none⟩)) ?h2__4 (by kernel_rfl) (by kernel_rfl) (by kernel_rfl) ?q2__4 ?y2__4 (by assumption) ?_
  case h2__4 => (first | (simp only [gA, gB, gC]; done) | (simp only [gA, gB, gC]; exact rfl))
  case q2__4 => exact fun _ _ _ h => h
  case y2__4 => (refine Or.inl ⟨rfl, ?_⟩; intro w hSw; (first | rfl | (go_simp; (try with_reducible rfl))))
  (try simp only [Act.put, sA, sB, sC])
  refine wpAnyH_take (i := 5) (oi := ?o2__5) (v := .int .i64 l.ma) ?h2__5 (by kernel_rfl) (by kernel_rfl) (by kernel_rfl) ?q2__5 ?y2__5 (by assumption) ?_
  case h2__5 => (first | (simp only [gA, gB, gC]; done) | (simp only [gA, gB, gC]; exact rfl))
  case q2__5 => exact fun _ _ _ h => h
  case y2__5 => (refine Or.inl ⟨rfl, ?_⟩; intro w hSw; exact exec_cell 3 _ _ hSw.2.2.1 rfl rfl rfl Try.underlying3 rfl)
  (try simp only [Act.put, sA, sB, sC])
  refine wpAnyH_ready (rs := [2]) (by kernel_rfl) (by simp) ?_
  refine AllReadyH.cons (o := ?o2__2) ?h2__2 (fun K hK => ?_) AllReadyH.nil
  case h2__2 => (first | (simp only [gA, gB, gC]; done) | (simp only [gA, gB, gC]; exact rfl))
  (try go_simp)
  refine (massR _ _).mono ?_
  rintro e w' ⟨rfl, rfl⟩
  (try go_wp2_with fail)
  refine hK.out _ _ hHeld (fun hHeld2 => ?_)
  clear hK K hHeld2
  (try simp only [Act.put, sA, sB, sC])
  refine wpAnyH_ready (rs := [6]) (by kernel_rfl) (by simp) ?_
  refine AllReadyH.cons (o := ?o2__6) ?h2__6 (fun K hK => ?_) AllReadyH.nil
  case h2__6 => (first | (simp only [gA, gB, gC]; done) | (simp only [gA, gB, gC]; exact rfl))
  (try go_simp)
  refine (massR _ _).mono ?_
  rintro e w' ⟨rfl, rfl⟩
  (try go_wp2_with fail)
  refine hK.out _ _ hHeld (fun hHeld2 => ?_)
  clear hK K hHeld2
  (try simp only [Act.put, sA, sB, sC])
  refine wpAnyH_take (i := 7) (oi := ?o2__7) (v := .int .i64 (ms x.lo - ms l.ma)) ?h2__7 (by kernel_rfl) (by kernel_rfl) (by kernel_rfl) ?q2__7 ?y2__7 (by assumption) ?_
  case h2__7 => (first | (simp only [gA, gB, gC]; done) | (simp only [gA, gB, gC]; exact rfl))
  case q2__7 => exact fun _ _ _ h => h
  case y2__7 => (refine Or.inl ⟨rfl, ?_⟩; intro w hSw; (have q0 := G1.out; have q1 := G2.out; have q2 := G3.out; have q3 := G4.out; have q := wr (ms x.lo - ms l.ma) (by omega) (by omega); clear q0 q1 q2 q3; go_simp; (try rw [q]); (try rfl)))
  (try simp only [Act.put, sA, sB, sC])
  refine wpAnyH_take (i := 8) (oi := ?o2__8) (v := .int .i64 (ms x.lo - ms l.ma)) ?h2__8 (by kernel_rfl) (by kernel_rfl) (by kernel_rfl) ?q2__8 ?y2__8 (by assumption) ?_
  case h2__8 => (first | (simp only [gA, gB, gC]; done) | (simp only [gA, gB, gC]; exact rfl))
  case q2__8 => exact fun _ _ _ h => h
  case y2__8 => (refine Or.inl ⟨rfl, ?_⟩; intro w hSw; (first | rfl | (go_simp; (try with_reducible rfl))))
  (try simp only [Act.put, sA, sB, sC])
  refine wpAnyH_done (by kernel_rfl) ?_ _
  have HSd2 := Lib.hid hHeld.1
  have HBCd2 := Lib.hid (hHeld.2.1)
  have HBLd2 := Lib.hid (hHeld.2.2.1)
  have HBXd2 := Lib.hid (hHeld.2.2.2.1)
  have HBMd2 := Lib.hid (hHeld.2.2.2.2.1)
  have HBRd2 := Lib.hid (hHeld.2.2.2.2.2)
  clear hHeld HRK HRD HS1 HBC1 HBL1 HBX1 HBM1 HBR1
  go_upto_region 3 with fail
  refine wp_region_lit ?_
  refine wpList_q (by rfl) (.int .i64 (ms x.lo - ms l.ma)) ?he ?_
  case he => (first | rfl | (go_simp; (try with_reducible rfl)))
  (try simp only [Act.put, sA, sB, sC])
  refine wpList_q (by rfl) (.bool false) ?he ?_
  case he => (go_simp; (have q := H2.out; omega))
  (try simp only [Act.put, sA, sB, sC])
  refine wpList_nil ?_
  go_upto_region 5 with fail
  refine wp_region_lit ?_
  refine wpList_q (by rfl) (.int .i64 (ms x.lo - ms l.ma)) ?he ?_
  case he => (first | rfl | (go_simp; (try with_reducible rfl)))
  (try simp only [Act.put, sA, sB, sC])
  refine wpList_q (by rfl) (.pointer (some ⟨w.heap.size, 12, none⟩)) ?he ?_
  case he => (first | rfl | (go_simp; (try with_reducible rfl)))
  (try simp only [Act.put, sA, sB, sC])
  refine wpList_q (by rfl) (.int .i64 c.sl) ?he ?_
  case he => exact exec_cell 3 _ _ HBCd2.out rfl rfl rfl Try.underlying3 rfl
  (try simp only [Act.put, sA, sB, sC])
  refine wpList_wp (by rfl) (fun K hK => ?_)
  (try go_simp)
  refine (massR _ _).mono ?_
  rintro e w' ⟨rfl, rfl⟩
  (try go_wp2_with fail)
  refine hK.out _ _ ?_
  clear hK K
  (try simp only [Act.put, sA, sB, sC])
  refine wpList_q (by rfl) (.bool true) ?he ?_
  case he => (have q0 := H3.out; go_simp; (try with_reducible rfl))
  (try simp only [Act.put, sA, sB, sC])
  refine wpList_nil ?_
  go_upto_region 6 with fail
  have hrK : ∀ W W' : World, Since W W' → (Since w W ∧ Blk W w.heap.size 23 (cfgA c) ∧ Blk W bL 56 (leaA l) ∧ Blk W bX 76 (carA x) ∧ Blk W bM 85 (msgC m) ∧ HasRow W bR 56 10) → (Since w W' ∧ Blk W' w.heap.size 23 (cfgA c) ∧ Blk W' bL 56 (leaA l) ∧ Blk W' bX 76 (carA x) ∧ Blk W' bM 85 (msgC m) ∧ HasRow W' bR 56 10) := fun W W' k ⟨h, h0, h1, h2, h3, h4⟩ => ⟨h.trans k, keep_blk k h0, keep_blk k h1, keep_blk k h2, keep_blk k h3, HasRow.keep k h4⟩
  have hrS : (fun W : World => Since w W ∧ Blk W w.heap.size 23 (cfgA c) ∧ Blk W bL 56 (leaA l) ∧ Blk W bX 76 (carA x) ∧ Blk W bM 85 (msgC m) ∧ HasRow W bR 56 10) w1.drew := ⟨HSd2.out, HBCd2.out, HBLd2.out, HBXd2.out, HBMd2.out, HasRow.of HBRd2.out rfl⟩
  have HRK := Lib.hid hrK
  have HRD := Lib.hid (show (fun W : World => Since w W ∧ Blk W w.heap.size 23 (cfgA c) ∧ Blk W bL 56 (leaA l) ∧ Blk W bX 76 (carA x) ∧ Blk W bM 85 (msgC m) ∧ HasRow W bR 56 10) (World.drew w1.drew) from ⟨Since.drew hrS.1, hrS.2⟩)
  clear hrK hrS
  refine wp_region_held_drew (S := fun W : World => Since w W ∧ Blk W w.heap.size 23 (cfgA c) ∧ Blk W bL 56 (leaA l) ∧ Blk W bX 76 (carA x) ∧ Blk W bM 85 (msgC m) ∧ HasRow W bR 56 10) (by kernel_rfl) HRD.out (fun hHeld => ?_)
  refine wpAnyH_take (i := 0) (oi := ?o6__0) (v := .agg (leaA l)) ?h6__0 (by kernel_rfl) (by kernel_rfl) (by kernel_rfl) ?q6__0 ?y6__0 (by assumption) ?_
  case h6__0 => (first | (simp only [gA, gB, gC]; done) | (simp only [gA, gB, gC]; exact rfl))
  case q6__0 => exact fun _ _ _ h => h
  case y6__0 => (refine Or.inl ⟨rfl, ?_⟩; intro w hSw; exact exec_load_row 56 _ _ hSw.2.2.1 rfl rfl Try.underlying56 rfl (by kernel_rfl))
  (try simp only [Act.put, sA, sB, sC])
  refine wpAnyH_take (i := 1) (oi := ?o6__1) (v := .pointer (some ⟨bX, 6, none⟩)) ?h6__1 (by kernel_rfl) (by kernel_rfl) (by kernel_rfl) ?q6__1 ?y6__1 (by assumption) ?_
  case h6__1 => (first | (simp only [gA, gB, gC]; done) | (simp only [gA, gB, gC]; exact rfl))
  case q6__1 => exact fun _ _ _ h => h
  case y6__1 => (refine Or.inl ⟨rfl, ?_⟩; intro w hSw; (first | rfl | (go_simp; (try with_reducible rfl))))
  (try simp only [Act.put, sA, sB, sC])
  refine wpAnyH_take (i := 2) (oi := ?o6__2) (v := .int .i64 x.lo) ?h6__2 (by kernel_rfl) (by kernel_rfl) (by kernel_rfl) ?q6__2 ?y6__2 (by assumption) ?_
  case h6__2 => (first | (simp only [gA, gB, gC]; done) | (simp only [gA, gB, gC]; exact rfl))
  case q6__2 => exact fun _ _ _ h => h
  case y6__2 => (refine Or.inl ⟨rfl, ?_⟩; intro w hSw; exact exec_cell 3 _ _ hSw.2.2.2.1 rfl rfl rfl Try.underlying3 rfl)
  (try simp only [Act.put, sA, sB, sC])
  refine wpAnyH_ready (rs := [3]) (by kernel_rfl) (by simp) ?_
  refine AllReadyH.cons (o := ?o6__3) ?h6__3 (fun K hK => ?_) AllReadyH.nil
  case h6__3 => (first | (simp only [gA, gB, gC]; done) | (simp only [gA, gB, gC]; exact rfl))
  (try go_simp)
  refine (massR _ _).mono ?_
  rintro e w' ⟨rfl, rfl⟩
  (try go_wp2_with fail)
  refine hK.out _ _ hHeld (fun hHeld2 => ?_)
  clear hK K hHeld2
  (try simp only [Act.put, sA, sB, sC])
  refine wpAnyH_take (i := 4) (oi := ?o6__4) (v := .agg #[.int .i64 11, .int .i64 (ms x.lo), .int .i64 0, .int .i64 0]) ?h6__4 (by kernel_rfl) (by kernel_rfl) (by kernel_rfl) ?q6__4 ?y6__4 (by assumption) ?_
  case h6__4 => (first | (simp only [gA, gB, gC]; done) | (simp only [gA, gB, gC]; exact rfl))
  case q6__4 => exact fun _ _ _ h => h
  case y6__4 => (refine Or.inl ⟨rfl, ?_⟩; intro w hSw; kernel_rfl)
  (try simp only [Act.put, sA, sB, sC])
  refine wpAnyH_ready (rs := [5, 6]) (by kernel_rfl) (by simp) ?_
  refine AllReadyH.cons (o := ?o6__5b) ?h6__5b (fun K hK => ?g6__5b) (AllReadyH.cons (o := ?o6__6b) ?h6__6b (fun K hK => ?g6__6b) AllReadyH.nil)
  case h6__5b => (first | (simp only [gA, gB, gC]; done) | (simp only [gA, gB, gC]; exact rfl))
  case h6__6b => (first | (simp only [gA, gB, gC]; done) | (simp only [gA, gB, gC]; exact rfl))
  case g6__5b =>
    rw [if_pos (by rfl)]
    refine wp_new (fun b => .slice (some ⟨b, 0, none⟩) 1 1) 85 #[.int .i64 11, .int .i64 (ms x.lo), .int .i64 0, .int .i64 0] (by rintro b rfl; first | rfl | kernel_rfl) ?_
    intro bn45 w2 hge hB hb
    refine hK.out _ _ (by (apply HRK.out; exact hb; exact hHeld)) (fun hHeld2 => ?_)
    have HNn45R := Lib.hid (show bn45 ≠ bR by obtain ⟨old, Bo, _⟩ := hHeld.2.2.2.2.2; have := Blk.lt Bo; omega)
    have HGn45 := Lib.hid (show w.heap.size ≤ bn45 by have := Since.size hHeld.1; (try simp at this); (try simp at hge); omega)
    have HXn45 := Lib.hid hB
    clear hB
    clear hge
    clear hK K hHeld hb
    have hHeld := hHeld2
    clear hHeld2
    (try simp only [Act.put, sA, sB, sC])
    refine wpAnyH_ready (rs := [6]) (by kernel_rfl) (by simp) ?_
    refine AllReadyH.cons (o := ?o6_b5_6) ?h6_b5_6 (fun K hK => ?_) AllReadyH.nil
    case h6_b5_6 => (first | (simp only [gA, gB, gC]; done) | (simp only [gA, gB, gC]; exact rfl))
    rw [if_pos (by rfl)]
    refine wp_st_row 56 _ _ rfl #[.int .i64 l.se, .int .i64 l.fl, .int .i64 l.fm, .int .i64 l.to, .int .i64 l.ma, .int .i64 l.ca, .int .i64 l.ph, .int .i64 l.un, .int .i64 l.re, .int .i64 l.gr] rfl rfl (hHeld.2.2.2.2.2) rfl (by simp [cfgA, leaA, carA, msgC, Value.oneCell']) (by kernel_rfl) ?_
    intro w3 hw
    have HRR := Lib.hid (show Blk w3 bR 56 (leaA l) by obtain ⟨old, Bo, _⟩ := hHeld.2.2.2.2.2; rw [hw]; exact Blk.row Bo _)
    have HXn452 := Lib.hid (show Blk w3 bn45 85 #[.int .i64 11, .int .i64 (ms x.lo), .int .i64 0, .int .i64 0] by rw [hw]; exact Blk.row_far HXn45.out HNn45R.out _)
    clear HXn45
    have hHeld3 : (fun W : World => Since w W ∧ Blk W w.heap.size 23 (cfgA c) ∧ Blk W bL 56 (leaA l) ∧ Blk W bX 76 (carA x) ∧ Blk W bM 85 (msgC m) ∧ HasRow W bR 56 10) w3 := ⟨by rw [hw]; exact Since.setRow hHeld.1 (by have := HNE3.out; omega) _, by rw [hw]; exact Blk.row_far (hHeld.2.1) (by have := HNE3.out; omega) _, by rw [hw]; exact Blk.row_far (hHeld.2.2.1) (by have := HNE3.out; omega) _, by rw [hw]; exact Blk.row_far (hHeld.2.2.2.1) (by have := HNE3.out; omega) _, by rw [hw]; exact Blk.row_far (hHeld.2.2.2.2.1) (by have := HNE3.out; omega) _, HasRow.of HRR.out rfl⟩
    refine hK.out _ _ hHeld3 (fun hHeld2 => ?_)
    clear hK K hHeld hHeld3 hw
    have hHeld := hHeld2
    clear hHeld2
    (try simp only [Act.put, sA, sB, sC])
    refine wpAnyH_take (i := 7) (oi := ?o6_b5_7) (v := .slice (some ⟨bn45, 0, none⟩) 1 1) ?h6_b5_7 (by kernel_rfl) (by kernel_rfl) (by kernel_rfl) ?q6_b5_7 ?y6_b5_7 (by assumption) ?_
    case h6_b5_7 => (first | (simp only [gA, gB, gC]; done) | (simp only [gA, gB, gC]; exact rfl))
    case q6_b5_7 => exact fun _ _ _ h => h
    case y6_b5_7 => (refine Or.inl ⟨rfl, ?_⟩; intro w hSw; (first | rfl | (go_simp; (try with_reducible rfl))))
    (try simp only [Act.put, sA, sB, sC])
    refine wpAnyH_take (i := 8) (oi := ?o6_b5_8) (v := .bool false) ?h6_b5_8 (by kernel_rfl) (by kernel_rfl) (by kernel_rfl) ?q6_b5_8 ?y6_b5_8 (by assumption) ?_
    case h6_b5_8 => (first | (simp only [gA, gB, gC]; done) | (simp only [gA, gB, gC]; exact rfl))
    case q6_b5_8 => exact fun _ _ _ h => h
    case y6_b5_8 => (refine Or.inl ⟨rfl, ?_⟩; intro w hSw; (first | rfl | (go_simp; (try with_reducible rfl))))
    (try simp only [Act.put, sA, sB, sC])
    refine wpAnyH_done (by kernel_rfl) ?_ _
    have HSd6 := Lib.hid hHeld.1
    have HBCd6 := Lib.hid (hHeld.2.1)
    have HBLd6 := Lib.hid (hHeld.2.2.1)
    have HBXd6 := Lib.hid (hHeld.2.2.2.1)
    have HBMd6 := Lib.hid (hHeld.2.2.2.2.1)
    have HBRd6 := Lib.hid HRR.out
    clear HRR
    clear hHeld HRK HRD HSd2 HBCd2 HBLd2 HBXd2 HBMd2 HBRd2
    (try go_wp2_with fail)
    exact bodyPost_ret (results_row3 rfl _ _ bR 56 #[.int .i64 l.se, .int .i64 l.fl, .int .i64 l.fm, .int .i64 l.to, .int .i64 l.ma, .int .i64 l.ca, .int .i64 l.ph, .int .i64 l.un, .int .i64 l.re, .int .i64 l.gr] _ (.slice (some ⟨bn45, 0, none⟩) 1 1) (.bool false) rfl rfl rfl HBRd6.out Try.underlying56 rfl (by kernel_rfl)) rfl ⟨.slice (some ⟨bn45, 0, none⟩) 1 1, rfl, ⟨bn45, rfl, HGn45.out, HXn452.out⟩, HSd6.out⟩
  case g6__6b =>
    rw [if_pos (by rfl)]
    refine wp_st_row 56 _ _ rfl #[.int .i64 l.se, .int .i64 l.fl, .int .i64 l.fm, .int .i64 l.to, .int .i64 l.ma, .int .i64 l.ca, .int .i64 l.ph, .int .i64 l.un, .int .i64 l.re, .int .i64 l.gr] rfl rfl (hHeld.2.2.2.2.2) rfl (by simp [cfgA, leaA, carA, msgC, Value.oneCell']) (by kernel_rfl) ?_
    intro w2 hw
    have HRR := Lib.hid (show Blk w2 bR 56 (leaA l) by obtain ⟨old, Bo, _⟩ := hHeld.2.2.2.2.2; rw [hw]; exact Blk.row Bo _)
    have hHeld3 : (fun W : World => Since w W ∧ Blk W w.heap.size 23 (cfgA c) ∧ Blk W bL 56 (leaA l) ∧ Blk W bX 76 (carA x) ∧ Blk W bM 85 (msgC m) ∧ HasRow W bR 56 10) w2 := ⟨by rw [hw]; exact Since.setRow hHeld.1 (by have := HNE3.out; omega) _, by rw [hw]; exact Blk.row_far (hHeld.2.1) (by have := HNE3.out; omega) _, by rw [hw]; exact Blk.row_far (hHeld.2.2.1) (by have := HNE3.out; omega) _, by rw [hw]; exact Blk.row_far (hHeld.2.2.2.1) (by have := HNE3.out; omega) _, by rw [hw]; exact Blk.row_far (hHeld.2.2.2.2.1) (by have := HNE3.out; omega) _, HasRow.of HRR.out rfl⟩
    refine hK.out _ _ hHeld3 (fun hHeld2 => ?_)
    clear hK K hHeld hHeld3 hw
    have hHeld := hHeld2
    clear hHeld2
    (try simp only [Act.put, sA, sB, sC])
    refine wpAnyH_ready (rs := [5]) (by kernel_rfl) (by simp) ?_
    refine AllReadyH.cons (o := ?o6_b6_5) ?h6_b6_5 (fun K hK => ?_) AllReadyH.nil
    case h6_b6_5 => (first | (simp only [gA, gB, gC]; done) | (simp only [gA, gB, gC]; exact rfl))
    rw [if_pos (by rfl)]
    refine wp_new (fun b => .slice (some ⟨b, 0, none⟩) 1 1) 85 #[.int .i64 11, .int .i64 (ms x.lo), .int .i64 0, .int .i64 0] (by rintro b rfl; first | rfl | kernel_rfl) ?_
    intro bn45 w3 hge hB hb
    refine hK.out _ _ (by (apply HRK.out; exact hb; exact hHeld)) (fun hHeld2 => ?_)
    have HRRk := Lib.hid (keep_blk hb HRR.out)
    clear HRR
    have HNn45R := Lib.hid (show bn45 ≠ bR by obtain ⟨old, Bo, _⟩ := hHeld.2.2.2.2.2; have := Blk.lt Bo; omega)
    have HGn45 := Lib.hid (show w.heap.size ≤ bn45 by have := Since.size hHeld.1; (try simp at this); (try simp at hge); omega)
    have HXn45 := Lib.hid hB
    clear hB
    clear hge
    clear hK K hHeld hb
    have hHeld := hHeld2
    clear hHeld2
    (try simp only [Act.put, sA, sB, sC])
    refine wpAnyH_take (i := 7) (oi := ?o6_b6_7) (v := .slice (some ⟨bn45, 0, none⟩) 1 1) ?h6_b6_7 (by kernel_rfl) (by kernel_rfl) (by kernel_rfl) ?q6_b6_7 ?y6_b6_7 (by assumption) ?_
    case h6_b6_7 => (first | (simp only [gA, gB, gC]; done) | (simp only [gA, gB, gC]; exact rfl))
    case q6_b6_7 => exact fun _ _ _ h => h
    case y6_b6_7 => (refine Or.inl ⟨rfl, ?_⟩; intro w hSw; (first | rfl | (go_simp; (try with_reducible rfl))))
    (try simp only [Act.put, sA, sB, sC])
    refine wpAnyH_take (i := 8) (oi := ?o6_b6_8) (v := .bool false) ?h6_b6_8 (by kernel_rfl) (by kernel_rfl) (by kernel_rfl) ?q6_b6_8 ?y6_b6_8 (by assumption) ?_
    case h6_b6_8 => (first | (simp only [gA, gB, gC]; done) | (simp only [gA, gB, gC]; exact rfl))
    case q6_b6_8 => exact fun _ _ _ h => h
    case y6_b6_8 => (refine Or.inl ⟨rfl, ?_⟩; intro w hSw; (first | rfl | (go_simp; (try with_reducible rfl))))
    (try simp only [Act.put, sA, sB, sC])
    refine wpAnyH_done (by kernel_rfl) ?_ _
    have HSd6 := Lib.hid hHeld.1
    have HBCd6 := Lib.hid (hHeld.2.1)
    have HBLd6 := Lib.hid (hHeld.2.2.1)
    have HBXd6 := Lib.hid (hHeld.2.2.2.1)
    have HBMd6 := Lib.hid (hHeld.2.2.2.2.1)
    have HBRd6 := Lib.hid HRRk.out
    clear HRRk
    clear hHeld HRK HRD HSd2 HBCd2 HBLd2 HBXd2 HBMd2 HBRd2
    (try go_wp2_with fail)
    exact bodyPost_ret (results_row3 rfl _ _ bR 56 #[.int .i64 l.se, .int .i64 l.fl, .int .i64 l.fm, .int .i64 l.to, .int .i64 l.ma, .int .i64 l.ca, .int .i64 l.ph, .int .i64 l.un, .int .i64 l.re, .int .i64 l.gr] _ (.slice (some ⟨bn45, 0, none⟩) 1 1) (.bool false) rfl rfl rfl HBRd6.out Try.underlying56 rfl (by kernel_rfl)) rfl ⟨.slice (some ⟨bn45, 0, none⟩) 1 1, rfl, ⟨bn45, rfl, HGn45.out, HXn45.out⟩, HSd6.out⟩
set_option maxHeartbeats 4000000 in
theorem hearRK1 (c : CfgV) (l : LeaseV) (x : CarV) (now : Int) (m : MsgV) (h0 : (m.ki == 9) = true) (h1 : (l.ph == 2) = true) (h2 : ¬ ((ms x.lo - ms l.ma) < 0)) (h3 : ¬ (ms c.sl < (ms x.lo - ms l.ma))) (w : World) : Calls Try.prog 58 #[.agg #[.int .i64 c.ca, .int .i64 c.fl, .int .i64 c.ft, .int .i64 c.se, .int .i64 c.dr, .int .i64 c.dw, .int .i64 c.ho, .int .i64 c.re, .int .i64 c.yi, .int .i64 c.qu, .int .i64 c.qo, .int .i64 c.lo, .int .i64 c.sl, .int .i64 c.rt, .int .i64 c.cp, .int .i64 c.tr, .int .i64 c.de, .int .i64 c.wi], .agg #[.int .i64 l.se, .int .i64 l.fl, .int .i64 l.fm, .int .i64 l.to, .int .i64 l.ma, .int .i64 l.ca, .int .i64 l.ph, .int .i64 l.un, .int .i64 l.re, .int .i64 l.gr], .agg #[.int .i64 x.ds, .int .i64 x.da, .int .i64 x.un, .int .i64 x.wy, .int .i64 x.ti, .int .i64 x.ju, .int .i64 x.lo, .bool x.bl, .bool x.br, .int .i64 x.mo, .int .i64 x.ta, .bool x.ho, .int .u64 x.sp, .int .u64 x.su, .int .u64 x.sd], .int .i64 now, .agg (msgC m)] w (Said w (⟨l.se, l.fl, l.fm, l.to, l.ma, l.ca, 3, cl (cl now + cl (trV c)), l.re, l.gr⟩, some ⟨10, 0, 0, 0⟩, false)) := by
  have G1 := Lib.hid (show 0 ≤ ms x.lo by have := ms_lo x.lo; exact this)
  have G2 := Lib.hid (show ms x.lo ≤ 10000 by have := ms_hi x.lo; exact this)
  have G3 := Lib.hid (show 0 ≤ ms l.ma by have := ms_lo l.ma; exact this)
  have G4 := Lib.hid (show ms l.ma ≤ 10000 by have := ms_hi l.ma; exact this)
  have H0 := Lib.hid h0
  clear h0
  have H1 := Lib.hid h1
  clear h1
  have H2 := Lib.hid h2
  clear h2
  have H3 := Lib.hid h3
  clear h3
  go_enter Try.func58, Try.ntmps58
  go_upto_region 1 with fail
  obtain ⟨w1, hw1⟩ : ∃ w1, w1 = (((((w.alloc (.cells #[.int .i64 c.ca, .int .i64 c.fl, .int .i64 c.ft, .int .i64 c.se, .int .i64 c.dr, .int .i64 c.dw, .int .i64 c.ho, .int .i64 c.re, .int .i64 c.yi, .int .i64 c.qu, .int .i64 c.qo, .int .i64 c.lo, .int .i64 c.sl, .int .i64 c.rt, .int .i64 c.cp, .int .i64 c.tr, .int .i64 c.de, .int .i64 c.wi] 23)).alloc (.cells #[.int .i64 l.se, .int .i64 l.fl, .int .i64 l.fm, .int .i64 l.to, .int .i64 l.ma, .int .i64 l.ca, .int .i64 l.ph, .int .i64 l.un, .int .i64 l.re, .int .i64 l.gr] 56)).alloc (.cells #[.int .i64 x.ds, .int .i64 x.da, .int .i64 x.un, .int .i64 x.wy, .int .i64 x.ti, .int .i64 x.ju, .int .i64 x.lo, .bool x.bl, .bool x.br, .int .i64 x.mo, .int .i64 x.ta, .bool x.ho, .int .u64 x.sp, .int .u64 x.su, .int .u64 x.sd] 76)).alloc (.cells (msgC m) 85)).alloc (.cells #[.int .i64 0, .int .i64 0, .int .i64 0, .int .i64 0, .int .i64 0, .int .i64 0, .int .i64 0, .int .i64 0, .int .i64 0, .int .i64 0] 56)) := ⟨_, rfl⟩
  rw [← hw1]
  have HBC1 := Lib.hid (show Blk w1 (w.heap.size) 23 (cfgA c) by rw [hw1]; exact Blk.alloc (Blk.alloc (Blk.alloc (Blk.alloc (Blk.at_ (by (try simp only [size_alloc])) _ _) _) _) _) _)
  have HBL1 := Lib.hid (show Blk w1 (w.heap.size + 1) 56 (leaA l) by rw [hw1]; exact Blk.alloc (Blk.alloc (Blk.alloc (Blk.at_ (by (try simp only [size_alloc])) _ _) _) _) _)
  have HBX1 := Lib.hid (show Blk w1 (w.heap.size + 1 + 1) 76 (carA x) by rw [hw1]; exact Blk.alloc (Blk.alloc (Blk.at_ (by (try simp only [size_alloc])) _ _) _) _)
  have HBM1 := Lib.hid (show Blk w1 (w.heap.size + 1 + 1 + 1) 85 (msgC m) by rw [hw1]; exact Blk.alloc (Blk.at_ (by (try simp only [size_alloc])) _ _) _)
  have HBR1 := Lib.hid (show Blk w1 (w.heap.size + 1 + 1 + 1 + 1) 56 #[.int .i64 0, .int .i64 0, .int .i64 0, .int .i64 0, .int .i64 0, .int .i64 0, .int .i64 0, .int .i64 0, .int .i64 0, .int .i64 0] by rw [hw1]; exact Blk.at_ (by (try simp only [size_alloc])) _ _)
  have HS1 := Lib.hid (show Since w w1 by rw [hw1]; exact Since.alloc (Since.alloc (Since.alloc (Since.alloc (Since.alloc (Since.refl w) _) _) _) _) _)
  have hNE : w.heap.size ≤ w.heap.size ∧ w.heap.size < w.heap.size + 1 ∧ w.heap.size + 1 < w.heap.size + 1 + 1 ∧ w.heap.size + 1 + 1 < w.heap.size + 1 + 1 + 1 ∧ w.heap.size + 1 + 1 + 1 < w.heap.size + 1 + 1 + 1 + 1 := by omega
  have HNE := Lib.hid hNE
  clear hNE hw1
  generalize w.heap.size + 1 + 1 + 1 + 1 = bR at *
  generalize w.heap.size + 1 + 1 + 1 = bM at *
  generalize w.heap.size + 1 + 1 = bX at *
  generalize w.heap.size + 1 = bL at *
  have HNE3 := Lib.hid (show w.heap.size ≤ w.heap.size ∧ w.heap.size < bL ∧ bL < bX ∧ bX < bM ∧ bM < bR from HNE.out)
  clear HNE
  refine wp_region_lit ?_
  refine wpList_q (by rfl) (.pointer (some ⟨bM, 0, none⟩)) ?he ?_
  case he => (first | rfl | (go_simp; (try with_reducible rfl)))
  (try simp only [Act.put, sA, sB, sC])
  refine wpList_q (by rfl) (.int .i64 m.ki) ?he ?_
  case he => exact exec_cell 3 _ _ HBM1.out rfl rfl rfl Try.underlying3 rfl
  (try simp only [Act.put, sA, sB, sC])
  refine wpList_q (by rfl) (.bool true) ?he ?_
  case he => (have hq := H0.out; go_simp; (try with_reducible rfl))
  (try simp only [Act.put, sA, sB, sC])
  refine wpList_q (by rfl) (.bool true) ?he ?_
  case he => (first | rfl | (go_simp; (try with_reducible rfl)))
  (try simp only [Act.put, sA, sB, sC])
  refine wpList_q (by rfl) (.pointer (some ⟨bL, 6, none⟩)) ?he ?_
  case he => (first | rfl | (go_simp; (try with_reducible rfl)))
  (try simp only [Act.put, sA, sB, sC])
  refine wpList_q (by rfl) (.int .i64 l.ph) ?he ?_
  case he => exact exec_cell 3 _ _ HBL1.out rfl rfl rfl Try.underlying3 rfl
  (try simp only [Act.put, sA, sB, sC])
  refine wpList_q (by rfl) (.bool true) ?he ?_
  case he => (have hq := H1.out; go_simp; (try with_reducible rfl))
  (try simp only [Act.put, sA, sB, sC])
  refine wpList_q (by rfl) (.bool true) ?he ?_
  case he => (first | rfl | (go_simp; (try with_reducible rfl)))
  (try simp only [Act.put, sA, sB, sC])
  refine wpList_q (by rfl) (.bool true) ?he ?_
  case he => (first | rfl | (go_simp; (try with_reducible rfl)))
  (try simp only [Act.put, sA, sB, sC])
  refine wpList_nil ?_
  go_upto_region 2 with fail
  have hrK : ∀ W W' : World, Since W W' → (Since w W ∧ Blk W w.heap.size 23 (cfgA c) ∧ Blk W bL 56 (leaA l) ∧ Blk W bX 76 (carA x) ∧ Blk W bM 85 (msgC m) ∧ Blk W bR 56 #[.int .i64 0, .int .i64 0, .int .i64 0, .int .i64 0, .int .i64 0, .int .i64 0, .int .i64 0, .int .i64 0, .int .i64 0, .int .i64 0]) → (Since w W' ∧ Blk W' w.heap.size 23 (cfgA c) ∧ Blk W' bL 56 (leaA l) ∧ Blk W' bX 76 (carA x) ∧ Blk W' bM 85 (msgC m) ∧ Blk W' bR 56 #[.int .i64 0, .int .i64 0, .int .i64 0, .int .i64 0, .int .i64 0, .int .i64 0, .int .i64 0, .int .i64 0, .int .i64 0, .int .i64 0]) := fun W W' k ⟨h, h0, h1, h2, h3, h4⟩ => ⟨h.trans k, keep_blk k h0, keep_blk k h1, keep_blk k h2, keep_blk k h3, keep_blk k h4⟩
  have hrS : (fun W : World => Since w W ∧ Blk W w.heap.size 23 (cfgA c) ∧ Blk W bL 56 (leaA l) ∧ Blk W bX 76 (carA x) ∧ Blk W bM 85 (msgC m) ∧ Blk W bR 56 #[.int .i64 0, .int .i64 0, .int .i64 0, .int .i64 0, .int .i64 0, .int .i64 0, .int .i64 0, .int .i64 0, .int .i64 0, .int .i64 0]) w1 := ⟨HS1.out, HBC1.out, HBL1.out, HBX1.out, HBM1.out, HBR1.out⟩
  have HRK := Lib.hid hrK
  have HRD := Lib.hid (show (fun W : World => Since w W ∧ Blk W w.heap.size 23 (cfgA c) ∧ Blk W bL 56 (leaA l) ∧ Blk W bX 76 (carA x) ∧ Blk W bM 85 (msgC m) ∧ Blk W bR 56 #[.int .i64 0, .int .i64 0, .int .i64 0, .int .i64 0, .int .i64 0, .int .i64 0, .int .i64 0, .int .i64 0, .int .i64 0, .int .i64 0]) (World.drew w1) from ⟨Since.drew hrS.1, hrS.2⟩)
  clear hrK hrS
  refine wp_region_held_drew (S := fun W : World => Since w W ∧ Blk W w.heap.size 23 (cfgA c) ∧ Blk W bL 56 (leaA l) ∧ Blk W bX 76 (carA x) ∧ Blk W bM 85 (msgC m) ∧ Blk W bR 56 #[.int .i64 0, .int .i64 0, .int .i64 0, .int .i64 0, .int .i64 0, .int .i64 0, .int .i64 0, .int .i64 0, .int .i64 0, .int .i64 0]) (by kernel_rfl) HRD.out (fun hHeld => ?_)
  refine wpAnyH_take (i := 0) (oi := ?o2__0) (v := .pointer (some ⟨bX, 6, none⟩)) ?h2__0 (by kernel_rfl) (by kernel_rfl) (by kernel_rfl) ?q2__0 ?y2__0 (by assumption) ?_
  case h2__0 => (first | (simp only [gA, gB, gC]; done) | (simp only [gA, gB, gC]; exact rfl))
  case q2__0 => exact fun _ _ _ h => h
  case y2__0 => (refine Or.inl ⟨rfl, ?_⟩; intro w hSw; (first | rfl | (go_simp; (try with_reducible rfl))))
  (try simp only [Act.put, sA, sB, sC])
  refine wpAnyH_take (i := 1) (oi := ?o2__1) (v := .int .i64 x.lo) ?h2__1 (by kernel_rfl) (by kernel_rfl) (by kernel_rfl) ?q2__1 ?y2__1 (by assumption) ?_
  case h2__1 => (first | (simp only [gA, gB, gC]; done) | (simp only [gA, gB, gC]; exact rfl))
  case q2__1 => exact fun _ _ _ h => h
  case y2__1 => (refine Or.inl ⟨rfl, ?_⟩; intro w hSw; exact exec_cell 3 _ _ hSw.2.2.2.1 rfl rfl rfl Try.underlying3 rfl)
  (try simp only [Act.put, sA, sB, sC])
  refine wpAnyH_take (i := 3) (oi := ?o2__3) (v := .pointer (some ⟨bL, 0, none⟩)) ?h2__3 (by kernel_rfl) (by kernel_rfl) (by kernel_rfl) ?q2__3 ?y2__3 (by assumption) ?_
  case h2__3 => (first | (simp only [gA, gB, gC]; done) | (simp only [gA, gB, gC]; exact rfl))
  case q2__3 => exact fun _ _ _ h => h
  case y2__3 => (refine Or.inl ⟨rfl, ?_⟩; intro w hSw; (first | rfl | (go_simp; (try with_reducible rfl))))
  (try simp only [Act.put, sA, sB, sC])
  refine wpAnyH_take (i := 4) (oi := ?o2__4) (v := .pointer (some ⟨bL, 4, none⟩)) ?h2__4 (by kernel_rfl) (by kernel_rfl) (by kernel_rfl) ?q2__4 ?y2__4 (by assumption) ?_
  case h2__4 => (first | (simp only [gA, gB, gC]; done) | (simp only [gA, gB, gC]; exact rfl))
  case q2__4 => exact fun _ _ _ h => h
  case y2__4 => (refine Or.inl ⟨rfl, ?_⟩; intro w hSw; (first | rfl | (go_simp; (try with_reducible rfl))))
  (try simp only [Act.put, sA, sB, sC])
  refine wpAnyH_take (i := 5) (oi := ?o2__5) (v := .int .i64 l.ma) ?h2__5 (by kernel_rfl) (by kernel_rfl) (by kernel_rfl) ?q2__5 ?y2__5 (by assumption) ?_
  case h2__5 => (first | (simp only [gA, gB, gC]; done) | (simp only [gA, gB, gC]; exact rfl))
  case q2__5 => exact fun _ _ _ h => h
  case y2__5 => (refine Or.inl ⟨rfl, ?_⟩; intro w hSw; exact exec_cell 3 _ _ hSw.2.2.1 rfl rfl rfl Try.underlying3 rfl)
  (try simp only [Act.put, sA, sB, sC])
  refine wpAnyH_ready (rs := [2]) (by kernel_rfl) (by simp) ?_
  refine AllReadyH.cons (o := ?o2__2) ?h2__2 (fun K hK => ?_) AllReadyH.nil
  case h2__2 => (first | (simp only [gA, gB, gC]; done) | (simp only [gA, gB, gC]; exact rfl))
  (try go_simp)
  refine (massR _ _).mono ?_
  rintro e w' ⟨rfl, rfl⟩
  (try go_wp2_with fail)
  refine hK.out _ _ hHeld (fun hHeld2 => ?_)
  clear hK K hHeld2
  (try simp only [Act.put, sA, sB, sC])
  refine wpAnyH_ready (rs := [6]) (by kernel_rfl) (by simp) ?_
  refine AllReadyH.cons (o := ?o2__6) ?h2__6 (fun K hK => ?_) AllReadyH.nil
  case h2__6 => (first | (simp only [gA, gB, gC]; done) | (simp only [gA, gB, gC]; exact rfl))
  (try go_simp)
  refine (massR _ _).mono ?_
  rintro e w' ⟨rfl, rfl⟩
  (try go_wp2_with fail)
  refine hK.out _ _ hHeld (fun hHeld2 => ?_)
  clear hK K hHeld2
  (try simp only [Act.put, sA, sB, sC])
  refine wpAnyH_take (i := 7) (oi := ?o2__7) (v := .int .i64 (ms x.lo - ms l.ma)) ?h2__7 (by kernel_rfl) (by kernel_rfl) (by kernel_rfl) ?q2__7 ?y2__7 (by assumption) ?_
  case h2__7 => (first | (simp only [gA, gB, gC]; done) | (simp only [gA, gB, gC]; exact rfl))
  case q2__7 => exact fun _ _ _ h => h
  case y2__7 => (refine Or.inl ⟨rfl, ?_⟩; intro w hSw; (have q0 := G1.out; have q1 := G2.out; have q2 := G3.out; have q3 := G4.out; have q := wr (ms x.lo - ms l.ma) (by omega) (by omega); clear q0 q1 q2 q3; go_simp; (try rw [q]); (try rfl)))
  (try simp only [Act.put, sA, sB, sC])
  refine wpAnyH_take (i := 8) (oi := ?o2__8) (v := .int .i64 (ms x.lo - ms l.ma)) ?h2__8 (by kernel_rfl) (by kernel_rfl) (by kernel_rfl) ?q2__8 ?y2__8 (by assumption) ?_
  case h2__8 => (first | (simp only [gA, gB, gC]; done) | (simp only [gA, gB, gC]; exact rfl))
  case q2__8 => exact fun _ _ _ h => h
  case y2__8 => (refine Or.inl ⟨rfl, ?_⟩; intro w hSw; (first | rfl | (go_simp; (try with_reducible rfl))))
  (try simp only [Act.put, sA, sB, sC])
  refine wpAnyH_done (by kernel_rfl) ?_ _
  have HSd2 := Lib.hid hHeld.1
  have HBCd2 := Lib.hid (hHeld.2.1)
  have HBLd2 := Lib.hid (hHeld.2.2.1)
  have HBXd2 := Lib.hid (hHeld.2.2.2.1)
  have HBMd2 := Lib.hid (hHeld.2.2.2.2.1)
  have HBRd2 := Lib.hid (hHeld.2.2.2.2.2)
  clear hHeld HRK HRD HS1 HBC1 HBL1 HBX1 HBM1 HBR1
  go_upto_region 3 with fail
  refine wp_region_lit ?_
  refine wpList_q (by rfl) (.int .i64 (ms x.lo - ms l.ma)) ?he ?_
  case he => (first | rfl | (go_simp; (try with_reducible rfl)))
  (try simp only [Act.put, sA, sB, sC])
  refine wpList_q (by rfl) (.bool false) ?he ?_
  case he => (go_simp; (have q := H2.out; omega))
  (try simp only [Act.put, sA, sB, sC])
  refine wpList_nil ?_
  go_upto_region 5 with fail
  refine wp_region_lit ?_
  refine wpList_q (by rfl) (.int .i64 (ms x.lo - ms l.ma)) ?he ?_
  case he => (first | rfl | (go_simp; (try with_reducible rfl)))
  (try simp only [Act.put, sA, sB, sC])
  refine wpList_q (by rfl) (.pointer (some ⟨w.heap.size, 12, none⟩)) ?he ?_
  case he => (first | rfl | (go_simp; (try with_reducible rfl)))
  (try simp only [Act.put, sA, sB, sC])
  refine wpList_q (by rfl) (.int .i64 c.sl) ?he ?_
  case he => exact exec_cell 3 _ _ HBCd2.out rfl rfl rfl Try.underlying3 rfl
  (try simp only [Act.put, sA, sB, sC])
  refine wpList_wp (by rfl) (fun K hK => ?_)
  (try go_simp)
  refine (massR _ _).mono ?_
  rintro e w' ⟨rfl, rfl⟩
  (try go_wp2_with fail)
  refine hK.out _ _ ?_
  clear hK K
  (try simp only [Act.put, sA, sB, sC])
  refine wpList_q (by rfl) (.bool false) ?he ?_
  case he => (go_simp; (have q := H3.out; omega))
  (try simp only [Act.put, sA, sB, sC])
  refine wpList_nil ?_
  go_upto_region 7 with fail
  refine wp_region_lit ?_
  refine wpList_q (by rfl) (.int .i64 now) ?he ?_
  case he => (first | rfl | (go_simp; (try with_reducible rfl)))
  (try simp only [Act.put, sA, sB, sC])
  refine wpList_q (by rfl) (.agg (cfgA c)) ?he ?_
  case he => exact exec_load_row 23 _ _ HBCd2.out rfl rfl Try.underlying23 rfl (by kernel_rfl)
  (try simp only [Act.put, sA, sB, sC])
  refine wpList_wp (by rfl) (fun K hK => ?_)
  (try go_simp)
  refine (tripR c _).mono ?_
  rintro e w2 ⟨rfl, hb⟩
  (try go_wp2_with fail)
  refine hK.out _ _ ?_
  clear hK K
  (try simp only [Act.put, sA, sB, sC])
  have HS2 := Lib.hid (Since.trans HSd2.out hb)
  have HBC2 := Lib.hid (keep_blk hb HBCd2.out)
  have HBL2 := Lib.hid (keep_blk hb HBLd2.out)
  have HBX2 := Lib.hid (keep_blk hb HBXd2.out)
  have HBM2 := Lib.hid (keep_blk hb HBMd2.out)
  have HBR2 := Lib.hid (keep_blk hb HBRd2.out)
  clear HSd2 HBCd2 HBLd2 HBXd2 HBMd2 HBRd2
  clear hb
  refine wpList_wp (by rfl) (fun K hK => ?_)
  (try go_simp)
  refine (addR _ _ _).mono ?_
  rintro e w' ⟨rfl, rfl⟩
  (try go_wp2_with fail)
  refine hK.out _ _ ?_
  clear hK K
  (try simp only [Act.put, sA, sB, sC])
  refine wpList_q (by rfl) (.pointer (some ⟨bL, 6, none⟩)) ?he ?_
  case he => (first | rfl | (go_simp; (try with_reducible rfl)))
  (try simp only [Act.put, sA, sB, sC])
  refine wpList_wp (by rfl) (fun K hK => ?_)
  refine wp_st_cell 3 _ _ rfl #[.int .i64 l.se, .int .i64 l.fl, .int .i64 l.fm, .int .i64 l.to, .int .i64 l.ma, .int .i64 l.ca, .int .i64 3, .int .i64 l.un, .int .i64 l.re, .int .i64 l.gr] (.int .i64 3) rfl rfl HBL2.out (by show 6 < 10; decide) rfl (by first | rfl | simp [Value.oneCell']) (by kernel_rfl) ?_
  intro w3 hw
  refine hK.out _ _ ?_
  clear hK K
  (try simp only [Act.put, sA, sB, sC])
  have HS3 := Lib.hid (show Since w w3 by rw [hw]; exact Since.setRow HS2.out (by have := HNE3.out; omega) _)
  have HBC3 := Lib.hid (show Blk w3 w.heap.size 23 (cfgA c) by rw [hw]; exact Blk.row_far HBC2.out (by have := HNE3.out; omega) _)
  have HBL3 := Lib.hid (show Blk w3 bL 56 #[.int .i64 l.se, .int .i64 l.fl, .int .i64 l.fm, .int .i64 l.to, .int .i64 l.ma, .int .i64 l.ca, .int .i64 3, .int .i64 l.un, .int .i64 l.re, .int .i64 l.gr] by rw [hw]; exact Blk.row HBL2.out _)
  have HBX3 := Lib.hid (show Blk w3 bX 76 (carA x) by rw [hw]; exact Blk.row_far HBX2.out (by have := HNE3.out; omega) _)
  have HBM3 := Lib.hid (show Blk w3 bM 85 (msgC m) by rw [hw]; exact Blk.row_far HBM2.out (by have := HNE3.out; omega) _)
  have HBR3 := Lib.hid (show Blk w3 bR 56 #[.int .i64 0, .int .i64 0, .int .i64 0, .int .i64 0, .int .i64 0, .int .i64 0, .int .i64 0, .int .i64 0, .int .i64 0, .int .i64 0] by rw [hw]; exact Blk.row_far HBR2.out (by have := HNE3.out; omega) _)
  clear hw HS2 HBC2 HBL2 HBX2 HBM2 HBR2
  refine wpList_q (by rfl) (.pointer (some ⟨bL, 7, none⟩)) ?he ?_
  case he => (first | rfl | (go_simp; (try with_reducible rfl)))
  (try simp only [Act.put, sA, sB, sC])
  refine wpList_wp (by rfl) (fun K hK => ?_)
  refine wp_st_cell 3 _ _ rfl #[.int .i64 l.se, .int .i64 l.fl, .int .i64 l.fm, .int .i64 l.to, .int .i64 l.ma, .int .i64 l.ca, .int .i64 3, .int .i64 (cl (cl now + cl (trV c))), .int .i64 l.re, .int .i64 l.gr] (.int .i64 (cl (cl now + cl (trV c)))) rfl rfl HBL3.out (by show 7 < 10; decide) rfl (by first | rfl | simp [Value.oneCell']) (by kernel_rfl) ?_
  intro w4 hw
  refine hK.out _ _ ?_
  clear hK K
  (try simp only [Act.put, sA, sB, sC])
  have HS4 := Lib.hid (show Since w w4 by rw [hw]; exact Since.setRow HS3.out (by have := HNE3.out; omega) _)
  have HBC4 := Lib.hid (show Blk w4 w.heap.size 23 (cfgA c) by rw [hw]; exact Blk.row_far HBC3.out (by have := HNE3.out; omega) _)
  have HBL4 := Lib.hid (show Blk w4 bL 56 #[.int .i64 l.se, .int .i64 l.fl, .int .i64 l.fm, .int .i64 l.to, .int .i64 l.ma, .int .i64 l.ca, .int .i64 3, .int .i64 (cl (cl now + cl (trV c))), .int .i64 l.re, .int .i64 l.gr] by rw [hw]; exact Blk.row HBL3.out _)
  have HBX4 := Lib.hid (show Blk w4 bX 76 (carA x) by rw [hw]; exact Blk.row_far HBX3.out (by have := HNE3.out; omega) _)
  have HBM4 := Lib.hid (show Blk w4 bM 85 (msgC m) by rw [hw]; exact Blk.row_far HBM3.out (by have := HNE3.out; omega) _)
  have HBR4 := Lib.hid (show Blk w4 bR 56 #[.int .i64 0, .int .i64 0, .int .i64 0, .int .i64 0, .int .i64 0, .int .i64 0, .int .i64 0, .int .i64 0, .int .i64 0, .int .i64 0] by rw [hw]; exact Blk.row_far HBR3.out (by have := HNE3.out; omega) _)
  clear hw HS3 HBC3 HBL3 HBX3 HBM3 HBR3
  refine wpList_nil ?_
  go_upto_region 8 with fail
  refine wp_region_lit ?_
  refine wpList_q (by rfl) (.agg #[.int .i64 l.se, .int .i64 l.fl, .int .i64 l.fm, .int .i64 l.to, .int .i64 l.ma, .int .i64 l.ca, .int .i64 3, .int .i64 (cl (cl now + cl (trV c))), .int .i64 l.re, .int .i64 l.gr]) ?he ?_
  case he => exact exec_load_row 56 _ _ HBL4.out rfl rfl Try.underlying56 rfl (by kernel_rfl)
  (try simp only [Act.put, sA, sB, sC])
  refine wpList_q (by rfl) (.agg #[.int .i64 10, .int .i64 0, .int .i64 0, .int .i64 0]) ?he ?_
  case he => kernel_rfl
  (try simp only [Act.put, sA, sB, sC])
  refine wpList_wp (by rfl) (fun K hK => ?_)
  refine wp_new (fun b => .slice (some ⟨b, 0, none⟩) 1 1) 85 #[.int .i64 10, .int .i64 0, .int .i64 0, .int .i64 0] (by rintro b rfl; first | rfl | kernel_rfl) ?_
  intro bn54 w5 hge hB hb
  refine hK.out _ _ ?_
  clear hK K
  (try simp only [Act.put, sA, sB, sC])
  have HNn54C := Lib.hid (show bn54 ≠ w.heap.size by have := Blk.lt HBC4.out; omega)
  have HNn54L := Lib.hid (show bn54 ≠ bL by have := Blk.lt HBL4.out; omega)
  have HNn54X := Lib.hid (show bn54 ≠ bX by have := Blk.lt HBX4.out; omega)
  have HNn54M := Lib.hid (show bn54 ≠ bM by have := Blk.lt HBM4.out; omega)
  have HNn54R := Lib.hid (show bn54 ≠ bR by have := Blk.lt HBR4.out; omega)
  have HGn54 := Lib.hid (show w.heap.size ≤ bn54 by have := Since.size HS4.out; omega)
  have HS5 := Lib.hid (Since.trans HS4.out hb)
  have HBC5 := Lib.hid (keep_blk hb HBC4.out)
  have HBL5 := Lib.hid (keep_blk hb HBL4.out)
  have HBX5 := Lib.hid (keep_blk hb HBX4.out)
  have HBM5 := Lib.hid (keep_blk hb HBM4.out)
  have HBR5 := Lib.hid (keep_blk hb HBR4.out)
  clear HS4 HBC4 HBL4 HBX4 HBM4 HBR4
  clear hb hge
  have HBn545 := Lib.hid hB
  clear hB
  refine wpList_wp (by rfl) (fun K hK => ?_)
  refine wp_st_row 56 _ _ rfl #[.int .i64 l.se, .int .i64 l.fl, .int .i64 l.fm, .int .i64 l.to, .int .i64 l.ma, .int .i64 l.ca, .int .i64 3, .int .i64 (cl (cl now + cl (trV c))), .int .i64 l.re, .int .i64 l.gr] rfl rfl (HasRow.of HBR5.out rfl) rfl (by simp [cfgA, leaA, carA, msgC, Value.oneCell']) (by kernel_rfl) ?_
  intro w6 hw
  refine hK.out _ _ ?_
  clear hK K
  (try simp only [Act.put, sA, sB, sC])
  have HS6 := Lib.hid (show Since w w6 by rw [hw]; exact Since.setRow HS5.out (by have := HNE3.out; omega) _)
  have HBC6 := Lib.hid (show Blk w6 w.heap.size 23 (cfgA c) by rw [hw]; exact Blk.row_far HBC5.out (by have := HNE3.out; omega) _)
  have HBL6 := Lib.hid (show Blk w6 bL 56 #[.int .i64 l.se, .int .i64 l.fl, .int .i64 l.fm, .int .i64 l.to, .int .i64 l.ma, .int .i64 l.ca, .int .i64 3, .int .i64 (cl (cl now + cl (trV c))), .int .i64 l.re, .int .i64 l.gr] by rw [hw]; exact Blk.row_far HBL5.out (by have := HNE3.out; omega) _)
  have HBX6 := Lib.hid (show Blk w6 bX 76 (carA x) by rw [hw]; exact Blk.row_far HBX5.out (by have := HNE3.out; omega) _)
  have HBM6 := Lib.hid (show Blk w6 bM 85 (msgC m) by rw [hw]; exact Blk.row_far HBM5.out (by have := HNE3.out; omega) _)
  have HBR6 := Lib.hid (show Blk w6 bR 56 #[.int .i64 l.se, .int .i64 l.fl, .int .i64 l.fm, .int .i64 l.to, .int .i64 l.ma, .int .i64 l.ca, .int .i64 3, .int .i64 (cl (cl now + cl (trV c))), .int .i64 l.re, .int .i64 l.gr] by rw [hw]; exact Blk.row HBR5.out _)
  have HBn546 := Lib.hid (show Blk w6 bn54 85 #[.int .i64 10, .int .i64 0, .int .i64 0, .int .i64 0] by rw [hw]; exact Blk.row_far HBn545.out HNn54R.out _)
  clear hw HS5 HBC5 HBL5 HBX5 HBM5 HBR5 HBn545
  refine wpList_q (by rfl) (.slice (some ⟨bn54, 0, none⟩) 1 1) ?he ?_
  case he => (first | rfl | (go_simp; (try with_reducible rfl)))
  (try simp only [Act.put, sA, sB, sC])
  refine wpList_q (by rfl) (.bool false) ?he ?_
  case he => (first | rfl | (go_simp; (try with_reducible rfl)))
  (try simp only [Act.put, sA, sB, sC])
  refine wpList_nil ?_
  (try go_wp2_with fail)
  exact bodyPost_ret (results_row3 rfl _ _ bR 56 #[.int .i64 l.se, .int .i64 l.fl, .int .i64 l.fm, .int .i64 l.to, .int .i64 l.ma, .int .i64 l.ca, .int .i64 3, .int .i64 (cl (cl now + cl (trV c))), .int .i64 l.re, .int .i64 l.gr] _ (.slice (some ⟨bn54, 0, none⟩) 1 1) (.bool false) rfl rfl rfl HBR6.out Try.underlying56 rfl (by kernel_rfl)) rfl ⟨.slice (some ⟨bn54, 0, none⟩) 1 1, rfl, ⟨bn54, rfl, HGn54.out, HBn546.out⟩, HS6.out⟩
set_option maxHeartbeats 4000000 in
theorem hearR13 (c : CfgV) (l : LeaseV) (x : CarV) (now : Int) (m : MsgV) (h0 : (m.ki == 9) = false) (h1 : (m.ki == 13) = true) (h2 : (l.ph == 4) = true) (w : World) : Calls Try.prog 58 #[.agg #[.int .i64 c.ca, .int .i64 c.fl, .int .i64 c.ft, .int .i64 c.se, .int .i64 c.dr, .int .i64 c.dw, .int .i64 c.ho, .int .i64 c.re, .int .i64 c.yi, .int .i64 c.qu, .int .i64 c.qo, .int .i64 c.lo, .int .i64 c.sl, .int .i64 c.rt, .int .i64 c.cp, .int .i64 c.tr, .int .i64 c.de, .int .i64 c.wi], .agg #[.int .i64 l.se, .int .i64 l.fl, .int .i64 l.fm, .int .i64 l.to, .int .i64 l.ma, .int .i64 l.ca, .int .i64 l.ph, .int .i64 l.un, .int .i64 l.re, .int .i64 l.gr], .agg #[.int .i64 x.ds, .int .i64 x.da, .int .i64 x.un, .int .i64 x.wy, .int .i64 x.ti, .int .i64 x.ju, .int .i64 x.lo, .bool x.bl, .bool x.br, .int .i64 x.mo, .int .i64 x.ta, .bool x.ho, .int .u64 x.sp, .int .u64 x.su, .int .u64 x.sd], .int .i64 now, .agg (msgC m)] w (Said w (⟨l.se, l.fl, l.fm, l.to, l.ma, l.ca, l.ph, l.un, l.re, l.gr⟩, some ⟨14, 0, 0, 0⟩, true)) := by
  have H0 := Lib.hid h0
  clear h0
  have H1 := Lib.hid h1
  clear h1
  have H2 := Lib.hid h2
  clear h2
  go_enter Try.func58, Try.ntmps58
  go_upto_region 1 with fail
  obtain ⟨w1, hw1⟩ : ∃ w1, w1 = (((((w.alloc (.cells #[.int .i64 c.ca, .int .i64 c.fl, .int .i64 c.ft, .int .i64 c.se, .int .i64 c.dr, .int .i64 c.dw, .int .i64 c.ho, .int .i64 c.re, .int .i64 c.yi, .int .i64 c.qu, .int .i64 c.qo, .int .i64 c.lo, .int .i64 c.sl, .int .i64 c.rt, .int .i64 c.cp, .int .i64 c.tr, .int .i64 c.de, .int .i64 c.wi] 23)).alloc (.cells #[.int .i64 l.se, .int .i64 l.fl, .int .i64 l.fm, .int .i64 l.to, .int .i64 l.ma, .int .i64 l.ca, .int .i64 l.ph, .int .i64 l.un, .int .i64 l.re, .int .i64 l.gr] 56)).alloc (.cells #[.int .i64 x.ds, .int .i64 x.da, .int .i64 x.un, .int .i64 x.wy, .int .i64 x.ti, .int .i64 x.ju, .int .i64 x.lo, .bool x.bl, .bool x.br, .int .i64 x.mo, .int .i64 x.ta, .bool x.ho, .int .u64 x.sp, .int .u64 x.su, .int .u64 x.sd] 76)).alloc (.cells (msgC m) 85)).alloc (.cells #[.int .i64 0, .int .i64 0, .int .i64 0, .int .i64 0, .int .i64 0, .int .i64 0, .int .i64 0, .int .i64 0, .int .i64 0, .int .i64 0] 56)) := ⟨_, rfl⟩
  rw [← hw1]
  have HBC1 := Lib.hid (show Blk w1 (w.heap.size) 23 (cfgA c) by rw [hw1]; exact Blk.alloc (Blk.alloc (Blk.alloc (Blk.alloc (Blk.at_ (by (try simp only [size_alloc])) _ _) _) _) _) _)
  have HBL1 := Lib.hid (show Blk w1 (w.heap.size + 1) 56 (leaA l) by rw [hw1]; exact Blk.alloc (Blk.alloc (Blk.alloc (Blk.at_ (by (try simp only [size_alloc])) _ _) _) _) _)
  have HBX1 := Lib.hid (show Blk w1 (w.heap.size + 1 + 1) 76 (carA x) by rw [hw1]; exact Blk.alloc (Blk.alloc (Blk.at_ (by (try simp only [size_alloc])) _ _) _) _)
  have HBM1 := Lib.hid (show Blk w1 (w.heap.size + 1 + 1 + 1) 85 (msgC m) by rw [hw1]; exact Blk.alloc (Blk.at_ (by (try simp only [size_alloc])) _ _) _)
  have HBR1 := Lib.hid (show Blk w1 (w.heap.size + 1 + 1 + 1 + 1) 56 #[.int .i64 0, .int .i64 0, .int .i64 0, .int .i64 0, .int .i64 0, .int .i64 0, .int .i64 0, .int .i64 0, .int .i64 0, .int .i64 0] by rw [hw1]; exact Blk.at_ (by (try simp only [size_alloc])) _ _)
  have HS1 := Lib.hid (show Since w w1 by rw [hw1]; exact Since.alloc (Since.alloc (Since.alloc (Since.alloc (Since.alloc (Since.refl w) _) _) _) _) _)
  have hNE : w.heap.size ≤ w.heap.size ∧ w.heap.size < w.heap.size + 1 ∧ w.heap.size + 1 < w.heap.size + 1 + 1 ∧ w.heap.size + 1 + 1 < w.heap.size + 1 + 1 + 1 ∧ w.heap.size + 1 + 1 + 1 < w.heap.size + 1 + 1 + 1 + 1 := by omega
  have HNE := Lib.hid hNE
  clear hNE hw1
  generalize w.heap.size + 1 + 1 + 1 + 1 = bR at *
  generalize w.heap.size + 1 + 1 + 1 = bM at *
  generalize w.heap.size + 1 + 1 = bX at *
  generalize w.heap.size + 1 = bL at *
  have HNE3 := Lib.hid (show w.heap.size ≤ w.heap.size ∧ w.heap.size < bL ∧ bL < bX ∧ bX < bM ∧ bM < bR from HNE.out)
  clear HNE
  refine wp_region_lit ?_
  refine wpList_q (by rfl) (.pointer (some ⟨bM, 0, none⟩)) ?he ?_
  case he => (first | rfl | (go_simp; (try with_reducible rfl)))
  (try simp only [Act.put, sA, sB, sC])
  refine wpList_q (by rfl) (.int .i64 m.ki) ?he ?_
  case he => exact exec_cell 3 _ _ HBM1.out rfl rfl rfl Try.underlying3 rfl
  (try simp only [Act.put, sA, sB, sC])
  refine wpList_q (by rfl) (.bool false) ?he ?_
  case he => (have hq := H0.out; go_simp; (try with_reducible rfl))
  (try simp only [Act.put, sA, sB, sC])
  refine wpList_q (by rfl) (.bool false) ?he ?_
  case he => (first | rfl | (go_simp; (try with_reducible rfl)))
  (try simp only [Act.put, sA, sB, sC])
  refine wpList_no (by rfl) ?_
  (try simp only [Act.put, sA, sB, sC])
  refine wpList_no (by rfl) ?_
  (try simp only [Act.put, sA, sB, sC])
  refine wpList_no (by rfl) ?_
  (try simp only [Act.put, sA, sB, sC])
  refine wpList_q (by rfl) (.bool false) ?he ?_
  case he => (first | rfl | (go_simp; (try with_reducible rfl)))
  (try simp only [Act.put, sA, sB, sC])
  refine wpList_q (by rfl) (.bool false) ?he ?_
  case he => (first | rfl | (go_simp; (try with_reducible rfl)))
  (try simp only [Act.put, sA, sB, sC])
  refine wpList_nil ?_
  go_upto_region 9 with fail
  refine wp_region_lit ?_
  refine wpList_q (by rfl) (.pointer (some ⟨bM, 0, none⟩)) ?he ?_
  case he => (first | rfl | (go_simp; (try with_reducible rfl)))
  (try simp only [Act.put, sA, sB, sC])
  refine wpList_q (by rfl) (.int .i64 m.ki) ?he ?_
  case he => exact exec_cell 3 _ _ HBM1.out rfl rfl rfl Try.underlying3 rfl
  (try simp only [Act.put, sA, sB, sC])
  refine wpList_q (by rfl) (.bool true) ?he ?_
  case he => (have hq := H1.out; go_simp; (try with_reducible rfl))
  (try simp only [Act.put, sA, sB, sC])
  refine wpList_q (by rfl) (.bool true) ?he ?_
  case he => (first | rfl | (go_simp; (try with_reducible rfl)))
  (try simp only [Act.put, sA, sB, sC])
  refine wpList_q (by rfl) (.pointer (some ⟨bL, 6, none⟩)) ?he ?_
  case he => (first | rfl | (go_simp; (try with_reducible rfl)))
  (try simp only [Act.put, sA, sB, sC])
  refine wpList_q (by rfl) (.int .i64 l.ph) ?he ?_
  case he => exact exec_cell 3 _ _ HBL1.out rfl rfl rfl Try.underlying3 rfl
  (try simp only [Act.put, sA, sB, sC])
  refine wpList_q (by rfl) (.bool true) ?he ?_
  case he => (have hq := H2.out; go_simp; (try with_reducible rfl))
  (try simp only [Act.put, sA, sB, sC])
  refine wpList_q (by rfl) (.bool true) ?he ?_
  case he => (first | rfl | (go_simp; (try with_reducible rfl)))
  (try simp only [Act.put, sA, sB, sC])
  refine wpList_q (by rfl) (.bool true) ?he ?_
  case he => (first | rfl | (go_simp; (try with_reducible rfl)))
  (try simp only [Act.put, sA, sB, sC])
  refine wpList_nil ?_
  go_upto_region 10 with fail
  refine wp_region_lit ?_
  refine wpList_q (by rfl) (.agg (leaA l)) ?he ?_
  case he => exact exec_load_row 56 _ _ HBL1.out rfl rfl Try.underlying56 rfl (by kernel_rfl)
  (try simp only [Act.put, sA, sB, sC])
  refine wpList_q (by rfl) (.agg #[.int .i64 14, .int .i64 0, .int .i64 0, .int .i64 0]) ?he ?_
  case he => kernel_rfl
  (try simp only [Act.put, sA, sB, sC])
  refine wpList_wp (by rfl) (fun K hK => ?_)
  refine wp_new (fun b => .slice (some ⟨b, 0, none⟩) 1 1) 85 #[.int .i64 14, .int .i64 0, .int .i64 0, .int .i64 0] (by rintro b rfl; first | rfl | kernel_rfl) ?_
  intro bn66 w2 hge hB hb
  refine hK.out _ _ ?_
  clear hK K
  (try simp only [Act.put, sA, sB, sC])
  have HNn66C := Lib.hid (show bn66 ≠ w.heap.size by have := Blk.lt HBC1.out; omega)
  have HNn66L := Lib.hid (show bn66 ≠ bL by have := Blk.lt HBL1.out; omega)
  have HNn66X := Lib.hid (show bn66 ≠ bX by have := Blk.lt HBX1.out; omega)
  have HNn66M := Lib.hid (show bn66 ≠ bM by have := Blk.lt HBM1.out; omega)
  have HNn66R := Lib.hid (show bn66 ≠ bR by have := Blk.lt HBR1.out; omega)
  have HGn66 := Lib.hid (show w.heap.size ≤ bn66 by have := Since.size HS1.out; omega)
  have HS2 := Lib.hid (Since.trans HS1.out hb)
  have HBC2 := Lib.hid (keep_blk hb HBC1.out)
  have HBL2 := Lib.hid (keep_blk hb HBL1.out)
  have HBX2 := Lib.hid (keep_blk hb HBX1.out)
  have HBM2 := Lib.hid (keep_blk hb HBM1.out)
  have HBR2 := Lib.hid (keep_blk hb HBR1.out)
  clear HS1 HBC1 HBL1 HBX1 HBM1 HBR1
  clear hb hge
  have HBn662 := Lib.hid hB
  clear hB
  refine wpList_wp (by rfl) (fun K hK => ?_)
  refine wp_st_row 56 _ _ rfl (leaA l) rfl rfl (HasRow.of HBR2.out rfl) rfl (by simp [cfgA, leaA, carA, msgC, Value.oneCell']) (by kernel_rfl) ?_
  intro w3 hw
  refine hK.out _ _ ?_
  clear hK K
  (try simp only [Act.put, sA, sB, sC])
  have HS3 := Lib.hid (show Since w w3 by rw [hw]; exact Since.setRow HS2.out (by have := HNE3.out; omega) _)
  have HBC3 := Lib.hid (show Blk w3 w.heap.size 23 (cfgA c) by rw [hw]; exact Blk.row_far HBC2.out (by have := HNE3.out; omega) _)
  have HBL3 := Lib.hid (show Blk w3 bL 56 (leaA l) by rw [hw]; exact Blk.row_far HBL2.out (by have := HNE3.out; omega) _)
  have HBX3 := Lib.hid (show Blk w3 bX 76 (carA x) by rw [hw]; exact Blk.row_far HBX2.out (by have := HNE3.out; omega) _)
  have HBM3 := Lib.hid (show Blk w3 bM 85 (msgC m) by rw [hw]; exact Blk.row_far HBM2.out (by have := HNE3.out; omega) _)
  have HBR3 := Lib.hid (show Blk w3 bR 56 (leaA l) by rw [hw]; exact Blk.row HBR2.out _)
  have HBn663 := Lib.hid (show Blk w3 bn66 85 #[.int .i64 14, .int .i64 0, .int .i64 0, .int .i64 0] by rw [hw]; exact Blk.row_far HBn662.out HNn66R.out _)
  clear hw HS2 HBC2 HBL2 HBX2 HBM2 HBR2 HBn662
  refine wpList_q (by rfl) (.slice (some ⟨bn66, 0, none⟩) 1 1) ?he ?_
  case he => (first | rfl | (go_simp; (try with_reducible rfl)))
  (try simp only [Act.put, sA, sB, sC])
  refine wpList_q (by rfl) (.bool true) ?he ?_
  case he => (first | rfl | (go_simp; (try with_reducible rfl)))
  (try simp only [Act.put, sA, sB, sC])
  refine wpList_nil ?_
  (try go_wp2_with fail)
  exact bodyPost_ret (results_row3 rfl _ _ bR 56 #[.int .i64 l.se, .int .i64 l.fl, .int .i64 l.fm, .int .i64 l.to, .int .i64 l.ma, .int .i64 l.ca, .int .i64 l.ph, .int .i64 l.un, .int .i64 l.re, .int .i64 l.gr] _ (.slice (some ⟨bn66, 0, none⟩) 1 1) (.bool true) rfl rfl rfl HBR3.out Try.underlying56 rfl (by kernel_rfl)) rfl ⟨.slice (some ⟨bn66, 0, none⟩) 1 1, rfl, ⟨bn66, rfl, HGn66.out, HBn663.out⟩, HS3.out⟩
end Go.Proofs.Ytggafipgfgbbiaa.Ri
