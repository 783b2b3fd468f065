/-
  The reference's Hear, walked, way by way.
  No condition.
-/
import Derived.Test.YtggafipgfgbbiaaRidB
namespace Go.Proofs.Ytggafipgfgbbiaa.Ri
set_option linter.unusedVariables false
set_option linter.unusedSimpArgs false
open Go.RowKit Go.Proofs.Ytggafipgfgbbiaa.Ba Go.Proofs.Ytggafipgfgbbiaa.Mo Go.Proofs.Ytggafipgfgbbiaa.Ty Go.Proofs.Ytggafipgfgbbiaa.Mem Go.Proofs.Ytggafipgfgbbiaa.Tm Go.Proofs.Ytggafipgfgbbiaa.Tw
open Go.Proofs.Ytggafipgfgbbiaa.Ce (ms ms_lo ms_hi massT nearT nr)
open Go.Proofs.Ytggafipgfgbbiaa.Fl (massR)
set_option maxRecDepth 100000
set_option maxHeartbeats 4000000 in
theorem hearRR0 (c : CfgV) (l : LeaseV) (x : CarV) (now : Int) (m : MsgV) (h0 : (m.ki == 9) = false) (h2 : (m.ki == 13) = false) (h4 : (m.ki == 15) = true) (h5 : (l.ph == 2) = true) (h7 : decide (l.re < rn c.re) = true) (w : World) : Calls Try.prog 58 #[.agg #[.int .i64 c.ca, .int .i64 c.fl, .int .i64 c.ft, .int .i64 c.se, .int .i64 c.dr, .int .i64 c.dw, .int .i64 c.ho, .int .i64 c.re, .int .i64 c.yi, .int .i64 c.qu, .int .i64 c.qo, .int .i64 c.lo, .int .i64 c.sl, .int .i64 c.rt, .int .i64 c.cp, .int .i64 c.tr, .int .i64 c.de, .int .i64 c.wi], .agg #[.int .i64 l.se, .int .i64 l.fl, .int .i64 l.fm, .int .i64 l.to, .int .i64 l.ma, .int .i64 l.ca, .int .i64 l.ph, .int .i64 l.un, .int .i64 l.re, .int .i64 l.gr], .agg #[.int .i64 x.ds, .int .i64 x.da, .int .i64 x.un, .int .i64 x.wy, .int .i64 x.ti, .int .i64 x.ju, .int .i64 x.lo, .bool x.bl, .bool x.br, .int .i64 x.mo, .int .i64 x.ta, .bool x.ho, .int .u64 x.sp, .int .u64 x.su, .int .u64 x.sd], .int .i64 now, .agg (msgC m)] w (Said w (⟨l.se, l.fl, l.fm, l.to, l.ma, l.ca, l.ph, cl (cl now + cl (sp c.ho)), IntKind.i64.wrap (l.re + 1), l.gr⟩, some ⟨4, l.ca, 0, 0⟩, false)) := by
  have H0 := Lib.hid h0
  clear h0
  have H2 := Lib.hid h2
  clear h2
  have H4 := Lib.hid h4
  clear h4
  have H5 := Lib.hid h5
  clear h5
  have H7 := Lib.hid h7
  clear h7
  go_enter Try.func58, Try.ntmps58
  go_upto_region 1 with fail
  obtain ⟨w1, hw1⟩ : ∃ w1, w1 = (((((w.alloc (.cells #[.int .i64 c.ca, .int .i64 c.fl, .int .i64 c.ft, .int .i64 c.se, .int .i64 c.dr, .int .i64 c.dw, .int .i64 c.ho, .int .i64 c.re, .int .i64 c.yi, .int .i64 c.qu, .int .i64 c.qo, .int .i64 c.lo, .int .i64 c.sl, .int .i64 c.rt, .int .i64 c.cp, .int .i64 c.tr, .int .i64 c.de, .int .i64 c.wi] 23)).alloc (.cells #[.int .i64 l.se, .int .i64 l.fl, .int .i64 l.fm, .int .i64 l.to, .int .i64 l.ma, .int .i64 l.ca, .int .i64 l.ph, .int .i64 l.un, .int .i64 l.re, .int .i64 l.gr] 56)).alloc (.cells #[.int .i64 x.ds, .int .i64 x.da, .int .i64 x.un, .int .i64 x.wy, .int .i64 x.ti, .int .i64 x.ju, .int .i64 x.lo, .bool x.bl, .bool x.br, .int .i64 x.mo, .int .i64 x.ta, .bool x.ho, .int .u64 x.sp, .int .u64 x.su, .int .u64 x.sd] 76)).alloc (.cells (msgC m) 85)).alloc (.cells #[.int .i64 0, .int .i64 0, .int .i64 0, .int .i64 0, .int .i64 0, .int .i64 0, .int .i64 0, .int .i64 0, .int .i64 0, .int .i64 0] 56)) := ⟨_, rfl⟩
  rw [← hw1]
  have HBC1 := Lib.hid (show Blk w1 (w.heap.size) 23 (cfgA c) by rw [hw1]; exact Blk.alloc (Blk.alloc (Blk.alloc (Blk.alloc (Blk.at_ (by (try simp only [size_alloc])) _ _) _) _) _) _)
  have HBL1 := Lib.hid (show Blk w1 (w.heap.size + 1) 56 (leaA l) by rw [hw1]; exact Blk.alloc (Blk.alloc (Blk.alloc (Blk.at_ (by (try simp only [size_alloc])) _ _) _) _) _)
  have HBX1 := Lib.hid (show Blk w1 (w.heap.size + 1 + 1) 76 (carA x) by rw [hw1]; exact Blk.alloc (Blk.alloc (Blk.at_ (by (try simp only [size_alloc])) _ _) _) _)
  have HBM1 := Lib.hid (show Blk w1 (w.heap.size + 1 + 1 + 1) 85 (msgC m) by rw [hw1]; exact Blk.alloc (Blk.at_ (by (try simp only [size_alloc])) _ _) _)
  have HBR1 := Lib.hid (show Blk w1 (w.heap.size + 1 + 1 + 1 + 1) 56 #[.int .i64 0, .int .i64 0, .int .i64 0, .int .i64 0, .int .i64 0, .int .i64 0, .int .i64 0, .int .i64 0, .int .i64 0, .int .i64 0] by rw [hw1]; exact Blk.at_ (by (try simp only [size_alloc])) _ _)
  have HS1 := Lib.hid (show Since w w1 by rw [hw1]; exact Since.alloc (Since.alloc (Since.alloc (Since.alloc (Since.alloc (Since.refl w) _) _) _) _) _)
  have hNE : w.heap.size ≤ w.heap.size ∧ w.heap.size < w.heap.size + 1 ∧ w.heap.size + 1 < w.heap.size + 1 + 1 ∧ w.heap.size + 1 + 1 < w.heap.size + 1 + 1 + 1 ∧ w.heap.size + 1 + 1 + 1 < w.heap.size + 1 + 1 + 1 + 1 := by omega
  have HNE := Lib.hid hNE
  clear hNE hw1
  generalize w.heap.size + 1 + 1 + 1 + 1 = bR at *
  generalize w.heap.size + 1 + 1 + 1 = bM at *
  generalize w.heap.size + 1 + 1 = bX at *
  generalize w.heap.size + 1 = bL at *
  have HNE3 := Lib.hid (show w.heap.size ≤ w.heap.size ∧ w.heap.size < bL ∧ bL < bX ∧ bX < bM ∧ bM < bR from HNE.out)
  clear HNE
  refine wp_region_lit ?_
  refine wpList_q (by rfl) (.pointer (some ⟨bM, 0, none⟩)) ?he ?_
  case he => (first | rfl | (go_simp; (try with_reducible rfl)))
  (try simp only [Act.put, sA, sB, sC])
  refine wpList_q (by rfl) (.int .i64 m.ki) ?he ?_
  case he => exact exec_cell 3 _ _ HBM1.out rfl rfl rfl Try.underlying3 rfl
  (try simp only [Act.put, sA, sB, sC])
  refine wpList_q (by rfl) (.bool false) ?he ?_
  case he => (have hq := H0.out; go_simp; (try with_reducible rfl))
  (try simp only [Act.put, sA, sB, sC])
  refine wpList_q (by rfl) (.bool false) ?he ?_
  case he => (first | rfl | (go_simp; (try with_reducible rfl)))
  (try simp only [Act.put, sA, sB, sC])
  refine wpList_no (by rfl) ?_
  (try simp only [Act.put, sA, sB, sC])
  refine wpList_no (by rfl) ?_
  (try simp only [Act.put, sA, sB, sC])
  refine wpList_no (by rfl) ?_
  (try simp only [Act.put, sA, sB, sC])
  refine wpList_q (by rfl) (.bool false) ?he ?_
  case he => (first | rfl | (go_simp; (try with_reducible rfl)))
  (try simp only [Act.put, sA, sB, sC])
  refine wpList_q (by rfl) (.bool false) ?he ?_
  case he => (first | rfl | (go_simp; (try with_reducible rfl)))
  (try simp only [Act.put, sA, sB, sC])
  refine wpList_nil ?_
  go_upto_region 9 with fail
  refine wp_region_lit ?_
  refine wpList_q (by rfl) (.pointer (some ⟨bM, 0, none⟩)) ?he ?_
  case he => (first | rfl | (go_simp; (try with_reducible rfl)))
  (try simp only [Act.put, sA, sB, sC])
  refine wpList_q (by rfl) (.int .i64 m.ki) ?he ?_
  case he => exact exec_cell 3 _ _ HBM1.out rfl rfl rfl Try.underlying3 rfl
  (try simp only [Act.put, sA, sB, sC])
  refine wpList_q (by rfl) (.bool false) ?he ?_
  case he => (have hq := H2.out; go_simp; (try with_reducible rfl))
  (try simp only [Act.put, sA, sB, sC])
  refine wpList_q (by rfl) (.bool false) ?he ?_
  case he => (first | rfl | (go_simp; (try with_reducible rfl)))
  (try simp only [Act.put, sA, sB, sC])
  refine wpList_no (by rfl) ?_
  (try simp only [Act.put, sA, sB, sC])
  refine wpList_no (by rfl) ?_
  (try simp only [Act.put, sA, sB, sC])
  refine wpList_no (by rfl) ?_
  (try simp only [Act.put, sA, sB, sC])
  refine wpList_q (by rfl) (.bool false) ?he ?_
  case he => (first | rfl | (go_simp; (try with_reducible rfl)))
  (try simp only [Act.put, sA, sB, sC])
  refine wpList_q (by rfl) (.bool false) ?he ?_
  case he => (first | rfl | (go_simp; (try with_reducible rfl)))
  (try simp only [Act.put, sA, sB, sC])
  refine wpList_nil ?_
  go_upto_region 11 with fail
  have hrK : ∀ W W' : World, Since W W' → (Since w W ∧ Blk W w.heap.size 23 (cfgA c) ∧ Blk W bL 56 (leaA l) ∧ Blk W bX 76 (carA x) ∧ Blk W bM 85 (msgC m) ∧ Blk W bR 56 #[.int .i64 0, .int .i64 0, .int .i64 0, .int .i64 0, .int .i64 0, .int .i64 0, .int .i64 0, .int .i64 0, .int .i64 0, .int .i64 0]) → (Since w W' ∧ Blk W' w.heap.size 23 (cfgA c) ∧ Blk W' bL 56 (leaA l) ∧ Blk W' bX 76 (carA x) ∧ Blk W' bM 85 (msgC m) ∧ Blk W' bR 56 #[.int .i64 0, .int .i64 0, .int .i64 0, .int .i64 0, .int .i64 0, .int .i64 0, .int .i64 0, .int .i64 0, .int .i64 0, .int .i64 0]) := fun W W' k ⟨h, h0, h1, h2, h3, h4⟩ => ⟨h.trans k, keep_blk k h0, keep_blk k h1, keep_blk k h2, keep_blk k h3, keep_blk k h4⟩
  have hrS : (fun W : World => Since w W ∧ Blk W w.heap.size 23 (cfgA c) ∧ Blk W bL 56 (leaA l) ∧ Blk W bX 76 (carA x) ∧ Blk W bM 85 (msgC m) ∧ Blk W bR 56 #[.int .i64 0, .int .i64 0, .int .i64 0, .int .i64 0, .int .i64 0, .int .i64 0, .int .i64 0, .int .i64 0, .int .i64 0, .int .i64 0]) w1 := ⟨HS1.out, HBC1.out, HBL1.out, HBX1.out, HBM1.out, HBR1.out⟩
  have HRK := Lib.hid hrK
  have HRD := Lib.hid (show (fun W : World => Since w W ∧ Blk W w.heap.size 23 (cfgA c) ∧ Blk W bL 56 (leaA l) ∧ Blk W bX 76 (carA x) ∧ Blk W bM 85 (msgC m) ∧ Blk W bR 56 #[.int .i64 0, .int .i64 0, .int .i64 0, .int .i64 0, .int .i64 0, .int .i64 0, .int .i64 0, .int .i64 0, .int .i64 0, .int .i64 0]) (World.drew w1) from ⟨Since.drew hrS.1, hrS.2⟩)
  clear hrK hrS
  refine wp_region_held_drew (S := fun W : World => Since w W ∧ Blk W w.heap.size 23 (cfgA c) ∧ Blk W bL 56 (leaA l) ∧ Blk W bX 76 (carA x) ∧ Blk W bM 85 (msgC m) ∧ Blk W bR 56 #[.int .i64 0, .int .i64 0, .int .i64 0, .int .i64 0, .int .i64 0, .int .i64 0, .int .i64 0, .int .i64 0, .int .i64 0, .int .i64 0]) (by kernel_rfl) HRD.out (fun hHeld => ?_)
  refine wpAnyH_take (i := 0) (oi := ?o11__0) (v := .pointer (some ⟨bM, 0, none⟩)) ?h11__0 (by kernel_rfl) (by kernel_rfl) (by kernel_rfl) ?q11__0 ?y11__0 (by assumption) ?_
  case h11__0 => (first | (simp only [gA, gB, gC]; done) | (simp only [gA, gB, gC]; exact rfl))
  case q11__0 => exact fun _ _ _ h => h
  case y11__0 => (refine Or.inl ⟨rfl, ?_⟩; intro w hSw; (first | rfl | (go_simp; (try with_reducible rfl))))
  (try simp only [Act.put, sA, sB, sC])
  refine wpAnyH_take (i := 1) (oi := ?o11__1) (v := .int .i64 m.ki) ?h11__1 (by kernel_rfl) (by kernel_rfl) (by kernel_rfl) ?q11__1 ?y11__1 (by assumption) ?_
  case h11__1 => (first | (simp only [gA, gB, gC]; done) | (simp only [gA, gB, gC]; exact rfl))
  case q11__1 => exact fun _ _ _ h => h
  case y11__1 => (refine Or.inl ⟨rfl, ?_⟩; intro w hSw; exact exec_cell 3 _ _ hSw.2.2.2.2.1 rfl rfl rfl Try.underlying3 rfl)
  (try simp only [Act.put, sA, sB, sC])
  refine wpAnyH_take (i := 2) (oi := ?o11__2) (v := .bool true) ?h11__2 (by kernel_rfl) (by kernel_rfl) (by kernel_rfl) ?q11__2 ?y11__2 (by assumption) ?_
  case h11__2 => (first | (simp only [gA, gB, gC]; done) | (simp only [gA, gB, gC]; exact rfl))
  case q11__2 => exact fun _ _ _ h => h
  case y11__2 => (refine Or.inl ⟨rfl, ?_⟩; intro w hSw; (have hq := H4.out; go_simp; (try with_reducible rfl)))
  (try simp only [Act.put, sA, sB, sC])
  refine wpAnyH_take (i := 3) (oi := ?o11__3) (v := .bool true) ?h11__3 (by kernel_rfl) (by kernel_rfl) (by kernel_rfl) ?q11__3 ?y11__3 (by assumption) ?_
  case h11__3 => (first | (simp only [gA, gB, gC]; done) | (simp only [gA, gB, gC]; exact rfl))
  case q11__3 => exact fun _ _ _ h => h
  case y11__3 => (refine Or.inl ⟨rfl, ?_⟩; intro w hSw; (first | rfl | (go_simp; (try with_reducible rfl))))
  (try simp only [Act.put, sA, sB, sC])
  refine wpAnyH_take (i := 4) (oi := ?o11__4) (v := .pointer (some ⟨bL, 6, none⟩)) ?h11__4 (by kernel_rfl) (by kernel_rfl) (by kernel_rfl) ?q11__4 ?y11__4 (by assumption) ?_
  case h11__4 => (first | (simp only [gA, gB, gC]; done) | (simp only [gA, gB, gC]; exact rfl))
  case q11__4 => exact fun _ _ _ h => h
  case y11__4 => (refine Or.inl ⟨rfl, ?_⟩; intro w hSw; (first | rfl | (go_simp; (try with_reducible rfl))))
  (try simp only [Act.put, sA, sB, sC])
  refine wpAnyH_take (i := 5) (oi := ?o11__5) (v := .int .i64 l.ph) ?h11__5 (by kernel_rfl) (by kernel_rfl) (by kernel_rfl) ?q11__5 ?y11__5 (by assumption) ?_
  case h11__5 => (first | (simp only [gA, gB, gC]; done) | (simp only [gA, gB, gC]; exact rfl))
  case q11__5 => exact fun _ _ _ h => h
  case y11__5 => (refine Or.inl ⟨rfl, ?_⟩; intro w hSw; exact exec_cell 3 _ _ hSw.2.2.1 rfl rfl rfl Try.underlying3 rfl)
  (try simp only [Act.put, sA, sB, sC])
  refine wpAnyH_take (i := 6) (oi := ?o11__6) (v := .bool true) ?h11__6 (by kernel_rfl) (by kernel_rfl) (by kernel_rfl) ?q11__6 ?y11__6 (by assumption) ?_
  case h11__6 => (first | (simp only [gA, gB, gC]; done) | (simp only [gA, gB, gC]; exact rfl))
  case q11__6 => exact fun _ _ _ h => h
  case y11__6 => (refine Or.inl ⟨rfl, ?_⟩; intro w hSw; (have hq := H5.out; go_simp; (try with_reducible rfl)))
  (try simp only [Act.put, sA, sB, sC])
  refine wpAnyH_take (i := 7) (oi := ?o11__7) (v := .bool true) ?h11__7 (by kernel_rfl) (by kernel_rfl) (by kernel_rfl) ?q11__7 ?y11__7 (by assumption) ?_
  case h11__7 => (first | (simp only [gA, gB, gC]; done) | (simp only [gA, gB, gC]; exact rfl))
  case q11__7 => exact fun _ _ _ h => h
  case y11__7 => (refine Or.inl ⟨rfl, ?_⟩; intro w hSw; (first | rfl | (go_simp; (try with_reducible rfl))))
  (try simp only [Act.put, sA, sB, sC])
  refine wpAnyH_take (i := 8) (oi := ?o11__8) (v := undef) ?h11__8 (by kernel_rfl) (by kernel_rfl) (by kernel_rfl) ?q11__8 ?y11__8 (by assumption) ?_
  case h11__8 => (first | (simp only [gA, gB, gC]; done) | (simp only [gA, gB, gC]; exact rfl))
  case q11__8 => exact fun _ _ _ h => h
  case y11__8 => exact Or.inr ⟨rfl, rfl⟩
  (try simp only [Act.put, sA, sB, sC])
  refine wpAnyH_take (i := 9) (oi := ?o11__9) (v := undef) ?h11__9 (by kernel_rfl) (by kernel_rfl) (by kernel_rfl) ?q11__9 ?y11__9 (by assumption) ?_
  case h11__9 => (first | (simp only [gA, gB, gC]; done) | (simp only [gA, gB, gC]; exact rfl))
  case q11__9 => exact fun _ _ _ h => h
  case y11__9 => exact Or.inr ⟨rfl, rfl⟩
  (try simp only [Act.put, sA, sB, sC])
  refine wpAnyH_take (i := 10) (oi := ?o11__10) (v := undef) ?h11__10 (by kernel_rfl) (by kernel_rfl) (by kernel_rfl) ?q11__10 ?y11__10 (by assumption) ?_
  case h11__10 => (first | (simp only [gA, gB, gC]; done) | (simp only [gA, gB, gC]; exact rfl))
  case q11__10 => exact fun _ _ _ h => h
  case y11__10 => exact Or.inr ⟨rfl, rfl⟩
  (try simp only [Act.put, sA, sB, sC])
  refine wpAnyH_take (i := 11) (oi := ?o11__11) (v := .bool true) ?h11__11 (by kernel_rfl) (by kernel_rfl) (by kernel_rfl) ?q11__11 ?y11__11 (by assumption) ?_
  case h11__11 => (first | (simp only [gA, gB, gC]; done) | (simp only [gA, gB, gC]; exact rfl))
  case q11__11 => exact fun _ _ _ h => h
  case y11__11 => (refine Or.inl ⟨rfl, ?_⟩; intro w hSw; (first | rfl | (go_simp; (try with_reducible rfl))))
  (try simp only [Act.put, sA, sB, sC])
  refine wpAnyH_take (i := 12) (oi := ?o11__12) (v := .bool true) ?h11__12 (by kernel_rfl) (by kernel_rfl) (by kernel_rfl) ?q11__12 ?y11__12 (by assumption) ?_
  case h11__12 => (first | (simp only [gA, gB, gC]; done) | (simp only [gA, gB, gC]; exact rfl))
  case q11__12 => exact fun _ _ _ h => h
  case y11__12 => (refine Or.inl ⟨rfl, ?_⟩; intro w hSw; (first | rfl | (go_simp; (try with_reducible rfl))))
  (try simp only [Act.put, sA, sB, sC])
  refine wpAnyH_take (i := 13) (oi := ?o11__13) (v := .bool true) ?h11__13 (by kernel_rfl) (by kernel_rfl) (by kernel_rfl) ?q11__13 ?y11__13 (by assumption) ?_
  case h11__13 => (first | (simp only [gA, gB, gC]; done) | (simp only [gA, gB, gC]; exact rfl))
  case q11__13 => exact fun _ _ _ h => h
  case y11__13 => (refine Or.inl ⟨rfl, ?_⟩; intro w hSw; (first | rfl | (go_simp; (try with_reducible rfl))))
  (try simp only [Act.put, sA, sB, sC])
  refine wpAnyH_take (i := 14) (oi := ?o11__14) (v := .pointer (some ⟨bL, 8, none⟩)) ?h11__14 (by kernel_rfl) (by kernel_rfl) (by kernel_rfl) ?q11__14 ?y11__14 (by assumption) ?_
  case h11__14 => (first | (simp only [gA, gB, gC]; done) | (simp only [gA, gB, gC]; exact rfl))
  case q11__14 => exact fun _ _ _ h => h
  case y11__14 => (refine Or.inl ⟨rfl, ?_⟩; intro w hSw; (first | rfl | (go_simp; (try with_reducible rfl))))
  (try simp only [Act.put, sA, sB, sC])
  refine wpAnyH_take (i := 15) (oi := ?o11__15) (v := .int .i64 l.re) ?h11__15 (by kernel_rfl) (by kernel_rfl) (by kernel_rfl) ?q11__15 ?y11__15 (by assumption) ?_
  case h11__15 => (first | (simp only [gA, gB, gC]; done) | (simp only [gA, gB, gC]; exact rfl))
  case q11__15 => exact fun _ _ _ h => h
  case y11__15 => (refine Or.inl ⟨rfl, ?_⟩; intro w hSw; exact exec_cell 3 _ _ hSw.2.2.1 rfl rfl rfl Try.underlying3 rfl)
  (try simp only [Act.put, sA, sB, sC])
  refine wpAnyH_take (i := 16) (oi := ?o11__16) (v := .agg (cfgA c)) ?h11__16 (by kernel_rfl) (by kernel_rfl) (by kernel_rfl) ?q11__16 ?y11__16 (by assumption) ?_
  case h11__16 => (first | (simp only [gA, gB, gC]; done) | (simp only [gA, gB, gC]; exact rfl))
  case q11__16 => exact fun _ _ _ h => h
  case y11__16 => (refine Or.inl ⟨rfl, ?_⟩; intro w hSw; exact exec_load_row 23 _ _ hSw.2.1 rfl rfl Try.underlying23 rfl (by kernel_rfl))
  (try simp only [Act.put, sA, sB, sC])
  refine wpAnyH_ready (rs := [17]) (by kernel_rfl) (by simp) ?_
  refine AllReadyH.cons (o := ?o11__17) ?h11__17 (fun K hK => ?_) AllReadyH.nil
  case h11__17 => (first | (simp only [gA, gB, gC]; done) | (simp only [gA, gB, gC]; exact rfl))
  (try go_simp)
  refine (renR c _).mono ?_
  rintro e w2 ⟨rfl, hb⟩
  (try go_wp2_with fail)
  refine hK.out _ _ (by (apply HRK.out; exact hb; exact hHeld)) (fun hHeld2 => ?_)
  clear hK K hHeld hb
  have hHeld := hHeld2
  clear hHeld2
  (try simp only [Act.put, sA, sB, sC])
  refine wpAnyH_take (i := 18) (oi := ?o11__18) (v := .bool true) ?h11__18 (by kernel_rfl) (by kernel_rfl) (by kernel_rfl) ?q11__18 ?y11__18 (by assumption) ?_
  case h11__18 => (first | (simp only [gA, gB, gC]; done) | (simp only [gA, gB, gC]; exact rfl))
  case q11__18 => exact fun _ _ _ h => h
  case y11__18 => (refine Or.inl ⟨rfl, ?_⟩; intro w hSw; (have hq := H7.out; go_simp; (try with_reducible rfl)))
  (try simp only [Act.put, sA, sB, sC])
  refine wpAnyH_take (i := 19) (oi := ?o11__19) (v := .bool true) ?h11__19 (by kernel_rfl) (by kernel_rfl) (by kernel_rfl) ?q11__19 ?y11__19 (by assumption) ?_
  case h11__19 => (first | (simp only [gA, gB, gC]; done) | (simp only [gA, gB, gC]; exact rfl))
  case q11__19 => exact fun _ _ _ h => h
  case y11__19 => (refine Or.inl ⟨rfl, ?_⟩; intro w hSw; (first | rfl | (go_simp; (try with_reducible rfl))))
  (try simp only [Act.put, sA, sB, sC])
  refine wpAnyH_take (i := 20) (oi := ?o11__20) (v := .bool true) ?h11__20 (by kernel_rfl) (by kernel_rfl) (by kernel_rfl) ?q11__20 ?y11__20 (by assumption) ?_
  case h11__20 => (first | (simp only [gA, gB, gC]; done) | (simp only [gA, gB, gC]; exact rfl))
  case q11__20 => exact fun _ _ _ h => h
  case y11__20 => (refine Or.inl ⟨rfl, ?_⟩; intro w hSw; (first | rfl | (go_simp; (try with_reducible rfl))))
  (try simp only [Act.put, sA, sB, sC])
  refine wpAnyH_done (by kernel_rfl) ?_ _
  have HSd11 := Lib.hid hHeld.1
  have HBCd11 := Lib.hid (hHeld.2.1)
  have HBLd11 := Lib.hid (hHeld.2.2.1)
  have HBXd11 := Lib.hid (hHeld.2.2.2.1)
  have HBMd11 := Lib.hid (hHeld.2.2.2.2.1)
  have HBRd11 := Lib.hid (hHeld.2.2.2.2.2)
  clear hHeld HRK HRD HS1 HBC1 HBL1 HBX1 HBM1 HBR1
  go_upto_region 12 with fail
  refine wp_region_lit ?_
  refine wpList_q (by rfl) (.pointer (some ⟨bL, 8, none⟩)) ?he ?_
  case he => (first | rfl | (go_simp; (try with_reducible rfl)))
  (try simp only [Act.put, sA, sB, sC])
  refine wpList_q (by rfl) (.int .i64 l.re) ?he ?_
  case he => exact exec_cell 3 _ _ HBLd11.out rfl rfl rfl Try.underlying3 rfl
  (try simp only [Act.put, sA, sB, sC])
  refine wpList_q (by rfl) (.int .i64 (IntKind.i64.wrap (l.re + 1))) ?he ?_
  case he => rfl
  (try simp only [Act.put, sA, sB, sC])
  refine wpList_q (by rfl) (.pointer (some ⟨bL, 8, none⟩)) ?he ?_
  case he => (first | rfl | (go_simp; (try with_reducible rfl)))
  (try simp only [Act.put, sA, sB, sC])
  refine wpList_wp (by rfl) (fun K hK => ?_)
  refine wp_st_cell 3 _ _ rfl #[.int .i64 l.se, .int .i64 l.fl, .int .i64 l.fm, .int .i64 l.to, .int .i64 l.ma, .int .i64 l.ca, .int .i64 l.ph, .int .i64 l.un, .int .i64 (IntKind.i64.wrap (l.re + 1)), .int .i64 l.gr] (.int .i64 (IntKind.i64.wrap (l.re + 1))) rfl rfl HBLd11.out (by show 8 < 10; decide) rfl (by first | rfl | simp [Value.oneCell']) (by kernel_rfl) ?_
  intro w3 hw
  refine hK.out _ _ ?_
  clear hK K
  (try simp only [Act.put, sA, sB, sC])
  have HS3 := Lib.hid (show Since w w3 by rw [hw]; exact Since.setRow HSd11.out (by have := HNE3.out; omega) _)
  have HBC3 := Lib.hid (show Blk w3 w.heap.size 23 (cfgA c) by rw [hw]; exact Blk.row_far HBCd11.out (by have := HNE3.out; omega) _)
  have HBL3 := Lib.hid (show Blk w3 bL 56 #[.int .i64 l.se, .int .i64 l.fl, .int .i64 l.fm, .int .i64 l.to, .int .i64 l.ma, .int .i64 l.ca, .int .i64 l.ph, .int .i64 l.un, .int .i64 (IntKind.i64.wrap (l.re + 1)), .int .i64 l.gr] by rw [hw]; exact Blk.row HBLd11.out _)
  have HBX3 := Lib.hid (show Blk w3 bX 76 (carA x) by rw [hw]; exact Blk.row_far HBXd11.out (by have := HNE3.out; omega) _)
  have HBM3 := Lib.hid (show Blk w3 bM 85 (msgC m) by rw [hw]; exact Blk.row_far HBMd11.out (by have := HNE3.out; omega) _)
  have HBR3 := Lib.hid (show Blk w3 bR 56 #[.int .i64 0, .int .i64 0, .int .i64 0, .int .i64 0, .int .i64 0, .int .i64 0, .int .i64 0, .int .i64 0, .int .i64 0, .int .i64 0] by rw [hw]; exact Blk.row_far HBRd11.out (by have := HNE3.out; omega) _)
  clear hw HSd11 HBCd11 HBLd11 HBXd11 HBMd11 HBRd11
  refine wpList_nil ?_
  go_upto_region 13 with fail
  refine wp_region_lit ?_
  refine wpList_q (by rfl) (.int .i64 now) ?he ?_
  case he => (first | rfl | (go_simp; (try with_reducible rfl)))
  (try simp only [Act.put, sA, sB, sC])
  refine wpList_q (by rfl) (.pointer (some ⟨w.heap.size, 6, none⟩)) ?he ?_
  case he => (first | rfl | (go_simp; (try with_reducible rfl)))
  (try simp only [Act.put, sA, sB, sC])
  refine wpList_q (by rfl) (.int .i64 c.ho) ?he ?_
  case he => exact exec_cell 3 _ _ HBC3.out rfl rfl rfl Try.underlying3 rfl
  (try simp only [Act.put, sA, sB, sC])
  refine wpList_wp (by rfl) (fun K hK => ?_)
  (try go_simp)
  refine (spanR _ _).mono ?_
  rintro e w' ⟨rfl, rfl⟩
  (try go_wp2_with fail)
  refine hK.out _ _ ?_
  clear hK K
  (try simp only [Act.put, sA, sB, sC])
  refine wpList_wp (by rfl) (fun K hK => ?_)
  (try go_simp)
  refine (addR _ _ _).mono ?_
  rintro e w' ⟨rfl, rfl⟩
  (try go_wp2_with fail)
  refine hK.out _ _ ?_
  clear hK K
  (try simp only [Act.put, sA, sB, sC])
  refine wpList_q (by rfl) (.pointer (some ⟨bL, 7, none⟩)) ?he ?_
  case he => (first | rfl | (go_simp; (try with_reducible rfl)))
  (try simp only [Act.put, sA, sB, sC])
  refine wpList_wp (by rfl) (fun K hK => ?_)
  refine wp_st_cell 3 _ _ rfl #[.int .i64 l.se, .int .i64 l.fl, .int .i64 l.fm, .int .i64 l.to, .int .i64 l.ma, .int .i64 l.ca, .int .i64 l.ph, .int .i64 (cl (cl now + cl (sp c.ho))), .int .i64 (IntKind.i64.wrap (l.re + 1)), .int .i64 l.gr] (.int .i64 (cl (cl now + cl (sp c.ho)))) rfl rfl HBL3.out (by show 7 < 10; decide) rfl (by first | rfl | simp [Value.oneCell']) (by kernel_rfl) ?_
  intro w4 hw
  refine hK.out _ _ ?_
  clear hK K
  (try simp only [Act.put, sA, sB, sC])
  have HS4 := Lib.hid (show Since w w4 by rw [hw]; exact Since.setRow HS3.out (by have := HNE3.out; omega) _)
  have HBC4 := Lib.hid (show Blk w4 w.heap.size 23 (cfgA c) by rw [hw]; exact Blk.row_far HBC3.out (by have := HNE3.out; omega) _)
  have HBL4 := Lib.hid (show Blk w4 bL 56 #[.int .i64 l.se, .int .i64 l.fl, .int .i64 l.fm, .int .i64 l.to, .int .i64 l.ma, .int .i64 l.ca, .int .i64 l.ph, .int .i64 (cl (cl now + cl (sp c.ho))), .int .i64 (IntKind.i64.wrap (l.re + 1)), .int .i64 l.gr] by rw [hw]; exact Blk.row HBL3.out _)
  have HBX4 := Lib.hid (show Blk w4 bX 76 (carA x) by rw [hw]; exact Blk.row_far HBX3.out (by have := HNE3.out; omega) _)
  have HBM4 := Lib.hid (show Blk w4 bM 85 (msgC m) by rw [hw]; exact Blk.row_far HBM3.out (by have := HNE3.out; omega) _)
  have HBR4 := Lib.hid (show Blk w4 bR 56 #[.int .i64 0, .int .i64 0, .int .i64 0, .int .i64 0, .int .i64 0, .int .i64 0, .int .i64 0, .int .i64 0, .int .i64 0, .int .i64 0] by rw [hw]; exact Blk.row_far HBR3.out (by have := HNE3.out; omega) _)
  clear hw HS3 HBC3 HBL3 HBX3 HBM3 HBR3
  refine wpList_nil ?_
  go_upto_region 14 with fail
  have hrK : ∀ W W' : World, Since W W' → (Since w W ∧ Blk W w.heap.size 23 (cfgA c) ∧ Blk W bL 56 #[.int .i64 l.se, .int .i64 l.fl, .int .i64 l.fm, .int .i64 l.to, .int .i64 l.ma, .int .i64 l.ca, .int .i64 l.ph, .int .i64 (cl (cl now + cl (sp c.ho))), .int .i64 (IntKind.i64.wrap (l.re + 1)), .int .i64 l.gr] ∧ Blk W bX 76 (carA x) ∧ Blk W bM 85 (msgC m) ∧ HasRow W bR 56 10) → (Since w W' ∧ Blk W' w.heap.size 23 (cfgA c) ∧ Blk W' bL 56 #[.int .i64 l.se, .int .i64 l.fl, .int .i64 l.fm, .int .i64 l.to, .int .i64 l.ma, .int .i64 l.ca, .int .i64 l.ph, .int .i64 (cl (cl now + cl (sp c.ho))), .int .i64 (IntKind.i64.wrap (l.re + 1)), .int .i64 l.gr] ∧ Blk W' bX 76 (carA x) ∧ Blk W' bM 85 (msgC m) ∧ HasRow W' bR 56 10) := fun W W' k ⟨h, h0, h1, h2, h3, h4⟩ => ⟨h.trans k, keep_blk k h0, keep_blk k h1, keep_blk k h2, keep_blk k h3, HasRow.keep k h4⟩
  have hrS : (fun W : World => Since w W ∧ Blk W w.heap.size 23 (cfgA c) ∧ Blk W bL 56 #[.int .i64 l.se, .int .i64 l.fl, .int .i64 l.fm, .int .i64 l.to, .int .i64 l.ma, .int .i64 l.ca, .int .i64 l.ph, .int .i64 (cl (cl now + cl (sp c.ho))), .int .i64 (IntKind.i64.wrap (l.re + 1)), .int .i64 l.gr] ∧ Blk W bX 76 (carA x) ∧ Blk W bM 85 (msgC m) ∧ HasRow W bR 56 10) w4 := ⟨HS4.out, HBC4.out, HBL4.out, HBX4.out, HBM4.out, HasRow.of HBR4.out rfl⟩
  have HRK := Lib.hid hrK
  have HRD := Lib.hid (show (fun W : World => Since w W ∧ Blk W w.heap.size 23 (cfgA c) ∧ Blk W bL 56 #[.int .i64 l.se, .int .i64 l.fl, .int .i64 l.fm, .int .i64 l.to, .int .i64 l.ma, .int .i64 l.ca, .int .i64 l.ph, .int .i64 (cl (cl now + cl (sp c.ho))), .int .i64 (IntKind.i64.wrap (l.re + 1)), .int .i64 l.gr] ∧ Blk W bX 76 (carA x) ∧ Blk W bM 85 (msgC m) ∧ HasRow W bR 56 10) (World.drew w4) from ⟨Since.drew hrS.1, hrS.2⟩)
  clear hrK hrS
  refine wp_region_held_drew (S := fun W : World => Since w W ∧ Blk W w.heap.size 23 (cfgA c) ∧ Blk W bL 56 #[.int .i64 l.se, .int .i64 l.fl, .int .i64 l.fm, .int .i64 l.to, .int .i64 l.ma, .int .i64 l.ca, .int .i64 l.ph, .int .i64 (cl (cl now + cl (sp c.ho))), .int .i64 (IntKind.i64.wrap (l.re + 1)), .int .i64 l.gr] ∧ Blk W bX 76 (carA x) ∧ Blk W bM 85 (msgC m) ∧ HasRow W bR 56 10) (by kernel_rfl) HRD.out (fun hHeld => ?_)
  refine wpAnyH_take (i := 0) (oi := ?o14__0) (v := .agg #[.int .i64 l.se, .int .i64 l.fl, .int .i64 l.fm, .int .i64 l.to, .int .i64 l.ma, .int .i64 l.ca, .int .i64 l.ph, .int .i64 (cl (cl now + cl (sp c.ho))), .int .i64 (IntKind.i64.wrap (l.re + 1)), .int .i64 l.gr]) ?h14__0 (by kernel_rfl) (by kernel_rfl) (by kernel_rfl) ?q14__0 ?y14__0 (by assumption) ?_
  case h14__0 => (first | (simp only [gA, gB, gC]; done) | (simp only [gA, gB, gC]; exact rfl))
  case q14__0 => exact fun _ _ _ h => h
  case y14__0 => (refine Or.inl ⟨rfl, ?_⟩; intro w hSw; exact exec_load_row 56 _ _ hSw.2.2.1 rfl rfl Try.underlying56 rfl (by kernel_rfl))
  (try simp only [Act.put, sA, sB, sC])
  refine wpAnyH_take (i := 1) (oi := ?o14__1) (v := .pointer (some ⟨bL, 5, none⟩)) ?h14__1 (by kernel_rfl) (by kernel_rfl) (by kernel_rfl) ?q14__1 ?y14__1 (by assumption) ?_
  case h14__1 => (first | (simp only [gA, gB, gC]; done) | (simp only [gA, gB, gC]; exact rfl))
  case q14__1 => exact fun _ _ _ h => h
  case y14__1 => (refine Or.inl ⟨rfl, ?_⟩; intro w hSw; (first | rfl | (go_simp; (try with_reducible rfl))))
  (try simp only [Act.put, sA, sB, sC])
  refine wpAnyH_take (i := 2) (oi := ?o14__2) (v := .int .i64 l.ca) ?h14__2 (by kernel_rfl) (by kernel_rfl) (by kernel_rfl) ?q14__2 ?y14__2 (by assumption) ?_
  case h14__2 => (first | (simp only [gA, gB, gC]; done) | (simp only [gA, gB, gC]; exact rfl))
  case q14__2 => exact fun _ _ _ h => h
  case y14__2 => (refine Or.inl ⟨rfl, ?_⟩; intro w hSw; exact exec_cell 3 _ _ hSw.2.2.1 rfl rfl rfl Try.underlying3 rfl)
  (try simp only [Act.put, sA, sB, sC])
  refine wpAnyH_take (i := 3) (oi := ?o14__3) (v := .agg #[.int .i64 4, .int .i64 l.ca, .int .i64 0, .int .i64 0]) ?h14__3 (by kernel_rfl) (by kernel_rfl) (by kernel_rfl) ?q14__3 ?y14__3 (by assumption) ?_
  case h14__3 => (first | (simp only [gA, gB, gC]; done) | (simp only [gA, gB, gC]; exact rfl))
  case q14__3 => exact fun _ _ _ h => h
  case y14__3 => (refine Or.inl ⟨rfl, ?_⟩; intro w hSw; kernel_rfl)
  (try simp only [Act.put, sA, sB, sC])
  refine wpAnyH_ready (rs := [4, 5]) (by kernel_rfl) (by simp) ?_
  refine AllReadyH.cons (o := ?o14__4b) ?h14__4b (fun K hK => ?g14__4b) (AllReadyH.cons (o := ?o14__5b) ?h14__5b (fun K hK => ?g14__5b) AllReadyH.nil)
  case h14__4b => (first | (simp only [gA, gB, gC]; done) | (simp only [gA, gB, gC]; exact rfl))
  case h14__5b => (first | (simp only [gA, gB, gC]; done) | (simp only [gA, gB, gC]; exact rfl))
  case g14__4b =>
    rw [if_pos (by rfl)]
    refine wp_new (fun b => .slice (some ⟨b, 0, none⟩) 1 1) 85 #[.int .i64 4, .int .i64 l.ca, .int .i64 0, .int .i64 0] (by rintro b rfl; first | rfl | kernel_rfl) ?_
    intro bn102 w5 hge hB hb
    refine hK.out _ _ (by (apply HRK.out; exact hb; exact hHeld)) (fun hHeld2 => ?_)
    have HNn102R := Lib.hid (show bn102 ≠ bR by obtain ⟨old, Bo, _⟩ := hHeld.2.2.2.2.2; have := Blk.lt Bo; omega)
    have HGn102 := Lib.hid (show w.heap.size ≤ bn102 by have := Since.size hHeld.1; (try simp at this); (try simp at hge); omega)
    have HXn102 := Lib.hid hB
    clear hB
    clear hge
    clear hK K hHeld hb
    have hHeld := hHeld2
    clear hHeld2
    (try simp only [Act.put, sA, sB, sC])
    refine wpAnyH_ready (rs := [5]) (by kernel_rfl) (by simp) ?_
    refine AllReadyH.cons (o := ?o14_b4_5) ?h14_b4_5 (fun K hK => ?_) AllReadyH.nil
    case h14_b4_5 => (first | (simp only [gA, gB, gC]; done) | (simp only [gA, gB, gC]; exact rfl))
    rw [if_pos (by rfl)]
    refine wp_st_row 56 _ _ rfl #[.int .i64 l.se, .int .i64 l.fl, .int .i64 l.fm, .int .i64 l.to, .int .i64 l.ma, .int .i64 l.ca, .int .i64 l.ph, .int .i64 (cl (cl now + cl (sp c.ho))), .int .i64 (IntKind.i64.wrap (l.re + 1)), .int .i64 l.gr] rfl rfl (hHeld.2.2.2.2.2) rfl (by simp [cfgA, leaA, carA, msgC, Value.oneCell']) (by kernel_rfl) ?_
    intro w6 hw
    have HRR := Lib.hid (show Blk w6 bR 56 #[.int .i64 l.se, .int .i64 l.fl, .int .i64 l.fm, .int .i64 l.to, .int .i64 l.ma, .int .i64 l.ca, .int .i64 l.ph, .int .i64 (cl (cl now + cl (sp c.ho))), .int .i64 (IntKind.i64.wrap (l.re + 1)), .int .i64 l.gr] by obtain ⟨old, Bo, _⟩ := hHeld.2.2.2.2.2; rw [hw]; exact Blk.row Bo _)
    have HXn1022 := Lib.hid (show Blk w6 bn102 85 #[.int .i64 4, .int .i64 l.ca, .int .i64 0, .int .i64 0] by rw [hw]; exact Blk.row_far HXn102.out HNn102R.out _)
    clear HXn102
    have hHeld3 : (fun W : World => Since w W ∧ Blk W w.heap.size 23 (cfgA c) ∧ Blk W bL 56 #[.int .i64 l.se, .int .i64 l.fl, .int .i64 l.fm, .int .i64 l.to, .int .i64 l.ma, .int .i64 l.ca, .int .i64 l.ph, .int .i64 (cl (cl now + cl (sp c.ho))), .int .i64 (IntKind.i64.wrap (l.re + 1)), .int .i64 l.gr] ∧ Blk W bX 76 (carA x) ∧ Blk W bM 85 (msgC m) ∧ HasRow W bR 56 10) w6 := ⟨by rw [hw]; exact Since.setRow hHeld.1 (by have := HNE3.out; omega) _, by rw [hw]; exact Blk.row_far (hHeld.2.1) (by have := HNE3.out; omega) _, by rw [hw]; exact Blk.row_far (hHeld.2.2.1) (by have := HNE3.out; omega) _, by rw [hw]; exact Blk.row_far (hHeld.2.2.2.1) (by have := HNE3.out; omega) _, by rw [hw]; exact Blk.row_far (hHeld.2.2.2.2.1) (by have := HNE3.out; omega) _, HasRow.of HRR.out rfl⟩
    refine hK.out _ _ hHeld3 (fun hHeld2 => ?_)
    clear hK K hHeld hHeld3 hw
    have hHeld := hHeld2
    clear hHeld2
    (try simp only [Act.put, sA, sB, sC])
    refine wpAnyH_take (i := 6) (oi := ?o14_b4_6) (v := .slice (some ⟨bn102, 0, none⟩) 1 1) ?h14_b4_6 (by kernel_rfl) (by kernel_rfl) (by kernel_rfl) ?q14_b4_6 ?y14_b4_6 (by assumption) ?_
    case h14_b4_6 => (first | (simp only [gA, gB, gC]; done) | (simp only [gA, gB, gC]; exact rfl))
    case q14_b4_6 => exact fun _ _ _ h => h
    case y14_b4_6 => (refine Or.inl ⟨rfl, ?_⟩; intro w hSw; (first | rfl | (go_simp; (try with_reducible rfl))))
    (try simp only [Act.put, sA, sB, sC])
    refine wpAnyH_take (i := 7) (oi := ?o14_b4_7) (v := .bool false) ?h14_b4_7 (by kernel_rfl) (by kernel_rfl) (by kernel_rfl) ?q14_b4_7 ?y14_b4_7 (by assumption) ?_
    case h14_b4_7 => (first | (simp only [gA, gB, gC]; done) | (simp only [gA, gB, gC]; exact rfl))
    case q14_b4_7 => exact fun _ _ _ h => h
    case y14_b4_7 => (refine Or.inl ⟨rfl, ?_⟩; intro w hSw; (first | rfl | (go_simp; (try with_reducible rfl))))
    (try simp only [Act.put, sA, sB, sC])
    refine wpAnyH_done (by kernel_rfl) ?_ _
    have HSd14 := Lib.hid hHeld.1
    have HBCd14 := Lib.hid (hHeld.2.1)
    have HBLd14 := Lib.hid (hHeld.2.2.1)
    have HBXd14 := Lib.hid (hHeld.2.2.2.1)
    have HBMd14 := Lib.hid (hHeld.2.2.2.2.1)
    have HBRd14 := Lib.hid HRR.out
    clear HRR
    clear hHeld HRK HRD HS4 HBC4 HBL4 HBX4 HBM4 HBR4
    (try go_wp2_with fail)
    exact bodyPost_ret (results_row3 rfl _ _ bR 56 #[.int .i64 l.se, .int .i64 l.fl, .int .i64 l.fm, .int .i64 l.to, .int .i64 l.ma, .int .i64 l.ca, .int .i64 l.ph, .int .i64 (cl (cl now + cl (sp c.ho))), .int .i64 (IntKind.i64.wrap (l.re + 1)), .int .i64 l.gr] _ (.slice (some ⟨bn102, 0, none⟩) 1 1) (.bool false) rfl rfl rfl HBRd14.out Try.underlying56 rfl (by kernel_rfl)) rfl ⟨.slice (some ⟨bn102, 0, none⟩) 1 1, rfl, ⟨bn102, rfl, HGn102.out, HXn1022.out⟩, HSd14.out⟩
  case g14__5b =>
    rw [if_pos (by rfl)]
    refine wp_st_row 56 _ _ rfl #[.int .i64 l.se, .int .i64 l.fl, .int .i64 l.fm, .int .i64 l.to, .int .i64 l.ma, .int .i64 l.ca, .int .i64 l.ph, .int .i64 (cl (cl now + cl (sp c.ho))), .int .i64 (IntKind.i64.wrap (l.re + 1)), .int .i64 l.gr] rfl rfl (hHeld.2.2.2.2.2) rfl (by simp [cfgA, leaA, carA, msgC, Value.oneCell']) (by kernel_rfl) ?_
    intro w5 hw
    have HRR := Lib.hid (show Blk w5 bR 56 #[.int .i64 l.se, .int .i64 l.fl, .int .i64 l.fm, .int .i64 l.to, .int .i64 l.ma, .int .i64 l.ca, .int .i64 l.ph, .int .i64 (cl (cl now + cl (sp c.ho))), .int .i64 (IntKind.i64.wrap (l.re + 1)), .int .i64 l.gr] by obtain ⟨old, Bo, _⟩ := hHeld.2.2.2.2.2; rw [hw]; exact Blk.row Bo _)
    have hHeld3 : (fun W : World => Since w W ∧ Blk W w.heap.size 23 (cfgA c) ∧ Blk W bL 56 #[.int .i64 l.se, .int .i64 l.fl, .int .i64 l.fm, .int .i64 l.to, .int .i64 l.ma, .int .i64 l.ca, .int .i64 l.ph, .int .i64 (cl (cl now + cl (sp c.ho))), .int .i64 (IntKind.i64.wrap (l.re + 1)), .int .i64 l.gr] ∧ Blk W bX 76 (carA x) ∧ Blk W bM 85 (msgC m) ∧ HasRow W bR 56 10) w5 := ⟨by rw [hw]; exact Since.setRow hHeld.1 (by have := HNE3.out; omega) _, by rw [hw]; exact Blk.row_far (hHeld.2.1) (by have := HNE3.out; omega) _, by rw [hw]; exact Blk.row_far (hHeld.2.2.1) (by have := HNE3.out; omega) _, by rw [hw]; exact Blk.row_far (hHeld.2.2.2.1) (by have := HNE3.out; omega) _, by rw [hw]; exact Blk.row_far (hHeld.2.2.2.2.1) (by have := HNE3.out; omega) _, HasRow.of HRR.out rfl⟩
    refine hK.out _ _ hHeld3 (fun hHeld2 => ?_)
    clear hK K hHeld hHeld3 hw
    have hHeld := hHeld2
    clear hHeld2
    (try simp only [Act.put, sA, sB, sC])
    refine wpAnyH_ready (rs := [4]) (by kernel_rfl) (by simp) ?_
    refine AllReadyH.cons (o := ?o14_b5_4) ?h14_b5_4 (fun K hK => ?_) AllReadyH.nil
    case h14_b5_4 => (first | (simp only [gA, gB, gC]; done) | (simp only [gA, gB, gC]; exact rfl))
    rw [if_pos (by rfl)]
    refine wp_new (fun b => .slice (some ⟨b, 0, none⟩) 1 1) 85 #[.int .i64 4, .int .i64 l.ca, .int .i64 0, .int .i64 0] (by rintro b rfl; first | rfl | kernel_rfl) ?_
    intro bn102 w6 hge hB hb
    refine hK.out _ _ (by (apply HRK.out; exact hb; exact hHeld)) (fun hHeld2 => ?_)
    have HRRk := Lib.hid (keep_blk hb HRR.out)
    clear HRR
    have HNn102R := Lib.hid (show bn102 ≠ bR by obtain ⟨old, Bo, _⟩ := hHeld.2.2.2.2.2; have := Blk.lt Bo; omega)
    have HGn102 := Lib.hid (show w.heap.size ≤ bn102 by have := Since.size hHeld.1; (try simp at this); (try simp at hge); omega)
    have HXn102 := Lib.hid hB
    clear hB
    clear hge
    clear hK K hHeld hb
    have hHeld := hHeld2
    clear hHeld2
    (try simp only [Act.put, sA, sB, sC])
    refine wpAnyH_take (i := 6) (oi := ?o14_b5_6) (v := .slice (some ⟨bn102, 0, none⟩) 1 1) ?h14_b5_6 (by kernel_rfl) (by kernel_rfl) (by kernel_rfl) ?q14_b5_6 ?y14_b5_6 (by assumption) ?_
    case h14_b5_6 => (first | (simp only [gA, gB, gC]; done) | (simp only [gA, gB, gC]; exact rfl))
    case q14_b5_6 => exact fun _ _ _ h => h
    case y14_b5_6 => (refine Or.inl ⟨rfl, ?_⟩; intro w hSw; (first | rfl | (go_simp; (try with_reducible rfl))))
    (try simp only [Act.put, sA, sB, sC])
    refine wpAnyH_take (i := 7) (oi := ?o14_b5_7) (v := .bool false) ?h14_b5_7 (by kernel_rfl) (by kernel_rfl) (by kernel_rfl) ?q14_b5_7 ?y14_b5_7 (by assumption) ?_
    case h14_b5_7 => (first | (simp only [gA, gB, gC]; done) | (simp only [gA, gB, gC]; exact rfl))
    case q14_b5_7 => exact fun _ _ _ h => h
    case y14_b5_7 => (refine Or.inl ⟨rfl, ?_⟩; intro w hSw; (first | rfl | (go_simp; (try with_reducible rfl))))
    (try simp only [Act.put, sA, sB, sC])
    refine wpAnyH_done (by kernel_rfl) ?_ _
    have HSd14 := Lib.hid hHeld.1
    have HBCd14 := Lib.hid (hHeld.2.1)
    have HBLd14 := Lib.hid (hHeld.2.2.1)
    have HBXd14 := Lib.hid (hHeld.2.2.2.1)
    have HBMd14 := Lib.hid (hHeld.2.2.2.2.1)
    have HBRd14 := Lib.hid HRRk.out
    clear HRRk
    clear hHeld HRK HRD HS4 HBC4 HBL4 HBX4 HBM4 HBR4
    (try go_wp2_with fail)
    exact bodyPost_ret (results_row3 rfl _ _ bR 56 #[.int .i64 l.se, .int .i64 l.fl, .int .i64 l.fm, .int .i64 l.to, .int .i64 l.ma, .int .i64 l.ca, .int .i64 l.ph, .int .i64 (cl (cl now + cl (sp c.ho))), .int .i64 (IntKind.i64.wrap (l.re + 1)), .int .i64 l.gr] _ (.slice (some ⟨bn102, 0, none⟩) 1 1) (.bool false) rfl rfl rfl HBRd14.out Try.underlying56 rfl (by kernel_rfl)) rfl ⟨.slice (some ⟨bn102, 0, none⟩) 1 1, rfl, ⟨bn102, rfl, HGn102.out, HXn102.out⟩, HSd14.out⟩
set_option maxHeartbeats 4000000 in
theorem hearRR1 (c : CfgV) (l : LeaseV) (x : CarV) (now : Int) (m : MsgV) (h0 : (m.ki == 9) = false) (h2 : (m.ki == 13) = false) (h4 : (m.ki == 15) = true) (h5 : (l.ph == 2) = false) (h6 : (l.ph == 4) = true) (h7 : decide (l.re < rn c.re) = true) (w : World) : Calls Try.prog 58 #[.agg #[.int .i64 c.ca, .int .i64 c.fl, .int .i64 c.ft, .int .i64 c.se, .int .i64 c.dr, .int .i64 c.dw, .int .i64 c.ho, .int .i64 c.re, .int .i64 c.yi, .int .i64 c.qu, .int .i64 c.qo, .int .i64 c.lo, .int .i64 c.sl, .int .i64 c.rt, .int .i64 c.cp, .int .i64 c.tr, .int .i64 c.de, .int .i64 c.wi], .agg #[.int .i64 l.se, .int .i64 l.fl, .int .i64 l.fm, .int .i64 l.to, .int .i64 l.ma, .int .i64 l.ca, .int .i64 l.ph, .int .i64 l.un, .int .i64 l.re, .int .i64 l.gr], .agg #[.int .i64 x.ds, .int .i64 x.da, .int .i64 x.un, .int .i64 x.wy, .int .i64 x.ti, .int .i64 x.ju, .int .i64 x.lo, .bool x.bl, .bool x.br, .int .i64 x.mo, .int .i64 x.ta, .bool x.ho, .int .u64 x.sp, .int .u64 x.su, .int .u64 x.sd], .int .i64 now, .agg (msgC m)] w (Said w (⟨l.se, l.fl, l.fm, l.to, l.ma, l.ca, l.ph, cl (cl now + cl (sp c.ho)), IntKind.i64.wrap (l.re + 1), l.gr⟩, some ⟨4, l.ca, 0, 0⟩, false)) := by
  have H0 := Lib.hid h0
  clear h0
  have H2 := Lib.hid h2
  clear h2
  have H4 := Lib.hid h4
  clear h4
  have H5 := Lib.hid h5
  clear h5
  have H6 := Lib.hid h6
  clear h6
  have H7 := Lib.hid h7
  clear h7
  go_enter Try.func58, Try.ntmps58
  go_upto_region 1 with fail
  obtain ⟨w1, hw1⟩ : ∃ w1, w1 = (((((w.alloc (.cells #[.int .i64 c.ca, .int .i64 c.fl, .int .i64 c.ft, .int .i64 c.se, .int .i64 c.dr, .int .i64 c.dw, .int .i64 c.ho, .int .i64 c.re, .int .i64 c.yi, .int .i64 c.qu, .int .i64 c.qo, .int .i64 c.lo, .int .i64 c.sl, .int .i64 c.rt, .int .i64 c.cp, .int .i64 c.tr, .int .i64 c.de, .int .i64 c.wi] 23)).alloc (.cells #[.int .i64 l.se, .int .i64 l.fl, .int .i64 l.fm, .int .i64 l.to, .int .i64 l.ma, .int .i64 l.ca, .int .i64 l.ph, .int .i64 l.un, .int .i64 l.re, .int .i64 l.gr] 56)).alloc (.cells #[.int .i64 x.ds, .int .i64 x.da, .int .i64 x.un, .int .i64 x.wy, .int .i64 x.ti, .int .i64 x.ju, .int .i64 x.lo, .bool x.bl, .bool x.br, .int .i64 x.mo, .int .i64 x.ta, .bool x.ho, .int .u64 x.sp, .int .u64 x.su, .int .u64 x.sd] 76)).alloc (.cells (msgC m) 85)).alloc (.cells #[.int .i64 0, .int .i64 0, .int .i64 0, .int .i64 0, .int .i64 0, .int .i64 0, .int .i64 0, .int .i64 0, .int .i64 0, .int .i64 0] 56)) := ⟨_, rfl⟩
  rw [← hw1]
  have HBC1 := Lib.hid (show Blk w1 (w.heap.size) 23 (cfgA c) by rw [hw1]; exact Blk.alloc (Blk.alloc (Blk.alloc (Blk.alloc (Blk.at_ (by (try simp only [size_alloc])) _ _) _) _) _) _)
  have HBL1 := Lib.hid (show Blk w1 (w.heap.size + 1) 56 (leaA l) by rw [hw1]; exact Blk.alloc (Blk.alloc (Blk.alloc (Blk.at_ (by (try simp only [size_alloc])) _ _) _) _) _)
  have HBX1 := Lib.hid (show Blk w1 (w.heap.size + 1 + 1) 76 (carA x) by rw [hw1]; exact Blk.alloc (Blk.alloc (Blk.at_ (by (try simp only [size_alloc])) _ _) _) _)
  have HBM1 := Lib.hid (show Blk w1 (w.heap.size + 1 + 1 + 1) 85 (msgC m) by rw [hw1]; exact Blk.alloc (Blk.at_ (by (try simp only [size_alloc])) _ _) _)
  have HBR1 := Lib.hid (show Blk w1 (w.heap.size + 1 + 1 + 1 + 1) 56 #[.int .i64 0, .int .i64 0, .int .i64 0, .int .i64 0, .int .i64 0, .int .i64 0, .int .i64 0, .int .i64 0, .int .i64 0, .int .i64 0] by rw [hw1]; exact Blk.at_ (by (try simp only [size_alloc])) _ _)
  have HS1 := Lib.hid (show Since w w1 by rw [hw1]; exact Since.alloc (Since.alloc (Since.alloc (Since.alloc (Since.alloc (Since.refl w) _) _) _) _) _)
  have hNE : w.heap.size ≤ w.heap.size ∧ w.heap.size < w.heap.size + 1 ∧ w.heap.size + 1 < w.heap.size + 1 + 1 ∧ w.heap.size + 1 + 1 < w.heap.size + 1 + 1 + 1 ∧ w.heap.size + 1 + 1 + 1 < w.heap.size + 1 + 1 + 1 + 1 := by omega
  have HNE := Lib.hid hNE
  clear hNE hw1
  generalize w.heap.size + 1 + 1 + 1 + 1 = bR at *
  generalize w.heap.size + 1 + 1 + 1 = bM at *
  generalize w.heap.size + 1 + 1 = bX at *
  generalize w.heap.size + 1 = bL at *
  have HNE3 := Lib.hid (show w.heap.size ≤ w.heap.size ∧ w.heap.size < bL ∧ bL < bX ∧ bX < bM ∧ bM < bR from HNE.out)
  clear HNE
  refine wp_region_lit ?_
  refine wpList_q (by rfl) (.pointer (some ⟨bM, 0, none⟩)) ?he ?_
  case he => (first | rfl | (go_simp; (try with_reducible rfl)))
  (try simp only [Act.put, sA, sB, sC])
  refine wpList_q (by rfl) (.int .i64 m.ki) ?he ?_
  case he => exact exec_cell 3 _ _ HBM1.out rfl rfl rfl Try.underlying3 rfl
  (try simp only [Act.put, sA, sB, sC])
  refine wpList_q (by rfl) (.bool false) ?he ?_
  case he => (have hq := H0.out; go_simp; (try with_reducible rfl))
  (try simp only [Act.put, sA, sB, sC])
  refine wpList_q (by rfl) (.bool false) ?he ?_
  case he => (first | rfl | (go_simp; (try with_reducible rfl)))
  (try simp only [Act.put, sA, sB, sC])
  refine wpList_no (by rfl) ?_
  (try simp only [Act.put, sA, sB, sC])
  refine wpList_no (by rfl) ?_
  (try simp only [Act.put, sA, sB, sC])
  refine wpList_no (by rfl) ?_
  (try simp only [Act.put, sA, sB, sC])
  refine wpList_q (by rfl) (.bool false) ?he ?_
  case he => (first | rfl | (go_simp; (try with_reducible rfl)))
  (try simp only [Act.put, sA, sB, sC])
  refine wpList_q (by rfl) (.bool false) ?he ?_
  case he => (first | rfl | (go_simp; (try with_reducible rfl)))
  (try simp only [Act.put, sA, sB, sC])
  refine wpList_nil ?_
  go_upto_region 9 with fail
  refine wp_region_lit ?_
  refine wpList_q (by rfl) (.pointer (some ⟨bM, 0, none⟩)) ?he ?_
  case he => (first | rfl | (go_simp; (try with_reducible rfl)))
  (try simp only [Act.put, sA, sB, sC])
  refine wpList_q (by rfl) (.int .i64 m.ki) ?he ?_
  case he => exact exec_cell 3 _ _ HBM1.out rfl rfl rfl Try.underlying3 rfl
  (try simp only [Act.put, sA, sB, sC])
  refine wpList_q (by rfl) (.bool false) ?he ?_
  case he => (have hq := H2.out; go_simp; (try with_reducible rfl))
  (try simp only [Act.put, sA, sB, sC])
  refine wpList_q (by rfl) (.bool false) ?he ?_
  case he => (first | rfl | (go_simp; (try with_reducible rfl)))
  (try simp only [Act.put, sA, sB, sC])
  refine wpList_no (by rfl) ?_
  (try simp only [Act.put, sA, sB, sC])
  refine wpList_no (by rfl) ?_
  (try simp only [Act.put, sA, sB, sC])
  refine wpList_no (by rfl) ?_
  (try simp only [Act.put, sA, sB, sC])
  refine wpList_q (by rfl) (.bool false) ?he ?_
  case he => (first | rfl | (go_simp; (try with_reducible rfl)))
  (try simp only [Act.put, sA, sB, sC])
  refine wpList_q (by rfl) (.bool false) ?he ?_
  case he => (first | rfl | (go_simp; (try with_reducible rfl)))
  (try simp only [Act.put, sA, sB, sC])
  refine wpList_nil ?_
  go_upto_region 11 with fail
  have hrK : ∀ W W' : World, Since W W' → (Since w W ∧ Blk W w.heap.size 23 (cfgA c) ∧ Blk W bL 56 (leaA l) ∧ Blk W bX 76 (carA x) ∧ Blk W bM 85 (msgC m) ∧ Blk W bR 56 #[.int .i64 0, .int .i64 0, .int .i64 0, .int .i64 0, .int .i64 0, .int .i64 0, .int .i64 0, .int .i64 0, .int .i64 0, .int .i64 0]) → (Since w W' ∧ Blk W' w.heap.size 23 (cfgA c) ∧ Blk W' bL 56 (leaA l) ∧ Blk W' bX 76 (carA x) ∧ Blk W' bM 85 (msgC m) ∧ Blk W' bR 56 #[.int .i64 0, .int .i64 0, .int .i64 0, .int .i64 0, .int .i64 0, .int .i64 0, .int .i64 0, .int .i64 0, .int .i64 0, .int .i64 0]) := fun W W' k ⟨h, h0, h1, h2, h3, h4⟩ => ⟨h.trans k, keep_blk k h0, keep_blk k h1, keep_blk k h2, keep_blk k h3, keep_blk k h4⟩
  have hrS : (fun W : World => Since w W ∧ Blk W w.heap.size 23 (cfgA c) ∧ Blk W bL 56 (leaA l) ∧ Blk W bX 76 (carA x) ∧ Blk W bM 85 (msgC m) ∧ Blk W bR 56 #[.int .i64 0, .int .i64 0, .int .i64 0, .int .i64 0, .int .i64 0, .int .i64 0, .int .i64 0, .int .i64 0, .int .i64 0, .int .i64 0]) w1 := ⟨HS1.out, HBC1.out, HBL1.out, HBX1.out, HBM1.out, HBR1.out⟩
  have HRK := Lib.hid hrK
  have HRD := Lib.hid (show (fun W : World => Since w W ∧ Blk W w.heap.size 23 (cfgA c) ∧ Blk W bL 56 (leaA l) ∧ Blk W bX 76 (carA x) ∧ Blk W bM 85 (msgC m) ∧ Blk W bR 56 #[.int .i64 0, .int .i64 0, .int .i64 0, .int .i64 0, .int .i64 0, .int .i64 0, .int .i64 0, .int .i64 0, .int .i64 0, .int .i64 0]) (World.drew w1) from ⟨Since.drew hrS.1, hrS.2⟩)
  clear hrK hrS
  refine wp_region_held_drew (S := fun W : World => Since w W ∧ Blk W w.heap.size 23 (cfgA c) ∧ Blk W bL 56 (leaA l) ∧ Blk W bX 76 (carA x) ∧ Blk W bM 85 (msgC m) ∧ Blk W bR 56 #[.int .i64 0, .int .i64 0, .int .i64 0, .int .i64 0, .int .i64 0, .int .i64 0, .int .i64 0, .int .i64 0, .int .i64 0, .int .i64 0]) (by kernel_rfl) HRD.out (fun hHeld => ?_)
  refine wpAnyH_take (i := 0) (oi := ?o11__0) (v := .pointer (some ⟨bM, 0, none⟩)) ?h11__0 (by kernel_rfl) (by kernel_rfl) (by kernel_rfl) ?q11__0 ?y11__0 (by assumption) ?_
  case h11__0 => (first | (simp only [gA, gB, gC]; done) | (simp only [gA, gB, gC]; exact rfl))
  case q11__0 => exact fun _ _ _ h => h
  case y11__0 => (refine Or.inl ⟨rfl, ?_⟩; intro w hSw; (first | rfl | (go_simp; (try with_reducible rfl))))
  (try simp only [Act.put, sA, sB, sC])
  refine wpAnyH_take (i := 1) (oi := ?o11__1) (v := .int .i64 m.ki) ?h11__1 (by kernel_rfl) (by kernel_rfl) (by kernel_rfl) ?q11__1 ?y11__1 (by assumption) ?_
  case h11__1 => (first | (simp only [gA, gB, gC]; done) | (simp only [gA, gB, gC]; exact rfl))
  case q11__1 => exact fun _ _ _ h => h
  case y11__1 => (refine Or.inl ⟨rfl, ?_⟩; intro w hSw; exact exec_cell 3 _ _ hSw.2.2.2.2.1 rfl rfl rfl Try.underlying3 rfl)
  (try simp only [Act.put, sA, sB, sC])
  refine wpAnyH_take (i := 2) (oi := ?o11__2) (v := .bool true) ?h11__2 (by kernel_rfl) (by kernel_rfl) (by kernel_rfl) ?q11__2 ?y11__2 (by assumption) ?_
  case h11__2 => (first | (simp only [gA, gB, gC]; done) | (simp only [gA, gB, gC]; exact rfl))
  case q11__2 => exact fun _ _ _ h => h
  case y11__2 => (refine Or.inl ⟨rfl, ?_⟩; intro w hSw; (have hq := H4.out; go_simp; (try with_reducible rfl)))
  (try simp only [Act.put, sA, sB, sC])
  refine wpAnyH_take (i := 3) (oi := ?o11__3) (v := .bool true) ?h11__3 (by kernel_rfl) (by kernel_rfl) (by kernel_rfl) ?q11__3 ?y11__3 (by assumption) ?_
  case h11__3 => (first | (simp only [gA, gB, gC]; done) | (simp only [gA, gB, gC]; exact rfl))
  case q11__3 => exact fun _ _ _ h => h
  case y11__3 => (refine Or.inl ⟨rfl, ?_⟩; intro w hSw; (first | rfl | (go_simp; (try with_reducible rfl))))
  (try simp only [Act.put, sA, sB, sC])
  refine wpAnyH_take (i := 4) (oi := ?o11__4) (v := .pointer (some ⟨bL, 6, none⟩)) ?h11__4 (by kernel_rfl) (by kernel_rfl) (by kernel_rfl) ?q11__4 ?y11__4 (by assumption) ?_
  case h11__4 => (first | (simp only [gA, gB, gC]; done) | (simp only [gA, gB, gC]; exact rfl))
  case q11__4 => exact fun _ _ _ h => h
  case y11__4 => (refine Or.inl ⟨rfl, ?_⟩; intro w hSw; (first | rfl | (go_simp; (try with_reducible rfl))))
  (try simp only [Act.put, sA, sB, sC])
  refine wpAnyH_take (i := 5) (oi := ?o11__5) (v := .int .i64 l.ph) ?h11__5 (by kernel_rfl) (by kernel_rfl) (by kernel_rfl) ?q11__5 ?y11__5 (by assumption) ?_
  case h11__5 => (first | (simp only [gA, gB, gC]; done) | (simp only [gA, gB, gC]; exact rfl))
  case q11__5 => exact fun _ _ _ h => h
  case y11__5 => (refine Or.inl ⟨rfl, ?_⟩; intro w hSw; exact exec_cell 3 _ _ hSw.2.2.1 rfl rfl rfl Try.underlying3 rfl)
  (try simp only [Act.put, sA, sB, sC])
  refine wpAnyH_take (i := 6) (oi := ?o11__6) (v := .bool false) ?h11__6 (by kernel_rfl) (by kernel_rfl) (by kernel_rfl) ?q11__6 ?y11__6 (by assumption) ?_
  case h11__6 => (first | (simp only [gA, gB, gC]; done) | (simp only [gA, gB, gC]; exact rfl))
  case q11__6 => exact fun _ _ _ h => h
  case y11__6 => (refine Or.inl ⟨rfl, ?_⟩; intro w hSw; (have hq := H5.out; go_simp; (try with_reducible rfl)))
  (try simp only [Act.put, sA, sB, sC])
  refine wpAnyH_take (i := 7) (oi := ?o11__7) (v := .bool false) ?h11__7 (by kernel_rfl) (by kernel_rfl) (by kernel_rfl) ?q11__7 ?y11__7 (by assumption) ?_
  case h11__7 => (first | (simp only [gA, gB, gC]; done) | (simp only [gA, gB, gC]; exact rfl))
  case q11__7 => exact fun _ _ _ h => h
  case y11__7 => (refine Or.inl ⟨rfl, ?_⟩; intro w hSw; (first | rfl | (go_simp; (try with_reducible rfl))))
  (try simp only [Act.put, sA, sB, sC])
  refine wpAnyH_take (i := 8) (oi := ?o11__8) (v := .pointer (some ⟨bL, 6, none⟩)) ?h11__8 (by kernel_rfl) (by kernel_rfl) (by kernel_rfl) ?q11__8 ?y11__8 (by assumption) ?_
  case h11__8 => (first | (simp only [gA, gB, gC]; done) | (simp only [gA, gB, gC]; exact rfl))
  case q11__8 => exact fun _ _ _ h => h
  case y11__8 => (refine Or.inl ⟨rfl, ?_⟩; intro w hSw; (first | rfl | (go_simp; (try with_reducible rfl))))
  (try simp only [Act.put, sA, sB, sC])
  refine wpAnyH_take (i := 9) (oi := ?o11__9) (v := .int .i64 l.ph) ?h11__9 (by kernel_rfl) (by kernel_rfl) (by kernel_rfl) ?q11__9 ?y11__9 (by assumption) ?_
  case h11__9 => (first | (simp only [gA, gB, gC]; done) | (simp only [gA, gB, gC]; exact rfl))
  case q11__9 => exact fun _ _ _ h => h
  case y11__9 => (refine Or.inl ⟨rfl, ?_⟩; intro w hSw; exact exec_cell 3 _ _ hSw.2.2.1 rfl rfl rfl Try.underlying3 rfl)
  (try simp only [Act.put, sA, sB, sC])
  refine wpAnyH_take (i := 10) (oi := ?o11__10) (v := .bool true) ?h11__10 (by kernel_rfl) (by kernel_rfl) (by kernel_rfl) ?q11__10 ?y11__10 (by assumption) ?_
  case h11__10 => (first | (simp only [gA, gB, gC]; done) | (simp only [gA, gB, gC]; exact rfl))
  case q11__10 => exact fun _ _ _ h => h
  case y11__10 => (refine Or.inl ⟨rfl, ?_⟩; intro w hSw; (have hq := H6.out; go_simp; (try with_reducible rfl)))
  (try simp only [Act.put, sA, sB, sC])
  refine wpAnyH_take (i := 11) (oi := ?o11__11) (v := .bool true) ?h11__11 (by kernel_rfl) (by kernel_rfl) (by kernel_rfl) ?q11__11 ?y11__11 (by assumption) ?_
  case h11__11 => (first | (simp only [gA, gB, gC]; done) | (simp only [gA, gB, gC]; exact rfl))
  case q11__11 => exact fun _ _ _ h => h
  case y11__11 => (refine Or.inl ⟨rfl, ?_⟩; intro w hSw; (first | rfl | (go_simp; (try with_reducible rfl))))
  (try simp only [Act.put, sA, sB, sC])
  refine wpAnyH_take (i := 12) (oi := ?o11__12) (v := .bool true) ?h11__12 (by kernel_rfl) (by kernel_rfl) (by kernel_rfl) ?q11__12 ?y11__12 (by assumption) ?_
  case h11__12 => (first | (simp only [gA, gB, gC]; done) | (simp only [gA, gB, gC]; exact rfl))
  case q11__12 => exact fun _ _ _ h => h
  case y11__12 => (refine Or.inl ⟨rfl, ?_⟩; intro w hSw; (first | rfl | (go_simp; (try with_reducible rfl))))
  (try simp only [Act.put, sA, sB, sC])
  refine wpAnyH_take (i := 13) (oi := ?o11__13) (v := .bool true) ?h11__13 (by kernel_rfl) (by kernel_rfl) (by kernel_rfl) ?q11__13 ?y11__13 (by assumption) ?_
  case h11__13 => (first | (simp only [gA, gB, gC]; done) | (simp only [gA, gB, gC]; exact rfl))
  case q11__13 => exact fun _ _ _ h => h
  case y11__13 => (refine Or.inl ⟨rfl, ?_⟩; intro w hSw; (first | rfl | (go_simp; (try with_reducible rfl))))
  (try simp only [Act.put, sA, sB, sC])
  refine wpAnyH_take (i := 14) (oi := ?o11__14) (v := .pointer (some ⟨bL, 8, none⟩)) ?h11__14 (by kernel_rfl) (by kernel_rfl) (by kernel_rfl) ?q11__14 ?y11__14 (by assumption) ?_
  case h11__14 => (first | (simp only [gA, gB, gC]; done) | (simp only [gA, gB, gC]; exact rfl))
  case q11__14 => exact fun _ _ _ h => h
  case y11__14 => (refine Or.inl ⟨rfl, ?_⟩; intro w hSw; (first | rfl | (go_simp; (try with_reducible rfl))))
  (try simp only [Act.put, sA, sB, sC])
  refine wpAnyH_take (i := 15) (oi := ?o11__15) (v := .int .i64 l.re) ?h11__15 (by kernel_rfl) (by kernel_rfl) (by kernel_rfl) ?q11__15 ?y11__15 (by assumption) ?_
  case h11__15 => (first | (simp only [gA, gB, gC]; done) | (simp only [gA, gB, gC]; exact rfl))
  case q11__15 => exact fun _ _ _ h => h
  case y11__15 => (refine Or.inl ⟨rfl, ?_⟩; intro w hSw; exact exec_cell 3 _ _ hSw.2.2.1 rfl rfl rfl Try.underlying3 rfl)
  (try simp only [Act.put, sA, sB, sC])
  refine wpAnyH_take (i := 16) (oi := ?o11__16) (v := .agg (cfgA c)) ?h11__16 (by kernel_rfl) (by kernel_rfl) (by kernel_rfl) ?q11__16 ?y11__16 (by assumption) ?_
  case h11__16 => (first | (simp only [gA, gB, gC]; done) | (simp only [gA, gB, gC]; exact rfl))
  case q11__16 => exact fun _ _ _ h => h
  case y11__16 => (refine Or.inl ⟨rfl, ?_⟩; intro w hSw; exact exec_load_row 23 _ _ hSw.2.1 rfl rfl Try.underlying23 rfl (by kernel_rfl))
  (try simp only [Act.put, sA, sB, sC])
  refine wpAnyH_ready (rs := [17]) (by kernel_rfl) (by simp) ?_
  refine AllReadyH.cons (o := ?o11__17) ?h11__17 (fun K hK => ?_) AllReadyH.nil
  case h11__17 => (first | (simp only [gA, gB, gC]; done) | (simp only [gA, gB, gC]; exact rfl))
  (try go_simp)
  refine (renR c _).mono ?_
  rintro e w2 ⟨rfl, hb⟩
  (try go_wp2_with fail)
  refine hK.out _ _ (by (apply HRK.out; exact hb; exact hHeld)) (fun hHeld2 => ?_)
  clear hK K hHeld hb
  have hHeld := hHeld2
  clear hHeld2
  (try simp only [Act.put, sA, sB, sC])
  refine wpAnyH_take (i := 18) (oi := ?o11__18) (v := .bool true) ?h11__18 (by kernel_rfl) (by kernel_rfl) (by kernel_rfl) ?q11__18 ?y11__18 (by assumption) ?_
  case h11__18 => (first | (simp only [gA, gB, gC]; done) | (simp only [gA, gB, gC]; exact rfl))
  case q11__18 => exact fun _ _ _ h => h
  case y11__18 => (refine Or.inl ⟨rfl, ?_⟩; intro w hSw; (have hq := H7.out; go_simp; (try with_reducible rfl)))
  (try simp only [Act.put, sA, sB, sC])
  refine wpAnyH_take (i := 19) (oi := ?o11__19) (v := .bool true) ?h11__19 (by kernel_rfl) (by kernel_rfl) (by kernel_rfl) ?q11__19 ?y11__19 (by assumption) ?_
  case h11__19 => (first | (simp only [gA, gB, gC]; done) | (simp only [gA, gB, gC]; exact rfl))
  case q11__19 => exact fun _ _ _ h => h
  case y11__19 => (refine Or.inl ⟨rfl, ?_⟩; intro w hSw; (first | rfl | (go_simp; (try with_reducible rfl))))
  (try simp only [Act.put, sA, sB, sC])
  refine wpAnyH_take (i := 20) (oi := ?o11__20) (v := .bool true) ?h11__20 (by kernel_rfl) (by kernel_rfl) (by kernel_rfl) ?q11__20 ?y11__20 (by assumption) ?_
  case h11__20 => (first | (simp only [gA, gB, gC]; done) | (simp only [gA, gB, gC]; exact rfl))
  case q11__20 => exact fun _ _ _ h => h
  case y11__20 => (refine Or.inl ⟨rfl, ?_⟩; intro w hSw; (first | rfl | (go_simp; (try with_reducible rfl))))
  (try simp only [Act.put, sA, sB, sC])
  refine wpAnyH_done (by kernel_rfl) ?_ _
  have HSd11 := Lib.hid hHeld.1
  have HBCd11 := Lib.hid (hHeld.2.1)
  have HBLd11 := Lib.hid (hHeld.2.2.1)
  have HBXd11 := Lib.hid (hHeld.2.2.2.1)
  have HBMd11 := Lib.hid (hHeld.2.2.2.2.1)
  have HBRd11 := Lib.hid (hHeld.2.2.2.2.2)
  clear hHeld HRK HRD HS1 HBC1 HBL1 HBX1 HBM1 HBR1
  go_upto_region 12 with fail
  refine wp_region_lit ?_
  refine wpList_q (by rfl) (.pointer (some ⟨bL, 8, none⟩)) ?he ?_
  case he => (first | rfl | (go_simp; (try with_reducible rfl)))
  (try simp only [Act.put, sA, sB, sC])
  refine wpList_q (by rfl) (.int .i64 l.re) ?he ?_
  case he => exact exec_cell 3 _ _ HBLd11.out rfl rfl rfl Try.underlying3 rfl
  (try simp only [Act.put, sA, sB, sC])
  refine wpList_q (by rfl) (.int .i64 (IntKind.i64.wrap (l.re + 1))) ?he ?_
  case he => rfl
  (try simp only [Act.put, sA, sB, sC])
  refine wpList_q (by rfl) (.pointer (some ⟨bL, 8, none⟩)) ?he ?_
  case he => (first | rfl | (go_simp; (try with_reducible rfl)))
  (try simp only [Act.put, sA, sB, sC])
  refine wpList_wp (by rfl) (fun K hK => ?_)
  refine wp_st_cell 3 _ _ rfl #[.int .i64 l.se, .int .i64 l.fl, .int .i64 l.fm, .int .i64 l.to, .int .i64 l.ma, .int .i64 l.ca, .int .i64 l.ph, .int .i64 l.un, .int .i64 (IntKind.i64.wrap (l.re + 1)), .int .i64 l.gr] (.int .i64 (IntKind.i64.wrap (l.re + 1))) rfl rfl HBLd11.out (by show 8 < 10; decide) rfl (by first | rfl | simp [Value.oneCell']) (by kernel_rfl) ?_
  intro w3 hw
  refine hK.out _ _ ?_
  clear hK K
  (try simp only [Act.put, sA, sB, sC])
  have HS3 := Lib.hid (show Since w w3 by rw [hw]; exact Since.setRow HSd11.out (by have := HNE3.out; omega) _)
  have HBC3 := Lib.hid (show Blk w3 w.heap.size 23 (cfgA c) by rw [hw]; exact Blk.row_far HBCd11.out (by have := HNE3.out; omega) _)
  have HBL3 := Lib.hid (show Blk w3 bL 56 #[.int .i64 l.se, .int .i64 l.fl, .int .i64 l.fm, .int .i64 l.to, .int .i64 l.ma, .int .i64 l.ca, .int .i64 l.ph, .int .i64 l.un, .int .i64 (IntKind.i64.wrap (l.re + 1)), .int .i64 l.gr] by rw [hw]; exact Blk.row HBLd11.out _)
  have HBX3 := Lib.hid (show Blk w3 bX 76 (carA x) by rw [hw]; exact Blk.row_far HBXd11.out (by have := HNE3.out; omega) _)
  have HBM3 := Lib.hid (show Blk w3 bM 85 (msgC m) by rw [hw]; exact Blk.row_far HBMd11.out (by have := HNE3.out; omega) _)
  have HBR3 := Lib.hid (show Blk w3 bR 56 #[.int .i64 0, .int .i64 0, .int .i64 0, .int .i64 0, .int .i64 0, .int .i64 0, .int .i64 0, .int .i64 0, .int .i64 0, .int .i64 0] by rw [hw]; exact Blk.row_far HBRd11.out (by have := HNE3.out; omega) _)
  clear hw HSd11 HBCd11 HBLd11 HBXd11 HBMd11 HBRd11
  refine wpList_nil ?_
  go_upto_region 13 with fail
  refine wp_region_lit ?_
  refine wpList_q (by rfl) (.int .i64 now) ?he ?_
  case he => (first | rfl | (go_simp; (try with_reducible rfl)))
  (try simp only [Act.put, sA, sB, sC])
  refine wpList_q (by rfl) (.pointer (some ⟨w.heap.size, 6, none⟩)) ?he ?_
  case he => (first | rfl | (go_simp; (try with_reducible rfl)))
  (try simp only [Act.put, sA, sB, sC])
  refine wpList_q (by rfl) (.int .i64 c.ho) ?he ?_
  case he => exact exec_cell 3 _ _ HBC3.out rfl rfl rfl Try.underlying3 rfl
  (try simp only [Act.put, sA, sB, sC])
  refine wpList_wp (by rfl) (fun K hK => ?_)
  (try go_simp)
  refine (spanR _ _).mono ?_
  rintro e w' ⟨rfl, rfl⟩
  (try go_wp2_with fail)
  refine hK.out _ _ ?_
  clear hK K
  (try simp only [Act.put, sA, sB, sC])
  refine wpList_wp (by rfl) (fun K hK => ?_)
  (try go_simp)
  refine (addR _ _ _).mono ?_
  rintro e w' ⟨rfl, rfl⟩
  (try go_wp2_with fail)
  refine hK.out _ _ ?_
  clear hK K
  (try simp only [Act.put, sA, sB, sC])
  refine wpList_q (by rfl) (.pointer (some ⟨bL, 7, none⟩)) ?he ?_
  case he => (first | rfl | (go_simp; (try with_reducible rfl)))
  (try simp only [Act.put, sA, sB, sC])
  refine wpList_wp (by rfl) (fun K hK => ?_)
  refine wp_st_cell 3 _ _ rfl #[.int .i64 l.se, .int .i64 l.fl, .int .i64 l.fm, .int .i64 l.to, .int .i64 l.ma, .int .i64 l.ca, .int .i64 l.ph, .int .i64 (cl (cl now + cl (sp c.ho))), .int .i64 (IntKind.i64.wrap (l.re + 1)), .int .i64 l.gr] (.int .i64 (cl (cl now + cl (sp c.ho)))) rfl rfl HBL3.out (by show 7 < 10; decide) rfl (by first | rfl | simp [Value.oneCell']) (by kernel_rfl) ?_
  intro w4 hw
  refine hK.out _ _ ?_
  clear hK K
  (try simp only [Act.put, sA, sB, sC])
  have HS4 := Lib.hid (show Since w w4 by rw [hw]; exact Since.setRow HS3.out (by have := HNE3.out; omega) _)
  have HBC4 := Lib.hid (show Blk w4 w.heap.size 23 (cfgA c) by rw [hw]; exact Blk.row_far HBC3.out (by have := HNE3.out; omega) _)
  have HBL4 := Lib.hid (show Blk w4 bL 56 #[.int .i64 l.se, .int .i64 l.fl, .int .i64 l.fm, .int .i64 l.to, .int .i64 l.ma, .int .i64 l.ca, .int .i64 l.ph, .int .i64 (cl (cl now + cl (sp c.ho))), .int .i64 (IntKind.i64.wrap (l.re + 1)), .int .i64 l.gr] by rw [hw]; exact Blk.row HBL3.out _)
  have HBX4 := Lib.hid (show Blk w4 bX 76 (carA x) by rw [hw]; exact Blk.row_far HBX3.out (by have := HNE3.out; omega) _)
  have HBM4 := Lib.hid (show Blk w4 bM 85 (msgC m) by rw [hw]; exact Blk.row_far HBM3.out (by have := HNE3.out; omega) _)
  have HBR4 := Lib.hid (show Blk w4 bR 56 #[.int .i64 0, .int .i64 0, .int .i64 0, .int .i64 0, .int .i64 0, .int .i64 0, .int .i64 0, .int .i64 0, .int .i64 0, .int .i64 0] by rw [hw]; exact Blk.row_far HBR3.out (by have := HNE3.out; omega) _)
  clear hw HS3 HBC3 HBL3 HBX3 HBM3 HBR3
  refine wpList_nil ?_
  go_upto_region 14 with fail
  have hrK : ∀ W W' : World, Since W W' → (Since w W ∧ Blk W w.heap.size 23 (cfgA c) ∧ Blk W bL 56 #[.int .i64 l.se, .int .i64 l.fl, .int .i64 l.fm, .int .i64 l.to, .int .i64 l.ma, .int .i64 l.ca, .int .i64 l.ph, .int .i64 (cl (cl now + cl (sp c.ho))), .int .i64 (IntKind.i64.wrap (l.re + 1)), .int .i64 l.gr] ∧ Blk W bX 76 (carA x) ∧ Blk W bM 85 (msgC m) ∧ HasRow W bR 56 10) → (Since w W' ∧ Blk W' w.heap.size 23 (cfgA c) ∧ Blk W' bL 56 #[.int .i64 l.se, .int .i64 l.fl, .int .i64 l.fm, .int .i64 l.to, .int .i64 l.ma, .int .i64 l.ca, .int .i64 l.ph, .int .i64 (cl (cl now + cl (sp c.ho))), .int .i64 (IntKind.i64.wrap (l.re + 1)), .int .i64 l.gr] ∧ Blk W' bX 76 (carA x) ∧ Blk W' bM 85 (msgC m) ∧ HasRow W' bR 56 10) := fun W W' k ⟨h, h0, h1, h2, h3, h4⟩ => ⟨h.trans k, keep_blk k h0, keep_blk k h1, keep_blk k h2, keep_blk k h3, HasRow.keep k h4⟩
  have hrS : (fun W : World => Since w W ∧ Blk W w.heap.size 23 (cfgA c) ∧ Blk W bL 56 #[.int .i64 l.se, .int .i64 l.fl, .int .i64 l.fm, .int .i64 l.to, .int .i64 l.ma, .int .i64 l.ca, .int .i64 l.ph, .int .i64 (cl (cl now + cl (sp c.ho))), .int .i64 (IntKind.i64.wrap (l.re + 1)), .int .i64 l.gr] ∧ Blk W bX 76 (carA x) ∧ Blk W bM 85 (msgC m) ∧ HasRow W bR 56 10) w4 := ⟨HS4.out, HBC4.out, HBL4.out, HBX4.out, HBM4.out, HasRow.of HBR4.out rfl⟩
  have HRK := Lib.hid hrK
  have HRD := Lib.hid (show (fun W : World => Since w W ∧ Blk W w.heap.size 23 (cfgA c) ∧ Blk W bL 56 #[.int .i64 l.se, .int .i64 l.fl, .int .i64 l.fm, .int .i64 l.to, .int .i64 l.ma, .int .i64 l.ca, .int .i64 l.ph, .int .i64 (cl (cl now + cl (sp c.ho))), .int .i64 (IntKind.i64.wrap (l.re + 1)), .int .i64 l.gr] ∧ Blk W bX 76 (carA x) ∧ Blk W bM 85 (msgC m) ∧ HasRow W bR 56 10) (World.drew w4) from ⟨Since.drew hrS.1, hrS.2⟩)
  clear hrK hrS
  refine wp_region_held_drew (S := fun W : World => Since w W ∧ Blk W w.heap.size 23 (cfgA c) ∧ Blk W bL 56 #[.int .i64 l.se, .int .i64 l.fl, .int .i64 l.fm, .int .i64 l.to, .int .i64 l.ma, .int .i64 l.ca, .int .i64 l.ph, .int .i64 (cl (cl now + cl (sp c.ho))), .int .i64 (IntKind.i64.wrap (l.re + 1)), .int .i64 l.gr] ∧ Blk W bX 76 (carA x) ∧ Blk W bM 85 (msgC m) ∧ HasRow W bR 56 10) (by kernel_rfl) HRD.out (fun hHeld => ?_)
  refine wpAnyH_take (i := 0) (oi := ?o14__0) (v := .agg #[.int .i64 l.se, .int .i64 l.fl, .int .i64 l.fm, .int .i64 l.to, .int .i64 l.ma, .int .i64 l.ca, .int .i64 l.ph, .int .i64 (cl (cl now + cl (sp c.ho))), .int .i64 (IntKind.i64.wrap (l.re + 1)), .int .i64 l.gr]) ?h14__0 (by kernel_rfl) (by kernel_rfl) (by kernel_rfl) ?q14__0 ?y14__0 (by assumption) ?_
  case h14__0 => (first | (simp only [gA, gB, gC]; done) | (simp only [gA, gB, gC]; exact rfl))
  case q14__0 => exact fun _ _ _ h => h
  case y14__0 => (refine Or.inl ⟨rfl, ?_⟩; intro w hSw; exact exec_load_row 56 _ _ hSw.2.2.1 rfl rfl Try.underlying56 rfl (by kernel_rfl))
  (try simp only [Act.put, sA, sB, sC])
  refine wpAnyH_take (i := 1) (oi := ?o14__1) (v := .pointer (some ⟨bL, 5, none⟩)) ?h14__1 (by kernel_rfl) (by kernel_rfl) (by kernel_rfl) ?q14__1 ?y14__1 (by assumption) ?_
  case h14__1 => (first | (simp only [gA, gB, gC]; done) | (simp only [gA, gB, gC]; exact rfl))
  case q14__1 => exact fun _ _ _ h => h
  case y14__1 => (refine Or.inl ⟨rfl, ?_⟩; intro w hSw; (first | rfl | (go_simp; (try with_reducible rfl))))
  (try simp only [Act.put, sA, sB, sC])
  refine wpAnyH_take (i := 2) (oi := ?o14__2) (v := .int .i64 l.ca) ?h14__2 (by kernel_rfl) (by kernel_rfl) (by kernel_rfl) ?q14__2 ?y14__2 (by assumption) ?_
  case h14__2 => (first | (simp only [gA, gB, gC]; done) | (simp only [gA, gB, gC]; exact rfl))
  case q14__2 => exact fun _ _ _ h => h
  case y14__2 => (refine Or.inl ⟨rfl, ?_⟩; intro w hSw; exact exec_cell 3 _ _ hSw.2.2.1 rfl rfl rfl Try.underlying3 rfl)
  (try simp only [Act.put, sA, sB, sC])
  refine wpAnyH_take (i := 3) (oi := ?o14__3) (v := .agg #[.int .i64 4, .int .i64 l.ca, .int .i64 0, .int .i64 0]) ?h14__3 (by kernel_rfl) (by kernel_rfl) (by kernel_rfl) ?q14__3 ?y14__3 (by assumption) ?_
  case h14__3 => (first | (simp only [gA, gB, gC]; done) | (simp only [gA, gB, gC]; exact rfl))
  case q14__3 => exact fun _ _ _ h => h
  case y14__3 => (refine Or.inl ⟨rfl, ?_⟩; intro w hSw; kernel_rfl)
  (try simp only [Act.put, sA, sB, sC])
  refine wpAnyH_ready (rs := [4, 5]) (by kernel_rfl) (by simp) ?_
  refine AllReadyH.cons (o := ?o14__4b) ?h14__4b (fun K hK => ?g14__4b) (AllReadyH.cons (o := ?o14__5b) ?h14__5b (fun K hK => ?g14__5b) AllReadyH.nil)
  case h14__4b => (first | (simp only [gA, gB, gC]; done) | (simp only [gA, gB, gC]; exact rfl))
  case h14__5b => (first | (simp only [gA, gB, gC]; done) | (simp only [gA, gB, gC]; exact rfl))
  case g14__4b =>
    rw [if_pos (by rfl)]
    refine wp_new (fun b => .slice (some ⟨b, 0, none⟩) 1 1) 85 #[.int .i64 4, .int .i64 l.ca, .int .i64 0, .int .i64 0] (by rintro b rfl; first | rfl | kernel_rfl) ?_
    intro bn102 w5 hge hB hb
    refine hK.out _ _ (by (apply HRK.out; exact hb; exact hHeld)) (fun hHeld2 => ?_)
    have HNn102R := Lib.hid (show bn102 ≠ bR by obtain ⟨old, Bo, _⟩ := hHeld.2.2.2.2.2; have := Blk.lt Bo; omega)
    have HGn102 := Lib.hid (show w.heap.size ≤ bn102 by have := Since.size hHeld.1; (try simp at this); (try simp at hge); omega)
    have HXn102 := Lib.hid hB
    clear hB
    clear hge
    clear hK K hHeld hb
    have hHeld := hHeld2
    clear hHeld2
    (try simp only [Act.put, sA, sB, sC])
    refine wpAnyH_ready (rs := [5]) (by kernel_rfl) (by simp) ?_
    refine AllReadyH.cons (o := ?o14_b4_5) ?h14_b4_5 (fun K hK => ?_) AllReadyH.nil
    case h14_b4_5 => (first | (simp only [gA, gB, gC]; done) | (simp only [gA, gB, gC]; exact rfl))
    rw [if_pos (by rfl)]
    refine wp_st_row 56 _ _ rfl #[.int .i64 l.se, .int .i64 l.fl, .int .i64 l.fm, .int .i64 l.to, .int .i64 l.ma, .int .i64 l.ca, .int .i64 l.ph, .int .i64 (cl (cl now + cl (sp c.ho))), .int .i64 (IntKind.i64.wrap (l.re + 1)), .int .i64 l.gr] rfl rfl (hHeld.2.2.2.2.2) rfl (by simp [cfgA, leaA, carA, msgC, Value.oneCell']) (by kernel_rfl) ?_
    intro w6 hw
    have HRR := Lib.hid (show Blk w6 bR 56 #[.int .i64 l.se, .int .i64 l.fl, .int .i64 l.fm, .int .i64 l.to, .int .i64 l.ma, .int .i64 l.ca, .int .i64 l.ph, .int .i64 (cl (cl now + cl (sp c.ho))), .int .i64 (IntKind.i64.wrap (l.re + 1)), .int .i64 l.gr] by obtain ⟨old, Bo, _⟩ := hHeld.2.2.2.2.2; rw [hw]; exact Blk.row Bo _)
    have HXn1022 := Lib.hid (show Blk w6 bn102 85 #[.int .i64 4, .int .i64 l.ca, .int .i64 0, .int .i64 0] by rw [hw]; exact Blk.row_far HXn102.out HNn102R.out _)
    clear HXn102
    have hHeld3 : (fun W : World => Since w W ∧ Blk W w.heap.size 23 (cfgA c) ∧ Blk W bL 56 #[.int .i64 l.se, .int .i64 l.fl, .int .i64 l.fm, .int .i64 l.to, .int .i64 l.ma, .int .i64 l.ca, .int .i64 l.ph, .int .i64 (cl (cl now + cl (sp c.ho))), .int .i64 (IntKind.i64.wrap (l.re + 1)), .int .i64 l.gr] ∧ Blk W bX 76 (carA x) ∧ Blk W bM 85 (msgC m) ∧ HasRow W bR 56 10) w6 := ⟨by rw [hw]; exact Since.setRow hHeld.1 (by have := HNE3.out; omega) _, by rw [hw]; exact Blk.row_far (hHeld.2.1) (by have := HNE3.out; omega) _, by rw [hw]; exact Blk.row_far (hHeld.2.2.1) (by have := HNE3.out; omega) _, by rw [hw]; exact Blk.row_far (hHeld.2.2.2.1) (by have := HNE3.out; omega) _, by rw [hw]; exact Blk.row_far (hHeld.2.2.2.2.1) (by have := HNE3.out; omega) _, HasRow.of HRR.out rfl⟩
    refine hK.out _ _ hHeld3 (fun hHeld2 => ?_)
    clear hK K hHeld hHeld3 hw
    have hHeld := hHeld2
    clear hHeld2
    (try simp only [Act.put, sA, sB, sC])
    refine wpAnyH_take (i := 6) (oi := ?o14_b4_6) (v := .slice (some ⟨bn102, 0, none⟩) 1 1) ?h14_b4_6 (by kernel_rfl) (by kernel_rfl) (by kernel_rfl) ?q14_b4_6 ?y14_b4_6 (by assumption) ?_
    case h14_b4_6 => (first | (simp only [gA, gB, gC]; done) | (simp only [gA, gB, gC]; exact rfl))
    case q14_b4_6 => exact fun _ _ _ h => h
    case y14_b4_6 => (refine Or.inl ⟨rfl, ?_⟩; intro w hSw; (first | rfl | (go_simp; (try with_reducible rfl))))
    (try simp only [Act.put, sA, sB, sC])
    refine wpAnyH_take (i := 7) (oi := ?o14_b4_7) (v := .bool false) ?h14_b4_7 (by kernel_rfl) (by kernel_rfl) (by kernel_rfl) ?q14_b4_7 ?y14_b4_7 (by assumption) ?_
    case h14_b4_7 => (first | (simp only [gA, gB, gC]; done) | (simp only [gA, gB, gC]; exact rfl))
    case q14_b4_7 => exact fun _ _ _ h => h
    case y14_b4_7 => (refine Or.inl ⟨rfl, ?_⟩; intro w hSw; (first | rfl | (go_simp; (try with_reducible rfl))))
    (try simp only [Act.put, sA, sB, sC])
    refine wpAnyH_done (by kernel_rfl) ?_ _
    have HSd14 := Lib.hid hHeld.1
    have HBCd14 := Lib.hid (hHeld.2.1)
    have HBLd14 := Lib.hid (hHeld.2.2.1)
    have HBXd14 := Lib.hid (hHeld.2.2.2.1)
    have HBMd14 := Lib.hid (hHeld.2.2.2.2.1)
    have HBRd14 := Lib.hid HRR.out
    clear HRR
    clear hHeld HRK HRD HS4 HBC4 HBL4 HBX4 HBM4 HBR4
    (try go_wp2_with fail)
    exact bodyPost_ret (results_row3 rfl _ _ bR 56 #[.int .i64 l.se, .int .i64 l.fl, .int .i64 l.fm, .int .i64 l.to, .int .i64 l.ma, .int .i64 l.ca, .int .i64 l.ph, .int .i64 (cl (cl now + cl (sp c.ho))), .int .i64 (IntKind.i64.wrap (l.re + 1)), .int .i64 l.gr] _ (.slice (some ⟨bn102, 0, none⟩) 1 1) (.bool false) rfl rfl rfl HBRd14.out Try.underlying56 rfl (by kernel_rfl)) rfl ⟨.slice (some ⟨bn102, 0, none⟩) 1 1, rfl, ⟨bn102, rfl, HGn102.out, HXn1022.out⟩, HSd14.out⟩
  case g14__5b =>
    rw [if_pos (by rfl)]
    refine wp_st_row 56 _ _ rfl #[.int .i64 l.se, .int .i64 l.fl, .int .i64 l.fm, .int .i64 l.to, .int .i64 l.ma, .int .i64 l.ca, .int .i64 l.ph, .int .i64 (cl (cl now + cl (sp c.ho))), .int .i64 (IntKind.i64.wrap (l.re + 1)), .int .i64 l.gr] rfl rfl (hHeld.2.2.2.2.2) rfl (by simp [cfgA, leaA, carA, msgC, Value.oneCell']) (by kernel_rfl) ?_
    intro w5 hw
    have HRR := Lib.hid (show Blk w5 bR 56 #[.int .i64 l.se, .int .i64 l.fl, .int .i64 l.fm, .int .i64 l.to, .int .i64 l.ma, .int .i64 l.ca, .int .i64 l.ph, .int .i64 (cl (cl now + cl (sp c.ho))), .int .i64 (IntKind.i64.wrap (l.re + 1)), .int .i64 l.gr] by obtain ⟨old, Bo, _⟩ := hHeld.2.2.2.2.2; rw [hw]; exact Blk.row Bo _)
    have hHeld3 : (fun W : World => Since w W ∧ Blk W w.heap.size 23 (cfgA c) ∧ Blk W bL 56 #[.int .i64 l.se, .int .i64 l.fl, .int .i64 l.fm, .int .i64 l.to, .int .i64 l.ma, .int .i64 l.ca, .int .i64 l.ph, .int .i64 (cl (cl now + cl (sp c.ho))), .int .i64 (IntKind.i64.wrap (l.re + 1)), .int .i64 l.gr] ∧ Blk W bX 76 (carA x) ∧ Blk W bM 85 (msgC m) ∧ HasRow W bR 56 10) w5 := ⟨by rw [hw]; exact Since.setRow hHeld.1 (by have := HNE3.out; omega) _, by rw [hw]; exact Blk.row_far (hHeld.2.1) (by have := HNE3.out; omega) _, by rw [hw]; exact Blk.row_far (hHeld.2.2.1) (by have := HNE3.out; omega) _, by rw [hw]; exact Blk.row_far (hHeld.2.2.2.1) (by have := HNE3.out; omega) _, by rw [hw]; exact Blk.row_far (hHeld.2.2.2.2.1) (by have := HNE3.out; omega) _, HasRow.of HRR.out rfl⟩
    refine hK.out _ _ hHeld3 (fun hHeld2 => ?_)
    clear hK K hHeld hHeld3 hw
    have hHeld := hHeld2
    clear hHeld2
    (try simp only [Act.put, sA, sB, sC])
    refine wpAnyH_ready (rs := [4]) (by kernel_rfl) (by simp) ?_
    refine AllReadyH.cons (o := ?o14_b5_4) ?h14_b5_4 (fun K hK => ?_) AllReadyH.nil
    case h14_b5_4 => (first | (simp only [gA, gB, gC]; done) | (simp only [gA, gB, gC]; exact rfl))
    rw [if_pos (by rfl)]
    refine wp_new (fun b => .slice (some ⟨b, 0, none⟩) 1 1) 85 #[.int .i64 4, .int .i64 l.ca, .int .i64 0, .int .i64 0] (by rintro b rfl; first | rfl | kernel_rfl) ?_
    intro bn102 w6 hge hB hb
    refine hK.out _ _ (by (apply HRK.out; exact hb; exact hHeld)) (fun hHeld2 => ?_)
    have HRRk := Lib.hid (keep_blk hb HRR.out)
    clear HRR
    have HNn102R := Lib.hid (show bn102 ≠ bR by obtain ⟨old, Bo, _⟩ := hHeld.2.2.2.2.2; have := Blk.lt Bo; omega)
    have HGn102 := Lib.hid (show w.heap.size ≤ bn102 by have := Since.size hHeld.1; (try simp at this); (try simp at hge); omega)
    have HXn102 := Lib.hid hB
    clear hB
    clear hge
    clear hK K hHeld hb
    have hHeld := hHeld2
    clear hHeld2
    (try simp only [Act.put, sA, sB, sC])
    refine wpAnyH_take (i := 6) (oi := ?o14_b5_6) (v := .slice (some ⟨bn102, 0, none⟩) 1 1) ?h14_b5_6 (by kernel_rfl) (by kernel_rfl) (by kernel_rfl) ?q14_b5_6 ?y14_b5_6 (by assumption) ?_
    case h14_b5_6 => (first | (simp only [gA, gB, gC]; done) | (simp only [gA, gB, gC]; exact rfl))
    case q14_b5_6 => exact fun _ _ _ h => h
    case y14_b5_6 => (refine Or.inl ⟨rfl, ?_⟩; intro w hSw; (first | rfl | (go_simp; (try with_reducible rfl))))
    (try simp only [Act.put, sA, sB, sC])
    refine wpAnyH_take (i := 7) (oi := ?o14_b5_7) (v := .bool false) ?h14_b5_7 (by kernel_rfl) (by kernel_rfl) (by kernel_rfl) ?q14_b5_7 ?y14_b5_7 (by assumption) ?_
    case h14_b5_7 => (first | (simp only [gA, gB, gC]; done) | (simp only [gA, gB, gC]; exact rfl))
    case q14_b5_7 => exact fun _ _ _ h => h
    case y14_b5_7 => (refine Or.inl ⟨rfl, ?_⟩; intro w hSw; (first | rfl | (go_simp; (try with_reducible rfl))))
    (try simp only [Act.put, sA, sB, sC])
    refine wpAnyH_done (by kernel_rfl) ?_ _
    have HSd14 := Lib.hid hHeld.1
    have HBCd14 := Lib.hid (hHeld.2.1)
    have HBLd14 := Lib.hid (hHeld.2.2.1)
    have HBXd14 := Lib.hid (hHeld.2.2.2.1)
    have HBMd14 := Lib.hid (hHeld.2.2.2.2.1)
    have HBRd14 := Lib.hid HRRk.out
    clear HRRk
    clear hHeld HRK HRD HS4 HBC4 HBL4 HBX4 HBM4 HBR4
    (try go_wp2_with fail)
    exact bodyPost_ret (results_row3 rfl _ _ bR 56 #[.int .i64 l.se, .int .i64 l.fl, .int .i64 l.fm, .int .i64 l.to, .int .i64 l.ma, .int .i64 l.ca, .int .i64 l.ph, .int .i64 (cl (cl now + cl (sp c.ho))), .int .i64 (IntKind.i64.wrap (l.re + 1)), .int .i64 l.gr] _ (.slice (some ⟨bn102, 0, none⟩) 1 1) (.bool false) rfl rfl rfl HBRd14.out Try.underlying56 rfl (by kernel_rfl)) rfl ⟨.slice (some ⟨bn102, 0, none⟩) 1 1, rfl, ⟨bn102, rfl, HGn102.out, HXn102.out⟩, HSd14.out⟩
set_option maxHeartbeats 4000000 in
theorem hearRN0 (c : CfgV) (l : LeaseV) (x : CarV) (now : Int) (m : MsgV) (h0 : (m.ki == 9) = true) (h1 : (l.ph == 2) = false) (h2 : (m.ki == 13) = false) (h4 : (m.ki == 15) = false) (w : World) : Calls Try.prog 58 #[.agg #[.int .i64 c.ca, .int .i64 c.fl, .int .i64 c.ft, .int .i64 c.se, .int .i64 c.dr, .int .i64 c.dw, .int .i64 c.ho, .int .i64 c.re, .int .i64 c.yi, .int .i64 c.qu, .int .i64 c.qo, .int .i64 c.lo, .int .i64 c.sl, .int .i64 c.rt, .int .i64 c.cp, .int .i64 c.tr, .int .i64 c.de, .int .i64 c.wi], .agg #[.int .i64 l.se, .int .i64 l.fl, .int .i64 l.fm, .int .i64 l.to, .int .i64 l.ma, .int .i64 l.ca, .int .i64 l.ph, .int .i64 l.un, .int .i64 l.re, .int .i64 l.gr], .agg #[.int .i64 x.ds, .int .i64 x.da, .int .i64 x.un, .int .i64 x.wy, .int .i64 x.ti, .int .i64 x.ju, .int .i64 x.lo, .bool x.bl, .bool x.br, .int .i64 x.mo, .int .i64 x.ta, .bool x.ho, .int .u64 x.sp, .int .u64 x.su, .int .u64 x.sd], .int .i64 now, .agg (msgC m)] w (Said w (⟨l.se, l.fl, l.fm, l.to, l.ma, l.ca, l.ph, l.un, l.re, l.gr⟩, some ⟨7, l.ph, 0, 0⟩, false)) := by
  have H0 := Lib.hid h0
  clear h0
  have H1 := Lib.hid h1
  clear h1
  have H2 := Lib.hid h2
  clear h2
  have H4 := Lib.hid h4
  clear h4
  go_enter Try.func58, Try.ntmps58
  go_upto_region 1 with fail
  obtain ⟨w1, hw1⟩ : ∃ w1, w1 = (((((w.alloc (.cells #[.int .i64 c.ca, .int .i64 c.fl, .int .i64 c.ft, .int .i64 c.se, .int .i64 c.dr, .int .i64 c.dw, .int .i64 c.ho, .int .i64 c.re, .int .i64 c.yi, .int .i64 c.qu, .int .i64 c.qo, .int .i64 c.lo, .int .i64 c.sl, .int .i64 c.rt, .int .i64 c.cp, .int .i64 c.tr, .int .i64 c.de, .int .i64 c.wi] 23)).alloc (.cells #[.int .i64 l.se, .int .i64 l.fl, .int .i64 l.fm, .int .i64 l.to, .int .i64 l.ma, .int .i64 l.ca, .int .i64 l.ph, .int .i64 l.un, .int .i64 l.re, .int .i64 l.gr] 56)).alloc (.cells #[.int .i64 x.ds, .int .i64 x.da, .int .i64 x.un, .int .i64 x.wy, .int .i64 x.ti, .int .i64 x.ju, .int .i64 x.lo, .bool x.bl, .bool x.br, .int .i64 x.mo, .int .i64 x.ta, .bool x.ho, .int .u64 x.sp, .int .u64 x.su, .int .u64 x.sd] 76)).alloc (.cells (msgC m) 85)).alloc (.cells #[.int .i64 0, .int .i64 0, .int .i64 0, .int .i64 0, .int .i64 0, .int .i64 0, .int .i64 0, .int .i64 0, .int .i64 0, .int .i64 0] 56)) := ⟨_, rfl⟩
  rw [← hw1]
  have HBC1 := Lib.hid (show Blk w1 (w.heap.size) 23 (cfgA c) by rw [hw1]; exact Blk.alloc (Blk.alloc (Blk.alloc (Blk.alloc (Blk.at_ (by (try simp only [size_alloc])) _ _) _) _) _) _)
  have HBL1 := Lib.hid (show Blk w1 (w.heap.size + 1) 56 (leaA l) by rw [hw1]; exact Blk.alloc (Blk.alloc (Blk.alloc (Blk.at_ (by (try simp only [size_alloc])) _ _) _) _) _)
  have HBX1 := Lib.hid (show Blk w1 (w.heap.size + 1 + 1) 76 (carA x) by rw [hw1]; exact Blk.alloc (Blk.alloc (Blk.at_ (by (try simp only [size_alloc])) _ _) _) _)
  have HBM1 := Lib.hid (show Blk w1 (w.heap.size + 1 + 1 + 1) 85 (msgC m) by rw [hw1]; exact Blk.alloc (Blk.at_ (by (try simp only [size_alloc])) _ _) _)
  have HBR1 := Lib.hid (show Blk w1 (w.heap.size + 1 + 1 + 1 + 1) 56 #[.int .i64 0, .int .i64 0, .int .i64 0, .int .i64 0, .int .i64 0, .int .i64 0, .int .i64 0, .int .i64 0, .int .i64 0, .int .i64 0] by rw [hw1]; exact Blk.at_ (by (try simp only [size_alloc])) _ _)
  have HS1 := Lib.hid (show Since w w1 by rw [hw1]; exact Since.alloc (Since.alloc (Since.alloc (Since.alloc (Since.alloc (Since.refl w) _) _) _) _) _)
  have hNE : w.heap.size ≤ w.heap.size ∧ w.heap.size < w.heap.size + 1 ∧ w.heap.size + 1 < w.heap.size + 1 + 1 ∧ w.heap.size + 1 + 1 < w.heap.size + 1 + 1 + 1 ∧ w.heap.size + 1 + 1 + 1 < w.heap.size + 1 + 1 + 1 + 1 := by omega
  have HNE := Lib.hid hNE
  clear hNE hw1
  generalize w.heap.size + 1 + 1 + 1 + 1 = bR at *
  generalize w.heap.size + 1 + 1 + 1 = bM at *
  generalize w.heap.size + 1 + 1 = bX at *
  generalize w.heap.size + 1 = bL at *
  have HNE3 := Lib.hid (show w.heap.size ≤ w.heap.size ∧ w.heap.size < bL ∧ bL < bX ∧ bX < bM ∧ bM < bR from HNE.out)
  clear HNE
  refine wp_region_lit ?_
  refine wpList_q (by rfl) (.pointer (some ⟨bM, 0, none⟩)) ?he ?_
  case he => (first | rfl | (go_simp; (try with_reducible rfl)))
  (try simp only [Act.put, sA, sB, sC])
  refine wpList_q (by rfl) (.int .i64 m.ki) ?he ?_
  case he => exact exec_cell 3 _ _ HBM1.out rfl rfl rfl Try.underlying3 rfl
  (try simp only [Act.put, sA, sB, sC])
  refine wpList_q (by rfl) (.bool true) ?he ?_
  case he => (have hq := H0.out; go_simp; (try with_reducible rfl))
  (try simp only [Act.put, sA, sB, sC])
  refine wpList_q (by rfl) (.bool true) ?he ?_
  case he => (first | rfl | (go_simp; (try with_reducible rfl)))
  (try simp only [Act.put, sA, sB, sC])
  refine wpList_q (by rfl) (.pointer (some ⟨bL, 6, none⟩)) ?he ?_
  case he => (first | rfl | (go_simp; (try with_reducible rfl)))
  (try simp only [Act.put, sA, sB, sC])
  refine wpList_q (by rfl) (.int .i64 l.ph) ?he ?_
  case he => exact exec_cell 3 _ _ HBL1.out rfl rfl rfl Try.underlying3 rfl
  (try simp only [Act.put, sA, sB, sC])
  refine wpList_q (by rfl) (.bool false) ?he ?_
  case he => (have hq := H1.out; go_simp; (try with_reducible rfl))
  (try simp only [Act.put, sA, sB, sC])
  refine wpList_q (by rfl) (.bool false) ?he ?_
  case he => (first | rfl | (go_simp; (try with_reducible rfl)))
  (try simp only [Act.put, sA, sB, sC])
  refine wpList_q (by rfl) (.bool false) ?he ?_
  case he => (first | rfl | (go_simp; (try with_reducible rfl)))
  (try simp only [Act.put, sA, sB, sC])
  refine wpList_nil ?_
  go_upto_region 9 with fail
  refine wp_region_lit ?_
  refine wpList_q (by rfl) (.pointer (some ⟨bM, 0, none⟩)) ?he ?_
  case he => (first | rfl | (go_simp; (try with_reducible rfl)))
  (try simp only [Act.put, sA, sB, sC])
  refine wpList_q (by rfl) (.int .i64 m.ki) ?he ?_
  case he => exact exec_cell 3 _ _ HBM1.out rfl rfl rfl Try.underlying3 rfl
  (try simp only [Act.put, sA, sB, sC])
  refine wpList_q (by rfl) (.bool false) ?he ?_
  case he => (have hq := H2.out; go_simp; (try with_reducible rfl))
  (try simp only [Act.put, sA, sB, sC])
  refine wpList_q (by rfl) (.bool false) ?he ?_
  case he => (first | rfl | (go_simp; (try with_reducible rfl)))
  (try simp only [Act.put, sA, sB, sC])
  refine wpList_no (by rfl) ?_
  (try simp only [Act.put, sA, sB, sC])
  refine wpList_no (by rfl) ?_
  (try simp only [Act.put, sA, sB, sC])
  refine wpList_no (by rfl) ?_
  (try simp only [Act.put, sA, sB, sC])
  refine wpList_q (by rfl) (.bool false) ?he ?_
  case he => (first | rfl | (go_simp; (try with_reducible rfl)))
  (try simp only [Act.put, sA, sB, sC])
  refine wpList_q (by rfl) (.bool false) ?he ?_
  case he => (first | rfl | (go_simp; (try with_reducible rfl)))
  (try simp only [Act.put, sA, sB, sC])
  refine wpList_nil ?_
  go_upto_region 11 with fail
  have hrK : ∀ W W' : World, Since W W' → (Since w W ∧ Blk W w.heap.size 23 (cfgA c) ∧ Blk W bL 56 (leaA l) ∧ Blk W bX 76 (carA x) ∧ Blk W bM 85 (msgC m) ∧ Blk W bR 56 #[.int .i64 0, .int .i64 0, .int .i64 0, .int .i64 0, .int .i64 0, .int .i64 0, .int .i64 0, .int .i64 0, .int .i64 0, .int .i64 0]) → (Since w W' ∧ Blk W' w.heap.size 23 (cfgA c) ∧ Blk W' bL 56 (leaA l) ∧ Blk W' bX 76 (carA x) ∧ Blk W' bM 85 (msgC m) ∧ Blk W' bR 56 #[.int .i64 0, .int .i64 0, .int .i64 0, .int .i64 0, .int .i64 0, .int .i64 0, .int .i64 0, .int .i64 0, .int .i64 0, .int .i64 0]) := fun W W' k ⟨h, h0, h1, h2, h3, h4⟩ => ⟨h.trans k, keep_blk k h0, keep_blk k h1, keep_blk k h2, keep_blk k h3, keep_blk k h4⟩
  have hrS : (fun W : World => Since w W ∧ Blk W w.heap.size 23 (cfgA c) ∧ Blk W bL 56 (leaA l) ∧ Blk W bX 76 (carA x) ∧ Blk W bM 85 (msgC m) ∧ Blk W bR 56 #[.int .i64 0, .int .i64 0, .int .i64 0, .int .i64 0, .int .i64 0, .int .i64 0, .int .i64 0, .int .i64 0, .int .i64 0, .int .i64 0]) w1 := ⟨HS1.out, HBC1.out, HBL1.out, HBX1.out, HBM1.out, HBR1.out⟩
  have HRK := Lib.hid hrK
  have HRD := Lib.hid (show (fun W : World => Since w W ∧ Blk W w.heap.size 23 (cfgA c) ∧ Blk W bL 56 (leaA l) ∧ Blk W bX 76 (carA x) ∧ Blk W bM 85 (msgC m) ∧ Blk W bR 56 #[.int .i64 0, .int .i64 0, .int .i64 0, .int .i64 0, .int .i64 0, .int .i64 0, .int .i64 0, .int .i64 0, .int .i64 0, .int .i64 0]) (World.drew w1) from ⟨Since.drew hrS.1, hrS.2⟩)
  clear hrK hrS
  refine wp_region_held_drew (S := fun W : World => Since w W ∧ Blk W w.heap.size 23 (cfgA c) ∧ Blk W bL 56 (leaA l) ∧ Blk W bX 76 (carA x) ∧ Blk W bM 85 (msgC m) ∧ Blk W bR 56 #[.int .i64 0, .int .i64 0, .int .i64 0, .int .i64 0, .int .i64 0, .int .i64 0, .int .i64 0, .int .i64 0, .int .i64 0, .int .i64 0]) (by kernel_rfl) HRD.out (fun hHeld => ?_)
  refine wpAnyH_take (i := 0) (oi := ?o11__0) (v := .pointer (some ⟨bM, 0, none⟩)) ?h11__0 (by kernel_rfl) (by kernel_rfl) (by kernel_rfl) ?q11__0 ?y11__0 (by assumption) ?_
  case h11__0 => (first | (simp only [gA, gB, gC]; done) | (simp only [gA, gB, gC]; exact rfl))
  case q11__0 => exact fun _ _ _ h => h
  case y11__0 => (refine Or.inl ⟨rfl, ?_⟩; intro w hSw; (first | rfl | (go_simp; (try with_reducible rfl))))
  (try simp only [Act.put, sA, sB, sC])
  refine wpAnyH_take (i := 1) (oi := ?o11__1) (v := .int .i64 m.ki) ?h11__1 (by kernel_rfl) (by kernel_rfl) (by kernel_rfl) ?q11__1 ?y11__1 (by assumption) ?_
  case h11__1 => (first | (simp only [gA, gB, gC]; done) | (simp only [gA, gB, gC]; exact rfl))
  case q11__1 => exact fun _ _ _ h => h
  case y11__1 => (refine Or.inl ⟨rfl, ?_⟩; intro w hSw; exact exec_cell 3 _ _ hSw.2.2.2.2.1 rfl rfl rfl Try.underlying3 rfl)
  (try simp only [Act.put, sA, sB, sC])
  refine wpAnyH_take (i := 2) (oi := ?o11__2) (v := .bool false) ?h11__2 (by kernel_rfl) (by kernel_rfl) (by kernel_rfl) ?q11__2 ?y11__2 (by assumption) ?_
  case h11__2 => (first | (simp only [gA, gB, gC]; done) | (simp only [gA, gB, gC]; exact rfl))
  case q11__2 => exact fun _ _ _ h => h
  case y11__2 => (refine Or.inl ⟨rfl, ?_⟩; intro w hSw; (have hq := H4.out; go_simp; (try with_reducible rfl)))
  (try simp only [Act.put, sA, sB, sC])
  refine wpAnyH_take (i := 3) (oi := ?o11__3) (v := .bool false) ?h11__3 (by kernel_rfl) (by kernel_rfl) (by kernel_rfl) ?q11__3 ?y11__3 (by assumption) ?_
  case h11__3 => (first | (simp only [gA, gB, gC]; done) | (simp only [gA, gB, gC]; exact rfl))
  case q11__3 => exact fun _ _ _ h => h
  case y11__3 => (refine Or.inl ⟨rfl, ?_⟩; intro w hSw; (first | rfl | (go_simp; (try with_reducible rfl))))
  (try simp only [Act.put, sA, sB, sC])
  refine wpAnyH_take (i := 4) (oi := ?o11__4) (v := undef) ?h11__4 (by kernel_rfl) (by kernel_rfl) (by kernel_rfl) ?q11__4 ?y11__4 (by assumption) ?_
  case h11__4 => (first | (simp only [gA, gB, gC]; done) | (simp only [gA, gB, gC]; exact rfl))
  case q11__4 => exact fun _ _ _ h => h
  case y11__4 => exact Or.inr ⟨rfl, rfl⟩
  (try simp only [Act.put, sA, sB, sC])
  refine wpAnyH_take (i := 5) (oi := ?o11__5) (v := undef) ?h11__5 (by kernel_rfl) (by kernel_rfl) (by kernel_rfl) ?q11__5 ?y11__5 (by assumption) ?_
  case h11__5 => (first | (simp only [gA, gB, gC]; done) | (simp only [gA, gB, gC]; exact rfl))
  case q11__5 => exact fun _ _ _ h => h
  case y11__5 => exact Or.inr ⟨rfl, rfl⟩
  (try simp only [Act.put, sA, sB, sC])
  refine wpAnyH_take (i := 6) (oi := ?o11__6) (v := undef) ?h11__6 (by kernel_rfl) (by kernel_rfl) (by kernel_rfl) ?q11__6 ?y11__6 (by assumption) ?_
  case h11__6 => (first | (simp only [gA, gB, gC]; done) | (simp only [gA, gB, gC]; exact rfl))
  case q11__6 => exact fun _ _ _ h => h
  case y11__6 => exact Or.inr ⟨rfl, rfl⟩
  (try simp only [Act.put, sA, sB, sC])
  refine wpAnyH_take (i := 7) (oi := ?o11__7) (v := undef) ?h11__7 (by kernel_rfl) (by kernel_rfl) (by kernel_rfl) ?q11__7 ?y11__7 (by assumption) ?_
  case h11__7 => (first | (simp only [gA, gB, gC]; done) | (simp only [gA, gB, gC]; exact rfl))
  case q11__7 => exact fun _ _ _ h => h
  case y11__7 => exact Or.inr ⟨rfl, rfl⟩
  (try simp only [Act.put, sA, sB, sC])
  refine wpAnyH_take (i := 8) (oi := ?o11__8) (v := undef) ?h11__8 (by kernel_rfl) (by kernel_rfl) (by kernel_rfl) ?q11__8 ?y11__8 (by assumption) ?_
  case h11__8 => (first | (simp only [gA, gB, gC]; done) | (simp only [gA, gB, gC]; exact rfl))
  case q11__8 => exact fun _ _ _ h => h
  case y11__8 => exact Or.inr ⟨rfl, rfl⟩
  (try simp only [Act.put, sA, sB, sC])
  refine wpAnyH_take (i := 9) (oi := ?o11__9) (v := undef) ?h11__9 (by kernel_rfl) (by kernel_rfl) (by kernel_rfl) ?q11__9 ?y11__9 (by assumption) ?_
  case h11__9 => (first | (simp only [gA, gB, gC]; done) | (simp only [gA, gB, gC]; exact rfl))
  case q11__9 => exact fun _ _ _ h => h
  case y11__9 => exact Or.inr ⟨rfl, rfl⟩
  (try simp only [Act.put, sA, sB, sC])
  refine wpAnyH_take (i := 10) (oi := ?o11__10) (v := undef) ?h11__10 (by kernel_rfl) (by kernel_rfl) (by kernel_rfl) ?q11__10 ?y11__10 (by assumption) ?_
  case h11__10 => (first | (simp only [gA, gB, gC]; done) | (simp only [gA, gB, gC]; exact rfl))
  case q11__10 => exact fun _ _ _ h => h
  case y11__10 => exact Or.inr ⟨rfl, rfl⟩
  (try simp only [Act.put, sA, sB, sC])
  refine wpAnyH_take (i := 11) (oi := ?o11__11) (v := undef) ?h11__11 (by kernel_rfl) (by kernel_rfl) (by kernel_rfl) ?q11__11 ?y11__11 (by assumption) ?_
  case h11__11 => (first | (simp only [gA, gB, gC]; done) | (simp only [gA, gB, gC]; exact rfl))
  case q11__11 => exact fun _ _ _ h => h
  case y11__11 => exact Or.inr ⟨rfl, rfl⟩
  (try simp only [Act.put, sA, sB, sC])
  refine wpAnyH_take (i := 12) (oi := ?o11__12) (v := .bool false) ?h11__12 (by kernel_rfl) (by kernel_rfl) (by kernel_rfl) ?q11__12 ?y11__12 (by assumption) ?_
  case h11__12 => (first | (simp only [gA, gB, gC]; done) | (simp only [gA, gB, gC]; exact rfl))
  case q11__12 => exact fun _ _ _ h => h
  case y11__12 => (refine Or.inl ⟨rfl, ?_⟩; intro w hSw; (first | rfl | (go_simp; (try with_reducible rfl))))
  (try simp only [Act.put, sA, sB, sC])
  refine wpAnyH_take (i := 13) (oi := ?o11__13) (v := .bool false) ?h11__13 (by kernel_rfl) (by kernel_rfl) (by kernel_rfl) ?q11__13 ?y11__13 (by assumption) ?_
  case h11__13 => (first | (simp only [gA, gB, gC]; done) | (simp only [gA, gB, gC]; exact rfl))
  case q11__13 => exact fun _ _ _ h => h
  case y11__13 => (refine Or.inl ⟨rfl, ?_⟩; intro w hSw; (first | rfl | (go_simp; (try with_reducible rfl))))
  (try simp only [Act.put, sA, sB, sC])
  refine wpAnyH_take (i := 14) (oi := ?o11__14) (v := undef) ?h11__14 (by kernel_rfl) (by kernel_rfl) (by kernel_rfl) ?q11__14 ?y11__14 (by assumption) ?_
  case h11__14 => (first | (simp only [gA, gB, gC]; done) | (simp only [gA, gB, gC]; exact rfl))
  case q11__14 => exact fun _ _ _ h => h
  case y11__14 => exact Or.inr ⟨rfl, rfl⟩
  (try simp only [Act.put, sA, sB, sC])
  refine wpAnyH_take (i := 15) (oi := ?o11__15) (v := undef) ?h11__15 (by kernel_rfl) (by kernel_rfl) (by kernel_rfl) ?q11__15 ?y11__15 (by assumption) ?_
  case h11__15 => (first | (simp only [gA, gB, gC]; done) | (simp only [gA, gB, gC]; exact rfl))
  case q11__15 => exact fun _ _ _ h => h
  case y11__15 => exact Or.inr ⟨rfl, rfl⟩
  (try simp only [Act.put, sA, sB, sC])
  refine wpAnyH_take (i := 16) (oi := ?o11__16) (v := undef) ?h11__16 (by kernel_rfl) (by kernel_rfl) (by kernel_rfl) ?q11__16 ?y11__16 (by assumption) ?_
  case h11__16 => (first | (simp only [gA, gB, gC]; done) | (simp only [gA, gB, gC]; exact rfl))
  case q11__16 => exact fun _ _ _ h => h
  case y11__16 => exact Or.inr ⟨rfl, rfl⟩
  (try simp only [Act.put, sA, sB, sC])
  refine wpAnyH_take (i := 17) (oi := ?o11__17) (v := undef) ?h11__17 (by kernel_rfl) (by kernel_rfl) (by kernel_rfl) ?q11__17 ?y11__17 (by assumption) ?_
  case h11__17 => (first | (simp only [gA, gB, gC]; done) | (simp only [gA, gB, gC]; exact rfl))
  case q11__17 => exact fun _ _ _ h => h
  case y11__17 => exact Or.inr ⟨rfl, rfl⟩
  (try simp only [Act.put, sA, sB, sC])
  refine wpAnyH_take (i := 18) (oi := ?o11__18) (v := undef) ?h11__18 (by kernel_rfl) (by kernel_rfl) (by kernel_rfl) ?q11__18 ?y11__18 (by assumption) ?_
  case h11__18 => (first | (simp only [gA, gB, gC]; done) | (simp only [gA, gB, gC]; exact rfl))
  case q11__18 => exact fun _ _ _ h => h
  case y11__18 => exact Or.inr ⟨rfl, rfl⟩
  (try simp only [Act.put, sA, sB, sC])
  refine wpAnyH_take (i := 19) (oi := ?o11__19) (v := .bool false) ?h11__19 (by kernel_rfl) (by kernel_rfl) (by kernel_rfl) ?q11__19 ?y11__19 (by assumption) ?_
  case h11__19 => (first | (simp only [gA, gB, gC]; done) | (simp only [gA, gB, gC]; exact rfl))
  case q11__19 => exact fun _ _ _ h => h
  case y11__19 => (refine Or.inl ⟨rfl, ?_⟩; intro w hSw; (first | rfl | (go_simp; (try with_reducible rfl))))
  (try simp only [Act.put, sA, sB, sC])
  refine wpAnyH_take (i := 20) (oi := ?o11__20) (v := .bool false) ?h11__20 (by kernel_rfl) (by kernel_rfl) (by kernel_rfl) ?q11__20 ?y11__20 (by assumption) ?_
  case h11__20 => (first | (simp only [gA, gB, gC]; done) | (simp only [gA, gB, gC]; exact rfl))
  case q11__20 => exact fun _ _ _ h => h
  case y11__20 => (refine Or.inl ⟨rfl, ?_⟩; intro w hSw; (first | rfl | (go_simp; (try with_reducible rfl))))
  (try simp only [Act.put, sA, sB, sC])
  refine wpAnyH_done (by kernel_rfl) ?_ _
  have HSd11 := Lib.hid hHeld.1
  have HBCd11 := Lib.hid (hHeld.2.1)
  have HBLd11 := Lib.hid (hHeld.2.2.1)
  have HBXd11 := Lib.hid (hHeld.2.2.2.1)
  have HBMd11 := Lib.hid (hHeld.2.2.2.2.1)
  have HBRd11 := Lib.hid (hHeld.2.2.2.2.2)
  clear hHeld HRK HRD HS1 HBC1 HBL1 HBX1 HBM1 HBR1
  go_upto_region 15 with fail
  have hrK : ∀ W W' : World, Since W W' → (Since w W ∧ Blk W w.heap.size 23 (cfgA c) ∧ Blk W bL 56 (leaA l) ∧ Blk W bX 76 (carA x) ∧ Blk W bM 85 (msgC m) ∧ HasRow W bR 56 10) → (Since w W' ∧ Blk W' w.heap.size 23 (cfgA c) ∧ Blk W' bL 56 (leaA l) ∧ Blk W' bX 76 (carA x) ∧ Blk W' bM 85 (msgC m) ∧ HasRow W' bR 56 10) := fun W W' k ⟨h, h0, h1, h2, h3, h4⟩ => ⟨h.trans k, keep_blk k h0, keep_blk k h1, keep_blk k h2, keep_blk k h3, HasRow.keep k h4⟩
  have hrS : (fun W : World => Since w W ∧ Blk W w.heap.size 23 (cfgA c) ∧ Blk W bL 56 (leaA l) ∧ Blk W bX 76 (carA x) ∧ Blk W bM 85 (msgC m) ∧ HasRow W bR 56 10) w1.drew := ⟨HSd11.out, HBCd11.out, HBLd11.out, HBXd11.out, HBMd11.out, HasRow.of HBRd11.out rfl⟩
  have HRK := Lib.hid hrK
  have HRD := Lib.hid (show (fun W : World => Since w W ∧ Blk W w.heap.size 23 (cfgA c) ∧ Blk W bL 56 (leaA l) ∧ Blk W bX 76 (carA x) ∧ Blk W bM 85 (msgC m) ∧ HasRow W bR 56 10) (World.drew w1.drew) from ⟨Since.drew hrS.1, hrS.2⟩)
  clear hrK hrS
  refine wp_region_held_drew (S := fun W : World => Since w W ∧ Blk W w.heap.size 23 (cfgA c) ∧ Blk W bL 56 (leaA l) ∧ Blk W bX 76 (carA x) ∧ Blk W bM 85 (msgC m) ∧ HasRow W bR 56 10) (by kernel_rfl) HRD.out (fun hHeld => ?_)
  refine wpAnyH_take (i := 0) (oi := ?o15__0) (v := .agg (leaA l)) ?h15__0 (by kernel_rfl) (by kernel_rfl) (by kernel_rfl) ?q15__0 ?y15__0 (by assumption) ?_
  case h15__0 => (first | (simp only [gA, gB, gC]; done) | (simp only [gA, gB, gC]; exact rfl))
  case q15__0 => exact fun _ _ _ h => h
  case y15__0 => (refine Or.inl ⟨rfl, ?_⟩; intro w hSw; exact exec_load_row 56 _ _ hSw.2.2.1 rfl rfl Try.underlying56 rfl (by kernel_rfl))
  (try simp only [Act.put, sA, sB, sC])
  refine wpAnyH_take (i := 1) (oi := ?o15__1) (v := .pointer (some ⟨bL, 6, none⟩)) ?h15__1 (by kernel_rfl) (by kernel_rfl) (by kernel_rfl) ?q15__1 ?y15__1 (by assumption) ?_
  case h15__1 => (first | (simp only [gA, gB, gC]; done) | (simp only [gA, gB, gC]; exact rfl))
  case q15__1 => exact fun _ _ _ h => h
  case y15__1 => (refine Or.inl ⟨rfl, ?_⟩; intro w hSw; (first | rfl | (go_simp; (try with_reducible rfl))))
  (try simp only [Act.put, sA, sB, sC])
  refine wpAnyH_take (i := 2) (oi := ?o15__2) (v := .int .i64 l.ph) ?h15__2 (by kernel_rfl) (by kernel_rfl) (by kernel_rfl) ?q15__2 ?y15__2 (by assumption) ?_
  case h15__2 => (first | (simp only [gA, gB, gC]; done) | (simp only [gA, gB, gC]; exact rfl))
  case q15__2 => exact fun _ _ _ h => h
  case y15__2 => (refine Or.inl ⟨rfl, ?_⟩; intro w hSw; exact exec_cell 3 _ _ hSw.2.2.1 rfl rfl rfl Try.underlying3 rfl)
  (try simp only [Act.put, sA, sB, sC])
  refine wpAnyH_take (i := 3) (oi := ?o15__3) (v := .agg #[.int .i64 7, .int .i64 l.ph, .int .i64 0, .int .i64 0]) ?h15__3 (by kernel_rfl) (by kernel_rfl) (by kernel_rfl) ?q15__3 ?y15__3 (by assumption) ?_
  case h15__3 => (first | (simp only [gA, gB, gC]; done) | (simp only [gA, gB, gC]; exact rfl))
  case q15__3 => exact fun _ _ _ h => h
  case y15__3 => (refine Or.inl ⟨rfl, ?_⟩; intro w hSw; kernel_rfl)
  (try simp only [Act.put, sA, sB, sC])
  refine wpAnyH_ready (rs := [4, 5]) (by kernel_rfl) (by simp) ?_
  refine AllReadyH.cons (o := ?o15__4b) ?h15__4b (fun K hK => ?g15__4b) (AllReadyH.cons (o := ?o15__5b) ?h15__5b (fun K hK => ?g15__5b) AllReadyH.nil)
  case h15__4b => (first | (simp only [gA, gB, gC]; done) | (simp only [gA, gB, gC]; exact rfl))
  case h15__5b => (first | (simp only [gA, gB, gC]; done) | (simp only [gA, gB, gC]; exact rfl))
  case g15__4b =>
    rw [if_pos (by rfl)]
    refine wp_new (fun b => .slice (some ⟨b, 0, none⟩) 1 1) 85 #[.int .i64 7, .int .i64 l.ph, .int .i64 0, .int .i64 0] (by rintro b rfl; first | rfl | kernel_rfl) ?_
    intro bn107 w2 hge hB hb
    refine hK.out _ _ (by (apply HRK.out; exact hb; exact hHeld)) (fun hHeld2 => ?_)
    have HNn107R := Lib.hid (show bn107 ≠ bR by obtain ⟨old, Bo, _⟩ := hHeld.2.2.2.2.2; have := Blk.lt Bo; omega)
    have HGn107 := Lib.hid (show w.heap.size ≤ bn107 by have := Since.size hHeld.1; (try simp at this); (try simp at hge); omega)
    have HXn107 := Lib.hid hB
    clear hB
    clear hge
    clear hK K hHeld hb
    have hHeld := hHeld2
    clear hHeld2
    (try simp only [Act.put, sA, sB, sC])
    refine wpAnyH_ready (rs := [5]) (by kernel_rfl) (by simp) ?_
    refine AllReadyH.cons (o := ?o15_b4_5) ?h15_b4_5 (fun K hK => ?_) AllReadyH.nil
    case h15_b4_5 => (first | (simp only [gA, gB, gC]; done) | (simp only [gA, gB, gC]; exact rfl))
    rw [if_pos (by rfl)]
    refine wp_st_row 56 _ _ rfl #[.int .i64 l.se, .int .i64 l.fl, .int .i64 l.fm, .int .i64 l.to, .int .i64 l.ma, .int .i64 l.ca, .int .i64 l.ph, .int .i64 l.un, .int .i64 l.re, .int .i64 l.gr] rfl rfl (hHeld.2.2.2.2.2) rfl (by simp [cfgA, leaA, carA, msgC, Value.oneCell']) (by kernel_rfl) ?_
    intro w3 hw
    have HRR := Lib.hid (show Blk w3 bR 56 (leaA l) by obtain ⟨old, Bo, _⟩ := hHeld.2.2.2.2.2; rw [hw]; exact Blk.row Bo _)
    have HXn1072 := Lib.hid (show Blk w3 bn107 85 #[.int .i64 7, .int .i64 l.ph, .int .i64 0, .int .i64 0] by rw [hw]; exact Blk.row_far HXn107.out HNn107R.out _)
    clear HXn107
    have hHeld3 : (fun W : World => Since w W ∧ Blk W w.heap.size 23 (cfgA c) ∧ Blk W bL 56 (leaA l) ∧ Blk W bX 76 (carA x) ∧ Blk W bM 85 (msgC m) ∧ HasRow W bR 56 10) w3 := ⟨by rw [hw]; exact Since.setRow hHeld.1 (by have := HNE3.out; omega) _, by rw [hw]; exact Blk.row_far (hHeld.2.1) (by have := HNE3.out; omega) _, by rw [hw]; exact Blk.row_far (hHeld.2.2.1) (by have := HNE3.out; omega) _, by rw [hw]; exact Blk.row_far (hHeld.2.2.2.1) (by have := HNE3.out; omega) _, by rw [hw]; exact Blk.row_far (hHeld.2.2.2.2.1) (by have := HNE3.out; omega) _, HasRow.of HRR.out rfl⟩
    refine hK.out _ _ hHeld3 (fun hHeld2 => ?_)
    clear hK K hHeld hHeld3 hw
    have hHeld := hHeld2
    clear hHeld2
    (try simp only [Act.put, sA, sB, sC])
    refine wpAnyH_take (i := 6) (oi := ?o15_b4_6) (v := .slice (some ⟨bn107, 0, none⟩) 1 1) ?h15_b4_6 (by kernel_rfl) (by kernel_rfl) (by kernel_rfl) ?q15_b4_6 ?y15_b4_6 (by assumption) ?_
    case h15_b4_6 => (first | (simp only [gA, gB, gC]; done) | (simp only [gA, gB, gC]; exact rfl))
    case q15_b4_6 => exact fun _ _ _ h => h
    case y15_b4_6 => (refine Or.inl ⟨rfl, ?_⟩; intro w hSw; (first | rfl | (go_simp; (try with_reducible rfl))))
    (try simp only [Act.put, sA, sB, sC])
    refine wpAnyH_take (i := 7) (oi := ?o15_b4_7) (v := .bool false) ?h15_b4_7 (by kernel_rfl) (by kernel_rfl) (by kernel_rfl) ?q15_b4_7 ?y15_b4_7 (by assumption) ?_
    case h15_b4_7 => (first | (simp only [gA, gB, gC]; done) | (simp only [gA, gB, gC]; exact rfl))
    case q15_b4_7 => exact fun _ _ _ h => h
    case y15_b4_7 => (refine Or.inl ⟨rfl, ?_⟩; intro w hSw; (first | rfl | (go_simp; (try with_reducible rfl))))
    (try simp only [Act.put, sA, sB, sC])
    refine wpAnyH_done (by kernel_rfl) ?_ _
    have HSd15 := Lib.hid hHeld.1
    have HBCd15 := Lib.hid (hHeld.2.1)
    have HBLd15 := Lib.hid (hHeld.2.2.1)
    have HBXd15 := Lib.hid (hHeld.2.2.2.1)
    have HBMd15 := Lib.hid (hHeld.2.2.2.2.1)
    have HBRd15 := Lib.hid HRR.out
    clear HRR
    clear hHeld HRK HRD HSd11 HBCd11 HBLd11 HBXd11 HBMd11 HBRd11
    (try go_wp2_with fail)
    exact bodyPost_ret (results_row3 rfl _ _ bR 56 #[.int .i64 l.se, .int .i64 l.fl, .int .i64 l.fm, .int .i64 l.to, .int .i64 l.ma, .int .i64 l.ca, .int .i64 l.ph, .int .i64 l.un, .int .i64 l.re, .int .i64 l.gr] _ (.slice (some ⟨bn107, 0, none⟩) 1 1) (.bool false) rfl rfl rfl HBRd15.out Try.underlying56 rfl (by kernel_rfl)) rfl ⟨.slice (some ⟨bn107, 0, none⟩) 1 1, rfl, ⟨bn107, rfl, HGn107.out, HXn1072.out⟩, HSd15.out⟩
  case g15__5b =>
    rw [if_pos (by rfl)]
    refine wp_st_row 56 _ _ rfl #[.int .i64 l.se, .int .i64 l.fl, .int .i64 l.fm, .int .i64 l.to, .int .i64 l.ma, .int .i64 l.ca, .int .i64 l.ph, .int .i64 l.un, .int .i64 l.re, .int .i64 l.gr] rfl rfl (hHeld.2.2.2.2.2) rfl (by simp [cfgA, leaA, carA, msgC, Value.oneCell']) (by kernel_rfl) ?_
    intro w2 hw
    have HRR := Lib.hid (show Blk w2 bR 56 (leaA l) by obtain ⟨old, Bo, _⟩ := hHeld.2.2.2.2.2; rw [hw]; exact Blk.row Bo _)
    have hHeld3 : (fun W : World => Since w W ∧ Blk W w.heap.size 23 (cfgA c) ∧ Blk W bL 56 (leaA l) ∧ Blk W bX 76 (carA x) ∧ Blk W bM 85 (msgC m) ∧ HasRow W bR 56 10) w2 := ⟨by rw [hw]; exact Since.setRow hHeld.1 (by have := HNE3.out; omega) _, by rw [hw]; exact Blk.row_far (hHeld.2.1) (by have := HNE3.out; omega) _, by rw [hw]; exact Blk.row_far (hHeld.2.2.1) (by have := HNE3.out; omega) _, by rw [hw]; exact Blk.row_far (hHeld.2.2.2.1) (by have := HNE3.out; omega) _, by rw [hw]; exact Blk.row_far (hHeld.2.2.2.2.1) (by have := HNE3.out; omega) _, HasRow.of HRR.out rfl⟩
    refine hK.out _ _ hHeld3 (fun hHeld2 => ?_)
    clear hK K hHeld hHeld3 hw
    have hHeld := hHeld2
    clear hHeld2
    (try simp only [Act.put, sA, sB, sC])
    refine wpAnyH_ready (rs := [4]) (by kernel_rfl) (by simp) ?_
    refine AllReadyH.cons (o := ?o15_b5_4) ?h15_b5_4 (fun K hK => ?_) AllReadyH.nil
    case h15_b5_4 => (first | (simp only [gA, gB, gC]; done) | (simp only [gA, gB, gC]; exact rfl))
    rw [if_pos (by rfl)]
    refine wp_new (fun b => .slice (some ⟨b, 0, none⟩) 1 1) 85 #[.int .i64 7, .int .i64 l.ph, .int .i64 0, .int .i64 0] (by rintro b rfl; first | rfl | kernel_rfl) ?_
    intro bn107 w3 hge hB hb
    refine hK.out _ _ (by (apply HRK.out; exact hb; exact hHeld)) (fun hHeld2 => ?_)
    have HRRk := Lib.hid (keep_blk hb HRR.out)
    clear HRR
    have HNn107R := Lib.hid (show bn107 ≠ bR by obtain ⟨old, Bo, _⟩ := hHeld.2.2.2.2.2; have := Blk.lt Bo; omega)
    have HGn107 := Lib.hid (show w.heap.size ≤ bn107 by have := Since.size hHeld.1; (try simp at this); (try simp at hge); omega)
    have HXn107 := Lib.hid hB
    clear hB
    clear hge
    clear hK K hHeld hb
    have hHeld := hHeld2
    clear hHeld2
    (try simp only [Act.put, sA, sB, sC])
    refine wpAnyH_take (i := 6) (oi := ?o15_b5_6) (v := .slice (some ⟨bn107, 0, none⟩) 1 1) ?h15_b5_6 (by kernel_rfl) (by kernel_rfl) (by kernel_rfl) ?q15_b5_6 ?y15_b5_6 (by assumption) ?_
    case h15_b5_6 => (first | (simp only [gA, gB, gC]; done) | (simp only [gA, gB, gC]; exact rfl))
    case q15_b5_6 => exact fun _ _ _ h => h
    case y15_b5_6 => (refine Or.inl ⟨rfl, ?_⟩; intro w hSw; (first | rfl | (go_simp; (try with_reducible rfl))))
    (try simp only [Act.put, sA, sB, sC])
    refine wpAnyH_take (i := 7) (oi := ?o15_b5_7) (v := .bool false) ?h15_b5_7 (by kernel_rfl) (by kernel_rfl) (by kernel_rfl) ?q15_b5_7 ?y15_b5_7 (by assumption) ?_
    case h15_b5_7 => (first | (simp only [gA, gB, gC]; done) | (simp only [gA, gB, gC]; exact rfl))
    case q15_b5_7 => exact fun _ _ _ h => h
    case y15_b5_7 => (refine Or.inl ⟨rfl, ?_⟩; intro w hSw; (first | rfl | (go_simp; (try with_reducible rfl))))
    (try simp only [Act.put, sA, sB, sC])
    refine wpAnyH_done (by kernel_rfl) ?_ _
    have HSd15 := Lib.hid hHeld.1
    have HBCd15 := Lib.hid (hHeld.2.1)
    have HBLd15 := Lib.hid (hHeld.2.2.1)
    have HBXd15 := Lib.hid (hHeld.2.2.2.1)
    have HBMd15 := Lib.hid (hHeld.2.2.2.2.1)
    have HBRd15 := Lib.hid HRRk.out
    clear HRRk
    clear hHeld HRK HRD HSd11 HBCd11 HBLd11 HBXd11 HBMd11 HBRd11
    (try go_wp2_with fail)
    exact bodyPost_ret (results_row3 rfl _ _ bR 56 #[.int .i64 l.se, .int .i64 l.fl, .int .i64 l.fm, .int .i64 l.to, .int .i64 l.ma, .int .i64 l.ca, .int .i64 l.ph, .int .i64 l.un, .int .i64 l.re, .int .i64 l.gr] _ (.slice (some ⟨bn107, 0, none⟩) 1 1) (.bool false) rfl rfl rfl HBRd15.out Try.underlying56 rfl (by kernel_rfl)) rfl ⟨.slice (some ⟨bn107, 0, none⟩) 1 1, rfl, ⟨bn107, rfl, HGn107.out, HXn107.out⟩, HSd15.out⟩
set_option maxHeartbeats 4000000 in
theorem hearRN1 (c : CfgV) (l : LeaseV) (x : CarV) (now : Int) (m : MsgV) (h0 : (m.ki == 9) = false) (h2 : (m.ki == 13) = true) (h3 : (l.ph == 4) = false) (h4 : (m.ki == 15) = false) (w : World) : Calls Try.prog 58 #[.agg #[.int .i64 c.ca, .int .i64 c.fl, .int .i64 c.ft, .int .i64 c.se, .int .i64 c.dr, .int .i64 c.dw, .int .i64 c.ho, .int .i64 c.re, .int .i64 c.yi, .int .i64 c.qu, .int .i64 c.qo, .int .i64 c.lo, .int .i64 c.sl, .int .i64 c.rt, .int .i64 c.cp, .int .i64 c.tr, .int .i64 c.de, .int .i64 c.wi], .agg #[.int .i64 l.se, .int .i64 l.fl, .int .i64 l.fm, .int .i64 l.to, .int .i64 l.ma, .int .i64 l.ca, .int .i64 l.ph, .int .i64 l.un, .int .i64 l.re, .int .i64 l.gr], .agg #[.int .i64 x.ds, .int .i64 x.da, .int .i64 x.un, .int .i64 x.wy, .int .i64 x.ti, .int .i64 x.ju, .int .i64 x.lo, .bool x.bl, .bool x.br, .int .i64 x.mo, .int .i64 x.ta, .bool x.ho, .int .u64 x.sp, .int .u64 x.su, .int .u64 x.sd], .int .i64 now, .agg (msgC m)] w (Said w (⟨l.se, l.fl, l.fm, l.to, l.ma, l.ca, l.ph, l.un, l.re, l.gr⟩, some ⟨7, l.ph, 0, 0⟩, false)) := by
  have H0 := Lib.hid h0
  clear h0
  have H2 := Lib.hid h2
  clear h2
  have H3 := Lib.hid h3
  clear h3
  have H4 := Lib.hid h4
  clear h4
  go_enter Try.func58, Try.ntmps58
  go_upto_region 1 with fail
  obtain ⟨w1, hw1⟩ : ∃ w1, w1 = (((((w.alloc (.cells #[.int .i64 c.ca, .int .i64 c.fl, .int .i64 c.ft, .int .i64 c.se, .int .i64 c.dr, .int .i64 c.dw, .int .i64 c.ho, .int .i64 c.re, .int .i64 c.yi, .int .i64 c.qu, .int .i64 c.qo, .int .i64 c.lo, .int .i64 c.sl, .int .i64 c.rt, .int .i64 c.cp, .int .i64 c.tr, .int .i64 c.de, .int .i64 c.wi] 23)).alloc (.cells #[.int .i64 l.se, .int .i64 l.fl, .int .i64 l.fm, .int .i64 l.to, .int .i64 l.ma, .int .i64 l.ca, .int .i64 l.ph, .int .i64 l.un, .int .i64 l.re, .int .i64 l.gr] 56)).alloc (.cells #[.int .i64 x.ds, .int .i64 x.da, .int .i64 x.un, .int .i64 x.wy, .int .i64 x.ti, .int .i64 x.ju, .int .i64 x.lo, .bool x.bl, .bool x.br, .int .i64 x.mo, .int .i64 x.ta, .bool x.ho, .int .u64 x.sp, .int .u64 x.su, .int .u64 x.sd] 76)).alloc (.cells (msgC m) 85)).alloc (.cells #[.int .i64 0, .int .i64 0, .int .i64 0, .int .i64 0, .int .i64 0, .int .i64 0, .int .i64 0, .int .i64 0, .int .i64 0, .int .i64 0] 56)) := ⟨_, rfl⟩
  rw [← hw1]
  have HBC1 := Lib.hid (show Blk w1 (w.heap.size) 23 (cfgA c) by rw [hw1]; exact Blk.alloc (Blk.alloc (Blk.alloc (Blk.alloc (Blk.at_ (by (try simp only [size_alloc])) _ _) _) _) _) _)
  have HBL1 := Lib.hid (show Blk w1 (w.heap.size + 1) 56 (leaA l) by rw [hw1]; exact Blk.alloc (Blk.alloc (Blk.alloc (Blk.at_ (by (try simp only [size_alloc])) _ _) _) _) _)
  have HBX1 := Lib.hid (show Blk w1 (w.heap.size + 1 + 1) 76 (carA x) by rw [hw1]; exact Blk.alloc (Blk.alloc (Blk.at_ (by (try simp only [size_alloc])) _ _) _) _)
  have HBM1 := Lib.hid (show Blk w1 (w.heap.size + 1 + 1 + 1) 85 (msgC m) by rw [hw1]; exact Blk.alloc (Blk.at_ (by (try simp only [size_alloc])) _ _) _)
  have HBR1 := Lib.hid (show Blk w1 (w.heap.size + 1 + 1 + 1 + 1) 56 #[.int .i64 0, .int .i64 0, .int .i64 0, .int .i64 0, .int .i64 0, .int .i64 0, .int .i64 0, .int .i64 0, .int .i64 0, .int .i64 0] by rw [hw1]; exact Blk.at_ (by (try simp only [size_alloc])) _ _)
  have HS1 := Lib.hid (show Since w w1 by rw [hw1]; exact Since.alloc (Since.alloc (Since.alloc (Since.alloc (Since.alloc (Since.refl w) _) _) _) _) _)
  have hNE : w.heap.size ≤ w.heap.size ∧ w.heap.size < w.heap.size + 1 ∧ w.heap.size + 1 < w.heap.size + 1 + 1 ∧ w.heap.size + 1 + 1 < w.heap.size + 1 + 1 + 1 ∧ w.heap.size + 1 + 1 + 1 < w.heap.size + 1 + 1 + 1 + 1 := by omega
  have HNE := Lib.hid hNE
  clear hNE hw1
  generalize w.heap.size + 1 + 1 + 1 + 1 = bR at *
  generalize w.heap.size + 1 + 1 + 1 = bM at *
  generalize w.heap.size + 1 + 1 = bX at *
  generalize w.heap.size + 1 = bL at *
  have HNE3 := Lib.hid (show w.heap.size ≤ w.heap.size ∧ w.heap.size < bL ∧ bL < bX ∧ bX < bM ∧ bM < bR from HNE.out)
  clear HNE
  refine wp_region_lit ?_
  refine wpList_q (by rfl) (.pointer (some ⟨bM, 0, none⟩)) ?he ?_
  case he => (first | rfl | (go_simp; (try with_reducible rfl)))
  (try simp only [Act.put, sA, sB, sC])
  refine wpList_q (by rfl) (.int .i64 m.ki) ?he ?_
  case he => exact exec_cell 3 _ _ HBM1.out rfl rfl rfl Try.underlying3 rfl
  (try simp only [Act.put, sA, sB, sC])
  refine wpList_q (by rfl) (.bool false) ?he ?_
  case he => (have hq := H0.out; go_simp; (try with_reducible rfl))
  (try simp only [Act.put, sA, sB, sC])
  refine wpList_q (by rfl) (.bool false) ?he ?_
  case he => (first | rfl | (go_simp; (try with_reducible rfl)))
  (try simp only [Act.put, sA, sB, sC])
  refine wpList_no (by rfl) ?_
  (try simp only [Act.put, sA, sB, sC])
  refine wpList_no (by rfl) ?_
  (try simp only [Act.put, sA, sB, sC])
  refine wpList_no (by rfl) ?_
  (try simp only [Act.put, sA, sB, sC])
  refine wpList_q (by rfl) (.bool false) ?he ?_
  case he => (first | rfl | (go_simp; (try with_reducible rfl)))
  (try simp only [Act.put, sA, sB, sC])
  refine wpList_q (by rfl) (.bool false) ?he ?_
  case he => (first | rfl | (go_simp; (try with_reducible rfl)))
  (try simp only [Act.put, sA, sB, sC])
  refine wpList_nil ?_
  go_upto_region 9 with fail
  refine wp_region_lit ?_
  refine wpList_q (by rfl) (.pointer (some ⟨bM, 0, none⟩)) ?he ?_
  case he => (first | rfl | (go_simp; (try with_reducible rfl)))
  (try simp only [Act.put, sA, sB, sC])
  refine wpList_q (by rfl) (.int .i64 m.ki) ?he ?_
  case he => exact exec_cell 3 _ _ HBM1.out rfl rfl rfl Try.underlying3 rfl
  (try simp only [Act.put, sA, sB, sC])
  refine wpList_q (by rfl) (.bool true) ?he ?_
  case he => (have hq := H2.out; go_simp; (try with_reducible rfl))
  (try simp only [Act.put, sA, sB, sC])
  refine wpList_q (by rfl) (.bool true) ?he ?_
  case he => (first | rfl | (go_simp; (try with_reducible rfl)))
  (try simp only [Act.put, sA, sB, sC])
  refine wpList_q (by rfl) (.pointer (some ⟨bL, 6, none⟩)) ?he ?_
  case he => (first | rfl | (go_simp; (try with_reducible rfl)))
  (try simp only [Act.put, sA, sB, sC])
  refine wpList_q (by rfl) (.int .i64 l.ph) ?he ?_
  case he => exact exec_cell 3 _ _ HBL1.out rfl rfl rfl Try.underlying3 rfl
  (try simp only [Act.put, sA, sB, sC])
  refine wpList_q (by rfl) (.bool false) ?he ?_
  case he => (have hq := H3.out; go_simp; (try with_reducible rfl))
  (try simp only [Act.put, sA, sB, sC])
  refine wpList_q (by rfl) (.bool false) ?he ?_
  case he => (first | rfl | (go_simp; (try with_reducible rfl)))
  (try simp only [Act.put, sA, sB, sC])
  refine wpList_q (by rfl) (.bool false) ?he ?_
  case he => (first | rfl | (go_simp; (try with_reducible rfl)))
  (try simp only [Act.put, sA, sB, sC])
  refine wpList_nil ?_
  go_upto_region 11 with fail
  have hrK : ∀ W W' : World, Since W W' → (Since w W ∧ Blk W w.heap.size 23 (cfgA c) ∧ Blk W bL 56 (leaA l) ∧ Blk W bX 76 (carA x) ∧ Blk W bM 85 (msgC m) ∧ Blk W bR 56 #[.int .i64 0, .int .i64 0, .int .i64 0, .int .i64 0, .int .i64 0, .int .i64 0, .int .i64 0, .int .i64 0, .int .i64 0, .int .i64 0]) → (Since w W' ∧ Blk W' w.heap.size 23 (cfgA c) ∧ Blk W' bL 56 (leaA l) ∧ Blk W' bX 76 (carA x) ∧ Blk W' bM 85 (msgC m) ∧ Blk W' bR 56 #[.int .i64 0, .int .i64 0, .int .i64 0, .int .i64 0, .int .i64 0, .int .i64 0, .int .i64 0, .int .i64 0, .int .i64 0, .int .i64 0]) := fun W W' k ⟨h, h0, h1, h2, h3, h4⟩ => ⟨h.trans k, keep_blk k h0, keep_blk k h1, keep_blk k h2, keep_blk k h3, keep_blk k h4⟩
  have hrS : (fun W : World => Since w W ∧ Blk W w.heap.size 23 (cfgA c) ∧ Blk W bL 56 (leaA l) ∧ Blk W bX 76 (carA x) ∧ Blk W bM 85 (msgC m) ∧ Blk W bR 56 #[.int .i64 0, .int .i64 0, .int .i64 0, .int .i64 0, .int .i64 0, .int .i64 0, .int .i64 0, .int .i64 0, .int .i64 0, .int .i64 0]) w1 := ⟨HS1.out, HBC1.out, HBL1.out, HBX1.out, HBM1.out, HBR1.out⟩
  have HRK := Lib.hid hrK
  have HRD := Lib.hid (show (fun W : World => Since w W ∧ Blk W w.heap.size 23 (cfgA c) ∧ Blk W bL 56 (leaA l) ∧ Blk W bX 76 (carA x) ∧ Blk W bM 85 (msgC m) ∧ Blk W bR 56 #[.int .i64 0, .int .i64 0, .int .i64 0, .int .i64 0, .int .i64 0, .int .i64 0, .int .i64 0, .int .i64 0, .int .i64 0, .int .i64 0]) (World.drew w1) from ⟨Since.drew hrS.1, hrS.2⟩)
  clear hrK hrS
  refine wp_region_held_drew (S := fun W : World => Since w W ∧ Blk W w.heap.size 23 (cfgA c) ∧ Blk W bL 56 (leaA l) ∧ Blk W bX 76 (carA x) ∧ Blk W bM 85 (msgC m) ∧ Blk W bR 56 #[.int .i64 0, .int .i64 0, .int .i64 0, .int .i64 0, .int .i64 0, .int .i64 0, .int .i64 0, .int .i64 0, .int .i64 0, .int .i64 0]) (by kernel_rfl) HRD.out (fun hHeld => ?_)
  refine wpAnyH_take (i := 0) (oi := ?o11__0) (v := .pointer (some ⟨bM, 0, none⟩)) ?h11__0 (by kernel_rfl) (by kernel_rfl) (by kernel_rfl) ?q11__0 ?y11__0 (by assumption) ?_
  case h11__0 => (first | (simp only [gA, gB, gC]; done) | (simp only [gA, gB, gC]; exact rfl))
  case q11__0 => exact fun _ _ _ h => h
  case y11__0 => (refine Or.inl ⟨rfl, ?_⟩; intro w hSw; (first | rfl | (go_simp; (try with_reducible rfl))))
  (try simp only [Act.put, sA, sB, sC])
  refine wpAnyH_take (i := 1) (oi := ?o11__1) (v := .int .i64 m.ki) ?h11__1 (by kernel_rfl) (by kernel_rfl) (by kernel_rfl) ?q11__1 ?y11__1 (by assumption) ?_
  case h11__1 => (first | (simp only [gA, gB, gC]; done) | (simp only [gA, gB, gC]; exact rfl))
  case q11__1 => exact fun _ _ _ h => h
  case y11__1 => (refine Or.inl ⟨rfl, ?_⟩; intro w hSw; exact exec_cell 3 _ _ hSw.2.2.2.2.1 rfl rfl rfl Try.underlying3 rfl)
  (try simp only [Act.put, sA, sB, sC])
  refine wpAnyH_take (i := 2) (oi := ?o11__2) (v := .bool false) ?h11__2 (by kernel_rfl) (by kernel_rfl) (by kernel_rfl) ?q11__2 ?y11__2 (by assumption) ?_
  case h11__2 => (first | (simp only [gA, gB, gC]; done) | (simp only [gA, gB, gC]; exact rfl))
  case q11__2 => exact fun _ _ _ h => h
  case y11__2 => (refine Or.inl ⟨rfl, ?_⟩; intro w hSw; (have hq := H4.out; go_simp; (try with_reducible rfl)))
  (try simp only [Act.put, sA, sB, sC])
  refine wpAnyH_take (i := 3) (oi := ?o11__3) (v := .bool false) ?h11__3 (by kernel_rfl) (by kernel_rfl) (by kernel_rfl) ?q11__3 ?y11__3 (by assumption) ?_
  case h11__3 => (first | (simp only [gA, gB, gC]; done) | (simp only [gA, gB, gC]; exact rfl))
  case q11__3 => exact fun _ _ _ h => h
  case y11__3 => (refine Or.inl ⟨rfl, ?_⟩; intro w hSw; (first | rfl | (go_simp; (try with_reducible rfl))))
  (try simp only [Act.put, sA, sB, sC])
  refine wpAnyH_take (i := 4) (oi := ?o11__4) (v := undef) ?h11__4 (by kernel_rfl) (by kernel_rfl) (by kernel_rfl) ?q11__4 ?y11__4 (by assumption) ?_
  case h11__4 => (first | (simp only [gA, gB, gC]; done) | (simp only [gA, gB, gC]; exact rfl))
  case q11__4 => exact fun _ _ _ h => h
  case y11__4 => exact Or.inr ⟨rfl, rfl⟩
  (try simp only [Act.put, sA, sB, sC])
  refine wpAnyH_take (i := 5) (oi := ?o11__5) (v := undef) ?h11__5 (by kernel_rfl) (by kernel_rfl) (by kernel_rfl) ?q11__5 ?y11__5 (by assumption) ?_
  case h11__5 => (first | (simp only [gA, gB, gC]; done) | (simp only [gA, gB, gC]; exact rfl))
  case q11__5 => exact fun _ _ _ h => h
  case y11__5 => exact Or.inr ⟨rfl, rfl⟩
  (try simp only [Act.put, sA, sB, sC])
  refine wpAnyH_take (i := 6) (oi := ?o11__6) (v := undef) ?h11__6 (by kernel_rfl) (by kernel_rfl) (by kernel_rfl) ?q11__6 ?y11__6 (by assumption) ?_
  case h11__6 => (first | (simp only [gA, gB, gC]; done) | (simp only [gA, gB, gC]; exact rfl))
  case q11__6 => exact fun _ _ _ h => h
  case y11__6 => exact Or.inr ⟨rfl, rfl⟩
  (try simp only [Act.put, sA, sB, sC])
  refine wpAnyH_take (i := 7) (oi := ?o11__7) (v := undef) ?h11__7 (by kernel_rfl) (by kernel_rfl) (by kernel_rfl) ?q11__7 ?y11__7 (by assumption) ?_
  case h11__7 => (first | (simp only [gA, gB, gC]; done) | (simp only [gA, gB, gC]; exact rfl))
  case q11__7 => exact fun _ _ _ h => h
  case y11__7 => exact Or.inr ⟨rfl, rfl⟩
  (try simp only [Act.put, sA, sB, sC])
  refine wpAnyH_take (i := 8) (oi := ?o11__8) (v := undef) ?h11__8 (by kernel_rfl) (by kernel_rfl) (by kernel_rfl) ?q11__8 ?y11__8 (by assumption) ?_
  case h11__8 => (first | (simp only [gA, gB, gC]; done) | (simp only [gA, gB, gC]; exact rfl))
  case q11__8 => exact fun _ _ _ h => h
  case y11__8 => exact Or.inr ⟨rfl, rfl⟩
  (try simp only [Act.put, sA, sB, sC])
  refine wpAnyH_take (i := 9) (oi := ?o11__9) (v := undef) ?h11__9 (by kernel_rfl) (by kernel_rfl) (by kernel_rfl) ?q11__9 ?y11__9 (by assumption) ?_
  case h11__9 => (first | (simp only [gA, gB, gC]; done) | (simp only [gA, gB, gC]; exact rfl))
  case q11__9 => exact fun _ _ _ h => h
  case y11__9 => exact Or.inr ⟨rfl, rfl⟩
  (try simp only [Act.put, sA, sB, sC])
  refine wpAnyH_take (i := 10) (oi := ?o11__10) (v := undef) ?h11__10 (by kernel_rfl) (by kernel_rfl) (by kernel_rfl) ?q11__10 ?y11__10 (by assumption) ?_
  case h11__10 => (first | (simp only [gA, gB, gC]; done) | (simp only [gA, gB, gC]; exact rfl))
  case q11__10 => exact fun _ _ _ h => h
  case y11__10 => exact Or.inr ⟨rfl, rfl⟩
  (try simp only [Act.put, sA, sB, sC])
  refine wpAnyH_take (i := 11) (oi := ?o11__11) (v := undef) ?h11__11 (by kernel_rfl) (by kernel_rfl) (by kernel_rfl) ?q11__11 ?y11__11 (by assumption) ?_
  case h11__11 => (first | (simp only [gA, gB, gC]; done) | (simp only [gA, gB, gC]; exact rfl))
  case q11__11 => exact fun _ _ _ h => h
  case y11__11 => exact Or.inr ⟨rfl, rfl⟩
  (try simp only [Act.put, sA, sB, sC])
  refine wpAnyH_take (i := 12) (oi := ?o11__12) (v := .bool false) ?h11__12 (by kernel_rfl) (by kernel_rfl) (by kernel_rfl) ?q11__12 ?y11__12 (by assumption) ?_
  case h11__12 => (first | (simp only [gA, gB, gC]; done) | (simp only [gA, gB, gC]; exact rfl))
  case q11__12 => exact fun _ _ _ h => h
  case y11__12 => (refine Or.inl ⟨rfl, ?_⟩; intro w hSw; (first | rfl | (go_simp; (try with_reducible rfl))))
  (try simp only [Act.put, sA, sB, sC])
  refine wpAnyH_take (i := 13) (oi := ?o11__13) (v := .bool false) ?h11__13 (by kernel_rfl) (by kernel_rfl) (by kernel_rfl) ?q11__13 ?y11__13 (by assumption) ?_
  case h11__13 => (first | (simp only [gA, gB, gC]; done) | (simp only [gA, gB, gC]; exact rfl))
  case q11__13 => exact fun _ _ _ h => h
  case y11__13 => (refine Or.inl ⟨rfl, ?_⟩; intro w hSw; (first | rfl | (go_simp; (try with_reducible rfl))))
  (try simp only [Act.put, sA, sB, sC])
  refine wpAnyH_take (i := 14) (oi := ?o11__14) (v := undef) ?h11__14 (by kernel_rfl) (by kernel_rfl) (by kernel_rfl) ?q11__14 ?y11__14 (by assumption) ?_
  case h11__14 => (first | (simp only [gA, gB, gC]; done) | (simp only [gA, gB, gC]; exact rfl))
  case q11__14 => exact fun _ _ _ h => h
  case y11__14 => exact Or.inr ⟨rfl, rfl⟩
  (try simp only [Act.put, sA, sB, sC])
  refine wpAnyH_take (i := 15) (oi := ?o11__15) (v := undef) ?h11__15 (by kernel_rfl) (by kernel_rfl) (by kernel_rfl) ?q11__15 ?y11__15 (by assumption) ?_
  case h11__15 => (first | (simp only [gA, gB, gC]; done) | (simp only [gA, gB, gC]; exact rfl))
  case q11__15 => exact fun _ _ _ h => h
  case y11__15 => exact Or.inr ⟨rfl, rfl⟩
  (try simp only [Act.put, sA, sB, sC])
  refine wpAnyH_take (i := 16) (oi := ?o11__16) (v := undef) ?h11__16 (by kernel_rfl) (by kernel_rfl) (by kernel_rfl) ?q11__16 ?y11__16 (by assumption) ?_
  case h11__16 => (first | (simp only [gA, gB, gC]; done) | (simp only [gA, gB, gC]; exact rfl))
  case q11__16 => exact fun _ _ _ h => h
  case y11__16 => exact Or.inr ⟨rfl, rfl⟩
  (try simp only [Act.put, sA, sB, sC])
  refine wpAnyH_take (i := 17) (oi := ?o11__17) (v := undef) ?h11__17 (by kernel_rfl) (by kernel_rfl) (by kernel_rfl) ?q11__17 ?y11__17 (by assumption) ?_
  case h11__17 => (first | (simp only [gA, gB, gC]; done) | (simp only [gA, gB, gC]; exact rfl))
  case q11__17 => exact fun _ _ _ h => h
  case y11__17 => exact Or.inr ⟨rfl, rfl⟩
  (try simp only [Act.put, sA, sB, sC])
  refine wpAnyH_take (i := 18) (oi := ?o11__18) (v := undef) ?h11__18 (by kernel_rfl) (by kernel_rfl) (by kernel_rfl) ?q11__18 ?y11__18 (by assumption) ?_
  case h11__18 => (first | (simp only [gA, gB, gC]; done) | (simp only [gA, gB, gC]; exact rfl))
  case q11__18 => exact fun _ _ _ h => h
  case y11__18 => exact Or.inr ⟨rfl, rfl⟩
  (try simp only [Act.put, sA, sB, sC])
  refine wpAnyH_take (i := 19) (oi := ?o11__19) (v := .bool false) ?h11__19 (by kernel_rfl) (by kernel_rfl) (by kernel_rfl) ?q11__19 ?y11__19 (by assumption) ?_
  case h11__19 => (first | (simp only [gA, gB, gC]; done) | (simp only [gA, gB, gC]; exact rfl))
  case q11__19 => exact fun _ _ _ h => h
  case y11__19 => (refine Or.inl ⟨rfl, ?_⟩; intro w hSw; (first | rfl | (go_simp; (try with_reducible rfl))))
  (try simp only [Act.put, sA, sB, sC])
  refine wpAnyH_take (i := 20) (oi := ?o11__20) (v := .bool false) ?h11__20 (by kernel_rfl) (by kernel_rfl) (by kernel_rfl) ?q11__20 ?y11__20 (by assumption) ?_
  case h11__20 => (first | (simp only [gA, gB, gC]; done) | (simp only [gA, gB, gC]; exact rfl))
  case q11__20 => exact fun _ _ _ h => h
  case y11__20 => (refine Or.inl ⟨rfl, ?_⟩; intro w hSw; (first | rfl | (go_simp; (try with_reducible rfl))))
  (try simp only [Act.put, sA, sB, sC])
  refine wpAnyH_done (by kernel_rfl) ?_ _
  have HSd11 := Lib.hid hHeld.1
  have HBCd11 := Lib.hid (hHeld.2.1)
  have HBLd11 := Lib.hid (hHeld.2.2.1)
  have HBXd11 := Lib.hid (hHeld.2.2.2.1)
  have HBMd11 := Lib.hid (hHeld.2.2.2.2.1)
  have HBRd11 := Lib.hid (hHeld.2.2.2.2.2)
  clear hHeld HRK HRD HS1 HBC1 HBL1 HBX1 HBM1 HBR1
  go_upto_region 15 with fail
  have hrK : ∀ W W' : World, Since W W' → (Since w W ∧ Blk W w.heap.size 23 (cfgA c) ∧ Blk W bL 56 (leaA l) ∧ Blk W bX 76 (carA x) ∧ Blk W bM 85 (msgC m) ∧ HasRow W bR 56 10) → (Since w W' ∧ Blk W' w.heap.size 23 (cfgA c) ∧ Blk W' bL 56 (leaA l) ∧ Blk W' bX 76 (carA x) ∧ Blk W' bM 85 (msgC m) ∧ HasRow W' bR 56 10) := fun W W' k ⟨h, h0, h1, h2, h3, h4⟩ => ⟨h.trans k, keep_blk k h0, keep_blk k h1, keep_blk k h2, keep_blk k h3, HasRow.keep k h4⟩
  have hrS : (fun W : World => Since w W ∧ Blk W w.heap.size 23 (cfgA c) ∧ Blk W bL 56 (leaA l) ∧ Blk W bX 76 (carA x) ∧ Blk W bM 85 (msgC m) ∧ HasRow W bR 56 10) w1.drew := ⟨HSd11.out, HBCd11.out, HBLd11.out, HBXd11.out, HBMd11.out, HasRow.of HBRd11.out rfl⟩
  have HRK := Lib.hid hrK
  have HRD := Lib.hid (show (fun W : World => Since w W ∧ Blk W w.heap.size 23 (cfgA c) ∧ Blk W bL 56 (leaA l) ∧ Blk W bX 76 (carA x) ∧ Blk W bM 85 (msgC m) ∧ HasRow W bR 56 10) (World.drew w1.drew) from ⟨Since.drew hrS.1, hrS.2⟩)
  clear hrK hrS
  refine wp_region_held_drew (S := fun W : World => Since w W ∧ Blk W w.heap.size 23 (cfgA c) ∧ Blk W bL 56 (leaA l) ∧ Blk W bX 76 (carA x) ∧ Blk W bM 85 (msgC m) ∧ HasRow W bR 56 10) (by kernel_rfl) HRD.out (fun hHeld => ?_)
  refine wpAnyH_take (i := 0) (oi := ?o15__0) (v := .agg (leaA l)) ?h15__0 (by kernel_rfl) (by kernel_rfl) (by kernel_rfl) ?q15__0 ?y15__0 (by assumption) ?_
  case h15__0 => (first | (simp only [gA, gB, gC]; done) | (simp only [gA, gB, gC]; exact rfl))
  case q15__0 => exact fun _ _ _ h => h
  case y15__0 => (refine Or.inl ⟨rfl, ?_⟩; intro w hSw; exact exec_load_row 56 _ _ hSw.2.2.1 rfl rfl Try.underlying56 rfl (by kernel_rfl))
  (try simp only [Act.put, sA, sB, sC])
  refine wpAnyH_take (i := 1) (oi := ?o15__1) (v := .pointer (some ⟨bL, 6, none⟩)) ?h15__1 (by kernel_rfl) (by kernel_rfl) (by kernel_rfl) ?q15__1 ?y15__1 (by assumption) ?_
  case h15__1 => (first | (simp only [gA, gB, gC]; done) | (simp only [gA, gB, gC]; exact rfl))
  case q15__1 => exact fun _ _ _ h => h
  case y15__1 => (refine Or.inl ⟨rfl, ?_⟩; intro w hSw; (first | rfl | (go_simp; (try with_reducible rfl))))
  (try simp only [Act.put, sA, sB, sC])
  refine wpAnyH_take (i := 2) (oi := ?o15__2) (v := .int .i64 l.ph) ?h15__2 (by kernel_rfl) (by kernel_rfl) (by kernel_rfl) ?q15__2 ?y15__2 (by assumption) ?_
  case h15__2 => (first | (simp only [gA, gB, gC]; done) | (simp only [gA, gB, gC]; exact rfl))
  case q15__2 => exact fun _ _ _ h => h
  case y15__2 => (refine Or.inl ⟨rfl, ?_⟩; intro w hSw; exact exec_cell 3 _ _ hSw.2.2.1 rfl rfl rfl Try.underlying3 rfl)
  (try simp only [Act.put, sA, sB, sC])
  refine wpAnyH_take (i := 3) (oi := ?o15__3) (v := .agg #[.int .i64 7, .int .i64 l.ph, .int .i64 0, .int .i64 0]) ?h15__3 (by kernel_rfl) (by kernel_rfl) (by kernel_rfl) ?q15__3 ?y15__3 (by assumption) ?_
  case h15__3 => (first | (simp only [gA, gB, gC]; done) | (simp only [gA, gB, gC]; exact rfl))
  case q15__3 => exact fun _ _ _ h => h
  case y15__3 => (refine Or.inl ⟨rfl, ?_⟩; intro w hSw; kernel_rfl)
  (try simp only [Act.put, sA, sB, sC])
  refine wpAnyH_ready (rs := [4, 5]) (by kernel_rfl) (by simp) ?_
  refine AllReadyH.cons (o := ?o15__4b) ?h15__4b (fun K hK => ?g15__4b) (AllReadyH.cons (o := ?o15__5b) ?h15__5b (fun K hK => ?g15__5b) AllReadyH.nil)
  case h15__4b => (first | (simp only [gA, gB, gC]; done) | (simp only [gA, gB, gC]; exact rfl))
  case h15__5b => (first | (simp only [gA, gB, gC]; done) | (simp only [gA, gB, gC]; exact rfl))
  case g15__4b =>
    rw [if_pos (by rfl)]
    refine wp_new (fun b => .slice (some ⟨b, 0, none⟩) 1 1) 85 #[.int .i64 7, .int .i64 l.ph, .int .i64 0, .int .i64 0] (by rintro b rfl; first | rfl | kernel_rfl) ?_
    intro bn107 w2 hge hB hb
    refine hK.out _ _ (by (apply HRK.out; exact hb; exact hHeld)) (fun hHeld2 => ?_)
    have HNn107R := Lib.hid (show bn107 ≠ bR by obtain ⟨old, Bo, _⟩ := hHeld.2.2.2.2.2; have := Blk.lt Bo; omega)
    have HGn107 := Lib.hid (show w.heap.size ≤ bn107 by have := Since.size hHeld.1; (try simp at this); (try simp at hge); omega)
    have HXn107 := Lib.hid hB
    clear hB
    clear hge
    clear hK K hHeld hb
    have hHeld := hHeld2
    clear hHeld2
    (try simp only [Act.put, sA, sB, sC])
    refine wpAnyH_ready (rs := [5]) (by kernel_rfl) (by simp) ?_
    refine AllReadyH.cons (o := ?o15_b4_5) ?h15_b4_5 (fun K hK => ?_) AllReadyH.nil
    case h15_b4_5 => (first | (simp only [gA, gB, gC]; done) | (simp only [gA, gB, gC]; exact rfl))
    rw [if_pos (by rfl)]
    refine wp_st_row 56 _ _ rfl #[.int .i64 l.se, .int .i64 l.fl, .int .i64 l.fm, .int .i64 l.to, .int .i64 l.ma, .int .i64 l.ca, .int .i64 l.ph, .int .i64 l.un, .int .i64 l.re, .int .i64 l.gr] rfl rfl (hHeld.2.2.2.2.2) rfl (by simp [cfgA, leaA, carA, msgC, Value.oneCell']) (by kernel_rfl) ?_
    intro w3 hw
    have HRR := Lib.hid (show Blk w3 bR 56 (leaA l) by obtain ⟨old, Bo, _⟩ := hHeld.2.2.2.2.2; rw [hw]; exact Blk.row Bo _)
    have HXn1072 := Lib.hid (show Blk w3 bn107 85 #[.int .i64 7, .int .i64 l.ph, .int .i64 0, .int .i64 0] by rw [hw]; exact Blk.row_far HXn107.out HNn107R.out _)
    clear HXn107
    have hHeld3 : (fun W : World => Since w W ∧ Blk W w.heap.size 23 (cfgA c) ∧ Blk W bL 56 (leaA l) ∧ Blk W bX 76 (carA x) ∧ Blk W bM 85 (msgC m) ∧ HasRow W bR 56 10) w3 := ⟨by rw [hw]; exact Since.setRow hHeld.1 (by have := HNE3.out; omega) _, by rw [hw]; exact Blk.row_far (hHeld.2.1) (by have := HNE3.out; omega) _, by rw [hw]; exact Blk.row_far (hHeld.2.2.1) (by have := HNE3.out; omega) _, by rw [hw]; exact Blk.row_far (hHeld.2.2.2.1) (by have := HNE3.out; omega) _, by rw [hw]; exact Blk.row_far (hHeld.2.2.2.2.1) (by have := HNE3.out; omega) _, HasRow.of HRR.out rfl⟩
    refine hK.out _ _ hHeld3 (fun hHeld2 => ?_)
    clear hK K hHeld hHeld3 hw
    have hHeld := hHeld2
    clear hHeld2
    (try simp only [Act.put, sA, sB, sC])
    refine wpAnyH_take (i := 6) (oi := ?o15_b4_6) (v := .slice (some ⟨bn107, 0, none⟩) 1 1) ?h15_b4_6 (by kernel_rfl) (by kernel_rfl) (by kernel_rfl) ?q15_b4_6 ?y15_b4_6 (by assumption) ?_
    case h15_b4_6 => (first | (simp only [gA, gB, gC]; done) | (simp only [gA, gB, gC]; exact rfl))
    case q15_b4_6 => exact fun _ _ _ h => h
    case y15_b4_6 => (refine Or.inl ⟨rfl, ?_⟩; intro w hSw; (first | rfl | (go_simp; (try with_reducible rfl))))
    (try simp only [Act.put, sA, sB, sC])
    refine wpAnyH_take (i := 7) (oi := ?o15_b4_7) (v := .bool false) ?h15_b4_7 (by kernel_rfl) (by kernel_rfl) (by kernel_rfl) ?q15_b4_7 ?y15_b4_7 (by assumption) ?_
    case h15_b4_7 => (first | (simp only [gA, gB, gC]; done) | (simp only [gA, gB, gC]; exact rfl))
    case q15_b4_7 => exact fun _ _ _ h => h
    case y15_b4_7 => (refine Or.inl ⟨rfl, ?_⟩; intro w hSw; (first | rfl | (go_simp; (try with_reducible rfl))))
    (try simp only [Act.put, sA, sB, sC])
    refine wpAnyH_done (by kernel_rfl) ?_ _
    have HSd15 := Lib.hid hHeld.1
    have HBCd15 := Lib.hid (hHeld.2.1)
    have HBLd15 := Lib.hid (hHeld.2.2.1)
    have HBXd15 := Lib.hid (hHeld.2.2.2.1)
    have HBMd15 := Lib.hid (hHeld.2.2.2.2.1)
    have HBRd15 := Lib.hid HRR.out
    clear HRR
    clear hHeld HRK HRD HSd11 HBCd11 HBLd11 HBXd11 HBMd11 HBRd11
    (try go_wp2_with fail)
    exact bodyPost_ret (results_row3 rfl _ _ bR 56 #[.int .i64 l.se, .int .i64 l.fl, .int .i64 l.fm, .int .i64 l.to, .int .i64 l.ma, .int .i64 l.ca, .int .i64 l.ph, .int .i64 l.un, .int .i64 l.re, .int .i64 l.gr] _ (.slice (some ⟨bn107, 0, none⟩) 1 1) (.bool false) rfl rfl rfl HBRd15.out Try.underlying56 rfl (by kernel_rfl)) rfl ⟨.slice (some ⟨bn107, 0, none⟩) 1 1, rfl, ⟨bn107, rfl, HGn107.out, HXn1072.out⟩, HSd15.out⟩
  case g15__5b =>
    rw [if_pos (by rfl)]
    refine wp_st_row 56 _ _ rfl #[.int .i64 l.se, .int .i64 l.fl, .int .i64 l.fm, .int .i64 l.to, .int .i64 l.ma, .int .i64 l.ca, .int .i64 l.ph, .int .i64 l.un, .int .i64 l.re, .int .i64 l.gr] rfl rfl (hHeld.2.2.2.2.2) rfl (by simp [cfgA, leaA, carA, msgC, Value.oneCell']) (by kernel_rfl) ?_
    intro w2 hw
    have HRR := Lib.hid (show Blk w2 bR 56 (leaA l) by obtain ⟨old, Bo, _⟩ := hHeld.2.2.2.2.2; rw [hw]; exact Blk.row Bo _)
    have hHeld3 : (fun W : World => Since w W ∧ Blk W w.heap.size 23 (cfgA c) ∧ Blk W bL 56 (leaA l) ∧ Blk W bX 76 (carA x) ∧ Blk W bM 85 (msgC m) ∧ HasRow W bR 56 10) w2 := ⟨by rw [hw]; exact Since.setRow hHeld.1 (by have := HNE3.out; omega) _, by rw [hw]; exact Blk.row_far (hHeld.2.1) (by have := HNE3.out; omega) _, by rw [hw]; exact Blk.row_far (hHeld.2.2.1) (by have := HNE3.out; omega) _, by rw [hw]; exact Blk.row_far (hHeld.2.2.2.1) (by have := HNE3.out; omega) _, by rw [hw]; exact Blk.row_far (hHeld.2.2.2.2.1) (by have := HNE3.out; omega) _, HasRow.of HRR.out rfl⟩
    refine hK.out _ _ hHeld3 (fun hHeld2 => ?_)
    clear hK K hHeld hHeld3 hw
    have hHeld := hHeld2
    clear hHeld2
    (try simp only [Act.put, sA, sB, sC])
    refine wpAnyH_ready (rs := [4]) (by kernel_rfl) (by simp) ?_
    refine AllReadyH.cons (o := ?o15_b5_4) ?h15_b5_4 (fun K hK => ?_) AllReadyH.nil
    case h15_b5_4 => (first | (simp only [gA, gB, gC]; done) | (simp only [gA, gB, gC]; exact rfl))
    rw [if_pos (by rfl)]
    refine wp_new (fun b => .slice (some ⟨b, 0, none⟩) 1 1) 85 #[.int .i64 7, .int .i64 l.ph, .int .i64 0, .int .i64 0] (by rintro b rfl; first | rfl | kernel_rfl) ?_
    intro bn107 w3 hge hB hb
    refine hK.out _ _ (by (apply HRK.out; exact hb; exact hHeld)) (fun hHeld2 => ?_)
    have HRRk := Lib.hid (keep_blk hb HRR.out)
    clear HRR
    have HNn107R := Lib.hid (show bn107 ≠ bR by obtain ⟨old, Bo, _⟩ := hHeld.2.2.2.2.2; have := Blk.lt Bo; omega)
    have HGn107 := Lib.hid (show w.heap.size ≤ bn107 by have := Since.size hHeld.1; (try simp at this); (try simp at hge); omega)
    have HXn107 := Lib.hid hB
    clear hB
    clear hge
    clear hK K hHeld hb
    have hHeld := hHeld2
    clear hHeld2
    (try simp only [Act.put, sA, sB, sC])
    refine wpAnyH_take (i := 6) (oi := ?o15_b5_6) (v := .slice (some ⟨bn107, 0, none⟩) 1 1) ?h15_b5_6 (by kernel_rfl) (by kernel_rfl) (by kernel_rfl) ?q15_b5_6 ?y15_b5_6 (by assumption) ?_
    case h15_b5_6 => (first | (simp only [gA, gB, gC]; done) | (simp only [gA, gB, gC]; exact rfl))
    case q15_b5_6 => exact fun _ _ _ h => h
    case y15_b5_6 => (refine Or.inl ⟨rfl, ?_⟩; intro w hSw; (first | rfl | (go_simp; (try with_reducible rfl))))
    (try simp only [Act.put, sA, sB, sC])
    refine wpAnyH_take (i := 7) (oi := ?o15_b5_7) (v := .bool false) ?h15_b5_7 (by kernel_rfl) (by kernel_rfl) (by kernel_rfl) ?q15_b5_7 ?y15_b5_7 (by assumption) ?_
    case h15_b5_7 => (first | (simp only [gA, gB, gC]; done) | (simp only [gA, gB, gC]; exact rfl))
    case q15_b5_7 => exact fun _ _ _ h => h
    case y15_b5_7 => (refine Or.inl ⟨rfl, ?_⟩; intro w hSw; (first | rfl | (go_simp; (try with_reducible rfl))))
    (try simp only [Act.put, sA, sB, sC])
    refine wpAnyH_done (by kernel_rfl) ?_ _
    have HSd15 := Lib.hid hHeld.1
    have HBCd15 := Lib.hid (hHeld.2.1)
    have HBLd15 := Lib.hid (hHeld.2.2.1)
    have HBXd15 := Lib.hid (hHeld.2.2.2.1)
    have HBMd15 := Lib.hid (hHeld.2.2.2.2.1)
    have HBRd15 := Lib.hid HRRk.out
    clear HRRk
    clear hHeld HRK HRD HSd11 HBCd11 HBLd11 HBXd11 HBMd11 HBRd11
    (try go_wp2_with fail)
    exact bodyPost_ret (results_row3 rfl _ _ bR 56 #[.int .i64 l.se, .int .i64 l.fl, .int .i64 l.fm, .int .i64 l.to, .int .i64 l.ma, .int .i64 l.ca, .int .i64 l.ph, .int .i64 l.un, .int .i64 l.re, .int .i64 l.gr] _ (.slice (some ⟨bn107, 0, none⟩) 1 1) (.bool false) rfl rfl rfl HBRd15.out Try.underlying56 rfl (by kernel_rfl)) rfl ⟨.slice (some ⟨bn107, 0, none⟩) 1 1, rfl, ⟨bn107, rfl, HGn107.out, HXn107.out⟩, HSd15.out⟩
set_option maxHeartbeats 4000000 in
theorem hearRN2 (c : CfgV) (l : LeaseV) (x : CarV) (now : Int) (m : MsgV) (h0 : (m.ki == 9) = false) (h2 : (m.ki == 13) = false) (h4 : (m.ki == 15) = false) (w : World) : Calls Try.prog 58 #[.agg #[.int .i64 c.ca, .int .i64 c.fl, .int .i64 c.ft, .int .i64 c.se, .int .i64 c.dr, .int .i64 c.dw, .int .i64 c.ho, .int .i64 c.re, .int .i64 c.yi, .int .i64 c.qu, .int .i64 c.qo, .int .i64 c.lo, .int .i64 c.sl, .int .i64 c.rt, .int .i64 c.cp, .int .i64 c.tr, .int .i64 c.de, .int .i64 c.wi], .agg #[.int .i64 l.se, .int .i64 l.fl, .int .i64 l.fm, .int .i64 l.to, .int .i64 l.ma, .int .i64 l.ca, .int .i64 l.ph, .int .i64 l.un, .int .i64 l.re, .int .i64 l.gr], .agg #[.int .i64 x.ds, .int .i64 x.da, .int .i64 x.un, .int .i64 x.wy, .int .i64 x.ti, .int .i64 x.ju, .int .i64 x.lo, .bool x.bl, .bool x.br, .int .i64 x.mo, .int .i64 x.ta, .bool x.ho, .int .u64 x.sp, .int .u64 x.su, .int .u64 x.sd], .int .i64 now, .agg (msgC m)] w (Said w (⟨l.se, l.fl, l.fm, l.to, l.ma, l.ca, l.ph, l.un, l.re, l.gr⟩, some ⟨7, l.ph, 0, 0⟩, false)) := by
  have H0 := Lib.hid h0
  clear h0
  have H2 := Lib.hid h2
  clear h2
  have H4 := Lib.hid h4
  clear h4
  go_enter Try.func58, Try.ntmps58
  go_upto_region 1 with fail
  obtain ⟨w1, hw1⟩ : ∃ w1, w1 = (((((w.alloc (.cells #[.int .i64 c.ca, .int .i64 c.fl, .int .i64 c.ft, .int .i64 c.se, .int .i64 c.dr, .int .i64 c.dw, .int .i64 c.ho, .int .i64 c.re, .int .i64 c.yi, .int .i64 c.qu, .int .i64 c.qo, .int .i64 c.lo, .int .i64 c.sl, .int .i64 c.rt, .int .i64 c.cp, .int .i64 c.tr, .int .i64 c.de, .int .i64 c.wi] 23)).alloc (.cells #[.int .i64 l.se, .int .i64 l.fl, .int .i64 l.fm, .int .i64 l.to, .int .i64 l.ma, .int .i64 l.ca, .int .i64 l.ph, .int .i64 l.un, .int .i64 l.re, .int .i64 l.gr] 56)).alloc (.cells #[.int .i64 x.ds, .int .i64 x.da, .int .i64 x.un, .int .i64 x.wy, .int .i64 x.ti, .int .i64 x.ju, .int .i64 x.lo, .bool x.bl, .bool x.br, .int .i64 x.mo, .int .i64 x.ta, .bool x.ho, .int .u64 x.sp, .int .u64 x.su, .int .u64 x.sd] 76)).alloc (.cells (msgC m) 85)).alloc (.cells #[.int .i64 0, .int .i64 0, .int .i64 0, .int .i64 0, .int .i64 0, .int .i64 0, .int .i64 0, .int .i64 0, .int .i64 0, .int .i64 0] 56)) := ⟨_, rfl⟩
  rw [← hw1]
  have HBC1 := Lib.hid (show Blk w1 (w.heap.size) 23 (cfgA c) by rw [hw1]; exact Blk.alloc (Blk.alloc (Blk.alloc (Blk.alloc (Blk.at_ (by (try simp only [size_alloc])) _ _) _) _) _) _)
  have HBL1 := Lib.hid (show Blk w1 (w.heap.size + 1) 56 (leaA l) by rw [hw1]; exact Blk.alloc (Blk.alloc (Blk.alloc (Blk.at_ (by (try simp only [size_alloc])) _ _) _) _) _)
  have HBX1 := Lib.hid (show Blk w1 (w.heap.size + 1 + 1) 76 (carA x) by rw [hw1]; exact Blk.alloc (Blk.alloc (Blk.at_ (by (try simp only [size_alloc])) _ _) _) _)
  have HBM1 := Lib.hid (show Blk w1 (w.heap.size + 1 + 1 + 1) 85 (msgC m) by rw [hw1]; exact Blk.alloc (Blk.at_ (by (try simp only [size_alloc])) _ _) _)
  have HBR1 := Lib.hid (show Blk w1 (w.heap.size + 1 + 1 + 1 + 1) 56 #[.int .i64 0, .int .i64 0, .int .i64 0, .int .i64 0, .int .i64 0, .int .i64 0, .int .i64 0, .int .i64 0, .int .i64 0, .int .i64 0] by rw [hw1]; exact Blk.at_ (by (try simp only [size_alloc])) _ _)
  have HS1 := Lib.hid (show Since w w1 by rw [hw1]; exact Since.alloc (Since.alloc (Since.alloc (Since.alloc (Since.alloc (Since.refl w) _) _) _) _) _)
  have hNE : w.heap.size ≤ w.heap.size ∧ w.heap.size < w.heap.size + 1 ∧ w.heap.size + 1 < w.heap.size + 1 + 1 ∧ w.heap.size + 1 + 1 < w.heap.size + 1 + 1 + 1 ∧ w.heap.size + 1 + 1 + 1 < w.heap.size + 1 + 1 + 1 + 1 := by omega
  have HNE := Lib.hid hNE
  clear hNE hw1
  generalize w.heap.size + 1 + 1 + 1 + 1 = bR at *
  generalize w.heap.size + 1 + 1 + 1 = bM at *
  generalize w.heap.size + 1 + 1 = bX at *
  generalize w.heap.size + 1 = bL at *
  have HNE3 := Lib.hid (show w.heap.size ≤ w.heap.size ∧ w.heap.size < bL ∧ bL < bX ∧ bX < bM ∧ bM < bR from HNE.out)
  clear HNE
  refine wp_region_lit ?_
  refine wpList_q (by rfl) (.pointer (some ⟨bM, 0, none⟩)) ?he ?_
  case he => (first | rfl | (go_simp; (try with_reducible rfl)))
  (try simp only [Act.put, sA, sB, sC])
  refine wpList_q (by rfl) (.int .i64 m.ki) ?he ?_
  case he => exact exec_cell 3 _ _ HBM1.out rfl rfl rfl Try.underlying3 rfl
  (try simp only [Act.put, sA, sB, sC])
  refine wpList_q (by rfl) (.bool false) ?he ?_
  case he => (have hq := H0.out; go_simp; (try with_reducible rfl))
  (try simp only [Act.put, sA, sB, sC])
  refine wpList_q (by rfl) (.bool false) ?he ?_
  case he => (first | rfl | (go_simp; (try with_reducible rfl)))
  (try simp only [Act.put, sA, sB, sC])
  refine wpList_no (by rfl) ?_
  (try simp only [Act.put, sA, sB, sC])
  refine wpList_no (by rfl) ?_
  (try simp only [Act.put, sA, sB, sC])
  refine wpList_no (by rfl) ?_
  (try simp only [Act.put, sA, sB, sC])
  refine wpList_q (by rfl) (.bool false) ?he ?_
  case he => (first | rfl | (go_simp; (try with_reducible rfl)))
  (try simp only [Act.put, sA, sB, sC])
  refine wpList_q (by rfl) (.bool false) ?he ?_
  case he => (first | rfl | (go_simp; (try with_reducible rfl)))
  (try simp only [Act.put, sA, sB, sC])
  refine wpList_nil ?_
  go_upto_region 9 with fail
  refine wp_region_lit ?_
  refine wpList_q (by rfl) (.pointer (some ⟨bM, 0, none⟩)) ?he ?_
  case he => (first | rfl | (go_simp; (try with_reducible rfl)))
  (try simp only [Act.put, sA, sB, sC])
  refine wpList_q (by rfl) (.int .i64 m.ki) ?he ?_
  case he => exact exec_cell 3 _ _ HBM1.out rfl rfl rfl Try.underlying3 rfl
  (try simp only [Act.put, sA, sB, sC])
  refine wpList_q (by rfl) (.bool false) ?he ?_
  case he => (have hq := H2.out; go_simp; (try with_reducible rfl))
  (try simp only [Act.put, sA, sB, sC])
  refine wpList_q (by rfl) (.bool false) ?he ?_
  case he => (first | rfl | (go_simp; (try with_reducible rfl)))
  (try simp only [Act.put, sA, sB, sC])
  refine wpList_no (by rfl) ?_
  (try simp only [Act.put, sA, sB, sC])
  refine wpList_no (by rfl) ?_
  (try simp only [Act.put, sA, sB, sC])
  refine wpList_no (by rfl) ?_
  (try simp only [Act.put, sA, sB, sC])
  refine wpList_q (by rfl) (.bool false) ?he ?_
  case he => (first | rfl | (go_simp; (try with_reducible rfl)))
  (try simp only [Act.put, sA, sB, sC])
  refine wpList_q (by rfl) (.bool false) ?he ?_
  case he => (first | rfl | (go_simp; (try with_reducible rfl)))
  (try simp only [Act.put, sA, sB, sC])
  refine wpList_nil ?_
  go_upto_region 11 with fail
  have hrK : ∀ W W' : World, Since W W' → (Since w W ∧ Blk W w.heap.size 23 (cfgA c) ∧ Blk W bL 56 (leaA l) ∧ Blk W bX 76 (carA x) ∧ Blk W bM 85 (msgC m) ∧ Blk W bR 56 #[.int .i64 0, .int .i64 0, .int .i64 0, .int .i64 0, .int .i64 0, .int .i64 0, .int .i64 0, .int .i64 0, .int .i64 0, .int .i64 0]) → (Since w W' ∧ Blk W' w.heap.size 23 (cfgA c) ∧ Blk W' bL 56 (leaA l) ∧ Blk W' bX 76 (carA x) ∧ Blk W' bM 85 (msgC m) ∧ Blk W' bR 56 #[.int .i64 0, .int .i64 0, .int .i64 0, .int .i64 0, .int .i64 0, .int .i64 0, .int .i64 0, .int .i64 0, .int .i64 0, .int .i64 0]) := fun W W' k ⟨h, h0, h1, h2, h3, h4⟩ => ⟨h.trans k, keep_blk k h0, keep_blk k h1, keep_blk k h2, keep_blk k h3, keep_blk k h4⟩
  have hrS : (fun W : World => Since w W ∧ Blk W w.heap.size 23 (cfgA c) ∧ Blk W bL 56 (leaA l) ∧ Blk W bX 76 (carA x) ∧ Blk W bM 85 (msgC m) ∧ Blk W bR 56 #[.int .i64 0, .int .i64 0, .int .i64 0, .int .i64 0, .int .i64 0, .int .i64 0, .int .i64 0, .int .i64 0, .int .i64 0, .int .i64 0]) w1 := ⟨HS1.out, HBC1.out, HBL1.out, HBX1.out, HBM1.out, HBR1.out⟩
  have HRK := Lib.hid hrK
  have HRD := Lib.hid (show (fun W : World => Since w W ∧ Blk W w.heap.size 23 (cfgA c) ∧ Blk W bL 56 (leaA l) ∧ Blk W bX 76 (carA x) ∧ Blk W bM 85 (msgC m) ∧ Blk W bR 56 #[.int .i64 0, .int .i64 0, .int .i64 0, .int .i64 0, .int .i64 0, .int .i64 0, .int .i64 0, .int .i64 0, .int .i64 0, .int .i64 0]) (World.drew w1) from ⟨Since.drew hrS.1, hrS.2⟩)
  clear hrK hrS
  refine wp_region_held_drew (S := fun W : World => Since w W ∧ Blk W w.heap.size 23 (cfgA c) ∧ Blk W bL 56 (leaA l) ∧ Blk W bX 76 (carA x) ∧ Blk W bM 85 (msgC m) ∧ Blk W bR 56 #[.int .i64 0, .int .i64 0, .int .i64 0, .int .i64 0, .int .i64 0, .int .i64 0, .int .i64 0, .int .i64 0, .int .i64 0, .int .i64 0]) (by kernel_rfl) HRD.out (fun hHeld => ?_)
  refine wpAnyH_take (i := 0) (oi := ?o11__0) (v := .pointer (some ⟨bM, 0, none⟩)) ?h11__0 (by kernel_rfl) (by kernel_rfl) (by kernel_rfl) ?q11__0 ?y11__0 (by assumption) ?_
  case h11__0 => (first | (simp only [gA, gB, gC]; done) | (simp only [gA, gB, gC]; exact rfl))
  case q11__0 => exact fun _ _ _ h => h
  case y11__0 => (refine Or.inl ⟨rfl, ?_⟩; intro w hSw; (first | rfl | (go_simp; (try with_reducible rfl))))
  (try simp only [Act.put, sA, sB, sC])
  refine wpAnyH_take (i := 1) (oi := ?o11__1) (v := .int .i64 m.ki) ?h11__1 (by kernel_rfl) (by kernel_rfl) (by kernel_rfl) ?q11__1 ?y11__1 (by assumption) ?_
  case h11__1 => (first | (simp only [gA, gB, gC]; done) | (simp only [gA, gB, gC]; exact rfl))
  case q11__1 => exact fun _ _ _ h => h
  case y11__1 => (refine Or.inl ⟨rfl, ?_⟩; intro w hSw; exact exec_cell 3 _ _ hSw.2.2.2.2.1 rfl rfl rfl Try.underlying3 rfl)
  (try simp only [Act.put, sA, sB, sC])
  refine wpAnyH_take (i := 2) (oi := ?o11__2) (v := .bool false) ?h11__2 (by kernel_rfl) (by kernel_rfl) (by kernel_rfl) ?q11__2 ?y11__2 (by assumption) ?_
  case h11__2 => (first | (simp only [gA, gB, gC]; done) | (simp only [gA, gB, gC]; exact rfl))
  case q11__2 => exact fun _ _ _ h => h
  case y11__2 => (refine Or.inl ⟨rfl, ?_⟩; intro w hSw; (have hq := H4.out; go_simp; (try with_reducible rfl)))
  (try simp only [Act.put, sA, sB, sC])
  refine wpAnyH_take (i := 3) (oi := ?o11__3) (v := .bool false) ?h11__3 (by kernel_rfl) (by kernel_rfl) (by kernel_rfl) ?q11__3 ?y11__3 (by assumption) ?_
  case h11__3 => (first | (simp only [gA, gB, gC]; done) | (simp only [gA, gB, gC]; exact rfl))
  case q11__3 => exact fun _ _ _ h => h
  case y11__3 => (refine Or.inl ⟨rfl, ?_⟩; intro w hSw; (first | rfl | (go_simp; (try with_reducible rfl))))
  (try simp only [Act.put, sA, sB, sC])
  refine wpAnyH_take (i := 4) (oi := ?o11__4) (v := undef) ?h11__4 (by kernel_rfl) (by kernel_rfl) (by kernel_rfl) ?q11__4 ?y11__4 (by assumption) ?_
  case h11__4 => (first | (simp only [gA, gB, gC]; done) | (simp only [gA, gB, gC]; exact rfl))
  case q11__4 => exact fun _ _ _ h => h
  case y11__4 => exact Or.inr ⟨rfl, rfl⟩
  (try simp only [Act.put, sA, sB, sC])
  refine wpAnyH_take (i := 5) (oi := ?o11__5) (v := undef) ?h11__5 (by kernel_rfl) (by kernel_rfl) (by kernel_rfl) ?q11__5 ?y11__5 (by assumption) ?_
  case h11__5 => (first | (simp only [gA, gB, gC]; done) | (simp only [gA, gB, gC]; exact rfl))
  case q11__5 => exact fun _ _ _ h => h
  case y11__5 => exact Or.inr ⟨rfl, rfl⟩
  (try simp only [Act.put, sA, sB, sC])
  refine wpAnyH_take (i := 6) (oi := ?o11__6) (v := undef) ?h11__6 (by kernel_rfl) (by kernel_rfl) (by kernel_rfl) ?q11__6 ?y11__6 (by assumption) ?_
  case h11__6 => (first | (simp only [gA, gB, gC]; done) | (simp only [gA, gB, gC]; exact rfl))
  case q11__6 => exact fun _ _ _ h => h
  case y11__6 => exact Or.inr ⟨rfl, rfl⟩
  (try simp only [Act.put, sA, sB, sC])
  refine wpAnyH_take (i := 7) (oi := ?o11__7) (v := undef) ?h11__7 (by kernel_rfl) (by kernel_rfl) (by kernel_rfl) ?q11__7 ?y11__7 (by assumption) ?_
  case h11__7 => (first | (simp only [gA, gB, gC]; done) | (simp only [gA, gB, gC]; exact rfl))
  case q11__7 => exact fun _ _ _ h => h
  case y11__7 => exact Or.inr ⟨rfl, rfl⟩
  (try simp only [Act.put, sA, sB, sC])
  refine wpAnyH_take (i := 8) (oi := ?o11__8) (v := undef) ?h11__8 (by kernel_rfl) (by kernel_rfl) (by kernel_rfl) ?q11__8 ?y11__8 (by assumption) ?_
  case h11__8 => (first | (simp only [gA, gB, gC]; done) | (simp only [gA, gB, gC]; exact rfl))
  case q11__8 => exact fun _ _ _ h => h
  case y11__8 => exact Or.inr ⟨rfl, rfl⟩
  (try simp only [Act.put, sA, sB, sC])
  refine wpAnyH_take (i := 9) (oi := ?o11__9) (v := undef) ?h11__9 (by kernel_rfl) (by kernel_rfl) (by kernel_rfl) ?q11__9 ?y11__9 (by assumption) ?_
  case h11__9 => (first | (simp only [gA, gB, gC]; done) | (simp only [gA, gB, gC]; exact rfl))
  case q11__9 => exact fun _ _ _ h => h
  case y11__9 => exact Or.inr ⟨rfl, rfl⟩
  (try simp only [Act.put, sA, sB, sC])
  refine wpAnyH_take (i := 10) (oi := ?o11__10) (v := undef) ?h11__10 (by kernel_rfl) (by kernel_rfl) (by kernel_rfl) ?q11__10 ?y11__10 (by assumption) ?_
  case h11__10 => (first | (simp only [gA, gB, gC]; done) | (simp only [gA, gB, gC]; exact rfl))
  case q11__10 => exact fun _ _ _ h => h
  case y11__10 => exact Or.inr ⟨rfl, rfl⟩
  (try simp only [Act.put, sA, sB, sC])
  refine wpAnyH_take (i := 11) (oi := ?o11__11) (v := undef) ?h11__11 (by kernel_rfl) (by kernel_rfl) (by kernel_rfl) ?q11__11 ?y11__11 (by assumption) ?_
  case h11__11 => (first | (simp only [gA, gB, gC]; done) | (simp only [gA, gB, gC]; exact rfl))
  case q11__11 => exact fun _ _ _ h => h
  case y11__11 => exact Or.inr ⟨rfl, rfl⟩
  (try simp only [Act.put, sA, sB, sC])
  refine wpAnyH_take (i := 12) (oi := ?o11__12) (v := .bool false) ?h11__12 (by kernel_rfl) (by kernel_rfl) (by kernel_rfl) ?q11__12 ?y11__12 (by assumption) ?_
  case h11__12 => (first | (simp only [gA, gB, gC]; done) | (simp only [gA, gB, gC]; exact rfl))
  case q11__12 => exact fun _ _ _ h => h
  case y11__12 => (refine Or.inl ⟨rfl, ?_⟩; intro w hSw; (first | rfl | (go_simp; (try with_reducible rfl))))
  (try simp only [Act.put, sA, sB, sC])
  refine wpAnyH_take (i := 13) (oi := ?o11__13) (v := .bool false) ?h11__13 (by kernel_rfl) (by kernel_rfl) (by kernel_rfl) ?q11__13 ?y11__13 (by assumption) ?_
  case h11__13 => (first | (simp only [gA, gB, gC]; done) | (simp only [gA, gB, gC]; exact rfl))
  case q11__13 => exact fun _ _ _ h => h
  case y11__13 => (refine Or.inl ⟨rfl, ?_⟩; intro w hSw; (first | rfl | (go_simp; (try with_reducible rfl))))
  (try simp only [Act.put, sA, sB, sC])
  refine wpAnyH_take (i := 14) (oi := ?o11__14) (v := undef) ?h11__14 (by kernel_rfl) (by kernel_rfl) (by kernel_rfl) ?q11__14 ?y11__14 (by assumption) ?_
  case h11__14 => (first | (simp only [gA, gB, gC]; done) | (simp only [gA, gB, gC]; exact rfl))
  case q11__14 => exact fun _ _ _ h => h
  case y11__14 => exact Or.inr ⟨rfl, rfl⟩
  (try simp only [Act.put, sA, sB, sC])
  refine wpAnyH_take (i := 15) (oi := ?o11__15) (v := undef) ?h11__15 (by kernel_rfl) (by kernel_rfl) (by kernel_rfl) ?q11__15 ?y11__15 (by assumption) ?_
  case h11__15 => (first | (simp only [gA, gB, gC]; done) | (simp only [gA, gB, gC]; exact rfl))
  case q11__15 => exact fun _ _ _ h => h
  case y11__15 => exact Or.inr ⟨rfl, rfl⟩
  (try simp only [Act.put, sA, sB, sC])
  refine wpAnyH_take (i := 16) (oi := ?o11__16) (v := undef) ?h11__16 (by kernel_rfl) (by kernel_rfl) (by kernel_rfl) ?q11__16 ?y11__16 (by assumption) ?_
  case h11__16 => (first | (simp only [gA, gB, gC]; done) | (simp only [gA, gB, gC]; exact rfl))
  case q11__16 => exact fun _ _ _ h => h
  case y11__16 => exact Or.inr ⟨rfl, rfl⟩
  (try simp only [Act.put, sA, sB, sC])
  refine wpAnyH_take (i := 17) (oi := ?o11__17) (v := undef) ?h11__17 (by kernel_rfl) (by kernel_rfl) (by kernel_rfl) ?q11__17 ?y11__17 (by assumption) ?_
  case h11__17 => (first | (simp only [gA, gB, gC]; done) | (simp only [gA, gB, gC]; exact rfl))
  case q11__17 => exact fun _ _ _ h => h
  case y11__17 => exact Or.inr ⟨rfl, rfl⟩
  (try simp only [Act.put, sA, sB, sC])
  refine wpAnyH_take (i := 18) (oi := ?o11__18) (v := undef) ?h11__18 (by kernel_rfl) (by kernel_rfl) (by kernel_rfl) ?q11__18 ?y11__18 (by assumption) ?_
  case h11__18 => (first | (simp only [gA, gB, gC]; done) | (simp only [gA, gB, gC]; exact rfl))
  case q11__18 => exact fun _ _ _ h => h
  case y11__18 => exact Or.inr ⟨rfl, rfl⟩
  (try simp only [Act.put, sA, sB, sC])
  refine wpAnyH_take (i := 19) (oi := ?o11__19) (v := .bool false) ?h11__19 (by kernel_rfl) (by kernel_rfl) (by kernel_rfl) ?q11__19 ?y11__19 (by assumption) ?_
  case h11__19 => (first | (simp only [gA, gB, gC]; done) | (simp only [gA, gB, gC]; exact rfl))
  case q11__19 => exact fun _ _ _ h => h
  case y11__19 => (refine Or.inl ⟨rfl, ?_⟩; intro w hSw; (first | rfl | (go_simp; (try with_reducible rfl))))
  (try simp only [Act.put, sA, sB, sC])
  refine wpAnyH_take (i := 20) (oi := ?o11__20) (v := .bool false) ?h11__20 (by kernel_rfl) (by kernel_rfl) (by kernel_rfl) ?q11__20 ?y11__20 (by assumption) ?_
  case h11__20 => (first | (simp only [gA, gB, gC]; done) | (simp only [gA, gB, gC]; exact rfl))
  case q11__20 => exact fun _ _ _ h => h
  case y11__20 => (refine Or.inl ⟨rfl, ?_⟩; intro w hSw; (first | rfl | (go_simp; (try with_reducible rfl))))
  (try simp only [Act.put, sA, sB, sC])
  refine wpAnyH_done (by kernel_rfl) ?_ _
  have HSd11 := Lib.hid hHeld.1
  have HBCd11 := Lib.hid (hHeld.2.1)
  have HBLd11 := Lib.hid (hHeld.2.2.1)
  have HBXd11 := Lib.hid (hHeld.2.2.2.1)
  have HBMd11 := Lib.hid (hHeld.2.2.2.2.1)
  have HBRd11 := Lib.hid (hHeld.2.2.2.2.2)
  clear hHeld HRK HRD HS1 HBC1 HBL1 HBX1 HBM1 HBR1
  go_upto_region 15 with fail
  have hrK : ∀ W W' : World, Since W W' → (Since w W ∧ Blk W w.heap.size 23 (cfgA c) ∧ Blk W bL 56 (leaA l) ∧ Blk W bX 76 (carA x) ∧ Blk W bM 85 (msgC m) ∧ HasRow W bR 56 10) → (Since w W' ∧ Blk W' w.heap.size 23 (cfgA c) ∧ Blk W' bL 56 (leaA l) ∧ Blk W' bX 76 (carA x) ∧ Blk W' bM 85 (msgC m) ∧ HasRow W' bR 56 10) := fun W W' k ⟨h, h0, h1, h2, h3, h4⟩ => ⟨h.trans k, keep_blk k h0, keep_blk k h1, keep_blk k h2, keep_blk k h3, HasRow.keep k h4⟩
  have hrS : (fun W : World => Since w W ∧ Blk W w.heap.size 23 (cfgA c) ∧ Blk W bL 56 (leaA l) ∧ Blk W bX 76 (carA x) ∧ Blk W bM 85 (msgC m) ∧ HasRow W bR 56 10) w1.drew := ⟨HSd11.out, HBCd11.out, HBLd11.out, HBXd11.out, HBMd11.out, HasRow.of HBRd11.out rfl⟩
  have HRK := Lib.hid hrK
  have HRD := Lib.hid (show (fun W : World => Since w W ∧ Blk W w.heap.size 23 (cfgA c) ∧ Blk W bL 56 (leaA l) ∧ Blk W bX 76 (carA x) ∧ Blk W bM 85 (msgC m) ∧ HasRow W bR 56 10) (World.drew w1.drew) from ⟨Since.drew hrS.1, hrS.2⟩)
  clear hrK hrS
  refine wp_region_held_drew (S := fun W : World => Since w W ∧ Blk W w.heap.size 23 (cfgA c) ∧ Blk W bL 56 (leaA l) ∧ Blk W bX 76 (carA x) ∧ Blk W bM 85 (msgC m) ∧ HasRow W bR 56 10) (by kernel_rfl) HRD.out (fun hHeld => ?_)
  refine wpAnyH_take (i := 0) (oi := ?o15__0) (v := .agg (leaA l)) ?h15__0 (by kernel_rfl) (by kernel_rfl) (by kernel_rfl) ?q15__0 ?y15__0 (by assumption) ?_
  case h15__0 => (first | (simp only [gA, gB, gC]; done) | (simp only [gA, gB, gC]; exact rfl))
  case q15__0 => exact fun _ _ _ h => h
  case y15__0 => (refine Or.inl ⟨rfl, ?_⟩; intro w hSw; exact exec_load_row 56 _ _ hSw.2.2.1 rfl rfl Try.underlying56 rfl (by kernel_rfl))
  (try simp only [Act.put, sA, sB, sC])
  refine wpAnyH_take (i := 1) (oi := ?o15__1) (v := .pointer (some ⟨bL, 6, none⟩)) ?h15__1 (by kernel_rfl) (by kernel_rfl) (by kernel_rfl) ?q15__1 ?y15__1 (by assumption) ?_
  case h15__1 => (first | (simp only [gA, gB, gC]; done) | (simp only [gA, gB, gC]; exact rfl))
  case q15__1 => exact fun _ _ _ h => h
  case y15__1 => (refine Or.inl ⟨rfl, ?_⟩; intro w hSw; (first | rfl | (go_simp; (try with_reducible rfl))))
  (try simp only [Act.put, sA, sB, sC])
  refine wpAnyH_take (i := 2) (oi := ?o15__2) (v := .int .i64 l.ph) ?h15__2 (by kernel_rfl) (by kernel_rfl) (by kernel_rfl) ?q15__2 ?y15__2 (by assumption) ?_
  case h15__2 => (first | (simp only [gA, gB, gC]; done) | (simp only [gA, gB, gC]; exact rfl))
  case q15__2 => exact fun _ _ _ h => h
  case y15__2 => (refine Or.inl ⟨rfl, ?_⟩; intro w hSw; exact exec_cell 3 _ _ hSw.2.2.1 rfl rfl rfl Try.underlying3 rfl)
  (try simp only [Act.put, sA, sB, sC])
  refine wpAnyH_take (i := 3) (oi := ?o15__3) (v := .agg #[.int .i64 7, .int .i64 l.ph, .int .i64 0, .int .i64 0]) ?h15__3 (by kernel_rfl) (by kernel_rfl) (by kernel_rfl) ?q15__3 ?y15__3 (by assumption) ?_
  case h15__3 => (first | (simp only [gA, gB, gC]; done) | (simp only [gA, gB, gC]; exact rfl))
  case q15__3 => exact fun _ _ _ h => h
  case y15__3 => (refine Or.inl ⟨rfl, ?_⟩; intro w hSw; kernel_rfl)
  (try simp only [Act.put, sA, sB, sC])
  refine wpAnyH_ready (rs := [4, 5]) (by kernel_rfl) (by simp) ?_
  refine AllReadyH.cons (o := ?o15__4b) ?h15__4b (fun K hK => ?g15__4b) (AllReadyH.cons (o := ?o15__5b) ?h15__5b (fun K hK => ?g15__5b) AllReadyH.nil)
  case h15__4b => (first | (simp only [gA, gB, gC]; done) | (simp only [gA, gB, gC]; exact rfl))
  case h15__5b => (first | (simp only [gA, gB, gC]; done) | (simp only [gA, gB, gC]; exact rfl))
  case g15__4b =>
    rw [if_pos (by rfl)]
    refine wp_new (fun b => .slice (some ⟨b, 0, none⟩) 1 1) 85 #[.int .i64 7, .int .i64 l.ph, .int .i64 0, .int .i64 0] (by rintro b rfl; first | rfl | kernel_rfl) ?_
    intro bn107 w2 hge hB hb
    refine hK.out _ _ (by (apply HRK.out; exact hb; exact hHeld)) (fun hHeld2 => ?_)
    have HNn107R := Lib.hid (show bn107 ≠ bR by obtain ⟨old, Bo, _⟩ := hHeld.2.2.2.2.2; have := Blk.lt Bo; omega)
    have HGn107 := Lib.hid (show w.heap.size ≤ bn107 by have := Since.size hHeld.1; (try simp at this); (try simp at hge); omega)
    have HXn107 := Lib.hid hB
    clear hB
    clear hge
    clear hK K hHeld hb
    have hHeld := hHeld2
    clear hHeld2
    (try simp only [Act.put, sA, sB, sC])
    refine wpAnyH_ready (rs := [5]) (by kernel_rfl) (by simp) ?_
    refine AllReadyH.cons (o := ?o15_b4_5) ?h15_b4_5 (fun K hK => ?_) AllReadyH.nil
    case h15_b4_5 => (first | (simp only [gA, gB, gC]; done) | (simp only [gA, gB, gC]; exact rfl))
    rw [if_pos (by rfl)]
    refine wp_st_row 56 _ _ rfl #[.int .i64 l.se, .int .i64 l.fl, .int .i64 l.fm, .int .i64 l.to, .int .i64 l.ma, .int .i64 l.ca, .int .i64 l.ph, .int .i64 l.un, .int .i64 l.re, .int .i64 l.gr] rfl rfl (hHeld.2.2.2.2.2) rfl (by simp [cfgA, leaA, carA, msgC, Value.oneCell']) (by kernel_rfl) ?_
    intro w3 hw
    have HRR := Lib.hid (show Blk w3 bR 56 (leaA l) by obtain ⟨old, Bo, _⟩ := hHeld.2.2.2.2.2; rw [hw]; exact Blk.row Bo _)
    have HXn1072 := Lib.hid (show Blk w3 bn107 85 #[.int .i64 7, .int .i64 l.ph, .int .i64 0, .int .i64 0] by rw [hw]; exact Blk.row_far HXn107.out HNn107R.out _)
    clear HXn107
    have hHeld3 : (fun W : World => Since w W ∧ Blk W w.heap.size 23 (cfgA c) ∧ Blk W bL 56 (leaA l) ∧ Blk W bX 76 (carA x) ∧ Blk W bM 85 (msgC m) ∧ HasRow W bR 56 10) w3 := ⟨by rw [hw]; exact Since.setRow hHeld.1 (by have := HNE3.out; omega) _, by rw [hw]; exact Blk.row_far (hHeld.2.1) (by have := HNE3.out; omega) _, by rw [hw]; exact Blk.row_far (hHeld.2.2.1) (by have := HNE3.out; omega) _, by rw [hw]; exact Blk.row_far (hHeld.2.2.2.1) (by have := HNE3.out; omega) _, by rw [hw]; exact Blk.row_far (hHeld.2.2.2.2.1) (by have := HNE3.out; omega) _, HasRow.of HRR.out rfl⟩
    refine hK.out _ _ hHeld3 (fun hHeld2 => ?_)
    clear hK K hHeld hHeld3 hw
    have hHeld := hHeld2
    clear hHeld2
    (try simp only [Act.put, sA, sB, sC])
    refine wpAnyH_take (i := 6) (oi := ?o15_b4_6) (v := .slice (some ⟨bn107, 0, none⟩) 1 1) ?h15_b4_6 (by kernel_rfl) (by kernel_rfl) (by kernel_rfl) ?q15_b4_6 ?y15_b4_6 (by assumption) ?_
    case h15_b4_6 => (first | (simp only [gA, gB, gC]; done) | (simp only [gA, gB, gC]; exact rfl))
    case q15_b4_6 => exact fun _ _ _ h => h
    case y15_b4_6 => (refine Or.inl ⟨rfl, ?_⟩; intro w hSw; (first | rfl | (go_simp; (try with_reducible rfl))))
    (try simp only [Act.put, sA, sB, sC])
    refine wpAnyH_take (i := 7) (oi := ?o15_b4_7) (v := .bool false) ?h15_b4_7 (by kernel_rfl) (by kernel_rfl) (by kernel_rfl) ?q15_b4_7 ?y15_b4_7 (by assumption) ?_
    case h15_b4_7 => (first | (simp only [gA, gB, gC]; done) | (simp only [gA, gB, gC]; exact rfl))
    case q15_b4_7 => exact fun _ _ _ h => h
    case y15_b4_7 => (refine Or.inl ⟨rfl, ?_⟩; intro w hSw; (first | rfl | (go_simp; (try with_reducible rfl))))
    (try simp only [Act.put, sA, sB, sC])
    refine wpAnyH_done (by kernel_rfl) ?_ _
    have HSd15 := Lib.hid hHeld.1
    have HBCd15 := Lib.hid (hHeld.2.1)
    have HBLd15 := Lib.hid (hHeld.2.2.1)
    have HBXd15 := Lib.hid (hHeld.2.2.2.1)
    have HBMd15 := Lib.hid (hHeld.2.2.2.2.1)
    have HBRd15 := Lib.hid HRR.out
    clear HRR
    clear hHeld HRK HRD HSd11 HBCd11 HBLd11 HBXd11 HBMd11 HBRd11
    (try go_wp2_with fail)
    exact bodyPost_ret (results_row3 rfl _ _ bR 56 #[.int .i64 l.se, .int .i64 l.fl, .int .i64 l.fm, .int .i64 l.to, .int .i64 l.ma, .int .i64 l.ca, .int .i64 l.ph, .int .i64 l.un, .int .i64 l.re, .int .i64 l.gr] _ (.slice (some ⟨bn107, 0, none⟩) 1 1) (.bool false) rfl rfl rfl HBRd15.out Try.underlying56 rfl (by kernel_rfl)) rfl ⟨.slice (some ⟨bn107, 0, none⟩) 1 1, rfl, ⟨bn107, rfl, HGn107.out, HXn1072.out⟩, HSd15.out⟩
  case g15__5b =>
    rw [if_pos (by rfl)]
    refine wp_st_row 56 _ _ rfl #[.int .i64 l.se, .int .i64 l.fl, .int .i64 l.fm, .int .i64 l.to, .int .i64 l.ma, .int .i64 l.ca, .int .i64 l.ph, .int .i64 l.un, .int .i64 l.re, .int .i64 l.gr] rfl rfl (hHeld.2.2.2.2.2) rfl (by simp [cfgA, leaA, carA, msgC, Value.oneCell']) (by kernel_rfl) ?_
    intro w2 hw
    have HRR := Lib.hid (show Blk w2 bR 56 (leaA l) by obtain ⟨old, Bo, _⟩ := hHeld.2.2.2.2.2; rw [hw]; exact Blk.row Bo _)
    have hHeld3 : (fun W : World => Since w W ∧ Blk W w.heap.size 23 (cfgA c) ∧ Blk W bL 56 (leaA l) ∧ Blk W bX 76 (carA x) ∧ Blk W bM 85 (msgC m) ∧ HasRow W bR 56 10) w2 := ⟨by rw [hw]; exact Since.setRow hHeld.1 (by have := HNE3.out; omega) _, by rw [hw]; exact Blk.row_far (hHeld.2.1) (by have := HNE3.out; omega) _, by rw [hw]; exact Blk.row_far (hHeld.2.2.1) (by have := HNE3.out; omega) _, by rw [hw]; exact Blk.row_far (hHeld.2.2.2.1) (by have := HNE3.out; omega) _, by rw [hw]; exact Blk.row_far (hHeld.2.2.2.2.1) (by have := HNE3.out; omega) _, HasRow.of HRR.out rfl⟩
    refine hK.out _ _ hHeld3 (fun hHeld2 => ?_)
    clear hK K hHeld hHeld3 hw
    have hHeld := hHeld2
    clear hHeld2
    (try simp only [Act.put, sA, sB, sC])
    refine wpAnyH_ready (rs := [4]) (by kernel_rfl) (by simp) ?_
    refine AllReadyH.cons (o := ?o15_b5_4) ?h15_b5_4 (fun K hK => ?_) AllReadyH.nil
    case h15_b5_4 => (first | (simp only [gA, gB, gC]; done) | (simp only [gA, gB, gC]; exact rfl))
    rw [if_pos (by rfl)]
    refine wp_new (fun b => .slice (some ⟨b, 0, none⟩) 1 1) 85 #[.int .i64 7, .int .i64 l.ph, .int .i64 0, .int .i64 0] (by rintro b rfl; first | rfl | kernel_rfl) ?_
    intro bn107 w3 hge hB hb
    refine hK.out _ _ (by (apply HRK.out; exact hb; exact hHeld)) (fun hHeld2 => ?_)
    have HRRk := Lib.hid (keep_blk hb HRR.out)
    clear HRR
    have HNn107R := Lib.hid (show bn107 ≠ bR by obtain ⟨old, Bo, _⟩ := hHeld.2.2.2.2.2; have := Blk.lt Bo; omega)
    have HGn107 := Lib.hid (show w.heap.size ≤ bn107 by have := Since.size hHeld.1; (try simp at this); (try simp at hge); omega)
    have HXn107 := Lib.hid hB
    clear hB
    clear hge
    clear hK K hHeld hb
    have hHeld := hHeld2
    clear hHeld2
    (try simp only [Act.put, sA, sB, sC])
    refine wpAnyH_take (i := 6) (oi := ?o15_b5_6) (v := .slice (some ⟨bn107, 0, none⟩) 1 1) ?h15_b5_6 (by kernel_rfl) (by kernel_rfl) (by kernel_rfl) ?q15_b5_6 ?y15_b5_6 (by assumption) ?_
    case h15_b5_6 => (first | (simp only [gA, gB, gC]; done) | (simp only [gA, gB, gC]; exact rfl))
    case q15_b5_6 => exact fun _ _ _ h => h
    case y15_b5_6 => (refine Or.inl ⟨rfl, ?_⟩; intro w hSw; (first | rfl | (go_simp; (try with_reducible rfl))))
    (try simp only [Act.put, sA, sB, sC])
    refine wpAnyH_take (i := 7) (oi := ?o15_b5_7) (v := .bool false) ?h15_b5_7 (by kernel_rfl) (by kernel_rfl) (by kernel_rfl) ?q15_b5_7 ?y15_b5_7 (by assumption) ?_
    case h15_b5_7 => (first | (simp only [gA, gB, gC]; done) | (simp only [gA, gB, gC]; exact rfl))
    case q15_b5_7 => exact fun _ _ _ h => h
    case y15_b5_7 => (refine Or.inl ⟨rfl, ?_⟩; intro w hSw; (first | rfl | (go_simp; (try with_reducible rfl))))
    (try simp only [Act.put, sA, sB, sC])
    refine wpAnyH_done (by kernel_rfl) ?_ _
    have HSd15 := Lib.hid hHeld.1
    have HBCd15 := Lib.hid (hHeld.2.1)
    have HBLd15 := Lib.hid (hHeld.2.2.1)
    have HBXd15 := Lib.hid (hHeld.2.2.2.1)
    have HBMd15 := Lib.hid (hHeld.2.2.2.2.1)
    have HBRd15 := Lib.hid HRRk.out
    clear HRRk
    clear hHeld HRK HRD HSd11 HBCd11 HBLd11 HBXd11 HBMd11 HBRd11
    (try go_wp2_with fail)
    exact bodyPost_ret (results_row3 rfl _ _ bR 56 #[.int .i64 l.se, .int .i64 l.fl, .int .i64 l.fm, .int .i64 l.to, .int .i64 l.ma, .int .i64 l.ca, .int .i64 l.ph, .int .i64 l.un, .int .i64 l.re, .int .i64 l.gr] _ (.slice (some ⟨bn107, 0, none⟩) 1 1) (.bool false) rfl rfl rfl HBRd15.out Try.underlying56 rfl (by kernel_rfl)) rfl ⟨.slice (some ⟨bn107, 0, none⟩) 1 1, rfl, ⟨bn107, rfl, HGn107.out, HXn107.out⟩, HSd15.out⟩
end Go.Proofs.Ytggafipgfgbbiaa.Ri
