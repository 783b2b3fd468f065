/-
  queue's calls, walked: Put, Drop, First, List; slices.Contains of integers.
  Conditions: what stands ahead of each.
-/
import Derived.Test.YtggafipgfgbbiaaProg
import Derived.Test.YtggafipgfgbbiaaQueA
import Derived.Test.YtggafipgfgbbiaaQueB
namespace Go.Proofs.Ytggafipgfgbbiaa.Qu
set_option linter.unusedVariables false
set_option linter.unusedSimpArgs false
open Go.RowKit Go.Proofs.Ytggafipgfgbbiaa.Ba Go.Proofs.Ytggafipgfgbbiaa.Mem Go.Proofs.Ytggafipgfgbbiaa.Ty
set_option maxRecDepth 100000
attribute [local irreducible] Go.wpList
set_option maxHeartbeats 4000000 in
theorem putNil (a : AskV) (w : World) : Calls Try.prog 26 #[.pointer none, .agg #[.int .i64 a.se, .int .i64 a.fl, .int .i64 a.fm, .int .i64 a.to, .int .i64 a.ma]] w fun e w' => e = .returned (.int .i64 1) ∧ Since w w' := by
  go_enter Try.func26, Try.ntmps26
  go_upto_region 1 with fail
  obtain ⟨w1, hw1⟩ : ∃ w1, w1 = (w.alloc (.cells #[.int .i64 a.se, .int .i64 a.fl, .int .i64 a.fm, .int .i64 a.to, .int .i64 a.ma] 30)) := ⟨_, rfl⟩
  rw [← hw1]
  have HBA1 := Lib.hid (show Blk w1 (w.heap.size) 30 #[.int .i64 a.se, .int .i64 a.fl, .int .i64 a.fm, .int .i64 a.to, .int .i64 a.ma] by rw [hw1]; exact Blk.at_ (by (try simp only [size_alloc])) _ _)
  have HS1 := Lib.hid (show Since w w1 by rw [hw1]; exact Since.alloc (Since.refl w) _)
  have hNE : w.heap.size ≤ w.heap.size := by omega
  have HNE := Lib.hid hNE
  clear hNE hw1
  have HNE3 := Lib.hid (show w.heap.size ≤ w.heap.size from HNE.out)
  clear HNE
  refine wp_region_lit ?_
  refine wpList_q (by rfl) (.pointer none) ?he ?_
  case he => (first | rfl | (go_simp; (try with_reducible rfl)))
  (try simp only [Act.put, sA, sB, sC])
  refine wpList_q (by rfl) (.bool true) ?he ?_
  case he => (first | rfl | (go_simp; (try with_reducible rfl)))
  (try simp only [Act.put, sA, sB, sC])
  refine wpList_nil ?_
  go_upto_region 2 with fail
  refine wp_region_lit ?_
  refine wpList_q (by rfl) (.int .i64 1) ?he ?_
  case he => (first | rfl | (go_simp; (try with_reducible rfl)))
  (try simp only [Act.put, sA, sB, sC])
  refine wpList_nil ?_
  (try go_wp2_with fail)
  go_ret
  exact ⟨rfl, HS1.out⟩
set_option maxHeartbeats 4000000 in
theorem putHit (lo q : Nat) (room : Int) (ls : List AskV) (A : Option Addr) (c : Nat) (a : AskV) (k0 : Nat) (w : World) (hB : Blk w q 96 #[.int .i64 room, .slice A ls.length c]) (hO : w.ownsRow lo 30 5 (.slice A ls.length c) ls.length (rowsOf askC ls)) (hl : ls.length ≤ 10000) (hf : atS ls a.se = some k0) : Calls Try.prog 26 #[.pointer (some ⟨q, 0, none⟩), .agg #[.int .i64 a.se, .int .i64 a.fl, .int .i64 a.fm, .int .i64 a.to, .int .i64 a.ma]] w fun e w' => e = .returned (.int .i64 7) ∧ Since w w' := by
  have HBQ := Lib.hid hB
  have HOW := Lib.hid hO
  clear hB hO
  have HL := Lib.hid hl
  clear hl
  have HF := Lib.hid hf
  clear hf
  go_enter Try.func26, Try.ntmps26
  go_upto_region 1 with fail
  obtain ⟨w1, hw1⟩ : ∃ w1, w1 = (w.alloc (.cells #[.int .i64 a.se, .int .i64 a.fl, .int .i64 a.fm, .int .i64 a.to, .int .i64 a.ma] 30)) := ⟨_, rfl⟩
  rw [← hw1]
  have HBA1 := Lib.hid (show Blk w1 (w.heap.size) 30 #[.int .i64 a.se, .int .i64 a.fl, .int .i64 a.fm, .int .i64 a.to, .int .i64 a.ma] by rw [hw1]; exact Blk.at_ (by (try simp only [size_alloc])) _ _)
  have HS1 := Lib.hid (show Since w w1 by rw [hw1]; exact Since.alloc (Since.refl w) _)
  have hNE : w.heap.size ≤ w.heap.size := by omega
  have HNE := Lib.hid hNE
  clear hNE hw1
  have HNE3 := Lib.hid (show w.heap.size ≤ w.heap.size from HNE.out)
  clear HNE
  have HBQ1 := Lib.hid (keep_blk HS1.out HBQ.out)
  have HOW1 := Lib.hid (keep_own HS1.out HOW.out)
  have HIQ := Lib.hid (own_ne_ty HOW.out HBQ.out (by decide))
  have HIA := Lib.hid (own_far HOW.out (Nat.le_refl _))
  have HNQA := Lib.hid (show q ≠ w.heap.size by have := Blk.lt HBQ.out; omega)
  have HLO := Lib.hid (show q < w.heap.size from Blk.lt HBQ.out)
  clear HBQ HOW
  refine wp_region_lit ?_
  refine wpList_q (by rfl) (.pointer (some ⟨q, 0, none⟩)) ?he ?_
  case he => (first | rfl | (go_simp; (try with_reducible rfl)))
  (try simp only [Act.put, sA, sB, sC])
  refine wpList_q (by rfl) (.bool false) ?he ?_
  case he => (first | rfl | (go_simp; (try with_reducible rfl)))
  (try simp only [Act.put, sA, sB, sC])
  refine wpList_nil ?_
  go_upto_region 3 with fail
  refine wp_region_lit ?_
  refine wpList_q (by rfl) (.pointer (some ⟨q, 0, none⟩)) ?he ?_
  case he => (first | rfl | (go_simp; (try with_reducible rfl)))
  (try simp only [Act.put, sA, sB, sC])
  refine wpList_q (by rfl) (.pointer (some ⟨w.heap.size, 0, none⟩)) ?he ?_
  case he => (first | rfl | (go_simp; (try with_reducible rfl)))
  (try simp only [Act.put, sA, sB, sC])
  refine wpList_q (by rfl) (.int .i64 a.se) ?he ?_
  case he => exact exec_cell 3 _ _ HBA1.out rfl rfl rfl Try.underlying3 rfl
  (try simp only [Act.put, sA, sB, sC])
  refine wpList_wp (by rfl) (fun K hK => ?_)
  (try go_simp)
  refine (aheadHit lo q room ls A c a.se k0 _ HBQ1.out HOW1.out (by have := HL.out; omega) HF.out).mono ?_
  rintro e w2 ⟨rfl, hb⟩
  (try go_wp2_with fail)
  refine hK.out _ _ ?_
  clear hK K
  (try simp only [Act.put, sA, sB, sC])
  have HS2 := Lib.hid (Since.trans HS1.out hb)
  have HBA2 := Lib.hid (keep_blk hb HBA1.out)
  have HBQ2 := Lib.hid (keep_blk hb HBQ1.out)
  have HFr2 := Lib.hid (keep_own hb HOW1.out)
  clear HS1 HBA1 HBQ1 HOW1
  clear hb
  refine wpList_q (by rfl) (.tuple #[.int .i64 (k0 : Int), .bool true]) ?he ?_
  case he => (first | rfl | (go_simp; (try with_reducible rfl)))
  (try simp only [Act.put, sA, sB, sC])
  refine wpList_q (by rfl) (.int .i64 (k0 : Int)) ?he ?_
  case he => (first | rfl | (go_simp; (try with_reducible rfl)))
  (try simp only [Act.put, sA, sB, sC])
  refine wpList_q (by rfl) (.bool true) ?he ?_
  case he => (first | rfl | (go_simp; (try with_reducible rfl)))
  (try simp only [Act.put, sA, sB, sC])
  refine wpList_q (by rfl) (.int .i64 (k0 : Int)) ?he ?_
  case he => (first | rfl | (go_simp; (try with_reducible rfl)))
  (try simp only [Act.put, sA, sB, sC])
  refine wpList_q (by rfl) (.bool true) ?he ?_
  case he => (first | rfl | (go_simp; (try with_reducible rfl)))
  (try simp only [Act.put, sA, sB, sC])
  refine wpList_nil ?_
  go_upto_region 4 with fail
  refine wp_region_lit ?_
  refine wpList_q (by rfl) (.bool true) ?he ?_
  case he => (first | rfl | (go_simp; (try with_reducible rfl)))
  (try simp only [Act.put, sA, sB, sC])
  refine wpList_nil ?_
  go_upto_region 5 with fail
  refine wp_region_lit ?_
  refine wpList_q (by rfl) (.int .i64 7) ?he ?_
  case he => (first | rfl | (go_simp; (try with_reducible rfl)))
  (try simp only [Act.put, sA, sB, sC])
  refine wpList_nil ?_
  (try go_wp2_with fail)
  go_ret
  exact ⟨rfl, HS2.out⟩
set_option maxHeartbeats 4000000 in
theorem putFull (lo q : Nat) (room : Int) (ls : List AskV) (A : Option Addr) (c : Nat) (a : AskV) (w : World) (hB : Blk w q 96 #[.int .i64 room, .slice A ls.length c]) (hO : w.ownsRow lo 30 5 (.slice A ls.length c) ls.length (rowsOf askC ls)) (hl : ls.length ≤ 10000) (hf : atS ls a.se = none) (hr : room ≤ (ls.length : Int)) : Calls Try.prog 26 #[.pointer (some ⟨q, 0, none⟩), .agg #[.int .i64 a.se, .int .i64 a.fl, .int .i64 a.fm, .int .i64 a.to, .int .i64 a.ma]] w fun e w' => e = .returned (.int .i64 5) ∧ Since w w' := by
  have HBQ := Lib.hid hB
  have HOW := Lib.hid hO
  clear hB hO
  have HL := Lib.hid hl
  clear hl
  have HF := Lib.hid hf
  clear hf
  have HR := Lib.hid hr
  clear hr
  go_enter Try.func26, Try.ntmps26
  go_upto_region 1 with fail
  obtain ⟨w1, hw1⟩ : ∃ w1, w1 = (w.alloc (.cells #[.int .i64 a.se, .int .i64 a.fl, .int .i64 a.fm, .int .i64 a.to, .int .i64 a.ma] 30)) := ⟨_, rfl⟩
  rw [← hw1]
  have HBA1 := Lib.hid (show Blk w1 (w.heap.size) 30 #[.int .i64 a.se, .int .i64 a.fl, .int .i64 a.fm, .int .i64 a.to, .int .i64 a.ma] by rw [hw1]; exact Blk.at_ (by (try simp only [size_alloc])) _ _)
  have HS1 := Lib.hid (show Since w w1 by rw [hw1]; exact Since.alloc (Since.refl w) _)
  have hNE : w.heap.size ≤ w.heap.size := by omega
  have HNE := Lib.hid hNE
  clear hNE hw1
  have HNE3 := Lib.hid (show w.heap.size ≤ w.heap.size from HNE.out)
  clear HNE
  have HBQ1 := Lib.hid (keep_blk HS1.out HBQ.out)
  have HOW1 := Lib.hid (keep_own HS1.out HOW.out)
  have HIQ := Lib.hid (own_ne_ty HOW.out HBQ.out (by decide))
  have HIA := Lib.hid (own_far HOW.out (Nat.le_refl _))
  have HNQA := Lib.hid (show q ≠ w.heap.size by have := Blk.lt HBQ.out; omega)
  have HLO := Lib.hid (show q < w.heap.size from Blk.lt HBQ.out)
  clear HBQ HOW
  refine wp_region_lit ?_
  refine wpList_q (by rfl) (.pointer (some ⟨q, 0, none⟩)) ?he ?_
  case he => (first | rfl | (go_simp; (try with_reducible rfl)))
  (try simp only [Act.put, sA, sB, sC])
  refine wpList_q (by rfl) (.bool false) ?he ?_
  case he => (first | rfl | (go_simp; (try with_reducible rfl)))
  (try simp only [Act.put, sA, sB, sC])
  refine wpList_nil ?_
  go_upto_region 3 with fail
  refine wp_region_lit ?_
  refine wpList_q (by rfl) (.pointer (some ⟨q, 0, none⟩)) ?he ?_
  case he => (first | rfl | (go_simp; (try with_reducible rfl)))
  (try simp only [Act.put, sA, sB, sC])
  refine wpList_q (by rfl) (.pointer (some ⟨w.heap.size, 0, none⟩)) ?he ?_
  case he => (first | rfl | (go_simp; (try with_reducible rfl)))
  (try simp only [Act.put, sA, sB, sC])
  refine wpList_q (by rfl) (.int .i64 a.se) ?he ?_
  case he => exact exec_cell 3 _ _ HBA1.out rfl rfl rfl Try.underlying3 rfl
  (try simp only [Act.put, sA, sB, sC])
  refine wpList_wp (by rfl) (fun K hK => ?_)
  (try go_simp)
  refine (aheadMiss lo q room ls A c a.se _ HBQ1.out HOW1.out (by have := HL.out; omega) HF.out).mono ?_
  rintro e w2 ⟨rfl, hb⟩
  (try go_wp2_with fail)
  refine hK.out _ _ ?_
  clear hK K
  (try simp only [Act.put, sA, sB, sC])
  have HS2 := Lib.hid (Since.trans HS1.out hb)
  have HBA2 := Lib.hid (keep_blk hb HBA1.out)
  have HBQ2 := Lib.hid (keep_blk hb HBQ1.out)
  have HFr2 := Lib.hid (keep_own hb HOW1.out)
  clear HS1 HBA1 HBQ1 HOW1
  clear hb
  refine wpList_q (by rfl) (.tuple #[.int .i64 0, .bool false]) ?he ?_
  case he => (first | rfl | (go_simp; (try with_reducible rfl)))
  (try simp only [Act.put, sA, sB, sC])
  refine wpList_q (by rfl) (.int .i64 0) ?he ?_
  case he => (first | rfl | (go_simp; (try with_reducible rfl)))
  (try simp only [Act.put, sA, sB, sC])
  refine wpList_q (by rfl) (.bool false) ?he ?_
  case he => (first | rfl | (go_simp; (try with_reducible rfl)))
  (try simp only [Act.put, sA, sB, sC])
  refine wpList_q (by rfl) (.int .i64 0) ?he ?_
  case he => (first | rfl | (go_simp; (try with_reducible rfl)))
  (try simp only [Act.put, sA, sB, sC])
  refine wpList_q (by rfl) (.bool false) ?he ?_
  case he => (first | rfl | (go_simp; (try with_reducible rfl)))
  (try simp only [Act.put, sA, sB, sC])
  refine wpList_nil ?_
  go_upto_region 4 with fail
  refine wp_region_lit ?_
  refine wpList_q (by rfl) (.bool false) ?he ?_
  case he => (first | rfl | (go_simp; (try with_reducible rfl)))
  (try simp only [Act.put, sA, sB, sC])
  refine wpList_nil ?_
  go_upto_region 6 with fail
  have hrK : ∀ W W' : World, Since W W' → (Since w W ∧ Blk W w.heap.size 30 #[.int .i64 a.se, .int .i64 a.fl, .int .i64 a.fm, .int .i64 a.to, .int .i64 a.ma] ∧ Blk W q 96 #[.int .i64 room, .slice A ls.length c] ∧ (W).ownsRow lo 30 5 (.slice A ls.length c) ls.length (rowsOf askC ls)) → (Since w W' ∧ Blk W' w.heap.size 30 #[.int .i64 a.se, .int .i64 a.fl, .int .i64 a.fm, .int .i64 a.to, .int .i64 a.ma] ∧ Blk W' q 96 #[.int .i64 room, .slice A ls.length c] ∧ (W').ownsRow lo 30 5 (.slice A ls.length c) ls.length (rowsOf askC ls)) := fun W W' k ⟨h, h0, h1, h2⟩ => ⟨h.trans k, keep_blk k h0, keep_blk k h1, keep_own k h2⟩
  have hrS : (fun W : World => Since w W ∧ Blk W w.heap.size 30 #[.int .i64 a.se, .int .i64 a.fl, .int .i64 a.fm, .int .i64 a.to, .int .i64 a.ma] ∧ Blk W q 96 #[.int .i64 room, .slice A ls.length c] ∧ (W).ownsRow lo 30 5 (.slice A ls.length c) ls.length (rowsOf askC ls)) w2 := ⟨HS2.out, HBA2.out, HBQ2.out, HFr2.out⟩
  have HRK := Lib.hid hrK
  have HRD := Lib.hid (show (fun W : World => Since w W ∧ Blk W w.heap.size 30 #[.int .i64 a.se, .int .i64 a.fl, .int .i64 a.fm, .int .i64 a.to, .int .i64 a.ma] ∧ Blk W q 96 #[.int .i64 room, .slice A ls.length c] ∧ (W).ownsRow lo 30 5 (.slice A ls.length c) ls.length (rowsOf askC ls)) (World.drew w2) from ⟨Since.drew hrS.1, hrS.2⟩)
  clear hrK hrS
  refine wp_region_held_drew (S := fun W : World => Since w W ∧ Blk W w.heap.size 30 #[.int .i64 a.se, .int .i64 a.fl, .int .i64 a.fm, .int .i64 a.to, .int .i64 a.ma] ∧ Blk W q 96 #[.int .i64 room, .slice A ls.length c] ∧ (W).ownsRow lo 30 5 (.slice A ls.length c) ls.length (rowsOf askC ls)) (by kernel_rfl) HRD.out (fun hHeld => ?_)
  refine wpAnyH_take (i := 0) (oi := ?o6__0) (v := .pointer (some ⟨q, 0, none⟩)) ?h6__0 (by kernel_rfl) (by kernel_rfl) (by kernel_rfl) ?q6__0 ?y6__0 (by assumption) ?_
  case h6__0 => (first | (simp only [gA, gB, gC]; done) | (simp only [gA, gB, gC]; exact rfl))
  case q6__0 => exact fun _ _ _ h => h
  case y6__0 => (refine Or.inl ⟨rfl, ?_⟩; intro w hSw; (first | rfl | (go_simp; (try with_reducible rfl))))
  (try simp only [Act.put, sA, sB, sC])
  refine wpAnyH_take (i := 1) (oi := ?o6__1) (v := .pointer (some ⟨q, 0, none⟩)) ?h6__1 (by kernel_rfl) (by kernel_rfl) (by kernel_rfl) ?q6__1 ?y6__1 (by assumption) ?_
  case h6__1 => (first | (simp only [gA, gB, gC]; done) | (simp only [gA, gB, gC]; exact rfl))
  case q6__1 => exact fun _ _ _ h => h
  case y6__1 => (refine Or.inl ⟨rfl, ?_⟩; intro w hSw; (first | rfl | (go_simp; (try with_reducible rfl))))
  (try simp only [Act.put, sA, sB, sC])
  refine wpAnyH_take (i := 2) (oi := ?o6__2) (v := .pointer (some ⟨q, 1, none⟩)) ?h6__2 (by kernel_rfl) (by kernel_rfl) (by kernel_rfl) ?q6__2 ?y6__2 (by assumption) ?_
  case h6__2 => (first | (simp only [gA, gB, gC]; done) | (simp only [gA, gB, gC]; exact rfl))
  case q6__2 => exact fun _ _ _ h => h
  case y6__2 => (refine Or.inl ⟨rfl, ?_⟩; intro w hSw; (first | rfl | (go_simp; (try with_reducible rfl))))
  (try simp only [Act.put, sA, sB, sC])
  refine wpAnyH_take (i := 3) (oi := ?o6__3) (v := .slice A ls.length c) ?h6__3 (by kernel_rfl) (by kernel_rfl) (by kernel_rfl) ?q6__3 ?y6__3 (by assumption) ?_
  case h6__3 => (first | (simp only [gA, gB, gC]; done) | (simp only [gA, gB, gC]; exact rfl))
  case q6__3 => exact fun _ _ _ h => h
  case y6__3 => (refine Or.inl ⟨rfl, ?_⟩; intro w hSw; exact exec_cell 35 _ _ hSw.2.2.1 rfl rfl rfl Try.underlying35 rfl)
  (try simp only [Act.put, sA, sB, sC])
  refine wpAnyH_take (i := 4) (oi := ?o6__4) (v := .int .i64 (ls.length : Int)) ?h6__4 (by kernel_rfl) (by kernel_rfl) (by kernel_rfl) ?q6__4 ?y6__4 (by assumption) ?_
  case h6__4 => (first | (simp only [gA, gB, gC]; done) | (simp only [gA, gB, gC]; exact rfl))
  case q6__4 => exact fun _ _ _ h => h
  case y6__4 => (refine Or.inl ⟨rfl, ?_⟩; intro w hSw; (first | rfl | (go_simp; (try with_reducible rfl))))
  (try simp only [Act.put, sA, sB, sC])
  refine wpAnyH_take (i := 5) (oi := ?o6__5) (v := .pointer (some ⟨q, 0, none⟩)) ?h6__5 (by kernel_rfl) (by kernel_rfl) (by kernel_rfl) ?q6__5 ?y6__5 (by assumption) ?_
  case h6__5 => (first | (simp only [gA, gB, gC]; done) | (simp only [gA, gB, gC]; exact rfl))
  case q6__5 => exact fun _ _ _ h => h
  case y6__5 => (refine Or.inl ⟨rfl, ?_⟩; intro w hSw; (first | rfl | (go_simp; (try with_reducible rfl))))
  (try simp only [Act.put, sA, sB, sC])
  refine wpAnyH_take (i := 6) (oi := ?o6__6) (v := .pointer (some ⟨q, 0, none⟩)) ?h6__6 (by kernel_rfl) (by kernel_rfl) (by kernel_rfl) ?q6__6 ?y6__6 (by assumption) ?_
  case h6__6 => (first | (simp only [gA, gB, gC]; done) | (simp only [gA, gB, gC]; exact rfl))
  case q6__6 => exact fun _ _ _ h => h
  case y6__6 => (refine Or.inl ⟨rfl, ?_⟩; intro w hSw; (first | rfl | (go_simp; (try with_reducible rfl))))
  (try simp only [Act.put, sA, sB, sC])
  refine wpAnyH_take (i := 7) (oi := ?o6__7) (v := .pointer (some ⟨q, 0, none⟩)) ?h6__7 (by kernel_rfl) (by kernel_rfl) (by kernel_rfl) ?q6__7 ?y6__7 (by assumption) ?_
  case h6__7 => (first | (simp only [gA, gB, gC]; done) | (simp only [gA, gB, gC]; exact rfl))
  case q6__7 => exact fun _ _ _ h => h
  case y6__7 => (refine Or.inl ⟨rfl, ?_⟩; intro w hSw; (first | rfl | (go_simp; (try with_reducible rfl))))
  (try simp only [Act.put, sA, sB, sC])
  refine wpAnyH_take (i := 8) (oi := ?o6__8) (v := .int .i64 room) ?h6__8 (by kernel_rfl) (by kernel_rfl) (by kernel_rfl) ?q6__8 ?y6__8 (by assumption) ?_
  case h6__8 => (first | (simp only [gA, gB, gC]; done) | (simp only [gA, gB, gC]; exact rfl))
  case q6__8 => exact fun _ _ _ h => h
  case y6__8 => (refine Or.inl ⟨rfl, ?_⟩; intro w hSw; exact exec_cell 3 _ _ hSw.2.2.1 rfl rfl rfl Try.underlying3 rfl)
  (try simp only [Act.put, sA, sB, sC])
  refine wpAnyH_take (i := 9) (oi := ?o6__9) (v := .bool true) ?h6__9 (by kernel_rfl) (by kernel_rfl) (by kernel_rfl) ?q6__9 ?y6__9 (by assumption) ?_
  case h6__9 => (first | (simp only [gA, gB, gC]; done) | (simp only [gA, gB, gC]; exact rfl))
  case q6__9 => exact fun _ _ _ h => h
  case y6__9 => (refine Or.inl ⟨rfl, ?_⟩; intro w hSw; (have q0 := HR.out; go_simp; (first | done | rfl | omega)))
  (try simp only [Act.put, sA, sB, sC])
  refine wpAnyH_done (by kernel_rfl) ?_ _
  have HSd6 := Lib.hid hHeld.1
  have HBAd6 := Lib.hid (hHeld.2.1)
  have HBQd6 := Lib.hid (hHeld.2.2.1)
  have HFrd6 := Lib.hid (hHeld.2.2.2)
  clear hHeld HRK HRD HS2 HBA2 HBQ2 HFr2
  go_upto_region 7 with fail
  refine wp_region_lit ?_
  refine wpList_q (by rfl) (.int .i64 5) ?he ?_
  case he => (first | rfl | (go_simp; (try with_reducible rfl)))
  (try simp only [Act.put, sA, sB, sC])
  refine wpList_nil ?_
  (try go_wp2_with fail)
  go_ret
  exact ⟨rfl, HSd6.out⟩
set_option maxHeartbeats 4000000 in
theorem putOk (lo q : Nat) (room : Int) (ls : List AskV) (A : Option Addr) (c : Nat) (a : AskV) (w : World) (hB : Blk w q 96 #[.int .i64 room, .slice A ls.length c]) (hO : w.ownsRow lo 30 5 (.slice A ls.length c) ls.length (rowsOf askC ls)) (hl : ls.length ≤ 10000) (hf : atS ls a.se = none) (hr : ¬ room ≤ (ls.length : Int)) (h0 : lo ≤ q) : Calls Try.prog 26 #[.pointer (some ⟨q, 0, none⟩), .agg #[.int .i64 a.se, .int .i64 a.fl, .int .i64 a.fm, .int .i64 a.to, .int .i64 a.ma]] w fun e w' => e = .returned (.int .i64 0) ∧ ∃ S', QO lo q room (ls ++ [a]) S' w' ∧ Upd (q :: blkOf A) w w' ∧ ∀ g ∈ S', g ∈ q :: blkOf A ∨ w.heap.size ≤ g := by
  have HBQ := Lib.hid hB
  have HOW := Lib.hid hO
  clear hB hO
  have HL := Lib.hid hl
  clear hl
  have HF := Lib.hid hf
  clear hf
  have HR := Lib.hid hr
  clear hr
  have H0 := Lib.hid h0
  clear h0
  go_enter Try.func26, Try.ntmps26
  go_upto_region 1 with fail
  obtain ⟨w1, hw1⟩ : ∃ w1, w1 = (w.alloc (.cells #[.int .i64 a.se, .int .i64 a.fl, .int .i64 a.fm, .int .i64 a.to, .int .i64 a.ma] 30)) := ⟨_, rfl⟩
  rw [← hw1]
  have HBA1 := Lib.hid (show Blk w1 (w.heap.size) 30 #[.int .i64 a.se, .int .i64 a.fl, .int .i64 a.fm, .int .i64 a.to, .int .i64 a.ma] by rw [hw1]; exact Blk.at_ (by (try simp only [size_alloc])) _ _)
  have HS1 := Lib.hid (show Since w w1 by rw [hw1]; exact Since.alloc (Since.refl w) _)
  have hNE : w.heap.size ≤ w.heap.size := by omega
  have HNE := Lib.hid hNE
  clear hNE hw1
  have HNE3 := Lib.hid (show w.heap.size ≤ w.heap.size from HNE.out)
  clear HNE
  have HBQ1 := Lib.hid (keep_blk HS1.out HBQ.out)
  have HOW1 := Lib.hid (keep_own HS1.out HOW.out)
  have HIQ := Lib.hid (own_ne_ty HOW.out HBQ.out (by decide))
  have HIA := Lib.hid (own_far HOW.out (Nat.le_refl _))
  have HNQA := Lib.hid (show q ≠ w.heap.size by have := Blk.lt HBQ.out; omega)
  have HLO := Lib.hid (show q < w.heap.size from Blk.lt HBQ.out)
  clear HBQ HOW
  refine wp_region_lit ?_
  refine wpList_q (by rfl) (.pointer (some ⟨q, 0, none⟩)) ?he ?_
  case he => (first | rfl | (go_simp; (try with_reducible rfl)))
  (try simp only [Act.put, sA, sB, sC])
  refine wpList_q (by rfl) (.bool false) ?he ?_
  case he => (first | rfl | (go_simp; (try with_reducible rfl)))
  (try simp only [Act.put, sA, sB, sC])
  refine wpList_nil ?_
  go_upto_region 3 with fail
  refine wp_region_lit ?_
  refine wpList_q (by rfl) (.pointer (some ⟨q, 0, none⟩)) ?he ?_
  case he => (first | rfl | (go_simp; (try with_reducible rfl)))
  (try simp only [Act.put, sA, sB, sC])
  refine wpList_q (by rfl) (.pointer (some ⟨w.heap.size, 0, none⟩)) ?he ?_
  case he => (first | rfl | (go_simp; (try with_reducible rfl)))
  (try simp only [Act.put, sA, sB, sC])
  refine wpList_q (by rfl) (.int .i64 a.se) ?he ?_
  case he => exact exec_cell 3 _ _ HBA1.out rfl rfl rfl Try.underlying3 rfl
  (try simp only [Act.put, sA, sB, sC])
  refine wpList_wp (by rfl) (fun K hK => ?_)
  (try go_simp)
  refine (aheadMiss lo q room ls A c a.se _ HBQ1.out HOW1.out (by have := HL.out; omega) HF.out).mono ?_
  rintro e w2 ⟨rfl, hb⟩
  (try go_wp2_with fail)
  refine hK.out _ _ ?_
  clear hK K
  (try simp only [Act.put, sA, sB, sC])
  have HS2 := Lib.hid (Since.trans HS1.out hb)
  have HBA2 := Lib.hid (keep_blk hb HBA1.out)
  have HBQ2 := Lib.hid (keep_blk hb HBQ1.out)
  have HFr2 := Lib.hid (keep_own hb HOW1.out)
  clear HS1 HBA1 HBQ1 HOW1
  clear hb
  refine wpList_q (by rfl) (.tuple #[.int .i64 0, .bool false]) ?he ?_
  case he => (first | rfl | (go_simp; (try with_reducible rfl)))
  (try simp only [Act.put, sA, sB, sC])
  refine wpList_q (by rfl) (.int .i64 0) ?he ?_
  case he => (first | rfl | (go_simp; (try with_reducible rfl)))
  (try simp only [Act.put, sA, sB, sC])
  refine wpList_q (by rfl) (.bool false) ?he ?_
  case he => (first | rfl | (go_simp; (try with_reducible rfl)))
  (try simp only [Act.put, sA, sB, sC])
  refine wpList_q (by rfl) (.int .i64 0) ?he ?_
  case he => (first | rfl | (go_simp; (try with_reducible rfl)))
  (try simp only [Act.put, sA, sB, sC])
  refine wpList_q (by rfl) (.bool false) ?he ?_
  case he => (first | rfl | (go_simp; (try with_reducible rfl)))
  (try simp only [Act.put, sA, sB, sC])
  refine wpList_nil ?_
  go_upto_region 4 with fail
  refine wp_region_lit ?_
  refine wpList_q (by rfl) (.bool false) ?he ?_
  case he => (first | rfl | (go_simp; (try with_reducible rfl)))
  (try simp only [Act.put, sA, sB, sC])
  refine wpList_nil ?_
  go_upto_region 6 with fail
  have hrK : ∀ W W' : World, Since W W' → (Since w W ∧ Blk W w.heap.size 30 #[.int .i64 a.se, .int .i64 a.fl, .int .i64 a.fm, .int .i64 a.to, .int .i64 a.ma] ∧ Blk W q 96 #[.int .i64 room, .slice A ls.length c] ∧ (W).ownsRow lo 30 5 (.slice A ls.length c) ls.length (rowsOf askC ls)) → (Since w W' ∧ Blk W' w.heap.size 30 #[.int .i64 a.se, .int .i64 a.fl, .int .i64 a.fm, .int .i64 a.to, .int .i64 a.ma] ∧ Blk W' q 96 #[.int .i64 room, .slice A ls.length c] ∧ (W').ownsRow lo 30 5 (.slice A ls.length c) ls.length (rowsOf askC ls)) := fun W W' k ⟨h, h0, h1, h2⟩ => ⟨h.trans k, keep_blk k h0, keep_blk k h1, keep_own k h2⟩
  have hrS : (fun W : World => Since w W ∧ Blk W w.heap.size 30 #[.int .i64 a.se, .int .i64 a.fl, .int .i64 a.fm, .int .i64 a.to, .int .i64 a.ma] ∧ Blk W q 96 #[.int .i64 room, .slice A ls.length c] ∧ (W).ownsRow lo 30 5 (.slice A ls.length c) ls.length (rowsOf askC ls)) w2 := ⟨HS2.out, HBA2.out, HBQ2.out, HFr2.out⟩
  have HRK := Lib.hid hrK
  have HRD := Lib.hid (show (fun W : World => Since w W ∧ Blk W w.heap.size 30 #[.int .i64 a.se, .int .i64 a.fl, .int .i64 a.fm, .int .i64 a.to, .int .i64 a.ma] ∧ Blk W q 96 #[.int .i64 room, .slice A ls.length c] ∧ (W).ownsRow lo 30 5 (.slice A ls.length c) ls.length (rowsOf askC ls)) (World.drew w2) from ⟨Since.drew hrS.1, hrS.2⟩)
  clear hrK hrS
  refine wp_region_held_drew (S := fun W : World => Since w W ∧ Blk W w.heap.size 30 #[.int .i64 a.se, .int .i64 a.fl, .int .i64 a.fm, .int .i64 a.to, .int .i64 a.ma] ∧ Blk W q 96 #[.int .i64 room, .slice A ls.length c] ∧ (W).ownsRow lo 30 5 (.slice A ls.length c) ls.length (rowsOf askC ls)) (by kernel_rfl) HRD.out (fun hHeld => ?_)
  refine wpAnyH_take (i := 0) (oi := ?o6__0) (v := .pointer (some ⟨q, 0, none⟩)) ?h6__0 (by kernel_rfl) (by kernel_rfl) (by kernel_rfl) ?q6__0 ?y6__0 (by assumption) ?_
  case h6__0 => (first | (simp only [gA, gB, gC]; done) | (simp only [gA, gB, gC]; exact rfl))
  case q6__0 => exact fun _ _ _ h => h
  case y6__0 => (refine Or.inl ⟨rfl, ?_⟩; intro w hSw; (first | rfl | (go_simp; (try with_reducible rfl))))
  (try simp only [Act.put, sA, sB, sC])
  refine wpAnyH_take (i := 1) (oi := ?o6__1) (v := .pointer (some ⟨q, 0, none⟩)) ?h6__1 (by kernel_rfl) (by kernel_rfl) (by kernel_rfl) ?q6__1 ?y6__1 (by assumption) ?_
  case h6__1 => (first | (simp only [gA, gB, gC]; done) | (simp only [gA, gB, gC]; exact rfl))
  case q6__1 => exact fun _ _ _ h => h
  case y6__1 => (refine Or.inl ⟨rfl, ?_⟩; intro w hSw; (first | rfl | (go_simp; (try with_reducible rfl))))
  (try simp only [Act.put, sA, sB, sC])
  refine wpAnyH_take (i := 2) (oi := ?o6__2) (v := .pointer (some ⟨q, 1, none⟩)) ?h6__2 (by kernel_rfl) (by kernel_rfl) (by kernel_rfl) ?q6__2 ?y6__2 (by assumption) ?_
  case h6__2 => (first | (simp only [gA, gB, gC]; done) | (simp only [gA, gB, gC]; exact rfl))
  case q6__2 => exact fun _ _ _ h => h
  case y6__2 => (refine Or.inl ⟨rfl, ?_⟩; intro w hSw; (first | rfl | (go_simp; (try with_reducible rfl))))
  (try simp only [Act.put, sA, sB, sC])
  refine wpAnyH_take (i := 3) (oi := ?o6__3) (v := .slice A ls.length c) ?h6__3 (by kernel_rfl) (by kernel_rfl) (by kernel_rfl) ?q6__3 ?y6__3 (by assumption) ?_
  case h6__3 => (first | (simp only [gA, gB, gC]; done) | (simp only [gA, gB, gC]; exact rfl))
  case q6__3 => exact fun _ _ _ h => h
  case y6__3 => (refine Or.inl ⟨rfl, ?_⟩; intro w hSw; exact exec_cell 35 _ _ hSw.2.2.1 rfl rfl rfl Try.underlying35 rfl)
  (try simp only [Act.put, sA, sB, sC])
  refine wpAnyH_take (i := 4) (oi := ?o6__4) (v := .int .i64 (ls.length : Int)) ?h6__4 (by kernel_rfl) (by kernel_rfl) (by kernel_rfl) ?q6__4 ?y6__4 (by assumption) ?_
  case h6__4 => (first | (simp only [gA, gB, gC]; done) | (simp only [gA, gB, gC]; exact rfl))
  case q6__4 => exact fun _ _ _ h => h
  case y6__4 => (refine Or.inl ⟨rfl, ?_⟩; intro w hSw; (first | rfl | (go_simp; (try with_reducible rfl))))
  (try simp only [Act.put, sA, sB, sC])
  refine wpAnyH_take (i := 5) (oi := ?o6__5) (v := .pointer (some ⟨q, 0, none⟩)) ?h6__5 (by kernel_rfl) (by kernel_rfl) (by kernel_rfl) ?q6__5 ?y6__5 (by assumption) ?_
  case h6__5 => (first | (simp only [gA, gB, gC]; done) | (simp only [gA, gB, gC]; exact rfl))
  case q6__5 => exact fun _ _ _ h => h
  case y6__5 => (refine Or.inl ⟨rfl, ?_⟩; intro w hSw; (first | rfl | (go_simp; (try with_reducible rfl))))
  (try simp only [Act.put, sA, sB, sC])
  refine wpAnyH_take (i := 6) (oi := ?o6__6) (v := .pointer (some ⟨q, 0, none⟩)) ?h6__6 (by kernel_rfl) (by kernel_rfl) (by kernel_rfl) ?q6__6 ?y6__6 (by assumption) ?_
  case h6__6 => (first | (simp only [gA, gB, gC]; done) | (simp only [gA, gB, gC]; exact rfl))
  case q6__6 => exact fun _ _ _ h => h
  case y6__6 => (refine Or.inl ⟨rfl, ?_⟩; intro w hSw; (first | rfl | (go_simp; (try with_reducible rfl))))
  (try simp only [Act.put, sA, sB, sC])
  refine wpAnyH_take (i := 7) (oi := ?o6__7) (v := .pointer (some ⟨q, 0, none⟩)) ?h6__7 (by kernel_rfl) (by kernel_rfl) (by kernel_rfl) ?q6__7 ?y6__7 (by assumption) ?_
  case h6__7 => (first | (simp only [gA, gB, gC]; done) | (simp only [gA, gB, gC]; exact rfl))
  case q6__7 => exact fun _ _ _ h => h
  case y6__7 => (refine Or.inl ⟨rfl, ?_⟩; intro w hSw; (first | rfl | (go_simp; (try with_reducible rfl))))
  (try simp only [Act.put, sA, sB, sC])
  refine wpAnyH_take (i := 8) (oi := ?o6__8) (v := .int .i64 room) ?h6__8 (by kernel_rfl) (by kernel_rfl) (by kernel_rfl) ?q6__8 ?y6__8 (by assumption) ?_
  case h6__8 => (first | (simp only [gA, gB, gC]; done) | (simp only [gA, gB, gC]; exact rfl))
  case q6__8 => exact fun _ _ _ h => h
  case y6__8 => (refine Or.inl ⟨rfl, ?_⟩; intro w hSw; exact exec_cell 3 _ _ hSw.2.2.1 rfl rfl rfl Try.underlying3 rfl)
  (try simp only [Act.put, sA, sB, sC])
  refine wpAnyH_take (i := 9) (oi := ?o6__9) (v := .bool false) ?h6__9 (by kernel_rfl) (by kernel_rfl) (by kernel_rfl) ?q6__9 ?y6__9 (by assumption) ?_
  case h6__9 => (first | (simp only [gA, gB, gC]; done) | (simp only [gA, gB, gC]; exact rfl))
  case q6__9 => exact fun _ _ _ h => h
  case y6__9 => (refine Or.inl ⟨rfl, ?_⟩; intro w hSw; (have q0 := HR.out; go_simp; (first | done | rfl | omega)))
  (try simp only [Act.put, sA, sB, sC])
  refine wpAnyH_done (by kernel_rfl) ?_ _
  have HSd6 := Lib.hid hHeld.1
  have HBAd6 := Lib.hid (hHeld.2.1)
  have HBQd6 := Lib.hid (hHeld.2.2.1)
  have HFrd6 := Lib.hid (hHeld.2.2.2)
  clear hHeld HRK HRD HS2 HBA2 HBQ2 HFr2
  have HSU := Lib.hid (show Upd (q :: blkOf A) w w2.drew from Upd.of_since HSd6.out)
  clear HSd6
  go_upto_region 8 with fail
  have hrK : ∀ W W' : World, Since W W' → (Upd (q :: blkOf A) w W ∧ Blk W w.heap.size 30 #[.int .i64 a.se, .int .i64 a.fl, .int .i64 a.fm, .int .i64 a.to, .int .i64 a.ma] ∧ HasRow W q 96 2) → (Upd (q :: blkOf A) w W' ∧ Blk W' w.heap.size 30 #[.int .i64 a.se, .int .i64 a.fl, .int .i64 a.fm, .int .i64 a.to, .int .i64 a.ma] ∧ HasRow W' q 96 2) := fun W W' k ⟨h, h0, h1⟩ => ⟨h.trans k, keep_blk k h0, HasRow.keep k h1⟩
  have hrS : (fun W : World => Upd (q :: blkOf A) w W ∧ Blk W w.heap.size 30 #[.int .i64 a.se, .int .i64 a.fl, .int .i64 a.fm, .int .i64 a.to, .int .i64 a.ma] ∧ HasRow W q 96 2) w2.drew := ⟨HSU.out, HBAd6.out, HasRow.of HBQd6.out rfl⟩
  have HRK := Lib.hid hrK
  have HRD := Lib.hid (show (fun W : World => Upd (q :: blkOf A) w W ∧ Blk W w.heap.size 30 #[.int .i64 a.se, .int .i64 a.fl, .int .i64 a.fm, .int .i64 a.to, .int .i64 a.ma] ∧ HasRow W q 96 2) (World.drew w2.drew) from ⟨Upd.drew hrS.1, hrS.2⟩)
  clear hrK hrS
  have HPQ := Lib.hid (show Blk (World.drew w2.drew) q 96 #[.int .i64 room, .slice A ls.length c] from HBQd6.out)
  have HEr := Lib.hid (show ((World.drew w2.drew)).ownsRow lo 30 5 (.slice A ls.length c) ls.length (rowsOf askC ls) from HFrd6.out)
  clear HFrd6
  refine wp_region_held_drew (S := fun W : World => Upd (q :: blkOf A) w W ∧ Blk W w.heap.size 30 #[.int .i64 a.se, .int .i64 a.fl, .int .i64 a.fm, .int .i64 a.to, .int .i64 a.ma] ∧ HasRow W q 96 2) (by kernel_rfl) HRD.out (fun hHeld => ?_)
  refine wpAnyH_take (i := 0) (oi := ?o8__0) (v := .pointer (some ⟨q, 0, none⟩)) ?h8__0 (by kernel_rfl) (by kernel_rfl) (by kernel_rfl) ?q8__0 ?y8__0 (by assumption) ?_
  case h8__0 => (first | (simp only [gA, gB, gC]; done) | (simp only [gA, gB, gC]; exact rfl))
  case q8__0 => exact fun _ _ _ h => h
  case y8__0 => (refine Or.inl ⟨rfl, ?_⟩; intro w hSw; (first | rfl | (go_simp; (try with_reducible rfl))))
  (try simp only [Act.put, sA, sB, sC])
  refine wpAnyH_take (i := 1) (oi := ?o8__1) (v := .pointer (some ⟨q, 0, none⟩)) ?h8__1 (by kernel_rfl) (by kernel_rfl) (by kernel_rfl) ?q8__1 ?y8__1 (by assumption) ?_
  case h8__1 => (first | (simp only [gA, gB, gC]; done) | (simp only [gA, gB, gC]; exact rfl))
  case q8__1 => exact fun _ _ _ h => h
  case y8__1 => (refine Or.inl ⟨rfl, ?_⟩; intro w hSw; (first | rfl | (go_simp; (try with_reducible rfl))))
  (try simp only [Act.put, sA, sB, sC])
  refine wpAnyH_take (i := 2) (oi := ?o8__2) (v := .pointer (some ⟨q, 0, none⟩)) ?h8__2 (by kernel_rfl) (by kernel_rfl) (by kernel_rfl) ?q8__2 ?y8__2 (by assumption) ?_
  case h8__2 => (first | (simp only [gA, gB, gC]; done) | (simp only [gA, gB, gC]; exact rfl))
  case q8__2 => exact fun _ _ _ h => h
  case y8__2 => (refine Or.inl ⟨rfl, ?_⟩; intro w hSw; (first | rfl | (go_simp; (try with_reducible rfl))))
  (try simp only [Act.put, sA, sB, sC])
  refine wpAnyH_take (i := 3) (oi := ?o8__3) (v := .pointer (some ⟨q, 1, none⟩)) ?h8__3 (by kernel_rfl) (by kernel_rfl) (by kernel_rfl) ?q8__3 ?y8__3 (by assumption) ?_
  case h8__3 => (first | (simp only [gA, gB, gC]; done) | (simp only [gA, gB, gC]; exact rfl))
  case q8__3 => exact fun _ _ _ h => h
  case y8__3 => (refine Or.inl ⟨rfl, ?_⟩; intro w hSw; (first | rfl | (go_simp; (try with_reducible rfl))))
  (try simp only [Act.put, sA, sB, sC])
  refine wpAnyH_take (i := 5) (oi := ?o8__5) (v := .agg #[.int .i64 a.se, .int .i64 a.fl, .int .i64 a.fm, .int .i64 a.to, .int .i64 a.ma]) ?h8__5 (by kernel_rfl) (by kernel_rfl) (by kernel_rfl) ?q8__5 ?y8__5 (by assumption) ?_
  case h8__5 => (first | (simp only [gA, gB, gC]; done) | (simp only [gA, gB, gC]; exact rfl))
  case q8__5 => exact fun _ _ _ h => h
  case y8__5 => (refine Or.inl ⟨rfl, ?_⟩; intro w hSw; exact exec_load_row 30 _ _ hSw.2.1 rfl rfl Try.underlying30 rfl (by kernel_rfl))
  (try simp only [Act.put, sA, sB, sC])
  refine wpAnyH_ready (rs := [4, 6]) (by kernel_rfl) (by simp) ?_
  refine AllReadyH.cons (o := ?o8__4b) ?h8__4b (fun K hK => ?g8__4b) (AllReadyH.cons (o := ?o8__6b) ?h8__6b (fun K hK => ?g8__6b) AllReadyH.nil)
  case h8__4b => (first | (simp only [gA, gB, gC]; done) | (simp only [gA, gB, gC]; exact rfl))
  case h8__6b => (first | (simp only [gA, gB, gC]; done) | (simp only [gA, gB, gC]; exact rfl))
  case g8__4b =>
    rw [if_pos (by rfl)]
    refine wp_q (.slice A ls.length c) ?e8_b4_4 ?_
    case e8_b4_4 => exact exec_cell 35 _ _ HPQ.out rfl rfl rfl Try.underlying35 rfl
    refine hK.out _ _ hHeld (fun hHeld2 => ?_)
    clear hK K hHeld2
    (try simp only [Act.put, sA, sB, sC])
    refine wpAnyH_ready (rs := [6]) (by kernel_rfl) (by simp) ?_
    refine AllReadyH.cons (o := ?o8_b4_6) ?h8_b4_6 (fun K hK => ?_) AllReadyH.nil
    case h8_b4_6 => (first | (simp only [gA, gB, gC]; done) | (simp only [gA, gB, gC]; exact rfl))
    rw [if_pos (by rfl)]
    refine wp_new (fun b => .slice (some ⟨b, 0, none⟩) 1 1) 30 #[.int .i64 a.se, .int .i64 a.fl, .int .i64 a.fm, .int .i64 a.to, .int .i64 a.ma] (by rintro b rfl; first | rfl | kernel_rfl) ?_
    intro bn33 w3 hge hB hb
    refine hK.out _ _ (by (apply HRK.out; exact hb; exact hHeld)) (fun hHeld2 => ?_)
    have HPQk := Lib.hid (keep_blk hb HPQ.out)
    clear HPQ
    have HErk := Lib.hid (keep_own hb HEr.out)
    clear HEr
    have HNn33Q := Lib.hid (show bn33 ≠ q by obtain ⟨old, Bo, _⟩ := hHeld.2.2; have := Blk.lt Bo; omega)
    have HGn33 := Lib.hid (show w.heap.size ≤ bn33 by have := Upd.size hHeld.1; (try simp at this); (try simp at hge); omega)
    have HXn33 := Lib.hid hB
    clear hB
    clear hge
    clear hK K hHeld hb
    have hHeld := hHeld2
    clear hHeld2
    (try simp only [Act.put, sA, sB, sC])
    refine wpAnyH_ready (rs := [7]) (by kernel_rfl) (by simp) ?_
    refine AllReadyH.cons (o := ?o8_b4_7) ?h8_b4_7 (fun K hK => ?_) AllReadyH.nil
    case h8_b4_7 => (first | (simp only [gA, gB, gC]; done) | (simp only [gA, gB, gC]; exact rfl))
    rw [if_pos (by rfl)]
    refine wp_append_row (.tmp 31) (.tmp 33) 35 rfl lo 30 (Value.agg #[.int .i64 0, .int .i64 0, .int .i64 0, .int .i64 0, .int .i64 0]) 5 40 Try.underlying35 (by kernel_rfl) rfl (by decide) (by decide) A ls.length c (rowsOf askC ls) rfl HErk.out _ (some ⟨bn33, 0, none⟩) 1 1 (askC a) rfl (reads_blk (cs := askC a) HXn33.out rfl) (askC_one a) (by have := HL.out; omega) (by have q1 := HLO.out; have q2 := H0.out; have q3 := Upd.size hHeld.1; omega) ((ls ++ [a]).length) (rowsOf askC (ls ++ [a])) (by simp) (by rw [rowsOf_append, rowsOf_one]) ?_
    intro A_1 c_1 w4 hown hupd hfar
    have hHeld3 : (fun W : World => Upd (q :: blkOf A) w W ∧ Blk W w.heap.size 30 #[.int .i64 a.se, .int .i64 a.fl, .int .i64 a.fm, .int .i64 a.to, .int .i64 a.ma] ∧ HasRow W q 96 2) w4 := ⟨Upd.comp hHeld.1 hupd (fun _ h => .inl (List.mem_cons_of_mem _ h)), Upd.blk hupd (hHeld.2.1) HIA.out, HasRow.upd hupd (hHeld.2.2) HIQ.out⟩
    have HPQku := Lib.hid (Upd.blk hupd HPQk.out HIQ.out)
    have HIQ_r_1 := Lib.hid (nin_next hfar HIQ.out (Blk.lt HPQk.out))
    clear HPQk
    have HOW_w4 := Lib.hid hown
    have HFAR := Lib.hid (show ∀ g ∈ blkOf A_1, g ∈ blkOf A ∨ w.heap.size ≤ g from fun g hg => by have q := hfar g hg; rcases q with q | q; exact .inl q; exact .inr (Nat.le_trans (Upd.size hHeld.1) q))
    refine hK.out _ _ hHeld3 (fun hHeld2 => ?_)
    clear hK K hHeld hHeld3 hupd hown hfar HErk HXn33
    have hHeld := hHeld2
    clear hHeld2
    (try simp only [Act.put, sA, sB, sC])
    refine wpAnyH_take (i := 8) (oi := ?o8_b4_8) (v := .pointer (some ⟨q, 0, none⟩)) ?h8_b4_8 (by kernel_rfl) (by kernel_rfl) (by kernel_rfl) ?q8_b4_8 ?y8_b4_8 (by assumption) ?_
    case h8_b4_8 => (first | (simp only [gA, gB, gC]; done) | (simp only [gA, gB, gC]; exact rfl))
    case q8_b4_8 => exact fun _ _ _ h => h
    case y8_b4_8 => (refine Or.inl ⟨rfl, ?_⟩; intro w hSw; (first | rfl | (go_simp; (try with_reducible rfl))))
    (try simp only [Act.put, sA, sB, sC])
    refine wpAnyH_take (i := 9) (oi := ?o8_b4_9) (v := .pointer (some ⟨q, 1, none⟩)) ?h8_b4_9 (by kernel_rfl) (by kernel_rfl) (by kernel_rfl) ?q8_b4_9 ?y8_b4_9 (by assumption) ?_
    case h8_b4_9 => (first | (simp only [gA, gB, gC]; done) | (simp only [gA, gB, gC]; exact rfl))
    case q8_b4_9 => exact fun _ _ _ h => h
    case y8_b4_9 => (refine Or.inl ⟨rfl, ?_⟩; intro w hSw; (first | rfl | (go_simp; (try with_reducible rfl))))
    (try simp only [Act.put, sA, sB, sC])
    refine wpAnyH_ready (rs := [10]) (by kernel_rfl) (by simp) ?_
    refine AllReadyH.cons (o := ?o8_b4_10) ?h8_b4_10 (fun K hK => ?_) AllReadyH.nil
    case h8_b4_10 => (first | (simp only [gA, gB, gC]; done) | (simp only [gA, gB, gC]; exact rfl))
    rw [if_pos (by rfl)]
    refine wp_st_cell 35 _ _ rfl #[.int .i64 room, .slice A_1 ((ls ++ [a]).length) c_1] (.slice A_1 ((ls ++ [a]).length) c_1) rfl rfl HPQku.out (by show 1 < 2; decide) rfl (by first | rfl | simp [Value.oneCell']) (by kernel_rfl) ?_
    clear HPQku
    intro w5 hw
    have HOW_w4r := Lib.hid (show (w5).ownsRow lo 30 5 (.slice A_1 ((ls ++ [a]).length) c_1) ((ls ++ [a]).length) (rowsOf askC (ls ++ [a])) by rw [hw]; exact own_row_far HOW_w4.out HIQ_r_1.out _)
    clear HOW_w4
    have HRQ := Lib.hid (show Blk w5 q 96 #[.int .i64 room, .slice A_1 ((ls ++ [a]).length) c_1] by obtain ⟨old, Bo, _⟩ := hHeld.2.2; rw [hw]; exact Blk.row Bo _)
    have hHeld3 : (fun W : World => Upd (q :: blkOf A) w W ∧ Blk W w.heap.size 30 #[.int .i64 a.se, .int .i64 a.fl, .int .i64 a.fm, .int .i64 a.to, .int .i64 a.ma] ∧ HasRow W q 96 2) w5 := ⟨by rw [hw]; exact Upd.setRow hHeld.1 (.inl (by simp)) _, by rw [hw]; exact Blk.row_far (hHeld.2.1) (Ne.symm HNQA.out) _, HasRow.of HRQ.out rfl⟩
    refine hK.out _ _ hHeld3 (fun hHeld2 => ?_)
    clear hK K hHeld hHeld3 hw
    have hHeld := hHeld2
    clear hHeld2
    (try simp only [Act.put, sA, sB, sC])
    refine wpAnyH_done (by kernel_rfl) ?_ _
    have HSd8 := Lib.hid hHeld.1
    have HBAd8 := Lib.hid (hHeld.2.1)
    have HBQd8 := Lib.hid HRQ.out
    clear HRQ
    clear hHeld HRK HRD HSU HBAd6 HBQd6
    have HFrd8 := Lib.hid HOW_w4r.out
    clear HOW_w4r
    go_upto_region 9 with fail
    refine wp_region_lit ?_
    refine wpList_q (by rfl) (.int .i64 0) ?he ?_
    case he => (first | rfl | (go_simp; (try with_reducible rfl)))
    (try simp only [Act.put, sA, sB, sC])
    refine wpList_nil ?_
    (try go_wp2_with fail)
    go_ret
    exact ⟨rfl, q :: blkOf A_1, ⟨H0.out, A_1, c_1, rfl, HBQd8.out, HFrd8.out⟩, HSd8.out, fun g hg => by rcases List.mem_cons.1 hg with rfl | hg; exact .inl (by simp); rcases HFAR.out g hg with h | h; exact .inl (List.mem_cons_of_mem _ h); exact .inr h⟩
  case g8__6b =>
    rw [if_pos (by rfl)]
    refine wp_new (fun b => .slice (some ⟨b, 0, none⟩) 1 1) 30 #[.int .i64 a.se, .int .i64 a.fl, .int .i64 a.fm, .int .i64 a.to, .int .i64 a.ma] (by rintro b rfl; first | rfl | kernel_rfl) ?_
    intro bn33 w3 hge hB hb
    refine hK.out _ _ (by (apply HRK.out; exact hb; exact hHeld)) (fun hHeld2 => ?_)
    have HPQk := Lib.hid (keep_blk hb HPQ.out)
    clear HPQ
    have HErk := Lib.hid (keep_own hb HEr.out)
    clear HEr
    have HNn33Q := Lib.hid (show bn33 ≠ q by obtain ⟨old, Bo, _⟩ := hHeld.2.2; have := Blk.lt Bo; omega)
    have HGn33 := Lib.hid (show w.heap.size ≤ bn33 by have := Upd.size hHeld.1; (try simp at this); (try simp at hge); omega)
    have HXn33 := Lib.hid hB
    clear hB
    clear hge
    clear hK K hHeld hb
    have hHeld := hHeld2
    clear hHeld2
    (try simp only [Act.put, sA, sB, sC])
    refine wpAnyH_ready (rs := [4]) (by kernel_rfl) (by simp) ?_
    refine AllReadyH.cons (o := ?o8_b6_4) ?h8_b6_4 (fun K hK => ?_) AllReadyH.nil
    case h8_b6_4 => (first | (simp only [gA, gB, gC]; done) | (simp only [gA, gB, gC]; exact rfl))
    rw [if_pos (by rfl)]
    refine wp_q (.slice A ls.length c) ?e8_b6_4 ?_
    case e8_b6_4 => exact exec_cell 35 _ _ HPQk.out rfl rfl rfl Try.underlying35 rfl
    refine hK.out _ _ hHeld (fun hHeld2 => ?_)
    clear hK K hHeld2
    (try simp only [Act.put, sA, sB, sC])
    refine wpAnyH_ready (rs := [7]) (by kernel_rfl) (by simp) ?_
    refine AllReadyH.cons (o := ?o8_b6_7) ?h8_b6_7 (fun K hK => ?_) AllReadyH.nil
    case h8_b6_7 => (first | (simp only [gA, gB, gC]; done) | (simp only [gA, gB, gC]; exact rfl))
    rw [if_pos (by rfl)]
    refine wp_append_row (.tmp 31) (.tmp 33) 35 rfl lo 30 (Value.agg #[.int .i64 0, .int .i64 0, .int .i64 0, .int .i64 0, .int .i64 0]) 5 40 Try.underlying35 (by kernel_rfl) rfl (by decide) (by decide) A ls.length c (rowsOf askC ls) rfl HErk.out _ (some ⟨bn33, 0, none⟩) 1 1 (askC a) rfl (reads_blk (cs := askC a) HXn33.out rfl) (askC_one a) (by have := HL.out; omega) (by have q1 := HLO.out; have q2 := H0.out; have q3 := Upd.size hHeld.1; omega) ((ls ++ [a]).length) (rowsOf askC (ls ++ [a])) (by simp) (by rw [rowsOf_append, rowsOf_one]) ?_
    intro A_2 c_2 w4 hown hupd hfar
    have hHeld3 : (fun W : World => Upd (q :: blkOf A) w W ∧ Blk W w.heap.size 30 #[.int .i64 a.se, .int .i64 a.fl, .int .i64 a.fm, .int .i64 a.to, .int .i64 a.ma] ∧ HasRow W q 96 2) w4 := ⟨Upd.comp hHeld.1 hupd (fun _ h => .inl (List.mem_cons_of_mem _ h)), Upd.blk hupd (hHeld.2.1) HIA.out, HasRow.upd hupd (hHeld.2.2) HIQ.out⟩
    have HPQku := Lib.hid (Upd.blk hupd HPQk.out HIQ.out)
    have HIQ_r_2 := Lib.hid (nin_next hfar HIQ.out (Blk.lt HPQk.out))
    clear HPQk
    have HOW_w4 := Lib.hid hown
    have HFAR := Lib.hid (show ∀ g ∈ blkOf A_2, g ∈ blkOf A ∨ w.heap.size ≤ g from fun g hg => by have q := hfar g hg; rcases q with q | q; exact .inl q; exact .inr (Nat.le_trans (Upd.size hHeld.1) q))
    refine hK.out _ _ hHeld3 (fun hHeld2 => ?_)
    clear hK K hHeld hHeld3 hupd hown hfar HErk HXn33
    have hHeld := hHeld2
    clear hHeld2
    (try simp only [Act.put, sA, sB, sC])
    refine wpAnyH_take (i := 8) (oi := ?o8_b6_8) (v := .pointer (some ⟨q, 0, none⟩)) ?h8_b6_8 (by kernel_rfl) (by kernel_rfl) (by kernel_rfl) ?q8_b6_8 ?y8_b6_8 (by assumption) ?_
    case h8_b6_8 => (first | (simp only [gA, gB, gC]; done) | (simp only [gA, gB, gC]; exact rfl))
    case q8_b6_8 => exact fun _ _ _ h => h
    case y8_b6_8 => (refine Or.inl ⟨rfl, ?_⟩; intro w hSw; (first | rfl | (go_simp; (try with_reducible rfl))))
    (try simp only [Act.put, sA, sB, sC])
    refine wpAnyH_take (i := 9) (oi := ?o8_b6_9) (v := .pointer (some ⟨q, 1, none⟩)) ?h8_b6_9 (by kernel_rfl) (by kernel_rfl) (by kernel_rfl) ?q8_b6_9 ?y8_b6_9 (by assumption) ?_
    case h8_b6_9 => (first | (simp only [gA, gB, gC]; done) | (simp only [gA, gB, gC]; exact rfl))
    case q8_b6_9 => exact fun _ _ _ h => h
    case y8_b6_9 => (refine Or.inl ⟨rfl, ?_⟩; intro w hSw; (first | rfl | (go_simp; (try with_reducible rfl))))
    (try simp only [Act.put, sA, sB, sC])
    refine wpAnyH_ready (rs := [10]) (by kernel_rfl) (by simp) ?_
    refine AllReadyH.cons (o := ?o8_b6_10) ?h8_b6_10 (fun K hK => ?_) AllReadyH.nil
    case h8_b6_10 => (first | (simp only [gA, gB, gC]; done) | (simp only [gA, gB, gC]; exact rfl))
    rw [if_pos (by rfl)]
    refine wp_st_cell 35 _ _ rfl #[.int .i64 room, .slice A_2 ((ls ++ [a]).length) c_2] (.slice A_2 ((ls ++ [a]).length) c_2) rfl rfl HPQku.out (by show 1 < 2; decide) rfl (by first | rfl | simp [Value.oneCell']) (by kernel_rfl) ?_
    clear HPQku
    intro w5 hw
    have HOW_w4r := Lib.hid (show (w5).ownsRow lo 30 5 (.slice A_2 ((ls ++ [a]).length) c_2) ((ls ++ [a]).length) (rowsOf askC (ls ++ [a])) by rw [hw]; exact own_row_far HOW_w4.out HIQ_r_2.out _)
    clear HOW_w4
    have HRQ := Lib.hid (show Blk w5 q 96 #[.int .i64 room, .slice A_2 ((ls ++ [a]).length) c_2] by obtain ⟨old, Bo, _⟩ := hHeld.2.2; rw [hw]; exact Blk.row Bo _)
    have hHeld3 : (fun W : World => Upd (q :: blkOf A) w W ∧ Blk W w.heap.size 30 #[.int .i64 a.se, .int .i64 a.fl, .int .i64 a.fm, .int .i64 a.to, .int .i64 a.ma] ∧ HasRow W q 96 2) w5 := ⟨by rw [hw]; exact Upd.setRow hHeld.1 (.inl (by simp)) _, by rw [hw]; exact Blk.row_far (hHeld.2.1) (Ne.symm HNQA.out) _, HasRow.of HRQ.out rfl⟩
    refine hK.out _ _ hHeld3 (fun hHeld2 => ?_)
    clear hK K hHeld hHeld3 hw
    have hHeld := hHeld2
    clear hHeld2
    (try simp only [Act.put, sA, sB, sC])
    refine wpAnyH_done (by kernel_rfl) ?_ _
    have HSd8v2 := Lib.hid hHeld.1
    have HBAd8v2 := Lib.hid (hHeld.2.1)
    have HBQd8v2 := Lib.hid HRQ.out
    clear HRQ
    clear hHeld HRK HRD HSU HBAd6 HBQd6
    have HFrd8v2 := Lib.hid HOW_w4r.out
    clear HOW_w4r
    go_upto_region 9 with fail
    refine wp_region_lit ?_
    refine wpList_q (by rfl) (.int .i64 0) ?he ?_
    case he => (first | rfl | (go_simp; (try with_reducible rfl)))
    (try simp only [Act.put, sA, sB, sC])
    refine wpList_nil ?_
    (try go_wp2_with fail)
    go_ret
    exact ⟨rfl, q :: blkOf A_2, ⟨H0.out, A_2, c_2, rfl, HBQd8v2.out, HFrd8v2.out⟩, HSd8v2.out, fun g hg => by rcases List.mem_cons.1 hg with rfl | hg; exact .inl (by simp); rcases HFAR.out g hg with h | h; exact .inl (List.mem_cons_of_mem _ h); exact .inr h⟩
theorem putT (lo q : Nat) (room : Int) (ls : List AskV) (S : List Nat) (a : AskV) (w : World) (hQ : QO lo q room ls S w) (hl : ls.length ≤ 10000) :
    Calls Try.prog 26 #[.pointer (some ⟨q, 0, none⟩), .agg #[.int .i64 a.se, .int .i64 a.fl, .int .i64 a.fm, .int .i64 a.to, .int .i64 a.ma]] w fun e w' => ∃ S', e = .returned (.int .i64 (putE room ls a)) ∧ QO lo q room (putL room ls a) S' w' ∧ Upd S w w' ∧ ∀ g ∈ S', g ∈ S ∨ w.heap.size ≤ g := by
  have hQ0 := hQ
  obtain ⟨h0, A, c, rfl, B, O⟩ := hQ
  cases hf : atS ls a.se with
  | some k =>
    refine (putHit lo q room ls A c a k w B O hl hf).mono ?_
    rintro e w1 ⟨rfl, hb⟩
    have e1 : putE room ls a = 7 := by unfold putE; rw [hf]; rfl
    have e2 : putL room ls a = ls := by unfold putL; rw [e1]; rfl
    rw [e1, e2]
    exact ⟨_, rfl, hQ0.keep hb, Upd.of_since hb, fun g hg => .inl hg⟩
  | none =>
    by_cases hr : room ≤ (ls.length : Int)
    · refine (putFull lo q room ls A c a w B O hl hf hr).mono ?_
      rintro e w1 ⟨rfl, hb⟩
      have e1 : putE room ls a = 5 := by unfold putE; rw [hf, if_pos hr]; rfl
      have e2 : putL room ls a = ls := by unfold putL; rw [e1]; rfl
      rw [e1, e2]
      exact ⟨_, rfl, hQ0.keep hb, Upd.of_since hb, fun g hg => .inl hg⟩
    · refine (putOk lo q room ls A c a w B O hl hf hr h0).mono ?_
      rintro e w1 ⟨rfl, S', hn, hu, hfar⟩
      have e1 : putE room ls a = 0 := by unfold putE; rw [hf, if_neg hr]; rfl
      have e2 : putL room ls a = ls ++ [a] := by unfold putL; rw [e1]; rfl
      rw [e1, e2]
      exact ⟨S', rfl, hn, hu, hfar⟩
set_option maxHeartbeats 4000000 in
theorem dropNil (s : Int) (w : World) : Calls Try.prog 27 #[.pointer none, .int .i64 s] w fun e w' => e = .returned (.bool false) ∧ Since w w' := by
  go_enter Try.func27, Try.ntmps27
  go_upto_region 1 with fail
  have HS1 := Lib.hid (Since.refl w)
  refine wp_region_lit ?_
  refine wpList_q (by rfl) (.pointer none) ?he ?_
  case he => (first | rfl | (go_simp; (try with_reducible rfl)))
  (try simp only [Act.put, sA, sB, sC])
  refine wpList_q (by rfl) (.int .i64 s) ?he ?_
  case he => (first | rfl | (go_simp; (try with_reducible rfl)))
  (try simp only [Act.put, sA, sB, sC])
  refine wpList_wp (by rfl) (fun K hK => ?_)
  (try go_simp)
  refine (aheadNil s _).mono ?_
  rintro e w2 ⟨rfl, hb⟩
  (try go_wp2_with fail)
  refine hK.out _ _ ?_
  clear hK K
  (try simp only [Act.put, sA, sB, sC])
  have HS2 := Lib.hid (Since.trans HS1.out hb)
  clear HS1 
  clear hb
  refine wpList_q (by rfl) (.tuple #[.int .i64 0, .bool false]) ?he ?_
  case he => (first | rfl | (go_simp; (try with_reducible rfl)))
  (try simp only [Act.put, sA, sB, sC])
  refine wpList_q (by rfl) (.int .i64 0) ?he ?_
  case he => (first | rfl | (go_simp; (try with_reducible rfl)))
  (try simp only [Act.put, sA, sB, sC])
  refine wpList_q (by rfl) (.bool false) ?he ?_
  case he => (first | rfl | (go_simp; (try with_reducible rfl)))
  (try simp only [Act.put, sA, sB, sC])
  refine wpList_q (by rfl) (.int .i64 0) ?he ?_
  case he => (first | rfl | (go_simp; (try with_reducible rfl)))
  (try simp only [Act.put, sA, sB, sC])
  refine wpList_q (by rfl) (.bool false) ?he ?_
  case he => (first | rfl | (go_simp; (try with_reducible rfl)))
  (try simp only [Act.put, sA, sB, sC])
  refine wpList_nil ?_
  go_upto_region 2 with fail
  refine wp_region_lit ?_
  refine wpList_q (by rfl) (.bool false) ?he ?_
  case he => (first | rfl | (go_simp; (try with_reducible rfl)))
  (try simp only [Act.put, sA, sB, sC])
  refine wpList_nil ?_
  go_upto_region 4 with fail
  refine wp_region_lit ?_
  refine wpList_q (by rfl) (.bool false) ?he ?_
  case he => (first | rfl | (go_simp; (try with_reducible rfl)))
  (try simp only [Act.put, sA, sB, sC])
  refine wpList_q (by rfl) (.bool false) ?he ?_
  case he => (first | rfl | (go_simp; (try with_reducible rfl)))
  (try simp only [Act.put, sA, sB, sC])
  refine wpList_nil ?_
  (try go_wp2_with fail)
  go_ret
  exact ⟨rfl, HS2.out⟩
set_option maxHeartbeats 4000000 in
theorem dropMiss (lo q : Nat) (room : Int) (ls : List AskV) (A : Option Addr) (c : Nat) (s : Int) (w : World) (hB : Blk w q 96 #[.int .i64 room, .slice A ls.length c]) (hO : w.ownsRow lo 30 5 (.slice A ls.length c) ls.length (rowsOf askC ls)) (hl : ls.length ≤ 10000) (hf : atS ls s = none) : Calls Try.prog 27 #[.pointer (some ⟨q, 0, none⟩), .int .i64 s] w fun e w' => e = .returned (.bool false) ∧ Since w w' := by
  have HBQ := Lib.hid hB
  have HOW := Lib.hid hO
  clear hB hO
  have HL := Lib.hid hl
  clear hl
  have HF := Lib.hid hf
  clear hf
  go_enter Try.func27, Try.ntmps27
  go_upto_region 1 with fail
  have HS1 := Lib.hid (Since.refl w)
  refine wp_region_lit ?_
  refine wpList_q (by rfl) (.pointer (some ⟨q, 0, none⟩)) ?he ?_
  case he => (first | rfl | (go_simp; (try with_reducible rfl)))
  (try simp only [Act.put, sA, sB, sC])
  refine wpList_q (by rfl) (.int .i64 s) ?he ?_
  case he => (first | rfl | (go_simp; (try with_reducible rfl)))
  (try simp only [Act.put, sA, sB, sC])
  refine wpList_wp (by rfl) (fun K hK => ?_)
  (try go_simp)
  refine (aheadMiss lo q room ls A c s _ HBQ.out HOW.out (by have := HL.out; omega) HF.out).mono ?_
  rintro e w2 ⟨rfl, hb⟩
  (try go_wp2_with fail)
  refine hK.out _ _ ?_
  clear hK K
  (try simp only [Act.put, sA, sB, sC])
  have HS2 := Lib.hid (Since.trans HS1.out hb)
  have HBQ2 := Lib.hid (keep_blk hb HBQ.out)
  have HFr2 := Lib.hid (keep_own hb HOW.out)
  clear HS1 HBQ HOW
  clear hb
  refine wpList_q (by rfl) (.tuple #[.int .i64 0, .bool false]) ?he ?_
  case he => (first | rfl | (go_simp; (try with_reducible rfl)))
  (try simp only [Act.put, sA, sB, sC])
  refine wpList_q (by rfl) (.int .i64 0) ?he ?_
  case he => (first | rfl | (go_simp; (try with_reducible rfl)))
  (try simp only [Act.put, sA, sB, sC])
  refine wpList_q (by rfl) (.bool false) ?he ?_
  case he => (first | rfl | (go_simp; (try with_reducible rfl)))
  (try simp only [Act.put, sA, sB, sC])
  refine wpList_q (by rfl) (.int .i64 0) ?he ?_
  case he => (first | rfl | (go_simp; (try with_reducible rfl)))
  (try simp only [Act.put, sA, sB, sC])
  refine wpList_q (by rfl) (.bool false) ?he ?_
  case he => (first | rfl | (go_simp; (try with_reducible rfl)))
  (try simp only [Act.put, sA, sB, sC])
  refine wpList_nil ?_
  go_upto_region 2 with fail
  refine wp_region_lit ?_
  refine wpList_q (by rfl) (.bool false) ?he ?_
  case he => (first | rfl | (go_simp; (try with_reducible rfl)))
  (try simp only [Act.put, sA, sB, sC])
  refine wpList_nil ?_
  go_upto_region 4 with fail
  refine wp_region_lit ?_
  refine wpList_q (by rfl) (.bool false) ?he ?_
  case he => (first | rfl | (go_simp; (try with_reducible rfl)))
  (try simp only [Act.put, sA, sB, sC])
  refine wpList_q (by rfl) (.bool false) ?he ?_
  case he => (first | rfl | (go_simp; (try with_reducible rfl)))
  (try simp only [Act.put, sA, sB, sC])
  refine wpList_nil ?_
  (try go_wp2_with fail)
  go_ret
  exact ⟨rfl, HS2.out⟩
set_option maxHeartbeats 4000000 in
theorem dropHit (lo q : Nat) (room : Int) (ls : List AskV) (g m c k0 : Nat) (s : Int) (w : World) (hB : Blk w q 96 #[.int .i64 room, .slice (some ⟨g, 0, none⟩) (m + 1) c]) (hO : w.ownsRow lo 30 5 (.slice (some ⟨g, 0, none⟩) (m + 1) c) (m + 1) (rowsOf askC ls)) (hf : atS ls s = some k0) (hm : ls.length = m + 1) (hk : k0 ≤ m) (hl : m + 1 ≤ 10000) (hc : m + 1 ≤ c) (h0 : lo ≤ q) : Calls Try.prog 27 #[.pointer (some ⟨q, 0, none⟩), .int .i64 s] w fun e w' => e = .returned (.bool true) ∧ QO lo q room (ls.eraseIdx k0) [q, g] w' ∧ Upd [q, g] w w' := by
  have HBQ := Lib.hid hB
  have HOW := Lib.hid hO
  clear hB hO
  have HF := Lib.hid hf
  clear hf
  have HM := Lib.hid hm
  clear hm
  have HK := Lib.hid hk
  clear hk
  have HL := Lib.hid hl
  clear hl
  have HC := Lib.hid hc
  clear hc
  have H0 := Lib.hid h0
  clear h0
  go_enter Try.func27, Try.ntmps27
  go_upto_region 1 with fail
  have HS1 := Lib.hid (Upd.refl [q, g] w)
  have HIQ := Lib.hid (own_ne_ty HOW.out HBQ.out (by decide))
  refine wp_region_lit ?_
  refine wpList_q (by rfl) (.pointer (some ⟨q, 0, none⟩)) ?he ?_
  case he => (first | rfl | (go_simp; (try with_reducible rfl)))
  (try simp only [Act.put, sA, sB, sC])
  refine wpList_q (by rfl) (.int .i64 s) ?he ?_
  case he => (first | rfl | (go_simp; (try with_reducible rfl)))
  (try simp only [Act.put, sA, sB, sC])
  refine wpList_wp (by rfl) (fun K hK => ?_)
  (try go_simp)
  refine (aheadHit lo q room ls (some ⟨g, 0, none⟩) c s k0 _ (by rw [HM.out]; exact HBQ.out) (by rw [HM.out]; exact HOW.out) (by have := HL.out; have := HM.out; omega) HF.out).mono ?_
  rintro e w2 ⟨rfl, hb⟩
  (try go_wp2_with fail)
  refine hK.out _ _ ?_
  clear hK K
  (try simp only [Act.put, sA, sB, sC])
  have HS2 := Lib.hid (Upd.trans HS1.out hb)
  have HBQ2 := Lib.hid (keep_blk hb HBQ.out)
  have HFr2 := Lib.hid (keep_own hb HOW.out)
  clear HS1 HBQ HOW
  clear hb
  refine wpList_q (by rfl) (.tuple #[.int .i64 (k0 : Int), .bool true]) ?he ?_
  case he => (first | rfl | (go_simp; (try with_reducible rfl)))
  (try simp only [Act.put, sA, sB, sC])
  refine wpList_q (by rfl) (.int .i64 (k0 : Int)) ?he ?_
  case he => (first | rfl | (go_simp; (try with_reducible rfl)))
  (try simp only [Act.put, sA, sB, sC])
  refine wpList_q (by rfl) (.bool true) ?he ?_
  case he => (first | rfl | (go_simp; (try with_reducible rfl)))
  (try simp only [Act.put, sA, sB, sC])
  refine wpList_q (by rfl) (.int .i64 (k0 : Int)) ?he ?_
  case he => (first | rfl | (go_simp; (try with_reducible rfl)))
  (try simp only [Act.put, sA, sB, sC])
  refine wpList_q (by rfl) (.bool true) ?he ?_
  case he => (first | rfl | (go_simp; (try with_reducible rfl)))
  (try simp only [Act.put, sA, sB, sC])
  refine wpList_nil ?_
  go_upto_region 2 with fail
  refine wp_region_lit ?_
  refine wpList_q (by rfl) (.bool true) ?he ?_
  case he => (first | rfl | (go_simp; (try with_reducible rfl)))
  (try simp only [Act.put, sA, sB, sC])
  refine wpList_nil ?_
  go_upto_region 3 with fail
  refine wp_region_lit ?_
  refine wpList_q (by rfl) (.pointer (some ⟨q, 0, none⟩)) ?he ?_
  case he => (first | rfl | (go_simp; (try with_reducible rfl)))
  (try simp only [Act.put, sA, sB, sC])
  refine wpList_q (by rfl) (.pointer (some ⟨q, 0, none⟩)) ?he ?_
  case he => (first | rfl | (go_simp; (try with_reducible rfl)))
  (try simp only [Act.put, sA, sB, sC])
  refine wpList_q (by rfl) (.pointer (some ⟨q, 0, none⟩)) ?he ?_
  case he => (first | rfl | (go_simp; (try with_reducible rfl)))
  (try simp only [Act.put, sA, sB, sC])
  refine wpList_q (by rfl) (.pointer (some ⟨q, 1, none⟩)) ?he ?_
  case he => (first | rfl | (go_simp; (try with_reducible rfl)))
  (try simp only [Act.put, sA, sB, sC])
  refine wpList_q (by rfl) (.slice (some ⟨g, 0, none⟩) (m + 1) c) ?he ?_
  case he => exact exec_cell 35 _ _ HBQ2.out rfl rfl rfl Try.underlying35 rfl
  (try simp only [Act.put, sA, sB, sC])
  refine wpList_q (by rfl) (.int .i64 (k0 : Int)) ?he ?_
  case he => (first | rfl | (go_simp; (try with_reducible rfl)))
  (try simp only [Act.put, sA, sB, sC])
  refine wpList_q (by rfl) (.int .i64 (k0 : Int)) ?he ?_
  case he => (first | rfl | (go_simp; (try with_reducible rfl)))
  (try simp only [Act.put, sA, sB, sC])
  refine wpList_q (by rfl) (.int .i64 ((k0 : Int) + 1)) ?he ?_
  case he => (go_simp; (first | done | (refine wr64 _ ?_ ?_ <;> (have q0 := HK.out; have q1 := HL.out; omega)) | (have q0 := HK.out; have q1 := HL.out; omega) | (have q0 := HK.out; have q1 := HL.out; split <;> omega) | (have q0 := HK.out; have q1 := HL.out; intro hh; omega)))
  (try simp only [Act.put, sA, sB, sC])
  refine wpList_wp (by rfl) (fun K hK => ?_)
  (try go_simp)
  refine (deleteT lo g m c k0 ls _ HFr2.out HM.out HK.out HC.out (by have := HL.out; omega)).mono ?_
  rintro e w3 ⟨rfl, hobj, hupd⟩
  (try go_wp2_with fail)
  refine hK.out _ _ ?_
  clear hK K
  (try simp only [Act.put, sA, sB, sC])
  have hfar : ∀ x ∈ (blkOf (some ⟨g, 0, none⟩)), x ∈ (blkOf (some ⟨g, 0, none⟩)) ∨ w2.heap.size ≤ x := fun _ h => .inl h
  have HS3 := Lib.hid (Upd.comp HS2.out hupd (fun x h => .inl (by simp [blkOf] at h; simp [h])))
  have HBQ3 := Lib.hid (Upd.blk hupd HBQ2.out HIQ.out)
  have HIQ_r_3 := Lib.hid (nin_next hfar HIQ.out (Blk.lt HBQ2.out))
  have HFr3 := Lib.hid hobj
  clear hupd hobj hfar HS2 HBQ2 HFr2
  refine wpList_q (by rfl) (.pointer (some ⟨q, 0, none⟩)) ?he ?_
  case he => (first | rfl | (go_simp; (try with_reducible rfl)))
  (try simp only [Act.put, sA, sB, sC])
  refine wpList_q (by rfl) (.pointer (some ⟨q, 1, none⟩)) ?he ?_
  case he => (first | rfl | (go_simp; (try with_reducible rfl)))
  (try simp only [Act.put, sA, sB, sC])
  refine wpList_wp (by rfl) (fun K hK => ?_)
  refine wp_st_cell 35 _ _ rfl #[.int .i64 room, .slice (some ⟨g, 0, none⟩) m c] (.slice (some ⟨g, 0, none⟩) m c) rfl rfl HBQ3.out (by show 1 < 2; decide) rfl (by first | rfl | simp [Value.oneCell']) (by kernel_rfl) ?_
  intro w4 hw
  refine hK.out _ _ ?_
  clear hK K
  (try simp only [Act.put, sA, sB, sC])
  have HS4 := Lib.hid (show Upd [q, g] w w4 by rw [hw]; exact Upd.setRow HS3.out (.inl (by simp)) _)
  have HBQ4 := Lib.hid (show Blk w4 q 96 #[.int .i64 room, .slice (some ⟨g, 0, none⟩) m c] by rw [hw]; exact Blk.row HBQ3.out _)
  have HFr_4 := Lib.hid (show (w4).ownsRow lo 30 5 (.slice (some ⟨g, 0, none⟩) m c) m (rowsOf askC (ls.eraseIdx k0)) by rw [hw]; exact own_row_far HFr3.out HIQ_r_3.out _)
  clear hw HS3 HBQ3 HFr3
  refine wpList_nil ?_
  go_upto_region 4 with fail
  refine wp_region_lit ?_
  refine wpList_q (by rfl) (.bool true) ?he ?_
  case he => (first | rfl | (go_simp; (try with_reducible rfl)))
  (try simp only [Act.put, sA, sB, sC])
  refine wpList_q (by rfl) (.bool true) ?he ?_
  case he => (first | rfl | (go_simp; (try with_reducible rfl)))
  (try simp only [Act.put, sA, sB, sC])
  refine wpList_nil ?_
  (try go_wp2_with fail)
  go_ret
  have hlen : (ls.eraseIdx k0).length = m := by have q0 := HK.out; have q1 := HM.out; rw [List.length_eraseIdx, if_pos (by omega)]; omega
  exact ⟨rfl, ⟨H0.out, some ⟨g, 0, none⟩, c, rfl, by rw [hlen]; exact HBQ4.out, by rw [hlen]; exact HFr_4.out⟩, HS4.out⟩
theorem dropT (lo q : Nat) (room : Int) (ls : List AskV) (S : List Nat) (s : Int) (w : World) (hQ : QO lo q room ls S w) (hl : ls.length ≤ 10000) :
    Calls Try.prog 27 #[.pointer (some ⟨q, 0, none⟩), .int .i64 s] w fun e w' => ∃ S', e = .returned (.bool (atS ls s).isSome) ∧ QO lo q room (dropL ls s) S' w' ∧ Upd S w w' ∧ ∀ g ∈ S', g ∈ S ∨ w.heap.size ≤ g := by
  have hQ0 := hQ
  obtain ⟨h0, A, c, rfl, B, O⟩ := hQ
  cases hf : atS ls s with
  | none =>
    refine (dropMiss lo q room ls A c s w B O hl hf).mono ?_
    rintro e w1 ⟨rfl, hb⟩
    have e2 : dropL ls s = ls := by unfold dropL; rw [hf]
    rw [e2]
    exact ⟨_, rfl, hQ0.keep hb, Upd.of_since hb, fun g hg => .inl hg⟩
  | some k =>
    have hk := (atS_some hf).1
    obtain ⟨g, rfl⟩ := own_addr O (by omega)
    obtain ⟨m, hm⟩ : ∃ m, ls.length = m + 1 := ⟨ls.length - 1, by omega⟩
    have hcap := own_cap2 O
    rw [hm] at B O hcap
    refine (dropHit lo q room ls g m c k s w B O hf hm (by omega) (by omega) hcap h0).mono ?_
    rintro e w1 ⟨rfl, hn, hu⟩
    have e2 : dropL ls s = ls.eraseIdx k := by unfold dropL; rw [hf]
    rw [e2]
    exact ⟨_, rfl, hn, hu, fun g hg => .inl hg⟩
set_option maxHeartbeats 4000000 in
theorem listNil (w : World) : Calls Try.prog 32 #[.pointer none] w fun e w' => e = .returned (.slice none 0 0) ∧ Since w w' := by
  go_enter Try.func32, Try.ntmps32
  go_upto_region 1 with fail
  have HS1 := Lib.hid (Since.refl w)
  refine wp_region_lit ?_
  refine wpList_q (by rfl) (.pointer none) ?he ?_
  case he => (first | rfl | (go_simp; (try with_reducible rfl)))
  (try simp only [Act.put, sA, sB, sC])
  refine wpList_q (by rfl) (.bool true) ?he ?_
  case he => (first | rfl | (go_simp; (try with_reducible rfl)))
  (try simp only [Act.put, sA, sB, sC])
  refine wpList_nil ?_
  go_upto_region 2 with fail
  refine wp_region_lit ?_
  refine wpList_q (by rfl) (.slice none 0 0) ?he ?_
  case he => (first | rfl | (go_simp; (try with_reducible rfl)))
  (try simp only [Act.put, sA, sB, sC])
  refine wpList_nil ?_
  (try go_wp2_with fail)
  go_ret
  exact ⟨rfl, HS1.out⟩
set_option maxHeartbeats 4000000 in
theorem listA (lo q : Nat) (room : Int) (ls : List AskV) (A : Option Addr) (c : Nat) (w : World) (hB : Blk w q 96 #[.int .i64 room, .slice A ls.length c]) (hO : w.ownsRow lo 30 5 (.slice A ls.length c) ls.length (rowsOf askC ls)) (hl : ls.length ≤ 10000) : Calls Try.prog 32 #[.pointer (some ⟨q, 0, none⟩)] w fun e w' => ∃ A' c', e = .returned (.slice A' ls.length c') ∧ w'.ownsRow w.heap.size 30 5 (.slice A' ls.length c') ls.length (rowsOf askC ls) ∧ Since w w' := by
  have HBQ := Lib.hid hB
  have HOW := Lib.hid hO
  clear hB hO
  have HL := Lib.hid hl
  clear hl
  go_enter Try.func32, Try.ntmps32
  go_upto_region 1 with fail
  have HS1 := Lib.hid (Since.refl w)
  refine wp_region_lit ?_
  refine wpList_q (by rfl) (.pointer (some ⟨q, 0, none⟩)) ?he ?_
  case he => (first | rfl | (go_simp; (try with_reducible rfl)))
  (try simp only [Act.put, sA, sB, sC])
  refine wpList_q (by rfl) (.bool false) ?he ?_
  case he => (first | rfl | (go_simp; (try with_reducible rfl)))
  (try simp only [Act.put, sA, sB, sC])
  refine wpList_nil ?_
  go_upto_region 3 with fail
  refine wp_region_lit ?_
  refine wpList_q (by rfl) (.pointer (some ⟨q, 0, none⟩)) ?he ?_
  case he => (first | rfl | (go_simp; (try with_reducible rfl)))
  (try simp only [Act.put, sA, sB, sC])
  refine wpList_q (by rfl) (.pointer (some ⟨q, 0, none⟩)) ?he ?_
  case he => (first | rfl | (go_simp; (try with_reducible rfl)))
  (try simp only [Act.put, sA, sB, sC])
  refine wpList_q (by rfl) (.pointer (some ⟨q, 1, none⟩)) ?he ?_
  case he => (first | rfl | (go_simp; (try with_reducible rfl)))
  (try simp only [Act.put, sA, sB, sC])
  refine wpList_q (by rfl) (.slice A ls.length c) ?he ?_
  case he => exact exec_cell 35 _ _ HBQ.out rfl rfl rfl Try.underlying35 rfl
  (try simp only [Act.put, sA, sB, sC])
  refine wpList_wp (by rfl) (fun K hK => ?_)
  (try go_simp)
  refine (cloneT lo A c ls _ HOW.out (by have := HL.out; omega)).mono ?_
  rintro e w2 ⟨A2, c2, rfl, hown, hb⟩
  (try go_wp2_with fail)
  refine hK.out _ _ ?_
  clear hK K
  (try simp only [Act.put, sA, sB, sC])
  have HS2 := Lib.hid (Since.trans HS1.out hb)
  have HBQ2 := Lib.hid (keep_blk hb HBQ.out)
  have HFr2 := Lib.hid (keep_own hb HOW.out)
  clear HS1 HBQ HOW
  clear hb
  have HCL := Lib.hid hown
  clear hown
  refine wpList_q (by rfl) (.slice A2 ls.length c2) ?he ?_
  case he => (first | rfl | (go_simp; (try with_reducible rfl)))
  (try simp only [Act.put, sA, sB, sC])
  refine wpList_nil ?_
  (try go_wp2_with fail)
  go_ret
  exact ⟨A2, c2, rfl, own_base HCL.out (Nat.le_refl _), HS2.out⟩
theorem listT (lo q : Nat) (room : Int) (ls : List AskV) (S : List Nat) (w : World) (hQ : QO lo q room ls S w) (hl : ls.length ≤ 10000) :
    Calls Try.prog 32 #[.pointer (some ⟨q, 0, none⟩)] w fun e w' => ∃ A' c', e = .returned (.slice A' ls.length c') ∧ w'.ownsRow w.heap.size 30 5 (.slice A' ls.length c') ls.length (rowsOf askC ls) ∧ Since w w' := by
  obtain ⟨h0, A, c, rfl, B, O⟩ := hQ
  exact listA lo q room ls A c w B O hl
theorem aheadT (lo q : Nat) (room : Int) (ls : List AskV) (S : List Nat) (s : Int) (w : World) (hQ : QO lo q room ls S w) (hl : ls.length ≤ 10000) :
    Calls Try.prog 30 #[.pointer (some ⟨q, 0, none⟩), .int .i64 s] w fun e w' => e = .returned (.tuple #[.int .i64 (((atS ls s).getD 0 : Nat) : Int), .bool (atS ls s).isSome]) ∧ Since w w' := by
  obtain ⟨h0, A, c, rfl, B, O⟩ := hQ
  cases hf : atS ls s with
  | none => exact aheadMiss lo q room ls A c s w B O (by omega) hf
  | some k => exact aheadHit lo q room ls A c s k w B O (by omega) hf
end Go.Proofs.Ytggafipgfgbbiaa.Qu
