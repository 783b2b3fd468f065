/-
  a link's Recv, further ways: walked.
  Conditions: what stands ahead of each.
-/
import Derived.Test.YtlihhjcneedgnaaProg
import Derived.Test.YtlihhjcneedgnaaLnkC
namespace Go.Proofs.Ytlihhjcneedgnaa.Ln
set_option linter.unusedVariables false
set_option linter.unusedSimpArgs false
open Go.RowKit Go.Proofs.Ytlihhjcneedgnaa.Ba Go.Proofs.Ytlihhjcneedgnaa.Mem Go.Proofs.Ytlihhjcneedgnaa.Ty Go.Proofs.Ytlihhjcneedgnaa.Tm Go.Proofs.Ytlihhjcneedgnaa.Tw
set_option maxRecDepth 100000
attribute [local irreducible] Go.wpList
set_option maxHeartbeats 4000000 in
theorem recv_y_newer (lo q : Nat) (k : LkV) (ls : List MsgV) (g m c : Nat) (p : PkV) (now : Int) (w : World) (hb : Blk w q 88 (lkC k (.slice (some ⟨g, 0, none⟩) ls.length c))) (ho : w.ownsRow lo 36 4 (.slice (some ⟨g, 0, none⟩) ls.length c) ls.length (rowsOf msgC ls)) (hl : ls.length ≤ 10000) (h1 : p.se = k.se) (h2 : p.ep = k.ep) (h0 : lo ≤ q) (h3 : ls.length = m + 1) (h4 : p.ak = Se.nx k.sq) (hc : m + 1 ≤ c) (h5 : p.ha = true) (h6 : decide (0 < Se.ne k.ak p.sq) = true) : Calls Try.prog 16 #[.pointer (some ⟨q, 0, none⟩), .agg #[.int .i64 p.se, .int .i64 p.ep, .int .i64 p.sq, .int .i64 p.ak, .bool p.ha, .int .i64 p.m.ki, .int .i64 p.m.a, .int .i64 p.m.b, .int .i64 p.m.c], .int .i64 now] w fun e w' => e = .returned (.tuple #[.agg #[.int .i64 0, .int .i64 0, .int .i64 0, .int .i64 0], .bool false]) ∧ LO lo q { k with he := mx2 k.he (cl now), sq := Se.nx k.sq, st := 0, du := 0 } ls.tail [q, g] w' ∧ Upd [q, g] w w' := by
  have HBQ := Lib.hid (show Blk w q 88 #[.int .i64 k.c.ca, .int .i64 k.c.fl, .int .i64 k.c.ft, .int .i64 k.c.se, .int .i64 k.c.dr, .int .i64 k.c.dw, .int .i64 k.c.ho, .int .i64 k.c.re, .int .i64 k.c.yi, .int .i64 k.c.qu, .int .i64 k.c.qo, .int .i64 k.c.lo, .int .i64 k.c.sl, .int .i64 k.c.rt, .int .i64 k.c.cp, .int .i64 k.c.tr, .int .i64 k.c.de, .int .i64 k.c.wi, .int .i64 k.se, .int .i64 k.ep, .slice (some ⟨g, 0, none⟩) ls.length c, .int .i64 k.sq, .int .i64 k.st, .int .i64 k.du, .int .i64 k.ak, .bool k.an, .int .i64 k.he] from hb)
  clear hb
  have HOW := Lib.hid ho
  clear ho
  have HL := Lib.hid hl
  clear hl
  have H1 := Lib.hid h1
  clear h1
  have H2 := Lib.hid h2
  clear h2
  have H0 := Lib.hid h0
  clear h0
  have H3 := Lib.hid h3
  clear h3
  have H4 := Lib.hid h4
  clear h4
  have HC := Lib.hid hc
  clear hc
  have H5 := Lib.hid h5
  clear h5
  have H6 := Lib.hid h6
  clear h6
  go_enter Try.func16, Try.ntmps16
  go_upto_region 1 with fail
  obtain ⟨w1, hw1⟩ : ∃ w1, w1 = ((w.alloc (.cells #[.int .i64 p.se, .int .i64 p.ep, .int .i64 p.sq, .int .i64 p.ak, .bool p.ha, .int .i64 p.m.ki, .int .i64 p.m.a, .int .i64 p.m.b, .int .i64 p.m.c] 38)).alloc (.cells #[.int .i64 0, .int .i64 0, .int .i64 0, .int .i64 0] 36)) := ⟨_, rfl⟩
  rw [← hw1]
  have HBP1 := Lib.hid (show Blk w1 (w.heap.size) 38 #[.int .i64 p.se, .int .i64 p.ep, .int .i64 p.sq, .int .i64 p.ak, .bool p.ha, .int .i64 p.m.ki, .int .i64 p.m.a, .int .i64 p.m.b, .int .i64 p.m.c] by rw [hw1]; exact Blk.alloc (Blk.at_ (by (try simp only [size_alloc])) _ _) _)
  have HBR1 := Lib.hid (show Blk w1 (w.heap.size + 1) 36 #[.int .i64 0, .int .i64 0, .int .i64 0, .int .i64 0] by rw [hw1]; exact Blk.at_ (by (try simp only [size_alloc])) _ _)
  have HS1 := Lib.hid (show Since w w1 by rw [hw1]; exact Since.alloc (Since.alloc (Since.refl w) _) _)
  have hNE : w.heap.size ≤ w.heap.size ∧ w.heap.size < w.heap.size + 1 := by omega
  have HNE := Lib.hid hNE
  clear hNE hw1
  generalize w.heap.size + 1 = bR at *
  have HNE3 := Lib.hid (show w.heap.size ≤ w.heap.size ∧ w.heap.size < bR from HNE.out)
  clear HNE
  have HBQ1 := Lib.hid (keep_blk HS1.out HBQ.out)
  have HOW1 := Lib.hid (keep_own HS1.out HOW.out)
  have HIQ := Lib.hid (own_ne_ty HOW.out HBQ.out (by decide))
  have HLO := Lib.hid (show q < w.heap.size from Blk.lt HBQ.out)
  have HIP := Lib.hid (own_far HOW.out (show w.heap.size ≤ w.heap.size by have := HNE3.out; omega))
  have HNP := Lib.hid (show q ≠ w.heap.size by have := HLO.out; have := HNE3.out; omega)
  have HIR := Lib.hid (own_far HOW.out (show w.heap.size ≤ bR by have := HNE3.out; omega))
  have HNR := Lib.hid (show q ≠ bR by have := HLO.out; have := HNE3.out; omega)
  clear HBQ HOW
  have hrK : ∀ W W' : World, Since W W' → (Since w W ∧ Blk W w.heap.size 38 #[.int .i64 p.se, .int .i64 p.ep, .int .i64 p.sq, .int .i64 p.ak, .bool p.ha, .int .i64 p.m.ki, .int .i64 p.m.a, .int .i64 p.m.b, .int .i64 p.m.c] ∧ Blk W bR 36 #[.int .i64 0, .int .i64 0, .int .i64 0, .int .i64 0] ∧ Blk W q 88 #[.int .i64 k.c.ca, .int .i64 k.c.fl, .int .i64 k.c.ft, .int .i64 k.c.se, .int .i64 k.c.dr, .int .i64 k.c.dw, .int .i64 k.c.ho, .int .i64 k.c.re, .int .i64 k.c.yi, .int .i64 k.c.qu, .int .i64 k.c.qo, .int .i64 k.c.lo, .int .i64 k.c.sl, .int .i64 k.c.rt, .int .i64 k.c.cp, .int .i64 k.c.tr, .int .i64 k.c.de, .int .i64 k.c.wi, .int .i64 k.se, .int .i64 k.ep, .slice (some ⟨g, 0, none⟩) ls.length c, .int .i64 k.sq, .int .i64 k.st, .int .i64 k.du, .int .i64 k.ak, .bool k.an, .int .i64 k.he] ∧ (W).ownsRow lo 36 4 (.slice (some ⟨g, 0, none⟩) ls.length c) ls.length (rowsOf msgC ls)) → (Since w W' ∧ Blk W' w.heap.size 38 #[.int .i64 p.se, .int .i64 p.ep, .int .i64 p.sq, .int .i64 p.ak, .bool p.ha, .int .i64 p.m.ki, .int .i64 p.m.a, .int .i64 p.m.b, .int .i64 p.m.c] ∧ Blk W' bR 36 #[.int .i64 0, .int .i64 0, .int .i64 0, .int .i64 0] ∧ Blk W' q 88 #[.int .i64 k.c.ca, .int .i64 k.c.fl, .int .i64 k.c.ft, .int .i64 k.c.se, .int .i64 k.c.dr, .int .i64 k.c.dw, .int .i64 k.c.ho, .int .i64 k.c.re, .int .i64 k.c.yi, .int .i64 k.c.qu, .int .i64 k.c.qo, .int .i64 k.c.lo, .int .i64 k.c.sl, .int .i64 k.c.rt, .int .i64 k.c.cp, .int .i64 k.c.tr, .int .i64 k.c.de, .int .i64 k.c.wi, .int .i64 k.se, .int .i64 k.ep, .slice (some ⟨g, 0, none⟩) ls.length c, .int .i64 k.sq, .int .i64 k.st, .int .i64 k.du, .int .i64 k.ak, .bool k.an, .int .i64 k.he] ∧ (W').ownsRow lo 36 4 (.slice (some ⟨g, 0, none⟩) ls.length c) ls.length (rowsOf msgC ls)) := fun W W' k ⟨h, h0, h1, h2, h3⟩ => ⟨h.trans k, keep_blk k h0, keep_blk k h1, keep_blk k h2, keep_own k h3⟩
  have hrS : (fun W : World => Since w W ∧ Blk W w.heap.size 38 #[.int .i64 p.se, .int .i64 p.ep, .int .i64 p.sq, .int .i64 p.ak, .bool p.ha, .int .i64 p.m.ki, .int .i64 p.m.a, .int .i64 p.m.b, .int .i64 p.m.c] ∧ Blk W bR 36 #[.int .i64 0, .int .i64 0, .int .i64 0, .int .i64 0] ∧ Blk W q 88 #[.int .i64 k.c.ca, .int .i64 k.c.fl, .int .i64 k.c.ft, .int .i64 k.c.se, .int .i64 k.c.dr, .int .i64 k.c.dw, .int .i64 k.c.ho, .int .i64 k.c.re, .int .i64 k.c.yi, .int .i64 k.c.qu, .int .i64 k.c.qo, .int .i64 k.c.lo, .int .i64 k.c.sl, .int .i64 k.c.rt, .int .i64 k.c.cp, .int .i64 k.c.tr, .int .i64 k.c.de, .int .i64 k.c.wi, .int .i64 k.se, .int .i64 k.ep, .slice (some ⟨g, 0, none⟩) ls.length c, .int .i64 k.sq, .int .i64 k.st, .int .i64 k.du, .int .i64 k.ak, .bool k.an, .int .i64 k.he] ∧ (W).ownsRow lo 36 4 (.slice (some ⟨g, 0, none⟩) ls.length c) ls.length (rowsOf msgC ls)) w1 := ⟨HS1.out, HBP1.out, HBR1.out, HBQ1.out, HOW1.out⟩
  have HRK := Lib.hid hrK
  have HRD := Lib.hid (show (fun W : World => Since w W ∧ Blk W w.heap.size 38 #[.int .i64 p.se, .int .i64 p.ep, .int .i64 p.sq, .int .i64 p.ak, .bool p.ha, .int .i64 p.m.ki, .int .i64 p.m.a, .int .i64 p.m.b, .int .i64 p.m.c] ∧ Blk W bR 36 #[.int .i64 0, .int .i64 0, .int .i64 0, .int .i64 0] ∧ Blk W q 88 #[.int .i64 k.c.ca, .int .i64 k.c.fl, .int .i64 k.c.ft, .int .i64 k.c.se, .int .i64 k.c.dr, .int .i64 k.c.dw, .int .i64 k.c.ho, .int .i64 k.c.re, .int .i64 k.c.yi, .int .i64 k.c.qu, .int .i64 k.c.qo, .int .i64 k.c.lo, .int .i64 k.c.sl, .int .i64 k.c.rt, .int .i64 k.c.cp, .int .i64 k.c.tr, .int .i64 k.c.de, .int .i64 k.c.wi, .int .i64 k.se, .int .i64 k.ep, .slice (some ⟨g, 0, none⟩) ls.length c, .int .i64 k.sq, .int .i64 k.st, .int .i64 k.du, .int .i64 k.ak, .bool k.an, .int .i64 k.he] ∧ (W).ownsRow lo 36 4 (.slice (some ⟨g, 0, none⟩) ls.length c) ls.length (rowsOf msgC ls)) (World.drew w1) from hrK _ _ ((Since.refl w1).drew) hrS)
  clear hrK hrS
  refine wp_region_held_drew (S := fun W : World => Since w W ∧ Blk W w.heap.size 38 #[.int .i64 p.se, .int .i64 p.ep, .int .i64 p.sq, .int .i64 p.ak, .bool p.ha, .int .i64 p.m.ki, .int .i64 p.m.a, .int .i64 p.m.b, .int .i64 p.m.c] ∧ Blk W bR 36 #[.int .i64 0, .int .i64 0, .int .i64 0, .int .i64 0] ∧ Blk W q 88 #[.int .i64 k.c.ca, .int .i64 k.c.fl, .int .i64 k.c.ft, .int .i64 k.c.se, .int .i64 k.c.dr, .int .i64 k.c.dw, .int .i64 k.c.ho, .int .i64 k.c.re, .int .i64 k.c.yi, .int .i64 k.c.qu, .int .i64 k.c.qo, .int .i64 k.c.lo, .int .i64 k.c.sl, .int .i64 k.c.rt, .int .i64 k.c.cp, .int .i64 k.c.tr, .int .i64 k.c.de, .int .i64 k.c.wi, .int .i64 k.se, .int .i64 k.ep, .slice (some ⟨g, 0, none⟩) ls.length c, .int .i64 k.sq, .int .i64 k.st, .int .i64 k.du, .int .i64 k.ak, .bool k.an, .int .i64 k.he] ∧ (W).ownsRow lo 36 4 (.slice (some ⟨g, 0, none⟩) ls.length c) ls.length (rowsOf msgC ls)) (by kernel_rfl) HRD.out (fun hHeld => ?_)
  refine wpAnyH_take (i := 0) (oi := ?o1__0) (v := .pointer (some ⟨q, 0, none⟩)) ?h1__0 (by kernel_rfl) (by kernel_rfl) (by kernel_rfl) ?q1__0 ?y1__0 (by assumption) ?_
  case h1__0 => (first | (simp only [gA, gB, gC]; done) | (simp only [gA, gB, gC]; exact rfl))
  case q1__0 => exact fun _ _ _ h => h
  case y1__0 => (refine Or.inl ⟨rfl, ?_⟩; intro w hSw; (first | rfl | (go_simp; (try with_reducible rfl))))
  (try simp only [Act.put, sA, sB, sC])
  refine wpAnyH_take (i := 1) (oi := ?o1__1) (v := .bool false) ?h1__1 (by kernel_rfl) (by kernel_rfl) (by kernel_rfl) ?q1__1 ?y1__1 (by assumption) ?_
  case h1__1 => (first | (simp only [gA, gB, gC]; done) | (simp only [gA, gB, gC]; exact rfl))
  case q1__1 => exact fun _ _ _ h => h
  case y1__1 => (refine Or.inl ⟨rfl, ?_⟩; intro w hSw; (first | rfl | (go_simp; (try with_reducible rfl))))
  (try simp only [Act.put, sA, sB, sC])
  refine wpAnyH_take (i := 2) (oi := ?o1__2) (v := .bool false) ?h1__2 (by kernel_rfl) (by kernel_rfl) (by kernel_rfl) ?q1__2 ?y1__2 (by assumption) ?_
  case h1__2 => (first | (simp only [gA, gB, gC]; done) | (simp only [gA, gB, gC]; exact rfl))
  case q1__2 => exact fun _ _ _ h => h
  case y1__2 => (refine Or.inl ⟨rfl, ?_⟩; intro w hSw; (first | rfl | (go_simp; (try with_reducible rfl))))
  (try simp only [Act.put, sA, sB, sC])
  refine wpAnyH_take (i := 3) (oi := ?o1__3) (v := .pointer (some ⟨w.heap.size, 0, none⟩)) ?h1__3 (by kernel_rfl) (by kernel_rfl) (by kernel_rfl) ?q1__3 ?y1__3 (by assumption) ?_
  case h1__3 => (first | (simp only [gA, gB, gC]; done) | (simp only [gA, gB, gC]; exact rfl))
  case q1__3 => exact fun _ _ _ h => h
  case y1__3 => (refine Or.inl ⟨rfl, ?_⟩; intro w hSw; (first | rfl | (go_simp; (try with_reducible rfl))))
  (try simp only [Act.put, sA, sB, sC])
  refine wpAnyH_take (i := 4) (oi := ?o1__4) (v := .int .i64 p.se) ?h1__4 (by kernel_rfl) (by kernel_rfl) (by kernel_rfl) ?q1__4 ?y1__4 (by assumption) ?_
  case h1__4 => (first | (simp only [gA, gB, gC]; done) | (simp only [gA, gB, gC]; exact rfl))
  case q1__4 => exact fun _ _ _ h => h
  case y1__4 => (refine Or.inl ⟨rfl, ?_⟩; intro w hSw; exact exec_cell 3 _ _ hSw.2.1 rfl rfl rfl Try.underlying3 rfl)
  (try simp only [Act.put, sA, sB, sC])
  refine wpAnyH_take (i := 5) (oi := ?o1__5) (v := .pointer (some ⟨q, 0, none⟩)) ?h1__5 (by kernel_rfl) (by kernel_rfl) (by kernel_rfl) ?q1__5 ?y1__5 (by assumption) ?_
  case h1__5 => (first | (simp only [gA, gB, gC]; done) | (simp only [gA, gB, gC]; exact rfl))
  case q1__5 => exact fun _ _ _ h => h
  case y1__5 => (refine Or.inl ⟨rfl, ?_⟩; intro w hSw; (first | rfl | (go_simp; (try with_reducible rfl))))
  (try simp only [Act.put, sA, sB, sC])
  refine wpAnyH_take (i := 6) (oi := ?o1__6) (v := .pointer (some ⟨q, 0, none⟩)) ?h1__6 (by kernel_rfl) (by kernel_rfl) (by kernel_rfl) ?q1__6 ?y1__6 (by assumption) ?_
  case h1__6 => (first | (simp only [gA, gB, gC]; done) | (simp only [gA, gB, gC]; exact rfl))
  case q1__6 => exact fun _ _ _ h => h
  case y1__6 => (refine Or.inl ⟨rfl, ?_⟩; intro w hSw; (first | rfl | (go_simp; (try with_reducible rfl))))
  (try simp only [Act.put, sA, sB, sC])
  refine wpAnyH_take (i := 7) (oi := ?o1__7) (v := .pointer (some ⟨q, 18, none⟩)) ?h1__7 (by kernel_rfl) (by kernel_rfl) (by kernel_rfl) ?q1__7 ?y1__7 (by assumption) ?_
  case h1__7 => (first | (simp only [gA, gB, gC]; done) | (simp only [gA, gB, gC]; exact rfl))
  case q1__7 => exact fun _ _ _ h => h
  case y1__7 => (refine Or.inl ⟨rfl, ?_⟩; intro w hSw; (first | rfl | (go_simp; (try with_reducible rfl))))
  (try simp only [Act.put, sA, sB, sC])
  refine wpAnyH_take (i := 8) (oi := ?o1__8) (v := .int .i64 k.se) ?h1__8 (by kernel_rfl) (by kernel_rfl) (by kernel_rfl) ?q1__8 ?y1__8 (by assumption) ?_
  case h1__8 => (first | (simp only [gA, gB, gC]; done) | (simp only [gA, gB, gC]; exact rfl))
  case q1__8 => exact fun _ _ _ h => h
  case y1__8 => (refine Or.inl ⟨rfl, ?_⟩; intro w hSw; exact exec_cell 3 _ _ hSw.2.2.2.1 rfl rfl rfl Try.underlying3 rfl)
  (try simp only [Act.put, sA, sB, sC])
  refine wpAnyH_take (i := 9) (oi := ?o1__9) (v := .bool false) ?h1__9 (by kernel_rfl) (by kernel_rfl) (by kernel_rfl) ?q1__9 ?y1__9 (by assumption) ?_
  case h1__9 => (first | (simp only [gA, gB, gC]; done) | (simp only [gA, gB, gC]; exact rfl))
  case q1__9 => exact fun _ _ _ h => h
  case y1__9 => (refine Or.inl ⟨rfl, ?_⟩; intro w hSw; (have q0 := H1.out; go_simp; (first | done | rfl | omega)))
  (try simp only [Act.put, sA, sB, sC])
  refine wpAnyH_take (i := 10) (oi := ?o1__10) (v := .bool false) ?h1__10 (by kernel_rfl) (by kernel_rfl) (by kernel_rfl) ?q1__10 ?y1__10 (by assumption) ?_
  case h1__10 => (first | (simp only [gA, gB, gC]; done) | (simp only [gA, gB, gC]; exact rfl))
  case q1__10 => exact fun _ _ _ h => h
  case y1__10 => (refine Or.inl ⟨rfl, ?_⟩; intro w hSw; (first | rfl | (go_simp; (try with_reducible rfl))))
  (try simp only [Act.put, sA, sB, sC])
  refine wpAnyH_take (i := 11) (oi := ?o1__11) (v := .bool false) ?h1__11 (by kernel_rfl) (by kernel_rfl) (by kernel_rfl) ?q1__11 ?y1__11 (by assumption) ?_
  case h1__11 => (first | (simp only [gA, gB, gC]; done) | (simp only [gA, gB, gC]; exact rfl))
  case q1__11 => exact fun _ _ _ h => h
  case y1__11 => (refine Or.inl ⟨rfl, ?_⟩; intro w hSw; (first | rfl | (go_simp; (try with_reducible rfl))))
  (try simp only [Act.put, sA, sB, sC])
  refine wpAnyH_take (i := 12) (oi := ?o1__12) (v := .pointer (some ⟨w.heap.size, 1, none⟩)) ?h1__12 (by kernel_rfl) (by kernel_rfl) (by kernel_rfl) ?q1__12 ?y1__12 (by assumption) ?_
  case h1__12 => (first | (simp only [gA, gB, gC]; done) | (simp only [gA, gB, gC]; exact rfl))
  case q1__12 => exact fun _ _ _ h => h
  case y1__12 => (refine Or.inl ⟨rfl, ?_⟩; intro w hSw; (first | rfl | (go_simp; (try with_reducible rfl))))
  (try simp only [Act.put, sA, sB, sC])
  refine wpAnyH_take (i := 13) (oi := ?o1__13) (v := .int .i64 p.ep) ?h1__13 (by kernel_rfl) (by kernel_rfl) (by kernel_rfl) ?q1__13 ?y1__13 (by assumption) ?_
  case h1__13 => (first | (simp only [gA, gB, gC]; done) | (simp only [gA, gB, gC]; exact rfl))
  case q1__13 => exact fun _ _ _ h => h
  case y1__13 => (refine Or.inl ⟨rfl, ?_⟩; intro w hSw; exact exec_cell 3 _ _ hSw.2.1 rfl rfl rfl Try.underlying3 rfl)
  (try simp only [Act.put, sA, sB, sC])
  refine wpAnyH_take (i := 14) (oi := ?o1__14) (v := .pointer (some ⟨q, 0, none⟩)) ?h1__14 (by kernel_rfl) (by kernel_rfl) (by kernel_rfl) ?q1__14 ?y1__14 (by assumption) ?_
  case h1__14 => (first | (simp only [gA, gB, gC]; done) | (simp only [gA, gB, gC]; exact rfl))
  case q1__14 => exact fun _ _ _ h => h
  case y1__14 => (refine Or.inl ⟨rfl, ?_⟩; intro w hSw; (first | rfl | (go_simp; (try with_reducible rfl))))
  (try simp only [Act.put, sA, sB, sC])
  refine wpAnyH_take (i := 15) (oi := ?o1__15) (v := .pointer (some ⟨q, 0, none⟩)) ?h1__15 (by kernel_rfl) (by kernel_rfl) (by kernel_rfl) ?q1__15 ?y1__15 (by assumption) ?_
  case h1__15 => (first | (simp only [gA, gB, gC]; done) | (simp only [gA, gB, gC]; exact rfl))
  case q1__15 => exact fun _ _ _ h => h
  case y1__15 => (refine Or.inl ⟨rfl, ?_⟩; intro w hSw; (first | rfl | (go_simp; (try with_reducible rfl))))
  (try simp only [Act.put, sA, sB, sC])
  refine wpAnyH_take (i := 16) (oi := ?o1__16) (v := .pointer (some ⟨q, 19, none⟩)) ?h1__16 (by kernel_rfl) (by kernel_rfl) (by kernel_rfl) ?q1__16 ?y1__16 (by assumption) ?_
  case h1__16 => (first | (simp only [gA, gB, gC]; done) | (simp only [gA, gB, gC]; exact rfl))
  case q1__16 => exact fun _ _ _ h => h
  case y1__16 => (refine Or.inl ⟨rfl, ?_⟩; intro w hSw; (first | rfl | (go_simp; (try with_reducible rfl))))
  (try simp only [Act.put, sA, sB, sC])
  refine wpAnyH_take (i := 17) (oi := ?o1__17) (v := .int .i64 k.ep) ?h1__17 (by kernel_rfl) (by kernel_rfl) (by kernel_rfl) ?q1__17 ?y1__17 (by assumption) ?_
  case h1__17 => (first | (simp only [gA, gB, gC]; done) | (simp only [gA, gB, gC]; exact rfl))
  case q1__17 => exact fun _ _ _ h => h
  case y1__17 => (refine Or.inl ⟨rfl, ?_⟩; intro w hSw; exact exec_cell 3 _ _ hSw.2.2.2.1 rfl rfl rfl Try.underlying3 rfl)
  (try simp only [Act.put, sA, sB, sC])
  refine wpAnyH_take (i := 18) (oi := ?o1__18) (v := .bool false) ?h1__18 (by kernel_rfl) (by kernel_rfl) (by kernel_rfl) ?q1__18 ?y1__18 (by assumption) ?_
  case h1__18 => (first | (simp only [gA, gB, gC]; done) | (simp only [gA, gB, gC]; exact rfl))
  case q1__18 => exact fun _ _ _ h => h
  case y1__18 => (refine Or.inl ⟨rfl, ?_⟩; intro w hSw; (have q0 := H2.out; go_simp; (first | done | rfl | omega)))
  (try simp only [Act.put, sA, sB, sC])
  refine wpAnyH_take (i := 19) (oi := ?o1__19) (v := .bool false) ?h1__19 (by kernel_rfl) (by kernel_rfl) (by kernel_rfl) ?q1__19 ?y1__19 (by assumption) ?_
  case h1__19 => (first | (simp only [gA, gB, gC]; done) | (simp only [gA, gB, gC]; exact rfl))
  case q1__19 => exact fun _ _ _ h => h
  case y1__19 => (refine Or.inl ⟨rfl, ?_⟩; intro w hSw; (first | rfl | (go_simp; (try with_reducible rfl))))
  (try simp only [Act.put, sA, sB, sC])
  refine wpAnyH_done (by kernel_rfl) ?_ _
  have HSd1 := Lib.hid hHeld.1
  have HBPd1 := Lib.hid (hHeld.2.1)
  have HBRd1 := Lib.hid (hHeld.2.2.1)
  have HBQd1 := Lib.hid (hHeld.2.2.2.1)
  have HFrd1 := Lib.hid (hHeld.2.2.2.2)
  clear hHeld HRK HRD HS1 HBP1 HBR1 HBQ1 HOW1
  have HSU := Lib.hid (show Upd [q, g] w w1.drew from Upd.of_since HSd1.out)
  clear HSd1
  go_upto_region 3 with fail
  go_cut [] (fun  wx => Hid (Upd [q, g] w wx ∧ Blk wx w.heap.size 38 #[.int .i64 p.se, .int .i64 p.ep, .int .i64 p.sq, .int .i64 p.ak, .bool p.ha, .int .i64 p.m.ki, .int .i64 p.m.a, .int .i64 p.m.b, .int .i64 p.m.c] ∧ Blk wx bR 36 #[.int .i64 0, .int .i64 0, .int .i64 0, .int .i64 0] ∧ Blk wx q 88 #[.int .i64 k.c.ca, .int .i64 k.c.fl, .int .i64 k.c.ft, .int .i64 k.c.se, .int .i64 k.c.dr, .int .i64 k.c.dw, .int .i64 k.c.ho, .int .i64 k.c.re, .int .i64 k.c.yi, .int .i64 k.c.qu, .int .i64 k.c.qo, .int .i64 k.c.lo, .int .i64 k.c.sl, .int .i64 k.c.rt, .int .i64 k.c.cp, .int .i64 k.c.tr, .int .i64 k.c.de, .int .i64 k.c.wi, .int .i64 k.se, .int .i64 k.ep, .slice (some ⟨g, 0, none⟩) ls.length c, .int .i64 k.sq, .int .i64 k.st, .int .i64 k.du, .int .i64 k.ak, .bool k.an, .int .i64 (mx2 k.he (cl now))] ∧ (wx).ownsRow lo 36 4 (.slice (some ⟨g, 0, none⟩) ls.length c) ls.length (rowsOf msgC ls)))
  case first =>
    have hrK : ∀ W W' : World, Since W W' → (Upd [q, g] w W ∧ Blk W w.heap.size 38 #[.int .i64 p.se, .int .i64 p.ep, .int .i64 p.sq, .int .i64 p.ak, .bool p.ha, .int .i64 p.m.ki, .int .i64 p.m.a, .int .i64 p.m.b, .int .i64 p.m.c] ∧ Blk W bR 36 #[.int .i64 0, .int .i64 0, .int .i64 0, .int .i64 0] ∧ HasRow W q 88 27 ∧ (W).ownsRow lo 36 4 (.slice (some ⟨g, 0, none⟩) ls.length c) ls.length (rowsOf msgC ls)) → (Upd [q, g] w W' ∧ Blk W' w.heap.size 38 #[.int .i64 p.se, .int .i64 p.ep, .int .i64 p.sq, .int .i64 p.ak, .bool p.ha, .int .i64 p.m.ki, .int .i64 p.m.a, .int .i64 p.m.b, .int .i64 p.m.c] ∧ Blk W' bR 36 #[.int .i64 0, .int .i64 0, .int .i64 0, .int .i64 0] ∧ HasRow W' q 88 27 ∧ (W').ownsRow lo 36 4 (.slice (some ⟨g, 0, none⟩) ls.length c) ls.length (rowsOf msgC ls)) := fun W W' k ⟨h, h0, h1, h2, h3⟩ => ⟨h.trans k, keep_blk k h0, keep_blk k h1, HasRow.keep k h2, keep_own k h3⟩
    have hrS : (fun W : World => Upd [q, g] w W ∧ Blk W w.heap.size 38 #[.int .i64 p.se, .int .i64 p.ep, .int .i64 p.sq, .int .i64 p.ak, .bool p.ha, .int .i64 p.m.ki, .int .i64 p.m.a, .int .i64 p.m.b, .int .i64 p.m.c] ∧ Blk W bR 36 #[.int .i64 0, .int .i64 0, .int .i64 0, .int .i64 0] ∧ HasRow W q 88 27 ∧ (W).ownsRow lo 36 4 (.slice (some ⟨g, 0, none⟩) ls.length c) ls.length (rowsOf msgC ls)) w1.drew := ⟨HSU.out, HBPd1.out, HBRd1.out, HasRow.of HBQd1.out rfl, HFrd1.out⟩
    have HRK := Lib.hid hrK
    have HRD := Lib.hid (show (fun W : World => Upd [q, g] w W ∧ Blk W w.heap.size 38 #[.int .i64 p.se, .int .i64 p.ep, .int .i64 p.sq, .int .i64 p.ak, .bool p.ha, .int .i64 p.m.ki, .int .i64 p.m.a, .int .i64 p.m.b, .int .i64 p.m.c] ∧ Blk W bR 36 #[.int .i64 0, .int .i64 0, .int .i64 0, .int .i64 0] ∧ HasRow W q 88 27 ∧ (W).ownsRow lo 36 4 (.slice (some ⟨g, 0, none⟩) ls.length c) ls.length (rowsOf msgC ls)) (World.drew w1.drew) from hrK _ _ ((Since.refl w1.drew).drew) hrS)
    clear hrK hrS
    have HPQ := Lib.hid (show Blk (World.drew w1.drew) q 88 #[.int .i64 k.c.ca, .int .i64 k.c.fl, .int .i64 k.c.ft, .int .i64 k.c.se, .int .i64 k.c.dr, .int .i64 k.c.dw, .int .i64 k.c.ho, .int .i64 k.c.re, .int .i64 k.c.yi, .int .i64 k.c.qu, .int .i64 k.c.qo, .int .i64 k.c.lo, .int .i64 k.c.sl, .int .i64 k.c.rt, .int .i64 k.c.cp, .int .i64 k.c.tr, .int .i64 k.c.de, .int .i64 k.c.wi, .int .i64 k.se, .int .i64 k.ep, .slice (some ⟨g, 0, none⟩) ls.length c, .int .i64 k.sq, .int .i64 k.st, .int .i64 k.du, .int .i64 k.ak, .bool k.an, .int .i64 k.he] from HBQd1.out)
    refine wp_region_held_drew (S := fun W : World => Upd [q, g] w W ∧ Blk W w.heap.size 38 #[.int .i64 p.se, .int .i64 p.ep, .int .i64 p.sq, .int .i64 p.ak, .bool p.ha, .int .i64 p.m.ki, .int .i64 p.m.a, .int .i64 p.m.b, .int .i64 p.m.c] ∧ Blk W bR 36 #[.int .i64 0, .int .i64 0, .int .i64 0, .int .i64 0] ∧ HasRow W q 88 27 ∧ (W).ownsRow lo 36 4 (.slice (some ⟨g, 0, none⟩) ls.length c) ls.length (rowsOf msgC ls)) (by kernel_rfl) HRD.out (fun hHeld => ?_)
    refine wpAnyH_take (i := 0) (oi := ?o3__0) (v := .pointer (some ⟨q, 0, none⟩)) ?h3__0 (by kernel_rfl) (by kernel_rfl) (by kernel_rfl) ?q3__0 ?y3__0 (by assumption) ?_
    case h3__0 => (first | (simp only [gA, gB, gC]; done) | (simp only [gA, gB, gC]; exact rfl))
    case q3__0 => exact fun _ _ _ h => h
    case y3__0 => (refine Or.inl ⟨rfl, ?_⟩; intro w hSw; (first | rfl | (go_simp; (try with_reducible rfl))))
    (try simp only [Act.put, sA, sB, sC])
    refine wpAnyH_take (i := 1) (oi := ?o3__1) (v := .pointer (some ⟨q, 0, none⟩)) ?h3__1 (by kernel_rfl) (by kernel_rfl) (by kernel_rfl) ?q3__1 ?y3__1 (by assumption) ?_
    case h3__1 => (first | (simp only [gA, gB, gC]; done) | (simp only [gA, gB, gC]; exact rfl))
    case q3__1 => exact fun _ _ _ h => h
    case y3__1 => (refine Or.inl ⟨rfl, ?_⟩; intro w hSw; (first | rfl | (go_simp; (try with_reducible rfl))))
    (try simp only [Act.put, sA, sB, sC])
    refine wpAnyH_take (i := 2) (oi := ?o3__2) (v := .pointer (some ⟨q, 0, none⟩)) ?h3__2 (by kernel_rfl) (by kernel_rfl) (by kernel_rfl) ?q3__2 ?y3__2 (by assumption) ?_
    case h3__2 => (first | (simp only [gA, gB, gC]; done) | (simp only [gA, gB, gC]; exact rfl))
    case q3__2 => exact fun _ _ _ h => h
    case y3__2 => (refine Or.inl ⟨rfl, ?_⟩; intro w hSw; (first | rfl | (go_simp; (try with_reducible rfl))))
    (try simp only [Act.put, sA, sB, sC])
    refine wpAnyH_take (i := 3) (oi := ?o3__3) (v := .pointer (some ⟨q, 26, none⟩)) ?h3__3 (by kernel_rfl) (by kernel_rfl) (by kernel_rfl) ?q3__3 ?y3__3 (by assumption) ?_
    case h3__3 => (first | (simp only [gA, gB, gC]; done) | (simp only [gA, gB, gC]; exact rfl))
    case q3__3 => exact fun _ _ _ h => h
    case y3__3 => (refine Or.inl ⟨rfl, ?_⟩; intro w hSw; (first | rfl | (go_simp; (try with_reducible rfl))))
    (try simp only [Act.put, sA, sB, sC])
    refine wpAnyH_take (i := 5) (oi := ?o3__5) (v := .int .i64 now) ?h3__5 (by kernel_rfl) (by kernel_rfl) (by kernel_rfl) ?q3__5 ?y3__5 (by assumption) ?_
    case h3__5 => (first | (simp only [gA, gB, gC]; done) | (simp only [gA, gB, gC]; exact rfl))
    case q3__5 => exact fun _ _ _ h => h
    case y3__5 => (refine Or.inl ⟨rfl, ?_⟩; intro w hSw; (first | rfl | (go_simp; (try with_reducible rfl))))
    (try simp only [Act.put, sA, sB, sC])
    refine wpAnyH_ready (rs := [4, 6]) (by kernel_rfl) (by simp) ?_
    refine AllReadyH.cons (o := ?o3__4b) ?h3__4b (fun K hK => ?g3__4b) (AllReadyH.cons (o := ?o3__6b) ?h3__6b (fun K hK => ?g3__6b) AllReadyH.nil)
    case h3__4b => (first | (simp only [gA, gB, gC]; done) | (simp only [gA, gB, gC]; exact rfl))
    case h3__6b => (first | (simp only [gA, gB, gC]; done) | (simp only [gA, gB, gC]; exact rfl))
    case g3__4b =>
      rw [if_pos (by rfl)]
      refine wp_q (.int .i64 k.he) ?e3_b4_4 ?_
      case e3_b4_4 => exact exec_cell 3 _ _ HPQ.out rfl rfl rfl Try.underlying3 rfl
      refine hK.out _ _ hHeld (fun hHeld2 => ?_)
      clear hK K hHeld2
      (try simp only [Act.put, sA, sB, sC])
      refine wpAnyH_ready (rs := [6]) (by kernel_rfl) (by simp) ?_
      refine AllReadyH.cons (o := ?o3_b4_6) ?h3_b4_6 (fun K hK => ?_) AllReadyH.nil
      case h3_b4_6 => (first | (simp only [gA, gB, gC]; done) | (simp only [gA, gB, gC]; exact rfl))
      (try go_simp)
      refine (clT _ _).mono ?_
      rintro e w' ⟨rfl, rfl⟩
      (try go_wp2_with fail)
      refine hK.out _ _ hHeld (fun hHeld2 => ?_)
      clear hK K hHeld2
      (try simp only [Act.put, sA, sB, sC])
      refine wpAnyH_take (i := 7) (oi := ?o3_b4_7) (v := .int .i64 (mx2 k.he (cl now))) ?h3_b4_7 (by kernel_rfl) (by kernel_rfl) (by kernel_rfl) ?q3_b4_7 ?y3_b4_7 (by assumption) ?_
      case h3_b4_7 => (first | (simp only [gA, gB, gC]; done) | (simp only [gA, gB, gC]; exact rfl))
      case q3_b4_7 => exact fun _ _ _ h => h
      case y3_b4_7 => (refine Or.inl ⟨rfl, ?_⟩; intro w hSw; (unfold mx2; go_simp; (first | done | rfl)))
      (try simp only [Act.put, sA, sB, sC])
      refine wpAnyH_take (i := 8) (oi := ?o3_b4_8) (v := .pointer (some ⟨q, 0, none⟩)) ?h3_b4_8 (by kernel_rfl) (by kernel_rfl) (by kernel_rfl) ?q3_b4_8 ?y3_b4_8 (by assumption) ?_
      case h3_b4_8 => (first | (simp only [gA, gB, gC]; done) | (simp only [gA, gB, gC]; exact rfl))
      case q3_b4_8 => exact fun _ _ _ h => h
      case y3_b4_8 => (refine Or.inl ⟨rfl, ?_⟩; intro w hSw; (first | rfl | (go_simp; (try with_reducible rfl))))
      (try simp only [Act.put, sA, sB, sC])
      refine wpAnyH_take (i := 9) (oi := ?o3_b4_9) (v := .pointer (some ⟨q, 26, none⟩)) ?h3_b4_9 (by kernel_rfl) (by kernel_rfl) (by kernel_rfl) ?q3_b4_9 ?y3_b4_9 (by assumption) ?_
      case h3_b4_9 => (first | (simp only [gA, gB, gC]; done) | (simp only [gA, gB, gC]; exact rfl))
      case q3_b4_9 => exact fun _ _ _ h => h
      case y3_b4_9 => (refine Or.inl ⟨rfl, ?_⟩; intro w hSw; (first | rfl | (go_simp; (try with_reducible rfl))))
      (try simp only [Act.put, sA, sB, sC])
      refine wpAnyH_ready (rs := [10]) (by kernel_rfl) (by simp) ?_
      refine AllReadyH.cons (o := ?o3_b4_10) ?h3_b4_10 (fun K hK => ?_) AllReadyH.nil
      case h3_b4_10 => (first | (simp only [gA, gB, gC]; done) | (simp only [gA, gB, gC]; exact rfl))
      rw [if_pos (by rfl)]
      refine wp_st_cell 3 _ _ rfl #[.int .i64 k.c.ca, .int .i64 k.c.fl, .int .i64 k.c.ft, .int .i64 k.c.se, .int .i64 k.c.dr, .int .i64 k.c.dw, .int .i64 k.c.ho, .int .i64 k.c.re, .int .i64 k.c.yi, .int .i64 k.c.qu, .int .i64 k.c.qo, .int .i64 k.c.lo, .int .i64 k.c.sl, .int .i64 k.c.rt, .int .i64 k.c.cp, .int .i64 k.c.tr, .int .i64 k.c.de, .int .i64 k.c.wi, .int .i64 k.se, .int .i64 k.ep, .slice (some ⟨g, 0, none⟩) ls.length c, .int .i64 k.sq, .int .i64 k.st, .int .i64 k.du, .int .i64 k.ak, .bool k.an, .int .i64 (mx2 k.he (cl now))] (.int .i64 (mx2 k.he (cl now))) rfl rfl HPQ.out (by show 26 < 27; decide) rfl (by first | rfl | simp [Value.oneCell']) (by kernel_rfl) ?_
      clear HPQ
      intro w2 hw
      have HRQ := Lib.hid (show Blk w2 q 88 #[.int .i64 k.c.ca, .int .i64 k.c.fl, .int .i64 k.c.ft, .int .i64 k.c.se, .int .i64 k.c.dr, .int .i64 k.c.dw, .int .i64 k.c.ho, .int .i64 k.c.re, .int .i64 k.c.yi, .int .i64 k.c.qu, .int .i64 k.c.qo, .int .i64 k.c.lo, .int .i64 k.c.sl, .int .i64 k.c.rt, .int .i64 k.c.cp, .int .i64 k.c.tr, .int .i64 k.c.de, .int .i64 k.c.wi, .int .i64 k.se, .int .i64 k.ep, .slice (some ⟨g, 0, none⟩) ls.length c, .int .i64 k.sq, .int .i64 k.st, .int .i64 k.du, .int .i64 k.ak, .bool k.an, .int .i64 (mx2 k.he (cl now))] by obtain ⟨old, Bo, _⟩ := hHeld.2.2.2.1; rw [hw]; exact Blk.row Bo _)
      have hHeld3 : (fun W : World => Upd [q, g] w W ∧ Blk W w.heap.size 38 #[.int .i64 p.se, .int .i64 p.ep, .int .i64 p.sq, .int .i64 p.ak, .bool p.ha, .int .i64 p.m.ki, .int .i64 p.m.a, .int .i64 p.m.b, .int .i64 p.m.c] ∧ Blk W bR 36 #[.int .i64 0, .int .i64 0, .int .i64 0, .int .i64 0] ∧ HasRow W q 88 27 ∧ (W).ownsRow lo 36 4 (.slice (some ⟨g, 0, none⟩) ls.length c) ls.length (rowsOf msgC ls)) w2 := ⟨by rw [hw]; exact Upd.setRow hHeld.1 (.inl (by simp)) _, by rw [hw]; exact Blk.row_far (hHeld.2.1) (Ne.symm HNP.out) _, by rw [hw]; exact Blk.row_far (hHeld.2.2.1) (Ne.symm HNR.out) _, HasRow.of HRQ.out rfl, by rw [hw]; exact own_row_far (hHeld.2.2.2.2) HIQ.out _⟩
      refine hK.out _ _ hHeld3 (fun hHeld2 => ?_)
      clear hK K hHeld hHeld3 hw
      have hHeld := hHeld2
      clear hHeld2
      (try simp only [Act.put, sA, sB, sC])
      refine wpAnyH_done (by kernel_rfl) ?_ _
      have HSd3 := Lib.hid hHeld.1
      have HBPd3 := Lib.hid (hHeld.2.1)
      have HBRd3 := Lib.hid (hHeld.2.2.1)
      have HBQd3 := Lib.hid HRQ.out
      clear HRQ
      have HFrd3 := Lib.hid (hHeld.2.2.2.2)
      clear hHeld HRK HRD HSU HBPd1 HBRd1 HBQd1 HFrd1
      go_wp2_with fail
      go_meet
      case rel => exact Lib.hid ⟨HSd3.out, HBPd3.out, HBRd3.out, HBQd3.out, HFrd3.out⟩
    case g3__6b =>
      (try go_simp)
      refine (clT _ _).mono ?_
      rintro e w' ⟨rfl, rfl⟩
      (try go_wp2_with fail)
      refine hK.out _ _ hHeld (fun hHeld2 => ?_)
      clear hK K hHeld2
      (try simp only [Act.put, sA, sB, sC])
      refine wpAnyH_ready (rs := [4]) (by kernel_rfl) (by simp) ?_
      refine AllReadyH.cons (o := ?o3_b6_4) ?h3_b6_4 (fun K hK => ?_) AllReadyH.nil
      case h3_b6_4 => (first | (simp only [gA, gB, gC]; done) | (simp only [gA, gB, gC]; exact rfl))
      rw [if_pos (by rfl)]
      refine wp_q (.int .i64 k.he) ?e3_b6_4 ?_
      case e3_b6_4 => exact exec_cell 3 _ _ HPQ.out rfl rfl rfl Try.underlying3 rfl
      refine hK.out _ _ hHeld (fun hHeld2 => ?_)
      clear hK K hHeld2
      (try simp only [Act.put, sA, sB, sC])
      refine wpAnyH_take (i := 7) (oi := ?o3_b6_7) (v := .int .i64 (mx2 k.he (cl now))) ?h3_b6_7 (by kernel_rfl) (by kernel_rfl) (by kernel_rfl) ?q3_b6_7 ?y3_b6_7 (by assumption) ?_
      case h3_b6_7 => (first | (simp only [gA, gB, gC]; done) | (simp only [gA, gB, gC]; exact rfl))
      case q3_b6_7 => exact fun _ _ _ h => h
      case y3_b6_7 => (refine Or.inl ⟨rfl, ?_⟩; intro w hSw; (unfold mx2; go_simp; (first | done | rfl)))
      (try simp only [Act.put, sA, sB, sC])
      refine wpAnyH_take (i := 8) (oi := ?o3_b6_8) (v := .pointer (some ⟨q, 0, none⟩)) ?h3_b6_8 (by kernel_rfl) (by kernel_rfl) (by kernel_rfl) ?q3_b6_8 ?y3_b6_8 (by assumption) ?_
      case h3_b6_8 => (first | (simp only [gA, gB, gC]; done) | (simp only [gA, gB, gC]; exact rfl))
      case q3_b6_8 => exact fun _ _ _ h => h
      case y3_b6_8 => (refine Or.inl ⟨rfl, ?_⟩; intro w hSw; (first | rfl | (go_simp; (try with_reducible rfl))))
      (try simp only [Act.put, sA, sB, sC])
      refine wpAnyH_take (i := 9) (oi := ?o3_b6_9) (v := .pointer (some ⟨q, 26, none⟩)) ?h3_b6_9 (by kernel_rfl) (by kernel_rfl) (by kernel_rfl) ?q3_b6_9 ?y3_b6_9 (by assumption) ?_
      case h3_b6_9 => (first | (simp only [gA, gB, gC]; done) | (simp only [gA, gB, gC]; exact rfl))
      case q3_b6_9 => exact fun _ _ _ h => h
      case y3_b6_9 => (refine Or.inl ⟨rfl, ?_⟩; intro w hSw; (first | rfl | (go_simp; (try with_reducible rfl))))
      (try simp only [Act.put, sA, sB, sC])
      refine wpAnyH_ready (rs := [10]) (by kernel_rfl) (by simp) ?_
      refine AllReadyH.cons (o := ?o3_b6_10) ?h3_b6_10 (fun K hK => ?_) AllReadyH.nil
      case h3_b6_10 => (first | (simp only [gA, gB, gC]; done) | (simp only [gA, gB, gC]; exact rfl))
      rw [if_pos (by rfl)]
      refine wp_st_cell 3 _ _ rfl #[.int .i64 k.c.ca, .int .i64 k.c.fl, .int .i64 k.c.ft, .int .i64 k.c.se, .int .i64 k.c.dr, .int .i64 k.c.dw, .int .i64 k.c.ho, .int .i64 k.c.re, .int .i64 k.c.yi, .int .i64 k.c.qu, .int .i64 k.c.qo, .int .i64 k.c.lo, .int .i64 k.c.sl, .int .i64 k.c.rt, .int .i64 k.c.cp, .int .i64 k.c.tr, .int .i64 k.c.de, .int .i64 k.c.wi, .int .i64 k.se, .int .i64 k.ep, .slice (some ⟨g, 0, none⟩) ls.length c, .int .i64 k.sq, .int .i64 k.st, .int .i64 k.du, .int .i64 k.ak, .bool k.an, .int .i64 (mx2 k.he (cl now))] (.int .i64 (mx2 k.he (cl now))) rfl rfl HPQ.out (by show 26 < 27; decide) rfl (by first | rfl | simp [Value.oneCell']) (by kernel_rfl) ?_
      clear HPQ
      intro w2 hw
      have HRQ := Lib.hid (show Blk w2 q 88 #[.int .i64 k.c.ca, .int .i64 k.c.fl, .int .i64 k.c.ft, .int .i64 k.c.se, .int .i64 k.c.dr, .int .i64 k.c.dw, .int .i64 k.c.ho, .int .i64 k.c.re, .int .i64 k.c.yi, .int .i64 k.c.qu, .int .i64 k.c.qo, .int .i64 k.c.lo, .int .i64 k.c.sl, .int .i64 k.c.rt, .int .i64 k.c.cp, .int .i64 k.c.tr, .int .i64 k.c.de, .int .i64 k.c.wi, .int .i64 k.se, .int .i64 k.ep, .slice (some ⟨g, 0, none⟩) ls.length c, .int .i64 k.sq, .int .i64 k.st, .int .i64 k.du, .int .i64 k.ak, .bool k.an, .int .i64 (mx2 k.he (cl now))] by obtain ⟨old, Bo, _⟩ := hHeld.2.2.2.1; rw [hw]; exact Blk.row Bo _)
      have hHeld3 : (fun W : World => Upd [q, g] w W ∧ Blk W w.heap.size 38 #[.int .i64 p.se, .int .i64 p.ep, .int .i64 p.sq, .int .i64 p.ak, .bool p.ha, .int .i64 p.m.ki, .int .i64 p.m.a, .int .i64 p.m.b, .int .i64 p.m.c] ∧ Blk W bR 36 #[.int .i64 0, .int .i64 0, .int .i64 0, .int .i64 0] ∧ HasRow W q 88 27 ∧ (W).ownsRow lo 36 4 (.slice (some ⟨g, 0, none⟩) ls.length c) ls.length (rowsOf msgC ls)) w2 := ⟨by rw [hw]; exact Upd.setRow hHeld.1 (.inl (by simp)) _, by rw [hw]; exact Blk.row_far (hHeld.2.1) (Ne.symm HNP.out) _, by rw [hw]; exact Blk.row_far (hHeld.2.2.1) (Ne.symm HNR.out) _, HasRow.of HRQ.out rfl, by rw [hw]; exact own_row_far (hHeld.2.2.2.2) HIQ.out _⟩
      refine hK.out _ _ hHeld3 (fun hHeld2 => ?_)
      clear hK K hHeld hHeld3 hw
      have hHeld := hHeld2
      clear hHeld2
      (try simp only [Act.put, sA, sB, sC])
      refine wpAnyH_done (by kernel_rfl) ?_ _
      have HSd3v2 := Lib.hid hHeld.1
      have HBPd3v2 := Lib.hid (hHeld.2.1)
      have HBRd3v2 := Lib.hid (hHeld.2.2.1)
      have HBQd3v2 := Lib.hid HRQ.out
      clear HRQ
      have HFrd3v2 := Lib.hid (hHeld.2.2.2.2)
      clear hHeld HRK HRD HSU HBPd1 HBRd1 HBQd1 HFrd1
      go_wp2_with fail
      go_meet
      case rel => exact Lib.hid ⟨HSd3v2.out, HBPd3v2.out, HBRd3v2.out, HBQd3v2.out, HFrd3v2.out⟩
  case rest =>
    clear HSU HBPd1 HBRd1 HBQd1 HFrd1
    obtain ⟨g0, g1, g2, g3, g4⟩ := hcut.out
    clear hcut
    have HS51 := Lib.hid g0
    have HBP51 := Lib.hid g1
    have HBR51 := Lib.hid g2
    have HBQ51 := Lib.hid g3
    have HFr51 := Lib.hid g4
    clear g0 g1 g2 g3 g4
    go_upto_region 4 with fail
    have hrK : ∀ W W' : World, Since W W' → (Upd [q, g] w W ∧ Blk W w.heap.size 38 #[.int .i64 p.se, .int .i64 p.ep, .int .i64 p.sq, .int .i64 p.ak, .bool p.ha, .int .i64 p.m.ki, .int .i64 p.m.a, .int .i64 p.m.b, .int .i64 p.m.c] ∧ Blk W bR 36 #[.int .i64 0, .int .i64 0, .int .i64 0, .int .i64 0] ∧ Blk W q 88 #[.int .i64 k.c.ca, .int .i64 k.c.fl, .int .i64 k.c.ft, .int .i64 k.c.se, .int .i64 k.c.dr, .int .i64 k.c.dw, .int .i64 k.c.ho, .int .i64 k.c.re, .int .i64 k.c.yi, .int .i64 k.c.qu, .int .i64 k.c.qo, .int .i64 k.c.lo, .int .i64 k.c.sl, .int .i64 k.c.rt, .int .i64 k.c.cp, .int .i64 k.c.tr, .int .i64 k.c.de, .int .i64 k.c.wi, .int .i64 k.se, .int .i64 k.ep, .slice (some ⟨g, 0, none⟩) ls.length c, .int .i64 k.sq, .int .i64 k.st, .int .i64 k.du, .int .i64 k.ak, .bool k.an, .int .i64 (mx2 k.he (cl now))] ∧ (W).ownsRow lo 36 4 (.slice (some ⟨g, 0, none⟩) ls.length c) ls.length (rowsOf msgC ls)) → (Upd [q, g] w W' ∧ Blk W' w.heap.size 38 #[.int .i64 p.se, .int .i64 p.ep, .int .i64 p.sq, .int .i64 p.ak, .bool p.ha, .int .i64 p.m.ki, .int .i64 p.m.a, .int .i64 p.m.b, .int .i64 p.m.c] ∧ Blk W' bR 36 #[.int .i64 0, .int .i64 0, .int .i64 0, .int .i64 0] ∧ Blk W' q 88 #[.int .i64 k.c.ca, .int .i64 k.c.fl, .int .i64 k.c.ft, .int .i64 k.c.se, .int .i64 k.c.dr, .int .i64 k.c.dw, .int .i64 k.c.ho, .int .i64 k.c.re, .int .i64 k.c.yi, .int .i64 k.c.qu, .int .i64 k.c.qo, .int .i64 k.c.lo, .int .i64 k.c.sl, .int .i64 k.c.rt, .int .i64 k.c.cp, .int .i64 k.c.tr, .int .i64 k.c.de, .int .i64 k.c.wi, .int .i64 k.se, .int .i64 k.ep, .slice (some ⟨g, 0, none⟩) ls.length c, .int .i64 k.sq, .int .i64 k.st, .int .i64 k.du, .int .i64 k.ak, .bool k.an, .int .i64 (mx2 k.he (cl now))] ∧ (W').ownsRow lo 36 4 (.slice (some ⟨g, 0, none⟩) ls.length c) ls.length (rowsOf msgC ls)) := fun W W' k ⟨h, h0, h1, h2, h3⟩ => ⟨h.trans k, keep_blk k h0, keep_blk k h1, keep_blk k h2, keep_own k h3⟩
    have hrS : (fun W : World => Upd [q, g] w W ∧ Blk W w.heap.size 38 #[.int .i64 p.se, .int .i64 p.ep, .int .i64 p.sq, .int .i64 p.ak, .bool p.ha, .int .i64 p.m.ki, .int .i64 p.m.a, .int .i64 p.m.b, .int .i64 p.m.c] ∧ Blk W bR 36 #[.int .i64 0, .int .i64 0, .int .i64 0, .int .i64 0] ∧ Blk W q 88 #[.int .i64 k.c.ca, .int .i64 k.c.fl, .int .i64 k.c.ft, .int .i64 k.c.se, .int .i64 k.c.dr, .int .i64 k.c.dw, .int .i64 k.c.ho, .int .i64 k.c.re, .int .i64 k.c.yi, .int .i64 k.c.qu, .int .i64 k.c.qo, .int .i64 k.c.lo, .int .i64 k.c.sl, .int .i64 k.c.rt, .int .i64 k.c.cp, .int .i64 k.c.tr, .int .i64 k.c.de, .int .i64 k.c.wi, .int .i64 k.se, .int .i64 k.ep, .slice (some ⟨g, 0, none⟩) ls.length c, .int .i64 k.sq, .int .i64 k.st, .int .i64 k.du, .int .i64 k.ak, .bool k.an, .int .i64 (mx2 k.he (cl now))] ∧ (W).ownsRow lo 36 4 (.slice (some ⟨g, 0, none⟩) ls.length c) ls.length (rowsOf msgC ls)) wc := ⟨HS51.out, HBP51.out, HBR51.out, HBQ51.out, HFr51.out⟩
    have HRK := Lib.hid hrK
    have HRD := Lib.hid (show (fun W : World => Upd [q, g] w W ∧ Blk W w.heap.size 38 #[.int .i64 p.se, .int .i64 p.ep, .int .i64 p.sq, .int .i64 p.ak, .bool p.ha, .int .i64 p.m.ki, .int .i64 p.m.a, .int .i64 p.m.b, .int .i64 p.m.c] ∧ Blk W bR 36 #[.int .i64 0, .int .i64 0, .int .i64 0, .int .i64 0] ∧ Blk W q 88 #[.int .i64 k.c.ca, .int .i64 k.c.fl, .int .i64 k.c.ft, .int .i64 k.c.se, .int .i64 k.c.dr, .int .i64 k.c.dw, .int .i64 k.c.ho, .int .i64 k.c.re, .int .i64 k.c.yi, .int .i64 k.c.qu, .int .i64 k.c.qo, .int .i64 k.c.lo, .int .i64 k.c.sl, .int .i64 k.c.rt, .int .i64 k.c.cp, .int .i64 k.c.tr, .int .i64 k.c.de, .int .i64 k.c.wi, .int .i64 k.se, .int .i64 k.ep, .slice (some ⟨g, 0, none⟩) ls.length c, .int .i64 k.sq, .int .i64 k.st, .int .i64 k.du, .int .i64 k.ak, .bool k.an, .int .i64 (mx2 k.he (cl now))] ∧ (W).ownsRow lo 36 4 (.slice (some ⟨g, 0, none⟩) ls.length c) ls.length (rowsOf msgC ls)) (World.drew wc) from hrK _ _ ((Since.refl wc).drew) hrS)
    clear hrK hrS
    refine wp_region_held_drew (S := fun W : World => Upd [q, g] w W ∧ Blk W w.heap.size 38 #[.int .i64 p.se, .int .i64 p.ep, .int .i64 p.sq, .int .i64 p.ak, .bool p.ha, .int .i64 p.m.ki, .int .i64 p.m.a, .int .i64 p.m.b, .int .i64 p.m.c] ∧ Blk W bR 36 #[.int .i64 0, .int .i64 0, .int .i64 0, .int .i64 0] ∧ Blk W q 88 #[.int .i64 k.c.ca, .int .i64 k.c.fl, .int .i64 k.c.ft, .int .i64 k.c.se, .int .i64 k.c.dr, .int .i64 k.c.dw, .int .i64 k.c.ho, .int .i64 k.c.re, .int .i64 k.c.yi, .int .i64 k.c.qu, .int .i64 k.c.qo, .int .i64 k.c.lo, .int .i64 k.c.sl, .int .i64 k.c.rt, .int .i64 k.c.cp, .int .i64 k.c.tr, .int .i64 k.c.de, .int .i64 k.c.wi, .int .i64 k.se, .int .i64 k.ep, .slice (some ⟨g, 0, none⟩) ls.length c, .int .i64 k.sq, .int .i64 k.st, .int .i64 k.du, .int .i64 k.ak, .bool k.an, .int .i64 (mx2 k.he (cl now))] ∧ (W).ownsRow lo 36 4 (.slice (some ⟨g, 0, none⟩) ls.length c) ls.length (rowsOf msgC ls)) (by kernel_rfl) HRD.out (fun hHeld => ?_)
    refine wpAnyH_take (i := 0) (oi := ?o4__0) (v := .pointer (some ⟨q, 0, none⟩)) ?h4__0 (by kernel_rfl) (by kernel_rfl) (by kernel_rfl) ?q4__0 ?y4__0 (by assumption) ?_
    case h4__0 => (first | (simp only [gA, gB, gC]; done) | (simp only [gA, gB, gC]; exact rfl))
    case q4__0 => exact fun _ _ _ h => h
    case y4__0 => (refine Or.inl ⟨rfl, ?_⟩; intro w hSw; (first | rfl | (go_simp; (try with_reducible rfl))))
    (try simp only [Act.put, sA, sB, sC])
    refine wpAnyH_take (i := 1) (oi := ?o4__1) (v := .pointer (some ⟨q, 0, none⟩)) ?h4__1 (by kernel_rfl) (by kernel_rfl) (by kernel_rfl) ?q4__1 ?y4__1 (by assumption) ?_
    case h4__1 => (first | (simp only [gA, gB, gC]; done) | (simp only [gA, gB, gC]; exact rfl))
    case q4__1 => exact fun _ _ _ h => h
    case y4__1 => (refine Or.inl ⟨rfl, ?_⟩; intro w hSw; (first | rfl | (go_simp; (try with_reducible rfl))))
    (try simp only [Act.put, sA, sB, sC])
    refine wpAnyH_take (i := 2) (oi := ?o4__2) (v := .pointer (some ⟨q, 20, none⟩)) ?h4__2 (by kernel_rfl) (by kernel_rfl) (by kernel_rfl) ?q4__2 ?y4__2 (by assumption) ?_
    case h4__2 => (first | (simp only [gA, gB, gC]; done) | (simp only [gA, gB, gC]; exact rfl))
    case q4__2 => exact fun _ _ _ h => h
    case y4__2 => (refine Or.inl ⟨rfl, ?_⟩; intro w hSw; (first | rfl | (go_simp; (try with_reducible rfl))))
    (try simp only [Act.put, sA, sB, sC])
    refine wpAnyH_take (i := 3) (oi := ?o4__3) (v := .slice (some ⟨g, 0, none⟩) ls.length c) ?h4__3 (by kernel_rfl) (by kernel_rfl) (by kernel_rfl) ?q4__3 ?y4__3 (by assumption) ?_
    case h4__3 => (first | (simp only [gA, gB, gC]; done) | (simp only [gA, gB, gC]; exact rfl))
    case q4__3 => exact fun _ _ _ h => h
    case y4__3 => (refine Or.inl ⟨rfl, ?_⟩; intro w hSw; exact exec_cell 86 _ _ hSw.2.2.2.1 rfl rfl rfl Try.underlying86 rfl)
    (try simp only [Act.put, sA, sB, sC])
    refine wpAnyH_take (i := 4) (oi := ?o4__4) (v := .int .i64 (ls.length : Int)) ?h4__4 (by kernel_rfl) (by kernel_rfl) (by kernel_rfl) ?q4__4 ?y4__4 (by assumption) ?_
    case h4__4 => (first | (simp only [gA, gB, gC]; done) | (simp only [gA, gB, gC]; exact rfl))
    case q4__4 => exact fun _ _ _ h => h
    case y4__4 => (refine Or.inl ⟨rfl, ?_⟩; intro w hSw; (first | rfl | (go_simp; (try with_reducible rfl))))
    (try simp only [Act.put, sA, sB, sC])
    refine wpAnyH_take (i := 5) (oi := ?o4__5) (v := .bool true) ?h4__5 (by kernel_rfl) (by kernel_rfl) (by kernel_rfl) ?q4__5 ?y4__5 (by assumption) ?_
    case h4__5 => (first | (simp only [gA, gB, gC]; done) | (simp only [gA, gB, gC]; exact rfl))
    case q4__5 => exact fun _ _ _ h => h
    case y4__5 => (refine Or.inl ⟨rfl, ?_⟩; intro w hSw; (have q0 := H3.out; go_simp; (first | done | rfl | omega)))
    (try simp only [Act.put, sA, sB, sC])
    refine wpAnyH_take (i := 6) (oi := ?o4__6) (v := .bool true) ?h4__6 (by kernel_rfl) (by kernel_rfl) (by kernel_rfl) ?q4__6 ?y4__6 (by assumption) ?_
    case h4__6 => (first | (simp only [gA, gB, gC]; done) | (simp only [gA, gB, gC]; exact rfl))
    case q4__6 => exact fun _ _ _ h => h
    case y4__6 => (refine Or.inl ⟨rfl, ?_⟩; intro w hSw; (first | rfl | (go_simp; (try with_reducible rfl))))
    (try simp only [Act.put, sA, sB, sC])
    refine wpAnyH_take (i := 7) (oi := ?o4__7) (v := .pointer (some ⟨w.heap.size, 3, none⟩)) ?h4__7 (by kernel_rfl) (by kernel_rfl) (by kernel_rfl) ?q4__7 ?y4__7 (by assumption) ?_
    case h4__7 => (first | (simp only [gA, gB, gC]; done) | (simp only [gA, gB, gC]; exact rfl))
    case q4__7 => exact fun _ _ _ h => h
    case y4__7 => (refine Or.inl ⟨rfl, ?_⟩; intro w hSw; (first | rfl | (go_simp; (try with_reducible rfl))))
    (try simp only [Act.put, sA, sB, sC])
    refine wpAnyH_take (i := 8) (oi := ?o4__8) (v := .int .i64 p.ak) ?h4__8 (by kernel_rfl) (by kernel_rfl) (by kernel_rfl) ?q4__8 ?y4__8 (by assumption) ?_
    case h4__8 => (first | (simp only [gA, gB, gC]; done) | (simp only [gA, gB, gC]; exact rfl))
    case q4__8 => exact fun _ _ _ h => h
    case y4__8 => (refine Or.inl ⟨rfl, ?_⟩; intro w hSw; exact exec_cell 3 _ _ hSw.2.1 rfl rfl rfl Try.underlying3 rfl)
    (try simp only [Act.put, sA, sB, sC])
    refine wpAnyH_take (i := 9) (oi := ?o4__9) (v := .pointer (some ⟨q, 0, none⟩)) ?h4__9 (by kernel_rfl) (by kernel_rfl) (by kernel_rfl) ?q4__9 ?y4__9 (by assumption) ?_
    case h4__9 => (first | (simp only [gA, gB, gC]; done) | (simp only [gA, gB, gC]; exact rfl))
    case q4__9 => exact fun _ _ _ h => h
    case y4__9 => (refine Or.inl ⟨rfl, ?_⟩; intro w hSw; (first | rfl | (go_simp; (try with_reducible rfl))))
    (try simp only [Act.put, sA, sB, sC])
    refine wpAnyH_take (i := 10) (oi := ?o4__10) (v := .pointer (some ⟨q, 0, none⟩)) ?h4__10 (by kernel_rfl) (by kernel_rfl) (by kernel_rfl) ?q4__10 ?y4__10 (by assumption) ?_
    case h4__10 => (first | (simp only [gA, gB, gC]; done) | (simp only [gA, gB, gC]; exact rfl))
    case q4__10 => exact fun _ _ _ h => h
    case y4__10 => (refine Or.inl ⟨rfl, ?_⟩; intro w hSw; (first | rfl | (go_simp; (try with_reducible rfl))))
    (try simp only [Act.put, sA, sB, sC])
    refine wpAnyH_take (i := 11) (oi := ?o4__11) (v := .pointer (some ⟨q, 21, none⟩)) ?h4__11 (by kernel_rfl) (by kernel_rfl) (by kernel_rfl) ?q4__11 ?y4__11 (by assumption) ?_
    case h4__11 => (first | (simp only [gA, gB, gC]; done) | (simp only [gA, gB, gC]; exact rfl))
    case q4__11 => exact fun _ _ _ h => h
    case y4__11 => (refine Or.inl ⟨rfl, ?_⟩; intro w hSw; (first | rfl | (go_simp; (try with_reducible rfl))))
    (try simp only [Act.put, sA, sB, sC])
    refine wpAnyH_take (i := 12) (oi := ?o4__12) (v := .int .i64 k.sq) ?h4__12 (by kernel_rfl) (by kernel_rfl) (by kernel_rfl) ?q4__12 ?y4__12 (by assumption) ?_
    case h4__12 => (first | (simp only [gA, gB, gC]; done) | (simp only [gA, gB, gC]; exact rfl))
    case q4__12 => exact fun _ _ _ h => h
    case y4__12 => (refine Or.inl ⟨rfl, ?_⟩; intro w hSw; exact exec_cell 3 _ _ hSw.2.2.2.1 rfl rfl rfl Try.underlying3 rfl)
    (try simp only [Act.put, sA, sB, sC])
    refine wpAnyH_ready (rs := [13]) (by kernel_rfl) (by simp) ?_
    refine AllReadyH.cons (o := ?o4__13) ?h4__13 (fun K hK => ?_) AllReadyH.nil
    case h4__13 => (first | (simp only [gA, gB, gC]; done) | (simp only [gA, gB, gC]; exact rfl))
    (try go_simp)
    refine (Se.nextT _ _).mono ?_
    rintro e w' ⟨rfl, rfl⟩
    (try go_wp2_with fail)
    refine hK.out _ _ hHeld (fun hHeld2 => ?_)
    clear hK K hHeld2
    (try simp only [Act.put, sA, sB, sC])
    refine wpAnyH_take (i := 14) (oi := ?o4__14) (v := .bool true) ?h4__14 (by kernel_rfl) (by kernel_rfl) (by kernel_rfl) ?q4__14 ?y4__14 (by assumption) ?_
    case h4__14 => (first | (simp only [gA, gB, gC]; done) | (simp only [gA, gB, gC]; exact rfl))
    case q4__14 => exact fun _ _ _ h => h
    case y4__14 => (refine Or.inl ⟨rfl, ?_⟩; intro w hSw; (have q0 := H4.out; go_simp; (first | done | rfl | omega)))
    (try simp only [Act.put, sA, sB, sC])
    refine wpAnyH_take (i := 15) (oi := ?o4__15) (v := .bool true) ?h4__15 (by kernel_rfl) (by kernel_rfl) (by kernel_rfl) ?q4__15 ?y4__15 (by assumption) ?_
    case h4__15 => (first | (simp only [gA, gB, gC]; done) | (simp only [gA, gB, gC]; exact rfl))
    case q4__15 => exact fun _ _ _ h => h
    case y4__15 => (refine Or.inl ⟨rfl, ?_⟩; intro w hSw; (first | rfl | (go_simp; (try with_reducible rfl))))
    (try simp only [Act.put, sA, sB, sC])
    refine wpAnyH_done (by kernel_rfl) ?_ _
    have HSd4 := Lib.hid hHeld.1
    have HBPd4 := Lib.hid (hHeld.2.1)
    have HBRd4 := Lib.hid (hHeld.2.2.1)
    have HBQd4 := Lib.hid (hHeld.2.2.2.1)
    have HFrd4 := Lib.hid (hHeld.2.2.2.2)
    clear hHeld HRK HRD HS51 HBP51 HBR51 HBQ51 HFr51
    go_upto_region 5 with fail
    refine wp_region_lit ?_
    refine wpList_q (by rfl) (.pointer (some ⟨q, 0, none⟩)) ?he ?_
    case he => (first | rfl | (go_simp; (try with_reducible rfl)))
    (try simp only [Act.put, sA, sB, sC])
    refine wpList_wp (by rfl) (fun K hK => ?_)
    (try go_simp)
    refine (arrivedT lo q { k with he := mx2 k.he (cl now) } ls g m c _ (by rw [← H3.out]; exact HBQd4.out) (by rw [← H3.out]; exact HFrd4.out) H3.out HC.out (by have := HL.out; have := H3.out; omega)).mono ?_
    rintro e w52 ⟨rfl, hB, hO, hupd⟩
    (try go_wp2_with fail)
    refine hK.out _ _ ?_
    clear hK K
    (try simp only [Act.put, sA, sB, sC])
    have HBPz := Lib.hid (hupd.blk HBPd4.out (fun h => by have q1 := HNP.out; have q2 := HIP.out; simp [blkOf] at h q2; rcases h with h | h; exact q1 h.symm; exact q2 h))
    have HBRz := Lib.hid (hupd.blk HBRd4.out (fun h => by have q1 := HNR.out; have q2 := HIR.out; simp [blkOf] at h q2; rcases h with h | h; exact q1 h.symm; exact q2 h))
    have HSz := Lib.hid (Upd.comp HSd4.out hupd (fun _ h => .inl h))
    have HBQz := Lib.hid (show Blk w52 q 88 #[.int .i64 k.c.ca, .int .i64 k.c.fl, .int .i64 k.c.ft, .int .i64 k.c.se, .int .i64 k.c.dr, .int .i64 k.c.dw, .int .i64 k.c.ho, .int .i64 k.c.re, .int .i64 k.c.yi, .int .i64 k.c.qu, .int .i64 k.c.qo, .int .i64 k.c.lo, .int .i64 k.c.sl, .int .i64 k.c.rt, .int .i64 k.c.cp, .int .i64 k.c.tr, .int .i64 k.c.de, .int .i64 k.c.wi, .int .i64 k.se, .int .i64 k.ep, .slice (some ⟨g, 0, none⟩) m c, .int .i64 (Se.nx k.sq), .int .i64 0, .int .i64 0, .int .i64 k.ak, .bool k.an, .int .i64 (mx2 k.he (cl now))] from hB)
    have HOWz := Lib.hid hO
    clear hB hO hupd HSd4 HBPd4 HBRd4 HBQd4 HFrd4
    refine wpList_nil ?_
    go_upto_region 6 with fail
    have hrK : ∀ W W' : World, Since W W' → (Upd [q, g] w W ∧ Blk W w.heap.size 38 #[.int .i64 p.se, .int .i64 p.ep, .int .i64 p.sq, .int .i64 p.ak, .bool p.ha, .int .i64 p.m.ki, .int .i64 p.m.a, .int .i64 p.m.b, .int .i64 p.m.c] ∧ Blk W bR 36 #[.int .i64 0, .int .i64 0, .int .i64 0, .int .i64 0] ∧ Blk W q 88 #[.int .i64 k.c.ca, .int .i64 k.c.fl, .int .i64 k.c.ft, .int .i64 k.c.se, .int .i64 k.c.dr, .int .i64 k.c.dw, .int .i64 k.c.ho, .int .i64 k.c.re, .int .i64 k.c.yi, .int .i64 k.c.qu, .int .i64 k.c.qo, .int .i64 k.c.lo, .int .i64 k.c.sl, .int .i64 k.c.rt, .int .i64 k.c.cp, .int .i64 k.c.tr, .int .i64 k.c.de, .int .i64 k.c.wi, .int .i64 k.se, .int .i64 k.ep, .slice (some ⟨g, 0, none⟩) m c, .int .i64 (Se.nx k.sq), .int .i64 0, .int .i64 0, .int .i64 k.ak, .bool k.an, .int .i64 (mx2 k.he (cl now))] ∧ (W).ownsRow lo 36 4 (.slice (some ⟨g, 0, none⟩) m c) m (rowsOf msgC ls.tail)) → (Upd [q, g] w W' ∧ Blk W' w.heap.size 38 #[.int .i64 p.se, .int .i64 p.ep, .int .i64 p.sq, .int .i64 p.ak, .bool p.ha, .int .i64 p.m.ki, .int .i64 p.m.a, .int .i64 p.m.b, .int .i64 p.m.c] ∧ Blk W' bR 36 #[.int .i64 0, .int .i64 0, .int .i64 0, .int .i64 0] ∧ Blk W' q 88 #[.int .i64 k.c.ca, .int .i64 k.c.fl, .int .i64 k.c.ft, .int .i64 k.c.se, .int .i64 k.c.dr, .int .i64 k.c.dw, .int .i64 k.c.ho, .int .i64 k.c.re, .int .i64 k.c.yi, .int .i64 k.c.qu, .int .i64 k.c.qo, .int .i64 k.c.lo, .int .i64 k.c.sl, .int .i64 k.c.rt, .int .i64 k.c.cp, .int .i64 k.c.tr, .int .i64 k.c.de, .int .i64 k.c.wi, .int .i64 k.se, .int .i64 k.ep, .slice (some ⟨g, 0, none⟩) m c, .int .i64 (Se.nx k.sq), .int .i64 0, .int .i64 0, .int .i64 k.ak, .bool k.an, .int .i64 (mx2 k.he (cl now))] ∧ (W').ownsRow lo 36 4 (.slice (some ⟨g, 0, none⟩) m c) m (rowsOf msgC ls.tail)) := fun W W' k ⟨h, h0, h1, h2, h3⟩ => ⟨h.trans k, keep_blk k h0, keep_blk k h1, keep_blk k h2, keep_own k h3⟩
    have hrS : (fun W : World => Upd [q, g] w W ∧ Blk W w.heap.size 38 #[.int .i64 p.se, .int .i64 p.ep, .int .i64 p.sq, .int .i64 p.ak, .bool p.ha, .int .i64 p.m.ki, .int .i64 p.m.a, .int .i64 p.m.b, .int .i64 p.m.c] ∧ Blk W bR 36 #[.int .i64 0, .int .i64 0, .int .i64 0, .int .i64 0] ∧ Blk W q 88 #[.int .i64 k.c.ca, .int .i64 k.c.fl, .int .i64 k.c.ft, .int .i64 k.c.se, .int .i64 k.c.dr, .int .i64 k.c.dw, .int .i64 k.c.ho, .int .i64 k.c.re, .int .i64 k.c.yi, .int .i64 k.c.qu, .int .i64 k.c.qo, .int .i64 k.c.lo, .int .i64 k.c.sl, .int .i64 k.c.rt, .int .i64 k.c.cp, .int .i64 k.c.tr, .int .i64 k.c.de, .int .i64 k.c.wi, .int .i64 k.se, .int .i64 k.ep, .slice (some ⟨g, 0, none⟩) m c, .int .i64 (Se.nx k.sq), .int .i64 0, .int .i64 0, .int .i64 k.ak, .bool k.an, .int .i64 (mx2 k.he (cl now))] ∧ (W).ownsRow lo 36 4 (.slice (some ⟨g, 0, none⟩) m c) m (rowsOf msgC ls.tail)) w52 := ⟨HSz.out, HBPz.out, HBRz.out, HBQz.out, HOWz.out⟩
    have HRK := Lib.hid hrK
    have HRD := Lib.hid (show (fun W : World => Upd [q, g] w W ∧ Blk W w.heap.size 38 #[.int .i64 p.se, .int .i64 p.ep, .int .i64 p.sq, .int .i64 p.ak, .bool p.ha, .int .i64 p.m.ki, .int .i64 p.m.a, .int .i64 p.m.b, .int .i64 p.m.c] ∧ Blk W bR 36 #[.int .i64 0, .int .i64 0, .int .i64 0, .int .i64 0] ∧ Blk W q 88 #[.int .i64 k.c.ca, .int .i64 k.c.fl, .int .i64 k.c.ft, .int .i64 k.c.se, .int .i64 k.c.dr, .int .i64 k.c.dw, .int .i64 k.c.ho, .int .i64 k.c.re, .int .i64 k.c.yi, .int .i64 k.c.qu, .int .i64 k.c.qo, .int .i64 k.c.lo, .int .i64 k.c.sl, .int .i64 k.c.rt, .int .i64 k.c.cp, .int .i64 k.c.tr, .int .i64 k.c.de, .int .i64 k.c.wi, .int .i64 k.se, .int .i64 k.ep, .slice (some ⟨g, 0, none⟩) m c, .int .i64 (Se.nx k.sq), .int .i64 0, .int .i64 0, .int .i64 k.ak, .bool k.an, .int .i64 (mx2 k.he (cl now))] ∧ (W).ownsRow lo 36 4 (.slice (some ⟨g, 0, none⟩) m c) m (rowsOf msgC ls.tail)) (World.drew w52) from hrK _ _ ((Since.refl w52).drew) hrS)
    clear hrK hrS
    refine wp_region_held_drew (S := fun W : World => Upd [q, g] w W ∧ Blk W w.heap.size 38 #[.int .i64 p.se, .int .i64 p.ep, .int .i64 p.sq, .int .i64 p.ak, .bool p.ha, .int .i64 p.m.ki, .int .i64 p.m.a, .int .i64 p.m.b, .int .i64 p.m.c] ∧ Blk W bR 36 #[.int .i64 0, .int .i64 0, .int .i64 0, .int .i64 0] ∧ Blk W q 88 #[.int .i64 k.c.ca, .int .i64 k.c.fl, .int .i64 k.c.ft, .int .i64 k.c.se, .int .i64 k.c.dr, .int .i64 k.c.dw, .int .i64 k.c.ho, .int .i64 k.c.re, .int .i64 k.c.yi, .int .i64 k.c.qu, .int .i64 k.c.qo, .int .i64 k.c.lo, .int .i64 k.c.sl, .int .i64 k.c.rt, .int .i64 k.c.cp, .int .i64 k.c.tr, .int .i64 k.c.de, .int .i64 k.c.wi, .int .i64 k.se, .int .i64 k.ep, .slice (some ⟨g, 0, none⟩) m c, .int .i64 (Se.nx k.sq), .int .i64 0, .int .i64 0, .int .i64 k.ak, .bool k.an, .int .i64 (mx2 k.he (cl now))] ∧ (W).ownsRow lo 36 4 (.slice (some ⟨g, 0, none⟩) m c) m (rowsOf msgC ls.tail)) (by kernel_rfl) HRD.out (fun hHeld => ?_)
    refine wpAnyH_take (i := 0) (oi := ?o6__0) (v := .pointer (some ⟨w.heap.size, 4, none⟩)) ?h6__0 (by kernel_rfl) (by kernel_rfl) (by kernel_rfl) ?q6__0 ?y6__0 (by assumption) ?_
    case h6__0 => (first | (simp only [gA, gB, gC]; done) | (simp only [gA, gB, gC]; exact rfl))
    case q6__0 => exact fun _ _ _ h => h
    case y6__0 => (refine Or.inl ⟨rfl, ?_⟩; intro w hSw; (first | rfl | (go_simp; (try with_reducible rfl))))
    (try simp only [Act.put, sA, sB, sC])
    refine wpAnyH_take (i := 1) (oi := ?o6__1) (v := .bool p.ha) ?h6__1 (by kernel_rfl) (by kernel_rfl) (by kernel_rfl) ?q6__1 ?y6__1 (by assumption) ?_
    case h6__1 => (first | (simp only [gA, gB, gC]; done) | (simp only [gA, gB, gC]; exact rfl))
    case q6__1 => exact fun _ _ _ h => h
    case y6__1 => (refine Or.inl ⟨rfl, ?_⟩; intro w hSw; exact exec_cell 4 _ _ hSw.2.1 rfl rfl rfl Try.underlying4 rfl)
    (try simp only [Act.put, sA, sB, sC])
    refine wpAnyH_take (i := 2) (oi := ?o6__2) (v := .bool false) ?h6__2 (by kernel_rfl) (by kernel_rfl) (by kernel_rfl) ?q6__2 ?y6__2 (by assumption) ?_
    case h6__2 => (first | (simp only [gA, gB, gC]; done) | (simp only [gA, gB, gC]; exact rfl))
    case q6__2 => exact fun _ _ _ h => h
    case y6__2 => (refine Or.inl ⟨rfl, ?_⟩; intro w hSw; (have q := H5.out; go_simp; (first | done | exact q | (simp [q]; done))))
    (try simp only [Act.put, sA, sB, sC])
    refine wpAnyH_take (i := 3) (oi := ?o6__3) (v := .bool false) ?h6__3 (by kernel_rfl) (by kernel_rfl) (by kernel_rfl) ?q6__3 ?y6__3 (by assumption) ?_
    case h6__3 => (first | (simp only [gA, gB, gC]; done) | (simp only [gA, gB, gC]; exact rfl))
    case q6__3 => exact fun _ _ _ h => h
    case y6__3 => (refine Or.inl ⟨rfl, ?_⟩; intro w hSw; (first | rfl | (go_simp; (try with_reducible rfl))))
    (try simp only [Act.put, sA, sB, sC])
    refine wpAnyH_take (i := 4) (oi := ?o6__4) (v := .pointer (some ⟨q, 0, none⟩)) ?h6__4 (by kernel_rfl) (by kernel_rfl) (by kernel_rfl) ?q6__4 ?y6__4 (by assumption) ?_
    case h6__4 => (first | (simp only [gA, gB, gC]; done) | (simp only [gA, gB, gC]; exact rfl))
    case q6__4 => exact fun _ _ _ h => h
    case y6__4 => (refine Or.inl ⟨rfl, ?_⟩; intro w hSw; (first | rfl | (go_simp; (try with_reducible rfl))))
    (try simp only [Act.put, sA, sB, sC])
    refine wpAnyH_take (i := 5) (oi := ?o6__5) (v := .pointer (some ⟨q, 0, none⟩)) ?h6__5 (by kernel_rfl) (by kernel_rfl) (by kernel_rfl) ?q6__5 ?y6__5 (by assumption) ?_
    case h6__5 => (first | (simp only [gA, gB, gC]; done) | (simp only [gA, gB, gC]; exact rfl))
    case q6__5 => exact fun _ _ _ h => h
    case y6__5 => (refine Or.inl ⟨rfl, ?_⟩; intro w hSw; (first | rfl | (go_simp; (try with_reducible rfl))))
    (try simp only [Act.put, sA, sB, sC])
    refine wpAnyH_take (i := 6) (oi := ?o6__6) (v := .pointer (some ⟨q, 24, none⟩)) ?h6__6 (by kernel_rfl) (by kernel_rfl) (by kernel_rfl) ?q6__6 ?y6__6 (by assumption) ?_
    case h6__6 => (first | (simp only [gA, gB, gC]; done) | (simp only [gA, gB, gC]; exact rfl))
    case q6__6 => exact fun _ _ _ h => h
    case y6__6 => (refine Or.inl ⟨rfl, ?_⟩; intro w hSw; (first | rfl | (go_simp; (try with_reducible rfl))))
    (try simp only [Act.put, sA, sB, sC])
    refine wpAnyH_take (i := 7) (oi := ?o6__7) (v := .int .i64 k.ak) ?h6__7 (by kernel_rfl) (by kernel_rfl) (by kernel_rfl) ?q6__7 ?y6__7 (by assumption) ?_
    case h6__7 => (first | (simp only [gA, gB, gC]; done) | (simp only [gA, gB, gC]; exact rfl))
    case q6__7 => exact fun _ _ _ h => h
    case y6__7 => (refine Or.inl ⟨rfl, ?_⟩; intro w hSw; exact exec_cell 3 _ _ hSw.2.2.2.1 rfl rfl rfl Try.underlying3 rfl)
    (try simp only [Act.put, sA, sB, sC])
    refine wpAnyH_take (i := 8) (oi := ?o6__8) (v := .pointer (some ⟨w.heap.size, 2, none⟩)) ?h6__8 (by kernel_rfl) (by kernel_rfl) (by kernel_rfl) ?q6__8 ?y6__8 (by assumption) ?_
    case h6__8 => (first | (simp only [gA, gB, gC]; done) | (simp only [gA, gB, gC]; exact rfl))
    case q6__8 => exact fun _ _ _ h => h
    case y6__8 => (refine Or.inl ⟨rfl, ?_⟩; intro w hSw; (first | rfl | (go_simp; (try with_reducible rfl))))
    (try simp only [Act.put, sA, sB, sC])
    refine wpAnyH_take (i := 9) (oi := ?o6__9) (v := .int .i64 p.sq) ?h6__9 (by kernel_rfl) (by kernel_rfl) (by kernel_rfl) ?q6__9 ?y6__9 (by assumption) ?_
    case h6__9 => (first | (simp only [gA, gB, gC]; done) | (simp only [gA, gB, gC]; exact rfl))
    case q6__9 => exact fun _ _ _ h => h
    case y6__9 => (refine Or.inl ⟨rfl, ?_⟩; intro w hSw; exact exec_cell 3 _ _ hSw.2.1 rfl rfl rfl Try.underlying3 rfl)
    (try simp only [Act.put, sA, sB, sC])
    refine wpAnyH_ready (rs := [10]) (by kernel_rfl) (by simp) ?_
    refine AllReadyH.cons (o := ?o6__10) ?h6__10 (fun K hK => ?_) AllReadyH.nil
    case h6__10 => (first | (simp only [gA, gB, gC]; done) | (simp only [gA, gB, gC]; exact rfl))
    (try go_simp)
    refine (newerV _ _ true _ H6.out).mono ?_
    rintro e w' ⟨rfl, rfl⟩
    (try go_wp2_with fail)
    refine hK.out _ _ hHeld (fun hHeld2 => ?_)
    clear hK K hHeld2
    (try simp only [Act.put, sA, sB, sC])
    refine wpAnyH_take (i := 11) (oi := ?o6__11) (v := .bool true) ?h6__11 (by kernel_rfl) (by kernel_rfl) (by kernel_rfl) ?q6__11 ?y6__11 (by assumption) ?_
    case h6__11 => (first | (simp only [gA, gB, gC]; done) | (simp only [gA, gB, gC]; exact rfl))
    case q6__11 => exact fun _ _ _ h => h
    case y6__11 => (refine Or.inl ⟨rfl, ?_⟩; intro w hSw; (first | rfl | (go_simp; (try with_reducible rfl))))
    (try simp only [Act.put, sA, sB, sC])
    refine wpAnyH_done (by kernel_rfl) ?_ _
    have HSd6 := Lib.hid hHeld.1
    have HBPd6 := Lib.hid (hHeld.2.1)
    have HBRd6 := Lib.hid (hHeld.2.2.1)
    have HBQd6 := Lib.hid (hHeld.2.2.2.1)
    have HFrd6 := Lib.hid (hHeld.2.2.2.2)
    clear hHeld HRK HRD HSz HBPz HBRz HBQz HOWz
    go_upto_region 7 with fail
    refine wp_region_lit ?_
    refine wpList_q (by rfl) (.agg #[.int .i64 0, .int .i64 0, .int .i64 0, .int .i64 0]) ?he ?_
    case he => kernel_rfl
    (try simp only [Act.put, sA, sB, sC])
    refine wpList_wp (by rfl) (fun K hK => ?_)
    refine wp_st_row 36 _ _ rfl #[.int .i64 0, .int .i64 0, .int .i64 0, .int .i64 0] rfl rfl (HasRow.of HBRd6.out rfl) rfl (by simp [Value.oneCell']) (by kernel_rfl) ?_
    intro w53 hw
    refine hK.out _ _ ?_
    clear hK K
    (try simp only [Act.put, sA, sB, sC])
    have HS53 := Lib.hid (show Upd [q, g] w w53 by rw [hw]; exact Upd.setRow HSd6.out (Or.inr (by have := HNE3.out; omega)) _)
    have HBP53 := Lib.hid (show Blk w53 w.heap.size 38 #[.int .i64 p.se, .int .i64 p.ep, .int .i64 p.sq, .int .i64 p.ak, .bool p.ha, .int .i64 p.m.ki, .int .i64 p.m.a, .int .i64 p.m.b, .int .i64 p.m.c] by rw [hw]; exact Blk.row_far HBPd6.out (by have := HNE3.out; omega) _)
    have HBR53 := Lib.hid (show Blk w53 bR 36 #[.int .i64 0, .int .i64 0, .int .i64 0, .int .i64 0] by rw [hw]; exact Blk.row HBRd6.out _)
    have HBQ53 := Lib.hid (show Blk w53 q 88 #[.int .i64 k.c.ca, .int .i64 k.c.fl, .int .i64 k.c.ft, .int .i64 k.c.se, .int .i64 k.c.dr, .int .i64 k.c.dw, .int .i64 k.c.ho, .int .i64 k.c.re, .int .i64 k.c.yi, .int .i64 k.c.qu, .int .i64 k.c.qo, .int .i64 k.c.lo, .int .i64 k.c.sl, .int .i64 k.c.rt, .int .i64 k.c.cp, .int .i64 k.c.tr, .int .i64 k.c.de, .int .i64 k.c.wi, .int .i64 k.se, .int .i64 k.ep, .slice (some ⟨g, 0, none⟩) m c, .int .i64 (Se.nx k.sq), .int .i64 0, .int .i64 0, .int .i64 k.ak, .bool k.an, .int .i64 (mx2 k.he (cl now))] by rw [hw]; exact Blk.row_far HBQd6.out HNR.out _)
    have HFr_53 := Lib.hid (show (w53).ownsRow lo 36 4 (.slice (some ⟨g, 0, none⟩) m c) m (rowsOf msgC ls.tail) by rw [hw]; exact own_row_far HFrd6.out HIR.out _)
    clear hw HSd6 HBPd6 HBRd6 HBQd6 HFrd6
    refine wpList_q (by rfl) (.bool false) ?he ?_
    case he => (first | rfl | (go_simp; (try with_reducible rfl)))
    (try simp only [Act.put, sA, sB, sC])
    refine wpList_nil ?_
    have hlen : ls.tail.length = m := by have q0 := H3.out; rw [List.length_tail]; omega
    (try go_wp2_with fail)
    exact bodyPost_ret (results_row2 rfl _ _ bR 36 #[.int .i64 0, .int .i64 0, .int .i64 0, .int .i64 0] _ (.bool false) rfl rfl HBR53.out Try.underlying36 rfl (by kernel_rfl)) rfl ⟨rfl, ⟨H0.out, (some ⟨g, 0, none⟩), c, rfl, by rw [hlen]; exact HBQ53.out, by rw [hlen]; exact HFr_53.out⟩, HS53.out⟩
set_option maxHeartbeats 4000000 in
theorem recv_y_ahead (lo q : Nat) (k : LkV) (ls : List MsgV) (g m c : Nat) (p : PkV) (now : Int) (w : World) (hb : Blk w q 88 (lkC k (.slice (some ⟨g, 0, none⟩) ls.length c))) (ho : w.ownsRow lo 36 4 (.slice (some ⟨g, 0, none⟩) ls.length c) ls.length (rowsOf msgC ls)) (hl : ls.length ≤ 10000) (h1 : p.se = k.se) (h2 : p.ep = k.ep) (h0 : lo ≤ q) (h3 : ls.length = m + 1) (h4 : p.ak = Se.nx k.sq) (hc : m + 1 ≤ c) (h5 : p.ha = true) (h6 : decide (0 < Se.ne k.ak p.sq) = false) (h7 : p.sq ≠ k.ak) : Calls Try.prog 16 #[.pointer (some ⟨q, 0, none⟩), .agg #[.int .i64 p.se, .int .i64 p.ep, .int .i64 p.sq, .int .i64 p.ak, .bool p.ha, .int .i64 p.m.ki, .int .i64 p.m.a, .int .i64 p.m.b, .int .i64 p.m.c], .int .i64 now] w fun e w' => e = .returned (.tuple #[.agg #[.int .i64 0, .int .i64 0, .int .i64 0, .int .i64 0], .bool false]) ∧ LO lo q { k with he := mx2 k.he (cl now), sq := Se.nx k.sq, st := 0, du := 0, an := true } ls.tail [q, g] w' ∧ Upd [q, g] w w' := by
  have HBQ := Lib.hid (show Blk w q 88 #[.int .i64 k.c.ca, .int .i64 k.c.fl, .int .i64 k.c.ft, .int .i64 k.c.se, .int .i64 k.c.dr, .int .i64 k.c.dw, .int .i64 k.c.ho, .int .i64 k.c.re, .int .i64 k.c.yi, .int .i64 k.c.qu, .int .i64 k.c.qo, .int .i64 k.c.lo, .int .i64 k.c.sl, .int .i64 k.c.rt, .int .i64 k.c.cp, .int .i64 k.c.tr, .int .i64 k.c.de, .int .i64 k.c.wi, .int .i64 k.se, .int .i64 k.ep, .slice (some ⟨g, 0, none⟩) ls.length c, .int .i64 k.sq, .int .i64 k.st, .int .i64 k.du, .int .i64 k.ak, .bool k.an, .int .i64 k.he] from hb)
  clear hb
  have HOW := Lib.hid ho
  clear ho
  have HL := Lib.hid hl
  clear hl
  have H1 := Lib.hid h1
  clear h1
  have H2 := Lib.hid h2
  clear h2
  have H0 := Lib.hid h0
  clear h0
  have H3 := Lib.hid h3
  clear h3
  have H4 := Lib.hid h4
  clear h4
  have HC := Lib.hid hc
  clear hc
  have H5 := Lib.hid h5
  clear h5
  have H6 := Lib.hid h6
  clear h6
  have H7 := Lib.hid h7
  clear h7
  go_enter Try.func16, Try.ntmps16
  go_upto_region 1 with fail
  obtain ⟨w1, hw1⟩ : ∃ w1, w1 = ((w.alloc (.cells #[.int .i64 p.se, .int .i64 p.ep, .int .i64 p.sq, .int .i64 p.ak, .bool p.ha, .int .i64 p.m.ki, .int .i64 p.m.a, .int .i64 p.m.b, .int .i64 p.m.c] 38)).alloc (.cells #[.int .i64 0, .int .i64 0, .int .i64 0, .int .i64 0] 36)) := ⟨_, rfl⟩
  rw [← hw1]
  have HBP1 := Lib.hid (show Blk w1 (w.heap.size) 38 #[.int .i64 p.se, .int .i64 p.ep, .int .i64 p.sq, .int .i64 p.ak, .bool p.ha, .int .i64 p.m.ki, .int .i64 p.m.a, .int .i64 p.m.b, .int .i64 p.m.c] by rw [hw1]; exact Blk.alloc (Blk.at_ (by (try simp only [size_alloc])) _ _) _)
  have HBR1 := Lib.hid (show Blk w1 (w.heap.size + 1) 36 #[.int .i64 0, .int .i64 0, .int .i64 0, .int .i64 0] by rw [hw1]; exact Blk.at_ (by (try simp only [size_alloc])) _ _)
  have HS1 := Lib.hid (show Since w w1 by rw [hw1]; exact Since.alloc (Since.alloc (Since.refl w) _) _)
  have hNE : w.heap.size ≤ w.heap.size ∧ w.heap.size < w.heap.size + 1 := by omega
  have HNE := Lib.hid hNE
  clear hNE hw1
  generalize w.heap.size + 1 = bR at *
  have HNE3 := Lib.hid (show w.heap.size ≤ w.heap.size ∧ w.heap.size < bR from HNE.out)
  clear HNE
  have HBQ1 := Lib.hid (keep_blk HS1.out HBQ.out)
  have HOW1 := Lib.hid (keep_own HS1.out HOW.out)
  have HIQ := Lib.hid (own_ne_ty HOW.out HBQ.out (by decide))
  have HLO := Lib.hid (show q < w.heap.size from Blk.lt HBQ.out)
  have HIP := Lib.hid (own_far HOW.out (show w.heap.size ≤ w.heap.size by have := HNE3.out; omega))
  have HNP := Lib.hid (show q ≠ w.heap.size by have := HLO.out; have := HNE3.out; omega)
  have HIR := Lib.hid (own_far HOW.out (show w.heap.size ≤ bR by have := HNE3.out; omega))
  have HNR := Lib.hid (show q ≠ bR by have := HLO.out; have := HNE3.out; omega)
  clear HBQ HOW
  have hrK : ∀ W W' : World, Since W W' → (Since w W ∧ Blk W w.heap.size 38 #[.int .i64 p.se, .int .i64 p.ep, .int .i64 p.sq, .int .i64 p.ak, .bool p.ha, .int .i64 p.m.ki, .int .i64 p.m.a, .int .i64 p.m.b, .int .i64 p.m.c] ∧ Blk W bR 36 #[.int .i64 0, .int .i64 0, .int .i64 0, .int .i64 0] ∧ Blk W q 88 #[.int .i64 k.c.ca, .int .i64 k.c.fl, .int .i64 k.c.ft, .int .i64 k.c.se, .int .i64 k.c.dr, .int .i64 k.c.dw, .int .i64 k.c.ho, .int .i64 k.c.re, .int .i64 k.c.yi, .int .i64 k.c.qu, .int .i64 k.c.qo, .int .i64 k.c.lo, .int .i64 k.c.sl, .int .i64 k.c.rt, .int .i64 k.c.cp, .int .i64 k.c.tr, .int .i64 k.c.de, .int .i64 k.c.wi, .int .i64 k.se, .int .i64 k.ep, .slice (some ⟨g, 0, none⟩) ls.length c, .int .i64 k.sq, .int .i64 k.st, .int .i64 k.du, .int .i64 k.ak, .bool k.an, .int .i64 k.he] ∧ (W).ownsRow lo 36 4 (.slice (some ⟨g, 0, none⟩) ls.length c) ls.length (rowsOf msgC ls)) → (Since w W' ∧ Blk W' w.heap.size 38 #[.int .i64 p.se, .int .i64 p.ep, .int .i64 p.sq, .int .i64 p.ak, .bool p.ha, .int .i64 p.m.ki, .int .i64 p.m.a, .int .i64 p.m.b, .int .i64 p.m.c] ∧ Blk W' bR 36 #[.int .i64 0, .int .i64 0, .int .i64 0, .int .i64 0] ∧ Blk W' q 88 #[.int .i64 k.c.ca, .int .i64 k.c.fl, .int .i64 k.c.ft, .int .i64 k.c.se, .int .i64 k.c.dr, .int .i64 k.c.dw, .int .i64 k.c.ho, .int .i64 k.c.re, .int .i64 k.c.yi, .int .i64 k.c.qu, .int .i64 k.c.qo, .int .i64 k.c.lo, .int .i64 k.c.sl, .int .i64 k.c.rt, .int .i64 k.c.cp, .int .i64 k.c.tr, .int .i64 k.c.de, .int .i64 k.c.wi, .int .i64 k.se, .int .i64 k.ep, .slice (some ⟨g, 0, none⟩) ls.length c, .int .i64 k.sq, .int .i64 k.st, .int .i64 k.du, .int .i64 k.ak, .bool k.an, .int .i64 k.he] ∧ (W').ownsRow lo 36 4 (.slice (some ⟨g, 0, none⟩) ls.length c) ls.length (rowsOf msgC ls)) := fun W W' k ⟨h, h0, h1, h2, h3⟩ => ⟨h.trans k, keep_blk k h0, keep_blk k h1, keep_blk k h2, keep_own k h3⟩
  have hrS : (fun W : World => Since w W ∧ Blk W w.heap.size 38 #[.int .i64 p.se, .int .i64 p.ep, .int .i64 p.sq, .int .i64 p.ak, .bool p.ha, .int .i64 p.m.ki, .int .i64 p.m.a, .int .i64 p.m.b, .int .i64 p.m.c] ∧ Blk W bR 36 #[.int .i64 0, .int .i64 0, .int .i64 0, .int .i64 0] ∧ Blk W q 88 #[.int .i64 k.c.ca, .int .i64 k.c.fl, .int .i64 k.c.ft, .int .i64 k.c.se, .int .i64 k.c.dr, .int .i64 k.c.dw, .int .i64 k.c.ho, .int .i64 k.c.re, .int .i64 k.c.yi, .int .i64 k.c.qu, .int .i64 k.c.qo, .int .i64 k.c.lo, .int .i64 k.c.sl, .int .i64 k.c.rt, .int .i64 k.c.cp, .int .i64 k.c.tr, .int .i64 k.c.de, .int .i64 k.c.wi, .int .i64 k.se, .int .i64 k.ep, .slice (some ⟨g, 0, none⟩) ls.length c, .int .i64 k.sq, .int .i64 k.st, .int .i64 k.du, .int .i64 k.ak, .bool k.an, .int .i64 k.he] ∧ (W).ownsRow lo 36 4 (.slice (some ⟨g, 0, none⟩) ls.length c) ls.length (rowsOf msgC ls)) w1 := ⟨HS1.out, HBP1.out, HBR1.out, HBQ1.out, HOW1.out⟩
  have HRK := Lib.hid hrK
  have HRD := Lib.hid (show (fun W : World => Since w W ∧ Blk W w.heap.size 38 #[.int .i64 p.se, .int .i64 p.ep, .int .i64 p.sq, .int .i64 p.ak, .bool p.ha, .int .i64 p.m.ki, .int .i64 p.m.a, .int .i64 p.m.b, .int .i64 p.m.c] ∧ Blk W bR 36 #[.int .i64 0, .int .i64 0, .int .i64 0, .int .i64 0] ∧ Blk W q 88 #[.int .i64 k.c.ca, .int .i64 k.c.fl, .int .i64 k.c.ft, .int .i64 k.c.se, .int .i64 k.c.dr, .int .i64 k.c.dw, .int .i64 k.c.ho, .int .i64 k.c.re, .int .i64 k.c.yi, .int .i64 k.c.qu, .int .i64 k.c.qo, .int .i64 k.c.lo, .int .i64 k.c.sl, .int .i64 k.c.rt, .int .i64 k.c.cp, .int .i64 k.c.tr, .int .i64 k.c.de, .int .i64 k.c.wi, .int .i64 k.se, .int .i64 k.ep, .slice (some ⟨g, 0, none⟩) ls.length c, .int .i64 k.sq, .int .i64 k.st, .int .i64 k.du, .int .i64 k.ak, .bool k.an, .int .i64 k.he] ∧ (W).ownsRow lo 36 4 (.slice (some ⟨g, 0, none⟩) ls.length c) ls.length (rowsOf msgC ls)) (World.drew w1) from hrK _ _ ((Since.refl w1).drew) hrS)
  clear hrK hrS
  refine wp_region_held_drew (S := fun W : World => Since w W ∧ Blk W w.heap.size 38 #[.int .i64 p.se, .int .i64 p.ep, .int .i64 p.sq, .int .i64 p.ak, .bool p.ha, .int .i64 p.m.ki, .int .i64 p.m.a, .int .i64 p.m.b, .int .i64 p.m.c] ∧ Blk W bR 36 #[.int .i64 0, .int .i64 0, .int .i64 0, .int .i64 0] ∧ Blk W q 88 #[.int .i64 k.c.ca, .int .i64 k.c.fl, .int .i64 k.c.ft, .int .i64 k.c.se, .int .i64 k.c.dr, .int .i64 k.c.dw, .int .i64 k.c.ho, .int .i64 k.c.re, .int .i64 k.c.yi, .int .i64 k.c.qu, .int .i64 k.c.qo, .int .i64 k.c.lo, .int .i64 k.c.sl, .int .i64 k.c.rt, .int .i64 k.c.cp, .int .i64 k.c.tr, .int .i64 k.c.de, .int .i64 k.c.wi, .int .i64 k.se, .int .i64 k.ep, .slice (some ⟨g, 0, none⟩) ls.length c, .int .i64 k.sq, .int .i64 k.st, .int .i64 k.du, .int .i64 k.ak, .bool k.an, .int .i64 k.he] ∧ (W).ownsRow lo 36 4 (.slice (some ⟨g, 0, none⟩) ls.length c) ls.length (rowsOf msgC ls)) (by kernel_rfl) HRD.out (fun hHeld => ?_)
  refine wpAnyH_take (i := 0) (oi := ?o1__0) (v := .pointer (some ⟨q, 0, none⟩)) ?h1__0 (by kernel_rfl) (by kernel_rfl) (by kernel_rfl) ?q1__0 ?y1__0 (by assumption) ?_
  case h1__0 => (first | (simp only [gA, gB, gC]; done) | (simp only [gA, gB, gC]; exact rfl))
  case q1__0 => exact fun _ _ _ h => h
  case y1__0 => (refine Or.inl ⟨rfl, ?_⟩; intro w hSw; (first | rfl | (go_simp; (try with_reducible rfl))))
  (try simp only [Act.put, sA, sB, sC])
  refine wpAnyH_take (i := 1) (oi := ?o1__1) (v := .bool false) ?h1__1 (by kernel_rfl) (by kernel_rfl) (by kernel_rfl) ?q1__1 ?y1__1 (by assumption) ?_
  case h1__1 => (first | (simp only [gA, gB, gC]; done) | (simp only [gA, gB, gC]; exact rfl))
  case q1__1 => exact fun _ _ _ h => h
  case y1__1 => (refine Or.inl ⟨rfl, ?_⟩; intro w hSw; (first | rfl | (go_simp; (try with_reducible rfl))))
  (try simp only [Act.put, sA, sB, sC])
  refine wpAnyH_take (i := 2) (oi := ?o1__2) (v := .bool false) ?h1__2 (by kernel_rfl) (by kernel_rfl) (by kernel_rfl) ?q1__2 ?y1__2 (by assumption) ?_
  case h1__2 => (first | (simp only [gA, gB, gC]; done) | (simp only [gA, gB, gC]; exact rfl))
  case q1__2 => exact fun _ _ _ h => h
  case y1__2 => (refine Or.inl ⟨rfl, ?_⟩; intro w hSw; (first | rfl | (go_simp; (try with_reducible rfl))))
  (try simp only [Act.put, sA, sB, sC])
  refine wpAnyH_take (i := 3) (oi := ?o1__3) (v := .pointer (some ⟨w.heap.size, 0, none⟩)) ?h1__3 (by kernel_rfl) (by kernel_rfl) (by kernel_rfl) ?q1__3 ?y1__3 (by assumption) ?_
  case h1__3 => (first | (simp only [gA, gB, gC]; done) | (simp only [gA, gB, gC]; exact rfl))
  case q1__3 => exact fun _ _ _ h => h
  case y1__3 => (refine Or.inl ⟨rfl, ?_⟩; intro w hSw; (first | rfl | (go_simp; (try with_reducible rfl))))
  (try simp only [Act.put, sA, sB, sC])
  refine wpAnyH_take (i := 4) (oi := ?o1__4) (v := .int .i64 p.se) ?h1__4 (by kernel_rfl) (by kernel_rfl) (by kernel_rfl) ?q1__4 ?y1__4 (by assumption) ?_
  case h1__4 => (first | (simp only [gA, gB, gC]; done) | (simp only [gA, gB, gC]; exact rfl))
  case q1__4 => exact fun _ _ _ h => h
  case y1__4 => (refine Or.inl ⟨rfl, ?_⟩; intro w hSw; exact exec_cell 3 _ _ hSw.2.1 rfl rfl rfl Try.underlying3 rfl)
  (try simp only [Act.put, sA, sB, sC])
  refine wpAnyH_take (i := 5) (oi := ?o1__5) (v := .pointer (some ⟨q, 0, none⟩)) ?h1__5 (by kernel_rfl) (by kernel_rfl) (by kernel_rfl) ?q1__5 ?y1__5 (by assumption) ?_
  case h1__5 => (first | (simp only [gA, gB, gC]; done) | (simp only [gA, gB, gC]; exact rfl))
  case q1__5 => exact fun _ _ _ h => h
  case y1__5 => (refine Or.inl ⟨rfl, ?_⟩; intro w hSw; (first | rfl | (go_simp; (try with_reducible rfl))))
  (try simp only [Act.put, sA, sB, sC])
  refine wpAnyH_take (i := 6) (oi := ?o1__6) (v := .pointer (some ⟨q, 0, none⟩)) ?h1__6 (by kernel_rfl) (by kernel_rfl) (by kernel_rfl) ?q1__6 ?y1__6 (by assumption) ?_
  case h1__6 => (first | (simp only [gA, gB, gC]; done) | (simp only [gA, gB, gC]; exact rfl))
  case q1__6 => exact fun _ _ _ h => h
  case y1__6 => (refine Or.inl ⟨rfl, ?_⟩; intro w hSw; (first | rfl | (go_simp; (try with_reducible rfl))))
  (try simp only [Act.put, sA, sB, sC])
  refine wpAnyH_take (i := 7) (oi := ?o1__7) (v := .pointer (some ⟨q, 18, none⟩)) ?h1__7 (by kernel_rfl) (by kernel_rfl) (by kernel_rfl) ?q1__7 ?y1__7 (by assumption) ?_
  case h1__7 => (first | (simp only [gA, gB, gC]; done) | (simp only [gA, gB, gC]; exact rfl))
  case q1__7 => exact fun _ _ _ h => h
  case y1__7 => (refine Or.inl ⟨rfl, ?_⟩; intro w hSw; (first | rfl | (go_simp; (try with_reducible rfl))))
  (try simp only [Act.put, sA, sB, sC])
  refine wpAnyH_take (i := 8) (oi := ?o1__8) (v := .int .i64 k.se) ?h1__8 (by kernel_rfl) (by kernel_rfl) (by kernel_rfl) ?q1__8 ?y1__8 (by assumption) ?_
  case h1__8 => (first | (simp only [gA, gB, gC]; done) | (simp only [gA, gB, gC]; exact rfl))
  case q1__8 => exact fun _ _ _ h => h
  case y1__8 => (refine Or.inl ⟨rfl, ?_⟩; intro w hSw; exact exec_cell 3 _ _ hSw.2.2.2.1 rfl rfl rfl Try.underlying3 rfl)
  (try simp only [Act.put, sA, sB, sC])
  refine wpAnyH_take (i := 9) (oi := ?o1__9) (v := .bool false) ?h1__9 (by kernel_rfl) (by kernel_rfl) (by kernel_rfl) ?q1__9 ?y1__9 (by assumption) ?_
  case h1__9 => (first | (simp only [gA, gB, gC]; done) | (simp only [gA, gB, gC]; exact rfl))
  case q1__9 => exact fun _ _ _ h => h
  case y1__9 => (refine Or.inl ⟨rfl, ?_⟩; intro w hSw; (have q0 := H1.out; go_simp; (first | done | rfl | omega)))
  (try simp only [Act.put, sA, sB, sC])
  refine wpAnyH_take (i := 10) (oi := ?o1__10) (v := .bool false) ?h1__10 (by kernel_rfl) (by kernel_rfl) (by kernel_rfl) ?q1__10 ?y1__10 (by assumption) ?_
  case h1__10 => (first | (simp only [gA, gB, gC]; done) | (simp only [gA, gB, gC]; exact rfl))
  case q1__10 => exact fun _ _ _ h => h
  case y1__10 => (refine Or.inl ⟨rfl, ?_⟩; intro w hSw; (first | rfl | (go_simp; (try with_reducible rfl))))
  (try simp only [Act.put, sA, sB, sC])
  refine wpAnyH_take (i := 11) (oi := ?o1__11) (v := .bool false) ?h1__11 (by kernel_rfl) (by kernel_rfl) (by kernel_rfl) ?q1__11 ?y1__11 (by assumption) ?_
  case h1__11 => (first | (simp only [gA, gB, gC]; done) | (simp only [gA, gB, gC]; exact rfl))
  case q1__11 => exact fun _ _ _ h => h
  case y1__11 => (refine Or.inl ⟨rfl, ?_⟩; intro w hSw; (first | rfl | (go_simp; (try with_reducible rfl))))
  (try simp only [Act.put, sA, sB, sC])
  refine wpAnyH_take (i := 12) (oi := ?o1__12) (v := .pointer (some ⟨w.heap.size, 1, none⟩)) ?h1__12 (by kernel_rfl) (by kernel_rfl) (by kernel_rfl) ?q1__12 ?y1__12 (by assumption) ?_
  case h1__12 => (first | (simp only [gA, gB, gC]; done) | (simp only [gA, gB, gC]; exact rfl))
  case q1__12 => exact fun _ _ _ h => h
  case y1__12 => (refine Or.inl ⟨rfl, ?_⟩; intro w hSw; (first | rfl | (go_simp; (try with_reducible rfl))))
  (try simp only [Act.put, sA, sB, sC])
  refine wpAnyH_take (i := 13) (oi := ?o1__13) (v := .int .i64 p.ep) ?h1__13 (by kernel_rfl) (by kernel_rfl) (by kernel_rfl) ?q1__13 ?y1__13 (by assumption) ?_
  case h1__13 => (first | (simp only [gA, gB, gC]; done) | (simp only [gA, gB, gC]; exact rfl))
  case q1__13 => exact fun _ _ _ h => h
  case y1__13 => (refine Or.inl ⟨rfl, ?_⟩; intro w hSw; exact exec_cell 3 _ _ hSw.2.1 rfl rfl rfl Try.underlying3 rfl)
  (try simp only [Act.put, sA, sB, sC])
  refine wpAnyH_take (i := 14) (oi := ?o1__14) (v := .pointer (some ⟨q, 0, none⟩)) ?h1__14 (by kernel_rfl) (by kernel_rfl) (by kernel_rfl) ?q1__14 ?y1__14 (by assumption) ?_
  case h1__14 => (first | (simp only [gA, gB, gC]; done) | (simp only [gA, gB, gC]; exact rfl))
  case q1__14 => exact fun _ _ _ h => h
  case y1__14 => (refine Or.inl ⟨rfl, ?_⟩; intro w hSw; (first | rfl | (go_simp; (try with_reducible rfl))))
  (try simp only [Act.put, sA, sB, sC])
  refine wpAnyH_take (i := 15) (oi := ?o1__15) (v := .pointer (some ⟨q, 0, none⟩)) ?h1__15 (by kernel_rfl) (by kernel_rfl) (by kernel_rfl) ?q1__15 ?y1__15 (by assumption) ?_
  case h1__15 => (first | (simp only [gA, gB, gC]; done) | (simp only [gA, gB, gC]; exact rfl))
  case q1__15 => exact fun _ _ _ h => h
  case y1__15 => (refine Or.inl ⟨rfl, ?_⟩; intro w hSw; (first | rfl | (go_simp; (try with_reducible rfl))))
  (try simp only [Act.put, sA, sB, sC])
  refine wpAnyH_take (i := 16) (oi := ?o1__16) (v := .pointer (some ⟨q, 19, none⟩)) ?h1__16 (by kernel_rfl) (by kernel_rfl) (by kernel_rfl) ?q1__16 ?y1__16 (by assumption) ?_
  case h1__16 => (first | (simp only [gA, gB, gC]; done) | (simp only [gA, gB, gC]; exact rfl))
  case q1__16 => exact fun _ _ _ h => h
  case y1__16 => (refine Or.inl ⟨rfl, ?_⟩; intro w hSw; (first | rfl | (go_simp; (try with_reducible rfl))))
  (try simp only [Act.put, sA, sB, sC])
  refine wpAnyH_take (i := 17) (oi := ?o1__17) (v := .int .i64 k.ep) ?h1__17 (by kernel_rfl) (by kernel_rfl) (by kernel_rfl) ?q1__17 ?y1__17 (by assumption) ?_
  case h1__17 => (first | (simp only [gA, gB, gC]; done) | (simp only [gA, gB, gC]; exact rfl))
  case q1__17 => exact fun _ _ _ h => h
  case y1__17 => (refine Or.inl ⟨rfl, ?_⟩; intro w hSw; exact exec_cell 3 _ _ hSw.2.2.2.1 rfl rfl rfl Try.underlying3 rfl)
  (try simp only [Act.put, sA, sB, sC])
  refine wpAnyH_take (i := 18) (oi := ?o1__18) (v := .bool false) ?h1__18 (by kernel_rfl) (by kernel_rfl) (by kernel_rfl) ?q1__18 ?y1__18 (by assumption) ?_
  case h1__18 => (first | (simp only [gA, gB, gC]; done) | (simp only [gA, gB, gC]; exact rfl))
  case q1__18 => exact fun _ _ _ h => h
  case y1__18 => (refine Or.inl ⟨rfl, ?_⟩; intro w hSw; (have q0 := H2.out; go_simp; (first | done | rfl | omega)))
  (try simp only [Act.put, sA, sB, sC])
  refine wpAnyH_take (i := 19) (oi := ?o1__19) (v := .bool false) ?h1__19 (by kernel_rfl) (by kernel_rfl) (by kernel_rfl) ?q1__19 ?y1__19 (by assumption) ?_
  case h1__19 => (first | (simp only [gA, gB, gC]; done) | (simp only [gA, gB, gC]; exact rfl))
  case q1__19 => exact fun _ _ _ h => h
  case y1__19 => (refine Or.inl ⟨rfl, ?_⟩; intro w hSw; (first | rfl | (go_simp; (try with_reducible rfl))))
  (try simp only [Act.put, sA, sB, sC])
  refine wpAnyH_done (by kernel_rfl) ?_ _
  have HSd1 := Lib.hid hHeld.1
  have HBPd1 := Lib.hid (hHeld.2.1)
  have HBRd1 := Lib.hid (hHeld.2.2.1)
  have HBQd1 := Lib.hid (hHeld.2.2.2.1)
  have HFrd1 := Lib.hid (hHeld.2.2.2.2)
  clear hHeld HRK HRD HS1 HBP1 HBR1 HBQ1 HOW1
  have HSU := Lib.hid (show Upd [q, g] w w1.drew from Upd.of_since HSd1.out)
  clear HSd1
  go_upto_region 3 with fail
  go_cut [] (fun  wx => Hid (Upd [q, g] w wx ∧ Blk wx w.heap.size 38 #[.int .i64 p.se, .int .i64 p.ep, .int .i64 p.sq, .int .i64 p.ak, .bool p.ha, .int .i64 p.m.ki, .int .i64 p.m.a, .int .i64 p.m.b, .int .i64 p.m.c] ∧ Blk wx bR 36 #[.int .i64 0, .int .i64 0, .int .i64 0, .int .i64 0] ∧ Blk wx q 88 #[.int .i64 k.c.ca, .int .i64 k.c.fl, .int .i64 k.c.ft, .int .i64 k.c.se, .int .i64 k.c.dr, .int .i64 k.c.dw, .int .i64 k.c.ho, .int .i64 k.c.re, .int .i64 k.c.yi, .int .i64 k.c.qu, .int .i64 k.c.qo, .int .i64 k.c.lo, .int .i64 k.c.sl, .int .i64 k.c.rt, .int .i64 k.c.cp, .int .i64 k.c.tr, .int .i64 k.c.de, .int .i64 k.c.wi, .int .i64 k.se, .int .i64 k.ep, .slice (some ⟨g, 0, none⟩) ls.length c, .int .i64 k.sq, .int .i64 k.st, .int .i64 k.du, .int .i64 k.ak, .bool k.an, .int .i64 (mx2 k.he (cl now))] ∧ (wx).ownsRow lo 36 4 (.slice (some ⟨g, 0, none⟩) ls.length c) ls.length (rowsOf msgC ls)))
  case first =>
    have hrK : ∀ W W' : World, Since W W' → (Upd [q, g] w W ∧ Blk W w.heap.size 38 #[.int .i64 p.se, .int .i64 p.ep, .int .i64 p.sq, .int .i64 p.ak, .bool p.ha, .int .i64 p.m.ki, .int .i64 p.m.a, .int .i64 p.m.b, .int .i64 p.m.c] ∧ Blk W bR 36 #[.int .i64 0, .int .i64 0, .int .i64 0, .int .i64 0] ∧ HasRow W q 88 27 ∧ (W).ownsRow lo 36 4 (.slice (some ⟨g, 0, none⟩) ls.length c) ls.length (rowsOf msgC ls)) → (Upd [q, g] w W' ∧ Blk W' w.heap.size 38 #[.int .i64 p.se, .int .i64 p.ep, .int .i64 p.sq, .int .i64 p.ak, .bool p.ha, .int .i64 p.m.ki, .int .i64 p.m.a, .int .i64 p.m.b, .int .i64 p.m.c] ∧ Blk W' bR 36 #[.int .i64 0, .int .i64 0, .int .i64 0, .int .i64 0] ∧ HasRow W' q 88 27 ∧ (W').ownsRow lo 36 4 (.slice (some ⟨g, 0, none⟩) ls.length c) ls.length (rowsOf msgC ls)) := fun W W' k ⟨h, h0, h1, h2, h3⟩ => ⟨h.trans k, keep_blk k h0, keep_blk k h1, HasRow.keep k h2, keep_own k h3⟩
    have hrS : (fun W : World => Upd [q, g] w W ∧ Blk W w.heap.size 38 #[.int .i64 p.se, .int .i64 p.ep, .int .i64 p.sq, .int .i64 p.ak, .bool p.ha, .int .i64 p.m.ki, .int .i64 p.m.a, .int .i64 p.m.b, .int .i64 p.m.c] ∧ Blk W bR 36 #[.int .i64 0, .int .i64 0, .int .i64 0, .int .i64 0] ∧ HasRow W q 88 27 ∧ (W).ownsRow lo 36 4 (.slice (some ⟨g, 0, none⟩) ls.length c) ls.length (rowsOf msgC ls)) w1.drew := ⟨HSU.out, HBPd1.out, HBRd1.out, HasRow.of HBQd1.out rfl, HFrd1.out⟩
    have HRK := Lib.hid hrK
    have HRD := Lib.hid (show (fun W : World => Upd [q, g] w W ∧ Blk W w.heap.size 38 #[.int .i64 p.se, .int .i64 p.ep, .int .i64 p.sq, .int .i64 p.ak, .bool p.ha, .int .i64 p.m.ki, .int .i64 p.m.a, .int .i64 p.m.b, .int .i64 p.m.c] ∧ Blk W bR 36 #[.int .i64 0, .int .i64 0, .int .i64 0, .int .i64 0] ∧ HasRow W q 88 27 ∧ (W).ownsRow lo 36 4 (.slice (some ⟨g, 0, none⟩) ls.length c) ls.length (rowsOf msgC ls)) (World.drew w1.drew) from hrK _ _ ((Since.refl w1.drew).drew) hrS)
    clear hrK hrS
    have HPQ := Lib.hid (show Blk (World.drew w1.drew) q 88 #[.int .i64 k.c.ca, .int .i64 k.c.fl, .int .i64 k.c.ft, .int .i64 k.c.se, .int .i64 k.c.dr, .int .i64 k.c.dw, .int .i64 k.c.ho, .int .i64 k.c.re, .int .i64 k.c.yi, .int .i64 k.c.qu, .int .i64 k.c.qo, .int .i64 k.c.lo, .int .i64 k.c.sl, .int .i64 k.c.rt, .int .i64 k.c.cp, .int .i64 k.c.tr, .int .i64 k.c.de, .int .i64 k.c.wi, .int .i64 k.se, .int .i64 k.ep, .slice (some ⟨g, 0, none⟩) ls.length c, .int .i64 k.sq, .int .i64 k.st, .int .i64 k.du, .int .i64 k.ak, .bool k.an, .int .i64 k.he] from HBQd1.out)
    refine wp_region_held_drew (S := fun W : World => Upd [q, g] w W ∧ Blk W w.heap.size 38 #[.int .i64 p.se, .int .i64 p.ep, .int .i64 p.sq, .int .i64 p.ak, .bool p.ha, .int .i64 p.m.ki, .int .i64 p.m.a, .int .i64 p.m.b, .int .i64 p.m.c] ∧ Blk W bR 36 #[.int .i64 0, .int .i64 0, .int .i64 0, .int .i64 0] ∧ HasRow W q 88 27 ∧ (W).ownsRow lo 36 4 (.slice (some ⟨g, 0, none⟩) ls.length c) ls.length (rowsOf msgC ls)) (by kernel_rfl) HRD.out (fun hHeld => ?_)
    refine wpAnyH_take (i := 0) (oi := ?o3__0) (v := .pointer (some ⟨q, 0, none⟩)) ?h3__0 (by kernel_rfl) (by kernel_rfl) (by kernel_rfl) ?q3__0 ?y3__0 (by assumption) ?_
    case h3__0 => (first | (simp only [gA, gB, gC]; done) | (simp only [gA, gB, gC]; exact rfl))
    case q3__0 => exact fun _ _ _ h => h
    case y3__0 => (refine Or.inl ⟨rfl, ?_⟩; intro w hSw; (first | rfl | (go_simp; (try with_reducible rfl))))
    (try simp only [Act.put, sA, sB, sC])
    refine wpAnyH_take (i := 1) (oi := ?o3__1) (v := .pointer (some ⟨q, 0, none⟩)) ?h3__1 (by kernel_rfl) (by kernel_rfl) (by kernel_rfl) ?q3__1 ?y3__1 (by assumption) ?_
    case h3__1 => (first | (simp only [gA, gB, gC]; done) | (simp only [gA, gB, gC]; exact rfl))
    case q3__1 => exact fun _ _ _ h => h
    case y3__1 => (refine Or.inl ⟨rfl, ?_⟩; intro w hSw; (first | rfl | (go_simp; (try with_reducible rfl))))
    (try simp only [Act.put, sA, sB, sC])
    refine wpAnyH_take (i := 2) (oi := ?o3__2) (v := .pointer (some ⟨q, 0, none⟩)) ?h3__2 (by kernel_rfl) (by kernel_rfl) (by kernel_rfl) ?q3__2 ?y3__2 (by assumption) ?_
    case h3__2 => (first | (simp only [gA, gB, gC]; done) | (simp only [gA, gB, gC]; exact rfl))
    case q3__2 => exact fun _ _ _ h => h
    case y3__2 => (refine Or.inl ⟨rfl, ?_⟩; intro w hSw; (first | rfl | (go_simp; (try with_reducible rfl))))
    (try simp only [Act.put, sA, sB, sC])
    refine wpAnyH_take (i := 3) (oi := ?o3__3) (v := .pointer (some ⟨q, 26, none⟩)) ?h3__3 (by kernel_rfl) (by kernel_rfl) (by kernel_rfl) ?q3__3 ?y3__3 (by assumption) ?_
    case h3__3 => (first | (simp only [gA, gB, gC]; done) | (simp only [gA, gB, gC]; exact rfl))
    case q3__3 => exact fun _ _ _ h => h
    case y3__3 => (refine Or.inl ⟨rfl, ?_⟩; intro w hSw; (first | rfl | (go_simp; (try with_reducible rfl))))
    (try simp only [Act.put, sA, sB, sC])
    refine wpAnyH_take (i := 5) (oi := ?o3__5) (v := .int .i64 now) ?h3__5 (by kernel_rfl) (by kernel_rfl) (by kernel_rfl) ?q3__5 ?y3__5 (by assumption) ?_
    case h3__5 => (first | (simp only [gA, gB, gC]; done) | (simp only [gA, gB, gC]; exact rfl))
    case q3__5 => exact fun _ _ _ h => h
    case y3__5 => (refine Or.inl ⟨rfl, ?_⟩; intro w hSw; (first | rfl | (go_simp; (try with_reducible rfl))))
    (try simp only [Act.put, sA, sB, sC])
    refine wpAnyH_ready (rs := [4, 6]) (by kernel_rfl) (by simp) ?_
    refine AllReadyH.cons (o := ?o3__4b) ?h3__4b (fun K hK => ?g3__4b) (AllReadyH.cons (o := ?o3__6b) ?h3__6b (fun K hK => ?g3__6b) AllReadyH.nil)
    case h3__4b => (first | (simp only [gA, gB, gC]; done) | (simp only [gA, gB, gC]; exact rfl))
    case h3__6b => (first | (simp only [gA, gB, gC]; done) | (simp only [gA, gB, gC]; exact rfl))
    case g3__4b =>
      rw [if_pos (by rfl)]
      refine wp_q (.int .i64 k.he) ?e3_b4_4 ?_
      case e3_b4_4 => exact exec_cell 3 _ _ HPQ.out rfl rfl rfl Try.underlying3 rfl
      refine hK.out _ _ hHeld (fun hHeld2 => ?_)
      clear hK K hHeld2
      (try simp only [Act.put, sA, sB, sC])
      refine wpAnyH_ready (rs := [6]) (by kernel_rfl) (by simp) ?_
      refine AllReadyH.cons (o := ?o3_b4_6) ?h3_b4_6 (fun K hK => ?_) AllReadyH.nil
      case h3_b4_6 => (first | (simp only [gA, gB, gC]; done) | (simp only [gA, gB, gC]; exact rfl))
      (try go_simp)
      refine (clT _ _).mono ?_
      rintro e w' ⟨rfl, rfl⟩
      (try go_wp2_with fail)
      refine hK.out _ _ hHeld (fun hHeld2 => ?_)
      clear hK K hHeld2
      (try simp only [Act.put, sA, sB, sC])
      refine wpAnyH_take (i := 7) (oi := ?o3_b4_7) (v := .int .i64 (mx2 k.he (cl now))) ?h3_b4_7 (by kernel_rfl) (by kernel_rfl) (by kernel_rfl) ?q3_b4_7 ?y3_b4_7 (by assumption) ?_
      case h3_b4_7 => (first | (simp only [gA, gB, gC]; done) | (simp only [gA, gB, gC]; exact rfl))
      case q3_b4_7 => exact fun _ _ _ h => h
      case y3_b4_7 => (refine Or.inl ⟨rfl, ?_⟩; intro w hSw; (unfold mx2; go_simp; (first | done | rfl)))
      (try simp only [Act.put, sA, sB, sC])
      refine wpAnyH_take (i := 8) (oi := ?o3_b4_8) (v := .pointer (some ⟨q, 0, none⟩)) ?h3_b4_8 (by kernel_rfl) (by kernel_rfl) (by kernel_rfl) ?q3_b4_8 ?y3_b4_8 (by assumption) ?_
      case h3_b4_8 => (first | (simp only [gA, gB, gC]; done) | (simp only [gA, gB, gC]; exact rfl))
      case q3_b4_8 => exact fun _ _ _ h => h
      case y3_b4_8 => (refine Or.inl ⟨rfl, ?_⟩; intro w hSw; (first | rfl | (go_simp; (try with_reducible rfl))))
      (try simp only [Act.put, sA, sB, sC])
      refine wpAnyH_take (i := 9) (oi := ?o3_b4_9) (v := .pointer (some ⟨q, 26, none⟩)) ?h3_b4_9 (by kernel_rfl) (by kernel_rfl) (by kernel_rfl) ?q3_b4_9 ?y3_b4_9 (by assumption) ?_
      case h3_b4_9 => (first | (simp only [gA, gB, gC]; done) | (simp only [gA, gB, gC]; exact rfl))
      case q3_b4_9 => exact fun _ _ _ h => h
      case y3_b4_9 => (refine Or.inl ⟨rfl, ?_⟩; intro w hSw; (first | rfl | (go_simp; (try with_reducible rfl))))
      (try simp only [Act.put, sA, sB, sC])
      refine wpAnyH_ready (rs := [10]) (by kernel_rfl) (by simp) ?_
      refine AllReadyH.cons (o := ?o3_b4_10) ?h3_b4_10 (fun K hK => ?_) AllReadyH.nil
      case h3_b4_10 => (first | (simp only [gA, gB, gC]; done) | (simp only [gA, gB, gC]; exact rfl))
      rw [if_pos (by rfl)]
      refine wp_st_cell 3 _ _ rfl #[.int .i64 k.c.ca, .int .i64 k.c.fl, .int .i64 k.c.ft, .int .i64 k.c.se, .int .i64 k.c.dr, .int .i64 k.c.dw, .int .i64 k.c.ho, .int .i64 k.c.re, .int .i64 k.c.yi, .int .i64 k.c.qu, .int .i64 k.c.qo, .int .i64 k.c.lo, .int .i64 k.c.sl, .int .i64 k.c.rt, .int .i64 k.c.cp, .int .i64 k.c.tr, .int .i64 k.c.de, .int .i64 k.c.wi, .int .i64 k.se, .int .i64 k.ep, .slice (some ⟨g, 0, none⟩) ls.length c, .int .i64 k.sq, .int .i64 k.st, .int .i64 k.du, .int .i64 k.ak, .bool k.an, .int .i64 (mx2 k.he (cl now))] (.int .i64 (mx2 k.he (cl now))) rfl rfl HPQ.out (by show 26 < 27; decide) rfl (by first | rfl | simp [Value.oneCell']) (by kernel_rfl) ?_
      clear HPQ
      intro w2 hw
      have HRQ := Lib.hid (show Blk w2 q 88 #[.int .i64 k.c.ca, .int .i64 k.c.fl, .int .i64 k.c.ft, .int .i64 k.c.se, .int .i64 k.c.dr, .int .i64 k.c.dw, .int .i64 k.c.ho, .int .i64 k.c.re, .int .i64 k.c.yi, .int .i64 k.c.qu, .int .i64 k.c.qo, .int .i64 k.c.lo, .int .i64 k.c.sl, .int .i64 k.c.rt, .int .i64 k.c.cp, .int .i64 k.c.tr, .int .i64 k.c.de, .int .i64 k.c.wi, .int .i64 k.se, .int .i64 k.ep, .slice (some ⟨g, 0, none⟩) ls.length c, .int .i64 k.sq, .int .i64 k.st, .int .i64 k.du, .int .i64 k.ak, .bool k.an, .int .i64 (mx2 k.he (cl now))] by obtain ⟨old, Bo, _⟩ := hHeld.2.2.2.1; rw [hw]; exact Blk.row Bo _)
      have hHeld3 : (fun W : World => Upd [q, g] w W ∧ Blk W w.heap.size 38 #[.int .i64 p.se, .int .i64 p.ep, .int .i64 p.sq, .int .i64 p.ak, .bool p.ha, .int .i64 p.m.ki, .int .i64 p.m.a, .int .i64 p.m.b, .int .i64 p.m.c] ∧ Blk W bR 36 #[.int .i64 0, .int .i64 0, .int .i64 0, .int .i64 0] ∧ HasRow W q 88 27 ∧ (W).ownsRow lo 36 4 (.slice (some ⟨g, 0, none⟩) ls.length c) ls.length (rowsOf msgC ls)) w2 := ⟨by rw [hw]; exact Upd.setRow hHeld.1 (.inl (by simp)) _, by rw [hw]; exact Blk.row_far (hHeld.2.1) (Ne.symm HNP.out) _, by rw [hw]; exact Blk.row_far (hHeld.2.2.1) (Ne.symm HNR.out) _, HasRow.of HRQ.out rfl, by rw [hw]; exact own_row_far (hHeld.2.2.2.2) HIQ.out _⟩
      refine hK.out _ _ hHeld3 (fun hHeld2 => ?_)
      clear hK K hHeld hHeld3 hw
      have hHeld := hHeld2
      clear hHeld2
      (try simp only [Act.put, sA, sB, sC])
      refine wpAnyH_done (by kernel_rfl) ?_ _
      have HSd3 := Lib.hid hHeld.1
      have HBPd3 := Lib.hid (hHeld.2.1)
      have HBRd3 := Lib.hid (hHeld.2.2.1)
      have HBQd3 := Lib.hid HRQ.out
      clear HRQ
      have HFrd3 := Lib.hid (hHeld.2.2.2.2)
      clear hHeld HRK HRD HSU HBPd1 HBRd1 HBQd1 HFrd1
      go_wp2_with fail
      go_meet
      case rel => exact Lib.hid ⟨HSd3.out, HBPd3.out, HBRd3.out, HBQd3.out, HFrd3.out⟩
    case g3__6b =>
      (try go_simp)
      refine (clT _ _).mono ?_
      rintro e w' ⟨rfl, rfl⟩
      (try go_wp2_with fail)
      refine hK.out _ _ hHeld (fun hHeld2 => ?_)
      clear hK K hHeld2
      (try simp only [Act.put, sA, sB, sC])
      refine wpAnyH_ready (rs := [4]) (by kernel_rfl) (by simp) ?_
      refine AllReadyH.cons (o := ?o3_b6_4) ?h3_b6_4 (fun K hK => ?_) AllReadyH.nil
      case h3_b6_4 => (first | (simp only [gA, gB, gC]; done) | (simp only [gA, gB, gC]; exact rfl))
      rw [if_pos (by rfl)]
      refine wp_q (.int .i64 k.he) ?e3_b6_4 ?_
      case e3_b6_4 => exact exec_cell 3 _ _ HPQ.out rfl rfl rfl Try.underlying3 rfl
      refine hK.out _ _ hHeld (fun hHeld2 => ?_)
      clear hK K hHeld2
      (try simp only [Act.put, sA, sB, sC])
      refine wpAnyH_take (i := 7) (oi := ?o3_b6_7) (v := .int .i64 (mx2 k.he (cl now))) ?h3_b6_7 (by kernel_rfl) (by kernel_rfl) (by kernel_rfl) ?q3_b6_7 ?y3_b6_7 (by assumption) ?_
      case h3_b6_7 => (first | (simp only [gA, gB, gC]; done) | (simp only [gA, gB, gC]; exact rfl))
      case q3_b6_7 => exact fun _ _ _ h => h
      case y3_b6_7 => (refine Or.inl ⟨rfl, ?_⟩; intro w hSw; (unfold mx2; go_simp; (first | done | rfl)))
      (try simp only [Act.put, sA, sB, sC])
      refine wpAnyH_take (i := 8) (oi := ?o3_b6_8) (v := .pointer (some ⟨q, 0, none⟩)) ?h3_b6_8 (by kernel_rfl) (by kernel_rfl) (by kernel_rfl) ?q3_b6_8 ?y3_b6_8 (by assumption) ?_
      case h3_b6_8 => (first | (simp only [gA, gB, gC]; done) | (simp only [gA, gB, gC]; exact rfl))
      case q3_b6_8 => exact fun _ _ _ h => h
      case y3_b6_8 => (refine Or.inl ⟨rfl, ?_⟩; intro w hSw; (first | rfl | (go_simp; (try with_reducible rfl))))
      (try simp only [Act.put, sA, sB, sC])
      refine wpAnyH_take (i := 9) (oi := ?o3_b6_9) (v := .pointer (some ⟨q, 26, none⟩)) ?h3_b6_9 (by kernel_rfl) (by kernel_rfl) (by kernel_rfl) ?q3_b6_9 ?y3_b6_9 (by assumption) ?_
      case h3_b6_9 => (first | (simp only [gA, gB, gC]; done) | (simp only [gA, gB, gC]; exact rfl))
      case q3_b6_9 => exact fun _ _ _ h => h
      case y3_b6_9 => (refine Or.inl ⟨rfl, ?_⟩; intro w hSw; (first | rfl | (go_simp; (try with_reducible rfl))))
      (try simp only [Act.put, sA, sB, sC])
      refine wpAnyH_ready (rs := [10]) (by kernel_rfl) (by simp) ?_
      refine AllReadyH.cons (o := ?o3_b6_10) ?h3_b6_10 (fun K hK => ?_) AllReadyH.nil
      case h3_b6_10 => (first | (simp only [gA, gB, gC]; done) | (simp only [gA, gB, gC]; exact rfl))
      rw [if_pos (by rfl)]
      refine wp_st_cell 3 _ _ rfl #[.int .i64 k.c.ca, .int .i64 k.c.fl, .int .i64 k.c.ft, .int .i64 k.c.se, .int .i64 k.c.dr, .int .i64 k.c.dw, .int .i64 k.c.ho, .int .i64 k.c.re, .int .i64 k.c.yi, .int .i64 k.c.qu, .int .i64 k.c.qo, .int .i64 k.c.lo, .int .i64 k.c.sl, .int .i64 k.c.rt, .int .i64 k.c.cp, .int .i64 k.c.tr, .int .i64 k.c.de, .int .i64 k.c.wi, .int .i64 k.se, .int .i64 k.ep, .slice (some ⟨g, 0, none⟩) ls.length c, .int .i64 k.sq, .int .i64 k.st, .int .i64 k.du, .int .i64 k.ak, .bool k.an, .int .i64 (mx2 k.he (cl now))] (.int .i64 (mx2 k.he (cl now))) rfl rfl HPQ.out (by show 26 < 27; decide) rfl (by first | rfl | simp [Value.oneCell']) (by kernel_rfl) ?_
      clear HPQ
      intro w2 hw
      have HRQ := Lib.hid (show Blk w2 q 88 #[.int .i64 k.c.ca, .int .i64 k.c.fl, .int .i64 k.c.ft, .int .i64 k.c.se, .int .i64 k.c.dr, .int .i64 k.c.dw, .int .i64 k.c.ho, .int .i64 k.c.re, .int .i64 k.c.yi, .int .i64 k.c.qu, .int .i64 k.c.qo, .int .i64 k.c.lo, .int .i64 k.c.sl, .int .i64 k.c.rt, .int .i64 k.c.cp, .int .i64 k.c.tr, .int .i64 k.c.de, .int .i64 k.c.wi, .int .i64 k.se, .int .i64 k.ep, .slice (some ⟨g, 0, none⟩) ls.length c, .int .i64 k.sq, .int .i64 k.st, .int .i64 k.du, .int .i64 k.ak, .bool k.an, .int .i64 (mx2 k.he (cl now))] by obtain ⟨old, Bo, _⟩ := hHeld.2.2.2.1; rw [hw]; exact Blk.row Bo _)
      have hHeld3 : (fun W : World => Upd [q, g] w W ∧ Blk W w.heap.size 38 #[.int .i64 p.se, .int .i64 p.ep, .int .i64 p.sq, .int .i64 p.ak, .bool p.ha, .int .i64 p.m.ki, .int .i64 p.m.a, .int .i64 p.m.b, .int .i64 p.m.c] ∧ Blk W bR 36 #[.int .i64 0, .int .i64 0, .int .i64 0, .int .i64 0] ∧ HasRow W q 88 27 ∧ (W).ownsRow lo 36 4 (.slice (some ⟨g, 0, none⟩) ls.length c) ls.length (rowsOf msgC ls)) w2 := ⟨by rw [hw]; exact Upd.setRow hHeld.1 (.inl (by simp)) _, by rw [hw]; exact Blk.row_far (hHeld.2.1) (Ne.symm HNP.out) _, by rw [hw]; exact Blk.row_far (hHeld.2.2.1) (Ne.symm HNR.out) _, HasRow.of HRQ.out rfl, by rw [hw]; exact own_row_far (hHeld.2.2.2.2) HIQ.out _⟩
      refine hK.out _ _ hHeld3 (fun hHeld2 => ?_)
      clear hK K hHeld hHeld3 hw
      have hHeld := hHeld2
      clear hHeld2
      (try simp only [Act.put, sA, sB, sC])
      refine wpAnyH_done (by kernel_rfl) ?_ _
      have HSd3v2 := Lib.hid hHeld.1
      have HBPd3v2 := Lib.hid (hHeld.2.1)
      have HBRd3v2 := Lib.hid (hHeld.2.2.1)
      have HBQd3v2 := Lib.hid HRQ.out
      clear HRQ
      have HFrd3v2 := Lib.hid (hHeld.2.2.2.2)
      clear hHeld HRK HRD HSU HBPd1 HBRd1 HBQd1 HFrd1
      go_wp2_with fail
      go_meet
      case rel => exact Lib.hid ⟨HSd3v2.out, HBPd3v2.out, HBRd3v2.out, HBQd3v2.out, HFrd3v2.out⟩
  case rest =>
    clear HSU HBPd1 HBRd1 HBQd1 HFrd1
    obtain ⟨g0, g1, g2, g3, g4⟩ := hcut.out
    clear hcut
    have HS51 := Lib.hid g0
    have HBP51 := Lib.hid g1
    have HBR51 := Lib.hid g2
    have HBQ51 := Lib.hid g3
    have HFr51 := Lib.hid g4
    clear g0 g1 g2 g3 g4
    go_upto_region 4 with fail
    have hrK : ∀ W W' : World, Since W W' → (Upd [q, g] w W ∧ Blk W w.heap.size 38 #[.int .i64 p.se, .int .i64 p.ep, .int .i64 p.sq, .int .i64 p.ak, .bool p.ha, .int .i64 p.m.ki, .int .i64 p.m.a, .int .i64 p.m.b, .int .i64 p.m.c] ∧ Blk W bR 36 #[.int .i64 0, .int .i64 0, .int .i64 0, .int .i64 0] ∧ Blk W q 88 #[.int .i64 k.c.ca, .int .i64 k.c.fl, .int .i64 k.c.ft, .int .i64 k.c.se, .int .i64 k.c.dr, .int .i64 k.c.dw, .int .i64 k.c.ho, .int .i64 k.c.re, .int .i64 k.c.yi, .int .i64 k.c.qu, .int .i64 k.c.qo, .int .i64 k.c.lo, .int .i64 k.c.sl, .int .i64 k.c.rt, .int .i64 k.c.cp, .int .i64 k.c.tr, .int .i64 k.c.de, .int .i64 k.c.wi, .int .i64 k.se, .int .i64 k.ep, .slice (some ⟨g, 0, none⟩) ls.length c, .int .i64 k.sq, .int .i64 k.st, .int .i64 k.du, .int .i64 k.ak, .bool k.an, .int .i64 (mx2 k.he (cl now))] ∧ (W).ownsRow lo 36 4 (.slice (some ⟨g, 0, none⟩) ls.length c) ls.length (rowsOf msgC ls)) → (Upd [q, g] w W' ∧ Blk W' w.heap.size 38 #[.int .i64 p.se, .int .i64 p.ep, .int .i64 p.sq, .int .i64 p.ak, .bool p.ha, .int .i64 p.m.ki, .int .i64 p.m.a, .int .i64 p.m.b, .int .i64 p.m.c] ∧ Blk W' bR 36 #[.int .i64 0, .int .i64 0, .int .i64 0, .int .i64 0] ∧ Blk W' q 88 #[.int .i64 k.c.ca, .int .i64 k.c.fl, .int .i64 k.c.ft, .int .i64 k.c.se, .int .i64 k.c.dr, .int .i64 k.c.dw, .int .i64 k.c.ho, .int .i64 k.c.re, .int .i64 k.c.yi, .int .i64 k.c.qu, .int .i64 k.c.qo, .int .i64 k.c.lo, .int .i64 k.c.sl, .int .i64 k.c.rt, .int .i64 k.c.cp, .int .i64 k.c.tr, .int .i64 k.c.de, .int .i64 k.c.wi, .int .i64 k.se, .int .i64 k.ep, .slice (some ⟨g, 0, none⟩) ls.length c, .int .i64 k.sq, .int .i64 k.st, .int .i64 k.du, .int .i64 k.ak, .bool k.an, .int .i64 (mx2 k.he (cl now))] ∧ (W').ownsRow lo 36 4 (.slice (some ⟨g, 0, none⟩) ls.length c) ls.length (rowsOf msgC ls)) := fun W W' k ⟨h, h0, h1, h2, h3⟩ => ⟨h.trans k, keep_blk k h0, keep_blk k h1, keep_blk k h2, keep_own k h3⟩
    have hrS : (fun W : World => Upd [q, g] w W ∧ Blk W w.heap.size 38 #[.int .i64 p.se, .int .i64 p.ep, .int .i64 p.sq, .int .i64 p.ak, .bool p.ha, .int .i64 p.m.ki, .int .i64 p.m.a, .int .i64 p.m.b, .int .i64 p.m.c] ∧ Blk W bR 36 #[.int .i64 0, .int .i64 0, .int .i64 0, .int .i64 0] ∧ Blk W q 88 #[.int .i64 k.c.ca, .int .i64 k.c.fl, .int .i64 k.c.ft, .int .i64 k.c.se, .int .i64 k.c.dr, .int .i64 k.c.dw, .int .i64 k.c.ho, .int .i64 k.c.re, .int .i64 k.c.yi, .int .i64 k.c.qu, .int .i64 k.c.qo, .int .i64 k.c.lo, .int .i64 k.c.sl, .int .i64 k.c.rt, .int .i64 k.c.cp, .int .i64 k.c.tr, .int .i64 k.c.de, .int .i64 k.c.wi, .int .i64 k.se, .int .i64 k.ep, .slice (some ⟨g, 0, none⟩) ls.length c, .int .i64 k.sq, .int .i64 k.st, .int .i64 k.du, .int .i64 k.ak, .bool k.an, .int .i64 (mx2 k.he (cl now))] ∧ (W).ownsRow lo 36 4 (.slice (some ⟨g, 0, none⟩) ls.length c) ls.length (rowsOf msgC ls)) wc := ⟨HS51.out, HBP51.out, HBR51.out, HBQ51.out, HFr51.out⟩
    have HRK := Lib.hid hrK
    have HRD := Lib.hid (show (fun W : World => Upd [q, g] w W ∧ Blk W w.heap.size 38 #[.int .i64 p.se, .int .i64 p.ep, .int .i64 p.sq, .int .i64 p.ak, .bool p.ha, .int .i64 p.m.ki, .int .i64 p.m.a, .int .i64 p.m.b, .int .i64 p.m.c] ∧ Blk W bR 36 #[.int .i64 0, .int .i64 0, .int .i64 0, .int .i64 0] ∧ Blk W q 88 #[.int .i64 k.c.ca, .int .i64 k.c.fl, .int .i64 k.c.ft, .int .i64 k.c.se, .int .i64 k.c.dr, .int .i64 k.c.dw, .int .i64 k.c.ho, .int .i64 k.c.re, .int .i64 k.c.yi, .int .i64 k.c.qu, .int .i64 k.c.qo, .int .i64 k.c.lo, .int .i64 k.c.sl, .int .i64 k.c.rt, .int .i64 k.c.cp, .int .i64 k.c.tr, .int .i64 k.c.de, .int .i64 k.c.wi, .int .i64 k.se, .int .i64 k.ep, .slice (some ⟨g, 0, none⟩) ls.length c, .int .i64 k.sq, .int .i64 k.st, .int .i64 k.du, .int .i64 k.ak, .bool k.an, .int .i64 (mx2 k.he (cl now))] ∧ (W).ownsRow lo 36 4 (.slice (some ⟨g, 0, none⟩) ls.length c) ls.length (rowsOf msgC ls)) (World.drew wc) from hrK _ _ ((Since.refl wc).drew) hrS)
    clear hrK hrS
    refine wp_region_held_drew (S := fun W : World => Upd [q, g] w W ∧ Blk W w.heap.size 38 #[.int .i64 p.se, .int .i64 p.ep, .int .i64 p.sq, .int .i64 p.ak, .bool p.ha, .int .i64 p.m.ki, .int .i64 p.m.a, .int .i64 p.m.b, .int .i64 p.m.c] ∧ Blk W bR 36 #[.int .i64 0, .int .i64 0, .int .i64 0, .int .i64 0] ∧ Blk W q 88 #[.int .i64 k.c.ca, .int .i64 k.c.fl, .int .i64 k.c.ft, .int .i64 k.c.se, .int .i64 k.c.dr, .int .i64 k.c.dw, .int .i64 k.c.ho, .int .i64 k.c.re, .int .i64 k.c.yi, .int .i64 k.c.qu, .int .i64 k.c.qo, .int .i64 k.c.lo, .int .i64 k.c.sl, .int .i64 k.c.rt, .int .i64 k.c.cp, .int .i64 k.c.tr, .int .i64 k.c.de, .int .i64 k.c.wi, .int .i64 k.se, .int .i64 k.ep, .slice (some ⟨g, 0, none⟩) ls.length c, .int .i64 k.sq, .int .i64 k.st, .int .i64 k.du, .int .i64 k.ak, .bool k.an, .int .i64 (mx2 k.he (cl now))] ∧ (W).ownsRow lo 36 4 (.slice (some ⟨g, 0, none⟩) ls.length c) ls.length (rowsOf msgC ls)) (by kernel_rfl) HRD.out (fun hHeld => ?_)
    refine wpAnyH_take (i := 0) (oi := ?o4__0) (v := .pointer (some ⟨q, 0, none⟩)) ?h4__0 (by kernel_rfl) (by kernel_rfl) (by kernel_rfl) ?q4__0 ?y4__0 (by assumption) ?_
    case h4__0 => (first | (simp only [gA, gB, gC]; done) | (simp only [gA, gB, gC]; exact rfl))
    case q4__0 => exact fun _ _ _ h => h
    case y4__0 => (refine Or.inl ⟨rfl, ?_⟩; intro w hSw; (first | rfl | (go_simp; (try with_reducible rfl))))
    (try simp only [Act.put, sA, sB, sC])
    refine wpAnyH_take (i := 1) (oi := ?o4__1) (v := .pointer (some ⟨q, 0, none⟩)) ?h4__1 (by kernel_rfl) (by kernel_rfl) (by kernel_rfl) ?q4__1 ?y4__1 (by assumption) ?_
    case h4__1 => (first | (simp only [gA, gB, gC]; done) | (simp only [gA, gB, gC]; exact rfl))
    case q4__1 => exact fun _ _ _ h => h
    case y4__1 => (refine Or.inl ⟨rfl, ?_⟩; intro w hSw; (first | rfl | (go_simp; (try with_reducible rfl))))
    (try simp only [Act.put, sA, sB, sC])
    refine wpAnyH_take (i := 2) (oi := ?o4__2) (v := .pointer (some ⟨q, 20, none⟩)) ?h4__2 (by kernel_rfl) (by kernel_rfl) (by kernel_rfl) ?q4__2 ?y4__2 (by assumption) ?_
    case h4__2 => (first | (simp only [gA, gB, gC]; done) | (simp only [gA, gB, gC]; exact rfl))
    case q4__2 => exact fun _ _ _ h => h
    case y4__2 => (refine Or.inl ⟨rfl, ?_⟩; intro w hSw; (first | rfl | (go_simp; (try with_reducible rfl))))
    (try simp only [Act.put, sA, sB, sC])
    refine wpAnyH_take (i := 3) (oi := ?o4__3) (v := .slice (some ⟨g, 0, none⟩) ls.length c) ?h4__3 (by kernel_rfl) (by kernel_rfl) (by kernel_rfl) ?q4__3 ?y4__3 (by assumption) ?_
    case h4__3 => (first | (simp only [gA, gB, gC]; done) | (simp only [gA, gB, gC]; exact rfl))
    case q4__3 => exact fun _ _ _ h => h
    case y4__3 => (refine Or.inl ⟨rfl, ?_⟩; intro w hSw; exact exec_cell 86 _ _ hSw.2.2.2.1 rfl rfl rfl Try.underlying86 rfl)
    (try simp only [Act.put, sA, sB, sC])
    refine wpAnyH_take (i := 4) (oi := ?o4__4) (v := .int .i64 (ls.length : Int)) ?h4__4 (by kernel_rfl) (by kernel_rfl) (by kernel_rfl) ?q4__4 ?y4__4 (by assumption) ?_
    case h4__4 => (first | (simp only [gA, gB, gC]; done) | (simp only [gA, gB, gC]; exact rfl))
    case q4__4 => exact fun _ _ _ h => h
    case y4__4 => (refine Or.inl ⟨rfl, ?_⟩; intro w hSw; (first | rfl | (go_simp; (try with_reducible rfl))))
    (try simp only [Act.put, sA, sB, sC])
    refine wpAnyH_take (i := 5) (oi := ?o4__5) (v := .bool true) ?h4__5 (by kernel_rfl) (by kernel_rfl) (by kernel_rfl) ?q4__5 ?y4__5 (by assumption) ?_
    case h4__5 => (first | (simp only [gA, gB, gC]; done) | (simp only [gA, gB, gC]; exact rfl))
    case q4__5 => exact fun _ _ _ h => h
    case y4__5 => (refine Or.inl ⟨rfl, ?_⟩; intro w hSw; (have q0 := H3.out; go_simp; (first | done | rfl | omega)))
    (try simp only [Act.put, sA, sB, sC])
    refine wpAnyH_take (i := 6) (oi := ?o4__6) (v := .bool true) ?h4__6 (by kernel_rfl) (by kernel_rfl) (by kernel_rfl) ?q4__6 ?y4__6 (by assumption) ?_
    case h4__6 => (first | (simp only [gA, gB, gC]; done) | (simp only [gA, gB, gC]; exact rfl))
    case q4__6 => exact fun _ _ _ h => h
    case y4__6 => (refine Or.inl ⟨rfl, ?_⟩; intro w hSw; (first | rfl | (go_simp; (try with_reducible rfl))))
    (try simp only [Act.put, sA, sB, sC])
    refine wpAnyH_take (i := 7) (oi := ?o4__7) (v := .pointer (some ⟨w.heap.size, 3, none⟩)) ?h4__7 (by kernel_rfl) (by kernel_rfl) (by kernel_rfl) ?q4__7 ?y4__7 (by assumption) ?_
    case h4__7 => (first | (simp only [gA, gB, gC]; done) | (simp only [gA, gB, gC]; exact rfl))
    case q4__7 => exact fun _ _ _ h => h
    case y4__7 => (refine Or.inl ⟨rfl, ?_⟩; intro w hSw; (first | rfl | (go_simp; (try with_reducible rfl))))
    (try simp only [Act.put, sA, sB, sC])
    refine wpAnyH_take (i := 8) (oi := ?o4__8) (v := .int .i64 p.ak) ?h4__8 (by kernel_rfl) (by kernel_rfl) (by kernel_rfl) ?q4__8 ?y4__8 (by assumption) ?_
    case h4__8 => (first | (simp only [gA, gB, gC]; done) | (simp only [gA, gB, gC]; exact rfl))
    case q4__8 => exact fun _ _ _ h => h
    case y4__8 => (refine Or.inl ⟨rfl, ?_⟩; intro w hSw; exact exec_cell 3 _ _ hSw.2.1 rfl rfl rfl Try.underlying3 rfl)
    (try simp only [Act.put, sA, sB, sC])
    refine wpAnyH_take (i := 9) (oi := ?o4__9) (v := .pointer (some ⟨q, 0, none⟩)) ?h4__9 (by kernel_rfl) (by kernel_rfl) (by kernel_rfl) ?q4__9 ?y4__9 (by assumption) ?_
    case h4__9 => (first | (simp only [gA, gB, gC]; done) | (simp only [gA, gB, gC]; exact rfl))
    case q4__9 => exact fun _ _ _ h => h
    case y4__9 => (refine Or.inl ⟨rfl, ?_⟩; intro w hSw; (first | rfl | (go_simp; (try with_reducible rfl))))
    (try simp only [Act.put, sA, sB, sC])
    refine wpAnyH_take (i := 10) (oi := ?o4__10) (v := .pointer (some ⟨q, 0, none⟩)) ?h4__10 (by kernel_rfl) (by kernel_rfl) (by kernel_rfl) ?q4__10 ?y4__10 (by assumption) ?_
    case h4__10 => (first | (simp only [gA, gB, gC]; done) | (simp only [gA, gB, gC]; exact rfl))
    case q4__10 => exact fun _ _ _ h => h
    case y4__10 => (refine Or.inl ⟨rfl, ?_⟩; intro w hSw; (first | rfl | (go_simp; (try with_reducible rfl))))
    (try simp only [Act.put, sA, sB, sC])
    refine wpAnyH_take (i := 11) (oi := ?o4__11) (v := .pointer (some ⟨q, 21, none⟩)) ?h4__11 (by kernel_rfl) (by kernel_rfl) (by kernel_rfl) ?q4__11 ?y4__11 (by assumption) ?_
    case h4__11 => (first | (simp only [gA, gB, gC]; done) | (simp only [gA, gB, gC]; exact rfl))
    case q4__11 => exact fun _ _ _ h => h
    case y4__11 => (refine Or.inl ⟨rfl, ?_⟩; intro w hSw; (first | rfl | (go_simp; (try with_reducible rfl))))
    (try simp only [Act.put, sA, sB, sC])
    refine wpAnyH_take (i := 12) (oi := ?o4__12) (v := .int .i64 k.sq) ?h4__12 (by kernel_rfl) (by kernel_rfl) (by kernel_rfl) ?q4__12 ?y4__12 (by assumption) ?_
    case h4__12 => (first | (simp only [gA, gB, gC]; done) | (simp only [gA, gB, gC]; exact rfl))
    case q4__12 => exact fun _ _ _ h => h
    case y4__12 => (refine Or.inl ⟨rfl, ?_⟩; intro w hSw; exact exec_cell 3 _ _ hSw.2.2.2.1 rfl rfl rfl Try.underlying3 rfl)
    (try simp only [Act.put, sA, sB, sC])
    refine wpAnyH_ready (rs := [13]) (by kernel_rfl) (by simp) ?_
    refine AllReadyH.cons (o := ?o4__13) ?h4__13 (fun K hK => ?_) AllReadyH.nil
    case h4__13 => (first | (simp only [gA, gB, gC]; done) | (simp only [gA, gB, gC]; exact rfl))
    (try go_simp)
    refine (Se.nextT _ _).mono ?_
    rintro e w' ⟨rfl, rfl⟩
    (try go_wp2_with fail)
    refine hK.out _ _ hHeld (fun hHeld2 => ?_)
    clear hK K hHeld2
    (try simp only [Act.put, sA, sB, sC])
    refine wpAnyH_take (i := 14) (oi := ?o4__14) (v := .bool true) ?h4__14 (by kernel_rfl) (by kernel_rfl) (by kernel_rfl) ?q4__14 ?y4__14 (by assumption) ?_
    case h4__14 => (first | (simp only [gA, gB, gC]; done) | (simp only [gA, gB, gC]; exact rfl))
    case q4__14 => exact fun _ _ _ h => h
    case y4__14 => (refine Or.inl ⟨rfl, ?_⟩; intro w hSw; (have q0 := H4.out; go_simp; (first | done | rfl | omega)))
    (try simp only [Act.put, sA, sB, sC])
    refine wpAnyH_take (i := 15) (oi := ?o4__15) (v := .bool true) ?h4__15 (by kernel_rfl) (by kernel_rfl) (by kernel_rfl) ?q4__15 ?y4__15 (by assumption) ?_
    case h4__15 => (first | (simp only [gA, gB, gC]; done) | (simp only [gA, gB, gC]; exact rfl))
    case q4__15 => exact fun _ _ _ h => h
    case y4__15 => (refine Or.inl ⟨rfl, ?_⟩; intro w hSw; (first | rfl | (go_simp; (try with_reducible rfl))))
    (try simp only [Act.put, sA, sB, sC])
    refine wpAnyH_done (by kernel_rfl) ?_ _
    have HSd4 := Lib.hid hHeld.1
    have HBPd4 := Lib.hid (hHeld.2.1)
    have HBRd4 := Lib.hid (hHeld.2.2.1)
    have HBQd4 := Lib.hid (hHeld.2.2.2.1)
    have HFrd4 := Lib.hid (hHeld.2.2.2.2)
    clear hHeld HRK HRD HS51 HBP51 HBR51 HBQ51 HFr51
    go_upto_region 5 with fail
    refine wp_region_lit ?_
    refine wpList_q (by rfl) (.pointer (some ⟨q, 0, none⟩)) ?he ?_
    case he => (first | rfl | (go_simp; (try with_reducible rfl)))
    (try simp only [Act.put, sA, sB, sC])
    refine wpList_wp (by rfl) (fun K hK => ?_)
    (try go_simp)
    refine (arrivedT lo q { k with he := mx2 k.he (cl now) } ls g m c _ (by rw [← H3.out]; exact HBQd4.out) (by rw [← H3.out]; exact HFrd4.out) H3.out HC.out (by have := HL.out; have := H3.out; omega)).mono ?_
    rintro e w52 ⟨rfl, hB, hO, hupd⟩
    (try go_wp2_with fail)
    refine hK.out _ _ ?_
    clear hK K
    (try simp only [Act.put, sA, sB, sC])
    have HBPz := Lib.hid (hupd.blk HBPd4.out (fun h => by have q1 := HNP.out; have q2 := HIP.out; simp [blkOf] at h q2; rcases h with h | h; exact q1 h.symm; exact q2 h))
    have HBRz := Lib.hid (hupd.blk HBRd4.out (fun h => by have q1 := HNR.out; have q2 := HIR.out; simp [blkOf] at h q2; rcases h with h | h; exact q1 h.symm; exact q2 h))
    have HSz := Lib.hid (Upd.comp HSd4.out hupd (fun _ h => .inl h))
    have HBQz := Lib.hid (show Blk w52 q 88 #[.int .i64 k.c.ca, .int .i64 k.c.fl, .int .i64 k.c.ft, .int .i64 k.c.se, .int .i64 k.c.dr, .int .i64 k.c.dw, .int .i64 k.c.ho, .int .i64 k.c.re, .int .i64 k.c.yi, .int .i64 k.c.qu, .int .i64 k.c.qo, .int .i64 k.c.lo, .int .i64 k.c.sl, .int .i64 k.c.rt, .int .i64 k.c.cp, .int .i64 k.c.tr, .int .i64 k.c.de, .int .i64 k.c.wi, .int .i64 k.se, .int .i64 k.ep, .slice (some ⟨g, 0, none⟩) m c, .int .i64 (Se.nx k.sq), .int .i64 0, .int .i64 0, .int .i64 k.ak, .bool k.an, .int .i64 (mx2 k.he (cl now))] from hB)
    have HOWz := Lib.hid hO
    clear hB hO hupd HSd4 HBPd4 HBRd4 HBQd4 HFrd4
    refine wpList_nil ?_
    go_upto_region 6 with fail
    have hrK : ∀ W W' : World, Since W W' → (Upd [q, g] w W ∧ Blk W w.heap.size 38 #[.int .i64 p.se, .int .i64 p.ep, .int .i64 p.sq, .int .i64 p.ak, .bool p.ha, .int .i64 p.m.ki, .int .i64 p.m.a, .int .i64 p.m.b, .int .i64 p.m.c] ∧ Blk W bR 36 #[.int .i64 0, .int .i64 0, .int .i64 0, .int .i64 0] ∧ Blk W q 88 #[.int .i64 k.c.ca, .int .i64 k.c.fl, .int .i64 k.c.ft, .int .i64 k.c.se, .int .i64 k.c.dr, .int .i64 k.c.dw, .int .i64 k.c.ho, .int .i64 k.c.re, .int .i64 k.c.yi, .int .i64 k.c.qu, .int .i64 k.c.qo, .int .i64 k.c.lo, .int .i64 k.c.sl, .int .i64 k.c.rt, .int .i64 k.c.cp, .int .i64 k.c.tr, .int .i64 k.c.de, .int .i64 k.c.wi, .int .i64 k.se, .int .i64 k.ep, .slice (some ⟨g, 0, none⟩) m c, .int .i64 (Se.nx k.sq), .int .i64 0, .int .i64 0, .int .i64 k.ak, .bool k.an, .int .i64 (mx2 k.he (cl now))] ∧ (W).ownsRow lo 36 4 (.slice (some ⟨g, 0, none⟩) m c) m (rowsOf msgC ls.tail)) → (Upd [q, g] w W' ∧ Blk W' w.heap.size 38 #[.int .i64 p.se, .int .i64 p.ep, .int .i64 p.sq, .int .i64 p.ak, .bool p.ha, .int .i64 p.m.ki, .int .i64 p.m.a, .int .i64 p.m.b, .int .i64 p.m.c] ∧ Blk W' bR 36 #[.int .i64 0, .int .i64 0, .int .i64 0, .int .i64 0] ∧ Blk W' q 88 #[.int .i64 k.c.ca, .int .i64 k.c.fl, .int .i64 k.c.ft, .int .i64 k.c.se, .int .i64 k.c.dr, .int .i64 k.c.dw, .int .i64 k.c.ho, .int .i64 k.c.re, .int .i64 k.c.yi, .int .i64 k.c.qu, .int .i64 k.c.qo, .int .i64 k.c.lo, .int .i64 k.c.sl, .int .i64 k.c.rt, .int .i64 k.c.cp, .int .i64 k.c.tr, .int .i64 k.c.de, .int .i64 k.c.wi, .int .i64 k.se, .int .i64 k.ep, .slice (some ⟨g, 0, none⟩) m c, .int .i64 (Se.nx k.sq), .int .i64 0, .int .i64 0, .int .i64 k.ak, .bool k.an, .int .i64 (mx2 k.he (cl now))] ∧ (W').ownsRow lo 36 4 (.slice (some ⟨g, 0, none⟩) m c) m (rowsOf msgC ls.tail)) := fun W W' k ⟨h, h0, h1, h2, h3⟩ => ⟨h.trans k, keep_blk k h0, keep_blk k h1, keep_blk k h2, keep_own k h3⟩
    have hrS : (fun W : World => Upd [q, g] w W ∧ Blk W w.heap.size 38 #[.int .i64 p.se, .int .i64 p.ep, .int .i64 p.sq, .int .i64 p.ak, .bool p.ha, .int .i64 p.m.ki, .int .i64 p.m.a, .int .i64 p.m.b, .int .i64 p.m.c] ∧ Blk W bR 36 #[.int .i64 0, .int .i64 0, .int .i64 0, .int .i64 0] ∧ Blk W q 88 #[.int .i64 k.c.ca, .int .i64 k.c.fl, .int .i64 k.c.ft, .int .i64 k.c.se, .int .i64 k.c.dr, .int .i64 k.c.dw, .int .i64 k.c.ho, .int .i64 k.c.re, .int .i64 k.c.yi, .int .i64 k.c.qu, .int .i64 k.c.qo, .int .i64 k.c.lo, .int .i64 k.c.sl, .int .i64 k.c.rt, .int .i64 k.c.cp, .int .i64 k.c.tr, .int .i64 k.c.de, .int .i64 k.c.wi, .int .i64 k.se, .int .i64 k.ep, .slice (some ⟨g, 0, none⟩) m c, .int .i64 (Se.nx k.sq), .int .i64 0, .int .i64 0, .int .i64 k.ak, .bool k.an, .int .i64 (mx2 k.he (cl now))] ∧ (W).ownsRow lo 36 4 (.slice (some ⟨g, 0, none⟩) m c) m (rowsOf msgC ls.tail)) w52 := ⟨HSz.out, HBPz.out, HBRz.out, HBQz.out, HOWz.out⟩
    have HRK := Lib.hid hrK
    have HRD := Lib.hid (show (fun W : World => Upd [q, g] w W ∧ Blk W w.heap.size 38 #[.int .i64 p.se, .int .i64 p.ep, .int .i64 p.sq, .int .i64 p.ak, .bool p.ha, .int .i64 p.m.ki, .int .i64 p.m.a, .int .i64 p.m.b, .int .i64 p.m.c] ∧ Blk W bR 36 #[.int .i64 0, .int .i64 0, .int .i64 0, .int .i64 0] ∧ Blk W q 88 #[.int .i64 k.c.ca, .int .i64 k.c.fl, .int .i64 k.c.ft, .int .i64 k.c.se, .int .i64 k.c.dr, .int .i64 k.c.dw, .int .i64 k.c.ho, .int .i64 k.c.re, .int .i64 k.c.yi, .int .i64 k.c.qu, .int .i64 k.c.qo, .int .i64 k.c.lo, .int .i64 k.c.sl, .int .i64 k.c.rt, .int .i64 k.c.cp, .int .i64 k.c.tr, .int .i64 k.c.de, .int .i64 k.c.wi, .int .i64 k.se, .int .i64 k.ep, .slice (some ⟨g, 0, none⟩) m c, .int .i64 (Se.nx k.sq), .int .i64 0, .int .i64 0, .int .i64 k.ak, .bool k.an, .int .i64 (mx2 k.he (cl now))] ∧ (W).ownsRow lo 36 4 (.slice (some ⟨g, 0, none⟩) m c) m (rowsOf msgC ls.tail)) (World.drew w52) from hrK _ _ ((Since.refl w52).drew) hrS)
    clear hrK hrS
    refine wp_region_held_drew (S := fun W : World => Upd [q, g] w W ∧ Blk W w.heap.size 38 #[.int .i64 p.se, .int .i64 p.ep, .int .i64 p.sq, .int .i64 p.ak, .bool p.ha, .int .i64 p.m.ki, .int .i64 p.m.a, .int .i64 p.m.b, .int .i64 p.m.c] ∧ Blk W bR 36 #[.int .i64 0, .int .i64 0, .int .i64 0, .int .i64 0] ∧ Blk W q 88 #[.int .i64 k.c.ca, .int .i64 k.c.fl, .int .i64 k.c.ft, .int .i64 k.c.se, .int .i64 k.c.dr, .int .i64 k.c.dw, .int .i64 k.c.ho, .int .i64 k.c.re, .int .i64 k.c.yi, .int .i64 k.c.qu, .int .i64 k.c.qo, .int .i64 k.c.lo, .int .i64 k.c.sl, .int .i64 k.c.rt, .int .i64 k.c.cp, .int .i64 k.c.tr, .int .i64 k.c.de, .int .i64 k.c.wi, .int .i64 k.se, .int .i64 k.ep, .slice (some ⟨g, 0, none⟩) m c, .int .i64 (Se.nx k.sq), .int .i64 0, .int .i64 0, .int .i64 k.ak, .bool k.an, .int .i64 (mx2 k.he (cl now))] ∧ (W).ownsRow lo 36 4 (.slice (some ⟨g, 0, none⟩) m c) m (rowsOf msgC ls.tail)) (by kernel_rfl) HRD.out (fun hHeld => ?_)
    refine wpAnyH_take (i := 0) (oi := ?o6__0) (v := .pointer (some ⟨w.heap.size, 4, none⟩)) ?h6__0 (by kernel_rfl) (by kernel_rfl) (by kernel_rfl) ?q6__0 ?y6__0 (by assumption) ?_
    case h6__0 => (first | (simp only [gA, gB, gC]; done) | (simp only [gA, gB, gC]; exact rfl))
    case q6__0 => exact fun _ _ _ h => h
    case y6__0 => (refine Or.inl ⟨rfl, ?_⟩; intro w hSw; (first | rfl | (go_simp; (try with_reducible rfl))))
    (try simp only [Act.put, sA, sB, sC])
    refine wpAnyH_take (i := 1) (oi := ?o6__1) (v := .bool p.ha) ?h6__1 (by kernel_rfl) (by kernel_rfl) (by kernel_rfl) ?q6__1 ?y6__1 (by assumption) ?_
    case h6__1 => (first | (simp only [gA, gB, gC]; done) | (simp only [gA, gB, gC]; exact rfl))
    case q6__1 => exact fun _ _ _ h => h
    case y6__1 => (refine Or.inl ⟨rfl, ?_⟩; intro w hSw; exact exec_cell 4 _ _ hSw.2.1 rfl rfl rfl Try.underlying4 rfl)
    (try simp only [Act.put, sA, sB, sC])
    refine wpAnyH_take (i := 2) (oi := ?o6__2) (v := .bool false) ?h6__2 (by kernel_rfl) (by kernel_rfl) (by kernel_rfl) ?q6__2 ?y6__2 (by assumption) ?_
    case h6__2 => (first | (simp only [gA, gB, gC]; done) | (simp only [gA, gB, gC]; exact rfl))
    case q6__2 => exact fun _ _ _ h => h
    case y6__2 => (refine Or.inl ⟨rfl, ?_⟩; intro w hSw; (have q := H5.out; go_simp; (first | done | exact q | (simp [q]; done))))
    (try simp only [Act.put, sA, sB, sC])
    refine wpAnyH_take (i := 3) (oi := ?o6__3) (v := .bool false) ?h6__3 (by kernel_rfl) (by kernel_rfl) (by kernel_rfl) ?q6__3 ?y6__3 (by assumption) ?_
    case h6__3 => (first | (simp only [gA, gB, gC]; done) | (simp only [gA, gB, gC]; exact rfl))
    case q6__3 => exact fun _ _ _ h => h
    case y6__3 => (refine Or.inl ⟨rfl, ?_⟩; intro w hSw; (first | rfl | (go_simp; (try with_reducible rfl))))
    (try simp only [Act.put, sA, sB, sC])
    refine wpAnyH_take (i := 4) (oi := ?o6__4) (v := .pointer (some ⟨q, 0, none⟩)) ?h6__4 (by kernel_rfl) (by kernel_rfl) (by kernel_rfl) ?q6__4 ?y6__4 (by assumption) ?_
    case h6__4 => (first | (simp only [gA, gB, gC]; done) | (simp only [gA, gB, gC]; exact rfl))
    case q6__4 => exact fun _ _ _ h => h
    case y6__4 => (refine Or.inl ⟨rfl, ?_⟩; intro w hSw; (first | rfl | (go_simp; (try with_reducible rfl))))
    (try simp only [Act.put, sA, sB, sC])
    refine wpAnyH_take (i := 5) (oi := ?o6__5) (v := .pointer (some ⟨q, 0, none⟩)) ?h6__5 (by kernel_rfl) (by kernel_rfl) (by kernel_rfl) ?q6__5 ?y6__5 (by assumption) ?_
    case h6__5 => (first | (simp only [gA, gB, gC]; done) | (simp only [gA, gB, gC]; exact rfl))
    case q6__5 => exact fun _ _ _ h => h
    case y6__5 => (refine Or.inl ⟨rfl, ?_⟩; intro w hSw; (first | rfl | (go_simp; (try with_reducible rfl))))
    (try simp only [Act.put, sA, sB, sC])
    refine wpAnyH_take (i := 6) (oi := ?o6__6) (v := .pointer (some ⟨q, 24, none⟩)) ?h6__6 (by kernel_rfl) (by kernel_rfl) (by kernel_rfl) ?q6__6 ?y6__6 (by assumption) ?_
    case h6__6 => (first | (simp only [gA, gB, gC]; done) | (simp only [gA, gB, gC]; exact rfl))
    case q6__6 => exact fun _ _ _ h => h
    case y6__6 => (refine Or.inl ⟨rfl, ?_⟩; intro w hSw; (first | rfl | (go_simp; (try with_reducible rfl))))
    (try simp only [Act.put, sA, sB, sC])
    refine wpAnyH_take (i := 7) (oi := ?o6__7) (v := .int .i64 k.ak) ?h6__7 (by kernel_rfl) (by kernel_rfl) (by kernel_rfl) ?q6__7 ?y6__7 (by assumption) ?_
    case h6__7 => (first | (simp only [gA, gB, gC]; done) | (simp only [gA, gB, gC]; exact rfl))
    case q6__7 => exact fun _ _ _ h => h
    case y6__7 => (refine Or.inl ⟨rfl, ?_⟩; intro w hSw; exact exec_cell 3 _ _ hSw.2.2.2.1 rfl rfl rfl Try.underlying3 rfl)
    (try simp only [Act.put, sA, sB, sC])
    refine wpAnyH_take (i := 8) (oi := ?o6__8) (v := .pointer (some ⟨w.heap.size, 2, none⟩)) ?h6__8 (by kernel_rfl) (by kernel_rfl) (by kernel_rfl) ?q6__8 ?y6__8 (by assumption) ?_
    case h6__8 => (first | (simp only [gA, gB, gC]; done) | (simp only [gA, gB, gC]; exact rfl))
    case q6__8 => exact fun _ _ _ h => h
    case y6__8 => (refine Or.inl ⟨rfl, ?_⟩; intro w hSw; (first | rfl | (go_simp; (try with_reducible rfl))))
    (try simp only [Act.put, sA, sB, sC])
    refine wpAnyH_take (i := 9) (oi := ?o6__9) (v := .int .i64 p.sq) ?h6__9 (by kernel_rfl) (by kernel_rfl) (by kernel_rfl) ?q6__9 ?y6__9 (by assumption) ?_
    case h6__9 => (first | (simp only [gA, gB, gC]; done) | (simp only [gA, gB, gC]; exact rfl))
    case q6__9 => exact fun _ _ _ h => h
    case y6__9 => (refine Or.inl ⟨rfl, ?_⟩; intro w hSw; exact exec_cell 3 _ _ hSw.2.1 rfl rfl rfl Try.underlying3 rfl)
    (try simp only [Act.put, sA, sB, sC])
    refine wpAnyH_ready (rs := [10]) (by kernel_rfl) (by simp) ?_
    refine AllReadyH.cons (o := ?o6__10) ?h6__10 (fun K hK => ?_) AllReadyH.nil
    case h6__10 => (first | (simp only [gA, gB, gC]; done) | (simp only [gA, gB, gC]; exact rfl))
    (try go_simp)
    refine (newerV _ _ false _ H6.out).mono ?_
    rintro e w' ⟨rfl, rfl⟩
    (try go_wp2_with fail)
    refine hK.out _ _ hHeld (fun hHeld2 => ?_)
    clear hK K hHeld2
    (try simp only [Act.put, sA, sB, sC])
    refine wpAnyH_take (i := 11) (oi := ?o6__11) (v := .bool false) ?h6__11 (by kernel_rfl) (by kernel_rfl) (by kernel_rfl) ?q6__11 ?y6__11 (by assumption) ?_
    case h6__11 => (first | (simp only [gA, gB, gC]; done) | (simp only [gA, gB, gC]; exact rfl))
    case q6__11 => exact fun _ _ _ h => h
    case y6__11 => (refine Or.inl ⟨rfl, ?_⟩; intro w hSw; (first | rfl | (go_simp; (try with_reducible rfl))))
    (try simp only [Act.put, sA, sB, sC])
    refine wpAnyH_done (by kernel_rfl) ?_ _
    have HSd6 := Lib.hid hHeld.1
    have HBPd6 := Lib.hid (hHeld.2.1)
    have HBRd6 := Lib.hid (hHeld.2.2.1)
    have HBQd6 := Lib.hid (hHeld.2.2.2.1)
    have HFrd6 := Lib.hid (hHeld.2.2.2.2)
    clear hHeld HRK HRD HSz HBPz HBRz HBQz HOWz
    go_upto_region 8 with fail
    refine wp_region_lit ?_
    refine wpList_q (by rfl) (.pointer (some ⟨q, 0, none⟩)) ?he ?_
    case he => (first | rfl | (go_simp; (try with_reducible rfl)))
    (try simp only [Act.put, sA, sB, sC])
    refine wpList_q (by rfl) (.pointer (some ⟨q, 0, none⟩)) ?he ?_
    case he => (first | rfl | (go_simp; (try with_reducible rfl)))
    (try simp only [Act.put, sA, sB, sC])
    refine wpList_q (by rfl) (.pointer (some ⟨q, 25, none⟩)) ?he ?_
    case he => (first | rfl | (go_simp; (try with_reducible rfl)))
    (try simp only [Act.put, sA, sB, sC])
    refine wpList_wp (by rfl) (fun K hK => ?_)
    refine wp_st_cell 4 _ _ rfl #[.int .i64 k.c.ca, .int .i64 k.c.fl, .int .i64 k.c.ft, .int .i64 k.c.se, .int .i64 k.c.dr, .int .i64 k.c.dw, .int .i64 k.c.ho, .int .i64 k.c.re, .int .i64 k.c.yi, .int .i64 k.c.qu, .int .i64 k.c.qo, .int .i64 k.c.lo, .int .i64 k.c.sl, .int .i64 k.c.rt, .int .i64 k.c.cp, .int .i64 k.c.tr, .int .i64 k.c.de, .int .i64 k.c.wi, .int .i64 k.se, .int .i64 k.ep, .slice (some ⟨g, 0, none⟩) m c, .int .i64 (Se.nx k.sq), .int .i64 0, .int .i64 0, .int .i64 k.ak, .bool true, .int .i64 (mx2 k.he (cl now))] (.bool true) rfl rfl HBQd6.out (by show 25 < 27; decide) rfl (by first | rfl | simp [Value.oneCell']) (by kernel_rfl) ?_
    intro w53 hw
    refine hK.out _ _ ?_
    clear hK K
    (try simp only [Act.put, sA, sB, sC])
    have HS53 := Lib.hid (show Upd [q, g] w w53 by rw [hw]; exact Upd.setRow HSd6.out (.inl (by simp)) _)
    have HBP53 := Lib.hid (show Blk w53 w.heap.size 38 #[.int .i64 p.se, .int .i64 p.ep, .int .i64 p.sq, .int .i64 p.ak, .bool p.ha, .int .i64 p.m.ki, .int .i64 p.m.a, .int .i64 p.m.b, .int .i64 p.m.c] by rw [hw]; exact Blk.row_far HBPd6.out (Ne.symm HNP.out) _)
    have HBR53 := Lib.hid (show Blk w53 bR 36 #[.int .i64 0, .int .i64 0, .int .i64 0, .int .i64 0] by rw [hw]; exact Blk.row_far HBRd6.out (Ne.symm HNR.out) _)
    have HBQ53 := Lib.hid (show Blk w53 q 88 #[.int .i64 k.c.ca, .int .i64 k.c.fl, .int .i64 k.c.ft, .int .i64 k.c.se, .int .i64 k.c.dr, .int .i64 k.c.dw, .int .i64 k.c.ho, .int .i64 k.c.re, .int .i64 k.c.yi, .int .i64 k.c.qu, .int .i64 k.c.qo, .int .i64 k.c.lo, .int .i64 k.c.sl, .int .i64 k.c.rt, .int .i64 k.c.cp, .int .i64 k.c.tr, .int .i64 k.c.de, .int .i64 k.c.wi, .int .i64 k.se, .int .i64 k.ep, .slice (some ⟨g, 0, none⟩) m c, .int .i64 (Se.nx k.sq), .int .i64 0, .int .i64 0, .int .i64 k.ak, .bool true, .int .i64 (mx2 k.he (cl now))] by rw [hw]; exact Blk.row HBQd6.out _)
    have HFr_53 := Lib.hid (show (w53).ownsRow lo 36 4 (.slice (some ⟨g, 0, none⟩) m c) m (rowsOf msgC ls.tail) by rw [hw]; exact own_row_far HFrd6.out HIQ.out _)
    clear hw HSd6 HBPd6 HBRd6 HBQd6 HFrd6
    refine wpList_nil ?_
    go_upto_region 9 with fail
    have hrK : ∀ W W' : World, Since W W' → (Upd [q, g] w W ∧ Blk W w.heap.size 38 #[.int .i64 p.se, .int .i64 p.ep, .int .i64 p.sq, .int .i64 p.ak, .bool p.ha, .int .i64 p.m.ki, .int .i64 p.m.a, .int .i64 p.m.b, .int .i64 p.m.c] ∧ Blk W bR 36 #[.int .i64 0, .int .i64 0, .int .i64 0, .int .i64 0] ∧ Blk W q 88 #[.int .i64 k.c.ca, .int .i64 k.c.fl, .int .i64 k.c.ft, .int .i64 k.c.se, .int .i64 k.c.dr, .int .i64 k.c.dw, .int .i64 k.c.ho, .int .i64 k.c.re, .int .i64 k.c.yi, .int .i64 k.c.qu, .int .i64 k.c.qo, .int .i64 k.c.lo, .int .i64 k.c.sl, .int .i64 k.c.rt, .int .i64 k.c.cp, .int .i64 k.c.tr, .int .i64 k.c.de, .int .i64 k.c.wi, .int .i64 k.se, .int .i64 k.ep, .slice (some ⟨g, 0, none⟩) m c, .int .i64 (Se.nx k.sq), .int .i64 0, .int .i64 0, .int .i64 k.ak, .bool true, .int .i64 (mx2 k.he (cl now))] ∧ (W).ownsRow lo 36 4 (.slice (some ⟨g, 0, none⟩) m c) m (rowsOf msgC ls.tail)) → (Upd [q, g] w W' ∧ Blk W' w.heap.size 38 #[.int .i64 p.se, .int .i64 p.ep, .int .i64 p.sq, .int .i64 p.ak, .bool p.ha, .int .i64 p.m.ki, .int .i64 p.m.a, .int .i64 p.m.b, .int .i64 p.m.c] ∧ Blk W' bR 36 #[.int .i64 0, .int .i64 0, .int .i64 0, .int .i64 0] ∧ Blk W' q 88 #[.int .i64 k.c.ca, .int .i64 k.c.fl, .int .i64 k.c.ft, .int .i64 k.c.se, .int .i64 k.c.dr, .int .i64 k.c.dw, .int .i64 k.c.ho, .int .i64 k.c.re, .int .i64 k.c.yi, .int .i64 k.c.qu, .int .i64 k.c.qo, .int .i64 k.c.lo, .int .i64 k.c.sl, .int .i64 k.c.rt, .int .i64 k.c.cp, .int .i64 k.c.tr, .int .i64 k.c.de, .int .i64 k.c.wi, .int .i64 k.se, .int .i64 k.ep, .slice (some ⟨g, 0, none⟩) m c, .int .i64 (Se.nx k.sq), .int .i64 0, .int .i64 0, .int .i64 k.ak, .bool true, .int .i64 (mx2 k.he (cl now))] ∧ (W').ownsRow lo 36 4 (.slice (some ⟨g, 0, none⟩) m c) m (rowsOf msgC ls.tail)) := fun W W' k ⟨h, h0, h1, h2, h3⟩ => ⟨h.trans k, keep_blk k h0, keep_blk k h1, keep_blk k h2, keep_own k h3⟩
    have hrS : (fun W : World => Upd [q, g] w W ∧ Blk W w.heap.size 38 #[.int .i64 p.se, .int .i64 p.ep, .int .i64 p.sq, .int .i64 p.ak, .bool p.ha, .int .i64 p.m.ki, .int .i64 p.m.a, .int .i64 p.m.b, .int .i64 p.m.c] ∧ Blk W bR 36 #[.int .i64 0, .int .i64 0, .int .i64 0, .int .i64 0] ∧ Blk W q 88 #[.int .i64 k.c.ca, .int .i64 k.c.fl, .int .i64 k.c.ft, .int .i64 k.c.se, .int .i64 k.c.dr, .int .i64 k.c.dw, .int .i64 k.c.ho, .int .i64 k.c.re, .int .i64 k.c.yi, .int .i64 k.c.qu, .int .i64 k.c.qo, .int .i64 k.c.lo, .int .i64 k.c.sl, .int .i64 k.c.rt, .int .i64 k.c.cp, .int .i64 k.c.tr, .int .i64 k.c.de, .int .i64 k.c.wi, .int .i64 k.se, .int .i64 k.ep, .slice (some ⟨g, 0, none⟩) m c, .int .i64 (Se.nx k.sq), .int .i64 0, .int .i64 0, .int .i64 k.ak, .bool true, .int .i64 (mx2 k.he (cl now))] ∧ (W).ownsRow lo 36 4 (.slice (some ⟨g, 0, none⟩) m c) m (rowsOf msgC ls.tail)) w53 := ⟨HS53.out, HBP53.out, HBR53.out, HBQ53.out, HFr_53.out⟩
    have HRK := Lib.hid hrK
    have HRD := Lib.hid (show (fun W : World => Upd [q, g] w W ∧ Blk W w.heap.size 38 #[.int .i64 p.se, .int .i64 p.ep, .int .i64 p.sq, .int .i64 p.ak, .bool p.ha, .int .i64 p.m.ki, .int .i64 p.m.a, .int .i64 p.m.b, .int .i64 p.m.c] ∧ Blk W bR 36 #[.int .i64 0, .int .i64 0, .int .i64 0, .int .i64 0] ∧ Blk W q 88 #[.int .i64 k.c.ca, .int .i64 k.c.fl, .int .i64 k.c.ft, .int .i64 k.c.se, .int .i64 k.c.dr, .int .i64 k.c.dw, .int .i64 k.c.ho, .int .i64 k.c.re, .int .i64 k.c.yi, .int .i64 k.c.qu, .int .i64 k.c.qo, .int .i64 k.c.lo, .int .i64 k.c.sl, .int .i64 k.c.rt, .int .i64 k.c.cp, .int .i64 k.c.tr, .int .i64 k.c.de, .int .i64 k.c.wi, .int .i64 k.se, .int .i64 k.ep, .slice (some ⟨g, 0, none⟩) m c, .int .i64 (Se.nx k.sq), .int .i64 0, .int .i64 0, .int .i64 k.ak, .bool true, .int .i64 (mx2 k.he (cl now))] ∧ (W).ownsRow lo 36 4 (.slice (some ⟨g, 0, none⟩) m c) m (rowsOf msgC ls.tail)) (World.drew w53) from hrK _ _ ((Since.refl w53).drew) hrS)
    clear hrK hrS
    refine wp_region_held_drew (S := fun W : World => Upd [q, g] w W ∧ Blk W w.heap.size 38 #[.int .i64 p.se, .int .i64 p.ep, .int .i64 p.sq, .int .i64 p.ak, .bool p.ha, .int .i64 p.m.ki, .int .i64 p.m.a, .int .i64 p.m.b, .int .i64 p.m.c] ∧ Blk W bR 36 #[.int .i64 0, .int .i64 0, .int .i64 0, .int .i64 0] ∧ Blk W q 88 #[.int .i64 k.c.ca, .int .i64 k.c.fl, .int .i64 k.c.ft, .int .i64 k.c.se, .int .i64 k.c.dr, .int .i64 k.c.dw, .int .i64 k.c.ho, .int .i64 k.c.re, .int .i64 k.c.yi, .int .i64 k.c.qu, .int .i64 k.c.qo, .int .i64 k.c.lo, .int .i64 k.c.sl, .int .i64 k.c.rt, .int .i64 k.c.cp, .int .i64 k.c.tr, .int .i64 k.c.de, .int .i64 k.c.wi, .int .i64 k.se, .int .i64 k.ep, .slice (some ⟨g, 0, none⟩) m c, .int .i64 (Se.nx k.sq), .int .i64 0, .int .i64 0, .int .i64 k.ak, .bool true, .int .i64 (mx2 k.he (cl now))] ∧ (W).ownsRow lo 36 4 (.slice (some ⟨g, 0, none⟩) m c) m (rowsOf msgC ls.tail)) (by kernel_rfl) HRD.out (fun hHeld => ?_)
    refine wpAnyH_take (i := 0) (oi := ?o9__0) (v := .pointer (some ⟨w.heap.size, 2, none⟩)) ?h9__0 (by kernel_rfl) (by kernel_rfl) (by kernel_rfl) ?q9__0 ?y9__0 (by assumption) ?_
    case h9__0 => (first | (simp only [gA, gB, gC]; done) | (simp only [gA, gB, gC]; exact rfl))
    case q9__0 => exact fun _ _ _ h => h
    case y9__0 => (refine Or.inl ⟨rfl, ?_⟩; intro w hSw; (first | rfl | (go_simp; (try with_reducible rfl))))
    (try simp only [Act.put, sA, sB, sC])
    refine wpAnyH_take (i := 1) (oi := ?o9__1) (v := .int .i64 p.sq) ?h9__1 (by kernel_rfl) (by kernel_rfl) (by kernel_rfl) ?q9__1 ?y9__1 (by assumption) ?_
    case h9__1 => (first | (simp only [gA, gB, gC]; done) | (simp only [gA, gB, gC]; exact rfl))
    case q9__1 => exact fun _ _ _ h => h
    case y9__1 => (refine Or.inl ⟨rfl, ?_⟩; intro w hSw; exact exec_cell 3 _ _ hSw.2.1 rfl rfl rfl Try.underlying3 rfl)
    (try simp only [Act.put, sA, sB, sC])
    refine wpAnyH_take (i := 2) (oi := ?o9__2) (v := .pointer (some ⟨q, 0, none⟩)) ?h9__2 (by kernel_rfl) (by kernel_rfl) (by kernel_rfl) ?q9__2 ?y9__2 (by assumption) ?_
    case h9__2 => (first | (simp only [gA, gB, gC]; done) | (simp only [gA, gB, gC]; exact rfl))
    case q9__2 => exact fun _ _ _ h => h
    case y9__2 => (refine Or.inl ⟨rfl, ?_⟩; intro w hSw; (first | rfl | (go_simp; (try with_reducible rfl))))
    (try simp only [Act.put, sA, sB, sC])
    refine wpAnyH_take (i := 3) (oi := ?o9__3) (v := .pointer (some ⟨q, 0, none⟩)) ?h9__3 (by kernel_rfl) (by kernel_rfl) (by kernel_rfl) ?q9__3 ?y9__3 (by assumption) ?_
    case h9__3 => (first | (simp only [gA, gB, gC]; done) | (simp only [gA, gB, gC]; exact rfl))
    case q9__3 => exact fun _ _ _ h => h
    case y9__3 => (refine Or.inl ⟨rfl, ?_⟩; intro w hSw; (first | rfl | (go_simp; (try with_reducible rfl))))
    (try simp only [Act.put, sA, sB, sC])
    refine wpAnyH_take (i := 4) (oi := ?o9__4) (v := .pointer (some ⟨q, 24, none⟩)) ?h9__4 (by kernel_rfl) (by kernel_rfl) (by kernel_rfl) ?q9__4 ?y9__4 (by assumption) ?_
    case h9__4 => (first | (simp only [gA, gB, gC]; done) | (simp only [gA, gB, gC]; exact rfl))
    case q9__4 => exact fun _ _ _ h => h
    case y9__4 => (refine Or.inl ⟨rfl, ?_⟩; intro w hSw; (first | rfl | (go_simp; (try with_reducible rfl))))
    (try simp only [Act.put, sA, sB, sC])
    refine wpAnyH_take (i := 5) (oi := ?o9__5) (v := .int .i64 k.ak) ?h9__5 (by kernel_rfl) (by kernel_rfl) (by kernel_rfl) ?q9__5 ?y9__5 (by assumption) ?_
    case h9__5 => (first | (simp only [gA, gB, gC]; done) | (simp only [gA, gB, gC]; exact rfl))
    case q9__5 => exact fun _ _ _ h => h
    case y9__5 => (refine Or.inl ⟨rfl, ?_⟩; intro w hSw; exact exec_cell 3 _ _ hSw.2.2.2.1 rfl rfl rfl Try.underlying3 rfl)
    (try simp only [Act.put, sA, sB, sC])
    refine wpAnyH_take (i := 6) (oi := ?o9__6) (v := .bool true) ?h9__6 (by kernel_rfl) (by kernel_rfl) (by kernel_rfl) ?q9__6 ?y9__6 (by assumption) ?_
    case h9__6 => (first | (simp only [gA, gB, gC]; done) | (simp only [gA, gB, gC]; exact rfl))
    case q9__6 => exact fun _ _ _ h => h
    case y9__6 => (refine Or.inl ⟨rfl, ?_⟩; intro w hSw; (have q0 := H7.out; go_simp; (first | done | rfl | omega)))
    (try simp only [Act.put, sA, sB, sC])
    refine wpAnyH_done (by kernel_rfl) ?_ _
    have HSd9 := Lib.hid hHeld.1
    have HBPd9 := Lib.hid (hHeld.2.1)
    have HBRd9 := Lib.hid (hHeld.2.2.1)
    have HBQd9 := Lib.hid (hHeld.2.2.2.1)
    have HFrd9 := Lib.hid (hHeld.2.2.2.2)
    clear hHeld HRK HRD HS53 HBP53 HBR53 HBQ53 HFr_53
    go_upto_region 10 with fail
    refine wp_region_lit ?_
    refine wpList_q (by rfl) (.agg #[.int .i64 0, .int .i64 0, .int .i64 0, .int .i64 0]) ?he ?_
    case he => kernel_rfl
    (try simp only [Act.put, sA, sB, sC])
    refine wpList_wp (by rfl) (fun K hK => ?_)
    refine wp_st_row 36 _ _ rfl #[.int .i64 0, .int .i64 0, .int .i64 0, .int .i64 0] rfl rfl (HasRow.of HBRd9.out rfl) rfl (by simp [Value.oneCell']) (by kernel_rfl) ?_
    intro w54 hw
    refine hK.out _ _ ?_
    clear hK K
    (try simp only [Act.put, sA, sB, sC])
    have HS54 := Lib.hid (show Upd [q, g] w w54 by rw [hw]; exact Upd.setRow HSd9.out (Or.inr (by have := HNE3.out; omega)) _)
    have HBP54 := Lib.hid (show Blk w54 w.heap.size 38 #[.int .i64 p.se, .int .i64 p.ep, .int .i64 p.sq, .int .i64 p.ak, .bool p.ha, .int .i64 p.m.ki, .int .i64 p.m.a, .int .i64 p.m.b, .int .i64 p.m.c] by rw [hw]; exact Blk.row_far HBPd9.out (by have := HNE3.out; omega) _)
    have HBR54 := Lib.hid (show Blk w54 bR 36 #[.int .i64 0, .int .i64 0, .int .i64 0, .int .i64 0] by rw [hw]; exact Blk.row HBRd9.out _)
    have HBQ54 := Lib.hid (show Blk w54 q 88 #[.int .i64 k.c.ca, .int .i64 k.c.fl, .int .i64 k.c.ft, .int .i64 k.c.se, .int .i64 k.c.dr, .int .i64 k.c.dw, .int .i64 k.c.ho, .int .i64 k.c.re, .int .i64 k.c.yi, .int .i64 k.c.qu, .int .i64 k.c.qo, .int .i64 k.c.lo, .int .i64 k.c.sl, .int .i64 k.c.rt, .int .i64 k.c.cp, .int .i64 k.c.tr, .int .i64 k.c.de, .int .i64 k.c.wi, .int .i64 k.se, .int .i64 k.ep, .slice (some ⟨g, 0, none⟩) m c, .int .i64 (Se.nx k.sq), .int .i64 0, .int .i64 0, .int .i64 k.ak, .bool true, .int .i64 (mx2 k.he (cl now))] by rw [hw]; exact Blk.row_far HBQd9.out HNR.out _)
    have HFr_54 := Lib.hid (show (w54).ownsRow lo 36 4 (.slice (some ⟨g, 0, none⟩) m c) m (rowsOf msgC ls.tail) by rw [hw]; exact own_row_far HFrd9.out HIR.out _)
    clear hw HSd9 HBPd9 HBRd9 HBQd9 HFrd9
    refine wpList_q (by rfl) (.bool false) ?he ?_
    case he => (first | rfl | (go_simp; (try with_reducible rfl)))
    (try simp only [Act.put, sA, sB, sC])
    refine wpList_nil ?_
    have hlen : ls.tail.length = m := by have q0 := H3.out; rw [List.length_tail]; omega
    (try go_wp2_with fail)
    exact bodyPost_ret (results_row2 rfl _ _ bR 36 #[.int .i64 0, .int .i64 0, .int .i64 0, .int .i64 0] _ (.bool false) rfl rfl HBR54.out Try.underlying36 rfl (by kernel_rfl)) rfl ⟨rfl, ⟨H0.out, (some ⟨g, 0, none⟩), c, rfl, by rw [hlen]; exact HBQ54.out, by rw [hlen]; exact HFr_54.out⟩, HS54.out⟩
set_option maxHeartbeats 4000000 in
theorem recv_y_take (lo q : Nat) (k : LkV) (ls : List MsgV) (g m c : Nat) (p : PkV) (now : Int) (w : World) (hb : Blk w q 88 (lkC k (.slice (some ⟨g, 0, none⟩) ls.length c))) (ho : w.ownsRow lo 36 4 (.slice (some ⟨g, 0, none⟩) ls.length c) ls.length (rowsOf msgC ls)) (hl : ls.length ≤ 10000) (h1 : p.se = k.se) (h2 : p.ep = k.ep) (h0 : lo ≤ q) (h3 : ls.length = m + 1) (h4 : p.ak = Se.nx k.sq) (hc : m + 1 ≤ c) (h5 : p.ha = true) (h6 : decide (0 < Se.ne k.ak p.sq) = false) (h7 : p.sq = k.ak) : Calls Try.prog 16 #[.pointer (some ⟨q, 0, none⟩), .agg #[.int .i64 p.se, .int .i64 p.ep, .int .i64 p.sq, .int .i64 p.ak, .bool p.ha, .int .i64 p.m.ki, .int .i64 p.m.a, .int .i64 p.m.b, .int .i64 p.m.c], .int .i64 now] w fun e w' => e = .returned (.tuple #[.agg #[.int .i64 p.m.ki, .int .i64 p.m.a, .int .i64 p.m.b, .int .i64 p.m.c], .bool true]) ∧ LO lo q { k with he := mx2 k.he (cl now), sq := Se.nx k.sq, st := 0, du := 0, an := true, ak := Se.nx k.ak } ls.tail [q, g] w' ∧ Upd [q, g] w w' := by
  have HBQ := Lib.hid (show Blk w q 88 #[.int .i64 k.c.ca, .int .i64 k.c.fl, .int .i64 k.c.ft, .int .i64 k.c.se, .int .i64 k.c.dr, .int .i64 k.c.dw, .int .i64 k.c.ho, .int .i64 k.c.re, .int .i64 k.c.yi, .int .i64 k.c.qu, .int .i64 k.c.qo, .int .i64 k.c.lo, .int .i64 k.c.sl, .int .i64 k.c.rt, .int .i64 k.c.cp, .int .i64 k.c.tr, .int .i64 k.c.de, .int .i64 k.c.wi, .int .i64 k.se, .int .i64 k.ep, .slice (some ⟨g, 0, none⟩) ls.length c, .int .i64 k.sq, .int .i64 k.st, .int .i64 k.du, .int .i64 k.ak, .bool k.an, .int .i64 k.he] from hb)
  clear hb
  have HOW := Lib.hid ho
  clear ho
  have HL := Lib.hid hl
  clear hl
  have H1 := Lib.hid h1
  clear h1
  have H2 := Lib.hid h2
  clear h2
  have H0 := Lib.hid h0
  clear h0
  have H3 := Lib.hid h3
  clear h3
  have H4 := Lib.hid h4
  clear h4
  have HC := Lib.hid hc
  clear hc
  have H5 := Lib.hid h5
  clear h5
  have H6 := Lib.hid h6
  clear h6
  have H7 := Lib.hid h7
  clear h7
  go_enter Try.func16, Try.ntmps16
  go_upto_region 1 with fail
  obtain ⟨w1, hw1⟩ : ∃ w1, w1 = ((w.alloc (.cells #[.int .i64 p.se, .int .i64 p.ep, .int .i64 p.sq, .int .i64 p.ak, .bool p.ha, .int .i64 p.m.ki, .int .i64 p.m.a, .int .i64 p.m.b, .int .i64 p.m.c] 38)).alloc (.cells #[.int .i64 0, .int .i64 0, .int .i64 0, .int .i64 0] 36)) := ⟨_, rfl⟩
  rw [← hw1]
  have HBP1 := Lib.hid (show Blk w1 (w.heap.size) 38 #[.int .i64 p.se, .int .i64 p.ep, .int .i64 p.sq, .int .i64 p.ak, .bool p.ha, .int .i64 p.m.ki, .int .i64 p.m.a, .int .i64 p.m.b, .int .i64 p.m.c] by rw [hw1]; exact Blk.alloc (Blk.at_ (by (try simp only [size_alloc])) _ _) _)
  have HBR1 := Lib.hid (show Blk w1 (w.heap.size + 1) 36 #[.int .i64 0, .int .i64 0, .int .i64 0, .int .i64 0] by rw [hw1]; exact Blk.at_ (by (try simp only [size_alloc])) _ _)
  have HS1 := Lib.hid (show Since w w1 by rw [hw1]; exact Since.alloc (Since.alloc (Since.refl w) _) _)
  have hNE : w.heap.size ≤ w.heap.size ∧ w.heap.size < w.heap.size + 1 := by omega
  have HNE := Lib.hid hNE
  clear hNE hw1
  generalize w.heap.size + 1 = bR at *
  have HNE3 := Lib.hid (show w.heap.size ≤ w.heap.size ∧ w.heap.size < bR from HNE.out)
  clear HNE
  have HBQ1 := Lib.hid (keep_blk HS1.out HBQ.out)
  have HOW1 := Lib.hid (keep_own HS1.out HOW.out)
  have HIQ := Lib.hid (own_ne_ty HOW.out HBQ.out (by decide))
  have HLO := Lib.hid (show q < w.heap.size from Blk.lt HBQ.out)
  have HIP := Lib.hid (own_far HOW.out (show w.heap.size ≤ w.heap.size by have := HNE3.out; omega))
  have HNP := Lib.hid (show q ≠ w.heap.size by have := HLO.out; have := HNE3.out; omega)
  have HIR := Lib.hid (own_far HOW.out (show w.heap.size ≤ bR by have := HNE3.out; omega))
  have HNR := Lib.hid (show q ≠ bR by have := HLO.out; have := HNE3.out; omega)
  clear HBQ HOW
  have hrK : ∀ W W' : World, Since W W' → (Since w W ∧ Blk W w.heap.size 38 #[.int .i64 p.se, .int .i64 p.ep, .int .i64 p.sq, .int .i64 p.ak, .bool p.ha, .int .i64 p.m.ki, .int .i64 p.m.a, .int .i64 p.m.b, .int .i64 p.m.c] ∧ Blk W bR 36 #[.int .i64 0, .int .i64 0, .int .i64 0, .int .i64 0] ∧ Blk W q 88 #[.int .i64 k.c.ca, .int .i64 k.c.fl, .int .i64 k.c.ft, .int .i64 k.c.se, .int .i64 k.c.dr, .int .i64 k.c.dw, .int .i64 k.c.ho, .int .i64 k.c.re, .int .i64 k.c.yi, .int .i64 k.c.qu, .int .i64 k.c.qo, .int .i64 k.c.lo, .int .i64 k.c.sl, .int .i64 k.c.rt, .int .i64 k.c.cp, .int .i64 k.c.tr, .int .i64 k.c.de, .int .i64 k.c.wi, .int .i64 k.se, .int .i64 k.ep, .slice (some ⟨g, 0, none⟩) ls.length c, .int .i64 k.sq, .int .i64 k.st, .int .i64 k.du, .int .i64 k.ak, .bool k.an, .int .i64 k.he] ∧ (W).ownsRow lo 36 4 (.slice (some ⟨g, 0, none⟩) ls.length c) ls.length (rowsOf msgC ls)) → (Since w W' ∧ Blk W' w.heap.size 38 #[.int .i64 p.se, .int .i64 p.ep, .int .i64 p.sq, .int .i64 p.ak, .bool p.ha, .int .i64 p.m.ki, .int .i64 p.m.a, .int .i64 p.m.b, .int .i64 p.m.c] ∧ Blk W' bR 36 #[.int .i64 0, .int .i64 0, .int .i64 0, .int .i64 0] ∧ Blk W' q 88 #[.int .i64 k.c.ca, .int .i64 k.c.fl, .int .i64 k.c.ft, .int .i64 k.c.se, .int .i64 k.c.dr, .int .i64 k.c.dw, .int .i64 k.c.ho, .int .i64 k.c.re, .int .i64 k.c.yi, .int .i64 k.c.qu, .int .i64 k.c.qo, .int .i64 k.c.lo, .int .i64 k.c.sl, .int .i64 k.c.rt, .int .i64 k.c.cp, .int .i64 k.c.tr, .int .i64 k.c.de, .int .i64 k.c.wi, .int .i64 k.se, .int .i64 k.ep, .slice (some ⟨g, 0, none⟩) ls.length c, .int .i64 k.sq, .int .i64 k.st, .int .i64 k.du, .int .i64 k.ak, .bool k.an, .int .i64 k.he] ∧ (W').ownsRow lo 36 4 (.slice (some ⟨g, 0, none⟩) ls.length c) ls.length (rowsOf msgC ls)) := fun W W' k ⟨h, h0, h1, h2, h3⟩ => ⟨h.trans k, keep_blk k h0, keep_blk k h1, keep_blk k h2, keep_own k h3⟩
  have hrS : (fun W : World => Since w W ∧ Blk W w.heap.size 38 #[.int .i64 p.se, .int .i64 p.ep, .int .i64 p.sq, .int .i64 p.ak, .bool p.ha, .int .i64 p.m.ki, .int .i64 p.m.a, .int .i64 p.m.b, .int .i64 p.m.c] ∧ Blk W bR 36 #[.int .i64 0, .int .i64 0, .int .i64 0, .int .i64 0] ∧ Blk W q 88 #[.int .i64 k.c.ca, .int .i64 k.c.fl, .int .i64 k.c.ft, .int .i64 k.c.se, .int .i64 k.c.dr, .int .i64 k.c.dw, .int .i64 k.c.ho, .int .i64 k.c.re, .int .i64 k.c.yi, .int .i64 k.c.qu, .int .i64 k.c.qo, .int .i64 k.c.lo, .int .i64 k.c.sl, .int .i64 k.c.rt, .int .i64 k.c.cp, .int .i64 k.c.tr, .int .i64 k.c.de, .int .i64 k.c.wi, .int .i64 k.se, .int .i64 k.ep, .slice (some ⟨g, 0, none⟩) ls.length c, .int .i64 k.sq, .int .i64 k.st, .int .i64 k.du, .int .i64 k.ak, .bool k.an, .int .i64 k.he] ∧ (W).ownsRow lo 36 4 (.slice (some ⟨g, 0, none⟩) ls.length c) ls.length (rowsOf msgC ls)) w1 := ⟨HS1.out, HBP1.out, HBR1.out, HBQ1.out, HOW1.out⟩
  have HRK := Lib.hid hrK
  have HRD := Lib.hid (show (fun W : World => Since w W ∧ Blk W w.heap.size 38 #[.int .i64 p.se, .int .i64 p.ep, .int .i64 p.sq, .int .i64 p.ak, .bool p.ha, .int .i64 p.m.ki, .int .i64 p.m.a, .int .i64 p.m.b, .int .i64 p.m.c] ∧ Blk W bR 36 #[.int .i64 0, .int .i64 0, .int .i64 0, .int .i64 0] ∧ Blk W q 88 #[.int .i64 k.c.ca, .int .i64 k.c.fl, .int .i64 k.c.ft, .int .i64 k.c.se, .int .i64 k.c.dr, .int .i64 k.c.dw, .int .i64 k.c.ho, .int .i64 k.c.re, .int .i64 k.c.yi, .int .i64 k.c.qu, .int .i64 k.c.qo, .int .i64 k.c.lo, .int .i64 k.c.sl, .int .i64 k.c.rt, .int .i64 k.c.cp, .int .i64 k.c.tr, .int .i64 k.c.de, .int .i64 k.c.wi, .int .i64 k.se, .int .i64 k.ep, .slice (some ⟨g, 0, none⟩) ls.length c, .int .i64 k.sq, .int .i64 k.st, .int .i64 k.du, .int .i64 k.ak, .bool k.an, .int .i64 k.he] ∧ (W).ownsRow lo 36 4 (.slice (some ⟨g, 0, none⟩) ls.length c) ls.length (rowsOf msgC ls)) (World.drew w1) from hrK _ _ ((Since.refl w1).drew) hrS)
  clear hrK hrS
  refine wp_region_held_drew (S := fun W : World => Since w W ∧ Blk W w.heap.size 38 #[.int .i64 p.se, .int .i64 p.ep, .int .i64 p.sq, .int .i64 p.ak, .bool p.ha, .int .i64 p.m.ki, .int .i64 p.m.a, .int .i64 p.m.b, .int .i64 p.m.c] ∧ Blk W bR 36 #[.int .i64 0, .int .i64 0, .int .i64 0, .int .i64 0] ∧ Blk W q 88 #[.int .i64 k.c.ca, .int .i64 k.c.fl, .int .i64 k.c.ft, .int .i64 k.c.se, .int .i64 k.c.dr, .int .i64 k.c.dw, .int .i64 k.c.ho, .int .i64 k.c.re, .int .i64 k.c.yi, .int .i64 k.c.qu, .int .i64 k.c.qo, .int .i64 k.c.lo, .int .i64 k.c.sl, .int .i64 k.c.rt, .int .i64 k.c.cp, .int .i64 k.c.tr, .int .i64 k.c.de, .int .i64 k.c.wi, .int .i64 k.se, .int .i64 k.ep, .slice (some ⟨g, 0, none⟩) ls.length c, .int .i64 k.sq, .int .i64 k.st, .int .i64 k.du, .int .i64 k.ak, .bool k.an, .int .i64 k.he] ∧ (W).ownsRow lo 36 4 (.slice (some ⟨g, 0, none⟩) ls.length c) ls.length (rowsOf msgC ls)) (by kernel_rfl) HRD.out (fun hHeld => ?_)
  refine wpAnyH_take (i := 0) (oi := ?o1__0) (v := .pointer (some ⟨q, 0, none⟩)) ?h1__0 (by kernel_rfl) (by kernel_rfl) (by kernel_rfl) ?q1__0 ?y1__0 (by assumption) ?_
  case h1__0 => (first | (simp only [gA, gB, gC]; done) | (simp only [gA, gB, gC]; exact rfl))
  case q1__0 => exact fun _ _ _ h => h
  case y1__0 => (refine Or.inl ⟨rfl, ?_⟩; intro w hSw; (first | rfl | (go_simp; (try with_reducible rfl))))
  (try simp only [Act.put, sA, sB, sC])
  refine wpAnyH_take (i := 1) (oi := ?o1__1) (v := .bool false) ?h1__1 (by kernel_rfl) (by kernel_rfl) (by kernel_rfl) ?q1__1 ?y1__1 (by assumption) ?_
  case h1__1 => (first | (simp only [gA, gB, gC]; done) | (simp only [gA, gB, gC]; exact rfl))
  case q1__1 => exact fun _ _ _ h => h
  case y1__1 => (refine Or.inl ⟨rfl, ?_⟩; intro w hSw; (first | rfl | (go_simp; (try with_reducible rfl))))
  (try simp only [Act.put, sA, sB, sC])
  refine wpAnyH_take (i := 2) (oi := ?o1__2) (v := .bool false) ?h1__2 (by kernel_rfl) (by kernel_rfl) (by kernel_rfl) ?q1__2 ?y1__2 (by assumption) ?_
  case h1__2 => (first | (simp only [gA, gB, gC]; done) | (simp only [gA, gB, gC]; exact rfl))
  case q1__2 => exact fun _ _ _ h => h
  case y1__2 => (refine Or.inl ⟨rfl, ?_⟩; intro w hSw; (first | rfl | (go_simp; (try with_reducible rfl))))
  (try simp only [Act.put, sA, sB, sC])
  refine wpAnyH_take (i := 3) (oi := ?o1__3) (v := .pointer (some ⟨w.heap.size, 0, none⟩)) ?h1__3 (by kernel_rfl) (by kernel_rfl) (by kernel_rfl) ?q1__3 ?y1__3 (by assumption) ?_
  case h1__3 => (first | (simp only [gA, gB, gC]; done) | (simp only [gA, gB, gC]; exact rfl))
  case q1__3 => exact fun _ _ _ h => h
  case y1__3 => (refine Or.inl ⟨rfl, ?_⟩; intro w hSw; (first | rfl | (go_simp; (try with_reducible rfl))))
  (try simp only [Act.put, sA, sB, sC])
  refine wpAnyH_take (i := 4) (oi := ?o1__4) (v := .int .i64 p.se) ?h1__4 (by kernel_rfl) (by kernel_rfl) (by kernel_rfl) ?q1__4 ?y1__4 (by assumption) ?_
  case h1__4 => (first | (simp only [gA, gB, gC]; done) | (simp only [gA, gB, gC]; exact rfl))
  case q1__4 => exact fun _ _ _ h => h
  case y1__4 => (refine Or.inl ⟨rfl, ?_⟩; intro w hSw; exact exec_cell 3 _ _ hSw.2.1 rfl rfl rfl Try.underlying3 rfl)
  (try simp only [Act.put, sA, sB, sC])
  refine wpAnyH_take (i := 5) (oi := ?o1__5) (v := .pointer (some ⟨q, 0, none⟩)) ?h1__5 (by kernel_rfl) (by kernel_rfl) (by kernel_rfl) ?q1__5 ?y1__5 (by assumption) ?_
  case h1__5 => (first | (simp only [gA, gB, gC]; done) | (simp only [gA, gB, gC]; exact rfl))
  case q1__5 => exact fun _ _ _ h => h
  case y1__5 => (refine Or.inl ⟨rfl, ?_⟩; intro w hSw; (first | rfl | (go_simp; (try with_reducible rfl))))
  (try simp only [Act.put, sA, sB, sC])
  refine wpAnyH_take (i := 6) (oi := ?o1__6) (v := .pointer (some ⟨q, 0, none⟩)) ?h1__6 (by kernel_rfl) (by kernel_rfl) (by kernel_rfl) ?q1__6 ?y1__6 (by assumption) ?_
  case h1__6 => (first | (simp only [gA, gB, gC]; done) | (simp only [gA, gB, gC]; exact rfl))
  case q1__6 => exact fun _ _ _ h => h
  case y1__6 => (refine Or.inl ⟨rfl, ?_⟩; intro w hSw; (first | rfl | (go_simp; (try with_reducible rfl))))
  (try simp only [Act.put, sA, sB, sC])
  refine wpAnyH_take (i := 7) (oi := ?o1__7) (v := .pointer (some ⟨q, 18, none⟩)) ?h1__7 (by kernel_rfl) (by kernel_rfl) (by kernel_rfl) ?q1__7 ?y1__7 (by assumption) ?_
  case h1__7 => (first | (simp only [gA, gB, gC]; done) | (simp only [gA, gB, gC]; exact rfl))
  case q1__7 => exact fun _ _ _ h => h
  case y1__7 => (refine Or.inl ⟨rfl, ?_⟩; intro w hSw; (first | rfl | (go_simp; (try with_reducible rfl))))
  (try simp only [Act.put, sA, sB, sC])
  refine wpAnyH_take (i := 8) (oi := ?o1__8) (v := .int .i64 k.se) ?h1__8 (by kernel_rfl) (by kernel_rfl) (by kernel_rfl) ?q1__8 ?y1__8 (by assumption) ?_
  case h1__8 => (first | (simp only [gA, gB, gC]; done) | (simp only [gA, gB, gC]; exact rfl))
  case q1__8 => exact fun _ _ _ h => h
  case y1__8 => (refine Or.inl ⟨rfl, ?_⟩; intro w hSw; exact exec_cell 3 _ _ hSw.2.2.2.1 rfl rfl rfl Try.underlying3 rfl)
  (try simp only [Act.put, sA, sB, sC])
  refine wpAnyH_take (i := 9) (oi := ?o1__9) (v := .bool false) ?h1__9 (by kernel_rfl) (by kernel_rfl) (by kernel_rfl) ?q1__9 ?y1__9 (by assumption) ?_
  case h1__9 => (first | (simp only [gA, gB, gC]; done) | (simp only [gA, gB, gC]; exact rfl))
  case q1__9 => exact fun _ _ _ h => h
  case y1__9 => (refine Or.inl ⟨rfl, ?_⟩; intro w hSw; (have q0 := H1.out; go_simp; (first | done | rfl | omega)))
  (try simp only [Act.put, sA, sB, sC])
  refine wpAnyH_take (i := 10) (oi := ?o1__10) (v := .bool false) ?h1__10 (by kernel_rfl) (by kernel_rfl) (by kernel_rfl) ?q1__10 ?y1__10 (by assumption) ?_
  case h1__10 => (first | (simp only [gA, gB, gC]; done) | (simp only [gA, gB, gC]; exact rfl))
  case q1__10 => exact fun _ _ _ h => h
  case y1__10 => (refine Or.inl ⟨rfl, ?_⟩; intro w hSw; (first | rfl | (go_simp; (try with_reducible rfl))))
  (try simp only [Act.put, sA, sB, sC])
  refine wpAnyH_take (i := 11) (oi := ?o1__11) (v := .bool false) ?h1__11 (by kernel_rfl) (by kernel_rfl) (by kernel_rfl) ?q1__11 ?y1__11 (by assumption) ?_
  case h1__11 => (first | (simp only [gA, gB, gC]; done) | (simp only [gA, gB, gC]; exact rfl))
  case q1__11 => exact fun _ _ _ h => h
  case y1__11 => (refine Or.inl ⟨rfl, ?_⟩; intro w hSw; (first | rfl | (go_simp; (try with_reducible rfl))))
  (try simp only [Act.put, sA, sB, sC])
  refine wpAnyH_take (i := 12) (oi := ?o1__12) (v := .pointer (some ⟨w.heap.size, 1, none⟩)) ?h1__12 (by kernel_rfl) (by kernel_rfl) (by kernel_rfl) ?q1__12 ?y1__12 (by assumption) ?_
  case h1__12 => (first | (simp only [gA, gB, gC]; done) | (simp only [gA, gB, gC]; exact rfl))
  case q1__12 => exact fun _ _ _ h => h
  case y1__12 => (refine Or.inl ⟨rfl, ?_⟩; intro w hSw; (first | rfl | (go_simp; (try with_reducible rfl))))
  (try simp only [Act.put, sA, sB, sC])
  refine wpAnyH_take (i := 13) (oi := ?o1__13) (v := .int .i64 p.ep) ?h1__13 (by kernel_rfl) (by kernel_rfl) (by kernel_rfl) ?q1__13 ?y1__13 (by assumption) ?_
  case h1__13 => (first | (simp only [gA, gB, gC]; done) | (simp only [gA, gB, gC]; exact rfl))
  case q1__13 => exact fun _ _ _ h => h
  case y1__13 => (refine Or.inl ⟨rfl, ?_⟩; intro w hSw; exact exec_cell 3 _ _ hSw.2.1 rfl rfl rfl Try.underlying3 rfl)
  (try simp only [Act.put, sA, sB, sC])
  refine wpAnyH_take (i := 14) (oi := ?o1__14) (v := .pointer (some ⟨q, 0, none⟩)) ?h1__14 (by kernel_rfl) (by kernel_rfl) (by kernel_rfl) ?q1__14 ?y1__14 (by assumption) ?_
  case h1__14 => (first | (simp only [gA, gB, gC]; done) | (simp only [gA, gB, gC]; exact rfl))
  case q1__14 => exact fun _ _ _ h => h
  case y1__14 => (refine Or.inl ⟨rfl, ?_⟩; intro w hSw; (first | rfl | (go_simp; (try with_reducible rfl))))
  (try simp only [Act.put, sA, sB, sC])
  refine wpAnyH_take (i := 15) (oi := ?o1__15) (v := .pointer (some ⟨q, 0, none⟩)) ?h1__15 (by kernel_rfl) (by kernel_rfl) (by kernel_rfl) ?q1__15 ?y1__15 (by assumption) ?_
  case h1__15 => (first | (simp only [gA, gB, gC]; done) | (simp only [gA, gB, gC]; exact rfl))
  case q1__15 => exact fun _ _ _ h => h
  case y1__15 => (refine Or.inl ⟨rfl, ?_⟩; intro w hSw; (first | rfl | (go_simp; (try with_reducible rfl))))
  (try simp only [Act.put, sA, sB, sC])
  refine wpAnyH_take (i := 16) (oi := ?o1__16) (v := .pointer (some ⟨q, 19, none⟩)) ?h1__16 (by kernel_rfl) (by kernel_rfl) (by kernel_rfl) ?q1__16 ?y1__16 (by assumption) ?_
  case h1__16 => (first | (simp only [gA, gB, gC]; done) | (simp only [gA, gB, gC]; exact rfl))
  case q1__16 => exact fun _ _ _ h => h
  case y1__16 => (refine Or.inl ⟨rfl, ?_⟩; intro w hSw; (first | rfl | (go_simp; (try with_reducible rfl))))
  (try simp only [Act.put, sA, sB, sC])
  refine wpAnyH_take (i := 17) (oi := ?o1__17) (v := .int .i64 k.ep) ?h1__17 (by kernel_rfl) (by kernel_rfl) (by kernel_rfl) ?q1__17 ?y1__17 (by assumption) ?_
  case h1__17 => (first | (simp only [gA, gB, gC]; done) | (simp only [gA, gB, gC]; exact rfl))
  case q1__17 => exact fun _ _ _ h => h
  case y1__17 => (refine Or.inl ⟨rfl, ?_⟩; intro w hSw; exact exec_cell 3 _ _ hSw.2.2.2.1 rfl rfl rfl Try.underlying3 rfl)
  (try simp only [Act.put, sA, sB, sC])
  refine wpAnyH_take (i := 18) (oi := ?o1__18) (v := .bool false) ?h1__18 (by kernel_rfl) (by kernel_rfl) (by kernel_rfl) ?q1__18 ?y1__18 (by assumption) ?_
  case h1__18 => (first | (simp only [gA, gB, gC]; done) | (simp only [gA, gB, gC]; exact rfl))
  case q1__18 => exact fun _ _ _ h => h
  case y1__18 => (refine Or.inl ⟨rfl, ?_⟩; intro w hSw; (have q0 := H2.out; go_simp; (first | done | rfl | omega)))
  (try simp only [Act.put, sA, sB, sC])
  refine wpAnyH_take (i := 19) (oi := ?o1__19) (v := .bool false) ?h1__19 (by kernel_rfl) (by kernel_rfl) (by kernel_rfl) ?q1__19 ?y1__19 (by assumption) ?_
  case h1__19 => (first | (simp only [gA, gB, gC]; done) | (simp only [gA, gB, gC]; exact rfl))
  case q1__19 => exact fun _ _ _ h => h
  case y1__19 => (refine Or.inl ⟨rfl, ?_⟩; intro w hSw; (first | rfl | (go_simp; (try with_reducible rfl))))
  (try simp only [Act.put, sA, sB, sC])
  refine wpAnyH_done (by kernel_rfl) ?_ _
  have HSd1 := Lib.hid hHeld.1
  have HBPd1 := Lib.hid (hHeld.2.1)
  have HBRd1 := Lib.hid (hHeld.2.2.1)
  have HBQd1 := Lib.hid (hHeld.2.2.2.1)
  have HFrd1 := Lib.hid (hHeld.2.2.2.2)
  clear hHeld HRK HRD HS1 HBP1 HBR1 HBQ1 HOW1
  have HSU := Lib.hid (show Upd [q, g] w w1.drew from Upd.of_since HSd1.out)
  clear HSd1
  go_upto_region 3 with fail
  go_cut [] (fun  wx => Hid (Upd [q, g] w wx ∧ Blk wx w.heap.size 38 #[.int .i64 p.se, .int .i64 p.ep, .int .i64 p.sq, .int .i64 p.ak, .bool p.ha, .int .i64 p.m.ki, .int .i64 p.m.a, .int .i64 p.m.b, .int .i64 p.m.c] ∧ Blk wx bR 36 #[.int .i64 0, .int .i64 0, .int .i64 0, .int .i64 0] ∧ Blk wx q 88 #[.int .i64 k.c.ca, .int .i64 k.c.fl, .int .i64 k.c.ft, .int .i64 k.c.se, .int .i64 k.c.dr, .int .i64 k.c.dw, .int .i64 k.c.ho, .int .i64 k.c.re, .int .i64 k.c.yi, .int .i64 k.c.qu, .int .i64 k.c.qo, .int .i64 k.c.lo, .int .i64 k.c.sl, .int .i64 k.c.rt, .int .i64 k.c.cp, .int .i64 k.c.tr, .int .i64 k.c.de, .int .i64 k.c.wi, .int .i64 k.se, .int .i64 k.ep, .slice (some ⟨g, 0, none⟩) ls.length c, .int .i64 k.sq, .int .i64 k.st, .int .i64 k.du, .int .i64 k.ak, .bool k.an, .int .i64 (mx2 k.he (cl now))] ∧ (wx).ownsRow lo 36 4 (.slice (some ⟨g, 0, none⟩) ls.length c) ls.length (rowsOf msgC ls)))
  case first =>
    have hrK : ∀ W W' : World, Since W W' → (Upd [q, g] w W ∧ Blk W w.heap.size 38 #[.int .i64 p.se, .int .i64 p.ep, .int .i64 p.sq, .int .i64 p.ak, .bool p.ha, .int .i64 p.m.ki, .int .i64 p.m.a, .int .i64 p.m.b, .int .i64 p.m.c] ∧ Blk W bR 36 #[.int .i64 0, .int .i64 0, .int .i64 0, .int .i64 0] ∧ HasRow W q 88 27 ∧ (W).ownsRow lo 36 4 (.slice (some ⟨g, 0, none⟩) ls.length c) ls.length (rowsOf msgC ls)) → (Upd [q, g] w W' ∧ Blk W' w.heap.size 38 #[.int .i64 p.se, .int .i64 p.ep, .int .i64 p.sq, .int .i64 p.ak, .bool p.ha, .int .i64 p.m.ki, .int .i64 p.m.a, .int .i64 p.m.b, .int .i64 p.m.c] ∧ Blk W' bR 36 #[.int .i64 0, .int .i64 0, .int .i64 0, .int .i64 0] ∧ HasRow W' q 88 27 ∧ (W').ownsRow lo 36 4 (.slice (some ⟨g, 0, none⟩) ls.length c) ls.length (rowsOf msgC ls)) := fun W W' k ⟨h, h0, h1, h2, h3⟩ => ⟨h.trans k, keep_blk k h0, keep_blk k h1, HasRow.keep k h2, keep_own k h3⟩
    have hrS : (fun W : World => Upd [q, g] w W ∧ Blk W w.heap.size 38 #[.int .i64 p.se, .int .i64 p.ep, .int .i64 p.sq, .int .i64 p.ak, .bool p.ha, .int .i64 p.m.ki, .int .i64 p.m.a, .int .i64 p.m.b, .int .i64 p.m.c] ∧ Blk W bR 36 #[.int .i64 0, .int .i64 0, .int .i64 0, .int .i64 0] ∧ HasRow W q 88 27 ∧ (W).ownsRow lo 36 4 (.slice (some ⟨g, 0, none⟩) ls.length c) ls.length (rowsOf msgC ls)) w1.drew := ⟨HSU.out, HBPd1.out, HBRd1.out, HasRow.of HBQd1.out rfl, HFrd1.out⟩
    have HRK := Lib.hid hrK
    have HRD := Lib.hid (show (fun W : World => Upd [q, g] w W ∧ Blk W w.heap.size 38 #[.int .i64 p.se, .int .i64 p.ep, .int .i64 p.sq, .int .i64 p.ak, .bool p.ha, .int .i64 p.m.ki, .int .i64 p.m.a, .int .i64 p.m.b, .int .i64 p.m.c] ∧ Blk W bR 36 #[.int .i64 0, .int .i64 0, .int .i64 0, .int .i64 0] ∧ HasRow W q 88 27 ∧ (W).ownsRow lo 36 4 (.slice (some ⟨g, 0, none⟩) ls.length c) ls.length (rowsOf msgC ls)) (World.drew w1.drew) from hrK _ _ ((Since.refl w1.drew).drew) hrS)
    clear hrK hrS
    have HPQ := Lib.hid (show Blk (World.drew w1.drew) q 88 #[.int .i64 k.c.ca, .int .i64 k.c.fl, .int .i64 k.c.ft, .int .i64 k.c.se, .int .i64 k.c.dr, .int .i64 k.c.dw, .int .i64 k.c.ho, .int .i64 k.c.re, .int .i64 k.c.yi, .int .i64 k.c.qu, .int .i64 k.c.qo, .int .i64 k.c.lo, .int .i64 k.c.sl, .int .i64 k.c.rt, .int .i64 k.c.cp, .int .i64 k.c.tr, .int .i64 k.c.de, .int .i64 k.c.wi, .int .i64 k.se, .int .i64 k.ep, .slice (some ⟨g, 0, none⟩) ls.length c, .int .i64 k.sq, .int .i64 k.st, .int .i64 k.du, .int .i64 k.ak, .bool k.an, .int .i64 k.he] from HBQd1.out)
    refine wp_region_held_drew (S := fun W : World => Upd [q, g] w W ∧ Blk W w.heap.size 38 #[.int .i64 p.se, .int .i64 p.ep, .int .i64 p.sq, .int .i64 p.ak, .bool p.ha, .int .i64 p.m.ki, .int .i64 p.m.a, .int .i64 p.m.b, .int .i64 p.m.c] ∧ Blk W bR 36 #[.int .i64 0, .int .i64 0, .int .i64 0, .int .i64 0] ∧ HasRow W q 88 27 ∧ (W).ownsRow lo 36 4 (.slice (some ⟨g, 0, none⟩) ls.length c) ls.length (rowsOf msgC ls)) (by kernel_rfl) HRD.out (fun hHeld => ?_)
    refine wpAnyH_take (i := 0) (oi := ?o3__0) (v := .pointer (some ⟨q, 0, none⟩)) ?h3__0 (by kernel_rfl) (by kernel_rfl) (by kernel_rfl) ?q3__0 ?y3__0 (by assumption) ?_
    case h3__0 => (first | (simp only [gA, gB, gC]; done) | (simp only [gA, gB, gC]; exact rfl))
    case q3__0 => exact fun _ _ _ h => h
    case y3__0 => (refine Or.inl ⟨rfl, ?_⟩; intro w hSw; (first | rfl | (go_simp; (try with_reducible rfl))))
    (try simp only [Act.put, sA, sB, sC])
    refine wpAnyH_take (i := 1) (oi := ?o3__1) (v := .pointer (some ⟨q, 0, none⟩)) ?h3__1 (by kernel_rfl) (by kernel_rfl) (by kernel_rfl) ?q3__1 ?y3__1 (by assumption) ?_
    case h3__1 => (first | (simp only [gA, gB, gC]; done) | (simp only [gA, gB, gC]; exact rfl))
    case q3__1 => exact fun _ _ _ h => h
    case y3__1 => (refine Or.inl ⟨rfl, ?_⟩; intro w hSw; (first | rfl | (go_simp; (try with_reducible rfl))))
    (try simp only [Act.put, sA, sB, sC])
    refine wpAnyH_take (i := 2) (oi := ?o3__2) (v := .pointer (some ⟨q, 0, none⟩)) ?h3__2 (by kernel_rfl) (by kernel_rfl) (by kernel_rfl) ?q3__2 ?y3__2 (by assumption) ?_
    case h3__2 => (first | (simp only [gA, gB, gC]; done) | (simp only [gA, gB, gC]; exact rfl))
    case q3__2 => exact fun _ _ _ h => h
    case y3__2 => (refine Or.inl ⟨rfl, ?_⟩; intro w hSw; (first | rfl | (go_simp; (try with_reducible rfl))))
    (try simp only [Act.put, sA, sB, sC])
    refine wpAnyH_take (i := 3) (oi := ?o3__3) (v := .pointer (some ⟨q, 26, none⟩)) ?h3__3 (by kernel_rfl) (by kernel_rfl) (by kernel_rfl) ?q3__3 ?y3__3 (by assumption) ?_
    case h3__3 => (first | (simp only [gA, gB, gC]; done) | (simp only [gA, gB, gC]; exact rfl))
    case q3__3 => exact fun _ _ _ h => h
    case y3__3 => (refine Or.inl ⟨rfl, ?_⟩; intro w hSw; (first | rfl | (go_simp; (try with_reducible rfl))))
    (try simp only [Act.put, sA, sB, sC])
    refine wpAnyH_take (i := 5) (oi := ?o3__5) (v := .int .i64 now) ?h3__5 (by kernel_rfl) (by kernel_rfl) (by kernel_rfl) ?q3__5 ?y3__5 (by assumption) ?_
    case h3__5 => (first | (simp only [gA, gB, gC]; done) | (simp only [gA, gB, gC]; exact rfl))
    case q3__5 => exact fun _ _ _ h => h
    case y3__5 => (refine Or.inl ⟨rfl, ?_⟩; intro w hSw; (first | rfl | (go_simp; (try with_reducible rfl))))
    (try simp only [Act.put, sA, sB, sC])
    refine wpAnyH_ready (rs := [4, 6]) (by kernel_rfl) (by simp) ?_
    refine AllReadyH.cons (o := ?o3__4b) ?h3__4b (fun K hK => ?g3__4b) (AllReadyH.cons (o := ?o3__6b) ?h3__6b (fun K hK => ?g3__6b) AllReadyH.nil)
    case h3__4b => (first | (simp only [gA, gB, gC]; done) | (simp only [gA, gB, gC]; exact rfl))
    case h3__6b => (first | (simp only [gA, gB, gC]; done) | (simp only [gA, gB, gC]; exact rfl))
    case g3__4b =>
      rw [if_pos (by rfl)]
      refine wp_q (.int .i64 k.he) ?e3_b4_4 ?_
      case e3_b4_4 => exact exec_cell 3 _ _ HPQ.out rfl rfl rfl Try.underlying3 rfl
      refine hK.out _ _ hHeld (fun hHeld2 => ?_)
      clear hK K hHeld2
      (try simp only [Act.put, sA, sB, sC])
      refine wpAnyH_ready (rs := [6]) (by kernel_rfl) (by simp) ?_
      refine AllReadyH.cons (o := ?o3_b4_6) ?h3_b4_6 (fun K hK => ?_) AllReadyH.nil
      case h3_b4_6 => (first | (simp only [gA, gB, gC]; done) | (simp only [gA, gB, gC]; exact rfl))
      (try go_simp)
      refine (clT _ _).mono ?_
      rintro e w' ⟨rfl, rfl⟩
      (try go_wp2_with fail)
      refine hK.out _ _ hHeld (fun hHeld2 => ?_)
      clear hK K hHeld2
      (try simp only [Act.put, sA, sB, sC])
      refine wpAnyH_take (i := 7) (oi := ?o3_b4_7) (v := .int .i64 (mx2 k.he (cl now))) ?h3_b4_7 (by kernel_rfl) (by kernel_rfl) (by kernel_rfl) ?q3_b4_7 ?y3_b4_7 (by assumption) ?_
      case h3_b4_7 => (first | (simp only [gA, gB, gC]; done) | (simp only [gA, gB, gC]; exact rfl))
      case q3_b4_7 => exact fun _ _ _ h => h
      case y3_b4_7 => (refine Or.inl ⟨rfl, ?_⟩; intro w hSw; (unfold mx2; go_simp; (first | done | rfl)))
      (try simp only [Act.put, sA, sB, sC])
      refine wpAnyH_take (i := 8) (oi := ?o3_b4_8) (v := .pointer (some ⟨q, 0, none⟩)) ?h3_b4_8 (by kernel_rfl) (by kernel_rfl) (by kernel_rfl) ?q3_b4_8 ?y3_b4_8 (by assumption) ?_
      case h3_b4_8 => (first | (simp only [gA, gB, gC]; done) | (simp only [gA, gB, gC]; exact rfl))
      case q3_b4_8 => exact fun _ _ _ h => h
      case y3_b4_8 => (refine Or.inl ⟨rfl, ?_⟩; intro w hSw; (first | rfl | (go_simp; (try with_reducible rfl))))
      (try simp only [Act.put, sA, sB, sC])
      refine wpAnyH_take (i := 9) (oi := ?o3_b4_9) (v := .pointer (some ⟨q, 26, none⟩)) ?h3_b4_9 (by kernel_rfl) (by kernel_rfl) (by kernel_rfl) ?q3_b4_9 ?y3_b4_9 (by assumption) ?_
      case h3_b4_9 => (first | (simp only [gA, gB, gC]; done) | (simp only [gA, gB, gC]; exact rfl))
      case q3_b4_9 => exact fun _ _ _ h => h
      case y3_b4_9 => (refine Or.inl ⟨rfl, ?_⟩; intro w hSw; (first | rfl | (go_simp; (try with_reducible rfl))))
      (try simp only [Act.put, sA, sB, sC])
      refine wpAnyH_ready (rs := [10]) (by kernel_rfl) (by simp) ?_
      refine AllReadyH.cons (o := ?o3_b4_10) ?h3_b4_10 (fun K hK => ?_) AllReadyH.nil
      case h3_b4_10 => (first | (simp only [gA, gB, gC]; done) | (simp only [gA, gB, gC]; exact rfl))
      rw [if_pos (by rfl)]
      refine wp_st_cell 3 _ _ rfl #[.int .i64 k.c.ca, .int .i64 k.c.fl, .int .i64 k.c.ft, .int .i64 k.c.se, .int .i64 k.c.dr, .int .i64 k.c.dw, .int .i64 k.c.ho, .int .i64 k.c.re, .int .i64 k.c.yi, .int .i64 k.c.qu, .int .i64 k.c.qo, .int .i64 k.c.lo, .int .i64 k.c.sl, .int .i64 k.c.rt, .int .i64 k.c.cp, .int .i64 k.c.tr, .int .i64 k.c.de, .int .i64 k.c.wi, .int .i64 k.se, .int .i64 k.ep, .slice (some ⟨g, 0, none⟩) ls.length c, .int .i64 k.sq, .int .i64 k.st, .int .i64 k.du, .int .i64 k.ak, .bool k.an, .int .i64 (mx2 k.he (cl now))] (.int .i64 (mx2 k.he (cl now))) rfl rfl HPQ.out (by show 26 < 27; decide) rfl (by first | rfl | simp [Value.oneCell']) (by kernel_rfl) ?_
      clear HPQ
      intro w2 hw
      have HRQ := Lib.hid (show Blk w2 q 88 #[.int .i64 k.c.ca, .int .i64 k.c.fl, .int .i64 k.c.ft, .int .i64 k.c.se, .int .i64 k.c.dr, .int .i64 k.c.dw, .int .i64 k.c.ho, .int .i64 k.c.re, .int .i64 k.c.yi, .int .i64 k.c.qu, .int .i64 k.c.qo, .int .i64 k.c.lo, .int .i64 k.c.sl, .int .i64 k.c.rt, .int .i64 k.c.cp, .int .i64 k.c.tr, .int .i64 k.c.de, .int .i64 k.c.wi, .int .i64 k.se, .int .i64 k.ep, .slice (some ⟨g, 0, none⟩) ls.length c, .int .i64 k.sq, .int .i64 k.st, .int .i64 k.du, .int .i64 k.ak, .bool k.an, .int .i64 (mx2 k.he (cl now))] by obtain ⟨old, Bo, _⟩ := hHeld.2.2.2.1; rw [hw]; exact Blk.row Bo _)
      have hHeld3 : (fun W : World => Upd [q, g] w W ∧ Blk W w.heap.size 38 #[.int .i64 p.se, .int .i64 p.ep, .int .i64 p.sq, .int .i64 p.ak, .bool p.ha, .int .i64 p.m.ki, .int .i64 p.m.a, .int .i64 p.m.b, .int .i64 p.m.c] ∧ Blk W bR 36 #[.int .i64 0, .int .i64 0, .int .i64 0, .int .i64 0] ∧ HasRow W q 88 27 ∧ (W).ownsRow lo 36 4 (.slice (some ⟨g, 0, none⟩) ls.length c) ls.length (rowsOf msgC ls)) w2 := ⟨by rw [hw]; exact Upd.setRow hHeld.1 (.inl (by simp)) _, by rw [hw]; exact Blk.row_far (hHeld.2.1) (Ne.symm HNP.out) _, by rw [hw]; exact Blk.row_far (hHeld.2.2.1) (Ne.symm HNR.out) _, HasRow.of HRQ.out rfl, by rw [hw]; exact own_row_far (hHeld.2.2.2.2) HIQ.out _⟩
      refine hK.out _ _ hHeld3 (fun hHeld2 => ?_)
      clear hK K hHeld hHeld3 hw
      have hHeld := hHeld2
      clear hHeld2
      (try simp only [Act.put, sA, sB, sC])
      refine wpAnyH_done (by kernel_rfl) ?_ _
      have HSd3 := Lib.hid hHeld.1
      have HBPd3 := Lib.hid (hHeld.2.1)
      have HBRd3 := Lib.hid (hHeld.2.2.1)
      have HBQd3 := Lib.hid HRQ.out
      clear HRQ
      have HFrd3 := Lib.hid (hHeld.2.2.2.2)
      clear hHeld HRK HRD HSU HBPd1 HBRd1 HBQd1 HFrd1
      go_wp2_with fail
      go_meet
      case rel => exact Lib.hid ⟨HSd3.out, HBPd3.out, HBRd3.out, HBQd3.out, HFrd3.out⟩
    case g3__6b =>
      (try go_simp)
      refine (clT _ _).mono ?_
      rintro e w' ⟨rfl, rfl⟩
      (try go_wp2_with fail)
      refine hK.out _ _ hHeld (fun hHeld2 => ?_)
      clear hK K hHeld2
      (try simp only [Act.put, sA, sB, sC])
      refine wpAnyH_ready (rs := [4]) (by kernel_rfl) (by simp) ?_
      refine AllReadyH.cons (o := ?o3_b6_4) ?h3_b6_4 (fun K hK => ?_) AllReadyH.nil
      case h3_b6_4 => (first | (simp only [gA, gB, gC]; done) | (simp only [gA, gB, gC]; exact rfl))
      rw [if_pos (by rfl)]
      refine wp_q (.int .i64 k.he) ?e3_b6_4 ?_
      case e3_b6_4 => exact exec_cell 3 _ _ HPQ.out rfl rfl rfl Try.underlying3 rfl
      refine hK.out _ _ hHeld (fun hHeld2 => ?_)
      clear hK K hHeld2
      (try simp only [Act.put, sA, sB, sC])
      refine wpAnyH_take (i := 7) (oi := ?o3_b6_7) (v := .int .i64 (mx2 k.he (cl now))) ?h3_b6_7 (by kernel_rfl) (by kernel_rfl) (by kernel_rfl) ?q3_b6_7 ?y3_b6_7 (by assumption) ?_
      case h3_b6_7 => (first | (simp only [gA, gB, gC]; done) | (simp only [gA, gB, gC]; exact rfl))
      case q3_b6_7 => exact fun _ _ _ h => h
      case y3_b6_7 => (refine Or.inl ⟨rfl, ?_⟩; intro w hSw; (unfold mx2; go_simp; (first | done | rfl)))
      (try simp only [Act.put, sA, sB, sC])
      refine wpAnyH_take (i := 8) (oi := ?o3_b6_8) (v := .pointer (some ⟨q, 0, none⟩)) ?h3_b6_8 (by kernel_rfl) (by kernel_rfl) (by kernel_rfl) ?q3_b6_8 ?y3_b6_8 (by assumption) ?_
      case h3_b6_8 => (first | (simp only [gA, gB, gC]; done) | (simp only [gA, gB, gC]; exact rfl))
      case q3_b6_8 => exact fun _ _ _ h => h
      case y3_b6_8 => (refine Or.inl ⟨rfl, ?_⟩; intro w hSw; (first | rfl | (go_simp; (try with_reducible rfl))))
      (try simp only [Act.put, sA, sB, sC])
      refine wpAnyH_take (i := 9) (oi := ?o3_b6_9) (v := .pointer (some ⟨q, 26, none⟩)) ?h3_b6_9 (by kernel_rfl) (by kernel_rfl) (by kernel_rfl) ?q3_b6_9 ?y3_b6_9 (by assumption) ?_
      case h3_b6_9 => (first | (simp only [gA, gB, gC]; done) | (simp only [gA, gB, gC]; exact rfl))
      case q3_b6_9 => exact fun _ _ _ h => h
      case y3_b6_9 => (refine Or.inl ⟨rfl, ?_⟩; intro w hSw; (first | rfl | (go_simp; (try with_reducible rfl))))
      (try simp only [Act.put, sA, sB, sC])
      refine wpAnyH_ready (rs := [10]) (by kernel_rfl) (by simp) ?_
      refine AllReadyH.cons (o := ?o3_b6_10) ?h3_b6_10 (fun K hK => ?_) AllReadyH.nil
      case h3_b6_10 => (first | (simp only [gA, gB, gC]; done) | (simp only [gA, gB, gC]; exact rfl))
      rw [if_pos (by rfl)]
      refine wp_st_cell 3 _ _ rfl #[.int .i64 k.c.ca, .int .i64 k.c.fl, .int .i64 k.c.ft, .int .i64 k.c.se, .int .i64 k.c.dr, .int .i64 k.c.dw, .int .i64 k.c.ho, .int .i64 k.c.re, .int .i64 k.c.yi, .int .i64 k.c.qu, .int .i64 k.c.qo, .int .i64 k.c.lo, .int .i64 k.c.sl, .int .i64 k.c.rt, .int .i64 k.c.cp, .int .i64 k.c.tr, .int .i64 k.c.de, .int .i64 k.c.wi, .int .i64 k.se, .int .i64 k.ep, .slice (some ⟨g, 0, none⟩) ls.length c, .int .i64 k.sq, .int .i64 k.st, .int .i64 k.du, .int .i64 k.ak, .bool k.an, .int .i64 (mx2 k.he (cl now))] (.int .i64 (mx2 k.he (cl now))) rfl rfl HPQ.out (by show 26 < 27; decide) rfl (by first | rfl | simp [Value.oneCell']) (by kernel_rfl) ?_
      clear HPQ
      intro w2 hw
      have HRQ := Lib.hid (show Blk w2 q 88 #[.int .i64 k.c.ca, .int .i64 k.c.fl, .int .i64 k.c.ft, .int .i64 k.c.se, .int .i64 k.c.dr, .int .i64 k.c.dw, .int .i64 k.c.ho, .int .i64 k.c.re, .int .i64 k.c.yi, .int .i64 k.c.qu, .int .i64 k.c.qo, .int .i64 k.c.lo, .int .i64 k.c.sl, .int .i64 k.c.rt, .int .i64 k.c.cp, .int .i64 k.c.tr, .int .i64 k.c.de, .int .i64 k.c.wi, .int .i64 k.se, .int .i64 k.ep, .slice (some ⟨g, 0, none⟩) ls.length c, .int .i64 k.sq, .int .i64 k.st, .int .i64 k.du, .int .i64 k.ak, .bool k.an, .int .i64 (mx2 k.he (cl now))] by obtain ⟨old, Bo, _⟩ := hHeld.2.2.2.1; rw [hw]; exact Blk.row Bo _)
      have hHeld3 : (fun W : World => Upd [q, g] w W ∧ Blk W w.heap.size 38 #[.int .i64 p.se, .int .i64 p.ep, .int .i64 p.sq, .int .i64 p.ak, .bool p.ha, .int .i64 p.m.ki, .int .i64 p.m.a, .int .i64 p.m.b, .int .i64 p.m.c] ∧ Blk W bR 36 #[.int .i64 0, .int .i64 0, .int .i64 0, .int .i64 0] ∧ HasRow W q 88 27 ∧ (W).ownsRow lo 36 4 (.slice (some ⟨g, 0, none⟩) ls.length c) ls.length (rowsOf msgC ls)) w2 := ⟨by rw [hw]; exact Upd.setRow hHeld.1 (.inl (by simp)) _, by rw [hw]; exact Blk.row_far (hHeld.2.1) (Ne.symm HNP.out) _, by rw [hw]; exact Blk.row_far (hHeld.2.2.1) (Ne.symm HNR.out) _, HasRow.of HRQ.out rfl, by rw [hw]; exact own_row_far (hHeld.2.2.2.2) HIQ.out _⟩
      refine hK.out _ _ hHeld3 (fun hHeld2 => ?_)
      clear hK K hHeld hHeld3 hw
      have hHeld := hHeld2
      clear hHeld2
      (try simp only [Act.put, sA, sB, sC])
      refine wpAnyH_done (by kernel_rfl) ?_ _
      have HSd3v2 := Lib.hid hHeld.1
      have HBPd3v2 := Lib.hid (hHeld.2.1)
      have HBRd3v2 := Lib.hid (hHeld.2.2.1)
      have HBQd3v2 := Lib.hid HRQ.out
      clear HRQ
      have HFrd3v2 := Lib.hid (hHeld.2.2.2.2)
      clear hHeld HRK HRD HSU HBPd1 HBRd1 HBQd1 HFrd1
      go_wp2_with fail
      go_meet
      case rel => exact Lib.hid ⟨HSd3v2.out, HBPd3v2.out, HBRd3v2.out, HBQd3v2.out, HFrd3v2.out⟩
  case rest =>
    clear HSU HBPd1 HBRd1 HBQd1 HFrd1
    obtain ⟨g0, g1, g2, g3, g4⟩ := hcut.out
    clear hcut
    have HS51 := Lib.hid g0
    have HBP51 := Lib.hid g1
    have HBR51 := Lib.hid g2
    have HBQ51 := Lib.hid g3
    have HFr51 := Lib.hid g4
    clear g0 g1 g2 g3 g4
    go_upto_region 4 with fail
    have hrK : ∀ W W' : World, Since W W' → (Upd [q, g] w W ∧ Blk W w.heap.size 38 #[.int .i64 p.se, .int .i64 p.ep, .int .i64 p.sq, .int .i64 p.ak, .bool p.ha, .int .i64 p.m.ki, .int .i64 p.m.a, .int .i64 p.m.b, .int .i64 p.m.c] ∧ Blk W bR 36 #[.int .i64 0, .int .i64 0, .int .i64 0, .int .i64 0] ∧ Blk W q 88 #[.int .i64 k.c.ca, .int .i64 k.c.fl, .int .i64 k.c.ft, .int .i64 k.c.se, .int .i64 k.c.dr, .int .i64 k.c.dw, .int .i64 k.c.ho, .int .i64 k.c.re, .int .i64 k.c.yi, .int .i64 k.c.qu, .int .i64 k.c.qo, .int .i64 k.c.lo, .int .i64 k.c.sl, .int .i64 k.c.rt, .int .i64 k.c.cp, .int .i64 k.c.tr, .int .i64 k.c.de, .int .i64 k.c.wi, .int .i64 k.se, .int .i64 k.ep, .slice (some ⟨g, 0, none⟩) ls.length c, .int .i64 k.sq, .int .i64 k.st, .int .i64 k.du, .int .i64 k.ak, .bool k.an, .int .i64 (mx2 k.he (cl now))] ∧ (W).ownsRow lo 36 4 (.slice (some ⟨g, 0, none⟩) ls.length c) ls.length (rowsOf msgC ls)) → (Upd [q, g] w W' ∧ Blk W' w.heap.size 38 #[.int .i64 p.se, .int .i64 p.ep, .int .i64 p.sq, .int .i64 p.ak, .bool p.ha, .int .i64 p.m.ki, .int .i64 p.m.a, .int .i64 p.m.b, .int .i64 p.m.c] ∧ Blk W' bR 36 #[.int .i64 0, .int .i64 0, .int .i64 0, .int .i64 0] ∧ Blk W' q 88 #[.int .i64 k.c.ca, .int .i64 k.c.fl, .int .i64 k.c.ft, .int .i64 k.c.se, .int .i64 k.c.dr, .int .i64 k.c.dw, .int .i64 k.c.ho, .int .i64 k.c.re, .int .i64 k.c.yi, .int .i64 k.c.qu, .int .i64 k.c.qo, .int .i64 k.c.lo, .int .i64 k.c.sl, .int .i64 k.c.rt, .int .i64 k.c.cp, .int .i64 k.c.tr, .int .i64 k.c.de, .int .i64 k.c.wi, .int .i64 k.se, .int .i64 k.ep, .slice (some ⟨g, 0, none⟩) ls.length c, .int .i64 k.sq, .int .i64 k.st, .int .i64 k.du, .int .i64 k.ak, .bool k.an, .int .i64 (mx2 k.he (cl now))] ∧ (W').ownsRow lo 36 4 (.slice (some ⟨g, 0, none⟩) ls.length c) ls.length (rowsOf msgC ls)) := fun W W' k ⟨h, h0, h1, h2, h3⟩ => ⟨h.trans k, keep_blk k h0, keep_blk k h1, keep_blk k h2, keep_own k h3⟩
    have hrS : (fun W : World => Upd [q, g] w W ∧ Blk W w.heap.size 38 #[.int .i64 p.se, .int .i64 p.ep, .int .i64 p.sq, .int .i64 p.ak, .bool p.ha, .int .i64 p.m.ki, .int .i64 p.m.a, .int .i64 p.m.b, .int .i64 p.m.c] ∧ Blk W bR 36 #[.int .i64 0, .int .i64 0, .int .i64 0, .int .i64 0] ∧ Blk W q 88 #[.int .i64 k.c.ca, .int .i64 k.c.fl, .int .i64 k.c.ft, .int .i64 k.c.se, .int .i64 k.c.dr, .int .i64 k.c.dw, .int .i64 k.c.ho, .int .i64 k.c.re, .int .i64 k.c.yi, .int .i64 k.c.qu, .int .i64 k.c.qo, .int .i64 k.c.lo, .int .i64 k.c.sl, .int .i64 k.c.rt, .int .i64 k.c.cp, .int .i64 k.c.tr, .int .i64 k.c.de, .int .i64 k.c.wi, .int .i64 k.se, .int .i64 k.ep, .slice (some ⟨g, 0, none⟩) ls.length c, .int .i64 k.sq, .int .i64 k.st, .int .i64 k.du, .int .i64 k.ak, .bool k.an, .int .i64 (mx2 k.he (cl now))] ∧ (W).ownsRow lo 36 4 (.slice (some ⟨g, 0, none⟩) ls.length c) ls.length (rowsOf msgC ls)) wc := ⟨HS51.out, HBP51.out, HBR51.out, HBQ51.out, HFr51.out⟩
    have HRK := Lib.hid hrK
    have HRD := Lib.hid (show (fun W : World => Upd [q, g] w W ∧ Blk W w.heap.size 38 #[.int .i64 p.se, .int .i64 p.ep, .int .i64 p.sq, .int .i64 p.ak, .bool p.ha, .int .i64 p.m.ki, .int .i64 p.m.a, .int .i64 p.m.b, .int .i64 p.m.c] ∧ Blk W bR 36 #[.int .i64 0, .int .i64 0, .int .i64 0, .int .i64 0] ∧ Blk W q 88 #[.int .i64 k.c.ca, .int .i64 k.c.fl, .int .i64 k.c.ft, .int .i64 k.c.se, .int .i64 k.c.dr, .int .i64 k.c.dw, .int .i64 k.c.ho, .int .i64 k.c.re, .int .i64 k.c.yi, .int .i64 k.c.qu, .int .i64 k.c.qo, .int .i64 k.c.lo, .int .i64 k.c.sl, .int .i64 k.c.rt, .int .i64 k.c.cp, .int .i64 k.c.tr, .int .i64 k.c.de, .int .i64 k.c.wi, .int .i64 k.se, .int .i64 k.ep, .slice (some ⟨g, 0, none⟩) ls.length c, .int .i64 k.sq, .int .i64 k.st, .int .i64 k.du, .int .i64 k.ak, .bool k.an, .int .i64 (mx2 k.he (cl now))] ∧ (W).ownsRow lo 36 4 (.slice (some ⟨g, 0, none⟩) ls.length c) ls.length (rowsOf msgC ls)) (World.drew wc) from hrK _ _ ((Since.refl wc).drew) hrS)
    clear hrK hrS
    refine wp_region_held_drew (S := fun W : World => Upd [q, g] w W ∧ Blk W w.heap.size 38 #[.int .i64 p.se, .int .i64 p.ep, .int .i64 p.sq, .int .i64 p.ak, .bool p.ha, .int .i64 p.m.ki, .int .i64 p.m.a, .int .i64 p.m.b, .int .i64 p.m.c] ∧ Blk W bR 36 #[.int .i64 0, .int .i64 0, .int .i64 0, .int .i64 0] ∧ Blk W q 88 #[.int .i64 k.c.ca, .int .i64 k.c.fl, .int .i64 k.c.ft, .int .i64 k.c.se, .int .i64 k.c.dr, .int .i64 k.c.dw, .int .i64 k.c.ho, .int .i64 k.c.re, .int .i64 k.c.yi, .int .i64 k.c.qu, .int .i64 k.c.qo, .int .i64 k.c.lo, .int .i64 k.c.sl, .int .i64 k.c.rt, .int .i64 k.c.cp, .int .i64 k.c.tr, .int .i64 k.c.de, .int .i64 k.c.wi, .int .i64 k.se, .int .i64 k.ep, .slice (some ⟨g, 0, none⟩) ls.length c, .int .i64 k.sq, .int .i64 k.st, .int .i64 k.du, .int .i64 k.ak, .bool k.an, .int .i64 (mx2 k.he (cl now))] ∧ (W).ownsRow lo 36 4 (.slice (some ⟨g, 0, none⟩) ls.length c) ls.length (rowsOf msgC ls)) (by kernel_rfl) HRD.out (fun hHeld => ?_)
    refine wpAnyH_take (i := 0) (oi := ?o4__0) (v := .pointer (some ⟨q, 0, none⟩)) ?h4__0 (by kernel_rfl) (by kernel_rfl) (by kernel_rfl) ?q4__0 ?y4__0 (by assumption) ?_
    case h4__0 => (first | (simp only [gA, gB, gC]; done) | (simp only [gA, gB, gC]; exact rfl))
    case q4__0 => exact fun _ _ _ h => h
    case y4__0 => (refine Or.inl ⟨rfl, ?_⟩; intro w hSw; (first | rfl | (go_simp; (try with_reducible rfl))))
    (try simp only [Act.put, sA, sB, sC])
    refine wpAnyH_take (i := 1) (oi := ?o4__1) (v := .pointer (some ⟨q, 0, none⟩)) ?h4__1 (by kernel_rfl) (by kernel_rfl) (by kernel_rfl) ?q4__1 ?y4__1 (by assumption) ?_
    case h4__1 => (first | (simp only [gA, gB, gC]; done) | (simp only [gA, gB, gC]; exact rfl))
    case q4__1 => exact fun _ _ _ h => h
    case y4__1 => (refine Or.inl ⟨rfl, ?_⟩; intro w hSw; (first | rfl | (go_simp; (try with_reducible rfl))))
    (try simp only [Act.put, sA, sB, sC])
    refine wpAnyH_take (i := 2) (oi := ?o4__2) (v := .pointer (some ⟨q, 20, none⟩)) ?h4__2 (by kernel_rfl) (by kernel_rfl) (by kernel_rfl) ?q4__2 ?y4__2 (by assumption) ?_
    case h4__2 => (first | (simp only [gA, gB, gC]; done) | (simp only [gA, gB, gC]; exact rfl))
    case q4__2 => exact fun _ _ _ h => h
    case y4__2 => (refine Or.inl ⟨rfl, ?_⟩; intro w hSw; (first | rfl | (go_simp; (try with_reducible rfl))))
    (try simp only [Act.put, sA, sB, sC])
    refine wpAnyH_take (i := 3) (oi := ?o4__3) (v := .slice (some ⟨g, 0, none⟩) ls.length c) ?h4__3 (by kernel_rfl) (by kernel_rfl) (by kernel_rfl) ?q4__3 ?y4__3 (by assumption) ?_
    case h4__3 => (first | (simp only [gA, gB, gC]; done) | (simp only [gA, gB, gC]; exact rfl))
    case q4__3 => exact fun _ _ _ h => h
    case y4__3 => (refine Or.inl ⟨rfl, ?_⟩; intro w hSw; exact exec_cell 86 _ _ hSw.2.2.2.1 rfl rfl rfl Try.underlying86 rfl)
    (try simp only [Act.put, sA, sB, sC])
    refine wpAnyH_take (i := 4) (oi := ?o4__4) (v := .int .i64 (ls.length : Int)) ?h4__4 (by kernel_rfl) (by kernel_rfl) (by kernel_rfl) ?q4__4 ?y4__4 (by assumption) ?_
    case h4__4 => (first | (simp only [gA, gB, gC]; done) | (simp only [gA, gB, gC]; exact rfl))
    case q4__4 => exact fun _ _ _ h => h
    case y4__4 => (refine Or.inl ⟨rfl, ?_⟩; intro w hSw; (first | rfl | (go_simp; (try with_reducible rfl))))
    (try simp only [Act.put, sA, sB, sC])
    refine wpAnyH_take (i := 5) (oi := ?o4__5) (v := .bool true) ?h4__5 (by kernel_rfl) (by kernel_rfl) (by kernel_rfl) ?q4__5 ?y4__5 (by assumption) ?_
    case h4__5 => (first | (simp only [gA, gB, gC]; done) | (simp only [gA, gB, gC]; exact rfl))
    case q4__5 => exact fun _ _ _ h => h
    case y4__5 => (refine Or.inl ⟨rfl, ?_⟩; intro w hSw; (have q0 := H3.out; go_simp; (first | done | rfl | omega)))
    (try simp only [Act.put, sA, sB, sC])
    refine wpAnyH_take (i := 6) (oi := ?o4__6) (v := .bool true) ?h4__6 (by kernel_rfl) (by kernel_rfl) (by kernel_rfl) ?q4__6 ?y4__6 (by assumption) ?_
    case h4__6 => (first | (simp only [gA, gB, gC]; done) | (simp only [gA, gB, gC]; exact rfl))
    case q4__6 => exact fun _ _ _ h => h
    case y4__6 => (refine Or.inl ⟨rfl, ?_⟩; intro w hSw; (first | rfl | (go_simp; (try with_reducible rfl))))
    (try simp only [Act.put, sA, sB, sC])
    refine wpAnyH_take (i := 7) (oi := ?o4__7) (v := .pointer (some ⟨w.heap.size, 3, none⟩)) ?h4__7 (by kernel_rfl) (by kernel_rfl) (by kernel_rfl) ?q4__7 ?y4__7 (by assumption) ?_
    case h4__7 => (first | (simp only [gA, gB, gC]; done) | (simp only [gA, gB, gC]; exact rfl))
    case q4__7 => exact fun _ _ _ h => h
    case y4__7 => (refine Or.inl ⟨rfl, ?_⟩; intro w hSw; (first | rfl | (go_simp; (try with_reducible rfl))))
    (try simp only [Act.put, sA, sB, sC])
    refine wpAnyH_take (i := 8) (oi := ?o4__8) (v := .int .i64 p.ak) ?h4__8 (by kernel_rfl) (by kernel_rfl) (by kernel_rfl) ?q4__8 ?y4__8 (by assumption) ?_
    case h4__8 => (first | (simp only [gA, gB, gC]; done) | (simp only [gA, gB, gC]; exact rfl))
    case q4__8 => exact fun _ _ _ h => h
    case y4__8 => (refine Or.inl ⟨rfl, ?_⟩; intro w hSw; exact exec_cell 3 _ _ hSw.2.1 rfl rfl rfl Try.underlying3 rfl)
    (try simp only [Act.put, sA, sB, sC])
    refine wpAnyH_take (i := 9) (oi := ?o4__9) (v := .pointer (some ⟨q, 0, none⟩)) ?h4__9 (by kernel_rfl) (by kernel_rfl) (by kernel_rfl) ?q4__9 ?y4__9 (by assumption) ?_
    case h4__9 => (first | (simp only [gA, gB, gC]; done) | (simp only [gA, gB, gC]; exact rfl))
    case q4__9 => exact fun _ _ _ h => h
    case y4__9 => (refine Or.inl ⟨rfl, ?_⟩; intro w hSw; (first | rfl | (go_simp; (try with_reducible rfl))))
    (try simp only [Act.put, sA, sB, sC])
    refine wpAnyH_take (i := 10) (oi := ?o4__10) (v := .pointer (some ⟨q, 0, none⟩)) ?h4__10 (by kernel_rfl) (by kernel_rfl) (by kernel_rfl) ?q4__10 ?y4__10 (by assumption) ?_
    case h4__10 => (first | (simp only [gA, gB, gC]; done) | (simp only [gA, gB, gC]; exact rfl))
    case q4__10 => exact fun _ _ _ h => h
    case y4__10 => (refine Or.inl ⟨rfl, ?_⟩; intro w hSw; (first | rfl | (go_simp; (try with_reducible rfl))))
    (try simp only [Act.put, sA, sB, sC])
    refine wpAnyH_take (i := 11) (oi := ?o4__11) (v := .pointer (some ⟨q, 21, none⟩)) ?h4__11 (by kernel_rfl) (by kernel_rfl) (by kernel_rfl) ?q4__11 ?y4__11 (by assumption) ?_
    case h4__11 => (first | (simp only [gA, gB, gC]; done) | (simp only [gA, gB, gC]; exact rfl))
    case q4__11 => exact fun _ _ _ h => h
    case y4__11 => (refine Or.inl ⟨rfl, ?_⟩; intro w hSw; (first | rfl | (go_simp; (try with_reducible rfl))))
    (try simp only [Act.put, sA, sB, sC])
    refine wpAnyH_take (i := 12) (oi := ?o4__12) (v := .int .i64 k.sq) ?h4__12 (by kernel_rfl) (by kernel_rfl) (by kernel_rfl) ?q4__12 ?y4__12 (by assumption) ?_
    case h4__12 => (first | (simp only [gA, gB, gC]; done) | (simp only [gA, gB, gC]; exact rfl))
    case q4__12 => exact fun _ _ _ h => h
    case y4__12 => (refine Or.inl ⟨rfl, ?_⟩; intro w hSw; exact exec_cell 3 _ _ hSw.2.2.2.1 rfl rfl rfl Try.underlying3 rfl)
    (try simp only [Act.put, sA, sB, sC])
    refine wpAnyH_ready (rs := [13]) (by kernel_rfl) (by simp) ?_
    refine AllReadyH.cons (o := ?o4__13) ?h4__13 (fun K hK => ?_) AllReadyH.nil
    case h4__13 => (first | (simp only [gA, gB, gC]; done) | (simp only [gA, gB, gC]; exact rfl))
    (try go_simp)
    refine (Se.nextT _ _).mono ?_
    rintro e w' ⟨rfl, rfl⟩
    (try go_wp2_with fail)
    refine hK.out _ _ hHeld (fun hHeld2 => ?_)
    clear hK K hHeld2
    (try simp only [Act.put, sA, sB, sC])
    refine wpAnyH_take (i := 14) (oi := ?o4__14) (v := .bool true) ?h4__14 (by kernel_rfl) (by kernel_rfl) (by kernel_rfl) ?q4__14 ?y4__14 (by assumption) ?_
    case h4__14 => (first | (simp only [gA, gB, gC]; done) | (simp only [gA, gB, gC]; exact rfl))
    case q4__14 => exact fun _ _ _ h => h
    case y4__14 => (refine Or.inl ⟨rfl, ?_⟩; intro w hSw; (have q0 := H4.out; go_simp; (first | done | rfl | omega)))
    (try simp only [Act.put, sA, sB, sC])
    refine wpAnyH_take (i := 15) (oi := ?o4__15) (v := .bool true) ?h4__15 (by kernel_rfl) (by kernel_rfl) (by kernel_rfl) ?q4__15 ?y4__15 (by assumption) ?_
    case h4__15 => (first | (simp only [gA, gB, gC]; done) | (simp only [gA, gB, gC]; exact rfl))
    case q4__15 => exact fun _ _ _ h => h
    case y4__15 => (refine Or.inl ⟨rfl, ?_⟩; intro w hSw; (first | rfl | (go_simp; (try with_reducible rfl))))
    (try simp only [Act.put, sA, sB, sC])
    refine wpAnyH_done (by kernel_rfl) ?_ _
    have HSd4 := Lib.hid hHeld.1
    have HBPd4 := Lib.hid (hHeld.2.1)
    have HBRd4 := Lib.hid (hHeld.2.2.1)
    have HBQd4 := Lib.hid (hHeld.2.2.2.1)
    have HFrd4 := Lib.hid (hHeld.2.2.2.2)
    clear hHeld HRK HRD HS51 HBP51 HBR51 HBQ51 HFr51
    go_upto_region 5 with fail
    refine wp_region_lit ?_
    refine wpList_q (by rfl) (.pointer (some ⟨q, 0, none⟩)) ?he ?_
    case he => (first | rfl | (go_simp; (try with_reducible rfl)))
    (try simp only [Act.put, sA, sB, sC])
    refine wpList_wp (by rfl) (fun K hK => ?_)
    (try go_simp)
    refine (arrivedT lo q { k with he := mx2 k.he (cl now) } ls g m c _ (by rw [← H3.out]; exact HBQd4.out) (by rw [← H3.out]; exact HFrd4.out) H3.out HC.out (by have := HL.out; have := H3.out; omega)).mono ?_
    rintro e w52 ⟨rfl, hB, hO, hupd⟩
    (try go_wp2_with fail)
    refine hK.out _ _ ?_
    clear hK K
    (try simp only [Act.put, sA, sB, sC])
    have HBPz := Lib.hid (hupd.blk HBPd4.out (fun h => by have q1 := HNP.out; have q2 := HIP.out; simp [blkOf] at h q2; rcases h with h | h; exact q1 h.symm; exact q2 h))
    have HBRz := Lib.hid (hupd.blk HBRd4.out (fun h => by have q1 := HNR.out; have q2 := HIR.out; simp [blkOf] at h q2; rcases h with h | h; exact q1 h.symm; exact q2 h))
    have HSz := Lib.hid (Upd.comp HSd4.out hupd (fun _ h => .inl h))
    have HBQz := Lib.hid (show Blk w52 q 88 #[.int .i64 k.c.ca, .int .i64 k.c.fl, .int .i64 k.c.ft, .int .i64 k.c.se, .int .i64 k.c.dr, .int .i64 k.c.dw, .int .i64 k.c.ho, .int .i64 k.c.re, .int .i64 k.c.yi, .int .i64 k.c.qu, .int .i64 k.c.qo, .int .i64 k.c.lo, .int .i64 k.c.sl, .int .i64 k.c.rt, .int .i64 k.c.cp, .int .i64 k.c.tr, .int .i64 k.c.de, .int .i64 k.c.wi, .int .i64 k.se, .int .i64 k.ep, .slice (some ⟨g, 0, none⟩) m c, .int .i64 (Se.nx k.sq), .int .i64 0, .int .i64 0, .int .i64 k.ak, .bool k.an, .int .i64 (mx2 k.he (cl now))] from hB)
    have HOWz := Lib.hid hO
    clear hB hO hupd HSd4 HBPd4 HBRd4 HBQd4 HFrd4
    refine wpList_nil ?_
    go_upto_region 6 with fail
    have hrK : ∀ W W' : World, Since W W' → (Upd [q, g] w W ∧ Blk W w.heap.size 38 #[.int .i64 p.se, .int .i64 p.ep, .int .i64 p.sq, .int .i64 p.ak, .bool p.ha, .int .i64 p.m.ki, .int .i64 p.m.a, .int .i64 p.m.b, .int .i64 p.m.c] ∧ Blk W bR 36 #[.int .i64 0, .int .i64 0, .int .i64 0, .int .i64 0] ∧ Blk W q 88 #[.int .i64 k.c.ca, .int .i64 k.c.fl, .int .i64 k.c.ft, .int .i64 k.c.se, .int .i64 k.c.dr, .int .i64 k.c.dw, .int .i64 k.c.ho, .int .i64 k.c.re, .int .i64 k.c.yi, .int .i64 k.c.qu, .int .i64 k.c.qo, .int .i64 k.c.lo, .int .i64 k.c.sl, .int .i64 k.c.rt, .int .i64 k.c.cp, .int .i64 k.c.tr, .int .i64 k.c.de, .int .i64 k.c.wi, .int .i64 k.se, .int .i64 k.ep, .slice (some ⟨g, 0, none⟩) m c, .int .i64 (Se.nx k.sq), .int .i64 0, .int .i64 0, .int .i64 k.ak, .bool k.an, .int .i64 (mx2 k.he (cl now))] ∧ (W).ownsRow lo 36 4 (.slice (some ⟨g, 0, none⟩) m c) m (rowsOf msgC ls.tail)) → (Upd [q, g] w W' ∧ Blk W' w.heap.size 38 #[.int .i64 p.se, .int .i64 p.ep, .int .i64 p.sq, .int .i64 p.ak, .bool p.ha, .int .i64 p.m.ki, .int .i64 p.m.a, .int .i64 p.m.b, .int .i64 p.m.c] ∧ Blk W' bR 36 #[.int .i64 0, .int .i64 0, .int .i64 0, .int .i64 0] ∧ Blk W' q 88 #[.int .i64 k.c.ca, .int .i64 k.c.fl, .int .i64 k.c.ft, .int .i64 k.c.se, .int .i64 k.c.dr, .int .i64 k.c.dw, .int .i64 k.c.ho, .int .i64 k.c.re, .int .i64 k.c.yi, .int .i64 k.c.qu, .int .i64 k.c.qo, .int .i64 k.c.lo, .int .i64 k.c.sl, .int .i64 k.c.rt, .int .i64 k.c.cp, .int .i64 k.c.tr, .int .i64 k.c.de, .int .i64 k.c.wi, .int .i64 k.se, .int .i64 k.ep, .slice (some ⟨g, 0, none⟩) m c, .int .i64 (Se.nx k.sq), .int .i64 0, .int .i64 0, .int .i64 k.ak, .bool k.an, .int .i64 (mx2 k.he (cl now))] ∧ (W').ownsRow lo 36 4 (.slice (some ⟨g, 0, none⟩) m c) m (rowsOf msgC ls.tail)) := fun W W' k ⟨h, h0, h1, h2, h3⟩ => ⟨h.trans k, keep_blk k h0, keep_blk k h1, keep_blk k h2, keep_own k h3⟩
    have hrS : (fun W : World => Upd [q, g] w W ∧ Blk W w.heap.size 38 #[.int .i64 p.se, .int .i64 p.ep, .int .i64 p.sq, .int .i64 p.ak, .bool p.ha, .int .i64 p.m.ki, .int .i64 p.m.a, .int .i64 p.m.b, .int .i64 p.m.c] ∧ Blk W bR 36 #[.int .i64 0, .int .i64 0, .int .i64 0, .int .i64 0] ∧ Blk W q 88 #[.int .i64 k.c.ca, .int .i64 k.c.fl, .int .i64 k.c.ft, .int .i64 k.c.se, .int .i64 k.c.dr, .int .i64 k.c.dw, .int .i64 k.c.ho, .int .i64 k.c.re, .int .i64 k.c.yi, .int .i64 k.c.qu, .int .i64 k.c.qo, .int .i64 k.c.lo, .int .i64 k.c.sl, .int .i64 k.c.rt, .int .i64 k.c.cp, .int .i64 k.c.tr, .int .i64 k.c.de, .int .i64 k.c.wi, .int .i64 k.se, .int .i64 k.ep, .slice (some ⟨g, 0, none⟩) m c, .int .i64 (Se.nx k.sq), .int .i64 0, .int .i64 0, .int .i64 k.ak, .bool k.an, .int .i64 (mx2 k.he (cl now))] ∧ (W).ownsRow lo 36 4 (.slice (some ⟨g, 0, none⟩) m c) m (rowsOf msgC ls.tail)) w52 := ⟨HSz.out, HBPz.out, HBRz.out, HBQz.out, HOWz.out⟩
    have HRK := Lib.hid hrK
    have HRD := Lib.hid (show (fun W : World => Upd [q, g] w W ∧ Blk W w.heap.size 38 #[.int .i64 p.se, .int .i64 p.ep, .int .i64 p.sq, .int .i64 p.ak, .bool p.ha, .int .i64 p.m.ki, .int .i64 p.m.a, .int .i64 p.m.b, .int .i64 p.m.c] ∧ Blk W bR 36 #[.int .i64 0, .int .i64 0, .int .i64 0, .int .i64 0] ∧ Blk W q 88 #[.int .i64 k.c.ca, .int .i64 k.c.fl, .int .i64 k.c.ft, .int .i64 k.c.se, .int .i64 k.c.dr, .int .i64 k.c.dw, .int .i64 k.c.ho, .int .i64 k.c.re, .int .i64 k.c.yi, .int .i64 k.c.qu, .int .i64 k.c.qo, .int .i64 k.c.lo, .int .i64 k.c.sl, .int .i64 k.c.rt, .int .i64 k.c.cp, .int .i64 k.c.tr, .int .i64 k.c.de, .int .i64 k.c.wi, .int .i64 k.se, .int .i64 k.ep, .slice (some ⟨g, 0, none⟩) m c, .int .i64 (Se.nx k.sq), .int .i64 0, .int .i64 0, .int .i64 k.ak, .bool k.an, .int .i64 (mx2 k.he (cl now))] ∧ (W).ownsRow lo 36 4 (.slice (some ⟨g, 0, none⟩) m c) m (rowsOf msgC ls.tail)) (World.drew w52) from hrK _ _ ((Since.refl w52).drew) hrS)
    clear hrK hrS
    refine wp_region_held_drew (S := fun W : World => Upd [q, g] w W ∧ Blk W w.heap.size 38 #[.int .i64 p.se, .int .i64 p.ep, .int .i64 p.sq, .int .i64 p.ak, .bool p.ha, .int .i64 p.m.ki, .int .i64 p.m.a, .int .i64 p.m.b, .int .i64 p.m.c] ∧ Blk W bR 36 #[.int .i64 0, .int .i64 0, .int .i64 0, .int .i64 0] ∧ Blk W q 88 #[.int .i64 k.c.ca, .int .i64 k.c.fl, .int .i64 k.c.ft, .int .i64 k.c.se, .int .i64 k.c.dr, .int .i64 k.c.dw, .int .i64 k.c.ho, .int .i64 k.c.re, .int .i64 k.c.yi, .int .i64 k.c.qu, .int .i64 k.c.qo, .int .i64 k.c.lo, .int .i64 k.c.sl, .int .i64 k.c.rt, .int .i64 k.c.cp, .int .i64 k.c.tr, .int .i64 k.c.de, .int .i64 k.c.wi, .int .i64 k.se, .int .i64 k.ep, .slice (some ⟨g, 0, none⟩) m c, .int .i64 (Se.nx k.sq), .int .i64 0, .int .i64 0, .int .i64 k.ak, .bool k.an, .int .i64 (mx2 k.he (cl now))] ∧ (W).ownsRow lo 36 4 (.slice (some ⟨g, 0, none⟩) m c) m (rowsOf msgC ls.tail)) (by kernel_rfl) HRD.out (fun hHeld => ?_)
    refine wpAnyH_take (i := 0) (oi := ?o6__0) (v := .pointer (some ⟨w.heap.size, 4, none⟩)) ?h6__0 (by kernel_rfl) (by kernel_rfl) (by kernel_rfl) ?q6__0 ?y6__0 (by assumption) ?_
    case h6__0 => (first | (simp only [gA, gB, gC]; done) | (simp only [gA, gB, gC]; exact rfl))
    case q6__0 => exact fun _ _ _ h => h
    case y6__0 => (refine Or.inl ⟨rfl, ?_⟩; intro w hSw; (first | rfl | (go_simp; (try with_reducible rfl))))
    (try simp only [Act.put, sA, sB, sC])
    refine wpAnyH_take (i := 1) (oi := ?o6__1) (v := .bool p.ha) ?h6__1 (by kernel_rfl) (by kernel_rfl) (by kernel_rfl) ?q6__1 ?y6__1 (by assumption) ?_
    case h6__1 => (first | (simp only [gA, gB, gC]; done) | (simp only [gA, gB, gC]; exact rfl))
    case q6__1 => exact fun _ _ _ h => h
    case y6__1 => (refine Or.inl ⟨rfl, ?_⟩; intro w hSw; exact exec_cell 4 _ _ hSw.2.1 rfl rfl rfl Try.underlying4 rfl)
    (try simp only [Act.put, sA, sB, sC])
    refine wpAnyH_take (i := 2) (oi := ?o6__2) (v := .bool false) ?h6__2 (by kernel_rfl) (by kernel_rfl) (by kernel_rfl) ?q6__2 ?y6__2 (by assumption) ?_
    case h6__2 => (first | (simp only [gA, gB, gC]; done) | (simp only [gA, gB, gC]; exact rfl))
    case q6__2 => exact fun _ _ _ h => h
    case y6__2 => (refine Or.inl ⟨rfl, ?_⟩; intro w hSw; (have q := H5.out; go_simp; (first | done | exact q | (simp [q]; done))))
    (try simp only [Act.put, sA, sB, sC])
    refine wpAnyH_take (i := 3) (oi := ?o6__3) (v := .bool false) ?h6__3 (by kernel_rfl) (by kernel_rfl) (by kernel_rfl) ?q6__3 ?y6__3 (by assumption) ?_
    case h6__3 => (first | (simp only [gA, gB, gC]; done) | (simp only [gA, gB, gC]; exact rfl))
    case q6__3 => exact fun _ _ _ h => h
    case y6__3 => (refine Or.inl ⟨rfl, ?_⟩; intro w hSw; (first | rfl | (go_simp; (try with_reducible rfl))))
    (try simp only [Act.put, sA, sB, sC])
    refine wpAnyH_take (i := 4) (oi := ?o6__4) (v := .pointer (some ⟨q, 0, none⟩)) ?h6__4 (by kernel_rfl) (by kernel_rfl) (by kernel_rfl) ?q6__4 ?y6__4 (by assumption) ?_
    case h6__4 => (first | (simp only [gA, gB, gC]; done) | (simp only [gA, gB, gC]; exact rfl))
    case q6__4 => exact fun _ _ _ h => h
    case y6__4 => (refine Or.inl ⟨rfl, ?_⟩; intro w hSw; (first | rfl | (go_simp; (try with_reducible rfl))))
    (try simp only [Act.put, sA, sB, sC])
    refine wpAnyH_take (i := 5) (oi := ?o6__5) (v := .pointer (some ⟨q, 0, none⟩)) ?h6__5 (by kernel_rfl) (by kernel_rfl) (by kernel_rfl) ?q6__5 ?y6__5 (by assumption) ?_
    case h6__5 => (first | (simp only [gA, gB, gC]; done) | (simp only [gA, gB, gC]; exact rfl))
    case q6__5 => exact fun _ _ _ h => h
    case y6__5 => (refine Or.inl ⟨rfl, ?_⟩; intro w hSw; (first | rfl | (go_simp; (try with_reducible rfl))))
    (try simp only [Act.put, sA, sB, sC])
    refine wpAnyH_take (i := 6) (oi := ?o6__6) (v := .pointer (some ⟨q, 24, none⟩)) ?h6__6 (by kernel_rfl) (by kernel_rfl) (by kernel_rfl) ?q6__6 ?y6__6 (by assumption) ?_
    case h6__6 => (first | (simp only [gA, gB, gC]; done) | (simp only [gA, gB, gC]; exact rfl))
    case q6__6 => exact fun _ _ _ h => h
    case y6__6 => (refine Or.inl ⟨rfl, ?_⟩; intro w hSw; (first | rfl | (go_simp; (try with_reducible rfl))))
    (try simp only [Act.put, sA, sB, sC])
    refine wpAnyH_take (i := 7) (oi := ?o6__7) (v := .int .i64 k.ak) ?h6__7 (by kernel_rfl) (by kernel_rfl) (by kernel_rfl) ?q6__7 ?y6__7 (by assumption) ?_
    case h6__7 => (first | (simp only [gA, gB, gC]; done) | (simp only [gA, gB, gC]; exact rfl))
    case q6__7 => exact fun _ _ _ h => h
    case y6__7 => (refine Or.inl ⟨rfl, ?_⟩; intro w hSw; exact exec_cell 3 _ _ hSw.2.2.2.1 rfl rfl rfl Try.underlying3 rfl)
    (try simp only [Act.put, sA, sB, sC])
    refine wpAnyH_take (i := 8) (oi := ?o6__8) (v := .pointer (some ⟨w.heap.size, 2, none⟩)) ?h6__8 (by kernel_rfl) (by kernel_rfl) (by kernel_rfl) ?q6__8 ?y6__8 (by assumption) ?_
    case h6__8 => (first | (simp only [gA, gB, gC]; done) | (simp only [gA, gB, gC]; exact rfl))
    case q6__8 => exact fun _ _ _ h => h
    case y6__8 => (refine Or.inl ⟨rfl, ?_⟩; intro w hSw; (first | rfl | (go_simp; (try with_reducible rfl))))
    (try simp only [Act.put, sA, sB, sC])
    refine wpAnyH_take (i := 9) (oi := ?o6__9) (v := .int .i64 p.sq) ?h6__9 (by kernel_rfl) (by kernel_rfl) (by kernel_rfl) ?q6__9 ?y6__9 (by assumption) ?_
    case h6__9 => (first | (simp only [gA, gB, gC]; done) | (simp only [gA, gB, gC]; exact rfl))
    case q6__9 => exact fun _ _ _ h => h
    case y6__9 => (refine Or.inl ⟨rfl, ?_⟩; intro w hSw; exact exec_cell 3 _ _ hSw.2.1 rfl rfl rfl Try.underlying3 rfl)
    (try simp only [Act.put, sA, sB, sC])
    refine wpAnyH_ready (rs := [10]) (by kernel_rfl) (by simp) ?_
    refine AllReadyH.cons (o := ?o6__10) ?h6__10 (fun K hK => ?_) AllReadyH.nil
    case h6__10 => (first | (simp only [gA, gB, gC]; done) | (simp only [gA, gB, gC]; exact rfl))
    (try go_simp)
    refine (newerV _ _ false _ H6.out).mono ?_
    rintro e w' ⟨rfl, rfl⟩
    (try go_wp2_with fail)
    refine hK.out _ _ hHeld (fun hHeld2 => ?_)
    clear hK K hHeld2
    (try simp only [Act.put, sA, sB, sC])
    refine wpAnyH_take (i := 11) (oi := ?o6__11) (v := .bool false) ?h6__11 (by kernel_rfl) (by kernel_rfl) (by kernel_rfl) ?q6__11 ?y6__11 (by assumption) ?_
    case h6__11 => (first | (simp only [gA, gB, gC]; done) | (simp only [gA, gB, gC]; exact rfl))
    case q6__11 => exact fun _ _ _ h => h
    case y6__11 => (refine Or.inl ⟨rfl, ?_⟩; intro w hSw; (first | rfl | (go_simp; (try with_reducible rfl))))
    (try simp only [Act.put, sA, sB, sC])
    refine wpAnyH_done (by kernel_rfl) ?_ _
    have HSd6 := Lib.hid hHeld.1
    have HBPd6 := Lib.hid (hHeld.2.1)
    have HBRd6 := Lib.hid (hHeld.2.2.1)
    have HBQd6 := Lib.hid (hHeld.2.2.2.1)
    have HFrd6 := Lib.hid (hHeld.2.2.2.2)
    clear hHeld HRK HRD HSz HBPz HBRz HBQz HOWz
    go_upto_region 8 with fail
    refine wp_region_lit ?_
    refine wpList_q (by rfl) (.pointer (some ⟨q, 0, none⟩)) ?he ?_
    case he => (first | rfl | (go_simp; (try with_reducible rfl)))
    (try simp only [Act.put, sA, sB, sC])
    refine wpList_q (by rfl) (.pointer (some ⟨q, 0, none⟩)) ?he ?_
    case he => (first | rfl | (go_simp; (try with_reducible rfl)))
    (try simp only [Act.put, sA, sB, sC])
    refine wpList_q (by rfl) (.pointer (some ⟨q, 25, none⟩)) ?he ?_
    case he => (first | rfl | (go_simp; (try with_reducible rfl)))
    (try simp only [Act.put, sA, sB, sC])
    refine wpList_wp (by rfl) (fun K hK => ?_)
    refine wp_st_cell 4 _ _ rfl #[.int .i64 k.c.ca, .int .i64 k.c.fl, .int .i64 k.c.ft, .int .i64 k.c.se, .int .i64 k.c.dr, .int .i64 k.c.dw, .int .i64 k.c.ho, .int .i64 k.c.re, .int .i64 k.c.yi, .int .i64 k.c.qu, .int .i64 k.c.qo, .int .i64 k.c.lo, .int .i64 k.c.sl, .int .i64 k.c.rt, .int .i64 k.c.cp, .int .i64 k.c.tr, .int .i64 k.c.de, .int .i64 k.c.wi, .int .i64 k.se, .int .i64 k.ep, .slice (some ⟨g, 0, none⟩) m c, .int .i64 (Se.nx k.sq), .int .i64 0, .int .i64 0, .int .i64 k.ak, .bool true, .int .i64 (mx2 k.he (cl now))] (.bool true) rfl rfl HBQd6.out (by show 25 < 27; decide) rfl (by first | rfl | simp [Value.oneCell']) (by kernel_rfl) ?_
    intro w53 hw
    refine hK.out _ _ ?_
    clear hK K
    (try simp only [Act.put, sA, sB, sC])
    have HS53 := Lib.hid (show Upd [q, g] w w53 by rw [hw]; exact Upd.setRow HSd6.out (.inl (by simp)) _)
    have HBP53 := Lib.hid (show Blk w53 w.heap.size 38 #[.int .i64 p.se, .int .i64 p.ep, .int .i64 p.sq, .int .i64 p.ak, .bool p.ha, .int .i64 p.m.ki, .int .i64 p.m.a, .int .i64 p.m.b, .int .i64 p.m.c] by rw [hw]; exact Blk.row_far HBPd6.out (Ne.symm HNP.out) _)
    have HBR53 := Lib.hid (show Blk w53 bR 36 #[.int .i64 0, .int .i64 0, .int .i64 0, .int .i64 0] by rw [hw]; exact Blk.row_far HBRd6.out (Ne.symm HNR.out) _)
    have HBQ53 := Lib.hid (show Blk w53 q 88 #[.int .i64 k.c.ca, .int .i64 k.c.fl, .int .i64 k.c.ft, .int .i64 k.c.se, .int .i64 k.c.dr, .int .i64 k.c.dw, .int .i64 k.c.ho, .int .i64 k.c.re, .int .i64 k.c.yi, .int .i64 k.c.qu, .int .i64 k.c.qo, .int .i64 k.c.lo, .int .i64 k.c.sl, .int .i64 k.c.rt, .int .i64 k.c.cp, .int .i64 k.c.tr, .int .i64 k.c.de, .int .i64 k.c.wi, .int .i64 k.se, .int .i64 k.ep, .slice (some ⟨g, 0, none⟩) m c, .int .i64 (Se.nx k.sq), .int .i64 0, .int .i64 0, .int .i64 k.ak, .bool true, .int .i64 (mx2 k.he (cl now))] by rw [hw]; exact Blk.row HBQd6.out _)
    have HFr_53 := Lib.hid (show (w53).ownsRow lo 36 4 (.slice (some ⟨g, 0, none⟩) m c) m (rowsOf msgC ls.tail) by rw [hw]; exact own_row_far HFrd6.out HIQ.out _)
    clear hw HSd6 HBPd6 HBRd6 HBQd6 HFrd6
    refine wpList_nil ?_
    go_upto_region 9 with fail
    have hrK : ∀ W W' : World, Since W W' → (Upd [q, g] w W ∧ Blk W w.heap.size 38 #[.int .i64 p.se, .int .i64 p.ep, .int .i64 p.sq, .int .i64 p.ak, .bool p.ha, .int .i64 p.m.ki, .int .i64 p.m.a, .int .i64 p.m.b, .int .i64 p.m.c] ∧ Blk W bR 36 #[.int .i64 0, .int .i64 0, .int .i64 0, .int .i64 0] ∧ Blk W q 88 #[.int .i64 k.c.ca, .int .i64 k.c.fl, .int .i64 k.c.ft, .int .i64 k.c.se, .int .i64 k.c.dr, .int .i64 k.c.dw, .int .i64 k.c.ho, .int .i64 k.c.re, .int .i64 k.c.yi, .int .i64 k.c.qu, .int .i64 k.c.qo, .int .i64 k.c.lo, .int .i64 k.c.sl, .int .i64 k.c.rt, .int .i64 k.c.cp, .int .i64 k.c.tr, .int .i64 k.c.de, .int .i64 k.c.wi, .int .i64 k.se, .int .i64 k.ep, .slice (some ⟨g, 0, none⟩) m c, .int .i64 (Se.nx k.sq), .int .i64 0, .int .i64 0, .int .i64 k.ak, .bool true, .int .i64 (mx2 k.he (cl now))] ∧ (W).ownsRow lo 36 4 (.slice (some ⟨g, 0, none⟩) m c) m (rowsOf msgC ls.tail)) → (Upd [q, g] w W' ∧ Blk W' w.heap.size 38 #[.int .i64 p.se, .int .i64 p.ep, .int .i64 p.sq, .int .i64 p.ak, .bool p.ha, .int .i64 p.m.ki, .int .i64 p.m.a, .int .i64 p.m.b, .int .i64 p.m.c] ∧ Blk W' bR 36 #[.int .i64 0, .int .i64 0, .int .i64 0, .int .i64 0] ∧ Blk W' q 88 #[.int .i64 k.c.ca, .int .i64 k.c.fl, .int .i64 k.c.ft, .int .i64 k.c.se, .int .i64 k.c.dr, .int .i64 k.c.dw, .int .i64 k.c.ho, .int .i64 k.c.re, .int .i64 k.c.yi, .int .i64 k.c.qu, .int .i64 k.c.qo, .int .i64 k.c.lo, .int .i64 k.c.sl, .int .i64 k.c.rt, .int .i64 k.c.cp, .int .i64 k.c.tr, .int .i64 k.c.de, .int .i64 k.c.wi, .int .i64 k.se, .int .i64 k.ep, .slice (some ⟨g, 0, none⟩) m c, .int .i64 (Se.nx k.sq), .int .i64 0, .int .i64 0, .int .i64 k.ak, .bool true, .int .i64 (mx2 k.he (cl now))] ∧ (W').ownsRow lo 36 4 (.slice (some ⟨g, 0, none⟩) m c) m (rowsOf msgC ls.tail)) := fun W W' k ⟨h, h0, h1, h2, h3⟩ => ⟨h.trans k, keep_blk k h0, keep_blk k h1, keep_blk k h2, keep_own k h3⟩
    have hrS : (fun W : World => Upd [q, g] w W ∧ Blk W w.heap.size 38 #[.int .i64 p.se, .int .i64 p.ep, .int .i64 p.sq, .int .i64 p.ak, .bool p.ha, .int .i64 p.m.ki, .int .i64 p.m.a, .int .i64 p.m.b, .int .i64 p.m.c] ∧ Blk W bR 36 #[.int .i64 0, .int .i64 0, .int .i64 0, .int .i64 0] ∧ Blk W q 88 #[.int .i64 k.c.ca, .int .i64 k.c.fl, .int .i64 k.c.ft, .int .i64 k.c.se, .int .i64 k.c.dr, .int .i64 k.c.dw, .int .i64 k.c.ho, .int .i64 k.c.re, .int .i64 k.c.yi, .int .i64 k.c.qu, .int .i64 k.c.qo, .int .i64 k.c.lo, .int .i64 k.c.sl, .int .i64 k.c.rt, .int .i64 k.c.cp, .int .i64 k.c.tr, .int .i64 k.c.de, .int .i64 k.c.wi, .int .i64 k.se, .int .i64 k.ep, .slice (some ⟨g, 0, none⟩) m c, .int .i64 (Se.nx k.sq), .int .i64 0, .int .i64 0, .int .i64 k.ak, .bool true, .int .i64 (mx2 k.he (cl now))] ∧ (W).ownsRow lo 36 4 (.slice (some ⟨g, 0, none⟩) m c) m (rowsOf msgC ls.tail)) w53 := ⟨HS53.out, HBP53.out, HBR53.out, HBQ53.out, HFr_53.out⟩
    have HRK := Lib.hid hrK
    have HRD := Lib.hid (show (fun W : World => Upd [q, g] w W ∧ Blk W w.heap.size 38 #[.int .i64 p.se, .int .i64 p.ep, .int .i64 p.sq, .int .i64 p.ak, .bool p.ha, .int .i64 p.m.ki, .int .i64 p.m.a, .int .i64 p.m.b, .int .i64 p.m.c] ∧ Blk W bR 36 #[.int .i64 0, .int .i64 0, .int .i64 0, .int .i64 0] ∧ Blk W q 88 #[.int .i64 k.c.ca, .int .i64 k.c.fl, .int .i64 k.c.ft, .int .i64 k.c.se, .int .i64 k.c.dr, .int .i64 k.c.dw, .int .i64 k.c.ho, .int .i64 k.c.re, .int .i64 k.c.yi, .int .i64 k.c.qu, .int .i64 k.c.qo, .int .i64 k.c.lo, .int .i64 k.c.sl, .int .i64 k.c.rt, .int .i64 k.c.cp, .int .i64 k.c.tr, .int .i64 k.c.de, .int .i64 k.c.wi, .int .i64 k.se, .int .i64 k.ep, .slice (some ⟨g, 0, none⟩) m c, .int .i64 (Se.nx k.sq), .int .i64 0, .int .i64 0, .int .i64 k.ak, .bool true, .int .i64 (mx2 k.he (cl now))] ∧ (W).ownsRow lo 36 4 (.slice (some ⟨g, 0, none⟩) m c) m (rowsOf msgC ls.tail)) (World.drew w53) from hrK _ _ ((Since.refl w53).drew) hrS)
    clear hrK hrS
    refine wp_region_held_drew (S := fun W : World => Upd [q, g] w W ∧ Blk W w.heap.size 38 #[.int .i64 p.se, .int .i64 p.ep, .int .i64 p.sq, .int .i64 p.ak, .bool p.ha, .int .i64 p.m.ki, .int .i64 p.m.a, .int .i64 p.m.b, .int .i64 p.m.c] ∧ Blk W bR 36 #[.int .i64 0, .int .i64 0, .int .i64 0, .int .i64 0] ∧ Blk W q 88 #[.int .i64 k.c.ca, .int .i64 k.c.fl, .int .i64 k.c.ft, .int .i64 k.c.se, .int .i64 k.c.dr, .int .i64 k.c.dw, .int .i64 k.c.ho, .int .i64 k.c.re, .int .i64 k.c.yi, .int .i64 k.c.qu, .int .i64 k.c.qo, .int .i64 k.c.lo, .int .i64 k.c.sl, .int .i64 k.c.rt, .int .i64 k.c.cp, .int .i64 k.c.tr, .int .i64 k.c.de, .int .i64 k.c.wi, .int .i64 k.se, .int .i64 k.ep, .slice (some ⟨g, 0, none⟩) m c, .int .i64 (Se.nx k.sq), .int .i64 0, .int .i64 0, .int .i64 k.ak, .bool true, .int .i64 (mx2 k.he (cl now))] ∧ (W).ownsRow lo 36 4 (.slice (some ⟨g, 0, none⟩) m c) m (rowsOf msgC ls.tail)) (by kernel_rfl) HRD.out (fun hHeld => ?_)
    refine wpAnyH_take (i := 0) (oi := ?o9__0) (v := .pointer (some ⟨w.heap.size, 2, none⟩)) ?h9__0 (by kernel_rfl) (by kernel_rfl) (by kernel_rfl) ?q9__0 ?y9__0 (by assumption) ?_
    case h9__0 => (first | (simp only [gA, gB, gC]; done) | (simp only [gA, gB, gC]; exact rfl))
    case q9__0 => exact fun _ _ _ h => h
    case y9__0 => (refine Or.inl ⟨rfl, ?_⟩; intro w hSw; (first | rfl | (go_simp; (try with_reducible rfl))))
    (try simp only [Act.put, sA, sB, sC])
    refine wpAnyH_take (i := 1) (oi := ?o9__1) (v := .int .i64 p.sq) ?h9__1 (by kernel_rfl) (by kernel_rfl) (by kernel_rfl) ?q9__1 ?y9__1 (by assumption) ?_
    case h9__1 => (first | (simp only [gA, gB, gC]; done) | (simp only [gA, gB, gC]; exact rfl))
    case q9__1 => exact fun _ _ _ h => h
    case y9__1 => (refine Or.inl ⟨rfl, ?_⟩; intro w hSw; exact exec_cell 3 _ _ hSw.2.1 rfl rfl rfl Try.underlying3 rfl)
    (try simp only [Act.put, sA, sB, sC])
    refine wpAnyH_take (i := 2) (oi := ?o9__2) (v := .pointer (some ⟨q, 0, none⟩)) ?h9__2 (by kernel_rfl) (by kernel_rfl) (by kernel_rfl) ?q9__2 ?y9__2 (by assumption) ?_
    case h9__2 => (first | (simp only [gA, gB, gC]; done) | (simp only [gA, gB, gC]; exact rfl))
    case q9__2 => exact fun _ _ _ h => h
    case y9__2 => (refine Or.inl ⟨rfl, ?_⟩; intro w hSw; (first | rfl | (go_simp; (try with_reducible rfl))))
    (try simp only [Act.put, sA, sB, sC])
    refine wpAnyH_take (i := 3) (oi := ?o9__3) (v := .pointer (some ⟨q, 0, none⟩)) ?h9__3 (by kernel_rfl) (by kernel_rfl) (by kernel_rfl) ?q9__3 ?y9__3 (by assumption) ?_
    case h9__3 => (first | (simp only [gA, gB, gC]; done) | (simp only [gA, gB, gC]; exact rfl))
    case q9__3 => exact fun _ _ _ h => h
    case y9__3 => (refine Or.inl ⟨rfl, ?_⟩; intro w hSw; (first | rfl | (go_simp; (try with_reducible rfl))))
    (try simp only [Act.put, sA, sB, sC])
    refine wpAnyH_take (i := 4) (oi := ?o9__4) (v := .pointer (some ⟨q, 24, none⟩)) ?h9__4 (by kernel_rfl) (by kernel_rfl) (by kernel_rfl) ?q9__4 ?y9__4 (by assumption) ?_
    case h9__4 => (first | (simp only [gA, gB, gC]; done) | (simp only [gA, gB, gC]; exact rfl))
    case q9__4 => exact fun _ _ _ h => h
    case y9__4 => (refine Or.inl ⟨rfl, ?_⟩; intro w hSw; (first | rfl | (go_simp; (try with_reducible rfl))))
    (try simp only [Act.put, sA, sB, sC])
    refine wpAnyH_take (i := 5) (oi := ?o9__5) (v := .int .i64 k.ak) ?h9__5 (by kernel_rfl) (by kernel_rfl) (by kernel_rfl) ?q9__5 ?y9__5 (by assumption) ?_
    case h9__5 => (first | (simp only [gA, gB, gC]; done) | (simp only [gA, gB, gC]; exact rfl))
    case q9__5 => exact fun _ _ _ h => h
    case y9__5 => (refine Or.inl ⟨rfl, ?_⟩; intro w hSw; exact exec_cell 3 _ _ hSw.2.2.2.1 rfl rfl rfl Try.underlying3 rfl)
    (try simp only [Act.put, sA, sB, sC])
    refine wpAnyH_take (i := 6) (oi := ?o9__6) (v := .bool false) ?h9__6 (by kernel_rfl) (by kernel_rfl) (by kernel_rfl) ?q9__6 ?y9__6 (by assumption) ?_
    case h9__6 => (first | (simp only [gA, gB, gC]; done) | (simp only [gA, gB, gC]; exact rfl))
    case q9__6 => exact fun _ _ _ h => h
    case y9__6 => (refine Or.inl ⟨rfl, ?_⟩; intro w hSw; (have q0 := H7.out; go_simp; (first | done | rfl | omega)))
    (try simp only [Act.put, sA, sB, sC])
    refine wpAnyH_done (by kernel_rfl) ?_ _
    have HSd9 := Lib.hid hHeld.1
    have HBPd9 := Lib.hid (hHeld.2.1)
    have HBRd9 := Lib.hid (hHeld.2.2.1)
    have HBQd9 := Lib.hid (hHeld.2.2.2.1)
    have HFrd9 := Lib.hid (hHeld.2.2.2.2)
    clear hHeld HRK HRD HS53 HBP53 HBR53 HBQ53 HFr_53
    go_upto_region 11 with fail
    refine wp_region_lit ?_
    refine wpList_q (by rfl) (.pointer (some ⟨q, 0, none⟩)) ?he ?_
    case he => (first | rfl | (go_simp; (try with_reducible rfl)))
    (try simp only [Act.put, sA, sB, sC])
    refine wpList_q (by rfl) (.pointer (some ⟨q, 0, none⟩)) ?he ?_
    case he => (first | rfl | (go_simp; (try with_reducible rfl)))
    (try simp only [Act.put, sA, sB, sC])
    refine wpList_q (by rfl) (.pointer (some ⟨q, 0, none⟩)) ?he ?_
    case he => (first | rfl | (go_simp; (try with_reducible rfl)))
    (try simp only [Act.put, sA, sB, sC])
    refine wpList_q (by rfl) (.pointer (some ⟨q, 24, none⟩)) ?he ?_
    case he => (first | rfl | (go_simp; (try with_reducible rfl)))
    (try simp only [Act.put, sA, sB, sC])
    refine wpList_q (by rfl) (.int .i64 k.ak) ?he ?_
    case he => exact exec_cell 3 _ _ HBQd9.out rfl rfl rfl Try.underlying3 rfl
    (try simp only [Act.put, sA, sB, sC])
    refine wpList_wp (by rfl) (fun K hK => ?_)
    (try go_simp)
    refine (Se.nextT _ _).mono ?_
    rintro e w' ⟨rfl, rfl⟩
    (try go_wp2_with fail)
    refine hK.out _ _ ?_
    clear hK K
    (try simp only [Act.put, sA, sB, sC])
    refine wpList_q (by rfl) (.pointer (some ⟨q, 0, none⟩)) ?he ?_
    case he => (first | rfl | (go_simp; (try with_reducible rfl)))
    (try simp only [Act.put, sA, sB, sC])
    refine wpList_q (by rfl) (.pointer (some ⟨q, 24, none⟩)) ?he ?_
    case he => (first | rfl | (go_simp; (try with_reducible rfl)))
    (try simp only [Act.put, sA, sB, sC])
    refine wpList_wp (by rfl) (fun K hK => ?_)
    refine wp_st_cell 3 _ _ rfl #[.int .i64 k.c.ca, .int .i64 k.c.fl, .int .i64 k.c.ft, .int .i64 k.c.se, .int .i64 k.c.dr, .int .i64 k.c.dw, .int .i64 k.c.ho, .int .i64 k.c.re, .int .i64 k.c.yi, .int .i64 k.c.qu, .int .i64 k.c.qo, .int .i64 k.c.lo, .int .i64 k.c.sl, .int .i64 k.c.rt, .int .i64 k.c.cp, .int .i64 k.c.tr, .int .i64 k.c.de, .int .i64 k.c.wi, .int .i64 k.se, .int .i64 k.ep, .slice (some ⟨g, 0, none⟩) m c, .int .i64 (Se.nx k.sq), .int .i64 0, .int .i64 0, .int .i64 (Se.nx k.ak), .bool true, .int .i64 (mx2 k.he (cl now))] (.int .i64 (Se.nx k.ak)) rfl rfl HBQd9.out (by show 24 < 27; decide) rfl (by first | rfl | simp [Value.oneCell']) (by kernel_rfl) ?_
    intro w54 hw
    refine hK.out _ _ ?_
    clear hK K
    (try simp only [Act.put, sA, sB, sC])
    have HS54 := Lib.hid (show Upd [q, g] w w54 by rw [hw]; exact Upd.setRow HSd9.out (.inl (by simp)) _)
    have HBP54 := Lib.hid (show Blk w54 w.heap.size 38 #[.int .i64 p.se, .int .i64 p.ep, .int .i64 p.sq, .int .i64 p.ak, .bool p.ha, .int .i64 p.m.ki, .int .i64 p.m.a, .int .i64 p.m.b, .int .i64 p.m.c] by rw [hw]; exact Blk.row_far HBPd9.out (Ne.symm HNP.out) _)
    have HBR54 := Lib.hid (show Blk w54 bR 36 #[.int .i64 0, .int .i64 0, .int .i64 0, .int .i64 0] by rw [hw]; exact Blk.row_far HBRd9.out (Ne.symm HNR.out) _)
    have HBQ54 := Lib.hid (show Blk w54 q 88 #[.int .i64 k.c.ca, .int .i64 k.c.fl, .int .i64 k.c.ft, .int .i64 k.c.se, .int .i64 k.c.dr, .int .i64 k.c.dw, .int .i64 k.c.ho, .int .i64 k.c.re, .int .i64 k.c.yi, .int .i64 k.c.qu, .int .i64 k.c.qo, .int .i64 k.c.lo, .int .i64 k.c.sl, .int .i64 k.c.rt, .int .i64 k.c.cp, .int .i64 k.c.tr, .int .i64 k.c.de, .int .i64 k.c.wi, .int .i64 k.se, .int .i64 k.ep, .slice (some ⟨g, 0, none⟩) m c, .int .i64 (Se.nx k.sq), .int .i64 0, .int .i64 0, .int .i64 (Se.nx k.ak), .bool true, .int .i64 (mx2 k.he (cl now))] by rw [hw]; exact Blk.row HBQd9.out _)
    have HFr_54 := Lib.hid (show (w54).ownsRow lo 36 4 (.slice (some ⟨g, 0, none⟩) m c) m (rowsOf msgC ls.tail) by rw [hw]; exact own_row_far HFrd9.out HIQ.out _)
    clear hw HSd9 HBPd9 HBRd9 HBQd9 HFrd9
    refine wpList_nil ?_
    go_upto_region 12 with fail
    refine wp_region_lit ?_
    refine wpList_q (by rfl) (.pointer (some ⟨w.heap.size, 5, none⟩)) ?he ?_
    case he => (first | rfl | (go_simp; (try with_reducible rfl)))
    (try simp only [Act.put, sA, sB, sC])
    refine wpList_q (by rfl) (.agg #[.int .i64 p.m.ki, .int .i64 p.m.a, .int .i64 p.m.b, .int .i64 p.m.c]) ?he ?_
    case he => exact exec_part (n := 4) 36 _ _ HBP54.out rfl rfl rfl rfl Try.underlying36 rfl (by kernel_rfl)
    (try simp only [Act.put, sA, sB, sC])
    refine wpList_wp (by rfl) (fun K hK => ?_)
    refine wp_st_row 36 _ _ rfl #[.int .i64 p.m.ki, .int .i64 p.m.a, .int .i64 p.m.b, .int .i64 p.m.c] rfl rfl (HasRow.of HBR54.out rfl) rfl (by simp [Value.oneCell']) (by kernel_rfl) ?_
    intro w55 hw
    refine hK.out _ _ ?_
    clear hK K
    (try simp only [Act.put, sA, sB, sC])
    have HS55 := Lib.hid (show Upd [q, g] w w55 by rw [hw]; exact Upd.setRow HS54.out (Or.inr (by have := HNE3.out; omega)) _)
    have HBP55 := Lib.hid (show Blk w55 w.heap.size 38 #[.int .i64 p.se, .int .i64 p.ep, .int .i64 p.sq, .int .i64 p.ak, .bool p.ha, .int .i64 p.m.ki, .int .i64 p.m.a, .int .i64 p.m.b, .int .i64 p.m.c] by rw [hw]; exact Blk.row_far HBP54.out (by have := HNE3.out; omega) _)
    have HBR55 := Lib.hid (show Blk w55 bR 36 #[.int .i64 p.m.ki, .int .i64 p.m.a, .int .i64 p.m.b, .int .i64 p.m.c] by rw [hw]; exact Blk.row HBR54.out _)
    have HBQ55 := Lib.hid (show Blk w55 q 88 #[.int .i64 k.c.ca, .int .i64 k.c.fl, .int .i64 k.c.ft, .int .i64 k.c.se, .int .i64 k.c.dr, .int .i64 k.c.dw, .int .i64 k.c.ho, .int .i64 k.c.re, .int .i64 k.c.yi, .int .i64 k.c.qu, .int .i64 k.c.qo, .int .i64 k.c.lo, .int .i64 k.c.sl, .int .i64 k.c.rt, .int .i64 k.c.cp, .int .i64 k.c.tr, .int .i64 k.c.de, .int .i64 k.c.wi, .int .i64 k.se, .int .i64 k.ep, .slice (some ⟨g, 0, none⟩) m c, .int .i64 (Se.nx k.sq), .int .i64 0, .int .i64 0, .int .i64 (Se.nx k.ak), .bool true, .int .i64 (mx2 k.he (cl now))] by rw [hw]; exact Blk.row_far HBQ54.out HNR.out _)
    have HFr_55 := Lib.hid (show (w55).ownsRow lo 36 4 (.slice (some ⟨g, 0, none⟩) m c) m (rowsOf msgC ls.tail) by rw [hw]; exact own_row_far HFr_54.out HIR.out _)
    clear hw HS54 HBP54 HBR54 HBQ54 HFr_54
    refine wpList_q (by rfl) (.bool true) ?he ?_
    case he => (first | rfl | (go_simp; (try with_reducible rfl)))
    (try simp only [Act.put, sA, sB, sC])
    refine wpList_nil ?_
    have hlen : ls.tail.length = m := by have q0 := H3.out; rw [List.length_tail]; omega
    (try go_wp2_with fail)
    exact bodyPost_ret (results_row2 rfl _ _ bR 36 #[.int .i64 p.m.ki, .int .i64 p.m.a, .int .i64 p.m.b, .int .i64 p.m.c] _ (.bool true) rfl rfl HBR55.out Try.underlying36 rfl (by kernel_rfl)) rfl ⟨rfl, ⟨H0.out, (some ⟨g, 0, none⟩), c, rfl, by rw [hlen]; exact HBQ55.out, by rw [hlen]; exact HFr_55.out⟩, HS55.out⟩
end Go.Proofs.Ytlihhjcneedgnaa.Ln
