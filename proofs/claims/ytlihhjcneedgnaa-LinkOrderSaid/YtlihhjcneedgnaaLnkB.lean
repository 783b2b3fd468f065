/-
  a link's Send and Poll, slices.Delete of messages: walked.
  Conditions: what stands ahead of each.
-/
import Derived.Test.YtlihhjcneedgnaaProg
import Derived.Test.YtlihhjcneedgnaaShort
import Derived.Test.YtlihhjcneedgnaaLnkA
namespace Go.Proofs.Ytlihhjcneedgnaa.Ln
set_option linter.unusedVariables false
set_option linter.unusedSimpArgs false
open Go.RowKit Go.Proofs.Ytlihhjcneedgnaa.Ba Go.Proofs.Ytlihhjcneedgnaa.Mem Go.Proofs.Ytlihhjcneedgnaa.Ty Go.Proofs.Ytlihhjcneedgnaa.Tm Go.Proofs.Ytlihhjcneedgnaa.Tw
theorem msgs_one (ls : List MsgV) : ∀ u ∈ rowsOf msgC ls, u.oneCell' = true := rowsOf_one' msgC_one ls
set_option maxRecDepth 100000
attribute [local irreducible] Go.wpList
set_option maxHeartbeats 4000000 in
theorem deleteT (lo g m c i : Nat) (ls : List MsgV) (w : World) (hO : w.ownsRow lo 36 4 (.slice (some ⟨g, 0, none⟩) (m + 1) c) (m + 1) (rowsOf msgC ls)) (hl : ls.length = m + 1) (hi : i ≤ m) (hc : m + 1 ≤ c) (hm : m + 1 ≤ 1000000) : Calls Try.prog 59 #[.slice (some ⟨g, 0, none⟩) (m + 1) c, .int .i64 (i : Int), .int .i64 ((i : Int) + 1)] w fun e w' => e = .returned (.slice (some ⟨g, 0, none⟩) m c) ∧ w'.ownsRow lo 36 4 (.slice (some ⟨g, 0, none⟩) m c) m (rowsOf msgC (ls.eraseIdx i)) ∧ Upd [g] w w' := by
  have HOW := Lib.hid hO
  clear hO
  have HL := Lib.hid hl
  clear hl
  have HI := Lib.hid hi
  clear hi
  have HC := Lib.hid hc
  clear hc
  have HM := Lib.hid hm
  clear hm
  go_enter Try.func59, Try.ntmps59
  go_upto_region 1 with fail
  have HS1 := Lib.hid (Upd.refl [g] w)
  refine wp_region_lit ?_
  refine tkL (.slice (some ⟨g, 0, none⟩) (m + 1) c) (h := ?_)
  (try simp only [Act.put, sA, sB, sC])
  refine tkL (.int .i64 (i : Int)) (h := ?_)
  (try simp only [Act.put, sA, sB, sC])
  refine tkL (.int .i64 ((i : Int) + 1)) (h := ?_)
  (try simp only [Act.put, sA, sB, sC])
  refine tkL (.slice (some ⟨g, 0, none⟩) (m + 1) c) (h := ?_)
  (try simp only [Act.put, sA, sB, sC])
  refine tkL (.int .i64 ((m + 1 : Nat) : Int)) (h := ?_)
  (try simp only [Act.put, sA, sB, sC])
  refine wpList_q (by rfl) (.slice (cutA (m + 1) i (some ⟨g, 0, none⟩ : Option Addr) 4) (i + 1 - i) (m + 1 - i)) ?he ?_
  case he => exact exec_slice (s := 4) 86 36 _ _ _ _ rfl rfl Try.underlying86 (by kernel_rfl) (sb_lhm _ _ _ _ (l := i) (h := i + 1) (m := m + 1) rfl (by push_cast; rfl) rfl (by omega) (by have q0 := HI.out; omega) HC.out) (by rfl) rfl rfl
  (try simp only [Act.put, sA, sB, sC])
  refine wpList_nil ?_
  go_upto_region 2 with fail
  refine wp_region_lit ?_
  refine tkL (.int .i64 (i : Int)) (h := ?_)
  (try simp only [Act.put, sA, sB, sC])
  refine tkL (.int .i64 ((i : Int) + 1)) (h := ?_)
  (try simp only [Act.put, sA, sB, sC])
  refine wpList_q (by rfl) (.bool false) ?he ?_
  case he => (go_simp; (first | done | rfl | omega))
  (try simp only [Act.put, sA, sB, sC])
  refine wpList_nil ?_
  go_upto_region 4 with fail
  refine wp_region_lit ?_
  refine tkL (.slice (some ⟨g, 0, none⟩) (m + 1) c) (h := ?_)
  (try simp only [Act.put, sA, sB, sC])
  refine tkL (.int .i64 ((m + 1 : Nat) : Int)) (h := ?_)
  (try simp only [Act.put, sA, sB, sC])
  refine tkL (.int .i64 ((m + 1 : Nat) : Int)) (h := ?_)
  (try simp only [Act.put, sA, sB, sC])
  refine wpList_nil ?_
  go_upto_region 5 with fail
  have HKS : Hid (KeepS (fun W : World => Upd [g] w W) w) := Lib.hid ⟨fun W W' k h => h.trans k, HS1.out⟩
  have HRK := Lib.hid HKS.out.1
  have HEr := Lib.hid (show ((World.drew w)).ownsRow lo 36 4 (.slice (some ⟨g, 0, none⟩) (m + 1) c) (m + 1) (rowsOf msgC ls) from HOW.out)
  clear HOW
  refine wp_held HKS.out (by kernel_rfl) (fun hHeld => ?_)
  refine tkQ 0 (.slice (some ⟨g, 0, none⟩) (m + 1) c) hHeld (h := ?_)
  (try simp only [Act.put, sA, sB, sC])
  refine tkQ 1 (.int .i64 (i : Int)) hHeld (h := ?_)
  (try simp only [Act.put, sA, sB, sC])
  refine tkQ 2 (.slice (some ⟨g, 0, none⟩) i c) hHeld (he := by intro w hSw; exact exec_slice (s := 4) 86 36 _ _ _ _ rfl rfl Try.underlying86 (by kernel_rfl) (sb_h _ _ (h := i) rfl (by have q0 := HI.out; have q1 := HC.out; omega)) (by split <;> simp [Addr.add]) rfl rfl) (h := ?_)
  (try simp only [Act.put, sA, sB, sC])
  refine tkQ 3 (.slice (some ⟨g, 0, none⟩) (m + 1) c) hHeld (h := ?_)
  (try simp only [Act.put, sA, sB, sC])
  refine tkQ 4 (.int .i64 ((i : Int) + 1)) hHeld (h := ?_)
  (try simp only [Act.put, sA, sB, sC])
  refine tkQ 5 (.slice (cutA c (i + 1) (some ⟨g, 0, none⟩ : Option Addr) 4) (m + 1 - (i + 1)) (c - (i + 1))) hHeld (he := by intro w hSw; exact exec_slice (s := 4) 86 36 _ _ _ _ rfl rfl Try.underlying86 (by kernel_rfl) (sb_l _ _ (l := i + 1) (by push_cast; rfl) (by have q0 := HI.out; omega)) (by rfl) rfl rfl) (h := ?_)
  (try simp only [Act.put, sA, sB, sC])
  refine wpAnyH_ready (rs := [6]) (by kernel_rfl) (by simp) ?_
  refine AllReadyH.cons (o := ?o5__6) ?h5__6 (fun K hK => ?_) AllReadyH.nil
  case h5__6 => (first | (simp only [gA, gB, gC]; done) | (simp only [gA, gB, gC]; exact rfl))
  rw [if_pos (by rfl)]
  refine wp_append_room (.tmp 22) (.tmp 25) 86 rfl lo 36 4 Try.underlying86 (by kernel_rfl) g i c ((rowsOf msgC ls).take (i * 4)) rfl (own_prefix HEr.out (by have q0 := HI.out; omega)) _ (cutA c (i + 1) (some ⟨g, 0, none⟩ : Option Addr) 4) (m + 1 - (i + 1)) (c - (i + 1)) ((rowsOf msgC ls).drop ((i + 1) * 4)) rfl (reads_cut (own_reads HEr.out) (by have q0 := HI.out; omega) HC.out) (fun u hu => msgs_one ls u (List.mem_of_mem_drop hu)) (by have q0 := HI.out; have q1 := HC.out; omega) m (rowsOf msgC (ls.eraseIdx i)) (by have q0 := HI.out; omega) (erase_rows msgC_len (by have q0 := HI.out; have q2 := HL.out; omega)) ?_
  intro w2 hown hupd
  skip
  have hHeld3 := HKS.out.at_ w2 (Upd.comp hHeld hupd (fun _ h => .inl h))
  have HOW_w2 := Lib.hid hown
  refine hK.out _ _ hHeld3 (fun hHeld2 => ?_)
  clear hK K hHeld hHeld3 hupd hown  HEr 
  have hHeld := hHeld2
  clear hHeld2
  (try simp only [Act.put, sA, sB, sC])
  refine tkQ 7 (.slice (some ⟨g, 0, none⟩) m c) hHeld (h := ?_)
  (try simp only [Act.put, sA, sB, sC])
  refine wpAnyH_done (by kernel_rfl) ?_ _
  have HSd5 := Lib.hid hHeld
  clear hHeld HRK HKS HS1 
  have HFrd5 := Lib.hid HOW_w2.out
  clear HOW_w2
  go_upto_region 6 with fail
  refine wp_region_lit ?_
  refine tkL (.slice (some ⟨g, 0, none⟩) m c) (h := ?_)
  (try simp only [Act.put, sA, sB, sC])
  refine tkL (.slice (some ⟨g, 0, none⟩) m c) (h := ?_)
  (try simp only [Act.put, sA, sB, sC])
  refine tkL (.int .i64 (m : Int)) (h := ?_)
  (try simp only [Act.put, sA, sB, sC])
  refine tkL (.int .i64 ((m + 1 : Nat) : Int)) (h := ?_)
  (try simp only [Act.put, sA, sB, sC])
  refine wpList_q (by rfl) (.slice (some ⟨g, m * 4, none⟩) 1 (c - m)) ?he ?_
  case he => exact exec_slice (s := 4) 86 36 _ _ _ _ rfl rfl Try.underlying86 (by kernel_rfl) (sb_lh _ _ _ (l := m) (h := m + 1) rfl rfl (by omega) HC.out) (by have q1 := HC.out; rw [if_neg (by omega)]; simp [Go.WideShapes.add_plain]) (by omega) rfl
  (try simp only [Act.put, sA, sB, sC])
  refine wpList_wp (by rfl) (fun K hK => ?_)
  refine wp_clear_behind _ 86 rfl lo 36 (Value.agg #[.int .i64 0, .int .i64 0, .int .i64 0, .int .i64 0]) 4 32 Try.underlying86 (by kernel_rfl) rfl (by intro u hu; simp [Value.cells] at hu; (try rcases hu with rfl | rfl | rfl | rfl) <;> rfl) g m c _ HFrd5.out 1 (c - m) (by decide) HC.out rfl ?_
  intro w3 hown hupd
  refine hK.out _ _ ?_
  clear hK K
  (try simp only [Act.put, sA, sB, sC])
  have HSz := Lib.hid (Upd.comp HSd5.out hupd (fun _ h => .inl h))
  have HOWz := Lib.hid hown
  clear hown hupd HSd5 HFrd5
  refine wpList_nil ?_
  go_upto_region 7 with fail
  refine wp_region_lit ?_
  refine tkL (.slice (some ⟨g, 0, none⟩) m c) (h := ?_)
  (try simp only [Act.put, sA, sB, sC])
  refine tkL (.slice (some ⟨g, 0, none⟩) m c) (h := ?_)
  (try simp only [Act.put, sA, sB, sC])
  refine wpList_nil ?_
  (try go_wp2_with fail)
  go_ret
  exact ⟨rfl, HOWz.out, HSz.out⟩
set_option maxHeartbeats 4000000 in
theorem sendFull (lo q : Nat) (k : LkV) (ls : List MsgV) (A : Option Addr) (c : Nat) (m : MsgV) (w : World) (hb : Blk w q 88 (lkC k (.slice A ls.length c))) (ho : w.ownsRow lo 36 4 (.slice A ls.length c) ls.length (rowsOf msgC ls)) (hl : ls.length ≤ 10000) (hw : winV k.c ≤ (ls.length : Int)) : Calls Try.prog 14 #[.pointer (some ⟨q, 0, none⟩), .agg #[.int .i64 m.ki, .int .i64 m.a, .int .i64 m.b, .int .i64 m.c]] w fun e w' => e = .returned (.bool false) ∧ Since w w' := by
  have HBQ := Lib.hid (show Blk w q 88 #[.int .i64 k.c.ca, .int .i64 k.c.fl, .int .i64 k.c.ft, .int .i64 k.c.se, .int .i64 k.c.dr, .int .i64 k.c.dw, .int .i64 k.c.ho, .int .i64 k.c.re, .int .i64 k.c.yi, .int .i64 k.c.qu, .int .i64 k.c.qo, .int .i64 k.c.lo, .int .i64 k.c.sl, .int .i64 k.c.rt, .int .i64 k.c.cp, .int .i64 k.c.tr, .int .i64 k.c.de, .int .i64 k.c.wi, .int .i64 k.se, .int .i64 k.ep, .slice A ls.length c, .int .i64 k.sq, .int .i64 k.st, .int .i64 k.du, .int .i64 k.ak, .bool k.an, .int .i64 k.he] from hb)
  clear hb
  have HOW := Lib.hid ho
  clear ho
  have HL := Lib.hid hl
  clear hl
  have HW := Lib.hid hw
  clear hw
  go_enter Try.func14, Try.ntmps14
  go_upto_region 1 with fail
  obtain ⟨w1, hw1⟩ : ∃ w1, w1 = (w.alloc (.cells #[.int .i64 m.ki, .int .i64 m.a, .int .i64 m.b, .int .i64 m.c] 36)) := ⟨_, rfl⟩
  rw [← hw1]
  have HBM1 := Lib.hid (show Blk w1 (w.heap.size) 36 #[.int .i64 m.ki, .int .i64 m.a, .int .i64 m.b, .int .i64 m.c] by rw [hw1]; exact Blk.at_ (by (try simp only [size_alloc])) _ _)
  have HS1 := Lib.hid (show Since w w1 by rw [hw1]; exact Since.alloc (Since.refl w) _)
  have hNE : w.heap.size ≤ w.heap.size := by omega
  have HNE := Lib.hid hNE
  clear hNE hw1
  have HNE3 := Lib.hid (show w.heap.size ≤ w.heap.size from HNE.out)
  clear HNE
  have HBQ1 := Lib.hid (keep_blk HS1.out HBQ.out)
  have HOW1 := Lib.hid (keep_own HS1.out HOW.out)
  have HIQ := Lib.hid (own_ne_ty HOW.out HBQ.out (by decide))
  have HLO := Lib.hid (show q < w.heap.size from Blk.lt HBQ.out)
  have HIM := Lib.hid (own_far HOW.out (show w.heap.size ≤ w.heap.size by have := HNE3.out; omega))
  have HNM := Lib.hid (show q ≠ w.heap.size by have := HLO.out; have := HNE3.out; omega)
  clear HBQ HOW
  have HKS : Hid (KeepS (fun W : World => Since w W ∧ Blk W w.heap.size 36 #[.int .i64 m.ki, .int .i64 m.a, .int .i64 m.b, .int .i64 m.c] ∧ Blk W q 88 #[.int .i64 k.c.ca, .int .i64 k.c.fl, .int .i64 k.c.ft, .int .i64 k.c.se, .int .i64 k.c.dr, .int .i64 k.c.dw, .int .i64 k.c.ho, .int .i64 k.c.re, .int .i64 k.c.yi, .int .i64 k.c.qu, .int .i64 k.c.qo, .int .i64 k.c.lo, .int .i64 k.c.sl, .int .i64 k.c.rt, .int .i64 k.c.cp, .int .i64 k.c.tr, .int .i64 k.c.de, .int .i64 k.c.wi, .int .i64 k.se, .int .i64 k.ep, .slice A ls.length c, .int .i64 k.sq, .int .i64 k.st, .int .i64 k.du, .int .i64 k.ak, .bool k.an, .int .i64 k.he] ∧ (W).ownsRow lo 36 4 (.slice A ls.length c) ls.length (rowsOf msgC ls)) w1) := Lib.hid ⟨fun W W' k ⟨h, h0, h1, h2⟩ => ⟨h.trans k, keep_blk k h0, keep_blk k h1, keep_own k h2⟩, ⟨HS1.out, HBM1.out, HBQ1.out, HOW1.out⟩⟩
  have HRK := Lib.hid HKS.out.1
  refine wp_held HKS.out (by kernel_rfl) (fun hHeld => ?_)
  refine tkQ 0 (.pointer (some ⟨q, 0, none⟩)) hHeld (h := ?_)
  (try simp only [Act.put, sA, sB, sC])
  refine tkQ 1 (.bool false) hHeld (h := ?_)
  (try simp only [Act.put, sA, sB, sC])
  refine tkQ 2 (.bool false) hHeld (h := ?_)
  (try simp only [Act.put, sA, sB, sC])
  refine tkQ 3 (.pointer (some ⟨q, 0, none⟩)) hHeld (h := ?_)
  (try simp only [Act.put, sA, sB, sC])
  refine tkQ 4 (.pointer (some ⟨q, 0, none⟩)) hHeld (h := ?_)
  (try simp only [Act.put, sA, sB, sC])
  refine tkQ 5 (.pointer (some ⟨q, 20, none⟩)) hHeld (h := ?_)
  (try simp only [Act.put, sA, sB, sC])
  refine tkQ 6 (.slice A ls.length c) hHeld (he := by intro w hSw; exact exec_cell 86 _ _ hSw.2.2.1 rfl rfl rfl Try.underlying86 rfl) (h := ?_)
  (try simp only [Act.put, sA, sB, sC])
  refine tkQ 7 (.int .i64 (ls.length : Int)) hHeld (h := ?_)
  (try simp only [Act.put, sA, sB, sC])
  refine tkQ 8 (.pointer (some ⟨q, 0, none⟩)) hHeld (h := ?_)
  (try simp only [Act.put, sA, sB, sC])
  refine wpAnyH_ready (rs := [9]) (by kernel_rfl) (by simp) ?_
  refine AllReadyH.cons (o := ?o1__9) ?h1__9 (fun K hK => ?_) AllReadyH.nil
  case h1__9 => (first | (simp only [gA, gB, gC]; done) | (simp only [gA, gB, gC]; exact rfl))
  (try go_simp)
  refine (winT q k A ls.length c _ (show Blk _ q 88 (lkC k (.slice A ls.length c)) from (hHeld.2.2.1))).mono ?_
  rintro e w2 ⟨rfl, hb⟩
  (try go_wp2_with fail)
  refine hK.out _ _ (by (apply HRK.out; exact hb; exact hHeld)) (fun hHeld2 => ?_)
  clear hK K hHeld hb
  have hHeld := hHeld2
  clear hHeld2
  (try simp only [Act.put, sA, sB, sC])
  refine tkQ 10 (.bool true) hHeld (he := by intro w hSw; (have q0 := HW.out; go_simp; (first | done | rfl | omega))) (h := ?_)
  (try simp only [Act.put, sA, sB, sC])
  refine tkQ 11 (.bool true) hHeld (h := ?_)
  (try simp only [Act.put, sA, sB, sC])
  refine wpAnyH_done (by kernel_rfl) ?_ _
  have HSd1 := Lib.hid hHeld.1
  have HBMd1 := Lib.hid (hHeld.2.1)
  have HBQd1 := Lib.hid (hHeld.2.2.1)
  have HFrd1 := Lib.hid (hHeld.2.2.2)
  clear hHeld HRK HKS HS1 HBM1 HBQ1 HOW1
  go_upto_region 2 with fail
  refine wp_region_lit ?_
  refine tkL (.bool false) (h := ?_)
  (try simp only [Act.put, sA, sB, sC])
  refine wpList_nil ?_
  (try go_wp2_with fail)
  go_ret
  exact ⟨rfl, HSd1.out⟩
set_option maxHeartbeats 4000000 in
theorem sendOk (lo q : Nat) (k : LkV) (ls : List MsgV) (A : Option Addr) (c : Nat) (m : MsgV) (w : World) (hb : Blk w q 88 (lkC k (.slice A ls.length c))) (ho : w.ownsRow lo 36 4 (.slice A ls.length c) ls.length (rowsOf msgC ls)) (hl : ls.length ≤ 10000) (hw : ¬ winV k.c ≤ (ls.length : Int)) (h0 : lo ≤ q) : Calls Try.prog 14 #[.pointer (some ⟨q, 0, none⟩), .agg #[.int .i64 m.ki, .int .i64 m.a, .int .i64 m.b, .int .i64 m.c]] w fun e w' => e = .returned (.bool true) ∧ ∃ S', LO lo q k (ls ++ [m]) S' w' ∧ Upd (q :: blkOf A) w w' ∧ ∀ g ∈ S', g ∈ q :: blkOf A ∨ w.heap.size ≤ g := by
  have HBQ := Lib.hid (show Blk w q 88 #[.int .i64 k.c.ca, .int .i64 k.c.fl, .int .i64 k.c.ft, .int .i64 k.c.se, .int .i64 k.c.dr, .int .i64 k.c.dw, .int .i64 k.c.ho, .int .i64 k.c.re, .int .i64 k.c.yi, .int .i64 k.c.qu, .int .i64 k.c.qo, .int .i64 k.c.lo, .int .i64 k.c.sl, .int .i64 k.c.rt, .int .i64 k.c.cp, .int .i64 k.c.tr, .int .i64 k.c.de, .int .i64 k.c.wi, .int .i64 k.se, .int .i64 k.ep, .slice A ls.length c, .int .i64 k.sq, .int .i64 k.st, .int .i64 k.du, .int .i64 k.ak, .bool k.an, .int .i64 k.he] from hb)
  clear hb
  have HOW := Lib.hid ho
  clear ho
  have HL := Lib.hid hl
  clear hl
  have HW := Lib.hid hw
  clear hw
  have H0 := Lib.hid h0
  clear h0
  go_enter Try.func14, Try.ntmps14
  go_upto_region 1 with fail
  obtain ⟨w1, hw1⟩ : ∃ w1, w1 = (w.alloc (.cells #[.int .i64 m.ki, .int .i64 m.a, .int .i64 m.b, .int .i64 m.c] 36)) := ⟨_, rfl⟩
  rw [← hw1]
  have HBM1 := Lib.hid (show Blk w1 (w.heap.size) 36 #[.int .i64 m.ki, .int .i64 m.a, .int .i64 m.b, .int .i64 m.c] by rw [hw1]; exact Blk.at_ (by (try simp only [size_alloc])) _ _)
  have HS1 := Lib.hid (show Since w w1 by rw [hw1]; exact Since.alloc (Since.refl w) _)
  have hNE : w.heap.size ≤ w.heap.size := by omega
  have HNE := Lib.hid hNE
  clear hNE hw1
  have HNE3 := Lib.hid (show w.heap.size ≤ w.heap.size from HNE.out)
  clear HNE
  have HBQ1 := Lib.hid (keep_blk HS1.out HBQ.out)
  have HOW1 := Lib.hid (keep_own HS1.out HOW.out)
  have HIQ := Lib.hid (own_ne_ty HOW.out HBQ.out (by decide))
  have HLO := Lib.hid (show q < w.heap.size from Blk.lt HBQ.out)
  have HIM := Lib.hid (own_far HOW.out (show w.heap.size ≤ w.heap.size by have := HNE3.out; omega))
  have HNM := Lib.hid (show q ≠ w.heap.size by have := HLO.out; have := HNE3.out; omega)
  clear HBQ HOW
  have HKS : Hid (KeepS (fun W : World => Since w W ∧ Blk W w.heap.size 36 #[.int .i64 m.ki, .int .i64 m.a, .int .i64 m.b, .int .i64 m.c] ∧ Blk W q 88 #[.int .i64 k.c.ca, .int .i64 k.c.fl, .int .i64 k.c.ft, .int .i64 k.c.se, .int .i64 k.c.dr, .int .i64 k.c.dw, .int .i64 k.c.ho, .int .i64 k.c.re, .int .i64 k.c.yi, .int .i64 k.c.qu, .int .i64 k.c.qo, .int .i64 k.c.lo, .int .i64 k.c.sl, .int .i64 k.c.rt, .int .i64 k.c.cp, .int .i64 k.c.tr, .int .i64 k.c.de, .int .i64 k.c.wi, .int .i64 k.se, .int .i64 k.ep, .slice A ls.length c, .int .i64 k.sq, .int .i64 k.st, .int .i64 k.du, .int .i64 k.ak, .bool k.an, .int .i64 k.he] ∧ (W).ownsRow lo 36 4 (.slice A ls.length c) ls.length (rowsOf msgC ls)) w1) := Lib.hid ⟨fun W W' k ⟨h, h0, h1, h2⟩ => ⟨h.trans k, keep_blk k h0, keep_blk k h1, keep_own k h2⟩, ⟨HS1.out, HBM1.out, HBQ1.out, HOW1.out⟩⟩
  have HRK := Lib.hid HKS.out.1
  refine wp_held HKS.out (by kernel_rfl) (fun hHeld => ?_)
  refine tkQ 0 (.pointer (some ⟨q, 0, none⟩)) hHeld (h := ?_)
  (try simp only [Act.put, sA, sB, sC])
  refine tkQ 1 (.bool false) hHeld (h := ?_)
  (try simp only [Act.put, sA, sB, sC])
  refine tkQ 2 (.bool false) hHeld (h := ?_)
  (try simp only [Act.put, sA, sB, sC])
  refine tkQ 3 (.pointer (some ⟨q, 0, none⟩)) hHeld (h := ?_)
  (try simp only [Act.put, sA, sB, sC])
  refine tkQ 4 (.pointer (some ⟨q, 0, none⟩)) hHeld (h := ?_)
  (try simp only [Act.put, sA, sB, sC])
  refine tkQ 5 (.pointer (some ⟨q, 20, none⟩)) hHeld (h := ?_)
  (try simp only [Act.put, sA, sB, sC])
  refine tkQ 6 (.slice A ls.length c) hHeld (he := by intro w hSw; exact exec_cell 86 _ _ hSw.2.2.1 rfl rfl rfl Try.underlying86 rfl) (h := ?_)
  (try simp only [Act.put, sA, sB, sC])
  refine tkQ 7 (.int .i64 (ls.length : Int)) hHeld (h := ?_)
  (try simp only [Act.put, sA, sB, sC])
  refine tkQ 8 (.pointer (some ⟨q, 0, none⟩)) hHeld (h := ?_)
  (try simp only [Act.put, sA, sB, sC])
  refine wpAnyH_ready (rs := [9]) (by kernel_rfl) (by simp) ?_
  refine AllReadyH.cons (o := ?o1__9) ?h1__9 (fun K hK => ?_) AllReadyH.nil
  case h1__9 => (first | (simp only [gA, gB, gC]; done) | (simp only [gA, gB, gC]; exact rfl))
  (try go_simp)
  refine (winT q k A ls.length c _ (show Blk _ q 88 (lkC k (.slice A ls.length c)) from (hHeld.2.2.1))).mono ?_
  rintro e w2 ⟨rfl, hb⟩
  (try go_wp2_with fail)
  refine hK.out _ _ (by (apply HRK.out; exact hb; exact hHeld)) (fun hHeld2 => ?_)
  clear hK K hHeld hb
  have hHeld := hHeld2
  clear hHeld2
  (try simp only [Act.put, sA, sB, sC])
  refine tkQ 10 (.bool false) hHeld (he := by intro w hSw; (have q0 := HW.out; go_simp; (first | done | rfl | omega))) (h := ?_)
  (try simp only [Act.put, sA, sB, sC])
  refine tkQ 11 (.bool false) hHeld (h := ?_)
  (try simp only [Act.put, sA, sB, sC])
  refine wpAnyH_done (by kernel_rfl) ?_ _
  have HSd1 := Lib.hid hHeld.1
  have HBMd1 := Lib.hid (hHeld.2.1)
  have HBQd1 := Lib.hid (hHeld.2.2.1)
  have HFrd1 := Lib.hid (hHeld.2.2.2)
  clear hHeld HRK HKS HS1 HBM1 HBQ1 HOW1
  have HSU := Lib.hid (show Upd (q :: blkOf A) w w2 from Upd.of_since HSd1.out)
  clear HSd1
  go_upto_region 3 with fail
  have HKS : Hid (KeepS (fun W : World => Upd (q :: blkOf A) w W ∧ Blk W w.heap.size 36 #[.int .i64 m.ki, .int .i64 m.a, .int .i64 m.b, .int .i64 m.c] ∧ HasRow W q 88 27) w2) := Lib.hid ⟨fun W W' k ⟨h, h0, h1⟩ => ⟨h.trans k, keep_blk k h0, HasRow.keep k h1⟩, ⟨HSU.out, HBMd1.out, HasRow.of HBQd1.out rfl⟩⟩
  have HRK := Lib.hid HKS.out.1
  have HPQ := Lib.hid (show Blk (World.drew w2) q 88 #[.int .i64 k.c.ca, .int .i64 k.c.fl, .int .i64 k.c.ft, .int .i64 k.c.se, .int .i64 k.c.dr, .int .i64 k.c.dw, .int .i64 k.c.ho, .int .i64 k.c.re, .int .i64 k.c.yi, .int .i64 k.c.qu, .int .i64 k.c.qo, .int .i64 k.c.lo, .int .i64 k.c.sl, .int .i64 k.c.rt, .int .i64 k.c.cp, .int .i64 k.c.tr, .int .i64 k.c.de, .int .i64 k.c.wi, .int .i64 k.se, .int .i64 k.ep, .slice A ls.length c, .int .i64 k.sq, .int .i64 k.st, .int .i64 k.du, .int .i64 k.ak, .bool k.an, .int .i64 k.he] from HBQd1.out)
  have HEr := Lib.hid (show ((World.drew w2)).ownsRow lo 36 4 (.slice A ls.length c) ls.length (rowsOf msgC ls) from HFrd1.out)
  clear HFrd1
  refine wp_held HKS.out (by kernel_rfl) (fun hHeld => ?_)
  refine tkQ 0 (.pointer (some ⟨q, 0, none⟩)) hHeld (h := ?_)
  (try simp only [Act.put, sA, sB, sC])
  refine tkQ 1 (.pointer (some ⟨q, 0, none⟩)) hHeld (h := ?_)
  (try simp only [Act.put, sA, sB, sC])
  refine tkQ 2 (.pointer (some ⟨q, 0, none⟩)) hHeld (h := ?_)
  (try simp only [Act.put, sA, sB, sC])
  refine tkQ 3 (.pointer (some ⟨q, 20, none⟩)) hHeld (h := ?_)
  (try simp only [Act.put, sA, sB, sC])
  refine tkQ 5 (.agg #[.int .i64 m.ki, .int .i64 m.a, .int .i64 m.b, .int .i64 m.c]) hHeld (he := by intro w hSw; exact exec_load_row 36 _ _ hSw.2.1 rfl rfl Try.underlying36 rfl (by kernel_rfl)) (h := ?_)
  (try simp only [Act.put, sA, sB, sC])
  refine wpAnyH_ready (rs := [4, 6]) (by kernel_rfl) (by simp) ?_
  refine AllReadyH.cons (o := ?o3__4b) ?h3__4b (fun K hK => ?g3__4b) (AllReadyH.cons (o := ?o3__6b) ?h3__6b (fun K hK => ?g3__6b) AllReadyH.nil)
  case h3__4b => (first | (simp only [gA, gB, gC]; done) | (simp only [gA, gB, gC]; exact rfl))
  case h3__6b => (first | (simp only [gA, gB, gC]; done) | (simp only [gA, gB, gC]; exact rfl))
  case g3__4b =>
    rw [if_pos (by rfl)]
    refine wp_q (.slice A ls.length c) ?e3_b4_4 ?_
    case e3_b4_4 => exact exec_cell 86 _ _ HPQ.out rfl rfl rfl Try.underlying86 rfl
    refine hK.out _ _ hHeld (fun hHeld2 => ?_)
    clear hK K hHeld2
    (try simp only [Act.put, sA, sB, sC])
    refine wpAnyH_ready (rs := [6]) (by kernel_rfl) (by simp) ?_
    refine AllReadyH.cons (o := ?o3_b4_6) ?h3_b4_6 (fun K hK => ?_) AllReadyH.nil
    case h3_b4_6 => (first | (simp only [gA, gB, gC]; done) | (simp only [gA, gB, gC]; exact rfl))
    rw [if_pos (by rfl)]
    refine wp_new (fun b => .slice (some ⟨b, 0, none⟩) 1 1) 36 #[.int .i64 m.ki, .int .i64 m.a, .int .i64 m.b, .int .i64 m.c] (by rintro b rfl; first | rfl | kernel_rfl) ?_
    intro bn23 w3 hge hB hb
    refine hK.out _ _ (by (apply HRK.out; exact hb; exact hHeld)) (fun hHeld2 => ?_)
    have HPQk := Lib.hid (keep_blk hb HPQ.out)
    clear HPQ
    have HErk := Lib.hid (keep_own hb HEr.out)
    clear HEr
    have HNn23Q := Lib.hid (show bn23 ≠ q by obtain ⟨old, Bo, _⟩ := hHeld.2.2; have := Blk.lt Bo; omega)
    have HGn23 := Lib.hid (show w.heap.size ≤ bn23 by have := Upd.size hHeld.1; (try simp at this); (try simp at hge); omega)
    have HXn23 := Lib.hid hB
    clear hB
    clear hge
    clear hK K hHeld hb
    have hHeld := hHeld2
    clear hHeld2
    (try simp only [Act.put, sA, sB, sC])
    refine wpAnyH_ready (rs := [7]) (by kernel_rfl) (by simp) ?_
    refine AllReadyH.cons (o := ?o3_b4_7) ?h3_b4_7 (fun K hK => ?_) AllReadyH.nil
    case h3_b4_7 => (first | (simp only [gA, gB, gC]; done) | (simp only [gA, gB, gC]; exact rfl))
    rw [if_pos (by rfl)]
    refine wp_append_row (.tmp 21) (.tmp 23) 86 rfl lo 36 (Value.agg #[.int .i64 0, .int .i64 0, .int .i64 0, .int .i64 0]) 4 32 Try.underlying86 (by kernel_rfl) rfl (by decide) (by decide) A ls.length c (rowsOf msgC ls) rfl HErk.out _ (some ⟨bn23, 0, none⟩) 1 1 (msgC m) rfl (reads_blk (cs := msgC m) HXn23.out rfl) (msgC_one m) (by have := HL.out; omega) (by have q1 := HLO.out; have q2 := H0.out; have q3 := Upd.size hHeld.1; omega) ((ls ++ [m]).length) (rowsOf msgC (ls ++ [m])) (by simp) (by rw [rowsOf_append, rowsOf_one]) ?_
    intro A_1 c_1 w4 hown hupd hfar
    have hHeld3 := HKS.out.at_ w4 ⟨Upd.comp hHeld.1 hupd (fun _ h => .inl (List.mem_cons_of_mem _ h)), Upd.blk hupd (hHeld.2.1) HIM.out, HasRow.upd hupd (hHeld.2.2) HIQ.out⟩
    have HPQku := Lib.hid (Upd.blk hupd HPQk.out HIQ.out)
    have HIQ_r_1 := Lib.hid (nin_next hfar HIQ.out (Blk.lt HPQk.out))
    clear HPQk
    have HOW_w4 := Lib.hid hown
    have HFAR := Lib.hid (show ∀ g ∈ blkOf A_1, g ∈ blkOf A ∨ w.heap.size ≤ g from fun g hg => by have q := hfar g hg; rcases q with q | q; exact .inl q; exact .inr (Nat.le_trans (Upd.size hHeld.1) q))
    refine hK.out _ _ hHeld3 (fun hHeld2 => ?_)
    clear hK K hHeld hHeld3 hupd hown hfar HErk HXn23
    have hHeld := hHeld2
    clear hHeld2
    (try simp only [Act.put, sA, sB, sC])
    refine tkQ 8 (.pointer (some ⟨q, 0, none⟩)) hHeld (h := ?_)
    (try simp only [Act.put, sA, sB, sC])
    refine tkQ 9 (.pointer (some ⟨q, 20, none⟩)) hHeld (h := ?_)
    (try simp only [Act.put, sA, sB, sC])
    refine wpAnyH_ready (rs := [10]) (by kernel_rfl) (by simp) ?_
    refine AllReadyH.cons (o := ?o3_b4_10) ?h3_b4_10 (fun K hK => ?_) AllReadyH.nil
    case h3_b4_10 => (first | (simp only [gA, gB, gC]; done) | (simp only [gA, gB, gC]; exact rfl))
    rw [if_pos (by rfl)]
    refine wp_st_cell 86 _ _ rfl #[.int .i64 k.c.ca, .int .i64 k.c.fl, .int .i64 k.c.ft, .int .i64 k.c.se, .int .i64 k.c.dr, .int .i64 k.c.dw, .int .i64 k.c.ho, .int .i64 k.c.re, .int .i64 k.c.yi, .int .i64 k.c.qu, .int .i64 k.c.qo, .int .i64 k.c.lo, .int .i64 k.c.sl, .int .i64 k.c.rt, .int .i64 k.c.cp, .int .i64 k.c.tr, .int .i64 k.c.de, .int .i64 k.c.wi, .int .i64 k.se, .int .i64 k.ep, .slice A_1 ((ls ++ [m]).length) c_1, .int .i64 k.sq, .int .i64 k.st, .int .i64 k.du, .int .i64 k.ak, .bool k.an, .int .i64 k.he] (.slice A_1 ((ls ++ [m]).length) c_1) rfl rfl HPQku.out (by show 20 < 27; decide) rfl (by first | rfl | simp [Value.oneCell']) (by kernel_rfl) ?_
    clear HPQku
    intro w5 hw
    have HOW_w4r := Lib.hid (show (w5).ownsRow lo 36 4 (.slice A_1 ((ls ++ [m]).length) c_1) ((ls ++ [m]).length) (rowsOf msgC (ls ++ [m])) by rw [hw]; exact own_row_far HOW_w4.out HIQ_r_1.out _)
    clear HOW_w4
    have HRQ := Lib.hid (show Blk w5 q 88 #[.int .i64 k.c.ca, .int .i64 k.c.fl, .int .i64 k.c.ft, .int .i64 k.c.se, .int .i64 k.c.dr, .int .i64 k.c.dw, .int .i64 k.c.ho, .int .i64 k.c.re, .int .i64 k.c.yi, .int .i64 k.c.qu, .int .i64 k.c.qo, .int .i64 k.c.lo, .int .i64 k.c.sl, .int .i64 k.c.rt, .int .i64 k.c.cp, .int .i64 k.c.tr, .int .i64 k.c.de, .int .i64 k.c.wi, .int .i64 k.se, .int .i64 k.ep, .slice A_1 ((ls ++ [m]).length) c_1, .int .i64 k.sq, .int .i64 k.st, .int .i64 k.du, .int .i64 k.ak, .bool k.an, .int .i64 k.he] by obtain ⟨old, Bo, _⟩ := hHeld.2.2; rw [hw]; exact Blk.row Bo _)
    have hHeld3 := HKS.out.at_ w5 ⟨by rw [hw]; exact Upd.setRow hHeld.1 (.inl (by simp)) _, by rw [hw]; exact Blk.row_far (hHeld.2.1) (Ne.symm HNM.out) _, HasRow.of HRQ.out rfl⟩
    refine hK.out _ _ hHeld3 (fun hHeld2 => ?_)
    clear hK K hHeld hHeld3 hw
    have hHeld := hHeld2
    clear hHeld2
    (try simp only [Act.put, sA, sB, sC])
    refine wpAnyH_done (by kernel_rfl) ?_ _
    have HSd3 := Lib.hid hHeld.1
    have HBMd3 := Lib.hid (hHeld.2.1)
    have HBQd3 := Lib.hid HRQ.out
    clear HRQ
    clear hHeld HRK HKS HSU HBMd1 HBQd1
    have HFrd3 := Lib.hid HOW_w4r.out
    clear HOW_w4r
    go_upto_region 4 with fail
    refine wp_region_lit ?_
    refine tkL (.bool true) (h := ?_)
    (try simp only [Act.put, sA, sB, sC])
    refine wpList_nil ?_
    (try go_wp2_with fail)
    go_ret
    exact ⟨rfl, q :: blkOf A_1, ⟨H0.out, A_1, c_1, rfl, HBQd3.out, HFrd3.out⟩, HSd3.out, fun g hg => by rcases List.mem_cons.1 hg with rfl | hg; exact .inl (by simp); rcases HFAR.out g hg with h | h; exact .inl (List.mem_cons_of_mem _ h); exact .inr h⟩
  case g3__6b =>
    rw [if_pos (by rfl)]
    refine wp_new (fun b => .slice (some ⟨b, 0, none⟩) 1 1) 36 #[.int .i64 m.ki, .int .i64 m.a, .int .i64 m.b, .int .i64 m.c] (by rintro b rfl; first | rfl | kernel_rfl) ?_
    intro bn23 w3 hge hB hb
    refine hK.out _ _ (by (apply HRK.out; exact hb; exact hHeld)) (fun hHeld2 => ?_)
    have HPQk := Lib.hid (keep_blk hb HPQ.out)
    clear HPQ
    have HErk := Lib.hid (keep_own hb HEr.out)
    clear HEr
    have HNn23Q := Lib.hid (show bn23 ≠ q by obtain ⟨old, Bo, _⟩ := hHeld.2.2; have := Blk.lt Bo; omega)
    have HGn23 := Lib.hid (show w.heap.size ≤ bn23 by have := Upd.size hHeld.1; (try simp at this); (try simp at hge); omega)
    have HXn23 := Lib.hid hB
    clear hB
    clear hge
    clear hK K hHeld hb
    have hHeld := hHeld2
    clear hHeld2
    (try simp only [Act.put, sA, sB, sC])
    refine wpAnyH_ready (rs := [4]) (by kernel_rfl) (by simp) ?_
    refine AllReadyH.cons (o := ?o3_b6_4) ?h3_b6_4 (fun K hK => ?_) AllReadyH.nil
    case h3_b6_4 => (first | (simp only [gA, gB, gC]; done) | (simp only [gA, gB, gC]; exact rfl))
    rw [if_pos (by rfl)]
    refine wp_q (.slice A ls.length c) ?e3_b6_4 ?_
    case e3_b6_4 => exact exec_cell 86 _ _ HPQk.out rfl rfl rfl Try.underlying86 rfl
    refine hK.out _ _ hHeld (fun hHeld2 => ?_)
    clear hK K hHeld2
    (try simp only [Act.put, sA, sB, sC])
    refine wpAnyH_ready (rs := [7]) (by kernel_rfl) (by simp) ?_
    refine AllReadyH.cons (o := ?o3_b6_7) ?h3_b6_7 (fun K hK => ?_) AllReadyH.nil
    case h3_b6_7 => (first | (simp only [gA, gB, gC]; done) | (simp only [gA, gB, gC]; exact rfl))
    rw [if_pos (by rfl)]
    refine wp_append_row (.tmp 21) (.tmp 23) 86 rfl lo 36 (Value.agg #[.int .i64 0, .int .i64 0, .int .i64 0, .int .i64 0]) 4 32 Try.underlying86 (by kernel_rfl) rfl (by decide) (by decide) A ls.length c (rowsOf msgC ls) rfl HErk.out _ (some ⟨bn23, 0, none⟩) 1 1 (msgC m) rfl (reads_blk (cs := msgC m) HXn23.out rfl) (msgC_one m) (by have := HL.out; omega) (by have q1 := HLO.out; have q2 := H0.out; have q3 := Upd.size hHeld.1; omega) ((ls ++ [m]).length) (rowsOf msgC (ls ++ [m])) (by simp) (by rw [rowsOf_append, rowsOf_one]) ?_
    intro A_2 c_2 w4 hown hupd hfar
    have hHeld3 := HKS.out.at_ w4 ⟨Upd.comp hHeld.1 hupd (fun _ h => .inl (List.mem_cons_of_mem _ h)), Upd.blk hupd (hHeld.2.1) HIM.out, HasRow.upd hupd (hHeld.2.2) HIQ.out⟩
    have HPQku := Lib.hid (Upd.blk hupd HPQk.out HIQ.out)
    have HIQ_r_2 := Lib.hid (nin_next hfar HIQ.out (Blk.lt HPQk.out))
    clear HPQk
    have HOW_w4 := Lib.hid hown
    have HFAR := Lib.hid (show ∀ g ∈ blkOf A_2, g ∈ blkOf A ∨ w.heap.size ≤ g from fun g hg => by have q := hfar g hg; rcases q with q | q; exact .inl q; exact .inr (Nat.le_trans (Upd.size hHeld.1) q))
    refine hK.out _ _ hHeld3 (fun hHeld2 => ?_)
    clear hK K hHeld hHeld3 hupd hown hfar HErk HXn23
    have hHeld := hHeld2
    clear hHeld2
    (try simp only [Act.put, sA, sB, sC])
    refine tkQ 8 (.pointer (some ⟨q, 0, none⟩)) hHeld (h := ?_)
    (try simp only [Act.put, sA, sB, sC])
    refine tkQ 9 (.pointer (some ⟨q, 20, none⟩)) hHeld (h := ?_)
    (try simp only [Act.put, sA, sB, sC])
    refine wpAnyH_ready (rs := [10]) (by kernel_rfl) (by simp) ?_
    refine AllReadyH.cons (o := ?o3_b6_10) ?h3_b6_10 (fun K hK => ?_) AllReadyH.nil
    case h3_b6_10 => (first | (simp only [gA, gB, gC]; done) | (simp only [gA, gB, gC]; exact rfl))
    rw [if_pos (by rfl)]
    refine wp_st_cell 86 _ _ rfl #[.int .i64 k.c.ca, .int .i64 k.c.fl, .int .i64 k.c.ft, .int .i64 k.c.se, .int .i64 k.c.dr, .int .i64 k.c.dw, .int .i64 k.c.ho, .int .i64 k.c.re, .int .i64 k.c.yi, .int .i64 k.c.qu, .int .i64 k.c.qo, .int .i64 k.c.lo, .int .i64 k.c.sl, .int .i64 k.c.rt, .int .i64 k.c.cp, .int .i64 k.c.tr, .int .i64 k.c.de, .int .i64 k.c.wi, .int .i64 k.se, .int .i64 k.ep, .slice A_2 ((ls ++ [m]).length) c_2, .int .i64 k.sq, .int .i64 k.st, .int .i64 k.du, .int .i64 k.ak, .bool k.an, .int .i64 k.he] (.slice A_2 ((ls ++ [m]).length) c_2) rfl rfl HPQku.out (by show 20 < 27; decide) rfl (by first | rfl | simp [Value.oneCell']) (by kernel_rfl) ?_
    clear HPQku
    intro w5 hw
    have HOW_w4r := Lib.hid (show (w5).ownsRow lo 36 4 (.slice A_2 ((ls ++ [m]).length) c_2) ((ls ++ [m]).length) (rowsOf msgC (ls ++ [m])) by rw [hw]; exact own_row_far HOW_w4.out HIQ_r_2.out _)
    clear HOW_w4
    have HRQ := Lib.hid (show Blk w5 q 88 #[.int .i64 k.c.ca, .int .i64 k.c.fl, .int .i64 k.c.ft, .int .i64 k.c.se, .int .i64 k.c.dr, .int .i64 k.c.dw, .int .i64 k.c.ho, .int .i64 k.c.re, .int .i64 k.c.yi, .int .i64 k.c.qu, .int .i64 k.c.qo, .int .i64 k.c.lo, .int .i64 k.c.sl, .int .i64 k.c.rt, .int .i64 k.c.cp, .int .i64 k.c.tr, .int .i64 k.c.de, .int .i64 k.c.wi, .int .i64 k.se, .int .i64 k.ep, .slice A_2 ((ls ++ [m]).length) c_2, .int .i64 k.sq, .int .i64 k.st, .int .i64 k.du, .int .i64 k.ak, .bool k.an, .int .i64 k.he] by obtain ⟨old, Bo, _⟩ := hHeld.2.2; rw [hw]; exact Blk.row Bo _)
    have hHeld3 := HKS.out.at_ w5 ⟨by rw [hw]; exact Upd.setRow hHeld.1 (.inl (by simp)) _, by rw [hw]; exact Blk.row_far (hHeld.2.1) (Ne.symm HNM.out) _, HasRow.of HRQ.out rfl⟩
    refine hK.out _ _ hHeld3 (fun hHeld2 => ?_)
    clear hK K hHeld hHeld3 hw
    have hHeld := hHeld2
    clear hHeld2
    (try simp only [Act.put, sA, sB, sC])
    refine wpAnyH_done (by kernel_rfl) ?_ _
    have HSd3v2 := Lib.hid hHeld.1
    have HBMd3v2 := Lib.hid (hHeld.2.1)
    have HBQd3v2 := Lib.hid HRQ.out
    clear HRQ
    clear hHeld HRK HKS HSU HBMd1 HBQd1
    have HFrd3v2 := Lib.hid HOW_w4r.out
    clear HOW_w4r
    go_upto_region 4 with fail
    refine wp_region_lit ?_
    refine tkL (.bool true) (h := ?_)
    (try simp only [Act.put, sA, sB, sC])
    refine wpList_nil ?_
    (try go_wp2_with fail)
    go_ret
    exact ⟨rfl, q :: blkOf A_2, ⟨H0.out, A_2, c_2, rfl, HBQd3v2.out, HFrd3v2.out⟩, HSd3v2.out, fun g hg => by rcases List.mem_cons.1 hg with rfl | hg; exact .inl (by simp); rcases HFAR.out g hg with h | h; exact .inl (List.mem_cons_of_mem _ h); exact .inr h⟩
set_option maxHeartbeats 4000000 in
theorem pollNo (lo q : Nat) (k : LkV) (ls : List MsgV) (A : Option Addr) (c : Nat) (now : Int) (w : World) (hb : Blk w q 88 (lkC k (.slice A ls.length c))) (ho : w.ownsRow lo 36 4 (.slice A ls.length c) ls.length (rowsOf msgC ls)) (hl : ls.length ≤ 10000) (hd : dueB k ls.length now = false) (ha : k.an = false) : Calls Try.prog 15 #[.pointer (some ⟨q, 0, none⟩), .int .i64 now] w fun e w' => e = .returned (.tuple #[.agg #[.int .i64 0, .int .i64 0, .int .i64 0, .int .i64 0, .bool false, .int .i64 0, .int .i64 0, .int .i64 0, .int .i64 0], .bool false]) ∧ Since w w' := by
  have HBQ := Lib.hid (show Blk w q 88 #[.int .i64 k.c.ca, .int .i64 k.c.fl, .int .i64 k.c.ft, .int .i64 k.c.se, .int .i64 k.c.dr, .int .i64 k.c.dw, .int .i64 k.c.ho, .int .i64 k.c.re, .int .i64 k.c.yi, .int .i64 k.c.qu, .int .i64 k.c.qo, .int .i64 k.c.lo, .int .i64 k.c.sl, .int .i64 k.c.rt, .int .i64 k.c.cp, .int .i64 k.c.tr, .int .i64 k.c.de, .int .i64 k.c.wi, .int .i64 k.se, .int .i64 k.ep, .slice A ls.length c, .int .i64 k.sq, .int .i64 k.st, .int .i64 k.du, .int .i64 k.ak, .bool k.an, .int .i64 k.he] from hb)
  clear hb
  have HOW := Lib.hid ho
  clear ho
  have HL := Lib.hid hl
  clear hl
  have HD := Lib.hid hd
  clear hd
  have HA := Lib.hid ha
  clear ha
  go_enter Try.func15, Try.ntmps15
  go_upto_region 1 with fail
  obtain ⟨w1, hw1⟩ : ∃ w1, w1 = (w.alloc (.cells #[.int .i64 0, .int .i64 0, .int .i64 0, .int .i64 0, .bool false, .int .i64 0, .int .i64 0, .int .i64 0, .int .i64 0] 38)) := ⟨_, rfl⟩
  rw [← hw1]
  have HBR1 := Lib.hid (show Blk w1 (w.heap.size) 38 #[.int .i64 0, .int .i64 0, .int .i64 0, .int .i64 0, .bool false, .int .i64 0, .int .i64 0, .int .i64 0, .int .i64 0] by rw [hw1]; exact Blk.at_ (by (try simp only [size_alloc])) _ _)
  have HS1 := Lib.hid (show Since w w1 by rw [hw1]; exact Since.alloc (Since.refl w) _)
  have hNE : w.heap.size ≤ w.heap.size := by omega
  have HNE := Lib.hid hNE
  clear hNE hw1
  have HNE3 := Lib.hid (show w.heap.size ≤ w.heap.size from HNE.out)
  clear HNE
  have HBQ1 := Lib.hid (keep_blk HS1.out HBQ.out)
  have HOW1 := Lib.hid (keep_own HS1.out HOW.out)
  have HIQ := Lib.hid (own_ne_ty HOW.out HBQ.out (by decide))
  have HLO := Lib.hid (show q < w.heap.size from Blk.lt HBQ.out)
  have HIR := Lib.hid (own_far HOW.out (show w.heap.size ≤ w.heap.size by have := HNE3.out; omega))
  have HNR := Lib.hid (show q ≠ w.heap.size by have := HLO.out; have := HNE3.out; omega)
  clear HBQ HOW
  refine wp_region_lit ?_
  refine tkL (.pointer (some ⟨q, 0, none⟩)) (h := ?_)
  (try simp only [Act.put, sA, sB, sC])
  refine tkL (.bool false) (h := ?_)
  (try simp only [Act.put, sA, sB, sC])
  refine wpList_nil ?_
  go_upto_region 3 with fail
  have HKS : Hid (KeepS (fun W : World => Since w W ∧ Blk W w.heap.size 38 #[.int .i64 0, .int .i64 0, .int .i64 0, .int .i64 0, .bool false, .int .i64 0, .int .i64 0, .int .i64 0, .int .i64 0] ∧ Blk W q 88 #[.int .i64 k.c.ca, .int .i64 k.c.fl, .int .i64 k.c.ft, .int .i64 k.c.se, .int .i64 k.c.dr, .int .i64 k.c.dw, .int .i64 k.c.ho, .int .i64 k.c.re, .int .i64 k.c.yi, .int .i64 k.c.qu, .int .i64 k.c.qo, .int .i64 k.c.lo, .int .i64 k.c.sl, .int .i64 k.c.rt, .int .i64 k.c.cp, .int .i64 k.c.tr, .int .i64 k.c.de, .int .i64 k.c.wi, .int .i64 k.se, .int .i64 k.ep, .slice A ls.length c, .int .i64 k.sq, .int .i64 k.st, .int .i64 k.du, .int .i64 k.ak, .bool k.an, .int .i64 k.he] ∧ (W).ownsRow lo 36 4 (.slice A ls.length c) ls.length (rowsOf msgC ls)) w1) := Lib.hid ⟨fun W W' k ⟨h, h0, h1, h2⟩ => ⟨h.trans k, keep_blk k h0, keep_blk k h1, keep_own k h2⟩, ⟨HS1.out, HBR1.out, HBQ1.out, HOW1.out⟩⟩
  have HRK := Lib.hid HKS.out.1
  refine wp_held HKS.out (by kernel_rfl) (fun hHeld => ?_)
  refine tkQ 0 (.pointer (some ⟨q, 0, none⟩)) hHeld (h := ?_)
  (try simp only [Act.put, sA, sB, sC])
  refine tkQ 1 (.pointer (some ⟨q, 0, none⟩)) hHeld (h := ?_)
  (try simp only [Act.put, sA, sB, sC])
  refine tkQ 2 (.pointer (some ⟨q, 18, none⟩)) hHeld (h := ?_)
  (try simp only [Act.put, sA, sB, sC])
  refine tkQ 3 (.int .i64 k.se) hHeld (he := by intro w hSw; exact exec_cell 3 _ _ hSw.2.2.1 rfl rfl rfl Try.underlying3 rfl) (h := ?_)
  (try simp only [Act.put, sA, sB, sC])
  refine tkQ 4 (.pointer (some ⟨q, 0, none⟩)) hHeld (h := ?_)
  (try simp only [Act.put, sA, sB, sC])
  refine tkQ 5 (.pointer (some ⟨q, 0, none⟩)) hHeld (h := ?_)
  (try simp only [Act.put, sA, sB, sC])
  refine tkQ 6 (.pointer (some ⟨q, 19, none⟩)) hHeld (h := ?_)
  (try simp only [Act.put, sA, sB, sC])
  refine tkQ 7 (.int .i64 k.ep) hHeld (he := by intro w hSw; exact exec_cell 3 _ _ hSw.2.2.1 rfl rfl rfl Try.underlying3 rfl) (h := ?_)
  (try simp only [Act.put, sA, sB, sC])
  refine tkQ 8 (.pointer (some ⟨q, 0, none⟩)) hHeld (h := ?_)
  (try simp only [Act.put, sA, sB, sC])
  refine tkQ 9 (.pointer (some ⟨q, 0, none⟩)) hHeld (h := ?_)
  (try simp only [Act.put, sA, sB, sC])
  refine tkQ 10 (.pointer (some ⟨q, 21, none⟩)) hHeld (h := ?_)
  (try simp only [Act.put, sA, sB, sC])
  refine tkQ 11 (.int .i64 k.sq) hHeld (he := by intro w hSw; exact exec_cell 3 _ _ hSw.2.2.1 rfl rfl rfl Try.underlying3 rfl) (h := ?_)
  (try simp only [Act.put, sA, sB, sC])
  refine tkQ 12 (.pointer (some ⟨q, 0, none⟩)) hHeld (h := ?_)
  (try simp only [Act.put, sA, sB, sC])
  refine tkQ 13 (.pointer (some ⟨q, 0, none⟩)) hHeld (h := ?_)
  (try simp only [Act.put, sA, sB, sC])
  refine tkQ 14 (.pointer (some ⟨q, 24, none⟩)) hHeld (h := ?_)
  (try simp only [Act.put, sA, sB, sC])
  refine tkQ 15 (.int .i64 k.ak) hHeld (he := by intro w hSw; exact exec_cell 3 _ _ hSw.2.2.1 rfl rfl rfl Try.underlying3 rfl) (h := ?_)
  (try simp only [Act.put, sA, sB, sC])
  refine tkQ 16 (.agg #[.int .i64 k.se, .int .i64 k.ep, .int .i64 k.sq, .int .i64 k.ak, .bool false, .int .i64 0, .int .i64 0, .int .i64 0, .int .i64 0]) hHeld (he := by intro w hSw; kernel_rfl) (h := ?_)
  (try simp only [Act.put, sA, sB, sC])
  refine wpAnyH_ready (rs := [17]) (by kernel_rfl) (by simp) ?_
  refine AllReadyH.cons (o := ?o3__17) ?h3__17 (fun K hK => ?_) AllReadyH.nil
  case h3__17 => (first | (simp only [gA, gB, gC]; done) | (simp only [gA, gB, gC]; exact rfl))
  rw [if_pos (by rfl)]
  refine wp_new (fun b => .pointer (some ⟨b, 0, none⟩)) 38 #[.int .i64 0, .int .i64 0, .int .i64 0, .int .i64 0, .bool false, .int .i64 0, .int .i64 0, .int .i64 0, .int .i64 0] (by rintro b rfl; first | rfl | kernel_rfl) ?_
  intro bn6 w2 hge hB hb
  refine hK.out _ _ (by (apply HRK.out; exact hb; exact hHeld)) (fun hHeld2 => ?_)
  have HIn6_r := Lib.hid (own_far (hHeld.2.2.2) hge)
  have HNn6R := Lib.hid (show bn6 ≠ w.heap.size by have := Blk.lt (hHeld.2.1); (try simp at this); (try simp at hge); omega)
  have HNn6Q := Lib.hid (show bn6 ≠ q by have := Blk.lt (hHeld.2.2.1); (try simp at this); (try simp at hge); omega)
  have HGn6 := Lib.hid (show w.heap.size ≤ bn6 by have := Since.size hHeld.1; (try simp at this); (try simp at hge); omega)
  have HXn6 := Lib.hid hB
  clear hB
  clear hge
  clear hK K hHeld hb
  have hHeld := hHeld2
  clear hHeld2
  (try simp only [Act.put, sA, sB, sC])
  refine wpAnyH_ready (rs := [18]) (by kernel_rfl) (by simp) ?_
  refine AllReadyH.cons (o := ?o3__18) ?h3__18 (fun K hK => ?_) AllReadyH.nil
  case h3__18 => (first | (simp only [gA, gB, gC]; done) | (simp only [gA, gB, gC]; exact rfl))
  rw [if_pos (by rfl)]
  refine wp_st_row 38 _ _ rfl #[.int .i64 k.se, .int .i64 k.ep, .int .i64 k.sq, .int .i64 k.ak, .bool false, .int .i64 0, .int .i64 0, .int .i64 0, .int .i64 0] rfl rfl (HasRow.of HXn6.out rfl) rfl (by simp [Value.oneCell']) (by kernel_rfl) ?_
  intro w3 hw
  have HXn62 := Lib.hid (show Blk w3 bn6 38 #[.int .i64 k.se, .int .i64 k.ep, .int .i64 k.sq, .int .i64 k.ak, .bool false, .int .i64 0, .int .i64 0, .int .i64 0, .int .i64 0] by rw [hw]; exact Blk.row HXn6.out _)
  have hHeld3 := HKS.out.at_ w3 ⟨by rw [hw]; exact Since.setRow hHeld.1 HGn6.out _, by rw [hw]; exact Blk.row_far (hHeld.2.1) (Ne.symm HNn6R.out) _, by rw [hw]; exact Blk.row_far (hHeld.2.2.1) (Ne.symm HNn6Q.out) _, by rw [hw]; exact own_row_far (hHeld.2.2.2) HIn6_r.out _⟩
  refine hK.out _ _ hHeld3 (fun hHeld2 => ?_)
  clear HXn6 hK K hHeld hHeld3 hw
  have hHeld := hHeld2
  clear hHeld2
  (try simp only [Act.put, sA, sB, sC])
  refine wpAnyH_done (by kernel_rfl) ?_ _
  have HSd3 := Lib.hid hHeld.1
  have HBRd3 := Lib.hid (hHeld.2.1)
  have HBQd3 := Lib.hid (hHeld.2.2.1)
  have HFrd3 := Lib.hid (hHeld.2.2.2)
  clear hHeld HRK HKS HS1 HBR1 HBQ1 HOW1
  go_upto_region 4 with fail
  refine wp_region_lit ?_
  refine tkL (.pointer (some ⟨q, 0, none⟩)) (h := ?_)
  (try simp only [Act.put, sA, sB, sC])
  refine tkL (.int .i64 now) (h := ?_)
  (try simp only [Act.put, sA, sB, sC])
  refine wpList_wp (by rfl) (fun K hK => ?_)
  (try go_simp)
  refine (dueV q k A ls.length c now false _ (show Blk _ q 88 (lkC k (.slice A ls.length c)) from HBQd3.out) HD.out).mono ?_
  rintro e w4 ⟨rfl, hb⟩
  (try go_wp2_with fail)
  refine hK.out _ _ ?_
  clear hK K
  (try simp only [Act.put, sA, sB, sC])
  have HS4 := Lib.hid (Since.trans HSd3.out hb)
  have HBR4 := Lib.hid (keep_blk hb HBRd3.out)
  have HBQ4 := Lib.hid (keep_blk hb HBQd3.out)
  have HBn64 := Lib.hid (keep_blk hb HXn62.out)
  have HFr4 := Lib.hid (keep_own hb HFrd3.out)
  clear HSd3 HBRd3 HBQd3 HXn62 HFrd3
  clear hb
  refine wpList_nil ?_
  go_upto_region 8 with fail
  refine wp_region_lit ?_
  refine tkL (.pointer (some ⟨q, 0, none⟩)) (h := ?_)
  (try simp only [Act.put, sA, sB, sC])
  refine tkL (.pointer (some ⟨q, 0, none⟩)) (h := ?_)
  (try simp only [Act.put, sA, sB, sC])
  refine tkL (.pointer (some ⟨q, 25, none⟩)) (h := ?_)
  (try simp only [Act.put, sA, sB, sC])
  refine wpList_q (by rfl) (.bool k.an) ?he ?_
  case he => exact exec_cell 4 _ _ HBQ4.out rfl rfl rfl Try.underlying4 rfl
  (try simp only [Act.put, sA, sB, sC])
  refine wpList_q (by rfl) (.bool true) ?he ?_
  case he => (have q := HA.out; go_simp; (first | done | exact q | (simp [q]; done)))
  (try simp only [Act.put, sA, sB, sC])
  refine wpList_nil ?_
  go_upto_region 9 with fail
  refine wp_region_lit ?_
  refine wpList_q (by rfl) (.agg #[.int .i64 0, .int .i64 0, .int .i64 0, .int .i64 0, .bool false, .int .i64 0, .int .i64 0, .int .i64 0, .int .i64 0]) ?he ?_
  case he => kernel_rfl
  (try simp only [Act.put, sA, sB, sC])
  refine wpList_wp (by rfl) (fun K hK => ?_)
  refine wp_st_row 38 _ _ rfl #[.int .i64 0, .int .i64 0, .int .i64 0, .int .i64 0, .bool false, .int .i64 0, .int .i64 0, .int .i64 0, .int .i64 0] rfl rfl (HasRow.of HBR4.out rfl) rfl (by simp [Value.oneCell']) (by kernel_rfl) ?_
  intro w5 hw
  refine hK.out _ _ ?_
  clear hK K
  (try simp only [Act.put, sA, sB, sC])
  have HS5 := Lib.hid (show Since w w5 by rw [hw]; exact Since.setRow HS4.out (by have := HNE3.out; omega) _)
  have HBR5 := Lib.hid (show Blk w5 w.heap.size 38 #[.int .i64 0, .int .i64 0, .int .i64 0, .int .i64 0, .bool false, .int .i64 0, .int .i64 0, .int .i64 0, .int .i64 0] by rw [hw]; exact Blk.row HBR4.out _)
  have HBQ5 := Lib.hid (show Blk w5 q 88 #[.int .i64 k.c.ca, .int .i64 k.c.fl, .int .i64 k.c.ft, .int .i64 k.c.se, .int .i64 k.c.dr, .int .i64 k.c.dw, .int .i64 k.c.ho, .int .i64 k.c.re, .int .i64 k.c.yi, .int .i64 k.c.qu, .int .i64 k.c.qo, .int .i64 k.c.lo, .int .i64 k.c.sl, .int .i64 k.c.rt, .int .i64 k.c.cp, .int .i64 k.c.tr, .int .i64 k.c.de, .int .i64 k.c.wi, .int .i64 k.se, .int .i64 k.ep, .slice A ls.length c, .int .i64 k.sq, .int .i64 k.st, .int .i64 k.du, .int .i64 k.ak, .bool k.an, .int .i64 k.he] by rw [hw]; exact Blk.row_far HBQ4.out HNR.out _)
  have HBn65 := Lib.hid (show Blk w5 bn6 38 #[.int .i64 k.se, .int .i64 k.ep, .int .i64 k.sq, .int .i64 k.ak, .bool false, .int .i64 0, .int .i64 0, .int .i64 0, .int .i64 0] by rw [hw]; exact Blk.row_far HBn64.out HNn6R.out _)
  have HFr_5 := Lib.hid (show (w5).ownsRow lo 36 4 (.slice A ls.length c) ls.length (rowsOf msgC ls) by rw [hw]; exact own_row_far HFr4.out HIR.out _)
  clear hw HS4 HBR4 HBQ4 HBn64 HFr4
  refine tkL (.bool false) (h := ?_)
  (try simp only [Act.put, sA, sB, sC])
  refine wpList_nil ?_
  (try go_wp2_with fail)
  exact bodyPost_ret (results_row2 rfl _ _ w.heap.size 38 #[.int .i64 0, .int .i64 0, .int .i64 0, .int .i64 0, .bool false, .int .i64 0, .int .i64 0, .int .i64 0, .int .i64 0] _ (.bool false) rfl rfl HBR5.out Try.underlying38 rfl (by kernel_rfl)) rfl ⟨rfl, HS5.out⟩
set_option maxHeartbeats 4000000 in
theorem pollAns (lo q : Nat) (k : LkV) (ls : List MsgV) (A : Option Addr) (c : Nat) (now : Int) (w : World) (hb : Blk w q 88 (lkC k (.slice A ls.length c))) (ho : w.ownsRow lo 36 4 (.slice A ls.length c) ls.length (rowsOf msgC ls)) (hl : ls.length ≤ 10000) (hd : dueB k ls.length now = false) (ha : k.an = true) (h0 : lo ≤ q) : Calls Try.prog 15 #[.pointer (some ⟨q, 0, none⟩), .int .i64 now] w fun e w' => e = .returned (.tuple #[.agg #[.int .i64 k.se, .int .i64 k.ep, .int .i64 k.sq, .int .i64 k.ak, .bool false, .int .i64 0, .int .i64 0, .int .i64 0, .int .i64 0], .bool true]) ∧ LO lo q { k with an := false } ls (q :: blkOf A) w' ∧ Upd (q :: blkOf A) w w' := by
  have HBQ := Lib.hid (show Blk w q 88 #[.int .i64 k.c.ca, .int .i64 k.c.fl, .int .i64 k.c.ft, .int .i64 k.c.se, .int .i64 k.c.dr, .int .i64 k.c.dw, .int .i64 k.c.ho, .int .i64 k.c.re, .int .i64 k.c.yi, .int .i64 k.c.qu, .int .i64 k.c.qo, .int .i64 k.c.lo, .int .i64 k.c.sl, .int .i64 k.c.rt, .int .i64 k.c.cp, .int .i64 k.c.tr, .int .i64 k.c.de, .int .i64 k.c.wi, .int .i64 k.se, .int .i64 k.ep, .slice A ls.length c, .int .i64 k.sq, .int .i64 k.st, .int .i64 k.du, .int .i64 k.ak, .bool k.an, .int .i64 k.he] from hb)
  clear hb
  have HOW := Lib.hid ho
  clear ho
  have HL := Lib.hid hl
  clear hl
  have HD := Lib.hid hd
  clear hd
  have HA := Lib.hid ha
  clear ha
  have H0 := Lib.hid h0
  clear h0
  go_enter Try.func15, Try.ntmps15
  go_upto_region 1 with fail
  obtain ⟨w1, hw1⟩ : ∃ w1, w1 = (w.alloc (.cells #[.int .i64 0, .int .i64 0, .int .i64 0, .int .i64 0, .bool false, .int .i64 0, .int .i64 0, .int .i64 0, .int .i64 0] 38)) := ⟨_, rfl⟩
  rw [← hw1]
  have HBR1 := Lib.hid (show Blk w1 (w.heap.size) 38 #[.int .i64 0, .int .i64 0, .int .i64 0, .int .i64 0, .bool false, .int .i64 0, .int .i64 0, .int .i64 0, .int .i64 0] by rw [hw1]; exact Blk.at_ (by (try simp only [size_alloc])) _ _)
  have HS1 := Lib.hid (show Since w w1 by rw [hw1]; exact Since.alloc (Since.refl w) _)
  have hNE : w.heap.size ≤ w.heap.size := by omega
  have HNE := Lib.hid hNE
  clear hNE hw1
  have HNE3 := Lib.hid (show w.heap.size ≤ w.heap.size from HNE.out)
  clear HNE
  have HBQ1 := Lib.hid (keep_blk HS1.out HBQ.out)
  have HOW1 := Lib.hid (keep_own HS1.out HOW.out)
  have HIQ := Lib.hid (own_ne_ty HOW.out HBQ.out (by decide))
  have HLO := Lib.hid (show q < w.heap.size from Blk.lt HBQ.out)
  have HIR := Lib.hid (own_far HOW.out (show w.heap.size ≤ w.heap.size by have := HNE3.out; omega))
  have HNR := Lib.hid (show q ≠ w.heap.size by have := HLO.out; have := HNE3.out; omega)
  clear HBQ HOW
  refine wp_region_lit ?_
  refine tkL (.pointer (some ⟨q, 0, none⟩)) (h := ?_)
  (try simp only [Act.put, sA, sB, sC])
  refine tkL (.bool false) (h := ?_)
  (try simp only [Act.put, sA, sB, sC])
  refine wpList_nil ?_
  go_upto_region 3 with fail
  have HKS : Hid (KeepS (fun W : World => Since w W ∧ Blk W w.heap.size 38 #[.int .i64 0, .int .i64 0, .int .i64 0, .int .i64 0, .bool false, .int .i64 0, .int .i64 0, .int .i64 0, .int .i64 0] ∧ Blk W q 88 #[.int .i64 k.c.ca, .int .i64 k.c.fl, .int .i64 k.c.ft, .int .i64 k.c.se, .int .i64 k.c.dr, .int .i64 k.c.dw, .int .i64 k.c.ho, .int .i64 k.c.re, .int .i64 k.c.yi, .int .i64 k.c.qu, .int .i64 k.c.qo, .int .i64 k.c.lo, .int .i64 k.c.sl, .int .i64 k.c.rt, .int .i64 k.c.cp, .int .i64 k.c.tr, .int .i64 k.c.de, .int .i64 k.c.wi, .int .i64 k.se, .int .i64 k.ep, .slice A ls.length c, .int .i64 k.sq, .int .i64 k.st, .int .i64 k.du, .int .i64 k.ak, .bool k.an, .int .i64 k.he] ∧ (W).ownsRow lo 36 4 (.slice A ls.length c) ls.length (rowsOf msgC ls)) w1) := Lib.hid ⟨fun W W' k ⟨h, h0, h1, h2⟩ => ⟨h.trans k, keep_blk k h0, keep_blk k h1, keep_own k h2⟩, ⟨HS1.out, HBR1.out, HBQ1.out, HOW1.out⟩⟩
  have HRK := Lib.hid HKS.out.1
  refine wp_held HKS.out (by kernel_rfl) (fun hHeld => ?_)
  refine tkQ 0 (.pointer (some ⟨q, 0, none⟩)) hHeld (h := ?_)
  (try simp only [Act.put, sA, sB, sC])
  refine tkQ 1 (.pointer (some ⟨q, 0, none⟩)) hHeld (h := ?_)
  (try simp only [Act.put, sA, sB, sC])
  refine tkQ 2 (.pointer (some ⟨q, 18, none⟩)) hHeld (h := ?_)
  (try simp only [Act.put, sA, sB, sC])
  refine tkQ 3 (.int .i64 k.se) hHeld (he := by intro w hSw; exact exec_cell 3 _ _ hSw.2.2.1 rfl rfl rfl Try.underlying3 rfl) (h := ?_)
  (try simp only [Act.put, sA, sB, sC])
  refine tkQ 4 (.pointer (some ⟨q, 0, none⟩)) hHeld (h := ?_)
  (try simp only [Act.put, sA, sB, sC])
  refine tkQ 5 (.pointer (some ⟨q, 0, none⟩)) hHeld (h := ?_)
  (try simp only [Act.put, sA, sB, sC])
  refine tkQ 6 (.pointer (some ⟨q, 19, none⟩)) hHeld (h := ?_)
  (try simp only [Act.put, sA, sB, sC])
  refine tkQ 7 (.int .i64 k.ep) hHeld (he := by intro w hSw; exact exec_cell 3 _ _ hSw.2.2.1 rfl rfl rfl Try.underlying3 rfl) (h := ?_)
  (try simp only [Act.put, sA, sB, sC])
  refine tkQ 8 (.pointer (some ⟨q, 0, none⟩)) hHeld (h := ?_)
  (try simp only [Act.put, sA, sB, sC])
  refine tkQ 9 (.pointer (some ⟨q, 0, none⟩)) hHeld (h := ?_)
  (try simp only [Act.put, sA, sB, sC])
  refine tkQ 10 (.pointer (some ⟨q, 21, none⟩)) hHeld (h := ?_)
  (try simp only [Act.put, sA, sB, sC])
  refine tkQ 11 (.int .i64 k.sq) hHeld (he := by intro w hSw; exact exec_cell 3 _ _ hSw.2.2.1 rfl rfl rfl Try.underlying3 rfl) (h := ?_)
  (try simp only [Act.put, sA, sB, sC])
  refine tkQ 12 (.pointer (some ⟨q, 0, none⟩)) hHeld (h := ?_)
  (try simp only [Act.put, sA, sB, sC])
  refine tkQ 13 (.pointer (some ⟨q, 0, none⟩)) hHeld (h := ?_)
  (try simp only [Act.put, sA, sB, sC])
  refine tkQ 14 (.pointer (some ⟨q, 24, none⟩)) hHeld (h := ?_)
  (try simp only [Act.put, sA, sB, sC])
  refine tkQ 15 (.int .i64 k.ak) hHeld (he := by intro w hSw; exact exec_cell 3 _ _ hSw.2.2.1 rfl rfl rfl Try.underlying3 rfl) (h := ?_)
  (try simp only [Act.put, sA, sB, sC])
  refine tkQ 16 (.agg #[.int .i64 k.se, .int .i64 k.ep, .int .i64 k.sq, .int .i64 k.ak, .bool false, .int .i64 0, .int .i64 0, .int .i64 0, .int .i64 0]) hHeld (he := by intro w hSw; kernel_rfl) (h := ?_)
  (try simp only [Act.put, sA, sB, sC])
  refine wpAnyH_ready (rs := [17]) (by kernel_rfl) (by simp) ?_
  refine AllReadyH.cons (o := ?o3__17) ?h3__17 (fun K hK => ?_) AllReadyH.nil
  case h3__17 => (first | (simp only [gA, gB, gC]; done) | (simp only [gA, gB, gC]; exact rfl))
  rw [if_pos (by rfl)]
  refine wp_new (fun b => .pointer (some ⟨b, 0, none⟩)) 38 #[.int .i64 0, .int .i64 0, .int .i64 0, .int .i64 0, .bool false, .int .i64 0, .int .i64 0, .int .i64 0, .int .i64 0] (by rintro b rfl; first | rfl | kernel_rfl) ?_
  intro bn6 w2 hge hB hb
  refine hK.out _ _ (by (apply HRK.out; exact hb; exact hHeld)) (fun hHeld2 => ?_)
  have HIn6_r := Lib.hid (own_far (hHeld.2.2.2) hge)
  have HNn6R := Lib.hid (show bn6 ≠ w.heap.size by have := Blk.lt (hHeld.2.1); (try simp at this); (try simp at hge); omega)
  have HNn6Q := Lib.hid (show bn6 ≠ q by have := Blk.lt (hHeld.2.2.1); (try simp at this); (try simp at hge); omega)
  have HGn6 := Lib.hid (show w.heap.size ≤ bn6 by have := Since.size hHeld.1; (try simp at this); (try simp at hge); omega)
  have HXn6 := Lib.hid hB
  clear hB
  clear hge
  clear hK K hHeld hb
  have hHeld := hHeld2
  clear hHeld2
  (try simp only [Act.put, sA, sB, sC])
  refine wpAnyH_ready (rs := [18]) (by kernel_rfl) (by simp) ?_
  refine AllReadyH.cons (o := ?o3__18) ?h3__18 (fun K hK => ?_) AllReadyH.nil
  case h3__18 => (first | (simp only [gA, gB, gC]; done) | (simp only [gA, gB, gC]; exact rfl))
  rw [if_pos (by rfl)]
  refine wp_st_row 38 _ _ rfl #[.int .i64 k.se, .int .i64 k.ep, .int .i64 k.sq, .int .i64 k.ak, .bool false, .int .i64 0, .int .i64 0, .int .i64 0, .int .i64 0] rfl rfl (HasRow.of HXn6.out rfl) rfl (by simp [Value.oneCell']) (by kernel_rfl) ?_
  intro w3 hw
  have HXn62 := Lib.hid (show Blk w3 bn6 38 #[.int .i64 k.se, .int .i64 k.ep, .int .i64 k.sq, .int .i64 k.ak, .bool false, .int .i64 0, .int .i64 0, .int .i64 0, .int .i64 0] by rw [hw]; exact Blk.row HXn6.out _)
  have hHeld3 := HKS.out.at_ w3 ⟨by rw [hw]; exact Since.setRow hHeld.1 HGn6.out _, by rw [hw]; exact Blk.row_far (hHeld.2.1) (Ne.symm HNn6R.out) _, by rw [hw]; exact Blk.row_far (hHeld.2.2.1) (Ne.symm HNn6Q.out) _, by rw [hw]; exact own_row_far (hHeld.2.2.2) HIn6_r.out _⟩
  refine hK.out _ _ hHeld3 (fun hHeld2 => ?_)
  clear HXn6 hK K hHeld hHeld3 hw
  have hHeld := hHeld2
  clear hHeld2
  (try simp only [Act.put, sA, sB, sC])
  refine wpAnyH_done (by kernel_rfl) ?_ _
  have HSd3 := Lib.hid hHeld.1
  have HBRd3 := Lib.hid (hHeld.2.1)
  have HBQd3 := Lib.hid (hHeld.2.2.1)
  have HFrd3 := Lib.hid (hHeld.2.2.2)
  clear hHeld HRK HKS HS1 HBR1 HBQ1 HOW1
  go_upto_region 4 with fail
  refine wp_region_lit ?_
  refine tkL (.pointer (some ⟨q, 0, none⟩)) (h := ?_)
  (try simp only [Act.put, sA, sB, sC])
  refine tkL (.int .i64 now) (h := ?_)
  (try simp only [Act.put, sA, sB, sC])
  refine wpList_wp (by rfl) (fun K hK => ?_)
  (try go_simp)
  refine (dueV q k A ls.length c now false _ (show Blk _ q 88 (lkC k (.slice A ls.length c)) from HBQd3.out) HD.out).mono ?_
  rintro e w4 ⟨rfl, hb⟩
  (try go_wp2_with fail)
  refine hK.out _ _ ?_
  clear hK K
  (try simp only [Act.put, sA, sB, sC])
  have HS4 := Lib.hid (Since.trans HSd3.out hb)
  have HBR4 := Lib.hid (keep_blk hb HBRd3.out)
  have HBQ4 := Lib.hid (keep_blk hb HBQd3.out)
  have HBn64 := Lib.hid (keep_blk hb HXn62.out)
  have HFr4 := Lib.hid (keep_own hb HFrd3.out)
  clear HSd3 HBRd3 HBQd3 HXn62 HFrd3
  clear hb
  refine wpList_nil ?_
  go_upto_region 8 with fail
  refine wp_region_lit ?_
  refine tkL (.pointer (some ⟨q, 0, none⟩)) (h := ?_)
  (try simp only [Act.put, sA, sB, sC])
  refine tkL (.pointer (some ⟨q, 0, none⟩)) (h := ?_)
  (try simp only [Act.put, sA, sB, sC])
  refine tkL (.pointer (some ⟨q, 25, none⟩)) (h := ?_)
  (try simp only [Act.put, sA, sB, sC])
  refine wpList_q (by rfl) (.bool k.an) ?he ?_
  case he => exact exec_cell 4 _ _ HBQ4.out rfl rfl rfl Try.underlying4 rfl
  (try simp only [Act.put, sA, sB, sC])
  refine wpList_q (by rfl) (.bool false) ?he ?_
  case he => (have q := HA.out; go_simp; (first | done | exact q | (simp [q]; done)))
  (try simp only [Act.put, sA, sB, sC])
  refine wpList_nil ?_
  have HSU := Lib.hid (show Upd (q :: blkOf A) w w4 from Upd.of_since HS4.out)
  clear HS4
  go_upto_region 10 with fail
  refine wp_region_lit ?_
  refine tkL (.pointer (some ⟨q, 0, none⟩)) (h := ?_)
  (try simp only [Act.put, sA, sB, sC])
  refine tkL (.pointer (some ⟨q, 0, none⟩)) (h := ?_)
  (try simp only [Act.put, sA, sB, sC])
  refine tkL (.pointer (some ⟨q, 25, none⟩)) (h := ?_)
  (try simp only [Act.put, sA, sB, sC])
  refine wpList_wp (by rfl) (fun K hK => ?_)
  refine wp_st_cell 4 _ _ rfl #[.int .i64 k.c.ca, .int .i64 k.c.fl, .int .i64 k.c.ft, .int .i64 k.c.se, .int .i64 k.c.dr, .int .i64 k.c.dw, .int .i64 k.c.ho, .int .i64 k.c.re, .int .i64 k.c.yi, .int .i64 k.c.qu, .int .i64 k.c.qo, .int .i64 k.c.lo, .int .i64 k.c.sl, .int .i64 k.c.rt, .int .i64 k.c.cp, .int .i64 k.c.tr, .int .i64 k.c.de, .int .i64 k.c.wi, .int .i64 k.se, .int .i64 k.ep, .slice A ls.length c, .int .i64 k.sq, .int .i64 k.st, .int .i64 k.du, .int .i64 k.ak, .bool false, .int .i64 k.he] (.bool false) rfl rfl HBQ4.out (by show 25 < 27; decide) rfl (by first | rfl | simp [Value.oneCell']) (by kernel_rfl) ?_
  intro w5 hw
  refine hK.out _ _ ?_
  clear hK K
  (try simp only [Act.put, sA, sB, sC])
  have HS5 := Lib.hid (show Upd (q :: blkOf A) w w5 by rw [hw]; exact Upd.setRow HSU.out (.inl (by simp)) _)
  have HBR5 := Lib.hid (show Blk w5 w.heap.size 38 #[.int .i64 0, .int .i64 0, .int .i64 0, .int .i64 0, .bool false, .int .i64 0, .int .i64 0, .int .i64 0, .int .i64 0] by rw [hw]; exact Blk.row_far HBR4.out (Ne.symm HNR.out) _)
  have HBQ5 := Lib.hid (show Blk w5 q 88 #[.int .i64 k.c.ca, .int .i64 k.c.fl, .int .i64 k.c.ft, .int .i64 k.c.se, .int .i64 k.c.dr, .int .i64 k.c.dw, .int .i64 k.c.ho, .int .i64 k.c.re, .int .i64 k.c.yi, .int .i64 k.c.qu, .int .i64 k.c.qo, .int .i64 k.c.lo, .int .i64 k.c.sl, .int .i64 k.c.rt, .int .i64 k.c.cp, .int .i64 k.c.tr, .int .i64 k.c.de, .int .i64 k.c.wi, .int .i64 k.se, .int .i64 k.ep, .slice A ls.length c, .int .i64 k.sq, .int .i64 k.st, .int .i64 k.du, .int .i64 k.ak, .bool false, .int .i64 k.he] by rw [hw]; exact Blk.row HBQ4.out _)
  have HBn65 := Lib.hid (show Blk w5 bn6 38 #[.int .i64 k.se, .int .i64 k.ep, .int .i64 k.sq, .int .i64 k.ak, .bool false, .int .i64 0, .int .i64 0, .int .i64 0, .int .i64 0] by rw [hw]; exact Blk.row_far HBn64.out HNn6Q.out _)
  have HFr_5 := Lib.hid (show (w5).ownsRow lo 36 4 (.slice A ls.length c) ls.length (rowsOf msgC ls) by rw [hw]; exact own_row_far HFr4.out HIQ.out _)
  clear hw HSU HBR4 HBQ4 HBn64 HFr4
  refine wpList_nil ?_
  go_upto_region 11 with fail
  refine wp_region_lit ?_
  refine wpList_q (by rfl) (.agg #[.int .i64 k.se, .int .i64 k.ep, .int .i64 k.sq, .int .i64 k.ak, .bool false, .int .i64 0, .int .i64 0, .int .i64 0, .int .i64 0]) ?he ?_
  case he => exact exec_load_row 38 _ _ HBn65.out rfl rfl Try.underlying38 rfl (by kernel_rfl)
  (try simp only [Act.put, sA, sB, sC])
  refine wpList_wp (by rfl) (fun K hK => ?_)
  refine wp_st_row 38 _ _ rfl #[.int .i64 k.se, .int .i64 k.ep, .int .i64 k.sq, .int .i64 k.ak, .bool false, .int .i64 0, .int .i64 0, .int .i64 0, .int .i64 0] rfl rfl (HasRow.of HBR5.out rfl) rfl (by simp [Value.oneCell']) (by kernel_rfl) ?_
  intro w6 hw
  refine hK.out _ _ ?_
  clear hK K
  (try simp only [Act.put, sA, sB, sC])
  have HS6 := Lib.hid (show Upd (q :: blkOf A) w w6 by rw [hw]; exact Upd.setRow HS5.out (Or.inr (by have := HNE3.out; omega)) _)
  have HBR6 := Lib.hid (show Blk w6 w.heap.size 38 #[.int .i64 k.se, .int .i64 k.ep, .int .i64 k.sq, .int .i64 k.ak, .bool false, .int .i64 0, .int .i64 0, .int .i64 0, .int .i64 0] by rw [hw]; exact Blk.row HBR5.out _)
  have HBQ6 := Lib.hid (show Blk w6 q 88 #[.int .i64 k.c.ca, .int .i64 k.c.fl, .int .i64 k.c.ft, .int .i64 k.c.se, .int .i64 k.c.dr, .int .i64 k.c.dw, .int .i64 k.c.ho, .int .i64 k.c.re, .int .i64 k.c.yi, .int .i64 k.c.qu, .int .i64 k.c.qo, .int .i64 k.c.lo, .int .i64 k.c.sl, .int .i64 k.c.rt, .int .i64 k.c.cp, .int .i64 k.c.tr, .int .i64 k.c.de, .int .i64 k.c.wi, .int .i64 k.se, .int .i64 k.ep, .slice A ls.length c, .int .i64 k.sq, .int .i64 k.st, .int .i64 k.du, .int .i64 k.ak, .bool false, .int .i64 k.he] by rw [hw]; exact Blk.row_far HBQ5.out HNR.out _)
  have HBn66 := Lib.hid (show Blk w6 bn6 38 #[.int .i64 k.se, .int .i64 k.ep, .int .i64 k.sq, .int .i64 k.ak, .bool false, .int .i64 0, .int .i64 0, .int .i64 0, .int .i64 0] by rw [hw]; exact Blk.row_far HBn65.out HNn6R.out _)
  have HFr_6 := Lib.hid (show (w6).ownsRow lo 36 4 (.slice A ls.length c) ls.length (rowsOf msgC ls) by rw [hw]; exact own_row_far HFr_5.out HIR.out _)
  clear hw HS5 HBR5 HBQ5 HBn65 HFr_5
  refine tkL (.bool true) (h := ?_)
  (try simp only [Act.put, sA, sB, sC])
  refine wpList_nil ?_
  (try go_wp2_with fail)
  exact bodyPost_ret (results_row2 rfl _ _ w.heap.size 38 #[.int .i64 k.se, .int .i64 k.ep, .int .i64 k.sq, .int .i64 k.ak, .bool false, .int .i64 0, .int .i64 0, .int .i64 0, .int .i64 0] _ (.bool true) rfl rfl HBR6.out Try.underlying38 rfl (by kernel_rfl)) rfl ⟨rfl, ⟨H0.out, A, c, rfl, HBQ6.out, HFr_6.out⟩, HS6.out⟩
set_option maxHeartbeats 4000000 in
theorem pollDue (lo q : Nat) (k : LkV) (ls : List MsgV) (g c : Nat) (m : MsgV) (now : Int) (w : World) (hb : Blk w q 88 (lkC k (.slice (some ⟨g, 0, none⟩) ls.length c))) (ho : w.ownsRow lo 36 4 (.slice (some ⟨g, 0, none⟩) ls.length c) ls.length (rowsOf msgC ls)) (hl : ls.length ≤ 10000) (hd : dueB k ls.length now = true) (hm : ls[0]? = some m) (hs : -1000000000 ≤ k.st ∧ k.st ≤ 1000000000) (h0 : lo ≤ q) : Calls Try.prog 15 #[.pointer (some ⟨q, 0, none⟩), .int .i64 now] w fun e w' => e = .returned (.tuple #[.agg #[.int .i64 k.se, .int .i64 k.ep, .int .i64 k.sq, .int .i64 k.ak, .bool true, .int .i64 m.ki, .int .i64 m.a, .int .i64 m.b, .int .i64 m.c], .bool true]) ∧ LO lo q { k with du := cl (cl now + cl (pa k.c.rt k.c.cp k.st)), st := k.st + 1, an := false } ls (q :: blkOf (some ⟨g, 0, none⟩)) w' ∧ Upd (q :: blkOf (some ⟨g, 0, none⟩)) w w' := by
  have HBQ := Lib.hid (show Blk w q 88 #[.int .i64 k.c.ca, .int .i64 k.c.fl, .int .i64 k.c.ft, .int .i64 k.c.se, .int .i64 k.c.dr, .int .i64 k.c.dw, .int .i64 k.c.ho, .int .i64 k.c.re, .int .i64 k.c.yi, .int .i64 k.c.qu, .int .i64 k.c.qo, .int .i64 k.c.lo, .int .i64 k.c.sl, .int .i64 k.c.rt, .int .i64 k.c.cp, .int .i64 k.c.tr, .int .i64 k.c.de, .int .i64 k.c.wi, .int .i64 k.se, .int .i64 k.ep, .slice (some ⟨g, 0, none⟩) ls.length c, .int .i64 k.sq, .int .i64 k.st, .int .i64 k.du, .int .i64 k.ak, .bool k.an, .int .i64 k.he] from hb)
  clear hb
  have HOW := Lib.hid ho
  clear ho
  have HL := Lib.hid hl
  clear hl
  have HD := Lib.hid hd
  clear hd
  have HM := Lib.hid hm
  clear hm
  have HS := Lib.hid hs
  clear hs
  have H0 := Lib.hid h0
  clear h0
  go_enter Try.func15, Try.ntmps15
  go_upto_region 1 with fail
  obtain ⟨w1, hw1⟩ : ∃ w1, w1 = (w.alloc (.cells #[.int .i64 0, .int .i64 0, .int .i64 0, .int .i64 0, .bool false, .int .i64 0, .int .i64 0, .int .i64 0, .int .i64 0] 38)) := ⟨_, rfl⟩
  rw [← hw1]
  have HBR1 := Lib.hid (show Blk w1 (w.heap.size) 38 #[.int .i64 0, .int .i64 0, .int .i64 0, .int .i64 0, .bool false, .int .i64 0, .int .i64 0, .int .i64 0, .int .i64 0] by rw [hw1]; exact Blk.at_ (by (try simp only [size_alloc])) _ _)
  have HS1 := Lib.hid (show Since w w1 by rw [hw1]; exact Since.alloc (Since.refl w) _)
  have hNE : w.heap.size ≤ w.heap.size := by omega
  have HNE := Lib.hid hNE
  clear hNE hw1
  have HNE3 := Lib.hid (show w.heap.size ≤ w.heap.size from HNE.out)
  clear HNE
  have HBQ1 := Lib.hid (keep_blk HS1.out HBQ.out)
  have HOW1 := Lib.hid (keep_own HS1.out HOW.out)
  have HIQ := Lib.hid (own_ne_ty HOW.out HBQ.out (by decide))
  have HLO := Lib.hid (show q < w.heap.size from Blk.lt HBQ.out)
  have HIR := Lib.hid (own_far HOW.out (show w.heap.size ≤ w.heap.size by have := HNE3.out; omega))
  have HNR := Lib.hid (show q ≠ w.heap.size by have := HLO.out; have := HNE3.out; omega)
  clear HBQ HOW
  refine wp_region_lit ?_
  refine tkL (.pointer (some ⟨q, 0, none⟩)) (h := ?_)
  (try simp only [Act.put, sA, sB, sC])
  refine tkL (.bool false) (h := ?_)
  (try simp only [Act.put, sA, sB, sC])
  refine wpList_nil ?_
  go_upto_region 3 with fail
  have HKS : Hid (KeepS (fun W : World => Since w W ∧ Blk W w.heap.size 38 #[.int .i64 0, .int .i64 0, .int .i64 0, .int .i64 0, .bool false, .int .i64 0, .int .i64 0, .int .i64 0, .int .i64 0] ∧ Blk W q 88 #[.int .i64 k.c.ca, .int .i64 k.c.fl, .int .i64 k.c.ft, .int .i64 k.c.se, .int .i64 k.c.dr, .int .i64 k.c.dw, .int .i64 k.c.ho, .int .i64 k.c.re, .int .i64 k.c.yi, .int .i64 k.c.qu, .int .i64 k.c.qo, .int .i64 k.c.lo, .int .i64 k.c.sl, .int .i64 k.c.rt, .int .i64 k.c.cp, .int .i64 k.c.tr, .int .i64 k.c.de, .int .i64 k.c.wi, .int .i64 k.se, .int .i64 k.ep, .slice (some ⟨g, 0, none⟩) ls.length c, .int .i64 k.sq, .int .i64 k.st, .int .i64 k.du, .int .i64 k.ak, .bool k.an, .int .i64 k.he] ∧ (W).ownsRow lo 36 4 (.slice (some ⟨g, 0, none⟩) ls.length c) ls.length (rowsOf msgC ls)) w1) := Lib.hid ⟨fun W W' k ⟨h, h0, h1, h2⟩ => ⟨h.trans k, keep_blk k h0, keep_blk k h1, keep_own k h2⟩, ⟨HS1.out, HBR1.out, HBQ1.out, HOW1.out⟩⟩
  have HRK := Lib.hid HKS.out.1
  refine wp_held HKS.out (by kernel_rfl) (fun hHeld => ?_)
  refine tkQ 0 (.pointer (some ⟨q, 0, none⟩)) hHeld (h := ?_)
  (try simp only [Act.put, sA, sB, sC])
  refine tkQ 1 (.pointer (some ⟨q, 0, none⟩)) hHeld (h := ?_)
  (try simp only [Act.put, sA, sB, sC])
  refine tkQ 2 (.pointer (some ⟨q, 18, none⟩)) hHeld (h := ?_)
  (try simp only [Act.put, sA, sB, sC])
  refine tkQ 3 (.int .i64 k.se) hHeld (he := by intro w hSw; exact exec_cell 3 _ _ hSw.2.2.1 rfl rfl rfl Try.underlying3 rfl) (h := ?_)
  (try simp only [Act.put, sA, sB, sC])
  refine tkQ 4 (.pointer (some ⟨q, 0, none⟩)) hHeld (h := ?_)
  (try simp only [Act.put, sA, sB, sC])
  refine tkQ 5 (.pointer (some ⟨q, 0, none⟩)) hHeld (h := ?_)
  (try simp only [Act.put, sA, sB, sC])
  refine tkQ 6 (.pointer (some ⟨q, 19, none⟩)) hHeld (h := ?_)
  (try simp only [Act.put, sA, sB, sC])
  refine tkQ 7 (.int .i64 k.ep) hHeld (he := by intro w hSw; exact exec_cell 3 _ _ hSw.2.2.1 rfl rfl rfl Try.underlying3 rfl) (h := ?_)
  (try simp only [Act.put, sA, sB, sC])
  refine tkQ 8 (.pointer (some ⟨q, 0, none⟩)) hHeld (h := ?_)
  (try simp only [Act.put, sA, sB, sC])
  refine tkQ 9 (.pointer (some ⟨q, 0, none⟩)) hHeld (h := ?_)
  (try simp only [Act.put, sA, sB, sC])
  refine tkQ 10 (.pointer (some ⟨q, 21, none⟩)) hHeld (h := ?_)
  (try simp only [Act.put, sA, sB, sC])
  refine tkQ 11 (.int .i64 k.sq) hHeld (he := by intro w hSw; exact exec_cell 3 _ _ hSw.2.2.1 rfl rfl rfl Try.underlying3 rfl) (h := ?_)
  (try simp only [Act.put, sA, sB, sC])
  refine tkQ 12 (.pointer (some ⟨q, 0, none⟩)) hHeld (h := ?_)
  (try simp only [Act.put, sA, sB, sC])
  refine tkQ 13 (.pointer (some ⟨q, 0, none⟩)) hHeld (h := ?_)
  (try simp only [Act.put, sA, sB, sC])
  refine tkQ 14 (.pointer (some ⟨q, 24, none⟩)) hHeld (h := ?_)
  (try simp only [Act.put, sA, sB, sC])
  refine tkQ 15 (.int .i64 k.ak) hHeld (he := by intro w hSw; exact exec_cell 3 _ _ hSw.2.2.1 rfl rfl rfl Try.underlying3 rfl) (h := ?_)
  (try simp only [Act.put, sA, sB, sC])
  refine tkQ 16 (.agg #[.int .i64 k.se, .int .i64 k.ep, .int .i64 k.sq, .int .i64 k.ak, .bool false, .int .i64 0, .int .i64 0, .int .i64 0, .int .i64 0]) hHeld (he := by intro w hSw; kernel_rfl) (h := ?_)
  (try simp only [Act.put, sA, sB, sC])
  refine wpAnyH_ready (rs := [17]) (by kernel_rfl) (by simp) ?_
  refine AllReadyH.cons (o := ?o3__17) ?h3__17 (fun K hK => ?_) AllReadyH.nil
  case h3__17 => (first | (simp only [gA, gB, gC]; done) | (simp only [gA, gB, gC]; exact rfl))
  rw [if_pos (by rfl)]
  refine wp_new (fun b => .pointer (some ⟨b, 0, none⟩)) 38 #[.int .i64 0, .int .i64 0, .int .i64 0, .int .i64 0, .bool false, .int .i64 0, .int .i64 0, .int .i64 0, .int .i64 0] (by rintro b rfl; first | rfl | kernel_rfl) ?_
  intro bn6 w2 hge hB hb
  refine hK.out _ _ (by (apply HRK.out; exact hb; exact hHeld)) (fun hHeld2 => ?_)
  have HIn6_r := Lib.hid (own_far (hHeld.2.2.2) hge)
  have HNn6R := Lib.hid (show bn6 ≠ w.heap.size by have := Blk.lt (hHeld.2.1); (try simp at this); (try simp at hge); omega)
  have HNn6Q := Lib.hid (show bn6 ≠ q by have := Blk.lt (hHeld.2.2.1); (try simp at this); (try simp at hge); omega)
  have HGn6 := Lib.hid (show w.heap.size ≤ bn6 by have := Since.size hHeld.1; (try simp at this); (try simp at hge); omega)
  have HXn6 := Lib.hid hB
  clear hB
  clear hge
  clear hK K hHeld hb
  have hHeld := hHeld2
  clear hHeld2
  (try simp only [Act.put, sA, sB, sC])
  refine wpAnyH_ready (rs := [18]) (by kernel_rfl) (by simp) ?_
  refine AllReadyH.cons (o := ?o3__18) ?h3__18 (fun K hK => ?_) AllReadyH.nil
  case h3__18 => (first | (simp only [gA, gB, gC]; done) | (simp only [gA, gB, gC]; exact rfl))
  rw [if_pos (by rfl)]
  refine wp_st_row 38 _ _ rfl #[.int .i64 k.se, .int .i64 k.ep, .int .i64 k.sq, .int .i64 k.ak, .bool false, .int .i64 0, .int .i64 0, .int .i64 0, .int .i64 0] rfl rfl (HasRow.of HXn6.out rfl) rfl (by simp [Value.oneCell']) (by kernel_rfl) ?_
  intro w3 hw
  have HXn62 := Lib.hid (show Blk w3 bn6 38 #[.int .i64 k.se, .int .i64 k.ep, .int .i64 k.sq, .int .i64 k.ak, .bool false, .int .i64 0, .int .i64 0, .int .i64 0, .int .i64 0] by rw [hw]; exact Blk.row HXn6.out _)
  have hHeld3 := HKS.out.at_ w3 ⟨by rw [hw]; exact Since.setRow hHeld.1 HGn6.out _, by rw [hw]; exact Blk.row_far (hHeld.2.1) (Ne.symm HNn6R.out) _, by rw [hw]; exact Blk.row_far (hHeld.2.2.1) (Ne.symm HNn6Q.out) _, by rw [hw]; exact own_row_far (hHeld.2.2.2) HIn6_r.out _⟩
  refine hK.out _ _ hHeld3 (fun hHeld2 => ?_)
  clear HXn6 hK K hHeld hHeld3 hw
  have hHeld := hHeld2
  clear hHeld2
  (try simp only [Act.put, sA, sB, sC])
  refine wpAnyH_done (by kernel_rfl) ?_ _
  have HSd3 := Lib.hid hHeld.1
  have HBRd3 := Lib.hid (hHeld.2.1)
  have HBQd3 := Lib.hid (hHeld.2.2.1)
  have HFrd3 := Lib.hid (hHeld.2.2.2)
  clear hHeld HRK HKS HS1 HBR1 HBQ1 HOW1
  go_upto_region 4 with fail
  refine wp_region_lit ?_
  refine tkL (.pointer (some ⟨q, 0, none⟩)) (h := ?_)
  (try simp only [Act.put, sA, sB, sC])
  refine tkL (.int .i64 now) (h := ?_)
  (try simp only [Act.put, sA, sB, sC])
  refine wpList_wp (by rfl) (fun K hK => ?_)
  (try go_simp)
  refine (dueV q k (some ⟨g, 0, none⟩) ls.length c now true _ (show Blk _ q 88 (lkC k (.slice (some ⟨g, 0, none⟩) ls.length c)) from HBQd3.out) HD.out).mono ?_
  rintro e w4 ⟨rfl, hb⟩
  (try go_wp2_with fail)
  refine hK.out _ _ ?_
  clear hK K
  (try simp only [Act.put, sA, sB, sC])
  have HS4 := Lib.hid (Since.trans HSd3.out hb)
  have HBR4 := Lib.hid (keep_blk hb HBRd3.out)
  have HBQ4 := Lib.hid (keep_blk hb HBQd3.out)
  have HBn64 := Lib.hid (keep_blk hb HXn62.out)
  have HFr4 := Lib.hid (keep_own hb HFrd3.out)
  clear HSd3 HBRd3 HBQd3 HXn62 HFrd3
  clear hb
  refine wpList_nil ?_
  have HM0 := Lib.hid (show 0 < ls.length from (List.getElem?_eq_some_iff.1 HM.out).1)
  have HSU := Lib.hid (show Upd (q :: blkOf (some ⟨g, 0, none⟩)) w w4 from Upd.of_since HS4.out)
  clear HS4
  go_upto_region 5 with fail
  go_cut [] (fun  wx => Hid (Upd (q :: blkOf (some ⟨g, 0, none⟩)) w wx ∧ Blk wx w.heap.size 38 #[.int .i64 0, .int .i64 0, .int .i64 0, .int .i64 0, .bool false, .int .i64 0, .int .i64 0, .int .i64 0, .int .i64 0] ∧ Blk wx q 88 #[.int .i64 k.c.ca, .int .i64 k.c.fl, .int .i64 k.c.ft, .int .i64 k.c.se, .int .i64 k.c.dr, .int .i64 k.c.dw, .int .i64 k.c.ho, .int .i64 k.c.re, .int .i64 k.c.yi, .int .i64 k.c.qu, .int .i64 k.c.qo, .int .i64 k.c.lo, .int .i64 k.c.sl, .int .i64 k.c.rt, .int .i64 k.c.cp, .int .i64 k.c.tr, .int .i64 k.c.de, .int .i64 k.c.wi, .int .i64 k.se, .int .i64 k.ep, .slice (some ⟨g, 0, none⟩) ls.length c, .int .i64 k.sq, .int .i64 k.st, .int .i64 k.du, .int .i64 k.ak, .bool k.an, .int .i64 k.he] ∧ Blk wx bn6 38 #[.int .i64 k.se, .int .i64 k.ep, .int .i64 k.sq, .int .i64 k.ak, .bool true, .int .i64 m.ki, .int .i64 m.a, .int .i64 m.b, .int .i64 m.c] ∧ (wx).ownsRow lo 36 4 (.slice (some ⟨g, 0, none⟩) ls.length c) ls.length (rowsOf msgC ls)))
  case first =>
    have HKS : Hid (KeepS (fun W : World => Upd (q :: blkOf (some ⟨g, 0, none⟩)) w W ∧ Blk W w.heap.size 38 #[.int .i64 0, .int .i64 0, .int .i64 0, .int .i64 0, .bool false, .int .i64 0, .int .i64 0, .int .i64 0, .int .i64 0] ∧ Blk W q 88 #[.int .i64 k.c.ca, .int .i64 k.c.fl, .int .i64 k.c.ft, .int .i64 k.c.se, .int .i64 k.c.dr, .int .i64 k.c.dw, .int .i64 k.c.ho, .int .i64 k.c.re, .int .i64 k.c.yi, .int .i64 k.c.qu, .int .i64 k.c.qo, .int .i64 k.c.lo, .int .i64 k.c.sl, .int .i64 k.c.rt, .int .i64 k.c.cp, .int .i64 k.c.tr, .int .i64 k.c.de, .int .i64 k.c.wi, .int .i64 k.se, .int .i64 k.ep, .slice (some ⟨g, 0, none⟩) ls.length c, .int .i64 k.sq, .int .i64 k.st, .int .i64 k.du, .int .i64 k.ak, .bool k.an, .int .i64 k.he] ∧ HasRow W bn6 38 9 ∧ (W).ownsRow lo 36 4 (.slice (some ⟨g, 0, none⟩) ls.length c) ls.length (rowsOf msgC ls)) w4) := Lib.hid ⟨fun W W' k ⟨h, h0, h1, h2, h3⟩ => ⟨h.trans k, keep_blk k h0, keep_blk k h1, HasRow.keep k h2, keep_own k h3⟩, ⟨HSU.out, HBR4.out, HBQ4.out, HasRow.of HBn64.out rfl, HFr4.out⟩⟩
    have HRK := Lib.hid HKS.out.1
    have HPn6 := Lib.hid (show Blk (World.drew w4) bn6 38 #[.int .i64 k.se, .int .i64 k.ep, .int .i64 k.sq, .int .i64 k.ak, .bool false, .int .i64 0, .int .i64 0, .int .i64 0, .int .i64 0] from HBn64.out)
    refine wp_held HKS.out (by kernel_rfl) (fun hHeld => ?_)
    refine tkQ 0 (.pointer (some ⟨q, 0, none⟩)) hHeld (h := ?_)
    (try simp only [Act.put, sA, sB, sC])
    refine tkQ 1 (.pointer (some ⟨q, 0, none⟩)) hHeld (h := ?_)
    (try simp only [Act.put, sA, sB, sC])
    refine tkQ 2 (.pointer (some ⟨q, 20, none⟩)) hHeld (h := ?_)
    (try simp only [Act.put, sA, sB, sC])
    refine tkQ 3 (.slice (some ⟨g, 0, none⟩) ls.length c) hHeld (he := by intro w hSw; exact exec_cell 86 _ _ hSw.2.2.1 rfl rfl rfl Try.underlying86 rfl) (h := ?_)
    (try simp only [Act.put, sA, sB, sC])
    refine tkQ 4 (.pointer (some ⟨g, 0, none⟩)) hHeld (he := by intro w hSw; exact exec_index (i := 0) (s := 4) 86 36 _ _ rfl rfl rfl rfl (by have q1 := HM0.out; omega) Try.underlying86 (by kernel_rfl)) (h := ?_)
    (try simp only [Act.put, sA, sB, sC])
    refine tkQ 5 (.agg #[.int .i64 m.ki, .int .i64 m.a, .int .i64 m.b, .int .i64 m.c]) hHeld (he := by intro w hSw; exact exec_rng (l := msgC m) 36 _ _ (row0 hSw.2.2.2.2 HM.out) rfl rfl Try.underlying36 rfl (by kernel_rfl)) (h := ?_)
    (try simp only [Act.put, sA, sB, sC])
    refine tkQ 6 (.pointer (some ⟨bn6, 4, none⟩)) hHeld (h := ?_)
    (try simp only [Act.put, sA, sB, sC])
    refine wpAnyH_ready (rs := [7]) (by kernel_rfl) (by simp) ?_
    refine AllReadyH.cons (o := ?o5__7) ?h5__7 (fun K hK => ?_) AllReadyH.nil
    case h5__7 => (first | (simp only [gA, gB, gC]; done) | (simp only [gA, gB, gC]; exact rfl))
    rw [if_pos (by rfl)]
    refine wp_st_cell 4 _ _ rfl #[.int .i64 k.se, .int .i64 k.ep, .int .i64 k.sq, .int .i64 k.ak, .bool true, .int .i64 0, .int .i64 0, .int .i64 0, .int .i64 0] (.bool true) rfl rfl HPn6.out (by show 4 < 9; decide) rfl (by first | rfl | simp [Value.oneCell']) (by kernel_rfl) ?_
    clear HPn6
    intro w5 hw
    have HRn6 := Lib.hid (show Blk w5 bn6 38 #[.int .i64 k.se, .int .i64 k.ep, .int .i64 k.sq, .int .i64 k.ak, .bool true, .int .i64 0, .int .i64 0, .int .i64 0, .int .i64 0] by obtain ⟨old, Bo, _⟩ := hHeld.2.2.2.1; rw [hw]; exact Blk.row Bo _)
    have hHeld3 := HKS.out.at_ w5 ⟨by rw [hw]; exact Upd.setRow hHeld.1 (Or.inr HGn6.out) _, by rw [hw]; exact Blk.row_far (hHeld.2.1) (Ne.symm HNn6R.out) _, by rw [hw]; exact Blk.row_far (hHeld.2.2.1) (Ne.symm HNn6Q.out) _, HasRow.of HRn6.out rfl, by rw [hw]; exact own_row_far (hHeld.2.2.2.2) HIn6_r.out _⟩
    refine hK.out _ _ hHeld3 (fun hHeld2 => ?_)
    clear hK K hHeld hHeld3 hw
    have hHeld := hHeld2
    clear hHeld2
    (try simp only [Act.put, sA, sB, sC])
    refine tkQ 8 (.pointer (some ⟨bn6, 5, none⟩)) hHeld (h := ?_)
    (try simp only [Act.put, sA, sB, sC])
    refine wpAnyH_ready (rs := [9]) (by kernel_rfl) (by simp) ?_
    refine AllReadyH.cons (o := ?o5__9) ?h5__9 (fun K hK => ?_) AllReadyH.nil
    case h5__9 => (first | (simp only [gA, gB, gC]; done) | (simp only [gA, gB, gC]; exact rfl))
    rw [if_pos (by rfl)]
    refine wp_st_part 36 _ _ rfl #[.int .i64 k.se, .int .i64 k.ep, .int .i64 k.sq, .int .i64 k.ak, .bool true, .int .i64 m.ki, .int .i64 m.a, .int .i64 m.b, .int .i64 m.c] (#[.int .i64 m.ki, .int .i64 m.a, .int .i64 m.b, .int .i64 m.c]) rfl rfl HRn6.out (Nat.le_of_ble_eq_true rfl) rfl (by simp [Value.oneCell']) (by kernel_rfl) ?_
    clear HRn6
    intro w6 hw
    have HRn6 := Lib.hid (show Blk w6 bn6 38 #[.int .i64 k.se, .int .i64 k.ep, .int .i64 k.sq, .int .i64 k.ak, .bool true, .int .i64 m.ki, .int .i64 m.a, .int .i64 m.b, .int .i64 m.c] by obtain ⟨old, Bo, _⟩ := hHeld.2.2.2.1; rw [hw]; exact Blk.row Bo _)
    have hHeld3 := HKS.out.at_ w6 ⟨by rw [hw]; exact Upd.setRow hHeld.1 (Or.inr HGn6.out) _, by rw [hw]; exact Blk.row_far (hHeld.2.1) (Ne.symm HNn6R.out) _, by rw [hw]; exact Blk.row_far (hHeld.2.2.1) (Ne.symm HNn6Q.out) _, HasRow.of HRn6.out rfl, by rw [hw]; exact own_row_far (hHeld.2.2.2.2) HIn6_r.out _⟩
    refine hK.out _ _ hHeld3 (fun hHeld2 => ?_)
    clear hK K hHeld hHeld3 hw
    have hHeld := hHeld2
    clear hHeld2
    (try simp only [Act.put, sA, sB, sC])
    refine wpAnyH_done (by kernel_rfl) ?_ _
    have HSd5 := Lib.hid hHeld.1
    have HBRd5 := Lib.hid (hHeld.2.1)
    have HBQd5 := Lib.hid (hHeld.2.2.1)
    have HBn6d5 := Lib.hid HRn6.out
    clear HRn6
    have HFrd5 := Lib.hid (hHeld.2.2.2.2)
    clear hHeld HRK HKS HSU HBR4 HBQ4 HBn64 HFr4
    go_wp2_with fail
    go_meet
    case rel => exact Lib.hid ⟨HSd5.out, HBRd5.out, HBQd5.out, HBn6d5.out, HFrd5.out⟩
  case rest =>
    clear HSU HBR4 HBQ4 HBn64 HFr4
    obtain ⟨g0, g1, g2, g3, g4⟩ := hcut.out
    clear hcut
    have HS54 := Lib.hid g0
    have HBR54 := Lib.hid g1
    have HBQ54 := Lib.hid g2
    have HBn654 := Lib.hid g3
    have HFr54 := Lib.hid g4
    clear g0 g1 g2 g3 g4
    go_upto_region 6 with fail
    go_cut [] (fun  wx => Hid (Upd (q :: blkOf (some ⟨g, 0, none⟩)) w wx ∧ Blk wx w.heap.size 38 #[.int .i64 0, .int .i64 0, .int .i64 0, .int .i64 0, .bool false, .int .i64 0, .int .i64 0, .int .i64 0, .int .i64 0] ∧ Blk wx q 88 #[.int .i64 k.c.ca, .int .i64 k.c.fl, .int .i64 k.c.ft, .int .i64 k.c.se, .int .i64 k.c.dr, .int .i64 k.c.dw, .int .i64 k.c.ho, .int .i64 k.c.re, .int .i64 k.c.yi, .int .i64 k.c.qu, .int .i64 k.c.qo, .int .i64 k.c.lo, .int .i64 k.c.sl, .int .i64 k.c.rt, .int .i64 k.c.cp, .int .i64 k.c.tr, .int .i64 k.c.de, .int .i64 k.c.wi, .int .i64 k.se, .int .i64 k.ep, .slice (some ⟨g, 0, none⟩) ls.length c, .int .i64 k.sq, .int .i64 k.st, .int .i64 (cl (cl now + cl (pa k.c.rt k.c.cp k.st))), .int .i64 k.ak, .bool k.an, .int .i64 k.he] ∧ Blk wx bn6 38 #[.int .i64 k.se, .int .i64 k.ep, .int .i64 k.sq, .int .i64 k.ak, .bool true, .int .i64 m.ki, .int .i64 m.a, .int .i64 m.b, .int .i64 m.c] ∧ (wx).ownsRow lo 36 4 (.slice (some ⟨g, 0, none⟩) ls.length c) ls.length (rowsOf msgC ls)))
    case first =>
      have HKS : Hid (KeepS (fun W : World => Upd (q :: blkOf (some ⟨g, 0, none⟩)) w W ∧ Blk W w.heap.size 38 #[.int .i64 0, .int .i64 0, .int .i64 0, .int .i64 0, .bool false, .int .i64 0, .int .i64 0, .int .i64 0, .int .i64 0] ∧ HasRow W q 88 27 ∧ Blk W bn6 38 #[.int .i64 k.se, .int .i64 k.ep, .int .i64 k.sq, .int .i64 k.ak, .bool true, .int .i64 m.ki, .int .i64 m.a, .int .i64 m.b, .int .i64 m.c] ∧ (W).ownsRow lo 36 4 (.slice (some ⟨g, 0, none⟩) ls.length c) ls.length (rowsOf msgC ls)) wc) := Lib.hid ⟨fun W W' k ⟨h, h0, h1, h2, h3⟩ => ⟨h.trans k, keep_blk k h0, HasRow.keep k h1, keep_blk k h2, keep_own k h3⟩, ⟨HS54.out, HBR54.out, HasRow.of HBQ54.out rfl, HBn654.out, HFr54.out⟩⟩
      have HRK := Lib.hid HKS.out.1
      have HPQ := Lib.hid (show Blk (World.drew wc) q 88 #[.int .i64 k.c.ca, .int .i64 k.c.fl, .int .i64 k.c.ft, .int .i64 k.c.se, .int .i64 k.c.dr, .int .i64 k.c.dw, .int .i64 k.c.ho, .int .i64 k.c.re, .int .i64 k.c.yi, .int .i64 k.c.qu, .int .i64 k.c.qo, .int .i64 k.c.lo, .int .i64 k.c.sl, .int .i64 k.c.rt, .int .i64 k.c.cp, .int .i64 k.c.tr, .int .i64 k.c.de, .int .i64 k.c.wi, .int .i64 k.se, .int .i64 k.ep, .slice (some ⟨g, 0, none⟩) ls.length c, .int .i64 k.sq, .int .i64 k.st, .int .i64 k.du, .int .i64 k.ak, .bool k.an, .int .i64 k.he] from HBQ54.out)
      refine wp_held HKS.out (by kernel_rfl) (fun hHeld => ?_)
      refine tkQ 0 (.pointer (some ⟨q, 0, none⟩)) hHeld (h := ?_)
      (try simp only [Act.put, sA, sB, sC])
      refine tkQ 1 (.int .i64 now) hHeld (h := ?_)
      (try simp only [Act.put, sA, sB, sC])
      refine tkQ 2 (.pointer (some ⟨q, 0, none⟩)) hHeld (h := ?_)
      (try simp only [Act.put, sA, sB, sC])
      refine tkQ 3 (.pointer (some ⟨q, 0, none⟩)) hHeld (h := ?_)
      (try simp only [Act.put, sA, sB, sC])
      refine tkQ 4 (.pointer (some ⟨q, 0, none⟩)) hHeld (h := ?_)
      (try simp only [Act.put, sA, sB, sC])
      refine tkQ 5 (.pointer (some ⟨q, 13, none⟩)) hHeld (h := ?_)
      (try simp only [Act.put, sA, sB, sC])
      refine tkQ 7 (.pointer (some ⟨q, 0, none⟩)) hHeld (h := ?_)
      (try simp only [Act.put, sA, sB, sC])
      refine tkQ 8 (.pointer (some ⟨q, 0, none⟩)) hHeld (h := ?_)
      (try simp only [Act.put, sA, sB, sC])
      refine tkQ 9 (.pointer (some ⟨q, 0, none⟩)) hHeld (h := ?_)
      (try simp only [Act.put, sA, sB, sC])
      refine tkQ 10 (.pointer (some ⟨q, 14, none⟩)) hHeld (h := ?_)
      (try simp only [Act.put, sA, sB, sC])
      refine tkQ 12 (.pointer (some ⟨q, 0, none⟩)) hHeld (h := ?_)
      (try simp only [Act.put, sA, sB, sC])
      refine tkQ 13 (.pointer (some ⟨q, 0, none⟩)) hHeld (h := ?_)
      (try simp only [Act.put, sA, sB, sC])
      refine tkQ 14 (.pointer (some ⟨q, 22, none⟩)) hHeld (h := ?_)
      (try simp only [Act.put, sA, sB, sC])
      refine wpAnyH_ready (rs := [6, 11, 15]) (by kernel_rfl) (by simp) ?_
      refine AllReadyH.cons (o := ?o6__6b) ?h6__6b (fun K hK => ?g6__6b) (AllReadyH.cons (o := ?o6__11b) ?h6__11b (fun K hK => ?g6__11b) (AllReadyH.cons (o := ?o6__15b) ?h6__15b (fun K hK => ?g6__15b) AllReadyH.nil))
      case h6__6b => (first | (simp only [gA, gB, gC]; done) | (simp only [gA, gB, gC]; exact rfl))
      case h6__11b => (first | (simp only [gA, gB, gC]; done) | (simp only [gA, gB, gC]; exact rfl))
      case h6__15b => (first | (simp only [gA, gB, gC]; done) | (simp only [gA, gB, gC]; exact rfl))
      case g6__6b =>
        rw [if_pos (by rfl)]
        refine wp_q (.int .i64 k.c.rt) ?e6_b6_6 ?_
        case e6_b6_6 => exact exec_cell 3 _ _ HPQ.out rfl rfl rfl Try.underlying3 rfl
        refine hK.out _ _ hHeld (fun hHeld2 => ?_)
        clear hK K hHeld2
        (try simp only [Act.put, sA, sB, sC])
        refine wpAnyH_ready (rs := [11, 15]) (by kernel_rfl) (by simp) ?_
        refine AllReadyH.cons (o := ?o6_b6_11b) ?h6_b6_11b (fun K hK => ?g6_b6_11b) (AllReadyH.cons (o := ?o6_b6_15b) ?h6_b6_15b (fun K hK => ?g6_b6_15b) AllReadyH.nil)
        case h6_b6_11b => (first | (simp only [gA, gB, gC]; done) | (simp only [gA, gB, gC]; exact rfl))
        case h6_b6_15b => (first | (simp only [gA, gB, gC]; done) | (simp only [gA, gB, gC]; exact rfl))
        case g6_b6_11b =>
          rw [if_pos (by rfl)]
          refine wp_q (.int .i64 k.c.cp) ?e6_b6b11_11 ?_
          case e6_b6b11_11 => exact exec_cell 3 _ _ HPQ.out rfl rfl rfl Try.underlying3 rfl
          refine hK.out _ _ hHeld (fun hHeld2 => ?_)
          clear hK K hHeld2
          (try simp only [Act.put, sA, sB, sC])
          refine wpAnyH_ready (rs := [15]) (by kernel_rfl) (by simp) ?_
          refine AllReadyH.cons (o := ?o6_b6b11_15) ?h6_b6b11_15 (fun K hK => ?_) AllReadyH.nil
          case h6_b6b11_15 => (first | (simp only [gA, gB, gC]; done) | (simp only [gA, gB, gC]; exact rfl))
          rw [if_pos (by rfl)]
          refine wp_q (.int .i64 k.st) ?e6_b6b11_15 ?_
          case e6_b6b11_15 => exact exec_cell 3 _ _ HPQ.out rfl rfl rfl Try.underlying3 rfl
          refine hK.out _ _ hHeld (fun hHeld2 => ?_)
          clear hK K hHeld2
          (try simp only [Act.put, sA, sB, sC])
          refine wpAnyH_ready (rs := [16]) (by kernel_rfl) (by simp) ?_
          refine AllReadyH.cons (o := ?o6_b6b11_16) ?h6_b6b11_16 (fun K hK => ?_) AllReadyH.nil
          case h6_b6b11_16 => (first | (simp only [gA, gB, gC]; done) | (simp only [gA, gB, gC]; exact rfl))
          (try go_simp)
          refine (paT _ _ _ _).mono ?_
          rintro e w' ⟨rfl, rfl⟩
          (try go_wp2_with fail)
          refine hK.out _ _ hHeld (fun hHeld2 => ?_)
          clear hK K hHeld2
          (try simp only [Act.put, sA, sB, sC])
          refine wpAnyH_ready (rs := [17]) (by kernel_rfl) (by simp) ?_
          refine AllReadyH.cons (o := ?o6_b6b11_17) ?h6_b6b11_17 (fun K hK => ?_) AllReadyH.nil
          case h6_b6b11_17 => (first | (simp only [gA, gB, gC]; done) | (simp only [gA, gB, gC]; exact rfl))
          (try go_simp)
          refine (addT _ _ _).mono ?_
          rintro e w' ⟨rfl, rfl⟩
          (try go_wp2_with fail)
          refine hK.out _ _ hHeld (fun hHeld2 => ?_)
          clear hK K hHeld2
          (try simp only [Act.put, sA, sB, sC])
          refine tkQ 18 (.pointer (some ⟨q, 0, none⟩)) hHeld (h := ?_)
          (try simp only [Act.put, sA, sB, sC])
          refine tkQ 19 (.pointer (some ⟨q, 23, none⟩)) hHeld (h := ?_)
          (try simp only [Act.put, sA, sB, sC])
          refine wpAnyH_ready (rs := [20]) (by kernel_rfl) (by simp) ?_
          refine AllReadyH.cons (o := ?o6_b6b11_20) ?h6_b6b11_20 (fun K hK => ?_) AllReadyH.nil
          case h6_b6b11_20 => (first | (simp only [gA, gB, gC]; done) | (simp only [gA, gB, gC]; exact rfl))
          rw [if_pos (by rfl)]
          refine wp_st_cell 3 _ _ rfl #[.int .i64 k.c.ca, .int .i64 k.c.fl, .int .i64 k.c.ft, .int .i64 k.c.se, .int .i64 k.c.dr, .int .i64 k.c.dw, .int .i64 k.c.ho, .int .i64 k.c.re, .int .i64 k.c.yi, .int .i64 k.c.qu, .int .i64 k.c.qo, .int .i64 k.c.lo, .int .i64 k.c.sl, .int .i64 k.c.rt, .int .i64 k.c.cp, .int .i64 k.c.tr, .int .i64 k.c.de, .int .i64 k.c.wi, .int .i64 k.se, .int .i64 k.ep, .slice (some ⟨g, 0, none⟩) ls.length c, .int .i64 k.sq, .int .i64 k.st, .int .i64 (cl (cl now + cl (pa k.c.rt k.c.cp k.st))), .int .i64 k.ak, .bool k.an, .int .i64 k.he] (.int .i64 (cl (cl now + cl (pa k.c.rt k.c.cp k.st)))) rfl rfl HPQ.out (by show 23 < 27; decide) rfl (by first | rfl | simp [Value.oneCell']) (by kernel_rfl) ?_
          clear HPQ
          intro w55 hw
          have HRQ := Lib.hid (show Blk w55 q 88 #[.int .i64 k.c.ca, .int .i64 k.c.fl, .int .i64 k.c.ft, .int .i64 k.c.se, .int .i64 k.c.dr, .int .i64 k.c.dw, .int .i64 k.c.ho, .int .i64 k.c.re, .int .i64 k.c.yi, .int .i64 k.c.qu, .int .i64 k.c.qo, .int .i64 k.c.lo, .int .i64 k.c.sl, .int .i64 k.c.rt, .int .i64 k.c.cp, .int .i64 k.c.tr, .int .i64 k.c.de, .int .i64 k.c.wi, .int .i64 k.se, .int .i64 k.ep, .slice (some ⟨g, 0, none⟩) ls.length c, .int .i64 k.sq, .int .i64 k.st, .int .i64 (cl (cl now + cl (pa k.c.rt k.c.cp k.st))), .int .i64 k.ak, .bool k.an, .int .i64 k.he] by obtain ⟨old, Bo, _⟩ := hHeld.2.2.1; rw [hw]; exact Blk.row Bo _)
          have hHeld3 := HKS.out.at_ w55 ⟨by rw [hw]; exact Upd.setRow hHeld.1 (.inl (by simp)) _, by rw [hw]; exact Blk.row_far (hHeld.2.1) (Ne.symm HNR.out) _, HasRow.of HRQ.out rfl, by rw [hw]; exact Blk.row_far (hHeld.2.2.2.1) HNn6Q.out _, by rw [hw]; exact own_row_far (hHeld.2.2.2.2) HIQ.out _⟩
          refine hK.out _ _ hHeld3 (fun hHeld2 => ?_)
          clear hK K hHeld hHeld3 hw
          have hHeld := hHeld2
          clear hHeld2
          (try simp only [Act.put, sA, sB, sC])
          refine wpAnyH_done (by kernel_rfl) ?_ _
          have HSd6 := Lib.hid hHeld.1
          have HBRd6 := Lib.hid (hHeld.2.1)
          have HBQd6 := Lib.hid HRQ.out
          clear HRQ
          have HBn6d6 := Lib.hid (hHeld.2.2.2.1)
          have HFrd6 := Lib.hid (hHeld.2.2.2.2)
          clear hHeld HRK HKS HS54 HBR54 HBQ54 HBn654 HFr54
          go_wp2_with fail
          go_meet
          case rel => exact Lib.hid ⟨HSd6.out, HBRd6.out, HBQd6.out, HBn6d6.out, HFrd6.out⟩
        case g6_b6_15b =>
          rw [if_pos (by rfl)]
          refine wp_q (.int .i64 k.st) ?e6_b6b15_15 ?_
          case e6_b6b15_15 => exact exec_cell 3 _ _ HPQ.out rfl rfl rfl Try.underlying3 rfl
          refine hK.out _ _ hHeld (fun hHeld2 => ?_)
          clear hK K hHeld2
          (try simp only [Act.put, sA, sB, sC])
          refine wpAnyH_ready (rs := [11]) (by kernel_rfl) (by simp) ?_
          refine AllReadyH.cons (o := ?o6_b6b15_11) ?h6_b6b15_11 (fun K hK => ?_) AllReadyH.nil
          case h6_b6b15_11 => (first | (simp only [gA, gB, gC]; done) | (simp only [gA, gB, gC]; exact rfl))
          rw [if_pos (by rfl)]
          refine wp_q (.int .i64 k.c.cp) ?e6_b6b15_11 ?_
          case e6_b6b15_11 => exact exec_cell 3 _ _ HPQ.out rfl rfl rfl Try.underlying3 rfl
          refine hK.out _ _ hHeld (fun hHeld2 => ?_)
          clear hK K hHeld2
          (try simp only [Act.put, sA, sB, sC])
          refine wpAnyH_ready (rs := [16]) (by kernel_rfl) (by simp) ?_
          refine AllReadyH.cons (o := ?o6_b6b15_16) ?h6_b6b15_16 (fun K hK => ?_) AllReadyH.nil
          case h6_b6b15_16 => (first | (simp only [gA, gB, gC]; done) | (simp only [gA, gB, gC]; exact rfl))
          (try go_simp)
          refine (paT _ _ _ _).mono ?_
          rintro e w' ⟨rfl, rfl⟩
          (try go_wp2_with fail)
          refine hK.out _ _ hHeld (fun hHeld2 => ?_)
          clear hK K hHeld2
          (try simp only [Act.put, sA, sB, sC])
          refine wpAnyH_ready (rs := [17]) (by kernel_rfl) (by simp) ?_
          refine AllReadyH.cons (o := ?o6_b6b15_17) ?h6_b6b15_17 (fun K hK => ?_) AllReadyH.nil
          case h6_b6b15_17 => (first | (simp only [gA, gB, gC]; done) | (simp only [gA, gB, gC]; exact rfl))
          (try go_simp)
          refine (addT _ _ _).mono ?_
          rintro e w' ⟨rfl, rfl⟩
          (try go_wp2_with fail)
          refine hK.out _ _ hHeld (fun hHeld2 => ?_)
          clear hK K hHeld2
          (try simp only [Act.put, sA, sB, sC])
          refine tkQ 18 (.pointer (some ⟨q, 0, none⟩)) hHeld (h := ?_)
          (try simp only [Act.put, sA, sB, sC])
          refine tkQ 19 (.pointer (some ⟨q, 23, none⟩)) hHeld (h := ?_)
          (try simp only [Act.put, sA, sB, sC])
          refine wpAnyH_ready (rs := [20]) (by kernel_rfl) (by simp) ?_
          refine AllReadyH.cons (o := ?o6_b6b15_20) ?h6_b6b15_20 (fun K hK => ?_) AllReadyH.nil
          case h6_b6b15_20 => (first | (simp only [gA, gB, gC]; done) | (simp only [gA, gB, gC]; exact rfl))
          rw [if_pos (by rfl)]
          refine wp_st_cell 3 _ _ rfl #[.int .i64 k.c.ca, .int .i64 k.c.fl, .int .i64 k.c.ft, .int .i64 k.c.se, .int .i64 k.c.dr, .int .i64 k.c.dw, .int .i64 k.c.ho, .int .i64 k.c.re, .int .i64 k.c.yi, .int .i64 k.c.qu, .int .i64 k.c.qo, .int .i64 k.c.lo, .int .i64 k.c.sl, .int .i64 k.c.rt, .int .i64 k.c.cp, .int .i64 k.c.tr, .int .i64 k.c.de, .int .i64 k.c.wi, .int .i64 k.se, .int .i64 k.ep, .slice (some ⟨g, 0, none⟩) ls.length c, .int .i64 k.sq, .int .i64 k.st, .int .i64 (cl (cl now + cl (pa k.c.rt k.c.cp k.st))), .int .i64 k.ak, .bool k.an, .int .i64 k.he] (.int .i64 (cl (cl now + cl (pa k.c.rt k.c.cp k.st)))) rfl rfl HPQ.out (by show 23 < 27; decide) rfl (by first | rfl | simp [Value.oneCell']) (by kernel_rfl) ?_
          clear HPQ
          intro w55 hw
          have HRQ := Lib.hid (show Blk w55 q 88 #[.int .i64 k.c.ca, .int .i64 k.c.fl, .int .i64 k.c.ft, .int .i64 k.c.se, .int .i64 k.c.dr, .int .i64 k.c.dw, .int .i64 k.c.ho, .int .i64 k.c.re, .int .i64 k.c.yi, .int .i64 k.c.qu, .int .i64 k.c.qo, .int .i64 k.c.lo, .int .i64 k.c.sl, .int .i64 k.c.rt, .int .i64 k.c.cp, .int .i64 k.c.tr, .int .i64 k.c.de, .int .i64 k.c.wi, .int .i64 k.se, .int .i64 k.ep, .slice (some ⟨g, 0, none⟩) ls.length c, .int .i64 k.sq, .int .i64 k.st, .int .i64 (cl (cl now + cl (pa k.c.rt k.c.cp k.st))), .int .i64 k.ak, .bool k.an, .int .i64 k.he] by obtain ⟨old, Bo, _⟩ := hHeld.2.2.1; rw [hw]; exact Blk.row Bo _)
          have hHeld3 := HKS.out.at_ w55 ⟨by rw [hw]; exact Upd.setRow hHeld.1 (.inl (by simp)) _, by rw [hw]; exact Blk.row_far (hHeld.2.1) (Ne.symm HNR.out) _, HasRow.of HRQ.out rfl, by rw [hw]; exact Blk.row_far (hHeld.2.2.2.1) HNn6Q.out _, by rw [hw]; exact own_row_far (hHeld.2.2.2.2) HIQ.out _⟩
          refine hK.out _ _ hHeld3 (fun hHeld2 => ?_)
          clear hK K hHeld hHeld3 hw
          have hHeld := hHeld2
          clear hHeld2
          (try simp only [Act.put, sA, sB, sC])
          refine wpAnyH_done (by kernel_rfl) ?_ _
          have HSd6v2 := Lib.hid hHeld.1
          have HBRd6v2 := Lib.hid (hHeld.2.1)
          have HBQd6v2 := Lib.hid HRQ.out
          clear HRQ
          have HBn6d6v2 := Lib.hid (hHeld.2.2.2.1)
          have HFrd6v2 := Lib.hid (hHeld.2.2.2.2)
          clear hHeld HRK HKS HS54 HBR54 HBQ54 HBn654 HFr54
          go_wp2_with fail
          go_meet
          case rel => exact Lib.hid ⟨HSd6v2.out, HBRd6v2.out, HBQd6v2.out, HBn6d6v2.out, HFrd6v2.out⟩
      case g6__11b =>
        rw [if_pos (by rfl)]
        refine wp_q (.int .i64 k.c.cp) ?e6_b11_11 ?_
        case e6_b11_11 => exact exec_cell 3 _ _ HPQ.out rfl rfl rfl Try.underlying3 rfl
        refine hK.out _ _ hHeld (fun hHeld2 => ?_)
        clear hK K hHeld2
        (try simp only [Act.put, sA, sB, sC])
        refine wpAnyH_ready (rs := [6, 15]) (by kernel_rfl) (by simp) ?_
        refine AllReadyH.cons (o := ?o6_b11_6b) ?h6_b11_6b (fun K hK => ?g6_b11_6b) (AllReadyH.cons (o := ?o6_b11_15b) ?h6_b11_15b (fun K hK => ?g6_b11_15b) AllReadyH.nil)
        case h6_b11_6b => (first | (simp only [gA, gB, gC]; done) | (simp only [gA, gB, gC]; exact rfl))
        case h6_b11_15b => (first | (simp only [gA, gB, gC]; done) | (simp only [gA, gB, gC]; exact rfl))
        case g6_b11_6b =>
          rw [if_pos (by rfl)]
          refine wp_q (.int .i64 k.c.rt) ?e6_b11b6_6 ?_
          case e6_b11b6_6 => exact exec_cell 3 _ _ HPQ.out rfl rfl rfl Try.underlying3 rfl
          refine hK.out _ _ hHeld (fun hHeld2 => ?_)
          clear hK K hHeld2
          (try simp only [Act.put, sA, sB, sC])
          refine wpAnyH_ready (rs := [15]) (by kernel_rfl) (by simp) ?_
          refine AllReadyH.cons (o := ?o6_b11b6_15) ?h6_b11b6_15 (fun K hK => ?_) AllReadyH.nil
          case h6_b11b6_15 => (first | (simp only [gA, gB, gC]; done) | (simp only [gA, gB, gC]; exact rfl))
          rw [if_pos (by rfl)]
          refine wp_q (.int .i64 k.st) ?e6_b11b6_15 ?_
          case e6_b11b6_15 => exact exec_cell 3 _ _ HPQ.out rfl rfl rfl Try.underlying3 rfl
          refine hK.out _ _ hHeld (fun hHeld2 => ?_)
          clear hK K hHeld2
          (try simp only [Act.put, sA, sB, sC])
          refine wpAnyH_ready (rs := [16]) (by kernel_rfl) (by simp) ?_
          refine AllReadyH.cons (o := ?o6_b11b6_16) ?h6_b11b6_16 (fun K hK => ?_) AllReadyH.nil
          case h6_b11b6_16 => (first | (simp only [gA, gB, gC]; done) | (simp only [gA, gB, gC]; exact rfl))
          (try go_simp)
          refine (paT _ _ _ _).mono ?_
          rintro e w' ⟨rfl, rfl⟩
          (try go_wp2_with fail)
          refine hK.out _ _ hHeld (fun hHeld2 => ?_)
          clear hK K hHeld2
          (try simp only [Act.put, sA, sB, sC])
          refine wpAnyH_ready (rs := [17]) (by kernel_rfl) (by simp) ?_
          refine AllReadyH.cons (o := ?o6_b11b6_17) ?h6_b11b6_17 (fun K hK => ?_) AllReadyH.nil
          case h6_b11b6_17 => (first | (simp only [gA, gB, gC]; done) | (simp only [gA, gB, gC]; exact rfl))
          (try go_simp)
          refine (addT _ _ _).mono ?_
          rintro e w' ⟨rfl, rfl⟩
          (try go_wp2_with fail)
          refine hK.out _ _ hHeld (fun hHeld2 => ?_)
          clear hK K hHeld2
          (try simp only [Act.put, sA, sB, sC])
          refine tkQ 18 (.pointer (some ⟨q, 0, none⟩)) hHeld (h := ?_)
          (try simp only [Act.put, sA, sB, sC])
          refine tkQ 19 (.pointer (some ⟨q, 23, none⟩)) hHeld (h := ?_)
          (try simp only [Act.put, sA, sB, sC])
          refine wpAnyH_ready (rs := [20]) (by kernel_rfl) (by simp) ?_
          refine AllReadyH.cons (o := ?o6_b11b6_20) ?h6_b11b6_20 (fun K hK => ?_) AllReadyH.nil
          case h6_b11b6_20 => (first | (simp only [gA, gB, gC]; done) | (simp only [gA, gB, gC]; exact rfl))
          rw [if_pos (by rfl)]
          refine wp_st_cell 3 _ _ rfl #[.int .i64 k.c.ca, .int .i64 k.c.fl, .int .i64 k.c.ft, .int .i64 k.c.se, .int .i64 k.c.dr, .int .i64 k.c.dw, .int .i64 k.c.ho, .int .i64 k.c.re, .int .i64 k.c.yi, .int .i64 k.c.qu, .int .i64 k.c.qo, .int .i64 k.c.lo, .int .i64 k.c.sl, .int .i64 k.c.rt, .int .i64 k.c.cp, .int .i64 k.c.tr, .int .i64 k.c.de, .int .i64 k.c.wi, .int .i64 k.se, .int .i64 k.ep, .slice (some ⟨g, 0, none⟩) ls.length c, .int .i64 k.sq, .int .i64 k.st, .int .i64 (cl (cl now + cl (pa k.c.rt k.c.cp k.st))), .int .i64 k.ak, .bool k.an, .int .i64 k.he] (.int .i64 (cl (cl now + cl (pa k.c.rt k.c.cp k.st)))) rfl rfl HPQ.out (by show 23 < 27; decide) rfl (by first | rfl | simp [Value.oneCell']) (by kernel_rfl) ?_
          clear HPQ
          intro w55 hw
          have HRQ := Lib.hid (show Blk w55 q 88 #[.int .i64 k.c.ca, .int .i64 k.c.fl, .int .i64 k.c.ft, .int .i64 k.c.se, .int .i64 k.c.dr, .int .i64 k.c.dw, .int .i64 k.c.ho, .int .i64 k.c.re, .int .i64 k.c.yi, .int .i64 k.c.qu, .int .i64 k.c.qo, .int .i64 k.c.lo, .int .i64 k.c.sl, .int .i64 k.c.rt, .int .i64 k.c.cp, .int .i64 k.c.tr, .int .i64 k.c.de, .int .i64 k.c.wi, .int .i64 k.se, .int .i64 k.ep, .slice (some ⟨g, 0, none⟩) ls.length c, .int .i64 k.sq, .int .i64 k.st, .int .i64 (cl (cl now + cl (pa k.c.rt k.c.cp k.st))), .int .i64 k.ak, .bool k.an, .int .i64 k.he] by obtain ⟨old, Bo, _⟩ := hHeld.2.2.1; rw [hw]; exact Blk.row Bo _)
          have hHeld3 := HKS.out.at_ w55 ⟨by rw [hw]; exact Upd.setRow hHeld.1 (.inl (by simp)) _, by rw [hw]; exact Blk.row_far (hHeld.2.1) (Ne.symm HNR.out) _, HasRow.of HRQ.out rfl, by rw [hw]; exact Blk.row_far (hHeld.2.2.2.1) HNn6Q.out _, by rw [hw]; exact own_row_far (hHeld.2.2.2.2) HIQ.out _⟩
          refine hK.out _ _ hHeld3 (fun hHeld2 => ?_)
          clear hK K hHeld hHeld3 hw
          have hHeld := hHeld2
          clear hHeld2
          (try simp only [Act.put, sA, sB, sC])
          refine wpAnyH_done (by kernel_rfl) ?_ _
          have HSd6v3 := Lib.hid hHeld.1
          have HBRd6v3 := Lib.hid (hHeld.2.1)
          have HBQd6v3 := Lib.hid HRQ.out
          clear HRQ
          have HBn6d6v3 := Lib.hid (hHeld.2.2.2.1)
          have HFrd6v3 := Lib.hid (hHeld.2.2.2.2)
          clear hHeld HRK HKS HS54 HBR54 HBQ54 HBn654 HFr54
          go_wp2_with fail
          go_meet
          case rel => exact Lib.hid ⟨HSd6v3.out, HBRd6v3.out, HBQd6v3.out, HBn6d6v3.out, HFrd6v3.out⟩
        case g6_b11_15b =>
          rw [if_pos (by rfl)]
          refine wp_q (.int .i64 k.st) ?e6_b11b15_15 ?_
          case e6_b11b15_15 => exact exec_cell 3 _ _ HPQ.out rfl rfl rfl Try.underlying3 rfl
          refine hK.out _ _ hHeld (fun hHeld2 => ?_)
          clear hK K hHeld2
          (try simp only [Act.put, sA, sB, sC])
          refine wpAnyH_ready (rs := [6]) (by kernel_rfl) (by simp) ?_
          refine AllReadyH.cons (o := ?o6_b11b15_6) ?h6_b11b15_6 (fun K hK => ?_) AllReadyH.nil
          case h6_b11b15_6 => (first | (simp only [gA, gB, gC]; done) | (simp only [gA, gB, gC]; exact rfl))
          rw [if_pos (by rfl)]
          refine wp_q (.int .i64 k.c.rt) ?e6_b11b15_6 ?_
          case e6_b11b15_6 => exact exec_cell 3 _ _ HPQ.out rfl rfl rfl Try.underlying3 rfl
          refine hK.out _ _ hHeld (fun hHeld2 => ?_)
          clear hK K hHeld2
          (try simp only [Act.put, sA, sB, sC])
          refine wpAnyH_ready (rs := [16]) (by kernel_rfl) (by simp) ?_
          refine AllReadyH.cons (o := ?o6_b11b15_16) ?h6_b11b15_16 (fun K hK => ?_) AllReadyH.nil
          case h6_b11b15_16 => (first | (simp only [gA, gB, gC]; done) | (simp only [gA, gB, gC]; exact rfl))
          (try go_simp)
          refine (paT _ _ _ _).mono ?_
          rintro e w' ⟨rfl, rfl⟩
          (try go_wp2_with fail)
          refine hK.out _ _ hHeld (fun hHeld2 => ?_)
          clear hK K hHeld2
          (try simp only [Act.put, sA, sB, sC])
          refine wpAnyH_ready (rs := [17]) (by kernel_rfl) (by simp) ?_
          refine AllReadyH.cons (o := ?o6_b11b15_17) ?h6_b11b15_17 (fun K hK => ?_) AllReadyH.nil
          case h6_b11b15_17 => (first | (simp only [gA, gB, gC]; done) | (simp only [gA, gB, gC]; exact rfl))
          (try go_simp)
          refine (addT _ _ _).mono ?_
          rintro e w' ⟨rfl, rfl⟩
          (try go_wp2_with fail)
          refine hK.out _ _ hHeld (fun hHeld2 => ?_)
          clear hK K hHeld2
          (try simp only [Act.put, sA, sB, sC])
          refine tkQ 18 (.pointer (some ⟨q, 0, none⟩)) hHeld (h := ?_)
          (try simp only [Act.put, sA, sB, sC])
          refine tkQ 19 (.pointer (some ⟨q, 23, none⟩)) hHeld (h := ?_)
          (try simp only [Act.put, sA, sB, sC])
          refine wpAnyH_ready (rs := [20]) (by kernel_rfl) (by simp) ?_
          refine AllReadyH.cons (o := ?o6_b11b15_20) ?h6_b11b15_20 (fun K hK => ?_) AllReadyH.nil
          case h6_b11b15_20 => (first | (simp only [gA, gB, gC]; done) | (simp only [gA, gB, gC]; exact rfl))
          rw [if_pos (by rfl)]
          refine wp_st_cell 3 _ _ rfl #[.int .i64 k.c.ca, .int .i64 k.c.fl, .int .i64 k.c.ft, .int .i64 k.c.se, .int .i64 k.c.dr, .int .i64 k.c.dw, .int .i64 k.c.ho, .int .i64 k.c.re, .int .i64 k.c.yi, .int .i64 k.c.qu, .int .i64 k.c.qo, .int .i64 k.c.lo, .int .i64 k.c.sl, .int .i64 k.c.rt, .int .i64 k.c.cp, .int .i64 k.c.tr, .int .i64 k.c.de, .int .i64 k.c.wi, .int .i64 k.se, .int .i64 k.ep, .slice (some ⟨g, 0, none⟩) ls.length c, .int .i64 k.sq, .int .i64 k.st, .int .i64 (cl (cl now + cl (pa k.c.rt k.c.cp k.st))), .int .i64 k.ak, .bool k.an, .int .i64 k.he] (.int .i64 (cl (cl now + cl (pa k.c.rt k.c.cp k.st)))) rfl rfl HPQ.out (by show 23 < 27; decide) rfl (by first | rfl | simp [Value.oneCell']) (by kernel_rfl) ?_
          clear HPQ
          intro w55 hw
          have HRQ := Lib.hid (show Blk w55 q 88 #[.int .i64 k.c.ca, .int .i64 k.c.fl, .int .i64 k.c.ft, .int .i64 k.c.se, .int .i64 k.c.dr, .int .i64 k.c.dw, .int .i64 k.c.ho, .int .i64 k.c.re, .int .i64 k.c.yi, .int .i64 k.c.qu, .int .i64 k.c.qo, .int .i64 k.c.lo, .int .i64 k.c.sl, .int .i64 k.c.rt, .int .i64 k.c.cp, .int .i64 k.c.tr, .int .i64 k.c.de, .int .i64 k.c.wi, .int .i64 k.se, .int .i64 k.ep, .slice (some ⟨g, 0, none⟩) ls.length c, .int .i64 k.sq, .int .i64 k.st, .int .i64 (cl (cl now + cl (pa k.c.rt k.c.cp k.st))), .int .i64 k.ak, .bool k.an, .int .i64 k.he] by obtain ⟨old, Bo, _⟩ := hHeld.2.2.1; rw [hw]; exact Blk.row Bo _)
          have hHeld3 := HKS.out.at_ w55 ⟨by rw [hw]; exact Upd.setRow hHeld.1 (.inl (by simp)) _, by rw [hw]; exact Blk.row_far (hHeld.2.1) (Ne.symm HNR.out) _, HasRow.of HRQ.out rfl, by rw [hw]; exact Blk.row_far (hHeld.2.2.2.1) HNn6Q.out _, by rw [hw]; exact own_row_far (hHeld.2.2.2.2) HIQ.out _⟩
          refine hK.out _ _ hHeld3 (fun hHeld2 => ?_)
          clear hK K hHeld hHeld3 hw
          have hHeld := hHeld2
          clear hHeld2
          (try simp only [Act.put, sA, sB, sC])
          refine wpAnyH_done (by kernel_rfl) ?_ _
          have HSd6v4 := Lib.hid hHeld.1
          have HBRd6v4 := Lib.hid (hHeld.2.1)
          have HBQd6v4 := Lib.hid HRQ.out
          clear HRQ
          have HBn6d6v4 := Lib.hid (hHeld.2.2.2.1)
          have HFrd6v4 := Lib.hid (hHeld.2.2.2.2)
          clear hHeld HRK HKS HS54 HBR54 HBQ54 HBn654 HFr54
          go_wp2_with fail
          go_meet
          case rel => exact Lib.hid ⟨HSd6v4.out, HBRd6v4.out, HBQd6v4.out, HBn6d6v4.out, HFrd6v4.out⟩
      case g6__15b =>
        rw [if_pos (by rfl)]
        refine wp_q (.int .i64 k.st) ?e6_b15_15 ?_
        case e6_b15_15 => exact exec_cell 3 _ _ HPQ.out rfl rfl rfl Try.underlying3 rfl
        refine hK.out _ _ hHeld (fun hHeld2 => ?_)
        clear hK K hHeld2
        (try simp only [Act.put, sA, sB, sC])
        refine wpAnyH_ready (rs := [6, 11]) (by kernel_rfl) (by simp) ?_
        refine AllReadyH.cons (o := ?o6_b15_6b) ?h6_b15_6b (fun K hK => ?g6_b15_6b) (AllReadyH.cons (o := ?o6_b15_11b) ?h6_b15_11b (fun K hK => ?g6_b15_11b) AllReadyH.nil)
        case h6_b15_6b => (first | (simp only [gA, gB, gC]; done) | (simp only [gA, gB, gC]; exact rfl))
        case h6_b15_11b => (first | (simp only [gA, gB, gC]; done) | (simp only [gA, gB, gC]; exact rfl))
        case g6_b15_6b =>
          rw [if_pos (by rfl)]
          refine wp_q (.int .i64 k.c.rt) ?e6_b15b6_6 ?_
          case e6_b15b6_6 => exact exec_cell 3 _ _ HPQ.out rfl rfl rfl Try.underlying3 rfl
          refine hK.out _ _ hHeld (fun hHeld2 => ?_)
          clear hK K hHeld2
          (try simp only [Act.put, sA, sB, sC])
          refine wpAnyH_ready (rs := [11]) (by kernel_rfl) (by simp) ?_
          refine AllReadyH.cons (o := ?o6_b15b6_11) ?h6_b15b6_11 (fun K hK => ?_) AllReadyH.nil
          case h6_b15b6_11 => (first | (simp only [gA, gB, gC]; done) | (simp only [gA, gB, gC]; exact rfl))
          rw [if_pos (by rfl)]
          refine wp_q (.int .i64 k.c.cp) ?e6_b15b6_11 ?_
          case e6_b15b6_11 => exact exec_cell 3 _ _ HPQ.out rfl rfl rfl Try.underlying3 rfl
          refine hK.out _ _ hHeld (fun hHeld2 => ?_)
          clear hK K hHeld2
          (try simp only [Act.put, sA, sB, sC])
          refine wpAnyH_ready (rs := [16]) (by kernel_rfl) (by simp) ?_
          refine AllReadyH.cons (o := ?o6_b15b6_16) ?h6_b15b6_16 (fun K hK => ?_) AllReadyH.nil
          case h6_b15b6_16 => (first | (simp only [gA, gB, gC]; done) | (simp only [gA, gB, gC]; exact rfl))
          (try go_simp)
          refine (paT _ _ _ _).mono ?_
          rintro e w' ⟨rfl, rfl⟩
          (try go_wp2_with fail)
          refine hK.out _ _ hHeld (fun hHeld2 => ?_)
          clear hK K hHeld2
          (try simp only [Act.put, sA, sB, sC])
          refine wpAnyH_ready (rs := [17]) (by kernel_rfl) (by simp) ?_
          refine AllReadyH.cons (o := ?o6_b15b6_17) ?h6_b15b6_17 (fun K hK => ?_) AllReadyH.nil
          case h6_b15b6_17 => (first | (simp only [gA, gB, gC]; done) | (simp only [gA, gB, gC]; exact rfl))
          (try go_simp)
          refine (addT _ _ _).mono ?_
          rintro e w' ⟨rfl, rfl⟩
          (try go_wp2_with fail)
          refine hK.out _ _ hHeld (fun hHeld2 => ?_)
          clear hK K hHeld2
          (try simp only [Act.put, sA, sB, sC])
          refine tkQ 18 (.pointer (some ⟨q, 0, none⟩)) hHeld (h := ?_)
          (try simp only [Act.put, sA, sB, sC])
          refine tkQ 19 (.pointer (some ⟨q, 23, none⟩)) hHeld (h := ?_)
          (try simp only [Act.put, sA, sB, sC])
          refine wpAnyH_ready (rs := [20]) (by kernel_rfl) (by simp) ?_
          refine AllReadyH.cons (o := ?o6_b15b6_20) ?h6_b15b6_20 (fun K hK => ?_) AllReadyH.nil
          case h6_b15b6_20 => (first | (simp only [gA, gB, gC]; done) | (simp only [gA, gB, gC]; exact rfl))
          rw [if_pos (by rfl)]
          refine wp_st_cell 3 _ _ rfl #[.int .i64 k.c.ca, .int .i64 k.c.fl, .int .i64 k.c.ft, .int .i64 k.c.se, .int .i64 k.c.dr, .int .i64 k.c.dw, .int .i64 k.c.ho, .int .i64 k.c.re, .int .i64 k.c.yi, .int .i64 k.c.qu, .int .i64 k.c.qo, .int .i64 k.c.lo, .int .i64 k.c.sl, .int .i64 k.c.rt, .int .i64 k.c.cp, .int .i64 k.c.tr, .int .i64 k.c.de, .int .i64 k.c.wi, .int .i64 k.se, .int .i64 k.ep, .slice (some ⟨g, 0, none⟩) ls.length c, .int .i64 k.sq, .int .i64 k.st, .int .i64 (cl (cl now + cl (pa k.c.rt k.c.cp k.st))), .int .i64 k.ak, .bool k.an, .int .i64 k.he] (.int .i64 (cl (cl now + cl (pa k.c.rt k.c.cp k.st)))) rfl rfl HPQ.out (by show 23 < 27; decide) rfl (by first | rfl | simp [Value.oneCell']) (by kernel_rfl) ?_
          clear HPQ
          intro w55 hw
          have HRQ := Lib.hid (show Blk w55 q 88 #[.int .i64 k.c.ca, .int .i64 k.c.fl, .int .i64 k.c.ft, .int .i64 k.c.se, .int .i64 k.c.dr, .int .i64 k.c.dw, .int .i64 k.c.ho, .int .i64 k.c.re, .int .i64 k.c.yi, .int .i64 k.c.qu, .int .i64 k.c.qo, .int .i64 k.c.lo, .int .i64 k.c.sl, .int .i64 k.c.rt, .int .i64 k.c.cp, .int .i64 k.c.tr, .int .i64 k.c.de, .int .i64 k.c.wi, .int .i64 k.se, .int .i64 k.ep, .slice (some ⟨g, 0, none⟩) ls.length c, .int .i64 k.sq, .int .i64 k.st, .int .i64 (cl (cl now + cl (pa k.c.rt k.c.cp k.st))), .int .i64 k.ak, .bool k.an, .int .i64 k.he] by obtain ⟨old, Bo, _⟩ := hHeld.2.2.1; rw [hw]; exact Blk.row Bo _)
          have hHeld3 := HKS.out.at_ w55 ⟨by rw [hw]; exact Upd.setRow hHeld.1 (.inl (by simp)) _, by rw [hw]; exact Blk.row_far (hHeld.2.1) (Ne.symm HNR.out) _, HasRow.of HRQ.out rfl, by rw [hw]; exact Blk.row_far (hHeld.2.2.2.1) HNn6Q.out _, by rw [hw]; exact own_row_far (hHeld.2.2.2.2) HIQ.out _⟩
          refine hK.out _ _ hHeld3 (fun hHeld2 => ?_)
          clear hK K hHeld hHeld3 hw
          have hHeld := hHeld2
          clear hHeld2
          (try simp only [Act.put, sA, sB, sC])
          refine wpAnyH_done (by kernel_rfl) ?_ _
          have HSd6v5 := Lib.hid hHeld.1
          have HBRd6v5 := Lib.hid (hHeld.2.1)
          have HBQd6v5 := Lib.hid HRQ.out
          clear HRQ
          have HBn6d6v5 := Lib.hid (hHeld.2.2.2.1)
          have HFrd6v5 := Lib.hid (hHeld.2.2.2.2)
          clear hHeld HRK HKS HS54 HBR54 HBQ54 HBn654 HFr54
          go_wp2_with fail
          go_meet
          case rel => exact Lib.hid ⟨HSd6v5.out, HBRd6v5.out, HBQd6v5.out, HBn6d6v5.out, HFrd6v5.out⟩
        case g6_b15_11b =>
          rw [if_pos (by rfl)]
          refine wp_q (.int .i64 k.c.cp) ?e6_b15b11_11 ?_
          case e6_b15b11_11 => exact exec_cell 3 _ _ HPQ.out rfl rfl rfl Try.underlying3 rfl
          refine hK.out _ _ hHeld (fun hHeld2 => ?_)
          clear hK K hHeld2
          (try simp only [Act.put, sA, sB, sC])
          refine wpAnyH_ready (rs := [6]) (by kernel_rfl) (by simp) ?_
          refine AllReadyH.cons (o := ?o6_b15b11_6) ?h6_b15b11_6 (fun K hK => ?_) AllReadyH.nil
          case h6_b15b11_6 => (first | (simp only [gA, gB, gC]; done) | (simp only [gA, gB, gC]; exact rfl))
          rw [if_pos (by rfl)]
          refine wp_q (.int .i64 k.c.rt) ?e6_b15b11_6 ?_
          case e6_b15b11_6 => exact exec_cell 3 _ _ HPQ.out rfl rfl rfl Try.underlying3 rfl
          refine hK.out _ _ hHeld (fun hHeld2 => ?_)
          clear hK K hHeld2
          (try simp only [Act.put, sA, sB, sC])
          refine wpAnyH_ready (rs := [16]) (by kernel_rfl) (by simp) ?_
          refine AllReadyH.cons (o := ?o6_b15b11_16) ?h6_b15b11_16 (fun K hK => ?_) AllReadyH.nil
          case h6_b15b11_16 => (first | (simp only [gA, gB, gC]; done) | (simp only [gA, gB, gC]; exact rfl))
          (try go_simp)
          refine (paT _ _ _ _).mono ?_
          rintro e w' ⟨rfl, rfl⟩
          (try go_wp2_with fail)
          refine hK.out _ _ hHeld (fun hHeld2 => ?_)
          clear hK K hHeld2
          (try simp only [Act.put, sA, sB, sC])
          refine wpAnyH_ready (rs := [17]) (by kernel_rfl) (by simp) ?_
          refine AllReadyH.cons (o := ?o6_b15b11_17) ?h6_b15b11_17 (fun K hK => ?_) AllReadyH.nil
          case h6_b15b11_17 => (first | (simp only [gA, gB, gC]; done) | (simp only [gA, gB, gC]; exact rfl))
          (try go_simp)
          refine (addT _ _ _).mono ?_
          rintro e w' ⟨rfl, rfl⟩
          (try go_wp2_with fail)
          refine hK.out _ _ hHeld (fun hHeld2 => ?_)
          clear hK K hHeld2
          (try simp only [Act.put, sA, sB, sC])
          refine tkQ 18 (.pointer (some ⟨q, 0, none⟩)) hHeld (h := ?_)
          (try simp only [Act.put, sA, sB, sC])
          refine tkQ 19 (.pointer (some ⟨q, 23, none⟩)) hHeld (h := ?_)
          (try simp only [Act.put, sA, sB, sC])
          refine wpAnyH_ready (rs := [20]) (by kernel_rfl) (by simp) ?_
          refine AllReadyH.cons (o := ?o6_b15b11_20) ?h6_b15b11_20 (fun K hK => ?_) AllReadyH.nil
          case h6_b15b11_20 => (first | (simp only [gA, gB, gC]; done) | (simp only [gA, gB, gC]; exact rfl))
          rw [if_pos (by rfl)]
          refine wp_st_cell 3 _ _ rfl #[.int .i64 k.c.ca, .int .i64 k.c.fl, .int .i64 k.c.ft, .int .i64 k.c.se, .int .i64 k.c.dr, .int .i64 k.c.dw, .int .i64 k.c.ho, .int .i64 k.c.re, .int .i64 k.c.yi, .int .i64 k.c.qu, .int .i64 k.c.qo, .int .i64 k.c.lo, .int .i64 k.c.sl, .int .i64 k.c.rt, .int .i64 k.c.cp, .int .i64 k.c.tr, .int .i64 k.c.de, .int .i64 k.c.wi, .int .i64 k.se, .int .i64 k.ep, .slice (some ⟨g, 0, none⟩) ls.length c, .int .i64 k.sq, .int .i64 k.st, .int .i64 (cl (cl now + cl (pa k.c.rt k.c.cp k.st))), .int .i64 k.ak, .bool k.an, .int .i64 k.he] (.int .i64 (cl (cl now + cl (pa k.c.rt k.c.cp k.st)))) rfl rfl HPQ.out (by show 23 < 27; decide) rfl (by first | rfl | simp [Value.oneCell']) (by kernel_rfl) ?_
          clear HPQ
          intro w55 hw
          have HRQ := Lib.hid (show Blk w55 q 88 #[.int .i64 k.c.ca, .int .i64 k.c.fl, .int .i64 k.c.ft, .int .i64 k.c.se, .int .i64 k.c.dr, .int .i64 k.c.dw, .int .i64 k.c.ho, .int .i64 k.c.re, .int .i64 k.c.yi, .int .i64 k.c.qu, .int .i64 k.c.qo, .int .i64 k.c.lo, .int .i64 k.c.sl, .int .i64 k.c.rt, .int .i64 k.c.cp, .int .i64 k.c.tr, .int .i64 k.c.de, .int .i64 k.c.wi, .int .i64 k.se, .int .i64 k.ep, .slice (some ⟨g, 0, none⟩) ls.length c, .int .i64 k.sq, .int .i64 k.st, .int .i64 (cl (cl now + cl (pa k.c.rt k.c.cp k.st))), .int .i64 k.ak, .bool k.an, .int .i64 k.he] by obtain ⟨old, Bo, _⟩ := hHeld.2.2.1; rw [hw]; exact Blk.row Bo _)
          have hHeld3 := HKS.out.at_ w55 ⟨by rw [hw]; exact Upd.setRow hHeld.1 (.inl (by simp)) _, by rw [hw]; exact Blk.row_far (hHeld.2.1) (Ne.symm HNR.out) _, HasRow.of HRQ.out rfl, by rw [hw]; exact Blk.row_far (hHeld.2.2.2.1) HNn6Q.out _, by rw [hw]; exact own_row_far (hHeld.2.2.2.2) HIQ.out _⟩
          refine hK.out _ _ hHeld3 (fun hHeld2 => ?_)
          clear hK K hHeld hHeld3 hw
          have hHeld := hHeld2
          clear hHeld2
          (try simp only [Act.put, sA, sB, sC])
          refine wpAnyH_done (by kernel_rfl) ?_ _
          have HSd6v6 := Lib.hid hHeld.1
          have HBRd6v6 := Lib.hid (hHeld.2.1)
          have HBQd6v6 := Lib.hid HRQ.out
          clear HRQ
          have HBn6d6v6 := Lib.hid (hHeld.2.2.2.1)
          have HFrd6v6 := Lib.hid (hHeld.2.2.2.2)
          clear hHeld HRK HKS HS54 HBR54 HBQ54 HBn654 HFr54
          go_wp2_with fail
          go_meet
          case rel => exact Lib.hid ⟨HSd6v6.out, HBRd6v6.out, HBQd6v6.out, HBn6d6v6.out, HFrd6v6.out⟩
    case rest =>
      clear HS54 HBR54 HBQ54 HBn654 HFr54
      obtain ⟨g0, g1, g2, g3, g4⟩ := hcut.out
      clear hcut
      have HS104 := Lib.hid g0
      have HBR104 := Lib.hid g1
      have HBQ104 := Lib.hid g2
      have HBn6104 := Lib.hid g3
      have HFr104 := Lib.hid g4
      clear g0 g1 g2 g3 g4
      go_upto_region 7 with fail
      refine wp_region_lit ?_
      refine tkL (.pointer (some ⟨q, 0, none⟩)) (h := ?_)
      (try simp only [Act.put, sA, sB, sC])
      refine tkL (.pointer (some ⟨q, 0, none⟩)) (h := ?_)
      (try simp only [Act.put, sA, sB, sC])
      refine tkL (.pointer (some ⟨q, 22, none⟩)) (h := ?_)
      (try simp only [Act.put, sA, sB, sC])
      refine wpList_q (by rfl) (.int .i64 k.st) ?he ?_
      case he => exact exec_cell 3 _ _ HBQ104.out rfl rfl rfl Try.underlying3 rfl
      (try simp only [Act.put, sA, sB, sC])
      refine wpList_q (by rfl) (.int .i64 (k.st + 1)) ?he ?_
      case he => (go_simp; (first | done | (refine wr64 _ ?_ ?_ <;> (have q0 := HS.out; omega)) | (have q0 := HS.out; omega) | (have q0 := HS.out; split <;> omega) | (have q0 := HS.out; intro hh; omega)))
      (try simp only [Act.put, sA, sB, sC])
      refine tkL (.pointer (some ⟨q, 0, none⟩)) (h := ?_)
      (try simp only [Act.put, sA, sB, sC])
      refine tkL (.pointer (some ⟨q, 22, none⟩)) (h := ?_)
      (try simp only [Act.put, sA, sB, sC])
      refine wpList_wp (by rfl) (fun K hK => ?_)
      refine wp_st_cell 3 _ _ rfl #[.int .i64 k.c.ca, .int .i64 k.c.fl, .int .i64 k.c.ft, .int .i64 k.c.se, .int .i64 k.c.dr, .int .i64 k.c.dw, .int .i64 k.c.ho, .int .i64 k.c.re, .int .i64 k.c.yi, .int .i64 k.c.qu, .int .i64 k.c.qo, .int .i64 k.c.lo, .int .i64 k.c.sl, .int .i64 k.c.rt, .int .i64 k.c.cp, .int .i64 k.c.tr, .int .i64 k.c.de, .int .i64 k.c.wi, .int .i64 k.se, .int .i64 k.ep, .slice (some ⟨g, 0, none⟩) ls.length c, .int .i64 k.sq, .int .i64 (k.st + 1), .int .i64 (cl (cl now + cl (pa k.c.rt k.c.cp k.st))), .int .i64 k.ak, .bool k.an, .int .i64 k.he] (.int .i64 (k.st + 1)) rfl rfl HBQ104.out (by show 22 < 27; decide) rfl (by first | rfl | simp [Value.oneCell']) (by kernel_rfl) ?_
      intro w105 hw
      refine hK.out _ _ ?_
      clear hK K
      (try simp only [Act.put, sA, sB, sC])
      have HS105 := Lib.hid (show Upd (q :: blkOf (some ⟨g, 0, none⟩)) w w105 by rw [hw]; exact Upd.setRow HS104.out (.inl (by simp)) _)
      have HBR105 := Lib.hid (show Blk w105 w.heap.size 38 #[.int .i64 0, .int .i64 0, .int .i64 0, .int .i64 0, .bool false, .int .i64 0, .int .i64 0, .int .i64 0, .int .i64 0] by rw [hw]; exact Blk.row_far HBR104.out (Ne.symm HNR.out) _)
      have HBQ105 := Lib.hid (show Blk w105 q 88 #[.int .i64 k.c.ca, .int .i64 k.c.fl, .int .i64 k.c.ft, .int .i64 k.c.se, .int .i64 k.c.dr, .int .i64 k.c.dw, .int .i64 k.c.ho, .int .i64 k.c.re, .int .i64 k.c.yi, .int .i64 k.c.qu, .int .i64 k.c.qo, .int .i64 k.c.lo, .int .i64 k.c.sl, .int .i64 k.c.rt, .int .i64 k.c.cp, .int .i64 k.c.tr, .int .i64 k.c.de, .int .i64 k.c.wi, .int .i64 k.se, .int .i64 k.ep, .slice (some ⟨g, 0, none⟩) ls.length c, .int .i64 k.sq, .int .i64 (k.st + 1), .int .i64 (cl (cl now + cl (pa k.c.rt k.c.cp k.st))), .int .i64 k.ak, .bool k.an, .int .i64 k.he] by rw [hw]; exact Blk.row HBQ104.out _)
      have HBn6105 := Lib.hid (show Blk w105 bn6 38 #[.int .i64 k.se, .int .i64 k.ep, .int .i64 k.sq, .int .i64 k.ak, .bool true, .int .i64 m.ki, .int .i64 m.a, .int .i64 m.b, .int .i64 m.c] by rw [hw]; exact Blk.row_far HBn6104.out HNn6Q.out _)
      have HFr_105 := Lib.hid (show (w105).ownsRow lo 36 4 (.slice (some ⟨g, 0, none⟩) ls.length c) ls.length (rowsOf msgC ls) by rw [hw]; exact own_row_far HFr104.out HIQ.out _)
      clear hw HS104 HBR104 HBQ104 HBn6104 HFr104
      refine wpList_nil ?_
      go_upto_region 10 with fail
      refine wp_region_lit ?_
      refine tkL (.pointer (some ⟨q, 0, none⟩)) (h := ?_)
      (try simp only [Act.put, sA, sB, sC])
      refine tkL (.pointer (some ⟨q, 0, none⟩)) (h := ?_)
      (try simp only [Act.put, sA, sB, sC])
      refine tkL (.pointer (some ⟨q, 25, none⟩)) (h := ?_)
      (try simp only [Act.put, sA, sB, sC])
      refine wpList_wp (by rfl) (fun K hK => ?_)
      refine wp_st_cell 4 _ _ rfl #[.int .i64 k.c.ca, .int .i64 k.c.fl, .int .i64 k.c.ft, .int .i64 k.c.se, .int .i64 k.c.dr, .int .i64 k.c.dw, .int .i64 k.c.ho, .int .i64 k.c.re, .int .i64 k.c.yi, .int .i64 k.c.qu, .int .i64 k.c.qo, .int .i64 k.c.lo, .int .i64 k.c.sl, .int .i64 k.c.rt, .int .i64 k.c.cp, .int .i64 k.c.tr, .int .i64 k.c.de, .int .i64 k.c.wi, .int .i64 k.se, .int .i64 k.ep, .slice (some ⟨g, 0, none⟩) ls.length c, .int .i64 k.sq, .int .i64 (k.st + 1), .int .i64 (cl (cl now + cl (pa k.c.rt k.c.cp k.st))), .int .i64 k.ak, .bool false, .int .i64 k.he] (.bool false) rfl rfl HBQ105.out (by show 25 < 27; decide) rfl (by first | rfl | simp [Value.oneCell']) (by kernel_rfl) ?_
      intro w106 hw
      refine hK.out _ _ ?_
      clear hK K
      (try simp only [Act.put, sA, sB, sC])
      have HS106 := Lib.hid (show Upd (q :: blkOf (some ⟨g, 0, none⟩)) w w106 by rw [hw]; exact Upd.setRow HS105.out (.inl (by simp)) _)
      have HBR106 := Lib.hid (show Blk w106 w.heap.size 38 #[.int .i64 0, .int .i64 0, .int .i64 0, .int .i64 0, .bool false, .int .i64 0, .int .i64 0, .int .i64 0, .int .i64 0] by rw [hw]; exact Blk.row_far HBR105.out (Ne.symm HNR.out) _)
      have HBQ106 := Lib.hid (show Blk w106 q 88 #[.int .i64 k.c.ca, .int .i64 k.c.fl, .int .i64 k.c.ft, .int .i64 k.c.se, .int .i64 k.c.dr, .int .i64 k.c.dw, .int .i64 k.c.ho, .int .i64 k.c.re, .int .i64 k.c.yi, .int .i64 k.c.qu, .int .i64 k.c.qo, .int .i64 k.c.lo, .int .i64 k.c.sl, .int .i64 k.c.rt, .int .i64 k.c.cp, .int .i64 k.c.tr, .int .i64 k.c.de, .int .i64 k.c.wi, .int .i64 k.se, .int .i64 k.ep, .slice (some ⟨g, 0, none⟩) ls.length c, .int .i64 k.sq, .int .i64 (k.st + 1), .int .i64 (cl (cl now + cl (pa k.c.rt k.c.cp k.st))), .int .i64 k.ak, .bool false, .int .i64 k.he] by rw [hw]; exact Blk.row HBQ105.out _)
      have HBn6106 := Lib.hid (show Blk w106 bn6 38 #[.int .i64 k.se, .int .i64 k.ep, .int .i64 k.sq, .int .i64 k.ak, .bool true, .int .i64 m.ki, .int .i64 m.a, .int .i64 m.b, .int .i64 m.c] by rw [hw]; exact Blk.row_far HBn6105.out HNn6Q.out _)
      have HFr_106 := Lib.hid (show (w106).ownsRow lo 36 4 (.slice (some ⟨g, 0, none⟩) ls.length c) ls.length (rowsOf msgC ls) by rw [hw]; exact own_row_far HFr_105.out HIQ.out _)
      clear hw HS105 HBR105 HBQ105 HBn6105 HFr_105
      refine wpList_nil ?_
      go_upto_region 11 with fail
      refine wp_region_lit ?_
      refine wpList_q (by rfl) (.agg #[.int .i64 k.se, .int .i64 k.ep, .int .i64 k.sq, .int .i64 k.ak, .bool true, .int .i64 m.ki, .int .i64 m.a, .int .i64 m.b, .int .i64 m.c]) ?he ?_
      case he => exact exec_load_row 38 _ _ HBn6106.out rfl rfl Try.underlying38 rfl (by kernel_rfl)
      (try simp only [Act.put, sA, sB, sC])
      refine wpList_wp (by rfl) (fun K hK => ?_)
      refine wp_st_row 38 _ _ rfl #[.int .i64 k.se, .int .i64 k.ep, .int .i64 k.sq, .int .i64 k.ak, .bool true, .int .i64 m.ki, .int .i64 m.a, .int .i64 m.b, .int .i64 m.c] rfl rfl (HasRow.of HBR106.out rfl) rfl (by simp [Value.oneCell']) (by kernel_rfl) ?_
      intro w107 hw
      refine hK.out _ _ ?_
      clear hK K
      (try simp only [Act.put, sA, sB, sC])
      have HS107 := Lib.hid (show Upd (q :: blkOf (some ⟨g, 0, none⟩)) w w107 by rw [hw]; exact Upd.setRow HS106.out (Or.inr (by have := HNE3.out; omega)) _)
      have HBR107 := Lib.hid (show Blk w107 w.heap.size 38 #[.int .i64 k.se, .int .i64 k.ep, .int .i64 k.sq, .int .i64 k.ak, .bool true, .int .i64 m.ki, .int .i64 m.a, .int .i64 m.b, .int .i64 m.c] by rw [hw]; exact Blk.row HBR106.out _)
      have HBQ107 := Lib.hid (show Blk w107 q 88 #[.int .i64 k.c.ca, .int .i64 k.c.fl, .int .i64 k.c.ft, .int .i64 k.c.se, .int .i64 k.c.dr, .int .i64 k.c.dw, .int .i64 k.c.ho, .int .i64 k.c.re, .int .i64 k.c.yi, .int .i64 k.c.qu, .int .i64 k.c.qo, .int .i64 k.c.lo, .int .i64 k.c.sl, .int .i64 k.c.rt, .int .i64 k.c.cp, .int .i64 k.c.tr, .int .i64 k.c.de, .int .i64 k.c.wi, .int .i64 k.se, .int .i64 k.ep, .slice (some ⟨g, 0, none⟩) ls.length c, .int .i64 k.sq, .int .i64 (k.st + 1), .int .i64 (cl (cl now + cl (pa k.c.rt k.c.cp k.st))), .int .i64 k.ak, .bool false, .int .i64 k.he] by rw [hw]; exact Blk.row_far HBQ106.out HNR.out _)
      have HBn6107 := Lib.hid (show Blk w107 bn6 38 #[.int .i64 k.se, .int .i64 k.ep, .int .i64 k.sq, .int .i64 k.ak, .bool true, .int .i64 m.ki, .int .i64 m.a, .int .i64 m.b, .int .i64 m.c] by rw [hw]; exact Blk.row_far HBn6106.out HNn6R.out _)
      have HFr_107 := Lib.hid (show (w107).ownsRow lo 36 4 (.slice (some ⟨g, 0, none⟩) ls.length c) ls.length (rowsOf msgC ls) by rw [hw]; exact own_row_far HFr_106.out HIR.out _)
      clear hw HS106 HBR106 HBQ106 HBn6106 HFr_106
      refine tkL (.bool true) (h := ?_)
      (try simp only [Act.put, sA, sB, sC])
      refine wpList_nil ?_
      (try go_wp2_with fail)
      exact bodyPost_ret (results_row2 rfl _ _ w.heap.size 38 #[.int .i64 k.se, .int .i64 k.ep, .int .i64 k.sq, .int .i64 k.ak, .bool true, .int .i64 m.ki, .int .i64 m.a, .int .i64 m.b, .int .i64 m.c] _ (.bool true) rfl rfl HBR107.out Try.underlying38 rfl (by kernel_rfl)) rfl ⟨rfl, ⟨H0.out, (some ⟨g, 0, none⟩), c, rfl, HBQ107.out, HFr_107.out⟩, HS107.out⟩
end Go.Proofs.Ytlihhjcneedgnaa.Ln
