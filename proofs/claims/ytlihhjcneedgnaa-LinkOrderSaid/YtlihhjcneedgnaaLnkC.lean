/-
  a link's arrived and Recv: walked.
  Conditions: what stands ahead of each.
-/
import Derived.Test.YtlihhjcneedgnaaProg
import Derived.Test.YtlihhjcneedgnaaShort
import Derived.Test.YtlihhjcneedgnaaLnkB
namespace Go.Proofs.Ytlihhjcneedgnaa.Ln
set_option linter.unusedVariables false
set_option linter.unusedSimpArgs false
open Go.RowKit Go.Proofs.Ytlihhjcneedgnaa.Ba Go.Proofs.Ytlihhjcneedgnaa.Mem Go.Proofs.Ytlihhjcneedgnaa.Ty Go.Proofs.Ytlihhjcneedgnaa.Tm Go.Proofs.Ytlihhjcneedgnaa.Tw
set_option maxRecDepth 100000
attribute [local irreducible] Go.wpList
theorem del0 (lo g m c : Nat) (ls : List MsgV) (w : World) (hO : w.ownsRow lo 36 4 (.slice (some ⟨g, 0, none⟩) (m + 1) c) (m + 1) (rowsOf msgC ls)) (hl : ls.length = m + 1) (hc : m + 1 ≤ c) (hm : m + 1 ≤ 1000000) :
    Calls Try.prog 59 #[.slice (some ⟨g, 0, none⟩) (m + 1) c, .int .i64 0, .int .i64 1] w fun e w' => e = .returned (.slice (some ⟨g, 0, none⟩) m c) ∧ w'.ownsRow lo 36 4 (.slice (some ⟨g, 0, none⟩) m c) m (rowsOf msgC ls.tail) ∧ Upd [g] w w' := by
  have := deleteT lo g m c 0 ls w hO hl (Nat.zero_le _) hc hm
  rw [List.eraseIdx_zero] at this
  exact this
theorem newerV (a b : Int) (v : Bool) (w : World) (h : decide (0 < Se.ne a b) = v) : Calls Try.prog 42 #[.int .i64 a, .int .i64 b] w fun e w' => e = .returned (.bool v) ∧ w = w' := by subst h; exact Se.newerT a b w
def mx2 (a b : Int) : Int := if a < b then b else a
set_option maxHeartbeats 4000000 in
theorem arrivedT (lo q : Nat) (k : LkV) (ls : List MsgV) (g m c : Nat) (w : World) (hb : Blk w q 88 (lkC k (.slice (some ⟨g, 0, none⟩) (m + 1) c))) (ho : w.ownsRow lo 36 4 (.slice (some ⟨g, 0, none⟩) (m + 1) c) (m + 1) (rowsOf msgC ls)) (hm : ls.length = m + 1) (hc : m + 1 ≤ c) (hl : m + 1 ≤ 10000) : Calls Try.prog 41 #[.pointer (some ⟨q, 0, none⟩)] w fun e w' => e = .returned (.tuple #[]) ∧ Blk w' q 88 (lkC { k with sq := Se.nx k.sq, st := 0, du := 0 } (.slice (some ⟨g, 0, none⟩) m c)) ∧ w'.ownsRow lo 36 4 (.slice (some ⟨g, 0, none⟩) m c) m (rowsOf msgC ls.tail) ∧ Upd [q, g] w w' := by
  have HBQ := Lib.hid (show Blk w q 88 #[.int .i64 k.c.ca, .int .i64 k.c.fl, .int .i64 k.c.ft, .int .i64 k.c.se, .int .i64 k.c.dr, .int .i64 k.c.dw, .int .i64 k.c.ho, .int .i64 k.c.re, .int .i64 k.c.yi, .int .i64 k.c.qu, .int .i64 k.c.qo, .int .i64 k.c.lo, .int .i64 k.c.sl, .int .i64 k.c.rt, .int .i64 k.c.cp, .int .i64 k.c.tr, .int .i64 k.c.de, .int .i64 k.c.wi, .int .i64 k.se, .int .i64 k.ep, .slice (some ⟨g, 0, none⟩) (m + 1) c, .int .i64 k.sq, .int .i64 k.st, .int .i64 k.du, .int .i64 k.ak, .bool k.an, .int .i64 k.he] from hb)
  clear hb
  have HOW := Lib.hid ho
  clear ho
  have HM := Lib.hid hm
  clear hm
  have HC := Lib.hid hc
  clear hc
  have HL := Lib.hid hl
  clear hl
  go_enter Try.func41, Try.ntmps41
  have HS1 := Lib.hid (Upd.refl [q, g] w)
  have HIQ := Lib.hid (own_ne_ty HOW.out HBQ.out (by decide))
  go_upto_region 0 with fail
  refine wp_region_lit ?_
  refine tkL (.pointer (some ⟨q, 0, none⟩)) (h := ?_)
  (try simp only [Act.put, sA, sB, sC])
  refine tkL (.pointer (some ⟨q, 0, none⟩)) (h := ?_)
  (try simp only [Act.put, sA, sB, sC])
  refine tkL (.pointer (some ⟨q, 0, none⟩)) (h := ?_)
  (try simp only [Act.put, sA, sB, sC])
  refine tkL (.pointer (some ⟨q, 20, none⟩)) (h := ?_)
  (try simp only [Act.put, sA, sB, sC])
  refine wpList_q (by rfl) (.slice (some ⟨g, 0, none⟩) (m + 1) c) ?he ?_
  case he => exact exec_cell 86 _ _ HBQ.out rfl rfl rfl Try.underlying86 rfl
  (try simp only [Act.put, sA, sB, sC])
  refine wpList_wp (by rfl) (fun K hK => ?_)
  (try go_simp)
  refine (del0 lo g m c ls _ HOW.out HM.out HC.out (by have := HL.out; omega)).mono ?_
  rintro e w2 ⟨rfl, hobj, hupd⟩
  (try go_wp2_with fail)
  refine hK.out _ _ ?_
  clear hK K
  (try simp only [Act.put, sA, sB, sC])
  have hfar : ∀ x ∈ (blkOf (some ⟨g, 0, none⟩)), x ∈ (blkOf (some ⟨g, 0, none⟩)) ∨ w.heap.size ≤ x := fun _ h => .inl h
  have HS2 := Lib.hid (Upd.comp HS1.out hupd (fun x h => .inl (by simp [blkOf] at h; simp [h])))
  have HBQ2 := Lib.hid (Upd.blk hupd HBQ.out HIQ.out)
  have HIQ_r_2 := Lib.hid (nin_next hfar HIQ.out (Blk.lt HBQ.out))
  have HFr2 := Lib.hid hobj
  clear hupd hobj hfar HS1 HBQ HOW
  refine tkL (.pointer (some ⟨q, 0, none⟩)) (h := ?_)
  (try simp only [Act.put, sA, sB, sC])
  refine tkL (.pointer (some ⟨q, 20, none⟩)) (h := ?_)
  (try simp only [Act.put, sA, sB, sC])
  refine wpList_wp (by rfl) (fun K hK => ?_)
  refine wp_st_cell 86 _ _ rfl #[.int .i64 k.c.ca, .int .i64 k.c.fl, .int .i64 k.c.ft, .int .i64 k.c.se, .int .i64 k.c.dr, .int .i64 k.c.dw, .int .i64 k.c.ho, .int .i64 k.c.re, .int .i64 k.c.yi, .int .i64 k.c.qu, .int .i64 k.c.qo, .int .i64 k.c.lo, .int .i64 k.c.sl, .int .i64 k.c.rt, .int .i64 k.c.cp, .int .i64 k.c.tr, .int .i64 k.c.de, .int .i64 k.c.wi, .int .i64 k.se, .int .i64 k.ep, .slice (some ⟨g, 0, none⟩) m c, .int .i64 k.sq, .int .i64 k.st, .int .i64 k.du, .int .i64 k.ak, .bool k.an, .int .i64 k.he] (.slice (some ⟨g, 0, none⟩) m c) rfl rfl HBQ2.out (by show 20 < 27; decide) rfl (by first | rfl | simp [Value.oneCell']) (by kernel_rfl) ?_
  intro w3 hw
  refine hK.out _ _ ?_
  clear hK K
  (try simp only [Act.put, sA, sB, sC])
  have HS3 := Lib.hid (show Upd [q, g] w w3 by rw [hw]; exact Upd.setRow HS2.out (.inl (by simp)) _)
  have HBQ3 := Lib.hid (show Blk w3 q 88 #[.int .i64 k.c.ca, .int .i64 k.c.fl, .int .i64 k.c.ft, .int .i64 k.c.se, .int .i64 k.c.dr, .int .i64 k.c.dw, .int .i64 k.c.ho, .int .i64 k.c.re, .int .i64 k.c.yi, .int .i64 k.c.qu, .int .i64 k.c.qo, .int .i64 k.c.lo, .int .i64 k.c.sl, .int .i64 k.c.rt, .int .i64 k.c.cp, .int .i64 k.c.tr, .int .i64 k.c.de, .int .i64 k.c.wi, .int .i64 k.se, .int .i64 k.ep, .slice (some ⟨g, 0, none⟩) m c, .int .i64 k.sq, .int .i64 k.st, .int .i64 k.du, .int .i64 k.ak, .bool k.an, .int .i64 k.he] by rw [hw]; exact Blk.row HBQ2.out _)
  have HFr_3 := Lib.hid (show (w3).ownsRow lo 36 4 (.slice (some ⟨g, 0, none⟩) m c) m (rowsOf msgC ls.tail) by rw [hw]; exact own_row_far HFr2.out HIQ_r_2.out _)
  clear hw HS2 HBQ2 HFr2
  refine wpList_nil ?_
  go_upto_region 1 with fail
  refine wp_region_lit ?_
  refine tkL (.pointer (some ⟨q, 0, none⟩)) (h := ?_)
  (try simp only [Act.put, sA, sB, sC])
  refine tkL (.pointer (some ⟨q, 0, none⟩)) (h := ?_)
  (try simp only [Act.put, sA, sB, sC])
  refine tkL (.pointer (some ⟨q, 0, none⟩)) (h := ?_)
  (try simp only [Act.put, sA, sB, sC])
  refine tkL (.pointer (some ⟨q, 21, none⟩)) (h := ?_)
  (try simp only [Act.put, sA, sB, sC])
  refine wpList_q (by rfl) (.int .i64 k.sq) ?he ?_
  case he => exact exec_cell 3 _ _ HBQ3.out rfl rfl rfl Try.underlying3 rfl
  (try simp only [Act.put, sA, sB, sC])
  refine wpList_wp (by rfl) (fun K hK => ?_)
  (try go_simp)
  refine (Se.nextT _ _).mono ?_
  rintro e w' ⟨rfl, rfl⟩
  (try go_wp2_with fail)
  refine hK.out _ _ ?_
  clear hK K
  (try simp only [Act.put, sA, sB, sC])
  refine tkL (.pointer (some ⟨q, 0, none⟩)) (h := ?_)
  (try simp only [Act.put, sA, sB, sC])
  refine tkL (.pointer (some ⟨q, 21, none⟩)) (h := ?_)
  (try simp only [Act.put, sA, sB, sC])
  refine wpList_wp (by rfl) (fun K hK => ?_)
  refine wp_st_cell 3 _ _ rfl #[.int .i64 k.c.ca, .int .i64 k.c.fl, .int .i64 k.c.ft, .int .i64 k.c.se, .int .i64 k.c.dr, .int .i64 k.c.dw, .int .i64 k.c.ho, .int .i64 k.c.re, .int .i64 k.c.yi, .int .i64 k.c.qu, .int .i64 k.c.qo, .int .i64 k.c.lo, .int .i64 k.c.sl, .int .i64 k.c.rt, .int .i64 k.c.cp, .int .i64 k.c.tr, .int .i64 k.c.de, .int .i64 k.c.wi, .int .i64 k.se, .int .i64 k.ep, .slice (some ⟨g, 0, none⟩) m c, .int .i64 (Se.nx k.sq), .int .i64 k.st, .int .i64 k.du, .int .i64 k.ak, .bool k.an, .int .i64 k.he] (.int .i64 (Se.nx k.sq)) rfl rfl HBQ3.out (by show 21 < 27; decide) rfl (by first | rfl | simp [Value.oneCell']) (by kernel_rfl) ?_
  intro w4 hw
  refine hK.out _ _ ?_
  clear hK K
  (try simp only [Act.put, sA, sB, sC])
  have HS4 := Lib.hid (show Upd [q, g] w w4 by rw [hw]; exact Upd.setRow HS3.out (.inl (by simp)) _)
  have HBQ4 := Lib.hid (show Blk w4 q 88 #[.int .i64 k.c.ca, .int .i64 k.c.fl, .int .i64 k.c.ft, .int .i64 k.c.se, .int .i64 k.c.dr, .int .i64 k.c.dw, .int .i64 k.c.ho, .int .i64 k.c.re, .int .i64 k.c.yi, .int .i64 k.c.qu, .int .i64 k.c.qo, .int .i64 k.c.lo, .int .i64 k.c.sl, .int .i64 k.c.rt, .int .i64 k.c.cp, .int .i64 k.c.tr, .int .i64 k.c.de, .int .i64 k.c.wi, .int .i64 k.se, .int .i64 k.ep, .slice (some ⟨g, 0, none⟩) m c, .int .i64 (Se.nx k.sq), .int .i64 k.st, .int .i64 k.du, .int .i64 k.ak, .bool k.an, .int .i64 k.he] by rw [hw]; exact Blk.row HBQ3.out _)
  have HFr_4 := Lib.hid (show (w4).ownsRow lo 36 4 (.slice (some ⟨g, 0, none⟩) m c) m (rowsOf msgC ls.tail) by rw [hw]; exact own_row_far HFr_3.out HIQ_r_2.out _)
  clear hw HS3 HBQ3 HFr_3
  refine wpList_nil ?_
  go_upto_region 2 with fail
  refine wp_region_lit ?_
  refine tkL (.pointer (some ⟨q, 0, none⟩)) (h := ?_)
  (try simp only [Act.put, sA, sB, sC])
  refine tkL (.pointer (some ⟨q, 0, none⟩)) (h := ?_)
  (try simp only [Act.put, sA, sB, sC])
  refine tkL (.pointer (some ⟨q, 0, none⟩)) (h := ?_)
  (try simp only [Act.put, sA, sB, sC])
  refine tkL (.pointer (some ⟨q, 22, none⟩)) (h := ?_)
  (try simp only [Act.put, sA, sB, sC])
  refine wpList_wp (by rfl) (fun K hK => ?_)
  refine wp_st_cell 3 _ _ rfl #[.int .i64 k.c.ca, .int .i64 k.c.fl, .int .i64 k.c.ft, .int .i64 k.c.se, .int .i64 k.c.dr, .int .i64 k.c.dw, .int .i64 k.c.ho, .int .i64 k.c.re, .int .i64 k.c.yi, .int .i64 k.c.qu, .int .i64 k.c.qo, .int .i64 k.c.lo, .int .i64 k.c.sl, .int .i64 k.c.rt, .int .i64 k.c.cp, .int .i64 k.c.tr, .int .i64 k.c.de, .int .i64 k.c.wi, .int .i64 k.se, .int .i64 k.ep, .slice (some ⟨g, 0, none⟩) m c, .int .i64 (Se.nx k.sq), .int .i64 0, .int .i64 k.du, .int .i64 k.ak, .bool k.an, .int .i64 k.he] (.int .i64 0) rfl rfl HBQ4.out (by show 22 < 27; decide) rfl (by first | rfl | simp [Value.oneCell']) (by kernel_rfl) ?_
  intro w5 hw
  refine hK.out _ _ ?_
  clear hK K
  (try simp only [Act.put, sA, sB, sC])
  have HS5 := Lib.hid (show Upd [q, g] w w5 by rw [hw]; exact Upd.setRow HS4.out (.inl (by simp)) _)
  have HBQ5 := Lib.hid (show Blk w5 q 88 #[.int .i64 k.c.ca, .int .i64 k.c.fl, .int .i64 k.c.ft, .int .i64 k.c.se, .int .i64 k.c.dr, .int .i64 k.c.dw, .int .i64 k.c.ho, .int .i64 k.c.re, .int .i64 k.c.yi, .int .i64 k.c.qu, .int .i64 k.c.qo, .int .i64 k.c.lo, .int .i64 k.c.sl, .int .i64 k.c.rt, .int .i64 k.c.cp, .int .i64 k.c.tr, .int .i64 k.c.de, .int .i64 k.c.wi, .int .i64 k.se, .int .i64 k.ep, .slice (some ⟨g, 0, none⟩) m c, .int .i64 (Se.nx k.sq), .int .i64 0, .int .i64 k.du, .int .i64 k.ak, .bool k.an, .int .i64 k.he] by rw [hw]; exact Blk.row HBQ4.out _)
  have HFr_5 := Lib.hid (show (w5).ownsRow lo 36 4 (.slice (some ⟨g, 0, none⟩) m c) m (rowsOf msgC ls.tail) by rw [hw]; exact own_row_far HFr_4.out HIQ_r_2.out _)
  clear hw HS4 HBQ4 HFr_4
  refine tkL (.pointer (some ⟨q, 0, none⟩)) (h := ?_)
  (try simp only [Act.put, sA, sB, sC])
  refine tkL (.pointer (some ⟨q, 23, none⟩)) (h := ?_)
  (try simp only [Act.put, sA, sB, sC])
  refine wpList_wp (by rfl) (fun K hK => ?_)
  refine wp_st_cell 3 _ _ rfl #[.int .i64 k.c.ca, .int .i64 k.c.fl, .int .i64 k.c.ft, .int .i64 k.c.se, .int .i64 k.c.dr, .int .i64 k.c.dw, .int .i64 k.c.ho, .int .i64 k.c.re, .int .i64 k.c.yi, .int .i64 k.c.qu, .int .i64 k.c.qo, .int .i64 k.c.lo, .int .i64 k.c.sl, .int .i64 k.c.rt, .int .i64 k.c.cp, .int .i64 k.c.tr, .int .i64 k.c.de, .int .i64 k.c.wi, .int .i64 k.se, .int .i64 k.ep, .slice (some ⟨g, 0, none⟩) m c, .int .i64 (Se.nx k.sq), .int .i64 0, .int .i64 0, .int .i64 k.ak, .bool k.an, .int .i64 k.he] (.int .i64 0) rfl rfl HBQ5.out (by show 23 < 27; decide) rfl (by first | rfl | simp [Value.oneCell']) (by kernel_rfl) ?_
  intro w6 hw
  refine hK.out _ _ ?_
  clear hK K
  (try simp only [Act.put, sA, sB, sC])
  have HS6 := Lib.hid (show Upd [q, g] w w6 by rw [hw]; exact Upd.setRow HS5.out (.inl (by simp)) _)
  have HBQ6 := Lib.hid (show Blk w6 q 88 #[.int .i64 k.c.ca, .int .i64 k.c.fl, .int .i64 k.c.ft, .int .i64 k.c.se, .int .i64 k.c.dr, .int .i64 k.c.dw, .int .i64 k.c.ho, .int .i64 k.c.re, .int .i64 k.c.yi, .int .i64 k.c.qu, .int .i64 k.c.qo, .int .i64 k.c.lo, .int .i64 k.c.sl, .int .i64 k.c.rt, .int .i64 k.c.cp, .int .i64 k.c.tr, .int .i64 k.c.de, .int .i64 k.c.wi, .int .i64 k.se, .int .i64 k.ep, .slice (some ⟨g, 0, none⟩) m c, .int .i64 (Se.nx k.sq), .int .i64 0, .int .i64 0, .int .i64 k.ak, .bool k.an, .int .i64 k.he] by rw [hw]; exact Blk.row HBQ5.out _)
  have HFr_6 := Lib.hid (show (w6).ownsRow lo 36 4 (.slice (some ⟨g, 0, none⟩) m c) m (rowsOf msgC ls.tail) by rw [hw]; exact own_row_far HFr_5.out HIQ_r_2.out _)
  clear hw HS5 HBQ5 HFr_5
  refine wpList_nil ?_
  (try go_wp2_with fail)
  first | go_end0 | refine bodyPost_ret (results_none rfl _ _ _) rfl ?_
  exact ⟨rfl, HBQ6.out, HFr_6.out, HS6.out⟩
set_option maxHeartbeats 4000000 in
theorem recv_se (lo q : Nat) (k : LkV) (ls : List MsgV) (A : Option Addr) (c : Nat) (p : PkV) (now : Int) (w : World) (hb : Blk w q 88 (lkC k (.slice A ls.length c))) (ho : w.ownsRow lo 36 4 (.slice A ls.length c) ls.length (rowsOf msgC ls)) (hl : ls.length ≤ 10000) (h1 : p.se ≠ k.se) : Calls Try.prog 16 #[.pointer (some ⟨q, 0, none⟩), .agg #[.int .i64 p.se, .int .i64 p.ep, .int .i64 p.sq, .int .i64 p.ak, .bool p.ha, .int .i64 p.m.ki, .int .i64 p.m.a, .int .i64 p.m.b, .int .i64 p.m.c], .int .i64 now] w fun e w' => e = .returned (.tuple #[.agg #[.int .i64 0, .int .i64 0, .int .i64 0, .int .i64 0], .bool false]) ∧ Since w w' := by
  have HBQ := Lib.hid (show Blk w q 88 #[.int .i64 k.c.ca, .int .i64 k.c.fl, .int .i64 k.c.ft, .int .i64 k.c.se, .int .i64 k.c.dr, .int .i64 k.c.dw, .int .i64 k.c.ho, .int .i64 k.c.re, .int .i64 k.c.yi, .int .i64 k.c.qu, .int .i64 k.c.qo, .int .i64 k.c.lo, .int .i64 k.c.sl, .int .i64 k.c.rt, .int .i64 k.c.cp, .int .i64 k.c.tr, .int .i64 k.c.de, .int .i64 k.c.wi, .int .i64 k.se, .int .i64 k.ep, .slice A ls.length c, .int .i64 k.sq, .int .i64 k.st, .int .i64 k.du, .int .i64 k.ak, .bool k.an, .int .i64 k.he] from hb)
  clear hb
  have HOW := Lib.hid ho
  clear ho
  have HL := Lib.hid hl
  clear hl
  have H1 := Lib.hid h1
  clear h1
  go_enter Try.func16, Try.ntmps16
  go_upto_region 1 with fail
  obtain ⟨w1, hw1⟩ : ∃ w1, w1 = ((w.alloc (.cells #[.int .i64 p.se, .int .i64 p.ep, .int .i64 p.sq, .int .i64 p.ak, .bool p.ha, .int .i64 p.m.ki, .int .i64 p.m.a, .int .i64 p.m.b, .int .i64 p.m.c] 38)).alloc (.cells #[.int .i64 0, .int .i64 0, .int .i64 0, .int .i64 0] 36)) := ⟨_, rfl⟩
  rw [← hw1]
  have HBP1 := Lib.hid (show Blk w1 (w.heap.size) 38 #[.int .i64 p.se, .int .i64 p.ep, .int .i64 p.sq, .int .i64 p.ak, .bool p.ha, .int .i64 p.m.ki, .int .i64 p.m.a, .int .i64 p.m.b, .int .i64 p.m.c] by rw [hw1]; exact Blk.alloc (Blk.at_ (by (try simp only [size_alloc])) _ _) _)
  have HBR1 := Lib.hid (show Blk w1 (w.heap.size + 1) 36 #[.int .i64 0, .int .i64 0, .int .i64 0, .int .i64 0] by rw [hw1]; exact Blk.at_ (by (try simp only [size_alloc])) _ _)
  have HS1 := Lib.hid (show Since w w1 by rw [hw1]; exact Since.alloc (Since.alloc (Since.refl w) _) _)
  have hNE : w.heap.size ≤ w.heap.size ∧ w.heap.size < w.heap.size + 1 := by omega
  have HNE := Lib.hid hNE
  clear hNE hw1
  generalize w.heap.size + 1 = bR at *
  have HNE3 := Lib.hid (show w.heap.size ≤ w.heap.size ∧ w.heap.size < bR from HNE.out)
  clear HNE
  have HBQ1 := Lib.hid (keep_blk HS1.out HBQ.out)
  have HOW1 := Lib.hid (keep_own HS1.out HOW.out)
  have HIQ := Lib.hid (own_ne_ty HOW.out HBQ.out (by decide))
  have HLO := Lib.hid (show q < w.heap.size from Blk.lt HBQ.out)
  have HIP := Lib.hid (own_far HOW.out (show w.heap.size ≤ w.heap.size by have := HNE3.out; omega))
  have HNP := Lib.hid (show q ≠ w.heap.size by have := HLO.out; have := HNE3.out; omega)
  have HIR := Lib.hid (own_far HOW.out (show w.heap.size ≤ bR by have := HNE3.out; omega))
  have HNR := Lib.hid (show q ≠ bR by have := HLO.out; have := HNE3.out; omega)
  clear HBQ HOW
  have HKS : Hid (KeepS (fun W : World => Since w W ∧ Blk W w.heap.size 38 #[.int .i64 p.se, .int .i64 p.ep, .int .i64 p.sq, .int .i64 p.ak, .bool p.ha, .int .i64 p.m.ki, .int .i64 p.m.a, .int .i64 p.m.b, .int .i64 p.m.c] ∧ Blk W bR 36 #[.int .i64 0, .int .i64 0, .int .i64 0, .int .i64 0] ∧ Blk W q 88 #[.int .i64 k.c.ca, .int .i64 k.c.fl, .int .i64 k.c.ft, .int .i64 k.c.se, .int .i64 k.c.dr, .int .i64 k.c.dw, .int .i64 k.c.ho, .int .i64 k.c.re, .int .i64 k.c.yi, .int .i64 k.c.qu, .int .i64 k.c.qo, .int .i64 k.c.lo, .int .i64 k.c.sl, .int .i64 k.c.rt, .int .i64 k.c.cp, .int .i64 k.c.tr, .int .i64 k.c.de, .int .i64 k.c.wi, .int .i64 k.se, .int .i64 k.ep, .slice A ls.length c, .int .i64 k.sq, .int .i64 k.st, .int .i64 k.du, .int .i64 k.ak, .bool k.an, .int .i64 k.he] ∧ (W).ownsRow lo 36 4 (.slice A ls.length c) ls.length (rowsOf msgC ls)) w1) := Lib.hid ⟨fun W W' k ⟨h, h0, h1, h2, h3⟩ => ⟨h.trans k, keep_blk k h0, keep_blk k h1, keep_blk k h2, keep_own k h3⟩, ⟨HS1.out, HBP1.out, HBR1.out, HBQ1.out, HOW1.out⟩⟩
  have HRK := Lib.hid HKS.out.1
  refine wp_held HKS.out (by kernel_rfl) (fun hHeld => ?_)
  refine tkQ 0 (.pointer (some ⟨q, 0, none⟩)) hHeld (h := ?_)
  (try simp only [Act.put, sA, sB, sC])
  refine tkQ 1 (.bool false) hHeld (h := ?_)
  (try simp only [Act.put, sA, sB, sC])
  refine tkQ 2 (.bool false) hHeld (h := ?_)
  (try simp only [Act.put, sA, sB, sC])
  refine tkQ 3 (.pointer (some ⟨w.heap.size, 0, none⟩)) hHeld (h := ?_)
  (try simp only [Act.put, sA, sB, sC])
  refine tkQ 4 (.int .i64 p.se) hHeld (he := by intro w hSw; exact exec_cell 3 _ _ hSw.2.1 rfl rfl rfl Try.underlying3 rfl) (h := ?_)
  (try simp only [Act.put, sA, sB, sC])
  refine tkQ 5 (.pointer (some ⟨q, 0, none⟩)) hHeld (h := ?_)
  (try simp only [Act.put, sA, sB, sC])
  refine tkQ 6 (.pointer (some ⟨q, 0, none⟩)) hHeld (h := ?_)
  (try simp only [Act.put, sA, sB, sC])
  refine tkQ 7 (.pointer (some ⟨q, 18, none⟩)) hHeld (h := ?_)
  (try simp only [Act.put, sA, sB, sC])
  refine tkQ 8 (.int .i64 k.se) hHeld (he := by intro w hSw; exact exec_cell 3 _ _ hSw.2.2.2.1 rfl rfl rfl Try.underlying3 rfl) (h := ?_)
  (try simp only [Act.put, sA, sB, sC])
  refine tkQ 9 (.bool true) hHeld (he := by intro w hSw; (have q0 := H1.out; go_simp; (first | done | rfl | omega))) (h := ?_)
  (try simp only [Act.put, sA, sB, sC])
  refine tkQ 10 (.bool true) hHeld (h := ?_)
  (try simp only [Act.put, sA, sB, sC])
  refine tkQ 11 (.bool true) hHeld (h := ?_)
  (try simp only [Act.put, sA, sB, sC])
  refine tkU 12 hHeld (h := ?_)
  (try simp only [Act.put, sA, sB, sC])
  refine tkU 13 hHeld (h := ?_)
  (try simp only [Act.put, sA, sB, sC])
  refine tkU 14 hHeld (h := ?_)
  (try simp only [Act.put, sA, sB, sC])
  refine tkU 15 hHeld (h := ?_)
  (try simp only [Act.put, sA, sB, sC])
  refine tkU 16 hHeld (h := ?_)
  (try simp only [Act.put, sA, sB, sC])
  refine tkU 17 hHeld (h := ?_)
  (try simp only [Act.put, sA, sB, sC])
  refine tkU 18 hHeld (h := ?_)
  (try simp only [Act.put, sA, sB, sC])
  refine tkQ 19 (.bool true) hHeld (h := ?_)
  (try simp only [Act.put, sA, sB, sC])
  refine wpAnyH_done (by kernel_rfl) ?_ _
  have HSd1 := Lib.hid hHeld.1
  have HBPd1 := Lib.hid (hHeld.2.1)
  have HBRd1 := Lib.hid (hHeld.2.2.1)
  have HBQd1 := Lib.hid (hHeld.2.2.2.1)
  have HFrd1 := Lib.hid (hHeld.2.2.2.2)
  clear hHeld HRK HKS HS1 HBP1 HBR1 HBQ1 HOW1
  go_upto_region 2 with fail
  refine wp_region_lit ?_
  refine wpList_q (by rfl) (.agg #[.int .i64 0, .int .i64 0, .int .i64 0, .int .i64 0]) ?he ?_
  case he => kernel_rfl
  (try simp only [Act.put, sA, sB, sC])
  refine wpList_wp (by rfl) (fun K hK => ?_)
  refine wp_st_row 36 _ _ rfl #[.int .i64 0, .int .i64 0, .int .i64 0, .int .i64 0] rfl rfl (HasRow.of HBRd1.out rfl) rfl (by simp [Value.oneCell']) (by kernel_rfl) ?_
  intro w2 hw
  refine hK.out _ _ ?_
  clear hK K
  (try simp only [Act.put, sA, sB, sC])
  have HS2 := Lib.hid (show Since w w2 by rw [hw]; exact Since.setRow HSd1.out (by have := HNE3.out; omega) _)
  have HBP2 := Lib.hid (show Blk w2 w.heap.size 38 #[.int .i64 p.se, .int .i64 p.ep, .int .i64 p.sq, .int .i64 p.ak, .bool p.ha, .int .i64 p.m.ki, .int .i64 p.m.a, .int .i64 p.m.b, .int .i64 p.m.c] by rw [hw]; exact Blk.row_far HBPd1.out (by have := HNE3.out; omega) _)
  have HBR2 := Lib.hid (show Blk w2 bR 36 #[.int .i64 0, .int .i64 0, .int .i64 0, .int .i64 0] by rw [hw]; exact Blk.row HBRd1.out _)
  have HBQ2 := Lib.hid (show Blk w2 q 88 #[.int .i64 k.c.ca, .int .i64 k.c.fl, .int .i64 k.c.ft, .int .i64 k.c.se, .int .i64 k.c.dr, .int .i64 k.c.dw, .int .i64 k.c.ho, .int .i64 k.c.re, .int .i64 k.c.yi, .int .i64 k.c.qu, .int .i64 k.c.qo, .int .i64 k.c.lo, .int .i64 k.c.sl, .int .i64 k.c.rt, .int .i64 k.c.cp, .int .i64 k.c.tr, .int .i64 k.c.de, .int .i64 k.c.wi, .int .i64 k.se, .int .i64 k.ep, .slice A ls.length c, .int .i64 k.sq, .int .i64 k.st, .int .i64 k.du, .int .i64 k.ak, .bool k.an, .int .i64 k.he] by rw [hw]; exact Blk.row_far HBQd1.out HNR.out _)
  have HFr_2 := Lib.hid (show (w2).ownsRow lo 36 4 (.slice A ls.length c) ls.length (rowsOf msgC ls) by rw [hw]; exact own_row_far HFrd1.out HIR.out _)
  clear hw HSd1 HBPd1 HBRd1 HBQd1 HFrd1
  refine tkL (.bool false) (h := ?_)
  (try simp only [Act.put, sA, sB, sC])
  refine wpList_nil ?_
  (try go_wp2_with fail)
  exact bodyPost_ret (results_row2 rfl _ _ bR 36 #[.int .i64 0, .int .i64 0, .int .i64 0, .int .i64 0] _ (.bool false) rfl rfl HBR2.out Try.underlying36 rfl (by kernel_rfl)) rfl ⟨rfl, HS2.out⟩
set_option maxHeartbeats 4000000 in
theorem recv_ep (lo q : Nat) (k : LkV) (ls : List MsgV) (A : Option Addr) (c : Nat) (p : PkV) (now : Int) (w : World) (hb : Blk w q 88 (lkC k (.slice A ls.length c))) (ho : w.ownsRow lo 36 4 (.slice A ls.length c) ls.length (rowsOf msgC ls)) (hl : ls.length ≤ 10000) (h1 : p.se = k.se) (h2 : p.ep ≠ k.ep) : Calls Try.prog 16 #[.pointer (some ⟨q, 0, none⟩), .agg #[.int .i64 p.se, .int .i64 p.ep, .int .i64 p.sq, .int .i64 p.ak, .bool p.ha, .int .i64 p.m.ki, .int .i64 p.m.a, .int .i64 p.m.b, .int .i64 p.m.c], .int .i64 now] w fun e w' => e = .returned (.tuple #[.agg #[.int .i64 0, .int .i64 0, .int .i64 0, .int .i64 0], .bool false]) ∧ Since w w' := by
  have HBQ := Lib.hid (show Blk w q 88 #[.int .i64 k.c.ca, .int .i64 k.c.fl, .int .i64 k.c.ft, .int .i64 k.c.se, .int .i64 k.c.dr, .int .i64 k.c.dw, .int .i64 k.c.ho, .int .i64 k.c.re, .int .i64 k.c.yi, .int .i64 k.c.qu, .int .i64 k.c.qo, .int .i64 k.c.lo, .int .i64 k.c.sl, .int .i64 k.c.rt, .int .i64 k.c.cp, .int .i64 k.c.tr, .int .i64 k.c.de, .int .i64 k.c.wi, .int .i64 k.se, .int .i64 k.ep, .slice A ls.length c, .int .i64 k.sq, .int .i64 k.st, .int .i64 k.du, .int .i64 k.ak, .bool k.an, .int .i64 k.he] from hb)
  clear hb
  have HOW := Lib.hid ho
  clear ho
  have HL := Lib.hid hl
  clear hl
  have H1 := Lib.hid h1
  clear h1
  have H2 := Lib.hid h2
  clear h2
  go_enter Try.func16, Try.ntmps16
  go_upto_region 1 with fail
  obtain ⟨w1, hw1⟩ : ∃ w1, w1 = ((w.alloc (.cells #[.int .i64 p.se, .int .i64 p.ep, .int .i64 p.sq, .int .i64 p.ak, .bool p.ha, .int .i64 p.m.ki, .int .i64 p.m.a, .int .i64 p.m.b, .int .i64 p.m.c] 38)).alloc (.cells #[.int .i64 0, .int .i64 0, .int .i64 0, .int .i64 0] 36)) := ⟨_, rfl⟩
  rw [← hw1]
  have HBP1 := Lib.hid (show Blk w1 (w.heap.size) 38 #[.int .i64 p.se, .int .i64 p.ep, .int .i64 p.sq, .int .i64 p.ak, .bool p.ha, .int .i64 p.m.ki, .int .i64 p.m.a, .int .i64 p.m.b, .int .i64 p.m.c] by rw [hw1]; exact Blk.alloc (Blk.at_ (by (try simp only [size_alloc])) _ _) _)
  have HBR1 := Lib.hid (show Blk w1 (w.heap.size + 1) 36 #[.int .i64 0, .int .i64 0, .int .i64 0, .int .i64 0] by rw [hw1]; exact Blk.at_ (by (try simp only [size_alloc])) _ _)
  have HS1 := Lib.hid (show Since w w1 by rw [hw1]; exact Since.alloc (Since.alloc (Since.refl w) _) _)
  have hNE : w.heap.size ≤ w.heap.size ∧ w.heap.size < w.heap.size + 1 := by omega
  have HNE := Lib.hid hNE
  clear hNE hw1
  generalize w.heap.size + 1 = bR at *
  have HNE3 := Lib.hid (show w.heap.size ≤ w.heap.size ∧ w.heap.size < bR from HNE.out)
  clear HNE
  have HBQ1 := Lib.hid (keep_blk HS1.out HBQ.out)
  have HOW1 := Lib.hid (keep_own HS1.out HOW.out)
  have HIQ := Lib.hid (own_ne_ty HOW.out HBQ.out (by decide))
  have HLO := Lib.hid (show q < w.heap.size from Blk.lt HBQ.out)
  have HIP := Lib.hid (own_far HOW.out (show w.heap.size ≤ w.heap.size by have := HNE3.out; omega))
  have HNP := Lib.hid (show q ≠ w.heap.size by have := HLO.out; have := HNE3.out; omega)
  have HIR := Lib.hid (own_far HOW.out (show w.heap.size ≤ bR by have := HNE3.out; omega))
  have HNR := Lib.hid (show q ≠ bR by have := HLO.out; have := HNE3.out; omega)
  clear HBQ HOW
  have HKS : Hid (KeepS (fun W : World => Since w W ∧ Blk W w.heap.size 38 #[.int .i64 p.se, .int .i64 p.ep, .int .i64 p.sq, .int .i64 p.ak, .bool p.ha, .int .i64 p.m.ki, .int .i64 p.m.a, .int .i64 p.m.b, .int .i64 p.m.c] ∧ Blk W bR 36 #[.int .i64 0, .int .i64 0, .int .i64 0, .int .i64 0] ∧ Blk W q 88 #[.int .i64 k.c.ca, .int .i64 k.c.fl, .int .i64 k.c.ft, .int .i64 k.c.se, .int .i64 k.c.dr, .int .i64 k.c.dw, .int .i64 k.c.ho, .int .i64 k.c.re, .int .i64 k.c.yi, .int .i64 k.c.qu, .int .i64 k.c.qo, .int .i64 k.c.lo, .int .i64 k.c.sl, .int .i64 k.c.rt, .int .i64 k.c.cp, .int .i64 k.c.tr, .int .i64 k.c.de, .int .i64 k.c.wi, .int .i64 k.se, .int .i64 k.ep, .slice A ls.length c, .int .i64 k.sq, .int .i64 k.st, .int .i64 k.du, .int .i64 k.ak, .bool k.an, .int .i64 k.he] ∧ (W).ownsRow lo 36 4 (.slice A ls.length c) ls.length (rowsOf msgC ls)) w1) := Lib.hid ⟨fun W W' k ⟨h, h0, h1, h2, h3⟩ => ⟨h.trans k, keep_blk k h0, keep_blk k h1, keep_blk k h2, keep_own k h3⟩, ⟨HS1.out, HBP1.out, HBR1.out, HBQ1.out, HOW1.out⟩⟩
  have HRK := Lib.hid HKS.out.1
  refine wp_held HKS.out (by kernel_rfl) (fun hHeld => ?_)
  refine tkQ 0 (.pointer (some ⟨q, 0, none⟩)) hHeld (h := ?_)
  (try simp only [Act.put, sA, sB, sC])
  refine tkQ 1 (.bool false) hHeld (h := ?_)
  (try simp only [Act.put, sA, sB, sC])
  refine tkQ 2 (.bool false) hHeld (h := ?_)
  (try simp only [Act.put, sA, sB, sC])
  refine tkQ 3 (.pointer (some ⟨w.heap.size, 0, none⟩)) hHeld (h := ?_)
  (try simp only [Act.put, sA, sB, sC])
  refine tkQ 4 (.int .i64 p.se) hHeld (he := by intro w hSw; exact exec_cell 3 _ _ hSw.2.1 rfl rfl rfl Try.underlying3 rfl) (h := ?_)
  (try simp only [Act.put, sA, sB, sC])
  refine tkQ 5 (.pointer (some ⟨q, 0, none⟩)) hHeld (h := ?_)
  (try simp only [Act.put, sA, sB, sC])
  refine tkQ 6 (.pointer (some ⟨q, 0, none⟩)) hHeld (h := ?_)
  (try simp only [Act.put, sA, sB, sC])
  refine tkQ 7 (.pointer (some ⟨q, 18, none⟩)) hHeld (h := ?_)
  (try simp only [Act.put, sA, sB, sC])
  refine tkQ 8 (.int .i64 k.se) hHeld (he := by intro w hSw; exact exec_cell 3 _ _ hSw.2.2.2.1 rfl rfl rfl Try.underlying3 rfl) (h := ?_)
  (try simp only [Act.put, sA, sB, sC])
  refine tkQ 9 (.bool false) hHeld (he := by intro w hSw; (have q0 := H1.out; go_simp; (first | done | rfl | omega))) (h := ?_)
  (try simp only [Act.put, sA, sB, sC])
  refine tkQ 10 (.bool false) hHeld (h := ?_)
  (try simp only [Act.put, sA, sB, sC])
  refine tkQ 11 (.bool false) hHeld (h := ?_)
  (try simp only [Act.put, sA, sB, sC])
  refine tkQ 12 (.pointer (some ⟨w.heap.size, 1, none⟩)) hHeld (h := ?_)
  (try simp only [Act.put, sA, sB, sC])
  refine tkQ 13 (.int .i64 p.ep) hHeld (he := by intro w hSw; exact exec_cell 3 _ _ hSw.2.1 rfl rfl rfl Try.underlying3 rfl) (h := ?_)
  (try simp only [Act.put, sA, sB, sC])
  refine tkQ 14 (.pointer (some ⟨q, 0, none⟩)) hHeld (h := ?_)
  (try simp only [Act.put, sA, sB, sC])
  refine tkQ 15 (.pointer (some ⟨q, 0, none⟩)) hHeld (h := ?_)
  (try simp only [Act.put, sA, sB, sC])
  refine tkQ 16 (.pointer (some ⟨q, 19, none⟩)) hHeld (h := ?_)
  (try simp only [Act.put, sA, sB, sC])
  refine tkQ 17 (.int .i64 k.ep) hHeld (he := by intro w hSw; exact exec_cell 3 _ _ hSw.2.2.2.1 rfl rfl rfl Try.underlying3 rfl) (h := ?_)
  (try simp only [Act.put, sA, sB, sC])
  refine tkQ 18 (.bool true) hHeld (he := by intro w hSw; (have q0 := H2.out; go_simp; (first | done | rfl | omega))) (h := ?_)
  (try simp only [Act.put, sA, sB, sC])
  refine tkQ 19 (.bool true) hHeld (h := ?_)
  (try simp only [Act.put, sA, sB, sC])
  refine wpAnyH_done (by kernel_rfl) ?_ _
  have HSd1 := Lib.hid hHeld.1
  have HBPd1 := Lib.hid (hHeld.2.1)
  have HBRd1 := Lib.hid (hHeld.2.2.1)
  have HBQd1 := Lib.hid (hHeld.2.2.2.1)
  have HFrd1 := Lib.hid (hHeld.2.2.2.2)
  clear hHeld HRK HKS HS1 HBP1 HBR1 HBQ1 HOW1
  go_upto_region 2 with fail
  refine wp_region_lit ?_
  refine wpList_q (by rfl) (.agg #[.int .i64 0, .int .i64 0, .int .i64 0, .int .i64 0]) ?he ?_
  case he => kernel_rfl
  (try simp only [Act.put, sA, sB, sC])
  refine wpList_wp (by rfl) (fun K hK => ?_)
  refine wp_st_row 36 _ _ rfl #[.int .i64 0, .int .i64 0, .int .i64 0, .int .i64 0] rfl rfl (HasRow.of HBRd1.out rfl) rfl (by simp [Value.oneCell']) (by kernel_rfl) ?_
  intro w2 hw
  refine hK.out _ _ ?_
  clear hK K
  (try simp only [Act.put, sA, sB, sC])
  have HS2 := Lib.hid (show Since w w2 by rw [hw]; exact Since.setRow HSd1.out (by have := HNE3.out; omega) _)
  have HBP2 := Lib.hid (show Blk w2 w.heap.size 38 #[.int .i64 p.se, .int .i64 p.ep, .int .i64 p.sq, .int .i64 p.ak, .bool p.ha, .int .i64 p.m.ki, .int .i64 p.m.a, .int .i64 p.m.b, .int .i64 p.m.c] by rw [hw]; exact Blk.row_far HBPd1.out (by have := HNE3.out; omega) _)
  have HBR2 := Lib.hid (show Blk w2 bR 36 #[.int .i64 0, .int .i64 0, .int .i64 0, .int .i64 0] by rw [hw]; exact Blk.row HBRd1.out _)
  have HBQ2 := Lib.hid (show Blk w2 q 88 #[.int .i64 k.c.ca, .int .i64 k.c.fl, .int .i64 k.c.ft, .int .i64 k.c.se, .int .i64 k.c.dr, .int .i64 k.c.dw, .int .i64 k.c.ho, .int .i64 k.c.re, .int .i64 k.c.yi, .int .i64 k.c.qu, .int .i64 k.c.qo, .int .i64 k.c.lo, .int .i64 k.c.sl, .int .i64 k.c.rt, .int .i64 k.c.cp, .int .i64 k.c.tr, .int .i64 k.c.de, .int .i64 k.c.wi, .int .i64 k.se, .int .i64 k.ep, .slice A ls.length c, .int .i64 k.sq, .int .i64 k.st, .int .i64 k.du, .int .i64 k.ak, .bool k.an, .int .i64 k.he] by rw [hw]; exact Blk.row_far HBQd1.out HNR.out _)
  have HFr_2 := Lib.hid (show (w2).ownsRow lo 36 4 (.slice A ls.length c) ls.length (rowsOf msgC ls) by rw [hw]; exact own_row_far HFrd1.out HIR.out _)
  clear hw HSd1 HBPd1 HBRd1 HBQd1 HFrd1
  refine tkL (.bool false) (h := ?_)
  (try simp only [Act.put, sA, sB, sC])
  refine wpList_nil ?_
  (try go_wp2_with fail)
  exact bodyPost_ret (results_row2 rfl _ _ bR 36 #[.int .i64 0, .int .i64 0, .int .i64 0, .int .i64 0] _ (.bool false) rfl rfl HBR2.out Try.underlying36 rfl (by kernel_rfl)) rfl ⟨rfl, HS2.out⟩
set_option maxHeartbeats 4000000 in
theorem recv_e_take (lo q : Nat) (k : LkV) (ls : List MsgV) (A : Option Addr) (c : Nat) (p : PkV) (now : Int) (w : World) (hb : Blk w q 88 (lkC k (.slice A ls.length c))) (ho : w.ownsRow lo 36 4 (.slice A ls.length c) ls.length (rowsOf msgC ls)) (hl : ls.length ≤ 10000) (h1 : p.se = k.se) (h2 : p.ep = k.ep) (h0 : lo ≤ q) (h3 : ls.length = 0) (h5 : p.ha = true) (h6 : decide (0 < Se.ne k.ak p.sq) = false) (h7 : p.sq = k.ak) : Calls Try.prog 16 #[.pointer (some ⟨q, 0, none⟩), .agg #[.int .i64 p.se, .int .i64 p.ep, .int .i64 p.sq, .int .i64 p.ak, .bool p.ha, .int .i64 p.m.ki, .int .i64 p.m.a, .int .i64 p.m.b, .int .i64 p.m.c], .int .i64 now] w fun e w' => e = .returned (.tuple #[.agg #[.int .i64 p.m.ki, .int .i64 p.m.a, .int .i64 p.m.b, .int .i64 p.m.c], .bool true]) ∧ LO lo q { k with he := mx2 k.he (cl now), an := true, ak := Se.nx k.ak } ls (q :: blkOf A) w' ∧ Upd (q :: blkOf A) w w' := by
  have HBQ := Lib.hid (show Blk w q 88 #[.int .i64 k.c.ca, .int .i64 k.c.fl, .int .i64 k.c.ft, .int .i64 k.c.se, .int .i64 k.c.dr, .int .i64 k.c.dw, .int .i64 k.c.ho, .int .i64 k.c.re, .int .i64 k.c.yi, .int .i64 k.c.qu, .int .i64 k.c.qo, .int .i64 k.c.lo, .int .i64 k.c.sl, .int .i64 k.c.rt, .int .i64 k.c.cp, .int .i64 k.c.tr, .int .i64 k.c.de, .int .i64 k.c.wi, .int .i64 k.se, .int .i64 k.ep, .slice A ls.length c, .int .i64 k.sq, .int .i64 k.st, .int .i64 k.du, .int .i64 k.ak, .bool k.an, .int .i64 k.he] from hb)
  clear hb
  have HOW := Lib.hid ho
  clear ho
  have HL := Lib.hid hl
  clear hl
  have H1 := Lib.hid h1
  clear h1
  have H2 := Lib.hid h2
  clear h2
  have H0 := Lib.hid h0
  clear h0
  have H3 := Lib.hid h3
  clear h3
  have H5 := Lib.hid h5
  clear h5
  have H6 := Lib.hid h6
  clear h6
  have H7 := Lib.hid h7
  clear h7
  go_enter Try.func16, Try.ntmps16
  go_upto_region 1 with fail
  obtain ⟨w1, hw1⟩ : ∃ w1, w1 = ((w.alloc (.cells #[.int .i64 p.se, .int .i64 p.ep, .int .i64 p.sq, .int .i64 p.ak, .bool p.ha, .int .i64 p.m.ki, .int .i64 p.m.a, .int .i64 p.m.b, .int .i64 p.m.c] 38)).alloc (.cells #[.int .i64 0, .int .i64 0, .int .i64 0, .int .i64 0] 36)) := ⟨_, rfl⟩
  rw [← hw1]
  have HBP1 := Lib.hid (show Blk w1 (w.heap.size) 38 #[.int .i64 p.se, .int .i64 p.ep, .int .i64 p.sq, .int .i64 p.ak, .bool p.ha, .int .i64 p.m.ki, .int .i64 p.m.a, .int .i64 p.m.b, .int .i64 p.m.c] by rw [hw1]; exact Blk.alloc (Blk.at_ (by (try simp only [size_alloc])) _ _) _)
  have HBR1 := Lib.hid (show Blk w1 (w.heap.size + 1) 36 #[.int .i64 0, .int .i64 0, .int .i64 0, .int .i64 0] by rw [hw1]; exact Blk.at_ (by (try simp only [size_alloc])) _ _)
  have HS1 := Lib.hid (show Since w w1 by rw [hw1]; exact Since.alloc (Since.alloc (Since.refl w) _) _)
  have hNE : w.heap.size ≤ w.heap.size ∧ w.heap.size < w.heap.size + 1 := by omega
  have HNE := Lib.hid hNE
  clear hNE hw1
  generalize w.heap.size + 1 = bR at *
  have HNE3 := Lib.hid (show w.heap.size ≤ w.heap.size ∧ w.heap.size < bR from HNE.out)
  clear HNE
  have HBQ1 := Lib.hid (keep_blk HS1.out HBQ.out)
  have HOW1 := Lib.hid (keep_own HS1.out HOW.out)
  have HIQ := Lib.hid (own_ne_ty HOW.out HBQ.out (by decide))
  have HLO := Lib.hid (show q < w.heap.size from Blk.lt HBQ.out)
  have HIP := Lib.hid (own_far HOW.out (show w.heap.size ≤ w.heap.size by have := HNE3.out; omega))
  have HNP := Lib.hid (show q ≠ w.heap.size by have := HLO.out; have := HNE3.out; omega)
  have HIR := Lib.hid (own_far HOW.out (show w.heap.size ≤ bR by have := HNE3.out; omega))
  have HNR := Lib.hid (show q ≠ bR by have := HLO.out; have := HNE3.out; omega)
  clear HBQ HOW
  have HKS : Hid (KeepS (fun W : World => Since w W ∧ Blk W w.heap.size 38 #[.int .i64 p.se, .int .i64 p.ep, .int .i64 p.sq, .int .i64 p.ak, .bool p.ha, .int .i64 p.m.ki, .int .i64 p.m.a, .int .i64 p.m.b, .int .i64 p.m.c] ∧ Blk W bR 36 #[.int .i64 0, .int .i64 0, .int .i64 0, .int .i64 0] ∧ Blk W q 88 #[.int .i64 k.c.ca, .int .i64 k.c.fl, .int .i64 k.c.ft, .int .i64 k.c.se, .int .i64 k.c.dr, .int .i64 k.c.dw, .int .i64 k.c.ho, .int .i64 k.c.re, .int .i64 k.c.yi, .int .i64 k.c.qu, .int .i64 k.c.qo, .int .i64 k.c.lo, .int .i64 k.c.sl, .int .i64 k.c.rt, .int .i64 k.c.cp, .int .i64 k.c.tr, .int .i64 k.c.de, .int .i64 k.c.wi, .int .i64 k.se, .int .i64 k.ep, .slice A ls.length c, .int .i64 k.sq, .int .i64 k.st, .int .i64 k.du, .int .i64 k.ak, .bool k.an, .int .i64 k.he] ∧ (W).ownsRow lo 36 4 (.slice A ls.length c) ls.length (rowsOf msgC ls)) w1) := Lib.hid ⟨fun W W' k ⟨h, h0, h1, h2, h3⟩ => ⟨h.trans k, keep_blk k h0, keep_blk k h1, keep_blk k h2, keep_own k h3⟩, ⟨HS1.out, HBP1.out, HBR1.out, HBQ1.out, HOW1.out⟩⟩
  have HRK := Lib.hid HKS.out.1
  refine wp_held HKS.out (by kernel_rfl) (fun hHeld => ?_)
  refine tkQ 0 (.pointer (some ⟨q, 0, none⟩)) hHeld (h := ?_)
  (try simp only [Act.put, sA, sB, sC])
  refine tkQ 1 (.bool false) hHeld (h := ?_)
  (try simp only [Act.put, sA, sB, sC])
  refine tkQ 2 (.bool false) hHeld (h := ?_)
  (try simp only [Act.put, sA, sB, sC])
  refine tkQ 3 (.pointer (some ⟨w.heap.size, 0, none⟩)) hHeld (h := ?_)
  (try simp only [Act.put, sA, sB, sC])
  refine tkQ 4 (.int .i64 p.se) hHeld (he := by intro w hSw; exact exec_cell 3 _ _ hSw.2.1 rfl rfl rfl Try.underlying3 rfl) (h := ?_)
  (try simp only [Act.put, sA, sB, sC])
  refine tkQ 5 (.pointer (some ⟨q, 0, none⟩)) hHeld (h := ?_)
  (try simp only [Act.put, sA, sB, sC])
  refine tkQ 6 (.pointer (some ⟨q, 0, none⟩)) hHeld (h := ?_)
  (try simp only [Act.put, sA, sB, sC])
  refine tkQ 7 (.pointer (some ⟨q, 18, none⟩)) hHeld (h := ?_)
  (try simp only [Act.put, sA, sB, sC])
  refine tkQ 8 (.int .i64 k.se) hHeld (he := by intro w hSw; exact exec_cell 3 _ _ hSw.2.2.2.1 rfl rfl rfl Try.underlying3 rfl) (h := ?_)
  (try simp only [Act.put, sA, sB, sC])
  refine tkQ 9 (.bool false) hHeld (he := by intro w hSw; (have q0 := H1.out; go_simp; (first | done | rfl | omega))) (h := ?_)
  (try simp only [Act.put, sA, sB, sC])
  refine tkQ 10 (.bool false) hHeld (h := ?_)
  (try simp only [Act.put, sA, sB, sC])
  refine tkQ 11 (.bool false) hHeld (h := ?_)
  (try simp only [Act.put, sA, sB, sC])
  refine tkQ 12 (.pointer (some ⟨w.heap.size, 1, none⟩)) hHeld (h := ?_)
  (try simp only [Act.put, sA, sB, sC])
  refine tkQ 13 (.int .i64 p.ep) hHeld (he := by intro w hSw; exact exec_cell 3 _ _ hSw.2.1 rfl rfl rfl Try.underlying3 rfl) (h := ?_)
  (try simp only [Act.put, sA, sB, sC])
  refine tkQ 14 (.pointer (some ⟨q, 0, none⟩)) hHeld (h := ?_)
  (try simp only [Act.put, sA, sB, sC])
  refine tkQ 15 (.pointer (some ⟨q, 0, none⟩)) hHeld (h := ?_)
  (try simp only [Act.put, sA, sB, sC])
  refine tkQ 16 (.pointer (some ⟨q, 19, none⟩)) hHeld (h := ?_)
  (try simp only [Act.put, sA, sB, sC])
  refine tkQ 17 (.int .i64 k.ep) hHeld (he := by intro w hSw; exact exec_cell 3 _ _ hSw.2.2.2.1 rfl rfl rfl Try.underlying3 rfl) (h := ?_)
  (try simp only [Act.put, sA, sB, sC])
  refine tkQ 18 (.bool false) hHeld (he := by intro w hSw; (have q0 := H2.out; go_simp; (first | done | rfl | omega))) (h := ?_)
  (try simp only [Act.put, sA, sB, sC])
  refine tkQ 19 (.bool false) hHeld (h := ?_)
  (try simp only [Act.put, sA, sB, sC])
  refine wpAnyH_done (by kernel_rfl) ?_ _
  have HSd1 := Lib.hid hHeld.1
  have HBPd1 := Lib.hid (hHeld.2.1)
  have HBRd1 := Lib.hid (hHeld.2.2.1)
  have HBQd1 := Lib.hid (hHeld.2.2.2.1)
  have HFrd1 := Lib.hid (hHeld.2.2.2.2)
  clear hHeld HRK HKS HS1 HBP1 HBR1 HBQ1 HOW1
  have HSU := Lib.hid (show Upd (q :: blkOf A) w w1.drew from Upd.of_since HSd1.out)
  clear HSd1
  go_upto_region 3 with fail
  go_cut [] (fun  wx => Hid (Upd (q :: blkOf A) w wx ∧ Blk wx w.heap.size 38 #[.int .i64 p.se, .int .i64 p.ep, .int .i64 p.sq, .int .i64 p.ak, .bool p.ha, .int .i64 p.m.ki, .int .i64 p.m.a, .int .i64 p.m.b, .int .i64 p.m.c] ∧ Blk wx bR 36 #[.int .i64 0, .int .i64 0, .int .i64 0, .int .i64 0] ∧ Blk wx q 88 #[.int .i64 k.c.ca, .int .i64 k.c.fl, .int .i64 k.c.ft, .int .i64 k.c.se, .int .i64 k.c.dr, .int .i64 k.c.dw, .int .i64 k.c.ho, .int .i64 k.c.re, .int .i64 k.c.yi, .int .i64 k.c.qu, .int .i64 k.c.qo, .int .i64 k.c.lo, .int .i64 k.c.sl, .int .i64 k.c.rt, .int .i64 k.c.cp, .int .i64 k.c.tr, .int .i64 k.c.de, .int .i64 k.c.wi, .int .i64 k.se, .int .i64 k.ep, .slice A ls.length c, .int .i64 k.sq, .int .i64 k.st, .int .i64 k.du, .int .i64 k.ak, .bool k.an, .int .i64 (mx2 k.he (cl now))] ∧ (wx).ownsRow lo 36 4 (.slice A ls.length c) ls.length (rowsOf msgC ls)))
  case first =>
    have HKS : Hid (KeepS (fun W : World => Upd (q :: blkOf A) w W ∧ Blk W w.heap.size 38 #[.int .i64 p.se, .int .i64 p.ep, .int .i64 p.sq, .int .i64 p.ak, .bool p.ha, .int .i64 p.m.ki, .int .i64 p.m.a, .int .i64 p.m.b, .int .i64 p.m.c] ∧ Blk W bR 36 #[.int .i64 0, .int .i64 0, .int .i64 0, .int .i64 0] ∧ HasRow W q 88 27 ∧ (W).ownsRow lo 36 4 (.slice A ls.length c) ls.length (rowsOf msgC ls)) w1.drew) := Lib.hid ⟨fun W W' k ⟨h, h0, h1, h2, h3⟩ => ⟨h.trans k, keep_blk k h0, keep_blk k h1, HasRow.keep k h2, keep_own k h3⟩, ⟨HSU.out, HBPd1.out, HBRd1.out, HasRow.of HBQd1.out rfl, HFrd1.out⟩⟩
    have HRK := Lib.hid HKS.out.1
    have HPQ := Lib.hid (show Blk (World.drew w1.drew) q 88 #[.int .i64 k.c.ca, .int .i64 k.c.fl, .int .i64 k.c.ft, .int .i64 k.c.se, .int .i64 k.c.dr, .int .i64 k.c.dw, .int .i64 k.c.ho, .int .i64 k.c.re, .int .i64 k.c.yi, .int .i64 k.c.qu, .int .i64 k.c.qo, .int .i64 k.c.lo, .int .i64 k.c.sl, .int .i64 k.c.rt, .int .i64 k.c.cp, .int .i64 k.c.tr, .int .i64 k.c.de, .int .i64 k.c.wi, .int .i64 k.se, .int .i64 k.ep, .slice A ls.length c, .int .i64 k.sq, .int .i64 k.st, .int .i64 k.du, .int .i64 k.ak, .bool k.an, .int .i64 k.he] from HBQd1.out)
    refine wp_held HKS.out (by kernel_rfl) (fun hHeld => ?_)
    refine tkQ 0 (.pointer (some ⟨q, 0, none⟩)) hHeld (h := ?_)
    (try simp only [Act.put, sA, sB, sC])
    refine tkQ 1 (.pointer (some ⟨q, 0, none⟩)) hHeld (h := ?_)
    (try simp only [Act.put, sA, sB, sC])
    refine tkQ 2 (.pointer (some ⟨q, 0, none⟩)) hHeld (h := ?_)
    (try simp only [Act.put, sA, sB, sC])
    refine tkQ 3 (.pointer (some ⟨q, 26, none⟩)) hHeld (h := ?_)
    (try simp only [Act.put, sA, sB, sC])
    refine tkQ 5 (.int .i64 now) hHeld (h := ?_)
    (try simp only [Act.put, sA, sB, sC])
    refine wpAnyH_ready (rs := [4, 6]) (by kernel_rfl) (by simp) ?_
    refine AllReadyH.cons (o := ?o3__4b) ?h3__4b (fun K hK => ?g3__4b) (AllReadyH.cons (o := ?o3__6b) ?h3__6b (fun K hK => ?g3__6b) AllReadyH.nil)
    case h3__4b => (first | (simp only [gA, gB, gC]; done) | (simp only [gA, gB, gC]; exact rfl))
    case h3__6b => (first | (simp only [gA, gB, gC]; done) | (simp only [gA, gB, gC]; exact rfl))
    case g3__4b =>
      rw [if_pos (by rfl)]
      refine wp_q (.int .i64 k.he) ?e3_b4_4 ?_
      case e3_b4_4 => exact exec_cell 3 _ _ HPQ.out rfl rfl rfl Try.underlying3 rfl
      refine hK.out _ _ hHeld (fun hHeld2 => ?_)
      clear hK K hHeld2
      (try simp only [Act.put, sA, sB, sC])
      refine wpAnyH_ready (rs := [6]) (by kernel_rfl) (by simp) ?_
      refine AllReadyH.cons (o := ?o3_b4_6) ?h3_b4_6 (fun K hK => ?_) AllReadyH.nil
      case h3_b4_6 => (first | (simp only [gA, gB, gC]; done) | (simp only [gA, gB, gC]; exact rfl))
      (try go_simp)
      refine (clT _ _).mono ?_
      rintro e w' ⟨rfl, rfl⟩
      (try go_wp2_with fail)
      refine hK.out _ _ hHeld (fun hHeld2 => ?_)
      clear hK K hHeld2
      (try simp only [Act.put, sA, sB, sC])
      refine tkQ 7 (.int .i64 (mx2 k.he (cl now))) hHeld (he := by intro w hSw; (unfold mx2; go_simp; (first | done | rfl))) (h := ?_)
      (try simp only [Act.put, sA, sB, sC])
      refine tkQ 8 (.pointer (some ⟨q, 0, none⟩)) hHeld (h := ?_)
      (try simp only [Act.put, sA, sB, sC])
      refine tkQ 9 (.pointer (some ⟨q, 26, none⟩)) hHeld (h := ?_)
      (try simp only [Act.put, sA, sB, sC])
      refine wpAnyH_ready (rs := [10]) (by kernel_rfl) (by simp) ?_
      refine AllReadyH.cons (o := ?o3_b4_10) ?h3_b4_10 (fun K hK => ?_) AllReadyH.nil
      case h3_b4_10 => (first | (simp only [gA, gB, gC]; done) | (simp only [gA, gB, gC]; exact rfl))
      rw [if_pos (by rfl)]
      refine wp_st_cell 3 _ _ rfl #[.int .i64 k.c.ca, .int .i64 k.c.fl, .int .i64 k.c.ft, .int .i64 k.c.se, .int .i64 k.c.dr, .int .i64 k.c.dw, .int .i64 k.c.ho, .int .i64 k.c.re, .int .i64 k.c.yi, .int .i64 k.c.qu, .int .i64 k.c.qo, .int .i64 k.c.lo, .int .i64 k.c.sl, .int .i64 k.c.rt, .int .i64 k.c.cp, .int .i64 k.c.tr, .int .i64 k.c.de, .int .i64 k.c.wi, .int .i64 k.se, .int .i64 k.ep, .slice A ls.length c, .int .i64 k.sq, .int .i64 k.st, .int .i64 k.du, .int .i64 k.ak, .bool k.an, .int .i64 (mx2 k.he (cl now))] (.int .i64 (mx2 k.he (cl now))) rfl rfl HPQ.out (by show 26 < 27; decide) rfl (by first | rfl | simp [Value.oneCell']) (by kernel_rfl) ?_
      clear HPQ
      intro w2 hw
      have HRQ := Lib.hid (show Blk w2 q 88 #[.int .i64 k.c.ca, .int .i64 k.c.fl, .int .i64 k.c.ft, .int .i64 k.c.se, .int .i64 k.c.dr, .int .i64 k.c.dw, .int .i64 k.c.ho, .int .i64 k.c.re, .int .i64 k.c.yi, .int .i64 k.c.qu, .int .i64 k.c.qo, .int .i64 k.c.lo, .int .i64 k.c.sl, .int .i64 k.c.rt, .int .i64 k.c.cp, .int .i64 k.c.tr, .int .i64 k.c.de, .int .i64 k.c.wi, .int .i64 k.se, .int .i64 k.ep, .slice A ls.length c, .int .i64 k.sq, .int .i64 k.st, .int .i64 k.du, .int .i64 k.ak, .bool k.an, .int .i64 (mx2 k.he (cl now))] by obtain ⟨old, Bo, _⟩ := hHeld.2.2.2.1; rw [hw]; exact Blk.row Bo _)
      have hHeld3 := HKS.out.at_ w2 ⟨by rw [hw]; exact Upd.setRow hHeld.1 (.inl (by simp)) _, by rw [hw]; exact Blk.row_far (hHeld.2.1) (Ne.symm HNP.out) _, by rw [hw]; exact Blk.row_far (hHeld.2.2.1) (Ne.symm HNR.out) _, HasRow.of HRQ.out rfl, by rw [hw]; exact own_row_far (hHeld.2.2.2.2) HIQ.out _⟩
      refine hK.out _ _ hHeld3 (fun hHeld2 => ?_)
      clear hK K hHeld hHeld3 hw
      have hHeld := hHeld2
      clear hHeld2
      (try simp only [Act.put, sA, sB, sC])
      refine wpAnyH_done (by kernel_rfl) ?_ _
      have HSd3 := Lib.hid hHeld.1
      have HBPd3 := Lib.hid (hHeld.2.1)
      have HBRd3 := Lib.hid (hHeld.2.2.1)
      have HBQd3 := Lib.hid HRQ.out
      clear HRQ
      have HFrd3 := Lib.hid (hHeld.2.2.2.2)
      clear hHeld HRK HKS HSU HBPd1 HBRd1 HBQd1 HFrd1
      go_wp2_with fail
      go_meet
      case rel => exact Lib.hid ⟨HSd3.out, HBPd3.out, HBRd3.out, HBQd3.out, HFrd3.out⟩
    case g3__6b =>
      (try go_simp)
      refine (clT _ _).mono ?_
      rintro e w' ⟨rfl, rfl⟩
      (try go_wp2_with fail)
      refine hK.out _ _ hHeld (fun hHeld2 => ?_)
      clear hK K hHeld2
      (try simp only [Act.put, sA, sB, sC])
      refine wpAnyH_ready (rs := [4]) (by kernel_rfl) (by simp) ?_
      refine AllReadyH.cons (o := ?o3_b6_4) ?h3_b6_4 (fun K hK => ?_) AllReadyH.nil
      case h3_b6_4 => (first | (simp only [gA, gB, gC]; done) | (simp only [gA, gB, gC]; exact rfl))
      rw [if_pos (by rfl)]
      refine wp_q (.int .i64 k.he) ?e3_b6_4 ?_
      case e3_b6_4 => exact exec_cell 3 _ _ HPQ.out rfl rfl rfl Try.underlying3 rfl
      refine hK.out _ _ hHeld (fun hHeld2 => ?_)
      clear hK K hHeld2
      (try simp only [Act.put, sA, sB, sC])
      refine tkQ 7 (.int .i64 (mx2 k.he (cl now))) hHeld (he := by intro w hSw; (unfold mx2; go_simp; (first | done | rfl))) (h := ?_)
      (try simp only [Act.put, sA, sB, sC])
      refine tkQ 8 (.pointer (some ⟨q, 0, none⟩)) hHeld (h := ?_)
      (try simp only [Act.put, sA, sB, sC])
      refine tkQ 9 (.pointer (some ⟨q, 26, none⟩)) hHeld (h := ?_)
      (try simp only [Act.put, sA, sB, sC])
      refine wpAnyH_ready (rs := [10]) (by kernel_rfl) (by simp) ?_
      refine AllReadyH.cons (o := ?o3_b6_10) ?h3_b6_10 (fun K hK => ?_) AllReadyH.nil
      case h3_b6_10 => (first | (simp only [gA, gB, gC]; done) | (simp only [gA, gB, gC]; exact rfl))
      rw [if_pos (by rfl)]
      refine wp_st_cell 3 _ _ rfl #[.int .i64 k.c.ca, .int .i64 k.c.fl, .int .i64 k.c.ft, .int .i64 k.c.se, .int .i64 k.c.dr, .int .i64 k.c.dw, .int .i64 k.c.ho, .int .i64 k.c.re, .int .i64 k.c.yi, .int .i64 k.c.qu, .int .i64 k.c.qo, .int .i64 k.c.lo, .int .i64 k.c.sl, .int .i64 k.c.rt, .int .i64 k.c.cp, .int .i64 k.c.tr, .int .i64 k.c.de, .int .i64 k.c.wi, .int .i64 k.se, .int .i64 k.ep, .slice A ls.length c, .int .i64 k.sq, .int .i64 k.st, .int .i64 k.du, .int .i64 k.ak, .bool k.an, .int .i64 (mx2 k.he (cl now))] (.int .i64 (mx2 k.he (cl now))) rfl rfl HPQ.out (by show 26 < 27; decide) rfl (by first | rfl | simp [Value.oneCell']) (by kernel_rfl) ?_
      clear HPQ
      intro w2 hw
      have HRQ := Lib.hid (show Blk w2 q 88 #[.int .i64 k.c.ca, .int .i64 k.c.fl, .int .i64 k.c.ft, .int .i64 k.c.se, .int .i64 k.c.dr, .int .i64 k.c.dw, .int .i64 k.c.ho, .int .i64 k.c.re, .int .i64 k.c.yi, .int .i64 k.c.qu, .int .i64 k.c.qo, .int .i64 k.c.lo, .int .i64 k.c.sl, .int .i64 k.c.rt, .int .i64 k.c.cp, .int .i64 k.c.tr, .int .i64 k.c.de, .int .i64 k.c.wi, .int .i64 k.se, .int .i64 k.ep, .slice A ls.length c, .int .i64 k.sq, .int .i64 k.st, .int .i64 k.du, .int .i64 k.ak, .bool k.an, .int .i64 (mx2 k.he (cl now))] by obtain ⟨old, Bo, _⟩ := hHeld.2.2.2.1; rw [hw]; exact Blk.row Bo _)
      have hHeld3 := HKS.out.at_ w2 ⟨by rw [hw]; exact Upd.setRow hHeld.1 (.inl (by simp)) _, by rw [hw]; exact Blk.row_far (hHeld.2.1) (Ne.symm HNP.out) _, by rw [hw]; exact Blk.row_far (hHeld.2.2.1) (Ne.symm HNR.out) _, HasRow.of HRQ.out rfl, by rw [hw]; exact own_row_far (hHeld.2.2.2.2) HIQ.out _⟩
      refine hK.out _ _ hHeld3 (fun hHeld2 => ?_)
      clear hK K hHeld hHeld3 hw
      have hHeld := hHeld2
      clear hHeld2
      (try simp only [Act.put, sA, sB, sC])
      refine wpAnyH_done (by kernel_rfl) ?_ _
      have HSd3v2 := Lib.hid hHeld.1
      have HBPd3v2 := Lib.hid (hHeld.2.1)
      have HBRd3v2 := Lib.hid (hHeld.2.2.1)
      have HBQd3v2 := Lib.hid HRQ.out
      clear HRQ
      have HFrd3v2 := Lib.hid (hHeld.2.2.2.2)
      clear hHeld HRK HKS HSU HBPd1 HBRd1 HBQd1 HFrd1
      go_wp2_with fail
      go_meet
      case rel => exact Lib.hid ⟨HSd3v2.out, HBPd3v2.out, HBRd3v2.out, HBQd3v2.out, HFrd3v2.out⟩
  case rest =>
    clear HSU HBPd1 HBRd1 HBQd1 HFrd1
    obtain ⟨g0, g1, g2, g3, g4⟩ := hcut.out
    clear hcut
    have HS51 := Lib.hid g0
    have HBP51 := Lib.hid g1
    have HBR51 := Lib.hid g2
    have HBQ51 := Lib.hid g3
    have HFr51 := Lib.hid g4
    clear g0 g1 g2 g3 g4
    go_upto_region 4 with fail
    have HKS : Hid (KeepS (fun W : World => Upd (q :: blkOf A) w W ∧ Blk W w.heap.size 38 #[.int .i64 p.se, .int .i64 p.ep, .int .i64 p.sq, .int .i64 p.ak, .bool p.ha, .int .i64 p.m.ki, .int .i64 p.m.a, .int .i64 p.m.b, .int .i64 p.m.c] ∧ Blk W bR 36 #[.int .i64 0, .int .i64 0, .int .i64 0, .int .i64 0] ∧ Blk W q 88 #[.int .i64 k.c.ca, .int .i64 k.c.fl, .int .i64 k.c.ft, .int .i64 k.c.se, .int .i64 k.c.dr, .int .i64 k.c.dw, .int .i64 k.c.ho, .int .i64 k.c.re, .int .i64 k.c.yi, .int .i64 k.c.qu, .int .i64 k.c.qo, .int .i64 k.c.lo, .int .i64 k.c.sl, .int .i64 k.c.rt, .int .i64 k.c.cp, .int .i64 k.c.tr, .int .i64 k.c.de, .int .i64 k.c.wi, .int .i64 k.se, .int .i64 k.ep, .slice A ls.length c, .int .i64 k.sq, .int .i64 k.st, .int .i64 k.du, .int .i64 k.ak, .bool k.an, .int .i64 (mx2 k.he (cl now))] ∧ (W).ownsRow lo 36 4 (.slice A ls.length c) ls.length (rowsOf msgC ls)) wc) := Lib.hid ⟨fun W W' k ⟨h, h0, h1, h2, h3⟩ => ⟨h.trans k, keep_blk k h0, keep_blk k h1, keep_blk k h2, keep_own k h3⟩, ⟨HS51.out, HBP51.out, HBR51.out, HBQ51.out, HFr51.out⟩⟩
    have HRK := Lib.hid HKS.out.1
    refine wp_held HKS.out (by kernel_rfl) (fun hHeld => ?_)
    refine tkQ 0 (.pointer (some ⟨q, 0, none⟩)) hHeld (h := ?_)
    (try simp only [Act.put, sA, sB, sC])
    refine tkQ 1 (.pointer (some ⟨q, 0, none⟩)) hHeld (h := ?_)
    (try simp only [Act.put, sA, sB, sC])
    refine tkQ 2 (.pointer (some ⟨q, 20, none⟩)) hHeld (h := ?_)
    (try simp only [Act.put, sA, sB, sC])
    refine tkQ 3 (.slice A ls.length c) hHeld (he := by intro w hSw; exact exec_cell 86 _ _ hSw.2.2.2.1 rfl rfl rfl Try.underlying86 rfl) (h := ?_)
    (try simp only [Act.put, sA, sB, sC])
    refine tkQ 4 (.int .i64 (ls.length : Int)) hHeld (h := ?_)
    (try simp only [Act.put, sA, sB, sC])
    refine tkQ 5 (.bool false) hHeld (he := by intro w hSw; (have q0 := H3.out; go_simp; (first | done | rfl | omega))) (h := ?_)
    (try simp only [Act.put, sA, sB, sC])
    refine tkQ 6 (.bool false) hHeld (h := ?_)
    (try simp only [Act.put, sA, sB, sC])
    refine tkU 7 hHeld (h := ?_)
    (try simp only [Act.put, sA, sB, sC])
    refine tkU 8 hHeld (h := ?_)
    (try simp only [Act.put, sA, sB, sC])
    refine tkU 9 hHeld (h := ?_)
    (try simp only [Act.put, sA, sB, sC])
    refine tkU 10 hHeld (h := ?_)
    (try simp only [Act.put, sA, sB, sC])
    refine tkU 11 hHeld (h := ?_)
    (try simp only [Act.put, sA, sB, sC])
    refine tkU 12 hHeld (h := ?_)
    (try simp only [Act.put, sA, sB, sC])
    refine tkU 13 hHeld (h := ?_)
    (try simp only [Act.put, sA, sB, sC])
    refine tkU 14 hHeld (h := ?_)
    (try simp only [Act.put, sA, sB, sC])
    refine tkQ 15 (.bool false) hHeld (h := ?_)
    (try simp only [Act.put, sA, sB, sC])
    refine wpAnyH_done (by kernel_rfl) ?_ _
    have HSd4 := Lib.hid hHeld.1
    have HBPd4 := Lib.hid (hHeld.2.1)
    have HBRd4 := Lib.hid (hHeld.2.2.1)
    have HBQd4 := Lib.hid (hHeld.2.2.2.1)
    have HFrd4 := Lib.hid (hHeld.2.2.2.2)
    clear hHeld HRK HKS HS51 HBP51 HBR51 HBQ51 HFr51
    go_upto_region 6 with fail
    have HKS : Hid (KeepS (fun W : World => Upd (q :: blkOf A) w W ∧ Blk W w.heap.size 38 #[.int .i64 p.se, .int .i64 p.ep, .int .i64 p.sq, .int .i64 p.ak, .bool p.ha, .int .i64 p.m.ki, .int .i64 p.m.a, .int .i64 p.m.b, .int .i64 p.m.c] ∧ Blk W bR 36 #[.int .i64 0, .int .i64 0, .int .i64 0, .int .i64 0] ∧ Blk W q 88 #[.int .i64 k.c.ca, .int .i64 k.c.fl, .int .i64 k.c.ft, .int .i64 k.c.se, .int .i64 k.c.dr, .int .i64 k.c.dw, .int .i64 k.c.ho, .int .i64 k.c.re, .int .i64 k.c.yi, .int .i64 k.c.qu, .int .i64 k.c.qo, .int .i64 k.c.lo, .int .i64 k.c.sl, .int .i64 k.c.rt, .int .i64 k.c.cp, .int .i64 k.c.tr, .int .i64 k.c.de, .int .i64 k.c.wi, .int .i64 k.se, .int .i64 k.ep, .slice A ls.length c, .int .i64 k.sq, .int .i64 k.st, .int .i64 k.du, .int .i64 k.ak, .bool k.an, .int .i64 (mx2 k.he (cl now))] ∧ (W).ownsRow lo 36 4 (.slice A ls.length c) ls.length (rowsOf msgC ls)) wc.drew) := Lib.hid ⟨fun W W' k ⟨h, h0, h1, h2, h3⟩ => ⟨h.trans k, keep_blk k h0, keep_blk k h1, keep_blk k h2, keep_own k h3⟩, ⟨HSd4.out, HBPd4.out, HBRd4.out, HBQd4.out, HFrd4.out⟩⟩
    have HRK := Lib.hid HKS.out.1
    refine wp_held HKS.out (by kernel_rfl) (fun hHeld => ?_)
    refine tkQ 0 (.pointer (some ⟨w.heap.size, 4, none⟩)) hHeld (h := ?_)
    (try simp only [Act.put, sA, sB, sC])
    refine tkQ 1 (.bool p.ha) hHeld (he := by intro w hSw; exact exec_cell 4 _ _ hSw.2.1 rfl rfl rfl Try.underlying4 rfl) (h := ?_)
    (try simp only [Act.put, sA, sB, sC])
    refine tkQ 2 (.bool false) hHeld (he := by intro w hSw; (have q := H5.out; go_simp; (first | done | exact q | (simp [q]; done)))) (h := ?_)
    (try simp only [Act.put, sA, sB, sC])
    refine tkQ 3 (.bool false) hHeld (h := ?_)
    (try simp only [Act.put, sA, sB, sC])
    refine tkQ 4 (.pointer (some ⟨q, 0, none⟩)) hHeld (h := ?_)
    (try simp only [Act.put, sA, sB, sC])
    refine tkQ 5 (.pointer (some ⟨q, 0, none⟩)) hHeld (h := ?_)
    (try simp only [Act.put, sA, sB, sC])
    refine tkQ 6 (.pointer (some ⟨q, 24, none⟩)) hHeld (h := ?_)
    (try simp only [Act.put, sA, sB, sC])
    refine tkQ 7 (.int .i64 k.ak) hHeld (he := by intro w hSw; exact exec_cell 3 _ _ hSw.2.2.2.1 rfl rfl rfl Try.underlying3 rfl) (h := ?_)
    (try simp only [Act.put, sA, sB, sC])
    refine tkQ 8 (.pointer (some ⟨w.heap.size, 2, none⟩)) hHeld (h := ?_)
    (try simp only [Act.put, sA, sB, sC])
    refine tkQ 9 (.int .i64 p.sq) hHeld (he := by intro w hSw; exact exec_cell 3 _ _ hSw.2.1 rfl rfl rfl Try.underlying3 rfl) (h := ?_)
    (try simp only [Act.put, sA, sB, sC])
    refine wpAnyH_ready (rs := [10]) (by kernel_rfl) (by simp) ?_
    refine AllReadyH.cons (o := ?o6__10) ?h6__10 (fun K hK => ?_) AllReadyH.nil
    case h6__10 => (first | (simp only [gA, gB, gC]; done) | (simp only [gA, gB, gC]; exact rfl))
    (try go_simp)
    refine (newerV _ _ false _ H6.out).mono ?_
    rintro e w' ⟨rfl, rfl⟩
    (try go_wp2_with fail)
    refine hK.out _ _ hHeld (fun hHeld2 => ?_)
    clear hK K hHeld2
    (try simp only [Act.put, sA, sB, sC])
    refine tkQ 11 (.bool false) hHeld (h := ?_)
    (try simp only [Act.put, sA, sB, sC])
    refine wpAnyH_done (by kernel_rfl) ?_ _
    have HSd6 := Lib.hid hHeld.1
    have HBPd6 := Lib.hid (hHeld.2.1)
    have HBRd6 := Lib.hid (hHeld.2.2.1)
    have HBQd6 := Lib.hid (hHeld.2.2.2.1)
    have HFrd6 := Lib.hid (hHeld.2.2.2.2)
    clear hHeld HRK HKS HSd4 HBPd4 HBRd4 HBQd4 HFrd4
    go_upto_region 8 with fail
    refine wp_region_lit ?_
    refine tkL (.pointer (some ⟨q, 0, none⟩)) (h := ?_)
    (try simp only [Act.put, sA, sB, sC])
    refine tkL (.pointer (some ⟨q, 0, none⟩)) (h := ?_)
    (try simp only [Act.put, sA, sB, sC])
    refine tkL (.pointer (some ⟨q, 25, none⟩)) (h := ?_)
    (try simp only [Act.put, sA, sB, sC])
    refine wpList_wp (by rfl) (fun K hK => ?_)
    refine wp_st_cell 4 _ _ rfl #[.int .i64 k.c.ca, .int .i64 k.c.fl, .int .i64 k.c.ft, .int .i64 k.c.se, .int .i64 k.c.dr, .int .i64 k.c.dw, .int .i64 k.c.ho, .int .i64 k.c.re, .int .i64 k.c.yi, .int .i64 k.c.qu, .int .i64 k.c.qo, .int .i64 k.c.lo, .int .i64 k.c.sl, .int .i64 k.c.rt, .int .i64 k.c.cp, .int .i64 k.c.tr, .int .i64 k.c.de, .int .i64 k.c.wi, .int .i64 k.se, .int .i64 k.ep, .slice A ls.length c, .int .i64 k.sq, .int .i64 k.st, .int .i64 k.du, .int .i64 k.ak, .bool true, .int .i64 (mx2 k.he (cl now))] (.bool true) rfl rfl HBQd6.out (by show 25 < 27; decide) rfl (by first | rfl | simp [Value.oneCell']) (by kernel_rfl) ?_
    intro w52 hw
    refine hK.out _ _ ?_
    clear hK K
    (try simp only [Act.put, sA, sB, sC])
    have HS52 := Lib.hid (show Upd (q :: blkOf A) w w52 by rw [hw]; exact Upd.setRow HSd6.out (.inl (by simp)) _)
    have HBP52 := Lib.hid (show Blk w52 w.heap.size 38 #[.int .i64 p.se, .int .i64 p.ep, .int .i64 p.sq, .int .i64 p.ak, .bool p.ha, .int .i64 p.m.ki, .int .i64 p.m.a, .int .i64 p.m.b, .int .i64 p.m.c] by rw [hw]; exact Blk.row_far HBPd6.out (Ne.symm HNP.out) _)
    have HBR52 := Lib.hid (show Blk w52 bR 36 #[.int .i64 0, .int .i64 0, .int .i64 0, .int .i64 0] by rw [hw]; exact Blk.row_far HBRd6.out (Ne.symm HNR.out) _)
    have HBQ52 := Lib.hid (show Blk w52 q 88 #[.int .i64 k.c.ca, .int .i64 k.c.fl, .int .i64 k.c.ft, .int .i64 k.c.se, .int .i64 k.c.dr, .int .i64 k.c.dw, .int .i64 k.c.ho, .int .i64 k.c.re, .int .i64 k.c.yi, .int .i64 k.c.qu, .int .i64 k.c.qo, .int .i64 k.c.lo, .int .i64 k.c.sl, .int .i64 k.c.rt, .int .i64 k.c.cp, .int .i64 k.c.tr, .int .i64 k.c.de, .int .i64 k.c.wi, .int .i64 k.se, .int .i64 k.ep, .slice A ls.length c, .int .i64 k.sq, .int .i64 k.st, .int .i64 k.du, .int .i64 k.ak, .bool true, .int .i64 (mx2 k.he (cl now))] by rw [hw]; exact Blk.row HBQd6.out _)
    have HFr_52 := Lib.hid (show (w52).ownsRow lo 36 4 (.slice A ls.length c) ls.length (rowsOf msgC ls) by rw [hw]; exact own_row_far HFrd6.out HIQ.out _)
    clear hw HSd6 HBPd6 HBRd6 HBQd6 HFrd6
    refine wpList_nil ?_
    go_upto_region 9 with fail
    have HKS : Hid (KeepS (fun W : World => Upd (q :: blkOf A) w W ∧ Blk W w.heap.size 38 #[.int .i64 p.se, .int .i64 p.ep, .int .i64 p.sq, .int .i64 p.ak, .bool p.ha, .int .i64 p.m.ki, .int .i64 p.m.a, .int .i64 p.m.b, .int .i64 p.m.c] ∧ Blk W bR 36 #[.int .i64 0, .int .i64 0, .int .i64 0, .int .i64 0] ∧ Blk W q 88 #[.int .i64 k.c.ca, .int .i64 k.c.fl, .int .i64 k.c.ft, .int .i64 k.c.se, .int .i64 k.c.dr, .int .i64 k.c.dw, .int .i64 k.c.ho, .int .i64 k.c.re, .int .i64 k.c.yi, .int .i64 k.c.qu, .int .i64 k.c.qo, .int .i64 k.c.lo, .int .i64 k.c.sl, .int .i64 k.c.rt, .int .i64 k.c.cp, .int .i64 k.c.tr, .int .i64 k.c.de, .int .i64 k.c.wi, .int .i64 k.se, .int .i64 k.ep, .slice A ls.length c, .int .i64 k.sq, .int .i64 k.st, .int .i64 k.du, .int .i64 k.ak, .bool true, .int .i64 (mx2 k.he (cl now))] ∧ (W).ownsRow lo 36 4 (.slice A ls.length c) ls.length (rowsOf msgC ls)) w52) := Lib.hid ⟨fun W W' k ⟨h, h0, h1, h2, h3⟩ => ⟨h.trans k, keep_blk k h0, keep_blk k h1, keep_blk k h2, keep_own k h3⟩, ⟨HS52.out, HBP52.out, HBR52.out, HBQ52.out, HFr_52.out⟩⟩
    have HRK := Lib.hid HKS.out.1
    refine wp_held HKS.out (by kernel_rfl) (fun hHeld => ?_)
    refine tkQ 0 (.pointer (some ⟨w.heap.size, 2, none⟩)) hHeld (h := ?_)
    (try simp only [Act.put, sA, sB, sC])
    refine tkQ 1 (.int .i64 p.sq) hHeld (he := by intro w hSw; exact exec_cell 3 _ _ hSw.2.1 rfl rfl rfl Try.underlying3 rfl) (h := ?_)
    (try simp only [Act.put, sA, sB, sC])
    refine tkQ 2 (.pointer (some ⟨q, 0, none⟩)) hHeld (h := ?_)
    (try simp only [Act.put, sA, sB, sC])
    refine tkQ 3 (.pointer (some ⟨q, 0, none⟩)) hHeld (h := ?_)
    (try simp only [Act.put, sA, sB, sC])
    refine tkQ 4 (.pointer (some ⟨q, 24, none⟩)) hHeld (h := ?_)
    (try simp only [Act.put, sA, sB, sC])
    refine tkQ 5 (.int .i64 k.ak) hHeld (he := by intro w hSw; exact exec_cell 3 _ _ hSw.2.2.2.1 rfl rfl rfl Try.underlying3 rfl) (h := ?_)
    (try simp only [Act.put, sA, sB, sC])
    refine tkQ 6 (.bool false) hHeld (he := by intro w hSw; (have q0 := H7.out; go_simp; (first | done | rfl | omega))) (h := ?_)
    (try simp only [Act.put, sA, sB, sC])
    refine wpAnyH_done (by kernel_rfl) ?_ _
    have HSd9 := Lib.hid hHeld.1
    have HBPd9 := Lib.hid (hHeld.2.1)
    have HBRd9 := Lib.hid (hHeld.2.2.1)
    have HBQd9 := Lib.hid (hHeld.2.2.2.1)
    have HFrd9 := Lib.hid (hHeld.2.2.2.2)
    clear hHeld HRK HKS HS52 HBP52 HBR52 HBQ52 HFr_52
    go_upto_region 11 with fail
    refine wp_region_lit ?_
    refine tkL (.pointer (some ⟨q, 0, none⟩)) (h := ?_)
    (try simp only [Act.put, sA, sB, sC])
    refine tkL (.pointer (some ⟨q, 0, none⟩)) (h := ?_)
    (try simp only [Act.put, sA, sB, sC])
    refine tkL (.pointer (some ⟨q, 0, none⟩)) (h := ?_)
    (try simp only [Act.put, sA, sB, sC])
    refine tkL (.pointer (some ⟨q, 24, none⟩)) (h := ?_)
    (try simp only [Act.put, sA, sB, sC])
    refine wpList_q (by rfl) (.int .i64 k.ak) ?he ?_
    case he => exact exec_cell 3 _ _ HBQd9.out rfl rfl rfl Try.underlying3 rfl
    (try simp only [Act.put, sA, sB, sC])
    refine wpList_wp (by rfl) (fun K hK => ?_)
    (try go_simp)
    refine (Se.nextT _ _).mono ?_
    rintro e w' ⟨rfl, rfl⟩
    (try go_wp2_with fail)
    refine hK.out _ _ ?_
    clear hK K
    (try simp only [Act.put, sA, sB, sC])
    refine tkL (.pointer (some ⟨q, 0, none⟩)) (h := ?_)
    (try simp only [Act.put, sA, sB, sC])
    refine tkL (.pointer (some ⟨q, 24, none⟩)) (h := ?_)
    (try simp only [Act.put, sA, sB, sC])
    refine wpList_wp (by rfl) (fun K hK => ?_)
    refine wp_st_cell 3 _ _ rfl #[.int .i64 k.c.ca, .int .i64 k.c.fl, .int .i64 k.c.ft, .int .i64 k.c.se, .int .i64 k.c.dr, .int .i64 k.c.dw, .int .i64 k.c.ho, .int .i64 k.c.re, .int .i64 k.c.yi, .int .i64 k.c.qu, .int .i64 k.c.qo, .int .i64 k.c.lo, .int .i64 k.c.sl, .int .i64 k.c.rt, .int .i64 k.c.cp, .int .i64 k.c.tr, .int .i64 k.c.de, .int .i64 k.c.wi, .int .i64 k.se, .int .i64 k.ep, .slice A ls.length c, .int .i64 k.sq, .int .i64 k.st, .int .i64 k.du, .int .i64 (Se.nx k.ak), .bool true, .int .i64 (mx2 k.he (cl now))] (.int .i64 (Se.nx k.ak)) rfl rfl HBQd9.out (by show 24 < 27; decide) rfl (by first | rfl | simp [Value.oneCell']) (by kernel_rfl) ?_
    intro w53 hw
    refine hK.out _ _ ?_
    clear hK K
    (try simp only [Act.put, sA, sB, sC])
    have HS53 := Lib.hid (show Upd (q :: blkOf A) w w53 by rw [hw]; exact Upd.setRow HSd9.out (.inl (by simp)) _)
    have HBP53 := Lib.hid (show Blk w53 w.heap.size 38 #[.int .i64 p.se, .int .i64 p.ep, .int .i64 p.sq, .int .i64 p.ak, .bool p.ha, .int .i64 p.m.ki, .int .i64 p.m.a, .int .i64 p.m.b, .int .i64 p.m.c] by rw [hw]; exact Blk.row_far HBPd9.out (Ne.symm HNP.out) _)
    have HBR53 := Lib.hid (show Blk w53 bR 36 #[.int .i64 0, .int .i64 0, .int .i64 0, .int .i64 0] by rw [hw]; exact Blk.row_far HBRd9.out (Ne.symm HNR.out) _)
    have HBQ53 := Lib.hid (show Blk w53 q 88 #[.int .i64 k.c.ca, .int .i64 k.c.fl, .int .i64 k.c.ft, .int .i64 k.c.se, .int .i64 k.c.dr, .int .i64 k.c.dw, .int .i64 k.c.ho, .int .i64 k.c.re, .int .i64 k.c.yi, .int .i64 k.c.qu, .int .i64 k.c.qo, .int .i64 k.c.lo, .int .i64 k.c.sl, .int .i64 k.c.rt, .int .i64 k.c.cp, .int .i64 k.c.tr, .int .i64 k.c.de, .int .i64 k.c.wi, .int .i64 k.se, .int .i64 k.ep, .slice A ls.length c, .int .i64 k.sq, .int .i64 k.st, .int .i64 k.du, .int .i64 (Se.nx k.ak), .bool true, .int .i64 (mx2 k.he (cl now))] by rw [hw]; exact Blk.row HBQd9.out _)
    have HFr_53 := Lib.hid (show (w53).ownsRow lo 36 4 (.slice A ls.length c) ls.length (rowsOf msgC ls) by rw [hw]; exact own_row_far HFrd9.out HIQ.out _)
    clear hw HSd9 HBPd9 HBRd9 HBQd9 HFrd9
    refine wpList_nil ?_
    go_upto_region 12 with fail
    refine wp_region_lit ?_
    refine tkL (.pointer (some ⟨w.heap.size, 5, none⟩)) (h := ?_)
    (try simp only [Act.put, sA, sB, sC])
    refine wpList_q (by rfl) (.agg #[.int .i64 p.m.ki, .int .i64 p.m.a, .int .i64 p.m.b, .int .i64 p.m.c]) ?he ?_
    case he => exact exec_part (n := 4) 36 _ _ HBP53.out rfl rfl rfl rfl Try.underlying36 rfl (by kernel_rfl)
    (try simp only [Act.put, sA, sB, sC])
    refine wpList_wp (by rfl) (fun K hK => ?_)
    refine wp_st_row 36 _ _ rfl #[.int .i64 p.m.ki, .int .i64 p.m.a, .int .i64 p.m.b, .int .i64 p.m.c] rfl rfl (HasRow.of HBR53.out rfl) rfl (by simp [Value.oneCell']) (by kernel_rfl) ?_
    intro w54 hw
    refine hK.out _ _ ?_
    clear hK K
    (try simp only [Act.put, sA, sB, sC])
    have HS54 := Lib.hid (show Upd (q :: blkOf A) w w54 by rw [hw]; exact Upd.setRow HS53.out (Or.inr (by have := HNE3.out; omega)) _)
    have HBP54 := Lib.hid (show Blk w54 w.heap.size 38 #[.int .i64 p.se, .int .i64 p.ep, .int .i64 p.sq, .int .i64 p.ak, .bool p.ha, .int .i64 p.m.ki, .int .i64 p.m.a, .int .i64 p.m.b, .int .i64 p.m.c] by rw [hw]; exact Blk.row_far HBP53.out (by have := HNE3.out; omega) _)
    have HBR54 := Lib.hid (show Blk w54 bR 36 #[.int .i64 p.m.ki, .int .i64 p.m.a, .int .i64 p.m.b, .int .i64 p.m.c] by rw [hw]; exact Blk.row HBR53.out _)
    have HBQ54 := Lib.hid (show Blk w54 q 88 #[.int .i64 k.c.ca, .int .i64 k.c.fl, .int .i64 k.c.ft, .int .i64 k.c.se, .int .i64 k.c.dr, .int .i64 k.c.dw, .int .i64 k.c.ho, .int .i64 k.c.re, .int .i64 k.c.yi, .int .i64 k.c.qu, .int .i64 k.c.qo, .int .i64 k.c.lo, .int .i64 k.c.sl, .int .i64 k.c.rt, .int .i64 k.c.cp, .int .i64 k.c.tr, .int .i64 k.c.de, .int .i64 k.c.wi, .int .i64 k.se, .int .i64 k.ep, .slice A ls.length c, .int .i64 k.sq, .int .i64 k.st, .int .i64 k.du, .int .i64 (Se.nx k.ak), .bool true, .int .i64 (mx2 k.he (cl now))] by rw [hw]; exact Blk.row_far HBQ53.out HNR.out _)
    have HFr_54 := Lib.hid (show (w54).ownsRow lo 36 4 (.slice A ls.length c) ls.length (rowsOf msgC ls) by rw [hw]; exact own_row_far HFr_53.out HIR.out _)
    clear hw HS53 HBP53 HBR53 HBQ53 HFr_53
    refine tkL (.bool true) (h := ?_)
    (try simp only [Act.put, sA, sB, sC])
    refine wpList_nil ?_
    (try go_wp2_with fail)
    exact bodyPost_ret (results_row2 rfl _ _ bR 36 #[.int .i64 p.m.ki, .int .i64 p.m.a, .int .i64 p.m.b, .int .i64 p.m.c] _ (.bool true) rfl rfl HBR54.out Try.underlying36 rfl (by kernel_rfl)) rfl ⟨rfl, ⟨H0.out, A, c, rfl, HBQ54.out, HFr_54.out⟩, HS54.out⟩
set_option maxHeartbeats 4000000 in
theorem recv_y_nohas (lo q : Nat) (k : LkV) (ls : List MsgV) (g m c : Nat) (p : PkV) (now : Int) (w : World) (hb : Blk w q 88 (lkC k (.slice (some ⟨g, 0, none⟩) ls.length c))) (ho : w.ownsRow lo 36 4 (.slice (some ⟨g, 0, none⟩) ls.length c) ls.length (rowsOf msgC ls)) (hl : ls.length ≤ 10000) (h1 : p.se = k.se) (h2 : p.ep = k.ep) (h0 : lo ≤ q) (h3 : ls.length = m + 1) (h4 : p.ak = Se.nx k.sq) (hc : m + 1 ≤ c) (h5 : p.ha = false) : Calls Try.prog 16 #[.pointer (some ⟨q, 0, none⟩), .agg #[.int .i64 p.se, .int .i64 p.ep, .int .i64 p.sq, .int .i64 p.ak, .bool p.ha, .int .i64 p.m.ki, .int .i64 p.m.a, .int .i64 p.m.b, .int .i64 p.m.c], .int .i64 now] w fun e w' => e = .returned (.tuple #[.agg #[.int .i64 0, .int .i64 0, .int .i64 0, .int .i64 0], .bool false]) ∧ LO lo q { k with he := mx2 k.he (cl now), sq := Se.nx k.sq, st := 0, du := 0 } ls.tail [q, g] w' ∧ Upd [q, g] w w' := by
  have HBQ := Lib.hid (show Blk w q 88 #[.int .i64 k.c.ca, .int .i64 k.c.fl, .int .i64 k.c.ft, .int .i64 k.c.se, .int .i64 k.c.dr, .int .i64 k.c.dw, .int .i64 k.c.ho, .int .i64 k.c.re, .int .i64 k.c.yi, .int .i64 k.c.qu, .int .i64 k.c.qo, .int .i64 k.c.lo, .int .i64 k.c.sl, .int .i64 k.c.rt, .int .i64 k.c.cp, .int .i64 k.c.tr, .int .i64 k.c.de, .int .i64 k.c.wi, .int .i64 k.se, .int .i64 k.ep, .slice (some ⟨g, 0, none⟩) ls.length c, .int .i64 k.sq, .int .i64 k.st, .int .i64 k.du, .int .i64 k.ak, .bool k.an, .int .i64 k.he] from hb)
  clear hb
  have HOW := Lib.hid ho
  clear ho
  have HL := Lib.hid hl
  clear hl
  have H1 := Lib.hid h1
  clear h1
  have H2 := Lib.hid h2
  clear h2
  have H0 := Lib.hid h0
  clear h0
  have H3 := Lib.hid h3
  clear h3
  have H4 := Lib.hid h4
  clear h4
  have HC := Lib.hid hc
  clear hc
  have H5 := Lib.hid h5
  clear h5
  go_enter Try.func16, Try.ntmps16
  go_upto_region 1 with fail
  obtain ⟨w1, hw1⟩ : ∃ w1, w1 = ((w.alloc (.cells #[.int .i64 p.se, .int .i64 p.ep, .int .i64 p.sq, .int .i64 p.ak, .bool p.ha, .int .i64 p.m.ki, .int .i64 p.m.a, .int .i64 p.m.b, .int .i64 p.m.c] 38)).alloc (.cells #[.int .i64 0, .int .i64 0, .int .i64 0, .int .i64 0] 36)) := ⟨_, rfl⟩
  rw [← hw1]
  have HBP1 := Lib.hid (show Blk w1 (w.heap.size) 38 #[.int .i64 p.se, .int .i64 p.ep, .int .i64 p.sq, .int .i64 p.ak, .bool p.ha, .int .i64 p.m.ki, .int .i64 p.m.a, .int .i64 p.m.b, .int .i64 p.m.c] by rw [hw1]; exact Blk.alloc (Blk.at_ (by (try simp only [size_alloc])) _ _) _)
  have HBR1 := Lib.hid (show Blk w1 (w.heap.size + 1) 36 #[.int .i64 0, .int .i64 0, .int .i64 0, .int .i64 0] by rw [hw1]; exact Blk.at_ (by (try simp only [size_alloc])) _ _)
  have HS1 := Lib.hid (show Since w w1 by rw [hw1]; exact Since.alloc (Since.alloc (Since.refl w) _) _)
  have hNE : w.heap.size ≤ w.heap.size ∧ w.heap.size < w.heap.size + 1 := by omega
  have HNE := Lib.hid hNE
  clear hNE hw1
  generalize w.heap.size + 1 = bR at *
  have HNE3 := Lib.hid (show w.heap.size ≤ w.heap.size ∧ w.heap.size < bR from HNE.out)
  clear HNE
  have HBQ1 := Lib.hid (keep_blk HS1.out HBQ.out)
  have HOW1 := Lib.hid (keep_own HS1.out HOW.out)
  have HIQ := Lib.hid (own_ne_ty HOW.out HBQ.out (by decide))
  have HLO := Lib.hid (show q < w.heap.size from Blk.lt HBQ.out)
  have HIP := Lib.hid (own_far HOW.out (show w.heap.size ≤ w.heap.size by have := HNE3.out; omega))
  have HNP := Lib.hid (show q ≠ w.heap.size by have := HLO.out; have := HNE3.out; omega)
  have HIR := Lib.hid (own_far HOW.out (show w.heap.size ≤ bR by have := HNE3.out; omega))
  have HNR := Lib.hid (show q ≠ bR by have := HLO.out; have := HNE3.out; omega)
  clear HBQ HOW
  have HKS : Hid (KeepS (fun W : World => Since w W ∧ Blk W w.heap.size 38 #[.int .i64 p.se, .int .i64 p.ep, .int .i64 p.sq, .int .i64 p.ak, .bool p.ha, .int .i64 p.m.ki, .int .i64 p.m.a, .int .i64 p.m.b, .int .i64 p.m.c] ∧ Blk W bR 36 #[.int .i64 0, .int .i64 0, .int .i64 0, .int .i64 0] ∧ Blk W q 88 #[.int .i64 k.c.ca, .int .i64 k.c.fl, .int .i64 k.c.ft, .int .i64 k.c.se, .int .i64 k.c.dr, .int .i64 k.c.dw, .int .i64 k.c.ho, .int .i64 k.c.re, .int .i64 k.c.yi, .int .i64 k.c.qu, .int .i64 k.c.qo, .int .i64 k.c.lo, .int .i64 k.c.sl, .int .i64 k.c.rt, .int .i64 k.c.cp, .int .i64 k.c.tr, .int .i64 k.c.de, .int .i64 k.c.wi, .int .i64 k.se, .int .i64 k.ep, .slice (some ⟨g, 0, none⟩) ls.length c, .int .i64 k.sq, .int .i64 k.st, .int .i64 k.du, .int .i64 k.ak, .bool k.an, .int .i64 k.he] ∧ (W).ownsRow lo 36 4 (.slice (some ⟨g, 0, none⟩) ls.length c) ls.length (rowsOf msgC ls)) w1) := Lib.hid ⟨fun W W' k ⟨h, h0, h1, h2, h3⟩ => ⟨h.trans k, keep_blk k h0, keep_blk k h1, keep_blk k h2, keep_own k h3⟩, ⟨HS1.out, HBP1.out, HBR1.out, HBQ1.out, HOW1.out⟩⟩
  have HRK := Lib.hid HKS.out.1
  refine wp_held HKS.out (by kernel_rfl) (fun hHeld => ?_)
  refine tkQ 0 (.pointer (some ⟨q, 0, none⟩)) hHeld (h := ?_)
  (try simp only [Act.put, sA, sB, sC])
  refine tkQ 1 (.bool false) hHeld (h := ?_)
  (try simp only [Act.put, sA, sB, sC])
  refine tkQ 2 (.bool false) hHeld (h := ?_)
  (try simp only [Act.put, sA, sB, sC])
  refine tkQ 3 (.pointer (some ⟨w.heap.size, 0, none⟩)) hHeld (h := ?_)
  (try simp only [Act.put, sA, sB, sC])
  refine tkQ 4 (.int .i64 p.se) hHeld (he := by intro w hSw; exact exec_cell 3 _ _ hSw.2.1 rfl rfl rfl Try.underlying3 rfl) (h := ?_)
  (try simp only [Act.put, sA, sB, sC])
  refine tkQ 5 (.pointer (some ⟨q, 0, none⟩)) hHeld (h := ?_)
  (try simp only [Act.put, sA, sB, sC])
  refine tkQ 6 (.pointer (some ⟨q, 0, none⟩)) hHeld (h := ?_)
  (try simp only [Act.put, sA, sB, sC])
  refine tkQ 7 (.pointer (some ⟨q, 18, none⟩)) hHeld (h := ?_)
  (try simp only [Act.put, sA, sB, sC])
  refine tkQ 8 (.int .i64 k.se) hHeld (he := by intro w hSw; exact exec_cell 3 _ _ hSw.2.2.2.1 rfl rfl rfl Try.underlying3 rfl) (h := ?_)
  (try simp only [Act.put, sA, sB, sC])
  refine tkQ 9 (.bool false) hHeld (he := by intro w hSw; (have q0 := H1.out; go_simp; (first | done | rfl | omega))) (h := ?_)
  (try simp only [Act.put, sA, sB, sC])
  refine tkQ 10 (.bool false) hHeld (h := ?_)
  (try simp only [Act.put, sA, sB, sC])
  refine tkQ 11 (.bool false) hHeld (h := ?_)
  (try simp only [Act.put, sA, sB, sC])
  refine tkQ 12 (.pointer (some ⟨w.heap.size, 1, none⟩)) hHeld (h := ?_)
  (try simp only [Act.put, sA, sB, sC])
  refine tkQ 13 (.int .i64 p.ep) hHeld (he := by intro w hSw; exact exec_cell 3 _ _ hSw.2.1 rfl rfl rfl Try.underlying3 rfl) (h := ?_)
  (try simp only [Act.put, sA, sB, sC])
  refine tkQ 14 (.pointer (some ⟨q, 0, none⟩)) hHeld (h := ?_)
  (try simp only [Act.put, sA, sB, sC])
  refine tkQ 15 (.pointer (some ⟨q, 0, none⟩)) hHeld (h := ?_)
  (try simp only [Act.put, sA, sB, sC])
  refine tkQ 16 (.pointer (some ⟨q, 19, none⟩)) hHeld (h := ?_)
  (try simp only [Act.put, sA, sB, sC])
  refine tkQ 17 (.int .i64 k.ep) hHeld (he := by intro w hSw; exact exec_cell 3 _ _ hSw.2.2.2.1 rfl rfl rfl Try.underlying3 rfl) (h := ?_)
  (try simp only [Act.put, sA, sB, sC])
  refine tkQ 18 (.bool false) hHeld (he := by intro w hSw; (have q0 := H2.out; go_simp; (first | done | rfl | omega))) (h := ?_)
  (try simp only [Act.put, sA, sB, sC])
  refine tkQ 19 (.bool false) hHeld (h := ?_)
  (try simp only [Act.put, sA, sB, sC])
  refine wpAnyH_done (by kernel_rfl) ?_ _
  have HSd1 := Lib.hid hHeld.1
  have HBPd1 := Lib.hid (hHeld.2.1)
  have HBRd1 := Lib.hid (hHeld.2.2.1)
  have HBQd1 := Lib.hid (hHeld.2.2.2.1)
  have HFrd1 := Lib.hid (hHeld.2.2.2.2)
  clear hHeld HRK HKS HS1 HBP1 HBR1 HBQ1 HOW1
  have HSU := Lib.hid (show Upd [q, g] w w1.drew from Upd.of_since HSd1.out)
  clear HSd1
  go_upto_region 3 with fail
  go_cut [] (fun  wx => Hid (Upd [q, g] w wx ∧ Blk wx w.heap.size 38 #[.int .i64 p.se, .int .i64 p.ep, .int .i64 p.sq, .int .i64 p.ak, .bool p.ha, .int .i64 p.m.ki, .int .i64 p.m.a, .int .i64 p.m.b, .int .i64 p.m.c] ∧ Blk wx bR 36 #[.int .i64 0, .int .i64 0, .int .i64 0, .int .i64 0] ∧ Blk wx q 88 #[.int .i64 k.c.ca, .int .i64 k.c.fl, .int .i64 k.c.ft, .int .i64 k.c.se, .int .i64 k.c.dr, .int .i64 k.c.dw, .int .i64 k.c.ho, .int .i64 k.c.re, .int .i64 k.c.yi, .int .i64 k.c.qu, .int .i64 k.c.qo, .int .i64 k.c.lo, .int .i64 k.c.sl, .int .i64 k.c.rt, .int .i64 k.c.cp, .int .i64 k.c.tr, .int .i64 k.c.de, .int .i64 k.c.wi, .int .i64 k.se, .int .i64 k.ep, .slice (some ⟨g, 0, none⟩) ls.length c, .int .i64 k.sq, .int .i64 k.st, .int .i64 k.du, .int .i64 k.ak, .bool k.an, .int .i64 (mx2 k.he (cl now))] ∧ (wx).ownsRow lo 36 4 (.slice (some ⟨g, 0, none⟩) ls.length c) ls.length (rowsOf msgC ls)))
  case first =>
    have HKS : Hid (KeepS (fun W : World => Upd [q, g] w W ∧ Blk W w.heap.size 38 #[.int .i64 p.se, .int .i64 p.ep, .int .i64 p.sq, .int .i64 p.ak, .bool p.ha, .int .i64 p.m.ki, .int .i64 p.m.a, .int .i64 p.m.b, .int .i64 p.m.c] ∧ Blk W bR 36 #[.int .i64 0, .int .i64 0, .int .i64 0, .int .i64 0] ∧ HasRow W q 88 27 ∧ (W).ownsRow lo 36 4 (.slice (some ⟨g, 0, none⟩) ls.length c) ls.length (rowsOf msgC ls)) w1.drew) := Lib.hid ⟨fun W W' k ⟨h, h0, h1, h2, h3⟩ => ⟨h.trans k, keep_blk k h0, keep_blk k h1, HasRow.keep k h2, keep_own k h3⟩, ⟨HSU.out, HBPd1.out, HBRd1.out, HasRow.of HBQd1.out rfl, HFrd1.out⟩⟩
    have HRK := Lib.hid HKS.out.1
    have HPQ := Lib.hid (show Blk (World.drew w1.drew) q 88 #[.int .i64 k.c.ca, .int .i64 k.c.fl, .int .i64 k.c.ft, .int .i64 k.c.se, .int .i64 k.c.dr, .int .i64 k.c.dw, .int .i64 k.c.ho, .int .i64 k.c.re, .int .i64 k.c.yi, .int .i64 k.c.qu, .int .i64 k.c.qo, .int .i64 k.c.lo, .int .i64 k.c.sl, .int .i64 k.c.rt, .int .i64 k.c.cp, .int .i64 k.c.tr, .int .i64 k.c.de, .int .i64 k.c.wi, .int .i64 k.se, .int .i64 k.ep, .slice (some ⟨g, 0, none⟩) ls.length c, .int .i64 k.sq, .int .i64 k.st, .int .i64 k.du, .int .i64 k.ak, .bool k.an, .int .i64 k.he] from HBQd1.out)
    refine wp_held HKS.out (by kernel_rfl) (fun hHeld => ?_)
    refine tkQ 0 (.pointer (some ⟨q, 0, none⟩)) hHeld (h := ?_)
    (try simp only [Act.put, sA, sB, sC])
    refine tkQ 1 (.pointer (some ⟨q, 0, none⟩)) hHeld (h := ?_)
    (try simp only [Act.put, sA, sB, sC])
    refine tkQ 2 (.pointer (some ⟨q, 0, none⟩)) hHeld (h := ?_)
    (try simp only [Act.put, sA, sB, sC])
    refine tkQ 3 (.pointer (some ⟨q, 26, none⟩)) hHeld (h := ?_)
    (try simp only [Act.put, sA, sB, sC])
    refine tkQ 5 (.int .i64 now) hHeld (h := ?_)
    (try simp only [Act.put, sA, sB, sC])
    refine wpAnyH_ready (rs := [4, 6]) (by kernel_rfl) (by simp) ?_
    refine AllReadyH.cons (o := ?o3__4b) ?h3__4b (fun K hK => ?g3__4b) (AllReadyH.cons (o := ?o3__6b) ?h3__6b (fun K hK => ?g3__6b) AllReadyH.nil)
    case h3__4b => (first | (simp only [gA, gB, gC]; done) | (simp only [gA, gB, gC]; exact rfl))
    case h3__6b => (first | (simp only [gA, gB, gC]; done) | (simp only [gA, gB, gC]; exact rfl))
    case g3__4b =>
      rw [if_pos (by rfl)]
      refine wp_q (.int .i64 k.he) ?e3_b4_4 ?_
      case e3_b4_4 => exact exec_cell 3 _ _ HPQ.out rfl rfl rfl Try.underlying3 rfl
      refine hK.out _ _ hHeld (fun hHeld2 => ?_)
      clear hK K hHeld2
      (try simp only [Act.put, sA, sB, sC])
      refine wpAnyH_ready (rs := [6]) (by kernel_rfl) (by simp) ?_
      refine AllReadyH.cons (o := ?o3_b4_6) ?h3_b4_6 (fun K hK => ?_) AllReadyH.nil
      case h3_b4_6 => (first | (simp only [gA, gB, gC]; done) | (simp only [gA, gB, gC]; exact rfl))
      (try go_simp)
      refine (clT _ _).mono ?_
      rintro e w' ⟨rfl, rfl⟩
      (try go_wp2_with fail)
      refine hK.out _ _ hHeld (fun hHeld2 => ?_)
      clear hK K hHeld2
      (try simp only [Act.put, sA, sB, sC])
      refine tkQ 7 (.int .i64 (mx2 k.he (cl now))) hHeld (he := by intro w hSw; (unfold mx2; go_simp; (first | done | rfl))) (h := ?_)
      (try simp only [Act.put, sA, sB, sC])
      refine tkQ 8 (.pointer (some ⟨q, 0, none⟩)) hHeld (h := ?_)
      (try simp only [Act.put, sA, sB, sC])
      refine tkQ 9 (.pointer (some ⟨q, 26, none⟩)) hHeld (h := ?_)
      (try simp only [Act.put, sA, sB, sC])
      refine wpAnyH_ready (rs := [10]) (by kernel_rfl) (by simp) ?_
      refine AllReadyH.cons (o := ?o3_b4_10) ?h3_b4_10 (fun K hK => ?_) AllReadyH.nil
      case h3_b4_10 => (first | (simp only [gA, gB, gC]; done) | (simp only [gA, gB, gC]; exact rfl))
      rw [if_pos (by rfl)]
      refine wp_st_cell 3 _ _ rfl #[.int .i64 k.c.ca, .int .i64 k.c.fl, .int .i64 k.c.ft, .int .i64 k.c.se, .int .i64 k.c.dr, .int .i64 k.c.dw, .int .i64 k.c.ho, .int .i64 k.c.re, .int .i64 k.c.yi, .int .i64 k.c.qu, .int .i64 k.c.qo, .int .i64 k.c.lo, .int .i64 k.c.sl, .int .i64 k.c.rt, .int .i64 k.c.cp, .int .i64 k.c.tr, .int .i64 k.c.de, .int .i64 k.c.wi, .int .i64 k.se, .int .i64 k.ep, .slice (some ⟨g, 0, none⟩) ls.length c, .int .i64 k.sq, .int .i64 k.st, .int .i64 k.du, .int .i64 k.ak, .bool k.an, .int .i64 (mx2 k.he (cl now))] (.int .i64 (mx2 k.he (cl now))) rfl rfl HPQ.out (by show 26 < 27; decide) rfl (by first | rfl | simp [Value.oneCell']) (by kernel_rfl) ?_
      clear HPQ
      intro w2 hw
      have HRQ := Lib.hid (show Blk w2 q 88 #[.int .i64 k.c.ca, .int .i64 k.c.fl, .int .i64 k.c.ft, .int .i64 k.c.se, .int .i64 k.c.dr, .int .i64 k.c.dw, .int .i64 k.c.ho, .int .i64 k.c.re, .int .i64 k.c.yi, .int .i64 k.c.qu, .int .i64 k.c.qo, .int .i64 k.c.lo, .int .i64 k.c.sl, .int .i64 k.c.rt, .int .i64 k.c.cp, .int .i64 k.c.tr, .int .i64 k.c.de, .int .i64 k.c.wi, .int .i64 k.se, .int .i64 k.ep, .slice (some ⟨g, 0, none⟩) ls.length c, .int .i64 k.sq, .int .i64 k.st, .int .i64 k.du, .int .i64 k.ak, .bool k.an, .int .i64 (mx2 k.he (cl now))] by obtain ⟨old, Bo, _⟩ := hHeld.2.2.2.1; rw [hw]; exact Blk.row Bo _)
      have hHeld3 := HKS.out.at_ w2 ⟨by rw [hw]; exact Upd.setRow hHeld.1 (.inl (by simp)) _, by rw [hw]; exact Blk.row_far (hHeld.2.1) (Ne.symm HNP.out) _, by rw [hw]; exact Blk.row_far (hHeld.2.2.1) (Ne.symm HNR.out) _, HasRow.of HRQ.out rfl, by rw [hw]; exact own_row_far (hHeld.2.2.2.2) HIQ.out _⟩
      refine hK.out _ _ hHeld3 (fun hHeld2 => ?_)
      clear hK K hHeld hHeld3 hw
      have hHeld := hHeld2
      clear hHeld2
      (try simp only [Act.put, sA, sB, sC])
      refine wpAnyH_done (by kernel_rfl) ?_ _
      have HSd3 := Lib.hid hHeld.1
      have HBPd3 := Lib.hid (hHeld.2.1)
      have HBRd3 := Lib.hid (hHeld.2.2.1)
      have HBQd3 := Lib.hid HRQ.out
      clear HRQ
      have HFrd3 := Lib.hid (hHeld.2.2.2.2)
      clear hHeld HRK HKS HSU HBPd1 HBRd1 HBQd1 HFrd1
      go_wp2_with fail
      go_meet
      case rel => exact Lib.hid ⟨HSd3.out, HBPd3.out, HBRd3.out, HBQd3.out, HFrd3.out⟩
    case g3__6b =>
      (try go_simp)
      refine (clT _ _).mono ?_
      rintro e w' ⟨rfl, rfl⟩
      (try go_wp2_with fail)
      refine hK.out _ _ hHeld (fun hHeld2 => ?_)
      clear hK K hHeld2
      (try simp only [Act.put, sA, sB, sC])
      refine wpAnyH_ready (rs := [4]) (by kernel_rfl) (by simp) ?_
      refine AllReadyH.cons (o := ?o3_b6_4) ?h3_b6_4 (fun K hK => ?_) AllReadyH.nil
      case h3_b6_4 => (first | (simp only [gA, gB, gC]; done) | (simp only [gA, gB, gC]; exact rfl))
      rw [if_pos (by rfl)]
      refine wp_q (.int .i64 k.he) ?e3_b6_4 ?_
      case e3_b6_4 => exact exec_cell 3 _ _ HPQ.out rfl rfl rfl Try.underlying3 rfl
      refine hK.out _ _ hHeld (fun hHeld2 => ?_)
      clear hK K hHeld2
      (try simp only [Act.put, sA, sB, sC])
      refine tkQ 7 (.int .i64 (mx2 k.he (cl now))) hHeld (he := by intro w hSw; (unfold mx2; go_simp; (first | done | rfl))) (h := ?_)
      (try simp only [Act.put, sA, sB, sC])
      refine tkQ 8 (.pointer (some ⟨q, 0, none⟩)) hHeld (h := ?_)
      (try simp only [Act.put, sA, sB, sC])
      refine tkQ 9 (.pointer (some ⟨q, 26, none⟩)) hHeld (h := ?_)
      (try simp only [Act.put, sA, sB, sC])
      refine wpAnyH_ready (rs := [10]) (by kernel_rfl) (by simp) ?_
      refine AllReadyH.cons (o := ?o3_b6_10) ?h3_b6_10 (fun K hK => ?_) AllReadyH.nil
      case h3_b6_10 => (first | (simp only [gA, gB, gC]; done) | (simp only [gA, gB, gC]; exact rfl))
      rw [if_pos (by rfl)]
      refine wp_st_cell 3 _ _ rfl #[.int .i64 k.c.ca, .int .i64 k.c.fl, .int .i64 k.c.ft, .int .i64 k.c.se, .int .i64 k.c.dr, .int .i64 k.c.dw, .int .i64 k.c.ho, .int .i64 k.c.re, .int .i64 k.c.yi, .int .i64 k.c.qu, .int .i64 k.c.qo, .int .i64 k.c.lo, .int .i64 k.c.sl, .int .i64 k.c.rt, .int .i64 k.c.cp, .int .i64 k.c.tr, .int .i64 k.c.de, .int .i64 k.c.wi, .int .i64 k.se, .int .i64 k.ep, .slice (some ⟨g, 0, none⟩) ls.length c, .int .i64 k.sq, .int .i64 k.st, .int .i64 k.du, .int .i64 k.ak, .bool k.an, .int .i64 (mx2 k.he (cl now))] (.int .i64 (mx2 k.he (cl now))) rfl rfl HPQ.out (by show 26 < 27; decide) rfl (by first | rfl | simp [Value.oneCell']) (by kernel_rfl) ?_
      clear HPQ
      intro w2 hw
      have HRQ := Lib.hid (show Blk w2 q 88 #[.int .i64 k.c.ca, .int .i64 k.c.fl, .int .i64 k.c.ft, .int .i64 k.c.se, .int .i64 k.c.dr, .int .i64 k.c.dw, .int .i64 k.c.ho, .int .i64 k.c.re, .int .i64 k.c.yi, .int .i64 k.c.qu, .int .i64 k.c.qo, .int .i64 k.c.lo, .int .i64 k.c.sl, .int .i64 k.c.rt, .int .i64 k.c.cp, .int .i64 k.c.tr, .int .i64 k.c.de, .int .i64 k.c.wi, .int .i64 k.se, .int .i64 k.ep, .slice (some ⟨g, 0, none⟩) ls.length c, .int .i64 k.sq, .int .i64 k.st, .int .i64 k.du, .int .i64 k.ak, .bool k.an, .int .i64 (mx2 k.he (cl now))] by obtain ⟨old, Bo, _⟩ := hHeld.2.2.2.1; rw [hw]; exact Blk.row Bo _)
      have hHeld3 := HKS.out.at_ w2 ⟨by rw [hw]; exact Upd.setRow hHeld.1 (.inl (by simp)) _, by rw [hw]; exact Blk.row_far (hHeld.2.1) (Ne.symm HNP.out) _, by rw [hw]; exact Blk.row_far (hHeld.2.2.1) (Ne.symm HNR.out) _, HasRow.of HRQ.out rfl, by rw [hw]; exact own_row_far (hHeld.2.2.2.2) HIQ.out _⟩
      refine hK.out _ _ hHeld3 (fun hHeld2 => ?_)
      clear hK K hHeld hHeld3 hw
      have hHeld := hHeld2
      clear hHeld2
      (try simp only [Act.put, sA, sB, sC])
      refine wpAnyH_done (by kernel_rfl) ?_ _
      have HSd3v2 := Lib.hid hHeld.1
      have HBPd3v2 := Lib.hid (hHeld.2.1)
      have HBRd3v2 := Lib.hid (hHeld.2.2.1)
      have HBQd3v2 := Lib.hid HRQ.out
      clear HRQ
      have HFrd3v2 := Lib.hid (hHeld.2.2.2.2)
      clear hHeld HRK HKS HSU HBPd1 HBRd1 HBQd1 HFrd1
      go_wp2_with fail
      go_meet
      case rel => exact Lib.hid ⟨HSd3v2.out, HBPd3v2.out, HBRd3v2.out, HBQd3v2.out, HFrd3v2.out⟩
  case rest =>
    clear HSU HBPd1 HBRd1 HBQd1 HFrd1
    obtain ⟨g0, g1, g2, g3, g4⟩ := hcut.out
    clear hcut
    have HS51 := Lib.hid g0
    have HBP51 := Lib.hid g1
    have HBR51 := Lib.hid g2
    have HBQ51 := Lib.hid g3
    have HFr51 := Lib.hid g4
    clear g0 g1 g2 g3 g4
    go_upto_region 4 with fail
    have HKS : Hid (KeepS (fun W : World => Upd [q, g] w W ∧ Blk W w.heap.size 38 #[.int .i64 p.se, .int .i64 p.ep, .int .i64 p.sq, .int .i64 p.ak, .bool p.ha, .int .i64 p.m.ki, .int .i64 p.m.a, .int .i64 p.m.b, .int .i64 p.m.c] ∧ Blk W bR 36 #[.int .i64 0, .int .i64 0, .int .i64 0, .int .i64 0] ∧ Blk W q 88 #[.int .i64 k.c.ca, .int .i64 k.c.fl, .int .i64 k.c.ft, .int .i64 k.c.se, .int .i64 k.c.dr, .int .i64 k.c.dw, .int .i64 k.c.ho, .int .i64 k.c.re, .int .i64 k.c.yi, .int .i64 k.c.qu, .int .i64 k.c.qo, .int .i64 k.c.lo, .int .i64 k.c.sl, .int .i64 k.c.rt, .int .i64 k.c.cp, .int .i64 k.c.tr, .int .i64 k.c.de, .int .i64 k.c.wi, .int .i64 k.se, .int .i64 k.ep, .slice (some ⟨g, 0, none⟩) ls.length c, .int .i64 k.sq, .int .i64 k.st, .int .i64 k.du, .int .i64 k.ak, .bool k.an, .int .i64 (mx2 k.he (cl now))] ∧ (W).ownsRow lo 36 4 (.slice (some ⟨g, 0, none⟩) ls.length c) ls.length (rowsOf msgC ls)) wc) := Lib.hid ⟨fun W W' k ⟨h, h0, h1, h2, h3⟩ => ⟨h.trans k, keep_blk k h0, keep_blk k h1, keep_blk k h2, keep_own k h3⟩, ⟨HS51.out, HBP51.out, HBR51.out, HBQ51.out, HFr51.out⟩⟩
    have HRK := Lib.hid HKS.out.1
    refine wp_held HKS.out (by kernel_rfl) (fun hHeld => ?_)
    refine tkQ 0 (.pointer (some ⟨q, 0, none⟩)) hHeld (h := ?_)
    (try simp only [Act.put, sA, sB, sC])
    refine tkQ 1 (.pointer (some ⟨q, 0, none⟩)) hHeld (h := ?_)
    (try simp only [Act.put, sA, sB, sC])
    refine tkQ 2 (.pointer (some ⟨q, 20, none⟩)) hHeld (h := ?_)
    (try simp only [Act.put, sA, sB, sC])
    refine tkQ 3 (.slice (some ⟨g, 0, none⟩) ls.length c) hHeld (he := by intro w hSw; exact exec_cell 86 _ _ hSw.2.2.2.1 rfl rfl rfl Try.underlying86 rfl) (h := ?_)
    (try simp only [Act.put, sA, sB, sC])
    refine tkQ 4 (.int .i64 (ls.length : Int)) hHeld (h := ?_)
    (try simp only [Act.put, sA, sB, sC])
    refine tkQ 5 (.bool true) hHeld (he := by intro w hSw; (have q0 := H3.out; go_simp; (first | done | rfl | omega))) (h := ?_)
    (try simp only [Act.put, sA, sB, sC])
    refine tkQ 6 (.bool true) hHeld (h := ?_)
    (try simp only [Act.put, sA, sB, sC])
    refine tkQ 7 (.pointer (some ⟨w.heap.size, 3, none⟩)) hHeld (h := ?_)
    (try simp only [Act.put, sA, sB, sC])
    refine tkQ 8 (.int .i64 p.ak) hHeld (he := by intro w hSw; exact exec_cell 3 _ _ hSw.2.1 rfl rfl rfl Try.underlying3 rfl) (h := ?_)
    (try simp only [Act.put, sA, sB, sC])
    refine tkQ 9 (.pointer (some ⟨q, 0, none⟩)) hHeld (h := ?_)
    (try simp only [Act.put, sA, sB, sC])
    refine tkQ 10 (.pointer (some ⟨q, 0, none⟩)) hHeld (h := ?_)
    (try simp only [Act.put, sA, sB, sC])
    refine tkQ 11 (.pointer (some ⟨q, 21, none⟩)) hHeld (h := ?_)
    (try simp only [Act.put, sA, sB, sC])
    refine tkQ 12 (.int .i64 k.sq) hHeld (he := by intro w hSw; exact exec_cell 3 _ _ hSw.2.2.2.1 rfl rfl rfl Try.underlying3 rfl) (h := ?_)
    (try simp only [Act.put, sA, sB, sC])
    refine wpAnyH_ready (rs := [13]) (by kernel_rfl) (by simp) ?_
    refine AllReadyH.cons (o := ?o4__13) ?h4__13 (fun K hK => ?_) AllReadyH.nil
    case h4__13 => (first | (simp only [gA, gB, gC]; done) | (simp only [gA, gB, gC]; exact rfl))
    (try go_simp)
    refine (Se.nextT _ _).mono ?_
    rintro e w' ⟨rfl, rfl⟩
    (try go_wp2_with fail)
    refine hK.out _ _ hHeld (fun hHeld2 => ?_)
    clear hK K hHeld2
    (try simp only [Act.put, sA, sB, sC])
    refine tkQ 14 (.bool true) hHeld (he := by intro w hSw; (have q0 := H4.out; go_simp; (first | done | rfl | omega))) (h := ?_)
    (try simp only [Act.put, sA, sB, sC])
    refine tkQ 15 (.bool true) hHeld (h := ?_)
    (try simp only [Act.put, sA, sB, sC])
    refine wpAnyH_done (by kernel_rfl) ?_ _
    have HSd4 := Lib.hid hHeld.1
    have HBPd4 := Lib.hid (hHeld.2.1)
    have HBRd4 := Lib.hid (hHeld.2.2.1)
    have HBQd4 := Lib.hid (hHeld.2.2.2.1)
    have HFrd4 := Lib.hid (hHeld.2.2.2.2)
    clear hHeld HRK HKS HS51 HBP51 HBR51 HBQ51 HFr51
    go_upto_region 5 with fail
    refine wp_region_lit ?_
    refine tkL (.pointer (some ⟨q, 0, none⟩)) (h := ?_)
    (try simp only [Act.put, sA, sB, sC])
    refine wpList_wp (by rfl) (fun K hK => ?_)
    (try go_simp)
    refine (arrivedT lo q { k with he := mx2 k.he (cl now) } ls g m c _ (by rw [← H3.out]; exact HBQd4.out) (by rw [← H3.out]; exact HFrd4.out) H3.out HC.out (by have := HL.out; have := H3.out; omega)).mono ?_
    rintro e w52 ⟨rfl, hB, hO, hupd⟩
    (try go_wp2_with fail)
    refine hK.out _ _ ?_
    clear hK K
    (try simp only [Act.put, sA, sB, sC])
    have HBPz := Lib.hid (hupd.blk HBPd4.out (fun h => by have q1 := HNP.out; have q2 := HIP.out; simp [blkOf] at h q2; rcases h with h | h; exact q1 h.symm; exact q2 h))
    have HBRz := Lib.hid (hupd.blk HBRd4.out (fun h => by have q1 := HNR.out; have q2 := HIR.out; simp [blkOf] at h q2; rcases h with h | h; exact q1 h.symm; exact q2 h))
    have HSz := Lib.hid (Upd.comp HSd4.out hupd (fun _ h => .inl h))
    have HBQz := Lib.hid (show Blk w52 q 88 #[.int .i64 k.c.ca, .int .i64 k.c.fl, .int .i64 k.c.ft, .int .i64 k.c.se, .int .i64 k.c.dr, .int .i64 k.c.dw, .int .i64 k.c.ho, .int .i64 k.c.re, .int .i64 k.c.yi, .int .i64 k.c.qu, .int .i64 k.c.qo, .int .i64 k.c.lo, .int .i64 k.c.sl, .int .i64 k.c.rt, .int .i64 k.c.cp, .int .i64 k.c.tr, .int .i64 k.c.de, .int .i64 k.c.wi, .int .i64 k.se, .int .i64 k.ep, .slice (some ⟨g, 0, none⟩) m c, .int .i64 (Se.nx k.sq), .int .i64 0, .int .i64 0, .int .i64 k.ak, .bool k.an, .int .i64 (mx2 k.he (cl now))] from hB)
    have HOWz := Lib.hid hO
    clear hB hO hupd HSd4 HBPd4 HBRd4 HBQd4 HFrd4
    refine wpList_nil ?_
    go_upto_region 6 with fail
    have HKS : Hid (KeepS (fun W : World => Upd [q, g] w W ∧ Blk W w.heap.size 38 #[.int .i64 p.se, .int .i64 p.ep, .int .i64 p.sq, .int .i64 p.ak, .bool p.ha, .int .i64 p.m.ki, .int .i64 p.m.a, .int .i64 p.m.b, .int .i64 p.m.c] ∧ Blk W bR 36 #[.int .i64 0, .int .i64 0, .int .i64 0, .int .i64 0] ∧ Blk W q 88 #[.int .i64 k.c.ca, .int .i64 k.c.fl, .int .i64 k.c.ft, .int .i64 k.c.se, .int .i64 k.c.dr, .int .i64 k.c.dw, .int .i64 k.c.ho, .int .i64 k.c.re, .int .i64 k.c.yi, .int .i64 k.c.qu, .int .i64 k.c.qo, .int .i64 k.c.lo, .int .i64 k.c.sl, .int .i64 k.c.rt, .int .i64 k.c.cp, .int .i64 k.c.tr, .int .i64 k.c.de, .int .i64 k.c.wi, .int .i64 k.se, .int .i64 k.ep, .slice (some ⟨g, 0, none⟩) m c, .int .i64 (Se.nx k.sq), .int .i64 0, .int .i64 0, .int .i64 k.ak, .bool k.an, .int .i64 (mx2 k.he (cl now))] ∧ (W).ownsRow lo 36 4 (.slice (some ⟨g, 0, none⟩) m c) m (rowsOf msgC ls.tail)) w52) := Lib.hid ⟨fun W W' k ⟨h, h0, h1, h2, h3⟩ => ⟨h.trans k, keep_blk k h0, keep_blk k h1, keep_blk k h2, keep_own k h3⟩, ⟨HSz.out, HBPz.out, HBRz.out, HBQz.out, HOWz.out⟩⟩
    have HRK := Lib.hid HKS.out.1
    refine wp_held HKS.out (by kernel_rfl) (fun hHeld => ?_)
    refine tkQ 0 (.pointer (some ⟨w.heap.size, 4, none⟩)) hHeld (h := ?_)
    (try simp only [Act.put, sA, sB, sC])
    refine tkQ 1 (.bool p.ha) hHeld (he := by intro w hSw; exact exec_cell 4 _ _ hSw.2.1 rfl rfl rfl Try.underlying4 rfl) (h := ?_)
    (try simp only [Act.put, sA, sB, sC])
    refine tkQ 2 (.bool true) hHeld (he := by intro w hSw; (have q := H5.out; go_simp; (first | done | exact q | (simp [q]; done)))) (h := ?_)
    (try simp only [Act.put, sA, sB, sC])
    refine tkQ 3 (.bool true) hHeld (h := ?_)
    (try simp only [Act.put, sA, sB, sC])
    refine tkU 4 hHeld (h := ?_)
    (try simp only [Act.put, sA, sB, sC])
    refine tkU 5 hHeld (h := ?_)
    (try simp only [Act.put, sA, sB, sC])
    refine tkU 6 hHeld (h := ?_)
    (try simp only [Act.put, sA, sB, sC])
    refine tkU 7 hHeld (h := ?_)
    (try simp only [Act.put, sA, sB, sC])
    refine tkU 8 hHeld (h := ?_)
    (try simp only [Act.put, sA, sB, sC])
    refine tkU 9 hHeld (h := ?_)
    (try simp only [Act.put, sA, sB, sC])
    refine tkU 10 hHeld (h := ?_)
    (try simp only [Act.put, sA, sB, sC])
    refine tkQ 11 (.bool true) hHeld (h := ?_)
    (try simp only [Act.put, sA, sB, sC])
    refine wpAnyH_done (by kernel_rfl) ?_ _
    have HSd6 := Lib.hid hHeld.1
    have HBPd6 := Lib.hid (hHeld.2.1)
    have HBRd6 := Lib.hid (hHeld.2.2.1)
    have HBQd6 := Lib.hid (hHeld.2.2.2.1)
    have HFrd6 := Lib.hid (hHeld.2.2.2.2)
    clear hHeld HRK HKS HSz HBPz HBRz HBQz HOWz
    go_upto_region 7 with fail
    refine wp_region_lit ?_
    refine wpList_q (by rfl) (.agg #[.int .i64 0, .int .i64 0, .int .i64 0, .int .i64 0]) ?he ?_
    case he => kernel_rfl
    (try simp only [Act.put, sA, sB, sC])
    refine wpList_wp (by rfl) (fun K hK => ?_)
    refine wp_st_row 36 _ _ rfl #[.int .i64 0, .int .i64 0, .int .i64 0, .int .i64 0] rfl rfl (HasRow.of HBRd6.out rfl) rfl (by simp [Value.oneCell']) (by kernel_rfl) ?_
    intro w53 hw
    refine hK.out _ _ ?_
    clear hK K
    (try simp only [Act.put, sA, sB, sC])
    have HS53 := Lib.hid (show Upd [q, g] w w53 by rw [hw]; exact Upd.setRow HSd6.out (Or.inr (by have := HNE3.out; omega)) _)
    have HBP53 := Lib.hid (show Blk w53 w.heap.size 38 #[.int .i64 p.se, .int .i64 p.ep, .int .i64 p.sq, .int .i64 p.ak, .bool p.ha, .int .i64 p.m.ki, .int .i64 p.m.a, .int .i64 p.m.b, .int .i64 p.m.c] by rw [hw]; exact Blk.row_far HBPd6.out (by have := HNE3.out; omega) _)
    have HBR53 := Lib.hid (show Blk w53 bR 36 #[.int .i64 0, .int .i64 0, .int .i64 0, .int .i64 0] by rw [hw]; exact Blk.row HBRd6.out _)
    have HBQ53 := Lib.hid (show Blk w53 q 88 #[.int .i64 k.c.ca, .int .i64 k.c.fl, .int .i64 k.c.ft, .int .i64 k.c.se, .int .i64 k.c.dr, .int .i64 k.c.dw, .int .i64 k.c.ho, .int .i64 k.c.re, .int .i64 k.c.yi, .int .i64 k.c.qu, .int .i64 k.c.qo, .int .i64 k.c.lo, .int .i64 k.c.sl, .int .i64 k.c.rt, .int .i64 k.c.cp, .int .i64 k.c.tr, .int .i64 k.c.de, .int .i64 k.c.wi, .int .i64 k.se, .int .i64 k.ep, .slice (some ⟨g, 0, none⟩) m c, .int .i64 (Se.nx k.sq), .int .i64 0, .int .i64 0, .int .i64 k.ak, .bool k.an, .int .i64 (mx2 k.he (cl now))] by rw [hw]; exact Blk.row_far HBQd6.out HNR.out _)
    have HFr_53 := Lib.hid (show (w53).ownsRow lo 36 4 (.slice (some ⟨g, 0, none⟩) m c) m (rowsOf msgC ls.tail) by rw [hw]; exact own_row_far HFrd6.out HIR.out _)
    clear hw HSd6 HBPd6 HBRd6 HBQd6 HFrd6
    refine tkL (.bool false) (h := ?_)
    (try simp only [Act.put, sA, sB, sC])
    refine wpList_nil ?_
    have hlen : ls.tail.length = m := by have q0 := H3.out; rw [List.length_tail]; omega
    (try go_wp2_with fail)
    exact bodyPost_ret (results_row2 rfl _ _ bR 36 #[.int .i64 0, .int .i64 0, .int .i64 0, .int .i64 0] _ (.bool false) rfl rfl HBR53.out Try.underlying36 rfl (by kernel_rfl)) rfl ⟨rfl, ⟨H0.out, (some ⟨g, 0, none⟩), c, rfl, by rw [hlen]; exact HBQ53.out, by rw [hlen]; exact HFr_53.out⟩, HS53.out⟩
end Go.Proofs.Ytlihhjcneedgnaa.Ln
