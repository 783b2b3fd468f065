/-
  the law's answers; QueueNone: walked.
  Conditions: what stands ahead of each.
-/
import Derived.Test.YtggafipgfgbbiaaProg
import Derived.Test.YtggafipgfgbbiaaQueD
namespace Go.Proofs.Ytggafipgfgbbiaa.Qu
set_option linter.unusedVariables false
set_option linter.unusedSimpArgs false
open Go.RowKit Go.Proofs.Ytggafipgfgbbiaa.Ba Go.Proofs.Ytggafipgfgbbiaa.Mem Go.Proofs.Ytggafipgfgbbiaa.Ty
set_option maxRecDepth 100000
attribute [local irreducible] Go.wpList
theorem QO.base {w : World} {lo lo' q : Nat} {room : Int} {ls : List AskV} {S : List Nat} (h : QO lo q room ls S w) (hb : lo' ≤ lo) : QO lo' q room ls S w := by
  obtain ⟨h0, A, c, rfl, B, O⟩ := h
  exact ⟨by omega, A, c, rfl, B, own_base O hb⟩
theorem newV (lo : Nat) (room : Int) (w : World) (hlo : lo ≤ w.heap.size) : Calls Try.prog 24 #[.int .i64 room] w fun e w' => ∃ q, e = .returned (.pointer (some ⟨q, 0, none⟩)) ∧ QO lo q (btw room 0 64) [] [q] w' ∧ w.heap.size ≤ q ∧ Since w w' := by
  refine (newT room w).mono ?_
  rintro e w1 ⟨q, rfl, hQ, hb⟩
  exact ⟨q, rfl, hQ.base hlo, hQ.low q (by simp), hb⟩
theorem putV (lo q : Nat) (room : Int) (ls : List AskV) (S : List Nat) (a : AskV) (w : World) (hQ : QO lo q room ls S w) (hl : ls.length ≤ 10000) (e0 : Int) (ls2 : List AskV) (he : putE room ls a = e0) (hl2 : putL room ls a = ls2) :
    Calls Try.prog 26 #[.pointer (some ⟨q, 0, none⟩), .agg #[.int .i64 a.se, .int .i64 a.fl, .int .i64 a.fm, .int .i64 a.to, .int .i64 a.ma]] w fun e w' => ∃ S', e = .returned (.int .i64 e0) ∧ QO lo q room ls2 S' w' ∧ Upd S w w' ∧ ∀ g ∈ S', g ∈ S ∨ w.heap.size ≤ g := by
  subst he hl2; exact putT lo q room ls S a w hQ hl
theorem dropV (lo q : Nat) (room : Int) (ls : List AskV) (S : List Nat) (s : Int) (w : World) (hQ : QO lo q room ls S w) (hl : ls.length ≤ 10000) (b : Bool) (ls2 : List AskV) (he : (atS ls s).isSome = b) (hl2 : dropL ls s = ls2) :
    Calls Try.prog 27 #[.pointer (some ⟨q, 0, none⟩), .int .i64 s] w fun e w' => ∃ S', e = .returned (.bool b) ∧ QO lo q room ls2 S' w' ∧ Upd S w w' ∧ ∀ g ∈ S', g ∈ S ∨ w.heap.size ≤ g := by
  subst he hl2; exact dropT lo q room ls S s w hQ hl
theorem listV (lo q : Nat) (room : Int) (ls : List AskV) (S : List Nat) (w : World) (hQ : QO lo q room ls S w) (hl : ls.length ≤ 10000) (n : Nat) (hn : ls.length = n) :
    Calls Try.prog 32 #[.pointer (some ⟨q, 0, none⟩)] w fun e w' => ∃ A' c', e = .returned (.slice A' n c') ∧ w'.ownsRow w.heap.size 30 5 (.slice A' n c') n (rowsOf askC ls) ∧ Since w w' := by
  subst hn; exact listT lo q room ls S w hQ hl
theorem aheadV (lo q : Nat) (room : Int) (ls : List AskV) (S : List Nat) (s : Int) (w : World) (hQ : QO lo q room ls S w) (hl : ls.length ≤ 10000) (k : Nat) (hk : atS ls s = some k) :
    Calls Try.prog 30 #[.pointer (some ⟨q, 0, none⟩), .int .i64 s] w fun e w' => e = .returned (.tuple #[.int .i64 (k : Int), .bool true]) ∧ Since w w' := by
  have := aheadT lo q room ls S s w hQ hl
  rw [hk] at this
  exact this
set_option maxHeartbeats 4000000 in
theorem ans (w : World) : Calls Try.prog 28 #[] w fun e w' => e = .returned (.bool true) ∧ Since w w' := by
  go_enter Try.func28, Try.ntmps28
  go_upto_region 1 with fail
  have HS1 := Lib.hid (Since.refl w)
  refine wp_region_lit ?_
  refine wpList_wp (by rfl) (fun K hK => ?_)
  (try go_simp)
  refine (newV w.heap.size 2 _ (Since.size HS1.out)).mono ?_
  rintro e w2 ⟨q1, rfl, hQ, hge, hb⟩
  (try go_wp2_with fail)
  refine hK.out _ _ ?_
  clear hK K
  (try simp only [Act.put, sA, sB, sC])
  have HS2 := Lib.hid (Since.trans HS1.out hb)
  clear HS1 
  clear hb
  have HFq := Lib.hid hQ
  clear hQ hge
  refine wpList_q (by rfl) (.pointer (some ⟨q1, 0, none⟩)) ?he ?_
  case he => (first | rfl | (go_simp; (try with_reducible rfl)))
  (try simp only [Act.put, sA, sB, sC])
  refine wpList_nil ?_
  go_upto_region 2 with fail
  refine wp_region_lit ?_
  refine wpList_q (by rfl) (.pointer (some ⟨q1, 0, none⟩)) ?he ?_
  case he => (first | rfl | (go_simp; (try with_reducible rfl)))
  (try simp only [Act.put, sA, sB, sC])
  refine wpList_q (by rfl) (.agg #[.int .i64 4, .int .i64 0, .int .i64 0, .int .i64 0, .int .i64 0]) ?he ?_
  case he => kernel_rfl
  (try simp only [Act.put, sA, sB, sC])
  refine wpList_wp (by rfl) (fun K hK => ?_)
  (try go_simp)
  refine (putV w.heap.size q1 (btw 2 0 64) ([]) [q1] (⟨4, 0, 0, 0, 0⟩ : AskV) _ HFq.out (by first | decide | (simp; done)) 0 ([⟨4, 0, 0, 0, 0⟩]) (by first | rfl | decide) (by first | rfl | decide)).mono ?_
  rintro e w3 ⟨Sq_1, rfl, hobj, hupd, hfar⟩
  (try go_wp2_with fail)
  refine hK.out _ _ ?_
  clear hK K
  (try simp only [Act.put, sA, sB, sC])
  have HS3 := Lib.hid (Since.upd HS2.out hupd (QO.low HFq.out))
  have HFq3 := Lib.hid hobj
  clear hupd hobj hfar HS2 HFq
  refine wpList_q (by rfl) (.pointer (some ⟨q1, 0, none⟩)) ?he ?_
  case he => (first | rfl | (go_simp; (try with_reducible rfl)))
  (try simp only [Act.put, sA, sB, sC])
  refine wpList_q (by rfl) (.agg #[.int .i64 7, .int .i64 1, .int .i64 0, .int .i64 0, .int .i64 0]) ?he ?_
  case he => kernel_rfl
  (try simp only [Act.put, sA, sB, sC])
  refine wpList_wp (by rfl) (fun K hK => ?_)
  (try go_simp)
  refine (putV w.heap.size q1 (btw 2 0 64) ([⟨4, 0, 0, 0, 0⟩]) Sq_1 (⟨7, 1, 0, 0, 0⟩ : AskV) _ HFq3.out (by first | decide | (simp; done)) 0 ([⟨4, 0, 0, 0, 0⟩, ⟨7, 1, 0, 0, 0⟩]) (by first | rfl | decide) (by first | rfl | decide)).mono ?_
  rintro e w4 ⟨Sq_2, rfl, hobj, hupd, hfar⟩
  (try go_wp2_with fail)
  refine hK.out _ _ ?_
  clear hK K
  (try simp only [Act.put, sA, sB, sC])
  have HS4 := Lib.hid (Since.upd HS3.out hupd (QO.low HFq3.out))
  have HFq4 := Lib.hid hobj
  clear hupd hobj hfar HS3 HFq3
  refine wpList_q (by rfl) (.pointer (some ⟨q1, 0, none⟩)) ?he ?_
  case he => (first | rfl | (go_simp; (try with_reducible rfl)))
  (try simp only [Act.put, sA, sB, sC])
  refine wpList_q (by rfl) (.agg #[.int .i64 8, .int .i64 0, .int .i64 0, .int .i64 0, .int .i64 0]) ?he ?_
  case he => kernel_rfl
  (try simp only [Act.put, sA, sB, sC])
  refine wpList_wp (by rfl) (fun K hK => ?_)
  (try go_simp)
  refine (putV w.heap.size q1 (btw 2 0 64) ([⟨4, 0, 0, 0, 0⟩, ⟨7, 1, 0, 0, 0⟩]) Sq_2 (⟨8, 0, 0, 0, 0⟩ : AskV) _ HFq4.out (by first | decide | (simp; done)) 5 ([⟨4, 0, 0, 0, 0⟩, ⟨7, 1, 0, 0, 0⟩]) (by first | rfl | decide) (by first | rfl | decide)).mono ?_
  rintro e w5 ⟨Sq_3, rfl, hobj, hupd, hfar⟩
  (try go_wp2_with fail)
  refine hK.out _ _ ?_
  clear hK K
  (try simp only [Act.put, sA, sB, sC])
  have HS5 := Lib.hid (Since.upd HS4.out hupd (QO.low HFq4.out))
  have HFq5 := Lib.hid hobj
  clear hupd hobj hfar HS4 HFq4
  refine wpList_q (by rfl) (.int .i64 0) ?he ?_
  case he => (first | rfl | (go_simp; (try with_reducible rfl)))
  (try simp only [Act.put, sA, sB, sC])
  refine wpList_q (by rfl) (.int .i64 0) ?he ?_
  case he => (first | rfl | (go_simp; (try with_reducible rfl)))
  (try simp only [Act.put, sA, sB, sC])
  refine wpList_q (by rfl) (.int .i64 5) ?he ?_
  case he => (first | rfl | (go_simp; (try with_reducible rfl)))
  (try simp only [Act.put, sA, sB, sC])
  refine wpList_nil ?_
  go_upto_region 3 with fail
  refine wp_region_lit ?_
  refine wpList_q (by rfl) (.pointer (some ⟨q1, 0, none⟩)) ?he ?_
  case he => (first | rfl | (go_simp; (try with_reducible rfl)))
  (try simp only [Act.put, sA, sB, sC])
  refine wpList_wp (by rfl) (fun K hK => ?_)
  (try go_simp)
  refine (aheadV w.heap.size q1 (btw 2 0 64) [⟨4, 0, 0, 0, 0⟩, ⟨7, 1, 0, 0, 0⟩] Sq_3 7 _ HFq5.out (by decide) 1 (by first | rfl | decide)).mono ?_
  rintro e w6 ⟨rfl, hb⟩
  (try go_wp2_with fail)
  refine hK.out _ _ ?_
  clear hK K
  (try simp only [Act.put, sA, sB, sC])
  have HS6 := Lib.hid (Since.trans HS5.out hb)
  have HFq6 := Lib.hid (QO.keep hb HFq5.out)
  clear HS5 HFq5
  clear hb
  refine wpList_q (by rfl) (.tuple #[.int .i64 1, .bool true]) ?he ?_
  case he => (first | rfl | (go_simp; (try with_reducible rfl)))
  (try simp only [Act.put, sA, sB, sC])
  refine wpList_q (by rfl) (.int .i64 1) ?he ?_
  case he => (first | rfl | (go_simp; (try with_reducible rfl)))
  (try simp only [Act.put, sA, sB, sC])
  refine wpList_q (by rfl) (.bool true) ?he ?_
  case he => (first | rfl | (go_simp; (try with_reducible rfl)))
  (try simp only [Act.put, sA, sB, sC])
  refine wpList_q (by rfl) (.int .i64 1) ?he ?_
  case he => (first | rfl | (go_simp; (try with_reducible rfl)))
  (try simp only [Act.put, sA, sB, sC])
  refine wpList_q (by rfl) (.bool true) ?he ?_
  case he => (first | rfl | (go_simp; (try with_reducible rfl)))
  (try simp only [Act.put, sA, sB, sC])
  refine wpList_nil ?_
  go_upto_region 4 with fail
  refine wp_region_lit ?_
  refine wpList_q (by rfl) (.pointer (some ⟨q1, 0, none⟩)) ?he ?_
  case he => (first | rfl | (go_simp; (try with_reducible rfl)))
  (try simp only [Act.put, sA, sB, sC])
  refine wpList_wp (by rfl) (fun K hK => ?_)
  refine wp_new (fun b => .slice (some ⟨b, 0, none⟩) 1 1) 3 #[.int .i64 0] (by rintro b rfl; first | rfl | kernel_rfl) ?_
  intro bn26 w7 hge hB hb
  refine hK.out _ _ ?_
  clear hK K
  (try simp only [Act.put, sA, sB, sC])
  have HGn26 := Lib.hid (show w.heap.size ≤ bn26 by have := Since.size HS6.out; omega)
  have HIn26_q := Lib.hid (QO.far HFq6.out hge)
  have HS7 := Lib.hid (Since.trans HS6.out hb)
  have HFq7 := Lib.hid (QO.keep hb HFq6.out)
  clear HS6 HFq6
  clear hb hge
  have HBn267 := Lib.hid hB
  clear hB
  refine wpList_wp (by rfl) (fun K hK => ?_)
  (try go_simp)
  refine (firstV w.heap.size q1 (btw 2 0 64) [⟨4, 0, 0, 0, 0⟩, ⟨7, 1, 0, 0, 0⟩] Sq_3 (some ⟨bn26, 0, none⟩) 1 1 [0] _ HFq7.out (by decide) (IV.blk (zs := [0]) HBn267.out) (by decide) ⟨7, 1, 0, 0, 0⟩ true (by first | rfl | decide)).mono ?_
  rintro e w8 ⟨rfl, hb⟩
  (try go_wp2_with fail)
  refine hK.out _ _ ?_
  clear hK K
  (try simp only [Act.put, sA, sB, sC])
  have HS8 := Lib.hid (Since.trans HS7.out hb)
  have HBn268 := Lib.hid (keep_blk hb HBn267.out)
  have HFq8 := Lib.hid (QO.keep hb HFq7.out)
  clear HS7 HBn267 HFq7
  clear hb
  refine wpList_q (by rfl) (.tuple #[.agg #[.int .i64 7, .int .i64 1, .int .i64 0, .int .i64 0, .int .i64 0], .bool true]) ?he ?_
  case he => (first | rfl | (go_simp; (try with_reducible rfl)))
  (try simp only [Act.put, sA, sB, sC])
  refine wpList_q (by rfl) (.agg #[.int .i64 7, .int .i64 1, .int .i64 0, .int .i64 0, .int .i64 0]) ?he ?_
  case he => (first | rfl | (go_simp; (try with_reducible rfl)))
  (try simp only [Act.put, sA, sB, sC])
  refine wpList_q (by rfl) (.bool true) ?he ?_
  case he => (first | rfl | (go_simp; (try with_reducible rfl)))
  (try simp only [Act.put, sA, sB, sC])
  refine wpList_wp (by rfl) (fun K hK => ?_)
  refine wp_new (fun b => .pointer (some ⟨b, 0, none⟩)) 30 #[.int .i64 0, .int .i64 0, .int .i64 0, .int .i64 0, .int .i64 0] (by rintro b rfl; first | rfl | kernel_rfl) ?_
  intro bn7 w9 hge hB hb
  refine hK.out _ _ ?_
  clear hK K
  (try simp only [Act.put, sA, sB, sC])
  have HNn7n26 := Lib.hid (show bn7 ≠ bn26 by have := Blk.lt HBn268.out; omega)
  have HGn7 := Lib.hid (show w.heap.size ≤ bn7 by have := Since.size HS8.out; omega)
  have HIn7_q := Lib.hid (QO.far HFq8.out hge)
  have HS9 := Lib.hid (Since.trans HS8.out hb)
  have HBn269 := Lib.hid (keep_blk hb HBn268.out)
  have HFq9 := Lib.hid (QO.keep hb HFq8.out)
  clear HS8 HBn268 HFq8
  clear hb hge
  have HBn79 := Lib.hid hB
  clear hB
  refine wpList_wp (by rfl) (fun K hK => ?_)
  refine wp_st_row 30 _ _ rfl #[.int .i64 7, .int .i64 1, .int .i64 0, .int .i64 0, .int .i64 0] rfl rfl (HasRow.of HBn79.out rfl) rfl (by simp [Value.oneCell']) (by kernel_rfl) ?_
  intro w10 hw
  refine hK.out _ _ ?_
  clear hK K
  (try simp only [Act.put, sA, sB, sC])
  have HS10 := Lib.hid (show Since w w10 by rw [hw]; exact Since.setRow HS9.out HGn7.out _)
  have HBn2610 := Lib.hid (show Blk w10 bn26 3 #[.int .i64 0] by rw [hw]; exact Blk.row_far HBn269.out (Ne.symm HNn7n26.out) _)
  have HBn710 := Lib.hid (show Blk w10 bn7 30 #[.int .i64 7, .int .i64 1, .int .i64 0, .int .i64 0, .int .i64 0] by rw [hw]; exact Blk.row HBn79.out _)
  have HFq_10 := Lib.hid (show QO w.heap.size q1 (btw 2 0 64) ([⟨4, 0, 0, 0, 0⟩, ⟨7, 1, 0, 0, 0⟩]) Sq_3 w10 by rw [hw]; exact QO.row_far HFq9.out HIn7_q.out _)
  clear hw HS9 HBn269 HBn79 HFq9
  refine wpList_q (by rfl) (.bool true) ?he ?_
  case he => (first | rfl | (go_simp; (try with_reducible rfl)))
  (try simp only [Act.put, sA, sB, sC])
  refine wpList_nil ?_
  go_upto_region 5 with fail
  refine wp_region_lit ?_
  refine wpList_q (by rfl) (.int .i64 0) ?he ?_
  case he => (first | rfl | (go_simp; (try with_reducible rfl)))
  (try simp only [Act.put, sA, sB, sC])
  refine wpList_q (by rfl) (.bool true) ?he ?_
  case he => (go_simp; (try with_reducible rfl))
  (try simp only [Act.put, sA, sB, sC])
  refine wpList_q (by rfl) (.bool true) ?he ?_
  case he => (first | rfl | (go_simp; (try with_reducible rfl)))
  (try simp only [Act.put, sA, sB, sC])
  refine wpList_q (by rfl) (.int .i64 0) ?he ?_
  case he => (first | rfl | (go_simp; (try with_reducible rfl)))
  (try simp only [Act.put, sA, sB, sC])
  refine wpList_q (by rfl) (.bool true) ?he ?_
  case he => (go_simp; (try with_reducible rfl))
  (try simp only [Act.put, sA, sB, sC])
  refine wpList_q (by rfl) (.bool true) ?he ?_
  case he => (first | rfl | (go_simp; (try with_reducible rfl)))
  (try simp only [Act.put, sA, sB, sC])
  refine wpList_q (by rfl) (.bool true) ?he ?_
  case he => (first | rfl | (go_simp; (try with_reducible rfl)))
  (try simp only [Act.put, sA, sB, sC])
  refine wpList_q (by rfl) (.int .i64 5) ?he ?_
  case he => (first | rfl | (go_simp; (try with_reducible rfl)))
  (try simp only [Act.put, sA, sB, sC])
  refine wpList_q (by rfl) (.bool true) ?he ?_
  case he => (go_simp; (try with_reducible rfl))
  (try simp only [Act.put, sA, sB, sC])
  refine wpList_q (by rfl) (.bool true) ?he ?_
  case he => (first | rfl | (go_simp; (try with_reducible rfl)))
  (try simp only [Act.put, sA, sB, sC])
  refine wpList_q (by rfl) (.bool true) ?he ?_
  case he => (first | rfl | (go_simp; (try with_reducible rfl)))
  (try simp only [Act.put, sA, sB, sC])
  refine wpList_q (by rfl) (.bool true) ?he ?_
  case he => (first | rfl | (go_simp; (try with_reducible rfl)))
  (try simp only [Act.put, sA, sB, sC])
  refine wpList_q (by rfl) (.bool true) ?he ?_
  case he => (first | rfl | (go_simp; (try with_reducible rfl)))
  (try simp only [Act.put, sA, sB, sC])
  refine wpList_q (by rfl) (.bool true) ?he ?_
  case he => (first | rfl | (go_simp; (try with_reducible rfl)))
  (try simp only [Act.put, sA, sB, sC])
  refine wpList_q (by rfl) (.int .i64 1) ?he ?_
  case he => (first | rfl | (go_simp; (try with_reducible rfl)))
  (try simp only [Act.put, sA, sB, sC])
  refine wpList_q (by rfl) (.bool true) ?he ?_
  case he => (go_simp; (try with_reducible rfl))
  (try simp only [Act.put, sA, sB, sC])
  refine wpList_q (by rfl) (.bool true) ?he ?_
  case he => (first | rfl | (go_simp; (try with_reducible rfl)))
  (try simp only [Act.put, sA, sB, sC])
  refine wpList_q (by rfl) (.bool true) ?he ?_
  case he => (first | rfl | (go_simp; (try with_reducible rfl)))
  (try simp only [Act.put, sA, sB, sC])
  refine wpList_q (by rfl) (.bool true) ?he ?_
  case he => (first | rfl | (go_simp; (try with_reducible rfl)))
  (try simp only [Act.put, sA, sB, sC])
  refine wpList_q (by rfl) (.bool true) ?he ?_
  case he => (first | rfl | (go_simp; (try with_reducible rfl)))
  (try simp only [Act.put, sA, sB, sC])
  refine wpList_q (by rfl) (.bool true) ?he ?_
  case he => (first | rfl | (go_simp; (try with_reducible rfl)))
  (try simp only [Act.put, sA, sB, sC])
  refine wpList_q (by rfl) (.pointer (some ⟨bn7, 0, none⟩)) ?he ?_
  case he => (first | rfl | (go_simp; (try with_reducible rfl)))
  (try simp only [Act.put, sA, sB, sC])
  refine wpList_q (by rfl) (.int .i64 7) ?he ?_
  case he => exact exec_cell 3 _ _ HBn710.out rfl rfl rfl Try.underlying3 rfl
  (try simp only [Act.put, sA, sB, sC])
  refine wpList_q (by rfl) (.bool true) ?he ?_
  case he => (go_simp; (try with_reducible rfl))
  (try simp only [Act.put, sA, sB, sC])
  refine wpList_q (by rfl) (.bool true) ?he ?_
  case he => (first | rfl | (go_simp; (try with_reducible rfl)))
  (try simp only [Act.put, sA, sB, sC])
  refine wpList_q (by rfl) (.bool true) ?he ?_
  case he => (first | rfl | (go_simp; (try with_reducible rfl)))
  (try simp only [Act.put, sA, sB, sC])
  refine wpList_q (by rfl) (.pointer (some ⟨q1, 0, none⟩)) ?he ?_
  case he => (first | rfl | (go_simp; (try with_reducible rfl)))
  (try simp only [Act.put, sA, sB, sC])
  refine wpList_wp (by rfl) (fun K hK => ?_)
  (try go_simp)
  refine (dropV w.heap.size q1 (btw 2 0 64) ([⟨4, 0, 0, 0, 0⟩, ⟨7, 1, 0, 0, 0⟩]) Sq_3 4 _ HFq_10.out (by first | decide | (simp; done)) true ([⟨7, 1, 0, 0, 0⟩]) (by first | rfl | decide) (by first | rfl | decide)).mono ?_
  rintro e w11 ⟨Sq_4, rfl, hobj, hupd, hfar⟩
  (try go_wp2_with fail)
  refine hK.out _ _ ?_
  clear hK K
  (try simp only [Act.put, sA, sB, sC])
  have HS11 := Lib.hid (Since.upd HS10.out hupd (QO.low HFq_10.out))
  have HBn2611 := Lib.hid (Upd.blk hupd HBn2610.out HIn26_q.out)
  have HIn26_q_11 := Lib.hid (nin_next hfar HIn26_q.out (Blk.lt HBn2610.out))
  have HBn711 := Lib.hid (Upd.blk hupd HBn710.out HIn7_q.out)
  have HIn7_q_11 := Lib.hid (nin_next hfar HIn7_q.out (Blk.lt HBn710.out))
  have HFq11 := Lib.hid hobj
  clear hupd hobj hfar HS10 HBn2610 HBn710 HFq_10
  refine wpList_q (by rfl) (.bool true) ?he ?_
  case he => (first | rfl | (go_simp; (try with_reducible rfl)))
  (try simp only [Act.put, sA, sB, sC])
  refine wpList_q (by rfl) (.bool true) ?he ?_
  case he => (first | rfl | (go_simp; (try with_reducible rfl)))
  (try simp only [Act.put, sA, sB, sC])
  refine wpList_q (by rfl) (.pointer (some ⟨q1, 0, none⟩)) ?he ?_
  case he => (first | rfl | (go_simp; (try with_reducible rfl)))
  (try simp only [Act.put, sA, sB, sC])
  refine wpList_wp (by rfl) (fun K hK => ?_)
  (try go_simp)
  refine (listV w.heap.size q1 (btw 2 0 64) [⟨7, 1, 0, 0, 0⟩] Sq_4 _ HFq11.out (by decide) 1 (by rfl)).mono ?_
  rintro e w12 ⟨A2, c2, rfl, hown, hb⟩
  (try go_wp2_with fail)
  refine hK.out _ _ ?_
  clear hK K
  (try simp only [Act.put, sA, sB, sC])
  have HS12 := Lib.hid (Since.trans HS11.out hb)
  have HBn2612 := Lib.hid (keep_blk hb HBn2611.out)
  have HBn712 := Lib.hid (keep_blk hb HBn711.out)
  have HFq12 := Lib.hid (QO.keep hb HFq11.out)
  clear HS11 HBn2611 HBn711 HFq11
  clear hb
  clear hown
  refine wpList_q (by rfl) (.int .i64 1) ?he ?_
  case he => (go_simp; (try with_reducible rfl))
  (try simp only [Act.put, sA, sB, sC])
  refine wpList_q (by rfl) (.bool true) ?he ?_
  case he => (go_simp; (try with_reducible rfl))
  (try simp only [Act.put, sA, sB, sC])
  refine wpList_q (by rfl) (.bool true) ?he ?_
  case he => (first | rfl | (go_simp; (try with_reducible rfl)))
  (try simp only [Act.put, sA, sB, sC])
  refine wpList_q (by rfl) (.bool true) ?he ?_
  case he => (first | rfl | (go_simp; (try with_reducible rfl)))
  (try simp only [Act.put, sA, sB, sC])
  refine wpList_nil ?_
  (try go_wp2_with fail)
  go_ret
  exact ⟨rfl, HS12.out⟩
set_option maxHeartbeats 4000000 in
theorem none_ (a : AskV) (w : World) : Calls Try.prog 7 #[.agg #[.int .i64 a.se, .int .i64 a.fl, .int .i64 a.fm, .int .i64 a.to, .int .i64 a.ma]] w fun e w' => e = .returned (.bool true) ∧ Since w w' := by
  go_enter Try.func7, Try.ntmps7
  go_upto_region 1 with fail
  obtain ⟨w1, hw1⟩ : ∃ w1, w1 = (w.alloc (.cells #[.int .i64 a.se, .int .i64 a.fl, .int .i64 a.fm, .int .i64 a.to, .int .i64 a.ma] 30)) := ⟨_, rfl⟩
  rw [← hw1]
  have HBA1 := Lib.hid (show Blk w1 (w.heap.size) 30 #[.int .i64 a.se, .int .i64 a.fl, .int .i64 a.fm, .int .i64 a.to, .int .i64 a.ma] by rw [hw1]; exact Blk.at_ (by (try simp only [size_alloc])) _ _)
  have HS1 := Lib.hid (show Since w w1 by rw [hw1]; exact Since.alloc (Since.refl w) _)
  have hNE : w.heap.size ≤ w.heap.size := by omega
  have HNE := Lib.hid hNE
  clear hNE hw1
  have HNE3 := Lib.hid (show w.heap.size ≤ w.heap.size from HNE.out)
  clear HNE
  refine wp_region_lit ?_
  refine wpList_q (by rfl) (.pointer none) ?he ?_
  case he => (first | rfl | (go_simp; (try with_reducible rfl)))
  (try simp only [Act.put, sA, sB, sC])
  refine wpList_nil ?_
  go_upto_region 2 with fail
  refine wp_region_lit ?_
  refine wpList_q (by rfl) (.pointer none) ?he ?_
  case he => (first | rfl | (go_simp; (try with_reducible rfl)))
  (try simp only [Act.put, sA, sB, sC])
  refine wpList_q (by rfl) (.pointer (some ⟨w.heap.size, 0, none⟩)) ?he ?_
  case he => (first | rfl | (go_simp; (try with_reducible rfl)))
  (try simp only [Act.put, sA, sB, sC])
  refine wpList_q (by rfl) (.int .i64 a.se) ?he ?_
  case he => exact exec_cell 3 _ _ HBA1.out rfl rfl rfl Try.underlying3 rfl
  (try simp only [Act.put, sA, sB, sC])
  refine wpList_wp (by rfl) (fun K hK => ?_)
  (try go_simp)
  refine (aheadNil a.se _).mono ?_
  rintro e w2 ⟨rfl, hb⟩
  (try go_wp2_with fail)
  refine hK.out _ _ ?_
  clear hK K
  (try simp only [Act.put, sA, sB, sC])
  have HS2 := Lib.hid (Since.trans HS1.out hb)
  have HBA2 := Lib.hid (keep_blk hb HBA1.out)
  clear HS1 HBA1
  clear hb
  refine wpList_q (by rfl) (.tuple #[.int .i64 0, .bool false]) ?he ?_
  case he => (first | rfl | (go_simp; (try with_reducible rfl)))
  (try simp only [Act.put, sA, sB, sC])
  refine wpList_q (by rfl) (.int .i64 0) ?he ?_
  case he => (first | rfl | (go_simp; (try with_reducible rfl)))
  (try simp only [Act.put, sA, sB, sC])
  refine wpList_q (by rfl) (.bool false) ?he ?_
  case he => (first | rfl | (go_simp; (try with_reducible rfl)))
  (try simp only [Act.put, sA, sB, sC])
  refine wpList_q (by rfl) (.int .i64 0) ?he ?_
  case he => (first | rfl | (go_simp; (try with_reducible rfl)))
  (try simp only [Act.put, sA, sB, sC])
  refine wpList_q (by rfl) (.bool false) ?he ?_
  case he => (first | rfl | (go_simp; (try with_reducible rfl)))
  (try simp only [Act.put, sA, sB, sC])
  refine wpList_nil ?_
  go_upto_region 3 with fail
  refine wp_region_lit ?_
  refine wpList_q (by rfl) (.pointer none) ?he ?_
  case he => (first | rfl | (go_simp; (try with_reducible rfl)))
  (try simp only [Act.put, sA, sB, sC])
  refine wpList_wp (by rfl) (fun K hK => ?_)
  (try go_simp)
  refine (firstNil none 0 0 _).mono ?_
  rintro e w3 ⟨rfl, hb⟩
  (try go_wp2_with fail)
  refine hK.out _ _ ?_
  clear hK K
  (try simp only [Act.put, sA, sB, sC])
  have HS3 := Lib.hid (Since.trans HS2.out hb)
  have HBA3 := Lib.hid (keep_blk hb HBA2.out)
  clear HS2 HBA2
  clear hb
  refine wpList_q (by rfl) (.tuple #[.agg #[.int .i64 0, .int .i64 0, .int .i64 0, .int .i64 0, .int .i64 0], .bool false]) ?he ?_
  case he => (first | rfl | (go_simp; (try with_reducible rfl)))
  (try simp only [Act.put, sA, sB, sC])
  refine wpList_q (by rfl) (.agg #[.int .i64 0, .int .i64 0, .int .i64 0, .int .i64 0, .int .i64 0]) ?he ?_
  case he => (first | rfl | (go_simp; (try with_reducible rfl)))
  (try simp only [Act.put, sA, sB, sC])
  refine wpList_q (by rfl) (.bool false) ?he ?_
  case he => (first | rfl | (go_simp; (try with_reducible rfl)))
  (try simp only [Act.put, sA, sB, sC])
  refine wpList_wp (by rfl) (fun K hK => ?_)
  refine wp_new (fun b => .pointer (some ⟨b, 0, none⟩)) 30 #[.int .i64 0, .int .i64 0, .int .i64 0, .int .i64 0, .int .i64 0] (by rintro b rfl; first | rfl | kernel_rfl) ?_
  intro bn6 w4 hge hB hb
  refine hK.out _ _ ?_
  clear hK K
  (try simp only [Act.put, sA, sB, sC])
  have HNn6A := Lib.hid (show bn6 ≠ w.heap.size by have := Blk.lt HBA3.out; omega)
  have HGn6 := Lib.hid (show w.heap.size ≤ bn6 by have := Since.size HS3.out; omega)
  have HS4 := Lib.hid (Since.trans HS3.out hb)
  have HBA4 := Lib.hid (keep_blk hb HBA3.out)
  clear HS3 HBA3
  clear hb hge
  have HBn64 := Lib.hid hB
  clear hB
  refine wpList_wp (by rfl) (fun K hK => ?_)
  refine wp_st_row 30 _ _ rfl #[.int .i64 0, .int .i64 0, .int .i64 0, .int .i64 0, .int .i64 0] rfl rfl (HasRow.of HBn64.out rfl) rfl (by simp [Value.oneCell']) (by kernel_rfl) ?_
  intro w5 hw
  refine hK.out _ _ ?_
  clear hK K
  (try simp only [Act.put, sA, sB, sC])
  have HS5 := Lib.hid (show Since w w5 by rw [hw]; exact Since.setRow HS4.out HGn6.out _)
  have HBA5 := Lib.hid (show Blk w5 w.heap.size 30 #[.int .i64 a.se, .int .i64 a.fl, .int .i64 a.fm, .int .i64 a.to, .int .i64 a.ma] by rw [hw]; exact Blk.row_far HBA4.out (Ne.symm HNn6A.out) _)
  have HBn65 := Lib.hid (show Blk w5 bn6 30 #[.int .i64 0, .int .i64 0, .int .i64 0, .int .i64 0, .int .i64 0] by rw [hw]; exact Blk.row HBn64.out _)
  clear hw HS4 HBA4 HBn64
  refine wpList_q (by rfl) (.bool false) ?he ?_
  case he => (first | rfl | (go_simp; (try with_reducible rfl)))
  (try simp only [Act.put, sA, sB, sC])
  refine wpList_nil ?_
  go_upto_region 4 with fail
  refine wp_region_lit ?_
  refine wpList_wp (by rfl) (fun K hK => ?_)
  (try go_simp)
  refine (newV w.heap.size 3 _ (Since.size HS5.out)).mono ?_
  rintro e w6 ⟨q1, rfl, hQ, hge, hb⟩
  (try go_wp2_with fail)
  refine hK.out _ _ ?_
  clear hK K
  (try simp only [Act.put, sA, sB, sC])
  have HIA_q := Lib.hid (show w.heap.size ∉ [q1] by have := Blk.lt HBA5.out; simp; omega)
  have HS6 := Lib.hid (Since.trans HS5.out hb)
  have HBA6 := Lib.hid (keep_blk hb HBA5.out)
  clear HS5 HBA5
  clear hb
  have HFq := Lib.hid hQ
  clear hQ hge
  refine wpList_q (by rfl) (.pointer (some ⟨q1, 0, none⟩)) ?he ?_
  case he => (first | rfl | (go_simp; (try with_reducible rfl)))
  (try simp only [Act.put, sA, sB, sC])
  refine wpList_nil ?_
  go_upto_region 5 with fail
  refine wp_region_lit ?_
  refine wpList_q (by rfl) (.pointer (some ⟨q1, 0, none⟩)) ?he ?_
  case he => (first | rfl | (go_simp; (try with_reducible rfl)))
  (try simp only [Act.put, sA, sB, sC])
  refine wpList_q (by rfl) (.agg #[.int .i64 a.se, .int .i64 a.fl, .int .i64 a.fm, .int .i64 a.to, .int .i64 a.ma]) ?he ?_
  case he => exact exec_load_row 30 _ _ HBA6.out rfl rfl Try.underlying30 rfl (by kernel_rfl)
  (try simp only [Act.put, sA, sB, sC])
  refine wpList_wp (by rfl) (fun K hK => ?_)
  (try go_simp)
  refine (putV w.heap.size q1 (btw 3 0 64) ([]) [q1] (⟨a.se, a.fl, a.fm, a.to, a.ma⟩ : AskV) _ HFq.out (by first | decide | (simp; done)) 0 ([a]) (by first | rfl | decide) (by first | rfl | decide)).mono ?_
  rintro e w7 ⟨Sq_1, rfl, hobj, hupd, hfar⟩
  (try go_wp2_with fail)
  refine hK.out _ _ ?_
  clear hK K
  (try simp only [Act.put, sA, sB, sC])
  have HS7 := Lib.hid (Since.upd HS6.out hupd (QO.low HFq.out))
  have HBA7 := Lib.hid (Upd.blk hupd HBA6.out HIA_q.out)
  have HIA_q_7 := Lib.hid (nin_next hfar HIA_q.out (Blk.lt HBA6.out))
  have HFq7 := Lib.hid hobj
  clear hupd hobj hfar HS6 HBA6 HFq
  refine wpList_nil ?_
  go_upto_region 6 with fail
  refine wp_region_lit ?_
  refine wpList_q (by rfl) (.pointer (some ⟨q1, 0, none⟩)) ?he ?_
  case he => (first | rfl | (go_simp; (try with_reducible rfl)))
  (try simp only [Act.put, sA, sB, sC])
  refine wpList_wp (by rfl) (fun K hK => ?_)
  (try go_simp)
  refine (listV w.heap.size q1 (btw 3 0 64) [a] Sq_1 _ HFq7.out (by simp) 1 (by rfl)).mono ?_
  rintro e w8 ⟨Al, cl, rfl, hown, hb⟩
  (try go_wp2_with fail)
  refine hK.out _ _ ?_
  clear hK K
  (try simp only [Act.put, sA, sB, sC])
  have HDl := Lib.hid (show ∀ g ∈ Sq_1, g ∉ blkOf Al from fun g hg hA => by have q1 := QO.lt HFq7.out g hg; have q2 := own_low hown g hA; omega)
  have HIA_l := Lib.hid (show w.heap.size ∉ blkOf Al from fun hA => by have q1 := Blk.lt HBA7.out; have q2 := own_low hown _ hA; omega)
  have hown2 := own_base (lo' := w.heap.size) hown (Since.size HS7.out)
  have HS8 := Lib.hid (Since.trans HS7.out hb)
  have HBA8 := Lib.hid (keep_blk hb HBA7.out)
  have HFq8 := Lib.hid (QO.keep hb HFq7.out)
  clear HS7 HBA7 HFq7
  clear hb
  have HFl := Lib.hid hown2
  clear hown hown2
  refine wpList_q (by rfl) (.slice Al 1 cl) ?he ?_
  case he => (first | rfl | (go_simp; (try with_reducible rfl)))
  (try simp only [Act.put, sA, sB, sC])
  refine wpList_nil ?_
  go_upto_region 7 with fail
  refine wp_region_lit ?_
  refine wpList_q (by rfl) (.slice Al 1 cl) ?he ?_
  case he => (first | rfl | (go_simp; (try with_reducible rfl)))
  (try simp only [Act.put, sA, sB, sC])
  refine wpList_q (by rfl) (.int .i64 1) ?he ?_
  case he => (go_simp; (try with_reducible rfl))
  (try simp only [Act.put, sA, sB, sC])
  refine wpList_q (by rfl) (.bool false) ?he ?_
  case he => (go_simp; (try with_reducible rfl))
  (try simp only [Act.put, sA, sB, sC])
  refine wpList_nil ?_
  obtain ⟨g, hg⟩ := own_addr HFl.out (by decide)
  subst hg
  go_upto_region 9 with fail
  refine wp_region_lit ?_
  refine wpList_q (by rfl) (.slice (some ⟨g, 0, none⟩) 1 cl) ?he ?_
  case he => (first | rfl | (go_simp; (try with_reducible rfl)))
  (try simp only [Act.put, sA, sB, sC])
  refine wpList_q (by rfl) (.pointer (some ⟨g, 0, none⟩)) ?he ?_
  case he => exact exec_index (i := 0) (s := 5) (off := 0) 35 30 _ _ rfl rfl rfl rfl (by decide) Try.underlying35 (by kernel_rfl)
  (try simp only [Act.put, sA, sB, sC])
  refine wpList_q (by rfl) (.pointer (some ⟨g, 4, none⟩)) ?he ?_
  case he => (first | rfl | (go_simp; (try with_reducible rfl)))
  (try simp only [Act.put, sA, sB, sC])
  refine wpList_q (by rfl) (.int .i64 a.ma) ?he ?_
  case he => exact exec_at 3 _ _ (own_rng (i := 0) (m := 5) HFl.out (l := askC a) (by rfl) 4 _ rfl) rfl rfl Try.underlying3 rfl
  (try simp only [Act.put, sA, sB, sC])
  refine wpList_q (by rfl) (.int .i64 (IntKind.i64.wrap (a.ma + 1))) ?he ?_
  case he => (go_simp; (try with_reducible rfl))
  (try simp only [Act.put, sA, sB, sC])
  refine wpList_q (by rfl) (.pointer (some ⟨g, 0, none⟩)) ?he ?_
  case he => exact exec_index (i := 0) (s := 5) (off := 0) 35 30 _ _ rfl rfl rfl rfl (by decide) Try.underlying35 (by kernel_rfl)
  (try simp only [Act.put, sA, sB, sC])
  refine wpList_q (by rfl) (.pointer (some ⟨g, 4, none⟩)) ?he ?_
  case he => (first | rfl | (go_simp; (try with_reducible rfl)))
  (try simp only [Act.put, sA, sB, sC])
  refine wpList_wp (by rfl) (fun K hK => ?_)
  obtain ⟨cur, hcur, hcz⟩ : ∃ cur : Array Value, Blk w8 g 30 cur ∧ 5 ≤ cur.size := by
    rcases own_at HFl.out with ⟨h, _⟩ | ⟨g', cur, he, _, hB, hc, _, hs, _⟩
    · cases h
    · simp at he; subst he; exact ⟨cur, hB, by omega⟩
  refine wp_st_cell 3 _ _ rfl (cur.setIfInBounds 4 (.int .i64 (IntKind.i64.wrap (a.ma + 1)))) (.int .i64 (IntKind.i64.wrap (a.ma + 1))) rfl rfl hcur (by omega) rfl (by first | rfl | simp [Value.oneCell']) (by kernel_rfl) ?_
  intro w9 hw
  refine hK.out _ _ ?_
  clear hK K
  (try simp only [Act.put, sA, sB, sC])
  clear hcur hcz
  have HS9 := Lib.hid (show Since w w9 by rw [hw]; exact Since.setRow HS8.out (own_low HFl.out g (by simp [blkOf])) _)
  have HBA9 := Lib.hid (show Blk w9 w.heap.size 30 #[.int .i64 a.se, .int .i64 a.fl, .int .i64 a.fm, .int .i64 a.to, .int .i64 a.ma] by rw [hw]; exact Blk.row_far HBA8.out (fun h => HIA_l.out (by rw [h]; simp [blkOf])) _)
  have HFq9 := Lib.hid (show QO w.heap.size q1 (btw 3 0 64) ([a]) Sq_1 w9 by rw [hw]; exact QO.row_far HFq8.out (fun h => HDl.out g h (by simp [blkOf])) _)
  clear hw HS8 HBA8 HFq8 HFl
  refine wpList_nil ?_
  go_upto_region 10 with fail
  refine wp_region_lit ?_
  refine wpList_q (by rfl) (.pointer (some ⟨q1, 0, none⟩)) ?he ?_
  case he => (first | rfl | (go_simp; (try with_reducible rfl)))
  (try simp only [Act.put, sA, sB, sC])
  refine wpList_wp (by rfl) (fun K hK => ?_)
  (try go_simp)
  refine (listV w.heap.size q1 (btw 3 0 64) [a] Sq_1 _ HFq9.out (by simp) 1 (by rfl)).mono ?_
  rintro e w10 ⟨Am, cm, rfl, hown, hb⟩
  (try go_wp2_with fail)
  refine hK.out _ _ ?_
  clear hK K
  (try simp only [Act.put, sA, sB, sC])
  have HDm := Lib.hid (show ∀ g ∈ Sq_1, g ∉ blkOf Am from fun g hg hA => by have q1 := QO.lt HFq9.out g hg; have q2 := own_low hown g hA; omega)
  have HIA_m := Lib.hid (show w.heap.size ∉ blkOf Am from fun hA => by have q1 := Blk.lt HBA9.out; have q2 := own_low hown _ hA; omega)
  have hown2 := own_base (lo' := w.heap.size) hown (Since.size HS9.out)
  have HS10 := Lib.hid (Since.trans HS9.out hb)
  have HBA10 := Lib.hid (keep_blk hb HBA9.out)
  have HFq10 := Lib.hid (QO.keep hb HFq9.out)
  clear HS9 HBA9 HFq9
  clear hb
  have HFm := Lib.hid hown2
  clear hown hown2
  refine wpList_q (by rfl) (.slice Am 1 cm) ?he ?_
  case he => (first | rfl | (go_simp; (try with_reducible rfl)))
  (try simp only [Act.put, sA, sB, sC])
  refine wpList_nil ?_
  obtain ⟨g2, hg⟩ := own_addr HFm.out (by decide)
  subst hg
  go_upto_region 11 with fail
  have hrK : ∀ W W' : World, Since W W' → (Since w W ∧ Blk W w.heap.size 30 #[.int .i64 a.se, .int .i64 a.fl, .int .i64 a.fm, .int .i64 a.to, .int .i64 a.ma] ∧ (W).ownsRow w.heap.size 30 5 (.slice (some ⟨g2, 0, none⟩) 1 cm) 1 (rowsOf askC [a])) → (Since w W' ∧ Blk W' w.heap.size 30 #[.int .i64 a.se, .int .i64 a.fl, .int .i64 a.fm, .int .i64 a.to, .int .i64 a.ma] ∧ (W').ownsRow w.heap.size 30 5 (.slice (some ⟨g2, 0, none⟩) 1 cm) 1 (rowsOf askC [a])) := fun W W' k ⟨h, h0, h1⟩ => ⟨h.trans k, keep_blk k h0, keep_own k h1⟩
  have hrS : (fun W : World => Since w W ∧ Blk W w.heap.size 30 #[.int .i64 a.se, .int .i64 a.fl, .int .i64 a.fm, .int .i64 a.to, .int .i64 a.ma] ∧ (W).ownsRow w.heap.size 30 5 (.slice (some ⟨g2, 0, none⟩) 1 cm) 1 (rowsOf askC [a])) w10 := ⟨HS10.out, HBA10.out, HFm.out⟩
  have HRK := Lib.hid hrK
  have HRD := Lib.hid (show (fun W : World => Since w W ∧ Blk W w.heap.size 30 #[.int .i64 a.se, .int .i64 a.fl, .int .i64 a.fm, .int .i64 a.to, .int .i64 a.ma] ∧ (W).ownsRow w.heap.size 30 5 (.slice (some ⟨g2, 0, none⟩) 1 cm) 1 (rowsOf askC [a])) (World.drew w10) from ⟨Since.drew hrS.1, hrS.2⟩)
  clear hrK hrS
  refine wp_region_held_drew (S := fun W : World => Since w W ∧ Blk W w.heap.size 30 #[.int .i64 a.se, .int .i64 a.fl, .int .i64 a.fm, .int .i64 a.to, .int .i64 a.ma] ∧ (W).ownsRow w.heap.size 30 5 (.slice (some ⟨g2, 0, none⟩) 1 cm) 1 (rowsOf askC [a])) (by kernel_rfl) HRD.out (fun hHeld => ?_)
  refine wpAnyH_ready (rs := [0]) (by kernel_rfl) (by simp) ?_
  refine AllReadyH.cons (o := ?o11__0) ?h11__0 (fun K hK => ?_) AllReadyH.nil
  case h11__0 => (first | (simp only [gA, gB, gC]; done) | (simp only [gA, gB, gC]; exact rfl))
  (try go_simp)
  refine (ans _).mono ?_
  rintro e w11 ⟨rfl, hb⟩
  (try go_wp2_with fail)
  refine hK.out _ _ (by (apply HRK.out; exact hb; exact hHeld)) (fun hHeld2 => ?_)
  clear hK K hHeld hb
  have hHeld := hHeld2
  clear hHeld2
  (try simp only [Act.put, sA, sB, sC])
  refine wpAnyH_take (i := 1) (oi := ?o11__1) (v := .bool true) ?h11__1 (by kernel_rfl) (by kernel_rfl) (by kernel_rfl) ?q11__1 ?y11__1 (by assumption) ?_
  case h11__1 => (first | (simp only [gA, gB, gC]; done) | (simp only [gA, gB, gC]; exact rfl))
  case q11__1 => exact fun _ _ _ h => h
  case y11__1 => (refine Or.inl ⟨rfl, ?_⟩; intro w hSw; (first | rfl | (go_simp; (try with_reducible rfl))))
  (try simp only [Act.put, sA, sB, sC])
  refine wpAnyH_take (i := 2) (oi := ?o11__2) (v := .pointer none) ?h11__2 (by kernel_rfl) (by kernel_rfl) (by kernel_rfl) ?q11__2 ?y11__2 (by assumption) ?_
  case h11__2 => (first | (simp only [gA, gB, gC]; done) | (simp only [gA, gB, gC]; exact rfl))
  case q11__2 => exact fun _ _ _ h => h
  case y11__2 => (refine Or.inl ⟨rfl, ?_⟩; intro w hSw; (first | rfl | (go_simp; (try with_reducible rfl))))
  (try simp only [Act.put, sA, sB, sC])
  refine wpAnyH_take (i := 3) (oi := ?o11__3) (v := .agg #[.int .i64 a.se, .int .i64 a.fl, .int .i64 a.fm, .int .i64 a.to, .int .i64 a.ma]) ?h11__3 (by kernel_rfl) (by kernel_rfl) (by kernel_rfl) ?q11__3 ?y11__3 (by assumption) ?_
  case h11__3 => (first | (simp only [gA, gB, gC]; done) | (simp only [gA, gB, gC]; exact rfl))
  case q11__3 => exact fun _ _ _ h => h
  case y11__3 => (refine Or.inl ⟨rfl, ?_⟩; intro w hSw; exact exec_load_row 30 _ _ hSw.2.1 rfl rfl Try.underlying30 rfl (by kernel_rfl))
  (try simp only [Act.put, sA, sB, sC])
  refine wpAnyH_ready (rs := [4]) (by kernel_rfl) (by simp) ?_
  refine AllReadyH.cons (o := ?o11__4) ?h11__4 (fun K hK => ?_) AllReadyH.nil
  case h11__4 => (first | (simp only [gA, gB, gC]; done) | (simp only [gA, gB, gC]; exact rfl))
  (try go_simp)
  refine (putNil a _).mono ?_
  rintro e w12 ⟨rfl, hb⟩
  (try go_wp2_with fail)
  refine hK.out _ _ (by (apply HRK.out; exact hb; exact hHeld)) (fun hHeld2 => ?_)
  clear hK K hHeld hb
  have hHeld := hHeld2
  clear hHeld2
  (try simp only [Act.put, sA, sB, sC])
  refine wpAnyH_take (i := 5) (oi := ?o11__5) (v := .bool true) ?h11__5 (by kernel_rfl) (by kernel_rfl) (by kernel_rfl) ?q11__5 ?y11__5 (by assumption) ?_
  case h11__5 => (first | (simp only [gA, gB, gC]; done) | (simp only [gA, gB, gC]; exact rfl))
  case q11__5 => exact fun _ _ _ h => h
  case y11__5 => (refine Or.inl ⟨rfl, ?_⟩; intro w hSw; (go_simp; (try with_reducible rfl)))
  (try simp only [Act.put, sA, sB, sC])
  refine wpAnyH_take (i := 6) (oi := ?o11__6) (v := .bool true) ?h11__6 (by kernel_rfl) (by kernel_rfl) (by kernel_rfl) ?q11__6 ?y11__6 (by assumption) ?_
  case h11__6 => (first | (simp only [gA, gB, gC]; done) | (simp only [gA, gB, gC]; exact rfl))
  case q11__6 => exact fun _ _ _ h => h
  case y11__6 => (refine Or.inl ⟨rfl, ?_⟩; intro w hSw; (first | rfl | (go_simp; (try with_reducible rfl))))
  (try simp only [Act.put, sA, sB, sC])
  refine wpAnyH_take (i := 7) (oi := ?o11__7) (v := .bool true) ?h11__7 (by kernel_rfl) (by kernel_rfl) (by kernel_rfl) ?q11__7 ?y11__7 (by assumption) ?_
  case h11__7 => (first | (simp only [gA, gB, gC]; done) | (simp only [gA, gB, gC]; exact rfl))
  case q11__7 => exact fun _ _ _ h => h
  case y11__7 => (refine Or.inl ⟨rfl, ?_⟩; intro w hSw; (first | rfl | (go_simp; (try with_reducible rfl))))
  (try simp only [Act.put, sA, sB, sC])
  refine wpAnyH_take (i := 8) (oi := ?o11__8) (v := .pointer none) ?h11__8 (by kernel_rfl) (by kernel_rfl) (by kernel_rfl) ?q11__8 ?y11__8 (by assumption) ?_
  case h11__8 => (first | (simp only [gA, gB, gC]; done) | (simp only [gA, gB, gC]; exact rfl))
  case q11__8 => exact fun _ _ _ h => h
  case y11__8 => (refine Or.inl ⟨rfl, ?_⟩; intro w hSw; (first | rfl | (go_simp; (try with_reducible rfl))))
  (try simp only [Act.put, sA, sB, sC])
  refine wpAnyH_take (i := 9) (oi := ?o11__9) (v := .pointer (some ⟨w.heap.size, 0, none⟩)) ?h11__9 (by kernel_rfl) (by kernel_rfl) (by kernel_rfl) ?q11__9 ?y11__9 (by assumption) ?_
  case h11__9 => (first | (simp only [gA, gB, gC]; done) | (simp only [gA, gB, gC]; exact rfl))
  case q11__9 => exact fun _ _ _ h => h
  case y11__9 => (refine Or.inl ⟨rfl, ?_⟩; intro w hSw; (first | rfl | (go_simp; (try with_reducible rfl))))
  (try simp only [Act.put, sA, sB, sC])
  refine wpAnyH_take (i := 10) (oi := ?o11__10) (v := .int .i64 a.se) ?h11__10 (by kernel_rfl) (by kernel_rfl) (by kernel_rfl) ?q11__10 ?y11__10 (by assumption) ?_
  case h11__10 => (first | (simp only [gA, gB, gC]; done) | (simp only [gA, gB, gC]; exact rfl))
  case q11__10 => exact fun _ _ _ h => h
  case y11__10 => (refine Or.inl ⟨rfl, ?_⟩; intro w hSw; exact exec_cell 3 _ _ hSw.2.1 rfl rfl rfl Try.underlying3 rfl)
  (try simp only [Act.put, sA, sB, sC])
  refine wpAnyH_ready (rs := [11]) (by kernel_rfl) (by simp) ?_
  refine AllReadyH.cons (o := ?o11__11) ?h11__11 (fun K hK => ?_) AllReadyH.nil
  case h11__11 => (first | (simp only [gA, gB, gC]; done) | (simp only [gA, gB, gC]; exact rfl))
  (try go_simp)
  refine (dropNil a.se _).mono ?_
  rintro e w13 ⟨rfl, hb⟩
  (try go_wp2_with fail)
  refine hK.out _ _ (by (apply HRK.out; exact hb; exact hHeld)) (fun hHeld2 => ?_)
  clear hK K hHeld hb
  have hHeld := hHeld2
  clear hHeld2
  (try simp only [Act.put, sA, sB, sC])
  refine wpAnyH_take (i := 12) (oi := ?o11__12) (v := .bool true) ?h11__12 (by kernel_rfl) (by kernel_rfl) (by kernel_rfl) ?q11__12 ?y11__12 (by assumption) ?_
  case h11__12 => (first | (simp only [gA, gB, gC]; done) | (simp only [gA, gB, gC]; exact rfl))
  case q11__12 => exact fun _ _ _ h => h
  case y11__12 => (refine Or.inl ⟨rfl, ?_⟩; intro w hSw; (go_simp; (try with_reducible rfl)))
  (try simp only [Act.put, sA, sB, sC])
  refine wpAnyH_take (i := 13) (oi := ?o11__13) (v := .bool true) ?h11__13 (by kernel_rfl) (by kernel_rfl) (by kernel_rfl) ?q11__13 ?y11__13 (by assumption) ?_
  case h11__13 => (first | (simp only [gA, gB, gC]; done) | (simp only [gA, gB, gC]; exact rfl))
  case q11__13 => exact fun _ _ _ h => h
  case y11__13 => (refine Or.inl ⟨rfl, ?_⟩; intro w hSw; (first | rfl | (go_simp; (try with_reducible rfl))))
  (try simp only [Act.put, sA, sB, sC])
  refine wpAnyH_take (i := 14) (oi := ?o11__14) (v := .bool true) ?h11__14 (by kernel_rfl) (by kernel_rfl) (by kernel_rfl) ?q11__14 ?y11__14 (by assumption) ?_
  case h11__14 => (first | (simp only [gA, gB, gC]; done) | (simp only [gA, gB, gC]; exact rfl))
  case q11__14 => exact fun _ _ _ h => h
  case y11__14 => (refine Or.inl ⟨rfl, ?_⟩; intro w hSw; (first | rfl | (go_simp; (try with_reducible rfl))))
  (try simp only [Act.put, sA, sB, sC])
  refine wpAnyH_take (i := 15) (oi := ?o11__15) (v := .bool false) ?h11__15 (by kernel_rfl) (by kernel_rfl) (by kernel_rfl) ?q11__15 ?y11__15 (by assumption) ?_
  case h11__15 => (first | (simp only [gA, gB, gC]; done) | (simp only [gA, gB, gC]; exact rfl))
  case q11__15 => exact fun _ _ _ h => h
  case y11__15 => (refine Or.inl ⟨rfl, ?_⟩; intro w hSw; (first | rfl | (go_simp; (try with_reducible rfl))))
  (try simp only [Act.put, sA, sB, sC])
  refine wpAnyH_take (i := 16) (oi := ?o11__16) (v := .bool true) ?h11__16 (by kernel_rfl) (by kernel_rfl) (by kernel_rfl) ?q11__16 ?y11__16 (by assumption) ?_
  case h11__16 => (first | (simp only [gA, gB, gC]; done) | (simp only [gA, gB, gC]; exact rfl))
  case q11__16 => exact fun _ _ _ h => h
  case y11__16 => (refine Or.inl ⟨rfl, ?_⟩; intro w hSw; (go_simp; (try with_reducible rfl)))
  (try simp only [Act.put, sA, sB, sC])
  refine wpAnyH_take (i := 17) (oi := ?o11__17) (v := .bool true) ?h11__17 (by kernel_rfl) (by kernel_rfl) (by kernel_rfl) ?q11__17 ?y11__17 (by assumption) ?_
  case h11__17 => (first | (simp only [gA, gB, gC]; done) | (simp only [gA, gB, gC]; exact rfl))
  case q11__17 => exact fun _ _ _ h => h
  case y11__17 => (refine Or.inl ⟨rfl, ?_⟩; intro w hSw; (first | rfl | (go_simp; (try with_reducible rfl))))
  (try simp only [Act.put, sA, sB, sC])
  refine wpAnyH_take (i := 18) (oi := ?o11__18) (v := .bool true) ?h11__18 (by kernel_rfl) (by kernel_rfl) (by kernel_rfl) ?q11__18 ?y11__18 (by assumption) ?_
  case h11__18 => (first | (simp only [gA, gB, gC]; done) | (simp only [gA, gB, gC]; exact rfl))
  case q11__18 => exact fun _ _ _ h => h
  case y11__18 => (refine Or.inl ⟨rfl, ?_⟩; intro w hSw; (first | rfl | (go_simp; (try with_reducible rfl))))
  (try simp only [Act.put, sA, sB, sC])
  refine wpAnyH_take (i := 19) (oi := ?o11__19) (v := .bool false) ?h11__19 (by kernel_rfl) (by kernel_rfl) (by kernel_rfl) ?q11__19 ?y11__19 (by assumption) ?_
  case h11__19 => (first | (simp only [gA, gB, gC]; done) | (simp only [gA, gB, gC]; exact rfl))
  case q11__19 => exact fun _ _ _ h => h
  case y11__19 => (refine Or.inl ⟨rfl, ?_⟩; intro w hSw; (first | rfl | (go_simp; (try with_reducible rfl))))
  (try simp only [Act.put, sA, sB, sC])
  refine wpAnyH_take (i := 20) (oi := ?o11__20) (v := .bool true) ?h11__20 (by kernel_rfl) (by kernel_rfl) (by kernel_rfl) ?q11__20 ?y11__20 (by assumption) ?_
  case h11__20 => (first | (simp only [gA, gB, gC]; done) | (simp only [gA, gB, gC]; exact rfl))
  case q11__20 => exact fun _ _ _ h => h
  case y11__20 => (refine Or.inl ⟨rfl, ?_⟩; intro w hSw; (go_simp; (try with_reducible rfl)))
  (try simp only [Act.put, sA, sB, sC])
  refine wpAnyH_take (i := 21) (oi := ?o11__21) (v := .bool true) ?h11__21 (by kernel_rfl) (by kernel_rfl) (by kernel_rfl) ?q11__21 ?y11__21 (by assumption) ?_
  case h11__21 => (first | (simp only [gA, gB, gC]; done) | (simp only [gA, gB, gC]; exact rfl))
  case q11__21 => exact fun _ _ _ h => h
  case y11__21 => (refine Or.inl ⟨rfl, ?_⟩; intro w hSw; (first | rfl | (go_simp; (try with_reducible rfl))))
  (try simp only [Act.put, sA, sB, sC])
  refine wpAnyH_take (i := 22) (oi := ?o11__22) (v := .bool true) ?h11__22 (by kernel_rfl) (by kernel_rfl) (by kernel_rfl) ?q11__22 ?y11__22 (by assumption) ?_
  case h11__22 => (first | (simp only [gA, gB, gC]; done) | (simp only [gA, gB, gC]; exact rfl))
  case q11__22 => exact fun _ _ _ h => h
  case y11__22 => (refine Or.inl ⟨rfl, ?_⟩; intro w hSw; (first | rfl | (go_simp; (try with_reducible rfl))))
  (try simp only [Act.put, sA, sB, sC])
  refine wpAnyH_take (i := 23) (oi := ?o11__23) (v := .pointer none) ?h11__23 (by kernel_rfl) (by kernel_rfl) (by kernel_rfl) ?q11__23 ?y11__23 (by assumption) ?_
  case h11__23 => (first | (simp only [gA, gB, gC]; done) | (simp only [gA, gB, gC]; exact rfl))
  case q11__23 => exact fun _ _ _ h => h
  case y11__23 => (refine Or.inl ⟨rfl, ?_⟩; intro w hSw; (first | rfl | (go_simp; (try with_reducible rfl))))
  (try simp only [Act.put, sA, sB, sC])
  refine wpAnyH_ready (rs := [24]) (by kernel_rfl) (by simp) ?_
  refine AllReadyH.cons (o := ?o11__24) ?h11__24 (fun K hK => ?_) AllReadyH.nil
  case h11__24 => (first | (simp only [gA, gB, gC]; done) | (simp only [gA, gB, gC]; exact rfl))
  (try go_simp)
  refine (listNil _).mono ?_
  rintro e w14 ⟨rfl, hb⟩
  (try go_wp2_with fail)
  refine hK.out _ _ (by (apply HRK.out; exact hb; exact hHeld)) (fun hHeld2 => ?_)
  clear hK K hHeld hb
  have hHeld := hHeld2
  clear hHeld2
  (try simp only [Act.put, sA, sB, sC])
  refine wpAnyH_take (i := 25) (oi := ?o11__25) (v := .int .i64 0) ?h11__25 (by kernel_rfl) (by kernel_rfl) (by kernel_rfl) ?q11__25 ?y11__25 (by assumption) ?_
  case h11__25 => (first | (simp only [gA, gB, gC]; done) | (simp only [gA, gB, gC]; exact rfl))
  case q11__25 => exact fun _ _ _ h => h
  case y11__25 => (refine Or.inl ⟨rfl, ?_⟩; intro w hSw; (go_simp; (try with_reducible rfl)))
  (try simp only [Act.put, sA, sB, sC])
  refine wpAnyH_take (i := 26) (oi := ?o11__26) (v := .bool true) ?h11__26 (by kernel_rfl) (by kernel_rfl) (by kernel_rfl) ?q11__26 ?y11__26 (by assumption) ?_
  case h11__26 => (first | (simp only [gA, gB, gC]; done) | (simp only [gA, gB, gC]; exact rfl))
  case q11__26 => exact fun _ _ _ h => h
  case y11__26 => (refine Or.inl ⟨rfl, ?_⟩; intro w hSw; (go_simp; (try with_reducible rfl)))
  (try simp only [Act.put, sA, sB, sC])
  refine wpAnyH_take (i := 27) (oi := ?o11__27) (v := .bool true) ?h11__27 (by kernel_rfl) (by kernel_rfl) (by kernel_rfl) ?q11__27 ?y11__27 (by assumption) ?_
  case h11__27 => (first | (simp only [gA, gB, gC]; done) | (simp only [gA, gB, gC]; exact rfl))
  case q11__27 => exact fun _ _ _ h => h
  case y11__27 => (refine Or.inl ⟨rfl, ?_⟩; intro w hSw; (first | rfl | (go_simp; (try with_reducible rfl))))
  (try simp only [Act.put, sA, sB, sC])
  refine wpAnyH_take (i := 28) (oi := ?o11__28) (v := .bool true) ?h11__28 (by kernel_rfl) (by kernel_rfl) (by kernel_rfl) ?q11__28 ?y11__28 (by assumption) ?_
  case h11__28 => (first | (simp only [gA, gB, gC]; done) | (simp only [gA, gB, gC]; exact rfl))
  case q11__28 => exact fun _ _ _ h => h
  case y11__28 => (refine Or.inl ⟨rfl, ?_⟩; intro w hSw; (first | rfl | (go_simp; (try with_reducible rfl))))
  (try simp only [Act.put, sA, sB, sC])
  refine wpAnyH_take (i := 29) (oi := ?o11__29) (v := .slice (some ⟨g2, 0, none⟩) 1 cm) ?h11__29 (by kernel_rfl) (by kernel_rfl) (by kernel_rfl) ?q11__29 ?y11__29 (by assumption) ?_
  case h11__29 => (first | (simp only [gA, gB, gC]; done) | (simp only [gA, gB, gC]; exact rfl))
  case q11__29 => exact fun _ _ _ h => h
  case y11__29 => (refine Or.inl ⟨rfl, ?_⟩; intro w hSw; (first | rfl | (go_simp; (try with_reducible rfl))))
  (try simp only [Act.put, sA, sB, sC])
  refine wpAnyH_take (i := 30) (oi := ?o11__30) (v := .int .i64 1) ?h11__30 (by kernel_rfl) (by kernel_rfl) (by kernel_rfl) ?q11__30 ?y11__30 (by assumption) ?_
  case h11__30 => (first | (simp only [gA, gB, gC]; done) | (simp only [gA, gB, gC]; exact rfl))
  case q11__30 => exact fun _ _ _ h => h
  case y11__30 => (refine Or.inl ⟨rfl, ?_⟩; intro w hSw; (go_simp; (try with_reducible rfl)))
  (try simp only [Act.put, sA, sB, sC])
  refine wpAnyH_take (i := 31) (oi := ?o11__31) (v := .bool true) ?h11__31 (by kernel_rfl) (by kernel_rfl) (by kernel_rfl) ?q11__31 ?y11__31 (by assumption) ?_
  case h11__31 => (first | (simp only [gA, gB, gC]; done) | (simp only [gA, gB, gC]; exact rfl))
  case q11__31 => exact fun _ _ _ h => h
  case y11__31 => (refine Or.inl ⟨rfl, ?_⟩; intro w hSw; (go_simp; (try with_reducible rfl)))
  (try simp only [Act.put, sA, sB, sC])
  refine wpAnyH_take (i := 32) (oi := ?o11__32) (v := .bool true) ?h11__32 (by kernel_rfl) (by kernel_rfl) (by kernel_rfl) ?q11__32 ?y11__32 (by assumption) ?_
  case h11__32 => (first | (simp only [gA, gB, gC]; done) | (simp only [gA, gB, gC]; exact rfl))
  case q11__32 => exact fun _ _ _ h => h
  case y11__32 => (refine Or.inl ⟨rfl, ?_⟩; intro w hSw; (first | rfl | (go_simp; (try with_reducible rfl))))
  (try simp only [Act.put, sA, sB, sC])
  refine wpAnyH_take (i := 33) (oi := ?o11__33) (v := .bool true) ?h11__33 (by kernel_rfl) (by kernel_rfl) (by kernel_rfl) ?q11__33 ?y11__33 (by assumption) ?_
  case h11__33 => (first | (simp only [gA, gB, gC]; done) | (simp only [gA, gB, gC]; exact rfl))
  case q11__33 => exact fun _ _ _ h => h
  case y11__33 => (refine Or.inl ⟨rfl, ?_⟩; intro w hSw; (first | rfl | (go_simp; (try with_reducible rfl))))
  (try simp only [Act.put, sA, sB, sC])
  refine wpAnyH_take (i := 34) (oi := ?o11__34) (v := .slice (some ⟨g2, 0, none⟩) 1 cm) ?h11__34 (by kernel_rfl) (by kernel_rfl) (by kernel_rfl) ?q11__34 ?y11__34 (by assumption) ?_
  case h11__34 => (first | (simp only [gA, gB, gC]; done) | (simp only [gA, gB, gC]; exact rfl))
  case q11__34 => exact fun _ _ _ h => h
  case y11__34 => (refine Or.inl ⟨rfl, ?_⟩; intro w hSw; (first | rfl | (go_simp; (try with_reducible rfl))))
  (try simp only [Act.put, sA, sB, sC])
  refine wpAnyH_take (i := 35) (oi := ?o11__35) (v := .pointer (some ⟨g2, 0, none⟩)) ?h11__35 (by kernel_rfl) (by kernel_rfl) (by kernel_rfl) ?q11__35 ?y11__35 (by assumption) ?_
  case h11__35 => (first | (simp only [gA, gB, gC]; done) | (simp only [gA, gB, gC]; exact rfl))
  case q11__35 => exact fun _ _ _ h => h
  case y11__35 => (refine Or.inl ⟨rfl, ?_⟩; intro w hSw; exact exec_index (i := 0) (s := 5) (off := 0) 35 30 _ _ rfl rfl rfl rfl (by decide) Try.underlying35 (by kernel_rfl))
  (try simp only [Act.put, sA, sB, sC])
  refine wpAnyH_take (i := 36) (oi := ?o11__36) (v := .agg #[.int .i64 a.se, .int .i64 a.fl, .int .i64 a.fm, .int .i64 a.to, .int .i64 a.ma]) ?h11__36 (by kernel_rfl) (by kernel_rfl) (by kernel_rfl) ?q11__36 ?y11__36 (by assumption) ?_
  case h11__36 => (first | (simp only [gA, gB, gC]; done) | (simp only [gA, gB, gC]; exact rfl))
  case q11__36 => exact fun _ _ _ h => h
  case y11__36 => (refine Or.inl ⟨rfl, ?_⟩; intro w hSw; exact exec_rng (l := askC a) 30 _ _ (own_rng (i := 0) (m := 5) hSw.2.2 (by rfl)) rfl rfl Try.underlying30 rfl (by kernel_rfl))
  (try simp only [Act.put, sA, sB, sC])
  refine wpAnyH_take (i := 37) (oi := ?o11__37) (v := .agg #[.int .i64 a.se, .int .i64 a.fl, .int .i64 a.fm, .int .i64 a.to, .int .i64 a.ma]) ?h11__37 (by kernel_rfl) (by kernel_rfl) (by kernel_rfl) ?q11__37 ?y11__37 (by assumption) ?_
  case h11__37 => (first | (simp only [gA, gB, gC]; done) | (simp only [gA, gB, gC]; exact rfl))
  case q11__37 => exact fun _ _ _ h => h
  case y11__37 => (refine Or.inl ⟨rfl, ?_⟩; intro w hSw; exact exec_load_row 30 _ _ hSw.2.1 rfl rfl Try.underlying30 rfl (by kernel_rfl))
  (try simp only [Act.put, sA, sB, sC])
  refine wpAnyH_take (i := 38) (oi := ?o11__38) (v := .bool true) ?h11__38 (by kernel_rfl) (by kernel_rfl) (by kernel_rfl) ?q11__38 ?y11__38 (by assumption) ?_
  case h11__38 => (first | (simp only [gA, gB, gC]; done) | (simp only [gA, gB, gC]; exact rfl))
  case q11__38 => exact fun _ _ _ h => h
  case y11__38 => (refine Or.inl ⟨rfl, ?_⟩; intro w hSw; (first | (go_simp; done) | (go_simp; simp)))
  (try simp only [Act.put, sA, sB, sC])
  refine wpAnyH_take (i := 39) (oi := ?o11__39) (v := .bool true) ?h11__39 (by kernel_rfl) (by kernel_rfl) (by kernel_rfl) ?q11__39 ?y11__39 (by assumption) ?_
  case h11__39 => (first | (simp only [gA, gB, gC]; done) | (simp only [gA, gB, gC]; exact rfl))
  case q11__39 => exact fun _ _ _ h => h
  case y11__39 => (refine Or.inl ⟨rfl, ?_⟩; intro w hSw; (first | rfl | (go_simp; (try with_reducible rfl))))
  (try simp only [Act.put, sA, sB, sC])
  refine wpAnyH_take (i := 40) (oi := ?o11__40) (v := .bool true) ?h11__40 (by kernel_rfl) (by kernel_rfl) (by kernel_rfl) ?q11__40 ?y11__40 (by assumption) ?_
  case h11__40 => (first | (simp only [gA, gB, gC]; done) | (simp only [gA, gB, gC]; exact rfl))
  case q11__40 => exact fun _ _ _ h => h
  case y11__40 => (refine Or.inl ⟨rfl, ?_⟩; intro w hSw; (first | rfl | (go_simp; (try with_reducible rfl))))
  (try simp only [Act.put, sA, sB, sC])
  refine wpAnyH_done (by kernel_rfl) ?_ _
  have HSd11 := Lib.hid hHeld.1
  have HBAd11 := Lib.hid (hHeld.2.1)
  have HFmd11 := Lib.hid (hHeld.2.2)
  clear hHeld HRK HRD HS10 HBA10 HFm
  (try go_wp2_with fail)
  go_ret
  exact ⟨rfl, HSd11.out⟩
end Go.Proofs.Ytggafipgfgbbiaa.Qu
