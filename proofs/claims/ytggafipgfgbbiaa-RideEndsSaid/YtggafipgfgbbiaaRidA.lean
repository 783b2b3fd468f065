/-
  What the laws on rides lean on: Aim, Left, SameMsgs, the fixed answers.
  No condition.
-/
import Derived.Test.YtggafipgfgbbiaaRidF
namespace Go.Proofs.Ytggafipgfgbbiaa.Ri
set_option linter.unusedVariables false
set_option linter.unusedSimpArgs false
open Go.RowKit Go.Proofs.Ytggafipgfgbbiaa.Ba Go.Proofs.Ytggafipgfgbbiaa.Mo Go.Proofs.Ytggafipgfgbbiaa.Ty Go.Proofs.Ytggafipgfgbbiaa.Mem Go.Proofs.Ytggafipgfgbbiaa.Tm Go.Proofs.Ytggafipgfgbbiaa.Tw
open Go.Proofs.Ytggafipgfgbbiaa.Ce (ms ms_lo ms_hi massT nearT nr)
open Go.Proofs.Ytggafipgfgbbiaa.Fl (massR)
set_option maxRecDepth 100000
theorem configA (w : World) : Calls Try.prog 81 #[] w fun e w' => e = .returned (.agg #[.int .i64 0, .int .i64 5, .int .i64 0, .int .i64 0, .int .i64 2, .int .i64 0, .int .i64 9, .int .i64 1, .int .i64 0, .int .i64 0, .int .i64 0, .int .i64 0, .int .i64 5, .int .i64 0, .int .i64 0, .int .i64 0, .int .i64 0, .int .i64 0]) ∧ Since w w' := by
  go_enter Try.func81, Try.ntmps81
  go_wp2
  exact bodyPost_ret (results_cell_row rfl _ _ w.heap.size 23 #[.int .i64 0, .int .i64 5, .int .i64 0, .int .i64 0, .int .i64 2, .int .i64 0, .int .i64 9, .int .i64 1, .int .i64 0, .int .i64 0, .int .i64 0, .int .i64 0, .int .i64 5, .int .i64 0, .int .i64 0, .int .i64 0, .int .i64 0, .int .i64 0] (0, 0) _ rfl (heap_alloc_new w _) Try.underlying23 rfl (by kernel_rfl)) rfl ⟨rfl, (Since.refl w).alloc _⟩
/-- Where a lease wants its car. -/
def aimF (l : LeaseV) : Int := if l.ph ≤ 2 then l.fm else l.to
theorem ret2 {a b : Int} (h : a = b) : Ending.returned (.tuple #[.int .i64 a, .bool true]) = .returned (.tuple #[.int .i64 b, .bool true]) := by rw [h]
theorem aimT (l : LeaseV) (w : World) : Calls Try.prog 52 #[.agg #[.int .i64 l.se, .int .i64 l.fl, .int .i64 l.fm, .int .i64 l.to, .int .i64 l.ma, .int .i64 l.ca, .int .i64 l.ph, .int .i64 l.un, .int .i64 l.re, .int .i64 l.gr]] w fun e w' => e = .returned (.tuple #[.int .i64 (aimF l), .bool true]) ∧ Since w w' := by
  by_cases h : l.ph ≤ 2
  · have HF := Lib.hid (show aimF l = l.fm from if_pos h)
    go_enter Try.func52, Try.ntmps52
    go_wp2
    go_ret2
    exact ⟨ret2 HF.out.symm, (by repeat (first | exact Since.refl _ | assumption | refine Since.setCell ?_ (by first | (simp; done) | (simp; omega)) _ | refine Since.drew ?_ | refine Since.drewN ?_ _ | refine Since.alloc ?_ _ | refine Since.trans ?_ (by assumption) | refine Since.trans ?_ (Hid.out (by assumption))))⟩
  · have HF := Lib.hid (show aimF l = l.to from if_neg h)
    go_enter Try.func52, Try.ntmps52
    go_wp2
    go_ret2
    exact ⟨ret2 HF.out.symm, (by repeat (first | exact Since.refl _ | assumption | refine Since.setCell ?_ (by first | (simp; done) | (simp; omega)) _ | refine Since.drew ?_ | refine Since.drewN ?_ _ | refine Since.alloc ?_ _ | refine Since.trans ?_ (by assumption) | refine Since.trans ?_ (Hid.out (by assumption))))⟩
theorem aimR (l : LeaseV) (w : World) : Calls Try.prog 53 #[.agg #[.int .i64 l.se, .int .i64 l.fl, .int .i64 l.fm, .int .i64 l.to, .int .i64 l.ma, .int .i64 l.ca, .int .i64 l.ph, .int .i64 l.un, .int .i64 l.re, .int .i64 l.gr]] w fun e w' => e = .returned (.tuple #[.int .i64 (aimF l), .bool true]) ∧ Since w w' := by
  by_cases h : l.ph ≤ 2
  · have HF := Lib.hid (show aimF l = l.fm from if_pos h)
    go_enter Try.func53, Try.ntmps53
    go_wp2
    go_ret2
    exact ⟨ret2 HF.out.symm, (by repeat (first | exact Since.refl _ | assumption | refine Since.setCell ?_ (by first | (simp; done) | (simp; omega)) _ | refine Since.drew ?_ | refine Since.drewN ?_ _ | refine Since.alloc ?_ _ | refine Since.trans ?_ (by assumption) | refine Since.trans ?_ (Hid.out (by assumption))))⟩
  · have HF := Lib.hid (show aimF l = l.to from if_neg h)
    go_enter Try.func53, Try.ntmps53
    go_wp2
    go_ret2
    exact ⟨ret2 HF.out.symm, (by repeat (first | exact Since.refl _ | assumption | refine Since.setCell ?_ (by first | (simp; done) | (simp; omega)) _ | refine Since.drew ?_ | refine Since.drewN ?_ _ | refine Since.alloc ?_ _ | refine Since.trans ?_ (by assumption) | refine Since.trans ?_ (Hid.out (by assumption))))⟩
/-- How much time it has. -/
def leftV (l : LeaseV) (now : Int) : Int := if cl l.un - cl now < 0 then 0 else cl l.un - cl now
theorem leftT (l : LeaseV) (now : Int) (w : World) : Calls Try.prog 55 #[.agg #[.int .i64 l.se, .int .i64 l.fl, .int .i64 l.fm, .int .i64 l.to, .int .i64 l.ma, .int .i64 l.ca, .int .i64 l.ph, .int .i64 l.un, .int .i64 l.re, .int .i64 l.gr], .int .i64 now] w fun e w' => e = .returned (.int .i64 (leftV l now)) ∧ Since w w' := by
  have h1 := cl_lo l.un
  have h2 := cl_hi l.un
  have h3 := cl_lo now
  have h4 := cl_hi now
  by_cases h : cl l.un - cl now < 0
  · have HF := Lib.hid (show leftV l now = 0 from if_pos h)
    go_enter Try.func55, Try.ntmps55
    go_wp2_with (first | (go_at_call 88; refine (clT _ _).mono ?_; rintro e w' ⟨rfl, rfl⟩))
    go_ret
    exact ⟨ret_int HF.out.symm, (by repeat (first | exact Since.refl _ | assumption | refine Since.setCell ?_ (by first | (simp; done) | (simp; omega)) _ | refine Since.drew ?_ | refine Since.drewN ?_ _ | refine Since.alloc ?_ _ | refine Since.trans ?_ (by assumption) | refine Since.trans ?_ (Hid.out (by assumption))))⟩
  · have HF := Lib.hid (show leftV l now = cl l.un - cl now from if_neg h)
    go_enter Try.func55, Try.ntmps55
    go_wp2_with (first | (go_at_call 88; refine (clT _ _).mono ?_; rintro e w' ⟨rfl, rfl⟩))
    go_ret
    exact ⟨ret_int HF.out.symm, (by repeat (first | exact Since.refl _ | assumption | refine Since.setCell ?_ (by first | (simp; done) | (simp; omega)) _ | refine Since.drew ?_ | refine Since.drewN ?_ _ | refine Since.alloc ?_ _ | refine Since.trans ?_ (by assumption) | refine Since.trans ?_ (Hid.out (by assumption))))⟩
theorem same0 (w : World) : Calls Try.prog 54 #[.slice none 0 0, .slice none 0 0] w fun e w' => e = .returned (.bool true) ∧ Since w w' := by
  go_enter Try.func54, Try.ntmps54
  go_wp2_with fail
  refine wp_loop_rounds 1 ?_
  rw [rounds_succ]
  go_wp2
  go_ret
  exact ⟨rfl, (by repeat (first | exact Since.refl _ | assumption | refine Since.setCell ?_ (by first | (simp; done) | (simp; omega)) _ | refine Since.drew ?_ | refine Since.drewN ?_ _ | refine Since.alloc ?_ _ | refine Since.trans ?_ (by assumption) | refine Since.trans ?_ (Hid.out (by assumption))))⟩
theorem same1 (m : MsgV) (b1 b2 : Nat) (w : World) (B1 : Blk w b1 85 (msgC m)) (B2 : Blk w b2 85 (msgC m)) : Calls Try.prog 54 #[.slice (some ⟨b1, 0, none⟩) 1 1, .slice (some ⟨b2, 0, none⟩) 1 1] w fun e w' => e = .returned (.bool true) ∧ Since w w' := by
  have a0 : w.cell? ⟨b1, 0, none⟩ = some (.int .i64 m.ki) := Blk.cell B1 0
  have a1 : w.cell? ⟨b1, 1, none⟩ = some (.int .i64 m.a) := Blk.cell B1 1
  have a2 : w.cell? ⟨b1, 2, none⟩ = some (.int .i64 m.b) := Blk.cell B1 2
  have a3 : w.cell? ⟨b1, 3, none⟩ = some (.int .i64 m.c) := Blk.cell B1 3
  have d0 : w.cell? ⟨b2, 0, none⟩ = some (.int .i64 m.ki) := Blk.cell B2 0
  have d1 : w.cell? ⟨b2, 1, none⟩ = some (.int .i64 m.a) := Blk.cell B2 1
  have d2 : w.cell? ⟨b2, 2, none⟩ = some (.int .i64 m.b) := Blk.cell B2 2
  have d3 : w.cell? ⟨b2, 3, none⟩ = some (.int .i64 m.c) := Blk.cell B2 3
  clear B1 B2
  go_enter Try.func54, Try.ntmps54
  go_wp2_with fail
  refine wp_loop_rounds 2 ?_
  rw [rounds_succ]
  go_wp2_with fail
  go_quiet (fail)
  go_wp2_with fail
  rw [rounds_succ]
  go_wp2
  go_ret
  exact ⟨rfl, (by repeat (first | exact Since.refl _ | assumption | refine Since.setCell ?_ (by first | (simp; done) | (simp; omega)) _ | refine Since.drew ?_ | refine Since.drewN ?_ _ | refine Since.alloc ?_ _ | refine Since.trans ?_ (by assumption) | refine Since.trans ?_ (Hid.out (by assumption))))⟩
theorem tickA1 (w : World) : Calls Try.prog 50 #[.agg #[.int .i64 0, .int .i64 5, .int .i64 0, .int .i64 0, .int .i64 2, .int .i64 0, .int .i64 9, .int .i64 1, .int .i64 0, .int .i64 0, .int .i64 0, .int .i64 0, .int .i64 5, .int .i64 0, .int .i64 0, .int .i64 0, .int .i64 0, .int .i64 0], .agg #[.int .i64 0, .int .i64 0, .int .i64 0, .int .i64 1, .int .i64 50, .int .i64 0, .int .i64 1, .int .i64 20, .int .i64 0, .int .i64 0], .agg #[.int .i64 2, .int .i64 2, .int .i64 0, .int .i64 0, .int .i64 0, .int .i64 0, .int .i64 0, .bool false, .bool false, .int .i64 0, .int .i64 0, .bool false, .int .u64 0, .int .u64 0, .int .u64 0], .int .i64 5] w (Said w (⟨0, 0, 0, 1, 50, 0, 2, 14, 0, 0⟩, some ⟨8, 0, 0, 0⟩, false)) := by
  have h := tickT ⟨0, 5, 0, 0, 2, 0, 9, 1, 0, 0, 0, 0, 5, 0, 0, 0, 0, 0⟩ ⟨0, 0, 0, 1, 50, 0, 1, 20, 0, 0⟩ ⟨2, 2, 0, 0, 0, 0, 0, false, false, 0, 0, false, 0, 0, 0⟩ 5 w
  rw [show tickV ⟨0, 5, 0, 0, 2, 0, 9, 1, 0, 0, 0, 0, 5, 0, 0, 0, 0, 0⟩ ⟨0, 0, 0, 1, 50, 0, 1, 20, 0, 0⟩ ⟨2, 2, 0, 0, 0, 0, 0, false, false, 0, 0, false, 0, 0, 0⟩ 5 = (⟨0, 0, 0, 1, 50, 0, 2, 14, 0, 0⟩, some ⟨8, 0, 0, 0⟩, false) by kernel_rfl] at h
  exact h
theorem hearA1 (w : World) : Calls Try.prog 57 #[.agg #[.int .i64 0, .int .i64 5, .int .i64 0, .int .i64 0, .int .i64 2, .int .i64 0, .int .i64 9, .int .i64 1, .int .i64 0, .int .i64 0, .int .i64 0, .int .i64 0, .int .i64 5, .int .i64 0, .int .i64 0, .int .i64 0, .int .i64 0, .int .i64 0], .agg #[.int .i64 0, .int .i64 0, .int .i64 0, .int .i64 1, .int .i64 50, .int .i64 0, .int .i64 2, .int .i64 14, .int .i64 0, .int .i64 0], .agg #[.int .i64 0, .int .i64 0, .int .i64 0, .int .i64 0, .int .i64 0, .int .i64 0, .int .i64 51, .bool false, .bool false, .int .i64 0, .int .i64 0, .bool false, .int .u64 0, .int .u64 0, .int .u64 0], .int .i64 6, .agg (msgC ⟨9, 0, 0, 0⟩)] w (Said w (⟨0, 0, 0, 1, 50, 0, 3, 32, 0, 0⟩, some ⟨10, 0, 0, 0⟩, false)) := by
  have h := hearT ⟨0, 5, 0, 0, 2, 0, 9, 1, 0, 0, 0, 0, 5, 0, 0, 0, 0, 0⟩ ⟨0, 0, 0, 1, 50, 0, 2, 14, 0, 0⟩ ⟨0, 0, 0, 0, 0, 0, 51, false, false, 0, 0, false, 0, 0, 0⟩ 6 ⟨9, 0, 0, 0⟩ w
  rw [show hearV ⟨0, 5, 0, 0, 2, 0, 9, 1, 0, 0, 0, 0, 5, 0, 0, 0, 0, 0⟩ ⟨0, 0, 0, 1, 50, 0, 2, 14, 0, 0⟩ ⟨0, 0, 0, 0, 0, 0, 51, false, false, 0, 0, false, 0, 0, 0⟩ 6 ⟨9, 0, 0, 0⟩ = (⟨0, 0, 0, 1, 50, 0, 3, 32, 0, 0⟩, some ⟨10, 0, 0, 0⟩, false) by kernel_rfl] at h
  exact h
theorem aimA (w : World) : Calls Try.prog 52 #[.agg #[.int .i64 0, .int .i64 0, .int .i64 0, .int .i64 1, .int .i64 50, .int .i64 0, .int .i64 3, .int .i64 32, .int .i64 0, .int .i64 0]] w fun e w' => e = .returned (.tuple #[.int .i64 1, .bool true]) ∧ Since w w' := aimT ⟨0, 0, 0, 1, 50, 0, 3, 32, 0, 0⟩ w
theorem leftA (w : World) : Calls Try.prog 55 #[.agg #[.int .i64 0, .int .i64 0, .int .i64 0, .int .i64 1, .int .i64 50, .int .i64 0, .int .i64 2, .int .i64 14, .int .i64 0, .int .i64 0], .int .i64 5] w fun e w' => e = .returned (.int .i64 9) ∧ Since w w' := leftT ⟨0, 0, 0, 1, 50, 0, 2, 14, 0, 0⟩ 5 w
set_option maxHeartbeats 4000000 in
theorem ans (w : World) : Calls Try.prog 49 #[] w fun e w' => e = .returned (.bool true) ∧ Since w w' := by
  go_enter Try.func49, Try.ntmps49
  go_upto_region 1 with fail
  have HS1 := Lib.hid (Since.refl w)
  refine wp_region_lit ?_
  refine wpList_q (by rfl) (.agg #[.int .i64 0, .int .i64 0, .int .i64 0, .int .i64 1, .int .i64 50]) ?he ?_
  case he => kernel_rfl
  (try simp only [Act.put, sA, sB, sC])
  refine wpList_q (by rfl) (.agg #[.int .i64 0, .int .i64 0, .int .i64 0, .int .i64 1, .int .i64 50, .int .i64 0, .int .i64 1, .int .i64 20, .int .i64 0, .int .i64 0]) ?he ?_
  case he => kernel_rfl
  (try simp only [Act.put, sA, sB, sC])
  refine wpList_wp (by rfl) (fun K hK => ?_)
  refine wp_new (fun b => .pointer (some ⟨b, 0, none⟩)) 56 #[.int .i64 0, .int .i64 0, .int .i64 0, .int .i64 0, .int .i64 0, .int .i64 0, .int .i64 0, .int .i64 0, .int .i64 0, .int .i64 0] (by rintro b rfl; first | rfl | kernel_rfl) ?_
  intro bn1 w2 hge hB hb
  refine hK.out _ _ ?_
  clear hK K
  (try simp only [Act.put, sA, sB, sC])
  have HGn1 := Lib.hid (show w.heap.size ≤ bn1 by have := Since.size HS1.out; omega)
  have HS2 := Lib.hid (Since.trans HS1.out hb)
  clear HS1 
  clear hb hge
  have HBn12 := Lib.hid hB
  clear hB
  refine wpList_wp (by rfl) (fun K hK => ?_)
  refine wp_st_row 56 _ _ rfl #[.int .i64 0, .int .i64 0, .int .i64 0, .int .i64 1, .int .i64 50, .int .i64 0, .int .i64 1, .int .i64 20, .int .i64 0, .int .i64 0] rfl rfl (HasRow.of HBn12.out rfl) rfl (by simp [cfgA, leaA, carA, msgC, Value.oneCell']) (by kernel_rfl) ?_
  intro w3 hw
  refine hK.out _ _ ?_
  clear hK K
  (try simp only [Act.put, sA, sB, sC])
  have HS3 := Lib.hid (show Since w w3 by rw [hw]; exact Since.setRow HS2.out HGn1.out _)
  have HBn13 := Lib.hid (show Blk w3 bn1 56 #[.int .i64 0, .int .i64 0, .int .i64 0, .int .i64 1, .int .i64 50, .int .i64 0, .int .i64 1, .int .i64 20, .int .i64 0, .int .i64 0] by rw [hw]; exact Blk.row HBn12.out _)
  clear hw HS2 HBn12
  refine wpList_nil ?_
  go_upto_region 2 with fail
  go_cut [2, 3, 4] (fun s2 s3 s4 wx => Hid (∃ bm1 : Nat, ∃ bn2 : Nat, s2 = .pointer (some ⟨bn2, 0, none⟩) ∧ s3 = .slice (some ⟨bm1, 0, none⟩) 1 1 ∧ s4 = .bool false ∧ Since w wx ∧ Blk wx bn1 56 #[.int .i64 0, .int .i64 0, .int .i64 0, .int .i64 1, .int .i64 50, .int .i64 0, .int .i64 1, .int .i64 20, .int .i64 0, .int .i64 0] ∧ Blk wx bm1 85 #[.int .i64 8, .int .i64 0, .int .i64 0, .int .i64 0] ∧ Blk wx bn2 56 #[.int .i64 0, .int .i64 0, .int .i64 0, .int .i64 1, .int .i64 50, .int .i64 0, .int .i64 2, .int .i64 14, .int .i64 0, .int .i64 0] ∧ w.heap.size ≤ bm1 ∧ bm1 ≠ bn1 ∧ w.heap.size ≤ bn2 ∧ bn2 ≠ bn1 ∧ bn2 ≠ bm1))
  case first =>
    have hrK : ∀ W W' : World, Since W W' → (Since w W ∧ Blk W bn1 56 #[.int .i64 0, .int .i64 0, .int .i64 0, .int .i64 1, .int .i64 50, .int .i64 0, .int .i64 1, .int .i64 20, .int .i64 0, .int .i64 0]) → (Since w W' ∧ Blk W' bn1 56 #[.int .i64 0, .int .i64 0, .int .i64 0, .int .i64 1, .int .i64 50, .int .i64 0, .int .i64 1, .int .i64 20, .int .i64 0, .int .i64 0]) := fun W W' k ⟨h, h0⟩ => ⟨h.trans k, keep_blk k h0⟩
    have hrS : (fun W : World => Since w W ∧ Blk W bn1 56 #[.int .i64 0, .int .i64 0, .int .i64 0, .int .i64 1, .int .i64 50, .int .i64 0, .int .i64 1, .int .i64 20, .int .i64 0, .int .i64 0]) w3 := ⟨HS3.out, HBn13.out⟩
    have HRK := Lib.hid hrK
    have HRD := Lib.hid (show (fun W : World => Since w W ∧ Blk W bn1 56 #[.int .i64 0, .int .i64 0, .int .i64 0, .int .i64 1, .int .i64 50, .int .i64 0, .int .i64 1, .int .i64 20, .int .i64 0, .int .i64 0]) (World.drew w3) from ⟨Since.drew hrS.1, hrS.2⟩)
    clear hrK hrS
    refine wp_region_held_drew (S := fun W : World => Since w W ∧ Blk W bn1 56 #[.int .i64 0, .int .i64 0, .int .i64 0, .int .i64 1, .int .i64 50, .int .i64 0, .int .i64 1, .int .i64 20, .int .i64 0, .int .i64 0]) (by kernel_rfl) HRD.out (fun hHeld => ?_)
    refine wpAnyH_take (i := 1) (oi := ?o2__1) (v := .agg #[.int .i64 0, .int .i64 0, .int .i64 0, .int .i64 1, .int .i64 50, .int .i64 0, .int .i64 1, .int .i64 20, .int .i64 0, .int .i64 0]) ?h2__1 (by kernel_rfl) (by kernel_rfl) (by kernel_rfl) ?q2__1 ?y2__1 (by assumption) ?_
    case h2__1 => (first | (simp only [gA, gB, gC]; done) | (simp only [gA, gB, gC]; exact rfl))
    case q2__1 => exact fun _ _ _ h => h
    case y2__1 => (refine Or.inl ⟨rfl, ?_⟩; intro w hSw; exact exec_load_row 56 _ _ hSw.2 rfl rfl Try.underlying56 rfl (by kernel_rfl))
    (try simp only [Act.put, sA, sB, sC])
    refine wpAnyH_take (i := 2) (oi := ?o2__2) (v := .agg #[.int .i64 2, .int .i64 2]) ?h2__2 (by kernel_rfl) (by kernel_rfl) (by kernel_rfl) ?q2__2 ?y2__2 (by assumption) ?_
    case h2__2 => (first | (simp only [gA, gB, gC]; done) | (simp only [gA, gB, gC]; exact rfl))
    case q2__2 => exact fun _ _ _ h => h
    case y2__2 => (refine Or.inl ⟨rfl, ?_⟩; intro w hSw; kernel_rfl)
    (try simp only [Act.put, sA, sB, sC])
    refine wpAnyH_take (i := 3) (oi := ?o2__3) (v := .agg #[.int .i64 2, .int .i64 2, .int .i64 0, .int .i64 0, .int .i64 0, .int .i64 0, .int .i64 0, .bool false, .bool false, .int .i64 0, .int .i64 0, .bool false, .int .u64 0, .int .u64 0, .int .u64 0]) ?h2__3 (by kernel_rfl) (by kernel_rfl) (by kernel_rfl) ?q2__3 ?y2__3 (by assumption) ?_
    case h2__3 => (first | (simp only [gA, gB, gC]; done) | (simp only [gA, gB, gC]; exact rfl))
    case q2__3 => exact fun _ _ _ h => h
    case y2__3 => (refine Or.inl ⟨rfl, ?_⟩; intro w hSw; kernel_rfl)
    (try simp only [Act.put, sA, sB, sC])
    refine wpAnyH_ready (rs := [0, 9]) (by kernel_rfl) (by simp) ?_
    refine AllReadyH.cons (o := ?o2__0b) ?h2__0b (fun K hK => ?g2__0b) (AllReadyH.cons (o := ?o2__9b) ?h2__9b (fun K hK => ?g2__9b) AllReadyH.nil)
    case h2__0b => (first | (simp only [gA, gB, gC]; done) | (simp only [gA, gB, gC]; exact rfl))
    case h2__9b => (first | (simp only [gA, gB, gC]; done) | (simp only [gA, gB, gC]; exact rfl))
    case g2__0b =>
      (try go_simp)
      refine (configA _).mono ?_
      rintro e w4 ⟨rfl, hb⟩
      (try go_wp2_with fail)
      refine hK.out _ _ (by (apply HRK.out; exact hb; exact hHeld)) (fun hHeld2 => ?_)
      clear hK K hHeld hb
      have hHeld := hHeld2
      clear hHeld2
      (try simp only [Act.put, sA, sB, sC])
      refine wpAnyH_ready (rs := [4, 9]) (by kernel_rfl) (by simp) ?_
      refine AllReadyH.cons (o := ?o2_b0_4b) ?h2_b0_4b (fun K hK => ?g2_b0_4b) (AllReadyH.cons (o := ?o2_b0_9b) ?h2_b0_9b (fun K hK => ?g2_b0_9b) AllReadyH.nil)
      case h2_b0_4b => (first | (simp only [gA, gB, gC]; done) | (simp only [gA, gB, gC]; exact rfl))
      case h2_b0_9b => (first | (simp only [gA, gB, gC]; done) | (simp only [gA, gB, gC]; exact rfl))
      case g2_b0_4b =>
        (try go_simp)
        refine (tickA1 _).mono ?_
        rintro e w5 ⟨_, rfl, ⟨bm1, rfl, hge, hB⟩, hb⟩
        (try go_wp2_with fail)
        refine hK.out _ _ (by (apply HRK.out; exact hb; exact hHeld)) (fun hHeld2 => ?_)
        have HNm1n1 := Lib.hid (show bm1 ≠ bn1 by have := Blk.lt (hHeld.2); (try simp at this); (try simp at hge); omega)
        have HGm1 := Lib.hid (show w.heap.size ≤ bm1 by have := Since.size hHeld.1; (try simp at this); (try simp at hge); omega)
        have HXm1 := Lib.hid hB
        clear hB
        clear hge
        clear hK K hHeld hb
        have hHeld := hHeld2
        clear hHeld2
        (try simp only [Act.put, sA, sB, sC])
        refine wpAnyH_take (i := 5) (oi := ?o2_b0b4_5) (v := .tuple #[.agg #[.int .i64 0, .int .i64 0, .int .i64 0, .int .i64 1, .int .i64 50, .int .i64 0, .int .i64 2, .int .i64 14, .int .i64 0, .int .i64 0], .slice (some ⟨bm1, 0, none⟩) 1 1, .bool false]) ?h2_b0b4_5 (by kernel_rfl) (by kernel_rfl) (by kernel_rfl) ?q2_b0b4_5 ?y2_b0b4_5 (by assumption) ?_
        case h2_b0b4_5 => (first | (simp only [gA, gB, gC]; done) | (simp only [gA, gB, gC]; exact rfl))
        case q2_b0b4_5 => exact fun _ _ _ h => h
        case y2_b0b4_5 => (refine Or.inl ⟨rfl, ?_⟩; intro w hSw; (first | rfl | (go_simp; (try with_reducible rfl))))
        (try simp only [Act.put, sA, sB, sC])
        refine wpAnyH_take (i := 6) (oi := ?o2_b0b4_6) (v := .agg #[.int .i64 0, .int .i64 0, .int .i64 0, .int .i64 1, .int .i64 50, .int .i64 0, .int .i64 2, .int .i64 14, .int .i64 0, .int .i64 0]) ?h2_b0b4_6 (by kernel_rfl) (by kernel_rfl) (by kernel_rfl) ?q2_b0b4_6 ?y2_b0b4_6 (by assumption) ?_
        case h2_b0b4_6 => (first | (simp only [gA, gB, gC]; done) | (simp only [gA, gB, gC]; exact rfl))
        case q2_b0b4_6 => exact fun _ _ _ h => h
        case y2_b0b4_6 => (refine Or.inl ⟨rfl, ?_⟩; intro w hSw; (first | rfl | (go_simp; (try with_reducible rfl))))
        (try simp only [Act.put, sA, sB, sC])
        refine wpAnyH_take (i := 7) (oi := ?o2_b0b4_7) (v := .slice (some ⟨bm1, 0, none⟩) 1 1) ?h2_b0b4_7 (by kernel_rfl) (by kernel_rfl) (by kernel_rfl) ?q2_b0b4_7 ?y2_b0b4_7 (by assumption) ?_
        case h2_b0b4_7 => (first | (simp only [gA, gB, gC]; done) | (simp only [gA, gB, gC]; exact rfl))
        case q2_b0b4_7 => exact fun _ _ _ h => h
        case y2_b0b4_7 => (refine Or.inl ⟨rfl, ?_⟩; intro w hSw; (first | rfl | (go_simp; (try with_reducible rfl))))
        (try simp only [Act.put, sA, sB, sC])
        refine wpAnyH_take (i := 8) (oi := ?o2_b0b4_8) (v := .bool false) ?h2_b0b4_8 (by kernel_rfl) (by kernel_rfl) (by kernel_rfl) ?q2_b0b4_8 ?y2_b0b4_8 (by assumption) ?_
        case h2_b0b4_8 => (first | (simp only [gA, gB, gC]; done) | (simp only [gA, gB, gC]; exact rfl))
        case q2_b0b4_8 => exact fun _ _ _ h => h
        case y2_b0b4_8 => (refine Or.inl ⟨rfl, ?_⟩; intro w hSw; (first | rfl | (go_simp; (try with_reducible rfl))))
        (try simp only [Act.put, sA, sB, sC])
        refine wpAnyH_ready (rs := [9]) (by kernel_rfl) (by simp) ?_
        refine AllReadyH.cons (o := ?o2_b0b4_9) ?h2_b0b4_9 (fun K hK => ?_) AllReadyH.nil
        case h2_b0b4_9 => (first | (simp only [gA, gB, gC]; done) | (simp only [gA, gB, gC]; exact rfl))
        rw [if_pos (by rfl)]
        refine wp_new (fun b => .pointer (some ⟨b, 0, none⟩)) 56 #[.int .i64 0, .int .i64 0, .int .i64 0, .int .i64 0, .int .i64 0, .int .i64 0, .int .i64 0, .int .i64 0, .int .i64 0, .int .i64 0] (by rintro b rfl; first | rfl | kernel_rfl) ?_
        intro bn2 w6 hge hB hb
        refine hK.out _ _ (by (apply HRK.out; exact hb; exact hHeld)) (fun hHeld2 => ?_)
        have HNn2m1 := Lib.hid (show bn2 ≠ bm1 by have := Blk.lt HXm1.out; omega)
        have HXm12 := Lib.hid (keep_blk hb HXm1.out)
        clear HXm1
        have HNn2n1 := Lib.hid (show bn2 ≠ bn1 by have := Blk.lt (hHeld.2); (try simp at this); (try simp at hge); omega)
        have HGn2 := Lib.hid (show w.heap.size ≤ bn2 by have := Since.size hHeld.1; (try simp at this); (try simp at hge); omega)
        have HXn2 := Lib.hid hB
        clear hB
        clear hge
        clear hK K hHeld hb
        have hHeld := hHeld2
        clear hHeld2
        (try simp only [Act.put, sA, sB, sC])
        refine wpAnyH_ready (rs := [10]) (by kernel_rfl) (by simp) ?_
        refine AllReadyH.cons (o := ?o2_b0b4_10) ?h2_b0b4_10 (fun K hK => ?_) AllReadyH.nil
        case h2_b0b4_10 => (first | (simp only [gA, gB, gC]; done) | (simp only [gA, gB, gC]; exact rfl))
        rw [if_pos (by rfl)]
        refine wp_st_row 56 _ _ rfl #[.int .i64 0, .int .i64 0, .int .i64 0, .int .i64 1, .int .i64 50, .int .i64 0, .int .i64 2, .int .i64 14, .int .i64 0, .int .i64 0] rfl rfl (HasRow.of HXn2.out rfl) rfl (by simp [cfgA, leaA, carA, msgC, Value.oneCell']) (by kernel_rfl) ?_
        intro w7 hw
        have HXn22 := Lib.hid (show Blk w7 bn2 56 #[.int .i64 0, .int .i64 0, .int .i64 0, .int .i64 1, .int .i64 50, .int .i64 0, .int .i64 2, .int .i64 14, .int .i64 0, .int .i64 0] by rw [hw]; exact Blk.row HXn2.out _)
        have HXm122 := Lib.hid (show Blk w7 bm1 85 #[.int .i64 8, .int .i64 0, .int .i64 0, .int .i64 0] by rw [hw]; exact Blk.row_far HXm12.out (Ne.symm HNn2m1.out) _)
        clear HXm12
        have hHeld3 : (fun W : World => Since w W ∧ Blk W bn1 56 #[.int .i64 0, .int .i64 0, .int .i64 0, .int .i64 1, .int .i64 50, .int .i64 0, .int .i64 1, .int .i64 20, .int .i64 0, .int .i64 0]) w7 := ⟨by rw [hw]; exact Since.setRow hHeld.1 HGn2.out _, by rw [hw]; exact Blk.row_far (hHeld.2) (Ne.symm HNn2n1.out) _⟩
        refine hK.out _ _ hHeld3 (fun hHeld2 => ?_)
        clear HXn2 hK K hHeld hHeld3 hw
        have hHeld := hHeld2
        clear hHeld2
        (try simp only [Act.put, sA, sB, sC])
        refine wpAnyH_take (i := 11) (oi := ?o2_b0b4_11) (v := .slice (some ⟨bm1, 0, none⟩) 1 1) ?h2_b0b4_11 (by kernel_rfl) (by kernel_rfl) (by kernel_rfl) ?q2_b0b4_11 ?y2_b0b4_11 (by assumption) ?_
        case h2_b0b4_11 => (first | (simp only [gA, gB, gC]; done) | (simp only [gA, gB, gC]; exact rfl))
        case q2_b0b4_11 => exact fun _ _ _ h => h
        case y2_b0b4_11 => (refine Or.inl ⟨rfl, ?_⟩; intro w hSw; (first | rfl | (go_simp; (try with_reducible rfl))))
        (try simp only [Act.put, sA, sB, sC])
        refine wpAnyH_take (i := 12) (oi := ?o2_b0b4_12) (v := .bool false) ?h2_b0b4_12 (by kernel_rfl) (by kernel_rfl) (by kernel_rfl) ?q2_b0b4_12 ?y2_b0b4_12 (by assumption) ?_
        case h2_b0b4_12 => (first | (simp only [gA, gB, gC]; done) | (simp only [gA, gB, gC]; exact rfl))
        case q2_b0b4_12 => exact fun _ _ _ h => h
        case y2_b0b4_12 => (refine Or.inl ⟨rfl, ?_⟩; intro w hSw; (first | rfl | (go_simp; (try with_reducible rfl))))
        (try simp only [Act.put, sA, sB, sC])
        refine wpAnyH_done (by kernel_rfl) ?_ _
        have HSd2 := Lib.hid hHeld.1
        have HBn1d2 := Lib.hid (hHeld.2)
        clear hHeld HRK HRD HS3 HBn13
        go_wp2_with fail
        go_meet
        case rel => exact Lib.hid ⟨bm1, bn2, rfl, rfl, rfl, HSd2.out, HBn1d2.out, HXm122.out, HXn22.out, HGm1.out, HNm1n1.out, HGn2.out, HNn2n1.out, HNn2m1.out⟩
      case g2_b0_9b =>
        rw [if_pos (by rfl)]
        refine wp_new (fun b => .pointer (some ⟨b, 0, none⟩)) 56 #[.int .i64 0, .int .i64 0, .int .i64 0, .int .i64 0, .int .i64 0, .int .i64 0, .int .i64 0, .int .i64 0, .int .i64 0, .int .i64 0] (by rintro b rfl; first | rfl | kernel_rfl) ?_
        intro bn2 w5 hge hB hb
        refine hK.out _ _ (by (apply HRK.out; exact hb; exact hHeld)) (fun hHeld2 => ?_)
        have HNn2n1 := Lib.hid (show bn2 ≠ bn1 by have := Blk.lt (hHeld.2); (try simp at this); (try simp at hge); omega)
        have HGn2 := Lib.hid (show w.heap.size ≤ bn2 by have := Since.size hHeld.1; (try simp at this); (try simp at hge); omega)
        have HXn2 := Lib.hid hB
        clear hB
        clear hge
        clear hK K hHeld hb
        have hHeld := hHeld2
        clear hHeld2
        (try simp only [Act.put, sA, sB, sC])
        refine wpAnyH_ready (rs := [4]) (by kernel_rfl) (by simp) ?_
        refine AllReadyH.cons (o := ?o2_b0b9_4) ?h2_b0b9_4 (fun K hK => ?_) AllReadyH.nil
        case h2_b0b9_4 => (first | (simp only [gA, gB, gC]; done) | (simp only [gA, gB, gC]; exact rfl))
        (try go_simp)
        refine (tickA1 _).mono ?_
        rintro e w6 ⟨_, rfl, ⟨bm1, rfl, hge, hB⟩, hb⟩
        (try go_wp2_with fail)
        refine hK.out _ _ (by (apply HRK.out; exact hb; exact hHeld)) (fun hHeld2 => ?_)
        have HNm1n2 := Lib.hid (show bm1 ≠ bn2 by have := Blk.lt HXn2.out; omega)
        have HXn22 := Lib.hid (keep_blk hb HXn2.out)
        clear HXn2
        have HNm1n1 := Lib.hid (show bm1 ≠ bn1 by have := Blk.lt (hHeld.2); (try simp at this); (try simp at hge); omega)
        have HGm1 := Lib.hid (show w.heap.size ≤ bm1 by have := Since.size hHeld.1; (try simp at this); (try simp at hge); omega)
        have HXm1 := Lib.hid hB
        clear hB
        clear hge
        clear hK K hHeld hb
        have hHeld := hHeld2
        clear hHeld2
        (try simp only [Act.put, sA, sB, sC])
        refine wpAnyH_take (i := 5) (oi := ?o2_b0b9_5) (v := .tuple #[.agg #[.int .i64 0, .int .i64 0, .int .i64 0, .int .i64 1, .int .i64 50, .int .i64 0, .int .i64 2, .int .i64 14, .int .i64 0, .int .i64 0], .slice (some ⟨bm1, 0, none⟩) 1 1, .bool false]) ?h2_b0b9_5 (by kernel_rfl) (by kernel_rfl) (by kernel_rfl) ?q2_b0b9_5 ?y2_b0b9_5 (by assumption) ?_
        case h2_b0b9_5 => (first | (simp only [gA, gB, gC]; done) | (simp only [gA, gB, gC]; exact rfl))
        case q2_b0b9_5 => exact fun _ _ _ h => h
        case y2_b0b9_5 => (refine Or.inl ⟨rfl, ?_⟩; intro w hSw; (first | rfl | (go_simp; (try with_reducible rfl))))
        (try simp only [Act.put, sA, sB, sC])
        refine wpAnyH_take (i := 6) (oi := ?o2_b0b9_6) (v := .agg #[.int .i64 0, .int .i64 0, .int .i64 0, .int .i64 1, .int .i64 50, .int .i64 0, .int .i64 2, .int .i64 14, .int .i64 0, .int .i64 0]) ?h2_b0b9_6 (by kernel_rfl) (by kernel_rfl) (by kernel_rfl) ?q2_b0b9_6 ?y2_b0b9_6 (by assumption) ?_
        case h2_b0b9_6 => (first | (simp only [gA, gB, gC]; done) | (simp only [gA, gB, gC]; exact rfl))
        case q2_b0b9_6 => exact fun _ _ _ h => h
        case y2_b0b9_6 => (refine Or.inl ⟨rfl, ?_⟩; intro w hSw; (first | rfl | (go_simp; (try with_reducible rfl))))
        (try simp only [Act.put, sA, sB, sC])
        refine wpAnyH_take (i := 7) (oi := ?o2_b0b9_7) (v := .slice (some ⟨bm1, 0, none⟩) 1 1) ?h2_b0b9_7 (by kernel_rfl) (by kernel_rfl) (by kernel_rfl) ?q2_b0b9_7 ?y2_b0b9_7 (by assumption) ?_
        case h2_b0b9_7 => (first | (simp only [gA, gB, gC]; done) | (simp only [gA, gB, gC]; exact rfl))
        case q2_b0b9_7 => exact fun _ _ _ h => h
        case y2_b0b9_7 => (refine Or.inl ⟨rfl, ?_⟩; intro w hSw; (first | rfl | (go_simp; (try with_reducible rfl))))
        (try simp only [Act.put, sA, sB, sC])
        refine wpAnyH_take (i := 8) (oi := ?o2_b0b9_8) (v := .bool false) ?h2_b0b9_8 (by kernel_rfl) (by kernel_rfl) (by kernel_rfl) ?q2_b0b9_8 ?y2_b0b9_8 (by assumption) ?_
        case h2_b0b9_8 => (first | (simp only [gA, gB, gC]; done) | (simp only [gA, gB, gC]; exact rfl))
        case q2_b0b9_8 => exact fun _ _ _ h => h
        case y2_b0b9_8 => (refine Or.inl ⟨rfl, ?_⟩; intro w hSw; (first | rfl | (go_simp; (try with_reducible rfl))))
        (try simp only [Act.put, sA, sB, sC])
        refine wpAnyH_ready (rs := [10]) (by kernel_rfl) (by simp) ?_
        refine AllReadyH.cons (o := ?o2_b0b9_10) ?h2_b0b9_10 (fun K hK => ?_) AllReadyH.nil
        case h2_b0b9_10 => (first | (simp only [gA, gB, gC]; done) | (simp only [gA, gB, gC]; exact rfl))
        rw [if_pos (by rfl)]
        refine wp_st_row 56 _ _ rfl #[.int .i64 0, .int .i64 0, .int .i64 0, .int .i64 1, .int .i64 50, .int .i64 0, .int .i64 2, .int .i64 14, .int .i64 0, .int .i64 0] rfl rfl (HasRow.of HXn22.out rfl) rfl (by simp [cfgA, leaA, carA, msgC, Value.oneCell']) (by kernel_rfl) ?_
        intro w7 hw
        have HXn222 := Lib.hid (show Blk w7 bn2 56 #[.int .i64 0, .int .i64 0, .int .i64 0, .int .i64 1, .int .i64 50, .int .i64 0, .int .i64 2, .int .i64 14, .int .i64 0, .int .i64 0] by rw [hw]; exact Blk.row HXn22.out _)
        have HXm12 := Lib.hid (show Blk w7 bm1 85 #[.int .i64 8, .int .i64 0, .int .i64 0, .int .i64 0] by rw [hw]; exact Blk.row_far HXm1.out HNm1n2.out _)
        clear HXm1
        have hHeld3 : (fun W : World => Since w W ∧ Blk W bn1 56 #[.int .i64 0, .int .i64 0, .int .i64 0, .int .i64 1, .int .i64 50, .int .i64 0, .int .i64 1, .int .i64 20, .int .i64 0, .int .i64 0]) w7 := ⟨by rw [hw]; exact Since.setRow hHeld.1 HGn2.out _, by rw [hw]; exact Blk.row_far (hHeld.2) (Ne.symm HNn2n1.out) _⟩
        refine hK.out _ _ hHeld3 (fun hHeld2 => ?_)
        clear HXn22 hK K hHeld hHeld3 hw
        have hHeld := hHeld2
        clear hHeld2
        (try simp only [Act.put, sA, sB, sC])
        refine wpAnyH_take (i := 11) (oi := ?o2_b0b9_11) (v := .slice (some ⟨bm1, 0, none⟩) 1 1) ?h2_b0b9_11 (by kernel_rfl) (by kernel_rfl) (by kernel_rfl) ?q2_b0b9_11 ?y2_b0b9_11 (by assumption) ?_
        case h2_b0b9_11 => (first | (simp only [gA, gB, gC]; done) | (simp only [gA, gB, gC]; exact rfl))
        case q2_b0b9_11 => exact fun _ _ _ h => h
        case y2_b0b9_11 => (refine Or.inl ⟨rfl, ?_⟩; intro w hSw; (first | rfl | (go_simp; (try with_reducible rfl))))
        (try simp only [Act.put, sA, sB, sC])
        refine wpAnyH_take (i := 12) (oi := ?o2_b0b9_12) (v := .bool false) ?h2_b0b9_12 (by kernel_rfl) (by kernel_rfl) (by kernel_rfl) ?q2_b0b9_12 ?y2_b0b9_12 (by assumption) ?_
        case h2_b0b9_12 => (first | (simp only [gA, gB, gC]; done) | (simp only [gA, gB, gC]; exact rfl))
        case q2_b0b9_12 => exact fun _ _ _ h => h
        case y2_b0b9_12 => (refine Or.inl ⟨rfl, ?_⟩; intro w hSw; (first | rfl | (go_simp; (try with_reducible rfl))))
        (try simp only [Act.put, sA, sB, sC])
        refine wpAnyH_done (by kernel_rfl) ?_ _
        have HSd2 := Lib.hid hHeld.1
        have HBn1d2 := Lib.hid (hHeld.2)
        clear hHeld HRK HRD HS3 HBn13
        go_wp2_with fail
        go_meet
        case rel => exact Lib.hid ⟨bm1, bn2, rfl, rfl, rfl, HSd2.out, HBn1d2.out, HXm12.out, HXn222.out, HGm1.out, HNm1n1.out, HGn2.out, HNn2n1.out, (Ne.symm HNm1n2.out)⟩
    case g2__9b =>
      rw [if_pos (by rfl)]
      refine wp_new (fun b => .pointer (some ⟨b, 0, none⟩)) 56 #[.int .i64 0, .int .i64 0, .int .i64 0, .int .i64 0, .int .i64 0, .int .i64 0, .int .i64 0, .int .i64 0, .int .i64 0, .int .i64 0] (by rintro b rfl; first | rfl | kernel_rfl) ?_
      intro bn2 w4 hge hB hb
      refine hK.out _ _ (by (apply HRK.out; exact hb; exact hHeld)) (fun hHeld2 => ?_)
      have HNn2n1 := Lib.hid (show bn2 ≠ bn1 by have := Blk.lt (hHeld.2); (try simp at this); (try simp at hge); omega)
      have HGn2 := Lib.hid (show w.heap.size ≤ bn2 by have := Since.size hHeld.1; (try simp at this); (try simp at hge); omega)
      have HXn2 := Lib.hid hB
      clear hB
      clear hge
      clear hK K hHeld hb
      have hHeld := hHeld2
      clear hHeld2
      (try simp only [Act.put, sA, sB, sC])
      refine wpAnyH_ready (rs := [0]) (by kernel_rfl) (by simp) ?_
      refine AllReadyH.cons (o := ?o2_b9_0) ?h2_b9_0 (fun K hK => ?_) AllReadyH.nil
      case h2_b9_0 => (first | (simp only [gA, gB, gC]; done) | (simp only [gA, gB, gC]; exact rfl))
      (try go_simp)
      refine (configA _).mono ?_
      rintro e w5 ⟨rfl, hb⟩
      (try go_wp2_with fail)
      refine hK.out _ _ (by (apply HRK.out; exact hb; exact hHeld)) (fun hHeld2 => ?_)
      have HXn22 := Lib.hid (keep_blk hb HXn2.out)
      clear HXn2
      clear hK K hHeld hb
      have hHeld := hHeld2
      clear hHeld2
      (try simp only [Act.put, sA, sB, sC])
      refine wpAnyH_ready (rs := [4]) (by kernel_rfl) (by simp) ?_
      refine AllReadyH.cons (o := ?o2_b9_4) ?h2_b9_4 (fun K hK => ?_) AllReadyH.nil
      case h2_b9_4 => (first | (simp only [gA, gB, gC]; done) | (simp only [gA, gB, gC]; exact rfl))
      (try go_simp)
      refine (tickA1 _).mono ?_
      rintro e w6 ⟨_, rfl, ⟨bm1, rfl, hge, hB⟩, hb⟩
      (try go_wp2_with fail)
      refine hK.out _ _ (by (apply HRK.out; exact hb; exact hHeld)) (fun hHeld2 => ?_)
      have HNm1n2 := Lib.hid (show bm1 ≠ bn2 by have := Blk.lt HXn22.out; omega)
      have HXn222 := Lib.hid (keep_blk hb HXn22.out)
      clear HXn22
      have HNm1n1 := Lib.hid (show bm1 ≠ bn1 by have := Blk.lt (hHeld.2); (try simp at this); (try simp at hge); omega)
      have HGm1 := Lib.hid (show w.heap.size ≤ bm1 by have := Since.size hHeld.1; (try simp at this); (try simp at hge); omega)
      have HXm1 := Lib.hid hB
      clear hB
      clear hge
      clear hK K hHeld hb
      have hHeld := hHeld2
      clear hHeld2
      (try simp only [Act.put, sA, sB, sC])
      refine wpAnyH_take (i := 5) (oi := ?o2_b9_5) (v := .tuple #[.agg #[.int .i64 0, .int .i64 0, .int .i64 0, .int .i64 1, .int .i64 50, .int .i64 0, .int .i64 2, .int .i64 14, .int .i64 0, .int .i64 0], .slice (some ⟨bm1, 0, none⟩) 1 1, .bool false]) ?h2_b9_5 (by kernel_rfl) (by kernel_rfl) (by kernel_rfl) ?q2_b9_5 ?y2_b9_5 (by assumption) ?_
      case h2_b9_5 => (first | (simp only [gA, gB, gC]; done) | (simp only [gA, gB, gC]; exact rfl))
      case q2_b9_5 => exact fun _ _ _ h => h
      case y2_b9_5 => (refine Or.inl ⟨rfl, ?_⟩; intro w hSw; (first | rfl | (go_simp; (try with_reducible rfl))))
      (try simp only [Act.put, sA, sB, sC])
      refine wpAnyH_take (i := 6) (oi := ?o2_b9_6) (v := .agg #[.int .i64 0, .int .i64 0, .int .i64 0, .int .i64 1, .int .i64 50, .int .i64 0, .int .i64 2, .int .i64 14, .int .i64 0, .int .i64 0]) ?h2_b9_6 (by kernel_rfl) (by kernel_rfl) (by kernel_rfl) ?q2_b9_6 ?y2_b9_6 (by assumption) ?_
      case h2_b9_6 => (first | (simp only [gA, gB, gC]; done) | (simp only [gA, gB, gC]; exact rfl))
      case q2_b9_6 => exact fun _ _ _ h => h
      case y2_b9_6 => (refine Or.inl ⟨rfl, ?_⟩; intro w hSw; (first | rfl | (go_simp; (try with_reducible rfl))))
      (try simp only [Act.put, sA, sB, sC])
      refine wpAnyH_take (i := 7) (oi := ?o2_b9_7) (v := .slice (some ⟨bm1, 0, none⟩) 1 1) ?h2_b9_7 (by kernel_rfl) (by kernel_rfl) (by kernel_rfl) ?q2_b9_7 ?y2_b9_7 (by assumption) ?_
      case h2_b9_7 => (first | (simp only [gA, gB, gC]; done) | (simp only [gA, gB, gC]; exact rfl))
      case q2_b9_7 => exact fun _ _ _ h => h
      case y2_b9_7 => (refine Or.inl ⟨rfl, ?_⟩; intro w hSw; (first | rfl | (go_simp; (try with_reducible rfl))))
      (try simp only [Act.put, sA, sB, sC])
      refine wpAnyH_take (i := 8) (oi := ?o2_b9_8) (v := .bool false) ?h2_b9_8 (by kernel_rfl) (by kernel_rfl) (by kernel_rfl) ?q2_b9_8 ?y2_b9_8 (by assumption) ?_
      case h2_b9_8 => (first | (simp only [gA, gB, gC]; done) | (simp only [gA, gB, gC]; exact rfl))
      case q2_b9_8 => exact fun _ _ _ h => h
      case y2_b9_8 => (refine Or.inl ⟨rfl, ?_⟩; intro w hSw; (first | rfl | (go_simp; (try with_reducible rfl))))
      (try simp only [Act.put, sA, sB, sC])
      refine wpAnyH_ready (rs := [10]) (by kernel_rfl) (by simp) ?_
      refine AllReadyH.cons (o := ?o2_b9_10) ?h2_b9_10 (fun K hK => ?_) AllReadyH.nil
      case h2_b9_10 => (first | (simp only [gA, gB, gC]; done) | (simp only [gA, gB, gC]; exact rfl))
      rw [if_pos (by rfl)]
      refine wp_st_row 56 _ _ rfl #[.int .i64 0, .int .i64 0, .int .i64 0, .int .i64 1, .int .i64 50, .int .i64 0, .int .i64 2, .int .i64 14, .int .i64 0, .int .i64 0] rfl rfl (HasRow.of HXn222.out rfl) rfl (by simp [cfgA, leaA, carA, msgC, Value.oneCell']) (by kernel_rfl) ?_
      intro w7 hw
      have HXn2222 := Lib.hid (show Blk w7 bn2 56 #[.int .i64 0, .int .i64 0, .int .i64 0, .int .i64 1, .int .i64 50, .int .i64 0, .int .i64 2, .int .i64 14, .int .i64 0, .int .i64 0] by rw [hw]; exact Blk.row HXn222.out _)
      have HXm12 := Lib.hid (show Blk w7 bm1 85 #[.int .i64 8, .int .i64 0, .int .i64 0, .int .i64 0] by rw [hw]; exact Blk.row_far HXm1.out HNm1n2.out _)
      clear HXm1
      have hHeld3 : (fun W : World => Since w W ∧ Blk W bn1 56 #[.int .i64 0, .int .i64 0, .int .i64 0, .int .i64 1, .int .i64 50, .int .i64 0, .int .i64 1, .int .i64 20, .int .i64 0, .int .i64 0]) w7 := ⟨by rw [hw]; exact Since.setRow hHeld.1 HGn2.out _, by rw [hw]; exact Blk.row_far (hHeld.2) (Ne.symm HNn2n1.out) _⟩
      refine hK.out _ _ hHeld3 (fun hHeld2 => ?_)
      clear HXn222 hK K hHeld hHeld3 hw
      have hHeld := hHeld2
      clear hHeld2
      (try simp only [Act.put, sA, sB, sC])
      refine wpAnyH_take (i := 11) (oi := ?o2_b9_11) (v := .slice (some ⟨bm1, 0, none⟩) 1 1) ?h2_b9_11 (by kernel_rfl) (by kernel_rfl) (by kernel_rfl) ?q2_b9_11 ?y2_b9_11 (by assumption) ?_
      case h2_b9_11 => (first | (simp only [gA, gB, gC]; done) | (simp only [gA, gB, gC]; exact rfl))
      case q2_b9_11 => exact fun _ _ _ h => h
      case y2_b9_11 => (refine Or.inl ⟨rfl, ?_⟩; intro w hSw; (first | rfl | (go_simp; (try with_reducible rfl))))
      (try simp only [Act.put, sA, sB, sC])
      refine wpAnyH_take (i := 12) (oi := ?o2_b9_12) (v := .bool false) ?h2_b9_12 (by kernel_rfl) (by kernel_rfl) (by kernel_rfl) ?q2_b9_12 ?y2_b9_12 (by assumption) ?_
      case h2_b9_12 => (first | (simp only [gA, gB, gC]; done) | (simp only [gA, gB, gC]; exact rfl))
      case q2_b9_12 => exact fun _ _ _ h => h
      case y2_b9_12 => (refine Or.inl ⟨rfl, ?_⟩; intro w hSw; (first | rfl | (go_simp; (try with_reducible rfl))))
      (try simp only [Act.put, sA, sB, sC])
      refine wpAnyH_done (by kernel_rfl) ?_ _
      have HSd2 := Lib.hid hHeld.1
      have HBn1d2 := Lib.hid (hHeld.2)
      clear hHeld HRK HRD HS3 HBn13
      go_wp2_with fail
      go_meet
      case rel => exact Lib.hid ⟨bm1, bn2, rfl, rfl, rfl, HSd2.out, HBn1d2.out, HXm12.out, HXn2222.out, HGm1.out, HNm1n1.out, HGn2.out, HNn2n1.out, (Ne.symm HNm1n2.out)⟩
  case rest =>
    clear HS3 HBn13
    obtain ⟨bm1, bn2, rfl, rfl, rfl, g0, g1, g2, g3, g4, g5, g6, g7, g8⟩ := hcut.out
    clear hcut
    have HS53 := Lib.hid g0
    have HBn153 := Lib.hid g1
    have HBm153 := Lib.hid g2
    have HBn253 := Lib.hid g3
    have HGm1 := Lib.hid g4
    have HNm1n1 := Lib.hid g5
    have HGn2 := Lib.hid g6
    have HNn2n1 := Lib.hid g7
    have HNn2m1 := Lib.hid g8
    clear g0 g1 g2 g3 g4 g5 g6 g7 g8
    go_upto_region 3 with fail
    go_cut [5, 6, 7] (fun s5 s6 s7 wx => Hid (∃ bm2 : Nat, ∃ bn5 : Nat, s5 = .pointer (some ⟨bn5, 0, none⟩) ∧ s6 = .slice (some ⟨bm2, 0, none⟩) 1 1 ∧ s7 = .bool false ∧ Since w wx ∧ Blk wx bn1 56 #[.int .i64 0, .int .i64 0, .int .i64 0, .int .i64 1, .int .i64 50, .int .i64 0, .int .i64 1, .int .i64 20, .int .i64 0, .int .i64 0] ∧ Blk wx bm1 85 #[.int .i64 8, .int .i64 0, .int .i64 0, .int .i64 0] ∧ Blk wx bn2 56 #[.int .i64 0, .int .i64 0, .int .i64 0, .int .i64 1, .int .i64 50, .int .i64 0, .int .i64 2, .int .i64 14, .int .i64 0, .int .i64 0] ∧ Blk wx bm2 85 #[.int .i64 10, .int .i64 0, .int .i64 0, .int .i64 0] ∧ Blk wx bn5 56 #[.int .i64 0, .int .i64 0, .int .i64 0, .int .i64 1, .int .i64 50, .int .i64 0, .int .i64 3, .int .i64 32, .int .i64 0, .int .i64 0] ∧ w.heap.size ≤ bm2 ∧ bm2 ≠ bn1 ∧ bm2 ≠ bm1 ∧ bm2 ≠ bn2 ∧ w.heap.size ≤ bn5 ∧ bn5 ≠ bn1 ∧ bn5 ≠ bm1 ∧ bn5 ≠ bn2 ∧ bn5 ≠ bm2))
    case first =>
      have hrK : ∀ W W' : World, Since W W' → (Since w W ∧ Blk W bn1 56 #[.int .i64 0, .int .i64 0, .int .i64 0, .int .i64 1, .int .i64 50, .int .i64 0, .int .i64 1, .int .i64 20, .int .i64 0, .int .i64 0] ∧ Blk W bm1 85 #[.int .i64 8, .int .i64 0, .int .i64 0, .int .i64 0] ∧ Blk W bn2 56 #[.int .i64 0, .int .i64 0, .int .i64 0, .int .i64 1, .int .i64 50, .int .i64 0, .int .i64 2, .int .i64 14, .int .i64 0, .int .i64 0]) → (Since w W' ∧ Blk W' bn1 56 #[.int .i64 0, .int .i64 0, .int .i64 0, .int .i64 1, .int .i64 50, .int .i64 0, .int .i64 1, .int .i64 20, .int .i64 0, .int .i64 0] ∧ Blk W' bm1 85 #[.int .i64 8, .int .i64 0, .int .i64 0, .int .i64 0] ∧ Blk W' bn2 56 #[.int .i64 0, .int .i64 0, .int .i64 0, .int .i64 1, .int .i64 50, .int .i64 0, .int .i64 2, .int .i64 14, .int .i64 0, .int .i64 0]) := fun W W' k ⟨h, h0, h1, h2⟩ => ⟨h.trans k, keep_blk k h0, keep_blk k h1, keep_blk k h2⟩
      have hrS : (fun W : World => Since w W ∧ Blk W bn1 56 #[.int .i64 0, .int .i64 0, .int .i64 0, .int .i64 1, .int .i64 50, .int .i64 0, .int .i64 1, .int .i64 20, .int .i64 0, .int .i64 0] ∧ Blk W bm1 85 #[.int .i64 8, .int .i64 0, .int .i64 0, .int .i64 0] ∧ Blk W bn2 56 #[.int .i64 0, .int .i64 0, .int .i64 0, .int .i64 1, .int .i64 50, .int .i64 0, .int .i64 2, .int .i64 14, .int .i64 0, .int .i64 0]) wc := ⟨HS53.out, HBn153.out, HBm153.out, HBn253.out⟩
      have HRK := Lib.hid hrK
      have HRD := Lib.hid (show (fun W : World => Since w W ∧ Blk W bn1 56 #[.int .i64 0, .int .i64 0, .int .i64 0, .int .i64 1, .int .i64 50, .int .i64 0, .int .i64 1, .int .i64 20, .int .i64 0, .int .i64 0] ∧ Blk W bm1 85 #[.int .i64 8, .int .i64 0, .int .i64 0, .int .i64 0] ∧ Blk W bn2 56 #[.int .i64 0, .int .i64 0, .int .i64 0, .int .i64 1, .int .i64 50, .int .i64 0, .int .i64 2, .int .i64 14, .int .i64 0, .int .i64 0]) (World.drew wc) from ⟨Since.drew hrS.1, hrS.2⟩)
      clear hrK hrS
      refine wp_region_held_drew (S := fun W : World => Since w W ∧ Blk W bn1 56 #[.int .i64 0, .int .i64 0, .int .i64 0, .int .i64 1, .int .i64 50, .int .i64 0, .int .i64 1, .int .i64 20, .int .i64 0, .int .i64 0] ∧ Blk W bm1 85 #[.int .i64 8, .int .i64 0, .int .i64 0, .int .i64 0] ∧ Blk W bn2 56 #[.int .i64 0, .int .i64 0, .int .i64 0, .int .i64 1, .int .i64 50, .int .i64 0, .int .i64 2, .int .i64 14, .int .i64 0, .int .i64 0]) (by kernel_rfl) HRD.out (fun hHeld => ?_)
      refine wpAnyH_take (i := 1) (oi := ?o3__1) (v := .agg #[.int .i64 0, .int .i64 0, .int .i64 0, .int .i64 1, .int .i64 50, .int .i64 0, .int .i64 2, .int .i64 14, .int .i64 0, .int .i64 0]) ?h3__1 (by kernel_rfl) (by kernel_rfl) (by kernel_rfl) ?q3__1 ?y3__1 (by assumption) ?_
      case h3__1 => (first | (simp only [gA, gB, gC]; done) | (simp only [gA, gB, gC]; exact rfl))
      case q3__1 => exact fun _ _ _ h => h
      case y3__1 => (refine Or.inl ⟨rfl, ?_⟩; intro w hSw; exact exec_load_row 56 _ _ hSw.2.2.2 rfl rfl Try.underlying56 rfl (by kernel_rfl))
      (try simp only [Act.put, sA, sB, sC])
      refine wpAnyH_take (i := 2) (oi := ?o3__2) (v := .agg #[.int .i64 0, .int .i64 0, .int .i64 0, .int .i64 0, .int .i64 0, .int .i64 0, .int .i64 51, .bool false, .bool false, .int .i64 0, .int .i64 0, .bool false, .int .u64 0, .int .u64 0, .int .u64 0]) ?h3__2 (by kernel_rfl) (by kernel_rfl) (by kernel_rfl) ?q3__2 ?y3__2 (by assumption) ?_
      case h3__2 => (first | (simp only [gA, gB, gC]; done) | (simp only [gA, gB, gC]; exact rfl))
      case q3__2 => exact fun _ _ _ h => h
      case y3__2 => (refine Or.inl ⟨rfl, ?_⟩; intro w hSw; kernel_rfl)
      (try simp only [Act.put, sA, sB, sC])
      refine wpAnyH_take (i := 3) (oi := ?o3__3) (v := .agg #[.int .i64 9, .int .i64 0, .int .i64 0, .int .i64 0]) ?h3__3 (by kernel_rfl) (by kernel_rfl) (by kernel_rfl) ?q3__3 ?y3__3 (by assumption) ?_
      case h3__3 => (first | (simp only [gA, gB, gC]; done) | (simp only [gA, gB, gC]; exact rfl))
      case q3__3 => exact fun _ _ _ h => h
      case y3__3 => (refine Or.inl ⟨rfl, ?_⟩; intro w hSw; kernel_rfl)
      (try simp only [Act.put, sA, sB, sC])
      refine wpAnyH_ready (rs := [0, 9]) (by kernel_rfl) (by simp) ?_
      refine AllReadyH.cons (o := ?o3__0b) ?h3__0b (fun K hK => ?g3__0b) (AllReadyH.cons (o := ?o3__9b) ?h3__9b (fun K hK => ?g3__9b) AllReadyH.nil)
      case h3__0b => (first | (simp only [gA, gB, gC]; done) | (simp only [gA, gB, gC]; exact rfl))
      case h3__9b => (first | (simp only [gA, gB, gC]; done) | (simp only [gA, gB, gC]; exact rfl))
      case g3__0b =>
        (try go_simp)
        refine (configA _).mono ?_
        rintro e w54 ⟨rfl, hb⟩
        (try go_wp2_with fail)
        refine hK.out _ _ (by (apply HRK.out; exact hb; exact hHeld)) (fun hHeld2 => ?_)
        clear hK K hHeld hb
        have hHeld := hHeld2
        clear hHeld2
        (try simp only [Act.put, sA, sB, sC])
        refine wpAnyH_ready (rs := [4, 9]) (by kernel_rfl) (by simp) ?_
        refine AllReadyH.cons (o := ?o3_b0_4b) ?h3_b0_4b (fun K hK => ?g3_b0_4b) (AllReadyH.cons (o := ?o3_b0_9b) ?h3_b0_9b (fun K hK => ?g3_b0_9b) AllReadyH.nil)
        case h3_b0_4b => (first | (simp only [gA, gB, gC]; done) | (simp only [gA, gB, gC]; exact rfl))
        case h3_b0_9b => (first | (simp only [gA, gB, gC]; done) | (simp only [gA, gB, gC]; exact rfl))
        case g3_b0_4b =>
          (try go_simp)
          refine (hearA1 _).mono ?_
          rintro e w55 ⟨_, rfl, ⟨bm2, rfl, hge, hB⟩, hb⟩
          (try go_wp2_with fail)
          refine hK.out _ _ (by (apply HRK.out; exact hb; exact hHeld)) (fun hHeld2 => ?_)
          have HNm2n1 := Lib.hid (show bm2 ≠ bn1 by have := Blk.lt (hHeld.2.1); (try simp at this); (try simp at hge); omega)
          have HNm2m1 := Lib.hid (show bm2 ≠ bm1 by have := Blk.lt (hHeld.2.2.1); (try simp at this); (try simp at hge); omega)
          have HNm2n2 := Lib.hid (show bm2 ≠ bn2 by have := Blk.lt (hHeld.2.2.2); (try simp at this); (try simp at hge); omega)
          have HGm2 := Lib.hid (show w.heap.size ≤ bm2 by have := Since.size hHeld.1; (try simp at this); (try simp at hge); omega)
          have HXm2 := Lib.hid hB
          clear hB
          clear hge
          clear hK K hHeld hb
          have hHeld := hHeld2
          clear hHeld2
          (try simp only [Act.put, sA, sB, sC])
          refine wpAnyH_take (i := 5) (oi := ?o3_b0b4_5) (v := .tuple #[.agg #[.int .i64 0, .int .i64 0, .int .i64 0, .int .i64 1, .int .i64 50, .int .i64 0, .int .i64 3, .int .i64 32, .int .i64 0, .int .i64 0], .slice (some ⟨bm2, 0, none⟩) 1 1, .bool false]) ?h3_b0b4_5 (by kernel_rfl) (by kernel_rfl) (by kernel_rfl) ?q3_b0b4_5 ?y3_b0b4_5 (by assumption) ?_
          case h3_b0b4_5 => (first | (simp only [gA, gB, gC]; done) | (simp only [gA, gB, gC]; exact rfl))
          case q3_b0b4_5 => exact fun _ _ _ h => h
          case y3_b0b4_5 => (refine Or.inl ⟨rfl, ?_⟩; intro w hSw; (first | rfl | (go_simp; (try with_reducible rfl))))
          (try simp only [Act.put, sA, sB, sC])
          refine wpAnyH_take (i := 6) (oi := ?o3_b0b4_6) (v := .agg #[.int .i64 0, .int .i64 0, .int .i64 0, .int .i64 1, .int .i64 50, .int .i64 0, .int .i64 3, .int .i64 32, .int .i64 0, .int .i64 0]) ?h3_b0b4_6 (by kernel_rfl) (by kernel_rfl) (by kernel_rfl) ?q3_b0b4_6 ?y3_b0b4_6 (by assumption) ?_
          case h3_b0b4_6 => (first | (simp only [gA, gB, gC]; done) | (simp only [gA, gB, gC]; exact rfl))
          case q3_b0b4_6 => exact fun _ _ _ h => h
          case y3_b0b4_6 => (refine Or.inl ⟨rfl, ?_⟩; intro w hSw; (first | rfl | (go_simp; (try with_reducible rfl))))
          (try simp only [Act.put, sA, sB, sC])
          refine wpAnyH_take (i := 7) (oi := ?o3_b0b4_7) (v := .slice (some ⟨bm2, 0, none⟩) 1 1) ?h3_b0b4_7 (by kernel_rfl) (by kernel_rfl) (by kernel_rfl) ?q3_b0b4_7 ?y3_b0b4_7 (by assumption) ?_
          case h3_b0b4_7 => (first | (simp only [gA, gB, gC]; done) | (simp only [gA, gB, gC]; exact rfl))
          case q3_b0b4_7 => exact fun _ _ _ h => h
          case y3_b0b4_7 => (refine Or.inl ⟨rfl, ?_⟩; intro w hSw; (first | rfl | (go_simp; (try with_reducible rfl))))
          (try simp only [Act.put, sA, sB, sC])
          refine wpAnyH_take (i := 8) (oi := ?o3_b0b4_8) (v := .bool false) ?h3_b0b4_8 (by kernel_rfl) (by kernel_rfl) (by kernel_rfl) ?q3_b0b4_8 ?y3_b0b4_8 (by assumption) ?_
          case h3_b0b4_8 => (first | (simp only [gA, gB, gC]; done) | (simp only [gA, gB, gC]; exact rfl))
          case q3_b0b4_8 => exact fun _ _ _ h => h
          case y3_b0b4_8 => (refine Or.inl ⟨rfl, ?_⟩; intro w hSw; (first | rfl | (go_simp; (try with_reducible rfl))))
          (try simp only [Act.put, sA, sB, sC])
          refine wpAnyH_ready (rs := [9]) (by kernel_rfl) (by simp) ?_
          refine AllReadyH.cons (o := ?o3_b0b4_9) ?h3_b0b4_9 (fun K hK => ?_) AllReadyH.nil
          case h3_b0b4_9 => (first | (simp only [gA, gB, gC]; done) | (simp only [gA, gB, gC]; exact rfl))
          rw [if_pos (by rfl)]
          refine wp_new (fun b => .pointer (some ⟨b, 0, none⟩)) 56 #[.int .i64 0, .int .i64 0, .int .i64 0, .int .i64 0, .int .i64 0, .int .i64 0, .int .i64 0, .int .i64 0, .int .i64 0, .int .i64 0] (by rintro b rfl; first | rfl | kernel_rfl) ?_
          intro bn5 w56 hge hB hb
          refine hK.out _ _ (by (apply HRK.out; exact hb; exact hHeld)) (fun hHeld2 => ?_)
          have HNn5m2 := Lib.hid (show bn5 ≠ bm2 by have := Blk.lt HXm2.out; omega)
          have HXm22 := Lib.hid (keep_blk hb HXm2.out)
          clear HXm2
          have HNn5n1 := Lib.hid (show bn5 ≠ bn1 by have := Blk.lt (hHeld.2.1); (try simp at this); (try simp at hge); omega)
          have HNn5m1 := Lib.hid (show bn5 ≠ bm1 by have := Blk.lt (hHeld.2.2.1); (try simp at this); (try simp at hge); omega)
          have HNn5n2 := Lib.hid (show bn5 ≠ bn2 by have := Blk.lt (hHeld.2.2.2); (try simp at this); (try simp at hge); omega)
          have HGn5 := Lib.hid (show w.heap.size ≤ bn5 by have := Since.size hHeld.1; (try simp at this); (try simp at hge); omega)
          have HXn5 := Lib.hid hB
          clear hB
          clear hge
          clear hK K hHeld hb
          have hHeld := hHeld2
          clear hHeld2
          (try simp only [Act.put, sA, sB, sC])
          refine wpAnyH_ready (rs := [10]) (by kernel_rfl) (by simp) ?_
          refine AllReadyH.cons (o := ?o3_b0b4_10) ?h3_b0b4_10 (fun K hK => ?_) AllReadyH.nil
          case h3_b0b4_10 => (first | (simp only [gA, gB, gC]; done) | (simp only [gA, gB, gC]; exact rfl))
          rw [if_pos (by rfl)]
          refine wp_st_row 56 _ _ rfl #[.int .i64 0, .int .i64 0, .int .i64 0, .int .i64 1, .int .i64 50, .int .i64 0, .int .i64 3, .int .i64 32, .int .i64 0, .int .i64 0] rfl rfl (HasRow.of HXn5.out rfl) rfl (by simp [cfgA, leaA, carA, msgC, Value.oneCell']) (by kernel_rfl) ?_
          intro w57 hw
          have HXn52 := Lib.hid (show Blk w57 bn5 56 #[.int .i64 0, .int .i64 0, .int .i64 0, .int .i64 1, .int .i64 50, .int .i64 0, .int .i64 3, .int .i64 32, .int .i64 0, .int .i64 0] by rw [hw]; exact Blk.row HXn5.out _)
          have HXm222 := Lib.hid (show Blk w57 bm2 85 #[.int .i64 10, .int .i64 0, .int .i64 0, .int .i64 0] by rw [hw]; exact Blk.row_far HXm22.out (Ne.symm HNn5m2.out) _)
          clear HXm22
          have hHeld3 : (fun W : World => Since w W ∧ Blk W bn1 56 #[.int .i64 0, .int .i64 0, .int .i64 0, .int .i64 1, .int .i64 50, .int .i64 0, .int .i64 1, .int .i64 20, .int .i64 0, .int .i64 0] ∧ Blk W bm1 85 #[.int .i64 8, .int .i64 0, .int .i64 0, .int .i64 0] ∧ Blk W bn2 56 #[.int .i64 0, .int .i64 0, .int .i64 0, .int .i64 1, .int .i64 50, .int .i64 0, .int .i64 2, .int .i64 14, .int .i64 0, .int .i64 0]) w57 := ⟨by rw [hw]; exact Since.setRow hHeld.1 HGn5.out _, by rw [hw]; exact Blk.row_far (hHeld.2.1) (Ne.symm HNn5n1.out) _, by rw [hw]; exact Blk.row_far (hHeld.2.2.1) (Ne.symm HNn5m1.out) _, by rw [hw]; exact Blk.row_far (hHeld.2.2.2) (Ne.symm HNn5n2.out) _⟩
          refine hK.out _ _ hHeld3 (fun hHeld2 => ?_)
          clear HXn5 hK K hHeld hHeld3 hw
          have hHeld := hHeld2
          clear hHeld2
          (try simp only [Act.put, sA, sB, sC])
          refine wpAnyH_take (i := 11) (oi := ?o3_b0b4_11) (v := .slice (some ⟨bm2, 0, none⟩) 1 1) ?h3_b0b4_11 (by kernel_rfl) (by kernel_rfl) (by kernel_rfl) ?q3_b0b4_11 ?y3_b0b4_11 (by assumption) ?_
          case h3_b0b4_11 => (first | (simp only [gA, gB, gC]; done) | (simp only [gA, gB, gC]; exact rfl))
          case q3_b0b4_11 => exact fun _ _ _ h => h
          case y3_b0b4_11 => (refine Or.inl ⟨rfl, ?_⟩; intro w hSw; (first | rfl | (go_simp; (try with_reducible rfl))))
          (try simp only [Act.put, sA, sB, sC])
          refine wpAnyH_take (i := 12) (oi := ?o3_b0b4_12) (v := .bool false) ?h3_b0b4_12 (by kernel_rfl) (by kernel_rfl) (by kernel_rfl) ?q3_b0b4_12 ?y3_b0b4_12 (by assumption) ?_
          case h3_b0b4_12 => (first | (simp only [gA, gB, gC]; done) | (simp only [gA, gB, gC]; exact rfl))
          case q3_b0b4_12 => exact fun _ _ _ h => h
          case y3_b0b4_12 => (refine Or.inl ⟨rfl, ?_⟩; intro w hSw; (first | rfl | (go_simp; (try with_reducible rfl))))
          (try simp only [Act.put, sA, sB, sC])
          refine wpAnyH_done (by kernel_rfl) ?_ _
          have HSd3 := Lib.hid hHeld.1
          have HBn1d3 := Lib.hid (hHeld.2.1)
          have HBm1d3 := Lib.hid (hHeld.2.2.1)
          have HBn2d3 := Lib.hid (hHeld.2.2.2)
          clear hHeld HRK HRD HS53 HBn153 HBm153 HBn253
          go_wp2_with fail
          go_meet
          case rel => exact Lib.hid ⟨bm2, bn5, rfl, rfl, rfl, HSd3.out, HBn1d3.out, HBm1d3.out, HBn2d3.out, HXm222.out, HXn52.out, HGm2.out, HNm2n1.out, HNm2m1.out, HNm2n2.out, HGn5.out, HNn5n1.out, HNn5m1.out, HNn5n2.out, HNn5m2.out⟩
        case g3_b0_9b =>
          rw [if_pos (by rfl)]
          refine wp_new (fun b => .pointer (some ⟨b, 0, none⟩)) 56 #[.int .i64 0, .int .i64 0, .int .i64 0, .int .i64 0, .int .i64 0, .int .i64 0, .int .i64 0, .int .i64 0, .int .i64 0, .int .i64 0] (by rintro b rfl; first | rfl | kernel_rfl) ?_
          intro bn5 w55 hge hB hb
          refine hK.out _ _ (by (apply HRK.out; exact hb; exact hHeld)) (fun hHeld2 => ?_)
          have HNn5n1 := Lib.hid (show bn5 ≠ bn1 by have := Blk.lt (hHeld.2.1); (try simp at this); (try simp at hge); omega)
          have HNn5m1 := Lib.hid (show bn5 ≠ bm1 by have := Blk.lt (hHeld.2.2.1); (try simp at this); (try simp at hge); omega)
          have HNn5n2 := Lib.hid (show bn5 ≠ bn2 by have := Blk.lt (hHeld.2.2.2); (try simp at this); (try simp at hge); omega)
          have HGn5 := Lib.hid (show w.heap.size ≤ bn5 by have := Since.size hHeld.1; (try simp at this); (try simp at hge); omega)
          have HXn5 := Lib.hid hB
          clear hB
          clear hge
          clear hK K hHeld hb
          have hHeld := hHeld2
          clear hHeld2
          (try simp only [Act.put, sA, sB, sC])
          refine wpAnyH_ready (rs := [4]) (by kernel_rfl) (by simp) ?_
          refine AllReadyH.cons (o := ?o3_b0b9_4) ?h3_b0b9_4 (fun K hK => ?_) AllReadyH.nil
          case h3_b0b9_4 => (first | (simp only [gA, gB, gC]; done) | (simp only [gA, gB, gC]; exact rfl))
          (try go_simp)
          refine (hearA1 _).mono ?_
          rintro e w56 ⟨_, rfl, ⟨bm2, rfl, hge, hB⟩, hb⟩
          (try go_wp2_with fail)
          refine hK.out _ _ (by (apply HRK.out; exact hb; exact hHeld)) (fun hHeld2 => ?_)
          have HNm2n5 := Lib.hid (show bm2 ≠ bn5 by have := Blk.lt HXn5.out; omega)
          have HXn52 := Lib.hid (keep_blk hb HXn5.out)
          clear HXn5
          have HNm2n1 := Lib.hid (show bm2 ≠ bn1 by have := Blk.lt (hHeld.2.1); (try simp at this); (try simp at hge); omega)
          have HNm2m1 := Lib.hid (show bm2 ≠ bm1 by have := Blk.lt (hHeld.2.2.1); (try simp at this); (try simp at hge); omega)
          have HNm2n2 := Lib.hid (show bm2 ≠ bn2 by have := Blk.lt (hHeld.2.2.2); (try simp at this); (try simp at hge); omega)
          have HGm2 := Lib.hid (show w.heap.size ≤ bm2 by have := Since.size hHeld.1; (try simp at this); (try simp at hge); omega)
          have HXm2 := Lib.hid hB
          clear hB
          clear hge
          clear hK K hHeld hb
          have hHeld := hHeld2
          clear hHeld2
          (try simp only [Act.put, sA, sB, sC])
          refine wpAnyH_take (i := 5) (oi := ?o3_b0b9_5) (v := .tuple #[.agg #[.int .i64 0, .int .i64 0, .int .i64 0, .int .i64 1, .int .i64 50, .int .i64 0, .int .i64 3, .int .i64 32, .int .i64 0, .int .i64 0], .slice (some ⟨bm2, 0, none⟩) 1 1, .bool false]) ?h3_b0b9_5 (by kernel_rfl) (by kernel_rfl) (by kernel_rfl) ?q3_b0b9_5 ?y3_b0b9_5 (by assumption) ?_
          case h3_b0b9_5 => (first | (simp only [gA, gB, gC]; done) | (simp only [gA, gB, gC]; exact rfl))
          case q3_b0b9_5 => exact fun _ _ _ h => h
          case y3_b0b9_5 => (refine Or.inl ⟨rfl, ?_⟩; intro w hSw; (first | rfl | (go_simp; (try with_reducible rfl))))
          (try simp only [Act.put, sA, sB, sC])
          refine wpAnyH_take (i := 6) (oi := ?o3_b0b9_6) (v := .agg #[.int .i64 0, .int .i64 0, .int .i64 0, .int .i64 1, .int .i64 50, .int .i64 0, .int .i64 3, .int .i64 32, .int .i64 0, .int .i64 0]) ?h3_b0b9_6 (by kernel_rfl) (by kernel_rfl) (by kernel_rfl) ?q3_b0b9_6 ?y3_b0b9_6 (by assumption) ?_
          case h3_b0b9_6 => (first | (simp only [gA, gB, gC]; done) | (simp only [gA, gB, gC]; exact rfl))
          case q3_b0b9_6 => exact fun _ _ _ h => h
          case y3_b0b9_6 => (refine Or.inl ⟨rfl, ?_⟩; intro w hSw; (first | rfl | (go_simp; (try with_reducible rfl))))
          (try simp only [Act.put, sA, sB, sC])
          refine wpAnyH_take (i := 7) (oi := ?o3_b0b9_7) (v := .slice (some ⟨bm2, 0, none⟩) 1 1) ?h3_b0b9_7 (by kernel_rfl) (by kernel_rfl) (by kernel_rfl) ?q3_b0b9_7 ?y3_b0b9_7 (by assumption) ?_
          case h3_b0b9_7 => (first | (simp only [gA, gB, gC]; done) | (simp only [gA, gB, gC]; exact rfl))
          case q3_b0b9_7 => exact fun _ _ _ h => h
          case y3_b0b9_7 => (refine Or.inl ⟨rfl, ?_⟩; intro w hSw; (first | rfl | (go_simp; (try with_reducible rfl))))
          (try simp only [Act.put, sA, sB, sC])
          refine wpAnyH_take (i := 8) (oi := ?o3_b0b9_8) (v := .bool false) ?h3_b0b9_8 (by kernel_rfl) (by kernel_rfl) (by kernel_rfl) ?q3_b0b9_8 ?y3_b0b9_8 (by assumption) ?_
          case h3_b0b9_8 => (first | (simp only [gA, gB, gC]; done) | (simp only [gA, gB, gC]; exact rfl))
          case q3_b0b9_8 => exact fun _ _ _ h => h
          case y3_b0b9_8 => (refine Or.inl ⟨rfl, ?_⟩; intro w hSw; (first | rfl | (go_simp; (try with_reducible rfl))))
          (try simp only [Act.put, sA, sB, sC])
          refine wpAnyH_ready (rs := [10]) (by kernel_rfl) (by simp) ?_
          refine AllReadyH.cons (o := ?o3_b0b9_10) ?h3_b0b9_10 (fun K hK => ?_) AllReadyH.nil
          case h3_b0b9_10 => (first | (simp only [gA, gB, gC]; done) | (simp only [gA, gB, gC]; exact rfl))
          rw [if_pos (by rfl)]
          refine wp_st_row 56 _ _ rfl #[.int .i64 0, .int .i64 0, .int .i64 0, .int .i64 1, .int .i64 50, .int .i64 0, .int .i64 3, .int .i64 32, .int .i64 0, .int .i64 0] rfl rfl (HasRow.of HXn52.out rfl) rfl (by simp [cfgA, leaA, carA, msgC, Value.oneCell']) (by kernel_rfl) ?_
          intro w57 hw
          have HXn522 := Lib.hid (show Blk w57 bn5 56 #[.int .i64 0, .int .i64 0, .int .i64 0, .int .i64 1, .int .i64 50, .int .i64 0, .int .i64 3, .int .i64 32, .int .i64 0, .int .i64 0] by rw [hw]; exact Blk.row HXn52.out _)
          have HXm22 := Lib.hid (show Blk w57 bm2 85 #[.int .i64 10, .int .i64 0, .int .i64 0, .int .i64 0] by rw [hw]; exact Blk.row_far HXm2.out HNm2n5.out _)
          clear HXm2
          have hHeld3 : (fun W : World => Since w W ∧ Blk W bn1 56 #[.int .i64 0, .int .i64 0, .int .i64 0, .int .i64 1, .int .i64 50, .int .i64 0, .int .i64 1, .int .i64 20, .int .i64 0, .int .i64 0] ∧ Blk W bm1 85 #[.int .i64 8, .int .i64 0, .int .i64 0, .int .i64 0] ∧ Blk W bn2 56 #[.int .i64 0, .int .i64 0, .int .i64 0, .int .i64 1, .int .i64 50, .int .i64 0, .int .i64 2, .int .i64 14, .int .i64 0, .int .i64 0]) w57 := ⟨by rw [hw]; exact Since.setRow hHeld.1 HGn5.out _, by rw [hw]; exact Blk.row_far (hHeld.2.1) (Ne.symm HNn5n1.out) _, by rw [hw]; exact Blk.row_far (hHeld.2.2.1) (Ne.symm HNn5m1.out) _, by rw [hw]; exact Blk.row_far (hHeld.2.2.2) (Ne.symm HNn5n2.out) _⟩
          refine hK.out _ _ hHeld3 (fun hHeld2 => ?_)
          clear HXn52 hK K hHeld hHeld3 hw
          have hHeld := hHeld2
          clear hHeld2
          (try simp only [Act.put, sA, sB, sC])
          refine wpAnyH_take (i := 11) (oi := ?o3_b0b9_11) (v := .slice (some ⟨bm2, 0, none⟩) 1 1) ?h3_b0b9_11 (by kernel_rfl) (by kernel_rfl) (by kernel_rfl) ?q3_b0b9_11 ?y3_b0b9_11 (by assumption) ?_
          case h3_b0b9_11 => (first | (simp only [gA, gB, gC]; done) | (simp only [gA, gB, gC]; exact rfl))
          case q3_b0b9_11 => exact fun _ _ _ h => h
          case y3_b0b9_11 => (refine Or.inl ⟨rfl, ?_⟩; intro w hSw; (first | rfl | (go_simp; (try with_reducible rfl))))
          (try simp only [Act.put, sA, sB, sC])
          refine wpAnyH_take (i := 12) (oi := ?o3_b0b9_12) (v := .bool false) ?h3_b0b9_12 (by kernel_rfl) (by kernel_rfl) (by kernel_rfl) ?q3_b0b9_12 ?y3_b0b9_12 (by assumption) ?_
          case h3_b0b9_12 => (first | (simp only [gA, gB, gC]; done) | (simp only [gA, gB, gC]; exact rfl))
          case q3_b0b9_12 => exact fun _ _ _ h => h
          case y3_b0b9_12 => (refine Or.inl ⟨rfl, ?_⟩; intro w hSw; (first | rfl | (go_simp; (try with_reducible rfl))))
          (try simp only [Act.put, sA, sB, sC])
          refine wpAnyH_done (by kernel_rfl) ?_ _
          have HSd3 := Lib.hid hHeld.1
          have HBn1d3 := Lib.hid (hHeld.2.1)
          have HBm1d3 := Lib.hid (hHeld.2.2.1)
          have HBn2d3 := Lib.hid (hHeld.2.2.2)
          clear hHeld HRK HRD HS53 HBn153 HBm153 HBn253
          go_wp2_with fail
          go_meet
          case rel => exact Lib.hid ⟨bm2, bn5, rfl, rfl, rfl, HSd3.out, HBn1d3.out, HBm1d3.out, HBn2d3.out, HXm22.out, HXn522.out, HGm2.out, HNm2n1.out, HNm2m1.out, HNm2n2.out, HGn5.out, HNn5n1.out, HNn5m1.out, HNn5n2.out, (Ne.symm HNm2n5.out)⟩
      case g3__9b =>
        rw [if_pos (by rfl)]
        refine wp_new (fun b => .pointer (some ⟨b, 0, none⟩)) 56 #[.int .i64 0, .int .i64 0, .int .i64 0, .int .i64 0, .int .i64 0, .int .i64 0, .int .i64 0, .int .i64 0, .int .i64 0, .int .i64 0] (by rintro b rfl; first | rfl | kernel_rfl) ?_
        intro bn5 w54 hge hB hb
        refine hK.out _ _ (by (apply HRK.out; exact hb; exact hHeld)) (fun hHeld2 => ?_)
        have HNn5n1 := Lib.hid (show bn5 ≠ bn1 by have := Blk.lt (hHeld.2.1); (try simp at this); (try simp at hge); omega)
        have HNn5m1 := Lib.hid (show bn5 ≠ bm1 by have := Blk.lt (hHeld.2.2.1); (try simp at this); (try simp at hge); omega)
        have HNn5n2 := Lib.hid (show bn5 ≠ bn2 by have := Blk.lt (hHeld.2.2.2); (try simp at this); (try simp at hge); omega)
        have HGn5 := Lib.hid (show w.heap.size ≤ bn5 by have := Since.size hHeld.1; (try simp at this); (try simp at hge); omega)
        have HXn5 := Lib.hid hB
        clear hB
        clear hge
        clear hK K hHeld hb
        have hHeld := hHeld2
        clear hHeld2
        (try simp only [Act.put, sA, sB, sC])
        refine wpAnyH_ready (rs := [0]) (by kernel_rfl) (by simp) ?_
        refine AllReadyH.cons (o := ?o3_b9_0) ?h3_b9_0 (fun K hK => ?_) AllReadyH.nil
        case h3_b9_0 => (first | (simp only [gA, gB, gC]; done) | (simp only [gA, gB, gC]; exact rfl))
        (try go_simp)
        refine (configA _).mono ?_
        rintro e w55 ⟨rfl, hb⟩
        (try go_wp2_with fail)
        refine hK.out _ _ (by (apply HRK.out; exact hb; exact hHeld)) (fun hHeld2 => ?_)
        have HXn52 := Lib.hid (keep_blk hb HXn5.out)
        clear HXn5
        clear hK K hHeld hb
        have hHeld := hHeld2
        clear hHeld2
        (try simp only [Act.put, sA, sB, sC])
        refine wpAnyH_ready (rs := [4]) (by kernel_rfl) (by simp) ?_
        refine AllReadyH.cons (o := ?o3_b9_4) ?h3_b9_4 (fun K hK => ?_) AllReadyH.nil
        case h3_b9_4 => (first | (simp only [gA, gB, gC]; done) | (simp only [gA, gB, gC]; exact rfl))
        (try go_simp)
        refine (hearA1 _).mono ?_
        rintro e w56 ⟨_, rfl, ⟨bm2, rfl, hge, hB⟩, hb⟩
        (try go_wp2_with fail)
        refine hK.out _ _ (by (apply HRK.out; exact hb; exact hHeld)) (fun hHeld2 => ?_)
        have HNm2n5 := Lib.hid (show bm2 ≠ bn5 by have := Blk.lt HXn52.out; omega)
        have HXn522 := Lib.hid (keep_blk hb HXn52.out)
        clear HXn52
        have HNm2n1 := Lib.hid (show bm2 ≠ bn1 by have := Blk.lt (hHeld.2.1); (try simp at this); (try simp at hge); omega)
        have HNm2m1 := Lib.hid (show bm2 ≠ bm1 by have := Blk.lt (hHeld.2.2.1); (try simp at this); (try simp at hge); omega)
        have HNm2n2 := Lib.hid (show bm2 ≠ bn2 by have := Blk.lt (hHeld.2.2.2); (try simp at this); (try simp at hge); omega)
        have HGm2 := Lib.hid (show w.heap.size ≤ bm2 by have := Since.size hHeld.1; (try simp at this); (try simp at hge); omega)
        have HXm2 := Lib.hid hB
        clear hB
        clear hge
        clear hK K hHeld hb
        have hHeld := hHeld2
        clear hHeld2
        (try simp only [Act.put, sA, sB, sC])
        refine wpAnyH_take (i := 5) (oi := ?o3_b9_5) (v := .tuple #[.agg #[.int .i64 0, .int .i64 0, .int .i64 0, .int .i64 1, .int .i64 50, .int .i64 0, .int .i64 3, .int .i64 32, .int .i64 0, .int .i64 0], .slice (some ⟨bm2, 0, none⟩) 1 1, .bool false]) ?h3_b9_5 (by kernel_rfl) (by kernel_rfl) (by kernel_rfl) ?q3_b9_5 ?y3_b9_5 (by assumption) ?_
        case h3_b9_5 => (first | (simp only [gA, gB, gC]; done) | (simp only [gA, gB, gC]; exact rfl))
        case q3_b9_5 => exact fun _ _ _ h => h
        case y3_b9_5 => (refine Or.inl ⟨rfl, ?_⟩; intro w hSw; (first | rfl | (go_simp; (try with_reducible rfl))))
        (try simp only [Act.put, sA, sB, sC])
        refine wpAnyH_take (i := 6) (oi := ?o3_b9_6) (v := .agg #[.int .i64 0, .int .i64 0, .int .i64 0, .int .i64 1, .int .i64 50, .int .i64 0, .int .i64 3, .int .i64 32, .int .i64 0, .int .i64 0]) ?h3_b9_6 (by kernel_rfl) (by kernel_rfl) (by kernel_rfl) ?q3_b9_6 ?y3_b9_6 (by assumption) ?_
        case h3_b9_6 => (first | (simp only [gA, gB, gC]; done) | (simp only [gA, gB, gC]; exact rfl))
        case q3_b9_6 => exact fun _ _ _ h => h
        case y3_b9_6 => (refine Or.inl ⟨rfl, ?_⟩; intro w hSw; (first | rfl | (go_simp; (try with_reducible rfl))))
        (try simp only [Act.put, sA, sB, sC])
        refine wpAnyH_take (i := 7) (oi := ?o3_b9_7) (v := .slice (some ⟨bm2, 0, none⟩) 1 1) ?h3_b9_7 (by kernel_rfl) (by kernel_rfl) (by kernel_rfl) ?q3_b9_7 ?y3_b9_7 (by assumption) ?_
        case h3_b9_7 => (first | (simp only [gA, gB, gC]; done) | (simp only [gA, gB, gC]; exact rfl))
        case q3_b9_7 => exact fun _ _ _ h => h
        case y3_b9_7 => (refine Or.inl ⟨rfl, ?_⟩; intro w hSw; (first | rfl | (go_simp; (try with_reducible rfl))))
        (try simp only [Act.put, sA, sB, sC])
        refine wpAnyH_take (i := 8) (oi := ?o3_b9_8) (v := .bool false) ?h3_b9_8 (by kernel_rfl) (by kernel_rfl) (by kernel_rfl) ?q3_b9_8 ?y3_b9_8 (by assumption) ?_
        case h3_b9_8 => (first | (simp only [gA, gB, gC]; done) | (simp only [gA, gB, gC]; exact rfl))
        case q3_b9_8 => exact fun _ _ _ h => h
        case y3_b9_8 => (refine Or.inl ⟨rfl, ?_⟩; intro w hSw; (first | rfl | (go_simp; (try with_reducible rfl))))
        (try simp only [Act.put, sA, sB, sC])
        refine wpAnyH_ready (rs := [10]) (by kernel_rfl) (by simp) ?_
        refine AllReadyH.cons (o := ?o3_b9_10) ?h3_b9_10 (fun K hK => ?_) AllReadyH.nil
        case h3_b9_10 => (first | (simp only [gA, gB, gC]; done) | (simp only [gA, gB, gC]; exact rfl))
        rw [if_pos (by rfl)]
        refine wp_st_row 56 _ _ rfl #[.int .i64 0, .int .i64 0, .int .i64 0, .int .i64 1, .int .i64 50, .int .i64 0, .int .i64 3, .int .i64 32, .int .i64 0, .int .i64 0] rfl rfl (HasRow.of HXn522.out rfl) rfl (by simp [cfgA, leaA, carA, msgC, Value.oneCell']) (by kernel_rfl) ?_
        intro w57 hw
        have HXn5222 := Lib.hid (show Blk w57 bn5 56 #[.int .i64 0, .int .i64 0, .int .i64 0, .int .i64 1, .int .i64 50, .int .i64 0, .int .i64 3, .int .i64 32, .int .i64 0, .int .i64 0] by rw [hw]; exact Blk.row HXn522.out _)
        have HXm22 := Lib.hid (show Blk w57 bm2 85 #[.int .i64 10, .int .i64 0, .int .i64 0, .int .i64 0] by rw [hw]; exact Blk.row_far HXm2.out HNm2n5.out _)
        clear HXm2
        have hHeld3 : (fun W : World => Since w W ∧ Blk W bn1 56 #[.int .i64 0, .int .i64 0, .int .i64 0, .int .i64 1, .int .i64 50, .int .i64 0, .int .i64 1, .int .i64 20, .int .i64 0, .int .i64 0] ∧ Blk W bm1 85 #[.int .i64 8, .int .i64 0, .int .i64 0, .int .i64 0] ∧ Blk W bn2 56 #[.int .i64 0, .int .i64 0, .int .i64 0, .int .i64 1, .int .i64 50, .int .i64 0, .int .i64 2, .int .i64 14, .int .i64 0, .int .i64 0]) w57 := ⟨by rw [hw]; exact Since.setRow hHeld.1 HGn5.out _, by rw [hw]; exact Blk.row_far (hHeld.2.1) (Ne.symm HNn5n1.out) _, by rw [hw]; exact Blk.row_far (hHeld.2.2.1) (Ne.symm HNn5m1.out) _, by rw [hw]; exact Blk.row_far (hHeld.2.2.2) (Ne.symm HNn5n2.out) _⟩
        refine hK.out _ _ hHeld3 (fun hHeld2 => ?_)
        clear HXn522 hK K hHeld hHeld3 hw
        have hHeld := hHeld2
        clear hHeld2
        (try simp only [Act.put, sA, sB, sC])
        refine wpAnyH_take (i := 11) (oi := ?o3_b9_11) (v := .slice (some ⟨bm2, 0, none⟩) 1 1) ?h3_b9_11 (by kernel_rfl) (by kernel_rfl) (by kernel_rfl) ?q3_b9_11 ?y3_b9_11 (by assumption) ?_
        case h3_b9_11 => (first | (simp only [gA, gB, gC]; done) | (simp only [gA, gB, gC]; exact rfl))
        case q3_b9_11 => exact fun _ _ _ h => h
        case y3_b9_11 => (refine Or.inl ⟨rfl, ?_⟩; intro w hSw; (first | rfl | (go_simp; (try with_reducible rfl))))
        (try simp only [Act.put, sA, sB, sC])
        refine wpAnyH_take (i := 12) (oi := ?o3_b9_12) (v := .bool false) ?h3_b9_12 (by kernel_rfl) (by kernel_rfl) (by kernel_rfl) ?q3_b9_12 ?y3_b9_12 (by assumption) ?_
        case h3_b9_12 => (first | (simp only [gA, gB, gC]; done) | (simp only [gA, gB, gC]; exact rfl))
        case q3_b9_12 => exact fun _ _ _ h => h
        case y3_b9_12 => (refine Or.inl ⟨rfl, ?_⟩; intro w hSw; (first | rfl | (go_simp; (try with_reducible rfl))))
        (try simp only [Act.put, sA, sB, sC])
        refine wpAnyH_done (by kernel_rfl) ?_ _
        have HSd3 := Lib.hid hHeld.1
        have HBn1d3 := Lib.hid (hHeld.2.1)
        have HBm1d3 := Lib.hid (hHeld.2.2.1)
        have HBn2d3 := Lib.hid (hHeld.2.2.2)
        clear hHeld HRK HRD HS53 HBn153 HBm153 HBn253
        go_wp2_with fail
        go_meet
        case rel => exact Lib.hid ⟨bm2, bn5, rfl, rfl, rfl, HSd3.out, HBn1d3.out, HBm1d3.out, HBn2d3.out, HXm22.out, HXn5222.out, HGm2.out, HNm2n1.out, HNm2m1.out, HNm2n2.out, HGn5.out, HNn5n1.out, HNn5m1.out, HNn5n2.out, (Ne.symm HNm2n5.out)⟩
    case rest =>
      clear HS53 HBn153 HBm153 HBn253
      obtain ⟨bm2, bn5, rfl, rfl, rfl, g0, g1, g2, g3, g4, g5, g6, g7, g8, g9, g10, g11, g12, g13, g14⟩ := hcut.out
      clear hcut
      have HS103 := Lib.hid g0
      have HBn1103 := Lib.hid g1
      have HBm1103 := Lib.hid g2
      have HBn2103 := Lib.hid g3
      have HBm2103 := Lib.hid g4
      have HBn5103 := Lib.hid g5
      have HGm2 := Lib.hid g6
      have HNm2n1 := Lib.hid g7
      have HNm2m1 := Lib.hid g8
      have HNm2n2 := Lib.hid g9
      have HGn5 := Lib.hid g10
      have HNn5n1 := Lib.hid g11
      have HNn5m1 := Lib.hid g12
      have HNn5n2 := Lib.hid g13
      have HNn5m2 := Lib.hid g14
      clear g0 g1 g2 g3 g4 g5 g6 g7 g8 g9 g10 g11 g12 g13 g14
      go_upto_region 4 with fail
      refine wp_region_lit ?_
      refine wpList_q (by rfl) (.agg #[.int .i64 0, .int .i64 0, .int .i64 0, .int .i64 1, .int .i64 50, .int .i64 0, .int .i64 3, .int .i64 32, .int .i64 0, .int .i64 0]) ?he ?_
      case he => exact exec_load_row 56 _ _ HBn5103.out rfl rfl Try.underlying56 rfl (by kernel_rfl)
      (try simp only [Act.put, sA, sB, sC])
      refine wpList_wp (by rfl) (fun K hK => ?_)
      (try go_simp)
      refine (aimA _).mono ?_
      rintro e w104 ⟨rfl, hb⟩
      (try go_wp2_with fail)
      refine hK.out _ _ ?_
      clear hK K
      (try simp only [Act.put, sA, sB, sC])
      have HS104 := Lib.hid (Since.trans HS103.out hb)
      have HBn1104 := Lib.hid (keep_blk hb HBn1103.out)
      have HBm1104 := Lib.hid (keep_blk hb HBm1103.out)
      have HBn2104 := Lib.hid (keep_blk hb HBn2103.out)
      have HBm2104 := Lib.hid (keep_blk hb HBm2103.out)
      have HBn5104 := Lib.hid (keep_blk hb HBn5103.out)
      clear HS103 HBn1103 HBm1103 HBn2103 HBm2103 HBn5103
      clear hb
      refine wpList_q (by rfl) (.tuple #[.int .i64 1, .bool true]) ?he ?_
      case he => (first | rfl | (go_simp; (try with_reducible rfl)))
      (try simp only [Act.put, sA, sB, sC])
      refine wpList_q (by rfl) (.int .i64 1) ?he ?_
      case he => (first | rfl | (go_simp; (try with_reducible rfl)))
      (try simp only [Act.put, sA, sB, sC])
      refine wpList_q (by rfl) (.bool true) ?he ?_
      case he => (first | rfl | (go_simp; (try with_reducible rfl)))
      (try simp only [Act.put, sA, sB, sC])
      refine wpList_q (by rfl) (.int .i64 1) ?he ?_
      case he => (first | rfl | (go_simp; (try with_reducible rfl)))
      (try simp only [Act.put, sA, sB, sC])
      refine wpList_q (by rfl) (.bool true) ?he ?_
      case he => (first | rfl | (go_simp; (try with_reducible rfl)))
      (try simp only [Act.put, sA, sB, sC])
      refine wpList_nil ?_
      go_upto_region 5 with fail
      refine wp_region_lit ?_
      refine wpList_q (by rfl) (.pointer (some ⟨bn2, 6, none⟩)) ?he ?_
      case he => (first | rfl | (go_simp; (try with_reducible rfl)))
      (try simp only [Act.put, sA, sB, sC])
      refine wpList_q (by rfl) (.int .i64 2) ?he ?_
      case he => exact exec_cell 3 _ _ HBn2104.out rfl rfl rfl Try.underlying3 rfl
      (try simp only [Act.put, sA, sB, sC])
      refine wpList_q (by rfl) (.bool true) ?he ?_
      case he => (go_simp; (try with_reducible rfl))
      (try simp only [Act.put, sA, sB, sC])
      refine wpList_q (by rfl) (.bool true) ?he ?_
      case he => (first | rfl | (go_simp; (try with_reducible rfl)))
      (try simp only [Act.put, sA, sB, sC])
      refine wpList_q (by rfl) (.pointer (some ⟨bn2, 7, none⟩)) ?he ?_
      case he => (first | rfl | (go_simp; (try with_reducible rfl)))
      (try simp only [Act.put, sA, sB, sC])
      refine wpList_q (by rfl) (.int .i64 14) ?he ?_
      case he => exact exec_cell 3 _ _ HBn2104.out rfl rfl rfl Try.underlying3 rfl
      (try simp only [Act.put, sA, sB, sC])
      refine wpList_q (by rfl) (.bool true) ?he ?_
      case he => (go_simp; (try with_reducible rfl))
      (try simp only [Act.put, sA, sB, sC])
      refine wpList_q (by rfl) (.bool true) ?he ?_
      case he => (first | rfl | (go_simp; (try with_reducible rfl)))
      (try simp only [Act.put, sA, sB, sC])
      refine wpList_q (by rfl) (.bool true) ?he ?_
      case he => (first | rfl | (go_simp; (try with_reducible rfl)))
      (try simp only [Act.put, sA, sB, sC])
      refine wpList_q (by rfl) (.slice (some ⟨bm1, 0, none⟩) 1 1) ?he ?_
      case he => (first | rfl | (go_simp; (try with_reducible rfl)))
      (try simp only [Act.put, sA, sB, sC])
      refine wpList_q (by rfl) (.int .i64 1) ?he ?_
      case he => (go_simp; (try with_reducible rfl))
      (try simp only [Act.put, sA, sB, sC])
      refine wpList_q (by rfl) (.bool true) ?he ?_
      case he => (go_simp; (try with_reducible rfl))
      (try simp only [Act.put, sA, sB, sC])
      refine wpList_q (by rfl) (.bool true) ?he ?_
      case he => (first | rfl | (go_simp; (try with_reducible rfl)))
      (try simp only [Act.put, sA, sB, sC])
      refine wpList_q (by rfl) (.bool true) ?he ?_
      case he => (first | rfl | (go_simp; (try with_reducible rfl)))
      (try simp only [Act.put, sA, sB, sC])
      refine wpList_q (by rfl) (.slice (some ⟨bm1, 0, none⟩) 1 1) ?he ?_
      case he => (first | rfl | (go_simp; (try with_reducible rfl)))
      (try simp only [Act.put, sA, sB, sC])
      refine wpList_q (by rfl) (.pointer (some ⟨bm1, 0, none⟩)) ?he ?_
      case he => (go_simp; (try with_reducible rfl))
      (try simp only [Act.put, sA, sB, sC])
      refine wpList_q (by rfl) (.pointer (some ⟨bm1, 0, none⟩)) ?he ?_
      case he => (first | rfl | (go_simp; (try with_reducible rfl)))
      (try simp only [Act.put, sA, sB, sC])
      refine wpList_q (by rfl) (.int .i64 8) ?he ?_
      case he => exact exec_cell 3 _ _ HBm1104.out rfl rfl rfl Try.underlying3 rfl
      (try simp only [Act.put, sA, sB, sC])
      refine wpList_q (by rfl) (.bool true) ?he ?_
      case he => (go_simp; (try with_reducible rfl))
      (try simp only [Act.put, sA, sB, sC])
      refine wpList_q (by rfl) (.bool true) ?he ?_
      case he => (first | rfl | (go_simp; (try with_reducible rfl)))
      (try simp only [Act.put, sA, sB, sC])
      refine wpList_q (by rfl) (.bool true) ?he ?_
      case he => (first | rfl | (go_simp; (try with_reducible rfl)))
      (try simp only [Act.put, sA, sB, sC])
      refine wpList_q (by rfl) (.bool false) ?he ?_
      case he => (first | rfl | (go_simp; (try with_reducible rfl)))
      (try simp only [Act.put, sA, sB, sC])
      refine wpList_q (by rfl) (.bool true) ?he ?_
      case he => (go_simp; (try with_reducible rfl))
      (try simp only [Act.put, sA, sB, sC])
      refine wpList_q (by rfl) (.bool true) ?he ?_
      case he => (first | rfl | (go_simp; (try with_reducible rfl)))
      (try simp only [Act.put, sA, sB, sC])
      refine wpList_q (by rfl) (.bool true) ?he ?_
      case he => (first | rfl | (go_simp; (try with_reducible rfl)))
      (try simp only [Act.put, sA, sB, sC])
      refine wpList_q (by rfl) (.pointer (some ⟨bn5, 6, none⟩)) ?he ?_
      case he => (first | rfl | (go_simp; (try with_reducible rfl)))
      (try simp only [Act.put, sA, sB, sC])
      refine wpList_q (by rfl) (.int .i64 3) ?he ?_
      case he => exact exec_cell 3 _ _ HBn5104.out rfl rfl rfl Try.underlying3 rfl
      (try simp only [Act.put, sA, sB, sC])
      refine wpList_q (by rfl) (.bool true) ?he ?_
      case he => (go_simp; (try with_reducible rfl))
      (try simp only [Act.put, sA, sB, sC])
      refine wpList_q (by rfl) (.bool true) ?he ?_
      case he => (first | rfl | (go_simp; (try with_reducible rfl)))
      (try simp only [Act.put, sA, sB, sC])
      refine wpList_q (by rfl) (.bool true) ?he ?_
      case he => (first | rfl | (go_simp; (try with_reducible rfl)))
      (try simp only [Act.put, sA, sB, sC])
      refine wpList_q (by rfl) (.slice (some ⟨bm2, 0, none⟩) 1 1) ?he ?_
      case he => (first | rfl | (go_simp; (try with_reducible rfl)))
      (try simp only [Act.put, sA, sB, sC])
      refine wpList_q (by rfl) (.int .i64 1) ?he ?_
      case he => (go_simp; (try with_reducible rfl))
      (try simp only [Act.put, sA, sB, sC])
      refine wpList_q (by rfl) (.bool true) ?he ?_
      case he => (go_simp; (try with_reducible rfl))
      (try simp only [Act.put, sA, sB, sC])
      refine wpList_q (by rfl) (.bool true) ?he ?_
      case he => (first | rfl | (go_simp; (try with_reducible rfl)))
      (try simp only [Act.put, sA, sB, sC])
      refine wpList_q (by rfl) (.bool true) ?he ?_
      case he => (first | rfl | (go_simp; (try with_reducible rfl)))
      (try simp only [Act.put, sA, sB, sC])
      refine wpList_q (by rfl) (.slice (some ⟨bm2, 0, none⟩) 1 1) ?he ?_
      case he => (first | rfl | (go_simp; (try with_reducible rfl)))
      (try simp only [Act.put, sA, sB, sC])
      refine wpList_q (by rfl) (.pointer (some ⟨bm2, 0, none⟩)) ?he ?_
      case he => (go_simp; (try with_reducible rfl))
      (try simp only [Act.put, sA, sB, sC])
      refine wpList_q (by rfl) (.pointer (some ⟨bm2, 0, none⟩)) ?he ?_
      case he => (first | rfl | (go_simp; (try with_reducible rfl)))
      (try simp only [Act.put, sA, sB, sC])
      refine wpList_q (by rfl) (.int .i64 10) ?he ?_
      case he => exact exec_cell 3 _ _ HBm2104.out rfl rfl rfl Try.underlying3 rfl
      (try simp only [Act.put, sA, sB, sC])
      refine wpList_q (by rfl) (.bool true) ?he ?_
      case he => (go_simp; (try with_reducible rfl))
      (try simp only [Act.put, sA, sB, sC])
      refine wpList_q (by rfl) (.bool true) ?he ?_
      case he => (first | rfl | (go_simp; (try with_reducible rfl)))
      (try simp only [Act.put, sA, sB, sC])
      refine wpList_q (by rfl) (.bool true) ?he ?_
      case he => (first | rfl | (go_simp; (try with_reducible rfl)))
      (try simp only [Act.put, sA, sB, sC])
      refine wpList_q (by rfl) (.bool false) ?he ?_
      case he => (first | rfl | (go_simp; (try with_reducible rfl)))
      (try simp only [Act.put, sA, sB, sC])
      refine wpList_q (by rfl) (.bool true) ?he ?_
      case he => (go_simp; (try with_reducible rfl))
      (try simp only [Act.put, sA, sB, sC])
      refine wpList_q (by rfl) (.bool true) ?he ?_
      case he => (first | rfl | (go_simp; (try with_reducible rfl)))
      (try simp only [Act.put, sA, sB, sC])
      refine wpList_q (by rfl) (.bool true) ?he ?_
      case he => (first | rfl | (go_simp; (try with_reducible rfl)))
      (try simp only [Act.put, sA, sB, sC])
      refine wpList_q (by rfl) (.int .i64 1) ?he ?_
      case he => (first | rfl | (go_simp; (try with_reducible rfl)))
      (try simp only [Act.put, sA, sB, sC])
      refine wpList_q (by rfl) (.bool true) ?he ?_
      case he => (go_simp; (try with_reducible rfl))
      (try simp only [Act.put, sA, sB, sC])
      refine wpList_q (by rfl) (.bool true) ?he ?_
      case he => (first | rfl | (go_simp; (try with_reducible rfl)))
      (try simp only [Act.put, sA, sB, sC])
      refine wpList_q (by rfl) (.bool true) ?he ?_
      case he => (first | rfl | (go_simp; (try with_reducible rfl)))
      (try simp only [Act.put, sA, sB, sC])
      refine wpList_q (by rfl) (.bool true) ?he ?_
      case he => (first | rfl | (go_simp; (try with_reducible rfl)))
      (try simp only [Act.put, sA, sB, sC])
      refine wpList_q (by rfl) (.bool true) ?he ?_
      case he => (first | rfl | (go_simp; (try with_reducible rfl)))
      (try simp only [Act.put, sA, sB, sC])
      refine wpList_q (by rfl) (.bool true) ?he ?_
      case he => (first | rfl | (go_simp; (try with_reducible rfl)))
      (try simp only [Act.put, sA, sB, sC])
      refine wpList_q (by rfl) (.agg #[.int .i64 0, .int .i64 0, .int .i64 0, .int .i64 1, .int .i64 50, .int .i64 0, .int .i64 2, .int .i64 14, .int .i64 0, .int .i64 0]) ?he ?_
      case he => exact exec_load_row 56 _ _ HBn2104.out rfl rfl Try.underlying56 rfl (by kernel_rfl)
      (try simp only [Act.put, sA, sB, sC])
      refine wpList_wp (by rfl) (fun K hK => ?_)
      (try go_simp)
      refine (leftA _).mono ?_
      rintro e w105 ⟨rfl, hb⟩
      (try go_wp2_with fail)
      refine hK.out _ _ ?_
      clear hK K
      (try simp only [Act.put, sA, sB, sC])
      have HS105 := Lib.hid (Since.trans HS104.out hb)
      have HBn1105 := Lib.hid (keep_blk hb HBn1104.out)
      have HBm1105 := Lib.hid (keep_blk hb HBm1104.out)
      have HBn2105 := Lib.hid (keep_blk hb HBn2104.out)
      have HBm2105 := Lib.hid (keep_blk hb HBm2104.out)
      have HBn5105 := Lib.hid (keep_blk hb HBn5104.out)
      clear HS104 HBn1104 HBm1104 HBn2104 HBm2104 HBn5104
      clear hb
      refine wpList_q (by rfl) (.bool true) ?he ?_
      case he => (go_simp; (try with_reducible rfl))
      (try simp only [Act.put, sA, sB, sC])
      refine wpList_q (by rfl) (.bool true) ?he ?_
      case he => (first | rfl | (go_simp; (try with_reducible rfl)))
      (try simp only [Act.put, sA, sB, sC])
      refine wpList_q (by rfl) (.bool true) ?he ?_
      case he => (first | rfl | (go_simp; (try with_reducible rfl)))
      (try simp only [Act.put, sA, sB, sC])
      refine wpList_nil ?_
      (try go_wp2_with fail)
      go_ret
      exact ⟨rfl, HS105.out⟩
end Go.Proofs.Ytggafipgfgbbiaa.Ri
