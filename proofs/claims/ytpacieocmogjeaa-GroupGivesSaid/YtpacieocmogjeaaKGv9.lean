/-
  What is wanted by the last of these texts, part 9.
  No condition.
-/
import Derived.Test.YtpacieocmogjeaaProg
import Derived.Test.YtpacieocmogjeaaKGv0
import Derived.Test.YtpacieocmogjeaaKGv7
import Derived.Test.YtpacieocmogjeaaKGv8
namespace Go.Proofs.Ytpacieocmogjeaa.Ct
set_option linter.unusedVariables false
set_option linter.unusedSimpArgs false
open Go.RowKit Go.Proofs.Ytpacieocmogjeaa.Ba Go.Proofs.Ytpacieocmogjeaa.Mem Go.Proofs.Ytpacieocmogjeaa.Ty Go.Proofs.Ytpacieocmogjeaa.Mo Go.Proofs.Ytpacieocmogjeaa.St Go.Proofs.Ytpacieocmogjeaa.Sc Go.Proofs.Ytpacieocmogjeaa.Pl
set_option maxRecDepth 100000
attribute [local irreducible] Go.wpList
open Go.Proofs.Ytpacieocmogjeaa.Ce (ov overT)
def m1 (n : Int) : Int := if n < 1 then 1 else n
def dwV (n : Int) : Int := if 1000 < m1 n then 1000 else m1 n
set_option maxHeartbeats 4000000 in
theorem dwellT (c : CfgV) (w : World) : Calls Try.prog 86 #[.agg (cfgA c)] w fun e w' => e = .returned (.int .i64 (dwV c.dw)) ∧ Since w w' := by
  go_enter Try.func86, Try.ntmps86
  go_upto_region 1 with fail
  obtain ⟨w1, hw1⟩ : ∃ w1, w1 = (w.alloc (.cells (cfgA c) 23)) := ⟨_, rfl⟩
  rw [← hw1]
  have HBC1 := Lib.hid (show Blk w1 (w.heap.size) 23 (cfgA c) by rw [hw1]; exact Blk.at_ (by (try simp only [size_alloc])) _ _)
  have HS1 := Lib.hid (show Since w w1 by rw [hw1]; exact Since.alloc (Since.refl w) _)
  have hNE : w.heap.size ≤ w.heap.size := by omega
  have HNE := Lib.hid hNE
  clear hNE hw1
  have HNE3 := Lib.hid (show w.heap.size ≤ w.heap.size from HNE.out)
  clear HNE
  refine wp_region_lit ?_
  refine tkL (.pointer (some ⟨w.heap.size, 5, none⟩)) (h := ?_)
  (try simp only [Act.put, sA, sB, sC])
  refine wpList_q (by rfl) (.int .i64 c.dw) ?he ?_
  case he => exact exec_cell 3 _ _ HBC1.out rfl rfl rfl Try.underlying3 rfl
  (try simp only [Act.put, sA, sB, sC])
  refine wpList_q (by rfl) (.int .i64 (m1 c.dw)) ?he ?_
  case he => (unfold m1; go_simp; (first | done | rfl))
  (try simp only [Act.put, sA, sB, sC])
  refine wpList_q (by rfl) (.int .i64 (dwV c.dw)) ?he ?_
  case he => (unfold dwV; go_simp; (first | done | rfl))
  (try simp only [Act.put, sA, sB, sC])
  refine tkL (.int .i64 (dwV c.dw)) (h := ?_)
  (try simp only [Act.put, sA, sB, sC])
  refine wpList_nil ?_
  (try go_wp2_with fail)
  go_ret
  exact ⟨rfl, HS1.out⟩
/-- What serving a floor leaves of a car. -/
def svX (c : CfgV) (x : CarV) (f : Int) : CarV := { x with sp := clP x.sp f, su := clU x.su f x.wy, sd := clD x.sd f x.wy, ti := dwV c.dw, ju := f }
def svF (x : CarV) (f : Int) : Int := if atB x.su x.sd f x.wy = true then f else 0
def svW (x : CarV) (f : Int) : Int := if atB x.su x.sd f x.wy = true then x.wy else 0
set_option maxHeartbeats 4000000 in
theorem serveY (q : Nat) (c : CfgV) (x : CarV) (f : Int) (w : World) (hb : Blk w q 97 (ctlA x 0 false false)) (hp : R x.sp) (hu : R x.su) (hd : R x.sd) (ha : atB x.su x.sd f x.wy = true) : Calls Try.prog 84 #[.pointer (some ⟨q, 0, none⟩), .agg (cfgA c), .int .i64 f] w fun e w' => e = .returned (.tuple #[.agg #[.int .i64 f, .int .i64 x.wy], .bool true]) ∧ Blk w' q 97 (ctlA (svX c x f) 0 true false) ∧ Upd [q] w w' := by
  have HBQ := Lib.hid hb
  clear hb
  have HP := Lib.hid hp
  clear hp
  have HU := Lib.hid hu
  clear hu
  have HD := Lib.hid hd
  clear hd
  have HA := Lib.hid ha
  clear ha
  go_enter Try.func84, Try.ntmps84
  go_upto_region 1 with fail
  obtain ⟨w1, hw1⟩ : ∃ w1, w1 = ((w.alloc (.cells (cfgA c) 23)).alloc (.cells #[.int .i64 0, .int .i64 0] 32)) := ⟨_, rfl⟩
  rw [← hw1]
  have HBC1 := Lib.hid (show Blk w1 (w.heap.size) 23 (cfgA c) by rw [hw1]; exact Blk.alloc (Blk.at_ (by (try simp only [size_alloc])) _ _) _)
  have HBR1 := Lib.hid (show Blk w1 (w.heap.size + 1) 32 #[.int .i64 0, .int .i64 0] by rw [hw1]; exact Blk.at_ (by (try simp only [size_alloc])) _ _)
  have HS1 := Lib.hid (show Since w w1 by rw [hw1]; exact Since.alloc (Since.alloc (Since.refl w) _) _)
  have hNE : w.heap.size ≤ w.heap.size ∧ w.heap.size < w.heap.size + 1 := by omega
  have HNE := Lib.hid hNE
  clear hNE hw1
  generalize w.heap.size + 1 = bR at *
  have HNE3 := Lib.hid (show w.heap.size ≤ w.heap.size ∧ w.heap.size < bR from HNE.out)
  clear HNE
  have HBQ1 := Lib.hid (keep_blk HS1.out HBQ.out)
  have HLO := Lib.hid (show q < w.heap.size from Blk.lt HBQ.out)
  have HNC := Lib.hid (show q ≠ w.heap.size by have := HLO.out; have := HNE3.out; omega)
  have HNR := Lib.hid (show q ≠ bR by have := HLO.out; have := HNE3.out; omega)
  clear HBQ
  have HSU := Lib.hid (show Upd [q] w w1 from Upd.of_since HS1.out); clear HS1
  have hrK : ∀ W W' : World, Since W W' → (Upd [q] w W ∧ Blk W w.heap.size 23 (cfgA c) ∧ Blk W bR 32 #[.int .i64 0, .int .i64 0] ∧ Blk W q 97 (ctlA x 0 false false)) → (Upd [q] w W' ∧ Blk W' w.heap.size 23 (cfgA c) ∧ Blk W' bR 32 #[.int .i64 0, .int .i64 0] ∧ Blk W' q 97 (ctlA x 0 false false)) := fun W W' k ⟨h, h0, h1, h2⟩ => ⟨h.trans k, keep_blk k h0, keep_blk k h1, keep_blk k h2⟩
  have hrS : (fun W : World => Upd [q] w W ∧ Blk W w.heap.size 23 (cfgA c) ∧ Blk W bR 32 #[.int .i64 0, .int .i64 0] ∧ Blk W q 97 (ctlA x 0 false false)) w1 := ⟨HSU.out, HBC1.out, HBR1.out, HBQ1.out⟩
  have HRK := Lib.hid hrK
  have HRD := Lib.hid (show (fun W : World => Upd [q] w W ∧ Blk W w.heap.size 23 (cfgA c) ∧ Blk W bR 32 #[.int .i64 0, .int .i64 0] ∧ Blk W q 97 (ctlA x 0 false false)) (World.drew w1) from hrK _ _ ((Since.refl w1).drew) hrS)
  clear hrK hrS
  refine wp_region_held_drew (S := fun W : World => Upd [q] w W ∧ Blk W w.heap.size 23 (cfgA c) ∧ Blk W bR 32 #[.int .i64 0, .int .i64 0] ∧ Blk W q 97 (ctlA x 0 false false)) (by kernel_rfl) HRD.out (fun hHeld => ?_)
  refine tkQ 0 (.pointer (some ⟨q, 0, none⟩)) hHeld (h := ?_)
  (try simp only [Act.put, sA, sB, sC])
  refine tkQ 1 (.pointer (some ⟨q, 0, none⟩)) hHeld (h := ?_)
  (try simp only [Act.put, sA, sB, sC])
  refine tkQ 2 (.pointer (some ⟨q, 0, none⟩)) hHeld (h := ?_)
  (try simp only [Act.put, sA, sB, sC])
  refine tkQ 3 (.pointer (some ⟨q, 12, none⟩)) hHeld (h := ?_)
  (try simp only [Act.put, sA, sB, sC])
  refine tkQ 4 (.agg #[.int .u64 x.sp, .int .u64 x.su, .int .u64 x.sd]) hHeld (he := by intro w hSw; exact exec_part (n := 3) 28 _ _ hSw.2.2.2 rfl rfl rfl rfl Try.underlying28 rfl (by kernel_rfl)) (h := ?_)
  (try simp only [Act.put, sA, sB, sC])
  refine tkQ 5 (.int .i64 f) hHeld (h := ?_)
  (try simp only [Act.put, sA, sB, sC])
  refine tkQ 6 (.pointer (some ⟨q, 0, none⟩)) hHeld (h := ?_)
  (try simp only [Act.put, sA, sB, sC])
  refine tkQ 7 (.pointer (some ⟨q, 0, none⟩)) hHeld (h := ?_)
  (try simp only [Act.put, sA, sB, sC])
  refine tkQ 8 (.pointer (some ⟨q, 0, none⟩)) hHeld (h := ?_)
  (try simp only [Act.put, sA, sB, sC])
  refine tkQ 9 (.pointer (some ⟨q, 3, none⟩)) hHeld (h := ?_)
  (try simp only [Act.put, sA, sB, sC])
  refine tkQ 10 (.int .i64 x.wy) hHeld (he := by intro w hSw; exact exec_cell 3 _ _ hSw.2.2.2 rfl rfl rfl Try.underlying3 rfl) (h := ?_)
  (try simp only [Act.put, sA, sB, sC])
  refine wpAnyH_ready (rs := [11]) (by kernel_rfl) (by simp) ?_
  refine AllReadyH.cons (o := ?o1__11) ?h1__11 (fun K hK => ?_) AllReadyH.nil
  case h1__11 => (first | (simp only [gA, gB, gC]; done) | (simp only [gA, gB, gC]; exact rfl))
  (try go_simp)
  refine (atT x.sp x.su x.sd f x.wy HU.out HD.out _).mono ?_
  rintro e w2 ⟨rfl, hb⟩
  (try go_wp2_with fail)
  refine hK.out _ _ (by (apply HRK.out; exact hb; exact hHeld)) (fun hHeld2 => ?_)
  clear hK K hHeld hb
  have hHeld := hHeld2
  clear hHeld2
  (try simp only [Act.put, sA, sB, sC])
  refine tkQ 12 (.bool (atB x.su x.sd f x.wy)) hHeld (h := ?_)
  (try simp only [Act.put, sA, sB, sC])
  refine wpAnyH_done (by kernel_rfl) ?_ _
  have HSd1 := Lib.hid hHeld.1
  have HBCd1 := Lib.hid (hHeld.2.1)
  have HBRd1 := Lib.hid (hHeld.2.2.1)
  have HBKd1 := Lib.hid (hHeld.2.2.2)
  clear hHeld HRK HRD HSU HBC1 HBR1 HBQ1
  go_upto_region 2 with fail
  go_cut [] (fun  wx => Hid (Upd [q] w wx ∧ Blk wx w.heap.size 23 (cfgA c) ∧ Blk wx bR 32 #[.int .i64 0, .int .i64 0] ∧ Blk wx q 97 #[.int .i64 x.ds, .int .i64 x.da, .int .i64 x.un, .int .i64 x.wy, .int .i64 x.ti, .int .i64 x.ju, .int .i64 x.lo, .bool x.bl, .bool x.br, .int .i64 x.mo, .int .i64 x.ta, .bool x.ho, .int .u64 (clP x.sp f), .int .u64 (clU x.su f x.wy), .int .u64 (clD x.sd f x.wy), .int .i64 0, .bool false, .bool false]))
  case first =>
    have hrK : ∀ W W' : World, Since W W' → (Upd [q] w W ∧ Blk W w.heap.size 23 (cfgA c) ∧ Blk W bR 32 #[.int .i64 0, .int .i64 0] ∧ HasRow W q 97 18) → (Upd [q] w W' ∧ Blk W' w.heap.size 23 (cfgA c) ∧ Blk W' bR 32 #[.int .i64 0, .int .i64 0] ∧ HasRow W' q 97 18) := fun W W' k ⟨h, h0, h1, h2⟩ => ⟨h.trans k, keep_blk k h0, keep_blk k h1, HasRow.keep k h2⟩
    have hrS : (fun W : World => Upd [q] w W ∧ Blk W w.heap.size 23 (cfgA c) ∧ Blk W bR 32 #[.int .i64 0, .int .i64 0] ∧ HasRow W q 97 18) w2 := ⟨HSd1.out, HBCd1.out, HBRd1.out, HasRow.of HBKd1.out rfl⟩
    have HRK := Lib.hid hrK
    have HRD := Lib.hid (show (fun W : World => Upd [q] w W ∧ Blk W w.heap.size 23 (cfgA c) ∧ Blk W bR 32 #[.int .i64 0, .int .i64 0] ∧ HasRow W q 97 18) (World.drew w2) from hrK _ _ ((Since.refl w2).drew) hrS)
    clear hrK hrS
    have HPK := Lib.hid (show Blk (World.drew w2) q 97 (ctlA x 0 false false) from HBKd1.out)
    refine wp_region_held_drew (S := fun W : World => Upd [q] w W ∧ Blk W w.heap.size 23 (cfgA c) ∧ Blk W bR 32 #[.int .i64 0, .int .i64 0] ∧ HasRow W q 97 18) (by kernel_rfl) HRD.out (fun hHeld => ?_)
    refine tkQ 0 (.pointer (some ⟨q, 0, none⟩)) hHeld (h := ?_)
    (try simp only [Act.put, sA, sB, sC])
    refine tkQ 1 (.pointer (some ⟨q, 0, none⟩)) hHeld (h := ?_)
    (try simp only [Act.put, sA, sB, sC])
    refine tkQ 2 (.pointer (some ⟨q, 0, none⟩)) hHeld (h := ?_)
    (try simp only [Act.put, sA, sB, sC])
    refine tkQ 3 (.pointer (some ⟨q, 0, none⟩)) hHeld (h := ?_)
    (try simp only [Act.put, sA, sB, sC])
    refine tkQ 4 (.pointer (some ⟨q, 12, none⟩)) hHeld (h := ?_)
    (try simp only [Act.put, sA, sB, sC])
    refine tkQ 6 (.int .i64 f) hHeld (h := ?_)
    (try simp only [Act.put, sA, sB, sC])
    refine tkQ 7 (.pointer (some ⟨q, 0, none⟩)) hHeld (h := ?_)
    (try simp only [Act.put, sA, sB, sC])
    refine tkQ 8 (.pointer (some ⟨q, 0, none⟩)) hHeld (h := ?_)
    (try simp only [Act.put, sA, sB, sC])
    refine tkQ 9 (.pointer (some ⟨q, 0, none⟩)) hHeld (h := ?_)
    (try simp only [Act.put, sA, sB, sC])
    refine tkQ 10 (.pointer (some ⟨q, 3, none⟩)) hHeld (h := ?_)
    (try simp only [Act.put, sA, sB, sC])
    refine wpAnyH_ready (rs := [5, 11]) (by kernel_rfl) (by simp) ?_
    refine AllReadyH.cons (o := ?o2__5b) ?h2__5b (fun K hK => ?g2__5b) (AllReadyH.cons (o := ?o2__11b) ?h2__11b (fun K hK => ?g2__11b) AllReadyH.nil)
    case h2__5b => (first | (simp only [gA, gB, gC]; done) | (simp only [gA, gB, gC]; exact rfl))
    case h2__11b => (first | (simp only [gA, gB, gC]; done) | (simp only [gA, gB, gC]; exact rfl))
    case g2__5b =>
      rw [if_pos (by rfl)]
      refine wp_q (.agg #[.int .u64 x.sp, .int .u64 x.su, .int .u64 x.sd]) ?e2_b5_5 ?_
      case e2_b5_5 => exact exec_part (n := 3) 28 _ _ HPK.out rfl rfl rfl rfl Try.underlying28 rfl (by kernel_rfl)
      refine hK.out _ _ hHeld (fun hHeld2 => ?_)
      clear hK K hHeld2
      (try simp only [Act.put, sA, sB, sC])
      refine wpAnyH_ready (rs := [11]) (by kernel_rfl) (by simp) ?_
      refine AllReadyH.cons (o := ?o2_b5_11) ?h2_b5_11 (fun K hK => ?_) AllReadyH.nil
      case h2_b5_11 => (first | (simp only [gA, gB, gC]; done) | (simp only [gA, gB, gC]; exact rfl))
      rw [if_pos (by rfl)]
      refine wp_q (.int .i64 x.wy) ?e2_b5_11 ?_
      case e2_b5_11 => exact exec_cell 3 _ _ HPK.out rfl rfl rfl Try.underlying3 rfl
      refine hK.out _ _ hHeld (fun hHeld2 => ?_)
      clear hK K hHeld2
      (try simp only [Act.put, sA, sB, sC])
      refine wpAnyH_ready (rs := [12]) (by kernel_rfl) (by simp) ?_
      refine AllReadyH.cons (o := ?o2_b5_12) ?h2_b5_12 (fun K hK => ?_) AllReadyH.nil
      case h2_b5_12 => (first | (simp only [gA, gB, gC]; done) | (simp only [gA, gB, gC]; exact rfl))
      (try go_simp)
      refine (clearT x.sp x.su x.sd f x.wy _).mono ?_
      rintro e w3 ⟨rfl, hb⟩
      (try go_wp2_with fail)
      refine hK.out _ _ (by (apply HRK.out; exact hb; exact hHeld)) (fun hHeld2 => ?_)
      have HPKk := Lib.hid (keep_blk hb HPK.out)
      clear HPK
      clear hK K hHeld hb
      have hHeld := hHeld2
      clear hHeld2
      (try simp only [Act.put, sA, sB, sC])
      refine tkQ 13 (.pointer (some ⟨q, 0, none⟩)) hHeld (h := ?_)
      (try simp only [Act.put, sA, sB, sC])
      refine tkQ 14 (.pointer (some ⟨q, 0, none⟩)) hHeld (h := ?_)
      (try simp only [Act.put, sA, sB, sC])
      refine tkQ 15 (.pointer (some ⟨q, 12, none⟩)) hHeld (h := ?_)
      (try simp only [Act.put, sA, sB, sC])
      refine wpAnyH_ready (rs := [16]) (by kernel_rfl) (by simp) ?_
      refine AllReadyH.cons (o := ?o2_b5_16) ?h2_b5_16 (fun K hK => ?_) AllReadyH.nil
      case h2_b5_16 => (first | (simp only [gA, gB, gC]; done) | (simp only [gA, gB, gC]; exact rfl))
      rw [if_pos (by rfl)]
      refine wp_st_part 28 _ _ rfl #[.int .i64 x.ds, .int .i64 x.da, .int .i64 x.un, .int .i64 x.wy, .int .i64 x.ti, .int .i64 x.ju, .int .i64 x.lo, .bool x.bl, .bool x.br, .int .i64 x.mo, .int .i64 x.ta, .bool x.ho, .int .u64 (clP x.sp f), .int .u64 (clU x.su f x.wy), .int .u64 (clD x.sd f x.wy), .int .i64 0, .bool false, .bool false] (#[.int .u64 (clP x.sp f), .int .u64 (clU x.su f x.wy), .int .u64 (clD x.sd f x.wy)]) rfl rfl HPKk.out (Nat.le_of_ble_eq_true rfl) rfl (by simp [cfgA, carA, ctlA, Value.oneCell']) (by kernel_rfl) ?_
      clear HPKk
      intro w4 hw
      have HRK := Lib.hid (show Blk w4 q 97 #[.int .i64 x.ds, .int .i64 x.da, .int .i64 x.un, .int .i64 x.wy, .int .i64 x.ti, .int .i64 x.ju, .int .i64 x.lo, .bool x.bl, .bool x.br, .int .i64 x.mo, .int .i64 x.ta, .bool x.ho, .int .u64 (clP x.sp f), .int .u64 (clU x.su f x.wy), .int .u64 (clD x.sd f x.wy), .int .i64 0, .bool false, .bool false] by obtain ⟨old, Bo, _⟩ := hHeld.2.2.2; rw [hw]; exact Blk.row Bo _)
      have hHeld3 : (fun W : World => Upd [q] w W ∧ Blk W w.heap.size 23 (cfgA c) ∧ Blk W bR 32 #[.int .i64 0, .int .i64 0] ∧ HasRow W q 97 18) w4 := ⟨by rw [hw]; exact Upd.setRow hHeld.1 (.inl (by simp)) _, by rw [hw]; exact Blk.row_far (hHeld.2.1) (Ne.symm HNC.out) _, by rw [hw]; exact Blk.row_far (hHeld.2.2.1) (Ne.symm HNR.out) _, HasRow.of HRK.out rfl⟩
      refine hK.out _ _ hHeld3 (fun hHeld2 => ?_)
      clear hK K hHeld hHeld3 hw
      have hHeld := hHeld2
      clear hHeld2
      (try simp only [Act.put, sA, sB, sC])
      refine wpAnyH_done (by kernel_rfl) ?_ _
      have HSd2 := Lib.hid hHeld.1
      have HBCd2 := Lib.hid (hHeld.2.1)
      have HBRd2 := Lib.hid (hHeld.2.2.1)
      have HBKd2 := Lib.hid HRK.out
      clear HRK
      clear hHeld HRK HRD HSd1 HBCd1 HBRd1 HBKd1
      go_wp2_with fail
      go_meet
      case rel => exact Lib.hid ⟨HSd2.out, HBCd2.out, HBRd2.out, HBKd2.out⟩
    case g2__11b =>
      rw [if_pos (by rfl)]
      refine wp_q (.int .i64 x.wy) ?e2_b11_11 ?_
      case e2_b11_11 => exact exec_cell 3 _ _ HPK.out rfl rfl rfl Try.underlying3 rfl
      refine hK.out _ _ hHeld (fun hHeld2 => ?_)
      clear hK K hHeld2
      (try simp only [Act.put, sA, sB, sC])
      refine wpAnyH_ready (rs := [5]) (by kernel_rfl) (by simp) ?_
      refine AllReadyH.cons (o := ?o2_b11_5) ?h2_b11_5 (fun K hK => ?_) AllReadyH.nil
      case h2_b11_5 => (first | (simp only [gA, gB, gC]; done) | (simp only [gA, gB, gC]; exact rfl))
      rw [if_pos (by rfl)]
      refine wp_q (.agg #[.int .u64 x.sp, .int .u64 x.su, .int .u64 x.sd]) ?e2_b11_5 ?_
      case e2_b11_5 => exact exec_part (n := 3) 28 _ _ HPK.out rfl rfl rfl rfl Try.underlying28 rfl (by kernel_rfl)
      refine hK.out _ _ hHeld (fun hHeld2 => ?_)
      clear hK K hHeld2
      (try simp only [Act.put, sA, sB, sC])
      refine wpAnyH_ready (rs := [12]) (by kernel_rfl) (by simp) ?_
      refine AllReadyH.cons (o := ?o2_b11_12) ?h2_b11_12 (fun K hK => ?_) AllReadyH.nil
      case h2_b11_12 => (first | (simp only [gA, gB, gC]; done) | (simp only [gA, gB, gC]; exact rfl))
      (try go_simp)
      refine (clearT x.sp x.su x.sd f x.wy _).mono ?_
      rintro e w3 ⟨rfl, hb⟩
      (try go_wp2_with fail)
      refine hK.out _ _ (by (apply HRK.out; exact hb; exact hHeld)) (fun hHeld2 => ?_)
      have HPKk := Lib.hid (keep_blk hb HPK.out)
      clear HPK
      clear hK K hHeld hb
      have hHeld := hHeld2
      clear hHeld2
      (try simp only [Act.put, sA, sB, sC])
      refine tkQ 13 (.pointer (some ⟨q, 0, none⟩)) hHeld (h := ?_)
      (try simp only [Act.put, sA, sB, sC])
      refine tkQ 14 (.pointer (some ⟨q, 0, none⟩)) hHeld (h := ?_)
      (try simp only [Act.put, sA, sB, sC])
      refine tkQ 15 (.pointer (some ⟨q, 12, none⟩)) hHeld (h := ?_)
      (try simp only [Act.put, sA, sB, sC])
      refine wpAnyH_ready (rs := [16]) (by kernel_rfl) (by simp) ?_
      refine AllReadyH.cons (o := ?o2_b11_16) ?h2_b11_16 (fun K hK => ?_) AllReadyH.nil
      case h2_b11_16 => (first | (simp only [gA, gB, gC]; done) | (simp only [gA, gB, gC]; exact rfl))
      rw [if_pos (by rfl)]
      refine wp_st_part 28 _ _ rfl #[.int .i64 x.ds, .int .i64 x.da, .int .i64 x.un, .int .i64 x.wy, .int .i64 x.ti, .int .i64 x.ju, .int .i64 x.lo, .bool x.bl, .bool x.br, .int .i64 x.mo, .int .i64 x.ta, .bool x.ho, .int .u64 (clP x.sp f), .int .u64 (clU x.su f x.wy), .int .u64 (clD x.sd f x.wy), .int .i64 0, .bool false, .bool false] (#[.int .u64 (clP x.sp f), .int .u64 (clU x.su f x.wy), .int .u64 (clD x.sd f x.wy)]) rfl rfl HPKk.out (Nat.le_of_ble_eq_true rfl) rfl (by simp [cfgA, carA, ctlA, Value.oneCell']) (by kernel_rfl) ?_
      clear HPKk
      intro w4 hw
      have HRK := Lib.hid (show Blk w4 q 97 #[.int .i64 x.ds, .int .i64 x.da, .int .i64 x.un, .int .i64 x.wy, .int .i64 x.ti, .int .i64 x.ju, .int .i64 x.lo, .bool x.bl, .bool x.br, .int .i64 x.mo, .int .i64 x.ta, .bool x.ho, .int .u64 (clP x.sp f), .int .u64 (clU x.su f x.wy), .int .u64 (clD x.sd f x.wy), .int .i64 0, .bool false, .bool false] by obtain ⟨old, Bo, _⟩ := hHeld.2.2.2; rw [hw]; exact Blk.row Bo _)
      have hHeld3 : (fun W : World => Upd [q] w W ∧ Blk W w.heap.size 23 (cfgA c) ∧ Blk W bR 32 #[.int .i64 0, .int .i64 0] ∧ HasRow W q 97 18) w4 := ⟨by rw [hw]; exact Upd.setRow hHeld.1 (.inl (by simp)) _, by rw [hw]; exact Blk.row_far (hHeld.2.1) (Ne.symm HNC.out) _, by rw [hw]; exact Blk.row_far (hHeld.2.2.1) (Ne.symm HNR.out) _, HasRow.of HRK.out rfl⟩
      refine hK.out _ _ hHeld3 (fun hHeld2 => ?_)
      clear hK K hHeld hHeld3 hw
      have hHeld := hHeld2
      clear hHeld2
      (try simp only [Act.put, sA, sB, sC])
      refine wpAnyH_done (by kernel_rfl) ?_ _
      have HSd2v2 := Lib.hid hHeld.1
      have HBCd2v2 := Lib.hid (hHeld.2.1)
      have HBRd2v2 := Lib.hid (hHeld.2.2.1)
      have HBKd2v2 := Lib.hid HRK.out
      clear HRK
      clear hHeld HRK HRD HSd1 HBCd1 HBRd1 HBKd1
      go_wp2_with fail
      go_meet
      case rel => exact Lib.hid ⟨HSd2v2.out, HBCd2v2.out, HBRd2v2.out, HBKd2v2.out⟩
  case rest =>
    clear HSd1 HBCd1 HBRd1 HBKd1
    obtain ⟨g0, g1, g2, g3⟩ := hcut.out
    clear hcut
    have HS52 := Lib.hid g0
    have HBC52 := Lib.hid g1
    have HBR52 := Lib.hid g2
    have HBK52 := Lib.hid g3
    clear g0 g1 g2 g3
    go_upto_region 3 with fail
    refine wp_region_lit ?_
    refine tkL (.pointer (some ⟨q, 0, none⟩)) (h := ?_)
    (try simp only [Act.put, sA, sB, sC])
    refine tkL (.pointer (some ⟨q, 0, none⟩)) (h := ?_)
    (try simp only [Act.put, sA, sB, sC])
    refine tkL (.pointer (some ⟨q, 0, none⟩)) (h := ?_)
    (try simp only [Act.put, sA, sB, sC])
    refine wpList_q (by rfl) (.agg (cfgA c)) ?he ?_
    case he => exact exec_load_row 23 _ _ HBC52.out rfl rfl Try.underlying23 rfl (by kernel_rfl)
    (try simp only [Act.put, sA, sB, sC])
    refine wpList_wp (by rfl) (fun K hK => ?_)
    (try go_simp)
    refine (dwellT c _).mono ?_
    rintro e w53 ⟨rfl, hb⟩
    (try go_wp2_with fail)
    refine hK.out _ _ ?_
    clear hK K
    (try simp only [Act.put, sA, sB, sC])
    have HS53 := Lib.hid (Upd.trans HS52.out hb)
    have HBC53 := Lib.hid (keep_blk hb HBC52.out)
    have HBR53 := Lib.hid (keep_blk hb HBR52.out)
    have HBK53 := Lib.hid (keep_blk hb HBK52.out)
    clear HS52 HBC52 HBR52 HBK52
    clear hb
    refine tkL (.int .i64 f) (h := ?_)
    (try simp only [Act.put, sA, sB, sC])
    refine tkL (.pointer (some ⟨q, 0, none⟩)) (h := ?_)
    (try simp only [Act.put, sA, sB, sC])
    refine tkL (.pointer (some ⟨q, 15, none⟩)) (h := ?_)
    (try simp only [Act.put, sA, sB, sC])
    refine tkL (.pointer (some ⟨q, 16, none⟩)) (h := ?_)
    (try simp only [Act.put, sA, sB, sC])
    refine wpList_wp (by rfl) (fun K hK => ?_)
    refine wp_st_cell 4 _ _ rfl #[.int .i64 x.ds, .int .i64 x.da, .int .i64 x.un, .int .i64 x.wy, .int .i64 x.ti, .int .i64 x.ju, .int .i64 x.lo, .bool x.bl, .bool x.br, .int .i64 x.mo, .int .i64 x.ta, .bool x.ho, .int .u64 (clP x.sp f), .int .u64 (clU x.su f x.wy), .int .u64 (clD x.sd f x.wy), .int .i64 0, .bool true, .bool false] (.bool true) rfl rfl HBK53.out (by show 16 < 18; decide) rfl (by first | rfl | simp [Value.oneCell']) (by kernel_rfl) ?_
    intro w54 hw
    refine hK.out _ _ ?_
    clear hK K
    (try simp only [Act.put, sA, sB, sC])
    have HS54 := Lib.hid (show Upd [q] w w54 by rw [hw]; exact Upd.setRow HS53.out (.inl (by simp)) _)
    have HBC54 := Lib.hid (show Blk w54 w.heap.size 23 (cfgA c) by rw [hw]; exact Blk.row_far HBC53.out (Ne.symm HNC.out) _)
    have HBR54 := Lib.hid (show Blk w54 bR 32 #[.int .i64 0, .int .i64 0] by rw [hw]; exact Blk.row_far HBR53.out (Ne.symm HNR.out) _)
    have HBK54 := Lib.hid (show Blk w54 q 97 #[.int .i64 x.ds, .int .i64 x.da, .int .i64 x.un, .int .i64 x.wy, .int .i64 x.ti, .int .i64 x.ju, .int .i64 x.lo, .bool x.bl, .bool x.br, .int .i64 x.mo, .int .i64 x.ta, .bool x.ho, .int .u64 (clP x.sp f), .int .u64 (clU x.su f x.wy), .int .u64 (clD x.sd f x.wy), .int .i64 0, .bool true, .bool false] by rw [hw]; exact Blk.row HBK53.out _)
    clear hw HS53 HBC53 HBR53 HBK53
    refine tkL (.pointer (some ⟨q, 0, none⟩)) (h := ?_)
    (try simp only [Act.put, sA, sB, sC])
    refine tkL (.pointer (some ⟨q, 0, none⟩)) (h := ?_)
    (try simp only [Act.put, sA, sB, sC])
    refine tkL (.pointer (some ⟨q, 4, none⟩)) (h := ?_)
    (try simp only [Act.put, sA, sB, sC])
    refine wpList_wp (by rfl) (fun K hK => ?_)
    refine wp_st_cell 3 _ _ rfl #[.int .i64 x.ds, .int .i64 x.da, .int .i64 x.un, .int .i64 x.wy, .int .i64 (dwV c.dw), .int .i64 x.ju, .int .i64 x.lo, .bool x.bl, .bool x.br, .int .i64 x.mo, .int .i64 x.ta, .bool x.ho, .int .u64 (clP x.sp f), .int .u64 (clU x.su f x.wy), .int .u64 (clD x.sd f x.wy), .int .i64 0, .bool true, .bool false] (.int .i64 (dwV c.dw)) rfl rfl HBK54.out (by show 4 < 18; decide) rfl (by first | rfl | simp [Value.oneCell']) (by kernel_rfl) ?_
    intro w55 hw
    refine hK.out _ _ ?_
    clear hK K
    (try simp only [Act.put, sA, sB, sC])
    have HS55 := Lib.hid (show Upd [q] w w55 by rw [hw]; exact Upd.setRow HS54.out (.inl (by simp)) _)
    have HBC55 := Lib.hid (show Blk w55 w.heap.size 23 (cfgA c) by rw [hw]; exact Blk.row_far HBC54.out (Ne.symm HNC.out) _)
    have HBR55 := Lib.hid (show Blk w55 bR 32 #[.int .i64 0, .int .i64 0] by rw [hw]; exact Blk.row_far HBR54.out (Ne.symm HNR.out) _)
    have HBK55 := Lib.hid (show Blk w55 q 97 #[.int .i64 x.ds, .int .i64 x.da, .int .i64 x.un, .int .i64 x.wy, .int .i64 (dwV c.dw), .int .i64 x.ju, .int .i64 x.lo, .bool x.bl, .bool x.br, .int .i64 x.mo, .int .i64 x.ta, .bool x.ho, .int .u64 (clP x.sp f), .int .u64 (clU x.su f x.wy), .int .u64 (clD x.sd f x.wy), .int .i64 0, .bool true, .bool false] by rw [hw]; exact Blk.row HBK54.out _)
    clear hw HS54 HBC54 HBR54 HBK54
    refine tkL (.pointer (some ⟨q, 0, none⟩)) (h := ?_)
    (try simp only [Act.put, sA, sB, sC])
    refine tkL (.pointer (some ⟨q, 0, none⟩)) (h := ?_)
    (try simp only [Act.put, sA, sB, sC])
    refine tkL (.pointer (some ⟨q, 5, none⟩)) (h := ?_)
    (try simp only [Act.put, sA, sB, sC])
    refine wpList_wp (by rfl) (fun K hK => ?_)
    refine wp_st_cell 3 _ _ rfl #[.int .i64 x.ds, .int .i64 x.da, .int .i64 x.un, .int .i64 x.wy, .int .i64 (dwV c.dw), .int .i64 f, .int .i64 x.lo, .bool x.bl, .bool x.br, .int .i64 x.mo, .int .i64 x.ta, .bool x.ho, .int .u64 (clP x.sp f), .int .u64 (clU x.su f x.wy), .int .u64 (clD x.sd f x.wy), .int .i64 0, .bool true, .bool false] (.int .i64 f) rfl rfl HBK55.out (by show 5 < 18; decide) rfl (by first | rfl | simp [Value.oneCell']) (by kernel_rfl) ?_
    intro w56 hw
    refine hK.out _ _ ?_
    clear hK K
    (try simp only [Act.put, sA, sB, sC])
    have HS56 := Lib.hid (show Upd [q] w w56 by rw [hw]; exact Upd.setRow HS55.out (.inl (by simp)) _)
    have HBC56 := Lib.hid (show Blk w56 w.heap.size 23 (cfgA c) by rw [hw]; exact Blk.row_far HBC55.out (Ne.symm HNC.out) _)
    have HBR56 := Lib.hid (show Blk w56 bR 32 #[.int .i64 0, .int .i64 0] by rw [hw]; exact Blk.row_far HBR55.out (Ne.symm HNR.out) _)
    have HBK56 := Lib.hid (show Blk w56 q 97 #[.int .i64 x.ds, .int .i64 x.da, .int .i64 x.un, .int .i64 x.wy, .int .i64 (dwV c.dw), .int .i64 f, .int .i64 x.lo, .bool x.bl, .bool x.br, .int .i64 x.mo, .int .i64 x.ta, .bool x.ho, .int .u64 (clP x.sp f), .int .u64 (clU x.su f x.wy), .int .u64 (clD x.sd f x.wy), .int .i64 0, .bool true, .bool false] by rw [hw]; exact Blk.row HBK55.out _)
    clear hw HS55 HBC55 HBR55 HBK55
    refine wpList_nil ?_
    go_upto_region 4 with fail
    refine wp_region_lit ?_
    refine tkL (.bool (atB x.su x.sd f x.wy)) (h := ?_)
    (try simp only [Act.put, sA, sB, sC])
    refine wpList_q (by rfl) (.bool false) ?he ?_
    case he => (have q := HA.out; go_simp; (first | done | exact q | (simp [q]; done)))
    (try simp only [Act.put, sA, sB, sC])
    refine wpList_nil ?_
    go_upto_region 6 with fail
    refine wp_region_lit ?_
    refine tkL (.int .i64 f) (h := ?_)
    (try simp only [Act.put, sA, sB, sC])
    refine tkL (.pointer (some ⟨q, 0, none⟩)) (h := ?_)
    (try simp only [Act.put, sA, sB, sC])
    refine tkL (.pointer (some ⟨q, 0, none⟩)) (h := ?_)
    (try simp only [Act.put, sA, sB, sC])
    refine tkL (.pointer (some ⟨q, 0, none⟩)) (h := ?_)
    (try simp only [Act.put, sA, sB, sC])
    refine tkL (.pointer (some ⟨q, 3, none⟩)) (h := ?_)
    (try simp only [Act.put, sA, sB, sC])
    refine wpList_q (by rfl) (.int .i64 x.wy) ?he ?_
    case he => exact exec_cell 3 _ _ HBK56.out rfl rfl rfl Try.underlying3 rfl
    (try simp only [Act.put, sA, sB, sC])
    refine wpList_q (by rfl) (.agg #[.int .i64 f, .int .i64 x.wy]) ?he ?_
    case he => kernel_rfl
    (try simp only [Act.put, sA, sB, sC])
    refine wpList_wp (by rfl) (fun K hK => ?_)
    refine wp_st_row 32 _ _ rfl #[.int .i64 f, .int .i64 x.wy] rfl rfl (HasRow.of HBR56.out rfl) rfl (by simp [cfgA, carA, ctlA, Value.oneCell']) (by kernel_rfl) ?_
    intro w57 hw
    refine hK.out _ _ ?_
    clear hK K
    (try simp only [Act.put, sA, sB, sC])
    have HS57 := Lib.hid (show Upd [q] w w57 by rw [hw]; exact Upd.setRow HS56.out (Or.inr (by have := HNE3.out; omega)) _)
    have HBC57 := Lib.hid (show Blk w57 w.heap.size 23 (cfgA c) by rw [hw]; exact Blk.row_far HBC56.out (by have := HNE3.out; omega) _)
    have HBR57 := Lib.hid (show Blk w57 bR 32 #[.int .i64 f, .int .i64 x.wy] by rw [hw]; exact Blk.row HBR56.out _)
    have HBK57 := Lib.hid (show Blk w57 q 97 #[.int .i64 x.ds, .int .i64 x.da, .int .i64 x.un, .int .i64 x.wy, .int .i64 (dwV c.dw), .int .i64 f, .int .i64 x.lo, .bool x.bl, .bool x.br, .int .i64 x.mo, .int .i64 x.ta, .bool x.ho, .int .u64 (clP x.sp f), .int .u64 (clU x.su f x.wy), .int .u64 (clD x.sd f x.wy), .int .i64 0, .bool true, .bool false] by rw [hw]; exact Blk.row_far HBK56.out HNR.out _)
    clear hw HS56 HBC56 HBR56 HBK56
    refine tkL (.bool true) (h := ?_)
    (try simp only [Act.put, sA, sB, sC])
    refine wpList_nil ?_
    (try go_wp2_with fail)
    exact bodyPost_ret (results_row2 rfl _ _ bR 32 #[.int .i64 f, .int .i64 x.wy] _ (.bool true) rfl rfl HBR57.out Try.underlying32 rfl (by kernel_rfl)) rfl ⟨rfl, HBK57.out, HS57.out⟩
set_option maxHeartbeats 4000000 in
theorem serveN (q : Nat) (c : CfgV) (x : CarV) (f : Int) (w : World) (hb : Blk w q 97 (ctlA x 0 false false)) (hp : R x.sp) (hu : R x.su) (hd : R x.sd) (ha : atB x.su x.sd f x.wy = false) : Calls Try.prog 84 #[.pointer (some ⟨q, 0, none⟩), .agg (cfgA c), .int .i64 f] w fun e w' => e = .returned (.tuple #[.agg #[.int .i64 0, .int .i64 0], .bool false]) ∧ Blk w' q 97 (ctlA (svX c x f) 0 true false) ∧ Upd [q] w w' := by
  have HBQ := Lib.hid hb
  clear hb
  have HP := Lib.hid hp
  clear hp
  have HU := Lib.hid hu
  clear hu
  have HD := Lib.hid hd
  clear hd
  have HA := Lib.hid ha
  clear ha
  go_enter Try.func84, Try.ntmps84
  go_upto_region 1 with fail
  obtain ⟨w1, hw1⟩ : ∃ w1, w1 = ((w.alloc (.cells (cfgA c) 23)).alloc (.cells #[.int .i64 0, .int .i64 0] 32)) := ⟨_, rfl⟩
  rw [← hw1]
  have HBC1 := Lib.hid (show Blk w1 (w.heap.size) 23 (cfgA c) by rw [hw1]; exact Blk.alloc (Blk.at_ (by (try simp only [size_alloc])) _ _) _)
  have HBR1 := Lib.hid (show Blk w1 (w.heap.size + 1) 32 #[.int .i64 0, .int .i64 0] by rw [hw1]; exact Blk.at_ (by (try simp only [size_alloc])) _ _)
  have HS1 := Lib.hid (show Since w w1 by rw [hw1]; exact Since.alloc (Since.alloc (Since.refl w) _) _)
  have hNE : w.heap.size ≤ w.heap.size ∧ w.heap.size < w.heap.size + 1 := by omega
  have HNE := Lib.hid hNE
  clear hNE hw1
  generalize w.heap.size + 1 = bR at *
  have HNE3 := Lib.hid (show w.heap.size ≤ w.heap.size ∧ w.heap.size < bR from HNE.out)
  clear HNE
  have HBQ1 := Lib.hid (keep_blk HS1.out HBQ.out)
  have HLO := Lib.hid (show q < w.heap.size from Blk.lt HBQ.out)
  have HNC := Lib.hid (show q ≠ w.heap.size by have := HLO.out; have := HNE3.out; omega)
  have HNR := Lib.hid (show q ≠ bR by have := HLO.out; have := HNE3.out; omega)
  clear HBQ
  have HSU := Lib.hid (show Upd [q] w w1 from Upd.of_since HS1.out); clear HS1
  have hrK : ∀ W W' : World, Since W W' → (Upd [q] w W ∧ Blk W w.heap.size 23 (cfgA c) ∧ Blk W bR 32 #[.int .i64 0, .int .i64 0] ∧ Blk W q 97 (ctlA x 0 false false)) → (Upd [q] w W' ∧ Blk W' w.heap.size 23 (cfgA c) ∧ Blk W' bR 32 #[.int .i64 0, .int .i64 0] ∧ Blk W' q 97 (ctlA x 0 false false)) := fun W W' k ⟨h, h0, h1, h2⟩ => ⟨h.trans k, keep_blk k h0, keep_blk k h1, keep_blk k h2⟩
  have hrS : (fun W : World => Upd [q] w W ∧ Blk W w.heap.size 23 (cfgA c) ∧ Blk W bR 32 #[.int .i64 0, .int .i64 0] ∧ Blk W q 97 (ctlA x 0 false false)) w1 := ⟨HSU.out, HBC1.out, HBR1.out, HBQ1.out⟩
  have HRK := Lib.hid hrK
  have HRD := Lib.hid (show (fun W : World => Upd [q] w W ∧ Blk W w.heap.size 23 (cfgA c) ∧ Blk W bR 32 #[.int .i64 0, .int .i64 0] ∧ Blk W q 97 (ctlA x 0 false false)) (World.drew w1) from hrK _ _ ((Since.refl w1).drew) hrS)
  clear hrK hrS
  refine wp_region_held_drew (S := fun W : World => Upd [q] w W ∧ Blk W w.heap.size 23 (cfgA c) ∧ Blk W bR 32 #[.int .i64 0, .int .i64 0] ∧ Blk W q 97 (ctlA x 0 false false)) (by kernel_rfl) HRD.out (fun hHeld => ?_)
  refine tkQ 0 (.pointer (some ⟨q, 0, none⟩)) hHeld (h := ?_)
  (try simp only [Act.put, sA, sB, sC])
  refine tkQ 1 (.pointer (some ⟨q, 0, none⟩)) hHeld (h := ?_)
  (try simp only [Act.put, sA, sB, sC])
  refine tkQ 2 (.pointer (some ⟨q, 0, none⟩)) hHeld (h := ?_)
  (try simp only [Act.put, sA, sB, sC])
  refine tkQ 3 (.pointer (some ⟨q, 12, none⟩)) hHeld (h := ?_)
  (try simp only [Act.put, sA, sB, sC])
  refine tkQ 4 (.agg #[.int .u64 x.sp, .int .u64 x.su, .int .u64 x.sd]) hHeld (he := by intro w hSw; exact exec_part (n := 3) 28 _ _ hSw.2.2.2 rfl rfl rfl rfl Try.underlying28 rfl (by kernel_rfl)) (h := ?_)
  (try simp only [Act.put, sA, sB, sC])
  refine tkQ 5 (.int .i64 f) hHeld (h := ?_)
  (try simp only [Act.put, sA, sB, sC])
  refine tkQ 6 (.pointer (some ⟨q, 0, none⟩)) hHeld (h := ?_)
  (try simp only [Act.put, sA, sB, sC])
  refine tkQ 7 (.pointer (some ⟨q, 0, none⟩)) hHeld (h := ?_)
  (try simp only [Act.put, sA, sB, sC])
  refine tkQ 8 (.pointer (some ⟨q, 0, none⟩)) hHeld (h := ?_)
  (try simp only [Act.put, sA, sB, sC])
  refine tkQ 9 (.pointer (some ⟨q, 3, none⟩)) hHeld (h := ?_)
  (try simp only [Act.put, sA, sB, sC])
  refine tkQ 10 (.int .i64 x.wy) hHeld (he := by intro w hSw; exact exec_cell 3 _ _ hSw.2.2.2 rfl rfl rfl Try.underlying3 rfl) (h := ?_)
  (try simp only [Act.put, sA, sB, sC])
  refine wpAnyH_ready (rs := [11]) (by kernel_rfl) (by simp) ?_
  refine AllReadyH.cons (o := ?o1__11) ?h1__11 (fun K hK => ?_) AllReadyH.nil
  case h1__11 => (first | (simp only [gA, gB, gC]; done) | (simp only [gA, gB, gC]; exact rfl))
  (try go_simp)
  refine (atT x.sp x.su x.sd f x.wy HU.out HD.out _).mono ?_
  rintro e w2 ⟨rfl, hb⟩
  (try go_wp2_with fail)
  refine hK.out _ _ (by (apply HRK.out; exact hb; exact hHeld)) (fun hHeld2 => ?_)
  clear hK K hHeld hb
  have hHeld := hHeld2
  clear hHeld2
  (try simp only [Act.put, sA, sB, sC])
  refine tkQ 12 (.bool (atB x.su x.sd f x.wy)) hHeld (h := ?_)
  (try simp only [Act.put, sA, sB, sC])
  refine wpAnyH_done (by kernel_rfl) ?_ _
  have HSd1 := Lib.hid hHeld.1
  have HBCd1 := Lib.hid (hHeld.2.1)
  have HBRd1 := Lib.hid (hHeld.2.2.1)
  have HBKd1 := Lib.hid (hHeld.2.2.2)
  clear hHeld HRK HRD HSU HBC1 HBR1 HBQ1
  go_upto_region 2 with fail
  go_cut [] (fun  wx => Hid (Upd [q] w wx ∧ Blk wx w.heap.size 23 (cfgA c) ∧ Blk wx bR 32 #[.int .i64 0, .int .i64 0] ∧ Blk wx q 97 #[.int .i64 x.ds, .int .i64 x.da, .int .i64 x.un, .int .i64 x.wy, .int .i64 x.ti, .int .i64 x.ju, .int .i64 x.lo, .bool x.bl, .bool x.br, .int .i64 x.mo, .int .i64 x.ta, .bool x.ho, .int .u64 (clP x.sp f), .int .u64 (clU x.su f x.wy), .int .u64 (clD x.sd f x.wy), .int .i64 0, .bool false, .bool false]))
  case first =>
    have hrK : ∀ W W' : World, Since W W' → (Upd [q] w W ∧ Blk W w.heap.size 23 (cfgA c) ∧ Blk W bR 32 #[.int .i64 0, .int .i64 0] ∧ HasRow W q 97 18) → (Upd [q] w W' ∧ Blk W' w.heap.size 23 (cfgA c) ∧ Blk W' bR 32 #[.int .i64 0, .int .i64 0] ∧ HasRow W' q 97 18) := fun W W' k ⟨h, h0, h1, h2⟩ => ⟨h.trans k, keep_blk k h0, keep_blk k h1, HasRow.keep k h2⟩
    have hrS : (fun W : World => Upd [q] w W ∧ Blk W w.heap.size 23 (cfgA c) ∧ Blk W bR 32 #[.int .i64 0, .int .i64 0] ∧ HasRow W q 97 18) w2 := ⟨HSd1.out, HBCd1.out, HBRd1.out, HasRow.of HBKd1.out rfl⟩
    have HRK := Lib.hid hrK
    have HRD := Lib.hid (show (fun W : World => Upd [q] w W ∧ Blk W w.heap.size 23 (cfgA c) ∧ Blk W bR 32 #[.int .i64 0, .int .i64 0] ∧ HasRow W q 97 18) (World.drew w2) from hrK _ _ ((Since.refl w2).drew) hrS)
    clear hrK hrS
    have HPK := Lib.hid (show Blk (World.drew w2) q 97 (ctlA x 0 false false) from HBKd1.out)
    refine wp_region_held_drew (S := fun W : World => Upd [q] w W ∧ Blk W w.heap.size 23 (cfgA c) ∧ Blk W bR 32 #[.int .i64 0, .int .i64 0] ∧ HasRow W q 97 18) (by kernel_rfl) HRD.out (fun hHeld => ?_)
    refine tkQ 0 (.pointer (some ⟨q, 0, none⟩)) hHeld (h := ?_)
    (try simp only [Act.put, sA, sB, sC])
    refine tkQ 1 (.pointer (some ⟨q, 0, none⟩)) hHeld (h := ?_)
    (try simp only [Act.put, sA, sB, sC])
    refine tkQ 2 (.pointer (some ⟨q, 0, none⟩)) hHeld (h := ?_)
    (try simp only [Act.put, sA, sB, sC])
    refine tkQ 3 (.pointer (some ⟨q, 0, none⟩)) hHeld (h := ?_)
    (try simp only [Act.put, sA, sB, sC])
    refine tkQ 4 (.pointer (some ⟨q, 12, none⟩)) hHeld (h := ?_)
    (try simp only [Act.put, sA, sB, sC])
    refine tkQ 6 (.int .i64 f) hHeld (h := ?_)
    (try simp only [Act.put, sA, sB, sC])
    refine tkQ 7 (.pointer (some ⟨q, 0, none⟩)) hHeld (h := ?_)
    (try simp only [Act.put, sA, sB, sC])
    refine tkQ 8 (.pointer (some ⟨q, 0, none⟩)) hHeld (h := ?_)
    (try simp only [Act.put, sA, sB, sC])
    refine tkQ 9 (.pointer (some ⟨q, 0, none⟩)) hHeld (h := ?_)
    (try simp only [Act.put, sA, sB, sC])
    refine tkQ 10 (.pointer (some ⟨q, 3, none⟩)) hHeld (h := ?_)
    (try simp only [Act.put, sA, sB, sC])
    refine wpAnyH_ready (rs := [5, 11]) (by kernel_rfl) (by simp) ?_
    refine AllReadyH.cons (o := ?o2__5b) ?h2__5b (fun K hK => ?g2__5b) (AllReadyH.cons (o := ?o2__11b) ?h2__11b (fun K hK => ?g2__11b) AllReadyH.nil)
    case h2__5b => (first | (simp only [gA, gB, gC]; done) | (simp only [gA, gB, gC]; exact rfl))
    case h2__11b => (first | (simp only [gA, gB, gC]; done) | (simp only [gA, gB, gC]; exact rfl))
    case g2__5b =>
      rw [if_pos (by rfl)]
      refine wp_q (.agg #[.int .u64 x.sp, .int .u64 x.su, .int .u64 x.sd]) ?e2_b5_5 ?_
      case e2_b5_5 => exact exec_part (n := 3) 28 _ _ HPK.out rfl rfl rfl rfl Try.underlying28 rfl (by kernel_rfl)
      refine hK.out _ _ hHeld (fun hHeld2 => ?_)
      clear hK K hHeld2
      (try simp only [Act.put, sA, sB, sC])
      refine wpAnyH_ready (rs := [11]) (by kernel_rfl) (by simp) ?_
      refine AllReadyH.cons (o := ?o2_b5_11) ?h2_b5_11 (fun K hK => ?_) AllReadyH.nil
      case h2_b5_11 => (first | (simp only [gA, gB, gC]; done) | (simp only [gA, gB, gC]; exact rfl))
      rw [if_pos (by rfl)]
      refine wp_q (.int .i64 x.wy) ?e2_b5_11 ?_
      case e2_b5_11 => exact exec_cell 3 _ _ HPK.out rfl rfl rfl Try.underlying3 rfl
      refine hK.out _ _ hHeld (fun hHeld2 => ?_)
      clear hK K hHeld2
      (try simp only [Act.put, sA, sB, sC])
      refine wpAnyH_ready (rs := [12]) (by kernel_rfl) (by simp) ?_
      refine AllReadyH.cons (o := ?o2_b5_12) ?h2_b5_12 (fun K hK => ?_) AllReadyH.nil
      case h2_b5_12 => (first | (simp only [gA, gB, gC]; done) | (simp only [gA, gB, gC]; exact rfl))
      (try go_simp)
      refine (clearT x.sp x.su x.sd f x.wy _).mono ?_
      rintro e w3 ⟨rfl, hb⟩
      (try go_wp2_with fail)
      refine hK.out _ _ (by (apply HRK.out; exact hb; exact hHeld)) (fun hHeld2 => ?_)
      have HPKk := Lib.hid (keep_blk hb HPK.out)
      clear HPK
      clear hK K hHeld hb
      have hHeld := hHeld2
      clear hHeld2
      (try simp only [Act.put, sA, sB, sC])
      refine tkQ 13 (.pointer (some ⟨q, 0, none⟩)) hHeld (h := ?_)
      (try simp only [Act.put, sA, sB, sC])
      refine tkQ 14 (.pointer (some ⟨q, 0, none⟩)) hHeld (h := ?_)
      (try simp only [Act.put, sA, sB, sC])
      refine tkQ 15 (.pointer (some ⟨q, 12, none⟩)) hHeld (h := ?_)
      (try simp only [Act.put, sA, sB, sC])
      refine wpAnyH_ready (rs := [16]) (by kernel_rfl) (by simp) ?_
      refine AllReadyH.cons (o := ?o2_b5_16) ?h2_b5_16 (fun K hK => ?_) AllReadyH.nil
      case h2_b5_16 => (first | (simp only [gA, gB, gC]; done) | (simp only [gA, gB, gC]; exact rfl))
      rw [if_pos (by rfl)]
      refine wp_st_part 28 _ _ rfl #[.int .i64 x.ds, .int .i64 x.da, .int .i64 x.un, .int .i64 x.wy, .int .i64 x.ti, .int .i64 x.ju, .int .i64 x.lo, .bool x.bl, .bool x.br, .int .i64 x.mo, .int .i64 x.ta, .bool x.ho, .int .u64 (clP x.sp f), .int .u64 (clU x.su f x.wy), .int .u64 (clD x.sd f x.wy), .int .i64 0, .bool false, .bool false] (#[.int .u64 (clP x.sp f), .int .u64 (clU x.su f x.wy), .int .u64 (clD x.sd f x.wy)]) rfl rfl HPKk.out (Nat.le_of_ble_eq_true rfl) rfl (by simp [cfgA, carA, ctlA, Value.oneCell']) (by kernel_rfl) ?_
      clear HPKk
      intro w4 hw
      have HRK := Lib.hid (show Blk w4 q 97 #[.int .i64 x.ds, .int .i64 x.da, .int .i64 x.un, .int .i64 x.wy, .int .i64 x.ti, .int .i64 x.ju, .int .i64 x.lo, .bool x.bl, .bool x.br, .int .i64 x.mo, .int .i64 x.ta, .bool x.ho, .int .u64 (clP x.sp f), .int .u64 (clU x.su f x.wy), .int .u64 (clD x.sd f x.wy), .int .i64 0, .bool false, .bool false] by obtain ⟨old, Bo, _⟩ := hHeld.2.2.2; rw [hw]; exact Blk.row Bo _)
      have hHeld3 : (fun W : World => Upd [q] w W ∧ Blk W w.heap.size 23 (cfgA c) ∧ Blk W bR 32 #[.int .i64 0, .int .i64 0] ∧ HasRow W q 97 18) w4 := ⟨by rw [hw]; exact Upd.setRow hHeld.1 (.inl (by simp)) _, by rw [hw]; exact Blk.row_far (hHeld.2.1) (Ne.symm HNC.out) _, by rw [hw]; exact Blk.row_far (hHeld.2.2.1) (Ne.symm HNR.out) _, HasRow.of HRK.out rfl⟩
      refine hK.out _ _ hHeld3 (fun hHeld2 => ?_)
      clear hK K hHeld hHeld3 hw
      have hHeld := hHeld2
      clear hHeld2
      (try simp only [Act.put, sA, sB, sC])
      refine wpAnyH_done (by kernel_rfl) ?_ _
      have HSd2 := Lib.hid hHeld.1
      have HBCd2 := Lib.hid (hHeld.2.1)
      have HBRd2 := Lib.hid (hHeld.2.2.1)
      have HBKd2 := Lib.hid HRK.out
      clear HRK
      clear hHeld HRK HRD HSd1 HBCd1 HBRd1 HBKd1
      go_wp2_with fail
      go_meet
      case rel => exact Lib.hid ⟨HSd2.out, HBCd2.out, HBRd2.out, HBKd2.out⟩
    case g2__11b =>
      rw [if_pos (by rfl)]
      refine wp_q (.int .i64 x.wy) ?e2_b11_11 ?_
      case e2_b11_11 => exact exec_cell 3 _ _ HPK.out rfl rfl rfl Try.underlying3 rfl
      refine hK.out _ _ hHeld (fun hHeld2 => ?_)
      clear hK K hHeld2
      (try simp only [Act.put, sA, sB, sC])
      refine wpAnyH_ready (rs := [5]) (by kernel_rfl) (by simp) ?_
      refine AllReadyH.cons (o := ?o2_b11_5) ?h2_b11_5 (fun K hK => ?_) AllReadyH.nil
      case h2_b11_5 => (first | (simp only [gA, gB, gC]; done) | (simp only [gA, gB, gC]; exact rfl))
      rw [if_pos (by rfl)]
      refine wp_q (.agg #[.int .u64 x.sp, .int .u64 x.su, .int .u64 x.sd]) ?e2_b11_5 ?_
      case e2_b11_5 => exact exec_part (n := 3) 28 _ _ HPK.out rfl rfl rfl rfl Try.underlying28 rfl (by kernel_rfl)
      refine hK.out _ _ hHeld (fun hHeld2 => ?_)
      clear hK K hHeld2
      (try simp only [Act.put, sA, sB, sC])
      refine wpAnyH_ready (rs := [12]) (by kernel_rfl) (by simp) ?_
      refine AllReadyH.cons (o := ?o2_b11_12) ?h2_b11_12 (fun K hK => ?_) AllReadyH.nil
      case h2_b11_12 => (first | (simp only [gA, gB, gC]; done) | (simp only [gA, gB, gC]; exact rfl))
      (try go_simp)
      refine (clearT x.sp x.su x.sd f x.wy _).mono ?_
      rintro e w3 ⟨rfl, hb⟩
      (try go_wp2_with fail)
      refine hK.out _ _ (by (apply HRK.out; exact hb; exact hHeld)) (fun hHeld2 => ?_)
      have HPKk := Lib.hid (keep_blk hb HPK.out)
      clear HPK
      clear hK K hHeld hb
      have hHeld := hHeld2
      clear hHeld2
      (try simp only [Act.put, sA, sB, sC])
      refine tkQ 13 (.pointer (some ⟨q, 0, none⟩)) hHeld (h := ?_)
      (try simp only [Act.put, sA, sB, sC])
      refine tkQ 14 (.pointer (some ⟨q, 0, none⟩)) hHeld (h := ?_)
      (try simp only [Act.put, sA, sB, sC])
      refine tkQ 15 (.pointer (some ⟨q, 12, none⟩)) hHeld (h := ?_)
      (try simp only [Act.put, sA, sB, sC])
      refine wpAnyH_ready (rs := [16]) (by kernel_rfl) (by simp) ?_
      refine AllReadyH.cons (o := ?o2_b11_16) ?h2_b11_16 (fun K hK => ?_) AllReadyH.nil
      case h2_b11_16 => (first | (simp only [gA, gB, gC]; done) | (simp only [gA, gB, gC]; exact rfl))
      rw [if_pos (by rfl)]
      refine wp_st_part 28 _ _ rfl #[.int .i64 x.ds, .int .i64 x.da, .int .i64 x.un, .int .i64 x.wy, .int .i64 x.ti, .int .i64 x.ju, .int .i64 x.lo, .bool x.bl, .bool x.br, .int .i64 x.mo, .int .i64 x.ta, .bool x.ho, .int .u64 (clP x.sp f), .int .u64 (clU x.su f x.wy), .int .u64 (clD x.sd f x.wy), .int .i64 0, .bool false, .bool false] (#[.int .u64 (clP x.sp f), .int .u64 (clU x.su f x.wy), .int .u64 (clD x.sd f x.wy)]) rfl rfl HPKk.out (Nat.le_of_ble_eq_true rfl) rfl (by simp [cfgA, carA, ctlA, Value.oneCell']) (by kernel_rfl) ?_
      clear HPKk
      intro w4 hw
      have HRK := Lib.hid (show Blk w4 q 97 #[.int .i64 x.ds, .int .i64 x.da, .int .i64 x.un, .int .i64 x.wy, .int .i64 x.ti, .int .i64 x.ju, .int .i64 x.lo, .bool x.bl, .bool x.br, .int .i64 x.mo, .int .i64 x.ta, .bool x.ho, .int .u64 (clP x.sp f), .int .u64 (clU x.su f x.wy), .int .u64 (clD x.sd f x.wy), .int .i64 0, .bool false, .bool false] by obtain ⟨old, Bo, _⟩ := hHeld.2.2.2; rw [hw]; exact Blk.row Bo _)
      have hHeld3 : (fun W : World => Upd [q] w W ∧ Blk W w.heap.size 23 (cfgA c) ∧ Blk W bR 32 #[.int .i64 0, .int .i64 0] ∧ HasRow W q 97 18) w4 := ⟨by rw [hw]; exact Upd.setRow hHeld.1 (.inl (by simp)) _, by rw [hw]; exact Blk.row_far (hHeld.2.1) (Ne.symm HNC.out) _, by rw [hw]; exact Blk.row_far (hHeld.2.2.1) (Ne.symm HNR.out) _, HasRow.of HRK.out rfl⟩
      refine hK.out _ _ hHeld3 (fun hHeld2 => ?_)
      clear hK K hHeld hHeld3 hw
      have hHeld := hHeld2
      clear hHeld2
      (try simp only [Act.put, sA, sB, sC])
      refine wpAnyH_done (by kernel_rfl) ?_ _
      have HSd2v2 := Lib.hid hHeld.1
      have HBCd2v2 := Lib.hid (hHeld.2.1)
      have HBRd2v2 := Lib.hid (hHeld.2.2.1)
      have HBKd2v2 := Lib.hid HRK.out
      clear HRK
      clear hHeld HRK HRD HSd1 HBCd1 HBRd1 HBKd1
      go_wp2_with fail
      go_meet
      case rel => exact Lib.hid ⟨HSd2v2.out, HBCd2v2.out, HBRd2v2.out, HBKd2v2.out⟩
  case rest =>
    clear HSd1 HBCd1 HBRd1 HBKd1
    obtain ⟨g0, g1, g2, g3⟩ := hcut.out
    clear hcut
    have HS52 := Lib.hid g0
    have HBC52 := Lib.hid g1
    have HBR52 := Lib.hid g2
    have HBK52 := Lib.hid g3
    clear g0 g1 g2 g3
    go_upto_region 3 with fail
    refine wp_region_lit ?_
    refine tkL (.pointer (some ⟨q, 0, none⟩)) (h := ?_)
    (try simp only [Act.put, sA, sB, sC])
    refine tkL (.pointer (some ⟨q, 0, none⟩)) (h := ?_)
    (try simp only [Act.put, sA, sB, sC])
    refine tkL (.pointer (some ⟨q, 0, none⟩)) (h := ?_)
    (try simp only [Act.put, sA, sB, sC])
    refine wpList_q (by rfl) (.agg (cfgA c)) ?he ?_
    case he => exact exec_load_row 23 _ _ HBC52.out rfl rfl Try.underlying23 rfl (by kernel_rfl)
    (try simp only [Act.put, sA, sB, sC])
    refine wpList_wp (by rfl) (fun K hK => ?_)
    (try go_simp)
    refine (dwellT c _).mono ?_
    rintro e w53 ⟨rfl, hb⟩
    (try go_wp2_with fail)
    refine hK.out _ _ ?_
    clear hK K
    (try simp only [Act.put, sA, sB, sC])
    have HS53 := Lib.hid (Upd.trans HS52.out hb)
    have HBC53 := Lib.hid (keep_blk hb HBC52.out)
    have HBR53 := Lib.hid (keep_blk hb HBR52.out)
    have HBK53 := Lib.hid (keep_blk hb HBK52.out)
    clear HS52 HBC52 HBR52 HBK52
    clear hb
    refine tkL (.int .i64 f) (h := ?_)
    (try simp only [Act.put, sA, sB, sC])
    refine tkL (.pointer (some ⟨q, 0, none⟩)) (h := ?_)
    (try simp only [Act.put, sA, sB, sC])
    refine tkL (.pointer (some ⟨q, 15, none⟩)) (h := ?_)
    (try simp only [Act.put, sA, sB, sC])
    refine tkL (.pointer (some ⟨q, 16, none⟩)) (h := ?_)
    (try simp only [Act.put, sA, sB, sC])
    refine wpList_wp (by rfl) (fun K hK => ?_)
    refine wp_st_cell 4 _ _ rfl #[.int .i64 x.ds, .int .i64 x.da, .int .i64 x.un, .int .i64 x.wy, .int .i64 x.ti, .int .i64 x.ju, .int .i64 x.lo, .bool x.bl, .bool x.br, .int .i64 x.mo, .int .i64 x.ta, .bool x.ho, .int .u64 (clP x.sp f), .int .u64 (clU x.su f x.wy), .int .u64 (clD x.sd f x.wy), .int .i64 0, .bool true, .bool false] (.bool true) rfl rfl HBK53.out (by show 16 < 18; decide) rfl (by first | rfl | simp [Value.oneCell']) (by kernel_rfl) ?_
    intro w54 hw
    refine hK.out _ _ ?_
    clear hK K
    (try simp only [Act.put, sA, sB, sC])
    have HS54 := Lib.hid (show Upd [q] w w54 by rw [hw]; exact Upd.setRow HS53.out (.inl (by simp)) _)
    have HBC54 := Lib.hid (show Blk w54 w.heap.size 23 (cfgA c) by rw [hw]; exact Blk.row_far HBC53.out (Ne.symm HNC.out) _)
    have HBR54 := Lib.hid (show Blk w54 bR 32 #[.int .i64 0, .int .i64 0] by rw [hw]; exact Blk.row_far HBR53.out (Ne.symm HNR.out) _)
    have HBK54 := Lib.hid (show Blk w54 q 97 #[.int .i64 x.ds, .int .i64 x.da, .int .i64 x.un, .int .i64 x.wy, .int .i64 x.ti, .int .i64 x.ju, .int .i64 x.lo, .bool x.bl, .bool x.br, .int .i64 x.mo, .int .i64 x.ta, .bool x.ho, .int .u64 (clP x.sp f), .int .u64 (clU x.su f x.wy), .int .u64 (clD x.sd f x.wy), .int .i64 0, .bool true, .bool false] by rw [hw]; exact Blk.row HBK53.out _)
    clear hw HS53 HBC53 HBR53 HBK53
    refine tkL (.pointer (some ⟨q, 0, none⟩)) (h := ?_)
    (try simp only [Act.put, sA, sB, sC])
    refine tkL (.pointer (some ⟨q, 0, none⟩)) (h := ?_)
    (try simp only [Act.put, sA, sB, sC])
    refine tkL (.pointer (some ⟨q, 4, none⟩)) (h := ?_)
    (try simp only [Act.put, sA, sB, sC])
    refine wpList_wp (by rfl) (fun K hK => ?_)
    refine wp_st_cell 3 _ _ rfl #[.int .i64 x.ds, .int .i64 x.da, .int .i64 x.un, .int .i64 x.wy, .int .i64 (dwV c.dw), .int .i64 x.ju, .int .i64 x.lo, .bool x.bl, .bool x.br, .int .i64 x.mo, .int .i64 x.ta, .bool x.ho, .int .u64 (clP x.sp f), .int .u64 (clU x.su f x.wy), .int .u64 (clD x.sd f x.wy), .int .i64 0, .bool true, .bool false] (.int .i64 (dwV c.dw)) rfl rfl HBK54.out (by show 4 < 18; decide) rfl (by first | rfl | simp [Value.oneCell']) (by kernel_rfl) ?_
    intro w55 hw
    refine hK.out _ _ ?_
    clear hK K
    (try simp only [Act.put, sA, sB, sC])
    have HS55 := Lib.hid (show Upd [q] w w55 by rw [hw]; exact Upd.setRow HS54.out (.inl (by simp)) _)
    have HBC55 := Lib.hid (show Blk w55 w.heap.size 23 (cfgA c) by rw [hw]; exact Blk.row_far HBC54.out (Ne.symm HNC.out) _)
    have HBR55 := Lib.hid (show Blk w55 bR 32 #[.int .i64 0, .int .i64 0] by rw [hw]; exact Blk.row_far HBR54.out (Ne.symm HNR.out) _)
    have HBK55 := Lib.hid (show Blk w55 q 97 #[.int .i64 x.ds, .int .i64 x.da, .int .i64 x.un, .int .i64 x.wy, .int .i64 (dwV c.dw), .int .i64 x.ju, .int .i64 x.lo, .bool x.bl, .bool x.br, .int .i64 x.mo, .int .i64 x.ta, .bool x.ho, .int .u64 (clP x.sp f), .int .u64 (clU x.su f x.wy), .int .u64 (clD x.sd f x.wy), .int .i64 0, .bool true, .bool false] by rw [hw]; exact Blk.row HBK54.out _)
    clear hw HS54 HBC54 HBR54 HBK54
    refine tkL (.pointer (some ⟨q, 0, none⟩)) (h := ?_)
    (try simp only [Act.put, sA, sB, sC])
    refine tkL (.pointer (some ⟨q, 0, none⟩)) (h := ?_)
    (try simp only [Act.put, sA, sB, sC])
    refine tkL (.pointer (some ⟨q, 5, none⟩)) (h := ?_)
    (try simp only [Act.put, sA, sB, sC])
    refine wpList_wp (by rfl) (fun K hK => ?_)
    refine wp_st_cell 3 _ _ rfl #[.int .i64 x.ds, .int .i64 x.da, .int .i64 x.un, .int .i64 x.wy, .int .i64 (dwV c.dw), .int .i64 f, .int .i64 x.lo, .bool x.bl, .bool x.br, .int .i64 x.mo, .int .i64 x.ta, .bool x.ho, .int .u64 (clP x.sp f), .int .u64 (clU x.su f x.wy), .int .u64 (clD x.sd f x.wy), .int .i64 0, .bool true, .bool false] (.int .i64 f) rfl rfl HBK55.out (by show 5 < 18; decide) rfl (by first | rfl | simp [Value.oneCell']) (by kernel_rfl) ?_
    intro w56 hw
    refine hK.out _ _ ?_
    clear hK K
    (try simp only [Act.put, sA, sB, sC])
    have HS56 := Lib.hid (show Upd [q] w w56 by rw [hw]; exact Upd.setRow HS55.out (.inl (by simp)) _)
    have HBC56 := Lib.hid (show Blk w56 w.heap.size 23 (cfgA c) by rw [hw]; exact Blk.row_far HBC55.out (Ne.symm HNC.out) _)
    have HBR56 := Lib.hid (show Blk w56 bR 32 #[.int .i64 0, .int .i64 0] by rw [hw]; exact Blk.row_far HBR55.out (Ne.symm HNR.out) _)
    have HBK56 := Lib.hid (show Blk w56 q 97 #[.int .i64 x.ds, .int .i64 x.da, .int .i64 x.un, .int .i64 x.wy, .int .i64 (dwV c.dw), .int .i64 f, .int .i64 x.lo, .bool x.bl, .bool x.br, .int .i64 x.mo, .int .i64 x.ta, .bool x.ho, .int .u64 (clP x.sp f), .int .u64 (clU x.su f x.wy), .int .u64 (clD x.sd f x.wy), .int .i64 0, .bool true, .bool false] by rw [hw]; exact Blk.row HBK55.out _)
    clear hw HS55 HBC55 HBR55 HBK55
    refine wpList_nil ?_
    go_upto_region 4 with fail
    refine wp_region_lit ?_
    refine tkL (.bool (atB x.su x.sd f x.wy)) (h := ?_)
    (try simp only [Act.put, sA, sB, sC])
    refine wpList_q (by rfl) (.bool true) ?he ?_
    case he => (have q := HA.out; go_simp; (first | done | exact q | (simp [q]; done)))
    (try simp only [Act.put, sA, sB, sC])
    refine wpList_nil ?_
    go_upto_region 5 with fail
    refine wp_region_lit ?_
    refine wpList_q (by rfl) (.agg #[.int .i64 0, .int .i64 0]) ?he ?_
    case he => kernel_rfl
    (try simp only [Act.put, sA, sB, sC])
    refine wpList_wp (by rfl) (fun K hK => ?_)
    refine wp_st_row 32 _ _ rfl #[.int .i64 0, .int .i64 0] rfl rfl (HasRow.of HBR56.out rfl) rfl (by simp [cfgA, carA, ctlA, Value.oneCell']) (by kernel_rfl) ?_
    intro w57 hw
    refine hK.out _ _ ?_
    clear hK K
    (try simp only [Act.put, sA, sB, sC])
    have HS57 := Lib.hid (show Upd [q] w w57 by rw [hw]; exact Upd.setRow HS56.out (Or.inr (by have := HNE3.out; omega)) _)
    have HBC57 := Lib.hid (show Blk w57 w.heap.size 23 (cfgA c) by rw [hw]; exact Blk.row_far HBC56.out (by have := HNE3.out; omega) _)
    have HBR57 := Lib.hid (show Blk w57 bR 32 #[.int .i64 0, .int .i64 0] by rw [hw]; exact Blk.row HBR56.out _)
    have HBK57 := Lib.hid (show Blk w57 q 97 #[.int .i64 x.ds, .int .i64 x.da, .int .i64 x.un, .int .i64 x.wy, .int .i64 (dwV c.dw), .int .i64 f, .int .i64 x.lo, .bool x.bl, .bool x.br, .int .i64 x.mo, .int .i64 x.ta, .bool x.ho, .int .u64 (clP x.sp f), .int .u64 (clU x.su f x.wy), .int .u64 (clD x.sd f x.wy), .int .i64 0, .bool true, .bool false] by rw [hw]; exact Blk.row_far HBK56.out HNR.out _)
    clear hw HS56 HBC56 HBR56 HBK56
    refine tkL (.bool false) (h := ?_)
    (try simp only [Act.put, sA, sB, sC])
    refine wpList_nil ?_
    (try go_wp2_with fail)
    exact bodyPost_ret (results_row2 rfl _ _ bR 32 #[.int .i64 0, .int .i64 0] _ (.bool false) rfl rfl HBR57.out Try.underlying32 rfl (by kernel_rfl)) rfl ⟨rfl, HBK57.out, HS57.out⟩
theorem serveT (q : Nat) (c : CfgV) (x : CarV) (f : Int) (w : World) (hb : Blk w q 97 (ctlA x 0 false false)) (hp : R x.sp) (hu : R x.su) (hd : R x.sd) : Calls Try.prog 84 #[.pointer (some ⟨q, 0, none⟩), .agg (cfgA c), .int .i64 f] w fun e w' => e = .returned (.tuple #[.agg #[.int .i64 (svF x f), .int .i64 (svW x f)], .bool (atB x.su x.sd f x.wy)]) ∧ Blk w' q 97 (ctlA (svX c x f) 0 true false) ∧ Upd [q] w w' := by
  cases ha : atB x.su x.sd f x.wy with
  | true =>
    rw [show svF x f = f by simp [svF, ha], show svW x f = x.wy by simp [svW, ha]]
    exact serveY q c x f w hb hp hu hd ha
  | false =>
    rw [show svF x f = 0 by simp [svF, ha], show svW x f = 0 by simp [svW, ha]]
    exact serveN q c x f w hb hp hu hd ha
theorem levelV (u : Int) (b : Bool) (w : World) (h : lvB u = b) : Calls Try.prog 68 #[.int .i64 u] w fun e w' => e = .returned (.tuple #[.int .i64 (lvN u), .bool b]) ∧ w = w' := by subst h; exact levelT u w
def nW (x : CarV) : Int := nxW x.sp x.su x.sd (lvN x.un) x.wy x.ju
def nO (x : CarV) : Bool := nxO x.sp x.su x.sd (lvN x.un) x.wy x.ju
theorem nextV (x : CarV) (b : Bool) (w : World) (h : nO x = b) (hp : R x.sp) (hu : R x.su) (hd : R x.sd) : Calls Try.prog 83 #[.agg #[.int .u64 x.sp, .int .u64 x.su, .int .u64 x.sd], .int .i64 (lvN x.un), .int .i64 x.wy, .int .i64 x.ju] w fun e w' => e = .returned (.tuple #[.int .i64 (nW x), .bool b]) ∧ Since w w' := by subst h; exact nextT x.sp x.su x.sd (lvN x.un) x.wy x.ju hp hu hd w
set_option maxHeartbeats 4000000 in
theorem goA (q : Nat) (c : CfgV) (x : CarV) (w : World) (hb : Blk w q 97 (ctlA x 0 false false)) (hp : R x.sp) (hu : R x.su) (hd : R x.sd) (hl : lvB x.un = false) : Calls Try.prog 73 #[.pointer (some ⟨q, 0, none⟩), .agg (cfgA c)] w fun e w' => e = .returned (.tuple #[.agg #[.int .i64 0, .int .i64 0], .bool false]) ∧ Blk w' q 97 (ctlA x x.wy false false) ∧ Upd [q] w w' := by
  have HBQ := Lib.hid hb
  clear hb
  have HP := Lib.hid hp
  clear hp
  have HU := Lib.hid hu
  clear hu
  have HD := Lib.hid hd
  clear hd
  have HL := Lib.hid hl
  clear hl
  go_enter Try.func73, Try.ntmps73
  go_upto_region 1 with fail
  obtain ⟨w1, hw1⟩ : ∃ w1, w1 = ((w.alloc (.cells (cfgA c) 23)).alloc (.cells #[.int .i64 0, .int .i64 0] 32)) := ⟨_, rfl⟩
  rw [← hw1]
  have HBC1 := Lib.hid (show Blk w1 (w.heap.size) 23 (cfgA c) by rw [hw1]; exact Blk.alloc (Blk.at_ (by (try simp only [size_alloc])) _ _) _)
  have HBR1 := Lib.hid (show Blk w1 (w.heap.size + 1) 32 #[.int .i64 0, .int .i64 0] by rw [hw1]; exact Blk.at_ (by (try simp only [size_alloc])) _ _)
  have HS1 := Lib.hid (show Since w w1 by rw [hw1]; exact Since.alloc (Since.alloc (Since.refl w) _) _)
  have hNE : w.heap.size ≤ w.heap.size ∧ w.heap.size < w.heap.size + 1 := by omega
  have HNE := Lib.hid hNE
  clear hNE hw1
  generalize w.heap.size + 1 = bR at *
  have HNE3 := Lib.hid (show w.heap.size ≤ w.heap.size ∧ w.heap.size < bR from HNE.out)
  clear HNE
  have HBQ1 := Lib.hid (keep_blk HS1.out HBQ.out)
  have HLO := Lib.hid (show q < w.heap.size from Blk.lt HBQ.out)
  have HNC := Lib.hid (show q ≠ w.heap.size by have := HLO.out; have := HNE3.out; omega)
  have HNR := Lib.hid (show q ≠ bR by have := HLO.out; have := HNE3.out; omega)
  clear HBQ
  have HSU := Lib.hid (show Upd [q] w w1 from Upd.of_since HS1.out); clear HS1
  refine wp_region_lit ?_
  refine tkL (.pointer (some ⟨q, 0, none⟩)) (h := ?_)
  (try simp only [Act.put, sA, sB, sC])
  refine tkL (.pointer (some ⟨q, 0, none⟩)) (h := ?_)
  (try simp only [Act.put, sA, sB, sC])
  refine tkL (.pointer (some ⟨q, 0, none⟩)) (h := ?_)
  (try simp only [Act.put, sA, sB, sC])
  refine tkL (.pointer (some ⟨q, 2, none⟩)) (h := ?_)
  (try simp only [Act.put, sA, sB, sC])
  refine wpList_q (by rfl) (.int .i64 x.un) ?he ?_
  case he => exact exec_cell 3 _ _ HBQ1.out rfl rfl rfl Try.underlying3 rfl
  (try simp only [Act.put, sA, sB, sC])
  refine wpList_wp (by rfl) (fun K hK => ?_)
  (try go_simp)
  refine (levelV x.un false _ HL.out).mono ?_
  rintro e w' ⟨rfl, rfl⟩
  (try go_wp2_with fail)
  refine hK.out _ _ ?_
  clear hK K
  (try simp only [Act.put, sA, sB, sC])
  refine tkL (.tuple #[.int .i64 (lvN x.un), .bool false]) (h := ?_)
  (try simp only [Act.put, sA, sB, sC])
  refine tkL (.int .i64 (lvN x.un)) (h := ?_)
  (try simp only [Act.put, sA, sB, sC])
  refine tkL (.bool false) (h := ?_)
  (try simp only [Act.put, sA, sB, sC])
  refine tkL (.int .i64 (lvN x.un)) (h := ?_)
  (try simp only [Act.put, sA, sB, sC])
  refine tkL (.bool false) (h := ?_)
  (try simp only [Act.put, sA, sB, sC])
  refine wpList_nil ?_
  go_upto_region 2 with fail
  refine wp_region_lit ?_
  refine tkL (.bool false) (h := ?_)
  (try simp only [Act.put, sA, sB, sC])
  refine wpList_q (by rfl) (.bool true) ?he ?_
  case he => (go_simp; (try with_reducible rfl))
  (try simp only [Act.put, sA, sB, sC])
  refine wpList_nil ?_
  go_upto_region 3 with fail
  refine wp_region_lit ?_
  refine tkL (.pointer (some ⟨q, 0, none⟩)) (h := ?_)
  (try simp only [Act.put, sA, sB, sC])
  refine tkL (.pointer (some ⟨q, 0, none⟩)) (h := ?_)
  (try simp only [Act.put, sA, sB, sC])
  refine tkL (.pointer (some ⟨q, 0, none⟩)) (h := ?_)
  (try simp only [Act.put, sA, sB, sC])
  refine tkL (.pointer (some ⟨q, 0, none⟩)) (h := ?_)
  (try simp only [Act.put, sA, sB, sC])
  refine tkL (.pointer (some ⟨q, 3, none⟩)) (h := ?_)
  (try simp only [Act.put, sA, sB, sC])
  refine wpList_q (by rfl) (.int .i64 x.wy) ?he ?_
  case he => exact exec_cell 3 _ _ HBQ1.out rfl rfl rfl Try.underlying3 rfl
  (try simp only [Act.put, sA, sB, sC])
  refine tkL (.pointer (some ⟨q, 0, none⟩)) (h := ?_)
  (try simp only [Act.put, sA, sB, sC])
  refine tkL (.pointer (some ⟨q, 15, none⟩)) (h := ?_)
  (try simp only [Act.put, sA, sB, sC])
  refine tkL (.pointer (some ⟨q, 15, none⟩)) (h := ?_)
  (try simp only [Act.put, sA, sB, sC])
  refine wpList_wp (by rfl) (fun K hK => ?_)
  refine wp_st_cell 3 _ _ rfl #[.int .i64 x.ds, .int .i64 x.da, .int .i64 x.un, .int .i64 x.wy, .int .i64 x.ti, .int .i64 x.ju, .int .i64 x.lo, .bool x.bl, .bool x.br, .int .i64 x.mo, .int .i64 x.ta, .bool x.ho, .int .u64 x.sp, .int .u64 x.su, .int .u64 x.sd, .int .i64 x.wy, .bool false, .bool false] (.int .i64 x.wy) rfl rfl HBQ1.out (by show 15 < 18; decide) rfl (by first | rfl | simp [Value.oneCell']) (by kernel_rfl) ?_
  intro w2 hw
  refine hK.out _ _ ?_
  clear hK K
  (try simp only [Act.put, sA, sB, sC])
  have HS2 := Lib.hid (show Upd [q] w w2 by rw [hw]; exact Upd.setRow HSU.out (.inl (by simp)) _)
  have HBC2 := Lib.hid (show Blk w2 w.heap.size 23 (cfgA c) by rw [hw]; exact Blk.row_far HBC1.out (Ne.symm HNC.out) _)
  have HBR2 := Lib.hid (show Blk w2 bR 32 #[.int .i64 0, .int .i64 0] by rw [hw]; exact Blk.row_far HBR1.out (Ne.symm HNR.out) _)
  have HBK2 := Lib.hid (show Blk w2 q 97 #[.int .i64 x.ds, .int .i64 x.da, .int .i64 x.un, .int .i64 x.wy, .int .i64 x.ti, .int .i64 x.ju, .int .i64 x.lo, .bool x.bl, .bool x.br, .int .i64 x.mo, .int .i64 x.ta, .bool x.ho, .int .u64 x.sp, .int .u64 x.su, .int .u64 x.sd, .int .i64 x.wy, .bool false, .bool false] by rw [hw]; exact Blk.row HBQ1.out _)
  clear hw HSU HBC1 HBR1 HBQ1
  refine wpList_nil ?_
  go_upto_region 4 with fail
  refine wp_region_lit ?_
  refine wpList_q (by rfl) (.agg #[.int .i64 0, .int .i64 0]) ?he ?_
  case he => kernel_rfl
  (try simp only [Act.put, sA, sB, sC])
  refine wpList_wp (by rfl) (fun K hK => ?_)
  refine wp_st_row 32 _ _ rfl #[.int .i64 0, .int .i64 0] rfl rfl (HasRow.of HBR2.out rfl) rfl (by simp [cfgA, carA, ctlA, Value.oneCell']) (by kernel_rfl) ?_
  intro w3 hw
  refine hK.out _ _ ?_
  clear hK K
  (try simp only [Act.put, sA, sB, sC])
  have HS3 := Lib.hid (show Upd [q] w w3 by rw [hw]; exact Upd.setRow HS2.out (Or.inr (by have := HNE3.out; omega)) _)
  have HBC3 := Lib.hid (show Blk w3 w.heap.size 23 (cfgA c) by rw [hw]; exact Blk.row_far HBC2.out (by have := HNE3.out; omega) _)
  have HBR3 := Lib.hid (show Blk w3 bR 32 #[.int .i64 0, .int .i64 0] by rw [hw]; exact Blk.row HBR2.out _)
  have HBK3 := Lib.hid (show Blk w3 q 97 #[.int .i64 x.ds, .int .i64 x.da, .int .i64 x.un, .int .i64 x.wy, .int .i64 x.ti, .int .i64 x.ju, .int .i64 x.lo, .bool x.bl, .bool x.br, .int .i64 x.mo, .int .i64 x.ta, .bool x.ho, .int .u64 x.sp, .int .u64 x.su, .int .u64 x.sd, .int .i64 x.wy, .bool false, .bool false] by rw [hw]; exact Blk.row_far HBK2.out HNR.out _)
  clear hw HS2 HBC2 HBR2 HBK2
  refine tkL (.bool false) (h := ?_)
  (try simp only [Act.put, sA, sB, sC])
  refine wpList_nil ?_
  (try go_wp2_with fail)
  exact bodyPost_ret (results_row2 rfl _ _ bR 32 #[.int .i64 0, .int .i64 0] _ (.bool false) rfl rfl HBR3.out Try.underlying32 rfl (by kernel_rfl)) rfl ⟨rfl, HBK3.out, HS3.out⟩
set_option maxHeartbeats 4000000 in
theorem goB (q : Nat) (c : CfgV) (x : CarV) (w : World) (hb : Blk w q 97 (ctlA x 0 false false)) (hp : R x.sp) (hu : R x.su) (hd : R x.sd) (hl : lvB x.un = true) (ho : nO x = true) : Calls Try.prog 73 #[.pointer (some ⟨q, 0, none⟩), .agg (cfgA c)] w fun e w' => e = .returned (.tuple #[.agg #[.int .i64 (svF { x with wy := nW x } (lvN x.un)), .int .i64 (svW { x with wy := nW x } (lvN x.un))], .bool (atB x.su x.sd (lvN x.un) (nW x))]) ∧ Blk w' q 97 (ctlA (svX c { x with wy := nW x } (lvN x.un)) 0 true false) ∧ Upd [q] w w' := by
  have HBQ := Lib.hid hb
  clear hb
  have HP := Lib.hid hp
  clear hp
  have HU := Lib.hid hu
  clear hu
  have HD := Lib.hid hd
  clear hd
  have HL := Lib.hid hl
  clear hl
  have HO := Lib.hid ho
  clear ho
  go_enter Try.func73, Try.ntmps73
  go_upto_region 1 with fail
  obtain ⟨w1, hw1⟩ : ∃ w1, w1 = ((w.alloc (.cells (cfgA c) 23)).alloc (.cells #[.int .i64 0, .int .i64 0] 32)) := ⟨_, rfl⟩
  rw [← hw1]
  have HBC1 := Lib.hid (show Blk w1 (w.heap.size) 23 (cfgA c) by rw [hw1]; exact Blk.alloc (Blk.at_ (by (try simp only [size_alloc])) _ _) _)
  have HBR1 := Lib.hid (show Blk w1 (w.heap.size + 1) 32 #[.int .i64 0, .int .i64 0] by rw [hw1]; exact Blk.at_ (by (try simp only [size_alloc])) _ _)
  have HS1 := Lib.hid (show Since w w1 by rw [hw1]; exact Since.alloc (Since.alloc (Since.refl w) _) _)
  have hNE : w.heap.size ≤ w.heap.size ∧ w.heap.size < w.heap.size + 1 := by omega
  have HNE := Lib.hid hNE
  clear hNE hw1
  generalize w.heap.size + 1 = bR at *
  have HNE3 := Lib.hid (show w.heap.size ≤ w.heap.size ∧ w.heap.size < bR from HNE.out)
  clear HNE
  have HBQ1 := Lib.hid (keep_blk HS1.out HBQ.out)
  have HLO := Lib.hid (show q < w.heap.size from Blk.lt HBQ.out)
  have HNC := Lib.hid (show q ≠ w.heap.size by have := HLO.out; have := HNE3.out; omega)
  have HNR := Lib.hid (show q ≠ bR by have := HLO.out; have := HNE3.out; omega)
  clear HBQ
  have HSU := Lib.hid (show Upd [q] w w1 from Upd.of_since HS1.out); clear HS1
  refine wp_region_lit ?_
  refine tkL (.pointer (some ⟨q, 0, none⟩)) (h := ?_)
  (try simp only [Act.put, sA, sB, sC])
  refine tkL (.pointer (some ⟨q, 0, none⟩)) (h := ?_)
  (try simp only [Act.put, sA, sB, sC])
  refine tkL (.pointer (some ⟨q, 0, none⟩)) (h := ?_)
  (try simp only [Act.put, sA, sB, sC])
  refine tkL (.pointer (some ⟨q, 2, none⟩)) (h := ?_)
  (try simp only [Act.put, sA, sB, sC])
  refine wpList_q (by rfl) (.int .i64 x.un) ?he ?_
  case he => exact exec_cell 3 _ _ HBQ1.out rfl rfl rfl Try.underlying3 rfl
  (try simp only [Act.put, sA, sB, sC])
  refine wpList_wp (by rfl) (fun K hK => ?_)
  (try go_simp)
  refine (levelV x.un true _ HL.out).mono ?_
  rintro e w' ⟨rfl, rfl⟩
  (try go_wp2_with fail)
  refine hK.out _ _ ?_
  clear hK K
  (try simp only [Act.put, sA, sB, sC])
  refine tkL (.tuple #[.int .i64 (lvN x.un), .bool true]) (h := ?_)
  (try simp only [Act.put, sA, sB, sC])
  refine tkL (.int .i64 (lvN x.un)) (h := ?_)
  (try simp only [Act.put, sA, sB, sC])
  refine tkL (.bool true) (h := ?_)
  (try simp only [Act.put, sA, sB, sC])
  refine tkL (.int .i64 (lvN x.un)) (h := ?_)
  (try simp only [Act.put, sA, sB, sC])
  refine tkL (.bool true) (h := ?_)
  (try simp only [Act.put, sA, sB, sC])
  refine wpList_nil ?_
  go_upto_region 2 with fail
  refine wp_region_lit ?_
  refine tkL (.bool true) (h := ?_)
  (try simp only [Act.put, sA, sB, sC])
  refine wpList_q (by rfl) (.bool false) ?he ?_
  case he => (go_simp; (try with_reducible rfl))
  (try simp only [Act.put, sA, sB, sC])
  refine wpList_nil ?_
  go_upto_region 5 with fail
  have hrK : ∀ W W' : World, Since W W' → (Upd [q] w W ∧ Blk W w.heap.size 23 (cfgA c) ∧ Blk W bR 32 #[.int .i64 0, .int .i64 0] ∧ Blk W q 97 (ctlA x 0 false false)) → (Upd [q] w W' ∧ Blk W' w.heap.size 23 (cfgA c) ∧ Blk W' bR 32 #[.int .i64 0, .int .i64 0] ∧ Blk W' q 97 (ctlA x 0 false false)) := fun W W' k ⟨h, h0, h1, h2⟩ => ⟨h.trans k, keep_blk k h0, keep_blk k h1, keep_blk k h2⟩
  have hrS : (fun W : World => Upd [q] w W ∧ Blk W w.heap.size 23 (cfgA c) ∧ Blk W bR 32 #[.int .i64 0, .int .i64 0] ∧ Blk W q 97 (ctlA x 0 false false)) w1 := ⟨HSU.out, HBC1.out, HBR1.out, HBQ1.out⟩
  have HRK := Lib.hid hrK
  have HRD := Lib.hid (show (fun W : World => Upd [q] w W ∧ Blk W w.heap.size 23 (cfgA c) ∧ Blk W bR 32 #[.int .i64 0, .int .i64 0] ∧ Blk W q 97 (ctlA x 0 false false)) (World.drew w1) from hrK _ _ ((Since.refl w1).drew) hrS)
  clear hrK hrS
  refine wp_region_held_drew (S := fun W : World => Upd [q] w W ∧ Blk W w.heap.size 23 (cfgA c) ∧ Blk W bR 32 #[.int .i64 0, .int .i64 0] ∧ Blk W q 97 (ctlA x 0 false false)) (by kernel_rfl) HRD.out (fun hHeld => ?_)
  refine tkQ 0 (.pointer (some ⟨q, 0, none⟩)) hHeld (h := ?_)
  (try simp only [Act.put, sA, sB, sC])
  refine tkQ 1 (.pointer (some ⟨q, 0, none⟩)) hHeld (h := ?_)
  (try simp only [Act.put, sA, sB, sC])
  refine tkQ 2 (.pointer (some ⟨q, 0, none⟩)) hHeld (h := ?_)
  (try simp only [Act.put, sA, sB, sC])
  refine tkQ 3 (.pointer (some ⟨q, 12, none⟩)) hHeld (h := ?_)
  (try simp only [Act.put, sA, sB, sC])
  refine tkQ 4 (.agg #[.int .u64 x.sp, .int .u64 x.su, .int .u64 x.sd]) hHeld (he := by intro w hSw; exact exec_part (n := 3) 28 _ _ hSw.2.2.2 rfl rfl rfl rfl Try.underlying28 rfl (by kernel_rfl)) (h := ?_)
  (try simp only [Act.put, sA, sB, sC])
  refine tkQ 5 (.int .i64 (lvN x.un)) hHeld (h := ?_)
  (try simp only [Act.put, sA, sB, sC])
  refine tkQ 6 (.pointer (some ⟨q, 0, none⟩)) hHeld (h := ?_)
  (try simp only [Act.put, sA, sB, sC])
  refine tkQ 7 (.pointer (some ⟨q, 0, none⟩)) hHeld (h := ?_)
  (try simp only [Act.put, sA, sB, sC])
  refine tkQ 8 (.pointer (some ⟨q, 0, none⟩)) hHeld (h := ?_)
  (try simp only [Act.put, sA, sB, sC])
  refine tkQ 9 (.pointer (some ⟨q, 3, none⟩)) hHeld (h := ?_)
  (try simp only [Act.put, sA, sB, sC])
  refine tkQ 10 (.int .i64 x.wy) hHeld (he := by intro w hSw; exact exec_cell 3 _ _ hSw.2.2.2 rfl rfl rfl Try.underlying3 rfl) (h := ?_)
  (try simp only [Act.put, sA, sB, sC])
  refine tkQ 11 (.pointer (some ⟨q, 0, none⟩)) hHeld (h := ?_)
  (try simp only [Act.put, sA, sB, sC])
  refine tkQ 12 (.pointer (some ⟨q, 0, none⟩)) hHeld (h := ?_)
  (try simp only [Act.put, sA, sB, sC])
  refine tkQ 13 (.pointer (some ⟨q, 0, none⟩)) hHeld (h := ?_)
  (try simp only [Act.put, sA, sB, sC])
  refine tkQ 14 (.pointer (some ⟨q, 5, none⟩)) hHeld (h := ?_)
  (try simp only [Act.put, sA, sB, sC])
  refine tkQ 15 (.int .i64 x.ju) hHeld (he := by intro w hSw; exact exec_cell 3 _ _ hSw.2.2.2 rfl rfl rfl Try.underlying3 rfl) (h := ?_)
  (try simp only [Act.put, sA, sB, sC])
  refine wpAnyH_ready (rs := [16]) (by kernel_rfl) (by simp) ?_
  refine AllReadyH.cons (o := ?o5__16) ?h5__16 (fun K hK => ?_) AllReadyH.nil
  case h5__16 => (first | (simp only [gA, gB, gC]; done) | (simp only [gA, gB, gC]; exact rfl))
  (try go_simp)
  refine (nextV x true _ HO.out HP.out HU.out HD.out).mono ?_
  rintro e w2 ⟨rfl, hb⟩
  (try go_wp2_with fail)
  refine hK.out _ _ (by (apply HRK.out; exact hb; exact hHeld)) (fun hHeld2 => ?_)
  clear hK K hHeld hb
  have hHeld := hHeld2
  clear hHeld2
  (try simp only [Act.put, sA, sB, sC])
  refine tkQ 17 (.tuple #[.int .i64 (nW x), .bool true]) hHeld (h := ?_)
  (try simp only [Act.put, sA, sB, sC])
  refine tkQ 18 (.int .i64 (nW x)) hHeld (h := ?_)
  (try simp only [Act.put, sA, sB, sC])
  refine tkQ 19 (.bool true) hHeld (h := ?_)
  (try simp only [Act.put, sA, sB, sC])
  refine tkQ 20 (.int .i64 (nW x)) hHeld (h := ?_)
  (try simp only [Act.put, sA, sB, sC])
  refine tkQ 21 (.bool true) hHeld (h := ?_)
  (try simp only [Act.put, sA, sB, sC])
  refine wpAnyH_done (by kernel_rfl) ?_ _
  have HSd5 := Lib.hid hHeld.1
  have HBCd5 := Lib.hid (hHeld.2.1)
  have HBRd5 := Lib.hid (hHeld.2.2.1)
  have HBKd5 := Lib.hid (hHeld.2.2.2)
  clear hHeld HRK HRD HSU HBC1 HBR1 HBQ1
  go_upto_region 7 with fail
  refine wp_region_lit ?_
  refine tkL (.bool true) (h := ?_)
  (try simp only [Act.put, sA, sB, sC])
  refine tkL (.bool true) (h := ?_)
  (try simp only [Act.put, sA, sB, sC])
  refine wpList_nil ?_
  go_upto_region 8 with fail
  refine wp_region_lit ?_
  refine tkL (.pointer (some ⟨q, 0, none⟩)) (h := ?_)
  (try simp only [Act.put, sA, sB, sC])
  refine tkL (.int .i64 (nW x)) (h := ?_)
  (try simp only [Act.put, sA, sB, sC])
  refine tkL (.pointer (some ⟨q, 0, none⟩)) (h := ?_)
  (try simp only [Act.put, sA, sB, sC])
  refine tkL (.pointer (some ⟨q, 0, none⟩)) (h := ?_)
  (try simp only [Act.put, sA, sB, sC])
  refine tkL (.pointer (some ⟨q, 3, none⟩)) (h := ?_)
  (try simp only [Act.put, sA, sB, sC])
  refine wpList_wp (by rfl) (fun K hK => ?_)
  refine wp_st_cell 3 _ _ rfl #[.int .i64 x.ds, .int .i64 x.da, .int .i64 x.un, .int .i64 (nW x), .int .i64 x.ti, .int .i64 x.ju, .int .i64 x.lo, .bool x.bl, .bool x.br, .int .i64 x.mo, .int .i64 x.ta, .bool x.ho, .int .u64 x.sp, .int .u64 x.su, .int .u64 x.sd, .int .i64 0, .bool false, .bool false] (.int .i64 (nW x)) rfl rfl HBKd5.out (by show 3 < 18; decide) rfl (by first | rfl | simp [Value.oneCell']) (by kernel_rfl) ?_
  intro w3 hw
  refine hK.out _ _ ?_
  clear hK K
  (try simp only [Act.put, sA, sB, sC])
  have HS3 := Lib.hid (show Upd [q] w w3 by rw [hw]; exact Upd.setRow HSd5.out (.inl (by simp)) _)
  have HBC3 := Lib.hid (show Blk w3 w.heap.size 23 (cfgA c) by rw [hw]; exact Blk.row_far HBCd5.out (Ne.symm HNC.out) _)
  have HBR3 := Lib.hid (show Blk w3 bR 32 #[.int .i64 0, .int .i64 0] by rw [hw]; exact Blk.row_far HBRd5.out (Ne.symm HNR.out) _)
  have HBK3 := Lib.hid (show Blk w3 q 97 #[.int .i64 x.ds, .int .i64 x.da, .int .i64 x.un, .int .i64 (nW x), .int .i64 x.ti, .int .i64 x.ju, .int .i64 x.lo, .bool x.bl, .bool x.br, .int .i64 x.mo, .int .i64 x.ta, .bool x.ho, .int .u64 x.sp, .int .u64 x.su, .int .u64 x.sd, .int .i64 0, .bool false, .bool false] by rw [hw]; exact Blk.row HBKd5.out _)
  clear hw HSd5 HBCd5 HBRd5 HBKd5
  refine wpList_nil ?_
  go_upto_region 9 with fail
  refine wp_region_lit ?_
  refine tkL (.pointer (some ⟨q, 0, none⟩)) (h := ?_)
  (try simp only [Act.put, sA, sB, sC])
  refine wpList_q (by rfl) (.agg (cfgA c)) ?he ?_
  case he => exact exec_load_row 23 _ _ HBC3.out rfl rfl Try.underlying23 rfl (by kernel_rfl)
  (try simp only [Act.put, sA, sB, sC])
  refine tkL (.int .i64 (lvN x.un)) (h := ?_)
  (try simp only [Act.put, sA, sB, sC])
  refine wpList_wp (by rfl) (fun K hK => ?_)
  (try go_simp)
  refine (serveT q c { x with wy := nW x } (lvN x.un) _ HBK3.out HP.out HU.out HD.out).mono ?_
  rintro e w4 ⟨rfl, hB, hupd⟩
  (try go_wp2_with fail)
  refine hK.out _ _ ?_
  clear hK K
  (try simp only [Act.put, sA, sB, sC])
  have HBC4 := Lib.hid (hupd.blk HBC3.out (fun h => (Ne.symm HNC.out) (List.mem_singleton.1 h)))
  have HBR4 := Lib.hid (hupd.blk HBR3.out (fun h => (Ne.symm HNR.out) (List.mem_singleton.1 h)))
  have HS4 := Lib.hid (Upd.comp HS3.out hupd (fun _ h => .inl h))
  have HBK4 := Lib.hid (show Blk w4 q 97 #[.int .i64 x.ds, .int .i64 x.da, .int .i64 x.un, .int .i64 (nW x), .int .i64 (dwV c.dw), .int .i64 (lvN x.un), .int .i64 x.lo, .bool x.bl, .bool x.br, .int .i64 x.mo, .int .i64 x.ta, .bool x.ho, .int .u64 (clP x.sp (lvN x.un)), .int .u64 (clU x.su (lvN x.un) (nW x)), .int .u64 (clD x.sd (lvN x.un) (nW x)), .int .i64 0, .bool true, .bool false] from hB)
  clear hB hupd HS3 HBC3 HBR3 HBK3
  refine tkL (.agg #[.int .i64 (svF { x with wy := nW x } (lvN x.un)), .int .i64 (svW { x with wy := nW x } (lvN x.un))]) (h := ?_)
  (try simp only [Act.put, sA, sB, sC])
  refine tkL (.bool (atB x.su x.sd (lvN x.un) (nW x))) (h := ?_)
  (try simp only [Act.put, sA, sB, sC])
  refine wpList_wp (by rfl) (fun K hK => ?_)
  refine wp_st_row 32 _ _ rfl #[.int .i64 (svF { x with wy := nW x } (lvN x.un)), .int .i64 (svW { x with wy := nW x } (lvN x.un))] rfl rfl (HasRow.of HBR4.out rfl) rfl (by simp [cfgA, carA, ctlA, Value.oneCell']) (by kernel_rfl) ?_
  intro w5 hw
  refine hK.out _ _ ?_
  clear hK K
  (try simp only [Act.put, sA, sB, sC])
  have HS5 := Lib.hid (show Upd [q] w w5 by rw [hw]; exact Upd.setRow HS4.out (Or.inr (by have := HNE3.out; omega)) _)
  have HBC5 := Lib.hid (show Blk w5 w.heap.size 23 (cfgA c) by rw [hw]; exact Blk.row_far HBC4.out (by have := HNE3.out; omega) _)
  have HBR5 := Lib.hid (show Blk w5 bR 32 #[.int .i64 (svF { x with wy := nW x } (lvN x.un)), .int .i64 (svW { x with wy := nW x } (lvN x.un))] by rw [hw]; exact Blk.row HBR4.out _)
  have HBK5 := Lib.hid (show Blk w5 q 97 #[.int .i64 x.ds, .int .i64 x.da, .int .i64 x.un, .int .i64 (nW x), .int .i64 (dwV c.dw), .int .i64 (lvN x.un), .int .i64 x.lo, .bool x.bl, .bool x.br, .int .i64 x.mo, .int .i64 x.ta, .bool x.ho, .int .u64 (clP x.sp (lvN x.un)), .int .u64 (clU x.su (lvN x.un) (nW x)), .int .u64 (clD x.sd (lvN x.un) (nW x)), .int .i64 0, .bool true, .bool false] by rw [hw]; exact Blk.row_far HBK4.out HNR.out _)
  clear hw HS4 HBC4 HBR4 HBK4
  refine tkL (.bool (atB x.su x.sd (lvN x.un) (nW x))) (h := ?_)
  (try simp only [Act.put, sA, sB, sC])
  refine wpList_nil ?_
  (try go_wp2_with fail)
  exact bodyPost_ret (results_row2 rfl _ _ bR 32 #[.int .i64 (svF { x with wy := nW x } (lvN x.un)), .int .i64 (svW { x with wy := nW x } (lvN x.un))] _ (.bool (atB x.su x.sd (lvN x.un) (nW x))) rfl rfl HBR5.out Try.underlying32 rfl (by kernel_rfl)) rfl ⟨rfl, HBK5.out, HS5.out⟩
set_option maxHeartbeats 4000000 in
theorem goC (q : Nat) (c : CfgV) (x : CarV) (w : World) (hb : Blk w q 97 (ctlA x 0 false false)) (hp : R x.sp) (hu : R x.su) (hd : R x.sd) (hl : lvB x.un = true) (ho : nO x = false) (hw : ¬ nW x = 0) : Calls Try.prog 73 #[.pointer (some ⟨q, 0, none⟩), .agg (cfgA c)] w fun e w' => e = .returned (.tuple #[.agg #[.int .i64 0, .int .i64 0], .bool false]) ∧ Blk w' q 97 (ctlA { x with ju := -1 } (nW x) false false) ∧ Upd [q] w w' := by
  have HBQ := Lib.hid hb
  clear hb
  have HP := Lib.hid hp
  clear hp
  have HU := Lib.hid hu
  clear hu
  have HD := Lib.hid hd
  clear hd
  have HL := Lib.hid hl
  clear hl
  have HO := Lib.hid ho
  clear ho
  have HW := Lib.hid hw
  clear hw
  go_enter Try.func73, Try.ntmps73
  go_upto_region 1 with fail
  obtain ⟨w1, hw1⟩ : ∃ w1, w1 = ((w.alloc (.cells (cfgA c) 23)).alloc (.cells #[.int .i64 0, .int .i64 0] 32)) := ⟨_, rfl⟩
  rw [← hw1]
  have HBC1 := Lib.hid (show Blk w1 (w.heap.size) 23 (cfgA c) by rw [hw1]; exact Blk.alloc (Blk.at_ (by (try simp only [size_alloc])) _ _) _)
  have HBR1 := Lib.hid (show Blk w1 (w.heap.size + 1) 32 #[.int .i64 0, .int .i64 0] by rw [hw1]; exact Blk.at_ (by (try simp only [size_alloc])) _ _)
  have HS1 := Lib.hid (show Since w w1 by rw [hw1]; exact Since.alloc (Since.alloc (Since.refl w) _) _)
  have hNE : w.heap.size ≤ w.heap.size ∧ w.heap.size < w.heap.size + 1 := by omega
  have HNE := Lib.hid hNE
  clear hNE hw1
  generalize w.heap.size + 1 = bR at *
  have HNE3 := Lib.hid (show w.heap.size ≤ w.heap.size ∧ w.heap.size < bR from HNE.out)
  clear HNE
  have HBQ1 := Lib.hid (keep_blk HS1.out HBQ.out)
  have HLO := Lib.hid (show q < w.heap.size from Blk.lt HBQ.out)
  have HNC := Lib.hid (show q ≠ w.heap.size by have := HLO.out; have := HNE3.out; omega)
  have HNR := Lib.hid (show q ≠ bR by have := HLO.out; have := HNE3.out; omega)
  clear HBQ
  have HSU := Lib.hid (show Upd [q] w w1 from Upd.of_since HS1.out); clear HS1
  refine wp_region_lit ?_
  refine tkL (.pointer (some ⟨q, 0, none⟩)) (h := ?_)
  (try simp only [Act.put, sA, sB, sC])
  refine tkL (.pointer (some ⟨q, 0, none⟩)) (h := ?_)
  (try simp only [Act.put, sA, sB, sC])
  refine tkL (.pointer (some ⟨q, 0, none⟩)) (h := ?_)
  (try simp only [Act.put, sA, sB, sC])
  refine tkL (.pointer (some ⟨q, 2, none⟩)) (h := ?_)
  (try simp only [Act.put, sA, sB, sC])
  refine wpList_q (by rfl) (.int .i64 x.un) ?he ?_
  case he => exact exec_cell 3 _ _ HBQ1.out rfl rfl rfl Try.underlying3 rfl
  (try simp only [Act.put, sA, sB, sC])
  refine wpList_wp (by rfl) (fun K hK => ?_)
  (try go_simp)
  refine (levelV x.un true _ HL.out).mono ?_
  rintro e w' ⟨rfl, rfl⟩
  (try go_wp2_with fail)
  refine hK.out _ _ ?_
  clear hK K
  (try simp only [Act.put, sA, sB, sC])
  refine tkL (.tuple #[.int .i64 (lvN x.un), .bool true]) (h := ?_)
  (try simp only [Act.put, sA, sB, sC])
  refine tkL (.int .i64 (lvN x.un)) (h := ?_)
  (try simp only [Act.put, sA, sB, sC])
  refine tkL (.bool true) (h := ?_)
  (try simp only [Act.put, sA, sB, sC])
  refine tkL (.int .i64 (lvN x.un)) (h := ?_)
  (try simp only [Act.put, sA, sB, sC])
  refine tkL (.bool true) (h := ?_)
  (try simp only [Act.put, sA, sB, sC])
  refine wpList_nil ?_
  go_upto_region 2 with fail
  refine wp_region_lit ?_
  refine tkL (.bool true) (h := ?_)
  (try simp only [Act.put, sA, sB, sC])
  refine wpList_q (by rfl) (.bool false) ?he ?_
  case he => (go_simp; (try with_reducible rfl))
  (try simp only [Act.put, sA, sB, sC])
  refine wpList_nil ?_
  go_upto_region 5 with fail
  have hrK : ∀ W W' : World, Since W W' → (Upd [q] w W ∧ Blk W w.heap.size 23 (cfgA c) ∧ Blk W bR 32 #[.int .i64 0, .int .i64 0] ∧ Blk W q 97 (ctlA x 0 false false)) → (Upd [q] w W' ∧ Blk W' w.heap.size 23 (cfgA c) ∧ Blk W' bR 32 #[.int .i64 0, .int .i64 0] ∧ Blk W' q 97 (ctlA x 0 false false)) := fun W W' k ⟨h, h0, h1, h2⟩ => ⟨h.trans k, keep_blk k h0, keep_blk k h1, keep_blk k h2⟩
  have hrS : (fun W : World => Upd [q] w W ∧ Blk W w.heap.size 23 (cfgA c) ∧ Blk W bR 32 #[.int .i64 0, .int .i64 0] ∧ Blk W q 97 (ctlA x 0 false false)) w1 := ⟨HSU.out, HBC1.out, HBR1.out, HBQ1.out⟩
  have HRK := Lib.hid hrK
  have HRD := Lib.hid (show (fun W : World => Upd [q] w W ∧ Blk W w.heap.size 23 (cfgA c) ∧ Blk W bR 32 #[.int .i64 0, .int .i64 0] ∧ Blk W q 97 (ctlA x 0 false false)) (World.drew w1) from hrK _ _ ((Since.refl w1).drew) hrS)
  clear hrK hrS
  refine wp_region_held_drew (S := fun W : World => Upd [q] w W ∧ Blk W w.heap.size 23 (cfgA c) ∧ Blk W bR 32 #[.int .i64 0, .int .i64 0] ∧ Blk W q 97 (ctlA x 0 false false)) (by kernel_rfl) HRD.out (fun hHeld => ?_)
  refine tkQ 0 (.pointer (some ⟨q, 0, none⟩)) hHeld (h := ?_)
  (try simp only [Act.put, sA, sB, sC])
  refine tkQ 1 (.pointer (some ⟨q, 0, none⟩)) hHeld (h := ?_)
  (try simp only [Act.put, sA, sB, sC])
  refine tkQ 2 (.pointer (some ⟨q, 0, none⟩)) hHeld (h := ?_)
  (try simp only [Act.put, sA, sB, sC])
  refine tkQ 3 (.pointer (some ⟨q, 12, none⟩)) hHeld (h := ?_)
  (try simp only [Act.put, sA, sB, sC])
  refine tkQ 4 (.agg #[.int .u64 x.sp, .int .u64 x.su, .int .u64 x.sd]) hHeld (he := by intro w hSw; exact exec_part (n := 3) 28 _ _ hSw.2.2.2 rfl rfl rfl rfl Try.underlying28 rfl (by kernel_rfl)) (h := ?_)
  (try simp only [Act.put, sA, sB, sC])
  refine tkQ 5 (.int .i64 (lvN x.un)) hHeld (h := ?_)
  (try simp only [Act.put, sA, sB, sC])
  refine tkQ 6 (.pointer (some ⟨q, 0, none⟩)) hHeld (h := ?_)
  (try simp only [Act.put, sA, sB, sC])
  refine tkQ 7 (.pointer (some ⟨q, 0, none⟩)) hHeld (h := ?_)
  (try simp only [Act.put, sA, sB, sC])
  refine tkQ 8 (.pointer (some ⟨q, 0, none⟩)) hHeld (h := ?_)
  (try simp only [Act.put, sA, sB, sC])
  refine tkQ 9 (.pointer (some ⟨q, 3, none⟩)) hHeld (h := ?_)
  (try simp only [Act.put, sA, sB, sC])
  refine tkQ 10 (.int .i64 x.wy) hHeld (he := by intro w hSw; exact exec_cell 3 _ _ hSw.2.2.2 rfl rfl rfl Try.underlying3 rfl) (h := ?_)
  (try simp only [Act.put, sA, sB, sC])
  refine tkQ 11 (.pointer (some ⟨q, 0, none⟩)) hHeld (h := ?_)
  (try simp only [Act.put, sA, sB, sC])
  refine tkQ 12 (.pointer (some ⟨q, 0, none⟩)) hHeld (h := ?_)
  (try simp only [Act.put, sA, sB, sC])
  refine tkQ 13 (.pointer (some ⟨q, 0, none⟩)) hHeld (h := ?_)
  (try simp only [Act.put, sA, sB, sC])
  refine tkQ 14 (.pointer (some ⟨q, 5, none⟩)) hHeld (h := ?_)
  (try simp only [Act.put, sA, sB, sC])
  refine tkQ 15 (.int .i64 x.ju) hHeld (he := by intro w hSw; exact exec_cell 3 _ _ hSw.2.2.2 rfl rfl rfl Try.underlying3 rfl) (h := ?_)
  (try simp only [Act.put, sA, sB, sC])
  refine wpAnyH_ready (rs := [16]) (by kernel_rfl) (by simp) ?_
  refine AllReadyH.cons (o := ?o5__16) ?h5__16 (fun K hK => ?_) AllReadyH.nil
  case h5__16 => (first | (simp only [gA, gB, gC]; done) | (simp only [gA, gB, gC]; exact rfl))
  (try go_simp)
  refine (nextV x false _ HO.out HP.out HU.out HD.out).mono ?_
  rintro e w2 ⟨rfl, hb⟩
  (try go_wp2_with fail)
  refine hK.out _ _ (by (apply HRK.out; exact hb; exact hHeld)) (fun hHeld2 => ?_)
  clear hK K hHeld hb
  have hHeld := hHeld2
  clear hHeld2
  (try simp only [Act.put, sA, sB, sC])
  refine tkQ 17 (.tuple #[.int .i64 (nW x), .bool false]) hHeld (h := ?_)
  (try simp only [Act.put, sA, sB, sC])
  refine tkQ 18 (.int .i64 (nW x)) hHeld (h := ?_)
  (try simp only [Act.put, sA, sB, sC])
  refine tkQ 19 (.bool false) hHeld (h := ?_)
  (try simp only [Act.put, sA, sB, sC])
  refine tkQ 20 (.int .i64 (nW x)) hHeld (h := ?_)
  (try simp only [Act.put, sA, sB, sC])
  refine tkQ 21 (.bool false) hHeld (h := ?_)
  (try simp only [Act.put, sA, sB, sC])
  refine wpAnyH_done (by kernel_rfl) ?_ _
  have HSd5 := Lib.hid hHeld.1
  have HBCd5 := Lib.hid (hHeld.2.1)
  have HBRd5 := Lib.hid (hHeld.2.2.1)
  have HBKd5 := Lib.hid (hHeld.2.2.2)
  clear hHeld HRK HRD HSU HBC1 HBR1 HBQ1
  go_upto_region 7 with fail
  refine wp_region_lit ?_
  refine tkL (.bool false) (h := ?_)
  (try simp only [Act.put, sA, sB, sC])
  refine tkL (.bool false) (h := ?_)
  (try simp only [Act.put, sA, sB, sC])
  refine wpList_nil ?_
  go_upto_region 10 with fail
  refine wp_region_lit ?_
  refine tkL (.int .i64 (nW x)) (h := ?_)
  (try simp only [Act.put, sA, sB, sC])
  refine wpList_q (by rfl) (.bool true) ?he ?_
  case he => (have q0 := HW.out; go_simp; (first | done | rfl | omega))
  (try simp only [Act.put, sA, sB, sC])
  refine tkL (.bool true) (h := ?_)
  (try simp only [Act.put, sA, sB, sC])
  refine wpList_nil ?_
  go_upto_region 11 with fail
  refine wp_region_lit ?_
  refine tkL (.pointer (some ⟨q, 0, none⟩)) (h := ?_)
  (try simp only [Act.put, sA, sB, sC])
  refine tkL (.int .i64 (nW x)) (h := ?_)
  (try simp only [Act.put, sA, sB, sC])
  refine wpList_wp (by rfl) (fun K hK => ?_)
  (try go_simp)
  refine (runT q x (nW x) _ HBKd5.out).mono ?_
  rintro e w3 ⟨rfl, hB, hupd⟩
  (try go_wp2_with fail)
  refine hK.out _ _ ?_
  clear hK K
  (try simp only [Act.put, sA, sB, sC])
  have HBC3 := Lib.hid (hupd.blk HBCd5.out (fun h => (Ne.symm HNC.out) (List.mem_singleton.1 h)))
  have HBR3 := Lib.hid (hupd.blk HBRd5.out (fun h => (Ne.symm HNR.out) (List.mem_singleton.1 h)))
  have HS3 := Lib.hid (Upd.comp HSd5.out hupd (fun _ h => .inl h))
  have HBK3 := Lib.hid (show Blk w3 q 97 #[.int .i64 x.ds, .int .i64 x.da, .int .i64 x.un, .int .i64 x.wy, .int .i64 x.ti, .int .i64 (-1), .int .i64 x.lo, .bool x.bl, .bool x.br, .int .i64 x.mo, .int .i64 x.ta, .bool x.ho, .int .u64 x.sp, .int .u64 x.su, .int .u64 x.sd, .int .i64 (nW x), .bool false, .bool false] from hB)
  clear hB hupd HSd5 HBCd5 HBRd5 HBKd5
  refine wpList_nil ?_
  go_upto_region 12 with fail
  refine wp_region_lit ?_
  refine wpList_q (by rfl) (.agg #[.int .i64 0, .int .i64 0]) ?he ?_
  case he => kernel_rfl
  (try simp only [Act.put, sA, sB, sC])
  refine wpList_wp (by rfl) (fun K hK => ?_)
  refine wp_st_row 32 _ _ rfl #[.int .i64 0, .int .i64 0] rfl rfl (HasRow.of HBR3.out rfl) rfl (by simp [cfgA, carA, ctlA, Value.oneCell']) (by kernel_rfl) ?_
  intro w4 hw
  refine hK.out _ _ ?_
  clear hK K
  (try simp only [Act.put, sA, sB, sC])
  have HS4 := Lib.hid (show Upd [q] w w4 by rw [hw]; exact Upd.setRow HS3.out (Or.inr (by have := HNE3.out; omega)) _)
  have HBC4 := Lib.hid (show Blk w4 w.heap.size 23 (cfgA c) by rw [hw]; exact Blk.row_far HBC3.out (by have := HNE3.out; omega) _)
  have HBR4 := Lib.hid (show Blk w4 bR 32 #[.int .i64 0, .int .i64 0] by rw [hw]; exact Blk.row HBR3.out _)
  have HBK4 := Lib.hid (show Blk w4 q 97 #[.int .i64 x.ds, .int .i64 x.da, .int .i64 x.un, .int .i64 x.wy, .int .i64 x.ti, .int .i64 (-1), .int .i64 x.lo, .bool x.bl, .bool x.br, .int .i64 x.mo, .int .i64 x.ta, .bool x.ho, .int .u64 x.sp, .int .u64 x.su, .int .u64 x.sd, .int .i64 (nW x), .bool false, .bool false] by rw [hw]; exact Blk.row_far HBK3.out HNR.out _)
  clear hw HS3 HBC3 HBR3 HBK3
  refine tkL (.bool false) (h := ?_)
  (try simp only [Act.put, sA, sB, sC])
  refine wpList_nil ?_
  (try go_wp2_with fail)
  exact bodyPost_ret (results_row2 rfl _ _ bR 32 #[.int .i64 0, .int .i64 0] _ (.bool false) rfl rfl HBR4.out Try.underlying32 rfl (by kernel_rfl)) rfl ⟨rfl, HBK4.out, HS4.out⟩
set_option maxHeartbeats 4000000 in
theorem goD (q : Nat) (c : CfgV) (x : CarV) (w : World) (hb : Blk w q 97 (ctlA x 0 false false)) (hp : R x.sp) (hu : R x.su) (hd : R x.sd) (hl : lvB x.un = true) (ho : nO x = false) (hw : nW x = 0) : Calls Try.prog 73 #[.pointer (some ⟨q, 0, none⟩), .agg (cfgA c)] w fun e w' => e = .returned (.tuple #[.agg #[.int .i64 0, .int .i64 0], .bool false]) ∧ Blk w' q 97 (ctlA { x with wy := nW x } 0 false false) ∧ Upd [q] w w' := by
  have HBQ := Lib.hid hb
  clear hb
  have HP := Lib.hid hp
  clear hp
  have HU := Lib.hid hu
  clear hu
  have HD := Lib.hid hd
  clear hd
  have HL := Lib.hid hl
  clear hl
  have HO := Lib.hid ho
  clear ho
  have HW := Lib.hid hw
  clear hw
  go_enter Try.func73, Try.ntmps73
  go_upto_region 1 with fail
  obtain ⟨w1, hw1⟩ : ∃ w1, w1 = ((w.alloc (.cells (cfgA c) 23)).alloc (.cells #[.int .i64 0, .int .i64 0] 32)) := ⟨_, rfl⟩
  rw [← hw1]
  have HBC1 := Lib.hid (show Blk w1 (w.heap.size) 23 (cfgA c) by rw [hw1]; exact Blk.alloc (Blk.at_ (by (try simp only [size_alloc])) _ _) _)
  have HBR1 := Lib.hid (show Blk w1 (w.heap.size + 1) 32 #[.int .i64 0, .int .i64 0] by rw [hw1]; exact Blk.at_ (by (try simp only [size_alloc])) _ _)
  have HS1 := Lib.hid (show Since w w1 by rw [hw1]; exact Since.alloc (Since.alloc (Since.refl w) _) _)
  have hNE : w.heap.size ≤ w.heap.size ∧ w.heap.size < w.heap.size + 1 := by omega
  have HNE := Lib.hid hNE
  clear hNE hw1
  generalize w.heap.size + 1 = bR at *
  have HNE3 := Lib.hid (show w.heap.size ≤ w.heap.size ∧ w.heap.size < bR from HNE.out)
  clear HNE
  have HBQ1 := Lib.hid (keep_blk HS1.out HBQ.out)
  have HLO := Lib.hid (show q < w.heap.size from Blk.lt HBQ.out)
  have HNC := Lib.hid (show q ≠ w.heap.size by have := HLO.out; have := HNE3.out; omega)
  have HNR := Lib.hid (show q ≠ bR by have := HLO.out; have := HNE3.out; omega)
  clear HBQ
  have HSU := Lib.hid (show Upd [q] w w1 from Upd.of_since HS1.out); clear HS1
  refine wp_region_lit ?_
  refine tkL (.pointer (some ⟨q, 0, none⟩)) (h := ?_)
  (try simp only [Act.put, sA, sB, sC])
  refine tkL (.pointer (some ⟨q, 0, none⟩)) (h := ?_)
  (try simp only [Act.put, sA, sB, sC])
  refine tkL (.pointer (some ⟨q, 0, none⟩)) (h := ?_)
  (try simp only [Act.put, sA, sB, sC])
  refine tkL (.pointer (some ⟨q, 2, none⟩)) (h := ?_)
  (try simp only [Act.put, sA, sB, sC])
  refine wpList_q (by rfl) (.int .i64 x.un) ?he ?_
  case he => exact exec_cell 3 _ _ HBQ1.out rfl rfl rfl Try.underlying3 rfl
  (try simp only [Act.put, sA, sB, sC])
  refine wpList_wp (by rfl) (fun K hK => ?_)
  (try go_simp)
  refine (levelV x.un true _ HL.out).mono ?_
  rintro e w' ⟨rfl, rfl⟩
  (try go_wp2_with fail)
  refine hK.out _ _ ?_
  clear hK K
  (try simp only [Act.put, sA, sB, sC])
  refine tkL (.tuple #[.int .i64 (lvN x.un), .bool true]) (h := ?_)
  (try simp only [Act.put, sA, sB, sC])
  refine tkL (.int .i64 (lvN x.un)) (h := ?_)
  (try simp only [Act.put, sA, sB, sC])
  refine tkL (.bool true) (h := ?_)
  (try simp only [Act.put, sA, sB, sC])
  refine tkL (.int .i64 (lvN x.un)) (h := ?_)
  (try simp only [Act.put, sA, sB, sC])
  refine tkL (.bool true) (h := ?_)
  (try simp only [Act.put, sA, sB, sC])
  refine wpList_nil ?_
  go_upto_region 2 with fail
  refine wp_region_lit ?_
  refine tkL (.bool true) (h := ?_)
  (try simp only [Act.put, sA, sB, sC])
  refine wpList_q (by rfl) (.bool false) ?he ?_
  case he => (go_simp; (try with_reducible rfl))
  (try simp only [Act.put, sA, sB, sC])
  refine wpList_nil ?_
  go_upto_region 5 with fail
  have hrK : ∀ W W' : World, Since W W' → (Upd [q] w W ∧ Blk W w.heap.size 23 (cfgA c) ∧ Blk W bR 32 #[.int .i64 0, .int .i64 0] ∧ Blk W q 97 (ctlA x 0 false false)) → (Upd [q] w W' ∧ Blk W' w.heap.size 23 (cfgA c) ∧ Blk W' bR 32 #[.int .i64 0, .int .i64 0] ∧ Blk W' q 97 (ctlA x 0 false false)) := fun W W' k ⟨h, h0, h1, h2⟩ => ⟨h.trans k, keep_blk k h0, keep_blk k h1, keep_blk k h2⟩
  have hrS : (fun W : World => Upd [q] w W ∧ Blk W w.heap.size 23 (cfgA c) ∧ Blk W bR 32 #[.int .i64 0, .int .i64 0] ∧ Blk W q 97 (ctlA x 0 false false)) w1 := ⟨HSU.out, HBC1.out, HBR1.out, HBQ1.out⟩
  have HRK := Lib.hid hrK
  have HRD := Lib.hid (show (fun W : World => Upd [q] w W ∧ Blk W w.heap.size 23 (cfgA c) ∧ Blk W bR 32 #[.int .i64 0, .int .i64 0] ∧ Blk W q 97 (ctlA x 0 false false)) (World.drew w1) from hrK _ _ ((Since.refl w1).drew) hrS)
  clear hrK hrS
  refine wp_region_held_drew (S := fun W : World => Upd [q] w W ∧ Blk W w.heap.size 23 (cfgA c) ∧ Blk W bR 32 #[.int .i64 0, .int .i64 0] ∧ Blk W q 97 (ctlA x 0 false false)) (by kernel_rfl) HRD.out (fun hHeld => ?_)
  refine tkQ 0 (.pointer (some ⟨q, 0, none⟩)) hHeld (h := ?_)
  (try simp only [Act.put, sA, sB, sC])
  refine tkQ 1 (.pointer (some ⟨q, 0, none⟩)) hHeld (h := ?_)
  (try simp only [Act.put, sA, sB, sC])
  refine tkQ 2 (.pointer (some ⟨q, 0, none⟩)) hHeld (h := ?_)
  (try simp only [Act.put, sA, sB, sC])
  refine tkQ 3 (.pointer (some ⟨q, 12, none⟩)) hHeld (h := ?_)
  (try simp only [Act.put, sA, sB, sC])
  refine tkQ 4 (.agg #[.int .u64 x.sp, .int .u64 x.su, .int .u64 x.sd]) hHeld (he := by intro w hSw; exact exec_part (n := 3) 28 _ _ hSw.2.2.2 rfl rfl rfl rfl Try.underlying28 rfl (by kernel_rfl)) (h := ?_)
  (try simp only [Act.put, sA, sB, sC])
  refine tkQ 5 (.int .i64 (lvN x.un)) hHeld (h := ?_)
  (try simp only [Act.put, sA, sB, sC])
  refine tkQ 6 (.pointer (some ⟨q, 0, none⟩)) hHeld (h := ?_)
  (try simp only [Act.put, sA, sB, sC])
  refine tkQ 7 (.pointer (some ⟨q, 0, none⟩)) hHeld (h := ?_)
  (try simp only [Act.put, sA, sB, sC])
  refine tkQ 8 (.pointer (some ⟨q, 0, none⟩)) hHeld (h := ?_)
  (try simp only [Act.put, sA, sB, sC])
  refine tkQ 9 (.pointer (some ⟨q, 3, none⟩)) hHeld (h := ?_)
  (try simp only [Act.put, sA, sB, sC])
  refine tkQ 10 (.int .i64 x.wy) hHeld (he := by intro w hSw; exact exec_cell 3 _ _ hSw.2.2.2 rfl rfl rfl Try.underlying3 rfl) (h := ?_)
  (try simp only [Act.put, sA, sB, sC])
  refine tkQ 11 (.pointer (some ⟨q, 0, none⟩)) hHeld (h := ?_)
  (try simp only [Act.put, sA, sB, sC])
  refine tkQ 12 (.pointer (some ⟨q, 0, none⟩)) hHeld (h := ?_)
  (try simp only [Act.put, sA, sB, sC])
  refine tkQ 13 (.pointer (some ⟨q, 0, none⟩)) hHeld (h := ?_)
  (try simp only [Act.put, sA, sB, sC])
  refine tkQ 14 (.pointer (some ⟨q, 5, none⟩)) hHeld (h := ?_)
  (try simp only [Act.put, sA, sB, sC])
  refine tkQ 15 (.int .i64 x.ju) hHeld (he := by intro w hSw; exact exec_cell 3 _ _ hSw.2.2.2 rfl rfl rfl Try.underlying3 rfl) (h := ?_)
  (try simp only [Act.put, sA, sB, sC])
  refine wpAnyH_ready (rs := [16]) (by kernel_rfl) (by simp) ?_
  refine AllReadyH.cons (o := ?o5__16) ?h5__16 (fun K hK => ?_) AllReadyH.nil
  case h5__16 => (first | (simp only [gA, gB, gC]; done) | (simp only [gA, gB, gC]; exact rfl))
  (try go_simp)
  refine (nextV x false _ HO.out HP.out HU.out HD.out).mono ?_
  rintro e w2 ⟨rfl, hb⟩
  (try go_wp2_with fail)
  refine hK.out _ _ (by (apply HRK.out; exact hb; exact hHeld)) (fun hHeld2 => ?_)
  clear hK K hHeld hb
  have hHeld := hHeld2
  clear hHeld2
  (try simp only [Act.put, sA, sB, sC])
  refine tkQ 17 (.tuple #[.int .i64 (nW x), .bool false]) hHeld (h := ?_)
  (try simp only [Act.put, sA, sB, sC])
  refine tkQ 18 (.int .i64 (nW x)) hHeld (h := ?_)
  (try simp only [Act.put, sA, sB, sC])
  refine tkQ 19 (.bool false) hHeld (h := ?_)
  (try simp only [Act.put, sA, sB, sC])
  refine tkQ 20 (.int .i64 (nW x)) hHeld (h := ?_)
  (try simp only [Act.put, sA, sB, sC])
  refine tkQ 21 (.bool false) hHeld (h := ?_)
  (try simp only [Act.put, sA, sB, sC])
  refine wpAnyH_done (by kernel_rfl) ?_ _
  have HSd5 := Lib.hid hHeld.1
  have HBCd5 := Lib.hid (hHeld.2.1)
  have HBRd5 := Lib.hid (hHeld.2.2.1)
  have HBKd5 := Lib.hid (hHeld.2.2.2)
  clear hHeld HRK HRD HSU HBC1 HBR1 HBQ1
  go_upto_region 7 with fail
  refine wp_region_lit ?_
  refine tkL (.bool false) (h := ?_)
  (try simp only [Act.put, sA, sB, sC])
  refine tkL (.bool false) (h := ?_)
  (try simp only [Act.put, sA, sB, sC])
  refine wpList_nil ?_
  go_upto_region 10 with fail
  refine wp_region_lit ?_
  refine tkL (.int .i64 (nW x)) (h := ?_)
  (try simp only [Act.put, sA, sB, sC])
  refine wpList_q (by rfl) (.bool false) ?he ?_
  case he => (have q0 := HW.out; go_simp; (first | done | rfl | omega))
  (try simp only [Act.put, sA, sB, sC])
  refine tkL (.bool false) (h := ?_)
  (try simp only [Act.put, sA, sB, sC])
  refine wpList_nil ?_
  go_upto_region 6 with fail
  refine wp_region_lit ?_
  refine tkL (.pointer (some ⟨q, 0, none⟩)) (h := ?_)
  (try simp only [Act.put, sA, sB, sC])
  refine tkL (.int .i64 (nW x)) (h := ?_)
  (try simp only [Act.put, sA, sB, sC])
  refine tkL (.pointer (some ⟨q, 0, none⟩)) (h := ?_)
  (try simp only [Act.put, sA, sB, sC])
  refine tkL (.pointer (some ⟨q, 0, none⟩)) (h := ?_)
  (try simp only [Act.put, sA, sB, sC])
  refine tkL (.pointer (some ⟨q, 3, none⟩)) (h := ?_)
  (try simp only [Act.put, sA, sB, sC])
  refine wpList_wp (by rfl) (fun K hK => ?_)
  refine wp_st_cell 3 _ _ rfl #[.int .i64 x.ds, .int .i64 x.da, .int .i64 x.un, .int .i64 (nW x), .int .i64 x.ti, .int .i64 x.ju, .int .i64 x.lo, .bool x.bl, .bool x.br, .int .i64 x.mo, .int .i64 x.ta, .bool x.ho, .int .u64 x.sp, .int .u64 x.su, .int .u64 x.sd, .int .i64 0, .bool false, .bool false] (.int .i64 (nW x)) rfl rfl HBKd5.out (by show 3 < 18; decide) rfl (by first | rfl | simp [Value.oneCell']) (by kernel_rfl) ?_
  intro w3 hw
  refine hK.out _ _ ?_
  clear hK K
  (try simp only [Act.put, sA, sB, sC])
  have HS3 := Lib.hid (show Upd [q] w w3 by rw [hw]; exact Upd.setRow HSd5.out (.inl (by simp)) _)
  have HBC3 := Lib.hid (show Blk w3 w.heap.size 23 (cfgA c) by rw [hw]; exact Blk.row_far HBCd5.out (Ne.symm HNC.out) _)
  have HBR3 := Lib.hid (show Blk w3 bR 32 #[.int .i64 0, .int .i64 0] by rw [hw]; exact Blk.row_far HBRd5.out (Ne.symm HNR.out) _)
  have HBK3 := Lib.hid (show Blk w3 q 97 #[.int .i64 x.ds, .int .i64 x.da, .int .i64 x.un, .int .i64 (nW x), .int .i64 x.ti, .int .i64 x.ju, .int .i64 x.lo, .bool x.bl, .bool x.br, .int .i64 x.mo, .int .i64 x.ta, .bool x.ho, .int .u64 x.sp, .int .u64 x.su, .int .u64 x.sd, .int .i64 0, .bool false, .bool false] by rw [hw]; exact Blk.row HBKd5.out _)
  clear hw HSd5 HBCd5 HBRd5 HBKd5
  refine wpList_nil ?_
  go_upto_region 12 with fail
  refine wp_region_lit ?_
  refine wpList_q (by rfl) (.agg #[.int .i64 0, .int .i64 0]) ?he ?_
  case he => kernel_rfl
  (try simp only [Act.put, sA, sB, sC])
  refine wpList_wp (by rfl) (fun K hK => ?_)
  refine wp_st_row 32 _ _ rfl #[.int .i64 0, .int .i64 0] rfl rfl (HasRow.of HBR3.out rfl) rfl (by simp [cfgA, carA, ctlA, Value.oneCell']) (by kernel_rfl) ?_
  intro w4 hw
  refine hK.out _ _ ?_
  clear hK K
  (try simp only [Act.put, sA, sB, sC])
  have HS4 := Lib.hid (show Upd [q] w w4 by rw [hw]; exact Upd.setRow HS3.out (Or.inr (by have := HNE3.out; omega)) _)
  have HBC4 := Lib.hid (show Blk w4 w.heap.size 23 (cfgA c) by rw [hw]; exact Blk.row_far HBC3.out (by have := HNE3.out; omega) _)
  have HBR4 := Lib.hid (show Blk w4 bR 32 #[.int .i64 0, .int .i64 0] by rw [hw]; exact Blk.row HBR3.out _)
  have HBK4 := Lib.hid (show Blk w4 q 97 #[.int .i64 x.ds, .int .i64 x.da, .int .i64 x.un, .int .i64 (nW x), .int .i64 x.ti, .int .i64 x.ju, .int .i64 x.lo, .bool x.bl, .bool x.br, .int .i64 x.mo, .int .i64 x.ta, .bool x.ho, .int .u64 x.sp, .int .u64 x.su, .int .u64 x.sd, .int .i64 0, .bool false, .bool false] by rw [hw]; exact Blk.row_far HBK3.out HNR.out _)
  clear hw HS3 HBC3 HBR3 HBK3
  refine tkL (.bool false) (h := ?_)
  (try simp only [Act.put, sA, sB, sC])
  refine wpList_nil ?_
  (try go_wp2_with fail)
  exact bodyPost_ret (results_row2 rfl _ _ bR 32 #[.int .i64 0, .int .i64 0] _ (.bool false) rfl rfl HBR4.out Try.underlying32 rfl (by kernel_rfl)) rfl ⟨rfl, HBK4.out, HS4.out⟩
/-- What a car whose door is closed is told, and what is served. -/
def goX (c : CfgV) (x : CarV) : CarV := if lvB x.un = false then x else if nO x = true then svX c { x with wy := nW x } (lvN x.un) else if nW x = 0 then { x with wy := nW x } else { x with ju := -1 }
def goR (x : CarV) : Int := if lvB x.un = false then x.wy else if nO x = true then 0 else nW x
def goO (x : CarV) : Bool := lvB x.un && nO x
def goS (x : CarV) : Bool := lvB x.un && nO x && atB x.su x.sd (lvN x.un) (nW x)
def goF (x : CarV) : Int := if goS x = true then lvN x.un else 0
def goW (x : CarV) : Int := if goS x = true then nW x else 0
theorem goT (q : Nat) (c : CfgV) (x : CarV) (w : World) (hb : Blk w q 97 (ctlA x 0 false false)) (hp : R x.sp) (hu : R x.su) (hd : R x.sd) : Calls Try.prog 73 #[.pointer (some ⟨q, 0, none⟩), .agg (cfgA c)] w fun e w' => e = .returned (.tuple #[.agg #[.int .i64 (goF x), .int .i64 (goW x)], .bool (goS x)]) ∧ Blk w' q 97 (ctlA (goX c x) (goR x) (goO x) false) ∧ Upd [q] w w' := by
  cases hl : lvB x.un with
  | false =>
    rw [show goX c x = x by simp [goX, hl], show goR x = x.wy by simp [goR, hl], show goO x = false by simp [goO, hl], show goF x = 0 by simp [goF, goS, hl], show goW x = 0 by simp [goW, goS, hl], show goS x = false by simp [goS, hl]]
    exact goA q c x w hb hp hu hd hl
  | true =>
    cases ho : nO x with
    | true =>
      have e1 : goS x = atB x.su x.sd (lvN x.un) (nW x) := by simp [goS, hl, ho]
      have h := goB q c x w hb hp hu hd hl ho
      rw [show goX c x = svX c { x with wy := nW x } (lvN x.un) by simp [goX, hl, ho], show goR x = 0 by simp [goR, hl, ho], show goO x = true by simp [goO, hl, ho], show goF x = svF { x with wy := nW x } (lvN x.un) by simp only [goF, svF, e1], show goW x = svW { x with wy := nW x } (lvN x.un) by simp only [goW, svW, e1], e1]
      exact h
    | false =>
      have e1 : goS x = false := by simp [goS, ho]
      rw [show goO x = false by simp [goO, ho], show goF x = 0 by simp [goF, e1], show goW x = 0 by simp [goW, e1], e1]
      by_cases hw : nW x = 0
      · rw [show goX c x = { x with wy := nW x } by simp [goX, hl, ho, hw], show goR x = 0 by simp [goR, hl, ho, hw]]
        exact goD q c x w hb hp hu hd hl ho hw
      · rw [show goX c x = { x with ju := -1 } by simp [goX, hl, ho, hw], show goR x = nW x by simp [goR, hl, ho]]
        exact goC q c x w hb hp hu hd hl ho hw
theorem ovV (a b : Int) (v : Bool) (w : World) (h : ov a b = v) : Calls Try.prog 85 #[.int .i64 a, .int .i64 b] w fun e w' => e = .returned (.bool v) ∧ w = w' := by subst h; exact overT a b w
set_option maxHeartbeats 4000000 in
theorem stayA (q : Nat) (c : CfgV) (x : CarV) (w : World) (hb : Blk w q 97 (ctlA x 0 false false)) (ht0 : -1000000000 ≤ x.ti) (ht1 : x.ti ≤ 1000000000) (hbl : x.bl = true) : Calls Try.prog 74 #[.pointer (some ⟨q, 0, none⟩), .agg (cfgA c)] w fun e w' => e = .returned (.tuple #[]) ∧ Blk w' q 97 (ctlA { x with ti := dwV c.dw } 0 false false) ∧ Upd [q] w w' := by
  have HBQ := Lib.hid hb
  clear hb
  have HT0 := Lib.hid ht0
  clear ht0
  have HT1 := Lib.hid ht1
  clear ht1
  have HBL := Lib.hid hbl
  clear hbl
  go_enter Try.func74, Try.ntmps74
  go_upto_region 1 with fail
  obtain ⟨w1, hw1⟩ : ∃ w1, w1 = (w.alloc (.cells (cfgA c) 23)) := ⟨_, rfl⟩
  rw [← hw1]
  have HBC1 := Lib.hid (show Blk w1 (w.heap.size) 23 (cfgA c) by rw [hw1]; exact Blk.at_ (by (try simp only [size_alloc])) _ _)
  have HS1 := Lib.hid (show Since w w1 by rw [hw1]; exact Since.alloc (Since.refl w) _)
  have hNE : w.heap.size ≤ w.heap.size := by omega
  have HNE := Lib.hid hNE
  clear hNE hw1
  have HNE3 := Lib.hid (show w.heap.size ≤ w.heap.size from HNE.out)
  clear HNE
  have HBQ1 := Lib.hid (keep_blk HS1.out HBQ.out)
  have HLO := Lib.hid (show q < w.heap.size from Blk.lt HBQ.out)
  have HNC := Lib.hid (show q ≠ w.heap.size by have := HLO.out; have := HNE3.out; omega)
  clear HBQ
  have HSU := Lib.hid (show Upd [q] w w1 from Upd.of_since HS1.out); clear HS1
  have hrK : ∀ W W' : World, Since W W' → (Upd [q] w W ∧ Blk W w.heap.size 23 (cfgA c) ∧ Blk W q 97 (ctlA x 0 false false)) → (Upd [q] w W' ∧ Blk W' w.heap.size 23 (cfgA c) ∧ Blk W' q 97 (ctlA x 0 false false)) := fun W W' k ⟨h, h0, h1⟩ => ⟨h.trans k, keep_blk k h0, keep_blk k h1⟩
  have hrS : (fun W : World => Upd [q] w W ∧ Blk W w.heap.size 23 (cfgA c) ∧ Blk W q 97 (ctlA x 0 false false)) w1 := ⟨HSU.out, HBC1.out, HBQ1.out⟩
  have HRK := Lib.hid hrK
  have HRD := Lib.hid (show (fun W : World => Upd [q] w W ∧ Blk W w.heap.size 23 (cfgA c) ∧ Blk W q 97 (ctlA x 0 false false)) (World.drew w1) from hrK _ _ ((Since.refl w1).drew) hrS)
  clear hrK hrS
  refine wp_region_held_drew (S := fun W : World => Upd [q] w W ∧ Blk W w.heap.size 23 (cfgA c) ∧ Blk W q 97 (ctlA x 0 false false)) (by kernel_rfl) HRD.out (fun hHeld => ?_)
  refine tkQ 0 (.pointer (some ⟨q, 0, none⟩)) hHeld (h := ?_)
  (try simp only [Act.put, sA, sB, sC])
  refine tkQ 1 (.pointer (some ⟨q, 0, none⟩)) hHeld (h := ?_)
  (try simp only [Act.put, sA, sB, sC])
  refine tkQ 2 (.pointer (some ⟨q, 0, none⟩)) hHeld (h := ?_)
  (try simp only [Act.put, sA, sB, sC])
  refine tkQ 3 (.pointer (some ⟨q, 7, none⟩)) hHeld (h := ?_)
  (try simp only [Act.put, sA, sB, sC])
  refine tkQ 4 (.bool true) hHeld (he := by intro w hSw; exact exec_cell 4 _ _ hSw.2.2 (by show some (Value.bool x.bl) = _; rw [HBL.out]) rfl rfl Try.underlying4 rfl) (h := ?_)
  (try simp only [Act.put, sA, sB, sC])
  refine tkQ 5 (.bool true) hHeld (h := ?_)
  (try simp only [Act.put, sA, sB, sC])
  refine tkU 6 hHeld (h := ?_)
  (try simp only [Act.put, sA, sB, sC])
  refine tkU 7 hHeld (h := ?_)
  (try simp only [Act.put, sA, sB, sC])
  refine tkU 8 hHeld (h := ?_)
  (try simp only [Act.put, sA, sB, sC])
  refine tkU 9 hHeld (h := ?_)
  (try simp only [Act.put, sA, sB, sC])
  refine tkU 10 hHeld (h := ?_)
  (try simp only [Act.put, sA, sB, sC])
  refine tkU 11 hHeld (h := ?_)
  (try simp only [Act.put, sA, sB, sC])
  refine tkU 12 hHeld (h := ?_)
  (try simp only [Act.put, sA, sB, sC])
  refine tkU 13 hHeld (h := ?_)
  (try simp only [Act.put, sA, sB, sC])
  refine tkQ 14 (.bool true) hHeld (h := ?_)
  (try simp only [Act.put, sA, sB, sC])
  refine wpAnyH_done (by kernel_rfl) ?_ _
  have HSd1 := Lib.hid hHeld.1
  have HBCd1 := Lib.hid (hHeld.2.1)
  have HBKd1 := Lib.hid (hHeld.2.2)
  clear hHeld HRK HRD HSU HBC1 HBQ1
  go_upto_region 2 with fail
  refine wp_region_lit ?_
  refine tkL (.pointer (some ⟨q, 0, none⟩)) (h := ?_)
  (try simp only [Act.put, sA, sB, sC])
  refine wpList_q (by rfl) (.agg (cfgA c)) ?he ?_
  case he => exact exec_load_row 23 _ _ HBCd1.out rfl rfl Try.underlying23 rfl (by kernel_rfl)
  (try simp only [Act.put, sA, sB, sC])
  refine wpList_wp (by rfl) (fun K hK => ?_)
  (try go_simp)
  refine (dwellT c _).mono ?_
  rintro e w2 ⟨rfl, hb⟩
  (try go_wp2_with fail)
  refine hK.out _ _ ?_
  clear hK K
  (try simp only [Act.put, sA, sB, sC])
  have HS2 := Lib.hid (Upd.trans HSd1.out hb)
  have HBC2 := Lib.hid (keep_blk hb HBCd1.out)
  have HBK2 := Lib.hid (keep_blk hb HBKd1.out)
  clear HSd1 HBCd1 HBKd1
  clear hb
  refine tkL (.pointer (some ⟨q, 0, none⟩)) (h := ?_)
  (try simp only [Act.put, sA, sB, sC])
  refine tkL (.pointer (some ⟨q, 0, none⟩)) (h := ?_)
  (try simp only [Act.put, sA, sB, sC])
  refine tkL (.pointer (some ⟨q, 4, none⟩)) (h := ?_)
  (try simp only [Act.put, sA, sB, sC])
  refine wpList_wp (by rfl) (fun K hK => ?_)
  refine wp_st_cell 3 _ _ rfl #[.int .i64 x.ds, .int .i64 x.da, .int .i64 x.un, .int .i64 x.wy, .int .i64 (dwV c.dw), .int .i64 x.ju, .int .i64 x.lo, .bool x.bl, .bool x.br, .int .i64 x.mo, .int .i64 x.ta, .bool x.ho, .int .u64 x.sp, .int .u64 x.su, .int .u64 x.sd, .int .i64 0, .bool false, .bool false] (.int .i64 (dwV c.dw)) rfl rfl HBK2.out (by show 4 < 18; decide) rfl (by first | rfl | simp [Value.oneCell']) (by kernel_rfl) ?_
  intro w3 hw
  refine hK.out _ _ ?_
  clear hK K
  (try simp only [Act.put, sA, sB, sC])
  have HS3 := Lib.hid (show Upd [q] w w3 by rw [hw]; exact Upd.setRow HS2.out (.inl (by simp)) _)
  have HBC3 := Lib.hid (show Blk w3 w.heap.size 23 (cfgA c) by rw [hw]; exact Blk.row_far HBC2.out (Ne.symm HNC.out) _)
  have HBK3 := Lib.hid (show Blk w3 q 97 #[.int .i64 x.ds, .int .i64 x.da, .int .i64 x.un, .int .i64 x.wy, .int .i64 (dwV c.dw), .int .i64 x.ju, .int .i64 x.lo, .bool x.bl, .bool x.br, .int .i64 x.mo, .int .i64 x.ta, .bool x.ho, .int .u64 x.sp, .int .u64 x.su, .int .u64 x.sd, .int .i64 0, .bool false, .bool false] by rw [hw]; exact Blk.row HBK2.out _)
  clear hw HS2 HBC2 HBK2
  refine wpList_nil ?_
  (try go_wp2_with fail)
  first | go_end0 | refine bodyPost_ret (results_none rfl _ _ _) rfl ?_
  exact ⟨rfl, HBK3.out, HS3.out⟩
set_option maxHeartbeats 4000000 in
theorem stayB (q : Nat) (c : CfgV) (x : CarV) (w : World) (hb : Blk w q 97 (ctlA x 0 false false)) (ht0 : -1000000000 ≤ x.ti) (ht1 : x.ti ≤ 1000000000) (hbl : x.bl = false) (hov : ov x.lo c.lo = true) : Calls Try.prog 74 #[.pointer (some ⟨q, 0, none⟩), .agg (cfgA c)] w fun e w' => e = .returned (.tuple #[]) ∧ Blk w' q 97 (ctlA { x with ti := dwV c.dw } 0 false false) ∧ Upd [q] w w' := by
  have HBQ := Lib.hid hb
  clear hb
  have HT0 := Lib.hid ht0
  clear ht0
  have HT1 := Lib.hid ht1
  clear ht1
  have HBL := Lib.hid hbl
  clear hbl
  have HOV := Lib.hid hov
  clear hov
  go_enter Try.func74, Try.ntmps74
  go_upto_region 1 with fail
  obtain ⟨w1, hw1⟩ : ∃ w1, w1 = (w.alloc (.cells (cfgA c) 23)) := ⟨_, rfl⟩
  rw [← hw1]
  have HBC1 := Lib.hid (show Blk w1 (w.heap.size) 23 (cfgA c) by rw [hw1]; exact Blk.at_ (by (try simp only [size_alloc])) _ _)
  have HS1 := Lib.hid (show Since w w1 by rw [hw1]; exact Since.alloc (Since.refl w) _)
  have hNE : w.heap.size ≤ w.heap.size := by omega
  have HNE := Lib.hid hNE
  clear hNE hw1
  have HNE3 := Lib.hid (show w.heap.size ≤ w.heap.size from HNE.out)
  clear HNE
  have HBQ1 := Lib.hid (keep_blk HS1.out HBQ.out)
  have HLO := Lib.hid (show q < w.heap.size from Blk.lt HBQ.out)
  have HNC := Lib.hid (show q ≠ w.heap.size by have := HLO.out; have := HNE3.out; omega)
  clear HBQ
  have HSU := Lib.hid (show Upd [q] w w1 from Upd.of_since HS1.out); clear HS1
  have hrK : ∀ W W' : World, Since W W' → (Upd [q] w W ∧ Blk W w.heap.size 23 (cfgA c) ∧ Blk W q 97 (ctlA x 0 false false)) → (Upd [q] w W' ∧ Blk W' w.heap.size 23 (cfgA c) ∧ Blk W' q 97 (ctlA x 0 false false)) := fun W W' k ⟨h, h0, h1⟩ => ⟨h.trans k, keep_blk k h0, keep_blk k h1⟩
  have hrS : (fun W : World => Upd [q] w W ∧ Blk W w.heap.size 23 (cfgA c) ∧ Blk W q 97 (ctlA x 0 false false)) w1 := ⟨HSU.out, HBC1.out, HBQ1.out⟩
  have HRK := Lib.hid hrK
  have HRD := Lib.hid (show (fun W : World => Upd [q] w W ∧ Blk W w.heap.size 23 (cfgA c) ∧ Blk W q 97 (ctlA x 0 false false)) (World.drew w1) from hrK _ _ ((Since.refl w1).drew) hrS)
  clear hrK hrS
  refine wp_region_held_drew (S := fun W : World => Upd [q] w W ∧ Blk W w.heap.size 23 (cfgA c) ∧ Blk W q 97 (ctlA x 0 false false)) (by kernel_rfl) HRD.out (fun hHeld => ?_)
  refine tkQ 0 (.pointer (some ⟨q, 0, none⟩)) hHeld (h := ?_)
  (try simp only [Act.put, sA, sB, sC])
  refine tkQ 1 (.pointer (some ⟨q, 0, none⟩)) hHeld (h := ?_)
  (try simp only [Act.put, sA, sB, sC])
  refine tkQ 2 (.pointer (some ⟨q, 0, none⟩)) hHeld (h := ?_)
  (try simp only [Act.put, sA, sB, sC])
  refine tkQ 3 (.pointer (some ⟨q, 7, none⟩)) hHeld (h := ?_)
  (try simp only [Act.put, sA, sB, sC])
  refine tkQ 4 (.bool false) hHeld (he := by intro w hSw; exact exec_cell 4 _ _ hSw.2.2 (by show some (Value.bool x.bl) = _; rw [HBL.out]) rfl rfl Try.underlying4 rfl) (h := ?_)
  (try simp only [Act.put, sA, sB, sC])
  refine tkQ 5 (.bool false) hHeld (h := ?_)
  (try simp only [Act.put, sA, sB, sC])
  refine tkQ 6 (.pointer (some ⟨q, 0, none⟩)) hHeld (h := ?_)
  (try simp only [Act.put, sA, sB, sC])
  refine tkQ 7 (.pointer (some ⟨q, 0, none⟩)) hHeld (h := ?_)
  (try simp only [Act.put, sA, sB, sC])
  refine tkQ 8 (.pointer (some ⟨q, 0, none⟩)) hHeld (h := ?_)
  (try simp only [Act.put, sA, sB, sC])
  refine tkQ 9 (.pointer (some ⟨q, 6, none⟩)) hHeld (h := ?_)
  (try simp only [Act.put, sA, sB, sC])
  refine tkQ 10 (.int .i64 x.lo) hHeld (he := by intro w hSw; exact exec_cell 3 _ _ hSw.2.2 rfl rfl rfl Try.underlying3 rfl) (h := ?_)
  (try simp only [Act.put, sA, sB, sC])
  refine tkQ 11 (.pointer (some ⟨w.heap.size, 11, none⟩)) hHeld (h := ?_)
  (try simp only [Act.put, sA, sB, sC])
  refine tkQ 12 (.int .i64 c.lo) hHeld (he := by intro w hSw; exact exec_cell 3 _ _ hSw.2.1 rfl rfl rfl Try.underlying3 rfl) (h := ?_)
  (try simp only [Act.put, sA, sB, sC])
  refine wpAnyH_ready (rs := [13]) (by kernel_rfl) (by simp) ?_
  refine AllReadyH.cons (o := ?o1__13) ?h1__13 (fun K hK => ?_) AllReadyH.nil
  case h1__13 => (first | (simp only [gA, gB, gC]; done) | (simp only [gA, gB, gC]; exact rfl))
  (try go_simp)
  refine (ovV x.lo c.lo true _ HOV.out).mono ?_
  rintro e w' ⟨rfl, rfl⟩
  (try go_wp2_with fail)
  refine hK.out _ _ hHeld (fun hHeld2 => ?_)
  clear hK K hHeld2
  (try simp only [Act.put, sA, sB, sC])
  refine tkQ 14 (.bool true) hHeld (h := ?_)
  (try simp only [Act.put, sA, sB, sC])
  refine wpAnyH_done (by kernel_rfl) ?_ _
  have HSd1 := Lib.hid hHeld.1
  have HBCd1 := Lib.hid (hHeld.2.1)
  have HBKd1 := Lib.hid (hHeld.2.2)
  clear hHeld HRK HRD HSU HBC1 HBQ1
  go_upto_region 2 with fail
  refine wp_region_lit ?_
  refine tkL (.pointer (some ⟨q, 0, none⟩)) (h := ?_)
  (try simp only [Act.put, sA, sB, sC])
  refine wpList_q (by rfl) (.agg (cfgA c)) ?he ?_
  case he => exact exec_load_row 23 _ _ HBCd1.out rfl rfl Try.underlying23 rfl (by kernel_rfl)
  (try simp only [Act.put, sA, sB, sC])
  refine wpList_wp (by rfl) (fun K hK => ?_)
  (try go_simp)
  refine (dwellT c _).mono ?_
  rintro e w2 ⟨rfl, hb⟩
  (try go_wp2_with fail)
  refine hK.out _ _ ?_
  clear hK K
  (try simp only [Act.put, sA, sB, sC])
  have HS2 := Lib.hid (Upd.trans HSd1.out hb)
  have HBC2 := Lib.hid (keep_blk hb HBCd1.out)
  have HBK2 := Lib.hid (keep_blk hb HBKd1.out)
  clear HSd1 HBCd1 HBKd1
  clear hb
  refine tkL (.pointer (some ⟨q, 0, none⟩)) (h := ?_)
  (try simp only [Act.put, sA, sB, sC])
  refine tkL (.pointer (some ⟨q, 0, none⟩)) (h := ?_)
  (try simp only [Act.put, sA, sB, sC])
  refine tkL (.pointer (some ⟨q, 4, none⟩)) (h := ?_)
  (try simp only [Act.put, sA, sB, sC])
  refine wpList_wp (by rfl) (fun K hK => ?_)
  refine wp_st_cell 3 _ _ rfl #[.int .i64 x.ds, .int .i64 x.da, .int .i64 x.un, .int .i64 x.wy, .int .i64 (dwV c.dw), .int .i64 x.ju, .int .i64 x.lo, .bool x.bl, .bool x.br, .int .i64 x.mo, .int .i64 x.ta, .bool x.ho, .int .u64 x.sp, .int .u64 x.su, .int .u64 x.sd, .int .i64 0, .bool false, .bool false] (.int .i64 (dwV c.dw)) rfl rfl HBK2.out (by show 4 < 18; decide) rfl (by first | rfl | simp [Value.oneCell']) (by kernel_rfl) ?_
  intro w3 hw
  refine hK.out _ _ ?_
  clear hK K
  (try simp only [Act.put, sA, sB, sC])
  have HS3 := Lib.hid (show Upd [q] w w3 by rw [hw]; exact Upd.setRow HS2.out (.inl (by simp)) _)
  have HBC3 := Lib.hid (show Blk w3 w.heap.size 23 (cfgA c) by rw [hw]; exact Blk.row_far HBC2.out (Ne.symm HNC.out) _)
  have HBK3 := Lib.hid (show Blk w3 q 97 #[.int .i64 x.ds, .int .i64 x.da, .int .i64 x.un, .int .i64 x.wy, .int .i64 (dwV c.dw), .int .i64 x.ju, .int .i64 x.lo, .bool x.bl, .bool x.br, .int .i64 x.mo, .int .i64 x.ta, .bool x.ho, .int .u64 x.sp, .int .u64 x.su, .int .u64 x.sd, .int .i64 0, .bool false, .bool false] by rw [hw]; exact Blk.row HBK2.out _)
  clear hw HS2 HBC2 HBK2
  refine wpList_nil ?_
  (try go_wp2_with fail)
  first | go_end0 | refine bodyPost_ret (results_none rfl _ _ _) rfl ?_
  exact ⟨rfl, HBK3.out, HS3.out⟩
set_option maxHeartbeats 4000000 in
theorem stayC (q : Nat) (c : CfgV) (x : CarV) (w : World) (hb : Blk w q 97 (ctlA x 0 false false)) (ht0 : -1000000000 ≤ x.ti) (ht1 : x.ti ≤ 1000000000) (hbl : x.bl = false) (hov : ov x.lo c.lo = false) : Calls Try.prog 74 #[.pointer (some ⟨q, 0, none⟩), .agg (cfgA c)] w fun e w' => e = .returned (.tuple #[]) ∧ Blk w' q 97 (ctlA { x with ti := x.ti - 1 } 0 false (decide (x.ti - 1 ≤ 0))) ∧ Upd [q] w w' := by
  have HBQ := Lib.hid hb
  clear hb
  have HT0 := Lib.hid ht0
  clear ht0
  have HT1 := Lib.hid ht1
  clear ht1
  have HBL := Lib.hid hbl
  clear hbl
  have HOV := Lib.hid hov
  clear hov
  go_enter Try.func74, Try.ntmps74
  go_upto_region 1 with fail
  obtain ⟨w1, hw1⟩ : ∃ w1, w1 = (w.alloc (.cells (cfgA c) 23)) := ⟨_, rfl⟩
  rw [← hw1]
  have HBC1 := Lib.hid (show Blk w1 (w.heap.size) 23 (cfgA c) by rw [hw1]; exact Blk.at_ (by (try simp only [size_alloc])) _ _)
  have HS1 := Lib.hid (show Since w w1 by rw [hw1]; exact Since.alloc (Since.refl w) _)
  have hNE : w.heap.size ≤ w.heap.size := by omega
  have HNE := Lib.hid hNE
  clear hNE hw1
  have HNE3 := Lib.hid (show w.heap.size ≤ w.heap.size from HNE.out)
  clear HNE
  have HBQ1 := Lib.hid (keep_blk HS1.out HBQ.out)
  have HLO := Lib.hid (show q < w.heap.size from Blk.lt HBQ.out)
  have HNC := Lib.hid (show q ≠ w.heap.size by have := HLO.out; have := HNE3.out; omega)
  clear HBQ
  have HSU := Lib.hid (show Upd [q] w w1 from Upd.of_since HS1.out); clear HS1
  have hrK : ∀ W W' : World, Since W W' → (Upd [q] w W ∧ Blk W w.heap.size 23 (cfgA c) ∧ Blk W q 97 (ctlA x 0 false false)) → (Upd [q] w W' ∧ Blk W' w.heap.size 23 (cfgA c) ∧ Blk W' q 97 (ctlA x 0 false false)) := fun W W' k ⟨h, h0, h1⟩ => ⟨h.trans k, keep_blk k h0, keep_blk k h1⟩
  have hrS : (fun W : World => Upd [q] w W ∧ Blk W w.heap.size 23 (cfgA c) ∧ Blk W q 97 (ctlA x 0 false false)) w1 := ⟨HSU.out, HBC1.out, HBQ1.out⟩
  have HRK := Lib.hid hrK
  have HRD := Lib.hid (show (fun W : World => Upd [q] w W ∧ Blk W w.heap.size 23 (cfgA c) ∧ Blk W q 97 (ctlA x 0 false false)) (World.drew w1) from hrK _ _ ((Since.refl w1).drew) hrS)
  clear hrK hrS
  refine wp_region_held_drew (S := fun W : World => Upd [q] w W ∧ Blk W w.heap.size 23 (cfgA c) ∧ Blk W q 97 (ctlA x 0 false false)) (by kernel_rfl) HRD.out (fun hHeld => ?_)
  refine tkQ 0 (.pointer (some ⟨q, 0, none⟩)) hHeld (h := ?_)
  (try simp only [Act.put, sA, sB, sC])
  refine tkQ 1 (.pointer (some ⟨q, 0, none⟩)) hHeld (h := ?_)
  (try simp only [Act.put, sA, sB, sC])
  refine tkQ 2 (.pointer (some ⟨q, 0, none⟩)) hHeld (h := ?_)
  (try simp only [Act.put, sA, sB, sC])
  refine tkQ 3 (.pointer (some ⟨q, 7, none⟩)) hHeld (h := ?_)
  (try simp only [Act.put, sA, sB, sC])
  refine tkQ 4 (.bool false) hHeld (he := by intro w hSw; exact exec_cell 4 _ _ hSw.2.2 (by show some (Value.bool x.bl) = _; rw [HBL.out]) rfl rfl Try.underlying4 rfl) (h := ?_)
  (try simp only [Act.put, sA, sB, sC])
  refine tkQ 5 (.bool false) hHeld (h := ?_)
  (try simp only [Act.put, sA, sB, sC])
  refine tkQ 6 (.pointer (some ⟨q, 0, none⟩)) hHeld (h := ?_)
  (try simp only [Act.put, sA, sB, sC])
  refine tkQ 7 (.pointer (some ⟨q, 0, none⟩)) hHeld (h := ?_)
  (try simp only [Act.put, sA, sB, sC])
  refine tkQ 8 (.pointer (some ⟨q, 0, none⟩)) hHeld (h := ?_)
  (try simp only [Act.put, sA, sB, sC])
  refine tkQ 9 (.pointer (some ⟨q, 6, none⟩)) hHeld (h := ?_)
  (try simp only [Act.put, sA, sB, sC])
  refine tkQ 10 (.int .i64 x.lo) hHeld (he := by intro w hSw; exact exec_cell 3 _ _ hSw.2.2 rfl rfl rfl Try.underlying3 rfl) (h := ?_)
  (try simp only [Act.put, sA, sB, sC])
  refine tkQ 11 (.pointer (some ⟨w.heap.size, 11, none⟩)) hHeld (h := ?_)
  (try simp only [Act.put, sA, sB, sC])
  refine tkQ 12 (.int .i64 c.lo) hHeld (he := by intro w hSw; exact exec_cell 3 _ _ hSw.2.1 rfl rfl rfl Try.underlying3 rfl) (h := ?_)
  (try simp only [Act.put, sA, sB, sC])
  refine wpAnyH_ready (rs := [13]) (by kernel_rfl) (by simp) ?_
  refine AllReadyH.cons (o := ?o1__13) ?h1__13 (fun K hK => ?_) AllReadyH.nil
  case h1__13 => (first | (simp only [gA, gB, gC]; done) | (simp only [gA, gB, gC]; exact rfl))
  (try go_simp)
  refine (ovV x.lo c.lo false _ HOV.out).mono ?_
  rintro e w' ⟨rfl, rfl⟩
  (try go_wp2_with fail)
  refine hK.out _ _ hHeld (fun hHeld2 => ?_)
  clear hK K hHeld2
  (try simp only [Act.put, sA, sB, sC])
  refine tkQ 14 (.bool false) hHeld (h := ?_)
  (try simp only [Act.put, sA, sB, sC])
  refine wpAnyH_done (by kernel_rfl) ?_ _
  have HSd1 := Lib.hid hHeld.1
  have HBCd1 := Lib.hid (hHeld.2.1)
  have HBKd1 := Lib.hid (hHeld.2.2)
  clear hHeld HRK HRD HSU HBC1 HBQ1
  go_upto_region 3 with fail
  refine wp_region_lit ?_
  refine tkL (.pointer (some ⟨q, 0, none⟩)) (h := ?_)
  (try simp only [Act.put, sA, sB, sC])
  refine tkL (.pointer (some ⟨q, 0, none⟩)) (h := ?_)
  (try simp only [Act.put, sA, sB, sC])
  refine tkL (.pointer (some ⟨q, 0, none⟩)) (h := ?_)
  (try simp only [Act.put, sA, sB, sC])
  refine tkL (.pointer (some ⟨q, 4, none⟩)) (h := ?_)
  (try simp only [Act.put, sA, sB, sC])
  refine wpList_q (by rfl) (.int .i64 x.ti) ?he ?_
  case he => exact exec_cell 3 _ _ HBKd1.out rfl rfl rfl Try.underlying3 rfl
  (try simp only [Act.put, sA, sB, sC])
  refine wpList_q (by rfl) (.int .i64 (x.ti - 1)) ?he ?_
  case he => (go_simp; (first | done | (refine wr _ ?_ ?_ <;> (have q0 := HT0.out; have q1 := HT1.out; omega)) | (have q0 := HT0.out; have q1 := HT1.out; omega) | (have q0 := HT0.out; have q1 := HT1.out; split <;> omega) | (have q0 := HT0.out; have q1 := HT1.out; intro hh; omega)))
  (try simp only [Act.put, sA, sB, sC])
  refine tkL (.pointer (some ⟨q, 0, none⟩)) (h := ?_)
  (try simp only [Act.put, sA, sB, sC])
  refine tkL (.pointer (some ⟨q, 0, none⟩)) (h := ?_)
  (try simp only [Act.put, sA, sB, sC])
  refine tkL (.pointer (some ⟨q, 4, none⟩)) (h := ?_)
  (try simp only [Act.put, sA, sB, sC])
  refine wpList_wp (by rfl) (fun K hK => ?_)
  refine wp_st_cell 3 _ _ rfl #[.int .i64 x.ds, .int .i64 x.da, .int .i64 x.un, .int .i64 x.wy, .int .i64 (x.ti - 1), .int .i64 x.ju, .int .i64 x.lo, .bool x.bl, .bool x.br, .int .i64 x.mo, .int .i64 x.ta, .bool x.ho, .int .u64 x.sp, .int .u64 x.su, .int .u64 x.sd, .int .i64 0, .bool false, .bool false] (.int .i64 (x.ti - 1)) rfl rfl HBKd1.out (by show 4 < 18; decide) rfl (by first | rfl | simp [Value.oneCell']) (by kernel_rfl) ?_
  intro w2 hw
  refine hK.out _ _ ?_
  clear hK K
  (try simp only [Act.put, sA, sB, sC])
  have HS2 := Lib.hid (show Upd [q] w w2 by rw [hw]; exact Upd.setRow HSd1.out (.inl (by simp)) _)
  have HBC2 := Lib.hid (show Blk w2 w.heap.size 23 (cfgA c) by rw [hw]; exact Blk.row_far HBCd1.out (Ne.symm HNC.out) _)
  have HBK2 := Lib.hid (show Blk w2 q 97 #[.int .i64 x.ds, .int .i64 x.da, .int .i64 x.un, .int .i64 x.wy, .int .i64 (x.ti - 1), .int .i64 x.ju, .int .i64 x.lo, .bool x.bl, .bool x.br, .int .i64 x.mo, .int .i64 x.ta, .bool x.ho, .int .u64 x.sp, .int .u64 x.su, .int .u64 x.sd, .int .i64 0, .bool false, .bool false] by rw [hw]; exact Blk.row HBKd1.out _)
  clear hw HSd1 HBCd1 HBKd1
  refine wpList_nil ?_
  go_upto_region 4 with fail
  refine wp_region_lit ?_
  refine tkL (.pointer (some ⟨q, 0, none⟩)) (h := ?_)
  (try simp only [Act.put, sA, sB, sC])
  refine tkL (.pointer (some ⟨q, 0, none⟩)) (h := ?_)
  (try simp only [Act.put, sA, sB, sC])
  refine tkL (.pointer (some ⟨q, 0, none⟩)) (h := ?_)
  (try simp only [Act.put, sA, sB, sC])
  refine tkL (.pointer (some ⟨q, 0, none⟩)) (h := ?_)
  (try simp only [Act.put, sA, sB, sC])
  refine tkL (.pointer (some ⟨q, 4, none⟩)) (h := ?_)
  (try simp only [Act.put, sA, sB, sC])
  refine wpList_q (by rfl) (.int .i64 (x.ti - 1)) ?he ?_
  case he => exact exec_cell 3 _ _ HBK2.out rfl rfl rfl Try.underlying3 rfl
  (try simp only [Act.put, sA, sB, sC])
  refine wpList_q (by rfl) (.bool (decide (x.ti - 1 ≤ 0))) ?he ?_
  case he => (go_simp; (first | done | rfl | (simp; done)))
  (try simp only [Act.put, sA, sB, sC])
  refine tkL (.pointer (some ⟨q, 0, none⟩)) (h := ?_)
  (try simp only [Act.put, sA, sB, sC])
  refine tkL (.pointer (some ⟨q, 15, none⟩)) (h := ?_)
  (try simp only [Act.put, sA, sB, sC])
  refine tkL (.pointer (some ⟨q, 17, none⟩)) (h := ?_)
  (try simp only [Act.put, sA, sB, sC])
  refine wpList_wp (by rfl) (fun K hK => ?_)
  refine wp_st_cell 4 _ _ rfl #[.int .i64 x.ds, .int .i64 x.da, .int .i64 x.un, .int .i64 x.wy, .int .i64 (x.ti - 1), .int .i64 x.ju, .int .i64 x.lo, .bool x.bl, .bool x.br, .int .i64 x.mo, .int .i64 x.ta, .bool x.ho, .int .u64 x.sp, .int .u64 x.su, .int .u64 x.sd, .int .i64 0, .bool false, .bool (decide (x.ti - 1 ≤ 0))] (.bool (decide (x.ti - 1 ≤ 0))) rfl rfl HBK2.out (by show 17 < 18; decide) rfl (by first | rfl | simp [Value.oneCell']) (by kernel_rfl) ?_
  intro w3 hw
  refine hK.out _ _ ?_
  clear hK K
  (try simp only [Act.put, sA, sB, sC])
  have HS3 := Lib.hid (show Upd [q] w w3 by rw [hw]; exact Upd.setRow HS2.out (.inl (by simp)) _)
  have HBC3 := Lib.hid (show Blk w3 w.heap.size 23 (cfgA c) by rw [hw]; exact Blk.row_far HBC2.out (Ne.symm HNC.out) _)
  have HBK3 := Lib.hid (show Blk w3 q 97 #[.int .i64 x.ds, .int .i64 x.da, .int .i64 x.un, .int .i64 x.wy, .int .i64 (x.ti - 1), .int .i64 x.ju, .int .i64 x.lo, .bool x.bl, .bool x.br, .int .i64 x.mo, .int .i64 x.ta, .bool x.ho, .int .u64 x.sp, .int .u64 x.su, .int .u64 x.sd, .int .i64 0, .bool false, .bool (decide (x.ti - 1 ≤ 0))] by rw [hw]; exact Blk.row HBK2.out _)
  clear hw HS2 HBC2 HBK2
  refine wpList_nil ?_
  (try go_wp2_with fail)
  first | go_end0 | refine bodyPost_ret (results_none rfl _ _ _) rfl ?_
  exact ⟨rfl, HBK3.out, HS3.out⟩
/-- What a car whose door is open is told. -/
def stB (c : CfgV) (x : CarV) : Bool := x.bl || ov x.lo c.lo
def stX (c : CfgV) (x : CarV) : CarV := if stB c x = true then { x with ti := dwV c.dw } else { x with ti := x.ti - 1 }
def stK (c : CfgV) (x : CarV) : Bool := !stB c x && decide (x.ti - 1 ≤ 0)
theorem stayT (q : Nat) (c : CfgV) (x : CarV) (w : World) (hb : Blk w q 97 (ctlA x 0 false false)) (ht0 : -1000000000 ≤ x.ti) (ht1 : x.ti ≤ 1000000000) : Calls Try.prog 74 #[.pointer (some ⟨q, 0, none⟩), .agg (cfgA c)] w fun e w' => e = .returned (.tuple #[]) ∧ Blk w' q 97 (ctlA (stX c x) 0 false (stK c x)) ∧ Upd [q] w w' := by
  cases hbl : x.bl with
  | true =>
    have e1 : stB c x = true := by simp [stB, hbl]
    rw [show stX c x = { x with ti := dwV c.dw } by simp only [stX, e1, if_pos], show stK c x = false by simp [stK, e1]]
    exact stayA q c x w hb ht0 ht1 hbl
  | false =>
    cases hov : ov x.lo c.lo with
    | true =>
      have e1 : stB c x = true := by simp [stB, hov]
      rw [show stX c x = { x with ti := dwV c.dw } by simp only [stX, e1, if_pos], show stK c x = false by simp [stK, e1]]
      exact stayB q c x w hb ht0 ht1 hbl hov
    | false =>
      have e1 : stB c x = false := by simp [stB, hbl, hov]
      rw [show stX c x = { x with ti := x.ti - 1 } by simp [stX, e1], show stK c x = decide (x.ti - 1 ≤ 0) by simp [stK, e1]]
      exact stayC q c x w hb ht0 ht1 hbl hov
end Go.Proofs.Ytpacieocmogjeaa.Ct
