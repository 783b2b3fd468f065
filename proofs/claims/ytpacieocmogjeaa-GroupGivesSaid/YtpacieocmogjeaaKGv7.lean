/-
  What is wanted by the last of these texts, part 7.
  No condition.
-/
import Derived.Test.YtpacieocmogjeaaProg
import Derived.Test.YtpacieocmogjeaaKGv0
import Derived.Test.YtpacieocmogjeaaKGv5
import Derived.Test.YtpacieocmogjeaaKGv6
import Derived.Test.YtpacieocmogjeaaKGv1
namespace Go.Proofs.Ytpacieocmogjeaa.Ct
set_option linter.unusedVariables false
set_option linter.unusedSimpArgs false
open Go.RowKit Go.Proofs.Ytpacieocmogjeaa.Ba Go.Proofs.Ytpacieocmogjeaa.Mem Go.Proofs.Ytpacieocmogjeaa.Ty Go.Proofs.Ytpacieocmogjeaa.Mo Go.Proofs.Ytpacieocmogjeaa.St Go.Proofs.Ytpacieocmogjeaa.Sc Go.Proofs.Ytpacieocmogjeaa.Pl
set_option maxRecDepth 100000
attribute [local irreducible] Go.wpList
def cfgA (c : CfgV) : Array Value := #[.int .i64 c.ca, .int .i64 c.fl, .int .i64 c.ft, .int .i64 c.se, .int .i64 c.dr, .int .i64 c.dw, .int .i64 c.ho, .int .i64 c.re, .int .i64 c.yi, .int .i64 c.qu, .int .i64 c.qo, .int .i64 c.lo, .int .i64 c.sl, .int .i64 c.rt, .int .i64 c.cp, .int .i64 c.tr, .int .i64 c.de, .int .i64 c.wi]
def carA (x : CarV) : Array Value := #[.int .i64 x.ds, .int .i64 x.da, .int .i64 x.un, .int .i64 x.wy, .int .i64 x.ti, .int .i64 x.ju, .int .i64 x.lo, .bool x.bl, .bool x.br, .int .i64 x.mo, .int .i64 x.ta, .bool x.ho, .int .u64 x.sp, .int .u64 x.su, .int .u64 x.sd]
def ctlA (x : CarV) (r : Int) (o k : Bool) : Array Value := #[.int .i64 x.ds, .int .i64 x.da, .int .i64 x.un, .int .i64 x.wy, .int .i64 x.ti, .int .i64 x.ju, .int .i64 x.lo, .bool x.bl, .bool x.br, .int .i64 x.mo, .int .i64 x.ta, .bool x.ho, .int .u64 x.sp, .int .u64 x.su, .int .u64 x.sd, .int .i64 r, .bool o, .bool k]
theorem wr (x : Int) (h0 : -9223372036854775808 ≤ x) (h1 : x ≤ 9223372036854775807) : IntKind.i64.wrap x = x := by
  simp only [IntKind.wrap, IntKind.bits, IntKind.signed]; simp; omega
set_option maxHeartbeats 4000000 in
theorem runT (q : Nat) (x : CarV) (r : Int) (w : World) (hb : Blk w q 97 (ctlA x 0 false false)) : Calls Try.prog 82 #[.pointer (some ⟨q, 0, none⟩), .int .i64 r] w fun e w' => e = .returned (.tuple #[]) ∧ Blk w' q 97 (ctlA { x with ju := -1 } r false false) ∧ Upd [q] w w' := by
  have HBQ := Lib.hid hb
  clear hb
  go_enter Try.func82, Try.ntmps82
  have HSU := Lib.hid (Upd.refl [q] w)
  go_upto_region 0 with fail
  refine wp_region_lit ?_
  refine tkL (.pointer (some ⟨q, 0, none⟩)) (h := ?_)
  (try simp only [Act.put, sA, sB, sC])
  refine tkL (.pointer (some ⟨q, 0, none⟩)) (h := ?_)
  (try simp only [Act.put, sA, sB, sC])
  refine tkL (.int .i64 r) (h := ?_)
  (try simp only [Act.put, sA, sB, sC])
  refine tkL (.pointer (some ⟨q, 0, none⟩)) (h := ?_)
  (try simp only [Act.put, sA, sB, sC])
  refine tkL (.pointer (some ⟨q, 15, none⟩)) (h := ?_)
  (try simp only [Act.put, sA, sB, sC])
  refine tkL (.pointer (some ⟨q, 15, none⟩)) (h := ?_)
  (try simp only [Act.put, sA, sB, sC])
  refine wpList_wp (by rfl) (fun K hK => ?_)
  refine wp_st_cell 3 _ _ rfl #[.int .i64 x.ds, .int .i64 x.da, .int .i64 x.un, .int .i64 x.wy, .int .i64 x.ti, .int .i64 x.ju, .int .i64 x.lo, .bool x.bl, .bool x.br, .int .i64 x.mo, .int .i64 x.ta, .bool x.ho, .int .u64 x.sp, .int .u64 x.su, .int .u64 x.sd, .int .i64 r, .bool false, .bool false] (.int .i64 r) rfl rfl HBQ.out (by show 15 < 18; decide) rfl (by first | rfl | simp [Value.oneCell']) (by kernel_rfl) ?_
  intro w2 hw
  refine hK.out _ _ ?_
  clear hK K
  (try simp only [Act.put, sA, sB, sC])
  have HS2 := Lib.hid (show Upd [q] w w2 by rw [hw]; exact Upd.setRow HSU.out (.inl (by simp)) _)
  have HBK2 := Lib.hid (show Blk w2 q 97 #[.int .i64 x.ds, .int .i64 x.da, .int .i64 x.un, .int .i64 x.wy, .int .i64 x.ti, .int .i64 x.ju, .int .i64 x.lo, .bool x.bl, .bool x.br, .int .i64 x.mo, .int .i64 x.ta, .bool x.ho, .int .u64 x.sp, .int .u64 x.su, .int .u64 x.sd, .int .i64 r, .bool false, .bool false] by rw [hw]; exact Blk.row HBQ.out _)
  clear hw HSU HBQ
  refine tkL (.pointer (some ⟨q, 0, none⟩)) (h := ?_)
  (try simp only [Act.put, sA, sB, sC])
  refine tkL (.pointer (some ⟨q, 0, none⟩)) (h := ?_)
  (try simp only [Act.put, sA, sB, sC])
  refine tkL (.pointer (some ⟨q, 5, none⟩)) (h := ?_)
  (try simp only [Act.put, sA, sB, sC])
  refine wpList_wp (by rfl) (fun K hK => ?_)
  refine wp_st_cell 3 _ _ rfl #[.int .i64 x.ds, .int .i64 x.da, .int .i64 x.un, .int .i64 x.wy, .int .i64 x.ti, .int .i64 (-1), .int .i64 x.lo, .bool x.bl, .bool x.br, .int .i64 x.mo, .int .i64 x.ta, .bool x.ho, .int .u64 x.sp, .int .u64 x.su, .int .u64 x.sd, .int .i64 r, .bool false, .bool false] (.int .i64 (-1)) rfl rfl HBK2.out (by show 5 < 18; decide) rfl (by first | rfl | simp [Value.oneCell']) (by kernel_rfl) ?_
  intro w3 hw
  refine hK.out _ _ ?_
  clear hK K
  (try simp only [Act.put, sA, sB, sC])
  have HS3 := Lib.hid (show Upd [q] w w3 by rw [hw]; exact Upd.setRow HS2.out (.inl (by simp)) _)
  have HBK3 := Lib.hid (show Blk w3 q 97 #[.int .i64 x.ds, .int .i64 x.da, .int .i64 x.un, .int .i64 x.wy, .int .i64 x.ti, .int .i64 (-1), .int .i64 x.lo, .bool x.bl, .bool x.br, .int .i64 x.mo, .int .i64 x.ta, .bool x.ho, .int .u64 x.sp, .int .u64 x.su, .int .u64 x.sd, .int .i64 r, .bool false, .bool false] by rw [hw]; exact Blk.row HBK2.out _)
  clear hw HS2 HBK2
  refine wpList_nil ?_
  (try go_wp2_with fail)
  first | go_end0 | refine bodyPost_ret (results_none rfl _ _ _) rfl ?_
  exact ⟨rfl, HBK3.out, HS3.out⟩
set_option maxHeartbeats 4000000 in
theorem leadA (q : Nat) (x : CarV) (w : World) (hb : Blk w q 97 (ctlA x 0 false false)) (hta0 : -1099511627776 ≤ x.ta) (hta1 : x.ta ≤ 1099511627776) (hd : x.ds = 0) (ht : tw x.un x.ta = 0) : Calls Try.prog 72 #[.pointer (some ⟨q, 0, none⟩)] w fun e w' => e = .returned (.tuple #[]) ∧ Blk w' q 97 (ctlA x 0 x.ho false) ∧ Upd [q] w w' := by
  have HBQ := Lib.hid hb
  clear hb
  have HTA0 := Lib.hid hta0
  clear hta0
  have HTA1 := Lib.hid hta1
  clear hta1
  have HD := Lib.hid hd
  clear hd
  have HT := Lib.hid ht
  clear ht
  go_enter Try.func72, Try.ntmps72
  have HSU := Lib.hid (Upd.refl [q] w)
  go_upto_region 0 with fail
  have hrK : ∀ W W' : World, Since W W' → (Upd [q] w W ∧ Blk W q 97 (ctlA x 0 false false)) → (Upd [q] w W' ∧ Blk W' q 97 (ctlA x 0 false false)) := fun W W' k ⟨h, h0⟩ => ⟨h.trans k, keep_blk k h0⟩
  have hrS : (fun W : World => Upd [q] w W ∧ Blk W q 97 (ctlA x 0 false false)) w := ⟨HSU.out, HBQ.out⟩
  have HRK := Lib.hid hrK
  have HRD := Lib.hid (show (fun W : World => Upd [q] w W ∧ Blk W q 97 (ctlA x 0 false false)) (World.drew w) from hrK _ _ ((Since.refl w).drew) hrS)
  clear hrK hrS
  refine wp_region_held_drew (S := fun W : World => Upd [q] w W ∧ Blk W q 97 (ctlA x 0 false false)) (by kernel_rfl) HRD.out (fun hHeld => ?_)
  refine tkQ 0 (.pointer (some ⟨q, 0, none⟩)) hHeld (h := ?_)
  (try simp only [Act.put, sA, sB, sC])
  refine tkQ 1 (.pointer (some ⟨q, 0, none⟩)) hHeld (h := ?_)
  (try simp only [Act.put, sA, sB, sC])
  refine tkQ 2 (.pointer (some ⟨q, 0, none⟩)) hHeld (h := ?_)
  (try simp only [Act.put, sA, sB, sC])
  refine tkQ 3 (.pointer (some ⟨q, 2, none⟩)) hHeld (h := ?_)
  (try simp only [Act.put, sA, sB, sC])
  refine tkQ 4 (.int .i64 x.un) hHeld (he := by intro w hSw; exact exec_cell 3 _ _ hSw.2 rfl rfl rfl Try.underlying3 rfl) (h := ?_)
  (try simp only [Act.put, sA, sB, sC])
  refine tkQ 5 (.pointer (some ⟨q, 0, none⟩)) hHeld (h := ?_)
  (try simp only [Act.put, sA, sB, sC])
  refine tkQ 6 (.pointer (some ⟨q, 0, none⟩)) hHeld (h := ?_)
  (try simp only [Act.put, sA, sB, sC])
  refine tkQ 7 (.pointer (some ⟨q, 0, none⟩)) hHeld (h := ?_)
  (try simp only [Act.put, sA, sB, sC])
  refine tkQ 8 (.pointer (some ⟨q, 10, none⟩)) hHeld (h := ?_)
  (try simp only [Act.put, sA, sB, sC])
  refine tkQ 9 (.int .i64 x.ta) hHeld (he := by intro w hSw; exact exec_cell 3 _ _ hSw.2 rfl rfl rfl Try.underlying3 rfl) (h := ?_)
  (try simp only [Act.put, sA, sB, sC])
  refine wpAnyH_ready (rs := [10]) (by kernel_rfl) (by simp) ?_
  refine AllReadyH.cons (o := ?o0__10) ?h0__10 (fun K hK => ?_) AllReadyH.nil
  case h0__10 => (first | (simp only [gA, gB, gC]; done) | (simp only [gA, gB, gC]; exact rfl))
  (try go_simp)
  refine (towardT _ _ HTA0.out HTA1.out _).mono ?_
  rintro e w' ⟨rfl, rfl⟩
  (try go_wp2_with fail)
  refine hK.out _ _ hHeld (fun hHeld2 => ?_)
  clear hK K hHeld2
  (try simp only [Act.put, sA, sB, sC])
  refine tkQ 11 (.int .i64 (tw x.un x.ta)) hHeld (h := ?_)
  (try simp only [Act.put, sA, sB, sC])
  refine wpAnyH_done (by kernel_rfl) ?_ _
  have HSd0 := Lib.hid hHeld.1
  have HBKd0 := Lib.hid (hHeld.2)
  clear hHeld HRK HRD HSU HBQ
  go_upto_region 1 with fail
  refine wp_region_lit ?_
  refine tkL (.int .i64 (tw x.un x.ta)) (h := ?_)
  (try simp only [Act.put, sA, sB, sC])
  refine wpList_q (by rfl) (.bool true) ?he ?_
  case he => (have q0 := HT.out; go_simp; (first | done | rfl | omega))
  (try simp only [Act.put, sA, sB, sC])
  refine tkL (.bool true) (h := ?_)
  (try simp only [Act.put, sA, sB, sC])
  refine wpList_nil ?_
  go_upto_region 2 with fail
  refine wp_region_lit ?_
  refine tkL (.pointer (some ⟨q, 0, none⟩)) (h := ?_)
  (try simp only [Act.put, sA, sB, sC])
  refine tkL (.pointer (some ⟨q, 0, none⟩)) (h := ?_)
  (try simp only [Act.put, sA, sB, sC])
  refine tkL (.pointer (some ⟨q, 0, none⟩)) (h := ?_)
  (try simp only [Act.put, sA, sB, sC])
  refine tkL (.pointer (some ⟨q, 0, none⟩)) (h := ?_)
  (try simp only [Act.put, sA, sB, sC])
  refine tkL (.pointer (some ⟨q, 0, none⟩)) (h := ?_)
  (try simp only [Act.put, sA, sB, sC])
  refine wpList_q (by rfl) (.int .i64 x.ds) ?he ?_
  case he => exact exec_cell 3 _ _ HBKd0.out rfl rfl rfl Try.underlying3 rfl
  (try simp only [Act.put, sA, sB, sC])
  refine wpList_q (by rfl) (.bool true) ?he ?_
  case he => (have q0 := HD.out; go_simp; (first | done | rfl | omega))
  (try simp only [Act.put, sA, sB, sC])
  refine tkL (.bool true) (h := ?_)
  (try simp only [Act.put, sA, sB, sC])
  refine tkL (.bool true) (h := ?_)
  (try simp only [Act.put, sA, sB, sC])
  refine tkL (.bool true) (h := ?_)
  (try simp only [Act.put, sA, sB, sC])
  refine tkL (.bool true) (h := ?_)
  (try simp only [Act.put, sA, sB, sC])
  refine wpList_nil ?_
  go_upto_region 3 with fail
  refine wp_region_lit ?_
  refine tkL (.pointer (some ⟨q, 0, none⟩)) (h := ?_)
  (try simp only [Act.put, sA, sB, sC])
  refine tkL (.pointer (some ⟨q, 0, none⟩)) (h := ?_)
  (try simp only [Act.put, sA, sB, sC])
  refine tkL (.pointer (some ⟨q, 0, none⟩)) (h := ?_)
  (try simp only [Act.put, sA, sB, sC])
  refine tkL (.pointer (some ⟨q, 0, none⟩)) (h := ?_)
  (try simp only [Act.put, sA, sB, sC])
  refine tkL (.pointer (some ⟨q, 11, none⟩)) (h := ?_)
  (try simp only [Act.put, sA, sB, sC])
  refine wpList_q (by rfl) (.bool x.ho) ?he ?_
  case he => exact exec_cell 4 _ _ HBKd0.out rfl rfl rfl Try.underlying4 rfl
  (try simp only [Act.put, sA, sB, sC])
  refine tkL (.pointer (some ⟨q, 0, none⟩)) (h := ?_)
  (try simp only [Act.put, sA, sB, sC])
  refine tkL (.pointer (some ⟨q, 15, none⟩)) (h := ?_)
  (try simp only [Act.put, sA, sB, sC])
  refine tkL (.pointer (some ⟨q, 16, none⟩)) (h := ?_)
  (try simp only [Act.put, sA, sB, sC])
  refine wpList_wp (by rfl) (fun K hK => ?_)
  refine wp_st_cell 4 _ _ rfl #[.int .i64 x.ds, .int .i64 x.da, .int .i64 x.un, .int .i64 x.wy, .int .i64 x.ti, .int .i64 x.ju, .int .i64 x.lo, .bool x.bl, .bool x.br, .int .i64 x.mo, .int .i64 x.ta, .bool x.ho, .int .u64 x.sp, .int .u64 x.su, .int .u64 x.sd, .int .i64 0, .bool x.ho, .bool false] (.bool x.ho) rfl rfl HBKd0.out (by show 16 < 18; decide) rfl (by first | rfl | simp [Value.oneCell']) (by kernel_rfl) ?_
  intro w2 hw
  refine hK.out _ _ ?_
  clear hK K
  (try simp only [Act.put, sA, sB, sC])
  have HS2 := Lib.hid (show Upd [q] w w2 by rw [hw]; exact Upd.setRow HSd0.out (.inl (by simp)) _)
  have HBK2 := Lib.hid (show Blk w2 q 97 #[.int .i64 x.ds, .int .i64 x.da, .int .i64 x.un, .int .i64 x.wy, .int .i64 x.ti, .int .i64 x.ju, .int .i64 x.lo, .bool x.bl, .bool x.br, .int .i64 x.mo, .int .i64 x.ta, .bool x.ho, .int .u64 x.sp, .int .u64 x.su, .int .u64 x.sd, .int .i64 0, .bool x.ho, .bool false] by rw [hw]; exact Blk.row HBKd0.out _)
  clear hw HSd0 HBKd0
  refine wpList_nil ?_
  (try go_wp2_with fail)
  first | go_end0 | refine bodyPost_ret (results_none rfl _ _ _) rfl ?_
  exact ⟨rfl, HBK2.out, HS2.out⟩
set_option maxHeartbeats 4000000 in
theorem leadB (q : Nat) (x : CarV) (w : World) (hb : Blk w q 97 (ctlA x 0 false false)) (hta0 : -1099511627776 ≤ x.ta) (hta1 : x.ta ≤ 1099511627776) (hd : x.ds = 0) (ht : ¬ tw x.un x.ta = 0) : Calls Try.prog 72 #[.pointer (some ⟨q, 0, none⟩)] w fun e w' => e = .returned (.tuple #[]) ∧ Blk w' q 97 (ctlA { x with ju := -1 } (tw x.un x.ta) false false) ∧ Upd [q] w w' := by
  have HBQ := Lib.hid hb
  clear hb
  have HTA0 := Lib.hid hta0
  clear hta0
  have HTA1 := Lib.hid hta1
  clear hta1
  have HD := Lib.hid hd
  clear hd
  have HT := Lib.hid ht
  clear ht
  go_enter Try.func72, Try.ntmps72
  have HSU := Lib.hid (Upd.refl [q] w)
  go_upto_region 0 with fail
  have hrK : ∀ W W' : World, Since W W' → (Upd [q] w W ∧ Blk W q 97 (ctlA x 0 false false)) → (Upd [q] w W' ∧ Blk W' q 97 (ctlA x 0 false false)) := fun W W' k ⟨h, h0⟩ => ⟨h.trans k, keep_blk k h0⟩
  have hrS : (fun W : World => Upd [q] w W ∧ Blk W q 97 (ctlA x 0 false false)) w := ⟨HSU.out, HBQ.out⟩
  have HRK := Lib.hid hrK
  have HRD := Lib.hid (show (fun W : World => Upd [q] w W ∧ Blk W q 97 (ctlA x 0 false false)) (World.drew w) from hrK _ _ ((Since.refl w).drew) hrS)
  clear hrK hrS
  refine wp_region_held_drew (S := fun W : World => Upd [q] w W ∧ Blk W q 97 (ctlA x 0 false false)) (by kernel_rfl) HRD.out (fun hHeld => ?_)
  refine tkQ 0 (.pointer (some ⟨q, 0, none⟩)) hHeld (h := ?_)
  (try simp only [Act.put, sA, sB, sC])
  refine tkQ 1 (.pointer (some ⟨q, 0, none⟩)) hHeld (h := ?_)
  (try simp only [Act.put, sA, sB, sC])
  refine tkQ 2 (.pointer (some ⟨q, 0, none⟩)) hHeld (h := ?_)
  (try simp only [Act.put, sA, sB, sC])
  refine tkQ 3 (.pointer (some ⟨q, 2, none⟩)) hHeld (h := ?_)
  (try simp only [Act.put, sA, sB, sC])
  refine tkQ 4 (.int .i64 x.un) hHeld (he := by intro w hSw; exact exec_cell 3 _ _ hSw.2 rfl rfl rfl Try.underlying3 rfl) (h := ?_)
  (try simp only [Act.put, sA, sB, sC])
  refine tkQ 5 (.pointer (some ⟨q, 0, none⟩)) hHeld (h := ?_)
  (try simp only [Act.put, sA, sB, sC])
  refine tkQ 6 (.pointer (some ⟨q, 0, none⟩)) hHeld (h := ?_)
  (try simp only [Act.put, sA, sB, sC])
  refine tkQ 7 (.pointer (some ⟨q, 0, none⟩)) hHeld (h := ?_)
  (try simp only [Act.put, sA, sB, sC])
  refine tkQ 8 (.pointer (some ⟨q, 10, none⟩)) hHeld (h := ?_)
  (try simp only [Act.put, sA, sB, sC])
  refine tkQ 9 (.int .i64 x.ta) hHeld (he := by intro w hSw; exact exec_cell 3 _ _ hSw.2 rfl rfl rfl Try.underlying3 rfl) (h := ?_)
  (try simp only [Act.put, sA, sB, sC])
  refine wpAnyH_ready (rs := [10]) (by kernel_rfl) (by simp) ?_
  refine AllReadyH.cons (o := ?o0__10) ?h0__10 (fun K hK => ?_) AllReadyH.nil
  case h0__10 => (first | (simp only [gA, gB, gC]; done) | (simp only [gA, gB, gC]; exact rfl))
  (try go_simp)
  refine (towardT _ _ HTA0.out HTA1.out _).mono ?_
  rintro e w' ⟨rfl, rfl⟩
  (try go_wp2_with fail)
  refine hK.out _ _ hHeld (fun hHeld2 => ?_)
  clear hK K hHeld2
  (try simp only [Act.put, sA, sB, sC])
  refine tkQ 11 (.int .i64 (tw x.un x.ta)) hHeld (h := ?_)
  (try simp only [Act.put, sA, sB, sC])
  refine wpAnyH_done (by kernel_rfl) ?_ _
  have HSd0 := Lib.hid hHeld.1
  have HBKd0 := Lib.hid (hHeld.2)
  clear hHeld HRK HRD HSU HBQ
  go_upto_region 1 with fail
  refine wp_region_lit ?_
  refine tkL (.int .i64 (tw x.un x.ta)) (h := ?_)
  (try simp only [Act.put, sA, sB, sC])
  refine wpList_q (by rfl) (.bool false) ?he ?_
  case he => (have q0 := HT.out; go_simp; (first | done | rfl | omega))
  (try simp only [Act.put, sA, sB, sC])
  refine tkL (.bool false) (h := ?_)
  (try simp only [Act.put, sA, sB, sC])
  refine wpList_nil ?_
  go_upto_region 2 with fail
  refine wp_region_lit ?_
  refine tkL (.pointer (some ⟨q, 0, none⟩)) (h := ?_)
  (try simp only [Act.put, sA, sB, sC])
  refine tkL (.pointer (some ⟨q, 0, none⟩)) (h := ?_)
  (try simp only [Act.put, sA, sB, sC])
  refine tkL (.pointer (some ⟨q, 0, none⟩)) (h := ?_)
  (try simp only [Act.put, sA, sB, sC])
  refine tkL (.pointer (some ⟨q, 0, none⟩)) (h := ?_)
  (try simp only [Act.put, sA, sB, sC])
  refine tkL (.pointer (some ⟨q, 0, none⟩)) (h := ?_)
  (try simp only [Act.put, sA, sB, sC])
  refine wpList_q (by rfl) (.int .i64 x.ds) ?he ?_
  case he => exact exec_cell 3 _ _ HBKd0.out rfl rfl rfl Try.underlying3 rfl
  (try simp only [Act.put, sA, sB, sC])
  refine wpList_q (by rfl) (.bool true) ?he ?_
  case he => (have q0 := HD.out; go_simp; (first | done | rfl | omega))
  (try simp only [Act.put, sA, sB, sC])
  refine tkL (.bool true) (h := ?_)
  (try simp only [Act.put, sA, sB, sC])
  refine tkL (.bool false) (h := ?_)
  (try simp only [Act.put, sA, sB, sC])
  refine tkL (.bool false) (h := ?_)
  (try simp only [Act.put, sA, sB, sC])
  refine tkL (.bool false) (h := ?_)
  (try simp only [Act.put, sA, sB, sC])
  refine wpList_nil ?_
  go_upto_region 4 with fail
  refine wp_region_lit ?_
  refine tkL (.pointer (some ⟨q, 0, none⟩)) (h := ?_)
  (try simp only [Act.put, sA, sB, sC])
  refine tkL (.pointer (some ⟨q, 0, none⟩)) (h := ?_)
  (try simp only [Act.put, sA, sB, sC])
  refine tkL (.pointer (some ⟨q, 0, none⟩)) (h := ?_)
  (try simp only [Act.put, sA, sB, sC])
  refine tkL (.pointer (some ⟨q, 0, none⟩)) (h := ?_)
  (try simp only [Act.put, sA, sB, sC])
  refine tkL (.pointer (some ⟨q, 0, none⟩)) (h := ?_)
  (try simp only [Act.put, sA, sB, sC])
  refine wpList_q (by rfl) (.int .i64 x.ds) ?he ?_
  case he => exact exec_cell 3 _ _ HBKd0.out rfl rfl rfl Try.underlying3 rfl
  (try simp only [Act.put, sA, sB, sC])
  refine wpList_q (by rfl) (.bool true) ?he ?_
  case he => (have q0 := HD.out; go_simp; (first | done | rfl | omega))
  (try simp only [Act.put, sA, sB, sC])
  refine tkL (.bool true) (h := ?_)
  (try simp only [Act.put, sA, sB, sC])
  refine wpList_nil ?_
  go_upto_region 5 with fail
  refine wp_region_lit ?_
  refine tkL (.pointer (some ⟨q, 0, none⟩)) (h := ?_)
  (try simp only [Act.put, sA, sB, sC])
  refine tkL (.int .i64 (tw x.un x.ta)) (h := ?_)
  (try simp only [Act.put, sA, sB, sC])
  refine wpList_wp (by rfl) (fun K hK => ?_)
  (try go_simp)
  refine (runT q x (tw x.un x.ta) _ HBKd0.out).mono ?_
  rintro e w2 ⟨rfl, hB, hupd⟩
  (try go_wp2_with fail)
  refine hK.out _ _ ?_
  clear hK K
  (try simp only [Act.put, sA, sB, sC])
  have HS2 := Lib.hid (Upd.comp HSd0.out hupd (fun _ h => .inl h))
  have HBK2 := Lib.hid (show Blk w2 q 97 #[.int .i64 x.ds, .int .i64 x.da, .int .i64 x.un, .int .i64 x.wy, .int .i64 x.ti, .int .i64 (-1), .int .i64 x.lo, .bool x.bl, .bool x.br, .int .i64 x.mo, .int .i64 x.ta, .bool x.ho, .int .u64 x.sp, .int .u64 x.su, .int .u64 x.sd, .int .i64 (tw x.un x.ta), .bool false, .bool false] from hB)
  clear hB hupd HSd0 HBKd0
  refine wpList_nil ?_
  (try go_wp2_with fail)
  first | go_end0 | refine bodyPost_ret (results_none rfl _ _ _) rfl ?_
  exact ⟨rfl, HBK2.out, HS2.out⟩
set_option maxHeartbeats 4000000 in
theorem leadC (q : Nat) (x : CarV) (w : World) (hb : Blk w q 97 (ctlA x 0 false false)) (hta0 : -1099511627776 ≤ x.ta) (hta1 : x.ta ≤ 1099511627776) (hd : ¬ x.ds = 0) (ht : tw x.un x.ta = 0) (hh : x.ho = true) : Calls Try.prog 72 #[.pointer (some ⟨q, 0, none⟩)] w fun e w' => e = .returned (.tuple #[]) ∧ Blk w' q 97 (ctlA x 0 (decide (x.ds = 3)) false) ∧ Upd [q] w w' := by
  have HBQ := Lib.hid hb
  clear hb
  have HTA0 := Lib.hid hta0
  clear hta0
  have HTA1 := Lib.hid hta1
  clear hta1
  have HD := Lib.hid hd
  clear hd
  have HT := Lib.hid ht
  clear ht
  have HH := Lib.hid hh
  clear hh
  go_enter Try.func72, Try.ntmps72
  have HSU := Lib.hid (Upd.refl [q] w)
  go_upto_region 0 with fail
  have hrK : ∀ W W' : World, Since W W' → (Upd [q] w W ∧ Blk W q 97 (ctlA x 0 false false)) → (Upd [q] w W' ∧ Blk W' q 97 (ctlA x 0 false false)) := fun W W' k ⟨h, h0⟩ => ⟨h.trans k, keep_blk k h0⟩
  have hrS : (fun W : World => Upd [q] w W ∧ Blk W q 97 (ctlA x 0 false false)) w := ⟨HSU.out, HBQ.out⟩
  have HRK := Lib.hid hrK
  have HRD := Lib.hid (show (fun W : World => Upd [q] w W ∧ Blk W q 97 (ctlA x 0 false false)) (World.drew w) from hrK _ _ ((Since.refl w).drew) hrS)
  clear hrK hrS
  refine wp_region_held_drew (S := fun W : World => Upd [q] w W ∧ Blk W q 97 (ctlA x 0 false false)) (by kernel_rfl) HRD.out (fun hHeld => ?_)
  refine tkQ 0 (.pointer (some ⟨q, 0, none⟩)) hHeld (h := ?_)
  (try simp only [Act.put, sA, sB, sC])
  refine tkQ 1 (.pointer (some ⟨q, 0, none⟩)) hHeld (h := ?_)
  (try simp only [Act.put, sA, sB, sC])
  refine tkQ 2 (.pointer (some ⟨q, 0, none⟩)) hHeld (h := ?_)
  (try simp only [Act.put, sA, sB, sC])
  refine tkQ 3 (.pointer (some ⟨q, 2, none⟩)) hHeld (h := ?_)
  (try simp only [Act.put, sA, sB, sC])
  refine tkQ 4 (.int .i64 x.un) hHeld (he := by intro w hSw; exact exec_cell 3 _ _ hSw.2 rfl rfl rfl Try.underlying3 rfl) (h := ?_)
  (try simp only [Act.put, sA, sB, sC])
  refine tkQ 5 (.pointer (some ⟨q, 0, none⟩)) hHeld (h := ?_)
  (try simp only [Act.put, sA, sB, sC])
  refine tkQ 6 (.pointer (some ⟨q, 0, none⟩)) hHeld (h := ?_)
  (try simp only [Act.put, sA, sB, sC])
  refine tkQ 7 (.pointer (some ⟨q, 0, none⟩)) hHeld (h := ?_)
  (try simp only [Act.put, sA, sB, sC])
  refine tkQ 8 (.pointer (some ⟨q, 10, none⟩)) hHeld (h := ?_)
  (try simp only [Act.put, sA, sB, sC])
  refine tkQ 9 (.int .i64 x.ta) hHeld (he := by intro w hSw; exact exec_cell 3 _ _ hSw.2 rfl rfl rfl Try.underlying3 rfl) (h := ?_)
  (try simp only [Act.put, sA, sB, sC])
  refine wpAnyH_ready (rs := [10]) (by kernel_rfl) (by simp) ?_
  refine AllReadyH.cons (o := ?o0__10) ?h0__10 (fun K hK => ?_) AllReadyH.nil
  case h0__10 => (first | (simp only [gA, gB, gC]; done) | (simp only [gA, gB, gC]; exact rfl))
  (try go_simp)
  refine (towardT _ _ HTA0.out HTA1.out _).mono ?_
  rintro e w' ⟨rfl, rfl⟩
  (try go_wp2_with fail)
  refine hK.out _ _ hHeld (fun hHeld2 => ?_)
  clear hK K hHeld2
  (try simp only [Act.put, sA, sB, sC])
  refine tkQ 11 (.int .i64 (tw x.un x.ta)) hHeld (h := ?_)
  (try simp only [Act.put, sA, sB, sC])
  refine wpAnyH_done (by kernel_rfl) ?_ _
  have HSd0 := Lib.hid hHeld.1
  have HBKd0 := Lib.hid (hHeld.2)
  clear hHeld HRK HRD HSU HBQ
  go_upto_region 1 with fail
  refine wp_region_lit ?_
  refine tkL (.int .i64 (tw x.un x.ta)) (h := ?_)
  (try simp only [Act.put, sA, sB, sC])
  refine wpList_q (by rfl) (.bool true) ?he ?_
  case he => (have q0 := HT.out; go_simp; (first | done | rfl | omega))
  (try simp only [Act.put, sA, sB, sC])
  refine tkL (.bool true) (h := ?_)
  (try simp only [Act.put, sA, sB, sC])
  refine wpList_nil ?_
  go_upto_region 2 with fail
  refine wp_region_lit ?_
  refine tkL (.pointer (some ⟨q, 0, none⟩)) (h := ?_)
  (try simp only [Act.put, sA, sB, sC])
  refine tkL (.pointer (some ⟨q, 0, none⟩)) (h := ?_)
  (try simp only [Act.put, sA, sB, sC])
  refine tkL (.pointer (some ⟨q, 0, none⟩)) (h := ?_)
  (try simp only [Act.put, sA, sB, sC])
  refine tkL (.pointer (some ⟨q, 0, none⟩)) (h := ?_)
  (try simp only [Act.put, sA, sB, sC])
  refine tkL (.pointer (some ⟨q, 0, none⟩)) (h := ?_)
  (try simp only [Act.put, sA, sB, sC])
  refine wpList_q (by rfl) (.int .i64 x.ds) ?he ?_
  case he => exact exec_cell 3 _ _ HBKd0.out rfl rfl rfl Try.underlying3 rfl
  (try simp only [Act.put, sA, sB, sC])
  refine wpList_q (by rfl) (.bool false) ?he ?_
  case he => (have q0 := HD.out; go_simp; (first | done | rfl | omega))
  (try simp only [Act.put, sA, sB, sC])
  refine tkL (.bool false) (h := ?_)
  (try simp only [Act.put, sA, sB, sC])
  refine wpList_no (by rfl) ?_
  (try simp only [Act.put, sA, sB, sC])
  refine tkL (.bool false) (h := ?_)
  (try simp only [Act.put, sA, sB, sC])
  refine tkL (.bool false) (h := ?_)
  (try simp only [Act.put, sA, sB, sC])
  refine wpList_nil ?_
  go_upto_region 4 with fail
  refine wp_region_lit ?_
  refine tkL (.pointer (some ⟨q, 0, none⟩)) (h := ?_)
  (try simp only [Act.put, sA, sB, sC])
  refine tkL (.pointer (some ⟨q, 0, none⟩)) (h := ?_)
  (try simp only [Act.put, sA, sB, sC])
  refine tkL (.pointer (some ⟨q, 0, none⟩)) (h := ?_)
  (try simp only [Act.put, sA, sB, sC])
  refine tkL (.pointer (some ⟨q, 0, none⟩)) (h := ?_)
  (try simp only [Act.put, sA, sB, sC])
  refine tkL (.pointer (some ⟨q, 0, none⟩)) (h := ?_)
  (try simp only [Act.put, sA, sB, sC])
  refine wpList_q (by rfl) (.int .i64 x.ds) ?he ?_
  case he => exact exec_cell 3 _ _ HBKd0.out rfl rfl rfl Try.underlying3 rfl
  (try simp only [Act.put, sA, sB, sC])
  refine wpList_q (by rfl) (.bool false) ?he ?_
  case he => (have q0 := HD.out; go_simp; (first | done | rfl | omega))
  (try simp only [Act.put, sA, sB, sC])
  refine tkL (.bool false) (h := ?_)
  (try simp only [Act.put, sA, sB, sC])
  refine wpList_nil ?_
  go_upto_region 6 with fail
  refine wp_region_lit ?_
  refine tkL (.bool true) (h := ?_)
  (try simp only [Act.put, sA, sB, sC])
  refine tkL (.bool true) (h := ?_)
  (try simp only [Act.put, sA, sB, sC])
  refine tkL (.pointer (some ⟨q, 0, none⟩)) (h := ?_)
  (try simp only [Act.put, sA, sB, sC])
  refine tkL (.pointer (some ⟨q, 0, none⟩)) (h := ?_)
  (try simp only [Act.put, sA, sB, sC])
  refine tkL (.pointer (some ⟨q, 0, none⟩)) (h := ?_)
  (try simp only [Act.put, sA, sB, sC])
  refine tkL (.pointer (some ⟨q, 11, none⟩)) (h := ?_)
  (try simp only [Act.put, sA, sB, sC])
  refine wpList_q (by rfl) (.bool x.ho) ?he ?_
  case he => exact exec_cell 4 _ _ HBKd0.out rfl rfl rfl Try.underlying4 rfl
  (try simp only [Act.put, sA, sB, sC])
  refine wpList_q (by rfl) (.bool true) ?he ?_
  case he => (have q := HH.out; go_simp; (first | done | exact q | (simp [q]; done)))
  (try simp only [Act.put, sA, sB, sC])
  refine tkL (.bool true) (h := ?_)
  (try simp only [Act.put, sA, sB, sC])
  refine wpList_nil ?_
  go_upto_region 7 with fail
  refine wp_region_lit ?_
  refine tkL (.pointer (some ⟨q, 0, none⟩)) (h := ?_)
  (try simp only [Act.put, sA, sB, sC])
  refine tkL (.pointer (some ⟨q, 0, none⟩)) (h := ?_)
  (try simp only [Act.put, sA, sB, sC])
  refine tkL (.pointer (some ⟨q, 0, none⟩)) (h := ?_)
  (try simp only [Act.put, sA, sB, sC])
  refine tkL (.pointer (some ⟨q, 0, none⟩)) (h := ?_)
  (try simp only [Act.put, sA, sB, sC])
  refine tkL (.pointer (some ⟨q, 0, none⟩)) (h := ?_)
  (try simp only [Act.put, sA, sB, sC])
  refine tkL (.pointer (some ⟨q, 0, none⟩)) (h := ?_)
  (try simp only [Act.put, sA, sB, sC])
  refine wpList_q (by rfl) (.int .i64 x.ds) ?he ?_
  case he => exact exec_cell 3 _ _ HBKd0.out rfl rfl rfl Try.underlying3 rfl
  (try simp only [Act.put, sA, sB, sC])
  refine wpList_q (by rfl) (.bool (decide (x.ds = 3))) ?he ?_
  case he => (go_simp; (first | done | rfl | (simp; done)))
  (try simp only [Act.put, sA, sB, sC])
  refine tkL (.pointer (some ⟨q, 0, none⟩)) (h := ?_)
  (try simp only [Act.put, sA, sB, sC])
  refine tkL (.pointer (some ⟨q, 15, none⟩)) (h := ?_)
  (try simp only [Act.put, sA, sB, sC])
  refine tkL (.pointer (some ⟨q, 16, none⟩)) (h := ?_)
  (try simp only [Act.put, sA, sB, sC])
  refine wpList_wp (by rfl) (fun K hK => ?_)
  refine wp_st_cell 4 _ _ rfl #[.int .i64 x.ds, .int .i64 x.da, .int .i64 x.un, .int .i64 x.wy, .int .i64 x.ti, .int .i64 x.ju, .int .i64 x.lo, .bool x.bl, .bool x.br, .int .i64 x.mo, .int .i64 x.ta, .bool x.ho, .int .u64 x.sp, .int .u64 x.su, .int .u64 x.sd, .int .i64 0, .bool (decide (x.ds = 3)), .bool false] (.bool (decide (x.ds = 3))) rfl rfl HBKd0.out (by show 16 < 18; decide) rfl (by first | rfl | simp [Value.oneCell']) (by kernel_rfl) ?_
  intro w2 hw
  refine hK.out _ _ ?_
  clear hK K
  (try simp only [Act.put, sA, sB, sC])
  have HS2 := Lib.hid (show Upd [q] w w2 by rw [hw]; exact Upd.setRow HSd0.out (.inl (by simp)) _)
  have HBK2 := Lib.hid (show Blk w2 q 97 #[.int .i64 x.ds, .int .i64 x.da, .int .i64 x.un, .int .i64 x.wy, .int .i64 x.ti, .int .i64 x.ju, .int .i64 x.lo, .bool x.bl, .bool x.br, .int .i64 x.mo, .int .i64 x.ta, .bool x.ho, .int .u64 x.sp, .int .u64 x.su, .int .u64 x.sd, .int .i64 0, .bool (decide (x.ds = 3)), .bool false] by rw [hw]; exact Blk.row HBKd0.out _)
  clear hw HSd0 HBKd0
  refine wpList_nil ?_
  (try go_wp2_with fail)
  first | go_end0 | refine bodyPost_ret (results_none rfl _ _ _) rfl ?_
  exact ⟨rfl, HBK2.out, HS2.out⟩
set_option maxHeartbeats 4000000 in
theorem leadD1 (q : Nat) (x : CarV) (w : World) (hb : Blk w q 97 (ctlA x 0 false false)) (hta0 : -1099511627776 ≤ x.ta) (hta1 : x.ta ≤ 1099511627776) (hd : ¬ x.ds = 0) (ht : ¬ tw x.un x.ta = 0) (h2 : x.ds = 2) : Calls Try.prog 72 #[.pointer (some ⟨q, 0, none⟩)] w fun e w' => e = .returned (.tuple #[]) ∧ Blk w' q 97 (ctlA x 0 false (!x.bl)) ∧ Upd [q] w w' := by
  have HBQ := Lib.hid hb
  clear hb
  have HTA0 := Lib.hid hta0
  clear hta0
  have HTA1 := Lib.hid hta1
  clear hta1
  have HD := Lib.hid hd
  clear hd
  have HT := Lib.hid ht
  clear ht
  have H2 := Lib.hid h2
  clear h2
  go_enter Try.func72, Try.ntmps72
  have HSU := Lib.hid (Upd.refl [q] w)
  go_upto_region 0 with fail
  have hrK : ∀ W W' : World, Since W W' → (Upd [q] w W ∧ Blk W q 97 (ctlA x 0 false false)) → (Upd [q] w W' ∧ Blk W' q 97 (ctlA x 0 false false)) := fun W W' k ⟨h, h0⟩ => ⟨h.trans k, keep_blk k h0⟩
  have hrS : (fun W : World => Upd [q] w W ∧ Blk W q 97 (ctlA x 0 false false)) w := ⟨HSU.out, HBQ.out⟩
  have HRK := Lib.hid hrK
  have HRD := Lib.hid (show (fun W : World => Upd [q] w W ∧ Blk W q 97 (ctlA x 0 false false)) (World.drew w) from hrK _ _ ((Since.refl w).drew) hrS)
  clear hrK hrS
  refine wp_region_held_drew (S := fun W : World => Upd [q] w W ∧ Blk W q 97 (ctlA x 0 false false)) (by kernel_rfl) HRD.out (fun hHeld => ?_)
  refine tkQ 0 (.pointer (some ⟨q, 0, none⟩)) hHeld (h := ?_)
  (try simp only [Act.put, sA, sB, sC])
  refine tkQ 1 (.pointer (some ⟨q, 0, none⟩)) hHeld (h := ?_)
  (try simp only [Act.put, sA, sB, sC])
  refine tkQ 2 (.pointer (some ⟨q, 0, none⟩)) hHeld (h := ?_)
  (try simp only [Act.put, sA, sB, sC])
  refine tkQ 3 (.pointer (some ⟨q, 2, none⟩)) hHeld (h := ?_)
  (try simp only [Act.put, sA, sB, sC])
  refine tkQ 4 (.int .i64 x.un) hHeld (he := by intro w hSw; exact exec_cell 3 _ _ hSw.2 rfl rfl rfl Try.underlying3 rfl) (h := ?_)
  (try simp only [Act.put, sA, sB, sC])
  refine tkQ 5 (.pointer (some ⟨q, 0, none⟩)) hHeld (h := ?_)
  (try simp only [Act.put, sA, sB, sC])
  refine tkQ 6 (.pointer (some ⟨q, 0, none⟩)) hHeld (h := ?_)
  (try simp only [Act.put, sA, sB, sC])
  refine tkQ 7 (.pointer (some ⟨q, 0, none⟩)) hHeld (h := ?_)
  (try simp only [Act.put, sA, sB, sC])
  refine tkQ 8 (.pointer (some ⟨q, 10, none⟩)) hHeld (h := ?_)
  (try simp only [Act.put, sA, sB, sC])
  refine tkQ 9 (.int .i64 x.ta) hHeld (he := by intro w hSw; exact exec_cell 3 _ _ hSw.2 rfl rfl rfl Try.underlying3 rfl) (h := ?_)
  (try simp only [Act.put, sA, sB, sC])
  refine wpAnyH_ready (rs := [10]) (by kernel_rfl) (by simp) ?_
  refine AllReadyH.cons (o := ?o0__10) ?h0__10 (fun K hK => ?_) AllReadyH.nil
  case h0__10 => (first | (simp only [gA, gB, gC]; done) | (simp only [gA, gB, gC]; exact rfl))
  (try go_simp)
  refine (towardT _ _ HTA0.out HTA1.out _).mono ?_
  rintro e w' ⟨rfl, rfl⟩
  (try go_wp2_with fail)
  refine hK.out _ _ hHeld (fun hHeld2 => ?_)
  clear hK K hHeld2
  (try simp only [Act.put, sA, sB, sC])
  refine tkQ 11 (.int .i64 (tw x.un x.ta)) hHeld (h := ?_)
  (try simp only [Act.put, sA, sB, sC])
  refine wpAnyH_done (by kernel_rfl) ?_ _
  have HSd0 := Lib.hid hHeld.1
  have HBKd0 := Lib.hid (hHeld.2)
  clear hHeld HRK HRD HSU HBQ
  go_upto_region 1 with fail
  refine wp_region_lit ?_
  refine tkL (.int .i64 (tw x.un x.ta)) (h := ?_)
  (try simp only [Act.put, sA, sB, sC])
  refine wpList_q (by rfl) (.bool false) ?he ?_
  case he => (have q0 := HT.out; go_simp; (first | done | rfl | omega))
  (try simp only [Act.put, sA, sB, sC])
  refine tkL (.bool false) (h := ?_)
  (try simp only [Act.put, sA, sB, sC])
  refine wpList_nil ?_
  go_upto_region 2 with fail
  refine wp_region_lit ?_
  refine tkL (.pointer (some ⟨q, 0, none⟩)) (h := ?_)
  (try simp only [Act.put, sA, sB, sC])
  refine tkL (.pointer (some ⟨q, 0, none⟩)) (h := ?_)
  (try simp only [Act.put, sA, sB, sC])
  refine tkL (.pointer (some ⟨q, 0, none⟩)) (h := ?_)
  (try simp only [Act.put, sA, sB, sC])
  refine tkL (.pointer (some ⟨q, 0, none⟩)) (h := ?_)
  (try simp only [Act.put, sA, sB, sC])
  refine tkL (.pointer (some ⟨q, 0, none⟩)) (h := ?_)
  (try simp only [Act.put, sA, sB, sC])
  refine wpList_q (by rfl) (.int .i64 x.ds) ?he ?_
  case he => exact exec_cell 3 _ _ HBKd0.out rfl rfl rfl Try.underlying3 rfl
  (try simp only [Act.put, sA, sB, sC])
  refine wpList_q (by rfl) (.bool false) ?he ?_
  case he => (have q0 := HD.out; go_simp; (first | done | rfl | omega))
  (try simp only [Act.put, sA, sB, sC])
  refine tkL (.bool false) (h := ?_)
  (try simp only [Act.put, sA, sB, sC])
  refine wpList_no (by rfl) ?_
  (try simp only [Act.put, sA, sB, sC])
  refine tkL (.bool false) (h := ?_)
  (try simp only [Act.put, sA, sB, sC])
  refine tkL (.bool false) (h := ?_)
  (try simp only [Act.put, sA, sB, sC])
  refine wpList_nil ?_
  go_upto_region 4 with fail
  refine wp_region_lit ?_
  refine tkL (.pointer (some ⟨q, 0, none⟩)) (h := ?_)
  (try simp only [Act.put, sA, sB, sC])
  refine tkL (.pointer (some ⟨q, 0, none⟩)) (h := ?_)
  (try simp only [Act.put, sA, sB, sC])
  refine tkL (.pointer (some ⟨q, 0, none⟩)) (h := ?_)
  (try simp only [Act.put, sA, sB, sC])
  refine tkL (.pointer (some ⟨q, 0, none⟩)) (h := ?_)
  (try simp only [Act.put, sA, sB, sC])
  refine tkL (.pointer (some ⟨q, 0, none⟩)) (h := ?_)
  (try simp only [Act.put, sA, sB, sC])
  refine wpList_q (by rfl) (.int .i64 x.ds) ?he ?_
  case he => exact exec_cell 3 _ _ HBKd0.out rfl rfl rfl Try.underlying3 rfl
  (try simp only [Act.put, sA, sB, sC])
  refine wpList_q (by rfl) (.bool false) ?he ?_
  case he => (have q0 := HD.out; go_simp; (first | done | rfl | omega))
  (try simp only [Act.put, sA, sB, sC])
  refine tkL (.bool false) (h := ?_)
  (try simp only [Act.put, sA, sB, sC])
  refine wpList_nil ?_
  go_upto_region 6 with fail
  refine wp_region_lit ?_
  refine tkL (.bool false) (h := ?_)
  (try simp only [Act.put, sA, sB, sC])
  refine tkL (.bool false) (h := ?_)
  (try simp only [Act.put, sA, sB, sC])
  refine wpList_no (by rfl) ?_
  (try simp only [Act.put, sA, sB, sC])
  refine wpList_no (by rfl) ?_
  (try simp only [Act.put, sA, sB, sC])
  refine wpList_no (by rfl) ?_
  (try simp only [Act.put, sA, sB, sC])
  refine wpList_no (by rfl) ?_
  (try simp only [Act.put, sA, sB, sC])
  refine wpList_no (by rfl) ?_
  (try simp only [Act.put, sA, sB, sC])
  refine tkL (.bool false) (h := ?_)
  (try simp only [Act.put, sA, sB, sC])
  refine tkL (.bool false) (h := ?_)
  (try simp only [Act.put, sA, sB, sC])
  refine wpList_nil ?_
  go_upto_region 8 with fail
  refine wp_region_lit ?_
  refine tkL (.pointer (some ⟨q, 0, none⟩)) (h := ?_)
  (try simp only [Act.put, sA, sB, sC])
  refine tkL (.pointer (some ⟨q, 0, none⟩)) (h := ?_)
  (try simp only [Act.put, sA, sB, sC])
  refine tkL (.pointer (some ⟨q, 0, none⟩)) (h := ?_)
  (try simp only [Act.put, sA, sB, sC])
  refine tkL (.pointer (some ⟨q, 0, none⟩)) (h := ?_)
  (try simp only [Act.put, sA, sB, sC])
  refine tkL (.pointer (some ⟨q, 0, none⟩)) (h := ?_)
  (try simp only [Act.put, sA, sB, sC])
  refine wpList_q (by rfl) (.int .i64 x.ds) ?he ?_
  case he => exact exec_cell 3 _ _ HBKd0.out rfl rfl rfl Try.underlying3 rfl
  (try simp only [Act.put, sA, sB, sC])
  refine wpList_q (by rfl) (.bool true) ?he ?_
  case he => (have q0 := H2.out; go_simp; (first | done | rfl | omega))
  (try simp only [Act.put, sA, sB, sC])
  refine tkL (.bool true) (h := ?_)
  (try simp only [Act.put, sA, sB, sC])
  refine wpList_nil ?_
  go_upto_region 9 with fail
  refine wp_region_lit ?_
  refine tkL (.pointer (some ⟨q, 0, none⟩)) (h := ?_)
  (try simp only [Act.put, sA, sB, sC])
  refine tkL (.pointer (some ⟨q, 0, none⟩)) (h := ?_)
  (try simp only [Act.put, sA, sB, sC])
  refine tkL (.pointer (some ⟨q, 0, none⟩)) (h := ?_)
  (try simp only [Act.put, sA, sB, sC])
  refine tkL (.pointer (some ⟨q, 0, none⟩)) (h := ?_)
  (try simp only [Act.put, sA, sB, sC])
  refine tkL (.pointer (some ⟨q, 7, none⟩)) (h := ?_)
  (try simp only [Act.put, sA, sB, sC])
  refine wpList_q (by rfl) (.bool x.bl) ?he ?_
  case he => exact exec_cell 4 _ _ HBKd0.out rfl rfl rfl Try.underlying4 rfl
  (try simp only [Act.put, sA, sB, sC])
  refine tkL (.bool (!x.bl)) (h := ?_)
  (try simp only [Act.put, sA, sB, sC])
  refine tkL (.pointer (some ⟨q, 0, none⟩)) (h := ?_)
  (try simp only [Act.put, sA, sB, sC])
  refine tkL (.pointer (some ⟨q, 15, none⟩)) (h := ?_)
  (try simp only [Act.put, sA, sB, sC])
  refine tkL (.pointer (some ⟨q, 17, none⟩)) (h := ?_)
  (try simp only [Act.put, sA, sB, sC])
  refine wpList_wp (by rfl) (fun K hK => ?_)
  refine wp_st_cell 4 _ _ rfl #[.int .i64 x.ds, .int .i64 x.da, .int .i64 x.un, .int .i64 x.wy, .int .i64 x.ti, .int .i64 x.ju, .int .i64 x.lo, .bool x.bl, .bool x.br, .int .i64 x.mo, .int .i64 x.ta, .bool x.ho, .int .u64 x.sp, .int .u64 x.su, .int .u64 x.sd, .int .i64 0, .bool false, .bool (!x.bl)] (.bool (!x.bl)) rfl rfl HBKd0.out (by show 17 < 18; decide) rfl (by first | rfl | simp [Value.oneCell']) (by kernel_rfl) ?_
  intro w2 hw
  refine hK.out _ _ ?_
  clear hK K
  (try simp only [Act.put, sA, sB, sC])
  have HS2 := Lib.hid (show Upd [q] w w2 by rw [hw]; exact Upd.setRow HSd0.out (.inl (by simp)) _)
  have HBK2 := Lib.hid (show Blk w2 q 97 #[.int .i64 x.ds, .int .i64 x.da, .int .i64 x.un, .int .i64 x.wy, .int .i64 x.ti, .int .i64 x.ju, .int .i64 x.lo, .bool x.bl, .bool x.br, .int .i64 x.mo, .int .i64 x.ta, .bool x.ho, .int .u64 x.sp, .int .u64 x.su, .int .u64 x.sd, .int .i64 0, .bool false, .bool (!x.bl)] by rw [hw]; exact Blk.row HBKd0.out _)
  clear hw HSd0 HBKd0
  refine wpList_nil ?_
  (try go_wp2_with fail)
  first | go_end0 | refine bodyPost_ret (results_none rfl _ _ _) rfl ?_
  exact ⟨rfl, HBK2.out, HS2.out⟩
set_option maxHeartbeats 4000000 in
theorem leadD2 (q : Nat) (x : CarV) (w : World) (hb : Blk w q 97 (ctlA x 0 false false)) (hta0 : -1099511627776 ≤ x.ta) (hta1 : x.ta ≤ 1099511627776) (hd : ¬ x.ds = 0) (ht : tw x.un x.ta = 0) (hh : x.ho = false) (h2 : x.ds = 2) : Calls Try.prog 72 #[.pointer (some ⟨q, 0, none⟩)] w fun e w' => e = .returned (.tuple #[]) ∧ Blk w' q 97 (ctlA x 0 false (!x.bl)) ∧ Upd [q] w w' := by
  have HBQ := Lib.hid hb
  clear hb
  have HTA0 := Lib.hid hta0
  clear hta0
  have HTA1 := Lib.hid hta1
  clear hta1
  have HD := Lib.hid hd
  clear hd
  have HT := Lib.hid ht
  clear ht
  have HH := Lib.hid hh
  clear hh
  have H2 := Lib.hid h2
  clear h2
  go_enter Try.func72, Try.ntmps72
  have HSU := Lib.hid (Upd.refl [q] w)
  go_upto_region 0 with fail
  have hrK : ∀ W W' : World, Since W W' → (Upd [q] w W ∧ Blk W q 97 (ctlA x 0 false false)) → (Upd [q] w W' ∧ Blk W' q 97 (ctlA x 0 false false)) := fun W W' k ⟨h, h0⟩ => ⟨h.trans k, keep_blk k h0⟩
  have hrS : (fun W : World => Upd [q] w W ∧ Blk W q 97 (ctlA x 0 false false)) w := ⟨HSU.out, HBQ.out⟩
  have HRK := Lib.hid hrK
  have HRD := Lib.hid (show (fun W : World => Upd [q] w W ∧ Blk W q 97 (ctlA x 0 false false)) (World.drew w) from hrK _ _ ((Since.refl w).drew) hrS)
  clear hrK hrS
  refine wp_region_held_drew (S := fun W : World => Upd [q] w W ∧ Blk W q 97 (ctlA x 0 false false)) (by kernel_rfl) HRD.out (fun hHeld => ?_)
  refine tkQ 0 (.pointer (some ⟨q, 0, none⟩)) hHeld (h := ?_)
  (try simp only [Act.put, sA, sB, sC])
  refine tkQ 1 (.pointer (some ⟨q, 0, none⟩)) hHeld (h := ?_)
  (try simp only [Act.put, sA, sB, sC])
  refine tkQ 2 (.pointer (some ⟨q, 0, none⟩)) hHeld (h := ?_)
  (try simp only [Act.put, sA, sB, sC])
  refine tkQ 3 (.pointer (some ⟨q, 2, none⟩)) hHeld (h := ?_)
  (try simp only [Act.put, sA, sB, sC])
  refine tkQ 4 (.int .i64 x.un) hHeld (he := by intro w hSw; exact exec_cell 3 _ _ hSw.2 rfl rfl rfl Try.underlying3 rfl) (h := ?_)
  (try simp only [Act.put, sA, sB, sC])
  refine tkQ 5 (.pointer (some ⟨q, 0, none⟩)) hHeld (h := ?_)
  (try simp only [Act.put, sA, sB, sC])
  refine tkQ 6 (.pointer (some ⟨q, 0, none⟩)) hHeld (h := ?_)
  (try simp only [Act.put, sA, sB, sC])
  refine tkQ 7 (.pointer (some ⟨q, 0, none⟩)) hHeld (h := ?_)
  (try simp only [Act.put, sA, sB, sC])
  refine tkQ 8 (.pointer (some ⟨q, 10, none⟩)) hHeld (h := ?_)
  (try simp only [Act.put, sA, sB, sC])
  refine tkQ 9 (.int .i64 x.ta) hHeld (he := by intro w hSw; exact exec_cell 3 _ _ hSw.2 rfl rfl rfl Try.underlying3 rfl) (h := ?_)
  (try simp only [Act.put, sA, sB, sC])
  refine wpAnyH_ready (rs := [10]) (by kernel_rfl) (by simp) ?_
  refine AllReadyH.cons (o := ?o0__10) ?h0__10 (fun K hK => ?_) AllReadyH.nil
  case h0__10 => (first | (simp only [gA, gB, gC]; done) | (simp only [gA, gB, gC]; exact rfl))
  (try go_simp)
  refine (towardT _ _ HTA0.out HTA1.out _).mono ?_
  rintro e w' ⟨rfl, rfl⟩
  (try go_wp2_with fail)
  refine hK.out _ _ hHeld (fun hHeld2 => ?_)
  clear hK K hHeld2
  (try simp only [Act.put, sA, sB, sC])
  refine tkQ 11 (.int .i64 (tw x.un x.ta)) hHeld (h := ?_)
  (try simp only [Act.put, sA, sB, sC])
  refine wpAnyH_done (by kernel_rfl) ?_ _
  have HSd0 := Lib.hid hHeld.1
  have HBKd0 := Lib.hid (hHeld.2)
  clear hHeld HRK HRD HSU HBQ
  go_upto_region 1 with fail
  refine wp_region_lit ?_
  refine tkL (.int .i64 (tw x.un x.ta)) (h := ?_)
  (try simp only [Act.put, sA, sB, sC])
  refine wpList_q (by rfl) (.bool true) ?he ?_
  case he => (have q0 := HT.out; go_simp; (first | done | rfl | omega))
  (try simp only [Act.put, sA, sB, sC])
  refine tkL (.bool true) (h := ?_)
  (try simp only [Act.put, sA, sB, sC])
  refine wpList_nil ?_
  go_upto_region 2 with fail
  refine wp_region_lit ?_
  refine tkL (.pointer (some ⟨q, 0, none⟩)) (h := ?_)
  (try simp only [Act.put, sA, sB, sC])
  refine tkL (.pointer (some ⟨q, 0, none⟩)) (h := ?_)
  (try simp only [Act.put, sA, sB, sC])
  refine tkL (.pointer (some ⟨q, 0, none⟩)) (h := ?_)
  (try simp only [Act.put, sA, sB, sC])
  refine tkL (.pointer (some ⟨q, 0, none⟩)) (h := ?_)
  (try simp only [Act.put, sA, sB, sC])
  refine tkL (.pointer (some ⟨q, 0, none⟩)) (h := ?_)
  (try simp only [Act.put, sA, sB, sC])
  refine wpList_q (by rfl) (.int .i64 x.ds) ?he ?_
  case he => exact exec_cell 3 _ _ HBKd0.out rfl rfl rfl Try.underlying3 rfl
  (try simp only [Act.put, sA, sB, sC])
  refine wpList_q (by rfl) (.bool false) ?he ?_
  case he => (have q0 := HD.out; go_simp; (first | done | rfl | omega))
  (try simp only [Act.put, sA, sB, sC])
  refine tkL (.bool false) (h := ?_)
  (try simp only [Act.put, sA, sB, sC])
  refine wpList_no (by rfl) ?_
  (try simp only [Act.put, sA, sB, sC])
  refine tkL (.bool false) (h := ?_)
  (try simp only [Act.put, sA, sB, sC])
  refine tkL (.bool false) (h := ?_)
  (try simp only [Act.put, sA, sB, sC])
  refine wpList_nil ?_
  go_upto_region 4 with fail
  refine wp_region_lit ?_
  refine tkL (.pointer (some ⟨q, 0, none⟩)) (h := ?_)
  (try simp only [Act.put, sA, sB, sC])
  refine tkL (.pointer (some ⟨q, 0, none⟩)) (h := ?_)
  (try simp only [Act.put, sA, sB, sC])
  refine tkL (.pointer (some ⟨q, 0, none⟩)) (h := ?_)
  (try simp only [Act.put, sA, sB, sC])
  refine tkL (.pointer (some ⟨q, 0, none⟩)) (h := ?_)
  (try simp only [Act.put, sA, sB, sC])
  refine tkL (.pointer (some ⟨q, 0, none⟩)) (h := ?_)
  (try simp only [Act.put, sA, sB, sC])
  refine wpList_q (by rfl) (.int .i64 x.ds) ?he ?_
  case he => exact exec_cell 3 _ _ HBKd0.out rfl rfl rfl Try.underlying3 rfl
  (try simp only [Act.put, sA, sB, sC])
  refine wpList_q (by rfl) (.bool false) ?he ?_
  case he => (have q0 := HD.out; go_simp; (first | done | rfl | omega))
  (try simp only [Act.put, sA, sB, sC])
  refine tkL (.bool false) (h := ?_)
  (try simp only [Act.put, sA, sB, sC])
  refine wpList_nil ?_
  go_upto_region 6 with fail
  refine wp_region_lit ?_
  refine tkL (.bool true) (h := ?_)
  (try simp only [Act.put, sA, sB, sC])
  refine tkL (.bool true) (h := ?_)
  (try simp only [Act.put, sA, sB, sC])
  refine tkL (.pointer (some ⟨q, 0, none⟩)) (h := ?_)
  (try simp only [Act.put, sA, sB, sC])
  refine tkL (.pointer (some ⟨q, 0, none⟩)) (h := ?_)
  (try simp only [Act.put, sA, sB, sC])
  refine tkL (.pointer (some ⟨q, 0, none⟩)) (h := ?_)
  (try simp only [Act.put, sA, sB, sC])
  refine tkL (.pointer (some ⟨q, 11, none⟩)) (h := ?_)
  (try simp only [Act.put, sA, sB, sC])
  refine wpList_q (by rfl) (.bool x.ho) ?he ?_
  case he => exact exec_cell 4 _ _ HBKd0.out rfl rfl rfl Try.underlying4 rfl
  (try simp only [Act.put, sA, sB, sC])
  refine wpList_q (by rfl) (.bool false) ?he ?_
  case he => (have q := HH.out; go_simp; (first | done | exact q | (simp [q]; done)))
  (try simp only [Act.put, sA, sB, sC])
  refine tkL (.bool false) (h := ?_)
  (try simp only [Act.put, sA, sB, sC])
  refine wpList_nil ?_
  go_upto_region 8 with fail
  refine wp_region_lit ?_
  refine tkL (.pointer (some ⟨q, 0, none⟩)) (h := ?_)
  (try simp only [Act.put, sA, sB, sC])
  refine tkL (.pointer (some ⟨q, 0, none⟩)) (h := ?_)
  (try simp only [Act.put, sA, sB, sC])
  refine tkL (.pointer (some ⟨q, 0, none⟩)) (h := ?_)
  (try simp only [Act.put, sA, sB, sC])
  refine tkL (.pointer (some ⟨q, 0, none⟩)) (h := ?_)
  (try simp only [Act.put, sA, sB, sC])
  refine tkL (.pointer (some ⟨q, 0, none⟩)) (h := ?_)
  (try simp only [Act.put, sA, sB, sC])
  refine wpList_q (by rfl) (.int .i64 x.ds) ?he ?_
  case he => exact exec_cell 3 _ _ HBKd0.out rfl rfl rfl Try.underlying3 rfl
  (try simp only [Act.put, sA, sB, sC])
  refine wpList_q (by rfl) (.bool true) ?he ?_
  case he => (have q0 := H2.out; go_simp; (first | done | rfl | omega))
  (try simp only [Act.put, sA, sB, sC])
  refine tkL (.bool true) (h := ?_)
  (try simp only [Act.put, sA, sB, sC])
  refine wpList_nil ?_
  go_upto_region 9 with fail
  refine wp_region_lit ?_
  refine tkL (.pointer (some ⟨q, 0, none⟩)) (h := ?_)
  (try simp only [Act.put, sA, sB, sC])
  refine tkL (.pointer (some ⟨q, 0, none⟩)) (h := ?_)
  (try simp only [Act.put, sA, sB, sC])
  refine tkL (.pointer (some ⟨q, 0, none⟩)) (h := ?_)
  (try simp only [Act.put, sA, sB, sC])
  refine tkL (.pointer (some ⟨q, 0, none⟩)) (h := ?_)
  (try simp only [Act.put, sA, sB, sC])
  refine tkL (.pointer (some ⟨q, 7, none⟩)) (h := ?_)
  (try simp only [Act.put, sA, sB, sC])
  refine wpList_q (by rfl) (.bool x.bl) ?he ?_
  case he => exact exec_cell 4 _ _ HBKd0.out rfl rfl rfl Try.underlying4 rfl
  (try simp only [Act.put, sA, sB, sC])
  refine tkL (.bool (!x.bl)) (h := ?_)
  (try simp only [Act.put, sA, sB, sC])
  refine tkL (.pointer (some ⟨q, 0, none⟩)) (h := ?_)
  (try simp only [Act.put, sA, sB, sC])
  refine tkL (.pointer (some ⟨q, 15, none⟩)) (h := ?_)
  (try simp only [Act.put, sA, sB, sC])
  refine tkL (.pointer (some ⟨q, 17, none⟩)) (h := ?_)
  (try simp only [Act.put, sA, sB, sC])
  refine wpList_wp (by rfl) (fun K hK => ?_)
  refine wp_st_cell 4 _ _ rfl #[.int .i64 x.ds, .int .i64 x.da, .int .i64 x.un, .int .i64 x.wy, .int .i64 x.ti, .int .i64 x.ju, .int .i64 x.lo, .bool x.bl, .bool x.br, .int .i64 x.mo, .int .i64 x.ta, .bool x.ho, .int .u64 x.sp, .int .u64 x.su, .int .u64 x.sd, .int .i64 0, .bool false, .bool (!x.bl)] (.bool (!x.bl)) rfl rfl HBKd0.out (by show 17 < 18; decide) rfl (by first | rfl | simp [Value.oneCell']) (by kernel_rfl) ?_
  intro w2 hw
  refine hK.out _ _ ?_
  clear hK K
  (try simp only [Act.put, sA, sB, sC])
  have HS2 := Lib.hid (show Upd [q] w w2 by rw [hw]; exact Upd.setRow HSd0.out (.inl (by simp)) _)
  have HBK2 := Lib.hid (show Blk w2 q 97 #[.int .i64 x.ds, .int .i64 x.da, .int .i64 x.un, .int .i64 x.wy, .int .i64 x.ti, .int .i64 x.ju, .int .i64 x.lo, .bool x.bl, .bool x.br, .int .i64 x.mo, .int .i64 x.ta, .bool x.ho, .int .u64 x.sp, .int .u64 x.su, .int .u64 x.sd, .int .i64 0, .bool false, .bool (!x.bl)] by rw [hw]; exact Blk.row HBKd0.out _)
  clear hw HSd0 HBKd0
  refine wpList_nil ?_
  (try go_wp2_with fail)
  first | go_end0 | refine bodyPost_ret (results_none rfl _ _ _) rfl ?_
  exact ⟨rfl, HBK2.out, HS2.out⟩
set_option maxHeartbeats 4000000 in
theorem leadE1 (q : Nat) (x : CarV) (w : World) (hb : Blk w q 97 (ctlA x 0 false false)) (hta0 : -1099511627776 ≤ x.ta) (hta1 : x.ta ≤ 1099511627776) (hd : ¬ x.ds = 0) (ht : ¬ tw x.un x.ta = 0) (h2 : ¬ x.ds = 2) : Calls Try.prog 72 #[.pointer (some ⟨q, 0, none⟩)] w fun e w' => e = .returned (.tuple #[]) ∧ Blk w' q 97 (ctlA x 0 false false) ∧ Upd [q] w w' := by
  have HBQ := Lib.hid hb
  clear hb
  have HTA0 := Lib.hid hta0
  clear hta0
  have HTA1 := Lib.hid hta1
  clear hta1
  have HD := Lib.hid hd
  clear hd
  have HT := Lib.hid ht
  clear ht
  have H2 := Lib.hid h2
  clear h2
  go_enter Try.func72, Try.ntmps72
  have HSU := Lib.hid (Upd.refl [q] w)
  go_upto_region 0 with fail
  have hrK : ∀ W W' : World, Since W W' → (Upd [q] w W ∧ Blk W q 97 (ctlA x 0 false false)) → (Upd [q] w W' ∧ Blk W' q 97 (ctlA x 0 false false)) := fun W W' k ⟨h, h0⟩ => ⟨h.trans k, keep_blk k h0⟩
  have hrS : (fun W : World => Upd [q] w W ∧ Blk W q 97 (ctlA x 0 false false)) w := ⟨HSU.out, HBQ.out⟩
  have HRK := Lib.hid hrK
  have HRD := Lib.hid (show (fun W : World => Upd [q] w W ∧ Blk W q 97 (ctlA x 0 false false)) (World.drew w) from hrK _ _ ((Since.refl w).drew) hrS)
  clear hrK hrS
  refine wp_region_held_drew (S := fun W : World => Upd [q] w W ∧ Blk W q 97 (ctlA x 0 false false)) (by kernel_rfl) HRD.out (fun hHeld => ?_)
  refine tkQ 0 (.pointer (some ⟨q, 0, none⟩)) hHeld (h := ?_)
  (try simp only [Act.put, sA, sB, sC])
  refine tkQ 1 (.pointer (some ⟨q, 0, none⟩)) hHeld (h := ?_)
  (try simp only [Act.put, sA, sB, sC])
  refine tkQ 2 (.pointer (some ⟨q, 0, none⟩)) hHeld (h := ?_)
  (try simp only [Act.put, sA, sB, sC])
  refine tkQ 3 (.pointer (some ⟨q, 2, none⟩)) hHeld (h := ?_)
  (try simp only [Act.put, sA, sB, sC])
  refine tkQ 4 (.int .i64 x.un) hHeld (he := by intro w hSw; exact exec_cell 3 _ _ hSw.2 rfl rfl rfl Try.underlying3 rfl) (h := ?_)
  (try simp only [Act.put, sA, sB, sC])
  refine tkQ 5 (.pointer (some ⟨q, 0, none⟩)) hHeld (h := ?_)
  (try simp only [Act.put, sA, sB, sC])
  refine tkQ 6 (.pointer (some ⟨q, 0, none⟩)) hHeld (h := ?_)
  (try simp only [Act.put, sA, sB, sC])
  refine tkQ 7 (.pointer (some ⟨q, 0, none⟩)) hHeld (h := ?_)
  (try simp only [Act.put, sA, sB, sC])
  refine tkQ 8 (.pointer (some ⟨q, 10, none⟩)) hHeld (h := ?_)
  (try simp only [Act.put, sA, sB, sC])
  refine tkQ 9 (.int .i64 x.ta) hHeld (he := by intro w hSw; exact exec_cell 3 _ _ hSw.2 rfl rfl rfl Try.underlying3 rfl) (h := ?_)
  (try simp only [Act.put, sA, sB, sC])
  refine wpAnyH_ready (rs := [10]) (by kernel_rfl) (by simp) ?_
  refine AllReadyH.cons (o := ?o0__10) ?h0__10 (fun K hK => ?_) AllReadyH.nil
  case h0__10 => (first | (simp only [gA, gB, gC]; done) | (simp only [gA, gB, gC]; exact rfl))
  (try go_simp)
  refine (towardT _ _ HTA0.out HTA1.out _).mono ?_
  rintro e w' ⟨rfl, rfl⟩
  (try go_wp2_with fail)
  refine hK.out _ _ hHeld (fun hHeld2 => ?_)
  clear hK K hHeld2
  (try simp only [Act.put, sA, sB, sC])
  refine tkQ 11 (.int .i64 (tw x.un x.ta)) hHeld (h := ?_)
  (try simp only [Act.put, sA, sB, sC])
  refine wpAnyH_done (by kernel_rfl) ?_ _
  have HSd0 := Lib.hid hHeld.1
  have HBKd0 := Lib.hid (hHeld.2)
  clear hHeld HRK HRD HSU HBQ
  go_upto_region 1 with fail
  refine wp_region_lit ?_
  refine tkL (.int .i64 (tw x.un x.ta)) (h := ?_)
  (try simp only [Act.put, sA, sB, sC])
  refine wpList_q (by rfl) (.bool false) ?he ?_
  case he => (have q0 := HT.out; go_simp; (first | done | rfl | omega))
  (try simp only [Act.put, sA, sB, sC])
  refine tkL (.bool false) (h := ?_)
  (try simp only [Act.put, sA, sB, sC])
  refine wpList_nil ?_
  go_upto_region 2 with fail
  refine wp_region_lit ?_
  refine tkL (.pointer (some ⟨q, 0, none⟩)) (h := ?_)
  (try simp only [Act.put, sA, sB, sC])
  refine tkL (.pointer (some ⟨q, 0, none⟩)) (h := ?_)
  (try simp only [Act.put, sA, sB, sC])
  refine tkL (.pointer (some ⟨q, 0, none⟩)) (h := ?_)
  (try simp only [Act.put, sA, sB, sC])
  refine tkL (.pointer (some ⟨q, 0, none⟩)) (h := ?_)
  (try simp only [Act.put, sA, sB, sC])
  refine tkL (.pointer (some ⟨q, 0, none⟩)) (h := ?_)
  (try simp only [Act.put, sA, sB, sC])
  refine wpList_q (by rfl) (.int .i64 x.ds) ?he ?_
  case he => exact exec_cell 3 _ _ HBKd0.out rfl rfl rfl Try.underlying3 rfl
  (try simp only [Act.put, sA, sB, sC])
  refine wpList_q (by rfl) (.bool false) ?he ?_
  case he => (have q0 := HD.out; go_simp; (first | done | rfl | omega))
  (try simp only [Act.put, sA, sB, sC])
  refine tkL (.bool false) (h := ?_)
  (try simp only [Act.put, sA, sB, sC])
  refine wpList_no (by rfl) ?_
  (try simp only [Act.put, sA, sB, sC])
  refine tkL (.bool false) (h := ?_)
  (try simp only [Act.put, sA, sB, sC])
  refine tkL (.bool false) (h := ?_)
  (try simp only [Act.put, sA, sB, sC])
  refine wpList_nil ?_
  go_upto_region 4 with fail
  refine wp_region_lit ?_
  refine tkL (.pointer (some ⟨q, 0, none⟩)) (h := ?_)
  (try simp only [Act.put, sA, sB, sC])
  refine tkL (.pointer (some ⟨q, 0, none⟩)) (h := ?_)
  (try simp only [Act.put, sA, sB, sC])
  refine tkL (.pointer (some ⟨q, 0, none⟩)) (h := ?_)
  (try simp only [Act.put, sA, sB, sC])
  refine tkL (.pointer (some ⟨q, 0, none⟩)) (h := ?_)
  (try simp only [Act.put, sA, sB, sC])
  refine tkL (.pointer (some ⟨q, 0, none⟩)) (h := ?_)
  (try simp only [Act.put, sA, sB, sC])
  refine wpList_q (by rfl) (.int .i64 x.ds) ?he ?_
  case he => exact exec_cell 3 _ _ HBKd0.out rfl rfl rfl Try.underlying3 rfl
  (try simp only [Act.put, sA, sB, sC])
  refine wpList_q (by rfl) (.bool false) ?he ?_
  case he => (have q0 := HD.out; go_simp; (first | done | rfl | omega))
  (try simp only [Act.put, sA, sB, sC])
  refine tkL (.bool false) (h := ?_)
  (try simp only [Act.put, sA, sB, sC])
  refine wpList_nil ?_
  go_upto_region 6 with fail
  refine wp_region_lit ?_
  refine tkL (.bool false) (h := ?_)
  (try simp only [Act.put, sA, sB, sC])
  refine tkL (.bool false) (h := ?_)
  (try simp only [Act.put, sA, sB, sC])
  refine wpList_no (by rfl) ?_
  (try simp only [Act.put, sA, sB, sC])
  refine wpList_no (by rfl) ?_
  (try simp only [Act.put, sA, sB, sC])
  refine wpList_no (by rfl) ?_
  (try simp only [Act.put, sA, sB, sC])
  refine wpList_no (by rfl) ?_
  (try simp only [Act.put, sA, sB, sC])
  refine wpList_no (by rfl) ?_
  (try simp only [Act.put, sA, sB, sC])
  refine tkL (.bool false) (h := ?_)
  (try simp only [Act.put, sA, sB, sC])
  refine tkL (.bool false) (h := ?_)
  (try simp only [Act.put, sA, sB, sC])
  refine wpList_nil ?_
  go_upto_region 8 with fail
  refine wp_region_lit ?_
  refine tkL (.pointer (some ⟨q, 0, none⟩)) (h := ?_)
  (try simp only [Act.put, sA, sB, sC])
  refine tkL (.pointer (some ⟨q, 0, none⟩)) (h := ?_)
  (try simp only [Act.put, sA, sB, sC])
  refine tkL (.pointer (some ⟨q, 0, none⟩)) (h := ?_)
  (try simp only [Act.put, sA, sB, sC])
  refine tkL (.pointer (some ⟨q, 0, none⟩)) (h := ?_)
  (try simp only [Act.put, sA, sB, sC])
  refine tkL (.pointer (some ⟨q, 0, none⟩)) (h := ?_)
  (try simp only [Act.put, sA, sB, sC])
  refine wpList_q (by rfl) (.int .i64 x.ds) ?he ?_
  case he => exact exec_cell 3 _ _ HBKd0.out rfl rfl rfl Try.underlying3 rfl
  (try simp only [Act.put, sA, sB, sC])
  refine wpList_q (by rfl) (.bool false) ?he ?_
  case he => (have q0 := H2.out; go_simp; (first | done | rfl | omega))
  (try simp only [Act.put, sA, sB, sC])
  refine tkL (.bool false) (h := ?_)
  (try simp only [Act.put, sA, sB, sC])
  refine wpList_nil ?_
  (try go_wp2_with fail)
  first | go_end0 | refine bodyPost_ret (results_none rfl _ _ _) rfl ?_
  exact ⟨rfl, HBKd0.out, HSd0.out⟩
set_option maxHeartbeats 4000000 in
theorem leadE2 (q : Nat) (x : CarV) (w : World) (hb : Blk w q 97 (ctlA x 0 false false)) (hta0 : -1099511627776 ≤ x.ta) (hta1 : x.ta ≤ 1099511627776) (hd : ¬ x.ds = 0) (ht : tw x.un x.ta = 0) (hh : x.ho = false) (h2 : ¬ x.ds = 2) : Calls Try.prog 72 #[.pointer (some ⟨q, 0, none⟩)] w fun e w' => e = .returned (.tuple #[]) ∧ Blk w' q 97 (ctlA x 0 false false) ∧ Upd [q] w w' := by
  have HBQ := Lib.hid hb
  clear hb
  have HTA0 := Lib.hid hta0
  clear hta0
  have HTA1 := Lib.hid hta1
  clear hta1
  have HD := Lib.hid hd
  clear hd
  have HT := Lib.hid ht
  clear ht
  have HH := Lib.hid hh
  clear hh
  have H2 := Lib.hid h2
  clear h2
  go_enter Try.func72, Try.ntmps72
  have HSU := Lib.hid (Upd.refl [q] w)
  go_upto_region 0 with fail
  have hrK : ∀ W W' : World, Since W W' → (Upd [q] w W ∧ Blk W q 97 (ctlA x 0 false false)) → (Upd [q] w W' ∧ Blk W' q 97 (ctlA x 0 false false)) := fun W W' k ⟨h, h0⟩ => ⟨h.trans k, keep_blk k h0⟩
  have hrS : (fun W : World => Upd [q] w W ∧ Blk W q 97 (ctlA x 0 false false)) w := ⟨HSU.out, HBQ.out⟩
  have HRK := Lib.hid hrK
  have HRD := Lib.hid (show (fun W : World => Upd [q] w W ∧ Blk W q 97 (ctlA x 0 false false)) (World.drew w) from hrK _ _ ((Since.refl w).drew) hrS)
  clear hrK hrS
  refine wp_region_held_drew (S := fun W : World => Upd [q] w W ∧ Blk W q 97 (ctlA x 0 false false)) (by kernel_rfl) HRD.out (fun hHeld => ?_)
  refine tkQ 0 (.pointer (some ⟨q, 0, none⟩)) hHeld (h := ?_)
  (try simp only [Act.put, sA, sB, sC])
  refine tkQ 1 (.pointer (some ⟨q, 0, none⟩)) hHeld (h := ?_)
  (try simp only [Act.put, sA, sB, sC])
  refine tkQ 2 (.pointer (some ⟨q, 0, none⟩)) hHeld (h := ?_)
  (try simp only [Act.put, sA, sB, sC])
  refine tkQ 3 (.pointer (some ⟨q, 2, none⟩)) hHeld (h := ?_)
  (try simp only [Act.put, sA, sB, sC])
  refine tkQ 4 (.int .i64 x.un) hHeld (he := by intro w hSw; exact exec_cell 3 _ _ hSw.2 rfl rfl rfl Try.underlying3 rfl) (h := ?_)
  (try simp only [Act.put, sA, sB, sC])
  refine tkQ 5 (.pointer (some ⟨q, 0, none⟩)) hHeld (h := ?_)
  (try simp only [Act.put, sA, sB, sC])
  refine tkQ 6 (.pointer (some ⟨q, 0, none⟩)) hHeld (h := ?_)
  (try simp only [Act.put, sA, sB, sC])
  refine tkQ 7 (.pointer (some ⟨q, 0, none⟩)) hHeld (h := ?_)
  (try simp only [Act.put, sA, sB, sC])
  refine tkQ 8 (.pointer (some ⟨q, 10, none⟩)) hHeld (h := ?_)
  (try simp only [Act.put, sA, sB, sC])
  refine tkQ 9 (.int .i64 x.ta) hHeld (he := by intro w hSw; exact exec_cell 3 _ _ hSw.2 rfl rfl rfl Try.underlying3 rfl) (h := ?_)
  (try simp only [Act.put, sA, sB, sC])
  refine wpAnyH_ready (rs := [10]) (by kernel_rfl) (by simp) ?_
  refine AllReadyH.cons (o := ?o0__10) ?h0__10 (fun K hK => ?_) AllReadyH.nil
  case h0__10 => (first | (simp only [gA, gB, gC]; done) | (simp only [gA, gB, gC]; exact rfl))
  (try go_simp)
  refine (towardT _ _ HTA0.out HTA1.out _).mono ?_
  rintro e w' ⟨rfl, rfl⟩
  (try go_wp2_with fail)
  refine hK.out _ _ hHeld (fun hHeld2 => ?_)
  clear hK K hHeld2
  (try simp only [Act.put, sA, sB, sC])
  refine tkQ 11 (.int .i64 (tw x.un x.ta)) hHeld (h := ?_)
  (try simp only [Act.put, sA, sB, sC])
  refine wpAnyH_done (by kernel_rfl) ?_ _
  have HSd0 := Lib.hid hHeld.1
  have HBKd0 := Lib.hid (hHeld.2)
  clear hHeld HRK HRD HSU HBQ
  go_upto_region 1 with fail
  refine wp_region_lit ?_
  refine tkL (.int .i64 (tw x.un x.ta)) (h := ?_)
  (try simp only [Act.put, sA, sB, sC])
  refine wpList_q (by rfl) (.bool true) ?he ?_
  case he => (have q0 := HT.out; go_simp; (first | done | rfl | omega))
  (try simp only [Act.put, sA, sB, sC])
  refine tkL (.bool true) (h := ?_)
  (try simp only [Act.put, sA, sB, sC])
  refine wpList_nil ?_
  go_upto_region 2 with fail
  refine wp_region_lit ?_
  refine tkL (.pointer (some ⟨q, 0, none⟩)) (h := ?_)
  (try simp only [Act.put, sA, sB, sC])
  refine tkL (.pointer (some ⟨q, 0, none⟩)) (h := ?_)
  (try simp only [Act.put, sA, sB, sC])
  refine tkL (.pointer (some ⟨q, 0, none⟩)) (h := ?_)
  (try simp only [Act.put, sA, sB, sC])
  refine tkL (.pointer (some ⟨q, 0, none⟩)) (h := ?_)
  (try simp only [Act.put, sA, sB, sC])
  refine tkL (.pointer (some ⟨q, 0, none⟩)) (h := ?_)
  (try simp only [Act.put, sA, sB, sC])
  refine wpList_q (by rfl) (.int .i64 x.ds) ?he ?_
  case he => exact exec_cell 3 _ _ HBKd0.out rfl rfl rfl Try.underlying3 rfl
  (try simp only [Act.put, sA, sB, sC])
  refine wpList_q (by rfl) (.bool false) ?he ?_
  case he => (have q0 := HD.out; go_simp; (first | done | rfl | omega))
  (try simp only [Act.put, sA, sB, sC])
  refine tkL (.bool false) (h := ?_)
  (try simp only [Act.put, sA, sB, sC])
  refine wpList_no (by rfl) ?_
  (try simp only [Act.put, sA, sB, sC])
  refine tkL (.bool false) (h := ?_)
  (try simp only [Act.put, sA, sB, sC])
  refine tkL (.bool false) (h := ?_)
  (try simp only [Act.put, sA, sB, sC])
  refine wpList_nil ?_
  go_upto_region 4 with fail
  refine wp_region_lit ?_
  refine tkL (.pointer (some ⟨q, 0, none⟩)) (h := ?_)
  (try simp only [Act.put, sA, sB, sC])
  refine tkL (.pointer (some ⟨q, 0, none⟩)) (h := ?_)
  (try simp only [Act.put, sA, sB, sC])
  refine tkL (.pointer (some ⟨q, 0, none⟩)) (h := ?_)
  (try simp only [Act.put, sA, sB, sC])
  refine tkL (.pointer (some ⟨q, 0, none⟩)) (h := ?_)
  (try simp only [Act.put, sA, sB, sC])
  refine tkL (.pointer (some ⟨q, 0, none⟩)) (h := ?_)
  (try simp only [Act.put, sA, sB, sC])
  refine wpList_q (by rfl) (.int .i64 x.ds) ?he ?_
  case he => exact exec_cell 3 _ _ HBKd0.out rfl rfl rfl Try.underlying3 rfl
  (try simp only [Act.put, sA, sB, sC])
  refine wpList_q (by rfl) (.bool false) ?he ?_
  case he => (have q0 := HD.out; go_simp; (first | done | rfl | omega))
  (try simp only [Act.put, sA, sB, sC])
  refine tkL (.bool false) (h := ?_)
  (try simp only [Act.put, sA, sB, sC])
  refine wpList_nil ?_
  go_upto_region 6 with fail
  refine wp_region_lit ?_
  refine tkL (.bool true) (h := ?_)
  (try simp only [Act.put, sA, sB, sC])
  refine tkL (.bool true) (h := ?_)
  (try simp only [Act.put, sA, sB, sC])
  refine tkL (.pointer (some ⟨q, 0, none⟩)) (h := ?_)
  (try simp only [Act.put, sA, sB, sC])
  refine tkL (.pointer (some ⟨q, 0, none⟩)) (h := ?_)
  (try simp only [Act.put, sA, sB, sC])
  refine tkL (.pointer (some ⟨q, 0, none⟩)) (h := ?_)
  (try simp only [Act.put, sA, sB, sC])
  refine tkL (.pointer (some ⟨q, 11, none⟩)) (h := ?_)
  (try simp only [Act.put, sA, sB, sC])
  refine wpList_q (by rfl) (.bool x.ho) ?he ?_
  case he => exact exec_cell 4 _ _ HBKd0.out rfl rfl rfl Try.underlying4 rfl
  (try simp only [Act.put, sA, sB, sC])
  refine wpList_q (by rfl) (.bool false) ?he ?_
  case he => (have q := HH.out; go_simp; (first | done | exact q | (simp [q]; done)))
  (try simp only [Act.put, sA, sB, sC])
  refine tkL (.bool false) (h := ?_)
  (try simp only [Act.put, sA, sB, sC])
  refine wpList_nil ?_
  go_upto_region 8 with fail
  refine wp_region_lit ?_
  refine tkL (.pointer (some ⟨q, 0, none⟩)) (h := ?_)
  (try simp only [Act.put, sA, sB, sC])
  refine tkL (.pointer (some ⟨q, 0, none⟩)) (h := ?_)
  (try simp only [Act.put, sA, sB, sC])
  refine tkL (.pointer (some ⟨q, 0, none⟩)) (h := ?_)
  (try simp only [Act.put, sA, sB, sC])
  refine tkL (.pointer (some ⟨q, 0, none⟩)) (h := ?_)
  (try simp only [Act.put, sA, sB, sC])
  refine tkL (.pointer (some ⟨q, 0, none⟩)) (h := ?_)
  (try simp only [Act.put, sA, sB, sC])
  refine wpList_q (by rfl) (.int .i64 x.ds) ?he ?_
  case he => exact exec_cell 3 _ _ HBKd0.out rfl rfl rfl Try.underlying3 rfl
  (try simp only [Act.put, sA, sB, sC])
  refine wpList_q (by rfl) (.bool false) ?he ?_
  case he => (have q0 := H2.out; go_simp; (first | done | rfl | omega))
  (try simp only [Act.put, sA, sB, sC])
  refine tkL (.bool false) (h := ?_)
  (try simp only [Act.put, sA, sB, sC])
  refine wpList_nil ?_
  (try go_wp2_with fail)
  first | go_end0 | refine bodyPost_ret (results_none rfl _ _ _) rfl ?_
  exact ⟨rfl, HBKd0.out, HSd0.out⟩
/-- What a leased car is told. -/
def ldT (x : CarV) : Bool := decide (tw x.un x.ta = 0)
def ldX (x : CarV) : CarV := if x.ds = 0 ∧ ldT x = false then { x with ju := -1 } else x
def ldR (x : CarV) : Int := if x.ds = 0 ∧ ldT x = false then tw x.un x.ta else 0
def ldO (x : CarV) : Bool := if x.ds = 0 then (ldT x && x.ho) else (ldT x && x.ho && decide (x.ds = 3))
def ldK (x : CarV) : Bool := !(ldT x && x.ho) && decide (x.ds = 2) && !x.bl
theorem leadT (q : Nat) (x : CarV) (w : World) (hb : Blk w q 97 (ctlA x 0 false false)) (hta0 : -1099511627776 ≤ x.ta) (hta1 : x.ta ≤ 1099511627776) : Calls Try.prog 72 #[.pointer (some ⟨q, 0, none⟩)] w fun e w' => e = .returned (.tuple #[]) ∧ Blk w' q 97 (ctlA (ldX x) (ldR x) (ldO x) (ldK x)) ∧ Upd [q] w w' := by
  by_cases hd : x.ds = 0
  · have d2 : ¬ x.ds = 2 := by omega
    by_cases ht : tw x.un x.ta = 0
    · have e1 : ldT x = true := decide_eq_true ht
      have h := leadA q x w hb hta0 hta1 hd ht
      rw [show ldX x = x by simp [ldX, e1], show ldR x = 0 by simp [ldR, e1], show ldO x = x.ho by simp [ldO, e1, hd], show ldK x = false by simp [ldK, d2]]
      exact h
    · have e1 : ldT x = false := decide_eq_false ht
      have h := leadB q x w hb hta0 hta1 hd ht
      rw [show ldX x = { x with ju := -1 } by simp [ldX, e1, hd], show ldR x = tw x.un x.ta by simp [ldR, e1, hd], show ldO x = false by simp [ldO, e1], show ldK x = false by simp [ldK, d2]]
      exact h
  · rw [show ldX x = x by simp [ldX, hd], show ldR x = 0 by simp [ldR, hd]]
    by_cases ht : tw x.un x.ta = 0
    · have e1 : ldT x = true := decide_eq_true ht
      cases hh : x.ho with
      | true =>
        rw [show ldO x = decide (x.ds = 3) by simp [ldO, e1, hh, hd], show ldK x = false by simp [ldK, e1, hh]]
        exact leadC q x w hb hta0 hta1 hd ht hh
      | false =>
        rw [show ldO x = false by simp [ldO, hh]]
        by_cases h2 : x.ds = 2
        · rw [show ldK x = !x.bl by simp [ldK, hh, h2]]
          exact leadD2 q x w hb hta0 hta1 hd ht hh h2
        · rw [show ldK x = false by simp [ldK, h2]]
          exact leadE2 q x w hb hta0 hta1 hd ht hh h2
    · have e1 : ldT x = false := decide_eq_false ht
      rw [show ldO x = false by simp [ldO, e1]]
      by_cases h2 : x.ds = 2
      · rw [show ldK x = !x.bl by simp [ldK, e1, h2]]
        exact leadD1 q x w hb hta0 hta1 hd ht h2
      · rw [show ldK x = false by simp [ldK, h2]]
        exact leadE1 q x w hb hta0 hta1 hd ht h2
end Go.Proofs.Ytpacieocmogjeaa.Ct
