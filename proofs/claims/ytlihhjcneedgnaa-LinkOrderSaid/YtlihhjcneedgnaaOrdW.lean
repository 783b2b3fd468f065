/-
  LinkOrder: walked.
  Conditions: what stands ahead of each.
-/
import Derived.Test.YtlihhjcneedgnaaProg
import Derived.Test.YtlihhjcneedgnaaShort
import Derived.Test.YtlihhjcneedgnaaOrdL
import Derived.Test.YtlihhjcneedgnaaLnkD
import Derived.Test.YtlihhjcneedgnaaMov
import Derived.Test.YtlihhjcneedgnaaCut
import Derived.Deep.CutBlock
namespace Go.Proofs.Ytlihhjcneedgnaa.Lo
set_option linter.unusedVariables false
set_option linter.unusedSimpArgs false
open Go.Proofs.Ytlihhjcneedgnaa.Ln Go.RowKit Go.Proofs.Ytlihhjcneedgnaa.Ba Go.Proofs.Ytlihhjcneedgnaa.Mem Go.Proofs.Ytlihhjcneedgnaa.Ty Go.Proofs.Ytlihhjcneedgnaa.Tm Go.Proofs.Ytlihhjcneedgnaa.Tw
set_option maxRecDepth 100000
open Go.Proofs.Ytlihhjcneedgnaa.Mv (MvV mvC)
attribute [local irreducible] Go.wpList
set_option maxHeartbeats 4000000 in
theorem order (A : Option Addr) (len cap : Nat) (vs : Nat → MvV) (w : World) (hX : Go.Proofs.Ytlihhjcneedgnaa.Mv.MV w A len vs) (hlen : len ≤ 9223372036854775807) : Calls Try.prog 3 #[.slice A len cap] w fun e w' => e = .returned (.bool true) ∧ Since w w' := by
 have HX := Lib.hid hX
 have HLN := Lib.hid hlen
 clear hX hlen
 go_enter Try.func3, Try.ntmps3
 go_upto_region 1 with fail
 have HS1 := Lib.hid (Since.refl w)
 refine wp_region_lit ?_
 refine wpList_wp (by rfl) (fun K hK => ?_)
 (try go_simp)
 refine (configT _).mono ?_
 rintro e w2 ⟨rfl, hb⟩
 (try go_wp2_with fail)
 refine hK.out _ _ ?_
 clear hK K
 (try simp only [Act.put, sA, sB, sC])
 have HS2 := Lib.hid (Since.trans HS1.out hb)
 clear HS1 
 clear hb
 refine wpList_wp (by rfl) (fun K hK => ?_)
 refine wp_new (fun b => .pointer (some ⟨b, 0, none⟩)) 24 #[.int .i64 0, .int .i64 0, .int .i64 0, .int .i64 0, .int .i64 0, .int .i64 0, .int .i64 0, .int .i64 0, .int .i64 0, .int .i64 0, .int .i64 0, .int .i64 0, .int .i64 0, .int .i64 0, .int .i64 0, .int .i64 0, .int .i64 0, .int .i64 0] (by rintro b rfl; first | rfl | kernel_rfl) ?_
 intro bn3 w3 hge hB hb
 refine hK.out _ _ ?_
 clear hK K
 (try simp only [Act.put, sA, sB, sC])
 have HGn3 := Lib.hid (show w.heap.size ≤ bn3 by have := Since.size HS2.out; omega)
 have HS3 := Lib.hid (Since.trans HS2.out hb)
 clear HS2 
 clear hb hge
 have HBn33 := Lib.hid hB
 clear hB
 refine wpList_wp (by rfl) (fun K hK => ?_)
 refine wp_st_row 24 _ _ rfl #[.int .i64 0, .int .i64 0, .int .i64 0, .int .i64 0, .int .i64 0, .int .i64 0, .int .i64 0, .int .i64 0, .int .i64 0, .int .i64 0, .int .i64 0, .int .i64 0, .int .i64 0, .int .i64 2, .int .i64 9, .int .i64 3, .int .i64 50, .int .i64 4] rfl rfl (HasRow.of HBn33.out rfl) rfl (by simp [Value.oneCell']) (by kernel_rfl) ?_
 intro w4 hw
 refine hK.out _ _ ?_
 clear hK K
 (try simp only [Act.put, sA, sB, sC])
 have HS4 := Lib.hid (show Since w w4 by rw [hw]; exact Since.setRow HS3.out HGn3.out _)
 have HBn34 := Lib.hid (show Blk w4 bn3 24 #[.int .i64 0, .int .i64 0, .int .i64 0, .int .i64 0, .int .i64 0, .int .i64 0, .int .i64 0, .int .i64 0, .int .i64 0, .int .i64 0, .int .i64 0, .int .i64 0, .int .i64 0, .int .i64 2, .int .i64 9, .int .i64 3, .int .i64 50, .int .i64 4] by rw [hw]; exact Blk.row HBn33.out _)
 clear hw HS3 HBn33
 refine wpList_nil ?_
 go_upto_region 2 with fail
 refine wp_region_lit ?_
 refine tkL (.pointer (some ⟨bn3, 15, none⟩)) (h := ?_)
 (try simp only [Act.put, sA, sB, sC])
 refine wpList_wp (by rfl) (fun K hK => ?_)
 refine wp_st_cell 3 _ _ rfl #[.int .i64 0, .int .i64 0, .int .i64 0, .int .i64 0, .int .i64 0, .int .i64 0, .int .i64 0, .int .i64 0, .int .i64 0, .int .i64 0, .int .i64 0, .int .i64 0, .int .i64 0, .int .i64 2, .int .i64 9, .int .i64 1073741824, .int .i64 50, .int .i64 4] (.int .i64 1073741824) rfl rfl HBn34.out (by show 15 < 18; decide) rfl (by first | rfl | simp [Value.oneCell']) (by kernel_rfl) ?_
 intro w5 hw
 refine hK.out _ _ ?_
 clear hK K
 (try simp only [Act.put, sA, sB, sC])
 have HS5 := Lib.hid (show Since w w5 by rw [hw]; exact Since.setRow HS4.out HGn3.out _)
 have HBn35 := Lib.hid (show Blk w5 bn3 24 #[.int .i64 0, .int .i64 0, .int .i64 0, .int .i64 0, .int .i64 0, .int .i64 0, .int .i64 0, .int .i64 0, .int .i64 0, .int .i64 0, .int .i64 0, .int .i64 0, .int .i64 0, .int .i64 2, .int .i64 9, .int .i64 1073741824, .int .i64 50, .int .i64 4] by rw [hw]; exact Blk.row HBn34.out _)
 clear hw HS4 HBn34
 refine tkL (.pointer (some ⟨bn3, 16, none⟩)) (h := ?_)
 (try simp only [Act.put, sA, sB, sC])
 refine wpList_wp (by rfl) (fun K hK => ?_)
 refine wp_st_cell 3 _ _ rfl #[.int .i64 0, .int .i64 0, .int .i64 0, .int .i64 0, .int .i64 0, .int .i64 0, .int .i64 0, .int .i64 0, .int .i64 0, .int .i64 0, .int .i64 0, .int .i64 0, .int .i64 0, .int .i64 2, .int .i64 9, .int .i64 1073741824, .int .i64 1073741824, .int .i64 4] (.int .i64 1073741824) rfl rfl HBn35.out (by show 16 < 18; decide) rfl (by first | rfl | simp [Value.oneCell']) (by kernel_rfl) ?_
 intro w6 hw
 refine hK.out _ _ ?_
 clear hK K
 (try simp only [Act.put, sA, sB, sC])
 have HS6 := Lib.hid (show Since w w6 by rw [hw]; exact Since.setRow HS5.out HGn3.out _)
 have HBn36 := Lib.hid (show Blk w6 bn3 24 #[.int .i64 0, .int .i64 0, .int .i64 0, .int .i64 0, .int .i64 0, .int .i64 0, .int .i64 0, .int .i64 0, .int .i64 0, .int .i64 0, .int .i64 0, .int .i64 0, .int .i64 0, .int .i64 2, .int .i64 9, .int .i64 1073741824, .int .i64 1073741824, .int .i64 4] by rw [hw]; exact Blk.row HBn35.out _)
 clear hw HS5 HBn35
 refine wpList_nil ?_
 go_upto_region 3 with fail
 go_cut [4] (fun s4 wx => Hid (∃ ba : Nat, ∃ bb : Nat, ∃ bn4 : Nat, s4 = .pointer (some ⟨bn4, 0, none⟩) ∧ Since w wx ∧ Blk wx bn3 24 #[.int .i64 0, .int .i64 0, .int .i64 0, .int .i64 0, .int .i64 0, .int .i64 0, .int .i64 0, .int .i64 0, .int .i64 0, .int .i64 0, .int .i64 0, .int .i64 0, .int .i64 0, .int .i64 2, .int .i64 9, .int .i64 1073741824, .int .i64 1073741824, .int .i64 4] ∧ Blk wx ba 88 #[.int .i64 0, .int .i64 0, .int .i64 0, .int .i64 0, .int .i64 0, .int .i64 0, .int .i64 0, .int .i64 0, .int .i64 0, .int .i64 0, .int .i64 0, .int .i64 0, .int .i64 0, .int .i64 2, .int .i64 9, .int .i64 1073741824, .int .i64 1073741824, .int .i64 4, .int .i64 3, .int .i64 (9 % 65536), .slice none 0 0, .int .i64 0, .int .i64 0, .int .i64 0, .int .i64 0, .bool false, .int .i64 (cl 0)] ∧ Blk wx bb 88 #[.int .i64 0, .int .i64 0, .int .i64 0, .int .i64 0, .int .i64 0, .int .i64 0, .int .i64 0, .int .i64 0, .int .i64 0, .int .i64 0, .int .i64 0, .int .i64 0, .int .i64 0, .int .i64 2, .int .i64 9, .int .i64 1073741824, .int .i64 1073741824, .int .i64 4, .int .i64 3, .int .i64 (9 % 65536), .slice none 0 0, .int .i64 0, .int .i64 0, .int .i64 0, .int .i64 0, .bool false, .int .i64 (cl 0)] ∧ Blk wx bn4 28 #[.pointer (some ⟨ba, 0, none⟩), .pointer (some ⟨bb, 0, none⟩)] ∧ w.heap.size ≤ ba ∧ ba ≠ bn3 ∧ w.heap.size ≤ bb ∧ bb ≠ bn3 ∧ bb ≠ ba ∧ w.heap.size ≤ bn4 ∧ bn4 ≠ bn3 ∧ bn4 ≠ ba ∧ bn4 ≠ bb))
 case first =>
  have HKS : Hid (KeepS (fun W : World => Since w W ∧ Blk W bn3 24 #[.int .i64 0, .int .i64 0, .int .i64 0, .int .i64 0, .int .i64 0, .int .i64 0, .int .i64 0, .int .i64 0, .int .i64 0, .int .i64 0, .int .i64 0, .int .i64 0, .int .i64 0, .int .i64 2, .int .i64 9, .int .i64 1073741824, .int .i64 1073741824, .int .i64 4]) w6) := Lib.hid ⟨fun W W' k ⟨h, h0⟩ => ⟨h.trans k, keep_blk k h0⟩, ⟨HS6.out, HBn36.out⟩⟩
  have HRK := Lib.hid HKS.out.1
  refine wp_held HKS.out (by kernel_rfl) (fun hHeld => ?_)
  refine tkQ 0 (.agg #[.int .i64 0, .int .i64 0, .int .i64 0, .int .i64 0, .int .i64 0, .int .i64 0, .int .i64 0, .int .i64 0, .int .i64 0, .int .i64 0, .int .i64 0, .int .i64 0, .int .i64 0, .int .i64 2, .int .i64 9, .int .i64 1073741824, .int .i64 1073741824, .int .i64 4]) hHeld (he := by intro w hSw; exact exec_load_row 24 _ _ hSw.2 rfl rfl Try.underlying24 rfl (by kernel_rfl)) (h := ?_)
  (try simp only [Act.put, sA, sB, sC])
  refine tkQ 2 (.agg #[.int .i64 0, .int .i64 0, .int .i64 0, .int .i64 0, .int .i64 0, .int .i64 0, .int .i64 0, .int .i64 0, .int .i64 0, .int .i64 0, .int .i64 0, .int .i64 0, .int .i64 0, .int .i64 2, .int .i64 9, .int .i64 1073741824, .int .i64 1073741824, .int .i64 4]) hHeld (he := by intro w hSw; exact exec_load_row 24 _ _ hSw.2 rfl rfl Try.underlying24 rfl (by kernel_rfl)) (h := ?_)
  (try simp only [Act.put, sA, sB, sC])
  refine wpAnyH_ready (rs := [1, 5]) (by kernel_rfl) (by simp) ?_
  refine AllReadyH.cons (o := ?o3__1b) ?h3__1b (fun K hK => ?g3__1b) (AllReadyH.cons (o := ?o3__5b) ?h3__5b (fun K hK => ?g3__5b) AllReadyH.nil)
  case h3__1b => (first | (simp only [gA, gB, gC]; done) | (simp only [gA, gB, gC]; exact rfl))
  case h3__5b => (first | (simp only [gA, gB, gC]; done) | (simp only [gA, gB, gC]; exact rfl))
  case g3__1b =>
   (try go_simp)
   refine (newA cO 3 9 0 _).mono ?_
   rintro e w7 ⟨ba, rfl, hge, hB, hb⟩
   (try go_wp2_with fail)
   refine hK.out _ _ (by (apply HRK.out; exact hb; exact hHeld)) (fun hHeld2 => ?_)
   have HNan3 := Lib.hid (show ba ≠ bn3 by have := Blk.lt (hHeld.2); (try simp at this); (try simp at hge); omega)
   have HGa := Lib.hid (show w.heap.size ≤ ba by have := Since.size hHeld.1; (try simp at this); (try simp at hge); omega)
   have HXa := Lib.hid hB
   clear hB
   clear hge
   clear hK K hHeld hb
   have hHeld := hHeld2
   clear hHeld2
   (try simp only [Act.put, sA, sB, sC])
   refine wpAnyH_ready (rs := [3, 5]) (by kernel_rfl) (by simp) ?_
   refine AllReadyH.cons (o := ?o3_b1_3b) ?h3_b1_3b (fun K hK => ?g3_b1_3b) (AllReadyH.cons (o := ?o3_b1_5b) ?h3_b1_5b (fun K hK => ?g3_b1_5b) AllReadyH.nil)
   case h3_b1_3b => (first | (simp only [gA, gB, gC]; done) | (simp only [gA, gB, gC]; exact rfl))
   case h3_b1_5b => (first | (simp only [gA, gB, gC]; done) | (simp only [gA, gB, gC]; exact rfl))
   case g3_b1_3b =>
    (try go_simp)
    refine (newA cO 3 9 0 _).mono ?_
    rintro e w8 ⟨bb, rfl, hge, hB, hb⟩
    (try go_wp2_with fail)
    refine hK.out _ _ (by (apply HRK.out; exact hb; exact hHeld)) (fun hHeld2 => ?_)
    have HNba := Lib.hid (show bb ≠ ba by have := Blk.lt HXa.out; omega)
    have HXa2 := Lib.hid (keep_blk hb HXa.out)
    clear HXa
    have HNbn3 := Lib.hid (show bb ≠ bn3 by have := Blk.lt (hHeld.2); (try simp at this); (try simp at hge); omega)
    have HGb := Lib.hid (show w.heap.size ≤ bb by have := Since.size hHeld.1; (try simp at this); (try simp at hge); omega)
    have HXb := Lib.hid hB
    clear hB
    clear hge
    clear hK K hHeld hb
    have hHeld := hHeld2
    clear hHeld2
    (try simp only [Act.put, sA, sB, sC])
    refine tkQ 4 (.agg #[.pointer (some ⟨ba, 0, none⟩), .pointer (some ⟨bb, 0, none⟩)]) hHeld (he := by intro w hSw; kernel_rfl) (h := ?_)
    (try simp only [Act.put, sA, sB, sC])
    refine wpAnyH_ready (rs := [5]) (by kernel_rfl) (by simp) ?_
    refine AllReadyH.cons (o := ?o3_b1b3_5) ?h3_b1b3_5 (fun K hK => ?_) AllReadyH.nil
    case h3_b1b3_5 => (first | (simp only [gA, gB, gC]; done) | (simp only [gA, gB, gC]; exact rfl))
    rw [if_pos (by rfl)]
    refine wp_new (fun b => .pointer (some ⟨b, 0, none⟩)) 28 #[.pointer none, .pointer none] (by rintro b rfl; first | rfl | kernel_rfl) ?_
    intro bn4 w9 hge hB hb
    refine hK.out _ _ (by (apply HRK.out; exact hb; exact hHeld)) (fun hHeld2 => ?_)
    have HNn4a := Lib.hid (show bn4 ≠ ba by have := Blk.lt HXa2.out; omega)
    have HNn4b := Lib.hid (show bn4 ≠ bb by have := Blk.lt HXb.out; omega)
    have HXa22 := Lib.hid (keep_blk hb HXa2.out)
    clear HXa2
    have HXb2 := Lib.hid (keep_blk hb HXb.out)
    clear HXb
    have HNn4n3 := Lib.hid (show bn4 ≠ bn3 by have := Blk.lt (hHeld.2); (try simp at this); (try simp at hge); omega)
    have HGn4 := Lib.hid (show w.heap.size ≤ bn4 by have := Since.size hHeld.1; (try simp at this); (try simp at hge); omega)
    have HXn4 := Lib.hid hB
    clear hB
    clear hge
    clear hK K hHeld hb
    have hHeld := hHeld2
    clear hHeld2
    (try simp only [Act.put, sA, sB, sC])
    refine wpAnyH_ready (rs := [6]) (by kernel_rfl) (by simp) ?_
    refine AllReadyH.cons (o := ?o3_b1b3_6) ?h3_b1b3_6 (fun K hK => ?_) AllReadyH.nil
    case h3_b1b3_6 => (first | (simp only [gA, gB, gC]; done) | (simp only [gA, gB, gC]; exact rfl))
    rw [if_pos (by rfl)]
    refine wp_st_row 28 _ _ rfl #[.pointer (some ⟨ba, 0, none⟩), .pointer (some ⟨bb, 0, none⟩)] rfl rfl (HasRow.of HXn4.out rfl) rfl (by simp [Value.oneCell']) (by kernel_rfl) ?_
    intro w10 hw
    have HXn42 := Lib.hid (show Blk w10 bn4 28 #[.pointer (some ⟨ba, 0, none⟩), .pointer (some ⟨bb, 0, none⟩)] by rw [hw]; exact Blk.row HXn4.out _)
    have HXa222 := Lib.hid (show Blk w10 ba 88 #[.int .i64 0, .int .i64 0, .int .i64 0, .int .i64 0, .int .i64 0, .int .i64 0, .int .i64 0, .int .i64 0, .int .i64 0, .int .i64 0, .int .i64 0, .int .i64 0, .int .i64 0, .int .i64 2, .int .i64 9, .int .i64 1073741824, .int .i64 1073741824, .int .i64 4, .int .i64 3, .int .i64 (9 % 65536), .slice none 0 0, .int .i64 0, .int .i64 0, .int .i64 0, .int .i64 0, .bool false, .int .i64 (cl 0)] by rw [hw]; exact Blk.row_far HXa22.out (Ne.symm HNn4a.out) _)
    clear HXa22
    have HXb22 := Lib.hid (show Blk w10 bb 88 #[.int .i64 0, .int .i64 0, .int .i64 0, .int .i64 0, .int .i64 0, .int .i64 0, .int .i64 0, .int .i64 0, .int .i64 0, .int .i64 0, .int .i64 0, .int .i64 0, .int .i64 0, .int .i64 2, .int .i64 9, .int .i64 1073741824, .int .i64 1073741824, .int .i64 4, .int .i64 3, .int .i64 (9 % 65536), .slice none 0 0, .int .i64 0, .int .i64 0, .int .i64 0, .int .i64 0, .bool false, .int .i64 (cl 0)] by rw [hw]; exact Blk.row_far HXb2.out (Ne.symm HNn4b.out) _)
    clear HXb2
    have hHeld3 := HKS.out.at_ w10 ⟨by rw [hw]; exact Since.setRow hHeld.1 HGn4.out _, by rw [hw]; exact Blk.row_far (hHeld.2) (Ne.symm HNn4n3.out) _⟩
    refine hK.out _ _ hHeld3 (fun hHeld2 => ?_)
    clear HXn4 hK K hHeld hHeld3 hw
    have hHeld := hHeld2
    clear hHeld2
    (try simp only [Act.put, sA, sB, sC])
    refine wpAnyH_done (by kernel_rfl) ?_ _
    have HSd3 := Lib.hid hHeld.1
    have HBn3d3 := Lib.hid (hHeld.2)
    clear hHeld HRK HKS HS6 HBn36
    go_wp2_with fail
    go_meet
    case rel => exact Lib.hid ⟨ba, bb, bn4, rfl, HSd3.out, HBn3d3.out, HXa222.out, HXb22.out, HXn42.out, HGa.out, HNan3.out, HGb.out, HNbn3.out, HNba.out, HGn4.out, HNn4n3.out, HNn4a.out, HNn4b.out⟩
   case g3_b1_5b =>
    rw [if_pos (by rfl)]
    refine wp_new (fun b => .pointer (some ⟨b, 0, none⟩)) 28 #[.pointer none, .pointer none] (by rintro b rfl; first | rfl | kernel_rfl) ?_
    intro bn4 w8 hge hB hb
    refine hK.out _ _ (by (apply HRK.out; exact hb; exact hHeld)) (fun hHeld2 => ?_)
    have HNn4a := Lib.hid (show bn4 ≠ ba by have := Blk.lt HXa.out; omega)
    have HXa2 := Lib.hid (keep_blk hb HXa.out)
    clear HXa
    have HNn4n3 := Lib.hid (show bn4 ≠ bn3 by have := Blk.lt (hHeld.2); (try simp at this); (try simp at hge); omega)
    have HGn4 := Lib.hid (show w.heap.size ≤ bn4 by have := Since.size hHeld.1; (try simp at this); (try simp at hge); omega)
    have HXn4 := Lib.hid hB
    clear hB
    clear hge
    clear hK K hHeld hb
    have hHeld := hHeld2
    clear hHeld2
    (try simp only [Act.put, sA, sB, sC])
    refine wpAnyH_ready (rs := [3]) (by kernel_rfl) (by simp) ?_
    refine AllReadyH.cons (o := ?o3_b1b5_3) ?h3_b1b5_3 (fun K hK => ?_) AllReadyH.nil
    case h3_b1b5_3 => (first | (simp only [gA, gB, gC]; done) | (simp only [gA, gB, gC]; exact rfl))
    (try go_simp)
    refine (newA cO 3 9 0 _).mono ?_
    rintro e w9 ⟨bb, rfl, hge, hB, hb⟩
    (try go_wp2_with fail)
    refine hK.out _ _ (by (apply HRK.out; exact hb; exact hHeld)) (fun hHeld2 => ?_)
    have HNba := Lib.hid (show bb ≠ ba by have := Blk.lt HXa2.out; omega)
    have HNbn4 := Lib.hid (show bb ≠ bn4 by have := Blk.lt HXn4.out; omega)
    have HXa22 := Lib.hid (keep_blk hb HXa2.out)
    clear HXa2
    have HXn42 := Lib.hid (keep_blk hb HXn4.out)
    clear HXn4
    have HNbn3 := Lib.hid (show bb ≠ bn3 by have := Blk.lt (hHeld.2); (try simp at this); (try simp at hge); omega)
    have HGb := Lib.hid (show w.heap.size ≤ bb by have := Since.size hHeld.1; (try simp at this); (try simp at hge); omega)
    have HXb := Lib.hid hB
    clear hB
    clear hge
    clear hK K hHeld hb
    have hHeld := hHeld2
    clear hHeld2
    (try simp only [Act.put, sA, sB, sC])
    refine tkQ 4 (.agg #[.pointer (some ⟨ba, 0, none⟩), .pointer (some ⟨bb, 0, none⟩)]) hHeld (he := by intro w hSw; kernel_rfl) (h := ?_)
    (try simp only [Act.put, sA, sB, sC])
    refine wpAnyH_ready (rs := [6]) (by kernel_rfl) (by simp) ?_
    refine AllReadyH.cons (o := ?o3_b1b5_6) ?h3_b1b5_6 (fun K hK => ?_) AllReadyH.nil
    case h3_b1b5_6 => (first | (simp only [gA, gB, gC]; done) | (simp only [gA, gB, gC]; exact rfl))
    rw [if_pos (by rfl)]
    refine wp_st_row 28 _ _ rfl #[.pointer (some ⟨ba, 0, none⟩), .pointer (some ⟨bb, 0, none⟩)] rfl rfl (HasRow.of HXn42.out rfl) rfl (by simp [Value.oneCell']) (by kernel_rfl) ?_
    intro w10 hw
    have HXn422 := Lib.hid (show Blk w10 bn4 28 #[.pointer (some ⟨ba, 0, none⟩), .pointer (some ⟨bb, 0, none⟩)] by rw [hw]; exact Blk.row HXn42.out _)
    have HXa222 := Lib.hid (show Blk w10 ba 88 #[.int .i64 0, .int .i64 0, .int .i64 0, .int .i64 0, .int .i64 0, .int .i64 0, .int .i64 0, .int .i64 0, .int .i64 0, .int .i64 0, .int .i64 0, .int .i64 0, .int .i64 0, .int .i64 2, .int .i64 9, .int .i64 1073741824, .int .i64 1073741824, .int .i64 4, .int .i64 3, .int .i64 (9 % 65536), .slice none 0 0, .int .i64 0, .int .i64 0, .int .i64 0, .int .i64 0, .bool false, .int .i64 (cl 0)] by rw [hw]; exact Blk.row_far HXa22.out (Ne.symm HNn4a.out) _)
    clear HXa22
    have HXb2 := Lib.hid (show Blk w10 bb 88 #[.int .i64 0, .int .i64 0, .int .i64 0, .int .i64 0, .int .i64 0, .int .i64 0, .int .i64 0, .int .i64 0, .int .i64 0, .int .i64 0, .int .i64 0, .int .i64 0, .int .i64 0, .int .i64 2, .int .i64 9, .int .i64 1073741824, .int .i64 1073741824, .int .i64 4, .int .i64 3, .int .i64 (9 % 65536), .slice none 0 0, .int .i64 0, .int .i64 0, .int .i64 0, .int .i64 0, .bool false, .int .i64 (cl 0)] by rw [hw]; exact Blk.row_far HXb.out HNbn4.out _)
    clear HXb
    have hHeld3 := HKS.out.at_ w10 ⟨by rw [hw]; exact Since.setRow hHeld.1 HGn4.out _, by rw [hw]; exact Blk.row_far (hHeld.2) (Ne.symm HNn4n3.out) _⟩
    refine hK.out _ _ hHeld3 (fun hHeld2 => ?_)
    clear HXn42 hK K hHeld hHeld3 hw
    have hHeld := hHeld2
    clear hHeld2
    (try simp only [Act.put, sA, sB, sC])
    refine wpAnyH_done (by kernel_rfl) ?_ _
    have HSd3v2 := Lib.hid hHeld.1
    have HBn3d3v2 := Lib.hid (hHeld.2)
    clear hHeld HRK HKS HS6 HBn36
    go_wp2_with fail
    go_meet
    case rel => exact Lib.hid ⟨ba, bb, bn4, rfl, HSd3v2.out, HBn3d3v2.out, HXa222.out, HXb2.out, HXn422.out, HGa.out, HNan3.out, HGb.out, HNbn3.out, HNba.out, HGn4.out, HNn4n3.out, HNn4a.out, (Ne.symm HNbn4.out)⟩
  case g3__5b =>
   rw [if_pos (by rfl)]
   refine wp_new (fun b => .pointer (some ⟨b, 0, none⟩)) 28 #[.pointer none, .pointer none] (by rintro b rfl; first | rfl | kernel_rfl) ?_
   intro bn4 w7 hge hB hb
   refine hK.out _ _ (by (apply HRK.out; exact hb; exact hHeld)) (fun hHeld2 => ?_)
   have HNn4n3 := Lib.hid (show bn4 ≠ bn3 by have := Blk.lt (hHeld.2); (try simp at this); (try simp at hge); omega)
   have HGn4 := Lib.hid (show w.heap.size ≤ bn4 by have := Since.size hHeld.1; (try simp at this); (try simp at hge); omega)
   have HXn4 := Lib.hid hB
   clear hB
   clear hge
   clear hK K hHeld hb
   have hHeld := hHeld2
   clear hHeld2
   (try simp only [Act.put, sA, sB, sC])
   refine wpAnyH_ready (rs := [1]) (by kernel_rfl) (by simp) ?_
   refine AllReadyH.cons (o := ?o3_b5_1) ?h3_b5_1 (fun K hK => ?_) AllReadyH.nil
   case h3_b5_1 => (first | (simp only [gA, gB, gC]; done) | (simp only [gA, gB, gC]; exact rfl))
   (try go_simp)
   refine (newA cO 3 9 0 _).mono ?_
   rintro e w8 ⟨ba, rfl, hge, hB, hb⟩
   (try go_wp2_with fail)
   refine hK.out _ _ (by (apply HRK.out; exact hb; exact hHeld)) (fun hHeld2 => ?_)
   have HNan4 := Lib.hid (show ba ≠ bn4 by have := Blk.lt HXn4.out; omega)
   have HXn42 := Lib.hid (keep_blk hb HXn4.out)
   clear HXn4
   have HNan3 := Lib.hid (show ba ≠ bn3 by have := Blk.lt (hHeld.2); (try simp at this); (try simp at hge); omega)
   have HGa := Lib.hid (show w.heap.size ≤ ba by have := Since.size hHeld.1; (try simp at this); (try simp at hge); omega)
   have HXa := Lib.hid hB
   clear hB
   clear hge
   clear hK K hHeld hb
   have hHeld := hHeld2
   clear hHeld2
   (try simp only [Act.put, sA, sB, sC])
   refine wpAnyH_ready (rs := [3]) (by kernel_rfl) (by simp) ?_
   refine AllReadyH.cons (o := ?o3_b5_3) ?h3_b5_3 (fun K hK => ?_) AllReadyH.nil
   case h3_b5_3 => (first | (simp only [gA, gB, gC]; done) | (simp only [gA, gB, gC]; exact rfl))
   (try go_simp)
   refine (newA cO 3 9 0 _).mono ?_
   rintro e w9 ⟨bb, rfl, hge, hB, hb⟩
   (try go_wp2_with fail)
   refine hK.out _ _ (by (apply HRK.out; exact hb; exact hHeld)) (fun hHeld2 => ?_)
   have HNbn4 := Lib.hid (show bb ≠ bn4 by have := Blk.lt HXn42.out; omega)
   have HNba := Lib.hid (show bb ≠ ba by have := Blk.lt HXa.out; omega)
   have HXn422 := Lib.hid (keep_blk hb HXn42.out)
   clear HXn42
   have HXa2 := Lib.hid (keep_blk hb HXa.out)
   clear HXa
   have HNbn3 := Lib.hid (show bb ≠ bn3 by have := Blk.lt (hHeld.2); (try simp at this); (try simp at hge); omega)
   have HGb := Lib.hid (show w.heap.size ≤ bb by have := Since.size hHeld.1; (try simp at this); (try simp at hge); omega)
   have HXb := Lib.hid hB
   clear hB
   clear hge
   clear hK K hHeld hb
   have hHeld := hHeld2
   clear hHeld2
   (try simp only [Act.put, sA, sB, sC])
   refine tkQ 4 (.agg #[.pointer (some ⟨ba, 0, none⟩), .pointer (some ⟨bb, 0, none⟩)]) hHeld (he := by intro w hSw; kernel_rfl) (h := ?_)
   (try simp only [Act.put, sA, sB, sC])
   refine wpAnyH_ready (rs := [6]) (by kernel_rfl) (by simp) ?_
   refine AllReadyH.cons (o := ?o3_b5_6) ?h3_b5_6 (fun K hK => ?_) AllReadyH.nil
   case h3_b5_6 => (first | (simp only [gA, gB, gC]; done) | (simp only [gA, gB, gC]; exact rfl))
   rw [if_pos (by rfl)]
   refine wp_st_row 28 _ _ rfl #[.pointer (some ⟨ba, 0, none⟩), .pointer (some ⟨bb, 0, none⟩)] rfl rfl (HasRow.of HXn422.out rfl) rfl (by simp [Value.oneCell']) (by kernel_rfl) ?_
   intro w10 hw
   have HXn4222 := Lib.hid (show Blk w10 bn4 28 #[.pointer (some ⟨ba, 0, none⟩), .pointer (some ⟨bb, 0, none⟩)] by rw [hw]; exact Blk.row HXn422.out _)
   have HXa22 := Lib.hid (show Blk w10 ba 88 #[.int .i64 0, .int .i64 0, .int .i64 0, .int .i64 0, .int .i64 0, .int .i64 0, .int .i64 0, .int .i64 0, .int .i64 0, .int .i64 0, .int .i64 0, .int .i64 0, .int .i64 0, .int .i64 2, .int .i64 9, .int .i64 1073741824, .int .i64 1073741824, .int .i64 4, .int .i64 3, .int .i64 (9 % 65536), .slice none 0 0, .int .i64 0, .int .i64 0, .int .i64 0, .int .i64 0, .bool false, .int .i64 (cl 0)] by rw [hw]; exact Blk.row_far HXa2.out HNan4.out _)
   clear HXa2
   have HXb2 := Lib.hid (show Blk w10 bb 88 #[.int .i64 0, .int .i64 0, .int .i64 0, .int .i64 0, .int .i64 0, .int .i64 0, .int .i64 0, .int .i64 0, .int .i64 0, .int .i64 0, .int .i64 0, .int .i64 0, .int .i64 0, .int .i64 2, .int .i64 9, .int .i64 1073741824, .int .i64 1073741824, .int .i64 4, .int .i64 3, .int .i64 (9 % 65536), .slice none 0 0, .int .i64 0, .int .i64 0, .int .i64 0, .int .i64 0, .bool false, .int .i64 (cl 0)] by rw [hw]; exact Blk.row_far HXb.out HNbn4.out _)
   clear HXb
   have hHeld3 := HKS.out.at_ w10 ⟨by rw [hw]; exact Since.setRow hHeld.1 HGn4.out _, by rw [hw]; exact Blk.row_far (hHeld.2) (Ne.symm HNn4n3.out) _⟩
   refine hK.out _ _ hHeld3 (fun hHeld2 => ?_)
   clear HXn422 hK K hHeld hHeld3 hw
   have hHeld := hHeld2
   clear hHeld2
   (try simp only [Act.put, sA, sB, sC])
   refine wpAnyH_done (by kernel_rfl) ?_ _
   have HSd3v3 := Lib.hid hHeld.1
   have HBn3d3v3 := Lib.hid (hHeld.2)
   clear hHeld HRK HKS HS6 HBn36
   go_wp2_with fail
   go_meet
   case rel => exact Lib.hid ⟨ba, bb, bn4, rfl, HSd3v3.out, HBn3d3v3.out, HXa22.out, HXb2.out, HXn4222.out, HGa.out, HNan3.out, HGb.out, HNbn3.out, HNba.out, HGn4.out, HNn4n3.out, (Ne.symm HNan4.out), (Ne.symm HNbn4.out)⟩
 case rest =>
  clear HS6 HBn36
  obtain ⟨ba, bb, bn4, rfl, g0, g1, g2, g3, g4, g5, g6, g7, g8, g9, g10, g11, g12, g13⟩ := hcut.out
  clear hcut
  have HS56 := Lib.hid g0
  have HBn356 := Lib.hid g1
  have HBa56 := Lib.hid g2
  have HBb56 := Lib.hid g3
  have HBn456 := Lib.hid g4
  have HGa := Lib.hid g5
  have HNan3 := Lib.hid g6
  have HGb := Lib.hid g7
  have HNbn3 := Lib.hid g8
  have HNba := Lib.hid g9
  have HGn4 := Lib.hid g10
  have HNn4n3 := Lib.hid g11
  have HNn4a := Lib.hid g12
  have HNn4b := Lib.hid g13
  clear g0 g1 g2 g3 g4 g5 g6 g7 g8 g9 g10 g11 g12 g13
  have HFa0 := Lib.hid (show LO w.heap.size ba (kO 0 0 0 0 false 0) (mo 0 0) [ba] wc from ⟨HGa.out, none, 0, rfl, HBa56.out, World.ownsRow_nil _ _ _ _⟩)
  have HFb0 := Lib.hid (show LO w.heap.size bb (kO 0 0 0 0 false 0) (mo 0 0) [bb] wc from ⟨HGb.out, none, 0, rfl, HBb56.out, World.ownsRow_nil _ _ _ _⟩)
  have HDab := Lib.hid (show ∀ g ∈ [ba], g ∉ [bb] from fun g hg h => by have q1 := List.mem_singleton.1 hg; have q2 := List.mem_singleton.1 h; exact (Ne.symm HNba.out) (q1.symm.trans q2))
  go_upto_region 4 with fail
  refine wp_region_lit ?_
  refine wpList_wp (by rfl) (fun K hK => ?_)
  refine wp_new (fun b => .pointer (some ⟨b, 0, none⟩)) 30 #[.slice none 0 0, .slice none 0 0] (by rintro b rfl; first | rfl | kernel_rfl) ?_
  intro bn5 w57 hge hB hb
  refine hK.out _ _ ?_
  clear hK K
  (try simp only [Act.put, sA, sB, sC])
  have HNn5n3 := Lib.hid (show bn5 ≠ bn3 by have := Blk.lt HBn356.out; omega)
  have HNn5n4 := Lib.hid (show bn5 ≠ bn4 by have := Blk.lt HBn456.out; omega)
  have HGn5 := Lib.hid (show w.heap.size ≤ bn5 by have := Since.size HS56.out; omega)
  have HIn5_a := Lib.hid (LO.far HFa0.out hge)
  have HIn5_b := Lib.hid (LO.far HFb0.out hge)
  have HS57 := Lib.hid (Since.trans HS56.out hb)
  have HBn357 := Lib.hid (keep_blk hb HBn356.out)
  have HBn457 := Lib.hid (keep_blk hb HBn456.out)
  have HFa57 := Lib.hid (LO.keep hb HFa0.out)
  have HFb57 := Lib.hid (LO.keep hb HFb0.out)
  clear HS56 HBn356 HBn456 HFa0 HFb0
  clear hb hge
  have HBn557 := Lib.hid hB
  clear hB
  refine wpList_nil ?_
  go_upto_region 5 with fail
  refine wp_region_lit ?_
  refine wpList_wp (by rfl) (fun K hK => ?_)
  refine wp_new (fun b => .pointer (some ⟨b, 0, none⟩)) 31 #[.int .i64 0, .int .i64 0] (by rintro b rfl; first | rfl | kernel_rfl) ?_
  intro bn6 w58 hge hB hb
  refine hK.out _ _ ?_
  clear hK K
  (try simp only [Act.put, sA, sB, sC])
  have HNn6n3 := Lib.hid (show bn6 ≠ bn3 by have := Blk.lt HBn357.out; omega)
  have HNn6n4 := Lib.hid (show bn6 ≠ bn4 by have := Blk.lt HBn457.out; omega)
  have HNn6n5 := Lib.hid (show bn6 ≠ bn5 by have := Blk.lt HBn557.out; omega)
  have HGn6 := Lib.hid (show w.heap.size ≤ bn6 by have := Since.size HS57.out; omega)
  have HIn6_a := Lib.hid (LO.far HFa57.out hge)
  have HIn6_b := Lib.hid (LO.far HFb57.out hge)
  have HS58 := Lib.hid (Since.trans HS57.out hb)
  have HBn358 := Lib.hid (keep_blk hb HBn357.out)
  have HBn458 := Lib.hid (keep_blk hb HBn457.out)
  have HBn558 := Lib.hid (keep_blk hb HBn557.out)
  have HFa58 := Lib.hid (LO.keep hb HFa57.out)
  have HFb58 := Lib.hid (LO.keep hb HFb57.out)
  clear HS57 HBn357 HBn457 HBn557 HFa57 HFb57
  clear hb hge
  have HBn658 := Lib.hid hB
  clear hB
  refine wpList_wp (by rfl) (fun K hK => ?_)
  refine wp_new (fun b => .pointer (some ⟨b, 0, none⟩)) 31 #[.int .i64 0, .int .i64 0] (by rintro b rfl; first | rfl | kernel_rfl) ?_
  intro bn7 w59 hge hB hb
  refine hK.out _ _ ?_
  clear hK K
  (try simp only [Act.put, sA, sB, sC])
  have HNn7n3 := Lib.hid (show bn7 ≠ bn3 by have := Blk.lt HBn358.out; omega)
  have HNn7n4 := Lib.hid (show bn7 ≠ bn4 by have := Blk.lt HBn458.out; omega)
  have HNn7n5 := Lib.hid (show bn7 ≠ bn5 by have := Blk.lt HBn558.out; omega)
  have HNn7n6 := Lib.hid (show bn7 ≠ bn6 by have := Blk.lt HBn658.out; omega)
  have HGn7 := Lib.hid (show w.heap.size ≤ bn7 by have := Since.size HS58.out; omega)
  have HIn7_a := Lib.hid (LO.far HFa58.out hge)
  have HIn7_b := Lib.hid (LO.far HFb58.out hge)
  have HS59 := Lib.hid (Since.trans HS58.out hb)
  have HBn359 := Lib.hid (keep_blk hb HBn358.out)
  have HBn459 := Lib.hid (keep_blk hb HBn458.out)
  have HBn559 := Lib.hid (keep_blk hb HBn558.out)
  have HBn659 := Lib.hid (keep_blk hb HBn658.out)
  have HFa59 := Lib.hid (LO.keep hb HFa58.out)
  have HFb59 := Lib.hid (LO.keep hb HFb58.out)
  clear HS58 HBn358 HBn458 HBn558 HBn658 HFa58 HFb58
  clear hb hge
  have HBn759 := Lib.hid hB
  clear hB
  refine wpList_nil ?_
  go_upto_region 6 with fail
  refine wp_region_lit ?_
  refine tkL (.int .i64 0) (h := ?_)
  (try simp only [Act.put, sA, sB, sC])
  refine wpList_nil ?_
  go_wp2_with fail
  have HFre0 := Lib.hid (show w59.ownsRow w.heap.size 38 9 (.slice none ([] : List PkV).length 0) ([] : List PkV).length (rowsOf pkL []) from World.ownsRow_nil _ _ _ _)
  have HFro0 := Lib.hid (show w59.ownsRow w.heap.size 38 9 (.slice none ([] : List PkV).length 0) ([] : List PkV).length (rowsOf pkL []) from World.ownsRow_nil _ _ _ _)
  have HO0 := Lib.hid (show OrI 0 0 0 0 0 0 0 [] [] from ⟨⟨Nat.le_refl _, by omega, Nat.le_refl _⟩, ⟨Nat.le_refl _, by omega, Nat.le_refl _⟩, ⟨Nat.le_refl _, Nat.le_refl _, Nat.le_refl _, Nat.le_refl _⟩, (fun _ h => by simp at h), (fun _ h => by simp at h)⟩)
  have HDR0 := Lib.hid (show ∀ g ∈ blkOf none, g ∉ blkOf none from fun g h => by simp [blkOf] at h)
  refine wp_uloop (ds := []) (fun n fr wr => ∃ (e o i b s g c t h : Nat) (st du st2 du2 he he2 : Int) (an an2 : Bool) (qa qb : Nat) (Sa Sb : List Nat) (ps qs : List PkV) (A1 A2 : Option Addr) (c1 c2 : Nat), e + o = 1 ∧ i ≤ 400 ∧ i ≤ len ∧ (400 - i) = n ∧ Fits fr 191 [(0, .slice A len cap), (2, .bool false), (3, .pointer (some ⟨bn3, 0, none⟩)), (4, .pointer (some ⟨bn4, 0, none⟩)), (5, .pointer (some ⟨bn5, 0, none⟩)), (6, .pointer (some ⟨bn6, 0, none⟩)), (7, .pointer (some ⟨bn7, 0, none⟩)), (8, .int .i64 (i : Int))] ∧ Hid (OrI i b s g c t h ps qs ∧ ((0 ≤ st ∧ st ≤ (i : Int)) ∧ 0 ≤ st2 ∧ st2 ≤ (i : Int)) ∧ (∀ x ∈ Sa, x ∉ Sb) ∧ (∀ x ∈ blkOf A1, x ∉ blkOf A2) ∧ Since w wr ∧ Blk wr bn4 28 (pr e (.pointer (some ⟨qa, 0, none⟩)) (.pointer (some ⟨qb, 0, none⟩))) ∧ Blk wr bn5 30 (pr e (.slice A1 ps.length c1) (.slice A2 qs.length c2)) ∧ Blk wr bn6 31 (pr e (.int .i64 (s : Int)) (.int .i64 (t : Int))) ∧ Blk wr bn7 31 (pr e (.int .i64 (g : Int)) (.int .i64 (h : Int))) ∧ LO w.heap.size qa (kO b st du g an he) (mo b s) Sa wr ∧ LO w.heap.size qb (kO c st2 du2 h an2 he2) (mo c t) Sb wr ∧ (wr).ownsRow w.heap.size 38 9 (.slice A1 ps.length c1) ps.length (rowsOf pkL ps) ∧ (wr).ownsRow w.heap.size 38 9 (.slice A2 qs.length c2) qs.length (rowsOf pkL qs))) (400 - 0) ?start59 ?round59
  case start59 => exact ⟨0, 1, 0, 0, 0, 0, 0, 0, 0, 0, 0, 0, 0, 0, 0, false, false, ba, bb, [ba], [bb], [], [], none, none, 0, 0, rfl, (by omega), (by omega), rfl, ⟨rfl, rfl, rfl, rfl, rfl, rfl, rfl, rfl, rfl, trivial⟩, Lib.hid ⟨HO0.out, ⟨⟨Int.le_refl _, by omega⟩, Int.le_refl _, by omega⟩, HDab.out, HDR0.out, HS59.out, HBn459.out, HBn559.out, HBn659.out, HBn759.out, HFa59.out, HFb59.out, HFre0.out, HFro0.out⟩⟩
  case round59 =>
   intro n fr wr hR J1 K1 hJ1 hK1
   clear HS59 HBn459 HBn559 HBn659 HBn759 HFa59 HFb59 HFre0 HFro0
   obtain ⟨e, o, i, b, s, g, c, t, h, st, du, st2, du2, he, he2, an, an2, qa, qb, Sa, Sb, ps, qs, A1, A2, c1, c2, heo, hi4, hil, hn, hF, HO⟩ := hR
   have HM := Lib.hid hn; clear hn
   obtain ⟨e0, e1, e2, e3, g0, g1, g2, g3, g4, g5, g6, g7, g8⟩ := HO.out
   clear HO
   have HI := Lib.hid e0
   have HST := Lib.hid e1
   have HDS := Lib.hid e2
   have HDR := Lib.hid e3
   have HS109 := Lib.hid g0
   have HBn4109 := Lib.hid g1
   have HBn5109 := Lib.hid g2
   have HBn6109 := Lib.hid g3
   have HBn7109 := Lib.hid g4
   have HFa109 := Lib.hid g5
   have HFb109 := Lib.hid g6
   have HFre109 := Lib.hid g7
   have HFro109 := Lib.hid g8
   clear e0 e1 e2 e3 g0 g1 g2 g3 g4 g5 g6 g7 g8
   obtain ⟨u, hu⟩ := hF.open_
   have hu2 := hu.trans (show _ = #[.slice A len cap, u 1, .bool false, .pointer (some ⟨bn3, 0, none⟩), .pointer (some ⟨bn4, 0, none⟩), .pointer (some ⟨bn5, 0, none⟩), .pointer (some ⟨bn6, 0, none⟩), .pointer (some ⟨bn7, 0, none⟩), .int .i64 (i : Int), u 9, u 10, u 11, u 12, u 13, u 14, u 15, u 16, u 17, u 18, u 19, u 20, u 21, u 22, u 23, u 24, u 25, u 26, u 27, u 28, u 29, u 30, u 31, u 32, u 33, u 34, u 35, u 36, u 37, u 38, u 39, u 40, u 41, u 42, u 43, u 44, u 45, u 46, u 47, u 48, u 49, u 50, u 51, u 52, u 53, u 54, u 55, u 56, u 57, u 58, u 59, u 60, u 61, u 62, u 63, u 64, u 65, u 66, u 67, u 68, u 69, u 70, u 71, u 72, u 73, u 74, u 75, u 76, u 77, u 78, u 79, u 80, u 81, u 82, u 83, u 84, u 85, u 86, u 87, u 88, u 89, u 90, u 91, u 92, u 93, u 94, u 95, u 96, u 97, u 98, u 99, u 100, u 101, u 102, u 103, u 104, u 105, u 106, u 107, u 108, u 109, u 110, u 111, u 112, u 113, u 114, u 115, u 116, u 117, u 118, u 119, u 120, u 121, u 122, u 123, u 124, u 125, u 126, u 127, u 128, u 129, u 130, u 131, u 132, u 133, u 134, u 135, u 136, u 137, u 138, u 139, u 140, u 141, u 142, u 143, u 144, u 145, u 146, u 147, u 148, u 149, u 150, u 151, u 152, u 153, u 154, u 155, u 156, u 157, u 158, u 159, u 160, u 161, u 162, u 163, u 164, u 165, u 166, u 167, u 168, u 169, u 170, u 171, u 172, u 173, u 174, u 175, u 176, u 177, u 178, u 179, u 180, u 181, u 182, u 183, u 184, u 185, u 186, u 187, u 188, u 189, u 190] by kernel_rfl)
   clear hu hF
   subst hu2
   have HEO := Lib.hid heo; have HI4 := Lib.hid hi4; have HIL := Lib.hid hil; clear heo hi4 hil HO0 HDab HDR0
   by_cases hcs : i < len
   rotate_left
   · have HLT := Lib.hid hcs; clear hcs
     go_upto_region 7 with fail
     refine wp_region_lit ?_
     refine tkL (.int .i64 (i : Int)) (h := ?_)
     (try simp only [Act.put, sA, sB, sC])
     refine tkL (.slice A len cap) (h := ?_)
     (try simp only [Act.put, sA, sB, sC])
     refine tkL (.int .i64 (len : Int)) (h := ?_)
     (try simp only [Act.put, sA, sB, sC])
     refine wpList_q (by rfl) (.bool false) ?he ?_
     case he => (have q0 := HLT.out; go_simp; (first | done | rfl | omega))
     (try simp only [Act.put, sA, sB, sC])
     refine tkL (.bool false) (h := ?_)
     (try simp only [Act.put, sA, sB, sC])
     refine wpList_no (by rfl) ?_
     (try simp only [Act.put, sA, sB, sC])
     refine wpList_no (by rfl) ?_
     (try simp only [Act.put, sA, sB, sC])
     refine tkL (.bool false) (h := ?_)
     (try simp only [Act.put, sA, sB, sC])
     refine wpList_nil ?_
     go_upto_region 34 with fail
     refine wp_region_lit ?_
     refine wpList_wp (by rfl) (fun K hK => ?_)
     (try go_simp)
     refine (ans _).mono ?_
     rintro e w110 ⟨rfl, hb⟩
     (try go_wp2_with fail)
     refine hK.out _ _ ?_
     clear hK K
     (try simp only [Act.put, sA, sB, sC])
     have HS110 := Lib.hid (Since.trans HS109.out hb)
     have HBn4110 := Lib.hid (keep_blk hb HBn4109.out)
     have HBn5110 := Lib.hid (keep_blk hb HBn5109.out)
     have HBn6110 := Lib.hid (keep_blk hb HBn6109.out)
     have HBn7110 := Lib.hid (keep_blk hb HBn7109.out)
     have HFa110 := Lib.hid (LO.keep hb HFa109.out)
     have HFb110 := Lib.hid (LO.keep hb HFb109.out)
     have HFre110 := Lib.hid (keep_own hb HFre109.out)
     have HFro110 := Lib.hid (keep_own hb HFro109.out)
     clear HS109 HBn4109 HBn5109 HBn6109 HBn7109 HFa109 HFb109 HFre109 HFro109
     clear hb
     refine tkL (.bool true) (h := ?_)
     (try simp only [Act.put, sA, sB, sC])
     refine wpList_nil ?_
     (try go_wp2_with fail)
     go_ret
     exact ⟨rfl, HS110.out⟩
   · have HLT := Lib.hid hcs; clear hcs
     by_cases hcs : i < 400
     rotate_left
     · have HL4 := Lib.hid hcs; clear hcs
       go_upto_region 7 with fail
       refine wp_region_lit ?_
       refine tkL (.int .i64 (i : Int)) (h := ?_)
       (try simp only [Act.put, sA, sB, sC])
       refine tkL (.slice A len cap) (h := ?_)
       (try simp only [Act.put, sA, sB, sC])
       refine tkL (.int .i64 (len : Int)) (h := ?_)
       (try simp only [Act.put, sA, sB, sC])
       refine wpList_q (by rfl) (.bool true) ?he ?_
       case he => (have q0 := HLT.out; go_simp; (first | done | rfl | omega))
       (try simp only [Act.put, sA, sB, sC])
       refine tkL (.bool true) (h := ?_)
       (try simp only [Act.put, sA, sB, sC])
       refine tkL (.int .i64 (i : Int)) (h := ?_)
       (try simp only [Act.put, sA, sB, sC])
       refine wpList_q (by rfl) (.bool false) ?he ?_
       case he => (have q0 := HL4.out; go_simp; (first | done | rfl | omega))
       (try simp only [Act.put, sA, sB, sC])
       refine tkL (.bool false) (h := ?_)
       (try simp only [Act.put, sA, sB, sC])
       refine wpList_nil ?_
       go_upto_region 34 with fail
       refine wp_region_lit ?_
       refine wpList_wp (by rfl) (fun K hK => ?_)
       (try go_simp)
       refine (ans _).mono ?_
       rintro e w110 ⟨rfl, hb⟩
       (try go_wp2_with fail)
       refine hK.out _ _ ?_
       clear hK K
       (try simp only [Act.put, sA, sB, sC])
       have HS110 := Lib.hid (Since.trans HS109.out hb)
       have HBn4110 := Lib.hid (keep_blk hb HBn4109.out)
       have HBn5110 := Lib.hid (keep_blk hb HBn5109.out)
       have HBn6110 := Lib.hid (keep_blk hb HBn6109.out)
       have HBn7110 := Lib.hid (keep_blk hb HBn7109.out)
       have HFa110 := Lib.hid (LO.keep hb HFa109.out)
       have HFb110 := Lib.hid (LO.keep hb HFb109.out)
       have HFre110 := Lib.hid (keep_own hb HFre109.out)
       have HFro110 := Lib.hid (keep_own hb HFro109.out)
       clear HS109 HBn4109 HBn5109 HBn6109 HBn7109 HFa109 HFb109 HFre109 HFro109
       clear hb
       refine tkL (.bool true) (h := ?_)
       (try simp only [Act.put, sA, sB, sC])
       refine wpList_nil ?_
       (try go_wp2_with fail)
       go_ret
       exact ⟨rfl, HS110.out⟩
     · have HL4 := Lib.hid hcs; clear hcs
       go_upto_region 7 with fail
       refine wp_region_lit ?_
       refine tkL (.int .i64 (i : Int)) (h := ?_)
       (try simp only [Act.put, sA, sB, sC])
       refine tkL (.slice A len cap) (h := ?_)
       (try simp only [Act.put, sA, sB, sC])
       refine tkL (.int .i64 (len : Int)) (h := ?_)
       (try simp only [Act.put, sA, sB, sC])
       refine wpList_q (by rfl) (.bool true) ?he ?_
       case he => (have q0 := HLT.out; go_simp; (first | done | rfl | omega))
       (try simp only [Act.put, sA, sB, sC])
       refine tkL (.bool true) (h := ?_)
       (try simp only [Act.put, sA, sB, sC])
       refine tkL (.int .i64 (i : Int)) (h := ?_)
       (try simp only [Act.put, sA, sB, sC])
       refine wpList_q (by rfl) (.bool true) ?he ?_
       case he => (have q0 := HL4.out; go_simp; (first | done | rfl | omega))
       (try simp only [Act.put, sA, sB, sC])
       refine tkL (.bool true) (h := ?_)
       (try simp only [Act.put, sA, sB, sC])
       refine wpList_nil ?_
       obtain ⟨bm, om, hAm, hbm, hcm⟩ := Go.Proofs.Ytlihhjcneedgnaa.Mv.MV.at_ HX.out HLT.out
       have HCM := Lib.hid (hcm i HLT.out); clear hcm hbm
       subst hAm
       obtain ⟨e2, he2', hea⟩ := and1 (vs i).e
       have HE2 := Lib.hid (And.intro he2' hea); clear he2' hea
       go_upto_region 9 with fail
       refine wp_ucut (ds := []) (fun fr wx => ∃ (e o b s g c t h : Nat) (st du st2 du2 he he2 : Int) (an an2 : Bool) (qa qb : Nat) (Sa Sb : List Nat) (ps qs : List PkV) (A1 A2 : Option Addr) (c1 c2 : Nat), Fits fr 191 [(0, .slice (some ⟨bm, om, none⟩) len cap), (2, .bool false), (3, .pointer (some ⟨bn3, 0, none⟩)), (4, .pointer (some ⟨bn4, 0, none⟩)), (5, .pointer (some ⟨bn5, 0, none⟩)), (6, .pointer (some ⟨bn6, 0, none⟩)), (7, .pointer (some ⟨bn7, 0, none⟩)), (8, .int .i64 (i : Int)), (9, .int .i64 (e : Int))] ∧ Hid (e + o = 1 ∧ OrI i b s g c t h ps qs ∧ ((0 ≤ st ∧ st ≤ (i : Int)) ∧ 0 ≤ st2 ∧ st2 ≤ (i : Int)) ∧ (∀ x ∈ Sa, x ∉ Sb) ∧ (∀ x ∈ blkOf A1, x ∉ blkOf A2) ∧ Since w wx ∧ Blk wx bn4 28 (pr e (.pointer (some ⟨qa, 0, none⟩)) (.pointer (some ⟨qb, 0, none⟩))) ∧ Blk wx bn5 30 (pr e (.slice A1 ps.length c1) (.slice A2 qs.length c2)) ∧ Blk wx bn6 31 (pr e (.int .i64 (s : Int)) (.int .i64 (t : Int))) ∧ Blk wx bn7 31 (pr e (.int .i64 (g : Int)) (.int .i64 (h : Int))) ∧ LO w.heap.size qa (kO b st du g an he) (mo b s) Sa wx ∧ LO w.heap.size qb (kO c st2 du2 h an2 he2) (mo c t) Sb wx ∧ (wx).ownsRow w.heap.size 38 9 (.slice A1 ps.length c1) ps.length (rowsOf pkL ps) ∧ (wx).ownsRow w.heap.size 38 9 (.slice A2 qs.length c2) qs.length (rowsOf pkL qs))) ?rest2 ?first2
       case first2 =>
        intro J2 K2 hJ2 hK2
        refine wp_region_lit ?_
        refine tkL (.slice (some ⟨bm, om, none⟩) len cap) (h := ?_)
        (try simp only [Act.put, sA, sB, sC])
        refine tkL (.int .i64 (i : Int)) (h := ?_)
        (try simp only [Act.put, sA, sB, sC])
        refine wpList_q (by rfl) (.pointer (some ⟨bm, (om + i * 3), none⟩)) ?he ?_
        case he => exact exec_ix (i := i) (s := 3) 22 33 _ _ rfl rfl rfl rfl HLT.out Try.underlying22 (by kernel_rfl)
        (try simp only [Act.put, sA, sB, sC])
        refine tkL (.pointer (some ⟨bm, (om + i * 3 + 1), none⟩)) (h := ?_)
        (try simp only [Act.put, sA, sB, sC])
        refine wpList_q (by rfl) (.int .i64 ((vs i).e)) ?he ?_
        case he => exact exec_at 3 _ _ (keep_cell HS109.out (HCM.out 1 _ rfl)) rfl rfl Try.underlying3 rfl
        (try simp only [Act.put, sA, sB, sC])
        refine wpList_q (by rfl) (.int .i64 (e2 : Int)) ?he ?_
        case he => (have q := HE2.out.2; go_simp; (first | done | exact q | (rw [q]; done) | (simp [q]; done)))
        (try simp only [Act.put, sA, sB, sC])
        refine tkL (.int .i64 (e2 : Int)) (h := ?_)
        (try simp only [Act.put, sA, sB, sC])
        refine wpList_nil ?_
        rcases (show e2 = e ∨ e2 = o from by have q1 := HE2.out.1; have q2 := HEO.out; omega) with hq | hq
        · skip
          go_wp2_with fail
          refine Met.intro ?_
          exact hJ2 _ _ ⟨e, o, b, s, g, c, t, h, st, du, st2, du2, he, he2, an, an2, qa, qb, Sa, Sb, ps, qs, A1, A2, c1, c2, ⟨rfl, rfl, rfl, rfl, rfl, rfl, rfl, rfl, rfl, (by rw [hq]; rfl), trivial⟩, Lib.hid ⟨HEO.out, HI.out, HST.out, HDS.out, HDR.out, HS109.out, HBn4109.out, HBn5109.out, HBn6109.out, HBn7109.out, HFa109.out, HFb109.out, HFre109.out, HFro109.out⟩⟩
        · skip
          go_wp2_with fail
          refine Met.intro ?_
          exact hJ2 _ _ ⟨o, e, c, t, h, b, s, g, st2, du2, st, du, he2, he, an2, an, qb, qa, Sb, Sa, qs, ps, A2, A1, c2, c1, ⟨rfl, rfl, rfl, rfl, rfl, rfl, rfl, rfl, rfl, (by rw [hq]; rfl), trivial⟩, Lib.hid ⟨(by have := HEO.out; omega), HI.out.swap, ⟨HST.out.2, HST.out.1⟩, (fun g hg h => HDS.out g h hg), (fun g hg h => HDR.out g h hg), HS109.out, (by rw [← pr_swap HEO.out]; exact HBn4109.out), (by rw [← pr_swap HEO.out]; exact HBn5109.out), (by rw [← pr_swap HEO.out]; exact HBn6109.out), (by rw [← pr_swap HEO.out]; exact HBn7109.out), HFb109.out, HFa109.out, HFro109.out, HFre109.out⟩⟩
       case rest2 =>
        intro fr wc hR
        clear HS109 HBn4109 HBn5109 HBn6109 HBn7109 HFa109 HFb109 HFre109 HFro109
        obtain ⟨e, o, b, s, g, c, t, h, st, du, st2, du2, he, he2, an, an2, qa, qb, Sa, Sb, ps, qs, A1, A2, c1, c2, hF, HO⟩ := hR
        obtain ⟨e0, e1, e2, e3, e4, g0, g1, g2, g3, g4, g5, g6, g7, g8⟩ := HO.out
        clear HO
        have HEOq := Lib.hid e0
        have HIq := Lib.hid e1
        have HSTq := Lib.hid e2
        have HDSq := Lib.hid e3
        have HDRq := Lib.hid e4
        have HS159 := Lib.hid g0
        have HBn4159 := Lib.hid g1
        have HBn5159 := Lib.hid g2
        have HBn6159 := Lib.hid g3
        have HBn7159 := Lib.hid g4
        have HFa159 := Lib.hid g5
        have HFb159 := Lib.hid g6
        have HFre159 := Lib.hid g7
        have HFro159 := Lib.hid g8
        clear e0 e1 e2 e3 e4 g0 g1 g2 g3 g4 g5 g6 g7 g8
        obtain ⟨u, hu⟩ := hF.open_
        have hu2 := hu.trans (show _ = #[.slice (some ⟨bm, om, none⟩) len cap, u 1, .bool false, .pointer (some ⟨bn3, 0, none⟩), .pointer (some ⟨bn4, 0, none⟩), .pointer (some ⟨bn5, 0, none⟩), .pointer (some ⟨bn6, 0, none⟩), .pointer (some ⟨bn7, 0, none⟩), .int .i64 (i : Int), .int .i64 (e : Int), u 10, u 11, u 12, u 13, u 14, u 15, u 16, u 17, u 18, u 19, u 20, u 21, u 22, u 23, u 24, u 25, u 26, u 27, u 28, u 29, u 30, u 31, u 32, u 33, u 34, u 35, u 36, u 37, u 38, u 39, u 40, u 41, u 42, u 43, u 44, u 45, u 46, u 47, u 48, u 49, u 50, u 51, u 52, u 53, u 54, u 55, u 56, u 57, u 58, u 59, u 60, u 61, u 62, u 63, u 64, u 65, u 66, u 67, u 68, u 69, u 70, u 71, u 72, u 73, u 74, u 75, u 76, u 77, u 78, u 79, u 80, u 81, u 82, u 83, u 84, u 85, u 86, u 87, u 88, u 89, u 90, u 91, u 92, u 93, u 94, u 95, u 96, u 97, u 98, u 99, u 100, u 101, u 102, u 103, u 104, u 105, u 106, u 107, u 108, u 109, u 110, u 111, u 112, u 113, u 114, u 115, u 116, u 117, u 118, u 119, u 120, u 121, u 122, u 123, u 124, u 125, u 126, u 127, u 128, u 129, u 130, u 131, u 132, u 133, u 134, u 135, u 136, u 137, u 138, u 139, u 140, u 141, u 142, u 143, u 144, u 145, u 146, u 147, u 148, u 149, u 150, u 151, u 152, u 153, u 154, u 155, u 156, u 157, u 158, u 159, u 160, u 161, u 162, u 163, u 164, u 165, u 166, u 167, u 168, u 169, u 170, u 171, u 172, u 173, u 174, u 175, u 176, u 177, u 178, u 179, u 180, u 181, u 182, u 183, u 184, u 185, u 186, u 187, u 188, u 189, u 190] by kernel_rfl)
        clear hu hF
        subst hu2
        clear HI HST HDS HDR HEO HE2
        have HEO := Lib.hid HEOq.out; have HI := Lib.hid HIq.out; have HST := Lib.hid HSTq.out; have HDS := Lib.hid HDSq.out; have HDR := Lib.hid HDRq.out; clear HEOq HIq HSTq HDSq HDRq
        have HDrea := Lib.hid (lo_row HFre159.out HFa159.out)
        have HDreb := Lib.hid (lo_row HFre159.out HFb159.out)
        have HDroa := Lib.hid (lo_row HFro159.out HFa159.out)
        have HDrob := Lib.hid (lo_row HFro159.out HFb159.out)
        have HIn4a := Lib.hid (lo_ty HBn4159.out HFa159.out (by decide) (by decide))
        have HIn4b := Lib.hid (lo_ty HBn4159.out HFb159.out (by decide) (by decide))
        have HIn4re := Lib.hid (own_ne_ty HFre159.out HBn4159.out (by decide))
        have HIn4ro := Lib.hid (own_ne_ty HFro159.out HBn4159.out (by decide))
        have HIn5a := Lib.hid (lo_ty HBn5159.out HFa159.out (by decide) (by decide))
        have HIn5b := Lib.hid (lo_ty HBn5159.out HFb159.out (by decide) (by decide))
        have HIn5re := Lib.hid (own_ne_ty HFre159.out HBn5159.out (by decide))
        have HIn5ro := Lib.hid (own_ne_ty HFro159.out HBn5159.out (by decide))
        have HIn6a := Lib.hid (lo_ty HBn6159.out HFa159.out (by decide) (by decide))
        have HIn6b := Lib.hid (lo_ty HBn6159.out HFb159.out (by decide) (by decide))
        have HIn6re := Lib.hid (own_ne_ty HFre159.out HBn6159.out (by decide))
        have HIn6ro := Lib.hid (own_ne_ty HFro159.out HBn6159.out (by decide))
        have HIn7a := Lib.hid (lo_ty HBn7159.out HFa159.out (by decide) (by decide))
        have HIn7b := Lib.hid (lo_ty HBn7159.out HFb159.out (by decide) (by decide))
        have HIn7re := Lib.hid (own_ne_ty HFre159.out HBn7159.out (by decide))
        have HIn7ro := Lib.hid (own_ne_ty HFro159.out HBn7159.out (by decide))
        have HBO := Lib.hid (show b ≤ h ∧ h ≤ b + 1 ∧ h ≤ s ∧ c ≤ g ∧ g ≤ c + 1 ∧ g ≤ t ∧ s ≤ 400 ∧ t ≤ 400 ∧ ps.length ≤ 400 ∧ qs.length ≤ 400 ∧ i ≤ 400 from by obtain ⟨q1, q2, q3, _⟩ := HI.out; have q4 := HI4.out; omega)
        go_upto_region 10 with fail
        refine wp_region_lit ?_
        refine tkL (.slice (some ⟨bm, om, none⟩) len cap) (h := ?_)
        (try simp only [Act.put, sA, sB, sC])
        refine tkL (.int .i64 (i : Int)) (h := ?_)
        (try simp only [Act.put, sA, sB, sC])
        refine wpList_q (by rfl) (.pointer (some ⟨bm, (om + i * 3), none⟩)) ?he ?_
        case he => exact exec_ix (i := i) (s := 3) 22 33 _ _ rfl rfl rfl rfl HLT.out Try.underlying22 (by kernel_rfl)
        (try simp only [Act.put, sA, sB, sC])
        refine tkL (.pointer (some ⟨bm, (om + i * 3), none⟩)) (h := ?_)
        (try simp only [Act.put, sA, sB, sC])
        refine wpList_q (by rfl) (.int .i64 ((vs i).k)) ?he ?_
        case he => exact exec_at 3 _ _ (keep_cell HS159.out (HCM.out 0 _ rfl)) rfl rfl Try.underlying3 rfl
        (try simp only [Act.put, sA, sB, sC])
        refine wpList_nil ?_
        go_upto_block 2 with fail
        refine wp_ucut (ds := []) (fun fr wx => ∃ (b s g c t h : Nat) (st du st2 du2 he he2 : Int) (an an2 : Bool) (qa qb : Nat) (Sa Sb : List Nat) (ps qs : List PkV) (A1 A2 : Option Addr) (c1 c2 : Nat), Fits fr 191 [(0, .slice (some ⟨bm, om, none⟩) len cap), (2, .bool false), (3, .pointer (some ⟨bn3, 0, none⟩)), (4, .pointer (some ⟨bn4, 0, none⟩)), (5, .pointer (some ⟨bn5, 0, none⟩)), (6, .pointer (some ⟨bn6, 0, none⟩)), (7, .pointer (some ⟨bn7, 0, none⟩)), (8, .int .i64 (i : Int)), (9, .int .i64 (e : Int)), (44, .int .i64 ((vs i).k))] ∧ Hid (OrI (i + 1) b s g c t h ps qs ∧ ((0 ≤ st ∧ st ≤ ((i + 1) : Int)) ∧ 0 ≤ st2 ∧ st2 ≤ ((i + 1) : Int)) ∧ (∀ x ∈ Sa, x ∉ Sb) ∧ (∀ x ∈ blkOf A1, x ∉ blkOf A2) ∧ Since w wx ∧ Blk wx bn4 28 (pr e (.pointer (some ⟨qa, 0, none⟩)) (.pointer (some ⟨qb, 0, none⟩))) ∧ Blk wx bn5 30 (pr e (.slice A1 ps.length c1) (.slice A2 qs.length c2)) ∧ Blk wx bn6 31 (pr e (.int .i64 (s : Int)) (.int .i64 (t : Int))) ∧ Blk wx bn7 31 (pr e (.int .i64 (g : Int)) (.int .i64 (h : Int))) ∧ LO w.heap.size qa (kO b st du g an he) (mo b s) Sa wx ∧ LO w.heap.size qb (kO c st2 du2 h an2 he2) (mo c t) Sb wx ∧ (wx).ownsRow w.heap.size 38 9 (.slice A1 ps.length c1) ps.length (rowsOf pkL ps) ∧ (wx).ownsRow w.heap.size 38 9 (.slice A2 qs.length c2) qs.length (rowsOf pkL qs))) ?rest3 ?first3
        case first3 =>
         intro J3 K3 hJ3 hK3
         by_cases hcs : (vs i).k = 1
         rotate_left
         · have HK1 := Lib.hid hcs; clear hcs
           by_cases hcs : (vs i).k = 2
           rotate_left
           · have HK2 := Lib.hid hcs; clear hcs
             by_cases hcs : (vs i).k = 3 ∨ (vs i).k = 4 ∨ (vs i).k = 5
             rotate_left
             · have HK345 := Lib.hid hcs; clear hcs
               have HK3 := Lib.hid (show ¬ (vs i).k = 3 from fun q => HK345.out (.inl q)); have HK4 := Lib.hid (show ¬ (vs i).k = 4 from fun q => HK345.out (.inr (.inl q))); have HK5 := Lib.hid (show ¬ (vs i).k = 5 from fun q => HK345.out (.inr (.inr q)))
               go_upto_region 11 with fail
               refine wp_region_lit ?_
               refine wpList_q (by rfl) (.bool false) ?he ?_
               case he => (have q := HK1.out; go_simp; (first | done | exact q | (simp [q]; done) | omega))
               (try simp only [Act.put, sA, sB, sC])
               refine tkL (.bool false) (h := ?_)
               (try simp only [Act.put, sA, sB, sC])
               refine wpList_nil ?_
               go_upto_region 14 with fail
               refine wp_region_lit ?_
               refine wpList_q (by rfl) (.bool false) ?he ?_
               case he => (have q := HK2.out; go_simp; (first | done | exact q | (simp [q]; done) | omega))
               (try simp only [Act.put, sA, sB, sC])
               refine tkL (.bool false) (h := ?_)
               (try simp only [Act.put, sA, sB, sC])
               refine wpList_nil ?_
               go_upto_region 18 with fail
               refine wp_region_lit ?_
               refine wpList_q (by rfl) (.bool false) ?he ?_
               case he => (have q := HK3.out; go_simp; (first | done | exact q | (simp [q]; done) | omega))
               (try simp only [Act.put, sA, sB, sC])
               refine tkL (.bool false) (h := ?_)
               (try simp only [Act.put, sA, sB, sC])
               refine wpList_nil ?_
               go_upto_region 19 with fail
               refine wp_region_lit ?_
               refine wpList_q (by rfl) (.bool false) ?he ?_
               case he => (have q := HK4.out; go_simp; (first | done | exact q | (simp [q]; done) | omega))
               (try simp only [Act.put, sA, sB, sC])
               refine tkL (.bool false) (h := ?_)
               (try simp only [Act.put, sA, sB, sC])
               refine wpList_nil ?_
               go_upto_region 20 with fail
               refine wp_region_lit ?_
               refine wpList_q (by rfl) (.bool false) ?he ?_
               case he => (have q := HK5.out; go_simp; (first | done | exact q | (simp [q]; done) | omega))
               (try simp only [Act.put, sA, sB, sC])
               refine tkL (.bool false) (h := ?_)
               (try simp only [Act.put, sA, sB, sC])
               refine wpList_nil ?_
               go_wp2_with fail
               refine Met.intro ?_
               exact hJ3 _ _ ⟨b, s, g, c, t, h, st, du, st2, du2, he, he2, an, an2, qa, qb, Sa, Sb, ps, qs, A1, A2, c1, c2, ⟨rfl, rfl, rfl, rfl, rfl, rfl, rfl, rfl, rfl, rfl, rfl, trivial⟩, Lib.hid ⟨HI.out.wait, (by have q := HST.out; (try push_cast); omega), HDS.out, HDR.out, HS159.out, (by have q := HBn4159.out; (try push_cast); exact q), (by have q := HBn5159.out; (try push_cast); exact q), (by have q := HBn6159.out; (try push_cast); exact q), (by have q := HBn7159.out; (try push_cast); exact q), HFa159.out, HFb159.out, HFre159.out, HFro159.out⟩⟩
             · have HK345 := Lib.hid hcs; clear hcs
               go_upto_region 11 with fail
               refine wp_region_lit ?_
               refine wpList_q (by rfl) (.bool false) ?he ?_
               case he => (have q := HK1.out; go_simp; (first | done | exact q | (simp [q]; done) | omega))
               (try simp only [Act.put, sA, sB, sC])
               refine tkL (.bool false) (h := ?_)
               (try simp only [Act.put, sA, sB, sC])
               refine wpList_nil ?_
               go_upto_region 14 with fail
               refine wp_region_lit ?_
               refine wpList_q (by rfl) (.bool false) ?he ?_
               case he => (have q := HK2.out; go_simp; (first | done | exact q | (simp [q]; done) | omega))
               (try simp only [Act.put, sA, sB, sC])
               refine tkL (.bool false) (h := ?_)
               (try simp only [Act.put, sA, sB, sC])
               refine wpList_nil ?_
               obtain ⟨d3, hd3⟩ : ∃ d3, d3 = ((vs i).k == 3) := ⟨_, rfl⟩; have HD3 := Lib.hid hd3; clear hd3
               go_upto_region 18 with fail
               refine wp_region_lit ?_
               refine wpList_q (by rfl) (.bool d3) ?he ?_
               case he => (rw [HD3.out]; (first | rfl | (go_simp; (try with_reducible rfl))))
               (try simp only [Act.put, sA, sB, sC])
               refine tkL (.bool d3) (h := ?_)
               (try simp only [Act.put, sA, sB, sC])
               refine wpList_nil ?_
               go_upto_if 81 with fail
               refine wp_ucut (ds := []) (fun fr wx => Fits fr 191 [(0, .slice (some ⟨bm, om, none⟩) len cap), (2, .bool false), (3, .pointer (some ⟨bn3, 0, none⟩)), (4, .pointer (some ⟨bn4, 0, none⟩)), (5, .pointer (some ⟨bn5, 0, none⟩)), (6, .pointer (some ⟨bn6, 0, none⟩)), (7, .pointer (some ⟨bn7, 0, none⟩)), (8, .int .i64 (i : Int)), (9, .int .i64 (e : Int)), (44, .int .i64 ((vs i).k)), (45, .bool false), (60, .bool false), (81, .bool true)] ∧ Hid (Since w wx ∧ Blk wx bn4 28 (pr e (.pointer (some ⟨qa, 0, none⟩)) (.pointer (some ⟨qb, 0, none⟩))) ∧ Blk wx bn5 30 (pr e (.slice A1 ps.length c1) (.slice A2 qs.length c2)) ∧ Blk wx bn6 31 (pr e (.int .i64 (s : Int)) (.int .i64 (t : Int))) ∧ Blk wx bn7 31 (pr e (.int .i64 (g : Int)) (.int .i64 (h : Int))) ∧ LO w.heap.size qa (kO b st du g an he) (mo b s) Sa wx ∧ LO w.heap.size qb (kO c st2 du2 h an2 he2) (mo c t) Sb wx ∧ (wx).ownsRow w.heap.size 38 9 (.slice A1 ps.length c1) ps.length (rowsOf pkL ps) ∧ (wx).ownsRow w.heap.size 38 9 (.slice A2 qs.length c2) qs.length (rowsOf pkL qs))) ?rest4 ?first4
               case first4 =>
                intro J4 K4 hJ4 hK4
                cases d3 with
                | true =>
                 go_wp2_with fail
                 refine Met.intro ?_
                 exact hJ4 _ _ ⟨⟨rfl, rfl, rfl, rfl, rfl, rfl, rfl, rfl, rfl, rfl, rfl, rfl, rfl, rfl, trivial⟩, Lib.hid ⟨HS159.out, HBn4159.out, HBn5159.out, HBn6159.out, HBn7159.out, HFa159.out, HFb159.out, HFre159.out, HFro159.out⟩⟩
                | false =>
                 have HK3 := Lib.hid (show ¬ (vs i).k = 3 from by have q := HD3.out.symm; simpa using q)
                 by_cases hcs : (vs i).k = 4
                 rotate_left
                 · have HK4 := Lib.hid hcs; clear hcs
                   have HK5 := Lib.hid (show (vs i).k = 5 from by have q1 := HK345.out; have q2 := HK3.out; have q3 := HK4.out; omega)
                   go_upto_region 19 with fail
                   refine wp_region_lit ?_
                   refine wpList_q (by rfl) (.bool false) ?he ?_
                   case he => (have q := HK4.out; go_simp; (first | done | exact q | (simp [q]; done) | omega))
                   (try simp only [Act.put, sA, sB, sC])
                   refine tkL (.bool false) (h := ?_)
                   (try simp only [Act.put, sA, sB, sC])
                   refine wpList_nil ?_
                   go_upto_region 20 with fail
                   refine wp_region_lit ?_
                   refine wpList_q (by rfl) (.bool true) ?he ?_
                   case he => (have q := HK5.out; go_simp; (first | done | exact q | (simp [q]; done) | omega))
                   (try simp only [Act.put, sA, sB, sC])
                   refine tkL (.bool true) (h := ?_)
                   (try simp only [Act.put, sA, sB, sC])
                   refine wpList_nil ?_
                   go_wp2_with fail
                   refine Met.intro ?_
                   exact hJ4 _ _ ⟨⟨rfl, rfl, rfl, rfl, rfl, rfl, rfl, rfl, rfl, rfl, rfl, rfl, rfl, rfl, trivial⟩, Lib.hid ⟨HS159.out, HBn4159.out, HBn5159.out, HBn6159.out, HBn7159.out, HFa159.out, HFb159.out, HFre159.out, HFro159.out⟩⟩
                 · have HK4 := Lib.hid hcs; clear hcs
                   go_upto_region 19 with fail
                   refine wp_region_lit ?_
                   refine wpList_q (by rfl) (.bool true) ?he ?_
                   case he => (have q := HK4.out; go_simp; (first | done | exact q | (simp [q]; done) | omega))
                   (try simp only [Act.put, sA, sB, sC])
                   refine tkL (.bool true) (h := ?_)
                   (try simp only [Act.put, sA, sB, sC])
                   refine wpList_nil ?_
                   go_wp2_with fail
                   refine Met.intro ?_
                   exact hJ4 _ _ ⟨⟨rfl, rfl, rfl, rfl, rfl, rfl, rfl, rfl, rfl, rfl, rfl, rfl, rfl, rfl, trivial⟩, Lib.hid ⟨HS159.out, HBn4159.out, HBn5159.out, HBn6159.out, HBn7159.out, HFa159.out, HFb159.out, HFre159.out, HFro159.out⟩⟩
               case rest4 =>
                intro fr wc hR
                clear HS159 HBn4159 HBn5159 HBn6159 HBn7159 HFa159 HFb159 HFre159 HFro159
                obtain ⟨hF, HO⟩ := hR
                obtain ⟨g0, g1, g2, g3, g4, g5, g6, g7, g8⟩ := HO.out
                clear HO
                have HS209 := Lib.hid g0
                have HBn4209 := Lib.hid g1
                have HBn5209 := Lib.hid g2
                have HBn6209 := Lib.hid g3
                have HBn7209 := Lib.hid g4
                have HFa209 := Lib.hid g5
                have HFb209 := Lib.hid g6
                have HFre209 := Lib.hid g7
                have HFro209 := Lib.hid g8
                clear g0 g1 g2 g3 g4 g5 g6 g7 g8
                obtain ⟨u, hu⟩ := hF.open_
                have hu2 := hu.trans (show _ = #[.slice (some ⟨bm, om, none⟩) len cap, u 1, .bool false, .pointer (some ⟨bn3, 0, none⟩), .pointer (some ⟨bn4, 0, none⟩), .pointer (some ⟨bn5, 0, none⟩), .pointer (some ⟨bn6, 0, none⟩), .pointer (some ⟨bn7, 0, none⟩), .int .i64 (i : Int), .int .i64 (e : Int), u 10, u 11, u 12, u 13, u 14, u 15, u 16, u 17, u 18, u 19, u 20, u 21, u 22, u 23, u 24, u 25, u 26, u 27, u 28, u 29, u 30, u 31, u 32, u 33, u 34, u 35, u 36, u 37, u 38, u 39, u 40, u 41, u 42, u 43, .int .i64 ((vs i).k), .bool false, u 46, u 47, u 48, u 49, u 50, u 51, u 52, u 53, u 54, u 55, u 56, u 57, u 58, u 59, .bool false, u 61, u 62, u 63, u 64, u 65, u 66, u 67, u 68, u 69, u 70, u 71, u 72, u 73, u 74, u 75, u 76, u 77, u 78, u 79, u 80, .bool true, u 82, u 83, u 84, u 85, u 86, u 87, u 88, u 89, u 90, u 91, u 92, u 93, u 94, u 95, u 96, u 97, u 98, u 99, u 100, u 101, u 102, u 103, u 104, u 105, u 106, u 107, u 108, u 109, u 110, u 111, u 112, u 113, u 114, u 115, u 116, u 117, u 118, u 119, u 120, u 121, u 122, u 123, u 124, u 125, u 126, u 127, u 128, u 129, u 130, u 131, u 132, u 133, u 134, u 135, u 136, u 137, u 138, u 139, u 140, u 141, u 142, u 143, u 144, u 145, u 146, u 147, u 148, u 149, u 150, u 151, u 152, u 153, u 154, u 155, u 156, u 157, u 158, u 159, u 160, u 161, u 162, u 163, u 164, u 165, u 166, u 167, u 168, u 169, u 170, u 171, u 172, u 173, u 174, u 175, u 176, u 177, u 178, u 179, u 180, u 181, u 182, u 183, u 184, u 185, u 186, u 187, u 188, u 189, u 190] by kernel_rfl)
                clear hu hF
                subst hu2
                clear HD3
                by_cases hcs : ps.length = 0
                rotate_left
                · have HL0 := Lib.hid hcs; clear hcs
                  go_upto_region 21 with fail
                  refine wp_region_lit ?_
                  refine tkL (.int .i64 (e : Int)) (h := ?_)
                  (try simp only [Act.put, sA, sB, sC])
                  refine wpList_q (by rfl) (.pointer (some ⟨bn5, e, none⟩)) ?he ?_
                  case he => exact exec_arr (i := e) (n := 2) 30 29 _ _ rfl rfl rfl rfl (by have := HEO.out; omega) Try.underlying30 (by kernel_rfl)
                  (try simp only [Act.put, sA, sB, sC])
                  refine wpList_q (by rfl) (.slice A1 ps.length c1) ?he ?_
                  case he => exact exec_cell 29 _ _ HBn5209.out (pr_at HEO.out) rfl rfl Try.underlying29 rfl
                  (try simp only [Act.put, sA, sB, sC])
                  refine tkL (.int .i64 (ps.length : Int)) (h := ?_)
                  (try simp only [Act.put, sA, sB, sC])
                  refine wpList_q (by rfl) (.bool false) ?he ?_
                  case he => (have q := HL0.out; go_simp; (first | done | exact q | (simp [q]; done) | omega))
                  (try simp only [Act.put, sA, sB, sC])
                  refine wpList_nil ?_
                  obtain ⟨k, hk1, hk2, hk3⟩ := kmod (vs i).n (show 0 < ps.length from by have := HL0.out; omega)
                  have HKM := Lib.hid (And.intro hk1 (And.intro hk2 hk3)); clear hk1 hk2 hk3
                  obtain ⟨g1, hg1⟩ := own_addr HFre209.out (show 0 < ps.length from by have := HL0.out; omega)
                  subst hg1
                  obtain ⟨p, hp⟩ : ∃ p, ps[k]? = some p := ⟨_, List.getElem?_eq_getElem HKM.out.1⟩
                  have HPP := Lib.hid hp; clear hp
                  have HPV := Lib.hid (pk_of HI.out.2.2.2.1 HPP.out)
                  have HC1 := Lib.hid (own_cap2 HFre209.out)
                  go_upto_region 22 with fail
                  have HKS : Hid (KeepS (fun W : World => Since w W ∧ Blk W bn4 28 (pr e (.pointer (some ⟨qa, 0, none⟩)) (.pointer (some ⟨qb, 0, none⟩))) ∧ Blk W bn5 30 (pr e (.slice (some ⟨g1, 0, none⟩) ps.length c1) (.slice A2 qs.length c2)) ∧ Blk W bn6 31 (pr e (.int .i64 (s : Int)) (.int .i64 (t : Int))) ∧ Blk W bn7 31 (pr e (.int .i64 (g : Int)) (.int .i64 (h : Int))) ∧ LO w.heap.size qa (kO b st du g an he) (mo b s) Sa W ∧ LO w.heap.size qb (kO c st2 du2 h an2 he2) (mo c t) Sb W ∧ (W).ownsRow w.heap.size 38 9 (.slice (some ⟨g1, 0, none⟩) ps.length c1) ps.length (rowsOf pkL ps) ∧ (W).ownsRow w.heap.size 38 9 (.slice A2 qs.length c2) qs.length (rowsOf pkL qs)) wc) := Lib.hid ⟨fun W W' k ⟨h, h0, h1, h2, h3, h4, h5, h6, h7⟩ => ⟨h.trans k, keep_blk k h0, keep_blk k h1, keep_blk k h2, keep_blk k h3, LO.keep k h4, LO.keep k h5, keep_own k h6, keep_own k h7⟩, ⟨HS209.out, HBn4209.out, HBn5209.out, HBn6209.out, HBn7209.out, HFa209.out, HFb209.out, HFre209.out, HFro209.out⟩⟩
                  have HRK := Lib.hid HKS.out.1
                  refine wp_held HKS.out (by kernel_rfl) (fun hHeld => ?_)
                  refine tkQ 0 (.slice (some ⟨bm, om, none⟩) len cap) hHeld (h := ?_)
                  (try simp only [Act.put, sA, sB, sC])
                  refine tkQ 1 (.int .i64 (i : Int)) hHeld (h := ?_)
                  (try simp only [Act.put, sA, sB, sC])
                  refine tkQ 2 (.pointer (some ⟨bm, (om + i * 3), none⟩)) hHeld (he := by intro w hSw; exact exec_ix (i := i) (s := 3) 22 33 _ _ rfl rfl rfl rfl HLT.out Try.underlying22 (by kernel_rfl)) (h := ?_)
                  (try simp only [Act.put, sA, sB, sC])
                  refine tkQ 3 (.pointer (some ⟨bm, (om + i * 3 + 2), none⟩)) hHeld (h := ?_)
                  (try simp only [Act.put, sA, sB, sC])
                  refine tkQ 4 (.int .i64 ((vs i).n)) hHeld (he := by intro w hSw; exact exec_at 3 _ _ (keep_cell hSw.1 (HCM.out 2 _ rfl)) rfl rfl Try.underlying3 rfl) (h := ?_)
                  (try simp only [Act.put, sA, sB, sC])
                  refine tkQ 5 (.int .u64 (IntKind.u64.wrap (vs i).n)) hHeld (he := by intro w hSw; (go_simp; (first | done | rfl))) (h := ?_)
                  (try simp only [Act.put, sA, sB, sC])
                  refine tkQ 6 (.int .i64 (e : Int)) hHeld (h := ?_)
                  (try simp only [Act.put, sA, sB, sC])
                  refine tkQ 7 (.pointer (some ⟨bn5, e, none⟩)) hHeld (he := by intro w hSw; exact exec_arr (i := e) (n := 2) 30 29 _ _ rfl rfl rfl rfl (by have := HEO.out; omega) Try.underlying30 (by kernel_rfl)) (h := ?_)
                  (try simp only [Act.put, sA, sB, sC])
                  refine tkQ 8 (.slice (some ⟨g1, 0, none⟩) ps.length c1) hHeld (he := by intro w hSw; exact exec_cell 29 _ _ hSw.2.2.1 (pr_at HEO.out) rfl rfl Try.underlying29 rfl) (h := ?_)
                  (try simp only [Act.put, sA, sB, sC])
                  refine tkQ 9 (.int .i64 (ps.length : Int)) hHeld (h := ?_)
                  (try simp only [Act.put, sA, sB, sC])
                  refine tkQ 10 (.int .u64 (ps.length : Int)) hHeld (he := by intro w hSw; (have q := HBO.out; have q2 := HKM.out.1; go_simp; (first | done | rfl | (simp only [IntKind.wrap, IntKind.bits, IntKind.signed]; simp; omega)))) (h := ?_)
                  (try simp only [Act.put, sA, sB, sC])
                  refine tkQ 11 (.int .u64 (k : Int)) hHeld (he := by intro w hSw; (have q := HKM.out; have t := Int.tmod_eq_emod_of_nonneg (b := (ps.length : Int)) q.2.2; have t2 : ¬ (ps.length : Int) = 0 := (by omega); have q5 := HBO.out; have t3 : ps.length ≠ 0 := (by omega); go_simp; (first | done | rfl | omega))) (h := ?_)
                  (try simp only [Act.put, sA, sB, sC])
                  refine tkQ 12 (.int .i64 (k : Int)) hHeld (he := by intro w hSw; (have q := HBO.out; have q2 := HKM.out.1; go_simp; (first | done | rfl | (simp only [IntKind.wrap, IntKind.bits, IntKind.signed]; simp; omega)))) (h := ?_)
                  (try simp only [Act.put, sA, sB, sC])
                  refine tkQ 13 (.int .i64 (k : Int)) hHeld (h := ?_)
                  (try simp only [Act.put, sA, sB, sC])
                  refine wpAnyH_done (by kernel_rfl) ?_ _
                  have HSd22 := Lib.hid hHeld.1
                  have HBn4d22 := Lib.hid (hHeld.2.1)
                  have HBn5d22 := Lib.hid (hHeld.2.2.1)
                  have HBn6d22 := Lib.hid (hHeld.2.2.2.1)
                  have HBn7d22 := Lib.hid (hHeld.2.2.2.2.1)
                  have HFad22 := Lib.hid (hHeld.2.2.2.2.2.1)
                  have HFbd22 := Lib.hid (hHeld.2.2.2.2.2.2.1)
                  have HFred22 := Lib.hid (hHeld.2.2.2.2.2.2.2.1)
                  have HFrod22 := Lib.hid (hHeld.2.2.2.2.2.2.2.2)
                  clear hHeld HRK HKS HS209 HBn4209 HBn5209 HBn6209 HBn7209 HFa209 HFb209 HFre209 HFro209
                  go_upto_region 23 with fail
                  refine wp_region_lit ?_
                  refine tkL (.int .i64 (e : Int)) (h := ?_)
                  (try simp only [Act.put, sA, sB, sC])
                  refine wpList_q (by rfl) (.pointer (some ⟨bn5, e, none⟩)) ?he ?_
                  case he => exact exec_arr (i := e) (n := 2) 30 29 _ _ rfl rfl rfl rfl (by have := HEO.out; omega) Try.underlying30 (by kernel_rfl)
                  (try simp only [Act.put, sA, sB, sC])
                  refine wpList_q (by rfl) (.slice (some ⟨g1, 0, none⟩) ps.length c1) ?he ?_
                  case he => exact exec_cell 29 _ _ HBn5d22.out (pr_at HEO.out) rfl rfl Try.underlying29 rfl
                  (try simp only [Act.put, sA, sB, sC])
                  refine tkL (.int .i64 (k : Int)) (h := ?_)
                  (try simp only [Act.put, sA, sB, sC])
                  refine wpList_q (by rfl) (.pointer (some ⟨g1, (0 + k * 9), none⟩)) ?he ?_
                  case he => exact exec_ix (i := k) (s := 9) 29 38 _ _ rfl rfl rfl rfl HKM.out.1 Try.underlying29 (by kernel_rfl)
                  (try simp only [Act.put, sA, sB, sC])
                  refine wpList_q (by rfl) (.agg #[.int .i64 p.se, .int .i64 p.ep, .int .i64 p.sq, .int .i64 p.ak, .bool p.ha, .int .i64 p.m.ki, .int .i64 p.m.a, .int .i64 p.m.b, .int .i64 p.m.c]) ?he ?_
                  case he => exact exec_rng (l := pkL p) 38 _ _ (fun j v hj => by rw [Nat.zero_add]; exact row_pk HFred22.out HPP.out j v hj) rfl rfl Try.underlying38 rfl (by kernel_rfl)
                  (try simp only [Act.put, sA, sB, sC])
                  refine wpList_wp (by rfl) (fun K hK => ?_)
                  refine wp_new (fun b => .pointer (some ⟨b, 0, none⟩)) 38 #[.int .i64 0, .int .i64 0, .int .i64 0, .int .i64 0, .bool false, .int .i64 0, .int .i64 0, .int .i64 0, .int .i64 0] (by rintro b rfl; first | rfl | kernel_rfl) ?_
                  intro bn13 w210 hge hB hb
                  refine hK.out _ _ ?_
                  clear hK K
                  (try simp only [Act.put, sA, sB, sC])
                  have HNn13n4 := Lib.hid (show bn13 ≠ bn4 by have := Blk.lt HBn4d22.out; omega)
                  have HNn13n5 := Lib.hid (show bn13 ≠ bn5 by have := Blk.lt HBn5d22.out; omega)
                  have HNn13n6 := Lib.hid (show bn13 ≠ bn6 by have := Blk.lt HBn6d22.out; omega)
                  have HNn13n7 := Lib.hid (show bn13 ≠ bn7 by have := Blk.lt HBn7d22.out; omega)
                  have HGn13 := Lib.hid (show w.heap.size ≤ bn13 by have := Since.size HSd22.out; omega)
                  have HIn13_a := Lib.hid (LO.far HFad22.out hge)
                  have HIn13_b := Lib.hid (LO.far HFbd22.out hge)
                  have HIn13_re := Lib.hid (own_far HFred22.out hge)
                  have HIn13_ro := Lib.hid (own_far HFrod22.out hge)
                  have HS210 := Lib.hid (Since.trans HSd22.out hb)
                  have HBn4210 := Lib.hid (keep_blk hb HBn4d22.out)
                  have HBn5210 := Lib.hid (keep_blk hb HBn5d22.out)
                  have HBn6210 := Lib.hid (keep_blk hb HBn6d22.out)
                  have HBn7210 := Lib.hid (keep_blk hb HBn7d22.out)
                  have HFa210 := Lib.hid (LO.keep hb HFad22.out)
                  have HFb210 := Lib.hid (LO.keep hb HFbd22.out)
                  have HFre210 := Lib.hid (keep_own hb HFred22.out)
                  have HFro210 := Lib.hid (keep_own hb HFrod22.out)
                  clear HSd22 HBn4d22 HBn5d22 HBn6d22 HBn7d22 HFad22 HFbd22 HFred22 HFrod22
                  clear hb hge
                  have HBn13210 := Lib.hid hB
                  clear hB
                  refine wpList_wp (by rfl) (fun K hK => ?_)
                  refine wp_st_row 38 _ _ rfl #[.int .i64 p.se, .int .i64 p.ep, .int .i64 p.sq, .int .i64 p.ak, .bool p.ha, .int .i64 p.m.ki, .int .i64 p.m.a, .int .i64 p.m.b, .int .i64 p.m.c] rfl rfl (HasRow.of HBn13210.out rfl) rfl (by simp [Value.oneCell']) (by kernel_rfl) ?_
                  intro w211 hw
                  refine hK.out _ _ ?_
                  clear hK K
                  (try simp only [Act.put, sA, sB, sC])
                  have HS211 := Lib.hid (show Since w w211 by rw [hw]; exact Since.setRow HS210.out HGn13.out _)
                  have HBn4211 := Lib.hid (show Blk w211 bn4 28 (pr e (.pointer (some ⟨qa, 0, none⟩)) (.pointer (some ⟨qb, 0, none⟩))) by rw [hw]; exact Blk.row_far HBn4210.out (Ne.symm HNn13n4.out) _)
                  have HBn5211 := Lib.hid (show Blk w211 bn5 30 (pr e (.slice (some ⟨g1, 0, none⟩) ps.length c1) (.slice A2 qs.length c2)) by rw [hw]; exact Blk.row_far HBn5210.out (Ne.symm HNn13n5.out) _)
                  have HBn6211 := Lib.hid (show Blk w211 bn6 31 (pr e (.int .i64 (s : Int)) (.int .i64 (t : Int))) by rw [hw]; exact Blk.row_far HBn6210.out (Ne.symm HNn13n6.out) _)
                  have HBn7211 := Lib.hid (show Blk w211 bn7 31 (pr e (.int .i64 (g : Int)) (.int .i64 (h : Int))) by rw [hw]; exact Blk.row_far HBn7210.out (Ne.symm HNn13n7.out) _)
                  have HBn13211 := Lib.hid (show Blk w211 bn13 38 #[.int .i64 p.se, .int .i64 p.ep, .int .i64 p.sq, .int .i64 p.ak, .bool p.ha, .int .i64 p.m.ki, .int .i64 p.m.a, .int .i64 p.m.b, .int .i64 p.m.c] by rw [hw]; exact Blk.row HBn13210.out _)
                  have HFa_211 := Lib.hid (show LO w.heap.size qa (kO b st du g an he) (mo b s) Sa w211 by rw [hw]; exact LO.row_far HFa210.out HIn13_a.out _)
                  have HFb_211 := Lib.hid (show LO w.heap.size qb (kO c st2 du2 h an2 he2) (mo c t) Sb w211 by rw [hw]; exact LO.row_far HFb210.out HIn13_b.out _)
                  have HFre_211 := Lib.hid (show (w211).ownsRow w.heap.size 38 9 (.slice (some ⟨g1, 0, none⟩) ps.length c1) ps.length (rowsOf pkL ps) by rw [hw]; exact own_row_far HFre210.out HIn13_re.out _)
                  have HFro_211 := Lib.hid (show (w211).ownsRow w.heap.size 38 9 (.slice A2 qs.length c2) qs.length (rowsOf pkL qs) by rw [hw]; exact own_row_far HFro210.out HIn13_ro.out _)
                  clear hw HS210 HBn4210 HBn5210 HBn6210 HBn7210 HBn13210 HFa210 HFb210 HFre210 HFro210
                  refine wpList_nil ?_
                  obtain ⟨d5, hd5⟩ : ∃ d5, d5 = ((vs i).k != 5) := ⟨_, rfl⟩; have HD5 := Lib.hid hd5; clear hd5
                  go_upto_region 24 with fail
                  refine wp_region_lit ?_
                  refine tkL (.slice (some ⟨bm, om, none⟩) len cap) (h := ?_)
                  (try simp only [Act.put, sA, sB, sC])
                  refine tkL (.int .i64 (i : Int)) (h := ?_)
                  (try simp only [Act.put, sA, sB, sC])
                  refine wpList_q (by rfl) (.pointer (some ⟨bm, (om + i * 3), none⟩)) ?he ?_
                  case he => exact exec_ix (i := i) (s := 3) 22 33 _ _ rfl rfl rfl rfl HLT.out Try.underlying22 (by kernel_rfl)
                  (try simp only [Act.put, sA, sB, sC])
                  refine tkL (.pointer (some ⟨bm, (om + i * 3), none⟩)) (h := ?_)
                  (try simp only [Act.put, sA, sB, sC])
                  refine wpList_q (by rfl) (.int .i64 ((vs i).k)) ?he ?_
                  case he => exact exec_at 3 _ _ (keep_cell HS211.out (HCM.out 0 _ rfl)) rfl rfl Try.underlying3 rfl
                  (try simp only [Act.put, sA, sB, sC])
                  refine wpList_q (by rfl) (.bool d5) ?he ?_
                  case he => (rw [HD5.out]; (first | rfl | (go_simp; (try with_reducible rfl))))
                  (try simp only [Act.put, sA, sB, sC])
                  refine wpList_nil ?_
                  go_upto_if 114 with fail
                  refine wp_ucut (ds := []) (fun fr wx => ∃ (ps2 : List PkV) (A3 : Option Addr) (c3 : Nat), Fits fr 191 [(0, .slice (some ⟨bm, om, none⟩) len cap), (2, .bool false), (3, .pointer (some ⟨bn3, 0, none⟩)), (4, .pointer (some ⟨bn4, 0, none⟩)), (5, .pointer (some ⟨bn5, 0, none⟩)), (6, .pointer (some ⟨bn6, 0, none⟩)), (7, .pointer (some ⟨bn7, 0, none⟩)), (8, .int .i64 (i : Int)), (9, .int .i64 (e : Int)), (12, .int .i64 (k : Int)), (13, .pointer (some ⟨bn13, 0, none⟩)), (44, .int .i64 ((vs i).k)), (45, .bool false), (60, .bool false), (81, .bool true)] ∧ Hid (OrI i b s g c t h ps2 qs ∧ (∀ x ∈ blkOf A3, x ∉ blkOf A2) ∧ Since w wx ∧ Blk wx bn4 28 (pr e (.pointer (some ⟨qa, 0, none⟩)) (.pointer (some ⟨qb, 0, none⟩))) ∧ Blk wx bn5 30 (pr e (.slice A3 ps2.length c3) (.slice A2 qs.length c2)) ∧ Blk wx bn6 31 (pr e (.int .i64 (s : Int)) (.int .i64 (t : Int))) ∧ Blk wx bn7 31 (pr e (.int .i64 (g : Int)) (.int .i64 (h : Int))) ∧ Blk wx bn13 38 #[.int .i64 p.se, .int .i64 p.ep, .int .i64 p.sq, .int .i64 p.ak, .bool p.ha, .int .i64 p.m.ki, .int .i64 p.m.a, .int .i64 p.m.b, .int .i64 p.m.c] ∧ LO w.heap.size qa (kO b st du g an he) (mo b s) Sa wx ∧ LO w.heap.size qb (kO c st2 du2 h an2 he2) (mo c t) Sb wx ∧ (wx).ownsRow w.heap.size 38 9 (.slice A3 ps2.length c3) ps2.length (rowsOf pkL ps2) ∧ (wx).ownsRow w.heap.size 38 9 (.slice A2 qs.length c2) qs.length (rowsOf pkL qs))) ?rest5 ?first5
                  case first5 =>
                   intro J5 K5 hJ5 hK5
                   cases d5 with
                   | false =>
                    go_wp2_with fail
                    refine Met.intro ?_
                    exact hJ5 _ _ ⟨ps, (some ⟨g1, 0, none⟩), c1, ⟨rfl, rfl, rfl, rfl, rfl, rfl, rfl, rfl, rfl, rfl, rfl, rfl, rfl, rfl, rfl, rfl, trivial⟩, Lib.hid ⟨HI.out, HDR.out, HS211.out, HBn4211.out, HBn5211.out, HBn6211.out, HBn7211.out, HBn13211.out, HFa_211.out, HFb_211.out, HFre_211.out, HFro_211.out⟩⟩
                   | true =>
                    go_upto_region 25 with fail
                    have HKS : Hid (KeepS (fun W : World => Since w W ∧ Blk W bn4 28 (pr e (.pointer (some ⟨qa, 0, none⟩)) (.pointer (some ⟨qb, 0, none⟩))) ∧ HasRow W bn5 30 2 ∧ Blk W bn6 31 (pr e (.int .i64 (s : Int)) (.int .i64 (t : Int))) ∧ Blk W bn7 31 (pr e (.int .i64 (g : Int)) (.int .i64 (h : Int))) ∧ Blk W bn13 38 #[.int .i64 p.se, .int .i64 p.ep, .int .i64 p.sq, .int .i64 p.ak, .bool p.ha, .int .i64 p.m.ki, .int .i64 p.m.a, .int .i64 p.m.b, .int .i64 p.m.c] ∧ LO w.heap.size qa (kO b st du g an he) (mo b s) Sa W ∧ LO w.heap.size qb (kO c st2 du2 h an2 he2) (mo c t) Sb W ∧ (W).ownsRow w.heap.size 38 9 (.slice (some ⟨g1, 0, none⟩) ps.length c1) ps.length (rowsOf pkL ps) ∧ (W).ownsRow w.heap.size 38 9 (.slice A2 qs.length c2) qs.length (rowsOf pkL qs)) w211) := Lib.hid ⟨fun W W' k ⟨h, h0, h1, h2, h3, h4, h5, h6, h7, h8⟩ => ⟨h.trans k, keep_blk k h0, HasRow.keep k h1, keep_blk k h2, keep_blk k h3, keep_blk k h4, LO.keep k h5, LO.keep k h6, keep_own k h7, keep_own k h8⟩, ⟨HS211.out, HBn4211.out, HasRow.of HBn5211.out pr_size, HBn6211.out, HBn7211.out, HBn13211.out, HFa_211.out, HFb_211.out, HFre_211.out, HFro_211.out⟩⟩
                    have HRK := Lib.hid HKS.out.1
                    have HPn5 := Lib.hid (show Blk (World.drew w211) bn5 30 (pr e (.slice (some ⟨g1, 0, none⟩) ps.length c1) (.slice A2 qs.length c2)) from HBn5211.out)
                    refine wp_held HKS.out (by kernel_rfl) (fun hHeld => ?_)
                    refine tkQ 0 (.int .i64 (e : Int)) hHeld (h := ?_)
                    (try simp only [Act.put, sA, sB, sC])
                    refine tkQ 2 (.int .i64 (e : Int)) hHeld (h := ?_)
                    (try simp only [Act.put, sA, sB, sC])
                    refine tkQ 3 (.pointer (some ⟨bn5, e, none⟩)) hHeld (he := by intro w hSw; exact exec_arr (i := e) (n := 2) 30 29 _ _ rfl rfl rfl rfl (by have := HEO.out; omega) Try.underlying30 (by kernel_rfl)) (h := ?_)
                    (try simp only [Act.put, sA, sB, sC])
                    refine tkQ 5 (.int .i64 (k : Int)) hHeld (h := ?_)
                    (try simp only [Act.put, sA, sB, sC])
                    refine tkQ 8 (.int .i64 (e : Int)) hHeld (h := ?_)
                    (try simp only [Act.put, sA, sB, sC])
                    refine tkQ 9 (.pointer (some ⟨bn5, e, none⟩)) hHeld (he := by intro w hSw; exact exec_arr (i := e) (n := 2) 30 29 _ _ rfl rfl rfl rfl (by have := HEO.out; omega) Try.underlying30 (by kernel_rfl)) (h := ?_)
                    (try simp only [Act.put, sA, sB, sC])
                    refine tkQ 11 (.int .i64 (k : Int)) hHeld (h := ?_)
                    (try simp only [Act.put, sA, sB, sC])
                    refine tkQ 12 (.int .i64 ((k : Int) + 1)) hHeld (he := by intro w hSw; (have q1 := HKM.out.1; have q2 := HBO.out; go_simp; (first | done | (refine wrL _ ?_ ?_ <;> omega) | omega))) (h := ?_)
                    (try simp only [Act.put, sA, sB, sC])
                    refine wpAnyH_ready (rs := [1, 4, 10]) (by kernel_rfl) (by simp) ?_
                    refine AllReadyH.cons (o := ?o25__1b) ?h25__1b (fun K hK => ?g25__1b) (AllReadyH.cons (o := ?o25__4b) ?h25__4b (fun K hK => ?g25__4b) (AllReadyH.cons (o := ?o25__10b) ?h25__10b (fun K hK => ?g25__10b) AllReadyH.nil))
                    case h25__1b => (first | (simp only [gA, gB, gC]; done) | (simp only [gA, gB, gC]; exact rfl))
                    case h25__4b => (first | (simp only [gA, gB, gC]; done) | (simp only [gA, gB, gC]; exact rfl))
                    case h25__10b => (first | (simp only [gA, gB, gC]; done) | (simp only [gA, gB, gC]; exact rfl))
                    case g25__1b =>
                     rw [if_pos (by rfl)]
                     refine wp_new (fun b => .slice (some ⟨b, 0, none⟩) 0 0) 38 #[] (by rintro b rfl; first | rfl | kernel_rfl) ?_
                     intro bn116 w212 hge hB hb
                     refine hK.out _ _ (by (apply HRK.out; exact hb; exact hHeld)) (fun hHeld2 => ?_)
                     have HIn116_a := Lib.hid (LO.far (hHeld.2.2.2.2.2.2.1) hge)
                     have HIn116_b := Lib.hid (LO.far (hHeld.2.2.2.2.2.2.2.1) hge)
                     have HIn116_re := Lib.hid (own_far (hHeld.2.2.2.2.2.2.2.2.1) hge)
                     have HIn116_ro := Lib.hid (own_far (hHeld.2.2.2.2.2.2.2.2.2) hge)
                     have HPn5k := Lib.hid (keep_blk hb HPn5.out)
                     clear HPn5
                     have HNn116n4 := Lib.hid (show bn116 ≠ bn4 by have := Blk.lt (hHeld.2.1); (try simp at this); (try simp at hge); omega)
                     have HNn116n5 := Lib.hid (show bn116 ≠ bn5 by obtain ⟨old, Bo, _⟩ := hHeld.2.2.1; have := Blk.lt Bo; omega)
                     have HNn116n6 := Lib.hid (show bn116 ≠ bn6 by have := Blk.lt (hHeld.2.2.2.1); (try simp at this); (try simp at hge); omega)
                     have HNn116n7 := Lib.hid (show bn116 ≠ bn7 by have := Blk.lt (hHeld.2.2.2.2.1); (try simp at this); (try simp at hge); omega)
                     have HNn116n13 := Lib.hid (show bn116 ≠ bn13 by have := Blk.lt (hHeld.2.2.2.2.2.1); (try simp at this); (try simp at hge); omega)
                     have HGn116 := Lib.hid (show w.heap.size ≤ bn116 by have := Since.size hHeld.1; (try simp at this); (try simp at hge); omega)
                     have HXn116 := Lib.hid hB
                     clear hB
                     clear hge
                     clear hK K hHeld hb
                     have hHeld := hHeld2
                     clear hHeld2
                     (try simp only [Act.put, sA, sB, sC])
                     have HOE2 := Lib.hid (own_empty (e := 38) (size := 9) HXn116.out HGn116.out)
                     clear HXn116
                     refine wpAnyH_ready (rs := [4, 10]) (by kernel_rfl) (by simp) ?_
                     refine AllReadyH.cons (o := ?o25_b1_4b) ?h25_b1_4b (fun K hK => ?g25_b1_4b) (AllReadyH.cons (o := ?o25_b1_10b) ?h25_b1_10b (fun K hK => ?g25_b1_10b) AllReadyH.nil)
                     case h25_b1_4b => (first | (simp only [gA, gB, gC]; done) | (simp only [gA, gB, gC]; exact rfl))
                     case h25_b1_10b => (first | (simp only [gA, gB, gC]; done) | (simp only [gA, gB, gC]; exact rfl))
                     case g25_b1_4b =>
                      rw [if_pos (by rfl)]
                      refine wp_q (.slice (some ⟨g1, 0, none⟩) ps.length c1) ?e25_b1b4_4 ?_
                      case e25_b1b4_4 => exact exec_cell 29 _ _ HPn5k.out (pr_at HEO.out) rfl rfl Try.underlying29 rfl
                      refine hK.out _ _ hHeld (fun hHeld2 => ?_)
                      clear hK K hHeld2
                      (try simp only [Act.put, sA, sB, sC])
                      refine tkQ 6 (.slice (some ⟨g1, 0, none⟩) k c1) hHeld (he := by intro w hSw; exact exec_slice (s := 9) 29 38 _ _ _ _ rfl rfl Try.underlying29 (by kernel_rfl) (sb_h _ _ (h := k) rfl (by have := HKM.out.1; have := HC1.out; omega)) (by split <;> simp [Addr.add]) rfl rfl) (h := ?_)
                      (try simp only [Act.put, sA, sB, sC])
                      refine wpAnyH_ready (rs := [7, 10]) (by kernel_rfl) (by simp) ?_
                      refine AllReadyH.cons (o := ?o25_b1b4_7b) ?h25_b1b4_7b (fun K hK => ?g25_b1b4_7b) (AllReadyH.cons (o := ?o25_b1b4_10b) ?h25_b1b4_10b (fun K hK => ?g25_b1b4_10b) AllReadyH.nil)
                      case h25_b1b4_7b => (first | (simp only [gA, gB, gC]; done) | (simp only [gA, gB, gC]; exact rfl))
                      case h25_b1b4_10b => (first | (simp only [gA, gB, gC]; done) | (simp only [gA, gB, gC]; exact rfl))
                      case g25_b1b4_7b =>
                       rw [if_pos (by rfl)]
                       refine wp_append_row (.tmp 116) (.tmp 121) 29 rfl w.heap.size 38 (Value.agg #[.int .i64 0, .int .i64 0, .int .i64 0, .int .i64 0, .bool false, .int .i64 0, .int .i64 0, .int .i64 0, .int .i64 0]) 9 72 Try.underlying29 (by kernel_rfl) rfl (by decide) (by decide) (some ⟨bn116, 0, none⟩) 0 0 ([]) rfl HOE2.out _ (some ⟨g1, 0, none⟩) k c1 ((rowsOf pkL ps).take (k * 9)) rfl (own_reads (own_prefix (hHeld.2.2.2.2.2.2.2.2.1) (by have := HKM.out.1; omega))) (fun u hu => pks_one ps u (List.mem_of_mem_take hu)) (by have := HKM.out.1; have := HBO.out; omega) (Since.size hHeld.1) k ((rowsOf pkL ps).take (k * 9)) (Nat.zero_add _) rfl ?_
                       intro A_1 c_1 w213 hown hupd hfar
                       have hHeld3 := HKS.out.at_ w213 ⟨Since.upd hHeld.1 hupd (own_low HOE2.out), Upd.blk hupd (hHeld.2.1) (own_ne_ty HOE2.out (hHeld.2.1) (by decide)), HasRow.upd hupd (hHeld.2.2.1) (own_ne_ty HOE2.out HPn5k.out (by decide)), Upd.blk hupd (hHeld.2.2.2.1) (own_ne_ty HOE2.out (hHeld.2.2.2.1) (by decide)), Upd.blk hupd (hHeld.2.2.2.2.1) (own_ne_ty HOE2.out (hHeld.2.2.2.2.1) (by decide)), Upd.blk hupd (hHeld.2.2.2.2.2.1) (by simp [blkOf]; exact (Ne.symm HNn116n13.out)), LO.upd hupd (hHeld.2.2.2.2.2.2.1) (fun g hg h => HIn116_a.out (by simp [blkOf] at h; rw [← h]; exact hg)), LO.upd hupd (hHeld.2.2.2.2.2.2.2.1) (fun g hg h => HIn116_b.out (by simp [blkOf] at h; rw [← h]; exact hg)), Upd.own hupd (hHeld.2.2.2.2.2.2.2.2.1) (fun g hg h => HIn116_re.out (by simp [blkOf] at h; rw [← h]; exact hg)), Upd.own hupd (hHeld.2.2.2.2.2.2.2.2.2) (fun g hg h => HIn116_ro.out (by simp [blkOf] at h; rw [← h]; exact hg))⟩
                       have HDEa_1 := Lib.hid (dis_next hfar (fun g hg h => HIn116_a.out (by simp [blkOf] at h; rw [← h]; exact hg)) (LO.lt (hHeld.2.2.2.2.2.2.1)))
                       have HDEb_1 := Lib.hid (dis_next hfar (fun g hg h => HIn116_b.out (by simp [blkOf] at h; rw [← h]; exact hg)) (LO.lt (hHeld.2.2.2.2.2.2.2.1)))
                       have HDEre_1 := Lib.hid (dis_next hfar (fun g hg h => HIn116_re.out (by simp [blkOf] at h; rw [← h]; exact hg)) (own_lt (hHeld.2.2.2.2.2.2.2.2.1)))
                       have HDEro_1 := Lib.hid (dis_next hfar (fun g hg h => HIn116_ro.out (by simp [blkOf] at h; rw [← h]; exact hg)) (own_lt (hHeld.2.2.2.2.2.2.2.2.2)))
                       have HPn5ku := Lib.hid (Upd.blk hupd HPn5k.out (own_ne_ty HOE2.out HPn5k.out (by decide)))
                       have HIn5_e_1 := Lib.hid (nin_next hfar (own_ne_ty HOE2.out HPn5k.out (by decide)) (Blk.lt HPn5k.out))
                       clear HPn5k
                       have HOW_w213 := Lib.hid hown
                       have HF13 := Lib.hid (show ∀ g ∈ blkOf A_1, g ≠ bn13 from fun g hg => by have q := hfar g hg; rcases q with q | q; (simp [blkOf] at q; rw [q]; exact HNn116n13.out); (have r := Blk.lt (hHeld.2.2.2.2.2.1); omega))
                       refine hK.out _ _ hHeld3 (fun hHeld2 => ?_)
                       clear hK K hHeld hHeld3 hupd hown hfar HOE2 
                       have hHeld := hHeld2
                       clear hHeld2
                       (try simp only [Act.put, sA, sB, sC])
                       refine wpAnyH_ready (rs := [10]) (by kernel_rfl) (by simp) ?_
                       refine AllReadyH.cons (o := ?o25_b1b4b7_10) ?h25_b1b4b7_10 (fun K hK => ?_) AllReadyH.nil
                       case h25_b1b4b7_10 => (first | (simp only [gA, gB, gC]; done) | (simp only [gA, gB, gC]; exact rfl))
                       rw [if_pos (by rfl)]
                       refine wp_q (.slice (some ⟨g1, 0, none⟩) ps.length c1) ?e25_b1b4b7_10 ?_
                       case e25_b1b4b7_10 => exact exec_cell 29 _ _ HPn5ku.out (pr_at HEO.out) rfl rfl Try.underlying29 rfl
                       refine hK.out _ _ hHeld (fun hHeld2 => ?_)
                       clear hK K hHeld2
                       (try simp only [Act.put, sA, sB, sC])
                       refine tkQ 13 (.slice (cutA c1 (k + 1) (some ⟨g1, 0, none⟩) 9) (ps.length - (k + 1)) (c1 - (k + 1))) hHeld (he := by intro w hSw; exact exec_slice (s := 9) 29 38 _ _ _ _ rfl rfl Try.underlying29 (by kernel_rfl) (sb_l _ _ (l := k + 1) (by push_cast; rfl) (by have := HKM.out.1; omega)) (by rfl) rfl rfl) (h := ?_)
                       (try simp only [Act.put, sA, sB, sC])
                       refine wpAnyH_ready (rs := [14]) (by kernel_rfl) (by simp) ?_
                       refine AllReadyH.cons (o := ?o25_b1b4b7_14) ?h25_b1b4b7_14 (fun K hK => ?_) AllReadyH.nil
                       case h25_b1b4b7_14 => (first | (simp only [gA, gB, gC]; done) | (simp only [gA, gB, gC]; exact rfl))
                       rw [if_pos (by rfl)]
                       refine wp_append_row (.tmp 122) (.tmp 128) 29 rfl w.heap.size 38 (Value.agg #[.int .i64 0, .int .i64 0, .int .i64 0, .int .i64 0, .bool false, .int .i64 0, .int .i64 0, .int .i64 0, .int .i64 0]) 9 72 Try.underlying29 (by kernel_rfl) rfl (by decide) (by decide) A_1 k c_1 ((rowsOf pkL ps).take (k * 9)) rfl HOW_w213.out _ (cutA c1 (k + 1) (some ⟨g1, 0, none⟩) 9) (ps.length - (k + 1)) (c1 - (k + 1)) ((rowsOf pkL ps).drop ((k + 1) * 9)) rfl (reads_cut (own_reads (hHeld.2.2.2.2.2.2.2.2.1)) (by have := HKM.out.1; omega) HC1.out) (fun u hu => pks_one ps u (List.mem_of_mem_drop hu)) (by have := HKM.out.1; have := HBO.out; omega) (Since.size hHeld.1) ((ps.eraseIdx k).length) (rowsOf pkL (ps.eraseIdx k)) (by have := HKM.out.1; rw [List.length_eraseIdx]; split <;> omega) (erase_rows pkL_len HKM.out.1) ?_
                       intro A_2 c_2 w214 hown hupd hfar
                       have hHeld3 := HKS.out.at_ w214 ⟨Since.upd hHeld.1 hupd (own_low HOW_w213.out), Upd.blk hupd (hHeld.2.1) (own_ne_ty HOW_w213.out (hHeld.2.1) (by decide)), HasRow.upd hupd (hHeld.2.2.1) (own_ne_ty HOW_w213.out HPn5ku.out (by decide)), Upd.blk hupd (hHeld.2.2.2.1) (own_ne_ty HOW_w213.out (hHeld.2.2.2.1) (by decide)), Upd.blk hupd (hHeld.2.2.2.2.1) (own_ne_ty HOW_w213.out (hHeld.2.2.2.2.1) (by decide)), Upd.blk hupd (hHeld.2.2.2.2.2.1) (fun hm => HF13.out _ hm rfl), LO.upd hupd (hHeld.2.2.2.2.2.2.1) HDEa_1.out, LO.upd hupd (hHeld.2.2.2.2.2.2.2.1) HDEb_1.out, Upd.own hupd (hHeld.2.2.2.2.2.2.2.2.1) HDEre_1.out, Upd.own hupd (hHeld.2.2.2.2.2.2.2.2.2) HDEro_1.out⟩
                       have HDEa_2 := Lib.hid (dis_next hfar HDEa_1.out (LO.lt (hHeld.2.2.2.2.2.2.1)))
                       have HDEb_2 := Lib.hid (dis_next hfar HDEb_1.out (LO.lt (hHeld.2.2.2.2.2.2.2.1)))
                       have HDEre_2 := Lib.hid (dis_next hfar HDEre_1.out (own_lt (hHeld.2.2.2.2.2.2.2.2.1)))
                       have HDEro_2 := Lib.hid (dis_next hfar HDEro_1.out (own_lt (hHeld.2.2.2.2.2.2.2.2.2)))
                       have HPn5kuu := Lib.hid (Upd.blk hupd HPn5ku.out (own_ne_ty HOW_w213.out HPn5ku.out (by decide)))
                       have HIn5_e_2 := Lib.hid (nin_next hfar (own_ne_ty HOW_w213.out HPn5ku.out (by decide)) (Blk.lt HPn5ku.out))
                       clear HPn5ku
                       have HOW_w214 := Lib.hid hown
                       refine hK.out _ _ hHeld3 (fun hHeld2 => ?_)
                       clear hK K hHeld hHeld3 hupd hown hfar HOW_w213 
                       have hHeld := hHeld2
                       clear hHeld2
                       (try simp only [Act.put, sA, sB, sC])
                       refine tkQ 15 (.pointer (some ⟨bn5, e, none⟩)) hHeld (he := by intro w hSw; exact exec_arr (i := e) (n := 2) 30 29 _ _ rfl rfl rfl rfl (by have := HEO.out; omega) Try.underlying30 (by kernel_rfl)) (h := ?_)
                       (try simp only [Act.put, sA, sB, sC])
                       refine wpAnyH_ready (rs := [16]) (by kernel_rfl) (by simp) ?_
                       refine AllReadyH.cons (o := ?o25_b1b4b7_16) ?h25_b1b4b7_16 (fun K hK => ?_) AllReadyH.nil
                       case h25_b1b4b7_16 => (first | (simp only [gA, gB, gC]; done) | (simp only [gA, gB, gC]; exact rfl))
                       rw [if_pos (by rfl)]
                       refine wp_st_cell 29 _ _ rfl (pr e (.slice A_2 ((ps.eraseIdx k).length) c_2) (.slice A2 qs.length c2)) (.slice A_2 ((ps.eraseIdx k).length) c_2) rfl rfl HPn5kuu.out (by rw [pr_size]; have := HEO.out; omega) (pr_set HEO.out) (by first | rfl | simp [Value.oneCell']) (by kernel_rfl) ?_
                       clear HPn5kuu
                       intro w215 hw
                       have HOW_w214r := Lib.hid (show (w215).ownsRow w.heap.size 38 9 (.slice A_2 ((ps.eraseIdx k).length) c_2) ((ps.eraseIdx k).length) (rowsOf pkL (ps.eraseIdx k)) by rw [hw]; exact own_row_far HOW_w214.out HIn5_e_2.out _)
                       clear HOW_w214
                       have HRn5 := Lib.hid (show Blk w215 bn5 30 (pr e (.slice A_2 ((ps.eraseIdx k).length) c_2) (.slice A2 qs.length c2)) by obtain ⟨old, Bo, _⟩ := hHeld.2.2.1; rw [hw]; exact Blk.row Bo _)
                       have hHeld3 := HKS.out.at_ w215 ⟨by rw [hw]; exact Since.setRow hHeld.1 HGn5.out _, by rw [hw]; exact Blk.row_far (hHeld.2.1) (Ne.symm HNn5n4.out) _, HasRow.of HRn5.out pr_size, by rw [hw]; exact Blk.row_far (hHeld.2.2.2.1) HNn6n5.out _, by rw [hw]; exact Blk.row_far (hHeld.2.2.2.2.1) HNn7n5.out _, by rw [hw]; exact Blk.row_far (hHeld.2.2.2.2.2.1) HNn13n5.out _, by rw [hw]; exact LO.row_far (hHeld.2.2.2.2.2.2.1) HIn5a.out _, by rw [hw]; exact LO.row_far (hHeld.2.2.2.2.2.2.2.1) HIn5b.out _, by rw [hw]; exact own_row_far (hHeld.2.2.2.2.2.2.2.2.1) HIn5re.out _, by rw [hw]; exact own_row_far (hHeld.2.2.2.2.2.2.2.2.2) HIn5ro.out _⟩
                       refine hK.out _ _ hHeld3 (fun hHeld2 => ?_)
                       clear hK K hHeld hHeld3 hw
                       have hHeld := hHeld2
                       clear hHeld2
                       (try simp only [Act.put, sA, sB, sC])
                       refine wpAnyH_done (by kernel_rfl) ?_ _
                       have HSd25 := Lib.hid hHeld.1
                       have HBn4d25 := Lib.hid (hHeld.2.1)
                       have HBn5d25 := Lib.hid HRn5.out
                       clear HRn5
                       have HBn6d25 := Lib.hid (hHeld.2.2.2.1)
                       have HBn7d25 := Lib.hid (hHeld.2.2.2.2.1)
                       have HBn13d25 := Lib.hid (hHeld.2.2.2.2.2.1)
                       have HFad25 := Lib.hid (hHeld.2.2.2.2.2.2.1)
                       have HFbd25 := Lib.hid (hHeld.2.2.2.2.2.2.2.1)
                       have HFred25 := Lib.hid (hHeld.2.2.2.2.2.2.2.2.1)
                       have HFrod25 := Lib.hid (hHeld.2.2.2.2.2.2.2.2.2)
                       clear hHeld HRK HKS HS211 HBn4211 HBn5211 HBn6211 HBn7211 HBn13211 HFa_211 HFb_211 HFre_211 HFro_211
                       have HFed25 := Lib.hid HOW_w214r.out
                       clear HOW_w214r
                       go_wp2_with fail
                       refine Met.intro ?_
                       exact hJ5 _ _ ⟨(ps.eraseIdx k), A_2, c_2, ⟨rfl, rfl, rfl, rfl, rfl, rfl, rfl, rfl, rfl, rfl, rfl, rfl, rfl, rfl, rfl, rfl, trivial⟩, Lib.hid ⟨(HI.out.loses k), (fun g hg h => HDEro_2.out g h hg), HSd25.out, HBn4d25.out, HBn5d25.out, HBn6d25.out, HBn7d25.out, HBn13d25.out, HFad25.out, HFbd25.out, HFed25.out, HFrod25.out⟩⟩
                      case g25_b1b4_10b =>
                       rw [if_pos (by rfl)]
                       refine wp_q (.slice (some ⟨g1, 0, none⟩) ps.length c1) ?e25_b1b4b10_10 ?_
                       case e25_b1b4b10_10 => exact exec_cell 29 _ _ HPn5k.out (pr_at HEO.out) rfl rfl Try.underlying29 rfl
                       refine hK.out _ _ hHeld (fun hHeld2 => ?_)
                       clear hK K hHeld2
                       (try simp only [Act.put, sA, sB, sC])
                       refine tkQ 13 (.slice (cutA c1 (k + 1) (some ⟨g1, 0, none⟩) 9) (ps.length - (k + 1)) (c1 - (k + 1))) hHeld (he := by intro w hSw; exact exec_slice (s := 9) 29 38 _ _ _ _ rfl rfl Try.underlying29 (by kernel_rfl) (sb_l _ _ (l := k + 1) (by push_cast; rfl) (by have := HKM.out.1; omega)) (by rfl) rfl rfl) (h := ?_)
                       (try simp only [Act.put, sA, sB, sC])
                       refine wpAnyH_ready (rs := [7]) (by kernel_rfl) (by simp) ?_
                       refine AllReadyH.cons (o := ?o25_b1b4b10_7) ?h25_b1b4b10_7 (fun K hK => ?_) AllReadyH.nil
                       case h25_b1b4b10_7 => (first | (simp only [gA, gB, gC]; done) | (simp only [gA, gB, gC]; exact rfl))
                       rw [if_pos (by rfl)]
                       refine wp_append_row (.tmp 116) (.tmp 121) 29 rfl w.heap.size 38 (Value.agg #[.int .i64 0, .int .i64 0, .int .i64 0, .int .i64 0, .bool false, .int .i64 0, .int .i64 0, .int .i64 0, .int .i64 0]) 9 72 Try.underlying29 (by kernel_rfl) rfl (by decide) (by decide) (some ⟨bn116, 0, none⟩) 0 0 ([]) rfl HOE2.out _ (some ⟨g1, 0, none⟩) k c1 ((rowsOf pkL ps).take (k * 9)) rfl (own_reads (own_prefix (hHeld.2.2.2.2.2.2.2.2.1) (by have := HKM.out.1; omega))) (fun u hu => pks_one ps u (List.mem_of_mem_take hu)) (by have := HKM.out.1; have := HBO.out; omega) (Since.size hHeld.1) k ((rowsOf pkL ps).take (k * 9)) (Nat.zero_add _) rfl ?_
                       intro A_3 c_3 w213 hown hupd hfar
                       have hHeld3 := HKS.out.at_ w213 ⟨Since.upd hHeld.1 hupd (own_low HOE2.out), Upd.blk hupd (hHeld.2.1) (own_ne_ty HOE2.out (hHeld.2.1) (by decide)), HasRow.upd hupd (hHeld.2.2.1) (own_ne_ty HOE2.out HPn5k.out (by decide)), Upd.blk hupd (hHeld.2.2.2.1) (own_ne_ty HOE2.out (hHeld.2.2.2.1) (by decide)), Upd.blk hupd (hHeld.2.2.2.2.1) (own_ne_ty HOE2.out (hHeld.2.2.2.2.1) (by decide)), Upd.blk hupd (hHeld.2.2.2.2.2.1) (by simp [blkOf]; exact (Ne.symm HNn116n13.out)), LO.upd hupd (hHeld.2.2.2.2.2.2.1) (fun g hg h => HIn116_a.out (by simp [blkOf] at h; rw [← h]; exact hg)), LO.upd hupd (hHeld.2.2.2.2.2.2.2.1) (fun g hg h => HIn116_b.out (by simp [blkOf] at h; rw [← h]; exact hg)), Upd.own hupd (hHeld.2.2.2.2.2.2.2.2.1) (fun g hg h => HIn116_re.out (by simp [blkOf] at h; rw [← h]; exact hg)), Upd.own hupd (hHeld.2.2.2.2.2.2.2.2.2) (fun g hg h => HIn116_ro.out (by simp [blkOf] at h; rw [← h]; exact hg))⟩
                       have HDEa_3 := Lib.hid (dis_next hfar (fun g hg h => HIn116_a.out (by simp [blkOf] at h; rw [← h]; exact hg)) (LO.lt (hHeld.2.2.2.2.2.2.1)))
                       have HDEb_3 := Lib.hid (dis_next hfar (fun g hg h => HIn116_b.out (by simp [blkOf] at h; rw [← h]; exact hg)) (LO.lt (hHeld.2.2.2.2.2.2.2.1)))
                       have HDEre_3 := Lib.hid (dis_next hfar (fun g hg h => HIn116_re.out (by simp [blkOf] at h; rw [← h]; exact hg)) (own_lt (hHeld.2.2.2.2.2.2.2.2.1)))
                       have HDEro_3 := Lib.hid (dis_next hfar (fun g hg h => HIn116_ro.out (by simp [blkOf] at h; rw [← h]; exact hg)) (own_lt (hHeld.2.2.2.2.2.2.2.2.2)))
                       have HPn5ku := Lib.hid (Upd.blk hupd HPn5k.out (own_ne_ty HOE2.out HPn5k.out (by decide)))
                       have HIn5_e_3 := Lib.hid (nin_next hfar (own_ne_ty HOE2.out HPn5k.out (by decide)) (Blk.lt HPn5k.out))
                       clear HPn5k
                       have HOW_w213 := Lib.hid hown
                       have HF13 := Lib.hid (show ∀ g ∈ blkOf A_3, g ≠ bn13 from fun g hg => by have q := hfar g hg; rcases q with q | q; (simp [blkOf] at q; rw [q]; exact HNn116n13.out); (have r := Blk.lt (hHeld.2.2.2.2.2.1); omega))
                       refine hK.out _ _ hHeld3 (fun hHeld2 => ?_)
                       clear hK K hHeld hHeld3 hupd hown hfar HOE2 
                       have hHeld := hHeld2
                       clear hHeld2
                       (try simp only [Act.put, sA, sB, sC])
                       refine wpAnyH_ready (rs := [14]) (by kernel_rfl) (by simp) ?_
                       refine AllReadyH.cons (o := ?o25_b1b4b10_14) ?h25_b1b4b10_14 (fun K hK => ?_) AllReadyH.nil
                       case h25_b1b4b10_14 => (first | (simp only [gA, gB, gC]; done) | (simp only [gA, gB, gC]; exact rfl))
                       rw [if_pos (by rfl)]
                       refine wp_append_row (.tmp 122) (.tmp 128) 29 rfl w.heap.size 38 (Value.agg #[.int .i64 0, .int .i64 0, .int .i64 0, .int .i64 0, .bool false, .int .i64 0, .int .i64 0, .int .i64 0, .int .i64 0]) 9 72 Try.underlying29 (by kernel_rfl) rfl (by decide) (by decide) A_3 k c_3 ((rowsOf pkL ps).take (k * 9)) rfl HOW_w213.out _ (cutA c1 (k + 1) (some ⟨g1, 0, none⟩) 9) (ps.length - (k + 1)) (c1 - (k + 1)) ((rowsOf pkL ps).drop ((k + 1) * 9)) rfl (reads_cut (own_reads (hHeld.2.2.2.2.2.2.2.2.1)) (by have := HKM.out.1; omega) HC1.out) (fun u hu => pks_one ps u (List.mem_of_mem_drop hu)) (by have := HKM.out.1; have := HBO.out; omega) (Since.size hHeld.1) ((ps.eraseIdx k).length) (rowsOf pkL (ps.eraseIdx k)) (by have := HKM.out.1; rw [List.length_eraseIdx]; split <;> omega) (erase_rows pkL_len HKM.out.1) ?_
                       intro A_4 c_4 w214 hown hupd hfar
                       have hHeld3 := HKS.out.at_ w214 ⟨Since.upd hHeld.1 hupd (own_low HOW_w213.out), Upd.blk hupd (hHeld.2.1) (own_ne_ty HOW_w213.out (hHeld.2.1) (by decide)), HasRow.upd hupd (hHeld.2.2.1) (own_ne_ty HOW_w213.out HPn5ku.out (by decide)), Upd.blk hupd (hHeld.2.2.2.1) (own_ne_ty HOW_w213.out (hHeld.2.2.2.1) (by decide)), Upd.blk hupd (hHeld.2.2.2.2.1) (own_ne_ty HOW_w213.out (hHeld.2.2.2.2.1) (by decide)), Upd.blk hupd (hHeld.2.2.2.2.2.1) (fun hm => HF13.out _ hm rfl), LO.upd hupd (hHeld.2.2.2.2.2.2.1) HDEa_3.out, LO.upd hupd (hHeld.2.2.2.2.2.2.2.1) HDEb_3.out, Upd.own hupd (hHeld.2.2.2.2.2.2.2.2.1) HDEre_3.out, Upd.own hupd (hHeld.2.2.2.2.2.2.2.2.2) HDEro_3.out⟩
                       have HDEa_4 := Lib.hid (dis_next hfar HDEa_3.out (LO.lt (hHeld.2.2.2.2.2.2.1)))
                       have HDEb_4 := Lib.hid (dis_next hfar HDEb_3.out (LO.lt (hHeld.2.2.2.2.2.2.2.1)))
                       have HDEre_4 := Lib.hid (dis_next hfar HDEre_3.out (own_lt (hHeld.2.2.2.2.2.2.2.2.1)))
                       have HDEro_4 := Lib.hid (dis_next hfar HDEro_3.out (own_lt (hHeld.2.2.2.2.2.2.2.2.2)))
                       have HPn5kuu := Lib.hid (Upd.blk hupd HPn5ku.out (own_ne_ty HOW_w213.out HPn5ku.out (by decide)))
                       have HIn5_e_4 := Lib.hid (nin_next hfar (own_ne_ty HOW_w213.out HPn5ku.out (by decide)) (Blk.lt HPn5ku.out))
                       clear HPn5ku
                       have HOW_w214 := Lib.hid hown
                       refine hK.out _ _ hHeld3 (fun hHeld2 => ?_)
                       clear hK K hHeld hHeld3 hupd hown hfar HOW_w213 
                       have hHeld := hHeld2
                       clear hHeld2
                       (try simp only [Act.put, sA, sB, sC])
                       refine tkQ 15 (.pointer (some ⟨bn5, e, none⟩)) hHeld (he := by intro w hSw; exact exec_arr (i := e) (n := 2) 30 29 _ _ rfl rfl rfl rfl (by have := HEO.out; omega) Try.underlying30 (by kernel_rfl)) (h := ?_)
                       (try simp only [Act.put, sA, sB, sC])
                       refine wpAnyH_ready (rs := [16]) (by kernel_rfl) (by simp) ?_
                       refine AllReadyH.cons (o := ?o25_b1b4b10_16) ?h25_b1b4b10_16 (fun K hK => ?_) AllReadyH.nil
                       case h25_b1b4b10_16 => (first | (simp only [gA, gB, gC]; done) | (simp only [gA, gB, gC]; exact rfl))
                       rw [if_pos (by rfl)]
                       refine wp_st_cell 29 _ _ rfl (pr e (.slice A_4 ((ps.eraseIdx k).length) c_4) (.slice A2 qs.length c2)) (.slice A_4 ((ps.eraseIdx k).length) c_4) rfl rfl HPn5kuu.out (by rw [pr_size]; have := HEO.out; omega) (pr_set HEO.out) (by first | rfl | simp [Value.oneCell']) (by kernel_rfl) ?_
                       clear HPn5kuu
                       intro w215 hw
                       have HOW_w214r := Lib.hid (show (w215).ownsRow w.heap.size 38 9 (.slice A_4 ((ps.eraseIdx k).length) c_4) ((ps.eraseIdx k).length) (rowsOf pkL (ps.eraseIdx k)) by rw [hw]; exact own_row_far HOW_w214.out HIn5_e_4.out _)
                       clear HOW_w214
                       have HRn5 := Lib.hid (show Blk w215 bn5 30 (pr e (.slice A_4 ((ps.eraseIdx k).length) c_4) (.slice A2 qs.length c2)) by obtain ⟨old, Bo, _⟩ := hHeld.2.2.1; rw [hw]; exact Blk.row Bo _)
                       have hHeld3 := HKS.out.at_ w215 ⟨by rw [hw]; exact Since.setRow hHeld.1 HGn5.out _, by rw [hw]; exact Blk.row_far (hHeld.2.1) (Ne.symm HNn5n4.out) _, HasRow.of HRn5.out pr_size, by rw [hw]; exact Blk.row_far (hHeld.2.2.2.1) HNn6n5.out _, by rw [hw]; exact Blk.row_far (hHeld.2.2.2.2.1) HNn7n5.out _, by rw [hw]; exact Blk.row_far (hHeld.2.2.2.2.2.1) HNn13n5.out _, by rw [hw]; exact LO.row_far (hHeld.2.2.2.2.2.2.1) HIn5a.out _, by rw [hw]; exact LO.row_far (hHeld.2.2.2.2.2.2.2.1) HIn5b.out _, by rw [hw]; exact own_row_far (hHeld.2.2.2.2.2.2.2.2.1) HIn5re.out _, by rw [hw]; exact own_row_far (hHeld.2.2.2.2.2.2.2.2.2) HIn5ro.out _⟩
                       refine hK.out _ _ hHeld3 (fun hHeld2 => ?_)
                       clear hK K hHeld hHeld3 hw
                       have hHeld := hHeld2
                       clear hHeld2
                       (try simp only [Act.put, sA, sB, sC])
                       refine wpAnyH_done (by kernel_rfl) ?_ _
                       have HSd25v2 := Lib.hid hHeld.1
                       have HBn4d25v2 := Lib.hid (hHeld.2.1)
                       have HBn5d25v2 := Lib.hid HRn5.out
                       clear HRn5
                       have HBn6d25v2 := Lib.hid (hHeld.2.2.2.1)
                       have HBn7d25v2 := Lib.hid (hHeld.2.2.2.2.1)
                       have HBn13d25v2 := Lib.hid (hHeld.2.2.2.2.2.1)
                       have HFad25v2 := Lib.hid (hHeld.2.2.2.2.2.2.1)
                       have HFbd25v2 := Lib.hid (hHeld.2.2.2.2.2.2.2.1)
                       have HFred25v2 := Lib.hid (hHeld.2.2.2.2.2.2.2.2.1)
                       have HFrod25v2 := Lib.hid (hHeld.2.2.2.2.2.2.2.2.2)
                       clear hHeld HRK HKS HS211 HBn4211 HBn5211 HBn6211 HBn7211 HBn13211 HFa_211 HFb_211 HFre_211 HFro_211
                       have HFed25v2 := Lib.hid HOW_w214r.out
                       clear HOW_w214r
                       go_wp2_with fail
                       refine Met.intro ?_
                       exact hJ5 _ _ ⟨(ps.eraseIdx k), A_4, c_4, ⟨rfl, rfl, rfl, rfl, rfl, rfl, rfl, rfl, rfl, rfl, rfl, rfl, rfl, rfl, rfl, rfl, trivial⟩, Lib.hid ⟨(HI.out.loses k), (fun g hg h => HDEro_4.out g h hg), HSd25v2.out, HBn4d25v2.out, HBn5d25v2.out, HBn6d25v2.out, HBn7d25v2.out, HBn13d25v2.out, HFad25v2.out, HFbd25v2.out, HFed25v2.out, HFrod25v2.out⟩⟩
                     case g25_b1_10b =>
                      rw [if_pos (by rfl)]
                      refine wp_q (.slice (some ⟨g1, 0, none⟩) ps.length c1) ?e25_b1b10_10 ?_
                      case e25_b1b10_10 => exact exec_cell 29 _ _ HPn5k.out (pr_at HEO.out) rfl rfl Try.underlying29 rfl
                      refine hK.out _ _ hHeld (fun hHeld2 => ?_)
                      clear hK K hHeld2
                      (try simp only [Act.put, sA, sB, sC])
                      refine tkQ 13 (.slice (cutA c1 (k + 1) (some ⟨g1, 0, none⟩) 9) (ps.length - (k + 1)) (c1 - (k + 1))) hHeld (he := by intro w hSw; exact exec_slice (s := 9) 29 38 _ _ _ _ rfl rfl Try.underlying29 (by kernel_rfl) (sb_l _ _ (l := k + 1) (by push_cast; rfl) (by have := HKM.out.1; omega)) (by rfl) rfl rfl) (h := ?_)
                      (try simp only [Act.put, sA, sB, sC])
                      refine wpAnyH_ready (rs := [4]) (by kernel_rfl) (by simp) ?_
                      refine AllReadyH.cons (o := ?o25_b1b10_4) ?h25_b1b10_4 (fun K hK => ?_) AllReadyH.nil
                      case h25_b1b10_4 => (first | (simp only [gA, gB, gC]; done) | (simp only [gA, gB, gC]; exact rfl))
                      rw [if_pos (by rfl)]
                      refine wp_q (.slice (some ⟨g1, 0, none⟩) ps.length c1) ?e25_b1b10_4 ?_
                      case e25_b1b10_4 => exact exec_cell 29 _ _ HPn5k.out (pr_at HEO.out) rfl rfl Try.underlying29 rfl
                      refine hK.out _ _ hHeld (fun hHeld2 => ?_)
                      clear hK K hHeld2
                      (try simp only [Act.put, sA, sB, sC])
                      refine tkQ 6 (.slice (some ⟨g1, 0, none⟩) k c1) hHeld (he := by intro w hSw; exact exec_slice (s := 9) 29 38 _ _ _ _ rfl rfl Try.underlying29 (by kernel_rfl) (sb_h _ _ (h := k) rfl (by have := HKM.out.1; have := HC1.out; omega)) (by split <;> simp [Addr.add]) rfl rfl) (h := ?_)
                      (try simp only [Act.put, sA, sB, sC])
                      refine wpAnyH_ready (rs := [7]) (by kernel_rfl) (by simp) ?_
                      refine AllReadyH.cons (o := ?o25_b1b10_7) ?h25_b1b10_7 (fun K hK => ?_) AllReadyH.nil
                      case h25_b1b10_7 => (first | (simp only [gA, gB, gC]; done) | (simp only [gA, gB, gC]; exact rfl))
                      rw [if_pos (by rfl)]
                      refine wp_append_row (.tmp 116) (.tmp 121) 29 rfl w.heap.size 38 (Value.agg #[.int .i64 0, .int .i64 0, .int .i64 0, .int .i64 0, .bool false, .int .i64 0, .int .i64 0, .int .i64 0, .int .i64 0]) 9 72 Try.underlying29 (by kernel_rfl) rfl (by decide) (by decide) (some ⟨bn116, 0, none⟩) 0 0 ([]) rfl HOE2.out _ (some ⟨g1, 0, none⟩) k c1 ((rowsOf pkL ps).take (k * 9)) rfl (own_reads (own_prefix (hHeld.2.2.2.2.2.2.2.2.1) (by have := HKM.out.1; omega))) (fun u hu => pks_one ps u (List.mem_of_mem_take hu)) (by have := HKM.out.1; have := HBO.out; omega) (Since.size hHeld.1) k ((rowsOf pkL ps).take (k * 9)) (Nat.zero_add _) rfl ?_
                      intro A_5 c_5 w213 hown hupd hfar
                      have hHeld3 := HKS.out.at_ w213 ⟨Since.upd hHeld.1 hupd (own_low HOE2.out), Upd.blk hupd (hHeld.2.1) (own_ne_ty HOE2.out (hHeld.2.1) (by decide)), HasRow.upd hupd (hHeld.2.2.1) (own_ne_ty HOE2.out HPn5k.out (by decide)), Upd.blk hupd (hHeld.2.2.2.1) (own_ne_ty HOE2.out (hHeld.2.2.2.1) (by decide)), Upd.blk hupd (hHeld.2.2.2.2.1) (own_ne_ty HOE2.out (hHeld.2.2.2.2.1) (by decide)), Upd.blk hupd (hHeld.2.2.2.2.2.1) (by simp [blkOf]; exact (Ne.symm HNn116n13.out)), LO.upd hupd (hHeld.2.2.2.2.2.2.1) (fun g hg h => HIn116_a.out (by simp [blkOf] at h; rw [← h]; exact hg)), LO.upd hupd (hHeld.2.2.2.2.2.2.2.1) (fun g hg h => HIn116_b.out (by simp [blkOf] at h; rw [← h]; exact hg)), Upd.own hupd (hHeld.2.2.2.2.2.2.2.2.1) (fun g hg h => HIn116_re.out (by simp [blkOf] at h; rw [← h]; exact hg)), Upd.own hupd (hHeld.2.2.2.2.2.2.2.2.2) (fun g hg h => HIn116_ro.out (by simp [blkOf] at h; rw [← h]; exact hg))⟩
                      have HDEa_5 := Lib.hid (dis_next hfar (fun g hg h => HIn116_a.out (by simp [blkOf] at h; rw [← h]; exact hg)) (LO.lt (hHeld.2.2.2.2.2.2.1)))
                      have HDEb_5 := Lib.hid (dis_next hfar (fun g hg h => HIn116_b.out (by simp [blkOf] at h; rw [← h]; exact hg)) (LO.lt (hHeld.2.2.2.2.2.2.2.1)))
                      have HDEre_5 := Lib.hid (dis_next hfar (fun g hg h => HIn116_re.out (by simp [blkOf] at h; rw [← h]; exact hg)) (own_lt (hHeld.2.2.2.2.2.2.2.2.1)))
                      have HDEro_5 := Lib.hid (dis_next hfar (fun g hg h => HIn116_ro.out (by simp [blkOf] at h; rw [← h]; exact hg)) (own_lt (hHeld.2.2.2.2.2.2.2.2.2)))
                      have HPn5ku := Lib.hid (Upd.blk hupd HPn5k.out (own_ne_ty HOE2.out HPn5k.out (by decide)))
                      have HIn5_e_5 := Lib.hid (nin_next hfar (own_ne_ty HOE2.out HPn5k.out (by decide)) (Blk.lt HPn5k.out))
                      clear HPn5k
                      have HOW_w213 := Lib.hid hown
                      have HF13 := Lib.hid (show ∀ g ∈ blkOf A_5, g ≠ bn13 from fun g hg => by have q := hfar g hg; rcases q with q | q; (simp [blkOf] at q; rw [q]; exact HNn116n13.out); (have r := Blk.lt (hHeld.2.2.2.2.2.1); omega))
                      refine hK.out _ _ hHeld3 (fun hHeld2 => ?_)
                      clear hK K hHeld hHeld3 hupd hown hfar HOE2 
                      have hHeld := hHeld2
                      clear hHeld2
                      (try simp only [Act.put, sA, sB, sC])
                      refine wpAnyH_ready (rs := [14]) (by kernel_rfl) (by simp) ?_
                      refine AllReadyH.cons (o := ?o25_b1b10_14) ?h25_b1b10_14 (fun K hK => ?_) AllReadyH.nil
                      case h25_b1b10_14 => (first | (simp only [gA, gB, gC]; done) | (simp only [gA, gB, gC]; exact rfl))
                      rw [if_pos (by rfl)]
                      refine wp_append_row (.tmp 122) (.tmp 128) 29 rfl w.heap.size 38 (Value.agg #[.int .i64 0, .int .i64 0, .int .i64 0, .int .i64 0, .bool false, .int .i64 0, .int .i64 0, .int .i64 0, .int .i64 0]) 9 72 Try.underlying29 (by kernel_rfl) rfl (by decide) (by decide) A_5 k c_5 ((rowsOf pkL ps).take (k * 9)) rfl HOW_w213.out _ (cutA c1 (k + 1) (some ⟨g1, 0, none⟩) 9) (ps.length - (k + 1)) (c1 - (k + 1)) ((rowsOf pkL ps).drop ((k + 1) * 9)) rfl (reads_cut (own_reads (hHeld.2.2.2.2.2.2.2.2.1)) (by have := HKM.out.1; omega) HC1.out) (fun u hu => pks_one ps u (List.mem_of_mem_drop hu)) (by have := HKM.out.1; have := HBO.out; omega) (Since.size hHeld.1) ((ps.eraseIdx k).length) (rowsOf pkL (ps.eraseIdx k)) (by have := HKM.out.1; rw [List.length_eraseIdx]; split <;> omega) (erase_rows pkL_len HKM.out.1) ?_
                      intro A_6 c_6 w214 hown hupd hfar
                      have hHeld3 := HKS.out.at_ w214 ⟨Since.upd hHeld.1 hupd (own_low HOW_w213.out), Upd.blk hupd (hHeld.2.1) (own_ne_ty HOW_w213.out (hHeld.2.1) (by decide)), HasRow.upd hupd (hHeld.2.2.1) (own_ne_ty HOW_w213.out HPn5ku.out (by decide)), Upd.blk hupd (hHeld.2.2.2.1) (own_ne_ty HOW_w213.out (hHeld.2.2.2.1) (by decide)), Upd.blk hupd (hHeld.2.2.2.2.1) (own_ne_ty HOW_w213.out (hHeld.2.2.2.2.1) (by decide)), Upd.blk hupd (hHeld.2.2.2.2.2.1) (fun hm => HF13.out _ hm rfl), LO.upd hupd (hHeld.2.2.2.2.2.2.1) HDEa_5.out, LO.upd hupd (hHeld.2.2.2.2.2.2.2.1) HDEb_5.out, Upd.own hupd (hHeld.2.2.2.2.2.2.2.2.1) HDEre_5.out, Upd.own hupd (hHeld.2.2.2.2.2.2.2.2.2) HDEro_5.out⟩
                      have HDEa_6 := Lib.hid (dis_next hfar HDEa_5.out (LO.lt (hHeld.2.2.2.2.2.2.1)))
                      have HDEb_6 := Lib.hid (dis_next hfar HDEb_5.out (LO.lt (hHeld.2.2.2.2.2.2.2.1)))
                      have HDEre_6 := Lib.hid (dis_next hfar HDEre_5.out (own_lt (hHeld.2.2.2.2.2.2.2.2.1)))
                      have HDEro_6 := Lib.hid (dis_next hfar HDEro_5.out (own_lt (hHeld.2.2.2.2.2.2.2.2.2)))
                      have HPn5kuu := Lib.hid (Upd.blk hupd HPn5ku.out (own_ne_ty HOW_w213.out HPn5ku.out (by decide)))
                      have HIn5_e_6 := Lib.hid (nin_next hfar (own_ne_ty HOW_w213.out HPn5ku.out (by decide)) (Blk.lt HPn5ku.out))
                      clear HPn5ku
                      have HOW_w214 := Lib.hid hown
                      refine hK.out _ _ hHeld3 (fun hHeld2 => ?_)
                      clear hK K hHeld hHeld3 hupd hown hfar HOW_w213 
                      have hHeld := hHeld2
                      clear hHeld2
                      (try simp only [Act.put, sA, sB, sC])
                      refine tkQ 15 (.pointer (some ⟨bn5, e, none⟩)) hHeld (he := by intro w hSw; exact exec_arr (i := e) (n := 2) 30 29 _ _ rfl rfl rfl rfl (by have := HEO.out; omega) Try.underlying30 (by kernel_rfl)) (h := ?_)
                      (try simp only [Act.put, sA, sB, sC])
                      refine wpAnyH_ready (rs := [16]) (by kernel_rfl) (by simp) ?_
                      refine AllReadyH.cons (o := ?o25_b1b10_16) ?h25_b1b10_16 (fun K hK => ?_) AllReadyH.nil
                      case h25_b1b10_16 => (first | (simp only [gA, gB, gC]; done) | (simp only [gA, gB, gC]; exact rfl))
                      rw [if_pos (by rfl)]
                      refine wp_st_cell 29 _ _ rfl (pr e (.slice A_6 ((ps.eraseIdx k).length) c_6) (.slice A2 qs.length c2)) (.slice A_6 ((ps.eraseIdx k).length) c_6) rfl rfl HPn5kuu.out (by rw [pr_size]; have := HEO.out; omega) (pr_set HEO.out) (by first | rfl | simp [Value.oneCell']) (by kernel_rfl) ?_
                      clear HPn5kuu
                      intro w215 hw
                      have HOW_w214r := Lib.hid (show (w215).ownsRow w.heap.size 38 9 (.slice A_6 ((ps.eraseIdx k).length) c_6) ((ps.eraseIdx k).length) (rowsOf pkL (ps.eraseIdx k)) by rw [hw]; exact own_row_far HOW_w214.out HIn5_e_6.out _)
                      clear HOW_w214
                      have HRn5 := Lib.hid (show Blk w215 bn5 30 (pr e (.slice A_6 ((ps.eraseIdx k).length) c_6) (.slice A2 qs.length c2)) by obtain ⟨old, Bo, _⟩ := hHeld.2.2.1; rw [hw]; exact Blk.row Bo _)
                      have hHeld3 := HKS.out.at_ w215 ⟨by rw [hw]; exact Since.setRow hHeld.1 HGn5.out _, by rw [hw]; exact Blk.row_far (hHeld.2.1) (Ne.symm HNn5n4.out) _, HasRow.of HRn5.out pr_size, by rw [hw]; exact Blk.row_far (hHeld.2.2.2.1) HNn6n5.out _, by rw [hw]; exact Blk.row_far (hHeld.2.2.2.2.1) HNn7n5.out _, by rw [hw]; exact Blk.row_far (hHeld.2.2.2.2.2.1) HNn13n5.out _, by rw [hw]; exact LO.row_far (hHeld.2.2.2.2.2.2.1) HIn5a.out _, by rw [hw]; exact LO.row_far (hHeld.2.2.2.2.2.2.2.1) HIn5b.out _, by rw [hw]; exact own_row_far (hHeld.2.2.2.2.2.2.2.2.1) HIn5re.out _, by rw [hw]; exact own_row_far (hHeld.2.2.2.2.2.2.2.2.2) HIn5ro.out _⟩
                      refine hK.out _ _ hHeld3 (fun hHeld2 => ?_)
                      clear hK K hHeld hHeld3 hw
                      have hHeld := hHeld2
                      clear hHeld2
                      (try simp only [Act.put, sA, sB, sC])
                      refine wpAnyH_done (by kernel_rfl) ?_ _
                      have HSd25v3 := Lib.hid hHeld.1
                      have HBn4d25v3 := Lib.hid (hHeld.2.1)
                      have HBn5d25v3 := Lib.hid HRn5.out
                      clear HRn5
                      have HBn6d25v3 := Lib.hid (hHeld.2.2.2.1)
                      have HBn7d25v3 := Lib.hid (hHeld.2.2.2.2.1)
                      have HBn13d25v3 := Lib.hid (hHeld.2.2.2.2.2.1)
                      have HFad25v3 := Lib.hid (hHeld.2.2.2.2.2.2.1)
                      have HFbd25v3 := Lib.hid (hHeld.2.2.2.2.2.2.2.1)
                      have HFred25v3 := Lib.hid (hHeld.2.2.2.2.2.2.2.2.1)
                      have HFrod25v3 := Lib.hid (hHeld.2.2.2.2.2.2.2.2.2)
                      clear hHeld HRK HKS HS211 HBn4211 HBn5211 HBn6211 HBn7211 HBn13211 HFa_211 HFb_211 HFre_211 HFro_211
                      have HFed25v3 := Lib.hid HOW_w214r.out
                      clear HOW_w214r
                      go_wp2_with fail
                      refine Met.intro ?_
                      exact hJ5 _ _ ⟨(ps.eraseIdx k), A_6, c_6, ⟨rfl, rfl, rfl, rfl, rfl, rfl, rfl, rfl, rfl, rfl, rfl, rfl, rfl, rfl, rfl, rfl, trivial⟩, Lib.hid ⟨(HI.out.loses k), (fun g hg h => HDEro_6.out g h hg), HSd25v3.out, HBn4d25v3.out, HBn5d25v3.out, HBn6d25v3.out, HBn7d25v3.out, HBn13d25v3.out, HFad25v3.out, HFbd25v3.out, HFed25v3.out, HFrod25v3.out⟩⟩
                    case g25__4b =>
                     rw [if_pos (by rfl)]
                     refine wp_q (.slice (some ⟨g1, 0, none⟩) ps.length c1) ?e25_b4_4 ?_
                     case e25_b4_4 => exact exec_cell 29 _ _ HPn5.out (pr_at HEO.out) rfl rfl Try.underlying29 rfl
                     refine hK.out _ _ hHeld (fun hHeld2 => ?_)
                     clear hK K hHeld2
                     (try simp only [Act.put, sA, sB, sC])
                     refine tkQ 6 (.slice (some ⟨g1, 0, none⟩) k c1) hHeld (he := by intro w hSw; exact exec_slice (s := 9) 29 38 _ _ _ _ rfl rfl Try.underlying29 (by kernel_rfl) (sb_h _ _ (h := k) rfl (by have := HKM.out.1; have := HC1.out; omega)) (by split <;> simp [Addr.add]) rfl rfl) (h := ?_)
                     (try simp only [Act.put, sA, sB, sC])
                     refine wpAnyH_ready (rs := [1, 10]) (by kernel_rfl) (by simp) ?_
                     refine AllReadyH.cons (o := ?o25_b4_1b) ?h25_b4_1b (fun K hK => ?g25_b4_1b) (AllReadyH.cons (o := ?o25_b4_10b) ?h25_b4_10b (fun K hK => ?g25_b4_10b) AllReadyH.nil)
                     case h25_b4_1b => (first | (simp only [gA, gB, gC]; done) | (simp only [gA, gB, gC]; exact rfl))
                     case h25_b4_10b => (first | (simp only [gA, gB, gC]; done) | (simp only [gA, gB, gC]; exact rfl))
                     case g25_b4_1b =>
                      rw [if_pos (by rfl)]
                      refine wp_new (fun b => .slice (some ⟨b, 0, none⟩) 0 0) 38 #[] (by rintro b rfl; first | rfl | kernel_rfl) ?_
                      intro bn116 w212 hge hB hb
                      refine hK.out _ _ (by (apply HRK.out; exact hb; exact hHeld)) (fun hHeld2 => ?_)
                      have HIn116_a := Lib.hid (LO.far (hHeld.2.2.2.2.2.2.1) hge)
                      have HIn116_b := Lib.hid (LO.far (hHeld.2.2.2.2.2.2.2.1) hge)
                      have HIn116_re := Lib.hid (own_far (hHeld.2.2.2.2.2.2.2.2.1) hge)
                      have HIn116_ro := Lib.hid (own_far (hHeld.2.2.2.2.2.2.2.2.2) hge)
                      have HPn5k := Lib.hid (keep_blk hb HPn5.out)
                      clear HPn5
                      have HNn116n4 := Lib.hid (show bn116 ≠ bn4 by have := Blk.lt (hHeld.2.1); (try simp at this); (try simp at hge); omega)
                      have HNn116n5 := Lib.hid (show bn116 ≠ bn5 by obtain ⟨old, Bo, _⟩ := hHeld.2.2.1; have := Blk.lt Bo; omega)
                      have HNn116n6 := Lib.hid (show bn116 ≠ bn6 by have := Blk.lt (hHeld.2.2.2.1); (try simp at this); (try simp at hge); omega)
                      have HNn116n7 := Lib.hid (show bn116 ≠ bn7 by have := Blk.lt (hHeld.2.2.2.2.1); (try simp at this); (try simp at hge); omega)
                      have HNn116n13 := Lib.hid (show bn116 ≠ bn13 by have := Blk.lt (hHeld.2.2.2.2.2.1); (try simp at this); (try simp at hge); omega)
                      have HGn116 := Lib.hid (show w.heap.size ≤ bn116 by have := Since.size hHeld.1; (try simp at this); (try simp at hge); omega)
                      have HXn116 := Lib.hid hB
                      clear hB
                      clear hge
                      clear hK K hHeld hb
                      have hHeld := hHeld2
                      clear hHeld2
                      (try simp only [Act.put, sA, sB, sC])
                      have HOE2 := Lib.hid (own_empty (e := 38) (size := 9) HXn116.out HGn116.out)
                      clear HXn116
                      refine wpAnyH_ready (rs := [7, 10]) (by kernel_rfl) (by simp) ?_
                      refine AllReadyH.cons (o := ?o25_b4b1_7b) ?h25_b4b1_7b (fun K hK => ?g25_b4b1_7b) (AllReadyH.cons (o := ?o25_b4b1_10b) ?h25_b4b1_10b (fun K hK => ?g25_b4b1_10b) AllReadyH.nil)
                      case h25_b4b1_7b => (first | (simp only [gA, gB, gC]; done) | (simp only [gA, gB, gC]; exact rfl))
                      case h25_b4b1_10b => (first | (simp only [gA, gB, gC]; done) | (simp only [gA, gB, gC]; exact rfl))
                      case g25_b4b1_7b =>
                       rw [if_pos (by rfl)]
                       refine wp_append_row (.tmp 116) (.tmp 121) 29 rfl w.heap.size 38 (Value.agg #[.int .i64 0, .int .i64 0, .int .i64 0, .int .i64 0, .bool false, .int .i64 0, .int .i64 0, .int .i64 0, .int .i64 0]) 9 72 Try.underlying29 (by kernel_rfl) rfl (by decide) (by decide) (some ⟨bn116, 0, none⟩) 0 0 ([]) rfl HOE2.out _ (some ⟨g1, 0, none⟩) k c1 ((rowsOf pkL ps).take (k * 9)) rfl (own_reads (own_prefix (hHeld.2.2.2.2.2.2.2.2.1) (by have := HKM.out.1; omega))) (fun u hu => pks_one ps u (List.mem_of_mem_take hu)) (by have := HKM.out.1; have := HBO.out; omega) (Since.size hHeld.1) k ((rowsOf pkL ps).take (k * 9)) (Nat.zero_add _) rfl ?_
                       intro A_7 c_7 w213 hown hupd hfar
                       have hHeld3 := HKS.out.at_ w213 ⟨Since.upd hHeld.1 hupd (own_low HOE2.out), Upd.blk hupd (hHeld.2.1) (own_ne_ty HOE2.out (hHeld.2.1) (by decide)), HasRow.upd hupd (hHeld.2.2.1) (own_ne_ty HOE2.out HPn5k.out (by decide)), Upd.blk hupd (hHeld.2.2.2.1) (own_ne_ty HOE2.out (hHeld.2.2.2.1) (by decide)), Upd.blk hupd (hHeld.2.2.2.2.1) (own_ne_ty HOE2.out (hHeld.2.2.2.2.1) (by decide)), Upd.blk hupd (hHeld.2.2.2.2.2.1) (by simp [blkOf]; exact (Ne.symm HNn116n13.out)), LO.upd hupd (hHeld.2.2.2.2.2.2.1) (fun g hg h => HIn116_a.out (by simp [blkOf] at h; rw [← h]; exact hg)), LO.upd hupd (hHeld.2.2.2.2.2.2.2.1) (fun g hg h => HIn116_b.out (by simp [blkOf] at h; rw [← h]; exact hg)), Upd.own hupd (hHeld.2.2.2.2.2.2.2.2.1) (fun g hg h => HIn116_re.out (by simp [blkOf] at h; rw [← h]; exact hg)), Upd.own hupd (hHeld.2.2.2.2.2.2.2.2.2) (fun g hg h => HIn116_ro.out (by simp [blkOf] at h; rw [← h]; exact hg))⟩
                       have HDEa_7 := Lib.hid (dis_next hfar (fun g hg h => HIn116_a.out (by simp [blkOf] at h; rw [← h]; exact hg)) (LO.lt (hHeld.2.2.2.2.2.2.1)))
                       have HDEb_7 := Lib.hid (dis_next hfar (fun g hg h => HIn116_b.out (by simp [blkOf] at h; rw [← h]; exact hg)) (LO.lt (hHeld.2.2.2.2.2.2.2.1)))
                       have HDEre_7 := Lib.hid (dis_next hfar (fun g hg h => HIn116_re.out (by simp [blkOf] at h; rw [← h]; exact hg)) (own_lt (hHeld.2.2.2.2.2.2.2.2.1)))
                       have HDEro_7 := Lib.hid (dis_next hfar (fun g hg h => HIn116_ro.out (by simp [blkOf] at h; rw [← h]; exact hg)) (own_lt (hHeld.2.2.2.2.2.2.2.2.2)))
                       have HPn5ku := Lib.hid (Upd.blk hupd HPn5k.out (own_ne_ty HOE2.out HPn5k.out (by decide)))
                       have HIn5_e_7 := Lib.hid (nin_next hfar (own_ne_ty HOE2.out HPn5k.out (by decide)) (Blk.lt HPn5k.out))
                       clear HPn5k
                       have HOW_w213 := Lib.hid hown
                       have HF13 := Lib.hid (show ∀ g ∈ blkOf A_7, g ≠ bn13 from fun g hg => by have q := hfar g hg; rcases q with q | q; (simp [blkOf] at q; rw [q]; exact HNn116n13.out); (have r := Blk.lt (hHeld.2.2.2.2.2.1); omega))
                       refine hK.out _ _ hHeld3 (fun hHeld2 => ?_)
                       clear hK K hHeld hHeld3 hupd hown hfar HOE2 
                       have hHeld := hHeld2
                       clear hHeld2
                       (try simp only [Act.put, sA, sB, sC])
                       refine wpAnyH_ready (rs := [10]) (by kernel_rfl) (by simp) ?_
                       refine AllReadyH.cons (o := ?o25_b4b1b7_10) ?h25_b4b1b7_10 (fun K hK => ?_) AllReadyH.nil
                       case h25_b4b1b7_10 => (first | (simp only [gA, gB, gC]; done) | (simp only [gA, gB, gC]; exact rfl))
                       rw [if_pos (by rfl)]
                       refine wp_q (.slice (some ⟨g1, 0, none⟩) ps.length c1) ?e25_b4b1b7_10 ?_
                       case e25_b4b1b7_10 => exact exec_cell 29 _ _ HPn5ku.out (pr_at HEO.out) rfl rfl Try.underlying29 rfl
                       refine hK.out _ _ hHeld (fun hHeld2 => ?_)
                       clear hK K hHeld2
                       (try simp only [Act.put, sA, sB, sC])
                       refine tkQ 13 (.slice (cutA c1 (k + 1) (some ⟨g1, 0, none⟩) 9) (ps.length - (k + 1)) (c1 - (k + 1))) hHeld (he := by intro w hSw; exact exec_slice (s := 9) 29 38 _ _ _ _ rfl rfl Try.underlying29 (by kernel_rfl) (sb_l _ _ (l := k + 1) (by push_cast; rfl) (by have := HKM.out.1; omega)) (by rfl) rfl rfl) (h := ?_)
                       (try simp only [Act.put, sA, sB, sC])
                       refine wpAnyH_ready (rs := [14]) (by kernel_rfl) (by simp) ?_
                       refine AllReadyH.cons (o := ?o25_b4b1b7_14) ?h25_b4b1b7_14 (fun K hK => ?_) AllReadyH.nil
                       case h25_b4b1b7_14 => (first | (simp only [gA, gB, gC]; done) | (simp only [gA, gB, gC]; exact rfl))
                       rw [if_pos (by rfl)]
                       refine wp_append_row (.tmp 122) (.tmp 128) 29 rfl w.heap.size 38 (Value.agg #[.int .i64 0, .int .i64 0, .int .i64 0, .int .i64 0, .bool false, .int .i64 0, .int .i64 0, .int .i64 0, .int .i64 0]) 9 72 Try.underlying29 (by kernel_rfl) rfl (by decide) (by decide) A_7 k c_7 ((rowsOf pkL ps).take (k * 9)) rfl HOW_w213.out _ (cutA c1 (k + 1) (some ⟨g1, 0, none⟩) 9) (ps.length - (k + 1)) (c1 - (k + 1)) ((rowsOf pkL ps).drop ((k + 1) * 9)) rfl (reads_cut (own_reads (hHeld.2.2.2.2.2.2.2.2.1)) (by have := HKM.out.1; omega) HC1.out) (fun u hu => pks_one ps u (List.mem_of_mem_drop hu)) (by have := HKM.out.1; have := HBO.out; omega) (Since.size hHeld.1) ((ps.eraseIdx k).length) (rowsOf pkL (ps.eraseIdx k)) (by have := HKM.out.1; rw [List.length_eraseIdx]; split <;> omega) (erase_rows pkL_len HKM.out.1) ?_
                       intro A_8 c_8 w214 hown hupd hfar
                       have hHeld3 := HKS.out.at_ w214 ⟨Since.upd hHeld.1 hupd (own_low HOW_w213.out), Upd.blk hupd (hHeld.2.1) (own_ne_ty HOW_w213.out (hHeld.2.1) (by decide)), HasRow.upd hupd (hHeld.2.2.1) (own_ne_ty HOW_w213.out HPn5ku.out (by decide)), Upd.blk hupd (hHeld.2.2.2.1) (own_ne_ty HOW_w213.out (hHeld.2.2.2.1) (by decide)), Upd.blk hupd (hHeld.2.2.2.2.1) (own_ne_ty HOW_w213.out (hHeld.2.2.2.2.1) (by decide)), Upd.blk hupd (hHeld.2.2.2.2.2.1) (fun hm => HF13.out _ hm rfl), LO.upd hupd (hHeld.2.2.2.2.2.2.1) HDEa_7.out, LO.upd hupd (hHeld.2.2.2.2.2.2.2.1) HDEb_7.out, Upd.own hupd (hHeld.2.2.2.2.2.2.2.2.1) HDEre_7.out, Upd.own hupd (hHeld.2.2.2.2.2.2.2.2.2) HDEro_7.out⟩
                       have HDEa_8 := Lib.hid (dis_next hfar HDEa_7.out (LO.lt (hHeld.2.2.2.2.2.2.1)))
                       have HDEb_8 := Lib.hid (dis_next hfar HDEb_7.out (LO.lt (hHeld.2.2.2.2.2.2.2.1)))
                       have HDEre_8 := Lib.hid (dis_next hfar HDEre_7.out (own_lt (hHeld.2.2.2.2.2.2.2.2.1)))
                       have HDEro_8 := Lib.hid (dis_next hfar HDEro_7.out (own_lt (hHeld.2.2.2.2.2.2.2.2.2)))
                       have HPn5kuu := Lib.hid (Upd.blk hupd HPn5ku.out (own_ne_ty HOW_w213.out HPn5ku.out (by decide)))
                       have HIn5_e_8 := Lib.hid (nin_next hfar (own_ne_ty HOW_w213.out HPn5ku.out (by decide)) (Blk.lt HPn5ku.out))
                       clear HPn5ku
                       have HOW_w214 := Lib.hid hown
                       refine hK.out _ _ hHeld3 (fun hHeld2 => ?_)
                       clear hK K hHeld hHeld3 hupd hown hfar HOW_w213 
                       have hHeld := hHeld2
                       clear hHeld2
                       (try simp only [Act.put, sA, sB, sC])
                       refine tkQ 15 (.pointer (some ⟨bn5, e, none⟩)) hHeld (he := by intro w hSw; exact exec_arr (i := e) (n := 2) 30 29 _ _ rfl rfl rfl rfl (by have := HEO.out; omega) Try.underlying30 (by kernel_rfl)) (h := ?_)
                       (try simp only [Act.put, sA, sB, sC])
                       refine wpAnyH_ready (rs := [16]) (by kernel_rfl) (by simp) ?_
                       refine AllReadyH.cons (o := ?o25_b4b1b7_16) ?h25_b4b1b7_16 (fun K hK => ?_) AllReadyH.nil
                       case h25_b4b1b7_16 => (first | (simp only [gA, gB, gC]; done) | (simp only [gA, gB, gC]; exact rfl))
                       rw [if_pos (by rfl)]
                       refine wp_st_cell 29 _ _ rfl (pr e (.slice A_8 ((ps.eraseIdx k).length) c_8) (.slice A2 qs.length c2)) (.slice A_8 ((ps.eraseIdx k).length) c_8) rfl rfl HPn5kuu.out (by rw [pr_size]; have := HEO.out; omega) (pr_set HEO.out) (by first | rfl | simp [Value.oneCell']) (by kernel_rfl) ?_
                       clear HPn5kuu
                       intro w215 hw
                       have HOW_w214r := Lib.hid (show (w215).ownsRow w.heap.size 38 9 (.slice A_8 ((ps.eraseIdx k).length) c_8) ((ps.eraseIdx k).length) (rowsOf pkL (ps.eraseIdx k)) by rw [hw]; exact own_row_far HOW_w214.out HIn5_e_8.out _)
                       clear HOW_w214
                       have HRn5 := Lib.hid (show Blk w215 bn5 30 (pr e (.slice A_8 ((ps.eraseIdx k).length) c_8) (.slice A2 qs.length c2)) by obtain ⟨old, Bo, _⟩ := hHeld.2.2.1; rw [hw]; exact Blk.row Bo _)
                       have hHeld3 := HKS.out.at_ w215 ⟨by rw [hw]; exact Since.setRow hHeld.1 HGn5.out _, by rw [hw]; exact Blk.row_far (hHeld.2.1) (Ne.symm HNn5n4.out) _, HasRow.of HRn5.out pr_size, by rw [hw]; exact Blk.row_far (hHeld.2.2.2.1) HNn6n5.out _, by rw [hw]; exact Blk.row_far (hHeld.2.2.2.2.1) HNn7n5.out _, by rw [hw]; exact Blk.row_far (hHeld.2.2.2.2.2.1) HNn13n5.out _, by rw [hw]; exact LO.row_far (hHeld.2.2.2.2.2.2.1) HIn5a.out _, by rw [hw]; exact LO.row_far (hHeld.2.2.2.2.2.2.2.1) HIn5b.out _, by rw [hw]; exact own_row_far (hHeld.2.2.2.2.2.2.2.2.1) HIn5re.out _, by rw [hw]; exact own_row_far (hHeld.2.2.2.2.2.2.2.2.2) HIn5ro.out _⟩
                       refine hK.out _ _ hHeld3 (fun hHeld2 => ?_)
                       clear hK K hHeld hHeld3 hw
                       have hHeld := hHeld2
                       clear hHeld2
                       (try simp only [Act.put, sA, sB, sC])
                       refine wpAnyH_done (by kernel_rfl) ?_ _
                       have HSd25v4 := Lib.hid hHeld.1
                       have HBn4d25v4 := Lib.hid (hHeld.2.1)
                       have HBn5d25v4 := Lib.hid HRn5.out
                       clear HRn5
                       have HBn6d25v4 := Lib.hid (hHeld.2.2.2.1)
                       have HBn7d25v4 := Lib.hid (hHeld.2.2.2.2.1)
                       have HBn13d25v4 := Lib.hid (hHeld.2.2.2.2.2.1)
                       have HFad25v4 := Lib.hid (hHeld.2.2.2.2.2.2.1)
                       have HFbd25v4 := Lib.hid (hHeld.2.2.2.2.2.2.2.1)
                       have HFred25v4 := Lib.hid (hHeld.2.2.2.2.2.2.2.2.1)
                       have HFrod25v4 := Lib.hid (hHeld.2.2.2.2.2.2.2.2.2)
                       clear hHeld HRK HKS HS211 HBn4211 HBn5211 HBn6211 HBn7211 HBn13211 HFa_211 HFb_211 HFre_211 HFro_211
                       have HFed25v4 := Lib.hid HOW_w214r.out
                       clear HOW_w214r
                       go_wp2_with fail
                       refine Met.intro ?_
                       exact hJ5 _ _ ⟨(ps.eraseIdx k), A_8, c_8, ⟨rfl, rfl, rfl, rfl, rfl, rfl, rfl, rfl, rfl, rfl, rfl, rfl, rfl, rfl, rfl, rfl, trivial⟩, Lib.hid ⟨(HI.out.loses k), (fun g hg h => HDEro_8.out g h hg), HSd25v4.out, HBn4d25v4.out, HBn5d25v4.out, HBn6d25v4.out, HBn7d25v4.out, HBn13d25v4.out, HFad25v4.out, HFbd25v4.out, HFed25v4.out, HFrod25v4.out⟩⟩
                      case g25_b4b1_10b =>
                       rw [if_pos (by rfl)]
                       refine wp_q (.slice (some ⟨g1, 0, none⟩) ps.length c1) ?e25_b4b1b10_10 ?_
                       case e25_b4b1b10_10 => exact exec_cell 29 _ _ HPn5k.out (pr_at HEO.out) rfl rfl Try.underlying29 rfl
                       refine hK.out _ _ hHeld (fun hHeld2 => ?_)
                       clear hK K hHeld2
                       (try simp only [Act.put, sA, sB, sC])
                       refine tkQ 13 (.slice (cutA c1 (k + 1) (some ⟨g1, 0, none⟩) 9) (ps.length - (k + 1)) (c1 - (k + 1))) hHeld (he := by intro w hSw; exact exec_slice (s := 9) 29 38 _ _ _ _ rfl rfl Try.underlying29 (by kernel_rfl) (sb_l _ _ (l := k + 1) (by push_cast; rfl) (by have := HKM.out.1; omega)) (by rfl) rfl rfl) (h := ?_)
                       (try simp only [Act.put, sA, sB, sC])
                       refine wpAnyH_ready (rs := [7]) (by kernel_rfl) (by simp) ?_
                       refine AllReadyH.cons (o := ?o25_b4b1b10_7) ?h25_b4b1b10_7 (fun K hK => ?_) AllReadyH.nil
                       case h25_b4b1b10_7 => (first | (simp only [gA, gB, gC]; done) | (simp only [gA, gB, gC]; exact rfl))
                       rw [if_pos (by rfl)]
                       refine wp_append_row (.tmp 116) (.tmp 121) 29 rfl w.heap.size 38 (Value.agg #[.int .i64 0, .int .i64 0, .int .i64 0, .int .i64 0, .bool false, .int .i64 0, .int .i64 0, .int .i64 0, .int .i64 0]) 9 72 Try.underlying29 (by kernel_rfl) rfl (by decide) (by decide) (some ⟨bn116, 0, none⟩) 0 0 ([]) rfl HOE2.out _ (some ⟨g1, 0, none⟩) k c1 ((rowsOf pkL ps).take (k * 9)) rfl (own_reads (own_prefix (hHeld.2.2.2.2.2.2.2.2.1) (by have := HKM.out.1; omega))) (fun u hu => pks_one ps u (List.mem_of_mem_take hu)) (by have := HKM.out.1; have := HBO.out; omega) (Since.size hHeld.1) k ((rowsOf pkL ps).take (k * 9)) (Nat.zero_add _) rfl ?_
                       intro A_9 c_9 w213 hown hupd hfar
                       have hHeld3 := HKS.out.at_ w213 ⟨Since.upd hHeld.1 hupd (own_low HOE2.out), Upd.blk hupd (hHeld.2.1) (own_ne_ty HOE2.out (hHeld.2.1) (by decide)), HasRow.upd hupd (hHeld.2.2.1) (own_ne_ty HOE2.out HPn5k.out (by decide)), Upd.blk hupd (hHeld.2.2.2.1) (own_ne_ty HOE2.out (hHeld.2.2.2.1) (by decide)), Upd.blk hupd (hHeld.2.2.2.2.1) (own_ne_ty HOE2.out (hHeld.2.2.2.2.1) (by decide)), Upd.blk hupd (hHeld.2.2.2.2.2.1) (by simp [blkOf]; exact (Ne.symm HNn116n13.out)), LO.upd hupd (hHeld.2.2.2.2.2.2.1) (fun g hg h => HIn116_a.out (by simp [blkOf] at h; rw [← h]; exact hg)), LO.upd hupd (hHeld.2.2.2.2.2.2.2.1) (fun g hg h => HIn116_b.out (by simp [blkOf] at h; rw [← h]; exact hg)), Upd.own hupd (hHeld.2.2.2.2.2.2.2.2.1) (fun g hg h => HIn116_re.out (by simp [blkOf] at h; rw [← h]; exact hg)), Upd.own hupd (hHeld.2.2.2.2.2.2.2.2.2) (fun g hg h => HIn116_ro.out (by simp [blkOf] at h; rw [← h]; exact hg))⟩
                       have HDEa_9 := Lib.hid (dis_next hfar (fun g hg h => HIn116_a.out (by simp [blkOf] at h; rw [← h]; exact hg)) (LO.lt (hHeld.2.2.2.2.2.2.1)))
                       have HDEb_9 := Lib.hid (dis_next hfar (fun g hg h => HIn116_b.out (by simp [blkOf] at h; rw [← h]; exact hg)) (LO.lt (hHeld.2.2.2.2.2.2.2.1)))
                       have HDEre_9 := Lib.hid (dis_next hfar (fun g hg h => HIn116_re.out (by simp [blkOf] at h; rw [← h]; exact hg)) (own_lt (hHeld.2.2.2.2.2.2.2.2.1)))
                       have HDEro_9 := Lib.hid (dis_next hfar (fun g hg h => HIn116_ro.out (by simp [blkOf] at h; rw [← h]; exact hg)) (own_lt (hHeld.2.2.2.2.2.2.2.2.2)))
                       have HPn5ku := Lib.hid (Upd.blk hupd HPn5k.out (own_ne_ty HOE2.out HPn5k.out (by decide)))
                       have HIn5_e_9 := Lib.hid (nin_next hfar (own_ne_ty HOE2.out HPn5k.out (by decide)) (Blk.lt HPn5k.out))
                       clear HPn5k
                       have HOW_w213 := Lib.hid hown
                       have HF13 := Lib.hid (show ∀ g ∈ blkOf A_9, g ≠ bn13 from fun g hg => by have q := hfar g hg; rcases q with q | q; (simp [blkOf] at q; rw [q]; exact HNn116n13.out); (have r := Blk.lt (hHeld.2.2.2.2.2.1); omega))
                       refine hK.out _ _ hHeld3 (fun hHeld2 => ?_)
                       clear hK K hHeld hHeld3 hupd hown hfar HOE2 
                       have hHeld := hHeld2
                       clear hHeld2
                       (try simp only [Act.put, sA, sB, sC])
                       refine wpAnyH_ready (rs := [14]) (by kernel_rfl) (by simp) ?_
                       refine AllReadyH.cons (o := ?o25_b4b1b10_14) ?h25_b4b1b10_14 (fun K hK => ?_) AllReadyH.nil
                       case h25_b4b1b10_14 => (first | (simp only [gA, gB, gC]; done) | (simp only [gA, gB, gC]; exact rfl))
                       rw [if_pos (by rfl)]
                       refine wp_append_row (.tmp 122) (.tmp 128) 29 rfl w.heap.size 38 (Value.agg #[.int .i64 0, .int .i64 0, .int .i64 0, .int .i64 0, .bool false, .int .i64 0, .int .i64 0, .int .i64 0, .int .i64 0]) 9 72 Try.underlying29 (by kernel_rfl) rfl (by decide) (by decide) A_9 k c_9 ((rowsOf pkL ps).take (k * 9)) rfl HOW_w213.out _ (cutA c1 (k + 1) (some ⟨g1, 0, none⟩) 9) (ps.length - (k + 1)) (c1 - (k + 1)) ((rowsOf pkL ps).drop ((k + 1) * 9)) rfl (reads_cut (own_reads (hHeld.2.2.2.2.2.2.2.2.1)) (by have := HKM.out.1; omega) HC1.out) (fun u hu => pks_one ps u (List.mem_of_mem_drop hu)) (by have := HKM.out.1; have := HBO.out; omega) (Since.size hHeld.1) ((ps.eraseIdx k).length) (rowsOf pkL (ps.eraseIdx k)) (by have := HKM.out.1; rw [List.length_eraseIdx]; split <;> omega) (erase_rows pkL_len HKM.out.1) ?_
                       intro A_10 c_10 w214 hown hupd hfar
                       have hHeld3 := HKS.out.at_ w214 ⟨Since.upd hHeld.1 hupd (own_low HOW_w213.out), Upd.blk hupd (hHeld.2.1) (own_ne_ty HOW_w213.out (hHeld.2.1) (by decide)), HasRow.upd hupd (hHeld.2.2.1) (own_ne_ty HOW_w213.out HPn5ku.out (by decide)), Upd.blk hupd (hHeld.2.2.2.1) (own_ne_ty HOW_w213.out (hHeld.2.2.2.1) (by decide)), Upd.blk hupd (hHeld.2.2.2.2.1) (own_ne_ty HOW_w213.out (hHeld.2.2.2.2.1) (by decide)), Upd.blk hupd (hHeld.2.2.2.2.2.1) (fun hm => HF13.out _ hm rfl), LO.upd hupd (hHeld.2.2.2.2.2.2.1) HDEa_9.out, LO.upd hupd (hHeld.2.2.2.2.2.2.2.1) HDEb_9.out, Upd.own hupd (hHeld.2.2.2.2.2.2.2.2.1) HDEre_9.out, Upd.own hupd (hHeld.2.2.2.2.2.2.2.2.2) HDEro_9.out⟩
                       have HDEa_10 := Lib.hid (dis_next hfar HDEa_9.out (LO.lt (hHeld.2.2.2.2.2.2.1)))
                       have HDEb_10 := Lib.hid (dis_next hfar HDEb_9.out (LO.lt (hHeld.2.2.2.2.2.2.2.1)))
                       have HDEre_10 := Lib.hid (dis_next hfar HDEre_9.out (own_lt (hHeld.2.2.2.2.2.2.2.2.1)))
                       have HDEro_10 := Lib.hid (dis_next hfar HDEro_9.out (own_lt (hHeld.2.2.2.2.2.2.2.2.2)))
                       have HPn5kuu := Lib.hid (Upd.blk hupd HPn5ku.out (own_ne_ty HOW_w213.out HPn5ku.out (by decide)))
                       have HIn5_e_10 := Lib.hid (nin_next hfar (own_ne_ty HOW_w213.out HPn5ku.out (by decide)) (Blk.lt HPn5ku.out))
                       clear HPn5ku
                       have HOW_w214 := Lib.hid hown
                       refine hK.out _ _ hHeld3 (fun hHeld2 => ?_)
                       clear hK K hHeld hHeld3 hupd hown hfar HOW_w213 
                       have hHeld := hHeld2
                       clear hHeld2
                       (try simp only [Act.put, sA, sB, sC])
                       refine tkQ 15 (.pointer (some ⟨bn5, e, none⟩)) hHeld (he := by intro w hSw; exact exec_arr (i := e) (n := 2) 30 29 _ _ rfl rfl rfl rfl (by have := HEO.out; omega) Try.underlying30 (by kernel_rfl)) (h := ?_)
                       (try simp only [Act.put, sA, sB, sC])
                       refine wpAnyH_ready (rs := [16]) (by kernel_rfl) (by simp) ?_
                       refine AllReadyH.cons (o := ?o25_b4b1b10_16) ?h25_b4b1b10_16 (fun K hK => ?_) AllReadyH.nil
                       case h25_b4b1b10_16 => (first | (simp only [gA, gB, gC]; done) | (simp only [gA, gB, gC]; exact rfl))
                       rw [if_pos (by rfl)]
                       refine wp_st_cell 29 _ _ rfl (pr e (.slice A_10 ((ps.eraseIdx k).length) c_10) (.slice A2 qs.length c2)) (.slice A_10 ((ps.eraseIdx k).length) c_10) rfl rfl HPn5kuu.out (by rw [pr_size]; have := HEO.out; omega) (pr_set HEO.out) (by first | rfl | simp [Value.oneCell']) (by kernel_rfl) ?_
                       clear HPn5kuu
                       intro w215 hw
                       have HOW_w214r := Lib.hid (show (w215).ownsRow w.heap.size 38 9 (.slice A_10 ((ps.eraseIdx k).length) c_10) ((ps.eraseIdx k).length) (rowsOf pkL (ps.eraseIdx k)) by rw [hw]; exact own_row_far HOW_w214.out HIn5_e_10.out _)
                       clear HOW_w214
                       have HRn5 := Lib.hid (show Blk w215 bn5 30 (pr e (.slice A_10 ((ps.eraseIdx k).length) c_10) (.slice A2 qs.length c2)) by obtain ⟨old, Bo, _⟩ := hHeld.2.2.1; rw [hw]; exact Blk.row Bo _)
                       have hHeld3 := HKS.out.at_ w215 ⟨by rw [hw]; exact Since.setRow hHeld.1 HGn5.out _, by rw [hw]; exact Blk.row_far (hHeld.2.1) (Ne.symm HNn5n4.out) _, HasRow.of HRn5.out pr_size, by rw [hw]; exact Blk.row_far (hHeld.2.2.2.1) HNn6n5.out _, by rw [hw]; exact Blk.row_far (hHeld.2.2.2.2.1) HNn7n5.out _, by rw [hw]; exact Blk.row_far (hHeld.2.2.2.2.2.1) HNn13n5.out _, by rw [hw]; exact LO.row_far (hHeld.2.2.2.2.2.2.1) HIn5a.out _, by rw [hw]; exact LO.row_far (hHeld.2.2.2.2.2.2.2.1) HIn5b.out _, by rw [hw]; exact own_row_far (hHeld.2.2.2.2.2.2.2.2.1) HIn5re.out _, by rw [hw]; exact own_row_far (hHeld.2.2.2.2.2.2.2.2.2) HIn5ro.out _⟩
                       refine hK.out _ _ hHeld3 (fun hHeld2 => ?_)
                       clear hK K hHeld hHeld3 hw
                       have hHeld := hHeld2
                       clear hHeld2
                       (try simp only [Act.put, sA, sB, sC])
                       refine wpAnyH_done (by kernel_rfl) ?_ _
                       have HSd25v5 := Lib.hid hHeld.1
                       have HBn4d25v5 := Lib.hid (hHeld.2.1)
                       have HBn5d25v5 := Lib.hid HRn5.out
                       clear HRn5
                       have HBn6d25v5 := Lib.hid (hHeld.2.2.2.1)
                       have HBn7d25v5 := Lib.hid (hHeld.2.2.2.2.1)
                       have HBn13d25v5 := Lib.hid (hHeld.2.2.2.2.2.1)
                       have HFad25v5 := Lib.hid (hHeld.2.2.2.2.2.2.1)
                       have HFbd25v5 := Lib.hid (hHeld.2.2.2.2.2.2.2.1)
                       have HFred25v5 := Lib.hid (hHeld.2.2.2.2.2.2.2.2.1)
                       have HFrod25v5 := Lib.hid (hHeld.2.2.2.2.2.2.2.2.2)
                       clear hHeld HRK HKS HS211 HBn4211 HBn5211 HBn6211 HBn7211 HBn13211 HFa_211 HFb_211 HFre_211 HFro_211
                       have HFed25v5 := Lib.hid HOW_w214r.out
                       clear HOW_w214r
                       go_wp2_with fail
                       refine Met.intro ?_
                       exact hJ5 _ _ ⟨(ps.eraseIdx k), A_10, c_10, ⟨rfl, rfl, rfl, rfl, rfl, rfl, rfl, rfl, rfl, rfl, rfl, rfl, rfl, rfl, rfl, rfl, trivial⟩, Lib.hid ⟨(HI.out.loses k), (fun g hg h => HDEro_10.out g h hg), HSd25v5.out, HBn4d25v5.out, HBn5d25v5.out, HBn6d25v5.out, HBn7d25v5.out, HBn13d25v5.out, HFad25v5.out, HFbd25v5.out, HFed25v5.out, HFrod25v5.out⟩⟩
                     case g25_b4_10b =>
                      rw [if_pos (by rfl)]
                      refine wp_q (.slice (some ⟨g1, 0, none⟩) ps.length c1) ?e25_b4b10_10 ?_
                      case e25_b4b10_10 => exact exec_cell 29 _ _ HPn5.out (pr_at HEO.out) rfl rfl Try.underlying29 rfl
                      refine hK.out _ _ hHeld (fun hHeld2 => ?_)
                      clear hK K hHeld2
                      (try simp only [Act.put, sA, sB, sC])
                      refine tkQ 13 (.slice (cutA c1 (k + 1) (some ⟨g1, 0, none⟩) 9) (ps.length - (k + 1)) (c1 - (k + 1))) hHeld (he := by intro w hSw; exact exec_slice (s := 9) 29 38 _ _ _ _ rfl rfl Try.underlying29 (by kernel_rfl) (sb_l _ _ (l := k + 1) (by push_cast; rfl) (by have := HKM.out.1; omega)) (by rfl) rfl rfl) (h := ?_)
                      (try simp only [Act.put, sA, sB, sC])
                      refine wpAnyH_ready (rs := [1]) (by kernel_rfl) (by simp) ?_
                      refine AllReadyH.cons (o := ?o25_b4b10_1) ?h25_b4b10_1 (fun K hK => ?_) AllReadyH.nil
                      case h25_b4b10_1 => (first | (simp only [gA, gB, gC]; done) | (simp only [gA, gB, gC]; exact rfl))
                      rw [if_pos (by rfl)]
                      refine wp_new (fun b => .slice (some ⟨b, 0, none⟩) 0 0) 38 #[] (by rintro b rfl; first | rfl | kernel_rfl) ?_
                      intro bn116 w212 hge hB hb
                      refine hK.out _ _ (by (apply HRK.out; exact hb; exact hHeld)) (fun hHeld2 => ?_)
                      have HIn116_a := Lib.hid (LO.far (hHeld.2.2.2.2.2.2.1) hge)
                      have HIn116_b := Lib.hid (LO.far (hHeld.2.2.2.2.2.2.2.1) hge)
                      have HIn116_re := Lib.hid (own_far (hHeld.2.2.2.2.2.2.2.2.1) hge)
                      have HIn116_ro := Lib.hid (own_far (hHeld.2.2.2.2.2.2.2.2.2) hge)
                      have HPn5k := Lib.hid (keep_blk hb HPn5.out)
                      clear HPn5
                      have HNn116n4 := Lib.hid (show bn116 ≠ bn4 by have := Blk.lt (hHeld.2.1); (try simp at this); (try simp at hge); omega)
                      have HNn116n5 := Lib.hid (show bn116 ≠ bn5 by obtain ⟨old, Bo, _⟩ := hHeld.2.2.1; have := Blk.lt Bo; omega)
                      have HNn116n6 := Lib.hid (show bn116 ≠ bn6 by have := Blk.lt (hHeld.2.2.2.1); (try simp at this); (try simp at hge); omega)
                      have HNn116n7 := Lib.hid (show bn116 ≠ bn7 by have := Blk.lt (hHeld.2.2.2.2.1); (try simp at this); (try simp at hge); omega)
                      have HNn116n13 := Lib.hid (show bn116 ≠ bn13 by have := Blk.lt (hHeld.2.2.2.2.2.1); (try simp at this); (try simp at hge); omega)
                      have HGn116 := Lib.hid (show w.heap.size ≤ bn116 by have := Since.size hHeld.1; (try simp at this); (try simp at hge); omega)
                      have HXn116 := Lib.hid hB
                      clear hB
                      clear hge
                      clear hK K hHeld hb
                      have hHeld := hHeld2
                      clear hHeld2
                      (try simp only [Act.put, sA, sB, sC])
                      have HOE2 := Lib.hid (own_empty (e := 38) (size := 9) HXn116.out HGn116.out)
                      clear HXn116
                      refine wpAnyH_ready (rs := [7]) (by kernel_rfl) (by simp) ?_
                      refine AllReadyH.cons (o := ?o25_b4b10_7) ?h25_b4b10_7 (fun K hK => ?_) AllReadyH.nil
                      case h25_b4b10_7 => (first | (simp only [gA, gB, gC]; done) | (simp only [gA, gB, gC]; exact rfl))
                      rw [if_pos (by rfl)]
                      refine wp_append_row (.tmp 116) (.tmp 121) 29 rfl w.heap.size 38 (Value.agg #[.int .i64 0, .int .i64 0, .int .i64 0, .int .i64 0, .bool false, .int .i64 0, .int .i64 0, .int .i64 0, .int .i64 0]) 9 72 Try.underlying29 (by kernel_rfl) rfl (by decide) (by decide) (some ⟨bn116, 0, none⟩) 0 0 ([]) rfl HOE2.out _ (some ⟨g1, 0, none⟩) k c1 ((rowsOf pkL ps).take (k * 9)) rfl (own_reads (own_prefix (hHeld.2.2.2.2.2.2.2.2.1) (by have := HKM.out.1; omega))) (fun u hu => pks_one ps u (List.mem_of_mem_take hu)) (by have := HKM.out.1; have := HBO.out; omega) (Since.size hHeld.1) k ((rowsOf pkL ps).take (k * 9)) (Nat.zero_add _) rfl ?_
                      intro A_11 c_11 w213 hown hupd hfar
                      have hHeld3 := HKS.out.at_ w213 ⟨Since.upd hHeld.1 hupd (own_low HOE2.out), Upd.blk hupd (hHeld.2.1) (own_ne_ty HOE2.out (hHeld.2.1) (by decide)), HasRow.upd hupd (hHeld.2.2.1) (own_ne_ty HOE2.out HPn5k.out (by decide)), Upd.blk hupd (hHeld.2.2.2.1) (own_ne_ty HOE2.out (hHeld.2.2.2.1) (by decide)), Upd.blk hupd (hHeld.2.2.2.2.1) (own_ne_ty HOE2.out (hHeld.2.2.2.2.1) (by decide)), Upd.blk hupd (hHeld.2.2.2.2.2.1) (by simp [blkOf]; exact (Ne.symm HNn116n13.out)), LO.upd hupd (hHeld.2.2.2.2.2.2.1) (fun g hg h => HIn116_a.out (by simp [blkOf] at h; rw [← h]; exact hg)), LO.upd hupd (hHeld.2.2.2.2.2.2.2.1) (fun g hg h => HIn116_b.out (by simp [blkOf] at h; rw [← h]; exact hg)), Upd.own hupd (hHeld.2.2.2.2.2.2.2.2.1) (fun g hg h => HIn116_re.out (by simp [blkOf] at h; rw [← h]; exact hg)), Upd.own hupd (hHeld.2.2.2.2.2.2.2.2.2) (fun g hg h => HIn116_ro.out (by simp [blkOf] at h; rw [← h]; exact hg))⟩
                      have HDEa_11 := Lib.hid (dis_next hfar (fun g hg h => HIn116_a.out (by simp [blkOf] at h; rw [← h]; exact hg)) (LO.lt (hHeld.2.2.2.2.2.2.1)))
                      have HDEb_11 := Lib.hid (dis_next hfar (fun g hg h => HIn116_b.out (by simp [blkOf] at h; rw [← h]; exact hg)) (LO.lt (hHeld.2.2.2.2.2.2.2.1)))
                      have HDEre_11 := Lib.hid (dis_next hfar (fun g hg h => HIn116_re.out (by simp [blkOf] at h; rw [← h]; exact hg)) (own_lt (hHeld.2.2.2.2.2.2.2.2.1)))
                      have HDEro_11 := Lib.hid (dis_next hfar (fun g hg h => HIn116_ro.out (by simp [blkOf] at h; rw [← h]; exact hg)) (own_lt (hHeld.2.2.2.2.2.2.2.2.2)))
                      have HPn5ku := Lib.hid (Upd.blk hupd HPn5k.out (own_ne_ty HOE2.out HPn5k.out (by decide)))
                      have HIn5_e_11 := Lib.hid (nin_next hfar (own_ne_ty HOE2.out HPn5k.out (by decide)) (Blk.lt HPn5k.out))
                      clear HPn5k
                      have HOW_w213 := Lib.hid hown
                      have HF13 := Lib.hid (show ∀ g ∈ blkOf A_11, g ≠ bn13 from fun g hg => by have q := hfar g hg; rcases q with q | q; (simp [blkOf] at q; rw [q]; exact HNn116n13.out); (have r := Blk.lt (hHeld.2.2.2.2.2.1); omega))
                      refine hK.out _ _ hHeld3 (fun hHeld2 => ?_)
                      clear hK K hHeld hHeld3 hupd hown hfar HOE2 
                      have hHeld := hHeld2
                      clear hHeld2
                      (try simp only [Act.put, sA, sB, sC])
                      refine wpAnyH_ready (rs := [14]) (by kernel_rfl) (by simp) ?_
                      refine AllReadyH.cons (o := ?o25_b4b10_14) ?h25_b4b10_14 (fun K hK => ?_) AllReadyH.nil
                      case h25_b4b10_14 => (first | (simp only [gA, gB, gC]; done) | (simp only [gA, gB, gC]; exact rfl))
                      rw [if_pos (by rfl)]
                      refine wp_append_row (.tmp 122) (.tmp 128) 29 rfl w.heap.size 38 (Value.agg #[.int .i64 0, .int .i64 0, .int .i64 0, .int .i64 0, .bool false, .int .i64 0, .int .i64 0, .int .i64 0, .int .i64 0]) 9 72 Try.underlying29 (by kernel_rfl) rfl (by decide) (by decide) A_11 k c_11 ((rowsOf pkL ps).take (k * 9)) rfl HOW_w213.out _ (cutA c1 (k + 1) (some ⟨g1, 0, none⟩) 9) (ps.length - (k + 1)) (c1 - (k + 1)) ((rowsOf pkL ps).drop ((k + 1) * 9)) rfl (reads_cut (own_reads (hHeld.2.2.2.2.2.2.2.2.1)) (by have := HKM.out.1; omega) HC1.out) (fun u hu => pks_one ps u (List.mem_of_mem_drop hu)) (by have := HKM.out.1; have := HBO.out; omega) (Since.size hHeld.1) ((ps.eraseIdx k).length) (rowsOf pkL (ps.eraseIdx k)) (by have := HKM.out.1; rw [List.length_eraseIdx]; split <;> omega) (erase_rows pkL_len HKM.out.1) ?_
                      intro A_12 c_12 w214 hown hupd hfar
                      have hHeld3 := HKS.out.at_ w214 ⟨Since.upd hHeld.1 hupd (own_low HOW_w213.out), Upd.blk hupd (hHeld.2.1) (own_ne_ty HOW_w213.out (hHeld.2.1) (by decide)), HasRow.upd hupd (hHeld.2.2.1) (own_ne_ty HOW_w213.out HPn5ku.out (by decide)), Upd.blk hupd (hHeld.2.2.2.1) (own_ne_ty HOW_w213.out (hHeld.2.2.2.1) (by decide)), Upd.blk hupd (hHeld.2.2.2.2.1) (own_ne_ty HOW_w213.out (hHeld.2.2.2.2.1) (by decide)), Upd.blk hupd (hHeld.2.2.2.2.2.1) (fun hm => HF13.out _ hm rfl), LO.upd hupd (hHeld.2.2.2.2.2.2.1) HDEa_11.out, LO.upd hupd (hHeld.2.2.2.2.2.2.2.1) HDEb_11.out, Upd.own hupd (hHeld.2.2.2.2.2.2.2.2.1) HDEre_11.out, Upd.own hupd (hHeld.2.2.2.2.2.2.2.2.2) HDEro_11.out⟩
                      have HDEa_12 := Lib.hid (dis_next hfar HDEa_11.out (LO.lt (hHeld.2.2.2.2.2.2.1)))
                      have HDEb_12 := Lib.hid (dis_next hfar HDEb_11.out (LO.lt (hHeld.2.2.2.2.2.2.2.1)))
                      have HDEre_12 := Lib.hid (dis_next hfar HDEre_11.out (own_lt (hHeld.2.2.2.2.2.2.2.2.1)))
                      have HDEro_12 := Lib.hid (dis_next hfar HDEro_11.out (own_lt (hHeld.2.2.2.2.2.2.2.2.2)))
                      have HPn5kuu := Lib.hid (Upd.blk hupd HPn5ku.out (own_ne_ty HOW_w213.out HPn5ku.out (by decide)))
                      have HIn5_e_12 := Lib.hid (nin_next hfar (own_ne_ty HOW_w213.out HPn5ku.out (by decide)) (Blk.lt HPn5ku.out))
                      clear HPn5ku
                      have HOW_w214 := Lib.hid hown
                      refine hK.out _ _ hHeld3 (fun hHeld2 => ?_)
                      clear hK K hHeld hHeld3 hupd hown hfar HOW_w213 
                      have hHeld := hHeld2
                      clear hHeld2
                      (try simp only [Act.put, sA, sB, sC])
                      refine tkQ 15 (.pointer (some ⟨bn5, e, none⟩)) hHeld (he := by intro w hSw; exact exec_arr (i := e) (n := 2) 30 29 _ _ rfl rfl rfl rfl (by have := HEO.out; omega) Try.underlying30 (by kernel_rfl)) (h := ?_)
                      (try simp only [Act.put, sA, sB, sC])
                      refine wpAnyH_ready (rs := [16]) (by kernel_rfl) (by simp) ?_
                      refine AllReadyH.cons (o := ?o25_b4b10_16) ?h25_b4b10_16 (fun K hK => ?_) AllReadyH.nil
                      case h25_b4b10_16 => (first | (simp only [gA, gB, gC]; done) | (simp only [gA, gB, gC]; exact rfl))
                      rw [if_pos (by rfl)]
                      refine wp_st_cell 29 _ _ rfl (pr e (.slice A_12 ((ps.eraseIdx k).length) c_12) (.slice A2 qs.length c2)) (.slice A_12 ((ps.eraseIdx k).length) c_12) rfl rfl HPn5kuu.out (by rw [pr_size]; have := HEO.out; omega) (pr_set HEO.out) (by first | rfl | simp [Value.oneCell']) (by kernel_rfl) ?_
                      clear HPn5kuu
                      intro w215 hw
                      have HOW_w214r := Lib.hid (show (w215).ownsRow w.heap.size 38 9 (.slice A_12 ((ps.eraseIdx k).length) c_12) ((ps.eraseIdx k).length) (rowsOf pkL (ps.eraseIdx k)) by rw [hw]; exact own_row_far HOW_w214.out HIn5_e_12.out _)
                      clear HOW_w214
                      have HRn5 := Lib.hid (show Blk w215 bn5 30 (pr e (.slice A_12 ((ps.eraseIdx k).length) c_12) (.slice A2 qs.length c2)) by obtain ⟨old, Bo, _⟩ := hHeld.2.2.1; rw [hw]; exact Blk.row Bo _)
                      have hHeld3 := HKS.out.at_ w215 ⟨by rw [hw]; exact Since.setRow hHeld.1 HGn5.out _, by rw [hw]; exact Blk.row_far (hHeld.2.1) (Ne.symm HNn5n4.out) _, HasRow.of HRn5.out pr_size, by rw [hw]; exact Blk.row_far (hHeld.2.2.2.1) HNn6n5.out _, by rw [hw]; exact Blk.row_far (hHeld.2.2.2.2.1) HNn7n5.out _, by rw [hw]; exact Blk.row_far (hHeld.2.2.2.2.2.1) HNn13n5.out _, by rw [hw]; exact LO.row_far (hHeld.2.2.2.2.2.2.1) HIn5a.out _, by rw [hw]; exact LO.row_far (hHeld.2.2.2.2.2.2.2.1) HIn5b.out _, by rw [hw]; exact own_row_far (hHeld.2.2.2.2.2.2.2.2.1) HIn5re.out _, by rw [hw]; exact own_row_far (hHeld.2.2.2.2.2.2.2.2.2) HIn5ro.out _⟩
                      refine hK.out _ _ hHeld3 (fun hHeld2 => ?_)
                      clear hK K hHeld hHeld3 hw
                      have hHeld := hHeld2
                      clear hHeld2
                      (try simp only [Act.put, sA, sB, sC])
                      refine wpAnyH_done (by kernel_rfl) ?_ _
                      have HSd25v6 := Lib.hid hHeld.1
                      have HBn4d25v6 := Lib.hid (hHeld.2.1)
                      have HBn5d25v6 := Lib.hid HRn5.out
                      clear HRn5
                      have HBn6d25v6 := Lib.hid (hHeld.2.2.2.1)
                      have HBn7d25v6 := Lib.hid (hHeld.2.2.2.2.1)
                      have HBn13d25v6 := Lib.hid (hHeld.2.2.2.2.2.1)
                      have HFad25v6 := Lib.hid (hHeld.2.2.2.2.2.2.1)
                      have HFbd25v6 := Lib.hid (hHeld.2.2.2.2.2.2.2.1)
                      have HFred25v6 := Lib.hid (hHeld.2.2.2.2.2.2.2.2.1)
                      have HFrod25v6 := Lib.hid (hHeld.2.2.2.2.2.2.2.2.2)
                      clear hHeld HRK HKS HS211 HBn4211 HBn5211 HBn6211 HBn7211 HBn13211 HFa_211 HFb_211 HFre_211 HFro_211
                      have HFed25v6 := Lib.hid HOW_w214r.out
                      clear HOW_w214r
                      go_wp2_with fail
                      refine Met.intro ?_
                      exact hJ5 _ _ ⟨(ps.eraseIdx k), A_12, c_12, ⟨rfl, rfl, rfl, rfl, rfl, rfl, rfl, rfl, rfl, rfl, rfl, rfl, rfl, rfl, rfl, rfl, trivial⟩, Lib.hid ⟨(HI.out.loses k), (fun g hg h => HDEro_12.out g h hg), HSd25v6.out, HBn4d25v6.out, HBn5d25v6.out, HBn6d25v6.out, HBn7d25v6.out, HBn13d25v6.out, HFad25v6.out, HFbd25v6.out, HFed25v6.out, HFrod25v6.out⟩⟩
                    case g25__10b =>
                     rw [if_pos (by rfl)]
                     refine wp_q (.slice (some ⟨g1, 0, none⟩) ps.length c1) ?e25_b10_10 ?_
                     case e25_b10_10 => exact exec_cell 29 _ _ HPn5.out (pr_at HEO.out) rfl rfl Try.underlying29 rfl
                     refine hK.out _ _ hHeld (fun hHeld2 => ?_)
                     clear hK K hHeld2
                     (try simp only [Act.put, sA, sB, sC])
                     refine tkQ 13 (.slice (cutA c1 (k + 1) (some ⟨g1, 0, none⟩) 9) (ps.length - (k + 1)) (c1 - (k + 1))) hHeld (he := by intro w hSw; exact exec_slice (s := 9) 29 38 _ _ _ _ rfl rfl Try.underlying29 (by kernel_rfl) (sb_l _ _ (l := k + 1) (by push_cast; rfl) (by have := HKM.out.1; omega)) (by rfl) rfl rfl) (h := ?_)
                     (try simp only [Act.put, sA, sB, sC])
                     refine wpAnyH_ready (rs := [1, 4]) (by kernel_rfl) (by simp) ?_
                     refine AllReadyH.cons (o := ?o25_b10_1b) ?h25_b10_1b (fun K hK => ?g25_b10_1b) (AllReadyH.cons (o := ?o25_b10_4b) ?h25_b10_4b (fun K hK => ?g25_b10_4b) AllReadyH.nil)
                     case h25_b10_1b => (first | (simp only [gA, gB, gC]; done) | (simp only [gA, gB, gC]; exact rfl))
                     case h25_b10_4b => (first | (simp only [gA, gB, gC]; done) | (simp only [gA, gB, gC]; exact rfl))
                     case g25_b10_1b =>
                      rw [if_pos (by rfl)]
                      refine wp_new (fun b => .slice (some ⟨b, 0, none⟩) 0 0) 38 #[] (by rintro b rfl; first | rfl | kernel_rfl) ?_
                      intro bn116 w212 hge hB hb
                      refine hK.out _ _ (by (apply HRK.out; exact hb; exact hHeld)) (fun hHeld2 => ?_)
                      have HIn116_a := Lib.hid (LO.far (hHeld.2.2.2.2.2.2.1) hge)
                      have HIn116_b := Lib.hid (LO.far (hHeld.2.2.2.2.2.2.2.1) hge)
                      have HIn116_re := Lib.hid (own_far (hHeld.2.2.2.2.2.2.2.2.1) hge)
                      have HIn116_ro := Lib.hid (own_far (hHeld.2.2.2.2.2.2.2.2.2) hge)
                      have HPn5k := Lib.hid (keep_blk hb HPn5.out)
                      clear HPn5
                      have HNn116n4 := Lib.hid (show bn116 ≠ bn4 by have := Blk.lt (hHeld.2.1); (try simp at this); (try simp at hge); omega)
                      have HNn116n5 := Lib.hid (show bn116 ≠ bn5 by obtain ⟨old, Bo, _⟩ := hHeld.2.2.1; have := Blk.lt Bo; omega)
                      have HNn116n6 := Lib.hid (show bn116 ≠ bn6 by have := Blk.lt (hHeld.2.2.2.1); (try simp at this); (try simp at hge); omega)
                      have HNn116n7 := Lib.hid (show bn116 ≠ bn7 by have := Blk.lt (hHeld.2.2.2.2.1); (try simp at this); (try simp at hge); omega)
                      have HNn116n13 := Lib.hid (show bn116 ≠ bn13 by have := Blk.lt (hHeld.2.2.2.2.2.1); (try simp at this); (try simp at hge); omega)
                      have HGn116 := Lib.hid (show w.heap.size ≤ bn116 by have := Since.size hHeld.1; (try simp at this); (try simp at hge); omega)
                      have HXn116 := Lib.hid hB
                      clear hB
                      clear hge
                      clear hK K hHeld hb
                      have hHeld := hHeld2
                      clear hHeld2
                      (try simp only [Act.put, sA, sB, sC])
                      have HOE2 := Lib.hid (own_empty (e := 38) (size := 9) HXn116.out HGn116.out)
                      clear HXn116
                      refine wpAnyH_ready (rs := [4]) (by kernel_rfl) (by simp) ?_
                      refine AllReadyH.cons (o := ?o25_b10b1_4) ?h25_b10b1_4 (fun K hK => ?_) AllReadyH.nil
                      case h25_b10b1_4 => (first | (simp only [gA, gB, gC]; done) | (simp only [gA, gB, gC]; exact rfl))
                      rw [if_pos (by rfl)]
                      refine wp_q (.slice (some ⟨g1, 0, none⟩) ps.length c1) ?e25_b10b1_4 ?_
                      case e25_b10b1_4 => exact exec_cell 29 _ _ HPn5k.out (pr_at HEO.out) rfl rfl Try.underlying29 rfl
                      refine hK.out _ _ hHeld (fun hHeld2 => ?_)
                      clear hK K hHeld2
                      (try simp only [Act.put, sA, sB, sC])
                      refine tkQ 6 (.slice (some ⟨g1, 0, none⟩) k c1) hHeld (he := by intro w hSw; exact exec_slice (s := 9) 29 38 _ _ _ _ rfl rfl Try.underlying29 (by kernel_rfl) (sb_h _ _ (h := k) rfl (by have := HKM.out.1; have := HC1.out; omega)) (by split <;> simp [Addr.add]) rfl rfl) (h := ?_)
                      (try simp only [Act.put, sA, sB, sC])
                      refine wpAnyH_ready (rs := [7]) (by kernel_rfl) (by simp) ?_
                      refine AllReadyH.cons (o := ?o25_b10b1_7) ?h25_b10b1_7 (fun K hK => ?_) AllReadyH.nil
                      case h25_b10b1_7 => (first | (simp only [gA, gB, gC]; done) | (simp only [gA, gB, gC]; exact rfl))
                      rw [if_pos (by rfl)]
                      refine wp_append_row (.tmp 116) (.tmp 121) 29 rfl w.heap.size 38 (Value.agg #[.int .i64 0, .int .i64 0, .int .i64 0, .int .i64 0, .bool false, .int .i64 0, .int .i64 0, .int .i64 0, .int .i64 0]) 9 72 Try.underlying29 (by kernel_rfl) rfl (by decide) (by decide) (some ⟨bn116, 0, none⟩) 0 0 ([]) rfl HOE2.out _ (some ⟨g1, 0, none⟩) k c1 ((rowsOf pkL ps).take (k * 9)) rfl (own_reads (own_prefix (hHeld.2.2.2.2.2.2.2.2.1) (by have := HKM.out.1; omega))) (fun u hu => pks_one ps u (List.mem_of_mem_take hu)) (by have := HKM.out.1; have := HBO.out; omega) (Since.size hHeld.1) k ((rowsOf pkL ps).take (k * 9)) (Nat.zero_add _) rfl ?_
                      intro A_13 c_13 w213 hown hupd hfar
                      have hHeld3 := HKS.out.at_ w213 ⟨Since.upd hHeld.1 hupd (own_low HOE2.out), Upd.blk hupd (hHeld.2.1) (own_ne_ty HOE2.out (hHeld.2.1) (by decide)), HasRow.upd hupd (hHeld.2.2.1) (own_ne_ty HOE2.out HPn5k.out (by decide)), Upd.blk hupd (hHeld.2.2.2.1) (own_ne_ty HOE2.out (hHeld.2.2.2.1) (by decide)), Upd.blk hupd (hHeld.2.2.2.2.1) (own_ne_ty HOE2.out (hHeld.2.2.2.2.1) (by decide)), Upd.blk hupd (hHeld.2.2.2.2.2.1) (by simp [blkOf]; exact (Ne.symm HNn116n13.out)), LO.upd hupd (hHeld.2.2.2.2.2.2.1) (fun g hg h => HIn116_a.out (by simp [blkOf] at h; rw [← h]; exact hg)), LO.upd hupd (hHeld.2.2.2.2.2.2.2.1) (fun g hg h => HIn116_b.out (by simp [blkOf] at h; rw [← h]; exact hg)), Upd.own hupd (hHeld.2.2.2.2.2.2.2.2.1) (fun g hg h => HIn116_re.out (by simp [blkOf] at h; rw [← h]; exact hg)), Upd.own hupd (hHeld.2.2.2.2.2.2.2.2.2) (fun g hg h => HIn116_ro.out (by simp [blkOf] at h; rw [← h]; exact hg))⟩
                      have HDEa_13 := Lib.hid (dis_next hfar (fun g hg h => HIn116_a.out (by simp [blkOf] at h; rw [← h]; exact hg)) (LO.lt (hHeld.2.2.2.2.2.2.1)))
                      have HDEb_13 := Lib.hid (dis_next hfar (fun g hg h => HIn116_b.out (by simp [blkOf] at h; rw [← h]; exact hg)) (LO.lt (hHeld.2.2.2.2.2.2.2.1)))
                      have HDEre_13 := Lib.hid (dis_next hfar (fun g hg h => HIn116_re.out (by simp [blkOf] at h; rw [← h]; exact hg)) (own_lt (hHeld.2.2.2.2.2.2.2.2.1)))
                      have HDEro_13 := Lib.hid (dis_next hfar (fun g hg h => HIn116_ro.out (by simp [blkOf] at h; rw [← h]; exact hg)) (own_lt (hHeld.2.2.2.2.2.2.2.2.2)))
                      have HPn5ku := Lib.hid (Upd.blk hupd HPn5k.out (own_ne_ty HOE2.out HPn5k.out (by decide)))
                      have HIn5_e_13 := Lib.hid (nin_next hfar (own_ne_ty HOE2.out HPn5k.out (by decide)) (Blk.lt HPn5k.out))
                      clear HPn5k
                      have HOW_w213 := Lib.hid hown
                      have HF13 := Lib.hid (show ∀ g ∈ blkOf A_13, g ≠ bn13 from fun g hg => by have q := hfar g hg; rcases q with q | q; (simp [blkOf] at q; rw [q]; exact HNn116n13.out); (have r := Blk.lt (hHeld.2.2.2.2.2.1); omega))
                      refine hK.out _ _ hHeld3 (fun hHeld2 => ?_)
                      clear hK K hHeld hHeld3 hupd hown hfar HOE2 
                      have hHeld := hHeld2
                      clear hHeld2
                      (try simp only [Act.put, sA, sB, sC])
                      refine wpAnyH_ready (rs := [14]) (by kernel_rfl) (by simp) ?_
                      refine AllReadyH.cons (o := ?o25_b10b1_14) ?h25_b10b1_14 (fun K hK => ?_) AllReadyH.nil
                      case h25_b10b1_14 => (first | (simp only [gA, gB, gC]; done) | (simp only [gA, gB, gC]; exact rfl))
                      rw [if_pos (by rfl)]
                      refine wp_append_row (.tmp 122) (.tmp 128) 29 rfl w.heap.size 38 (Value.agg #[.int .i64 0, .int .i64 0, .int .i64 0, .int .i64 0, .bool false, .int .i64 0, .int .i64 0, .int .i64 0, .int .i64 0]) 9 72 Try.underlying29 (by kernel_rfl) rfl (by decide) (by decide) A_13 k c_13 ((rowsOf pkL ps).take (k * 9)) rfl HOW_w213.out _ (cutA c1 (k + 1) (some ⟨g1, 0, none⟩) 9) (ps.length - (k + 1)) (c1 - (k + 1)) ((rowsOf pkL ps).drop ((k + 1) * 9)) rfl (reads_cut (own_reads (hHeld.2.2.2.2.2.2.2.2.1)) (by have := HKM.out.1; omega) HC1.out) (fun u hu => pks_one ps u (List.mem_of_mem_drop hu)) (by have := HKM.out.1; have := HBO.out; omega) (Since.size hHeld.1) ((ps.eraseIdx k).length) (rowsOf pkL (ps.eraseIdx k)) (by have := HKM.out.1; rw [List.length_eraseIdx]; split <;> omega) (erase_rows pkL_len HKM.out.1) ?_
                      intro A_14 c_14 w214 hown hupd hfar
                      have hHeld3 := HKS.out.at_ w214 ⟨Since.upd hHeld.1 hupd (own_low HOW_w213.out), Upd.blk hupd (hHeld.2.1) (own_ne_ty HOW_w213.out (hHeld.2.1) (by decide)), HasRow.upd hupd (hHeld.2.2.1) (own_ne_ty HOW_w213.out HPn5ku.out (by decide)), Upd.blk hupd (hHeld.2.2.2.1) (own_ne_ty HOW_w213.out (hHeld.2.2.2.1) (by decide)), Upd.blk hupd (hHeld.2.2.2.2.1) (own_ne_ty HOW_w213.out (hHeld.2.2.2.2.1) (by decide)), Upd.blk hupd (hHeld.2.2.2.2.2.1) (fun hm => HF13.out _ hm rfl), LO.upd hupd (hHeld.2.2.2.2.2.2.1) HDEa_13.out, LO.upd hupd (hHeld.2.2.2.2.2.2.2.1) HDEb_13.out, Upd.own hupd (hHeld.2.2.2.2.2.2.2.2.1) HDEre_13.out, Upd.own hupd (hHeld.2.2.2.2.2.2.2.2.2) HDEro_13.out⟩
                      have HDEa_14 := Lib.hid (dis_next hfar HDEa_13.out (LO.lt (hHeld.2.2.2.2.2.2.1)))
                      have HDEb_14 := Lib.hid (dis_next hfar HDEb_13.out (LO.lt (hHeld.2.2.2.2.2.2.2.1)))
                      have HDEre_14 := Lib.hid (dis_next hfar HDEre_13.out (own_lt (hHeld.2.2.2.2.2.2.2.2.1)))
                      have HDEro_14 := Lib.hid (dis_next hfar HDEro_13.out (own_lt (hHeld.2.2.2.2.2.2.2.2.2)))
                      have HPn5kuu := Lib.hid (Upd.blk hupd HPn5ku.out (own_ne_ty HOW_w213.out HPn5ku.out (by decide)))
                      have HIn5_e_14 := Lib.hid (nin_next hfar (own_ne_ty HOW_w213.out HPn5ku.out (by decide)) (Blk.lt HPn5ku.out))
                      clear HPn5ku
                      have HOW_w214 := Lib.hid hown
                      refine hK.out _ _ hHeld3 (fun hHeld2 => ?_)
                      clear hK K hHeld hHeld3 hupd hown hfar HOW_w213 
                      have hHeld := hHeld2
                      clear hHeld2
                      (try simp only [Act.put, sA, sB, sC])
                      refine tkQ 15 (.pointer (some ⟨bn5, e, none⟩)) hHeld (he := by intro w hSw; exact exec_arr (i := e) (n := 2) 30 29 _ _ rfl rfl rfl rfl (by have := HEO.out; omega) Try.underlying30 (by kernel_rfl)) (h := ?_)
                      (try simp only [Act.put, sA, sB, sC])
                      refine wpAnyH_ready (rs := [16]) (by kernel_rfl) (by simp) ?_
                      refine AllReadyH.cons (o := ?o25_b10b1_16) ?h25_b10b1_16 (fun K hK => ?_) AllReadyH.nil
                      case h25_b10b1_16 => (first | (simp only [gA, gB, gC]; done) | (simp only [gA, gB, gC]; exact rfl))
                      rw [if_pos (by rfl)]
                      refine wp_st_cell 29 _ _ rfl (pr e (.slice A_14 ((ps.eraseIdx k).length) c_14) (.slice A2 qs.length c2)) (.slice A_14 ((ps.eraseIdx k).length) c_14) rfl rfl HPn5kuu.out (by rw [pr_size]; have := HEO.out; omega) (pr_set HEO.out) (by first | rfl | simp [Value.oneCell']) (by kernel_rfl) ?_
                      clear HPn5kuu
                      intro w215 hw
                      have HOW_w214r := Lib.hid (show (w215).ownsRow w.heap.size 38 9 (.slice A_14 ((ps.eraseIdx k).length) c_14) ((ps.eraseIdx k).length) (rowsOf pkL (ps.eraseIdx k)) by rw [hw]; exact own_row_far HOW_w214.out HIn5_e_14.out _)
                      clear HOW_w214
                      have HRn5 := Lib.hid (show Blk w215 bn5 30 (pr e (.slice A_14 ((ps.eraseIdx k).length) c_14) (.slice A2 qs.length c2)) by obtain ⟨old, Bo, _⟩ := hHeld.2.2.1; rw [hw]; exact Blk.row Bo _)
                      have hHeld3 := HKS.out.at_ w215 ⟨by rw [hw]; exact Since.setRow hHeld.1 HGn5.out _, by rw [hw]; exact Blk.row_far (hHeld.2.1) (Ne.symm HNn5n4.out) _, HasRow.of HRn5.out pr_size, by rw [hw]; exact Blk.row_far (hHeld.2.2.2.1) HNn6n5.out _, by rw [hw]; exact Blk.row_far (hHeld.2.2.2.2.1) HNn7n5.out _, by rw [hw]; exact Blk.row_far (hHeld.2.2.2.2.2.1) HNn13n5.out _, by rw [hw]; exact LO.row_far (hHeld.2.2.2.2.2.2.1) HIn5a.out _, by rw [hw]; exact LO.row_far (hHeld.2.2.2.2.2.2.2.1) HIn5b.out _, by rw [hw]; exact own_row_far (hHeld.2.2.2.2.2.2.2.2.1) HIn5re.out _, by rw [hw]; exact own_row_far (hHeld.2.2.2.2.2.2.2.2.2) HIn5ro.out _⟩
                      refine hK.out _ _ hHeld3 (fun hHeld2 => ?_)
                      clear hK K hHeld hHeld3 hw
                      have hHeld := hHeld2
                      clear hHeld2
                      (try simp only [Act.put, sA, sB, sC])
                      refine wpAnyH_done (by kernel_rfl) ?_ _
                      have HSd25v7 := Lib.hid hHeld.1
                      have HBn4d25v7 := Lib.hid (hHeld.2.1)
                      have HBn5d25v7 := Lib.hid HRn5.out
                      clear HRn5
                      have HBn6d25v7 := Lib.hid (hHeld.2.2.2.1)
                      have HBn7d25v7 := Lib.hid (hHeld.2.2.2.2.1)
                      have HBn13d25v7 := Lib.hid (hHeld.2.2.2.2.2.1)
                      have HFad25v7 := Lib.hid (hHeld.2.2.2.2.2.2.1)
                      have HFbd25v7 := Lib.hid (hHeld.2.2.2.2.2.2.2.1)
                      have HFred25v7 := Lib.hid (hHeld.2.2.2.2.2.2.2.2.1)
                      have HFrod25v7 := Lib.hid (hHeld.2.2.2.2.2.2.2.2.2)
                      clear hHeld HRK HKS HS211 HBn4211 HBn5211 HBn6211 HBn7211 HBn13211 HFa_211 HFb_211 HFre_211 HFro_211
                      have HFed25v7 := Lib.hid HOW_w214r.out
                      clear HOW_w214r
                      go_wp2_with fail
                      refine Met.intro ?_
                      exact hJ5 _ _ ⟨(ps.eraseIdx k), A_14, c_14, ⟨rfl, rfl, rfl, rfl, rfl, rfl, rfl, rfl, rfl, rfl, rfl, rfl, rfl, rfl, rfl, rfl, trivial⟩, Lib.hid ⟨(HI.out.loses k), (fun g hg h => HDEro_14.out g h hg), HSd25v7.out, HBn4d25v7.out, HBn5d25v7.out, HBn6d25v7.out, HBn7d25v7.out, HBn13d25v7.out, HFad25v7.out, HFbd25v7.out, HFed25v7.out, HFrod25v7.out⟩⟩
                     case g25_b10_4b =>
                      rw [if_pos (by rfl)]
                      refine wp_q (.slice (some ⟨g1, 0, none⟩) ps.length c1) ?e25_b10b4_4 ?_
                      case e25_b10b4_4 => exact exec_cell 29 _ _ HPn5.out (pr_at HEO.out) rfl rfl Try.underlying29 rfl
                      refine hK.out _ _ hHeld (fun hHeld2 => ?_)
                      clear hK K hHeld2
                      (try simp only [Act.put, sA, sB, sC])
                      refine tkQ 6 (.slice (some ⟨g1, 0, none⟩) k c1) hHeld (he := by intro w hSw; exact exec_slice (s := 9) 29 38 _ _ _ _ rfl rfl Try.underlying29 (by kernel_rfl) (sb_h _ _ (h := k) rfl (by have := HKM.out.1; have := HC1.out; omega)) (by split <;> simp [Addr.add]) rfl rfl) (h := ?_)
                      (try simp only [Act.put, sA, sB, sC])
                      refine wpAnyH_ready (rs := [1]) (by kernel_rfl) (by simp) ?_
                      refine AllReadyH.cons (o := ?o25_b10b4_1) ?h25_b10b4_1 (fun K hK => ?_) AllReadyH.nil
                      case h25_b10b4_1 => (first | (simp only [gA, gB, gC]; done) | (simp only [gA, gB, gC]; exact rfl))
                      rw [if_pos (by rfl)]
                      refine wp_new (fun b => .slice (some ⟨b, 0, none⟩) 0 0) 38 #[] (by rintro b rfl; first | rfl | kernel_rfl) ?_
                      intro bn116 w212 hge hB hb
                      refine hK.out _ _ (by (apply HRK.out; exact hb; exact hHeld)) (fun hHeld2 => ?_)
                      have HIn116_a := Lib.hid (LO.far (hHeld.2.2.2.2.2.2.1) hge)
                      have HIn116_b := Lib.hid (LO.far (hHeld.2.2.2.2.2.2.2.1) hge)
                      have HIn116_re := Lib.hid (own_far (hHeld.2.2.2.2.2.2.2.2.1) hge)
                      have HIn116_ro := Lib.hid (own_far (hHeld.2.2.2.2.2.2.2.2.2) hge)
                      have HPn5k := Lib.hid (keep_blk hb HPn5.out)
                      clear HPn5
                      have HNn116n4 := Lib.hid (show bn116 ≠ bn4 by have := Blk.lt (hHeld.2.1); (try simp at this); (try simp at hge); omega)
                      have HNn116n5 := Lib.hid (show bn116 ≠ bn5 by obtain ⟨old, Bo, _⟩ := hHeld.2.2.1; have := Blk.lt Bo; omega)
                      have HNn116n6 := Lib.hid (show bn116 ≠ bn6 by have := Blk.lt (hHeld.2.2.2.1); (try simp at this); (try simp at hge); omega)
                      have HNn116n7 := Lib.hid (show bn116 ≠ bn7 by have := Blk.lt (hHeld.2.2.2.2.1); (try simp at this); (try simp at hge); omega)
                      have HNn116n13 := Lib.hid (show bn116 ≠ bn13 by have := Blk.lt (hHeld.2.2.2.2.2.1); (try simp at this); (try simp at hge); omega)
                      have HGn116 := Lib.hid (show w.heap.size ≤ bn116 by have := Since.size hHeld.1; (try simp at this); (try simp at hge); omega)
                      have HXn116 := Lib.hid hB
                      clear hB
                      clear hge
                      clear hK K hHeld hb
                      have hHeld := hHeld2
                      clear hHeld2
                      (try simp only [Act.put, sA, sB, sC])
                      have HOE2 := Lib.hid (own_empty (e := 38) (size := 9) HXn116.out HGn116.out)
                      clear HXn116
                      refine wpAnyH_ready (rs := [7]) (by kernel_rfl) (by simp) ?_
                      refine AllReadyH.cons (o := ?o25_b10b4_7) ?h25_b10b4_7 (fun K hK => ?_) AllReadyH.nil
                      case h25_b10b4_7 => (first | (simp only [gA, gB, gC]; done) | (simp only [gA, gB, gC]; exact rfl))
                      rw [if_pos (by rfl)]
                      refine wp_append_row (.tmp 116) (.tmp 121) 29 rfl w.heap.size 38 (Value.agg #[.int .i64 0, .int .i64 0, .int .i64 0, .int .i64 0, .bool false, .int .i64 0, .int .i64 0, .int .i64 0, .int .i64 0]) 9 72 Try.underlying29 (by kernel_rfl) rfl (by decide) (by decide) (some ⟨bn116, 0, none⟩) 0 0 ([]) rfl HOE2.out _ (some ⟨g1, 0, none⟩) k c1 ((rowsOf pkL ps).take (k * 9)) rfl (own_reads (own_prefix (hHeld.2.2.2.2.2.2.2.2.1) (by have := HKM.out.1; omega))) (fun u hu => pks_one ps u (List.mem_of_mem_take hu)) (by have := HKM.out.1; have := HBO.out; omega) (Since.size hHeld.1) k ((rowsOf pkL ps).take (k * 9)) (Nat.zero_add _) rfl ?_
                      intro A_15 c_15 w213 hown hupd hfar
                      have hHeld3 := HKS.out.at_ w213 ⟨Since.upd hHeld.1 hupd (own_low HOE2.out), Upd.blk hupd (hHeld.2.1) (own_ne_ty HOE2.out (hHeld.2.1) (by decide)), HasRow.upd hupd (hHeld.2.2.1) (own_ne_ty HOE2.out HPn5k.out (by decide)), Upd.blk hupd (hHeld.2.2.2.1) (own_ne_ty HOE2.out (hHeld.2.2.2.1) (by decide)), Upd.blk hupd (hHeld.2.2.2.2.1) (own_ne_ty HOE2.out (hHeld.2.2.2.2.1) (by decide)), Upd.blk hupd (hHeld.2.2.2.2.2.1) (by simp [blkOf]; exact (Ne.symm HNn116n13.out)), LO.upd hupd (hHeld.2.2.2.2.2.2.1) (fun g hg h => HIn116_a.out (by simp [blkOf] at h; rw [← h]; exact hg)), LO.upd hupd (hHeld.2.2.2.2.2.2.2.1) (fun g hg h => HIn116_b.out (by simp [blkOf] at h; rw [← h]; exact hg)), Upd.own hupd (hHeld.2.2.2.2.2.2.2.2.1) (fun g hg h => HIn116_re.out (by simp [blkOf] at h; rw [← h]; exact hg)), Upd.own hupd (hHeld.2.2.2.2.2.2.2.2.2) (fun g hg h => HIn116_ro.out (by simp [blkOf] at h; rw [← h]; exact hg))⟩
                      have HDEa_15 := Lib.hid (dis_next hfar (fun g hg h => HIn116_a.out (by simp [blkOf] at h; rw [← h]; exact hg)) (LO.lt (hHeld.2.2.2.2.2.2.1)))
                      have HDEb_15 := Lib.hid (dis_next hfar (fun g hg h => HIn116_b.out (by simp [blkOf] at h; rw [← h]; exact hg)) (LO.lt (hHeld.2.2.2.2.2.2.2.1)))
                      have HDEre_15 := Lib.hid (dis_next hfar (fun g hg h => HIn116_re.out (by simp [blkOf] at h; rw [← h]; exact hg)) (own_lt (hHeld.2.2.2.2.2.2.2.2.1)))
                      have HDEro_15 := Lib.hid (dis_next hfar (fun g hg h => HIn116_ro.out (by simp [blkOf] at h; rw [← h]; exact hg)) (own_lt (hHeld.2.2.2.2.2.2.2.2.2)))
                      have HPn5ku := Lib.hid (Upd.blk hupd HPn5k.out (own_ne_ty HOE2.out HPn5k.out (by decide)))
                      have HIn5_e_15 := Lib.hid (nin_next hfar (own_ne_ty HOE2.out HPn5k.out (by decide)) (Blk.lt HPn5k.out))
                      clear HPn5k
                      have HOW_w213 := Lib.hid hown
                      have HF13 := Lib.hid (show ∀ g ∈ blkOf A_15, g ≠ bn13 from fun g hg => by have q := hfar g hg; rcases q with q | q; (simp [blkOf] at q; rw [q]; exact HNn116n13.out); (have r := Blk.lt (hHeld.2.2.2.2.2.1); omega))
                      refine hK.out _ _ hHeld3 (fun hHeld2 => ?_)
                      clear hK K hHeld hHeld3 hupd hown hfar HOE2 
                      have hHeld := hHeld2
                      clear hHeld2
                      (try simp only [Act.put, sA, sB, sC])
                      refine wpAnyH_ready (rs := [14]) (by kernel_rfl) (by simp) ?_
                      refine AllReadyH.cons (o := ?o25_b10b4_14) ?h25_b10b4_14 (fun K hK => ?_) AllReadyH.nil
                      case h25_b10b4_14 => (first | (simp only [gA, gB, gC]; done) | (simp only [gA, gB, gC]; exact rfl))
                      rw [if_pos (by rfl)]
                      refine wp_append_row (.tmp 122) (.tmp 128) 29 rfl w.heap.size 38 (Value.agg #[.int .i64 0, .int .i64 0, .int .i64 0, .int .i64 0, .bool false, .int .i64 0, .int .i64 0, .int .i64 0, .int .i64 0]) 9 72 Try.underlying29 (by kernel_rfl) rfl (by decide) (by decide) A_15 k c_15 ((rowsOf pkL ps).take (k * 9)) rfl HOW_w213.out _ (cutA c1 (k + 1) (some ⟨g1, 0, none⟩) 9) (ps.length - (k + 1)) (c1 - (k + 1)) ((rowsOf pkL ps).drop ((k + 1) * 9)) rfl (reads_cut (own_reads (hHeld.2.2.2.2.2.2.2.2.1)) (by have := HKM.out.1; omega) HC1.out) (fun u hu => pks_one ps u (List.mem_of_mem_drop hu)) (by have := HKM.out.1; have := HBO.out; omega) (Since.size hHeld.1) ((ps.eraseIdx k).length) (rowsOf pkL (ps.eraseIdx k)) (by have := HKM.out.1; rw [List.length_eraseIdx]; split <;> omega) (erase_rows pkL_len HKM.out.1) ?_
                      intro A_16 c_16 w214 hown hupd hfar
                      have hHeld3 := HKS.out.at_ w214 ⟨Since.upd hHeld.1 hupd (own_low HOW_w213.out), Upd.blk hupd (hHeld.2.1) (own_ne_ty HOW_w213.out (hHeld.2.1) (by decide)), HasRow.upd hupd (hHeld.2.2.1) (own_ne_ty HOW_w213.out HPn5ku.out (by decide)), Upd.blk hupd (hHeld.2.2.2.1) (own_ne_ty HOW_w213.out (hHeld.2.2.2.1) (by decide)), Upd.blk hupd (hHeld.2.2.2.2.1) (own_ne_ty HOW_w213.out (hHeld.2.2.2.2.1) (by decide)), Upd.blk hupd (hHeld.2.2.2.2.2.1) (fun hm => HF13.out _ hm rfl), LO.upd hupd (hHeld.2.2.2.2.2.2.1) HDEa_15.out, LO.upd hupd (hHeld.2.2.2.2.2.2.2.1) HDEb_15.out, Upd.own hupd (hHeld.2.2.2.2.2.2.2.2.1) HDEre_15.out, Upd.own hupd (hHeld.2.2.2.2.2.2.2.2.2) HDEro_15.out⟩
                      have HDEa_16 := Lib.hid (dis_next hfar HDEa_15.out (LO.lt (hHeld.2.2.2.2.2.2.1)))
                      have HDEb_16 := Lib.hid (dis_next hfar HDEb_15.out (LO.lt (hHeld.2.2.2.2.2.2.2.1)))
                      have HDEre_16 := Lib.hid (dis_next hfar HDEre_15.out (own_lt (hHeld.2.2.2.2.2.2.2.2.1)))
                      have HDEro_16 := Lib.hid (dis_next hfar HDEro_15.out (own_lt (hHeld.2.2.2.2.2.2.2.2.2)))
                      have HPn5kuu := Lib.hid (Upd.blk hupd HPn5ku.out (own_ne_ty HOW_w213.out HPn5ku.out (by decide)))
                      have HIn5_e_16 := Lib.hid (nin_next hfar (own_ne_ty HOW_w213.out HPn5ku.out (by decide)) (Blk.lt HPn5ku.out))
                      clear HPn5ku
                      have HOW_w214 := Lib.hid hown
                      refine hK.out _ _ hHeld3 (fun hHeld2 => ?_)
                      clear hK K hHeld hHeld3 hupd hown hfar HOW_w213 
                      have hHeld := hHeld2
                      clear hHeld2
                      (try simp only [Act.put, sA, sB, sC])
                      refine tkQ 15 (.pointer (some ⟨bn5, e, none⟩)) hHeld (he := by intro w hSw; exact exec_arr (i := e) (n := 2) 30 29 _ _ rfl rfl rfl rfl (by have := HEO.out; omega) Try.underlying30 (by kernel_rfl)) (h := ?_)
                      (try simp only [Act.put, sA, sB, sC])
                      refine wpAnyH_ready (rs := [16]) (by kernel_rfl) (by simp) ?_
                      refine AllReadyH.cons (o := ?o25_b10b4_16) ?h25_b10b4_16 (fun K hK => ?_) AllReadyH.nil
                      case h25_b10b4_16 => (first | (simp only [gA, gB, gC]; done) | (simp only [gA, gB, gC]; exact rfl))
                      rw [if_pos (by rfl)]
                      refine wp_st_cell 29 _ _ rfl (pr e (.slice A_16 ((ps.eraseIdx k).length) c_16) (.slice A2 qs.length c2)) (.slice A_16 ((ps.eraseIdx k).length) c_16) rfl rfl HPn5kuu.out (by rw [pr_size]; have := HEO.out; omega) (pr_set HEO.out) (by first | rfl | simp [Value.oneCell']) (by kernel_rfl) ?_
                      clear HPn5kuu
                      intro w215 hw
                      have HOW_w214r := Lib.hid (show (w215).ownsRow w.heap.size 38 9 (.slice A_16 ((ps.eraseIdx k).length) c_16) ((ps.eraseIdx k).length) (rowsOf pkL (ps.eraseIdx k)) by rw [hw]; exact own_row_far HOW_w214.out HIn5_e_16.out _)
                      clear HOW_w214
                      have HRn5 := Lib.hid (show Blk w215 bn5 30 (pr e (.slice A_16 ((ps.eraseIdx k).length) c_16) (.slice A2 qs.length c2)) by obtain ⟨old, Bo, _⟩ := hHeld.2.2.1; rw [hw]; exact Blk.row Bo _)
                      have hHeld3 := HKS.out.at_ w215 ⟨by rw [hw]; exact Since.setRow hHeld.1 HGn5.out _, by rw [hw]; exact Blk.row_far (hHeld.2.1) (Ne.symm HNn5n4.out) _, HasRow.of HRn5.out pr_size, by rw [hw]; exact Blk.row_far (hHeld.2.2.2.1) HNn6n5.out _, by rw [hw]; exact Blk.row_far (hHeld.2.2.2.2.1) HNn7n5.out _, by rw [hw]; exact Blk.row_far (hHeld.2.2.2.2.2.1) HNn13n5.out _, by rw [hw]; exact LO.row_far (hHeld.2.2.2.2.2.2.1) HIn5a.out _, by rw [hw]; exact LO.row_far (hHeld.2.2.2.2.2.2.2.1) HIn5b.out _, by rw [hw]; exact own_row_far (hHeld.2.2.2.2.2.2.2.2.1) HIn5re.out _, by rw [hw]; exact own_row_far (hHeld.2.2.2.2.2.2.2.2.2) HIn5ro.out _⟩
                      refine hK.out _ _ hHeld3 (fun hHeld2 => ?_)
                      clear hK K hHeld hHeld3 hw
                      have hHeld := hHeld2
                      clear hHeld2
                      (try simp only [Act.put, sA, sB, sC])
                      refine wpAnyH_done (by kernel_rfl) ?_ _
                      have HSd25v8 := Lib.hid hHeld.1
                      have HBn4d25v8 := Lib.hid (hHeld.2.1)
                      have HBn5d25v8 := Lib.hid HRn5.out
                      clear HRn5
                      have HBn6d25v8 := Lib.hid (hHeld.2.2.2.1)
                      have HBn7d25v8 := Lib.hid (hHeld.2.2.2.2.1)
                      have HBn13d25v8 := Lib.hid (hHeld.2.2.2.2.2.1)
                      have HFad25v8 := Lib.hid (hHeld.2.2.2.2.2.2.1)
                      have HFbd25v8 := Lib.hid (hHeld.2.2.2.2.2.2.2.1)
                      have HFred25v8 := Lib.hid (hHeld.2.2.2.2.2.2.2.2.1)
                      have HFrod25v8 := Lib.hid (hHeld.2.2.2.2.2.2.2.2.2)
                      clear hHeld HRK HKS HS211 HBn4211 HBn5211 HBn6211 HBn7211 HBn13211 HFa_211 HFb_211 HFre_211 HFro_211
                      have HFed25v8 := Lib.hid HOW_w214r.out
                      clear HOW_w214r
                      go_wp2_with fail
                      refine Met.intro ?_
                      exact hJ5 _ _ ⟨(ps.eraseIdx k), A_16, c_16, ⟨rfl, rfl, rfl, rfl, rfl, rfl, rfl, rfl, rfl, rfl, rfl, rfl, rfl, rfl, rfl, rfl, trivial⟩, Lib.hid ⟨(HI.out.loses k), (fun g hg h => HDEro_16.out g h hg), HSd25v8.out, HBn4d25v8.out, HBn5d25v8.out, HBn6d25v8.out, HBn7d25v8.out, HBn13d25v8.out, HFad25v8.out, HFbd25v8.out, HFed25v8.out, HFrod25v8.out⟩⟩
                  case rest5 =>
                   intro fr wc hR
                   clear HS211 HBn4211 HBn5211 HBn6211 HBn7211 HBn13211 HFa_211 HFb_211 HFre_211 HFro_211
                   obtain ⟨ps2, A3, c3, hF, HO⟩ := hR
                   obtain ⟨e0, e1, g0, g1, g2, g3, g4, g5, g6, g7, g8, g9⟩ := HO.out
                   clear HO
                   have HI2 := Lib.hid e0
                   have HDR3 := Lib.hid e1
                   have HS261 := Lib.hid g0
                   have HBn4261 := Lib.hid g1
                   have HBn5261 := Lib.hid g2
                   have HBn6261 := Lib.hid g3
                   have HBn7261 := Lib.hid g4
                   have HBn13261 := Lib.hid g5
                   have HFa261 := Lib.hid g6
                   have HFb261 := Lib.hid g7
                   have HFre261 := Lib.hid g8
                   have HFro261 := Lib.hid g9
                   clear e0 e1 g0 g1 g2 g3 g4 g5 g6 g7 g8 g9
                   obtain ⟨u, hu⟩ := hF.open_
                   have hu2 := hu.trans (show _ = #[.slice (some ⟨bm, om, none⟩) len cap, u 1, .bool false, .pointer (some ⟨bn3, 0, none⟩), .pointer (some ⟨bn4, 0, none⟩), .pointer (some ⟨bn5, 0, none⟩), .pointer (some ⟨bn6, 0, none⟩), .pointer (some ⟨bn7, 0, none⟩), .int .i64 (i : Int), .int .i64 (e : Int), u 10, u 11, .int .i64 (k : Int), .pointer (some ⟨bn13, 0, none⟩), u 14, u 15, u 16, u 17, u 18, u 19, u 20, u 21, u 22, u 23, u 24, u 25, u 26, u 27, u 28, u 29, u 30, u 31, u 32, u 33, u 34, u 35, u 36, u 37, u 38, u 39, u 40, u 41, u 42, u 43, .int .i64 ((vs i).k), .bool false, u 46, u 47, u 48, u 49, u 50, u 51, u 52, u 53, u 54, u 55, u 56, u 57, u 58, u 59, .bool false, u 61, u 62, u 63, u 64, u 65, u 66, u 67, u 68, u 69, u 70, u 71, u 72, u 73, u 74, u 75, u 76, u 77, u 78, u 79, u 80, .bool true, u 82, u 83, u 84, u 85, u 86, u 87, u 88, u 89, u 90, u 91, u 92, u 93, u 94, u 95, u 96, u 97, u 98, u 99, u 100, u 101, u 102, u 103, u 104, u 105, u 106, u 107, u 108, u 109, u 110, u 111, u 112, u 113, u 114, u 115, u 116, u 117, u 118, u 119, u 120, u 121, u 122, u 123, u 124, u 125, u 126, u 127, u 128, u 129, u 130, u 131, u 132, u 133, u 134, u 135, u 136, u 137, u 138, u 139, u 140, u 141, u 142, u 143, u 144, u 145, u 146, u 147, u 148, u 149, u 150, u 151, u 152, u 153, u 154, u 155, u 156, u 157, u 158, u 159, u 160, u 161, u 162, u 163, u 164, u 165, u 166, u 167, u 168, u 169, u 170, u 171, u 172, u 173, u 174, u 175, u 176, u 177, u 178, u 179, u 180, u 181, u 182, u 183, u 184, u 185, u 186, u 187, u 188, u 189, u 190] by kernel_rfl)
                   clear hu hF
                   subst hu2
                   have HD3a := Lib.hid (lo_row HFre261.out HFa261.out)
                   have HD3b := Lib.hid (lo_row HFre261.out HFb261.out)
                   have HI3n4 := Lib.hid (own_ne_ty HFre261.out HBn4261.out (by decide))
                   have HI3n5 := Lib.hid (own_ne_ty HFre261.out HBn5261.out (by decide))
                   have HI3n6 := Lib.hid (own_ne_ty HFre261.out HBn6261.out (by decide))
                   have HI3n7 := Lib.hid (own_ne_ty HFre261.out HBn7261.out (by decide))
                   by_cases hcs : (vs i).k = 4
                   rotate_left
                   · have HK4 := Lib.hid hcs; clear hcs
                     go_upto_region 26 with fail
                     refine wp_region_lit ?_
                     refine tkL (.slice (some ⟨bm, om, none⟩) len cap) (h := ?_)
                     (try simp only [Act.put, sA, sB, sC])
                     refine tkL (.int .i64 (i : Int)) (h := ?_)
                     (try simp only [Act.put, sA, sB, sC])
                     refine wpList_q (by rfl) (.pointer (some ⟨bm, (om + i * 3), none⟩)) ?he ?_
                     case he => exact exec_ix (i := i) (s := 3) 22 33 _ _ rfl rfl rfl rfl HLT.out Try.underlying22 (by kernel_rfl)
                     (try simp only [Act.put, sA, sB, sC])
                     refine tkL (.pointer (some ⟨bm, (om + i * 3), none⟩)) (h := ?_)
                     (try simp only [Act.put, sA, sB, sC])
                     refine wpList_q (by rfl) (.int .i64 ((vs i).k)) ?he ?_
                     case he => exact exec_at 3 _ _ (keep_cell HS261.out (HCM.out 0 _ rfl)) rfl rfl Try.underlying3 rfl
                     (try simp only [Act.put, sA, sB, sC])
                     refine wpList_q (by rfl) (.bool false) ?he ?_
                     case he => (have q := HK4.out; go_simp; (first | done | exact q | (simp [q]; done) | omega))
                     (try simp only [Act.put, sA, sB, sC])
                     refine wpList_nil ?_
                     go_upto_region 27 with fail
                     refine wp_ucut (ds := []) (fun fr wx => ∃ (m : MsgV) (r : Bool) (b' g' : Nat) (st' du' : Int) (an' : Bool) (he' : Int) (S3 : List Nat) (bn14 : Nat), Fits fr 191 [(0, .slice (some ⟨bm, om, none⟩) len cap), (2, .bool false), (3, .pointer (some ⟨bn3, 0, none⟩)), (4, .pointer (some ⟨bn4, 0, none⟩)), (5, .pointer (some ⟨bn5, 0, none⟩)), (6, .pointer (some ⟨bn6, 0, none⟩)), (7, .pointer (some ⟨bn7, 0, none⟩)), (8, .int .i64 (i : Int)), (9, .int .i64 (e : Int)), (12, .int .i64 (k : Int)), (13, .pointer (some ⟨bn13, 0, none⟩)), (14, .pointer (some ⟨bn14, 0, none⟩)), (15, .bool r), (44, .int .i64 ((vs i).k)), (45, .bool false), (60, .bool false), (81, .bool true)] ∧ Hid ((0 ≤ st' ∧ st' ≤ st) ∧ (b ≤ b' ∧ b' ≤ h) ∧ ((r = false ∧ g' = g) ∨ (r = true ∧ g' = g + 1 ∧ m.a = (g : Int) ∧ (g : Int) ≤ (c : Int) ∧ (g : Int) < (t : Int))) ∧ (∀ x ∈ S3, x ∉ Sb) ∧ w.heap.size ≤ bn14 ∧ bn14 ≠ bn4 ∧ bn14 ≠ bn5 ∧ bn14 ≠ bn6 ∧ bn14 ≠ bn7 ∧ Since w wx ∧ Blk wx bn4 28 (pr e (.pointer (some ⟨qa, 0, none⟩)) (.pointer (some ⟨qb, 0, none⟩))) ∧ Blk wx bn5 30 (pr e (.slice A3 ps2.length c3) (.slice A2 qs.length c2)) ∧ Blk wx bn6 31 (pr e (.int .i64 (s : Int)) (.int .i64 (t : Int))) ∧ Blk wx bn7 31 (pr e (.int .i64 (g : Int)) (.int .i64 (h : Int))) ∧ Blk wx bn14 36 #[.int .i64 m.ki, .int .i64 m.a, .int .i64 m.b, .int .i64 m.c] ∧ LO w.heap.size qa (kO b' st' du' g' an' he') (mo b' s) S3 wx ∧ LO w.heap.size qb (kO c st2 du2 h an2 he2) (mo c t) Sb wx ∧ (wx).ownsRow w.heap.size 38 9 (.slice A3 ps2.length c3) ps2.length (rowsOf pkL ps2) ∧ (wx).ownsRow w.heap.size 38 9 (.slice A2 qs.length c2) qs.length (rowsOf pkL qs))) ?rest6 ?first6
                     case first6 =>
                      intro J6 K6 hJ6 hK6
                      have HKS : Hid (KeepS (fun W : World => Since w W ∧ Blk W bn4 28 (pr e (.pointer (some ⟨qa, 0, none⟩)) (.pointer (some ⟨qb, 0, none⟩))) ∧ Blk W bn5 30 (pr e (.slice A3 ps2.length c3) (.slice A2 qs.length c2)) ∧ Blk W bn6 31 (pr e (.int .i64 (s : Int)) (.int .i64 (t : Int))) ∧ Blk W bn7 31 (pr e (.int .i64 (g : Int)) (.int .i64 (h : Int))) ∧ Blk W bn13 38 #[.int .i64 p.se, .int .i64 p.ep, .int .i64 p.sq, .int .i64 p.ak, .bool p.ha, .int .i64 p.m.ki, .int .i64 p.m.a, .int .i64 p.m.b, .int .i64 p.m.c] ∧ LO w.heap.size qb (kO c st2 du2 h an2 he2) (mo c t) Sb W ∧ (W).ownsRow w.heap.size 38 9 (.slice A3 ps2.length c3) ps2.length (rowsOf pkL ps2) ∧ (W).ownsRow w.heap.size 38 9 (.slice A2 qs.length c2) qs.length (rowsOf pkL qs)) wc) := Lib.hid ⟨fun W W' k ⟨h, h0, h1, h2, h3, h4, h5, h6, h7⟩ => ⟨h.trans k, keep_blk k h0, keep_blk k h1, keep_blk k h2, keep_blk k h3, keep_blk k h4, LO.keep k h5, keep_own k h6, keep_own k h7⟩, ⟨HS261.out, HBn4261.out, HBn5261.out, HBn6261.out, HBn7261.out, HBn13261.out, HFb261.out, HFre261.out, HFro261.out⟩⟩
                      have HRK := Lib.hid HKS.out.1
                      have HEa := Lib.hid (show LO w.heap.size qa (kO b st du g an he) (mo b s) Sa (World.drew wc) from HFa261.out)
                      clear HFa261
                      refine wp_held HKS.out (by kernel_rfl) (fun hHeld => ?_)
                      refine tkQ 0 (.int .i64 (e : Int)) hHeld (h := ?_)
                      (try simp only [Act.put, sA, sB, sC])
                      refine tkQ 1 (.pointer (some ⟨bn4, e, none⟩)) hHeld (he := by intro w hSw; exact exec_arr (i := e) (n := 2) 28 26 _ _ rfl rfl rfl rfl (by have := HEO.out; omega) Try.underlying28 (by kernel_rfl)) (h := ?_)
                      (try simp only [Act.put, sA, sB, sC])
                      refine tkQ 2 (.pointer (some ⟨qa, 0, none⟩)) hHeld (he := by intro w hSw; exact exec_cell 26 _ _ hSw.2.1 (pr_at HEO.out) rfl rfl Try.underlying26 rfl) (h := ?_)
                      (try simp only [Act.put, sA, sB, sC])
                      refine tkQ 3 (.agg #[.int .i64 p.se, .int .i64 p.ep, .int .i64 p.sq, .int .i64 p.ak, .bool p.ha, .int .i64 p.m.ki, .int .i64 p.m.a, .int .i64 p.m.b, .int .i64 p.m.c]) hHeld (he := by intro w hSw; exact exec_load_row 38 _ _ hSw.2.2.2.2.2.1 rfl rfl Try.underlying38 rfl (by kernel_rfl)) (h := ?_)
                      (try simp only [Act.put, sA, sB, sC])
                      refine tkQ 4 (.int .i64 (i : Int)) hHeld (h := ?_)
                      (try simp only [Act.put, sA, sB, sC])
                      refine wpAnyH_ready (rs := [5, 9]) (by kernel_rfl) (by simp) ?_
                      refine AllReadyH.cons (o := ?o27__5b) ?h27__5b (fun K hK => ?g27__5b) (AllReadyH.cons (o := ?o27__9b) ?h27__9b (fun K hK => ?g27__9b) AllReadyH.nil)
                      case h27__5b => (first | (simp only [gA, gB, gC]; done) | (simp only [gA, gB, gC]; exact rfl))
                      case h27__9b => (first | (simp only [gA, gB, gC]; done) | (simp only [gA, gB, gC]; exact rfl))
                      case g27__5b =>
                       (try go_simp)
                       refine (recvO HEa.out p i c h t (by have := HBO.out; omega) (by have := HBO.out; omega) HPV.out (by have := HBO.out; omega) (by have := HBO.out; omega) (by have := HBO.out; omega) (by have := HBO.out; omega) HST.out.1.1).mono ?_
                       rintro e w262 ⟨m, r, b', g', st', du', an', he', Sa_17, rfl, hobj, hupd, hfar, hst, hbb, hrr⟩
                       (try go_wp2_with fail)
                       have hHeld3 := HKS.out.at_ w262 ⟨Since.upd hHeld.1 hupd (LO.low HEa.out), Upd.blk hupd (hHeld.2.1) HIn4a.out, Upd.blk hupd (hHeld.2.2.1) HIn5a.out, Upd.blk hupd (hHeld.2.2.2.1) HIn6a.out, Upd.blk hupd (hHeld.2.2.2.2.1) HIn7a.out, Upd.blk hupd (hHeld.2.2.2.2.2.1) HIn13_a.out, LO.upd hupd (hHeld.2.2.2.2.2.2.1) (fun g hg h => HDS.out g h hg), Upd.own hupd (hHeld.2.2.2.2.2.2.2.1) HD3a.out, Upd.own hupd (hHeld.2.2.2.2.2.2.2.2) HDroa.out⟩
                       have HIn4_a_w262 := Lib.hid (nin_next hfar HIn4a.out (Blk.lt (hHeld.2.1)))
                       have HIn5_a_w262 := Lib.hid (nin_next hfar HIn5a.out (Blk.lt (hHeld.2.2.1)))
                       have HIn6_a_w262 := Lib.hid (nin_next hfar HIn6a.out (Blk.lt (hHeld.2.2.2.1)))
                       have HIn7_a_w262 := Lib.hid (nin_next hfar HIn7a.out (Blk.lt (hHeld.2.2.2.2.1)))
                       have HIn13_a_w262 := Lib.hid (nin_next hfar HIn13_a.out (Blk.lt (hHeld.2.2.2.2.2.1)))
                       have HDDb_a_w262 := Lib.hid (dis_next hfar (fun g hg h => HDS.out g h hg) (LO.lt (hHeld.2.2.2.2.2.2.1)))
                       have HDDre_a_w262 := Lib.hid (dis_next hfar HD3a.out (own_lt (hHeld.2.2.2.2.2.2.2.1)))
                       have HDDro_a_w262 := Lib.hid (dis_next hfar HDroa.out (own_lt (hHeld.2.2.2.2.2.2.2.2)))
                       have HUa_w262 := Lib.hid hobj
                       clear HEa
                       have HS2 := Lib.hid hst; have HBB := Lib.hid hbb; have HRR := Lib.hid hrr; clear hst hbb hrr
                       refine hK.out _ _ hHeld3 (fun hHeld2 => ?_)
                       clear hK K hHeld hHeld3 hupd hobj hfar
                       have hHeld := hHeld2
                       clear hHeld2
                       (try simp only [Act.put, sA, sB, sC])
                       refine tkQ 6 (.tuple #[.agg #[.int .i64 m.ki, .int .i64 m.a, .int .i64 m.b, .int .i64 m.c], .bool r]) hHeld (h := ?_)
                       (try simp only [Act.put, sA, sB, sC])
                       refine tkQ 7 (.agg #[.int .i64 m.ki, .int .i64 m.a, .int .i64 m.b, .int .i64 m.c]) hHeld (h := ?_)
                       (try simp only [Act.put, sA, sB, sC])
                       refine tkQ 8 (.bool r) hHeld (h := ?_)
                       (try simp only [Act.put, sA, sB, sC])
                       refine wpAnyH_ready (rs := [9]) (by kernel_rfl) (by simp) ?_
                       refine AllReadyH.cons (o := ?o27_b5_9) ?h27_b5_9 (fun K hK => ?_) AllReadyH.nil
                       case h27_b5_9 => (first | (simp only [gA, gB, gC]; done) | (simp only [gA, gB, gC]; exact rfl))
                       rw [if_pos (by rfl)]
                       refine wp_new (fun b => .pointer (some ⟨b, 0, none⟩)) 36 #[.int .i64 0, .int .i64 0, .int .i64 0, .int .i64 0] (by rintro b rfl; first | rfl | kernel_rfl) ?_
                       intro bn14 w263 hge hB hb
                       refine hK.out _ _ (by (apply HRK.out; exact hb; exact hHeld)) (fun hHeld2 => ?_)
                       have HIn14_b := Lib.hid (LO.far (hHeld.2.2.2.2.2.2.1) hge)
                       have HIn14_re := Lib.hid (own_far (hHeld.2.2.2.2.2.2.2.1) hge)
                       have HIn14_ro := Lib.hid (own_far (hHeld.2.2.2.2.2.2.2.2) hge)
                       have HIn14_a := Lib.hid (LO.far HUa_w262.out hge)
                       have HUa_w262k := Lib.hid (LO.keep hb HUa_w262.out)
                       clear HUa_w262
                       have HNn14n4 := Lib.hid (show bn14 ≠ bn4 by have := Blk.lt (hHeld.2.1); (try simp at this); (try simp at hge); omega)
                       have HNn14n5 := Lib.hid (show bn14 ≠ bn5 by have := Blk.lt (hHeld.2.2.1); (try simp at this); (try simp at hge); omega)
                       have HNn14n6 := Lib.hid (show bn14 ≠ bn6 by have := Blk.lt (hHeld.2.2.2.1); (try simp at this); (try simp at hge); omega)
                       have HNn14n7 := Lib.hid (show bn14 ≠ bn7 by have := Blk.lt (hHeld.2.2.2.2.1); (try simp at this); (try simp at hge); omega)
                       have HNn14n13 := Lib.hid (show bn14 ≠ bn13 by have := Blk.lt (hHeld.2.2.2.2.2.1); (try simp at this); (try simp at hge); omega)
                       have HGn14 := Lib.hid (show w.heap.size ≤ bn14 by have := Since.size hHeld.1; (try simp at this); (try simp at hge); omega)
                       have HXn14 := Lib.hid hB
                       clear hB
                       clear hge
                       clear hK K hHeld hb
                       have hHeld := hHeld2
                       clear hHeld2
                       (try simp only [Act.put, sA, sB, sC])
                       refine wpAnyH_ready (rs := [10]) (by kernel_rfl) (by simp) ?_
                       refine AllReadyH.cons (o := ?o27_b5_10) ?h27_b5_10 (fun K hK => ?_) AllReadyH.nil
                       case h27_b5_10 => (first | (simp only [gA, gB, gC]; done) | (simp only [gA, gB, gC]; exact rfl))
                       rw [if_pos (by rfl)]
                       refine wp_st_row 36 _ _ rfl #[.int .i64 m.ki, .int .i64 m.a, .int .i64 m.b, .int .i64 m.c] rfl rfl (HasRow.of HXn14.out rfl) rfl (by simp [Value.oneCell']) (by kernel_rfl) ?_
                       intro w264 hw
                       have HXn142 := Lib.hid (show Blk w264 bn14 36 #[.int .i64 m.ki, .int .i64 m.a, .int .i64 m.b, .int .i64 m.c] by rw [hw]; exact Blk.row HXn14.out _)
                       have HUa_w262kr := Lib.hid (show LO w.heap.size qa (kO b' st' du' g' an' he') (mo b' s) Sa_17 w264 by rw [hw]; exact LO.row_far HUa_w262k.out HIn14_a.out _)
                       clear HUa_w262k
                       have hHeld3 := HKS.out.at_ w264 ⟨by rw [hw]; exact Since.setRow hHeld.1 HGn14.out _, by rw [hw]; exact Blk.row_far (hHeld.2.1) (Ne.symm HNn14n4.out) _, by rw [hw]; exact Blk.row_far (hHeld.2.2.1) (Ne.symm HNn14n5.out) _, by rw [hw]; exact Blk.row_far (hHeld.2.2.2.1) (Ne.symm HNn14n6.out) _, by rw [hw]; exact Blk.row_far (hHeld.2.2.2.2.1) (Ne.symm HNn14n7.out) _, by rw [hw]; exact Blk.row_far (hHeld.2.2.2.2.2.1) (Ne.symm HNn14n13.out) _, by rw [hw]; exact LO.row_far (hHeld.2.2.2.2.2.2.1) HIn14_b.out _, by rw [hw]; exact own_row_far (hHeld.2.2.2.2.2.2.2.1) HIn14_re.out _, by rw [hw]; exact own_row_far (hHeld.2.2.2.2.2.2.2.2) HIn14_ro.out _⟩
                       refine hK.out _ _ hHeld3 (fun hHeld2 => ?_)
                       clear HXn14 hK K hHeld hHeld3 hw
                       have hHeld := hHeld2
                       clear hHeld2
                       (try simp only [Act.put, sA, sB, sC])
                       refine tkQ 11 (.bool r) hHeld (h := ?_)
                       (try simp only [Act.put, sA, sB, sC])
                       refine wpAnyH_done (by kernel_rfl) ?_ _
                       have HSd27 := Lib.hid hHeld.1
                       have HBn4d27 := Lib.hid (hHeld.2.1)
                       have HBn5d27 := Lib.hid (hHeld.2.2.1)
                       have HBn6d27 := Lib.hid (hHeld.2.2.2.1)
                       have HBn7d27 := Lib.hid (hHeld.2.2.2.2.1)
                       have HBn13d27 := Lib.hid (hHeld.2.2.2.2.2.1)
                       have HFbd27 := Lib.hid (hHeld.2.2.2.2.2.2.1)
                       have HFred27 := Lib.hid (hHeld.2.2.2.2.2.2.2.1)
                       have HFrod27 := Lib.hid (hHeld.2.2.2.2.2.2.2.2)
                       clear hHeld HRK HKS HS261 HBn4261 HBn5261 HBn6261 HBn7261 HBn13261 HFb261 HFre261 HFro261
                       have HFad27 := Lib.hid HUa_w262kr.out
                       clear HUa_w262kr
                       go_wp2_with fail
                       refine Met.intro ?_
                       exact hJ6 _ _ ⟨m, r, b', g', st', du', an', he', Sa_17, bn14, ⟨rfl, rfl, rfl, rfl, rfl, rfl, rfl, rfl, rfl, rfl, rfl, rfl, rfl, rfl, rfl, rfl, rfl, rfl, trivial⟩, Lib.hid ⟨HS2.out, HBB.out, HRR.out, (fun g hg h => HDDb_a_w262.out g h hg), HGn14.out, HNn14n4.out, HNn14n5.out, HNn14n6.out, HNn14n7.out, HSd27.out, HBn4d27.out, HBn5d27.out, HBn6d27.out, HBn7d27.out, HXn142.out, HFad27.out, HFbd27.out, HFred27.out, HFrod27.out⟩⟩
                      case g27__9b =>
                       rw [if_pos (by rfl)]
                       refine wp_new (fun b => .pointer (some ⟨b, 0, none⟩)) 36 #[.int .i64 0, .int .i64 0, .int .i64 0, .int .i64 0] (by rintro b rfl; first | rfl | kernel_rfl) ?_
                       intro bn14 w262 hge hB hb
                       refine hK.out _ _ (by (apply HRK.out; exact hb; exact hHeld)) (fun hHeld2 => ?_)
                       have HIn14_b := Lib.hid (LO.far (hHeld.2.2.2.2.2.2.1) hge)
                       have HIn14_re := Lib.hid (own_far (hHeld.2.2.2.2.2.2.2.1) hge)
                       have HIn14_ro := Lib.hid (own_far (hHeld.2.2.2.2.2.2.2.2) hge)
                       have HIn14_a := Lib.hid (LO.far HEa.out hge)
                       have HEak := Lib.hid (LO.keep hb HEa.out)
                       clear HEa
                       have HNn14n4 := Lib.hid (show bn14 ≠ bn4 by have := Blk.lt (hHeld.2.1); (try simp at this); (try simp at hge); omega)
                       have HNn14n5 := Lib.hid (show bn14 ≠ bn5 by have := Blk.lt (hHeld.2.2.1); (try simp at this); (try simp at hge); omega)
                       have HNn14n6 := Lib.hid (show bn14 ≠ bn6 by have := Blk.lt (hHeld.2.2.2.1); (try simp at this); (try simp at hge); omega)
                       have HNn14n7 := Lib.hid (show bn14 ≠ bn7 by have := Blk.lt (hHeld.2.2.2.2.1); (try simp at this); (try simp at hge); omega)
                       have HNn14n13 := Lib.hid (show bn14 ≠ bn13 by have := Blk.lt (hHeld.2.2.2.2.2.1); (try simp at this); (try simp at hge); omega)
                       have HGn14 := Lib.hid (show w.heap.size ≤ bn14 by have := Since.size hHeld.1; (try simp at this); (try simp at hge); omega)
                       have HXn14 := Lib.hid hB
                       clear hB
                       clear hge
                       clear hK K hHeld hb
                       have hHeld := hHeld2
                       clear hHeld2
                       (try simp only [Act.put, sA, sB, sC])
                       refine wpAnyH_ready (rs := [5]) (by kernel_rfl) (by simp) ?_
                       refine AllReadyH.cons (o := ?o27_b9_5) ?h27_b9_5 (fun K hK => ?_) AllReadyH.nil
                       case h27_b9_5 => (first | (simp only [gA, gB, gC]; done) | (simp only [gA, gB, gC]; exact rfl))
                       (try go_simp)
                       refine (recvO HEak.out p i c h t (by have := HBO.out; omega) (by have := HBO.out; omega) HPV.out (by have := HBO.out; omega) (by have := HBO.out; omega) (by have := HBO.out; omega) (by have := HBO.out; omega) HST.out.1.1).mono ?_
                       rintro e w263 ⟨m, r, b', g', st', du', an', he', Sa_18, rfl, hobj, hupd, hfar, hst, hbb, hrr⟩
                       (try go_wp2_with fail)
                       have hHeld3 := HKS.out.at_ w263 ⟨Since.upd hHeld.1 hupd (LO.low HEak.out), Upd.blk hupd (hHeld.2.1) HIn4a.out, Upd.blk hupd (hHeld.2.2.1) HIn5a.out, Upd.blk hupd (hHeld.2.2.2.1) HIn6a.out, Upd.blk hupd (hHeld.2.2.2.2.1) HIn7a.out, Upd.blk hupd (hHeld.2.2.2.2.2.1) HIn13_a.out, LO.upd hupd (hHeld.2.2.2.2.2.2.1) (fun g hg h => HDS.out g h hg), Upd.own hupd (hHeld.2.2.2.2.2.2.2.1) HD3a.out, Upd.own hupd (hHeld.2.2.2.2.2.2.2.2) HDroa.out⟩
                       have HIn4_a_w263 := Lib.hid (nin_next hfar HIn4a.out (Blk.lt (hHeld.2.1)))
                       have HIn5_a_w263 := Lib.hid (nin_next hfar HIn5a.out (Blk.lt (hHeld.2.2.1)))
                       have HIn6_a_w263 := Lib.hid (nin_next hfar HIn6a.out (Blk.lt (hHeld.2.2.2.1)))
                       have HIn7_a_w263 := Lib.hid (nin_next hfar HIn7a.out (Blk.lt (hHeld.2.2.2.2.1)))
                       have HIn13_a_w263 := Lib.hid (nin_next hfar HIn13_a.out (Blk.lt (hHeld.2.2.2.2.2.1)))
                       have HDDb_a_w263 := Lib.hid (dis_next hfar (fun g hg h => HDS.out g h hg) (LO.lt (hHeld.2.2.2.2.2.2.1)))
                       have HDDre_a_w263 := Lib.hid (dis_next hfar HD3a.out (own_lt (hHeld.2.2.2.2.2.2.2.1)))
                       have HDDro_a_w263 := Lib.hid (dis_next hfar HDroa.out (own_lt (hHeld.2.2.2.2.2.2.2.2)))
                       have HXn14u := Lib.hid (Upd.blk hupd HXn14.out HIn14_a.out)
                       have HIn14_a_w263 := Lib.hid (nin_next hfar HIn14_a.out (Blk.lt HXn14.out))
                       clear HXn14
                       have HUa_w263 := Lib.hid hobj
                       clear HEak
                       have HS2 := Lib.hid hst; have HBB := Lib.hid hbb; have HRR := Lib.hid hrr; clear hst hbb hrr
                       refine hK.out _ _ hHeld3 (fun hHeld2 => ?_)
                       clear hK K hHeld hHeld3 hupd hobj hfar
                       have hHeld := hHeld2
                       clear hHeld2
                       (try simp only [Act.put, sA, sB, sC])
                       refine tkQ 6 (.tuple #[.agg #[.int .i64 m.ki, .int .i64 m.a, .int .i64 m.b, .int .i64 m.c], .bool r]) hHeld (h := ?_)
                       (try simp only [Act.put, sA, sB, sC])
                       refine tkQ 7 (.agg #[.int .i64 m.ki, .int .i64 m.a, .int .i64 m.b, .int .i64 m.c]) hHeld (h := ?_)
                       (try simp only [Act.put, sA, sB, sC])
                       refine tkQ 8 (.bool r) hHeld (h := ?_)
                       (try simp only [Act.put, sA, sB, sC])
                       refine wpAnyH_ready (rs := [10]) (by kernel_rfl) (by simp) ?_
                       refine AllReadyH.cons (o := ?o27_b9_10) ?h27_b9_10 (fun K hK => ?_) AllReadyH.nil
                       case h27_b9_10 => (first | (simp only [gA, gB, gC]; done) | (simp only [gA, gB, gC]; exact rfl))
                       rw [if_pos (by rfl)]
                       refine wp_st_row 36 _ _ rfl #[.int .i64 m.ki, .int .i64 m.a, .int .i64 m.b, .int .i64 m.c] rfl rfl (HasRow.of HXn14u.out rfl) rfl (by simp [Value.oneCell']) (by kernel_rfl) ?_
                       intro w264 hw
                       have HXn14u2 := Lib.hid (show Blk w264 bn14 36 #[.int .i64 m.ki, .int .i64 m.a, .int .i64 m.b, .int .i64 m.c] by rw [hw]; exact Blk.row HXn14u.out _)
                       have HUa_w263r := Lib.hid (show LO w.heap.size qa (kO b' st' du' g' an' he') (mo b' s) Sa_18 w264 by rw [hw]; exact LO.row_far HUa_w263.out HIn14_a_w263.out _)
                       clear HUa_w263
                       have hHeld3 := HKS.out.at_ w264 ⟨by rw [hw]; exact Since.setRow hHeld.1 HGn14.out _, by rw [hw]; exact Blk.row_far (hHeld.2.1) (Ne.symm HNn14n4.out) _, by rw [hw]; exact Blk.row_far (hHeld.2.2.1) (Ne.symm HNn14n5.out) _, by rw [hw]; exact Blk.row_far (hHeld.2.2.2.1) (Ne.symm HNn14n6.out) _, by rw [hw]; exact Blk.row_far (hHeld.2.2.2.2.1) (Ne.symm HNn14n7.out) _, by rw [hw]; exact Blk.row_far (hHeld.2.2.2.2.2.1) (Ne.symm HNn14n13.out) _, by rw [hw]; exact LO.row_far (hHeld.2.2.2.2.2.2.1) HIn14_b.out _, by rw [hw]; exact own_row_far (hHeld.2.2.2.2.2.2.2.1) HIn14_re.out _, by rw [hw]; exact own_row_far (hHeld.2.2.2.2.2.2.2.2) HIn14_ro.out _⟩
                       refine hK.out _ _ hHeld3 (fun hHeld2 => ?_)
                       clear HXn14u hK K hHeld hHeld3 hw
                       have hHeld := hHeld2
                       clear hHeld2
                       (try simp only [Act.put, sA, sB, sC])
                       refine tkQ 11 (.bool r) hHeld (h := ?_)
                       (try simp only [Act.put, sA, sB, sC])
                       refine wpAnyH_done (by kernel_rfl) ?_ _
                       have HSd27v2 := Lib.hid hHeld.1
                       have HBn4d27v2 := Lib.hid (hHeld.2.1)
                       have HBn5d27v2 := Lib.hid (hHeld.2.2.1)
                       have HBn6d27v2 := Lib.hid (hHeld.2.2.2.1)
                       have HBn7d27v2 := Lib.hid (hHeld.2.2.2.2.1)
                       have HBn13d27v2 := Lib.hid (hHeld.2.2.2.2.2.1)
                       have HFbd27v2 := Lib.hid (hHeld.2.2.2.2.2.2.1)
                       have HFred27v2 := Lib.hid (hHeld.2.2.2.2.2.2.2.1)
                       have HFrod27v2 := Lib.hid (hHeld.2.2.2.2.2.2.2.2)
                       clear hHeld HRK HKS HS261 HBn4261 HBn5261 HBn6261 HBn7261 HBn13261 HFb261 HFre261 HFro261
                       have HFad27v2 := Lib.hid HUa_w263r.out
                       clear HUa_w263r
                       go_wp2_with fail
                       refine Met.intro ?_
                       exact hJ6 _ _ ⟨m, r, b', g', st', du', an', he', Sa_18, bn14, ⟨rfl, rfl, rfl, rfl, rfl, rfl, rfl, rfl, rfl, rfl, rfl, rfl, rfl, rfl, rfl, rfl, rfl, rfl, trivial⟩, Lib.hid ⟨HS2.out, HBB.out, HRR.out, (fun g hg h => HDDb_a_w263.out g h hg), HGn14.out, HNn14n4.out, HNn14n5.out, HNn14n6.out, HNn14n7.out, HSd27v2.out, HBn4d27v2.out, HBn5d27v2.out, HBn6d27v2.out, HBn7d27v2.out, HXn14u2.out, HFad27v2.out, HFbd27v2.out, HFred27v2.out, HFrod27v2.out⟩⟩
                     case rest6 =>
                      intro fr wc hR
                      clear HS261 HBn4261 HBn5261 HBn6261 HBn7261 HBn13261 HFa261 HFb261 HFre261 HFro261
                      obtain ⟨m, r, b', g', st', du', an', he', S3, bn14, hF, HO⟩ := hR
                      obtain ⟨e0, e1, e2, e3, e4, e5, e6, e7, e8, g0, g1, g2, g3, g4, g5, g6, g7, g8, g9⟩ := HO.out
                      clear HO
                      have HS2 := Lib.hid e0
                      have HBB := Lib.hid e1
                      have HRR := Lib.hid e2
                      have HDS3 := Lib.hid e3
                      have HGn14 := Lib.hid e4
                      have HN14n4 := Lib.hid e5
                      have HN14n5 := Lib.hid e6
                      have HN14n6 := Lib.hid e7
                      have HN14n7 := Lib.hid e8
                      have HS311 := Lib.hid g0
                      have HBn4311 := Lib.hid g1
                      have HBn5311 := Lib.hid g2
                      have HBn6311 := Lib.hid g3
                      have HBn7311 := Lib.hid g4
                      have HBn14311 := Lib.hid g5
                      have HFa311 := Lib.hid g6
                      have HFb311 := Lib.hid g7
                      have HFre311 := Lib.hid g8
                      have HFro311 := Lib.hid g9
                      clear e0 e1 e2 e3 e4 e5 e6 e7 e8 g0 g1 g2 g3 g4 g5 g6 g7 g8 g9
                      obtain ⟨u, hu⟩ := hF.open_
                      have hu2 := hu.trans (show _ = #[.slice (some ⟨bm, om, none⟩) len cap, u 1, .bool false, .pointer (some ⟨bn3, 0, none⟩), .pointer (some ⟨bn4, 0, none⟩), .pointer (some ⟨bn5, 0, none⟩), .pointer (some ⟨bn6, 0, none⟩), .pointer (some ⟨bn7, 0, none⟩), .int .i64 (i : Int), .int .i64 (e : Int), u 10, u 11, .int .i64 (k : Int), .pointer (some ⟨bn13, 0, none⟩), .pointer (some ⟨bn14, 0, none⟩), .bool r, u 16, u 17, u 18, u 19, u 20, u 21, u 22, u 23, u 24, u 25, u 26, u 27, u 28, u 29, u 30, u 31, u 32, u 33, u 34, u 35, u 36, u 37, u 38, u 39, u 40, u 41, u 42, u 43, .int .i64 ((vs i).k), .bool false, u 46, u 47, u 48, u 49, u 50, u 51, u 52, u 53, u 54, u 55, u 56, u 57, u 58, u 59, .bool false, u 61, u 62, u 63, u 64, u 65, u 66, u 67, u 68, u 69, u 70, u 71, u 72, u 73, u 74, u 75, u 76, u 77, u 78, u 79, u 80, .bool true, u 82, u 83, u 84, u 85, u 86, u 87, u 88, u 89, u 90, u 91, u 92, u 93, u 94, u 95, u 96, u 97, u 98, u 99, u 100, u 101, u 102, u 103, u 104, u 105, u 106, u 107, u 108, u 109, u 110, u 111, u 112, u 113, u 114, u 115, u 116, u 117, u 118, u 119, u 120, u 121, u 122, u 123, u 124, u 125, u 126, u 127, u 128, u 129, u 130, u 131, u 132, u 133, u 134, u 135, u 136, u 137, u 138, u 139, u 140, u 141, u 142, u 143, u 144, u 145, u 146, u 147, u 148, u 149, u 150, u 151, u 152, u 153, u 154, u 155, u 156, u 157, u 158, u 159, u 160, u 161, u 162, u 163, u 164, u 165, u 166, u 167, u 168, u 169, u 170, u 171, u 172, u 173, u 174, u 175, u 176, u 177, u 178, u 179, u 180, u 181, u 182, u 183, u 184, u 185, u 186, u 187, u 188, u 189, u 190] by kernel_rfl)
                      clear hu hF
                      subst hu2
                      have HD4re := Lib.hid (lo_row HFre311.out HFa311.out)
                      have HD4ro := Lib.hid (lo_row HFro311.out HFa311.out)
                      have HI4n4 := Lib.hid (lo_ty HBn4311.out HFa311.out (by decide) (by decide))
                      have HI4n5 := Lib.hid (lo_ty HBn5311.out HFa311.out (by decide) (by decide))
                      have HI4n6 := Lib.hid (lo_ty HBn6311.out HFa311.out (by decide) (by decide))
                      have HI4n7 := Lib.hid (lo_ty HBn7311.out HFa311.out (by decide) (by decide))
                      rcases HRR.out with ⟨rfl, rfl⟩ | ⟨rfl, rfl, hma, hgc, hgt⟩
                      · skip
                        go_upto_region 28 with fail
                        refine wp_region_lit ?_
                        refine tkL (.bool false) (h := ?_)
                        (try simp only [Act.put, sA, sB, sC])
                        refine wpList_nil ?_
                        go_wp2_with fail
                        refine Met.intro ?_
                        exact hJ3 _ _ ⟨b', s, g', c, t, h, st', du', st2, du2, he', he2, an', an2, qa, qb, S3, Sb, ps2, qs, A3, A2, c3, c2, ⟨rfl, rfl, rfl, rfl, rfl, rfl, rfl, rfl, rfl, rfl, rfl, trivial⟩, Lib.hid ⟨HI2.out.takes HBB.out, (by have q := HST.out; have q2 := HS2.out; (try push_cast); omega), HDS3.out, HDR3.out, HS311.out, (by have q := HBn4311.out; (try push_cast); exact q), (by have q := HBn5311.out; (try push_cast); exact q), (by have q := HBn6311.out; (try push_cast); exact q), (by have q := HBn7311.out; (try push_cast); exact q), HFa311.out, HFb311.out, HFre311.out, HFro311.out⟩⟩
                      · have HMA := Lib.hid hma; have HGC := Lib.hid hgc; have HGT := Lib.hid hgt; clear hma hgc hgt
                        go_upto_region 28 with fail
                        refine wp_region_lit ?_
                        refine tkL (.bool true) (h := ?_)
                        (try simp only [Act.put, sA, sB, sC])
                        refine wpList_nil ?_
                        go_upto_region 29 with fail
                        have HKS : Hid (KeepS (fun W : World => Since w W ∧ Blk W bn4 28 (pr e (.pointer (some ⟨qa, 0, none⟩)) (.pointer (some ⟨qb, 0, none⟩))) ∧ Blk W bn5 30 (pr e (.slice A3 ps2.length c3) (.slice A2 qs.length c2)) ∧ Blk W bn6 31 (pr e (.int .i64 (s : Int)) (.int .i64 (t : Int))) ∧ Blk W bn7 31 (pr e (.int .i64 (g : Int)) (.int .i64 (h : Int))) ∧ Blk W bn14 36 #[.int .i64 m.ki, .int .i64 m.a, .int .i64 m.b, .int .i64 m.c] ∧ LO w.heap.size qa (kO b' st' du' (g + 1) an' he') (mo b' s) S3 W ∧ LO w.heap.size qb (kO c st2 du2 h an2 he2) (mo c t) Sb W ∧ (W).ownsRow w.heap.size 38 9 (.slice A3 ps2.length c3) ps2.length (rowsOf pkL ps2) ∧ (W).ownsRow w.heap.size 38 9 (.slice A2 qs.length c2) qs.length (rowsOf pkL qs)) wc) := Lib.hid ⟨fun W W' k ⟨h, h0, h1, h2, h3, h4, h5, h6, h7, h8⟩ => ⟨h.trans k, keep_blk k h0, keep_blk k h1, keep_blk k h2, keep_blk k h3, keep_blk k h4, LO.keep k h5, LO.keep k h6, keep_own k h7, keep_own k h8⟩, ⟨HS311.out, HBn4311.out, HBn5311.out, HBn6311.out, HBn7311.out, HBn14311.out, HFa311.out, HFb311.out, HFre311.out, HFro311.out⟩⟩
                        have HRK := Lib.hid HKS.out.1
                        refine wp_held HKS.out (by kernel_rfl) (fun hHeld => ?_)
                        refine tkQ 0 (.pointer (some ⟨bn14, 1, none⟩)) hHeld (h := ?_)
                        (try simp only [Act.put, sA, sB, sC])
                        refine tkQ 1 (.int .i64 m.a) hHeld (he := by intro w hSw; exact exec_cell 3 _ _ hSw.2.2.2.2.2.1 rfl rfl rfl Try.underlying3 rfl) (h := ?_)
                        (try simp only [Act.put, sA, sB, sC])
                        refine tkQ 2 (.int .i64 (e : Int)) hHeld (h := ?_)
                        (try simp only [Act.put, sA, sB, sC])
                        refine tkQ 3 (.pointer (some ⟨bn7, e, none⟩)) hHeld (he := by intro w hSw; exact exec_arr (i := e) (n := 2) 31 3 _ _ rfl rfl rfl rfl (by have := HEO.out; omega) Try.underlying31 (by kernel_rfl)) (h := ?_)
                        (try simp only [Act.put, sA, sB, sC])
                        refine tkQ 4 (.int .i64 (g : Int)) hHeld (he := by intro w hSw; exact exec_cell 3 _ _ hSw.2.2.2.2.1 (pr_at HEO.out) rfl rfl Try.underlying3 rfl) (h := ?_)
                        (try simp only [Act.put, sA, sB, sC])
                        refine tkQ 5 (.bool false) hHeld (he := by intro w hSw; (have q := HMA.out; go_simp; (first | done | exact q | (simp [q]; done) | omega))) (h := ?_)
                        (try simp only [Act.put, sA, sB, sC])
                        refine tkQ 6 (.bool false) hHeld (h := ?_)
                        (try simp only [Act.put, sA, sB, sC])
                        refine tkQ 7 (.pointer (some ⟨bn14, 1, none⟩)) hHeld (h := ?_)
                        (try simp only [Act.put, sA, sB, sC])
                        refine tkQ 8 (.int .i64 m.a) hHeld (he := by intro w hSw; exact exec_cell 3 _ _ hSw.2.2.2.2.2.1 rfl rfl rfl Try.underlying3 rfl) (h := ?_)
                        (try simp only [Act.put, sA, sB, sC])
                        refine tkQ 9 (.int .i64 (e : Int)) hHeld (h := ?_)
                        (try simp only [Act.put, sA, sB, sC])
                        refine tkQ 10 (.int .i64 (o : Int)) hHeld (he := by intro w hSw; (have q := HEO.out; go_simp; (first | done | (rw [show (1 : Int) - (e : Int) = (o : Int) by omega]; exact wrL _ (by omega) (by omega)) | omega))) (h := ?_)
                        (try simp only [Act.put, sA, sB, sC])
                        refine tkQ 11 (.pointer (some ⟨bn6, o, none⟩)) hHeld (he := by intro w hSw; exact exec_arr (i := o) (n := 2) 31 3 _ _ rfl rfl rfl rfl (by have := HEO.out; omega) Try.underlying31 (by kernel_rfl)) (h := ?_)
                        (try simp only [Act.put, sA, sB, sC])
                        refine tkQ 12 (.int .i64 (t : Int)) hHeld (he := by intro w hSw; exact exec_cell 3 _ _ hSw.2.2.2.1 (pr_ot HEO.out) rfl rfl Try.underlying3 rfl) (h := ?_)
                        (try simp only [Act.put, sA, sB, sC])
                        refine tkQ 13 (.bool false) hHeld (he := by intro w hSw; (have q1 := HMA.out; have q2 := HGT.out; go_simp; (first | done | rfl | omega))) (h := ?_)
                        (try simp only [Act.put, sA, sB, sC])
                        refine tkQ 14 (.bool false) hHeld (h := ?_)
                        (try simp only [Act.put, sA, sB, sC])
                        refine wpAnyH_done (by kernel_rfl) ?_ _
                        have HSd29 := Lib.hid hHeld.1
                        have HBn4d29 := Lib.hid (hHeld.2.1)
                        have HBn5d29 := Lib.hid (hHeld.2.2.1)
                        have HBn6d29 := Lib.hid (hHeld.2.2.2.1)
                        have HBn7d29 := Lib.hid (hHeld.2.2.2.2.1)
                        have HBn14d29 := Lib.hid (hHeld.2.2.2.2.2.1)
                        have HFad29 := Lib.hid (hHeld.2.2.2.2.2.2.1)
                        have HFbd29 := Lib.hid (hHeld.2.2.2.2.2.2.2.1)
                        have HFred29 := Lib.hid (hHeld.2.2.2.2.2.2.2.2.1)
                        have HFrod29 := Lib.hid (hHeld.2.2.2.2.2.2.2.2.2)
                        clear hHeld HRK HKS HS311 HBn4311 HBn5311 HBn6311 HBn7311 HBn14311 HFa311 HFb311 HFre311 HFro311
                        have HI4n14 := Lib.hid (show bn14 ≠ bn14 ∨ True from .inr trivial)
                        have HI5re := Lib.hid (own_ne_ty HFred29.out HBn14d29.out (by decide))
                        have HI5ro := Lib.hid (own_ne_ty HFrod29.out HBn14d29.out (by decide))
                        go_upto_region 31 with fail
                        refine wp_region_lit ?_
                        refine tkL (.int .i64 (e : Int)) (h := ?_)
                        (try simp only [Act.put, sA, sB, sC])
                        refine wpList_q (by rfl) (.pointer (some ⟨bn7, e, none⟩)) ?he ?_
                        case he => exact exec_arr (i := e) (n := 2) 31 3 _ _ rfl rfl rfl rfl (by have := HEO.out; omega) Try.underlying31 (by kernel_rfl)
                        (try simp only [Act.put, sA, sB, sC])
                        refine wpList_q (by rfl) (.int .i64 (g : Int)) ?he ?_
                        case he => exact exec_cell 3 _ _ HBn7d29.out (pr_at HEO.out) rfl rfl Try.underlying3 rfl
                        (try simp only [Act.put, sA, sB, sC])
                        refine wpList_q (by rfl) (.int .i64 ((g : Int) + 1)) ?he ?_
                        case he => (go_simp; (first | done | (refine wrL _ ?_ ?_ <;> (have q0 := HBO.out; omega)) | (have q0 := HBO.out; omega) | (have q0 := HBO.out; split <;> omega) | (have q0 := HBO.out; intro hh; omega)))
                        (try simp only [Act.put, sA, sB, sC])
                        refine wpList_q (by rfl) (.pointer (some ⟨bn7, e, none⟩)) ?he ?_
                        case he => exact exec_arr (i := e) (n := 2) 31 3 _ _ rfl rfl rfl rfl (by have := HEO.out; omega) Try.underlying31 (by kernel_rfl)
                        (try simp only [Act.put, sA, sB, sC])
                        refine wpList_wp (by rfl) (fun K hK => ?_)
                        refine wp_st_cell 3 _ _ rfl (pr e (.int .i64 ((g : Int) + 1)) (.int .i64 (h : Int))) (.int .i64 ((g : Int) + 1)) rfl rfl HBn7d29.out (by rw [pr_size]; have := HEO.out; omega) (pr_set HEO.out) (by first | rfl | simp [Value.oneCell']) (by kernel_rfl) ?_
                        intro w312 hw
                        refine hK.out _ _ ?_
                        clear hK K
                        (try simp only [Act.put, sA, sB, sC])
                        have HS312 := Lib.hid (show Since w w312 by rw [hw]; exact Since.setRow HSd29.out HGn7.out _)
                        have HBn4312 := Lib.hid (show Blk w312 bn4 28 (pr e (.pointer (some ⟨qa, 0, none⟩)) (.pointer (some ⟨qb, 0, none⟩))) by rw [hw]; exact Blk.row_far HBn4d29.out (Ne.symm HNn7n4.out) _)
                        have HBn5312 := Lib.hid (show Blk w312 bn5 30 (pr e (.slice A3 ps2.length c3) (.slice A2 qs.length c2)) by rw [hw]; exact Blk.row_far HBn5d29.out (Ne.symm HNn7n5.out) _)
                        have HBn6312 := Lib.hid (show Blk w312 bn6 31 (pr e (.int .i64 (s : Int)) (.int .i64 (t : Int))) by rw [hw]; exact Blk.row_far HBn6d29.out (Ne.symm HNn7n6.out) _)
                        have HBn7312 := Lib.hid (show Blk w312 bn7 31 (pr e (.int .i64 ((g : Int) + 1)) (.int .i64 (h : Int))) by rw [hw]; exact Blk.row HBn7d29.out _)
                        have HFa_312 := Lib.hid (show LO w.heap.size qa (kO b' st' du' (g + 1) an' he') (mo b' s) S3 w312 by rw [hw]; exact LO.row_far HFad29.out HI4n7.out _)
                        have HFb_312 := Lib.hid (show LO w.heap.size qb (kO c st2 du2 h an2 he2) (mo c t) Sb w312 by rw [hw]; exact LO.row_far HFbd29.out HIn7b.out _)
                        have HFre_312 := Lib.hid (show (w312).ownsRow w.heap.size 38 9 (.slice A3 ps2.length c3) ps2.length (rowsOf pkL ps2) by rw [hw]; exact own_row_far HFred29.out HI3n7.out _)
                        have HFro_312 := Lib.hid (show (w312).ownsRow w.heap.size 38 9 (.slice A2 qs.length c2) qs.length (rowsOf pkL qs) by rw [hw]; exact own_row_far HFrod29.out HIn7ro.out _)
                        clear hw HSd29 HBn4d29 HBn5d29 HBn6d29 HBn7d29 HFad29 HFbd29 HFred29 HFrod29
                        refine wpList_nil ?_
                        go_wp2_with fail
                        refine Met.intro ?_
                        exact hJ3 _ _ ⟨b', s, (g + 1), c, t, h, st', du', st2, du2, he', he2, an', an2, qa, qb, S3, Sb, ps2, qs, A3, A2, c3, c2, ⟨rfl, rfl, rfl, rfl, rfl, rfl, rfl, rfl, rfl, rfl, rfl, trivial⟩, Lib.hid ⟨HI2.out.gets HBB.out HGC.out HGT.out, (by have q := HST.out; have q2 := HS2.out; (try push_cast); omega), HDS3.out, HDR3.out, HS312.out, (by have q := HBn4312.out; (try push_cast); exact q), (by have q := HBn5312.out; (try push_cast); exact q), (by have q := HBn6312.out; (try push_cast); exact q), (by have q := HBn7312.out; (try push_cast); exact q), HFa_312.out, HFb_312.out, HFre_312.out, HFro_312.out⟩⟩
                   · have HK4 := Lib.hid hcs; clear hcs
                     go_upto_region 26 with fail
                     refine wp_region_lit ?_
                     refine tkL (.slice (some ⟨bm, om, none⟩) len cap) (h := ?_)
                     (try simp only [Act.put, sA, sB, sC])
                     refine tkL (.int .i64 (i : Int)) (h := ?_)
                     (try simp only [Act.put, sA, sB, sC])
                     refine wpList_q (by rfl) (.pointer (some ⟨bm, (om + i * 3), none⟩)) ?he ?_
                     case he => exact exec_ix (i := i) (s := 3) 22 33 _ _ rfl rfl rfl rfl HLT.out Try.underlying22 (by kernel_rfl)
                     (try simp only [Act.put, sA, sB, sC])
                     refine tkL (.pointer (some ⟨bm, (om + i * 3), none⟩)) (h := ?_)
                     (try simp only [Act.put, sA, sB, sC])
                     refine wpList_q (by rfl) (.int .i64 ((vs i).k)) ?he ?_
                     case he => exact exec_at 3 _ _ (keep_cell HS261.out (HCM.out 0 _ rfl)) rfl rfl Try.underlying3 rfl
                     (try simp only [Act.put, sA, sB, sC])
                     refine wpList_q (by rfl) (.bool true) ?he ?_
                     case he => (have q := HK4.out; go_simp; (first | done | exact q | (simp [q]; done) | omega))
                     (try simp only [Act.put, sA, sB, sC])
                     refine wpList_nil ?_
                     go_upto_region 8 with fail
                     refine wp_region_lit ?_
                     refine tkL (.int .i64 (i : Int)) (h := ?_)
                     (try simp only [Act.put, sA, sB, sC])
                     refine wpList_q (by rfl) (.int .i64 ((i : Int) + 1)) ?he ?_
                     case he => (go_simp; (first | done | (refine wrL _ ?_ ?_ <;> (have q0 := HI4.out; omega)) | (have q0 := HI4.out; omega) | (have q0 := HI4.out; split <;> omega) | (have q0 := HI4.out; intro hh; omega)))
                     (try simp only [Act.put, sA, sB, sC])
                     refine tkL (.int .i64 ((i : Int) + 1)) (h := ?_)
                     (try simp only [Act.put, sA, sB, sC])
                     refine wpList_nil ?_
                     go_wp2_with fail
                     refine Met.intro ?_
                     refine hJ1 _ _ _ ?less261 ⟨e, o, (i + 1), b, s, g, c, t, h, st, du, st2, du2, he, he2, an, an2, qa, qb, Sa, Sb, ps2, qs, A3, A2, c3, c2, HEO.out, (by have := HL4.out; omega), (by have := HLT.out; omega), rfl, ⟨rfl, rfl, rfl, rfl, rfl, rfl, rfl, rfl, rfl, trivial⟩, Lib.hid ⟨HI2.out.wait, (by have q := HST.out; (try push_cast); omega), HDS.out, HDR3.out, HS261.out, (by have q := HBn4261.out; (try push_cast); exact q), (by have q := HBn5261.out; (try push_cast); exact q), (by have q := HBn6261.out; (try push_cast); exact q), (by have q := HBn7261.out; (try push_cast); exact q), HFa261.out, HFb261.out, HFre261.out, HFro261.out⟩⟩
                     case less261 => exact (by have := HM.out; have := HL4.out; omega)
                · have HL0 := Lib.hid hcs; clear hcs
                  go_upto_region 21 with fail
                  refine wp_region_lit ?_
                  refine tkL (.int .i64 (e : Int)) (h := ?_)
                  (try simp only [Act.put, sA, sB, sC])
                  refine wpList_q (by rfl) (.pointer (some ⟨bn5, e, none⟩)) ?he ?_
                  case he => exact exec_arr (i := e) (n := 2) 30 29 _ _ rfl rfl rfl rfl (by have := HEO.out; omega) Try.underlying30 (by kernel_rfl)
                  (try simp only [Act.put, sA, sB, sC])
                  refine wpList_q (by rfl) (.slice A1 ps.length c1) ?he ?_
                  case he => exact exec_cell 29 _ _ HBn5209.out (pr_at HEO.out) rfl rfl Try.underlying29 rfl
                  (try simp only [Act.put, sA, sB, sC])
                  refine tkL (.int .i64 (ps.length : Int)) (h := ?_)
                  (try simp only [Act.put, sA, sB, sC])
                  refine wpList_q (by rfl) (.bool true) ?he ?_
                  case he => (have q := HL0.out; go_simp; (first | done | exact q | (simp [q]; done) | omega))
                  (try simp only [Act.put, sA, sB, sC])
                  refine wpList_nil ?_
                  go_upto_region 8 with fail
                  refine wp_region_lit ?_
                  refine tkL (.int .i64 (i : Int)) (h := ?_)
                  (try simp only [Act.put, sA, sB, sC])
                  refine wpList_q (by rfl) (.int .i64 ((i : Int) + 1)) ?he ?_
                  case he => (go_simp; (first | done | (refine wrL _ ?_ ?_ <;> (have q0 := HI4.out; omega)) | (have q0 := HI4.out; omega) | (have q0 := HI4.out; split <;> omega) | (have q0 := HI4.out; intro hh; omega)))
                  (try simp only [Act.put, sA, sB, sC])
                  refine tkL (.int .i64 ((i : Int) + 1)) (h := ?_)
                  (try simp only [Act.put, sA, sB, sC])
                  refine wpList_nil ?_
                  go_wp2_with fail
                  refine Met.intro ?_
                  refine hJ1 _ _ _ ?less209 ⟨e, o, (i + 1), b, s, g, c, t, h, st, du, st2, du2, he, he2, an, an2, qa, qb, Sa, Sb, ps, qs, A1, A2, c1, c2, HEO.out, (by have := HL4.out; omega), (by have := HLT.out; omega), rfl, ⟨rfl, rfl, rfl, rfl, rfl, rfl, rfl, rfl, rfl, trivial⟩, Lib.hid ⟨HI.out.wait, (by have q := HST.out; (try push_cast); omega), HDS.out, HDR.out, HS209.out, (by have q := HBn4209.out; (try push_cast); exact q), (by have q := HBn5209.out; (try push_cast); exact q), (by have q := HBn6209.out; (try push_cast); exact q), (by have q := HBn7209.out; (try push_cast); exact q), HFa209.out, HFb209.out, HFre209.out, HFro209.out⟩⟩
                  case less209 => exact (by have := HM.out; have := HL4.out; omega)
           · have HK2 := Lib.hid hcs; clear hcs
             go_upto_region 11 with fail
             refine wp_region_lit ?_
             refine wpList_q (by rfl) (.bool false) ?he ?_
             case he => (have q := HK1.out; go_simp; (first | done | exact q | (simp [q]; done) | omega))
             (try simp only [Act.put, sA, sB, sC])
             refine tkL (.bool false) (h := ?_)
             (try simp only [Act.put, sA, sB, sC])
             refine wpList_nil ?_
             go_upto_region 14 with fail
             refine wp_region_lit ?_
             refine wpList_q (by rfl) (.bool true) ?he ?_
             case he => (have q := HK2.out; go_simp; (first | done | exact q | (simp [q]; done) | omega))
             (try simp only [Act.put, sA, sB, sC])
             refine tkL (.bool true) (h := ?_)
             (try simp only [Act.put, sA, sB, sC])
             refine wpList_nil ?_
             go_upto_region 15 with fail
             refine wp_region_lit ?_
             refine tkL (.int .i64 (e : Int)) (h := ?_)
             (try simp only [Act.put, sA, sB, sC])
             refine wpList_q (by rfl) (.pointer (some ⟨bn4, e, none⟩)) ?he ?_
             case he => exact exec_arr (i := e) (n := 2) 28 26 _ _ rfl rfl rfl rfl (by have := HEO.out; omega) Try.underlying28 (by kernel_rfl)
             (try simp only [Act.put, sA, sB, sC])
             refine wpList_q (by rfl) (.pointer (some ⟨qa, 0, none⟩)) ?he ?_
             case he => exact exec_cell 26 _ _ HBn4159.out (pr_at HEO.out) rfl rfl Try.underlying26 rfl
             (try simp only [Act.put, sA, sB, sC])
             refine tkL (.int .i64 (i : Int)) (h := ?_)
             (try simp only [Act.put, sA, sB, sC])
             refine wpList_wp (by rfl) (fun K hK => ?_)
             (try go_simp)
             refine (pollO HFa159.out i (by have := HBO.out; omega) HST.out.1.1 (by have q1 := HST.out.1.2; have q2 := HBO.out; omega)).mono ?_
             rintro e w160 ⟨pk, r, st', du', an', Sa_17, rfl, hobj, hupd, hfar, hst, hpk⟩
             (try go_wp2_with fail)
             refine hK.out _ _ ?_
             clear hK K
             (try simp only [Act.put, sA, sB, sC])
             have HS160 := Lib.hid (Since.upd HS159.out hupd (LO.low HFa159.out))
             have HBn4160 := Lib.hid (Upd.blk hupd HBn4159.out HIn4a.out)
             have HIn4_a_160 := Lib.hid (nin_next hfar HIn4a.out (Blk.lt HBn4159.out))
             have HBn5160 := Lib.hid (Upd.blk hupd HBn5159.out HIn5a.out)
             have HIn5_a_160 := Lib.hid (nin_next hfar HIn5a.out (Blk.lt HBn5159.out))
             have HBn6160 := Lib.hid (Upd.blk hupd HBn6159.out HIn6a.out)
             have HIn6_a_160 := Lib.hid (nin_next hfar HIn6a.out (Blk.lt HBn6159.out))
             have HBn7160 := Lib.hid (Upd.blk hupd HBn7159.out HIn7a.out)
             have HIn7_a_160 := Lib.hid (nin_next hfar HIn7a.out (Blk.lt HBn7159.out))
             have HFb160 := Lib.hid (LO.upd hupd HFb159.out (fun g hg h => HDS.out g h hg))
             have HDDb_a_160 := Lib.hid (dis_next hfar (fun g hg h => HDS.out g h hg) (LO.lt HFb159.out))
             have HFre160 := Lib.hid (Upd.own hupd HFre159.out HDrea.out)
             have HDDre_a_160 := Lib.hid (dis_next hfar HDrea.out (own_lt HFre159.out))
             have HFro160 := Lib.hid (Upd.own hupd HFro159.out HDroa.out)
             have HDDro_a_160 := Lib.hid (dis_next hfar HDroa.out (own_lt HFro159.out))
             have HFa160 := Lib.hid hobj
             clear hupd hobj hfar HS159 HBn4159 HBn5159 HBn6159 HBn7159 HFa159 HFb159 HFre159 HFro159
             have HS2 := Lib.hid hst; have HPK := Lib.hid hpk; clear hst hpk
             refine tkL (.tuple #[.agg #[.int .i64 pk.se, .int .i64 pk.ep, .int .i64 pk.sq, .int .i64 pk.ak, .bool pk.ha, .int .i64 pk.m.ki, .int .i64 pk.m.a, .int .i64 pk.m.b, .int .i64 pk.m.c], .bool r]) (h := ?_)
             (try simp only [Act.put, sA, sB, sC])
             refine tkL (.agg #[.int .i64 pk.se, .int .i64 pk.ep, .int .i64 pk.sq, .int .i64 pk.ak, .bool pk.ha, .int .i64 pk.m.ki, .int .i64 pk.m.a, .int .i64 pk.m.b, .int .i64 pk.m.c]) (h := ?_)
             (try simp only [Act.put, sA, sB, sC])
             refine tkL (.bool r) (h := ?_)
             (try simp only [Act.put, sA, sB, sC])
             refine wpList_wp (by rfl) (fun K hK => ?_)
             refine wp_new (fun b => .pointer (some ⟨b, 0, none⟩)) 38 #[.int .i64 0, .int .i64 0, .int .i64 0, .int .i64 0, .bool false, .int .i64 0, .int .i64 0, .int .i64 0, .int .i64 0] (by rintro b rfl; first | rfl | kernel_rfl) ?_
             intro bn10 w161 hge hB hb
             refine hK.out _ _ ?_
             clear hK K
             (try simp only [Act.put, sA, sB, sC])
             have HNn10n4 := Lib.hid (show bn10 ≠ bn4 by have := Blk.lt HBn4160.out; omega)
             have HNn10n5 := Lib.hid (show bn10 ≠ bn5 by have := Blk.lt HBn5160.out; omega)
             have HNn10n6 := Lib.hid (show bn10 ≠ bn6 by have := Blk.lt HBn6160.out; omega)
             have HNn10n7 := Lib.hid (show bn10 ≠ bn7 by have := Blk.lt HBn7160.out; omega)
             have HGn10 := Lib.hid (show w.heap.size ≤ bn10 by have := Since.size HS160.out; omega)
             have HIn10_a := Lib.hid (LO.far HFa160.out hge)
             have HIn10_b := Lib.hid (LO.far HFb160.out hge)
             have HIn10_re := Lib.hid (own_far HFre160.out hge)
             have HIn10_ro := Lib.hid (own_far HFro160.out hge)
             have HS161 := Lib.hid (Since.trans HS160.out hb)
             have HBn4161 := Lib.hid (keep_blk hb HBn4160.out)
             have HBn5161 := Lib.hid (keep_blk hb HBn5160.out)
             have HBn6161 := Lib.hid (keep_blk hb HBn6160.out)
             have HBn7161 := Lib.hid (keep_blk hb HBn7160.out)
             have HFa161 := Lib.hid (LO.keep hb HFa160.out)
             have HFb161 := Lib.hid (LO.keep hb HFb160.out)
             have HFre161 := Lib.hid (keep_own hb HFre160.out)
             have HFro161 := Lib.hid (keep_own hb HFro160.out)
             clear HS160 HBn4160 HBn5160 HBn6160 HBn7160 HFa160 HFb160 HFre160 HFro160
             clear hb hge
             have HBn10161 := Lib.hid hB
             clear hB
             refine wpList_wp (by rfl) (fun K hK => ?_)
             refine wp_st_row 38 _ _ rfl #[.int .i64 pk.se, .int .i64 pk.ep, .int .i64 pk.sq, .int .i64 pk.ak, .bool pk.ha, .int .i64 pk.m.ki, .int .i64 pk.m.a, .int .i64 pk.m.b, .int .i64 pk.m.c] rfl rfl (HasRow.of HBn10161.out rfl) rfl (by simp [Value.oneCell']) (by kernel_rfl) ?_
             intro w162 hw
             refine hK.out _ _ ?_
             clear hK K
             (try simp only [Act.put, sA, sB, sC])
             have HS162 := Lib.hid (show Since w w162 by rw [hw]; exact Since.setRow HS161.out HGn10.out _)
             have HBn4162 := Lib.hid (show Blk w162 bn4 28 (pr e (.pointer (some ⟨qa, 0, none⟩)) (.pointer (some ⟨qb, 0, none⟩))) by rw [hw]; exact Blk.row_far HBn4161.out (Ne.symm HNn10n4.out) _)
             have HBn5162 := Lib.hid (show Blk w162 bn5 30 (pr e (.slice A1 ps.length c1) (.slice A2 qs.length c2)) by rw [hw]; exact Blk.row_far HBn5161.out (Ne.symm HNn10n5.out) _)
             have HBn6162 := Lib.hid (show Blk w162 bn6 31 (pr e (.int .i64 (s : Int)) (.int .i64 (t : Int))) by rw [hw]; exact Blk.row_far HBn6161.out (Ne.symm HNn10n6.out) _)
             have HBn7162 := Lib.hid (show Blk w162 bn7 31 (pr e (.int .i64 (g : Int)) (.int .i64 (h : Int))) by rw [hw]; exact Blk.row_far HBn7161.out (Ne.symm HNn10n7.out) _)
             have HBn10162 := Lib.hid (show Blk w162 bn10 38 #[.int .i64 pk.se, .int .i64 pk.ep, .int .i64 pk.sq, .int .i64 pk.ak, .bool pk.ha, .int .i64 pk.m.ki, .int .i64 pk.m.a, .int .i64 pk.m.b, .int .i64 pk.m.c] by rw [hw]; exact Blk.row HBn10161.out _)
             have HFa_162 := Lib.hid (show LO w.heap.size qa (kO b st' du' g an' he) (mo b s) Sa_17 w162 by rw [hw]; exact LO.row_far HFa161.out HIn10_a.out _)
             have HFb_162 := Lib.hid (show LO w.heap.size qb (kO c st2 du2 h an2 he2) (mo c t) Sb w162 by rw [hw]; exact LO.row_far HFb161.out HIn10_b.out _)
             have HFre_162 := Lib.hid (show (w162).ownsRow w.heap.size 38 9 (.slice A1 ps.length c1) ps.length (rowsOf pkL ps) by rw [hw]; exact own_row_far HFre161.out HIn10_re.out _)
             have HFro_162 := Lib.hid (show (w162).ownsRow w.heap.size 38 9 (.slice A2 qs.length c2) qs.length (rowsOf pkL qs) by rw [hw]; exact own_row_far HFro161.out HIn10_ro.out _)
             clear hw HS161 HBn4161 HBn5161 HBn6161 HBn7161 HBn10161 HFa161 HFb161 HFre161 HFro161
             refine tkL (.bool r) (h := ?_)
             (try simp only [Act.put, sA, sB, sC])
             refine wpList_nil ?_
             cases r with
             | false =>
              go_upto_region 16 with fail
              refine wp_region_lit ?_
              refine tkL (.bool false) (h := ?_)
              (try simp only [Act.put, sA, sB, sC])
              refine wpList_nil ?_
              go_wp2_with fail
              refine Met.intro ?_
              exact hJ3 _ _ ⟨b, s, g, c, t, h, st', du', st2, du2, he, he2, an', an2, qa, qb, Sa_17, Sb, ps, qs, A1, A2, c1, c2, ⟨rfl, rfl, rfl, rfl, rfl, rfl, rfl, rfl, rfl, rfl, rfl, trivial⟩, Lib.hid ⟨HI.out.wait, (by have q := HST.out; have q2 := HS2.out; (try push_cast); omega), (fun g hg h => HDDb_a_160.out g h hg), HDR.out, HS162.out, (by have q := HBn4162.out; (try push_cast); exact q), (by have q := HBn5162.out; (try push_cast); exact q), (by have q := HBn6162.out; (try push_cast); exact q), (by have q := HBn7162.out; (try push_cast); exact q), HFa_162.out, HFb_162.out, HFre_162.out, HFro_162.out⟩⟩
             | true =>
              go_upto_region 16 with fail
              refine wp_region_lit ?_
              refine tkL (.bool true) (h := ?_)
              (try simp only [Act.put, sA, sB, sC])
              refine wpList_nil ?_
              have HPV := Lib.hid (HPK.out rfl); clear HPK
              go_upto_region 17 with fail
              have HKS : Hid (KeepS (fun W : World => Since w W ∧ Blk W bn4 28 (pr e (.pointer (some ⟨qa, 0, none⟩)) (.pointer (some ⟨qb, 0, none⟩))) ∧ HasRow W bn5 30 2 ∧ Blk W bn6 31 (pr e (.int .i64 (s : Int)) (.int .i64 (t : Int))) ∧ Blk W bn7 31 (pr e (.int .i64 (g : Int)) (.int .i64 (h : Int))) ∧ Blk W bn10 38 #[.int .i64 pk.se, .int .i64 pk.ep, .int .i64 pk.sq, .int .i64 pk.ak, .bool pk.ha, .int .i64 pk.m.ki, .int .i64 pk.m.a, .int .i64 pk.m.b, .int .i64 pk.m.c] ∧ LO w.heap.size qa (kO b st' du' g an' he) (mo b s) Sa_17 W ∧ LO w.heap.size qb (kO c st2 du2 h an2 he2) (mo c t) Sb W ∧ (W).ownsRow w.heap.size 38 9 (.slice A1 ps.length c1) ps.length (rowsOf pkL ps)) w162) := Lib.hid ⟨fun W W' k ⟨h, h0, h1, h2, h3, h4, h5, h6, h7⟩ => ⟨h.trans k, keep_blk k h0, HasRow.keep k h1, keep_blk k h2, keep_blk k h3, keep_blk k h4, LO.keep k h5, LO.keep k h6, keep_own k h7⟩, ⟨HS162.out, HBn4162.out, HasRow.of HBn5162.out pr_size, HBn6162.out, HBn7162.out, HBn10162.out, HFa_162.out, HFb_162.out, HFre_162.out⟩⟩
              have HRK := Lib.hid HKS.out.1
              have HPn5 := Lib.hid (show Blk (World.drew w162) bn5 30 (pr e (.slice A1 ps.length c1) (.slice A2 qs.length c2)) from HBn5162.out)
              have HEro := Lib.hid (show ((World.drew w162)).ownsRow w.heap.size 38 9 (.slice A2 qs.length c2) qs.length (rowsOf pkL qs) from HFro_162.out)
              clear HFro_162
              refine wp_held HKS.out (by kernel_rfl) (fun hHeld => ?_)
              refine tkQ 0 (.int .i64 (e : Int)) hHeld (h := ?_)
              (try simp only [Act.put, sA, sB, sC])
              refine tkQ 1 (.int .i64 (o : Int)) hHeld (he := by intro w hSw; (have q := HEO.out; go_simp; (first | done | (rw [show (1 : Int) - (e : Int) = (o : Int) by omega]; exact wrL _ (by omega) (by omega)) | omega))) (h := ?_)
              (try simp only [Act.put, sA, sB, sC])
              refine tkQ 2 (.int .i64 (e : Int)) hHeld (h := ?_)
              (try simp only [Act.put, sA, sB, sC])
              refine tkQ 3 (.int .i64 (o : Int)) hHeld (he := by intro w hSw; (have q := HEO.out; go_simp; (first | done | (rw [show (1 : Int) - (e : Int) = (o : Int) by omega]; exact wrL _ (by omega) (by omega)) | omega))) (h := ?_)
              (try simp only [Act.put, sA, sB, sC])
              refine tkQ 4 (.pointer (some ⟨bn5, o, none⟩)) hHeld (he := by intro w hSw; exact exec_arr (i := o) (n := 2) 30 29 _ _ rfl rfl rfl rfl (by have := HEO.out; omega) Try.underlying30 (by kernel_rfl)) (h := ?_)
              (try simp only [Act.put, sA, sB, sC])
              refine tkQ 6 (.agg #[.int .i64 pk.se, .int .i64 pk.ep, .int .i64 pk.sq, .int .i64 pk.ak, .bool pk.ha, .int .i64 pk.m.ki, .int .i64 pk.m.a, .int .i64 pk.m.b, .int .i64 pk.m.c]) hHeld (he := by intro w hSw; exact exec_load_row 38 _ _ hSw.2.2.2.2.2.1 rfl rfl Try.underlying38 rfl (by kernel_rfl)) (h := ?_)
              (try simp only [Act.put, sA, sB, sC])
              refine wpAnyH_ready (rs := [5, 7]) (by kernel_rfl) (by simp) ?_
              refine AllReadyH.cons (o := ?o17__5b) ?h17__5b (fun K hK => ?g17__5b) (AllReadyH.cons (o := ?o17__7b) ?h17__7b (fun K hK => ?g17__7b) AllReadyH.nil)
              case h17__5b => (first | (simp only [gA, gB, gC]; done) | (simp only [gA, gB, gC]; exact rfl))
              case h17__7b => (first | (simp only [gA, gB, gC]; done) | (simp only [gA, gB, gC]; exact rfl))
              case g17__5b =>
               rw [if_pos (by rfl)]
               refine wp_q (.slice A2 qs.length c2) ?e17_b5_5 ?_
               case e17_b5_5 => exact exec_cell 29 _ _ HPn5.out (pr_ot HEO.out) rfl rfl Try.underlying29 rfl
               refine hK.out _ _ hHeld (fun hHeld2 => ?_)
               clear hK K hHeld2
               (try simp only [Act.put, sA, sB, sC])
               refine wpAnyH_ready (rs := [7]) (by kernel_rfl) (by simp) ?_
               refine AllReadyH.cons (o := ?o17_b5_7) ?h17_b5_7 (fun K hK => ?_) AllReadyH.nil
               case h17_b5_7 => (first | (simp only [gA, gB, gC]; done) | (simp only [gA, gB, gC]; exact rfl))
               rw [if_pos (by rfl)]
               refine wp_new (fun b => .slice (some ⟨b, 0, none⟩) 1 1) 38 #[.int .i64 pk.se, .int .i64 pk.ep, .int .i64 pk.sq, .int .i64 pk.ak, .bool pk.ha, .int .i64 pk.m.ki, .int .i64 pk.m.a, .int .i64 pk.m.b, .int .i64 pk.m.c] (by rintro b rfl; first | rfl | kernel_rfl) ?_
               intro bn78 w163 hge hB hb
               refine hK.out _ _ (by (apply HRK.out; exact hb; exact hHeld)) (fun hHeld2 => ?_)
               have HIn78_a := Lib.hid (LO.far (hHeld.2.2.2.2.2.2.1) hge)
               have HIn78_b := Lib.hid (LO.far (hHeld.2.2.2.2.2.2.2.1) hge)
               have HIn78_re := Lib.hid (own_far (hHeld.2.2.2.2.2.2.2.2) hge)
               have HIn78_ro := Lib.hid (own_far HEro.out hge)
               have HPn5k := Lib.hid (keep_blk hb HPn5.out)
               clear HPn5
               have HErok := Lib.hid (keep_own hb HEro.out)
               clear HEro
               have HNn78n4 := Lib.hid (show bn78 ≠ bn4 by have := Blk.lt (hHeld.2.1); (try simp at this); (try simp at hge); omega)
               have HNn78n5 := Lib.hid (show bn78 ≠ bn5 by obtain ⟨old, Bo, _⟩ := hHeld.2.2.1; have := Blk.lt Bo; omega)
               have HNn78n6 := Lib.hid (show bn78 ≠ bn6 by have := Blk.lt (hHeld.2.2.2.1); (try simp at this); (try simp at hge); omega)
               have HNn78n7 := Lib.hid (show bn78 ≠ bn7 by have := Blk.lt (hHeld.2.2.2.2.1); (try simp at this); (try simp at hge); omega)
               have HNn78n10 := Lib.hid (show bn78 ≠ bn10 by have := Blk.lt (hHeld.2.2.2.2.2.1); (try simp at this); (try simp at hge); omega)
               have HGn78 := Lib.hid (show w.heap.size ≤ bn78 by have := Since.size hHeld.1; (try simp at this); (try simp at hge); omega)
               have HXn78 := Lib.hid hB
               clear hB
               clear hge
               clear hK K hHeld hb
               have hHeld := hHeld2
               clear hHeld2
               (try simp only [Act.put, sA, sB, sC])
               refine wpAnyH_ready (rs := [8]) (by kernel_rfl) (by simp) ?_
               refine AllReadyH.cons (o := ?o17_b5_8) ?h17_b5_8 (fun K hK => ?_) AllReadyH.nil
               case h17_b5_8 => (first | (simp only [gA, gB, gC]; done) | (simp only [gA, gB, gC]; exact rfl))
               rw [if_pos (by rfl)]
               refine wp_append_row (.tmp 76) (.tmp 78) 29 rfl w.heap.size 38 (Value.agg #[.int .i64 0, .int .i64 0, .int .i64 0, .int .i64 0, .bool false, .int .i64 0, .int .i64 0, .int .i64 0, .int .i64 0]) 9 72 Try.underlying29 (by kernel_rfl) rfl (by decide) (by decide) A2 qs.length c2 (rowsOf pkL qs) rfl HErok.out _ (some ⟨bn78, 0, none⟩) 1 1 (pkL pk) rfl (reads_blk (cs := pkL pk) HXn78.out rfl) (pkL_one pk) (by have := HBO.out; omega) (Since.size hHeld.1) ((qs ++ [pk]).length) (rowsOf pkL (qs ++ [pk])) (by simp) (by rw [rowsOf_append, rowsOf_one]) ?_
               intro A_18 c_18 w164 hown hupd hfar
               have hHeld3 := HKS.out.at_ w164 ⟨Since.upd hHeld.1 hupd (own_low HErok.out), Upd.blk hupd (hHeld.2.1) (own_ne_ty HErok.out (hHeld.2.1) (by decide)), HasRow.upd hupd (hHeld.2.2.1) (own_ne_ty HErok.out HPn5k.out (by decide)), Upd.blk hupd (hHeld.2.2.2.1) (own_ne_ty HErok.out (hHeld.2.2.2.1) (by decide)), Upd.blk hupd (hHeld.2.2.2.2.1) (own_ne_ty HErok.out (hHeld.2.2.2.2.1) (by decide)), Upd.blk hupd (hHeld.2.2.2.2.2.1) HIn10_ro.out, LO.upd hupd (hHeld.2.2.2.2.2.2.1) (fun g hg h => HDDro_a_160.out g h hg), LO.upd hupd (hHeld.2.2.2.2.2.2.2.1) (fun g hg h => HDrob.out g h hg), Upd.own hupd (hHeld.2.2.2.2.2.2.2.2) HDR.out⟩
               have HDEa_18 := Lib.hid (dis_next hfar (fun g hg h => HDDro_a_160.out g h hg) (LO.lt (hHeld.2.2.2.2.2.2.1)))
               have HDEb_18 := Lib.hid (dis_next hfar (fun g hg h => HDrob.out g h hg) (LO.lt (hHeld.2.2.2.2.2.2.2.1)))
               have HDEre_18 := Lib.hid (dis_next hfar HDR.out (own_lt (hHeld.2.2.2.2.2.2.2.2)))
               have HPn5ku := Lib.hid (Upd.blk hupd HPn5k.out (own_ne_ty HErok.out HPn5k.out (by decide)))
               have HIn5_ro_18 := Lib.hid (nin_next hfar (own_ne_ty HErok.out HPn5k.out (by decide)) (Blk.lt HPn5k.out))
               clear HPn5k
               have HOW_w164 := Lib.hid hown
               refine hK.out _ _ hHeld3 (fun hHeld2 => ?_)
               clear hK K hHeld hHeld3 hupd hown hfar HErok HXn78
               have hHeld := hHeld2
               clear hHeld2
               (try simp only [Act.put, sA, sB, sC])
               refine tkQ 9 (.pointer (some ⟨bn5, o, none⟩)) hHeld (he := by intro w hSw; exact exec_arr (i := o) (n := 2) 30 29 _ _ rfl rfl rfl rfl (by have := HEO.out; omega) Try.underlying30 (by kernel_rfl)) (h := ?_)
               (try simp only [Act.put, sA, sB, sC])
               refine wpAnyH_ready (rs := [10]) (by kernel_rfl) (by simp) ?_
               refine AllReadyH.cons (o := ?o17_b5_10) ?h17_b5_10 (fun K hK => ?_) AllReadyH.nil
               case h17_b5_10 => (first | (simp only [gA, gB, gC]; done) | (simp only [gA, gB, gC]; exact rfl))
               rw [if_pos (by rfl)]
               refine wp_st_cell 29 _ _ rfl (pr e (.slice A1 ps.length c1) (.slice A_18 ((qs ++ [pk]).length) c_18)) (.slice A_18 ((qs ++ [pk]).length) c_18) rfl rfl HPn5ku.out (by rw [pr_size]; have := HEO.out; omega) (pr_seto HEO.out) (by first | rfl | simp [Value.oneCell']) (by kernel_rfl) ?_
               clear HPn5ku
               intro w165 hw
               have HOW_w164r := Lib.hid (show (w165).ownsRow w.heap.size 38 9 (.slice A_18 ((qs ++ [pk]).length) c_18) ((qs ++ [pk]).length) (rowsOf pkL (qs ++ [pk])) by rw [hw]; exact own_row_far HOW_w164.out HIn5_ro_18.out _)
               clear HOW_w164
               have HRn5 := Lib.hid (show Blk w165 bn5 30 (pr e (.slice A1 ps.length c1) (.slice A_18 ((qs ++ [pk]).length) c_18)) by obtain ⟨old, Bo, _⟩ := hHeld.2.2.1; rw [hw]; exact Blk.row Bo _)
               have hHeld3 := HKS.out.at_ w165 ⟨by rw [hw]; exact Since.setRow hHeld.1 HGn5.out _, by rw [hw]; exact Blk.row_far (hHeld.2.1) (Ne.symm HNn5n4.out) _, HasRow.of HRn5.out pr_size, by rw [hw]; exact Blk.row_far (hHeld.2.2.2.1) HNn6n5.out _, by rw [hw]; exact Blk.row_far (hHeld.2.2.2.2.1) HNn7n5.out _, by rw [hw]; exact Blk.row_far (hHeld.2.2.2.2.2.1) HNn10n5.out _, by rw [hw]; exact LO.row_far (hHeld.2.2.2.2.2.2.1) HIn5_a_160.out _, by rw [hw]; exact LO.row_far (hHeld.2.2.2.2.2.2.2.1) HIn5b.out _, by rw [hw]; exact own_row_far (hHeld.2.2.2.2.2.2.2.2) HIn5re.out _⟩
               refine hK.out _ _ hHeld3 (fun hHeld2 => ?_)
               clear hK K hHeld hHeld3 hw
               have hHeld := hHeld2
               clear hHeld2
               (try simp only [Act.put, sA, sB, sC])
               refine wpAnyH_done (by kernel_rfl) ?_ _
               have HSd17 := Lib.hid hHeld.1
               have HBn4d17 := Lib.hid (hHeld.2.1)
               have HBn5d17 := Lib.hid HRn5.out
               clear HRn5
               have HBn6d17 := Lib.hid (hHeld.2.2.2.1)
               have HBn7d17 := Lib.hid (hHeld.2.2.2.2.1)
               have HBn10d17 := Lib.hid (hHeld.2.2.2.2.2.1)
               have HFad17 := Lib.hid (hHeld.2.2.2.2.2.2.1)
               have HFbd17 := Lib.hid (hHeld.2.2.2.2.2.2.2.1)
               have HFred17 := Lib.hid (hHeld.2.2.2.2.2.2.2.2)
               clear hHeld HRK HKS HS162 HBn4162 HBn5162 HBn6162 HBn7162 HBn10162 HFa_162 HFb_162 HFre_162
               have HFrod17 := Lib.hid HOW_w164r.out
               clear HOW_w164r
               go_wp2_with fail
               refine Met.intro ?_
               exact hJ3 _ _ ⟨b, s, g, c, t, h, st', du', st2, du2, he, he2, an', an2, qa, qb, Sa_17, Sb, ps, (qs ++ [pk]), A1, A_18, c1, c_18, ⟨rfl, rfl, rfl, rfl, rfl, rfl, rfl, rfl, rfl, rfl, rfl, trivial⟩, Lib.hid ⟨HI.out.polls HPV.out, (by have q := HST.out; have q2 := HS2.out; (try push_cast); omega), (fun g hg h => HDDb_a_160.out g h hg), HDEre_18.out, HSd17.out, (by have q := HBn4d17.out; (try push_cast); exact q), (by have q := HBn5d17.out; (try push_cast); exact q), (by have q := HBn6d17.out; (try push_cast); exact q), (by have q := HBn7d17.out; (try push_cast); exact q), HFad17.out, HFbd17.out, HFred17.out, HFrod17.out⟩⟩
              case g17__7b =>
               rw [if_pos (by rfl)]
               refine wp_new (fun b => .slice (some ⟨b, 0, none⟩) 1 1) 38 #[.int .i64 pk.se, .int .i64 pk.ep, .int .i64 pk.sq, .int .i64 pk.ak, .bool pk.ha, .int .i64 pk.m.ki, .int .i64 pk.m.a, .int .i64 pk.m.b, .int .i64 pk.m.c] (by rintro b rfl; first | rfl | kernel_rfl) ?_
               intro bn78 w163 hge hB hb
               refine hK.out _ _ (by (apply HRK.out; exact hb; exact hHeld)) (fun hHeld2 => ?_)
               have HIn78_a := Lib.hid (LO.far (hHeld.2.2.2.2.2.2.1) hge)
               have HIn78_b := Lib.hid (LO.far (hHeld.2.2.2.2.2.2.2.1) hge)
               have HIn78_re := Lib.hid (own_far (hHeld.2.2.2.2.2.2.2.2) hge)
               have HIn78_ro := Lib.hid (own_far HEro.out hge)
               have HPn5k := Lib.hid (keep_blk hb HPn5.out)
               clear HPn5
               have HErok := Lib.hid (keep_own hb HEro.out)
               clear HEro
               have HNn78n4 := Lib.hid (show bn78 ≠ bn4 by have := Blk.lt (hHeld.2.1); (try simp at this); (try simp at hge); omega)
               have HNn78n5 := Lib.hid (show bn78 ≠ bn5 by obtain ⟨old, Bo, _⟩ := hHeld.2.2.1; have := Blk.lt Bo; omega)
               have HNn78n6 := Lib.hid (show bn78 ≠ bn6 by have := Blk.lt (hHeld.2.2.2.1); (try simp at this); (try simp at hge); omega)
               have HNn78n7 := Lib.hid (show bn78 ≠ bn7 by have := Blk.lt (hHeld.2.2.2.2.1); (try simp at this); (try simp at hge); omega)
               have HNn78n10 := Lib.hid (show bn78 ≠ bn10 by have := Blk.lt (hHeld.2.2.2.2.2.1); (try simp at this); (try simp at hge); omega)
               have HGn78 := Lib.hid (show w.heap.size ≤ bn78 by have := Since.size hHeld.1; (try simp at this); (try simp at hge); omega)
               have HXn78 := Lib.hid hB
               clear hB
               clear hge
               clear hK K hHeld hb
               have hHeld := hHeld2
               clear hHeld2
               (try simp only [Act.put, sA, sB, sC])
               refine wpAnyH_ready (rs := [5]) (by kernel_rfl) (by simp) ?_
               refine AllReadyH.cons (o := ?o17_b7_5) ?h17_b7_5 (fun K hK => ?_) AllReadyH.nil
               case h17_b7_5 => (first | (simp only [gA, gB, gC]; done) | (simp only [gA, gB, gC]; exact rfl))
               rw [if_pos (by rfl)]
               refine wp_q (.slice A2 qs.length c2) ?e17_b7_5 ?_
               case e17_b7_5 => exact exec_cell 29 _ _ HPn5k.out (pr_ot HEO.out) rfl rfl Try.underlying29 rfl
               refine hK.out _ _ hHeld (fun hHeld2 => ?_)
               clear hK K hHeld2
               (try simp only [Act.put, sA, sB, sC])
               refine wpAnyH_ready (rs := [8]) (by kernel_rfl) (by simp) ?_
               refine AllReadyH.cons (o := ?o17_b7_8) ?h17_b7_8 (fun K hK => ?_) AllReadyH.nil
               case h17_b7_8 => (first | (simp only [gA, gB, gC]; done) | (simp only [gA, gB, gC]; exact rfl))
               rw [if_pos (by rfl)]
               refine wp_append_row (.tmp 76) (.tmp 78) 29 rfl w.heap.size 38 (Value.agg #[.int .i64 0, .int .i64 0, .int .i64 0, .int .i64 0, .bool false, .int .i64 0, .int .i64 0, .int .i64 0, .int .i64 0]) 9 72 Try.underlying29 (by kernel_rfl) rfl (by decide) (by decide) A2 qs.length c2 (rowsOf pkL qs) rfl HErok.out _ (some ⟨bn78, 0, none⟩) 1 1 (pkL pk) rfl (reads_blk (cs := pkL pk) HXn78.out rfl) (pkL_one pk) (by have := HBO.out; omega) (Since.size hHeld.1) ((qs ++ [pk]).length) (rowsOf pkL (qs ++ [pk])) (by simp) (by rw [rowsOf_append, rowsOf_one]) ?_
               intro A_19 c_19 w164 hown hupd hfar
               have hHeld3 := HKS.out.at_ w164 ⟨Since.upd hHeld.1 hupd (own_low HErok.out), Upd.blk hupd (hHeld.2.1) (own_ne_ty HErok.out (hHeld.2.1) (by decide)), HasRow.upd hupd (hHeld.2.2.1) (own_ne_ty HErok.out HPn5k.out (by decide)), Upd.blk hupd (hHeld.2.2.2.1) (own_ne_ty HErok.out (hHeld.2.2.2.1) (by decide)), Upd.blk hupd (hHeld.2.2.2.2.1) (own_ne_ty HErok.out (hHeld.2.2.2.2.1) (by decide)), Upd.blk hupd (hHeld.2.2.2.2.2.1) HIn10_ro.out, LO.upd hupd (hHeld.2.2.2.2.2.2.1) (fun g hg h => HDDro_a_160.out g h hg), LO.upd hupd (hHeld.2.2.2.2.2.2.2.1) (fun g hg h => HDrob.out g h hg), Upd.own hupd (hHeld.2.2.2.2.2.2.2.2) HDR.out⟩
               have HDEa_19 := Lib.hid (dis_next hfar (fun g hg h => HDDro_a_160.out g h hg) (LO.lt (hHeld.2.2.2.2.2.2.1)))
               have HDEb_19 := Lib.hid (dis_next hfar (fun g hg h => HDrob.out g h hg) (LO.lt (hHeld.2.2.2.2.2.2.2.1)))
               have HDEre_19 := Lib.hid (dis_next hfar HDR.out (own_lt (hHeld.2.2.2.2.2.2.2.2)))
               have HPn5ku := Lib.hid (Upd.blk hupd HPn5k.out (own_ne_ty HErok.out HPn5k.out (by decide)))
               have HIn5_ro_19 := Lib.hid (nin_next hfar (own_ne_ty HErok.out HPn5k.out (by decide)) (Blk.lt HPn5k.out))
               clear HPn5k
               have HOW_w164 := Lib.hid hown
               refine hK.out _ _ hHeld3 (fun hHeld2 => ?_)
               clear hK K hHeld hHeld3 hupd hown hfar HErok HXn78
               have hHeld := hHeld2
               clear hHeld2
               (try simp only [Act.put, sA, sB, sC])
               refine tkQ 9 (.pointer (some ⟨bn5, o, none⟩)) hHeld (he := by intro w hSw; exact exec_arr (i := o) (n := 2) 30 29 _ _ rfl rfl rfl rfl (by have := HEO.out; omega) Try.underlying30 (by kernel_rfl)) (h := ?_)
               (try simp only [Act.put, sA, sB, sC])
               refine wpAnyH_ready (rs := [10]) (by kernel_rfl) (by simp) ?_
               refine AllReadyH.cons (o := ?o17_b7_10) ?h17_b7_10 (fun K hK => ?_) AllReadyH.nil
               case h17_b7_10 => (first | (simp only [gA, gB, gC]; done) | (simp only [gA, gB, gC]; exact rfl))
               rw [if_pos (by rfl)]
               refine wp_st_cell 29 _ _ rfl (pr e (.slice A1 ps.length c1) (.slice A_19 ((qs ++ [pk]).length) c_19)) (.slice A_19 ((qs ++ [pk]).length) c_19) rfl rfl HPn5ku.out (by rw [pr_size]; have := HEO.out; omega) (pr_seto HEO.out) (by first | rfl | simp [Value.oneCell']) (by kernel_rfl) ?_
               clear HPn5ku
               intro w165 hw
               have HOW_w164r := Lib.hid (show (w165).ownsRow w.heap.size 38 9 (.slice A_19 ((qs ++ [pk]).length) c_19) ((qs ++ [pk]).length) (rowsOf pkL (qs ++ [pk])) by rw [hw]; exact own_row_far HOW_w164.out HIn5_ro_19.out _)
               clear HOW_w164
               have HRn5 := Lib.hid (show Blk w165 bn5 30 (pr e (.slice A1 ps.length c1) (.slice A_19 ((qs ++ [pk]).length) c_19)) by obtain ⟨old, Bo, _⟩ := hHeld.2.2.1; rw [hw]; exact Blk.row Bo _)
               have hHeld3 := HKS.out.at_ w165 ⟨by rw [hw]; exact Since.setRow hHeld.1 HGn5.out _, by rw [hw]; exact Blk.row_far (hHeld.2.1) (Ne.symm HNn5n4.out) _, HasRow.of HRn5.out pr_size, by rw [hw]; exact Blk.row_far (hHeld.2.2.2.1) HNn6n5.out _, by rw [hw]; exact Blk.row_far (hHeld.2.2.2.2.1) HNn7n5.out _, by rw [hw]; exact Blk.row_far (hHeld.2.2.2.2.2.1) HNn10n5.out _, by rw [hw]; exact LO.row_far (hHeld.2.2.2.2.2.2.1) HIn5_a_160.out _, by rw [hw]; exact LO.row_far (hHeld.2.2.2.2.2.2.2.1) HIn5b.out _, by rw [hw]; exact own_row_far (hHeld.2.2.2.2.2.2.2.2) HIn5re.out _⟩
               refine hK.out _ _ hHeld3 (fun hHeld2 => ?_)
               clear hK K hHeld hHeld3 hw
               have hHeld := hHeld2
               clear hHeld2
               (try simp only [Act.put, sA, sB, sC])
               refine wpAnyH_done (by kernel_rfl) ?_ _
               have HSd17v2 := Lib.hid hHeld.1
               have HBn4d17v2 := Lib.hid (hHeld.2.1)
               have HBn5d17v2 := Lib.hid HRn5.out
               clear HRn5
               have HBn6d17v2 := Lib.hid (hHeld.2.2.2.1)
               have HBn7d17v2 := Lib.hid (hHeld.2.2.2.2.1)
               have HBn10d17v2 := Lib.hid (hHeld.2.2.2.2.2.1)
               have HFad17v2 := Lib.hid (hHeld.2.2.2.2.2.2.1)
               have HFbd17v2 := Lib.hid (hHeld.2.2.2.2.2.2.2.1)
               have HFred17v2 := Lib.hid (hHeld.2.2.2.2.2.2.2.2)
               clear hHeld HRK HKS HS162 HBn4162 HBn5162 HBn6162 HBn7162 HBn10162 HFa_162 HFb_162 HFre_162
               have HFrod17v2 := Lib.hid HOW_w164r.out
               clear HOW_w164r
               go_wp2_with fail
               refine Met.intro ?_
               exact hJ3 _ _ ⟨b, s, g, c, t, h, st', du', st2, du2, he, he2, an', an2, qa, qb, Sa_17, Sb, ps, (qs ++ [pk]), A1, A_19, c1, c_19, ⟨rfl, rfl, rfl, rfl, rfl, rfl, rfl, rfl, rfl, rfl, rfl, trivial⟩, Lib.hid ⟨HI.out.polls HPV.out, (by have q := HST.out; have q2 := HS2.out; (try push_cast); omega), (fun g hg h => HDDb_a_160.out g h hg), HDEre_19.out, HSd17v2.out, (by have q := HBn4d17v2.out; (try push_cast); exact q), (by have q := HBn5d17v2.out; (try push_cast); exact q), (by have q := HBn6d17v2.out; (try push_cast); exact q), (by have q := HBn7d17v2.out; (try push_cast); exact q), HFad17v2.out, HFbd17v2.out, HFred17v2.out, HFrod17v2.out⟩⟩
         · have HK1 := Lib.hid hcs; clear hcs
           go_upto_region 11 with fail
           refine wp_region_lit ?_
           refine wpList_q (by rfl) (.bool true) ?he ?_
           case he => (have q := HK1.out; go_simp; (first | done | exact q | (simp [q]; done) | omega))
           (try simp only [Act.put, sA, sB, sC])
           refine tkL (.bool true) (h := ?_)
           (try simp only [Act.put, sA, sB, sC])
           refine wpList_nil ?_
           by_cases hcs : s < b + 4
           rotate_left
           · have HW4 := Lib.hid hcs; clear hcs
             go_upto_region 12 with fail
             have HKS : Hid (KeepS (fun W : World => Since w W ∧ Blk W bn4 28 (pr e (.pointer (some ⟨qa, 0, none⟩)) (.pointer (some ⟨qb, 0, none⟩))) ∧ Blk W bn5 30 (pr e (.slice A1 ps.length c1) (.slice A2 qs.length c2)) ∧ Blk W bn6 31 (pr e (.int .i64 (s : Int)) (.int .i64 (t : Int))) ∧ Blk W bn7 31 (pr e (.int .i64 (g : Int)) (.int .i64 (h : Int))) ∧ LO w.heap.size qb (kO c st2 du2 h an2 he2) (mo c t) Sb W ∧ (W).ownsRow w.heap.size 38 9 (.slice A1 ps.length c1) ps.length (rowsOf pkL ps) ∧ (W).ownsRow w.heap.size 38 9 (.slice A2 qs.length c2) qs.length (rowsOf pkL qs)) wc) := Lib.hid ⟨fun W W' k ⟨h, h0, h1, h2, h3, h4, h5, h6⟩ => ⟨h.trans k, keep_blk k h0, keep_blk k h1, keep_blk k h2, keep_blk k h3, LO.keep k h4, keep_own k h5, keep_own k h6⟩, ⟨HS159.out, HBn4159.out, HBn5159.out, HBn6159.out, HBn7159.out, HFb159.out, HFre159.out, HFro159.out⟩⟩
             have HRK := Lib.hid HKS.out.1
             have HEa := Lib.hid (show LO w.heap.size qa (kO b st du g an he) (mo b s) Sa (World.drew wc) from HFa159.out)
             clear HFa159
             refine wp_held HKS.out (by kernel_rfl) (fun hHeld => ?_)
             refine tkQ 0 (.int .i64 (e : Int)) hHeld (h := ?_)
             (try simp only [Act.put, sA, sB, sC])
             refine tkQ 1 (.pointer (some ⟨bn4, e, none⟩)) hHeld (he := by intro w hSw; exact exec_arr (i := e) (n := 2) 28 26 _ _ rfl rfl rfl rfl (by have := HEO.out; omega) Try.underlying28 (by kernel_rfl)) (h := ?_)
             (try simp only [Act.put, sA, sB, sC])
             refine tkQ 2 (.pointer (some ⟨qa, 0, none⟩)) hHeld (he := by intro w hSw; exact exec_cell 26 _ _ hSw.2.1 (pr_at HEO.out) rfl rfl Try.underlying26 rfl) (h := ?_)
             (try simp only [Act.put, sA, sB, sC])
             refine tkQ 3 (.int .i64 (e : Int)) hHeld (h := ?_)
             (try simp only [Act.put, sA, sB, sC])
             refine tkQ 4 (.pointer (some ⟨bn6, e, none⟩)) hHeld (he := by intro w hSw; exact exec_arr (i := e) (n := 2) 31 3 _ _ rfl rfl rfl rfl (by have := HEO.out; omega) Try.underlying31 (by kernel_rfl)) (h := ?_)
             (try simp only [Act.put, sA, sB, sC])
             refine tkQ 5 (.int .i64 (s : Int)) hHeld (he := by intro w hSw; exact exec_cell 3 _ _ hSw.2.2.2.1 (pr_at HEO.out) rfl rfl Try.underlying3 rfl) (h := ?_)
             (try simp only [Act.put, sA, sB, sC])
             refine tkQ 6 (.agg #[.int .i64 1, .int .i64 (s : Int), .int .i64 0, .int .i64 0]) hHeld (he := by intro w hSw; kernel_rfl) (h := ?_)
             (try simp only [Act.put, sA, sB, sC])
             refine wpAnyH_ready (rs := [7]) (by kernel_rfl) (by simp) ?_
             refine AllReadyH.cons (o := ?o12__7) ?h12__7 (fun K hK => ?_) AllReadyH.nil
             case h12__7 => (first | (simp only [gA, gB, gC]; done) | (simp only [gA, gB, gC]; exact rfl))
             (try go_simp)
             refine (sendN HEa.out (by have := HBO.out; omega) (by have := HBO.out; omega) HW4.out).mono ?_
             rintro e w160 ⟨Sa_20, rfl, hobj, hupd, hfar⟩
             (try go_wp2_with fail)
             have hHeld3 := HKS.out.at_ w160 ⟨Since.upd hHeld.1 hupd (LO.low HEa.out), Upd.blk hupd (hHeld.2.1) HIn4a.out, Upd.blk hupd (hHeld.2.2.1) HIn5a.out, Upd.blk hupd (hHeld.2.2.2.1) HIn6a.out, Upd.blk hupd (hHeld.2.2.2.2.1) HIn7a.out, LO.upd hupd (hHeld.2.2.2.2.2.1) (fun g hg h => HDS.out g h hg), Upd.own hupd (hHeld.2.2.2.2.2.2.1) HDrea.out, Upd.own hupd (hHeld.2.2.2.2.2.2.2) HDroa.out⟩
             have HIn4_a_w160 := Lib.hid (nin_next hfar HIn4a.out (Blk.lt (hHeld.2.1)))
             have HIn5_a_w160 := Lib.hid (nin_next hfar HIn5a.out (Blk.lt (hHeld.2.2.1)))
             have HIn6_a_w160 := Lib.hid (nin_next hfar HIn6a.out (Blk.lt (hHeld.2.2.2.1)))
             have HIn7_a_w160 := Lib.hid (nin_next hfar HIn7a.out (Blk.lt (hHeld.2.2.2.2.1)))
             have HDDb_a_w160 := Lib.hid (dis_next hfar (fun g hg h => HDS.out g h hg) (LO.lt (hHeld.2.2.2.2.2.1)))
             have HDDre_a_w160 := Lib.hid (dis_next hfar HDrea.out (own_lt (hHeld.2.2.2.2.2.2.1)))
             have HDDro_a_w160 := Lib.hid (dis_next hfar HDroa.out (own_lt (hHeld.2.2.2.2.2.2.2)))
             have HUa_w160 := Lib.hid hobj
             clear HEa
             refine hK.out _ _ hHeld3 (fun hHeld2 => ?_)
             clear hK K hHeld hHeld3 hupd hobj hfar
             have hHeld := hHeld2
             clear hHeld2
             (try simp only [Act.put, sA, sB, sC])
             refine wpAnyH_done (by kernel_rfl) ?_ _
             have HSd12 := Lib.hid hHeld.1
             have HBn4d12 := Lib.hid (hHeld.2.1)
             have HBn5d12 := Lib.hid (hHeld.2.2.1)
             have HBn6d12 := Lib.hid (hHeld.2.2.2.1)
             have HBn7d12 := Lib.hid (hHeld.2.2.2.2.1)
             have HFbd12 := Lib.hid (hHeld.2.2.2.2.2.1)
             have HFred12 := Lib.hid (hHeld.2.2.2.2.2.2.1)
             have HFrod12 := Lib.hid (hHeld.2.2.2.2.2.2.2)
             clear hHeld HRK HKS HS159 HBn4159 HBn5159 HBn6159 HBn7159 HFb159 HFre159 HFro159
             have HFad12 := Lib.hid HUa_w160.out
             clear HUa_w160
             go_wp2_with fail
             refine Met.intro ?_
             exact hJ3 _ _ ⟨b, s, g, c, t, h, st, du, st2, du2, he, he2, an, an2, qa, qb, Sa_20, Sb, ps, qs, A1, A2, c1, c2, ⟨rfl, rfl, rfl, rfl, rfl, rfl, rfl, rfl, rfl, rfl, rfl, trivial⟩, Lib.hid ⟨HI.out.wait, (by have q := HST.out; (try push_cast); omega), (fun g hg h => HDDb_a_w160.out g h hg), HDR.out, HSd12.out, (by have q := HBn4d12.out; (try push_cast); exact q), (by have q := HBn5d12.out; (try push_cast); exact q), (by have q := HBn6d12.out; (try push_cast); exact q), (by have q := HBn7d12.out; (try push_cast); exact q), HFad12.out, HFbd12.out, HFred12.out, HFrod12.out⟩⟩
           · have HW4 := Lib.hid hcs; clear hcs
             go_upto_region 12 with fail
             have HKS : Hid (KeepS (fun W : World => Since w W ∧ Blk W bn4 28 (pr e (.pointer (some ⟨qa, 0, none⟩)) (.pointer (some ⟨qb, 0, none⟩))) ∧ Blk W bn5 30 (pr e (.slice A1 ps.length c1) (.slice A2 qs.length c2)) ∧ Blk W bn6 31 (pr e (.int .i64 (s : Int)) (.int .i64 (t : Int))) ∧ Blk W bn7 31 (pr e (.int .i64 (g : Int)) (.int .i64 (h : Int))) ∧ LO w.heap.size qb (kO c st2 du2 h an2 he2) (mo c t) Sb W ∧ (W).ownsRow w.heap.size 38 9 (.slice A1 ps.length c1) ps.length (rowsOf pkL ps) ∧ (W).ownsRow w.heap.size 38 9 (.slice A2 qs.length c2) qs.length (rowsOf pkL qs)) wc) := Lib.hid ⟨fun W W' k ⟨h, h0, h1, h2, h3, h4, h5, h6⟩ => ⟨h.trans k, keep_blk k h0, keep_blk k h1, keep_blk k h2, keep_blk k h3, LO.keep k h4, keep_own k h5, keep_own k h6⟩, ⟨HS159.out, HBn4159.out, HBn5159.out, HBn6159.out, HBn7159.out, HFb159.out, HFre159.out, HFro159.out⟩⟩
             have HRK := Lib.hid HKS.out.1
             have HEa := Lib.hid (show LO w.heap.size qa (kO b st du g an he) (mo b s) Sa (World.drew wc) from HFa159.out)
             clear HFa159
             refine wp_held HKS.out (by kernel_rfl) (fun hHeld => ?_)
             refine tkQ 0 (.int .i64 (e : Int)) hHeld (h := ?_)
             (try simp only [Act.put, sA, sB, sC])
             refine tkQ 1 (.pointer (some ⟨bn4, e, none⟩)) hHeld (he := by intro w hSw; exact exec_arr (i := e) (n := 2) 28 26 _ _ rfl rfl rfl rfl (by have := HEO.out; omega) Try.underlying28 (by kernel_rfl)) (h := ?_)
             (try simp only [Act.put, sA, sB, sC])
             refine tkQ 2 (.pointer (some ⟨qa, 0, none⟩)) hHeld (he := by intro w hSw; exact exec_cell 26 _ _ hSw.2.1 (pr_at HEO.out) rfl rfl Try.underlying26 rfl) (h := ?_)
             (try simp only [Act.put, sA, sB, sC])
             refine tkQ 3 (.int .i64 (e : Int)) hHeld (h := ?_)
             (try simp only [Act.put, sA, sB, sC])
             refine tkQ 4 (.pointer (some ⟨bn6, e, none⟩)) hHeld (he := by intro w hSw; exact exec_arr (i := e) (n := 2) 31 3 _ _ rfl rfl rfl rfl (by have := HEO.out; omega) Try.underlying31 (by kernel_rfl)) (h := ?_)
             (try simp only [Act.put, sA, sB, sC])
             refine tkQ 5 (.int .i64 (s : Int)) hHeld (he := by intro w hSw; exact exec_cell 3 _ _ hSw.2.2.2.1 (pr_at HEO.out) rfl rfl Try.underlying3 rfl) (h := ?_)
             (try simp only [Act.put, sA, sB, sC])
             refine tkQ 6 (.agg #[.int .i64 1, .int .i64 (s : Int), .int .i64 0, .int .i64 0]) hHeld (he := by intro w hSw; kernel_rfl) (h := ?_)
             (try simp only [Act.put, sA, sB, sC])
             refine wpAnyH_ready (rs := [7]) (by kernel_rfl) (by simp) ?_
             refine AllReadyH.cons (o := ?o12__7) ?h12__7 (fun K hK => ?_) AllReadyH.nil
             case h12__7 => (first | (simp only [gA, gB, gC]; done) | (simp only [gA, gB, gC]; exact rfl))
             (try go_simp)
             refine (sendY HEa.out (by have := HBO.out; omega) (by have := HBO.out; omega) HW4.out).mono ?_
             rintro e w160 ⟨Sa_20, rfl, hobj, hupd, hfar⟩
             (try go_wp2_with fail)
             have hHeld3 := HKS.out.at_ w160 ⟨Since.upd hHeld.1 hupd (LO.low HEa.out), Upd.blk hupd (hHeld.2.1) HIn4a.out, Upd.blk hupd (hHeld.2.2.1) HIn5a.out, Upd.blk hupd (hHeld.2.2.2.1) HIn6a.out, Upd.blk hupd (hHeld.2.2.2.2.1) HIn7a.out, LO.upd hupd (hHeld.2.2.2.2.2.1) (fun g hg h => HDS.out g h hg), Upd.own hupd (hHeld.2.2.2.2.2.2.1) HDrea.out, Upd.own hupd (hHeld.2.2.2.2.2.2.2) HDroa.out⟩
             have HIn4_a_w160 := Lib.hid (nin_next hfar HIn4a.out (Blk.lt (hHeld.2.1)))
             have HIn5_a_w160 := Lib.hid (nin_next hfar HIn5a.out (Blk.lt (hHeld.2.2.1)))
             have HIn6_a_w160 := Lib.hid (nin_next hfar HIn6a.out (Blk.lt (hHeld.2.2.2.1)))
             have HIn7_a_w160 := Lib.hid (nin_next hfar HIn7a.out (Blk.lt (hHeld.2.2.2.2.1)))
             have HDDb_a_w160 := Lib.hid (dis_next hfar (fun g hg h => HDS.out g h hg) (LO.lt (hHeld.2.2.2.2.2.1)))
             have HDDre_a_w160 := Lib.hid (dis_next hfar HDrea.out (own_lt (hHeld.2.2.2.2.2.2.1)))
             have HDDro_a_w160 := Lib.hid (dis_next hfar HDroa.out (own_lt (hHeld.2.2.2.2.2.2.2)))
             have HUa_w160 := Lib.hid hobj
             clear HEa
             refine hK.out _ _ hHeld3 (fun hHeld2 => ?_)
             clear hK K hHeld hHeld3 hupd hobj hfar
             have hHeld := hHeld2
             clear hHeld2
             (try simp only [Act.put, sA, sB, sC])
             refine wpAnyH_done (by kernel_rfl) ?_ _
             have HSd12 := Lib.hid hHeld.1
             have HBn4d12 := Lib.hid (hHeld.2.1)
             have HBn5d12 := Lib.hid (hHeld.2.2.1)
             have HBn6d12 := Lib.hid (hHeld.2.2.2.1)
             have HBn7d12 := Lib.hid (hHeld.2.2.2.2.1)
             have HFbd12 := Lib.hid (hHeld.2.2.2.2.2.1)
             have HFred12 := Lib.hid (hHeld.2.2.2.2.2.2.1)
             have HFrod12 := Lib.hid (hHeld.2.2.2.2.2.2.2)
             clear hHeld HRK HKS HS159 HBn4159 HBn5159 HBn6159 HBn7159 HFb159 HFre159 HFro159
             have HFad12 := Lib.hid HUa_w160.out
             clear HUa_w160
             go_upto_region 13 with fail
             refine wp_region_lit ?_
             refine tkL (.int .i64 (e : Int)) (h := ?_)
             (try simp only [Act.put, sA, sB, sC])
             refine wpList_q (by rfl) (.pointer (some ⟨bn6, e, none⟩)) ?he ?_
             case he => exact exec_arr (i := e) (n := 2) 31 3 _ _ rfl rfl rfl rfl (by have := HEO.out; omega) Try.underlying31 (by kernel_rfl)
             (try simp only [Act.put, sA, sB, sC])
             refine wpList_q (by rfl) (.int .i64 (s : Int)) ?he ?_
             case he => exact exec_cell 3 _ _ HBn6d12.out (pr_at HEO.out) rfl rfl Try.underlying3 rfl
             (try simp only [Act.put, sA, sB, sC])
             refine wpList_q (by rfl) (.int .i64 ((s : Int) + 1)) ?he ?_
             case he => (go_simp; (first | done | (refine wrL _ ?_ ?_ <;> (have q0 := HBO.out; omega)) | (have q0 := HBO.out; omega) | (have q0 := HBO.out; split <;> omega) | (have q0 := HBO.out; intro hh; omega)))
             (try simp only [Act.put, sA, sB, sC])
             refine wpList_q (by rfl) (.pointer (some ⟨bn6, e, none⟩)) ?he ?_
             case he => exact exec_arr (i := e) (n := 2) 31 3 _ _ rfl rfl rfl rfl (by have := HEO.out; omega) Try.underlying31 (by kernel_rfl)
             (try simp only [Act.put, sA, sB, sC])
             refine wpList_wp (by rfl) (fun K hK => ?_)
             refine wp_st_cell 3 _ _ rfl (pr e (.int .i64 ((s : Int) + 1)) (.int .i64 (t : Int))) (.int .i64 ((s : Int) + 1)) rfl rfl HBn6d12.out (by rw [pr_size]; have := HEO.out; omega) (pr_set HEO.out) (by first | rfl | simp [Value.oneCell']) (by kernel_rfl) ?_
             intro w161 hw
             refine hK.out _ _ ?_
             clear hK K
             (try simp only [Act.put, sA, sB, sC])
             have HS161 := Lib.hid (show Since w w161 by rw [hw]; exact Since.setRow HSd12.out HGn6.out _)
             have HBn4161 := Lib.hid (show Blk w161 bn4 28 (pr e (.pointer (some ⟨qa, 0, none⟩)) (.pointer (some ⟨qb, 0, none⟩))) by rw [hw]; exact Blk.row_far HBn4d12.out (Ne.symm HNn6n4.out) _)
             have HBn5161 := Lib.hid (show Blk w161 bn5 30 (pr e (.slice A1 ps.length c1) (.slice A2 qs.length c2)) by rw [hw]; exact Blk.row_far HBn5d12.out (Ne.symm HNn6n5.out) _)
             have HBn6161 := Lib.hid (show Blk w161 bn6 31 (pr e (.int .i64 ((s : Int) + 1)) (.int .i64 (t : Int))) by rw [hw]; exact Blk.row HBn6d12.out _)
             have HBn7161 := Lib.hid (show Blk w161 bn7 31 (pr e (.int .i64 (g : Int)) (.int .i64 (h : Int))) by rw [hw]; exact Blk.row_far HBn7d12.out HNn7n6.out _)
             have HFa_161 := Lib.hid (show LO w.heap.size qa (kO b st du g an he) (mo b (s + 1)) Sa_20 w161 by rw [hw]; exact LO.row_far HFad12.out HIn6_a_w160.out _)
             have HFb_161 := Lib.hid (show LO w.heap.size qb (kO c st2 du2 h an2 he2) (mo c t) Sb w161 by rw [hw]; exact LO.row_far HFbd12.out HIn6b.out _)
             have HFre_161 := Lib.hid (show (w161).ownsRow w.heap.size 38 9 (.slice A1 ps.length c1) ps.length (rowsOf pkL ps) by rw [hw]; exact own_row_far HFred12.out HIn6re.out _)
             have HFro_161 := Lib.hid (show (w161).ownsRow w.heap.size 38 9 (.slice A2 qs.length c2) qs.length (rowsOf pkL qs) by rw [hw]; exact own_row_far HFrod12.out HIn6ro.out _)
             clear hw HSd12 HBn4d12 HBn5d12 HBn6d12 HBn7d12 HFad12 HFbd12 HFred12 HFrod12
             refine wpList_nil ?_
             go_wp2_with fail
             refine Met.intro ?_
             exact hJ3 _ _ ⟨b, (s + 1), g, c, t, h, st, du, st2, du2, he, he2, an, an2, qa, qb, Sa_20, Sb, ps, qs, A1, A2, c1, c2, ⟨rfl, rfl, rfl, rfl, rfl, rfl, rfl, rfl, rfl, rfl, rfl, trivial⟩, Lib.hid ⟨HI.out.sends, (by have q := HST.out; (try push_cast); omega), (fun g hg h => HDDb_a_w160.out g h hg), HDR.out, HS161.out, (by have q := HBn4161.out; (try push_cast); exact q), (by have q := HBn5161.out; (try push_cast); exact q), (by have q := HBn6161.out; (try push_cast); exact q), (by have q := HBn7161.out; (try push_cast); exact q), HFa_161.out, HFb_161.out, HFre_161.out, HFro_161.out⟩⟩
        case rest3 =>
         intro fr wc hR
         clear HS159 HBn4159 HBn5159 HBn6159 HBn7159 HFa159 HFb159 HFre159 HFro159
         obtain ⟨b, s, g, c, t, h, st, du, st2, du2, he, he2, an, an2, qa, qb, Sa, Sb, ps, qs, A1, A2, c1, c2, hF, HO⟩ := hR
         obtain ⟨e0, e1, e2, e3, g0, g1, g2, g3, g4, g5, g6, g7, g8⟩ := HO.out
         clear HO
         have HIq := Lib.hid e0
         have HSTq := Lib.hid e1
         have HDSq := Lib.hid e2
         have HDRq := Lib.hid e3
         have HS209 := Lib.hid g0
         have HBn4209 := Lib.hid g1
         have HBn5209 := Lib.hid g2
         have HBn6209 := Lib.hid g3
         have HBn7209 := Lib.hid g4
         have HFa209 := Lib.hid g5
         have HFb209 := Lib.hid g6
         have HFre209 := Lib.hid g7
         have HFro209 := Lib.hid g8
         clear e0 e1 e2 e3 g0 g1 g2 g3 g4 g5 g6 g7 g8
         obtain ⟨u, hu⟩ := hF.open_
         have hu2 := hu.trans (show _ = #[.slice (some ⟨bm, om, none⟩) len cap, u 1, .bool false, .pointer (some ⟨bn3, 0, none⟩), .pointer (some ⟨bn4, 0, none⟩), .pointer (some ⟨bn5, 0, none⟩), .pointer (some ⟨bn6, 0, none⟩), .pointer (some ⟨bn7, 0, none⟩), .int .i64 (i : Int), .int .i64 (e : Int), u 10, u 11, u 12, u 13, u 14, u 15, u 16, u 17, u 18, u 19, u 20, u 21, u 22, u 23, u 24, u 25, u 26, u 27, u 28, u 29, u 30, u 31, u 32, u 33, u 34, u 35, u 36, u 37, u 38, u 39, u 40, u 41, u 42, u 43, .int .i64 ((vs i).k), u 45, u 46, u 47, u 48, u 49, u 50, u 51, u 52, u 53, u 54, u 55, u 56, u 57, u 58, u 59, u 60, u 61, u 62, u 63, u 64, u 65, u 66, u 67, u 68, u 69, u 70, u 71, u 72, u 73, u 74, u 75, u 76, u 77, u 78, u 79, u 80, u 81, u 82, u 83, u 84, u 85, u 86, u 87, u 88, u 89, u 90, u 91, u 92, u 93, u 94, u 95, u 96, u 97, u 98, u 99, u 100, u 101, u 102, u 103, u 104, u 105, u 106, u 107, u 108, u 109, u 110, u 111, u 112, u 113, u 114, u 115, u 116, u 117, u 118, u 119, u 120, u 121, u 122, u 123, u 124, u 125, u 126, u 127, u 128, u 129, u 130, u 131, u 132, u 133, u 134, u 135, u 136, u 137, u 138, u 139, u 140, u 141, u 142, u 143, u 144, u 145, u 146, u 147, u 148, u 149, u 150, u 151, u 152, u 153, u 154, u 155, u 156, u 157, u 158, u 159, u 160, u 161, u 162, u 163, u 164, u 165, u 166, u 167, u 168, u 169, u 170, u 171, u 172, u 173, u 174, u 175, u 176, u 177, u 178, u 179, u 180, u 181, u 182, u 183, u 184, u 185, u 186, u 187, u 188, u 189, u 190] by kernel_rfl)
         clear hu hF
         subst hu2
         clear HI HST HDS HDR HBO
         have HI := Lib.hid HIq.out; have HST := Lib.hid HSTq.out; have HDS := Lib.hid HDSq.out; have HDR := Lib.hid HDRq.out; clear HIq HSTq HDSq HDRq
         have HPB := Lib.hid (show b ≤ h ∧ h ≤ s ∧ s ≤ 500 from ⟨HI.out.1.1, HI.out.1.2.2, by have q1 := HI.out.2.2.1.1; have q2 := HI4.out; omega⟩)
         go_upto_region 32 with fail
         have HKS : Hid (KeepS (fun W : World => Since w W ∧ Blk W bn4 28 (pr e (.pointer (some ⟨qa, 0, none⟩)) (.pointer (some ⟨qb, 0, none⟩))) ∧ Blk W bn5 30 (pr e (.slice A1 ps.length c1) (.slice A2 qs.length c2)) ∧ Blk W bn6 31 (pr e (.int .i64 (s : Int)) (.int .i64 (t : Int))) ∧ Blk W bn7 31 (pr e (.int .i64 (g : Int)) (.int .i64 (h : Int))) ∧ LO w.heap.size qa (kO b st du g an he) (mo b s) Sa W ∧ LO w.heap.size qb (kO c st2 du2 h an2 he2) (mo c t) Sb W ∧ (W).ownsRow w.heap.size 38 9 (.slice A1 ps.length c1) ps.length (rowsOf pkL ps) ∧ (W).ownsRow w.heap.size 38 9 (.slice A2 qs.length c2) qs.length (rowsOf pkL qs)) wc) := Lib.hid ⟨fun W W' k ⟨h, h0, h1, h2, h3, h4, h5, h6, h7⟩ => ⟨h.trans k, keep_blk k h0, keep_blk k h1, keep_blk k h2, keep_blk k h3, LO.keep k h4, LO.keep k h5, keep_own k h6, keep_own k h7⟩, ⟨HS209.out, HBn4209.out, HBn5209.out, HBn6209.out, HBn7209.out, HFa209.out, HFb209.out, HFre209.out, HFro209.out⟩⟩
         have HRK := Lib.hid HKS.out.1
         refine wp_held HKS.out (by kernel_rfl) (fun hHeld => ?_)
         refine tkQ 0 (.int .i64 (e : Int)) hHeld (h := ?_)
         (try simp only [Act.put, sA, sB, sC])
         refine tkQ 1 (.int .i64 (o : Int)) hHeld (he := by intro w hSw; (have q := HEO.out; go_simp; (first | done | (rw [show (1 : Int) - (e : Int) = (o : Int) by omega]; exact wrL _ (by omega) (by omega)) | omega))) (h := ?_)
         (try simp only [Act.put, sA, sB, sC])
         refine tkQ 2 (.pointer (some ⟨bn7, o, none⟩)) hHeld (he := by intro w hSw; exact exec_arr (i := o) (n := 2) 31 3 _ _ rfl rfl rfl rfl (by have := HEO.out; omega) Try.underlying31 (by kernel_rfl)) (h := ?_)
         (try simp only [Act.put, sA, sB, sC])
         refine tkQ 3 (.int .i64 (h : Int)) hHeld (he := by intro w hSw; exact exec_cell 3 _ _ hSw.2.2.2.2.1 (pr_ot HEO.out) rfl rfl Try.underlying3 rfl) (h := ?_)
         (try simp only [Act.put, sA, sB, sC])
         refine tkQ 4 (.int .i64 (e : Int)) hHeld (h := ?_)
         (try simp only [Act.put, sA, sB, sC])
         refine tkQ 5 (.pointer (some ⟨bn6, e, none⟩)) hHeld (he := by intro w hSw; exact exec_arr (i := e) (n := 2) 31 3 _ _ rfl rfl rfl rfl (by have := HEO.out; omega) Try.underlying31 (by kernel_rfl)) (h := ?_)
         (try simp only [Act.put, sA, sB, sC])
         refine tkQ 6 (.int .i64 (s : Int)) hHeld (he := by intro w hSw; exact exec_cell 3 _ _ hSw.2.2.2.1 (pr_at HEO.out) rfl rfl Try.underlying3 rfl) (h := ?_)
         (try simp only [Act.put, sA, sB, sC])
         refine tkQ 7 (.bool false) hHeld (he := by intro w hSw; (have q0 := HPB.out; go_simp; (first | done | rfl | omega))) (h := ?_)
         (try simp only [Act.put, sA, sB, sC])
         refine tkQ 8 (.bool false) hHeld (h := ?_)
         (try simp only [Act.put, sA, sB, sC])
         refine tkQ 9 (.int .i64 (e : Int)) hHeld (h := ?_)
         (try simp only [Act.put, sA, sB, sC])
         refine tkQ 10 (.pointer (some ⟨bn6, e, none⟩)) hHeld (he := by intro w hSw; exact exec_arr (i := e) (n := 2) 31 3 _ _ rfl rfl rfl rfl (by have := HEO.out; omega) Try.underlying31 (by kernel_rfl)) (h := ?_)
         (try simp only [Act.put, sA, sB, sC])
         refine tkQ 11 (.int .i64 (s : Int)) hHeld (he := by intro w hSw; exact exec_cell 3 _ _ hSw.2.2.2.1 (pr_at HEO.out) rfl rfl Try.underlying3 rfl) (h := ?_)
         (try simp only [Act.put, sA, sB, sC])
         refine tkQ 12 (.int .i64 (e : Int)) hHeld (h := ?_)
         (try simp only [Act.put, sA, sB, sC])
         refine tkQ 13 (.int .i64 (o : Int)) hHeld (he := by intro w hSw; (have q := HEO.out; go_simp; (first | done | (rw [show (1 : Int) - (e : Int) = (o : Int) by omega]; exact wrL _ (by omega) (by omega)) | omega))) (h := ?_)
         (try simp only [Act.put, sA, sB, sC])
         refine tkQ 14 (.pointer (some ⟨bn7, o, none⟩)) hHeld (he := by intro w hSw; exact exec_arr (i := o) (n := 2) 31 3 _ _ rfl rfl rfl rfl (by have := HEO.out; omega) Try.underlying31 (by kernel_rfl)) (h := ?_)
         (try simp only [Act.put, sA, sB, sC])
         refine tkQ 15 (.int .i64 (h : Int)) hHeld (he := by intro w hSw; exact exec_cell 3 _ _ hSw.2.2.2.2.1 (pr_ot HEO.out) rfl rfl Try.underlying3 rfl) (h := ?_)
         (try simp only [Act.put, sA, sB, sC])
         refine tkQ 16 (.int .i64 ((s : Int) - (h : Int))) hHeld (he := by intro w hSw; (go_simp; (first | done | (refine wrL _ ?_ ?_ <;> (have q0 := HPB.out; omega)) | (have q0 := HPB.out; omega) | (have q0 := HPB.out; split <;> omega) | (have q0 := HPB.out; intro hh; omega)))) (h := ?_)
         (try simp only [Act.put, sA, sB, sC])
         refine tkQ 17 (.int .i64 (e : Int)) hHeld (h := ?_)
         (try simp only [Act.put, sA, sB, sC])
         refine tkQ 18 (.pointer (some ⟨bn4, e, none⟩)) hHeld (he := by intro w hSw; exact exec_arr (i := e) (n := 2) 28 26 _ _ rfl rfl rfl rfl (by have := HEO.out; omega) Try.underlying28 (by kernel_rfl)) (h := ?_)
         (try simp only [Act.put, sA, sB, sC])
         refine tkQ 19 (.pointer (some ⟨qa, 0, none⟩)) hHeld (he := by intro w hSw; exact exec_cell 26 _ _ hSw.2.1 (pr_at HEO.out) rfl rfl Try.underlying26 rfl) (h := ?_)
         (try simp only [Act.put, sA, sB, sC])
         refine wpAnyH_ready (rs := [20]) (by kernel_rfl) (by simp) ?_
         refine AllReadyH.cons (o := ?o32__20) ?h32__20 (fun K hK => ?_) AllReadyH.nil
         case h32__20 => (first | (simp only [gA, gB, gC]; done) | (simp only [gA, gB, gC]; exact rfl))
         (try go_simp)
         refine (waitsV (hHeld.2.2.2.2.2.1) ((s : Int) - (b : Int)) (by have q := HPB.out; rw [mo_len]; omega)).mono ?_
         rintro e w210 ⟨rfl, hb⟩
         (try go_wp2_with fail)
         refine hK.out _ _ (by (apply HRK.out; exact hb; exact hHeld)) (fun hHeld2 => ?_)
         clear hK K hHeld hb
         have hHeld := hHeld2
         clear hHeld2
         (try simp only [Act.put, sA, sB, sC])
         refine tkQ 21 (.bool false) hHeld (he := by intro w hSw; (have q0 := HPB.out; go_simp; (first | done | rfl | omega))) (h := ?_)
         (try simp only [Act.put, sA, sB, sC])
         refine tkQ 22 (.bool false) hHeld (h := ?_)
         (try simp only [Act.put, sA, sB, sC])
         refine wpAnyH_done (by kernel_rfl) ?_ _
         have HSd32 := Lib.hid hHeld.1
         have HBn4d32 := Lib.hid (hHeld.2.1)
         have HBn5d32 := Lib.hid (hHeld.2.2.1)
         have HBn6d32 := Lib.hid (hHeld.2.2.2.1)
         have HBn7d32 := Lib.hid (hHeld.2.2.2.2.1)
         have HFad32 := Lib.hid (hHeld.2.2.2.2.2.1)
         have HFbd32 := Lib.hid (hHeld.2.2.2.2.2.2.1)
         have HFred32 := Lib.hid (hHeld.2.2.2.2.2.2.2.1)
         have HFrod32 := Lib.hid (hHeld.2.2.2.2.2.2.2.2)
         clear hHeld HRK HKS HS209 HBn4209 HBn5209 HBn6209 HBn7209 HFa209 HFb209 HFre209 HFro209
         go_upto_region 8 with fail
         refine wp_region_lit ?_
         refine tkL (.int .i64 (i : Int)) (h := ?_)
         (try simp only [Act.put, sA, sB, sC])
         refine wpList_q (by rfl) (.int .i64 ((i : Int) + 1)) ?he ?_
         case he => (go_simp; (first | done | (refine wrL _ ?_ ?_ <;> (have q0 := HI4.out; omega)) | (have q0 := HI4.out; omega) | (have q0 := HI4.out; split <;> omega) | (have q0 := HI4.out; intro hh; omega)))
         (try simp only [Act.put, sA, sB, sC])
         refine tkL (.int .i64 ((i : Int) + 1)) (h := ?_)
         (try simp only [Act.put, sA, sB, sC])
         refine wpList_nil ?_
         go_wp2_with fail
         refine Met.intro ?_
         refine hJ1 _ _ _ ?less210 ⟨e, o, (i + 1), b, s, g, c, t, h, st, du, st2, du2, he, he2, an, an2, qa, qb, Sa, Sb, ps, qs, A1, A2, c1, c2, HEO.out, (by have := HL4.out; omega), (by have := HLT.out; omega), rfl, ⟨rfl, rfl, rfl, rfl, rfl, rfl, rfl, rfl, rfl, trivial⟩, Lib.hid ⟨HI.out, HST.out, HDS.out, HDR.out, HSd32.out, HBn4d32.out, HBn5d32.out, HBn6d32.out, HBn7d32.out, HFad32.out, HFbd32.out, HFred32.out, HFrod32.out⟩⟩
         case less210 => exact (by have := HM.out; have := HL4.out; omega)
theorem orderF {H : Type} {enc : TypeId × Value → H} {x0 : DataW H × List MemPlace} (a0 : Option Addr) (len0 cap0 : Nat) (w : World)
    (h0 : ∃ m, DataW.trod enc Try.prog w 0 (fun _ => true) true m 22 (Value.cells (.slice a0 len0 cap0)).toList = some x0) :
    Calls Try.prog 3 #[.slice a0 len0 cap0] w fun e w' => e = .returned (.bool true) ∧ Since w w' := by
  obtain ⟨m0, h0⟩ := h0
  obtain ⟨vs, hX, hl⟩ := Go.Proofs.Ytlihhjcneedgnaa.Mv.MV.open_ h0
  exact order a0 len0 cap0 vs w hX hl
end Go.Proofs.Ytlihhjcneedgnaa.Lo
