/-
  What is wanted by the last of these texts, part 24.
  No condition.
-/
import Derived.Test.YtpacieocmogjeaaProg
import Derived.Test.YtpacieocmogjeaaKGv0
import Derived.Test.YtpacieocmogjeaaKGv23
namespace Go.Proofs.Ytpacieocmogjeaa.Gr
set_option linter.unusedVariables false
set_option linter.unusedSimpArgs false
open Go.RowKit Go.Proofs.Ytpacieocmogjeaa.Ba Go.Proofs.Ytpacieocmogjeaa.Mem Go.Proofs.Ytpacieocmogjeaa.Ty Go.Proofs.Ytpacieocmogjeaa.Mo Go.Proofs.Ytpacieocmogjeaa.St Go.Proofs.Ytpacieocmogjeaa.Sc Go.Proofs.Ytpacieocmogjeaa.Pl
open Go.Proofs.Ytpacieocmogjeaa.Ct (cfgA carA m1 dwV bdX tkV tkF tkW tkS tickT)
open Go.Proofs.Ytpacieocmogjeaa.Go16 (OpV opC OV)
set_option maxRecDepth 100000
attribute [local irreducible] Go.wpList
theorem hasV (x : CarV) (a : WaitV) (w : World) (hr : R x.sp ∧ R x.su ∧ R x.sd) (h : hasW x a) : Calls Try.prog 22 #[.agg #[.int .u64 x.sp, .int .u64 x.su, .int .u64 x.sd], .int .i64 a.fl, .int .i64 a.wy] w fun e w' => e = .returned (.bool true) ∧ Since w w' := by
  have q := Go.Proofs.Ytpacieocmogjeaa.St.hallR x.sp x.su x.sd a.fl a.wy hr.2.1 hr.2.2 w
  unfold hasW at h
  rw [h] at q
  exact q
theorem stops_at {w : World} {g i : Nat} {x : CarV} (h : ∀ j v, (carL x)[j]? = some v → w.cell? ⟨g, i * 15 + j, none⟩ = some v) : ∀ j v, ([.int .u64 x.sp, .int .u64 x.su, .int .u64 x.sd] : List Value)[j]? = some v → w.cell? ⟨g, i * 15 + 12 + j, none⟩ = some v := by
  intro j v hj
  have q := h (12 + j) v (by
    rcases j with _ | _ | _ | j
    · exact hj
    · exact hj
    · exact hj
    · simp at hj)
  rw [← Nat.add_assoc] at q
  exact q
theorem br_at {w : World} {g i : Nat} {x : CarV} (h : ∀ j v, (carL x)[j]? = some v → w.cell? ⟨g, i * 15 + j, none⟩ = some v) {b : Bool} (hb : x.br = b) : w.cell? ⟨g, i * 15 + 8, none⟩ = some (.bool b) := by
  subst hb
  exact h 8 _ rfl
theorem held_at {cs : List CarV} {a : WaitV} (h : held cs a) : a.ca = -1 ∨ ∃ (k : Nat) (x : CarV), (k < cs.length ∧ a.ca = (k : Int)) ∧ cs[k]? = some x ∧ free x ∧ hasW x a := by
  rcases h with h | ⟨k, x, h1, h2, h3, h4⟩
  · exact .inl h
  · exact .inr ⟨k, x, ⟨(List.getElem?_eq_some_iff.1 h2).1, h1⟩, h2, h3, h4⟩
theorem GG.zero (c : CfgV) : GG (newG c) := ⟨fun a ha => by simp [newG] at ha, by simp [newG]⟩
set_option maxHeartbeats 4000000 in
theorem givesG (c : CfgV) (Ao : Option Addr) (on oc : Nat) (os : Nat → OpV) (w : World) (ho : OV w Ao on os) (hol : on ≤ 9223372036854775807) : Calls Try.prog 7 #[.agg (cfgA c), .slice Ao on oc] w fun e w' => e = .returned (.bool true) ∧ Since w w' := by
 have HO := Lib.hid ho
 clear ho
 have HOL := Lib.hid hol
 clear hol
 go_enter Try.func7, Try.ntmps7
 go_upto_region 1 with fail
 obtain ⟨w1, hw1⟩ : ∃ w1, w1 = (w.alloc (.cells (cfgA c) 23)) := ⟨_, rfl⟩
 rw [← hw1]
 have HBC1 := Lib.hid (show Blk w1 (w.heap.size) 23 (cfgA c) by rw [hw1]; exact Blk.at_ (by (try simp only [size_alloc])) _ _)
 have HS1 := Lib.hid (show Since w w1 by rw [hw1]; exact Since.alloc (Since.refl w) _)
 have hNE : w.heap.size ≤ w.heap.size := by omega
 have HNE := Lib.hid hNE
 clear hNE hw1
 have HNE3 := Lib.hid (show w.heap.size ≤ w.heap.size from HNE.out)
 clear HNE
 refine wp_region_lit ?_
 refine wpList_q (by rfl) (.agg (cfgA c)) ?he ?_
 case he => exact exec_load_row 23 _ _ HBC1.out rfl rfl Try.underlying23 rfl (by kernel_rfl)
 (try simp only [Act.put, sA, sB, sC])
 refine wpList_wp (by rfl) (fun K hK => ?_)
 (try go_simp)
 refine (newT c _).mono ?_
 rintro e w2 ⟨q1, S1, rfl, hobj, hb⟩
 (try go_wp2_with fail)
 refine hK.out _ _ ?_
 clear hK K
 (try simp only [Act.put, sA, sB, sC])
 have HINC := Lib.hid (show w.heap.size ∉ S1 from fun h => by have q1 := hobj.low _ h; have q2 := Blk.lt HBC1.out; omega)
 have HGq := Lib.hid (hobj.base (Since.size HS1.out)); clear hobj
 have HS2 := Lib.hid (Since.trans HS1.out hb)
 have HBC2 := Lib.hid (keep_blk hb HBC1.out)
 clear HS1 HBC1
 clear hb
 refine tkL (.pointer (some ⟨q1, 0, none⟩)) (h := ?_)
 (try simp only [Act.put, sA, sB, sC])
 refine wpList_nil ?_
 go_upto_region 2 with fail
 refine wp_region_lit ?_
 refine tkL (.int .i64 0) (h := ?_)
 (try simp only [Act.put, sA, sB, sC])
 refine wpList_nil ?_
 go_wp2_with fail
 refine wp_uloop (ds := []) (fun n fr wr => ∃ (i T : Nat) (G : GrV) (R : List Nat), (80 - i) = n ∧ Fits fr 163 [(0, .agg (cfgA c)), (1, .slice Ao on oc), (2, .pointer (some ⟨w.heap.size, 0, none⟩)), (4, .bool false), (5, .pointer (some ⟨q1, 0, none⟩)), (6, .int .i64 (i : Int))] ∧ Hid (i ≤ 80 ∧ T ≤ 50 * i ∧ GI c i T G ∧ GG G ∧ w.heap.size ∉ R ∧ Since w wr ∧ Blk wr w.heap.size 23 (cfgA c) ∧ GO w.heap.size q1 G R wr)) (80) ?start2 ?round2
 case start2 => exact ⟨0, 0, (newG c), S1, rfl, ⟨rfl, rfl, rfl, rfl, rfl, rfl, rfl, trivial⟩, Lib.hid ⟨by decide, by decide, GI.zero c, GG.zero c, HINC.out, HS2.out, HBC2.out, HGq.out⟩⟩
 case round2 =>
  intro n fr wr hR J1 K1 hJ1 hK1
  clear HS2 HBC2 HGq
  obtain ⟨i, T, G, R, hn, hF, HO⟩ := hR
  have HM := Lib.hid hn; clear hn
  obtain ⟨e0, e1, e2, e3, e4, g0, g1, g2⟩ := HO.out
  clear HO
  have HI80 := Lib.hid e0
  have HT := Lib.hid e1
  have HGI := Lib.hid e2
  have HGG := Lib.hid e3
  have HIC := Lib.hid e4
  have HS52 := Lib.hid g0
  have HBC52 := Lib.hid g1
  have HFq52 := Lib.hid g2
  clear e0 e1 e2 e3 e4 g0 g1 g2
  obtain ⟨u, hu⟩ := hF.open_
  have hu2 := hu.trans (show _ = #[.agg (cfgA c), .slice Ao on oc, .pointer (some ⟨w.heap.size, 0, none⟩), u 3, .bool false, .pointer (some ⟨q1, 0, none⟩), .int .i64 (i : Int), u 7, u 8, u 9, u 10, u 11, u 12, u 13, u 14, u 15, u 16, u 17, u 18, u 19, u 20, u 21, u 22, u 23, u 24, u 25, u 26, u 27, u 28, u 29, u 30, u 31, u 32, u 33, u 34, u 35, u 36, u 37, u 38, u 39, u 40, u 41, u 42, u 43, u 44, u 45, u 46, u 47, u 48, u 49, u 50, u 51, u 52, u 53, u 54, u 55, u 56, u 57, u 58, u 59, u 60, u 61, u 62, u 63, u 64, u 65, u 66, u 67, u 68, u 69, u 70, u 71, u 72, u 73, u 74, u 75, u 76, u 77, u 78, u 79, u 80, u 81, u 82, u 83, u 84, u 85, u 86, u 87, u 88, u 89, u 90, u 91, u 92, u 93, u 94, u 95, u 96, u 97, u 98, u 99, u 100, u 101, u 102, u 103, u 104, u 105, u 106, u 107, u 108, u 109, u 110, u 111, u 112, u 113, u 114, u 115, u 116, u 117, u 118, u 119, u 120, u 121, u 122, u 123, u 124, u 125, u 126, u 127, u 128, u 129, u 130, u 131, u 132, u 133, u 134, u 135, u 136, u 137, u 138, u 139, u 140, u 141, u 142, u 143, u 144, u 145, u 146, u 147, u 148, u 149, u 150, u 151, u 152, u 153, u 154, u 155, u 156, u 157, u 158, u 159, u 160, u 161, u 162] by kernel_rfl)
  clear hu hF
  subst hu2
  by_cases hcs : i < on
  rotate_left
  · have HLT := Lib.hid hcs; clear hcs
    go_upto_region 3 with fail
    refine wp_region_lit ?_
    refine tkL (.int .i64 (i : Int)) (h := ?_)
    (try simp only [Act.put, sA, sB, sC])
    refine tkL (.slice Ao on oc) (h := ?_)
    (try simp only [Act.put, sA, sB, sC])
    refine tkL (.int .i64 (on : Int)) (h := ?_)
    (try simp only [Act.put, sA, sB, sC])
    refine wpList_q (by rfl) (.bool false) ?he ?_
    case he => (have q0 := HLT.out; go_simp; (first | done | rfl | omega))
    (try simp only [Act.put, sA, sB, sC])
    refine tkL (.bool false) (h := ?_)
    (try simp only [Act.put, sA, sB, sC])
    refine wpList_no (by rfl) ?_
    (try simp only [Act.put, sA, sB, sC])
    refine wpList_no (by rfl) ?_
    (try simp only [Act.put, sA, sB, sC])
    refine tkL (.bool false) (h := ?_)
    (try simp only [Act.put, sA, sB, sC])
    refine wpList_nil ?_
    go_upto_region 26 with fail
    refine wp_region_lit ?_
    refine wpList_wp (by rfl) (fun K hK => ?_)
    (try go_simp)
    refine (ansG _).mono ?_
    rintro e w53 ⟨rfl, hb⟩
    (try go_wp2_with fail)
    refine hK.out _ _ ?_
    clear hK K
    (try simp only [Act.put, sA, sB, sC])
    have HS53 := Lib.hid (Since.trans HS52.out hb)
    have HBC53 := Lib.hid (keep_blk hb HBC52.out)
    have HFq53 := Lib.hid (GO.keep hb HFq52.out)
    clear HS52 HBC52 HFq52
    clear hb
    refine tkL (.bool true) (h := ?_)
    (try simp only [Act.put, sA, sB, sC])
    refine wpList_nil ?_
    (try go_wp2_with fail)
    go_ret
    exact ⟨rfl, HS53.out⟩
  · have HLT := Lib.hid hcs; clear hcs
    by_cases hcs : i < 80
    rotate_left
    · have HI8 := Lib.hid hcs; clear hcs
      go_upto_region 3 with fail
      refine wp_region_lit ?_
      refine tkL (.int .i64 (i : Int)) (h := ?_)
      (try simp only [Act.put, sA, sB, sC])
      refine tkL (.slice Ao on oc) (h := ?_)
      (try simp only [Act.put, sA, sB, sC])
      refine tkL (.int .i64 (on : Int)) (h := ?_)
      (try simp only [Act.put, sA, sB, sC])
      refine wpList_q (by rfl) (.bool true) ?he ?_
      case he => (have q0 := HLT.out; go_simp; (first | done | rfl | omega))
      (try simp only [Act.put, sA, sB, sC])
      refine tkL (.bool true) (h := ?_)
      (try simp only [Act.put, sA, sB, sC])
      refine tkL (.int .i64 (i : Int)) (h := ?_)
      (try simp only [Act.put, sA, sB, sC])
      refine wpList_q (by rfl) (.bool false) ?he ?_
      case he => (have q0 := HI8.out; go_simp; (first | done | rfl | omega))
      (try simp only [Act.put, sA, sB, sC])
      refine tkL (.bool false) (h := ?_)
      (try simp only [Act.put, sA, sB, sC])
      refine wpList_nil ?_
      go_upto_region 26 with fail
      refine wp_region_lit ?_
      refine wpList_wp (by rfl) (fun K hK => ?_)
      (try go_simp)
      refine (ansG _).mono ?_
      rintro e w53 ⟨rfl, hb⟩
      (try go_wp2_with fail)
      refine hK.out _ _ ?_
      clear hK K
      (try simp only [Act.put, sA, sB, sC])
      have HS53 := Lib.hid (Since.trans HS52.out hb)
      have HBC53 := Lib.hid (keep_blk hb HBC52.out)
      have HFq53 := Lib.hid (GO.keep hb HFq52.out)
      clear HS52 HBC52 HFq52
      clear hb
      refine tkL (.bool true) (h := ?_)
      (try simp only [Act.put, sA, sB, sC])
      refine wpList_nil ?_
      (try go_wp2_with fail)
      go_ret
      exact ⟨rfl, HS53.out⟩
    · have HI8 := Lib.hid hcs; clear hcs
      go_upto_region 3 with fail
      refine wp_region_lit ?_
      refine tkL (.int .i64 (i : Int)) (h := ?_)
      (try simp only [Act.put, sA, sB, sC])
      refine tkL (.slice Ao on oc) (h := ?_)
      (try simp only [Act.put, sA, sB, sC])
      refine tkL (.int .i64 (on : Int)) (h := ?_)
      (try simp only [Act.put, sA, sB, sC])
      refine wpList_q (by rfl) (.bool true) ?he ?_
      case he => (have q0 := HLT.out; go_simp; (first | done | rfl | omega))
      (try simp only [Act.put, sA, sB, sC])
      refine tkL (.bool true) (h := ?_)
      (try simp only [Act.put, sA, sB, sC])
      refine tkL (.int .i64 (i : Int)) (h := ?_)
      (try simp only [Act.put, sA, sB, sC])
      refine wpList_q (by rfl) (.bool true) ?he ?_
      case he => (have q0 := HI8.out; go_simp; (first | done | rfl | omega))
      (try simp only [Act.put, sA, sB, sC])
      refine tkL (.bool true) (h := ?_)
      (try simp only [Act.put, sA, sB, sC])
      refine wpList_nil ?_
      obtain ⟨go, oo, hA, hbo, hco⟩ := OV.at_ HO.out HLT.out
      have HCO := Lib.hid (hco i HLT.out); clear hco hbo
      subst hA
      have HH := Lib.hid (gi_hyps HGI.out (by have := HI80.out; omega) (by have := HI80.out; have := HT.out; omega))
      go_upto_region 5 with fail
      refine wp_region_lit ?_
      refine tkL (.slice (some ⟨go, oo, none⟩) on oc) (h := ?_)
      (try simp only [Act.put, sA, sB, sC])
      refine tkL (.int .i64 (i : Int)) (h := ?_)
      (try simp only [Act.put, sA, sB, sC])
      refine wpList_q (by rfl) (.pointer (some ⟨go, (oo + i * 4), none⟩)) ?he ?_
      case he => exact exec_index (i := i) (s := 4) 42 46 _ _ rfl rfl rfl rfl HLT.out Try.underlying42 (by kernel_rfl)
      (try simp only [Act.put, sA, sB, sC])
      refine wpList_q (by rfl) (.agg (opA (os i))) ?he ?_
      case he => exact exec_rng (l := opC (os i)) 46 _ _ (fun j v hj => keep_cell HS52.out (HCO.out j v hj)) rfl rfl Try.underlying46 rfl (by kernel_rfl)
      (try simp only [Act.put, sA, sB, sC])
      refine wpList_wp (by rfl) (fun K hK => ?_)
      refine wp_new (fun b => .pointer (some ⟨b, 0, none⟩)) 46 #[.int .i64 0, .int .i64 0, .int .i64 0, .bool false] (by rintro b rfl; first | rfl | kernel_rfl) ?_
      intro bn7 w53 hge hB hb
      refine hK.out _ _ ?_
      clear hK K
      (try simp only [Act.put, sA, sB, sC])
      have HNn7C := Lib.hid (show bn7 ≠ w.heap.size by have := Blk.lt HBC52.out; omega)
      have HGn7 := Lib.hid (show w.heap.size ≤ bn7 by have := Since.size HS52.out; omega)
      have HIn7_q := Lib.hid (GO.far HFq52.out hge)
      have HS53 := Lib.hid (Since.trans HS52.out hb)
      have HBC53 := Lib.hid (keep_blk hb HBC52.out)
      have HFq53 := Lib.hid (GO.keep hb HFq52.out)
      clear HS52 HBC52 HFq52
      clear hb hge
      have HBn753 := Lib.hid hB
      clear hB
      refine wpList_wp (by rfl) (fun K hK => ?_)
      refine wp_st_row 46 _ _ rfl (opA (os i)) rfl rfl (HasRow.of HBn753.out rfl) rfl (by simp [cfgA, carA, waitA, grpA, opA, Value.oneCell']) (by kernel_rfl) ?_
      intro w54 hw
      refine hK.out _ _ ?_
      clear hK K
      (try simp only [Act.put, sA, sB, sC])
      have HS54 := Lib.hid (show Since w w54 by rw [hw]; exact Since.setRow HS53.out HGn7.out _)
      have HBC54 := Lib.hid (show Blk w54 w.heap.size 23 (cfgA c) by rw [hw]; exact Blk.row_far HBC53.out (Ne.symm HNn7C.out) _)
      have HBn754 := Lib.hid (show Blk w54 bn7 46 (opA (os i)) by rw [hw]; exact Blk.row HBn753.out _)
      have HFq_54 := Lib.hid (show GO w.heap.size q1 G R w54 by rw [hw]; exact GO.row_far HFq53.out HIn7_q.out _)
      clear hw HS53 HBC53 HBn753 HFq53
      refine wpList_nil ?_
      by_cases hcs : (os i).k ≠ 9
      rotate_left
      · have HK9 := Lib.hid hcs; clear hcs
        go_upto_region 6 with fail
        refine wp_region_lit ?_
        refine tkL (.pointer (some ⟨bn7, 0, none⟩)) (h := ?_)
        (try simp only [Act.put, sA, sB, sC])
        refine wpList_q (by rfl) (.int .i64 ((os i).k)) ?he ?_
        case he => exact exec_cell 3 _ _ HBn754.out rfl rfl rfl Try.underlying3 rfl
        (try simp only [Act.put, sA, sB, sC])
        refine wpList_q (by rfl) (.bool false) ?he ?_
        case he => (have q := Decidable.not_not.1 HK9.out; go_simp; (first | done | exact q | (simp [q]; done)))
        (try simp only [Act.put, sA, sB, sC])
        refine wpList_nil ?_
        go_upto_region 8 with fail
        refine wp_region_lit ?_
        refine tkL (.int .i64 0) (h := ?_)
        (try simp only [Act.put, sA, sB, sC])
        refine wpList_nil ?_
        go_wp2_with fail
        refine wp_uloop (ds := []) (fun n fr wr => ∃ (k U : Nat) (H : GrV) (Q : List Nat), (50 - k) = n ∧ Fits fr 163 [(0, .agg (cfgA c)), (1, .slice (some ⟨go, oo, none⟩) on oc), (2, .pointer (some ⟨w.heap.size, 0, none⟩)), (4, .bool false), (5, .pointer (some ⟨q1, 0, none⟩)), (6, .int .i64 (i : Int)), (7, .pointer (some ⟨bn7, 0, none⟩)), (8, .int .i64 (k : Int))] ∧ Hid (k ≤ 50 ∧ U ≤ 50 * i + k ∧ GI c i U H ∧ GG H ∧ w.heap.size ∉ Q ∧ bn7 ∉ Q ∧ Since w wr ∧ Blk wr w.heap.size 23 (cfgA c) ∧ Blk wr bn7 46 (opA (os i)) ∧ GO w.heap.size q1 H Q wr)) (50) ?start54 ?round54
        case start54 => exact ⟨0, T, G, R, rfl, ⟨rfl, rfl, rfl, rfl, rfl, rfl, rfl, rfl, rfl, trivial⟩, Lib.hid ⟨by decide, by have := HT.out; omega, HGI.out, HGG.out, HIC.out, HIn7_q.out, HS54.out, HBC54.out, HBn754.out, HFq_54.out⟩⟩
        case round54 =>
         intro n fr wr hR J2 K2 hJ2 hK2
         clear HS54 HBC54 HBn754 HFq_54
         obtain ⟨k, U, H, Q, hn, hF, HO⟩ := hR
         have HM2 := Lib.hid hn; clear hn
         obtain ⟨e0, e1, e2, e3, e4, e5, g0, g1, g2, g3⟩ := HO.out
         clear HO
         have HK50 := Lib.hid e0
         have HU := Lib.hid e1
         have HGI2 := Lib.hid e2
         have HGG2 := Lib.hid e3
         have HIC2 := Lib.hid e4
         have HI7 := Lib.hid e5
         have HS104 := Lib.hid g0
         have HBC104 := Lib.hid g1
         have HBn7104 := Lib.hid g2
         have HFq104 := Lib.hid g3
         clear e0 e1 e2 e3 e4 e5 g0 g1 g2 g3
         obtain ⟨u, hu⟩ := hF.open_
         have hu2 := hu.trans (show _ = #[.agg (cfgA c), .slice (some ⟨go, oo, none⟩) on oc, .pointer (some ⟨w.heap.size, 0, none⟩), u 3, .bool false, .pointer (some ⟨q1, 0, none⟩), .int .i64 (i : Int), .pointer (some ⟨bn7, 0, none⟩), .int .i64 (k : Int), u 9, u 10, u 11, u 12, u 13, u 14, u 15, u 16, u 17, u 18, u 19, u 20, u 21, u 22, u 23, u 24, u 25, u 26, u 27, u 28, u 29, u 30, u 31, u 32, u 33, u 34, u 35, u 36, u 37, u 38, u 39, u 40, u 41, u 42, u 43, u 44, u 45, u 46, u 47, u 48, u 49, u 50, u 51, u 52, u 53, u 54, u 55, u 56, u 57, u 58, u 59, u 60, u 61, u 62, u 63, u 64, u 65, u 66, u 67, u 68, u 69, u 70, u 71, u 72, u 73, u 74, u 75, u 76, u 77, u 78, u 79, u 80, u 81, u 82, u 83, u 84, u 85, u 86, u 87, u 88, u 89, u 90, u 91, u 92, u 93, u 94, u 95, u 96, u 97, u 98, u 99, u 100, u 101, u 102, u 103, u 104, u 105, u 106, u 107, u 108, u 109, u 110, u 111, u 112, u 113, u 114, u 115, u 116, u 117, u 118, u 119, u 120, u 121, u 122, u 123, u 124, u 125, u 126, u 127, u 128, u 129, u 130, u 131, u 132, u 133, u 134, u 135, u 136, u 137, u 138, u 139, u 140, u 141, u 142, u 143, u 144, u 145, u 146, u 147, u 148, u 149, u 150, u 151, u 152, u 153, u 154, u 155, u 156, u 157, u 158, u 159, u 160, u 161, u 162] by kernel_rfl)
         clear hu hF
         subst hu2
         by_cases hcs : (k : Int) < (os i).a
         rotate_left
         · have HKA := Lib.hid hcs; clear hcs
           go_upto_region 9 with fail
           refine wp_region_lit ?_
           refine tkL (.int .i64 (k : Int)) (h := ?_)
           (try simp only [Act.put, sA, sB, sC])
           refine tkL (.pointer (some ⟨bn7, 1, none⟩)) (h := ?_)
           (try simp only [Act.put, sA, sB, sC])
           refine wpList_q (by rfl) (.int .i64 ((os i).a)) ?he ?_
           case he => exact exec_cell 3 _ _ HBn7104.out rfl rfl rfl Try.underlying3 rfl
           (try simp only [Act.put, sA, sB, sC])
           refine wpList_q (by rfl) (.bool false) ?he ?_
           case he => (have q0 := HKA.out; go_simp; (first | done | rfl | omega))
           (try simp only [Act.put, sA, sB, sC])
           refine tkL (.bool false) (h := ?_)
           (try simp only [Act.put, sA, sB, sC])
           refine wpList_no (by rfl) ?_
           (try simp only [Act.put, sA, sB, sC])
           refine wpList_no (by rfl) ?_
           (try simp only [Act.put, sA, sB, sC])
           refine tkL (.bool false) (h := ?_)
           (try simp only [Act.put, sA, sB, sC])
           refine wpList_nil ?_
           go_upto_region 4 with fail
           refine wp_region_lit ?_
           refine tkL (.int .i64 (i : Int)) (h := ?_)
           (try simp only [Act.put, sA, sB, sC])
           refine wpList_q (by rfl) (.int .i64 ((i : Int) + 1)) ?he ?_
           case he => (go_simp; (first | done | (refine wrG _ ?_ ?_ <;> (have q0 := HLT.out; have q1 := HI8.out; omega)) | (have q0 := HLT.out; have q1 := HI8.out; omega) | (have q0 := HLT.out; have q1 := HI8.out; split <;> omega) | (have q0 := HLT.out; have q1 := HI8.out; intro hh; omega)))
           (try simp only [Act.put, sA, sB, sC])
           refine tkL (.int .i64 ((i : Int) + 1)) (h := ?_)
           (try simp only [Act.put, sA, sB, sC])
           refine wpList_nil ?_
           go_wp2_with fail
           refine Met.intro ?_
           refine hJ1 _ _ _ ?less104 ⟨(i + 1), U, H, Q, rfl, ⟨rfl, rfl, rfl, rfl, rfl, rfl, rfl, trivial⟩, Lib.hid ⟨by have := HI8.out; omega, by have := HU.out; have := HK50.out; omega, HGI2.out.more (Nat.le_succ _), HGG2.out, HIC2.out, HS104.out, HBC104.out, HFq104.out⟩⟩
           case less104 => exact (by have := HM.out; have := HI8.out; omega)
         · have HKA := Lib.hid hcs; clear hcs
           by_cases hcs : k < 50
           rotate_left
           · have HK5 := Lib.hid hcs; clear hcs
             go_upto_region 9 with fail
             refine wp_region_lit ?_
             refine tkL (.int .i64 (k : Int)) (h := ?_)
             (try simp only [Act.put, sA, sB, sC])
             refine tkL (.pointer (some ⟨bn7, 1, none⟩)) (h := ?_)
             (try simp only [Act.put, sA, sB, sC])
             refine wpList_q (by rfl) (.int .i64 ((os i).a)) ?he ?_
             case he => exact exec_cell 3 _ _ HBn7104.out rfl rfl rfl Try.underlying3 rfl
             (try simp only [Act.put, sA, sB, sC])
             refine wpList_q (by rfl) (.bool true) ?he ?_
             case he => (have q0 := HKA.out; go_simp; (first | done | rfl | omega))
             (try simp only [Act.put, sA, sB, sC])
             refine tkL (.bool true) (h := ?_)
             (try simp only [Act.put, sA, sB, sC])
             refine tkL (.int .i64 (k : Int)) (h := ?_)
             (try simp only [Act.put, sA, sB, sC])
             refine wpList_q (by rfl) (.bool false) ?he ?_
             case he => (have q0 := HK5.out; go_simp; (first | done | rfl | omega))
             (try simp only [Act.put, sA, sB, sC])
             refine tkL (.bool false) (h := ?_)
             (try simp only [Act.put, sA, sB, sC])
             refine wpList_nil ?_
             go_upto_region 4 with fail
             refine wp_region_lit ?_
             refine tkL (.int .i64 (i : Int)) (h := ?_)
             (try simp only [Act.put, sA, sB, sC])
             refine wpList_q (by rfl) (.int .i64 ((i : Int) + 1)) ?he ?_
             case he => (go_simp; (first | done | (refine wrG _ ?_ ?_ <;> (have q0 := HLT.out; have q1 := HI8.out; omega)) | (have q0 := HLT.out; have q1 := HI8.out; omega) | (have q0 := HLT.out; have q1 := HI8.out; split <;> omega) | (have q0 := HLT.out; have q1 := HI8.out; intro hh; omega)))
             (try simp only [Act.put, sA, sB, sC])
             refine tkL (.int .i64 ((i : Int) + 1)) (h := ?_)
             (try simp only [Act.put, sA, sB, sC])
             refine wpList_nil ?_
             go_wp2_with fail
             refine Met.intro ?_
             refine hJ1 _ _ _ ?less104 ⟨(i + 1), U, H, Q, rfl, ⟨rfl, rfl, rfl, rfl, rfl, rfl, rfl, trivial⟩, Lib.hid ⟨by have := HI8.out; omega, by have := HU.out; have := HK50.out; omega, HGI2.out.more (Nat.le_succ _), HGG2.out, HIC2.out, HS104.out, HBC104.out, HFq104.out⟩⟩
             case less104 => exact (by have := HM.out; have := HI8.out; omega)
           · have HK5 := Lib.hid hcs; clear hcs
             go_upto_region 9 with fail
             refine wp_region_lit ?_
             refine tkL (.int .i64 (k : Int)) (h := ?_)
             (try simp only [Act.put, sA, sB, sC])
             refine tkL (.pointer (some ⟨bn7, 1, none⟩)) (h := ?_)
             (try simp only [Act.put, sA, sB, sC])
             refine wpList_q (by rfl) (.int .i64 ((os i).a)) ?he ?_
             case he => exact exec_cell 3 _ _ HBn7104.out rfl rfl rfl Try.underlying3 rfl
             (try simp only [Act.put, sA, sB, sC])
             refine wpList_q (by rfl) (.bool true) ?he ?_
             case he => (have q0 := HKA.out; go_simp; (first | done | rfl | omega))
             (try simp only [Act.put, sA, sB, sC])
             refine tkL (.bool true) (h := ?_)
             (try simp only [Act.put, sA, sB, sC])
             refine tkL (.int .i64 (k : Int)) (h := ?_)
             (try simp only [Act.put, sA, sB, sC])
             refine wpList_q (by rfl) (.bool true) ?he ?_
             case he => (have q0 := HK5.out; go_simp; (first | done | rfl | omega))
             (try simp only [Act.put, sA, sB, sC])
             refine tkL (.bool true) (h := ?_)
             (try simp only [Act.put, sA, sB, sC])
             refine wpList_nil ?_
             go_upto_region 11 with fail
             refine wp_region_lit ?_
             refine tkL (.pointer (some ⟨q1, 0, none⟩)) (h := ?_)
             (try simp only [Act.put, sA, sB, sC])
             refine wpList_wp (by rfl) (fun K hK => ?_)
             (try go_simp)
             refine (tickS w.heap.size q1 H Q c i U _ HFq104.out HGI2.out (by have := HI80.out; omega) (by have := HI80.out; have := HK50.out; have := HU.out; omega)).mono ?_
             rintro e w105 ⟨Sq_1, A3, c3, rfl, hobj, hown, hupd, hfar⟩
             (try go_wp2_with fail)
             refine hK.out _ _ ?_
             clear hK K
             (try simp only [Act.put, sA, sB, sC])
             have HS105 := Lib.hid (Since.upd HS104.out hupd (GO.low HFq104.out))
             have HBC105 := Lib.hid (Upd.blk hupd HBC104.out HIC2.out)
             have HIC_q_105 := Lib.hid (nin_next hfar HIC2.out (Blk.lt HBC104.out))
             have HBn7105 := Lib.hid (Upd.blk hupd HBn7104.out HI7.out)
             have HIn7_q_105 := Lib.hid (nin_next hfar HI7.out (Blk.lt HBn7104.out))
             have HFq105 := Lib.hid hobj
             clear hupd hobj hfar HS104 HBC104 HBn7104 HFq104
             clear hown
             refine wpList_nil ?_
             have HGI3 := Lib.hid (GI.tick HGI2.out); have HGV := Lib.hid (tick_gives HGI2.out HGG2.out)
             have HH2 := Lib.hid (gi_hyps HGI3.out (by have := HI80.out; omega) (by have := HI80.out; have := HK50.out; have := HU.out; omega))
             go_upto_region 12 with fail
             refine wp_region_lit ?_
             refine tkL (.pointer (some ⟨q1, 0, none⟩)) (h := ?_)
             (try simp only [Act.put, sA, sB, sC])
             refine wpList_wp (by rfl) (fun K hK => ?_)
             (try go_simp)
             refine (carsT w.heap.size q1 (tickG H) Sq_1 _ HFq105.out (by have := HH2.out.1.1; omega)).mono ?_
             rintro e w106 ⟨Aa, ca, rfl, hown, hb⟩
             (try go_wp2_with fail)
             refine hK.out _ _ ?_
             clear hK K
             (try simp only [Act.put, sA, sB, sC])
             unfold CarsAt at hown
             have HDa := Lib.hid (show ∀ g ∈ blkOf Aa, g ∉ Sq_1 from fun g hg h => by have q1 := own_low hown g hg; have q2 := GO.lt HFq105.out g h; omega)
             have HRa := Lib.hid (own_base hown (Since.size HS105.out)); clear hown
             have HS106 := Lib.hid (Since.trans HS105.out hb)
             have HBC106 := Lib.hid (keep_blk hb HBC105.out)
             have HBn7106 := Lib.hid (keep_blk hb HBn7105.out)
             have HFq106 := Lib.hid (GO.keep hb HFq105.out)
             clear HS105 HBC105 HBn7105 HFq105
             clear hb
             refine tkL (.slice Aa (tickG H).cars.length ca) (h := ?_)
             (try simp only [Act.put, sA, sB, sC])
             refine wpList_nil ?_
             go_upto_region 13 with fail
             refine wp_region_lit ?_
             refine tkL (.pointer (some ⟨q1, 0, none⟩)) (h := ?_)
             (try simp only [Act.put, sA, sB, sC])
             refine wpList_wp (by rfl) (fun K hK => ?_)
             (try go_simp)
             refine (waitsT w.heap.size q1 (tickG H) Sq_1 _ HFq106.out (by have := HH2.out.1.2.1; omega)).mono ?_
             rintro e w107 ⟨Av, cv, rfl, hown, hb⟩
             (try go_wp2_with fail)
             refine hK.out _ _ ?_
             clear hK K
             (try simp only [Act.put, sA, sB, sC])
             unfold WaitsAt at hown
             have HDv := Lib.hid (show ∀ g ∈ blkOf Av, g ∉ Sq_1 from fun g hg h => by have q1 := own_low hown g hg; have q2 := GO.lt HFq106.out g h; omega)
             have HRv := Lib.hid (own_base hown (Since.size HS106.out)); clear hown
             have HS107 := Lib.hid (Since.trans HS106.out hb)
             have HBC107 := Lib.hid (keep_blk hb HBC106.out)
             have HBn7107 := Lib.hid (keep_blk hb HBn7106.out)
             have HFq107 := Lib.hid (GO.keep hb HFq106.out)
             have HFa107 := Lib.hid (keep_own hb HRa.out)
             clear HS106 HBC106 HBn7106 HFq106 HRa
             clear hb
             refine tkL (.slice Av (tickG H).waits.length cv) (h := ?_)
             (try simp only [Act.put, sA, sB, sC])
             refine wpList_nil ?_
             go_upto_region 14 with fail
             refine wp_region_lit ?_
             refine tkL (.bool false) (h := ?_)
             (try simp only [Act.put, sA, sB, sC])
             refine wpList_nil ?_
             obtain ⟨ga, hga⟩ := own_addr HFa107.out HH2.out.1.2.2.1
             subst hga
             go_upto_region 15 with fail
             refine wp_region_lit ?_
             refine tkL (.int .i64 0) (h := ?_)
             (try simp only [Act.put, sA, sB, sC])
             refine wpList_nil ?_
             go_wp2_with fail
             refine wp_uloop (ds := []) (fun n fr wr => ∃ (p : Nat) (s : Bool), ((tickG H).cars.length - p) = n ∧ Fits fr 163 [(0, .agg (cfgA c)), (1, .slice (some ⟨go, oo, none⟩) on oc), (2, .pointer (some ⟨w.heap.size, 0, none⟩)), (4, .bool false), (5, .pointer (some ⟨q1, 0, none⟩)), (6, .int .i64 (i : Int)), (7, .pointer (some ⟨bn7, 0, none⟩)), (8, .int .i64 (k : Int)), (9, .slice (some ⟨ga, 0, none⟩) (tickG H).cars.length ca), (10, .slice Av (tickG H).waits.length cv), (11, .bool s), (12, .int .i64 (p : Int))] ∧ Hid (p ≤ (tickG H).cars.length ∧ (s = true → ∃ x ∈ (tickG H).cars, free x) ∧ Since w wr ∧ Blk wr w.heap.size 23 (cfgA c) ∧ Blk wr bn7 46 (opA (os i)) ∧ GO w.heap.size q1 (tickG H) Sq_1 wr ∧ (wr).ownsRow w.heap.size 30 15 (.slice (some ⟨ga, 0, none⟩) ((tickG H).cars.length) ca) ((tickG H).cars.length) (rowsOf carL (tickG H).cars) ∧ (wr).ownsRow w.heap.size 55 4 (.slice Av ((tickG H).waits.length) cv) ((tickG H).waits.length) (rowsOf waitL (tickG H).waits))) ((tickG H).cars.length - 0) ?start107 ?round107
             case start107 => exact ⟨0, false, rfl, ⟨rfl, rfl, rfl, rfl, rfl, rfl, rfl, rfl, rfl, rfl, rfl, rfl, rfl, trivial⟩, Lib.hid ⟨Nat.zero_le _, (fun h => by cases h), HS107.out, HBC107.out, HBn7107.out, HFq107.out, HFa107.out, HRv.out⟩⟩
             case round107 =>
              intro n fr wr hR J3 K3 hJ3 hK3
              clear HS107 HBC107 HBn7107 HFq107 HFa107 HRv
              obtain ⟨p, s, hn, hF, HO⟩ := hR
              have HM3 := Lib.hid hn; clear hn
              obtain ⟨e0, e1, g0, g1, g2, g3, g4, g5⟩ := HO.out
              clear HO
              have HN := Lib.hid e0
              have HSM := Lib.hid e1
              have HS157 := Lib.hid g0
              have HBC157 := Lib.hid g1
              have HBn7157 := Lib.hid g2
              have HFq157 := Lib.hid g3
              have HFa157 := Lib.hid g4
              have HFv157 := Lib.hid g5
              clear e0 e1 g0 g1 g2 g3 g4 g5
              obtain ⟨u, hu⟩ := hF.open_
              have hu2 := hu.trans (show _ = #[.agg (cfgA c), .slice (some ⟨go, oo, none⟩) on oc, .pointer (some ⟨w.heap.size, 0, none⟩), u 3, .bool false, .pointer (some ⟨q1, 0, none⟩), .int .i64 (i : Int), .pointer (some ⟨bn7, 0, none⟩), .int .i64 (k : Int), .slice (some ⟨ga, 0, none⟩) (tickG H).cars.length ca, .slice Av (tickG H).waits.length cv, .bool s, .int .i64 (p : Int), u 13, u 14, u 15, u 16, u 17, u 18, u 19, u 20, u 21, u 22, u 23, u 24, u 25, u 26, u 27, u 28, u 29, u 30, u 31, u 32, u 33, u 34, u 35, u 36, u 37, u 38, u 39, u 40, u 41, u 42, u 43, u 44, u 45, u 46, u 47, u 48, u 49, u 50, u 51, u 52, u 53, u 54, u 55, u 56, u 57, u 58, u 59, u 60, u 61, u 62, u 63, u 64, u 65, u 66, u 67, u 68, u 69, u 70, u 71, u 72, u 73, u 74, u 75, u 76, u 77, u 78, u 79, u 80, u 81, u 82, u 83, u 84, u 85, u 86, u 87, u 88, u 89, u 90, u 91, u 92, u 93, u 94, u 95, u 96, u 97, u 98, u 99, u 100, u 101, u 102, u 103, u 104, u 105, u 106, u 107, u 108, u 109, u 110, u 111, u 112, u 113, u 114, u 115, u 116, u 117, u 118, u 119, u 120, u 121, u 122, u 123, u 124, u 125, u 126, u 127, u 128, u 129, u 130, u 131, u 132, u 133, u 134, u 135, u 136, u 137, u 138, u 139, u 140, u 141, u 142, u 143, u 144, u 145, u 146, u 147, u 148, u 149, u 150, u 151, u 152, u 153, u 154, u 155, u 156, u 157, u 158, u 159, u 160, u 161, u 162] by kernel_rfl)
              clear hu hF
              subst hu2
              by_cases hcs : p < (tickG H).cars.length
              rotate_left
              · have HNL := Lib.hid hcs; clear hcs
                go_upto_region 16 with fail
                refine wp_region_lit ?_
                refine tkL (.int .i64 (p : Int)) (h := ?_)
                (try simp only [Act.put, sA, sB, sC])
                refine tkL (.slice (some ⟨ga, 0, none⟩) (tickG H).cars.length ca) (h := ?_)
                (try simp only [Act.put, sA, sB, sC])
                refine tkL (.int .i64 ((tickG H).cars.length : Int)) (h := ?_)
                (try simp only [Act.put, sA, sB, sC])
                refine wpList_q (by rfl) (.bool false) ?he ?_
                case he => (have q0 := HNL.out; go_simp; (first | done | rfl | omega))
                (try simp only [Act.put, sA, sB, sC])
                refine wpList_nil ?_
                go_upto_region 19 with fail
                refine wp_region_lit ?_
                refine tkL (.int .i64 0) (h := ?_)
                (try simp only [Act.put, sA, sB, sC])
                refine wpList_nil ?_
                go_wp2_with fail
                refine wp_uloop (ds := []) (fun n fr wr => ∃ j : Nat, ((tickG H).waits.length - j) = n ∧ Fits fr 163 [(0, .agg (cfgA c)), (1, .slice (some ⟨go, oo, none⟩) on oc), (2, .pointer (some ⟨w.heap.size, 0, none⟩)), (4, .bool false), (5, .pointer (some ⟨q1, 0, none⟩)), (6, .int .i64 (i : Int)), (7, .pointer (some ⟨bn7, 0, none⟩)), (8, .int .i64 (k : Int)), (9, .slice (some ⟨ga, 0, none⟩) (tickG H).cars.length ca), (10, .slice Av (tickG H).waits.length cv), (11, .bool s), (12, .int .i64 (p : Int)), (13, .int .i64 (j : Int))] ∧ Hid (j ≤ (tickG H).waits.length ∧ Since w wr ∧ Blk wr w.heap.size 23 (cfgA c) ∧ Blk wr bn7 46 (opA (os i)) ∧ GO w.heap.size q1 (tickG H) Sq_1 wr ∧ (wr).ownsRow w.heap.size 30 15 (.slice (some ⟨ga, 0, none⟩) ((tickG H).cars.length) ca) ((tickG H).cars.length) (rowsOf carL (tickG H).cars) ∧ (wr).ownsRow w.heap.size 55 4 (.slice Av ((tickG H).waits.length) cv) ((tickG H).waits.length) (rowsOf waitL (tickG H).waits))) ((tickG H).waits.length - 0) ?start157 ?round157
                case start157 => exact ⟨0, rfl, ⟨rfl, rfl, rfl, rfl, rfl, rfl, rfl, rfl, rfl, rfl, rfl, rfl, rfl, rfl, trivial⟩, Lib.hid ⟨Nat.zero_le _, HS157.out, HBC157.out, HBn7157.out, HFq157.out, HFa157.out, HFv157.out⟩⟩
                case round157 =>
                 intro n fr wr hR J4 K4 hJ4 hK4
                 clear HS157 HBC157 HBn7157 HFq157 HFa157 HFv157
                 obtain ⟨j, hn, hF, HO⟩ := hR
                 have HM4 := Lib.hid hn; clear hn
                 obtain ⟨e0, g0, g1, g2, g3, g4, g5⟩ := HO.out
                 clear HO
                 have HJ := Lib.hid e0
                 have HS207 := Lib.hid g0
                 have HBC207 := Lib.hid g1
                 have HBn7207 := Lib.hid g2
                 have HFq207 := Lib.hid g3
                 have HFa207 := Lib.hid g4
                 have HFv207 := Lib.hid g5
                 clear e0 g0 g1 g2 g3 g4 g5
                 obtain ⟨u, hu⟩ := hF.open_
                 have hu2 := hu.trans (show _ = #[.agg (cfgA c), .slice (some ⟨go, oo, none⟩) on oc, .pointer (some ⟨w.heap.size, 0, none⟩), u 3, .bool false, .pointer (some ⟨q1, 0, none⟩), .int .i64 (i : Int), .pointer (some ⟨bn7, 0, none⟩), .int .i64 (k : Int), .slice (some ⟨ga, 0, none⟩) (tickG H).cars.length ca, .slice Av (tickG H).waits.length cv, .bool s, .int .i64 (p : Int), .int .i64 (j : Int), u 14, u 15, u 16, u 17, u 18, u 19, u 20, u 21, u 22, u 23, u 24, u 25, u 26, u 27, u 28, u 29, u 30, u 31, u 32, u 33, u 34, u 35, u 36, u 37, u 38, u 39, u 40, u 41, u 42, u 43, u 44, u 45, u 46, u 47, u 48, u 49, u 50, u 51, u 52, u 53, u 54, u 55, u 56, u 57, u 58, u 59, u 60, u 61, u 62, u 63, u 64, u 65, u 66, u 67, u 68, u 69, u 70, u 71, u 72, u 73, u 74, u 75, u 76, u 77, u 78, u 79, u 80, u 81, u 82, u 83, u 84, u 85, u 86, u 87, u 88, u 89, u 90, u 91, u 92, u 93, u 94, u 95, u 96, u 97, u 98, u 99, u 100, u 101, u 102, u 103, u 104, u 105, u 106, u 107, u 108, u 109, u 110, u 111, u 112, u 113, u 114, u 115, u 116, u 117, u 118, u 119, u 120, u 121, u 122, u 123, u 124, u 125, u 126, u 127, u 128, u 129, u 130, u 131, u 132, u 133, u 134, u 135, u 136, u 137, u 138, u 139, u 140, u 141, u 142, u 143, u 144, u 145, u 146, u 147, u 148, u 149, u 150, u 151, u 152, u 153, u 154, u 155, u 156, u 157, u 158, u 159, u 160, u 161, u 162] by kernel_rfl)
                 clear hu hF
                 subst hu2
                 by_cases hcs : j < (tickG H).waits.length
                 rotate_left
                 · have HJL := Lib.hid hcs; clear hcs
                   go_upto_region 20 with fail
                   refine wp_region_lit ?_
                   refine tkL (.int .i64 (j : Int)) (h := ?_)
                   (try simp only [Act.put, sA, sB, sC])
                   refine tkL (.slice Av (tickG H).waits.length cv) (h := ?_)
                   (try simp only [Act.put, sA, sB, sC])
                   refine tkL (.int .i64 ((tickG H).waits.length : Int)) (h := ?_)
                   (try simp only [Act.put, sA, sB, sC])
                   refine wpList_q (by rfl) (.bool false) ?he ?_
                   case he => (have q0 := HJL.out; go_simp; (first | done | rfl | omega))
                   (try simp only [Act.put, sA, sB, sC])
                   refine wpList_nil ?_
                   go_upto_region 10 with fail
                   refine wp_region_lit ?_
                   refine tkL (.int .i64 (k : Int)) (h := ?_)
                   (try simp only [Act.put, sA, sB, sC])
                   refine wpList_q (by rfl) (.int .i64 ((k : Int) + 1)) ?he ?_
                   case he => (go_simp; (first | done | (refine wrG _ ?_ ?_ <;> (have q0 := HK5.out; omega)) | (have q0 := HK5.out; omega) | (have q0 := HK5.out; split <;> omega) | (have q0 := HK5.out; intro hh; omega)))
                   (try simp only [Act.put, sA, sB, sC])
                   refine tkL (.int .i64 ((k : Int) + 1)) (h := ?_)
                   (try simp only [Act.put, sA, sB, sC])
                   refine wpList_nil ?_
                   go_wp2_with fail
                   refine Met.intro ?_
                   refine hJ2 _ _ _ ?less207 ⟨(k + 1), (U + 1), (tickG H), Sq_1, rfl, ⟨rfl, rfl, rfl, rfl, rfl, rfl, rfl, rfl, rfl, trivial⟩, Lib.hid ⟨by have := HK5.out; omega, by have := HU.out; omega, HGI3.out, HGV.out.1, HIC_q_105.out, HIn7_q_105.out, HS207.out, HBC207.out, HBn7207.out, HFq207.out⟩⟩
                   case less207 => exact (by have := HM2.out; have := HK5.out; omega)
                 · have HJL := Lib.hid hcs; clear hcs
                   go_upto_region 20 with fail
                   refine wp_region_lit ?_
                   refine tkL (.int .i64 (j : Int)) (h := ?_)
                   (try simp only [Act.put, sA, sB, sC])
                   refine tkL (.slice Av (tickG H).waits.length cv) (h := ?_)
                   (try simp only [Act.put, sA, sB, sC])
                   refine tkL (.int .i64 ((tickG H).waits.length : Int)) (h := ?_)
                   (try simp only [Act.put, sA, sB, sC])
                   refine wpList_q (by rfl) (.bool true) ?he ?_
                   case he => (have q0 := HJL.out; go_simp; (first | done | rfl | omega))
                   (try simp only [Act.put, sA, sB, sC])
                   refine wpList_nil ?_
                   obtain ⟨gv, hgv⟩ := own_addr HFv207.out (by have := HJL.out; omega)
                   subst hgv
                   obtain ⟨a, ha⟩ : ∃ a, (tickG H).waits[j]? = some a := ⟨_, List.getElem?_eq_getElem HJL.out⟩
                   have HA := Lib.hid ha; clear ha
                   have HAM := Lib.hid (List.mem_of_getElem? HA.out)
                   rcases held_at (HGV.out.1.1 a HAM.out) with hca | ⟨kc, x, hkc, hx, hfr, hhas⟩
                   · have HCA := Lib.hid hca; clear hca
                     cases s with
                     | true => exact absurd HCA.out (HGV.out.2 (HSM.out rfl) a HAM.out)
                     | false =>
                      go_upto_region 22 with fail
                      refine wp_region_lit ?_
                      refine tkL (.slice (some ⟨gv, 0, none⟩) (tickG H).waits.length cv) (h := ?_)
                      (try simp only [Act.put, sA, sB, sC])
                      refine tkL (.int .i64 (j : Int)) (h := ?_)
                      (try simp only [Act.put, sA, sB, sC])
                      refine wpList_q (by rfl) (.pointer (some ⟨gv, j * 4, none⟩)) ?he ?_
                      case he => (rw [show j * 4 = 0 + j * 4 by omega]; exact exec_index (i := j) (s := 4) 50 55 _ _ rfl rfl rfl rfl HJL.out Try.underlying50 (by kernel_rfl))
                      (try simp only [Act.put, sA, sB, sC])
                      refine tkL (.pointer (some ⟨gv, j * 4 + 2, none⟩)) (h := ?_)
                      (try simp only [Act.put, sA, sB, sC])
                      refine wpList_q (by rfl) (.int .i64 a.ca) ?he ?_
                      case he => exact exec_at 3 _ _ (row_S waitL_len HFv207.out HA.out 2 _ rfl) rfl rfl Try.underlying3 rfl
                      (try simp only [Act.put, sA, sB, sC])
                      refine tkL (.slice (some ⟨ga, 0, none⟩) (tickG H).cars.length ca) (h := ?_)
                      (try simp only [Act.put, sA, sB, sC])
                      refine tkL (.int .i64 ((tickG H).cars.length : Int)) (h := ?_)
                      (try simp only [Act.put, sA, sB, sC])
                      refine wpList_q (by rfl) (.bool false) ?he ?_
                      case he => (have q := HCA.out; have q2 := HH2.out.1.1; go_simp; (first | done | (simp [q]; done) | (simp [q]; omega) | omega))
                      (try simp only [Act.put, sA, sB, sC])
                      refine tkL (.bool false) (h := ?_)
                      (try simp only [Act.put, sA, sB, sC])
                      refine tkL (.bool false) (h := ?_)
                      (try simp only [Act.put, sA, sB, sC])
                      refine tkL (.bool false) (h := ?_)
                      (try simp only [Act.put, sA, sB, sC])
                      refine wpList_no (by rfl) ?_
                      (try simp only [Act.put, sA, sB, sC])
                      refine wpList_no (by rfl) ?_
                      (try simp only [Act.put, sA, sB, sC])
                      refine wpList_no (by rfl) ?_
                      (try simp only [Act.put, sA, sB, sC])
                      refine wpList_no (by rfl) ?_
                      (try simp only [Act.put, sA, sB, sC])
                      refine wpList_no (by rfl) ?_
                      (try simp only [Act.put, sA, sB, sC])
                      refine wpList_no (by rfl) ?_
                      (try simp only [Act.put, sA, sB, sC])
                      refine tkL (.bool false) (h := ?_)
                      (try simp only [Act.put, sA, sB, sC])
                      refine tkL (.bool false) (h := ?_)
                      (try simp only [Act.put, sA, sB, sC])
                      refine tkL (.bool false) (h := ?_)
                      (try simp only [Act.put, sA, sB, sC])
                      refine tkL (.slice (some ⟨gv, 0, none⟩) (tickG H).waits.length cv) (h := ?_)
                      (try simp only [Act.put, sA, sB, sC])
                      refine tkL (.int .i64 (j : Int)) (h := ?_)
                      (try simp only [Act.put, sA, sB, sC])
                      refine wpList_q (by rfl) (.pointer (some ⟨gv, j * 4, none⟩)) ?he ?_
                      case he => (rw [show j * 4 = 0 + j * 4 by omega]; exact exec_index (i := j) (s := 4) 50 55 _ _ rfl rfl rfl rfl HJL.out Try.underlying50 (by kernel_rfl))
                      (try simp only [Act.put, sA, sB, sC])
                      refine tkL (.pointer (some ⟨gv, j * 4 + 2, none⟩)) (h := ?_)
                      (try simp only [Act.put, sA, sB, sC])
                      refine wpList_q (by rfl) (.int .i64 a.ca) ?he ?_
                      case he => exact exec_at 3 _ _ (row_S waitL_len HFv207.out HA.out 2 _ rfl) rfl rfl Try.underlying3 rfl
                      (try simp only [Act.put, sA, sB, sC])
                      refine wpList_q (by rfl) (.bool false) ?he ?_
                      case he => (have q := HCA.out; have q2 := HH2.out.1.1; go_simp; (first | done | (simp [q]; done) | (simp [q]; omega) | omega))
                      (try simp only [Act.put, sA, sB, sC])
                      refine tkL (.bool false) (h := ?_)
                      (try simp only [Act.put, sA, sB, sC])
                      refine wpList_no (by rfl) ?_
                      (try simp only [Act.put, sA, sB, sC])
                      refine wpList_no (by rfl) ?_
                      (try simp only [Act.put, sA, sB, sC])
                      refine wpList_no (by rfl) ?_
                      (try simp only [Act.put, sA, sB, sC])
                      refine wpList_no (by rfl) ?_
                      (try simp only [Act.put, sA, sB, sC])
                      refine wpList_no (by rfl) ?_
                      (try simp only [Act.put, sA, sB, sC])
                      refine wpList_no (by rfl) ?_
                      (try simp only [Act.put, sA, sB, sC])
                      refine wpList_no (by rfl) ?_
                      (try simp only [Act.put, sA, sB, sC])
                      refine wpList_no (by rfl) ?_
                      (try simp only [Act.put, sA, sB, sC])
                      refine wpList_no (by rfl) ?_
                      (try simp only [Act.put, sA, sB, sC])
                      refine wpList_no (by rfl) ?_
                      (try simp only [Act.put, sA, sB, sC])
                      refine wpList_no (by rfl) ?_
                      (try simp only [Act.put, sA, sB, sC])
                      refine wpList_no (by rfl) ?_
                      (try simp only [Act.put, sA, sB, sC])
                      refine wpList_no (by rfl) ?_
                      (try simp only [Act.put, sA, sB, sC])
                      refine wpList_no (by rfl) ?_
                      (try simp only [Act.put, sA, sB, sC])
                      refine wpList_no (by rfl) ?_
                      (try simp only [Act.put, sA, sB, sC])
                      refine wpList_no (by rfl) ?_
                      (try simp only [Act.put, sA, sB, sC])
                      refine wpList_no (by rfl) ?_
                      (try simp only [Act.put, sA, sB, sC])
                      refine wpList_no (by rfl) ?_
                      (try simp only [Act.put, sA, sB, sC])
                      refine wpList_no (by rfl) ?_
                      (try simp only [Act.put, sA, sB, sC])
                      refine wpList_no (by rfl) ?_
                      (try simp only [Act.put, sA, sB, sC])
                      refine wpList_no (by rfl) ?_
                      (try simp only [Act.put, sA, sB, sC])
                      refine tkL (.bool false) (h := ?_)
                      (try simp only [Act.put, sA, sB, sC])
                      refine tkL (.bool false) (h := ?_)
                      (try simp only [Act.put, sA, sB, sC])
                      refine wpList_nil ?_
                      go_upto_region 24 with fail
                      have HKS : Hid (KeepS (fun W : World => Since w W ∧ Blk W w.heap.size 23 (cfgA c) ∧ Blk W bn7 46 (opA (os i)) ∧ GO w.heap.size q1 (tickG H) Sq_1 W ∧ (W).ownsRow w.heap.size 30 15 (.slice (some ⟨ga, 0, none⟩) ((tickG H).cars.length) ca) ((tickG H).cars.length) (rowsOf carL (tickG H).cars) ∧ (W).ownsRow w.heap.size 55 4 (.slice (some ⟨gv, 0, none⟩) ((tickG H).waits.length) cv) ((tickG H).waits.length) (rowsOf waitL (tickG H).waits)) wr) := Lib.hid ⟨fun W W' k ⟨h, h0, h1, h2, h3, h4⟩ => ⟨h.trans k, keep_blk k h0, keep_blk k h1, GO.keep k h2, keep_own k h3, keep_own k h4⟩, ⟨HS207.out, HBC207.out, HBn7207.out, HFq207.out, HFa207.out, HFv207.out⟩⟩
                      have HRK := Lib.hid HKS.out.1
                      refine wp_held HKS.out (by kernel_rfl) (fun hHeld => ?_)
                      refine tkQ 0 (.slice (some ⟨gv, 0, none⟩) (tickG H).waits.length cv) hHeld (h := ?_)
                      (try simp only [Act.put, sA, sB, sC])
                      refine tkQ 1 (.int .i64 (j : Int)) hHeld (h := ?_)
                      (try simp only [Act.put, sA, sB, sC])
                      refine tkQ 2 (.pointer (some ⟨gv, j * 4, none⟩)) hHeld (he := by intro w hSw; (rw [show j * 4 = 0 + j * 4 by omega]; exact exec_index (i := j) (s := 4) 50 55 _ _ rfl rfl rfl rfl HJL.out Try.underlying50 (by kernel_rfl))) (h := ?_)
                      (try simp only [Act.put, sA, sB, sC])
                      refine tkQ 3 (.pointer (some ⟨gv, j * 4 + 2, none⟩)) hHeld (h := ?_)
                      (try simp only [Act.put, sA, sB, sC])
                      refine tkQ 4 (.int .i64 a.ca) hHeld (he := by intro w hSw; exact exec_at 3 _ _ (row_S waitL_len hSw.2.2.2.2.2 HA.out 2 _ rfl) rfl rfl Try.underlying3 rfl) (h := ?_)
                      (try simp only [Act.put, sA, sB, sC])
                      refine tkQ 5 (.bool false) hHeld (he := by intro w hSw; (have q := HCA.out; have q2 := HH2.out.1.1; go_simp; (first | done | (simp [q]; done) | (simp [q]; omega) | omega))) (h := ?_)
                      (try simp only [Act.put, sA, sB, sC])
                      refine tkQ 6 (.bool false) hHeld (h := ?_)
                      (try simp only [Act.put, sA, sB, sC])
                      refine tkU 7 hHeld (h := ?_)
                      (try simp only [Act.put, sA, sB, sC])
                      refine tkU 8 hHeld (h := ?_)
                      (try simp only [Act.put, sA, sB, sC])
                      refine tkU 9 hHeld (h := ?_)
                      (try simp only [Act.put, sA, sB, sC])
                      refine tkU 10 hHeld (h := ?_)
                      (try simp only [Act.put, sA, sB, sC])
                      refine tkU 11 hHeld (h := ?_)
                      (try simp only [Act.put, sA, sB, sC])
                      refine tkU 12 hHeld (h := ?_)
                      (try simp only [Act.put, sA, sB, sC])
                      refine tkU 13 hHeld (h := ?_)
                      (try simp only [Act.put, sA, sB, sC])
                      refine tkU 14 hHeld (h := ?_)
                      (try simp only [Act.put, sA, sB, sC])
                      refine tkU 15 hHeld (h := ?_)
                      (try simp only [Act.put, sA, sB, sC])
                      refine tkU 16 hHeld (h := ?_)
                      (try simp only [Act.put, sA, sB, sC])
                      refine tkU 17 hHeld (h := ?_)
                      (try simp only [Act.put, sA, sB, sC])
                      refine tkU 18 hHeld (h := ?_)
                      (try simp only [Act.put, sA, sB, sC])
                      refine tkU 19 hHeld (h := ?_)
                      (try simp only [Act.put, sA, sB, sC])
                      refine tkU 20 hHeld (h := ?_)
                      (try simp only [Act.put, sA, sB, sC])
                      refine tkU 21 hHeld (h := ?_)
                      (try simp only [Act.put, sA, sB, sC])
                      refine tkU 22 hHeld (h := ?_)
                      (try simp only [Act.put, sA, sB, sC])
                      refine tkU 23 hHeld (h := ?_)
                      (try simp only [Act.put, sA, sB, sC])
                      refine tkU 24 hHeld (h := ?_)
                      (try simp only [Act.put, sA, sB, sC])
                      refine tkU 25 hHeld (h := ?_)
                      (try simp only [Act.put, sA, sB, sC])
                      refine tkU 26 hHeld (h := ?_)
                      (try simp only [Act.put, sA, sB, sC])
                      refine tkU 27 hHeld (h := ?_)
                      (try simp only [Act.put, sA, sB, sC])
                      refine tkU 28 hHeld (h := ?_)
                      (try simp only [Act.put, sA, sB, sC])
                      refine tkU 29 hHeld (h := ?_)
                      (try simp only [Act.put, sA, sB, sC])
                      refine tkQ 30 (.bool false) hHeld (h := ?_)
                      (try simp only [Act.put, sA, sB, sC])
                      refine wpAnyH_done (by kernel_rfl) ?_ _
                      have HSd24 := Lib.hid hHeld.1
                      have HBCd24 := Lib.hid (hHeld.2.1)
                      have HBn7d24 := Lib.hid (hHeld.2.2.1)
                      have HFqd24 := Lib.hid (hHeld.2.2.2.1)
                      have HFad24 := Lib.hid (hHeld.2.2.2.2.1)
                      have HFvd24 := Lib.hid (hHeld.2.2.2.2.2)
                      clear hHeld HRK HKS HS207 HBC207 HBn7207 HFq207 HFa207 HFv207
                      go_upto_region 21 with fail
                      refine wp_region_lit ?_
                      refine tkL (.int .i64 (j : Int)) (h := ?_)
                      (try simp only [Act.put, sA, sB, sC])
                      refine wpList_q (by rfl) (.int .i64 ((j : Int) + 1)) ?he ?_
                      case he => (have q1 := HJL.out; have q2 := HH2.out.1.2.1; go_simp; (first | done | (refine wrG _ ?_ ?_ <;> omega) | omega))
                      (try simp only [Act.put, sA, sB, sC])
                      refine tkL (.int .i64 ((j : Int) + 1)) (h := ?_)
                      (try simp only [Act.put, sA, sB, sC])
                      refine wpList_nil ?_
                      go_wp2_with fail
                      refine Met.intro ?_
                      refine hJ4 _ _ _ ?less207 ⟨(j + 1), rfl, ⟨rfl, rfl, rfl, rfl, rfl, rfl, rfl, rfl, rfl, rfl, rfl, rfl, rfl, rfl, trivial⟩, Lib.hid ⟨by have := HJL.out; omega, HSd24.out, HBCd24.out, HBn7d24.out, HFqd24.out, HFad24.out, HFvd24.out⟩⟩
                      case less207 => exact (by have := HM4.out; have := HJL.out; omega)
                   · have HKC := Lib.hid hkc; have HX := Lib.hid hx; have HFR := Lib.hid hfr; have HHAS := Lib.hid hhas; clear hkc hx hfr hhas
                     have HRX := Lib.hid (HH2.out.2.2.2 x (List.mem_of_getElem? HX.out))
                     cases s with
                     | true =>
                      go_upto_region 22 with fail
                      refine wp_region_lit ?_
                      refine tkL (.slice (some ⟨gv, 0, none⟩) (tickG H).waits.length cv) (h := ?_)
                      (try simp only [Act.put, sA, sB, sC])
                      refine tkL (.int .i64 (j : Int)) (h := ?_)
                      (try simp only [Act.put, sA, sB, sC])
                      refine wpList_q (by rfl) (.pointer (some ⟨gv, j * 4, none⟩)) ?he ?_
                      case he => (rw [show j * 4 = 0 + j * 4 by omega]; exact exec_index (i := j) (s := 4) 50 55 _ _ rfl rfl rfl rfl HJL.out Try.underlying50 (by kernel_rfl))
                      (try simp only [Act.put, sA, sB, sC])
                      refine tkL (.pointer (some ⟨gv, j * 4 + 2, none⟩)) (h := ?_)
                      (try simp only [Act.put, sA, sB, sC])
                      refine wpList_q (by rfl) (.int .i64 a.ca) ?he ?_
                      case he => exact exec_at 3 _ _ (row_S waitL_len HFv207.out HA.out 2 _ rfl) rfl rfl Try.underlying3 rfl
                      (try simp only [Act.put, sA, sB, sC])
                      refine tkL (.slice (some ⟨ga, 0, none⟩) (tickG H).cars.length ca) (h := ?_)
                      (try simp only [Act.put, sA, sB, sC])
                      refine tkL (.int .i64 ((tickG H).cars.length : Int)) (h := ?_)
                      (try simp only [Act.put, sA, sB, sC])
                      refine wpList_q (by rfl) (.bool false) ?he ?_
                      case he => (have q := HKC.out; go_simp; (first | done | omega | (rw [q.2]; omega) | (simp [q.2]; omega) | (simp [q.2]; done)))
                      (try simp only [Act.put, sA, sB, sC])
                      refine tkL (.bool false) (h := ?_)
                      (try simp only [Act.put, sA, sB, sC])
                      refine tkL (.bool true) (h := ?_)
                      (try simp only [Act.put, sA, sB, sC])
                      refine tkL (.bool true) (h := ?_)
                      (try simp only [Act.put, sA, sB, sC])
                      refine tkL (.slice (some ⟨gv, 0, none⟩) (tickG H).waits.length cv) (h := ?_)
                      (try simp only [Act.put, sA, sB, sC])
                      refine tkL (.int .i64 (j : Int)) (h := ?_)
                      (try simp only [Act.put, sA, sB, sC])
                      refine wpList_q (by rfl) (.pointer (some ⟨gv, j * 4, none⟩)) ?he ?_
                      case he => (rw [show j * 4 = 0 + j * 4 by omega]; exact exec_index (i := j) (s := 4) 50 55 _ _ rfl rfl rfl rfl HJL.out Try.underlying50 (by kernel_rfl))
                      (try simp only [Act.put, sA, sB, sC])
                      refine tkL (.pointer (some ⟨gv, j * 4 + 2, none⟩)) (h := ?_)
                      (try simp only [Act.put, sA, sB, sC])
                      refine wpList_q (by rfl) (.int .i64 a.ca) ?he ?_
                      case he => exact exec_at 3 _ _ (row_S waitL_len HFv207.out HA.out 2 _ rfl) rfl rfl Try.underlying3 rfl
                      (try simp only [Act.put, sA, sB, sC])
                      refine wpList_q (by rfl) (.bool false) ?he ?_
                      case he => (have q := HKC.out; go_simp; (first | done | omega | (rw [q.2]; omega) | (simp [q.2]; omega) | (simp [q.2]; done)))
                      (try simp only [Act.put, sA, sB, sC])
                      refine tkL (.bool false) (h := ?_)
                      (try simp only [Act.put, sA, sB, sC])
                      refine tkL (.bool false) (h := ?_)
                      (try simp only [Act.put, sA, sB, sC])
                      refine tkL (.bool false) (h := ?_)
                      (try simp only [Act.put, sA, sB, sC])
                      refine tkL (.slice (some ⟨gv, 0, none⟩) (tickG H).waits.length cv) (h := ?_)
                      (try simp only [Act.put, sA, sB, sC])
                      refine tkL (.int .i64 (j : Int)) (h := ?_)
                      (try simp only [Act.put, sA, sB, sC])
                      refine wpList_q (by rfl) (.pointer (some ⟨gv, j * 4, none⟩)) ?he ?_
                      case he => (rw [show j * 4 = 0 + j * 4 by omega]; exact exec_index (i := j) (s := 4) 50 55 _ _ rfl rfl rfl rfl HJL.out Try.underlying50 (by kernel_rfl))
                      (try simp only [Act.put, sA, sB, sC])
                      refine tkL (.pointer (some ⟨gv, j * 4 + 2, none⟩)) (h := ?_)
                      (try simp only [Act.put, sA, sB, sC])
                      refine wpList_q (by rfl) (.int .i64 a.ca) ?he ?_
                      case he => exact exec_at 3 _ _ (row_S waitL_len HFv207.out HA.out 2 _ rfl) rfl rfl Try.underlying3 rfl
                      (try simp only [Act.put, sA, sB, sC])
                      refine wpList_q (by rfl) (.bool true) ?he ?_
                      case he => (have q := HKC.out; go_simp; (first | done | omega | (rw [q.2]; omega) | (simp [q.2]; omega) | (simp [q.2]; done)))
                      (try simp only [Act.put, sA, sB, sC])
                      refine tkL (.bool true) (h := ?_)
                      (try simp only [Act.put, sA, sB, sC])
                      refine tkL (.slice (some ⟨ga, 0, none⟩) (tickG H).cars.length ca) (h := ?_)
                      (try simp only [Act.put, sA, sB, sC])
                      refine tkL (.slice (some ⟨gv, 0, none⟩) (tickG H).waits.length cv) (h := ?_)
                      (try simp only [Act.put, sA, sB, sC])
                      refine tkL (.int .i64 (j : Int)) (h := ?_)
                      (try simp only [Act.put, sA, sB, sC])
                      refine wpList_q (by rfl) (.pointer (some ⟨gv, j * 4, none⟩)) ?he ?_
                      case he => (rw [show j * 4 = 0 + j * 4 by omega]; exact exec_index (i := j) (s := 4) 50 55 _ _ rfl rfl rfl rfl HJL.out Try.underlying50 (by kernel_rfl))
                      (try simp only [Act.put, sA, sB, sC])
                      refine tkL (.pointer (some ⟨gv, j * 4 + 2, none⟩)) (h := ?_)
                      (try simp only [Act.put, sA, sB, sC])
                      refine wpList_q (by rfl) (.int .i64 a.ca) ?he ?_
                      case he => exact exec_at 3 _ _ (row_S waitL_len HFv207.out HA.out 2 _ rfl) rfl rfl Try.underlying3 rfl
                      (try simp only [Act.put, sA, sB, sC])
                      refine wpList_q (by rfl) (.pointer (some ⟨ga, kc * 15, none⟩)) ?he ?_
                      case he => (rw [show kc * 15 = 0 + kc * 15 by omega]; exact exec_index (i := kc) (s := 15) 37 30 _ _ rfl rfl rfl HKC.out.2 HKC.out.1 Try.underlying37 (by kernel_rfl))
                      (try simp only [Act.put, sA, sB, sC])
                      refine tkL (.pointer (some ⟨ga, kc * 15 + 9, none⟩)) (h := ?_)
                      (try simp only [Act.put, sA, sB, sC])
                      refine wpList_q (by rfl) (.int .i64 x.mo) ?he ?_
                      case he => exact exec_at 3 _ _ (row_S carL_len HFa207.out HX.out 9 _ rfl) rfl rfl Try.underlying3 rfl
                      (try simp only [Act.put, sA, sB, sC])
                      refine wpList_q (by rfl) (.bool false) ?he ?_
                      case he => (have q := HFR.out.1; go_simp; (first | done | exact q | (simp [q]; done)))
                      (try simp only [Act.put, sA, sB, sC])
                      refine tkL (.bool false) (h := ?_)
                      (try simp only [Act.put, sA, sB, sC])
                      refine tkL (.slice (some ⟨ga, 0, none⟩) (tickG H).cars.length ca) (h := ?_)
                      (try simp only [Act.put, sA, sB, sC])
                      refine tkL (.slice (some ⟨gv, 0, none⟩) (tickG H).waits.length cv) (h := ?_)
                      (try simp only [Act.put, sA, sB, sC])
                      refine tkL (.int .i64 (j : Int)) (h := ?_)
                      (try simp only [Act.put, sA, sB, sC])
                      refine wpList_q (by rfl) (.pointer (some ⟨gv, j * 4, none⟩)) ?he ?_
                      case he => (rw [show j * 4 = 0 + j * 4 by omega]; exact exec_index (i := j) (s := 4) 50 55 _ _ rfl rfl rfl rfl HJL.out Try.underlying50 (by kernel_rfl))
                      (try simp only [Act.put, sA, sB, sC])
                      refine tkL (.pointer (some ⟨gv, j * 4 + 2, none⟩)) (h := ?_)
                      (try simp only [Act.put, sA, sB, sC])
                      refine wpList_q (by rfl) (.int .i64 a.ca) ?he ?_
                      case he => exact exec_at 3 _ _ (row_S waitL_len HFv207.out HA.out 2 _ rfl) rfl rfl Try.underlying3 rfl
                      (try simp only [Act.put, sA, sB, sC])
                      refine wpList_q (by rfl) (.pointer (some ⟨ga, kc * 15, none⟩)) ?he ?_
                      case he => (rw [show kc * 15 = 0 + kc * 15 by omega]; exact exec_index (i := kc) (s := 15) 37 30 _ _ rfl rfl rfl HKC.out.2 HKC.out.1 Try.underlying37 (by kernel_rfl))
                      (try simp only [Act.put, sA, sB, sC])
                      refine tkL (.pointer (some ⟨ga, kc * 15 + 8, none⟩)) (h := ?_)
                      (try simp only [Act.put, sA, sB, sC])
                      refine wpList_q (by rfl) (.bool false) ?he ?_
                      case he => exact exec_at 4 _ _ (br_at (row_S carL_len HFa207.out HX.out) HFR.out.2) rfl rfl Try.underlying4 rfl
                      (try simp only [Act.put, sA, sB, sC])
                      refine tkL (.bool false) (h := ?_)
                      (try simp only [Act.put, sA, sB, sC])
                      refine tkL (.bool false) (h := ?_)
                      (try simp only [Act.put, sA, sB, sC])
                      refine tkL (.bool false) (h := ?_)
                      (try simp only [Act.put, sA, sB, sC])
                      refine wpList_nil ?_
                      go_upto_region 24 with fail
                      have HKS : Hid (KeepS (fun W : World => Since w W ∧ Blk W w.heap.size 23 (cfgA c) ∧ Blk W bn7 46 (opA (os i)) ∧ GO w.heap.size q1 (tickG H) Sq_1 W ∧ (W).ownsRow w.heap.size 30 15 (.slice (some ⟨ga, 0, none⟩) ((tickG H).cars.length) ca) ((tickG H).cars.length) (rowsOf carL (tickG H).cars) ∧ (W).ownsRow w.heap.size 55 4 (.slice (some ⟨gv, 0, none⟩) ((tickG H).waits.length) cv) ((tickG H).waits.length) (rowsOf waitL (tickG H).waits)) wr) := Lib.hid ⟨fun W W' k ⟨h, h0, h1, h2, h3, h4⟩ => ⟨h.trans k, keep_blk k h0, keep_blk k h1, GO.keep k h2, keep_own k h3, keep_own k h4⟩, ⟨HS207.out, HBC207.out, HBn7207.out, HFq207.out, HFa207.out, HFv207.out⟩⟩
                      have HRK := Lib.hid HKS.out.1
                      refine wp_held HKS.out (by kernel_rfl) (fun hHeld => ?_)
                      refine tkQ 0 (.slice (some ⟨gv, 0, none⟩) (tickG H).waits.length cv) hHeld (h := ?_)
                      (try simp only [Act.put, sA, sB, sC])
                      refine tkQ 1 (.int .i64 (j : Int)) hHeld (h := ?_)
                      (try simp only [Act.put, sA, sB, sC])
                      refine tkQ 2 (.pointer (some ⟨gv, j * 4, none⟩)) hHeld (he := by intro w hSw; (rw [show j * 4 = 0 + j * 4 by omega]; exact exec_index (i := j) (s := 4) 50 55 _ _ rfl rfl rfl rfl HJL.out Try.underlying50 (by kernel_rfl))) (h := ?_)
                      (try simp only [Act.put, sA, sB, sC])
                      refine tkQ 3 (.pointer (some ⟨gv, j * 4 + 2, none⟩)) hHeld (h := ?_)
                      (try simp only [Act.put, sA, sB, sC])
                      refine tkQ 4 (.int .i64 a.ca) hHeld (he := by intro w hSw; exact exec_at 3 _ _ (row_S waitL_len hSw.2.2.2.2.2 HA.out 2 _ rfl) rfl rfl Try.underlying3 rfl) (h := ?_)
                      (try simp only [Act.put, sA, sB, sC])
                      refine tkQ 5 (.bool true) hHeld (he := by intro w hSw; (have q := HKC.out; go_simp; (first | done | omega | (rw [q.2]; omega) | (simp [q.2]; omega) | (simp [q.2]; done)))) (h := ?_)
                      (try simp only [Act.put, sA, sB, sC])
                      refine tkQ 6 (.bool true) hHeld (h := ?_)
                      (try simp only [Act.put, sA, sB, sC])
                      refine tkQ 7 (.slice (some ⟨ga, 0, none⟩) (tickG H).cars.length ca) hHeld (h := ?_)
                      (try simp only [Act.put, sA, sB, sC])
                      refine tkQ 8 (.slice (some ⟨gv, 0, none⟩) (tickG H).waits.length cv) hHeld (h := ?_)
                      (try simp only [Act.put, sA, sB, sC])
                      refine tkQ 9 (.int .i64 (j : Int)) hHeld (h := ?_)
                      (try simp only [Act.put, sA, sB, sC])
                      refine tkQ 10 (.pointer (some ⟨gv, j * 4, none⟩)) hHeld (he := by intro w hSw; (rw [show j * 4 = 0 + j * 4 by omega]; exact exec_index (i := j) (s := 4) 50 55 _ _ rfl rfl rfl rfl HJL.out Try.underlying50 (by kernel_rfl))) (h := ?_)
                      (try simp only [Act.put, sA, sB, sC])
                      refine tkQ 11 (.pointer (some ⟨gv, j * 4 + 2, none⟩)) hHeld (h := ?_)
                      (try simp only [Act.put, sA, sB, sC])
                      refine tkQ 12 (.int .i64 a.ca) hHeld (he := by intro w hSw; exact exec_at 3 _ _ (row_S waitL_len hSw.2.2.2.2.2 HA.out 2 _ rfl) rfl rfl Try.underlying3 rfl) (h := ?_)
                      (try simp only [Act.put, sA, sB, sC])
                      refine tkQ 13 (.pointer (some ⟨ga, kc * 15, none⟩)) hHeld (he := by intro w hSw; (rw [show kc * 15 = 0 + kc * 15 by omega]; exact exec_index (i := kc) (s := 15) 37 30 _ _ rfl rfl rfl HKC.out.2 HKC.out.1 Try.underlying37 (by kernel_rfl))) (h := ?_)
                      (try simp only [Act.put, sA, sB, sC])
                      refine tkQ 14 (.pointer (some ⟨ga, kc * 15 + 12, none⟩)) hHeld (h := ?_)
                      (try simp only [Act.put, sA, sB, sC])
                      refine tkQ 15 (.agg #[.int .u64 x.sp, .int .u64 x.su, .int .u64 x.sd]) hHeld (he := by intro w hSw; exact exec_rng (l := [.int .u64 x.sp, .int .u64 x.su, .int .u64 x.sd]) 28 _ _ (stops_at (row_S carL_len hSw.2.2.2.2.1 HX.out)) rfl rfl Try.underlying28 rfl (by kernel_rfl)) (h := ?_)
                      (try simp only [Act.put, sA, sB, sC])
                      refine tkQ 16 (.slice (some ⟨gv, 0, none⟩) (tickG H).waits.length cv) hHeld (h := ?_)
                      (try simp only [Act.put, sA, sB, sC])
                      refine tkQ 17 (.int .i64 (j : Int)) hHeld (h := ?_)
                      (try simp only [Act.put, sA, sB, sC])
                      refine tkQ 18 (.pointer (some ⟨gv, j * 4, none⟩)) hHeld (he := by intro w hSw; (rw [show j * 4 = 0 + j * 4 by omega]; exact exec_index (i := j) (s := 4) 50 55 _ _ rfl rfl rfl rfl HJL.out Try.underlying50 (by kernel_rfl))) (h := ?_)
                      (try simp only [Act.put, sA, sB, sC])
                      refine tkQ 19 (.pointer (some ⟨gv, j * 4, none⟩)) hHeld (h := ?_)
                      (try simp only [Act.put, sA, sB, sC])
                      refine tkQ 20 (.pointer (some ⟨gv, j * 4, none⟩)) hHeld (h := ?_)
                      (try simp only [Act.put, sA, sB, sC])
                      refine tkQ 21 (.int .i64 a.fl) hHeld (he := by intro w hSw; exact exec_at 3 _ _ (row_S waitL_len hSw.2.2.2.2.2 HA.out 0 _ rfl) rfl rfl Try.underlying3 rfl) (h := ?_)
                      (try simp only [Act.put, sA, sB, sC])
                      refine tkQ 22 (.slice (some ⟨gv, 0, none⟩) (tickG H).waits.length cv) hHeld (h := ?_)
                      (try simp only [Act.put, sA, sB, sC])
                      refine tkQ 23 (.int .i64 (j : Int)) hHeld (h := ?_)
                      (try simp only [Act.put, sA, sB, sC])
                      refine tkQ 24 (.pointer (some ⟨gv, j * 4, none⟩)) hHeld (he := by intro w hSw; (rw [show j * 4 = 0 + j * 4 by omega]; exact exec_index (i := j) (s := 4) 50 55 _ _ rfl rfl rfl rfl HJL.out Try.underlying50 (by kernel_rfl))) (h := ?_)
                      (try simp only [Act.put, sA, sB, sC])
                      refine tkQ 25 (.pointer (some ⟨gv, j * 4, none⟩)) hHeld (h := ?_)
                      (try simp only [Act.put, sA, sB, sC])
                      refine tkQ 26 (.pointer (some ⟨gv, j * 4 + 1, none⟩)) hHeld (h := ?_)
                      (try simp only [Act.put, sA, sB, sC])
                      refine tkQ 27 (.int .i64 a.wy) hHeld (he := by intro w hSw; exact exec_at 3 _ _ (row_S waitL_len hSw.2.2.2.2.2 HA.out 1 _ rfl) rfl rfl Try.underlying3 rfl) (h := ?_)
                      (try simp only [Act.put, sA, sB, sC])
                      refine wpAnyH_ready (rs := [28]) (by kernel_rfl) (by simp) ?_
                      refine AllReadyH.cons (o := ?o24__28) ?h24__28 (fun K hK => ?_) AllReadyH.nil
                      case h24__28 => (first | (simp only [gA, gB, gC]; done) | (simp only [gA, gB, gC]; exact rfl))
                      (try go_simp)
                      refine (hasV x a _ HRX.out HHAS.out).mono ?_
                      rintro e w208 ⟨rfl, hb⟩
                      (try go_wp2_with fail)
                      refine hK.out _ _ (by (apply HRK.out; exact hb; exact hHeld)) (fun hHeld2 => ?_)
                      clear hK K hHeld hb
                      have hHeld := hHeld2
                      clear hHeld2
                      (try simp only [Act.put, sA, sB, sC])
                      refine tkQ 29 (.bool false) hHeld (he := by intro w hSw; (go_simp; (try with_reducible rfl))) (h := ?_)
                      (try simp only [Act.put, sA, sB, sC])
                      refine tkQ 30 (.bool false) hHeld (h := ?_)
                      (try simp only [Act.put, sA, sB, sC])
                      refine wpAnyH_done (by kernel_rfl) ?_ _
                      have HSd24v2 := Lib.hid hHeld.1
                      have HBCd24v2 := Lib.hid (hHeld.2.1)
                      have HBn7d24v2 := Lib.hid (hHeld.2.2.1)
                      have HFqd24v2 := Lib.hid (hHeld.2.2.2.1)
                      have HFad24v2 := Lib.hid (hHeld.2.2.2.2.1)
                      have HFvd24v2 := Lib.hid (hHeld.2.2.2.2.2)
                      clear hHeld HRK HKS HS207 HBC207 HBn7207 HFq207 HFa207 HFv207
                      go_upto_region 21 with fail
                      refine wp_region_lit ?_
                      refine tkL (.int .i64 (j : Int)) (h := ?_)
                      (try simp only [Act.put, sA, sB, sC])
                      refine wpList_q (by rfl) (.int .i64 ((j : Int) + 1)) ?he ?_
                      case he => (have q1 := HJL.out; have q2 := HH2.out.1.2.1; go_simp; (first | done | (refine wrG _ ?_ ?_ <;> omega) | omega))
                      (try simp only [Act.put, sA, sB, sC])
                      refine tkL (.int .i64 ((j : Int) + 1)) (h := ?_)
                      (try simp only [Act.put, sA, sB, sC])
                      refine wpList_nil ?_
                      go_wp2_with fail
                      refine Met.intro ?_
                      refine hJ4 _ _ _ ?less208 ⟨(j + 1), rfl, ⟨rfl, rfl, rfl, rfl, rfl, rfl, rfl, rfl, rfl, rfl, rfl, rfl, rfl, rfl, trivial⟩, Lib.hid ⟨by have := HJL.out; omega, HSd24v2.out, HBCd24v2.out, HBn7d24v2.out, HFqd24v2.out, HFad24v2.out, HFvd24v2.out⟩⟩
                      case less208 => exact (by have := HM4.out; have := HJL.out; omega)
                     | false =>
                      go_upto_region 22 with fail
                      refine wp_region_lit ?_
                      refine tkL (.slice (some ⟨gv, 0, none⟩) (tickG H).waits.length cv) (h := ?_)
                      (try simp only [Act.put, sA, sB, sC])
                      refine tkL (.int .i64 (j : Int)) (h := ?_)
                      (try simp only [Act.put, sA, sB, sC])
                      refine wpList_q (by rfl) (.pointer (some ⟨gv, j * 4, none⟩)) ?he ?_
                      case he => (rw [show j * 4 = 0 + j * 4 by omega]; exact exec_index (i := j) (s := 4) 50 55 _ _ rfl rfl rfl rfl HJL.out Try.underlying50 (by kernel_rfl))
                      (try simp only [Act.put, sA, sB, sC])
                      refine tkL (.pointer (some ⟨gv, j * 4 + 2, none⟩)) (h := ?_)
                      (try simp only [Act.put, sA, sB, sC])
                      refine wpList_q (by rfl) (.int .i64 a.ca) ?he ?_
                      case he => exact exec_at 3 _ _ (row_S waitL_len HFv207.out HA.out 2 _ rfl) rfl rfl Try.underlying3 rfl
                      (try simp only [Act.put, sA, sB, sC])
                      refine tkL (.slice (some ⟨ga, 0, none⟩) (tickG H).cars.length ca) (h := ?_)
                      (try simp only [Act.put, sA, sB, sC])
                      refine tkL (.int .i64 ((tickG H).cars.length : Int)) (h := ?_)
                      (try simp only [Act.put, sA, sB, sC])
                      refine wpList_q (by rfl) (.bool false) ?he ?_
                      case he => (have q := HKC.out; go_simp; (first | done | omega | (rw [q.2]; omega) | (simp [q.2]; omega) | (simp [q.2]; done)))
                      (try simp only [Act.put, sA, sB, sC])
                      refine tkL (.bool false) (h := ?_)
                      (try simp only [Act.put, sA, sB, sC])
                      refine tkL (.bool false) (h := ?_)
                      (try simp only [Act.put, sA, sB, sC])
                      refine tkL (.bool false) (h := ?_)
                      (try simp only [Act.put, sA, sB, sC])
                      refine wpList_no (by rfl) ?_
                      (try simp only [Act.put, sA, sB, sC])
                      refine wpList_no (by rfl) ?_
                      (try simp only [Act.put, sA, sB, sC])
                      refine wpList_no (by rfl) ?_
                      (try simp only [Act.put, sA, sB, sC])
                      refine wpList_no (by rfl) ?_
                      (try simp only [Act.put, sA, sB, sC])
                      refine wpList_no (by rfl) ?_
                      (try simp only [Act.put, sA, sB, sC])
                      refine wpList_no (by rfl) ?_
                      (try simp only [Act.put, sA, sB, sC])
                      refine tkL (.bool false) (h := ?_)
                      (try simp only [Act.put, sA, sB, sC])
                      refine tkL (.bool false) (h := ?_)
                      (try simp only [Act.put, sA, sB, sC])
                      refine tkL (.bool false) (h := ?_)
                      (try simp only [Act.put, sA, sB, sC])
                      refine tkL (.slice (some ⟨gv, 0, none⟩) (tickG H).waits.length cv) (h := ?_)
                      (try simp only [Act.put, sA, sB, sC])
                      refine tkL (.int .i64 (j : Int)) (h := ?_)
                      (try simp only [Act.put, sA, sB, sC])
                      refine wpList_q (by rfl) (.pointer (some ⟨gv, j * 4, none⟩)) ?he ?_
                      case he => (rw [show j * 4 = 0 + j * 4 by omega]; exact exec_index (i := j) (s := 4) 50 55 _ _ rfl rfl rfl rfl HJL.out Try.underlying50 (by kernel_rfl))
                      (try simp only [Act.put, sA, sB, sC])
                      refine tkL (.pointer (some ⟨gv, j * 4 + 2, none⟩)) (h := ?_)
                      (try simp only [Act.put, sA, sB, sC])
                      refine wpList_q (by rfl) (.int .i64 a.ca) ?he ?_
                      case he => exact exec_at 3 _ _ (row_S waitL_len HFv207.out HA.out 2 _ rfl) rfl rfl Try.underlying3 rfl
                      (try simp only [Act.put, sA, sB, sC])
                      refine wpList_q (by rfl) (.bool true) ?he ?_
                      case he => (have q := HKC.out; go_simp; (first | done | omega | (rw [q.2]; omega) | (simp [q.2]; omega) | (simp [q.2]; done)))
                      (try simp only [Act.put, sA, sB, sC])
                      refine tkL (.bool true) (h := ?_)
                      (try simp only [Act.put, sA, sB, sC])
                      refine tkL (.slice (some ⟨ga, 0, none⟩) (tickG H).cars.length ca) (h := ?_)
                      (try simp only [Act.put, sA, sB, sC])
                      refine tkL (.slice (some ⟨gv, 0, none⟩) (tickG H).waits.length cv) (h := ?_)
                      (try simp only [Act.put, sA, sB, sC])
                      refine tkL (.int .i64 (j : Int)) (h := ?_)
                      (try simp only [Act.put, sA, sB, sC])
                      refine wpList_q (by rfl) (.pointer (some ⟨gv, j * 4, none⟩)) ?he ?_
                      case he => (rw [show j * 4 = 0 + j * 4 by omega]; exact exec_index (i := j) (s := 4) 50 55 _ _ rfl rfl rfl rfl HJL.out Try.underlying50 (by kernel_rfl))
                      (try simp only [Act.put, sA, sB, sC])
                      refine tkL (.pointer (some ⟨gv, j * 4 + 2, none⟩)) (h := ?_)
                      (try simp only [Act.put, sA, sB, sC])
                      refine wpList_q (by rfl) (.int .i64 a.ca) ?he ?_
                      case he => exact exec_at 3 _ _ (row_S waitL_len HFv207.out HA.out 2 _ rfl) rfl rfl Try.underlying3 rfl
                      (try simp only [Act.put, sA, sB, sC])
                      refine wpList_q (by rfl) (.pointer (some ⟨ga, kc * 15, none⟩)) ?he ?_
                      case he => (rw [show kc * 15 = 0 + kc * 15 by omega]; exact exec_index (i := kc) (s := 15) 37 30 _ _ rfl rfl rfl HKC.out.2 HKC.out.1 Try.underlying37 (by kernel_rfl))
                      (try simp only [Act.put, sA, sB, sC])
                      refine tkL (.pointer (some ⟨ga, kc * 15 + 9, none⟩)) (h := ?_)
                      (try simp only [Act.put, sA, sB, sC])
                      refine wpList_q (by rfl) (.int .i64 x.mo) ?he ?_
                      case he => exact exec_at 3 _ _ (row_S carL_len HFa207.out HX.out 9 _ rfl) rfl rfl Try.underlying3 rfl
                      (try simp only [Act.put, sA, sB, sC])
                      refine wpList_q (by rfl) (.bool false) ?he ?_
                      case he => (have q := HFR.out.1; go_simp; (first | done | exact q | (simp [q]; done)))
                      (try simp only [Act.put, sA, sB, sC])
                      refine tkL (.bool false) (h := ?_)
                      (try simp only [Act.put, sA, sB, sC])
                      refine tkL (.slice (some ⟨ga, 0, none⟩) (tickG H).cars.length ca) (h := ?_)
                      (try simp only [Act.put, sA, sB, sC])
                      refine tkL (.slice (some ⟨gv, 0, none⟩) (tickG H).waits.length cv) (h := ?_)
                      (try simp only [Act.put, sA, sB, sC])
                      refine tkL (.int .i64 (j : Int)) (h := ?_)
                      (try simp only [Act.put, sA, sB, sC])
                      refine wpList_q (by rfl) (.pointer (some ⟨gv, j * 4, none⟩)) ?he ?_
                      case he => (rw [show j * 4 = 0 + j * 4 by omega]; exact exec_index (i := j) (s := 4) 50 55 _ _ rfl rfl rfl rfl HJL.out Try.underlying50 (by kernel_rfl))
                      (try simp only [Act.put, sA, sB, sC])
                      refine tkL (.pointer (some ⟨gv, j * 4 + 2, none⟩)) (h := ?_)
                      (try simp only [Act.put, sA, sB, sC])
                      refine wpList_q (by rfl) (.int .i64 a.ca) ?he ?_
                      case he => exact exec_at 3 _ _ (row_S waitL_len HFv207.out HA.out 2 _ rfl) rfl rfl Try.underlying3 rfl
                      (try simp only [Act.put, sA, sB, sC])
                      refine wpList_q (by rfl) (.pointer (some ⟨ga, kc * 15, none⟩)) ?he ?_
                      case he => (rw [show kc * 15 = 0 + kc * 15 by omega]; exact exec_index (i := kc) (s := 15) 37 30 _ _ rfl rfl rfl HKC.out.2 HKC.out.1 Try.underlying37 (by kernel_rfl))
                      (try simp only [Act.put, sA, sB, sC])
                      refine tkL (.pointer (some ⟨ga, kc * 15 + 8, none⟩)) (h := ?_)
                      (try simp only [Act.put, sA, sB, sC])
                      refine wpList_q (by rfl) (.bool false) ?he ?_
                      case he => exact exec_at 4 _ _ (br_at (row_S carL_len HFa207.out HX.out) HFR.out.2) rfl rfl Try.underlying4 rfl
                      (try simp only [Act.put, sA, sB, sC])
                      refine tkL (.bool false) (h := ?_)
                      (try simp only [Act.put, sA, sB, sC])
                      refine tkL (.bool false) (h := ?_)
                      (try simp only [Act.put, sA, sB, sC])
                      refine tkL (.bool false) (h := ?_)
                      (try simp only [Act.put, sA, sB, sC])
                      refine wpList_nil ?_
                      go_upto_region 24 with fail
                      have HKS : Hid (KeepS (fun W : World => Since w W ∧ Blk W w.heap.size 23 (cfgA c) ∧ Blk W bn7 46 (opA (os i)) ∧ GO w.heap.size q1 (tickG H) Sq_1 W ∧ (W).ownsRow w.heap.size 30 15 (.slice (some ⟨ga, 0, none⟩) ((tickG H).cars.length) ca) ((tickG H).cars.length) (rowsOf carL (tickG H).cars) ∧ (W).ownsRow w.heap.size 55 4 (.slice (some ⟨gv, 0, none⟩) ((tickG H).waits.length) cv) ((tickG H).waits.length) (rowsOf waitL (tickG H).waits)) wr) := Lib.hid ⟨fun W W' k ⟨h, h0, h1, h2, h3, h4⟩ => ⟨h.trans k, keep_blk k h0, keep_blk k h1, GO.keep k h2, keep_own k h3, keep_own k h4⟩, ⟨HS207.out, HBC207.out, HBn7207.out, HFq207.out, HFa207.out, HFv207.out⟩⟩
                      have HRK := Lib.hid HKS.out.1
                      refine wp_held HKS.out (by kernel_rfl) (fun hHeld => ?_)
                      refine tkQ 0 (.slice (some ⟨gv, 0, none⟩) (tickG H).waits.length cv) hHeld (h := ?_)
                      (try simp only [Act.put, sA, sB, sC])
                      refine tkQ 1 (.int .i64 (j : Int)) hHeld (h := ?_)
                      (try simp only [Act.put, sA, sB, sC])
                      refine tkQ 2 (.pointer (some ⟨gv, j * 4, none⟩)) hHeld (he := by intro w hSw; (rw [show j * 4 = 0 + j * 4 by omega]; exact exec_index (i := j) (s := 4) 50 55 _ _ rfl rfl rfl rfl HJL.out Try.underlying50 (by kernel_rfl))) (h := ?_)
                      (try simp only [Act.put, sA, sB, sC])
                      refine tkQ 3 (.pointer (some ⟨gv, j * 4 + 2, none⟩)) hHeld (h := ?_)
                      (try simp only [Act.put, sA, sB, sC])
                      refine tkQ 4 (.int .i64 a.ca) hHeld (he := by intro w hSw; exact exec_at 3 _ _ (row_S waitL_len hSw.2.2.2.2.2 HA.out 2 _ rfl) rfl rfl Try.underlying3 rfl) (h := ?_)
                      (try simp only [Act.put, sA, sB, sC])
                      refine tkQ 5 (.bool true) hHeld (he := by intro w hSw; (have q := HKC.out; go_simp; (first | done | omega | (rw [q.2]; omega) | (simp [q.2]; omega) | (simp [q.2]; done)))) (h := ?_)
                      (try simp only [Act.put, sA, sB, sC])
                      refine tkQ 6 (.bool true) hHeld (h := ?_)
                      (try simp only [Act.put, sA, sB, sC])
                      refine tkQ 7 (.slice (some ⟨ga, 0, none⟩) (tickG H).cars.length ca) hHeld (h := ?_)
                      (try simp only [Act.put, sA, sB, sC])
                      refine tkQ 8 (.slice (some ⟨gv, 0, none⟩) (tickG H).waits.length cv) hHeld (h := ?_)
                      (try simp only [Act.put, sA, sB, sC])
                      refine tkQ 9 (.int .i64 (j : Int)) hHeld (h := ?_)
                      (try simp only [Act.put, sA, sB, sC])
                      refine tkQ 10 (.pointer (some ⟨gv, j * 4, none⟩)) hHeld (he := by intro w hSw; (rw [show j * 4 = 0 + j * 4 by omega]; exact exec_index (i := j) (s := 4) 50 55 _ _ rfl rfl rfl rfl HJL.out Try.underlying50 (by kernel_rfl))) (h := ?_)
                      (try simp only [Act.put, sA, sB, sC])
                      refine tkQ 11 (.pointer (some ⟨gv, j * 4 + 2, none⟩)) hHeld (h := ?_)
                      (try simp only [Act.put, sA, sB, sC])
                      refine tkQ 12 (.int .i64 a.ca) hHeld (he := by intro w hSw; exact exec_at 3 _ _ (row_S waitL_len hSw.2.2.2.2.2 HA.out 2 _ rfl) rfl rfl Try.underlying3 rfl) (h := ?_)
                      (try simp only [Act.put, sA, sB, sC])
                      refine tkQ 13 (.pointer (some ⟨ga, kc * 15, none⟩)) hHeld (he := by intro w hSw; (rw [show kc * 15 = 0 + kc * 15 by omega]; exact exec_index (i := kc) (s := 15) 37 30 _ _ rfl rfl rfl HKC.out.2 HKC.out.1 Try.underlying37 (by kernel_rfl))) (h := ?_)
                      (try simp only [Act.put, sA, sB, sC])
                      refine tkQ 14 (.pointer (some ⟨ga, kc * 15 + 12, none⟩)) hHeld (h := ?_)
                      (try simp only [Act.put, sA, sB, sC])
                      refine tkQ 15 (.agg #[.int .u64 x.sp, .int .u64 x.su, .int .u64 x.sd]) hHeld (he := by intro w hSw; exact exec_rng (l := [.int .u64 x.sp, .int .u64 x.su, .int .u64 x.sd]) 28 _ _ (stops_at (row_S carL_len hSw.2.2.2.2.1 HX.out)) rfl rfl Try.underlying28 rfl (by kernel_rfl)) (h := ?_)
                      (try simp only [Act.put, sA, sB, sC])
                      refine tkQ 16 (.slice (some ⟨gv, 0, none⟩) (tickG H).waits.length cv) hHeld (h := ?_)
                      (try simp only [Act.put, sA, sB, sC])
                      refine tkQ 17 (.int .i64 (j : Int)) hHeld (h := ?_)
                      (try simp only [Act.put, sA, sB, sC])
                      refine tkQ 18 (.pointer (some ⟨gv, j * 4, none⟩)) hHeld (he := by intro w hSw; (rw [show j * 4 = 0 + j * 4 by omega]; exact exec_index (i := j) (s := 4) 50 55 _ _ rfl rfl rfl rfl HJL.out Try.underlying50 (by kernel_rfl))) (h := ?_)
                      (try simp only [Act.put, sA, sB, sC])
                      refine tkQ 19 (.pointer (some ⟨gv, j * 4, none⟩)) hHeld (h := ?_)
                      (try simp only [Act.put, sA, sB, sC])
                      refine tkQ 20 (.pointer (some ⟨gv, j * 4, none⟩)) hHeld (h := ?_)
                      (try simp only [Act.put, sA, sB, sC])
                      refine tkQ 21 (.int .i64 a.fl) hHeld (he := by intro w hSw; exact exec_at 3 _ _ (row_S waitL_len hSw.2.2.2.2.2 HA.out 0 _ rfl) rfl rfl Try.underlying3 rfl) (h := ?_)
                      (try simp only [Act.put, sA, sB, sC])
                      refine tkQ 22 (.slice (some ⟨gv, 0, none⟩) (tickG H).waits.length cv) hHeld (h := ?_)
                      (try simp only [Act.put, sA, sB, sC])
                      refine tkQ 23 (.int .i64 (j : Int)) hHeld (h := ?_)
                      (try simp only [Act.put, sA, sB, sC])
                      refine tkQ 24 (.pointer (some ⟨gv, j * 4, none⟩)) hHeld (he := by intro w hSw; (rw [show j * 4 = 0 + j * 4 by omega]; exact exec_index (i := j) (s := 4) 50 55 _ _ rfl rfl rfl rfl HJL.out Try.underlying50 (by kernel_rfl))) (h := ?_)
                      (try simp only [Act.put, sA, sB, sC])
                      refine tkQ 25 (.pointer (some ⟨gv, j * 4, none⟩)) hHeld (h := ?_)
                      (try simp only [Act.put, sA, sB, sC])
                      refine tkQ 26 (.pointer (some ⟨gv, j * 4 + 1, none⟩)) hHeld (h := ?_)
                      (try simp only [Act.put, sA, sB, sC])
                      refine tkQ 27 (.int .i64 a.wy) hHeld (he := by intro w hSw; exact exec_at 3 _ _ (row_S waitL_len hSw.2.2.2.2.2 HA.out 1 _ rfl) rfl rfl Try.underlying3 rfl) (h := ?_)
                      (try simp only [Act.put, sA, sB, sC])
                      refine wpAnyH_ready (rs := [28]) (by kernel_rfl) (by simp) ?_
                      refine AllReadyH.cons (o := ?o24__28) ?h24__28 (fun K hK => ?_) AllReadyH.nil
                      case h24__28 => (first | (simp only [gA, gB, gC]; done) | (simp only [gA, gB, gC]; exact rfl))
                      (try go_simp)
                      refine (hasV x a _ HRX.out HHAS.out).mono ?_
                      rintro e w208 ⟨rfl, hb⟩
                      (try go_wp2_with fail)
                      refine hK.out _ _ (by (apply HRK.out; exact hb; exact hHeld)) (fun hHeld2 => ?_)
                      clear hK K hHeld hb
                      have hHeld := hHeld2
                      clear hHeld2
                      (try simp only [Act.put, sA, sB, sC])
                      refine tkQ 29 (.bool false) hHeld (he := by intro w hSw; (go_simp; (try with_reducible rfl))) (h := ?_)
                      (try simp only [Act.put, sA, sB, sC])
                      refine tkQ 30 (.bool false) hHeld (h := ?_)
                      (try simp only [Act.put, sA, sB, sC])
                      refine wpAnyH_done (by kernel_rfl) ?_ _
                      have HSd24v2 := Lib.hid hHeld.1
                      have HBCd24v2 := Lib.hid (hHeld.2.1)
                      have HBn7d24v2 := Lib.hid (hHeld.2.2.1)
                      have HFqd24v2 := Lib.hid (hHeld.2.2.2.1)
                      have HFad24v2 := Lib.hid (hHeld.2.2.2.2.1)
                      have HFvd24v2 := Lib.hid (hHeld.2.2.2.2.2)
                      clear hHeld HRK HKS HS207 HBC207 HBn7207 HFq207 HFa207 HFv207
                      go_upto_region 21 with fail
                      refine wp_region_lit ?_
                      refine tkL (.int .i64 (j : Int)) (h := ?_)
                      (try simp only [Act.put, sA, sB, sC])
                      refine wpList_q (by rfl) (.int .i64 ((j : Int) + 1)) ?he ?_
                      case he => (have q1 := HJL.out; have q2 := HH2.out.1.2.1; go_simp; (first | done | (refine wrG _ ?_ ?_ <;> omega) | omega))
                      (try simp only [Act.put, sA, sB, sC])
                      refine tkL (.int .i64 ((j : Int) + 1)) (h := ?_)
                      (try simp only [Act.put, sA, sB, sC])
                      refine wpList_nil ?_
                      go_wp2_with fail
                      refine Met.intro ?_
                      refine hJ4 _ _ _ ?less208 ⟨(j + 1), rfl, ⟨rfl, rfl, rfl, rfl, rfl, rfl, rfl, rfl, rfl, rfl, rfl, rfl, rfl, rfl, trivial⟩, Lib.hid ⟨by have := HJL.out; omega, HSd24v2.out, HBCd24v2.out, HBn7d24v2.out, HFqd24v2.out, HFad24v2.out, HFvd24v2.out⟩⟩
                      case less208 => exact (by have := HM4.out; have := HJL.out; omega)
              · have HNL := Lib.hid hcs; clear hcs
                go_upto_region 16 with fail
                refine wp_region_lit ?_
                refine tkL (.int .i64 (p : Int)) (h := ?_)
                (try simp only [Act.put, sA, sB, sC])
                refine tkL (.slice (some ⟨ga, 0, none⟩) (tickG H).cars.length ca) (h := ?_)
                (try simp only [Act.put, sA, sB, sC])
                refine tkL (.int .i64 ((tickG H).cars.length : Int)) (h := ?_)
                (try simp only [Act.put, sA, sB, sC])
                refine wpList_q (by rfl) (.bool true) ?he ?_
                case he => (have q0 := HNL.out; go_simp; (first | done | rfl | omega))
                (try simp only [Act.put, sA, sB, sC])
                refine wpList_nil ?_
                obtain ⟨x, hx⟩ : ∃ x, (tickG H).cars[p]? = some x := ⟨_, List.getElem?_eq_getElem HNL.out⟩
                have HX := Lib.hid hx; clear hx
                cases s with
                | true =>
                 go_upto_region 18 with fail
                 refine wp_region_lit ?_
                 refine tkL (.bool true) (h := ?_)
                 (try simp only [Act.put, sA, sB, sC])
                 refine tkL (.bool true) (h := ?_)
                 (try simp only [Act.put, sA, sB, sC])
                 refine wpList_no (by rfl) ?_
                 (try simp only [Act.put, sA, sB, sC])
                 refine wpList_no (by rfl) ?_
                 (try simp only [Act.put, sA, sB, sC])
                 refine wpList_no (by rfl) ?_
                 (try simp only [Act.put, sA, sB, sC])
                 refine wpList_no (by rfl) ?_
                 (try simp only [Act.put, sA, sB, sC])
                 refine wpList_no (by rfl) ?_
                 (try simp only [Act.put, sA, sB, sC])
                 refine wpList_no (by rfl) ?_
                 (try simp only [Act.put, sA, sB, sC])
                 refine wpList_no (by rfl) ?_
                 (try simp only [Act.put, sA, sB, sC])
                 refine wpList_no (by rfl) ?_
                 (try simp only [Act.put, sA, sB, sC])
                 refine wpList_no (by rfl) ?_
                 (try simp only [Act.put, sA, sB, sC])
                 refine wpList_no (by rfl) ?_
                 (try simp only [Act.put, sA, sB, sC])
                 refine wpList_no (by rfl) ?_
                 (try simp only [Act.put, sA, sB, sC])
                 refine wpList_no (by rfl) ?_
                 (try simp only [Act.put, sA, sB, sC])
                 refine wpList_no (by rfl) ?_
                 (try simp only [Act.put, sA, sB, sC])
                 refine wpList_no (by rfl) ?_
                 (try simp only [Act.put, sA, sB, sC])
                 refine tkL (.bool true) (h := ?_)
                 (try simp only [Act.put, sA, sB, sC])
                 refine tkL (.bool true) (h := ?_)
                 (try simp only [Act.put, sA, sB, sC])
                 refine wpList_nil ?_
                 go_upto_region 17 with fail
                 refine wp_region_lit ?_
                 refine tkL (.int .i64 (p : Int)) (h := ?_)
                 (try simp only [Act.put, sA, sB, sC])
                 refine wpList_q (by rfl) (.int .i64 ((p : Int) + 1)) ?he ?_
                 case he => (have q1 := HNL.out; have q2 := HH2.out.1.1; go_simp; (first | done | (refine wrG _ ?_ ?_ <;> omega) | omega))
                 (try simp only [Act.put, sA, sB, sC])
                 refine tkL (.int .i64 ((p : Int) + 1)) (h := ?_)
                 (try simp only [Act.put, sA, sB, sC])
                 refine wpList_nil ?_
                 go_wp2_with fail
                 refine Met.intro ?_
                 refine hJ3 _ _ _ ?less157 ⟨(p + 1), true, rfl, ⟨rfl, rfl, rfl, rfl, rfl, rfl, rfl, rfl, rfl, rfl, rfl, rfl, rfl, trivial⟩, Lib.hid ⟨by have := HNL.out; omega, (fun _ => by first | exact HSM.out rfl | exact HSM.out trivial), HS157.out, HBC157.out, HBn7157.out, HFq157.out, HFa157.out, HFv157.out⟩⟩
                 case less157 => exact (by have := HM3.out; have := HNL.out; omega)
                | false =>
                 by_cases hcs : x.mo = 0
                 rotate_left
                 · have HMO := Lib.hid hcs; clear hcs
                   go_upto_region 18 with fail
                   refine wp_region_lit ?_
                   refine tkL (.bool false) (h := ?_)
                   (try simp only [Act.put, sA, sB, sC])
                   refine tkL (.bool false) (h := ?_)
                   (try simp only [Act.put, sA, sB, sC])
                   refine tkL (.slice (some ⟨ga, 0, none⟩) (tickG H).cars.length ca) (h := ?_)
                   (try simp only [Act.put, sA, sB, sC])
                   refine tkL (.int .i64 (p : Int)) (h := ?_)
                   (try simp only [Act.put, sA, sB, sC])
                   refine wpList_q (by rfl) (.pointer (some ⟨ga, p * 15, none⟩)) ?he ?_
                   case he => (rw [show p * 15 = 0 + p * 15 by omega]; exact exec_index (i := p) (s := 15) 37 30 _ _ rfl rfl rfl rfl HNL.out Try.underlying37 (by kernel_rfl))
                   (try simp only [Act.put, sA, sB, sC])
                   refine tkL (.pointer (some ⟨ga, p * 15 + 9, none⟩)) (h := ?_)
                   (try simp only [Act.put, sA, sB, sC])
                   refine wpList_q (by rfl) (.int .i64 x.mo) ?he ?_
                   case he => exact exec_at 3 _ _ (row_S carL_len HFa157.out HX.out 9 _ rfl) rfl rfl Try.underlying3 rfl
                   (try simp only [Act.put, sA, sB, sC])
                   refine wpList_q (by rfl) (.bool false) ?he ?_
                   case he => (have q := HMO.out; go_simp; (first | done | exact q | (simp [q]; done)))
                   (try simp only [Act.put, sA, sB, sC])
                   refine tkL (.bool false) (h := ?_)
                   (try simp only [Act.put, sA, sB, sC])
                   refine wpList_no (by rfl) ?_
                   (try simp only [Act.put, sA, sB, sC])
                   refine wpList_no (by rfl) ?_
                   (try simp only [Act.put, sA, sB, sC])
                   refine wpList_no (by rfl) ?_
                   (try simp only [Act.put, sA, sB, sC])
                   refine wpList_no (by rfl) ?_
                   (try simp only [Act.put, sA, sB, sC])
                   refine wpList_no (by rfl) ?_
                   (try simp only [Act.put, sA, sB, sC])
                   refine wpList_no (by rfl) ?_
                   (try simp only [Act.put, sA, sB, sC])
                   refine tkL (.bool false) (h := ?_)
                   (try simp only [Act.put, sA, sB, sC])
                   refine tkL (.bool false) (h := ?_)
                   (try simp only [Act.put, sA, sB, sC])
                   refine tkL (.bool false) (h := ?_)
                   (try simp only [Act.put, sA, sB, sC])
                   refine wpList_nil ?_
                   go_upto_region 17 with fail
                   refine wp_region_lit ?_
                   refine tkL (.int .i64 (p : Int)) (h := ?_)
                   (try simp only [Act.put, sA, sB, sC])
                   refine wpList_q (by rfl) (.int .i64 ((p : Int) + 1)) ?he ?_
                   case he => (have q1 := HNL.out; have q2 := HH2.out.1.1; go_simp; (first | done | (refine wrG _ ?_ ?_ <;> omega) | omega))
                   (try simp only [Act.put, sA, sB, sC])
                   refine tkL (.int .i64 ((p : Int) + 1)) (h := ?_)
                   (try simp only [Act.put, sA, sB, sC])
                   refine wpList_nil ?_
                   go_wp2_with fail
                   refine Met.intro ?_
                   refine hJ3 _ _ _ ?less157 ⟨(p + 1), false, rfl, ⟨rfl, rfl, rfl, rfl, rfl, rfl, rfl, rfl, rfl, rfl, rfl, rfl, rfl, trivial⟩, Lib.hid ⟨by have := HNL.out; omega, (fun h => by cases h), HS157.out, HBC157.out, HBn7157.out, HFq157.out, HFa157.out, HFv157.out⟩⟩
                   case less157 => exact (by have := HM3.out; have := HNL.out; omega)
                 · have HMO := Lib.hid hcs; clear hcs
                   cases hbr : x.br with
                   | true =>
                    have HBR := Lib.hid hbr; clear hbr
                    go_upto_region 18 with fail
                    refine wp_region_lit ?_
                    refine tkL (.bool false) (h := ?_)
                    (try simp only [Act.put, sA, sB, sC])
                    refine tkL (.bool false) (h := ?_)
                    (try simp only [Act.put, sA, sB, sC])
                    refine tkL (.slice (some ⟨ga, 0, none⟩) (tickG H).cars.length ca) (h := ?_)
                    (try simp only [Act.put, sA, sB, sC])
                    refine tkL (.int .i64 (p : Int)) (h := ?_)
                    (try simp only [Act.put, sA, sB, sC])
                    refine wpList_q (by rfl) (.pointer (some ⟨ga, p * 15, none⟩)) ?he ?_
                    case he => (rw [show p * 15 = 0 + p * 15 by omega]; exact exec_index (i := p) (s := 15) 37 30 _ _ rfl rfl rfl rfl HNL.out Try.underlying37 (by kernel_rfl))
                    (try simp only [Act.put, sA, sB, sC])
                    refine tkL (.pointer (some ⟨ga, p * 15 + 9, none⟩)) (h := ?_)
                    (try simp only [Act.put, sA, sB, sC])
                    refine wpList_q (by rfl) (.int .i64 x.mo) ?he ?_
                    case he => exact exec_at 3 _ _ (row_S carL_len HFa157.out HX.out 9 _ rfl) rfl rfl Try.underlying3 rfl
                    (try simp only [Act.put, sA, sB, sC])
                    refine wpList_q (by rfl) (.bool true) ?he ?_
                    case he => (have q := HMO.out; go_simp; (first | done | exact q | (simp [q]; done)))
                    (try simp only [Act.put, sA, sB, sC])
                    refine tkL (.bool true) (h := ?_)
                    (try simp only [Act.put, sA, sB, sC])
                    refine tkL (.slice (some ⟨ga, 0, none⟩) (tickG H).cars.length ca) (h := ?_)
                    (try simp only [Act.put, sA, sB, sC])
                    refine tkL (.int .i64 (p : Int)) (h := ?_)
                    (try simp only [Act.put, sA, sB, sC])
                    refine wpList_q (by rfl) (.pointer (some ⟨ga, p * 15, none⟩)) ?he ?_
                    case he => (rw [show p * 15 = 0 + p * 15 by omega]; exact exec_index (i := p) (s := 15) 37 30 _ _ rfl rfl rfl rfl HNL.out Try.underlying37 (by kernel_rfl))
                    (try simp only [Act.put, sA, sB, sC])
                    refine tkL (.pointer (some ⟨ga, p * 15 + 8, none⟩)) (h := ?_)
                    (try simp only [Act.put, sA, sB, sC])
                    refine wpList_q (by rfl) (.bool true) ?he ?_
                    case he => exact exec_at 4 _ _ (br_at (row_S carL_len HFa157.out HX.out) HBR.out) rfl rfl Try.underlying4 rfl
                    (try simp only [Act.put, sA, sB, sC])
                    refine wpList_q (by rfl) (.bool false) ?he ?_
                    case he => (go_simp; (try with_reducible rfl))
                    (try simp only [Act.put, sA, sB, sC])
                    refine tkL (.bool false) (h := ?_)
                    (try simp only [Act.put, sA, sB, sC])
                    refine tkL (.bool false) (h := ?_)
                    (try simp only [Act.put, sA, sB, sC])
                    refine tkL (.bool false) (h := ?_)
                    (try simp only [Act.put, sA, sB, sC])
                    refine wpList_nil ?_
                    go_upto_region 17 with fail
                    refine wp_region_lit ?_
                    refine tkL (.int .i64 (p : Int)) (h := ?_)
                    (try simp only [Act.put, sA, sB, sC])
                    refine wpList_q (by rfl) (.int .i64 ((p : Int) + 1)) ?he ?_
                    case he => (have q1 := HNL.out; have q2 := HH2.out.1.1; go_simp; (first | done | (refine wrG _ ?_ ?_ <;> omega) | omega))
                    (try simp only [Act.put, sA, sB, sC])
                    refine tkL (.int .i64 ((p : Int) + 1)) (h := ?_)
                    (try simp only [Act.put, sA, sB, sC])
                    refine wpList_nil ?_
                    go_wp2_with fail
                    refine Met.intro ?_
                    refine hJ3 _ _ _ ?less157 ⟨(p + 1), false, rfl, ⟨rfl, rfl, rfl, rfl, rfl, rfl, rfl, rfl, rfl, rfl, rfl, rfl, rfl, trivial⟩, Lib.hid ⟨by have := HNL.out; omega, (fun h => by cases h), HS157.out, HBC157.out, HBn7157.out, HFq157.out, HFa157.out, HFv157.out⟩⟩
                    case less157 => exact (by have := HM3.out; have := HNL.out; omega)
                   | false =>
                    have HBR := Lib.hid hbr; clear hbr
                    go_upto_region 18 with fail
                    refine wp_region_lit ?_
                    refine tkL (.bool false) (h := ?_)
                    (try simp only [Act.put, sA, sB, sC])
                    refine tkL (.bool false) (h := ?_)
                    (try simp only [Act.put, sA, sB, sC])
                    refine tkL (.slice (some ⟨ga, 0, none⟩) (tickG H).cars.length ca) (h := ?_)
                    (try simp only [Act.put, sA, sB, sC])
                    refine tkL (.int .i64 (p : Int)) (h := ?_)
                    (try simp only [Act.put, sA, sB, sC])
                    refine wpList_q (by rfl) (.pointer (some ⟨ga, p * 15, none⟩)) ?he ?_
                    case he => (rw [show p * 15 = 0 + p * 15 by omega]; exact exec_index (i := p) (s := 15) 37 30 _ _ rfl rfl rfl rfl HNL.out Try.underlying37 (by kernel_rfl))
                    (try simp only [Act.put, sA, sB, sC])
                    refine tkL (.pointer (some ⟨ga, p * 15 + 9, none⟩)) (h := ?_)
                    (try simp only [Act.put, sA, sB, sC])
                    refine wpList_q (by rfl) (.int .i64 x.mo) ?he ?_
                    case he => exact exec_at 3 _ _ (row_S carL_len HFa157.out HX.out 9 _ rfl) rfl rfl Try.underlying3 rfl
                    (try simp only [Act.put, sA, sB, sC])
                    refine wpList_q (by rfl) (.bool true) ?he ?_
                    case he => (have q := HMO.out; go_simp; (first | done | exact q | (simp [q]; done)))
                    (try simp only [Act.put, sA, sB, sC])
                    refine tkL (.bool true) (h := ?_)
                    (try simp only [Act.put, sA, sB, sC])
                    refine tkL (.slice (some ⟨ga, 0, none⟩) (tickG H).cars.length ca) (h := ?_)
                    (try simp only [Act.put, sA, sB, sC])
                    refine tkL (.int .i64 (p : Int)) (h := ?_)
                    (try simp only [Act.put, sA, sB, sC])
                    refine wpList_q (by rfl) (.pointer (some ⟨ga, p * 15, none⟩)) ?he ?_
                    case he => (rw [show p * 15 = 0 + p * 15 by omega]; exact exec_index (i := p) (s := 15) 37 30 _ _ rfl rfl rfl rfl HNL.out Try.underlying37 (by kernel_rfl))
                    (try simp only [Act.put, sA, sB, sC])
                    refine tkL (.pointer (some ⟨ga, p * 15 + 8, none⟩)) (h := ?_)
                    (try simp only [Act.put, sA, sB, sC])
                    refine wpList_q (by rfl) (.bool false) ?he ?_
                    case he => exact exec_at 4 _ _ (br_at (row_S carL_len HFa157.out HX.out) HBR.out) rfl rfl Try.underlying4 rfl
                    (try simp only [Act.put, sA, sB, sC])
                    refine wpList_q (by rfl) (.bool true) ?he ?_
                    case he => (go_simp; (try with_reducible rfl))
                    (try simp only [Act.put, sA, sB, sC])
                    refine tkL (.bool true) (h := ?_)
                    (try simp only [Act.put, sA, sB, sC])
                    refine tkL (.bool true) (h := ?_)
                    (try simp only [Act.put, sA, sB, sC])
                    refine tkL (.bool true) (h := ?_)
                    (try simp only [Act.put, sA, sB, sC])
                    refine wpList_nil ?_
                    go_upto_region 17 with fail
                    refine wp_region_lit ?_
                    refine tkL (.int .i64 (p : Int)) (h := ?_)
                    (try simp only [Act.put, sA, sB, sC])
                    refine wpList_q (by rfl) (.int .i64 ((p : Int) + 1)) ?he ?_
                    case he => (have q1 := HNL.out; have q2 := HH2.out.1.1; go_simp; (first | done | (refine wrG _ ?_ ?_ <;> omega) | omega))
                    (try simp only [Act.put, sA, sB, sC])
                    refine tkL (.int .i64 ((p : Int) + 1)) (h := ?_)
                    (try simp only [Act.put, sA, sB, sC])
                    refine wpList_nil ?_
                    go_wp2_with fail
                    refine Met.intro ?_
                    refine hJ3 _ _ _ ?less157 ⟨(p + 1), true, rfl, ⟨rfl, rfl, rfl, rfl, rfl, rfl, rfl, rfl, rfl, rfl, rfl, rfl, rfl, trivial⟩, Lib.hid ⟨by have := HNL.out; omega, (fun _ => ⟨x, List.mem_of_getElem? HX.out, HMO.out, HBR.out⟩), HS157.out, HBC157.out, HBn7157.out, HFq157.out, HFa157.out, HFv157.out⟩⟩
                    case less157 => exact (by have := HM3.out; have := HNL.out; omega)
      · have HK9 := Lib.hid hcs; clear hcs
        go_upto_region 6 with fail
        refine wp_region_lit ?_
        refine tkL (.pointer (some ⟨bn7, 0, none⟩)) (h := ?_)
        (try simp only [Act.put, sA, sB, sC])
        refine wpList_q (by rfl) (.int .i64 ((os i).k)) ?he ?_
        case he => exact exec_cell 3 _ _ HBn754.out rfl rfl rfl Try.underlying3 rfl
        (try simp only [Act.put, sA, sB, sC])
        refine wpList_q (by rfl) (.bool true) ?he ?_
        case he => (have q := HK9.out; go_simp; (first | done | exact q | (simp [q]; done)))
        (try simp only [Act.put, sA, sB, sC])
        refine wpList_nil ?_
        go_upto_region 7 with fail
        refine wp_region_lit ?_
        refine tkL (.pointer (some ⟨q1, 0, none⟩)) (h := ?_)
        (try simp only [Act.put, sA, sB, sC])
        refine wpList_q (by rfl) (.agg (opA (os i))) ?he ?_
        case he => exact exec_load_row 46 _ _ HBn754.out rfl rfl Try.underlying46 rfl (by kernel_rfl)
        (try simp only [Act.put, sA, sB, sC])
        refine wpList_wp (by rfl) (fun K hK => ?_)
        (try go_simp)
        refine (doG (os i) w.heap.size q1 G R _ HFq_54.out HH.out.1.2.1 HH.out.2.2.2).mono ?_
        rintro e w55 ⟨rfl, Sq_2, hobj, hupd, hfar⟩
        (try go_wp2_with fail)
        refine hK.out _ _ ?_
        clear hK K
        (try simp only [Act.put, sA, sB, sC])
        have HS55 := Lib.hid (Since.upd HS54.out hupd (GO.low HFq_54.out))
        have HBC55 := Lib.hid (Upd.blk hupd HBC54.out HIC.out)
        have HIC_q_55 := Lib.hid (nin_next hfar HIC.out (Blk.lt HBC54.out))
        have HBn755 := Lib.hid (Upd.blk hupd HBn754.out HIn7_q.out)
        have HIn7_q_55 := Lib.hid (nin_next hfar HIn7_q.out (Blk.lt HBn754.out))
        have HFq55 := Lib.hid hobj
        clear hupd hobj hfar HS54 HBC54 HBn754 HFq_54
        refine wpList_nil ?_
        go_upto_region 4 with fail
        refine wp_region_lit ?_
        refine tkL (.int .i64 (i : Int)) (h := ?_)
        (try simp only [Act.put, sA, sB, sC])
        refine wpList_q (by rfl) (.int .i64 ((i : Int) + 1)) ?he ?_
        case he => (go_simp; (first | done | (refine wrG _ ?_ ?_ <;> (have q0 := HLT.out; have q1 := HI8.out; omega)) | (have q0 := HLT.out; have q1 := HI8.out; omega) | (have q0 := HLT.out; have q1 := HI8.out; split <;> omega) | (have q0 := HLT.out; have q1 := HI8.out; intro hh; omega)))
        (try simp only [Act.put, sA, sB, sC])
        refine tkL (.int .i64 ((i : Int) + 1)) (h := ?_)
        (try simp only [Act.put, sA, sB, sC])
        refine wpList_nil ?_
        go_wp2_with fail
        refine Met.intro ?_
        refine hJ1 _ _ _ ?less55 ⟨(i + 1), T, ((doR G (os i).k (os i).a (os i).b (os i).y).1), Sq_2, rfl, ⟨rfl, rfl, rfl, rfl, rfl, rfl, rfl, trivial⟩, Lib.hid ⟨by have := HI8.out; omega, by have := HT.out; omega, HGI.out.do_ _ _ _ _, GG.do_ HGI.out HGG.out _ _ _ _, HIC_q_55.out, HS55.out, HBC55.out, HFq55.out⟩⟩
        case less55 => exact (by have := HM.out; have := HI8.out; omega)
theorem givesF {H : Type} {enc : TypeId × Value → H} {x : DataW H × List MemPlace} (c : CfgV) (Ao : Option Addr) (on oc : Nat) (w : World) (hx : ∃ m, DataW.trod enc Try.prog w 0 (fun _ => true) true m 42 (Value.cells (.slice Ao on oc)).toList = some x) :
    Calls Try.prog 7 #[.agg (cfgA c), .slice Ao on oc] w fun e w' => e = .returned (.bool true) ∧ Since w w' := by
  obtain ⟨m, hm⟩ := hx
  obtain ⟨os, ho, hl⟩ := OV.open_ hm
  exact givesG c Ao on oc os w ho hl
end Go.Proofs.Ytpacieocmogjeaa.Gr
