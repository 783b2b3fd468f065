/-
  What is wanted by the last of these texts, part 24.
  No condition.
-/
import Derived.Test.YtpacieocmogjeaaProg
import Derived.Test.YtpacieocmogjeaaKSf0
import Derived.Test.YtpacieocmogjeaaKSf23
namespace Go.Proofs.Ytpacieocmogjeaa.Gr
set_option linter.unusedVariables false
set_option linter.unusedSimpArgs false
open Go.RowKit Go.Proofs.Ytpacieocmogjeaa.Ba Go.Proofs.Ytpacieocmogjeaa.Mem Go.Proofs.Ytpacieocmogjeaa.Ty Go.Proofs.Ytpacieocmogjeaa.Mo Go.Proofs.Ytpacieocmogjeaa.St Go.Proofs.Ytpacieocmogjeaa.Sc Go.Proofs.Ytpacieocmogjeaa.Pl
open Go.Proofs.Ytpacieocmogjeaa.Ct (cfgA carA m1 dwV bdX tkV tkF tkW tkS tickT)
open Go.Proofs.Ytpacieocmogjeaa.Go16 (OpV opC OV)
set_option maxRecDepth 100000
attribute [local irreducible] Go.wpList
theorem floorsV (n : Int) (w : World) : Calls Try.prog 19 #[.int .i64 n] w fun e w' => e = .returned (.int .i64 (fl n)) ∧ w = w' := floorsR n w
set_option maxHeartbeats 4000000 in
theorem safeG (c : CfgV) (Ao : Option Addr) (on oc : Nat) (os : Nat → OpV) (w : World) (ho : OV w Ao on os) (hol : on ≤ 9223372036854775807) : Calls Try.prog 6 #[.agg (cfgA c), .slice Ao on oc] w fun e w' => e = .returned (.bool true) ∧ Since w w' := by
 have HO := Lib.hid ho
 clear ho
 have HOL := Lib.hid hol
 clear hol
 go_enter Try.func6, Try.ntmps6
 go_upto_region 1 with fail
 obtain ⟨w1, hw1⟩ : ∃ w1, w1 = (w.alloc (.cells (cfgA c) 23)) := ⟨_, rfl⟩
 rw [← hw1]
 have HBC1 := Lib.hid (show Blk w1 (w.heap.size) 23 (cfgA c) by rw [hw1]; exact Blk.at_ (by (try simp only [size_alloc])) _ _)
 have HS1 := Lib.hid (show Since w w1 by rw [hw1]; exact Since.alloc (Since.refl w) _)
 have hNE : w.heap.size ≤ w.heap.size := by omega
 have HNE := Lib.hid hNE
 clear hNE hw1
 have HNE3 := Lib.hid (show w.heap.size ≤ w.heap.size from HNE.out)
 clear HNE
 refine wp_region_lit ?_
 refine wpList_q (by rfl) (.agg (cfgA c)) ?he ?_
 case he => exact exec_load_row 23 _ _ HBC1.out rfl rfl Try.underlying23 rfl (by kernel_rfl)
 (try simp only [Act.put, sA, sB, sC])
 refine wpList_wp (by rfl) (fun K hK => ?_)
 (try go_simp)
 refine (newT c _).mono ?_
 rintro e w2 ⟨q1, S1, rfl, hobj, hb⟩
 (try go_wp2_with fail)
 refine hK.out _ _ ?_
 clear hK K
 (try simp only [Act.put, sA, sB, sC])
 have HINC := Lib.hid (show w.heap.size ∉ S1 from fun h => by have q1 := hobj.low _ h; have q2 := Blk.lt HBC1.out; omega)
 have HGq := Lib.hid (hobj.base (Since.size HS1.out)); clear hobj
 have HS2 := Lib.hid (Since.trans HS1.out hb)
 have HBC2 := Lib.hid (keep_blk hb HBC1.out)
 clear HS1 HBC1
 clear hb
 refine tkL (.pointer (some ⟨q1, 0, none⟩)) (h := ?_)
 (try simp only [Act.put, sA, sB, sC])
 refine wpList_nil ?_
 go_upto_region 2 with fail
 refine wp_region_lit ?_
 refine tkL (.int .i64 0) (h := ?_)
 (try simp only [Act.put, sA, sB, sC])
 refine wpList_nil ?_
 go_wp2_with fail
 refine wp_uloop (ds := []) (fun n fr wr => ∃ (i T : Nat) (G : GrV) (R : List Nat), (80 - i) = n ∧ Fits fr 135 [(0, .agg (cfgA c)), (1, .slice Ao on oc), (2, .pointer (some ⟨w.heap.size, 0, none⟩)), (4, .bool false), (5, .pointer (some ⟨q1, 0, none⟩)), (6, .int .i64 (i : Int))] ∧ Hid (i ≤ 80 ∧ T ≤ 50 * i ∧ GI c i T G ∧ w.heap.size ∉ R ∧ Since w wr ∧ Blk wr w.heap.size 23 (cfgA c) ∧ GO w.heap.size q1 G R wr)) (80) ?start2 ?round2
 case start2 => exact ⟨0, 0, (newG c), S1, rfl, ⟨rfl, rfl, rfl, rfl, rfl, rfl, rfl, trivial⟩, Lib.hid ⟨by decide, by decide, GI.zero c, HINC.out, HS2.out, HBC2.out, HGq.out⟩⟩
 case round2 =>
  intro n fr wr hR J1 K1 hJ1 hK1
  clear HS2 HBC2 HGq
  obtain ⟨i, T, G, R, hn, hF, HO⟩ := hR
  have HM := Lib.hid hn; clear hn
  obtain ⟨e0, e1, e2, e3, g0, g1, g2⟩ := HO.out
  clear HO
  have HI80 := Lib.hid e0
  have HT := Lib.hid e1
  have HGI := Lib.hid e2
  have HIC := Lib.hid e3
  have HS52 := Lib.hid g0
  have HBC52 := Lib.hid g1
  have HFq52 := Lib.hid g2
  clear e0 e1 e2 e3 g0 g1 g2
  obtain ⟨u, hu⟩ := hF.open_
  have hu2 := hu.trans (show _ = #[.agg (cfgA c), .slice Ao on oc, .pointer (some ⟨w.heap.size, 0, none⟩), u 3, .bool false, .pointer (some ⟨q1, 0, none⟩), .int .i64 (i : Int), u 7, u 8, u 9, u 10, u 11, u 12, u 13, u 14, u 15, u 16, u 17, u 18, u 19, u 20, u 21, u 22, u 23, u 24, u 25, u 26, u 27, u 28, u 29, u 30, u 31, u 32, u 33, u 34, u 35, u 36, u 37, u 38, u 39, u 40, u 41, u 42, u 43, u 44, u 45, u 46, u 47, u 48, u 49, u 50, u 51, u 52, u 53, u 54, u 55, u 56, u 57, u 58, u 59, u 60, u 61, u 62, u 63, u 64, u 65, u 66, u 67, u 68, u 69, u 70, u 71, u 72, u 73, u 74, u 75, u 76, u 77, u 78, u 79, u 80, u 81, u 82, u 83, u 84, u 85, u 86, u 87, u 88, u 89, u 90, u 91, u 92, u 93, u 94, u 95, u 96, u 97, u 98, u 99, u 100, u 101, u 102, u 103, u 104, u 105, u 106, u 107, u 108, u 109, u 110, u 111, u 112, u 113, u 114, u 115, u 116, u 117, u 118, u 119, u 120, u 121, u 122, u 123, u 124, u 125, u 126, u 127, u 128, u 129, u 130, u 131, u 132, u 133, u 134] by kernel_rfl)
  clear hu hF
  subst hu2
  by_cases hcs : i < on
  rotate_left
  · have HLT := Lib.hid hcs; clear hcs
    go_upto_region 3 with fail
    refine wp_region_lit ?_
    refine tkL (.int .i64 (i : Int)) (h := ?_)
    (try simp only [Act.put, sA, sB, sC])
    refine tkL (.slice Ao on oc) (h := ?_)
    (try simp only [Act.put, sA, sB, sC])
    refine tkL (.int .i64 (on : Int)) (h := ?_)
    (try simp only [Act.put, sA, sB, sC])
    refine wpList_q (by rfl) (.bool false) ?he ?_
    case he => (have q0 := HLT.out; go_simp; (first | done | rfl | omega))
    (try simp only [Act.put, sA, sB, sC])
    refine tkL (.bool false) (h := ?_)
    (try simp only [Act.put, sA, sB, sC])
    refine wpList_no (by rfl) ?_
    (try simp only [Act.put, sA, sB, sC])
    refine wpList_no (by rfl) ?_
    (try simp only [Act.put, sA, sB, sC])
    refine tkL (.bool false) (h := ?_)
    (try simp only [Act.put, sA, sB, sC])
    refine wpList_nil ?_
    go_upto_region 21 with fail
    refine wp_region_lit ?_
    refine wpList_wp (by rfl) (fun K hK => ?_)
    (try go_simp)
    refine (ansG _).mono ?_
    rintro e w53 ⟨rfl, hb⟩
    (try go_wp2_with fail)
    refine hK.out _ _ ?_
    clear hK K
    (try simp only [Act.put, sA, sB, sC])
    have HS53 := Lib.hid (Since.trans HS52.out hb)
    have HBC53 := Lib.hid (keep_blk hb HBC52.out)
    have HFq53 := Lib.hid (GO.keep hb HFq52.out)
    clear HS52 HBC52 HFq52
    clear hb
    refine tkL (.bool true) (h := ?_)
    (try simp only [Act.put, sA, sB, sC])
    refine wpList_nil ?_
    (try go_wp2_with fail)
    go_ret
    exact ⟨rfl, HS53.out⟩
  · have HLT := Lib.hid hcs; clear hcs
    by_cases hcs : i < 80
    rotate_left
    · have HI8 := Lib.hid hcs; clear hcs
      go_upto_region 3 with fail
      refine wp_region_lit ?_
      refine tkL (.int .i64 (i : Int)) (h := ?_)
      (try simp only [Act.put, sA, sB, sC])
      refine tkL (.slice Ao on oc) (h := ?_)
      (try simp only [Act.put, sA, sB, sC])
      refine tkL (.int .i64 (on : Int)) (h := ?_)
      (try simp only [Act.put, sA, sB, sC])
      refine wpList_q (by rfl) (.bool true) ?he ?_
      case he => (have q0 := HLT.out; go_simp; (first | done | rfl | omega))
      (try simp only [Act.put, sA, sB, sC])
      refine tkL (.bool true) (h := ?_)
      (try simp only [Act.put, sA, sB, sC])
      refine tkL (.int .i64 (i : Int)) (h := ?_)
      (try simp only [Act.put, sA, sB, sC])
      refine wpList_q (by rfl) (.bool false) ?he ?_
      case he => (have q0 := HI8.out; go_simp; (first | done | rfl | omega))
      (try simp only [Act.put, sA, sB, sC])
      refine tkL (.bool false) (h := ?_)
      (try simp only [Act.put, sA, sB, sC])
      refine wpList_nil ?_
      go_upto_region 21 with fail
      refine wp_region_lit ?_
      refine wpList_wp (by rfl) (fun K hK => ?_)
      (try go_simp)
      refine (ansG _).mono ?_
      rintro e w53 ⟨rfl, hb⟩
      (try go_wp2_with fail)
      refine hK.out _ _ ?_
      clear hK K
      (try simp only [Act.put, sA, sB, sC])
      have HS53 := Lib.hid (Since.trans HS52.out hb)
      have HBC53 := Lib.hid (keep_blk hb HBC52.out)
      have HFq53 := Lib.hid (GO.keep hb HFq52.out)
      clear HS52 HBC52 HFq52
      clear hb
      refine tkL (.bool true) (h := ?_)
      (try simp only [Act.put, sA, sB, sC])
      refine wpList_nil ?_
      (try go_wp2_with fail)
      go_ret
      exact ⟨rfl, HS53.out⟩
    · have HI8 := Lib.hid hcs; clear hcs
      go_upto_region 3 with fail
      refine wp_region_lit ?_
      refine tkL (.int .i64 (i : Int)) (h := ?_)
      (try simp only [Act.put, sA, sB, sC])
      refine tkL (.slice Ao on oc) (h := ?_)
      (try simp only [Act.put, sA, sB, sC])
      refine tkL (.int .i64 (on : Int)) (h := ?_)
      (try simp only [Act.put, sA, sB, sC])
      refine wpList_q (by rfl) (.bool true) ?he ?_
      case he => (have q0 := HLT.out; go_simp; (first | done | rfl | omega))
      (try simp only [Act.put, sA, sB, sC])
      refine tkL (.bool true) (h := ?_)
      (try simp only [Act.put, sA, sB, sC])
      refine tkL (.int .i64 (i : Int)) (h := ?_)
      (try simp only [Act.put, sA, sB, sC])
      refine wpList_q (by rfl) (.bool true) ?he ?_
      case he => (have q0 := HI8.out; go_simp; (first | done | rfl | omega))
      (try simp only [Act.put, sA, sB, sC])
      refine tkL (.bool true) (h := ?_)
      (try simp only [Act.put, sA, sB, sC])
      refine wpList_nil ?_
      obtain ⟨go, oo, hA, hbo, hco⟩ := OV.at_ HO.out HLT.out
      have HCO := Lib.hid (hco i HLT.out); clear hco hbo
      subst hA
      have HH := Lib.hid (gi_hyps HGI.out (by have := HI80.out; omega) (by have := HI80.out; have := HT.out; omega))
      go_upto_region 5 with fail
      refine wp_region_lit ?_
      refine tkL (.slice (some ⟨go, oo, none⟩) on oc) (h := ?_)
      (try simp only [Act.put, sA, sB, sC])
      refine tkL (.int .i64 (i : Int)) (h := ?_)
      (try simp only [Act.put, sA, sB, sC])
      refine wpList_q (by rfl) (.pointer (some ⟨go, (oo + i * 4), none⟩)) ?he ?_
      case he => exact exec_index (i := i) (s := 4) 42 46 _ _ rfl rfl rfl rfl HLT.out Try.underlying42 (by kernel_rfl)
      (try simp only [Act.put, sA, sB, sC])
      refine wpList_q (by rfl) (.agg (opA (os i))) ?he ?_
      case he => exact exec_rng (l := opC (os i)) 46 _ _ (fun j v hj => keep_cell HS52.out (HCO.out j v hj)) rfl rfl Try.underlying46 rfl (by kernel_rfl)
      (try simp only [Act.put, sA, sB, sC])
      refine wpList_wp (by rfl) (fun K hK => ?_)
      refine wp_new (fun b => .pointer (some ⟨b, 0, none⟩)) 46 #[.int .i64 0, .int .i64 0, .int .i64 0, .bool false] (by rintro b rfl; first | rfl | kernel_rfl) ?_
      intro bn7 w53 hge hB hb
      refine hK.out _ _ ?_
      clear hK K
      (try simp only [Act.put, sA, sB, sC])
      have HNn7C := Lib.hid (show bn7 ≠ w.heap.size by have := Blk.lt HBC52.out; omega)
      have HGn7 := Lib.hid (show w.heap.size ≤ bn7 by have := Since.size HS52.out; omega)
      have HIn7_q := Lib.hid (GO.far HFq52.out hge)
      have HS53 := Lib.hid (Since.trans HS52.out hb)
      have HBC53 := Lib.hid (keep_blk hb HBC52.out)
      have HFq53 := Lib.hid (GO.keep hb HFq52.out)
      clear HS52 HBC52 HFq52
      clear hb hge
      have HBn753 := Lib.hid hB
      clear hB
      refine wpList_wp (by rfl) (fun K hK => ?_)
      refine wp_st_row 46 _ _ rfl (opA (os i)) rfl rfl (HasRow.of HBn753.out rfl) rfl (by simp [cfgA, carA, waitA, grpA, opA, Value.oneCell']) (by kernel_rfl) ?_
      intro w54 hw
      refine hK.out _ _ ?_
      clear hK K
      (try simp only [Act.put, sA, sB, sC])
      have HS54 := Lib.hid (show Since w w54 by rw [hw]; exact Since.setRow HS53.out HGn7.out _)
      have HBC54 := Lib.hid (show Blk w54 w.heap.size 23 (cfgA c) by rw [hw]; exact Blk.row_far HBC53.out (Ne.symm HNn7C.out) _)
      have HBn754 := Lib.hid (show Blk w54 bn7 46 (opA (os i)) by rw [hw]; exact Blk.row HBn753.out _)
      have HFq_54 := Lib.hid (show GO w.heap.size q1 G R w54 by rw [hw]; exact GO.row_far HFq53.out HIn7_q.out _)
      clear hw HS53 HBC53 HBn753 HFq53
      refine wpList_nil ?_
      by_cases hcs : (os i).k ≠ 9
      rotate_left
      · have HK9 := Lib.hid hcs; clear hcs
        go_upto_region 6 with fail
        refine wp_region_lit ?_
        refine tkL (.pointer (some ⟨bn7, 0, none⟩)) (h := ?_)
        (try simp only [Act.put, sA, sB, sC])
        refine wpList_q (by rfl) (.int .i64 ((os i).k)) ?he ?_
        case he => exact exec_cell 3 _ _ HBn754.out rfl rfl rfl Try.underlying3 rfl
        (try simp only [Act.put, sA, sB, sC])
        refine wpList_q (by rfl) (.bool false) ?he ?_
        case he => (have q := Decidable.not_not.1 HK9.out; go_simp; (first | done | exact q | (simp [q]; done)))
        (try simp only [Act.put, sA, sB, sC])
        refine wpList_nil ?_
        go_upto_region 8 with fail
        refine wp_region_lit ?_
        refine tkL (.int .i64 0) (h := ?_)
        (try simp only [Act.put, sA, sB, sC])
        refine wpList_nil ?_
        go_wp2_with fail
        refine wp_uloop (ds := []) (fun n fr wr => ∃ (k U : Nat) (H : GrV) (Q : List Nat), (50 - k) = n ∧ Fits fr 135 [(0, .agg (cfgA c)), (1, .slice (some ⟨go, oo, none⟩) on oc), (2, .pointer (some ⟨w.heap.size, 0, none⟩)), (4, .bool false), (5, .pointer (some ⟨q1, 0, none⟩)), (6, .int .i64 (i : Int)), (7, .pointer (some ⟨bn7, 0, none⟩)), (8, .int .i64 (k : Int))] ∧ Hid (k ≤ 50 ∧ U ≤ 50 * i + k ∧ GI c i U H ∧ w.heap.size ∉ Q ∧ bn7 ∉ Q ∧ Since w wr ∧ Blk wr w.heap.size 23 (cfgA c) ∧ Blk wr bn7 46 (opA (os i)) ∧ GO w.heap.size q1 H Q wr)) (50) ?start54 ?round54
        case start54 => exact ⟨0, T, G, R, rfl, ⟨rfl, rfl, rfl, rfl, rfl, rfl, rfl, rfl, rfl, trivial⟩, Lib.hid ⟨by decide, by have := HT.out; omega, HGI.out, HIC.out, HIn7_q.out, HS54.out, HBC54.out, HBn754.out, HFq_54.out⟩⟩
        case round54 =>
         intro n fr wr hR J2 K2 hJ2 hK2
         clear HS54 HBC54 HBn754 HFq_54
         obtain ⟨k, U, H, Q, hn, hF, HO⟩ := hR
         have HM2 := Lib.hid hn; clear hn
         obtain ⟨e0, e1, e2, e3, e4, g0, g1, g2, g3⟩ := HO.out
         clear HO
         have HK50 := Lib.hid e0
         have HU := Lib.hid e1
         have HGI2 := Lib.hid e2
         have HIC2 := Lib.hid e3
         have HI7 := Lib.hid e4
         have HS104 := Lib.hid g0
         have HBC104 := Lib.hid g1
         have HBn7104 := Lib.hid g2
         have HFq104 := Lib.hid g3
         clear e0 e1 e2 e3 e4 g0 g1 g2 g3
         obtain ⟨u, hu⟩ := hF.open_
         have hu2 := hu.trans (show _ = #[.agg (cfgA c), .slice (some ⟨go, oo, none⟩) on oc, .pointer (some ⟨w.heap.size, 0, none⟩), u 3, .bool false, .pointer (some ⟨q1, 0, none⟩), .int .i64 (i : Int), .pointer (some ⟨bn7, 0, none⟩), .int .i64 (k : Int), u 9, u 10, u 11, u 12, u 13, u 14, u 15, u 16, u 17, u 18, u 19, u 20, u 21, u 22, u 23, u 24, u 25, u 26, u 27, u 28, u 29, u 30, u 31, u 32, u 33, u 34, u 35, u 36, u 37, u 38, u 39, u 40, u 41, u 42, u 43, u 44, u 45, u 46, u 47, u 48, u 49, u 50, u 51, u 52, u 53, u 54, u 55, u 56, u 57, u 58, u 59, u 60, u 61, u 62, u 63, u 64, u 65, u 66, u 67, u 68, u 69, u 70, u 71, u 72, u 73, u 74, u 75, u 76, u 77, u 78, u 79, u 80, u 81, u 82, u 83, u 84, u 85, u 86, u 87, u 88, u 89, u 90, u 91, u 92, u 93, u 94, u 95, u 96, u 97, u 98, u 99, u 100, u 101, u 102, u 103, u 104, u 105, u 106, u 107, u 108, u 109, u 110, u 111, u 112, u 113, u 114, u 115, u 116, u 117, u 118, u 119, u 120, u 121, u 122, u 123, u 124, u 125, u 126, u 127, u 128, u 129, u 130, u 131, u 132, u 133, u 134] by kernel_rfl)
         clear hu hF
         subst hu2
         by_cases hcs : (k : Int) < (os i).a
         rotate_left
         · have HKA := Lib.hid hcs; clear hcs
           go_upto_region 9 with fail
           refine wp_region_lit ?_
           refine tkL (.int .i64 (k : Int)) (h := ?_)
           (try simp only [Act.put, sA, sB, sC])
           refine tkL (.pointer (some ⟨bn7, 1, none⟩)) (h := ?_)
           (try simp only [Act.put, sA, sB, sC])
           refine wpList_q (by rfl) (.int .i64 ((os i).a)) ?he ?_
           case he => exact exec_cell 3 _ _ HBn7104.out rfl rfl rfl Try.underlying3 rfl
           (try simp only [Act.put, sA, sB, sC])
           refine wpList_q (by rfl) (.bool false) ?he ?_
           case he => (have q0 := HKA.out; go_simp; (first | done | rfl | omega))
           (try simp only [Act.put, sA, sB, sC])
           refine tkL (.bool false) (h := ?_)
           (try simp only [Act.put, sA, sB, sC])
           refine wpList_no (by rfl) ?_
           (try simp only [Act.put, sA, sB, sC])
           refine wpList_no (by rfl) ?_
           (try simp only [Act.put, sA, sB, sC])
           refine tkL (.bool false) (h := ?_)
           (try simp only [Act.put, sA, sB, sC])
           refine wpList_nil ?_
           go_upto_region 4 with fail
           refine wp_region_lit ?_
           refine tkL (.int .i64 (i : Int)) (h := ?_)
           (try simp only [Act.put, sA, sB, sC])
           refine wpList_q (by rfl) (.int .i64 ((i : Int) + 1)) ?he ?_
           case he => (go_simp; (first | done | (refine wrG _ ?_ ?_ <;> (have q0 := HLT.out; have q1 := HI8.out; omega)) | (have q0 := HLT.out; have q1 := HI8.out; omega) | (have q0 := HLT.out; have q1 := HI8.out; split <;> omega) | (have q0 := HLT.out; have q1 := HI8.out; intro hh; omega)))
           (try simp only [Act.put, sA, sB, sC])
           refine tkL (.int .i64 ((i : Int) + 1)) (h := ?_)
           (try simp only [Act.put, sA, sB, sC])
           refine wpList_nil ?_
           go_wp2_with fail
           refine Met.intro ?_
           refine hJ1 _ _ _ ?less104 ⟨(i + 1), U, H, Q, rfl, ⟨rfl, rfl, rfl, rfl, rfl, rfl, rfl, trivial⟩, Lib.hid ⟨by have := HI8.out; omega, by have := HU.out; have := HK50.out; omega, HGI2.out.more (Nat.le_succ _), HIC2.out, HS104.out, HBC104.out, HFq104.out⟩⟩
           case less104 => exact (by have := HM.out; have := HI8.out; omega)
         · have HKA := Lib.hid hcs; clear hcs
           by_cases hcs : k < 50
           rotate_left
           · have HK5 := Lib.hid hcs; clear hcs
             go_upto_region 9 with fail
             refine wp_region_lit ?_
             refine tkL (.int .i64 (k : Int)) (h := ?_)
             (try simp only [Act.put, sA, sB, sC])
             refine tkL (.pointer (some ⟨bn7, 1, none⟩)) (h := ?_)
             (try simp only [Act.put, sA, sB, sC])
             refine wpList_q (by rfl) (.int .i64 ((os i).a)) ?he ?_
             case he => exact exec_cell 3 _ _ HBn7104.out rfl rfl rfl Try.underlying3 rfl
             (try simp only [Act.put, sA, sB, sC])
             refine wpList_q (by rfl) (.bool true) ?he ?_
             case he => (have q0 := HKA.out; go_simp; (first | done | rfl | omega))
             (try simp only [Act.put, sA, sB, sC])
             refine tkL (.bool true) (h := ?_)
             (try simp only [Act.put, sA, sB, sC])
             refine tkL (.int .i64 (k : Int)) (h := ?_)
             (try simp only [Act.put, sA, sB, sC])
             refine wpList_q (by rfl) (.bool false) ?he ?_
             case he => (have q0 := HK5.out; go_simp; (first | done | rfl | omega))
             (try simp only [Act.put, sA, sB, sC])
             refine tkL (.bool false) (h := ?_)
             (try simp only [Act.put, sA, sB, sC])
             refine wpList_nil ?_
             go_upto_region 4 with fail
             refine wp_region_lit ?_
             refine tkL (.int .i64 (i : Int)) (h := ?_)
             (try simp only [Act.put, sA, sB, sC])
             refine wpList_q (by rfl) (.int .i64 ((i : Int) + 1)) ?he ?_
             case he => (go_simp; (first | done | (refine wrG _ ?_ ?_ <;> (have q0 := HLT.out; have q1 := HI8.out; omega)) | (have q0 := HLT.out; have q1 := HI8.out; omega) | (have q0 := HLT.out; have q1 := HI8.out; split <;> omega) | (have q0 := HLT.out; have q1 := HI8.out; intro hh; omega)))
             (try simp only [Act.put, sA, sB, sC])
             refine tkL (.int .i64 ((i : Int) + 1)) (h := ?_)
             (try simp only [Act.put, sA, sB, sC])
             refine wpList_nil ?_
             go_wp2_with fail
             refine Met.intro ?_
             refine hJ1 _ _ _ ?less104 ⟨(i + 1), U, H, Q, rfl, ⟨rfl, rfl, rfl, rfl, rfl, rfl, rfl, trivial⟩, Lib.hid ⟨by have := HI8.out; omega, by have := HU.out; have := HK50.out; omega, HGI2.out.more (Nat.le_succ _), HIC2.out, HS104.out, HBC104.out, HFq104.out⟩⟩
             case less104 => exact (by have := HM.out; have := HI8.out; omega)
           · have HK5 := Lib.hid hcs; clear hcs
             go_upto_region 9 with fail
             refine wp_region_lit ?_
             refine tkL (.int .i64 (k : Int)) (h := ?_)
             (try simp only [Act.put, sA, sB, sC])
             refine tkL (.pointer (some ⟨bn7, 1, none⟩)) (h := ?_)
             (try simp only [Act.put, sA, sB, sC])
             refine wpList_q (by rfl) (.int .i64 ((os i).a)) ?he ?_
             case he => exact exec_cell 3 _ _ HBn7104.out rfl rfl rfl Try.underlying3 rfl
             (try simp only [Act.put, sA, sB, sC])
             refine wpList_q (by rfl) (.bool true) ?he ?_
             case he => (have q0 := HKA.out; go_simp; (first | done | rfl | omega))
             (try simp only [Act.put, sA, sB, sC])
             refine tkL (.bool true) (h := ?_)
             (try simp only [Act.put, sA, sB, sC])
             refine tkL (.int .i64 (k : Int)) (h := ?_)
             (try simp only [Act.put, sA, sB, sC])
             refine wpList_q (by rfl) (.bool true) ?he ?_
             case he => (have q0 := HK5.out; go_simp; (first | done | rfl | omega))
             (try simp only [Act.put, sA, sB, sC])
             refine tkL (.bool true) (h := ?_)
             (try simp only [Act.put, sA, sB, sC])
             refine wpList_nil ?_
             have HH2 := Lib.hid (gi_hyps HGI2.out (by have := HI80.out; omega) (by have := HI80.out; have := HK50.out; have := HU.out; omega))
             go_upto_region 11 with fail
             refine wp_region_lit ?_
             refine tkL (.pointer (some ⟨q1, 0, none⟩)) (h := ?_)
             (try simp only [Act.put, sA, sB, sC])
             refine wpList_wp (by rfl) (fun K hK => ?_)
             (try go_simp)
             refine (carsT w.heap.size q1 H Q _ HFq104.out (by have := HH2.out.1.1; omega)).mono ?_
             rintro e w105 ⟨Aa, ca, rfl, hown, hb⟩
             (try go_wp2_with fail)
             refine hK.out _ _ ?_
             clear hK K
             (try simp only [Act.put, sA, sB, sC])
             unfold CarsAt at hown
             have HDa := Lib.hid (show ∀ g ∈ blkOf Aa, g ∉ Q from fun g hg h => by have q1 := own_low hown g hg; have q2 := GO.lt HFq104.out g h; omega)
             have HRa := Lib.hid (own_base hown (Since.size HS104.out)); clear hown
             have HS105 := Lib.hid (Since.trans HS104.out hb)
             have HBC105 := Lib.hid (keep_blk hb HBC104.out)
             have HBn7105 := Lib.hid (keep_blk hb HBn7104.out)
             have HFq105 := Lib.hid (GO.keep hb HFq104.out)
             clear HS104 HBC104 HBn7104 HFq104
             clear hb
             refine tkL (.slice Aa H.cars.length ca) (h := ?_)
             (try simp only [Act.put, sA, sB, sC])
             refine wpList_nil ?_
             go_upto_region 12 with fail
             refine wp_region_lit ?_
             refine tkL (.pointer (some ⟨q1, 0, none⟩)) (h := ?_)
             (try simp only [Act.put, sA, sB, sC])
             refine wpList_wp (by rfl) (fun K hK => ?_)
             (try go_simp)
             refine (tickS w.heap.size q1 H Q c i U _ HFq105.out HGI2.out (by have := HI80.out; omega) (by have := HI80.out; have := HK50.out; have := HU.out; omega)).mono ?_
             rintro e w106 ⟨Sq_1, A3, c3, rfl, hobj, hown, hupd, hfar⟩
             (try go_wp2_with fail)
             refine hK.out _ _ ?_
             clear hK K
             (try simp only [Act.put, sA, sB, sC])
             have HS106 := Lib.hid (Since.upd HS105.out hupd (GO.low HFq105.out))
             have HBC106 := Lib.hid (Upd.blk hupd HBC105.out HIC2.out)
             have HIC_q_106 := Lib.hid (nin_next hfar HIC2.out (Blk.lt HBC105.out))
             have HBn7106 := Lib.hid (Upd.blk hupd HBn7105.out HI7.out)
             have HIn7_q_106 := Lib.hid (nin_next hfar HI7.out (Blk.lt HBn7105.out))
             have HFa106 := Lib.hid (Upd.own hupd HRa.out HDa.out)
             have HDDa_q_106 := Lib.hid (dis_next hfar HDa.out (own_lt HRa.out))
             have HFq106 := Lib.hid hobj
             clear hupd hobj hfar HS105 HBC105 HBn7105 HFq105 HRa
             clear hown
             refine wpList_nil ?_
             go_upto_region 13 with fail
             refine wp_region_lit ?_
             refine tkL (.pointer (some ⟨q1, 0, none⟩)) (h := ?_)
             (try simp only [Act.put, sA, sB, sC])
             refine wpList_wp (by rfl) (fun K hK => ?_)
             (try go_simp)
             refine (carsT w.heap.size q1 (tickG H) Sq_1 _ HFq106.out (by rw [tick_len]; have := HH2.out.1.1; omega)).mono ?_
             rintro e w107 ⟨Ab, cb, rfl, hown, hb⟩
             (try go_wp2_with fail)
             refine hK.out _ _ ?_
             clear hK K
             (try simp only [Act.put, sA, sB, sC])
             unfold CarsAt at hown
             have HDb := Lib.hid (show ∀ g ∈ blkOf Ab, g ∉ Sq_1 from fun g hg h => by have q1 := own_low hown g hg; have q2 := GO.lt HFq106.out g h; omega)
             have HRb := Lib.hid (own_base hown (Since.size HS106.out)); clear hown
             have HS107 := Lib.hid (Since.trans HS106.out hb)
             have HBC107 := Lib.hid (keep_blk hb HBC106.out)
             have HBn7107 := Lib.hid (keep_blk hb HBn7106.out)
             have HFq107 := Lib.hid (GO.keep hb HFq106.out)
             have HFa107 := Lib.hid (keep_own hb HFa106.out)
             clear HS106 HBC106 HBn7106 HFq106 HFa106
             clear hb
             refine tkL (.slice Ab (tickG H).cars.length cb) (h := ?_)
             (try simp only [Act.put, sA, sB, sC])
             refine wpList_nil ?_
             have HLL := Lib.hid (tick_len H)
             obtain ⟨ga, hga⟩ := own_addr HFa107.out HH2.out.1.2.2.1
             subst hga
             obtain ⟨gb, hgb⟩ := own_addr HRb.out (by rw [HLL.out]; exact HH2.out.1.2.2.1)
             subst hgb
             go_upto_region 14 with fail
             refine wp_region_lit ?_
             refine tkL (.slice (some ⟨ga, 0, none⟩) H.cars.length ca) (h := ?_)
             (try simp only [Act.put, sA, sB, sC])
             refine tkL (.int .i64 (H.cars.length : Int)) (h := ?_)
             (try simp only [Act.put, sA, sB, sC])
             refine tkL (.slice (some ⟨gb, 0, none⟩) (tickG H).cars.length cb) (h := ?_)
             (try simp only [Act.put, sA, sB, sC])
             refine tkL (.int .i64 ((tickG H).cars.length : Int)) (h := ?_)
             (try simp only [Act.put, sA, sB, sC])
             refine wpList_q (by rfl) (.bool false) ?he ?_
             case he => (have q := HLL.out; go_simp; (first | done | (rw [q]; simp; done) | (simp [q]; done) | omega))
             (try simp only [Act.put, sA, sB, sC])
             refine tkL (.bool false) (h := ?_)
             (try simp only [Act.put, sA, sB, sC])
             refine tkL (.slice (some ⟨ga, 0, none⟩) H.cars.length ca) (h := ?_)
             (try simp only [Act.put, sA, sB, sC])
             refine tkL (.int .i64 (H.cars.length : Int)) (h := ?_)
             (try simp only [Act.put, sA, sB, sC])
             refine wpList_q (by rfl) (.bool false) ?he ?_
             case he => (have q := HH2.out.1.2.2.1; go_simp; (first | done | omega | (intro e; rw [e] at q; simp at q)))
             (try simp only [Act.put, sA, sB, sC])
             refine tkL (.bool false) (h := ?_)
             (try simp only [Act.put, sA, sB, sC])
             refine wpList_nil ?_
             go_upto_region 16 with fail
             refine wp_region_lit ?_
             refine tkL (.int .i64 0) (h := ?_)
             (try simp only [Act.put, sA, sB, sC])
             refine wpList_nil ?_
             go_wp2_with fail
             refine wp_uloop (ds := []) (fun n fr wr => ∃ p : Nat, (H.cars.length - p) = n ∧ Fits fr 135 [(0, .agg (cfgA c)), (1, .slice (some ⟨go, oo, none⟩) on oc), (2, .pointer (some ⟨w.heap.size, 0, none⟩)), (4, .bool false), (5, .pointer (some ⟨q1, 0, none⟩)), (6, .int .i64 (i : Int)), (7, .pointer (some ⟨bn7, 0, none⟩)), (8, .int .i64 (k : Int)), (9, .slice (some ⟨ga, 0, none⟩) H.cars.length ca), (10, .slice (some ⟨gb, 0, none⟩) (tickG H).cars.length cb), (11, .int .i64 (p : Int))] ∧ Hid (p ≤ H.cars.length ∧ Since w wr ∧ Blk wr w.heap.size 23 (cfgA c) ∧ Blk wr bn7 46 (opA (os i)) ∧ GO w.heap.size q1 (tickG H) Sq_1 wr ∧ (wr).ownsRow w.heap.size 30 15 (.slice (some ⟨ga, 0, none⟩) H.cars.length ca) H.cars.length (rowsOf carL H.cars) ∧ (wr).ownsRow w.heap.size 30 15 (.slice (some ⟨gb, 0, none⟩) ((tickG H).cars.length) cb) ((tickG H).cars.length) (rowsOf carL (tickG H).cars))) (H.cars.length - 0) ?start107 ?round107
             case start107 => exact ⟨0, rfl, ⟨rfl, rfl, rfl, rfl, rfl, rfl, rfl, rfl, rfl, rfl, rfl, rfl, trivial⟩, Lib.hid ⟨Nat.zero_le _, HS107.out, HBC107.out, HBn7107.out, HFq107.out, HFa107.out, HRb.out⟩⟩
             case round107 =>
              intro n fr wr hR J3 K3 hJ3 hK3
              clear HS107 HBC107 HBn7107 HFq107 HFa107 HRb
              obtain ⟨p, hn, hF, HO⟩ := hR
              have HM3 := Lib.hid hn; clear hn
              obtain ⟨e0, g0, g1, g2, g3, g4, g5⟩ := HO.out
              clear HO
              have HN := Lib.hid e0
              have HS157 := Lib.hid g0
              have HBC157 := Lib.hid g1
              have HBn7157 := Lib.hid g2
              have HFq157 := Lib.hid g3
              have HFa157 := Lib.hid g4
              have HFb157 := Lib.hid g5
              clear e0 g0 g1 g2 g3 g4 g5
              obtain ⟨u, hu⟩ := hF.open_
              have hu2 := hu.trans (show _ = #[.agg (cfgA c), .slice (some ⟨go, oo, none⟩) on oc, .pointer (some ⟨w.heap.size, 0, none⟩), u 3, .bool false, .pointer (some ⟨q1, 0, none⟩), .int .i64 (i : Int), .pointer (some ⟨bn7, 0, none⟩), .int .i64 (k : Int), .slice (some ⟨ga, 0, none⟩) H.cars.length ca, .slice (some ⟨gb, 0, none⟩) (tickG H).cars.length cb, .int .i64 (p : Int), u 12, u 13, u 14, u 15, u 16, u 17, u 18, u 19, u 20, u 21, u 22, u 23, u 24, u 25, u 26, u 27, u 28, u 29, u 30, u 31, u 32, u 33, u 34, u 35, u 36, u 37, u 38, u 39, u 40, u 41, u 42, u 43, u 44, u 45, u 46, u 47, u 48, u 49, u 50, u 51, u 52, u 53, u 54, u 55, u 56, u 57, u 58, u 59, u 60, u 61, u 62, u 63, u 64, u 65, u 66, u 67, u 68, u 69, u 70, u 71, u 72, u 73, u 74, u 75, u 76, u 77, u 78, u 79, u 80, u 81, u 82, u 83, u 84, u 85, u 86, u 87, u 88, u 89, u 90, u 91, u 92, u 93, u 94, u 95, u 96, u 97, u 98, u 99, u 100, u 101, u 102, u 103, u 104, u 105, u 106, u 107, u 108, u 109, u 110, u 111, u 112, u 113, u 114, u 115, u 116, u 117, u 118, u 119, u 120, u 121, u 122, u 123, u 124, u 125, u 126, u 127, u 128, u 129, u 130, u 131, u 132, u 133, u 134] by kernel_rfl)
              clear hu hF
              subst hu2
              by_cases hcs : p < H.cars.length
              rotate_left
              · have HNL := Lib.hid hcs; clear hcs
                go_upto_region 17 with fail
                refine wp_region_lit ?_
                refine tkL (.int .i64 (p : Int)) (h := ?_)
                (try simp only [Act.put, sA, sB, sC])
                refine tkL (.slice (some ⟨ga, 0, none⟩) H.cars.length ca) (h := ?_)
                (try simp only [Act.put, sA, sB, sC])
                refine tkL (.int .i64 (H.cars.length : Int)) (h := ?_)
                (try simp only [Act.put, sA, sB, sC])
                refine wpList_q (by rfl) (.bool false) ?he ?_
                case he => (have q0 := HNL.out; go_simp; (first | done | rfl | omega))
                (try simp only [Act.put, sA, sB, sC])
                refine wpList_nil ?_
                go_upto_region 10 with fail
                refine wp_region_lit ?_
                refine tkL (.int .i64 (k : Int)) (h := ?_)
                (try simp only [Act.put, sA, sB, sC])
                refine wpList_q (by rfl) (.int .i64 ((k : Int) + 1)) ?he ?_
                case he => (go_simp; (first | done | (refine wrG _ ?_ ?_ <;> (have q0 := HK5.out; omega)) | (have q0 := HK5.out; omega) | (have q0 := HK5.out; split <;> omega) | (have q0 := HK5.out; intro hh; omega)))
                (try simp only [Act.put, sA, sB, sC])
                refine tkL (.int .i64 ((k : Int) + 1)) (h := ?_)
                (try simp only [Act.put, sA, sB, sC])
                refine wpList_nil ?_
                go_wp2_with fail
                refine Met.intro ?_
                refine hJ2 _ _ _ ?less157 ⟨(k + 1), (U + 1), (tickG H), Sq_1, rfl, ⟨rfl, rfl, rfl, rfl, rfl, rfl, rfl, rfl, rfl, trivial⟩, Lib.hid ⟨by have := HK5.out; omega, by have := HU.out; omega, HGI2.out.tick, HIC_q_106.out, HIn7_q_106.out, HS157.out, HBC157.out, HBn7157.out, HFq157.out⟩⟩
                case less157 => exact (by have := HM2.out; have := HK5.out; omega)
              · have HNL := Lib.hid hcs; clear hcs
                go_upto_region 17 with fail
                refine wp_region_lit ?_
                refine tkL (.int .i64 (p : Int)) (h := ?_)
                (try simp only [Act.put, sA, sB, sC])
                refine tkL (.slice (some ⟨ga, 0, none⟩) H.cars.length ca) (h := ?_)
                (try simp only [Act.put, sA, sB, sC])
                refine tkL (.int .i64 (H.cars.length : Int)) (h := ?_)
                (try simp only [Act.put, sA, sB, sC])
                refine wpList_q (by rfl) (.bool true) ?he ?_
                case he => (have q0 := HNL.out; go_simp; (first | done | rfl | omega))
                (try simp only [Act.put, sA, sB, sC])
                refine wpList_nil ?_
                obtain ⟨x, hx⟩ : ∃ x, H.cars[p]? = some x := ⟨_, List.getElem?_eq_getElem HNL.out⟩
                obtain ⟨z, hz⟩ : ∃ z, (tickG H).cars[p]? = some z := ⟨_, List.getElem?_eq_getElem (by rw [HLL.out]; exact HNL.out)⟩
                have HSAFE := Lib.hid (tick_safe HGI2.out hx hz); have HX := Lib.hid hx; have HZ := Lib.hid hz; clear hx hz
                by_cases hcs : x.un ≠ z.un
                rotate_left
                · have HMV := Lib.hid hcs; clear hcs
                  by_cases hcs : z.ds ≠ 0
                  rotate_left
                  · have HDS := Lib.hid hcs; clear hcs
                    go_upto_region 19 with fail
                    have HKS : Hid (KeepS (fun W : World => Since w W ∧ Blk W w.heap.size 23 (cfgA c) ∧ Blk W bn7 46 (opA (os i)) ∧ GO w.heap.size q1 (tickG H) Sq_1 W ∧ (W).ownsRow w.heap.size 30 15 (.slice (some ⟨ga, 0, none⟩) H.cars.length ca) H.cars.length (rowsOf carL H.cars) ∧ (W).ownsRow w.heap.size 30 15 (.slice (some ⟨gb, 0, none⟩) ((tickG H).cars.length) cb) ((tickG H).cars.length) (rowsOf carL (tickG H).cars)) wr) := Lib.hid ⟨fun W W' k ⟨h, h0, h1, h2, h3, h4⟩ => ⟨h.trans k, keep_blk k h0, keep_blk k h1, GO.keep k h2, keep_own k h3, keep_own k h4⟩, ⟨HS157.out, HBC157.out, HBn7157.out, HFq157.out, HFa157.out, HFb157.out⟩⟩
                    have HRK := Lib.hid HKS.out.1
                    refine wp_held HKS.out (by kernel_rfl) (fun hHeld => ?_)
                    refine tkQ 0 (.slice (some ⟨ga, 0, none⟩) H.cars.length ca) hHeld (h := ?_)
                    (try simp only [Act.put, sA, sB, sC])
                    refine tkQ 1 (.int .i64 (p : Int)) hHeld (h := ?_)
                    (try simp only [Act.put, sA, sB, sC])
                    refine tkQ 2 (.pointer (some ⟨ga, p * 15, none⟩)) hHeld (he := by intro w hSw; (rw [show p * 15 = 0 + p * 15 by omega]; exact exec_index (i := p) (s := 15) 37 30 _ _ rfl rfl rfl rfl HNL.out Try.underlying37 (by kernel_rfl))) (h := ?_)
                    (try simp only [Act.put, sA, sB, sC])
                    refine tkQ 3 (.pointer (some ⟨ga, p * 15 + 2, none⟩)) hHeld (h := ?_)
                    (try simp only [Act.put, sA, sB, sC])
                    refine tkQ 4 (.int .i64 x.un) hHeld (he := by intro w hSw; exact exec_at 3 _ _ (row_S carL_len hSw.2.2.2.2.1 HX.out 2 _ rfl) rfl rfl Try.underlying3 rfl) (h := ?_)
                    (try simp only [Act.put, sA, sB, sC])
                    refine tkQ 5 (.slice (some ⟨gb, 0, none⟩) (tickG H).cars.length cb) hHeld (h := ?_)
                    (try simp only [Act.put, sA, sB, sC])
                    refine tkQ 6 (.int .i64 (p : Int)) hHeld (h := ?_)
                    (try simp only [Act.put, sA, sB, sC])
                    refine tkQ 7 (.pointer (some ⟨gb, p * 15, none⟩)) hHeld (he := by intro w hSw; (rw [show p * 15 = 0 + p * 15 by omega]; exact exec_index (i := p) (s := 15) 37 30 _ _ rfl rfl rfl rfl (by rw [HLL.out]; exact HNL.out) Try.underlying37 (by kernel_rfl))) (h := ?_)
                    (try simp only [Act.put, sA, sB, sC])
                    refine tkQ 8 (.pointer (some ⟨gb, p * 15 + 2, none⟩)) hHeld (h := ?_)
                    (try simp only [Act.put, sA, sB, sC])
                    refine tkQ 9 (.int .i64 z.un) hHeld (he := by intro w hSw; exact exec_at 3 _ _ (row_S carL_len hSw.2.2.2.2.2 HZ.out 2 _ rfl) rfl rfl Try.underlying3 rfl) (h := ?_)
                    (try simp only [Act.put, sA, sB, sC])
                    refine tkQ 10 (.bool false) hHeld (he := by intro w hSw; (have q := Decidable.not_not.1 HMV.out; go_simp; (first | done | exact q | (simp [q]; done)))) (h := ?_)
                    (try simp only [Act.put, sA, sB, sC])
                    refine tkQ 11 (.bool false) hHeld (h := ?_)
                    (try simp only [Act.put, sA, sB, sC])
                    refine tkU 12 hHeld (h := ?_)
                    (try simp only [Act.put, sA, sB, sC])
                    refine tkU 13 hHeld (h := ?_)
                    (try simp only [Act.put, sA, sB, sC])
                    refine tkU 14 hHeld (h := ?_)
                    (try simp only [Act.put, sA, sB, sC])
                    refine tkU 15 hHeld (h := ?_)
                    (try simp only [Act.put, sA, sB, sC])
                    refine tkU 16 hHeld (h := ?_)
                    (try simp only [Act.put, sA, sB, sC])
                    refine tkU 17 hHeld (h := ?_)
                    (try simp only [Act.put, sA, sB, sC])
                    refine tkU 18 hHeld (h := ?_)
                    (try simp only [Act.put, sA, sB, sC])
                    refine tkU 19 hHeld (h := ?_)
                    (try simp only [Act.put, sA, sB, sC])
                    refine tkU 20 hHeld (h := ?_)
                    (try simp only [Act.put, sA, sB, sC])
                    refine tkU 21 hHeld (h := ?_)
                    (try simp only [Act.put, sA, sB, sC])
                    refine tkU 22 hHeld (h := ?_)
                    (try simp only [Act.put, sA, sB, sC])
                    refine tkU 23 hHeld (h := ?_)
                    (try simp only [Act.put, sA, sB, sC])
                    refine tkU 24 hHeld (h := ?_)
                    (try simp only [Act.put, sA, sB, sC])
                    refine tkU 25 hHeld (h := ?_)
                    (try simp only [Act.put, sA, sB, sC])
                    refine tkU 26 hHeld (h := ?_)
                    (try simp only [Act.put, sA, sB, sC])
                    refine tkU 27 hHeld (h := ?_)
                    (try simp only [Act.put, sA, sB, sC])
                    refine tkQ 28 (.bool false) hHeld (h := ?_)
                    (try simp only [Act.put, sA, sB, sC])
                    refine tkQ 29 (.bool false) hHeld (h := ?_)
                    (try simp only [Act.put, sA, sB, sC])
                    refine tkQ 30 (.slice (some ⟨gb, 0, none⟩) (tickG H).cars.length cb) hHeld (h := ?_)
                    (try simp only [Act.put, sA, sB, sC])
                    refine tkQ 31 (.int .i64 (p : Int)) hHeld (h := ?_)
                    (try simp only [Act.put, sA, sB, sC])
                    refine tkQ 32 (.pointer (some ⟨gb, p * 15, none⟩)) hHeld (he := by intro w hSw; (rw [show p * 15 = 0 + p * 15 by omega]; exact exec_index (i := p) (s := 15) 37 30 _ _ rfl rfl rfl rfl (by rw [HLL.out]; exact HNL.out) Try.underlying37 (by kernel_rfl))) (h := ?_)
                    (try simp only [Act.put, sA, sB, sC])
                    refine tkQ 33 (.pointer (some ⟨gb, p * 15, none⟩)) hHeld (h := ?_)
                    (try simp only [Act.put, sA, sB, sC])
                    refine tkQ 34 (.pointer (some ⟨gb, p * 15, none⟩)) hHeld (h := ?_)
                    (try simp only [Act.put, sA, sB, sC])
                    refine tkQ 35 (.int .i64 z.ds) hHeld (he := by intro w hSw; exact exec_at 3 _ _ (row_S carL_len hSw.2.2.2.2.2 HZ.out 0 _ rfl) rfl rfl Try.underlying3 rfl) (h := ?_)
                    (try simp only [Act.put, sA, sB, sC])
                    refine tkQ 36 (.bool false) hHeld (he := by intro w hSw; (have q := Decidable.not_not.1 HDS.out; go_simp; (first | done | exact q | (simp [q]; done)))) (h := ?_)
                    (try simp only [Act.put, sA, sB, sC])
                    refine tkQ 37 (.bool false) hHeld (h := ?_)
                    (try simp only [Act.put, sA, sB, sC])
                    refine tkU 38 hHeld (h := ?_)
                    (try simp only [Act.put, sA, sB, sC])
                    refine tkU 39 hHeld (h := ?_)
                    (try simp only [Act.put, sA, sB, sC])
                    refine tkU 40 hHeld (h := ?_)
                    (try simp only [Act.put, sA, sB, sC])
                    refine tkU 41 hHeld (h := ?_)
                    (try simp only [Act.put, sA, sB, sC])
                    refine tkU 42 hHeld (h := ?_)
                    (try simp only [Act.put, sA, sB, sC])
                    refine tkU 43 hHeld (h := ?_)
                    (try simp only [Act.put, sA, sB, sC])
                    refine tkU 44 hHeld (h := ?_)
                    (try simp only [Act.put, sA, sB, sC])
                    refine tkQ 45 (.bool false) hHeld (h := ?_)
                    (try simp only [Act.put, sA, sB, sC])
                    refine tkQ 46 (.bool false) hHeld (h := ?_)
                    (try simp only [Act.put, sA, sB, sC])
                    refine tkQ 47 (.bool false) hHeld (h := ?_)
                    (try simp only [Act.put, sA, sB, sC])
                    refine tkQ 48 (.slice (some ⟨gb, 0, none⟩) (tickG H).cars.length cb) hHeld (h := ?_)
                    (try simp only [Act.put, sA, sB, sC])
                    refine tkQ 49 (.int .i64 (p : Int)) hHeld (h := ?_)
                    (try simp only [Act.put, sA, sB, sC])
                    refine tkQ 50 (.pointer (some ⟨gb, p * 15, none⟩)) hHeld (he := by intro w hSw; (rw [show p * 15 = 0 + p * 15 by omega]; exact exec_index (i := p) (s := 15) 37 30 _ _ rfl rfl rfl rfl (by rw [HLL.out]; exact HNL.out) Try.underlying37 (by kernel_rfl))) (h := ?_)
                    (try simp only [Act.put, sA, sB, sC])
                    refine tkQ 51 (.pointer (some ⟨gb, p * 15 + 2, none⟩)) hHeld (h := ?_)
                    (try simp only [Act.put, sA, sB, sC])
                    refine tkQ 52 (.int .i64 z.un) hHeld (he := by intro w hSw; exact exec_at 3 _ _ (row_S carL_len hSw.2.2.2.2.2 HZ.out 2 _ rfl) rfl rfl Try.underlying3 rfl) (h := ?_)
                    (try simp only [Act.put, sA, sB, sC])
                    refine tkQ 53 (.bool false) hHeld (he := by intro w hSw; (have q := HSAFE.out.2.2.1; go_simp; (first | done | omega))) (h := ?_)
                    (try simp only [Act.put, sA, sB, sC])
                    refine tkQ 54 (.bool false) hHeld (h := ?_)
                    (try simp only [Act.put, sA, sB, sC])
                    refine tkQ 55 (.bool false) hHeld (h := ?_)
                    (try simp only [Act.put, sA, sB, sC])
                    refine tkQ 56 (.slice (some ⟨gb, 0, none⟩) (tickG H).cars.length cb) hHeld (h := ?_)
                    (try simp only [Act.put, sA, sB, sC])
                    refine tkQ 57 (.int .i64 (p : Int)) hHeld (h := ?_)
                    (try simp only [Act.put, sA, sB, sC])
                    refine tkQ 58 (.pointer (some ⟨gb, p * 15, none⟩)) hHeld (he := by intro w hSw; (rw [show p * 15 = 0 + p * 15 by omega]; exact exec_index (i := p) (s := 15) 37 30 _ _ rfl rfl rfl rfl (by rw [HLL.out]; exact HNL.out) Try.underlying37 (by kernel_rfl))) (h := ?_)
                    (try simp only [Act.put, sA, sB, sC])
                    refine tkQ 59 (.pointer (some ⟨gb, p * 15 + 2, none⟩)) hHeld (h := ?_)
                    (try simp only [Act.put, sA, sB, sC])
                    refine tkQ 60 (.int .i64 z.un) hHeld (he := by intro w hSw; exact exec_at 3 _ _ (row_S carL_len hSw.2.2.2.2.2 HZ.out 2 _ rfl) rfl rfl Try.underlying3 rfl) (h := ?_)
                    (try simp only [Act.put, sA, sB, sC])
                    refine tkQ 61 (.pointer (some ⟨w.heap.size, 1, none⟩)) hHeld (h := ?_)
                    (try simp only [Act.put, sA, sB, sC])
                    refine tkQ 62 (.int .i64 c.fl) hHeld (he := by intro w hSw; exact exec_cell 3 _ _ hSw.2.1 rfl rfl rfl Try.underlying3 rfl) (h := ?_)
                    (try simp only [Act.put, sA, sB, sC])
                    refine wpAnyH_ready (rs := [63]) (by kernel_rfl) (by simp) ?_
                    refine AllReadyH.cons (o := ?o19__63) ?h19__63 (fun K hK => ?_) AllReadyH.nil
                    case h19__63 => (first | (simp only [gA, gB, gC]; done) | (simp only [gA, gB, gC]; exact rfl))
                    (try go_simp)
                    refine (floorsV c.fl _).mono ?_
                    rintro e w' ⟨rfl, rfl⟩
                    (try go_wp2_with fail)
                    refine hK.out _ _ hHeld (fun hHeld2 => ?_)
                    clear hK K hHeld2
                    (try simp only [Act.put, sA, sB, sC])
                    refine tkQ 64 (.int .i64 (fl c.fl - 1)) hHeld (he := by intro w hSw; (have q1 := fl_lo c.fl; have q2 := fl_hi c.fl; go_simp; (first | done | (refine wrG _ ?_ ?_ <;> omega) | omega))) (h := ?_)
                    (try simp only [Act.put, sA, sB, sC])
                    refine tkQ 65 (.int .i64 (4 * (fl c.fl - 1))) hHeld (he := by intro w hSw; (have q1 := fl_lo c.fl; have q2 := fl_hi c.fl; go_simp; (first | done | (refine wrG _ ?_ ?_ <;> omega) | omega))) (h := ?_)
                    (try simp only [Act.put, sA, sB, sC])
                    refine tkQ 66 (.bool false) hHeld (he := by intro w hSw; (have q := HSAFE.out.2.2.2.2; go_simp; (first | done | omega))) (h := ?_)
                    (try simp only [Act.put, sA, sB, sC])
                    refine tkQ 67 (.bool false) hHeld (h := ?_)
                    (try simp only [Act.put, sA, sB, sC])
                    refine wpAnyH_done (by kernel_rfl) ?_ _
                    have HSd19 := Lib.hid hHeld.1
                    have HBCd19 := Lib.hid (hHeld.2.1)
                    have HBn7d19 := Lib.hid (hHeld.2.2.1)
                    have HFqd19 := Lib.hid (hHeld.2.2.2.1)
                    have HFad19 := Lib.hid (hHeld.2.2.2.2.1)
                    have HFbd19 := Lib.hid (hHeld.2.2.2.2.2)
                    clear hHeld HRK HKS HS157 HBC157 HBn7157 HFq157 HFa157 HFb157
                    go_upto_region 18 with fail
                    refine wp_region_lit ?_
                    refine tkL (.int .i64 (p : Int)) (h := ?_)
                    (try simp only [Act.put, sA, sB, sC])
                    refine wpList_q (by rfl) (.int .i64 ((p : Int) + 1)) ?he ?_
                    case he => (have q1 := HNL.out; have q2 := HH2.out.1.1; go_simp; (first | done | (refine wrG _ ?_ ?_ <;> omega) | omega))
                    (try simp only [Act.put, sA, sB, sC])
                    refine tkL (.int .i64 ((p : Int) + 1)) (h := ?_)
                    (try simp only [Act.put, sA, sB, sC])
                    refine wpList_nil ?_
                    go_wp2_with fail
                    refine Met.intro ?_
                    refine hJ3 _ _ _ ?less157 ⟨(p + 1), rfl, ⟨rfl, rfl, rfl, rfl, rfl, rfl, rfl, rfl, rfl, rfl, rfl, rfl, trivial⟩, Lib.hid ⟨by have := HNL.out; omega, HSd19.out, HBCd19.out, HBn7d19.out, HFqd19.out, HFad19.out, HFbd19.out⟩⟩
                    case less157 => exact (by have := HM3.out; have := HNL.out; omega)
                  · have HDS := Lib.hid hcs; clear hcs
                    go_upto_region 19 with fail
                    have HKS : Hid (KeepS (fun W : World => Since w W ∧ Blk W w.heap.size 23 (cfgA c) ∧ Blk W bn7 46 (opA (os i)) ∧ GO w.heap.size q1 (tickG H) Sq_1 W ∧ (W).ownsRow w.heap.size 30 15 (.slice (some ⟨ga, 0, none⟩) H.cars.length ca) H.cars.length (rowsOf carL H.cars) ∧ (W).ownsRow w.heap.size 30 15 (.slice (some ⟨gb, 0, none⟩) ((tickG H).cars.length) cb) ((tickG H).cars.length) (rowsOf carL (tickG H).cars)) wr) := Lib.hid ⟨fun W W' k ⟨h, h0, h1, h2, h3, h4⟩ => ⟨h.trans k, keep_blk k h0, keep_blk k h1, GO.keep k h2, keep_own k h3, keep_own k h4⟩, ⟨HS157.out, HBC157.out, HBn7157.out, HFq157.out, HFa157.out, HFb157.out⟩⟩
                    have HRK := Lib.hid HKS.out.1
                    refine wp_held HKS.out (by kernel_rfl) (fun hHeld => ?_)
                    refine tkQ 0 (.slice (some ⟨ga, 0, none⟩) H.cars.length ca) hHeld (h := ?_)
                    (try simp only [Act.put, sA, sB, sC])
                    refine tkQ 1 (.int .i64 (p : Int)) hHeld (h := ?_)
                    (try simp only [Act.put, sA, sB, sC])
                    refine tkQ 2 (.pointer (some ⟨ga, p * 15, none⟩)) hHeld (he := by intro w hSw; (rw [show p * 15 = 0 + p * 15 by omega]; exact exec_index (i := p) (s := 15) 37 30 _ _ rfl rfl rfl rfl HNL.out Try.underlying37 (by kernel_rfl))) (h := ?_)
                    (try simp only [Act.put, sA, sB, sC])
                    refine tkQ 3 (.pointer (some ⟨ga, p * 15 + 2, none⟩)) hHeld (h := ?_)
                    (try simp only [Act.put, sA, sB, sC])
                    refine tkQ 4 (.int .i64 x.un) hHeld (he := by intro w hSw; exact exec_at 3 _ _ (row_S carL_len hSw.2.2.2.2.1 HX.out 2 _ rfl) rfl rfl Try.underlying3 rfl) (h := ?_)
                    (try simp only [Act.put, sA, sB, sC])
                    refine tkQ 5 (.slice (some ⟨gb, 0, none⟩) (tickG H).cars.length cb) hHeld (h := ?_)
                    (try simp only [Act.put, sA, sB, sC])
                    refine tkQ 6 (.int .i64 (p : Int)) hHeld (h := ?_)
                    (try simp only [Act.put, sA, sB, sC])
                    refine tkQ 7 (.pointer (some ⟨gb, p * 15, none⟩)) hHeld (he := by intro w hSw; (rw [show p * 15 = 0 + p * 15 by omega]; exact exec_index (i := p) (s := 15) 37 30 _ _ rfl rfl rfl rfl (by rw [HLL.out]; exact HNL.out) Try.underlying37 (by kernel_rfl))) (h := ?_)
                    (try simp only [Act.put, sA, sB, sC])
                    refine tkQ 8 (.pointer (some ⟨gb, p * 15 + 2, none⟩)) hHeld (h := ?_)
                    (try simp only [Act.put, sA, sB, sC])
                    refine tkQ 9 (.int .i64 z.un) hHeld (he := by intro w hSw; exact exec_at 3 _ _ (row_S carL_len hSw.2.2.2.2.2 HZ.out 2 _ rfl) rfl rfl Try.underlying3 rfl) (h := ?_)
                    (try simp only [Act.put, sA, sB, sC])
                    refine tkQ 10 (.bool false) hHeld (he := by intro w hSw; (have q := Decidable.not_not.1 HMV.out; go_simp; (first | done | exact q | (simp [q]; done)))) (h := ?_)
                    (try simp only [Act.put, sA, sB, sC])
                    refine tkQ 11 (.bool false) hHeld (h := ?_)
                    (try simp only [Act.put, sA, sB, sC])
                    refine tkU 12 hHeld (h := ?_)
                    (try simp only [Act.put, sA, sB, sC])
                    refine tkU 13 hHeld (h := ?_)
                    (try simp only [Act.put, sA, sB, sC])
                    refine tkU 14 hHeld (h := ?_)
                    (try simp only [Act.put, sA, sB, sC])
                    refine tkU 15 hHeld (h := ?_)
                    (try simp only [Act.put, sA, sB, sC])
                    refine tkU 16 hHeld (h := ?_)
                    (try simp only [Act.put, sA, sB, sC])
                    refine tkU 17 hHeld (h := ?_)
                    (try simp only [Act.put, sA, sB, sC])
                    refine tkU 18 hHeld (h := ?_)
                    (try simp only [Act.put, sA, sB, sC])
                    refine tkU 19 hHeld (h := ?_)
                    (try simp only [Act.put, sA, sB, sC])
                    refine tkU 20 hHeld (h := ?_)
                    (try simp only [Act.put, sA, sB, sC])
                    refine tkU 21 hHeld (h := ?_)
                    (try simp only [Act.put, sA, sB, sC])
                    refine tkU 22 hHeld (h := ?_)
                    (try simp only [Act.put, sA, sB, sC])
                    refine tkU 23 hHeld (h := ?_)
                    (try simp only [Act.put, sA, sB, sC])
                    refine tkU 24 hHeld (h := ?_)
                    (try simp only [Act.put, sA, sB, sC])
                    refine tkU 25 hHeld (h := ?_)
                    (try simp only [Act.put, sA, sB, sC])
                    refine tkU 26 hHeld (h := ?_)
                    (try simp only [Act.put, sA, sB, sC])
                    refine tkU 27 hHeld (h := ?_)
                    (try simp only [Act.put, sA, sB, sC])
                    refine tkQ 28 (.bool false) hHeld (h := ?_)
                    (try simp only [Act.put, sA, sB, sC])
                    refine tkQ 29 (.bool false) hHeld (h := ?_)
                    (try simp only [Act.put, sA, sB, sC])
                    refine tkQ 30 (.slice (some ⟨gb, 0, none⟩) (tickG H).cars.length cb) hHeld (h := ?_)
                    (try simp only [Act.put, sA, sB, sC])
                    refine tkQ 31 (.int .i64 (p : Int)) hHeld (h := ?_)
                    (try simp only [Act.put, sA, sB, sC])
                    refine tkQ 32 (.pointer (some ⟨gb, p * 15, none⟩)) hHeld (he := by intro w hSw; (rw [show p * 15 = 0 + p * 15 by omega]; exact exec_index (i := p) (s := 15) 37 30 _ _ rfl rfl rfl rfl (by rw [HLL.out]; exact HNL.out) Try.underlying37 (by kernel_rfl))) (h := ?_)
                    (try simp only [Act.put, sA, sB, sC])
                    refine tkQ 33 (.pointer (some ⟨gb, p * 15, none⟩)) hHeld (h := ?_)
                    (try simp only [Act.put, sA, sB, sC])
                    refine tkQ 34 (.pointer (some ⟨gb, p * 15, none⟩)) hHeld (h := ?_)
                    (try simp only [Act.put, sA, sB, sC])
                    refine tkQ 35 (.int .i64 z.ds) hHeld (he := by intro w hSw; exact exec_at 3 _ _ (row_S carL_len hSw.2.2.2.2.2 HZ.out 0 _ rfl) rfl rfl Try.underlying3 rfl) (h := ?_)
                    (try simp only [Act.put, sA, sB, sC])
                    refine tkQ 36 (.bool true) hHeld (he := by intro w hSw; (have q := HDS.out; go_simp; (first | done | exact q | (simp [q]; done)))) (h := ?_)
                    (try simp only [Act.put, sA, sB, sC])
                    refine tkQ 37 (.bool true) hHeld (h := ?_)
                    (try simp only [Act.put, sA, sB, sC])
                    refine tkQ 38 (.slice (some ⟨gb, 0, none⟩) (tickG H).cars.length cb) hHeld (h := ?_)
                    (try simp only [Act.put, sA, sB, sC])
                    refine tkQ 39 (.int .i64 (p : Int)) hHeld (h := ?_)
                    (try simp only [Act.put, sA, sB, sC])
                    refine tkQ 40 (.pointer (some ⟨gb, p * 15, none⟩)) hHeld (he := by intro w hSw; (rw [show p * 15 = 0 + p * 15 by omega]; exact exec_index (i := p) (s := 15) 37 30 _ _ rfl rfl rfl rfl (by rw [HLL.out]; exact HNL.out) Try.underlying37 (by kernel_rfl))) (h := ?_)
                    (try simp only [Act.put, sA, sB, sC])
                    refine tkQ 41 (.pointer (some ⟨gb, p * 15 + 2, none⟩)) hHeld (h := ?_)
                    (try simp only [Act.put, sA, sB, sC])
                    refine tkQ 42 (.int .i64 z.un) hHeld (he := by intro w hSw; exact exec_at 3 _ _ (row_S carL_len hSw.2.2.2.2.2 HZ.out 2 _ rfl) rfl rfl Try.underlying3 rfl) (h := ?_)
                    (try simp only [Act.put, sA, sB, sC])
                    refine tkQ 43 (.int .i64 0) hHeld (he := by intro w hSw; (have q := HSAFE.out.2.1 HDS.out; have q2 := HSAFE.out.2.2.1; have q3 := HSAFE.out.2.2.2.1; go_simp; (first | done | (rw [Int.tmod_eq_emod_of_nonneg q2]; exact q) | (simp [q]; done) | omega))) (h := ?_)
                    (try simp only [Act.put, sA, sB, sC])
                    refine tkQ 44 (.bool false) hHeld (h := ?_)
                    (try simp only [Act.put, sA, sB, sC])
                    refine tkQ 45 (.bool false) hHeld (h := ?_)
                    (try simp only [Act.put, sA, sB, sC])
                    refine tkQ 46 (.bool false) hHeld (h := ?_)
                    (try simp only [Act.put, sA, sB, sC])
                    refine tkQ 47 (.bool false) hHeld (h := ?_)
                    (try simp only [Act.put, sA, sB, sC])
                    refine tkQ 48 (.slice (some ⟨gb, 0, none⟩) (tickG H).cars.length cb) hHeld (h := ?_)
                    (try simp only [Act.put, sA, sB, sC])
                    refine tkQ 49 (.int .i64 (p : Int)) hHeld (h := ?_)
                    (try simp only [Act.put, sA, sB, sC])
                    refine tkQ 50 (.pointer (some ⟨gb, p * 15, none⟩)) hHeld (he := by intro w hSw; (rw [show p * 15 = 0 + p * 15 by omega]; exact exec_index (i := p) (s := 15) 37 30 _ _ rfl rfl rfl rfl (by rw [HLL.out]; exact HNL.out) Try.underlying37 (by kernel_rfl))) (h := ?_)
                    (try simp only [Act.put, sA, sB, sC])
                    refine tkQ 51 (.pointer (some ⟨gb, p * 15 + 2, none⟩)) hHeld (h := ?_)
                    (try simp only [Act.put, sA, sB, sC])
                    refine tkQ 52 (.int .i64 z.un) hHeld (he := by intro w hSw; exact exec_at 3 _ _ (row_S carL_len hSw.2.2.2.2.2 HZ.out 2 _ rfl) rfl rfl Try.underlying3 rfl) (h := ?_)
                    (try simp only [Act.put, sA, sB, sC])
                    refine tkQ 53 (.bool false) hHeld (he := by intro w hSw; (have q := HSAFE.out.2.2.1; go_simp; (first | done | omega))) (h := ?_)
                    (try simp only [Act.put, sA, sB, sC])
                    refine tkQ 54 (.bool false) hHeld (h := ?_)
                    (try simp only [Act.put, sA, sB, sC])
                    refine tkQ 55 (.bool false) hHeld (h := ?_)
                    (try simp only [Act.put, sA, sB, sC])
                    refine tkQ 56 (.slice (some ⟨gb, 0, none⟩) (tickG H).cars.length cb) hHeld (h := ?_)
                    (try simp only [Act.put, sA, sB, sC])
                    refine tkQ 57 (.int .i64 (p : Int)) hHeld (h := ?_)
                    (try simp only [Act.put, sA, sB, sC])
                    refine tkQ 58 (.pointer (some ⟨gb, p * 15, none⟩)) hHeld (he := by intro w hSw; (rw [show p * 15 = 0 + p * 15 by omega]; exact exec_index (i := p) (s := 15) 37 30 _ _ rfl rfl rfl rfl (by rw [HLL.out]; exact HNL.out) Try.underlying37 (by kernel_rfl))) (h := ?_)
                    (try simp only [Act.put, sA, sB, sC])
                    refine tkQ 59 (.pointer (some ⟨gb, p * 15 + 2, none⟩)) hHeld (h := ?_)
                    (try simp only [Act.put, sA, sB, sC])
                    refine tkQ 60 (.int .i64 z.un) hHeld (he := by intro w hSw; exact exec_at 3 _ _ (row_S carL_len hSw.2.2.2.2.2 HZ.out 2 _ rfl) rfl rfl Try.underlying3 rfl) (h := ?_)
                    (try simp only [Act.put, sA, sB, sC])
                    refine tkQ 61 (.pointer (some ⟨w.heap.size, 1, none⟩)) hHeld (h := ?_)
                    (try simp only [Act.put, sA, sB, sC])
                    refine tkQ 62 (.int .i64 c.fl) hHeld (he := by intro w hSw; exact exec_cell 3 _ _ hSw.2.1 rfl rfl rfl Try.underlying3 rfl) (h := ?_)
                    (try simp only [Act.put, sA, sB, sC])
                    refine wpAnyH_ready (rs := [63]) (by kernel_rfl) (by simp) ?_
                    refine AllReadyH.cons (o := ?o19__63) ?h19__63 (fun K hK => ?_) AllReadyH.nil
                    case h19__63 => (first | (simp only [gA, gB, gC]; done) | (simp only [gA, gB, gC]; exact rfl))
                    (try go_simp)
                    refine (floorsV c.fl _).mono ?_
                    rintro e w' ⟨rfl, rfl⟩
                    (try go_wp2_with fail)
                    refine hK.out _ _ hHeld (fun hHeld2 => ?_)
                    clear hK K hHeld2
                    (try simp only [Act.put, sA, sB, sC])
                    refine tkQ 64 (.int .i64 (fl c.fl - 1)) hHeld (he := by intro w hSw; (have q1 := fl_lo c.fl; have q2 := fl_hi c.fl; go_simp; (first | done | (refine wrG _ ?_ ?_ <;> omega) | omega))) (h := ?_)
                    (try simp only [Act.put, sA, sB, sC])
                    refine tkQ 65 (.int .i64 (4 * (fl c.fl - 1))) hHeld (he := by intro w hSw; (have q1 := fl_lo c.fl; have q2 := fl_hi c.fl; go_simp; (first | done | (refine wrG _ ?_ ?_ <;> omega) | omega))) (h := ?_)
                    (try simp only [Act.put, sA, sB, sC])
                    refine tkQ 66 (.bool false) hHeld (he := by intro w hSw; (have q := HSAFE.out.2.2.2.2; go_simp; (first | done | omega))) (h := ?_)
                    (try simp only [Act.put, sA, sB, sC])
                    refine tkQ 67 (.bool false) hHeld (h := ?_)
                    (try simp only [Act.put, sA, sB, sC])
                    refine wpAnyH_done (by kernel_rfl) ?_ _
                    have HSd19v2 := Lib.hid hHeld.1
                    have HBCd19v2 := Lib.hid (hHeld.2.1)
                    have HBn7d19v2 := Lib.hid (hHeld.2.2.1)
                    have HFqd19v2 := Lib.hid (hHeld.2.2.2.1)
                    have HFad19v2 := Lib.hid (hHeld.2.2.2.2.1)
                    have HFbd19v2 := Lib.hid (hHeld.2.2.2.2.2)
                    clear hHeld HRK HKS HS157 HBC157 HBn7157 HFq157 HFa157 HFb157
                    go_upto_region 18 with fail
                    refine wp_region_lit ?_
                    refine tkL (.int .i64 (p : Int)) (h := ?_)
                    (try simp only [Act.put, sA, sB, sC])
                    refine wpList_q (by rfl) (.int .i64 ((p : Int) + 1)) ?he ?_
                    case he => (have q1 := HNL.out; have q2 := HH2.out.1.1; go_simp; (first | done | (refine wrG _ ?_ ?_ <;> omega) | omega))
                    (try simp only [Act.put, sA, sB, sC])
                    refine tkL (.int .i64 ((p : Int) + 1)) (h := ?_)
                    (try simp only [Act.put, sA, sB, sC])
                    refine wpList_nil ?_
                    go_wp2_with fail
                    refine Met.intro ?_
                    refine hJ3 _ _ _ ?less157 ⟨(p + 1), rfl, ⟨rfl, rfl, rfl, rfl, rfl, rfl, rfl, rfl, rfl, rfl, rfl, rfl, trivial⟩, Lib.hid ⟨by have := HNL.out; omega, HSd19v2.out, HBCd19v2.out, HBn7d19v2.out, HFqd19v2.out, HFad19v2.out, HFbd19v2.out⟩⟩
                    case less157 => exact (by have := HM3.out; have := HNL.out; omega)
                · have HMV := Lib.hid hcs; clear hcs
                  have HQ0 := Lib.hid (HSAFE.out.1 HMV.out)
                  go_upto_region 19 with fail
                  have HKS : Hid (KeepS (fun W : World => Since w W ∧ Blk W w.heap.size 23 (cfgA c) ∧ Blk W bn7 46 (opA (os i)) ∧ GO w.heap.size q1 (tickG H) Sq_1 W ∧ (W).ownsRow w.heap.size 30 15 (.slice (some ⟨ga, 0, none⟩) H.cars.length ca) H.cars.length (rowsOf carL H.cars) ∧ (W).ownsRow w.heap.size 30 15 (.slice (some ⟨gb, 0, none⟩) ((tickG H).cars.length) cb) ((tickG H).cars.length) (rowsOf carL (tickG H).cars)) wr) := Lib.hid ⟨fun W W' k ⟨h, h0, h1, h2, h3, h4⟩ => ⟨h.trans k, keep_blk k h0, keep_blk k h1, GO.keep k h2, keep_own k h3, keep_own k h4⟩, ⟨HS157.out, HBC157.out, HBn7157.out, HFq157.out, HFa157.out, HFb157.out⟩⟩
                  have HRK := Lib.hid HKS.out.1
                  refine wp_held HKS.out (by kernel_rfl) (fun hHeld => ?_)
                  refine tkQ 0 (.slice (some ⟨ga, 0, none⟩) H.cars.length ca) hHeld (h := ?_)
                  (try simp only [Act.put, sA, sB, sC])
                  refine tkQ 1 (.int .i64 (p : Int)) hHeld (h := ?_)
                  (try simp only [Act.put, sA, sB, sC])
                  refine tkQ 2 (.pointer (some ⟨ga, p * 15, none⟩)) hHeld (he := by intro w hSw; (rw [show p * 15 = 0 + p * 15 by omega]; exact exec_index (i := p) (s := 15) 37 30 _ _ rfl rfl rfl rfl HNL.out Try.underlying37 (by kernel_rfl))) (h := ?_)
                  (try simp only [Act.put, sA, sB, sC])
                  refine tkQ 3 (.pointer (some ⟨ga, p * 15 + 2, none⟩)) hHeld (h := ?_)
                  (try simp only [Act.put, sA, sB, sC])
                  refine tkQ 4 (.int .i64 x.un) hHeld (he := by intro w hSw; exact exec_at 3 _ _ (row_S carL_len hSw.2.2.2.2.1 HX.out 2 _ rfl) rfl rfl Try.underlying3 rfl) (h := ?_)
                  (try simp only [Act.put, sA, sB, sC])
                  refine tkQ 5 (.slice (some ⟨gb, 0, none⟩) (tickG H).cars.length cb) hHeld (h := ?_)
                  (try simp only [Act.put, sA, sB, sC])
                  refine tkQ 6 (.int .i64 (p : Int)) hHeld (h := ?_)
                  (try simp only [Act.put, sA, sB, sC])
                  refine tkQ 7 (.pointer (some ⟨gb, p * 15, none⟩)) hHeld (he := by intro w hSw; (rw [show p * 15 = 0 + p * 15 by omega]; exact exec_index (i := p) (s := 15) 37 30 _ _ rfl rfl rfl rfl (by rw [HLL.out]; exact HNL.out) Try.underlying37 (by kernel_rfl))) (h := ?_)
                  (try simp only [Act.put, sA, sB, sC])
                  refine tkQ 8 (.pointer (some ⟨gb, p * 15 + 2, none⟩)) hHeld (h := ?_)
                  (try simp only [Act.put, sA, sB, sC])
                  refine tkQ 9 (.int .i64 z.un) hHeld (he := by intro w hSw; exact exec_at 3 _ _ (row_S carL_len hSw.2.2.2.2.2 HZ.out 2 _ rfl) rfl rfl Try.underlying3 rfl) (h := ?_)
                  (try simp only [Act.put, sA, sB, sC])
                  refine tkQ 10 (.bool true) hHeld (he := by intro w hSw; (have q := HMV.out; go_simp; (first | done | exact q | (simp [q]; done)))) (h := ?_)
                  (try simp only [Act.put, sA, sB, sC])
                  refine tkQ 11 (.bool true) hHeld (h := ?_)
                  (try simp only [Act.put, sA, sB, sC])
                  refine tkQ 12 (.slice (some ⟨ga, 0, none⟩) H.cars.length ca) hHeld (h := ?_)
                  (try simp only [Act.put, sA, sB, sC])
                  refine tkQ 13 (.int .i64 (p : Int)) hHeld (h := ?_)
                  (try simp only [Act.put, sA, sB, sC])
                  refine tkQ 14 (.pointer (some ⟨ga, p * 15, none⟩)) hHeld (he := by intro w hSw; (rw [show p * 15 = 0 + p * 15 by omega]; exact exec_index (i := p) (s := 15) 37 30 _ _ rfl rfl rfl rfl HNL.out Try.underlying37 (by kernel_rfl))) (h := ?_)
                  (try simp only [Act.put, sA, sB, sC])
                  refine tkQ 15 (.pointer (some ⟨ga, p * 15, none⟩)) hHeld (h := ?_)
                  (try simp only [Act.put, sA, sB, sC])
                  refine tkQ 16 (.pointer (some ⟨ga, p * 15, none⟩)) hHeld (h := ?_)
                  (try simp only [Act.put, sA, sB, sC])
                  refine tkQ 17 (.int .i64 x.ds) hHeld (he := by intro w hSw; exact exec_at 3 _ _ (row_S carL_len hSw.2.2.2.2.1 HX.out 0 _ rfl) rfl rfl Try.underlying3 rfl) (h := ?_)
                  (try simp only [Act.put, sA, sB, sC])
                  refine tkQ 18 (.bool false) hHeld (he := by intro w hSw; (have q := HQ0.out.1; go_simp; (first | done | exact q | (simp [q]; done)))) (h := ?_)
                  (try simp only [Act.put, sA, sB, sC])
                  refine tkQ 19 (.bool false) hHeld (h := ?_)
                  (try simp only [Act.put, sA, sB, sC])
                  refine tkQ 20 (.slice (some ⟨gb, 0, none⟩) (tickG H).cars.length cb) hHeld (h := ?_)
                  (try simp only [Act.put, sA, sB, sC])
                  refine tkQ 21 (.int .i64 (p : Int)) hHeld (h := ?_)
                  (try simp only [Act.put, sA, sB, sC])
                  refine tkQ 22 (.pointer (some ⟨gb, p * 15, none⟩)) hHeld (he := by intro w hSw; (rw [show p * 15 = 0 + p * 15 by omega]; exact exec_index (i := p) (s := 15) 37 30 _ _ rfl rfl rfl rfl (by rw [HLL.out]; exact HNL.out) Try.underlying37 (by kernel_rfl))) (h := ?_)
                  (try simp only [Act.put, sA, sB, sC])
                  refine tkQ 23 (.pointer (some ⟨gb, p * 15, none⟩)) hHeld (h := ?_)
                  (try simp only [Act.put, sA, sB, sC])
                  refine tkQ 24 (.pointer (some ⟨gb, p * 15, none⟩)) hHeld (h := ?_)
                  (try simp only [Act.put, sA, sB, sC])
                  refine tkQ 25 (.int .i64 z.ds) hHeld (he := by intro w hSw; exact exec_at 3 _ _ (row_S carL_len hSw.2.2.2.2.2 HZ.out 0 _ rfl) rfl rfl Try.underlying3 rfl) (h := ?_)
                  (try simp only [Act.put, sA, sB, sC])
                  refine tkQ 26 (.bool false) hHeld (he := by intro w hSw; (have q := HQ0.out.2; go_simp; (first | done | exact q | (simp [q]; done)))) (h := ?_)
                  (try simp only [Act.put, sA, sB, sC])
                  refine tkQ 27 (.bool false) hHeld (h := ?_)
                  (try simp only [Act.put, sA, sB, sC])
                  refine tkQ 28 (.bool false) hHeld (h := ?_)
                  (try simp only [Act.put, sA, sB, sC])
                  refine tkQ 29 (.bool false) hHeld (h := ?_)
                  (try simp only [Act.put, sA, sB, sC])
                  refine tkQ 30 (.slice (some ⟨gb, 0, none⟩) (tickG H).cars.length cb) hHeld (h := ?_)
                  (try simp only [Act.put, sA, sB, sC])
                  refine tkQ 31 (.int .i64 (p : Int)) hHeld (h := ?_)
                  (try simp only [Act.put, sA, sB, sC])
                  refine tkQ 32 (.pointer (some ⟨gb, p * 15, none⟩)) hHeld (he := by intro w hSw; (rw [show p * 15 = 0 + p * 15 by omega]; exact exec_index (i := p) (s := 15) 37 30 _ _ rfl rfl rfl rfl (by rw [HLL.out]; exact HNL.out) Try.underlying37 (by kernel_rfl))) (h := ?_)
                  (try simp only [Act.put, sA, sB, sC])
                  refine tkQ 33 (.pointer (some ⟨gb, p * 15, none⟩)) hHeld (h := ?_)
                  (try simp only [Act.put, sA, sB, sC])
                  refine tkQ 34 (.pointer (some ⟨gb, p * 15, none⟩)) hHeld (h := ?_)
                  (try simp only [Act.put, sA, sB, sC])
                  refine tkQ 35 (.int .i64 z.ds) hHeld (he := by intro w hSw; exact exec_at 3 _ _ (row_S carL_len hSw.2.2.2.2.2 HZ.out 0 _ rfl) rfl rfl Try.underlying3 rfl) (h := ?_)
                  (try simp only [Act.put, sA, sB, sC])
                  refine tkQ 36 (.bool false) hHeld (he := by intro w hSw; (have q := HQ0.out.2; go_simp; (first | done | exact q | (simp [q]; done)))) (h := ?_)
                  (try simp only [Act.put, sA, sB, sC])
                  refine tkQ 37 (.bool false) hHeld (h := ?_)
                  (try simp only [Act.put, sA, sB, sC])
                  refine tkU 38 hHeld (h := ?_)
                  (try simp only [Act.put, sA, sB, sC])
                  refine tkU 39 hHeld (h := ?_)
                  (try simp only [Act.put, sA, sB, sC])
                  refine tkU 40 hHeld (h := ?_)
                  (try simp only [Act.put, sA, sB, sC])
                  refine tkU 41 hHeld (h := ?_)
                  (try simp only [Act.put, sA, sB, sC])
                  refine tkU 42 hHeld (h := ?_)
                  (try simp only [Act.put, sA, sB, sC])
                  refine tkU 43 hHeld (h := ?_)
                  (try simp only [Act.put, sA, sB, sC])
                  refine tkU 44 hHeld (h := ?_)
                  (try simp only [Act.put, sA, sB, sC])
                  refine tkQ 45 (.bool false) hHeld (h := ?_)
                  (try simp only [Act.put, sA, sB, sC])
                  refine tkQ 46 (.bool false) hHeld (h := ?_)
                  (try simp only [Act.put, sA, sB, sC])
                  refine tkQ 47 (.bool false) hHeld (h := ?_)
                  (try simp only [Act.put, sA, sB, sC])
                  refine tkQ 48 (.slice (some ⟨gb, 0, none⟩) (tickG H).cars.length cb) hHeld (h := ?_)
                  (try simp only [Act.put, sA, sB, sC])
                  refine tkQ 49 (.int .i64 (p : Int)) hHeld (h := ?_)
                  (try simp only [Act.put, sA, sB, sC])
                  refine tkQ 50 (.pointer (some ⟨gb, p * 15, none⟩)) hHeld (he := by intro w hSw; (rw [show p * 15 = 0 + p * 15 by omega]; exact exec_index (i := p) (s := 15) 37 30 _ _ rfl rfl rfl rfl (by rw [HLL.out]; exact HNL.out) Try.underlying37 (by kernel_rfl))) (h := ?_)
                  (try simp only [Act.put, sA, sB, sC])
                  refine tkQ 51 (.pointer (some ⟨gb, p * 15 + 2, none⟩)) hHeld (h := ?_)
                  (try simp only [Act.put, sA, sB, sC])
                  refine tkQ 52 (.int .i64 z.un) hHeld (he := by intro w hSw; exact exec_at 3 _ _ (row_S carL_len hSw.2.2.2.2.2 HZ.out 2 _ rfl) rfl rfl Try.underlying3 rfl) (h := ?_)
                  (try simp only [Act.put, sA, sB, sC])
                  refine tkQ 53 (.bool false) hHeld (he := by intro w hSw; (have q := HSAFE.out.2.2.1; go_simp; (first | done | omega))) (h := ?_)
                  (try simp only [Act.put, sA, sB, sC])
                  refine tkQ 54 (.bool false) hHeld (h := ?_)
                  (try simp only [Act.put, sA, sB, sC])
                  refine tkQ 55 (.bool false) hHeld (h := ?_)
                  (try simp only [Act.put, sA, sB, sC])
                  refine tkQ 56 (.slice (some ⟨gb, 0, none⟩) (tickG H).cars.length cb) hHeld (h := ?_)
                  (try simp only [Act.put, sA, sB, sC])
                  refine tkQ 57 (.int .i64 (p : Int)) hHeld (h := ?_)
                  (try simp only [Act.put, sA, sB, sC])
                  refine tkQ 58 (.pointer (some ⟨gb, p * 15, none⟩)) hHeld (he := by intro w hSw; (rw [show p * 15 = 0 + p * 15 by omega]; exact exec_index (i := p) (s := 15) 37 30 _ _ rfl rfl rfl rfl (by rw [HLL.out]; exact HNL.out) Try.underlying37 (by kernel_rfl))) (h := ?_)
                  (try simp only [Act.put, sA, sB, sC])
                  refine tkQ 59 (.pointer (some ⟨gb, p * 15 + 2, none⟩)) hHeld (h := ?_)
                  (try simp only [Act.put, sA, sB, sC])
                  refine tkQ 60 (.int .i64 z.un) hHeld (he := by intro w hSw; exact exec_at 3 _ _ (row_S carL_len hSw.2.2.2.2.2 HZ.out 2 _ rfl) rfl rfl Try.underlying3 rfl) (h := ?_)
                  (try simp only [Act.put, sA, sB, sC])
                  refine tkQ 61 (.pointer (some ⟨w.heap.size, 1, none⟩)) hHeld (h := ?_)
                  (try simp only [Act.put, sA, sB, sC])
                  refine tkQ 62 (.int .i64 c.fl) hHeld (he := by intro w hSw; exact exec_cell 3 _ _ hSw.2.1 rfl rfl rfl Try.underlying3 rfl) (h := ?_)
                  (try simp only [Act.put, sA, sB, sC])
                  refine wpAnyH_ready (rs := [63]) (by kernel_rfl) (by simp) ?_
                  refine AllReadyH.cons (o := ?o19__63) ?h19__63 (fun K hK => ?_) AllReadyH.nil
                  case h19__63 => (first | (simp only [gA, gB, gC]; done) | (simp only [gA, gB, gC]; exact rfl))
                  (try go_simp)
                  refine (floorsV c.fl _).mono ?_
                  rintro e w' ⟨rfl, rfl⟩
                  (try go_wp2_with fail)
                  refine hK.out _ _ hHeld (fun hHeld2 => ?_)
                  clear hK K hHeld2
                  (try simp only [Act.put, sA, sB, sC])
                  refine tkQ 64 (.int .i64 (fl c.fl - 1)) hHeld (he := by intro w hSw; (have q1 := fl_lo c.fl; have q2 := fl_hi c.fl; go_simp; (first | done | (refine wrG _ ?_ ?_ <;> omega) | omega))) (h := ?_)
                  (try simp only [Act.put, sA, sB, sC])
                  refine tkQ 65 (.int .i64 (4 * (fl c.fl - 1))) hHeld (he := by intro w hSw; (have q1 := fl_lo c.fl; have q2 := fl_hi c.fl; go_simp; (first | done | (refine wrG _ ?_ ?_ <;> omega) | omega))) (h := ?_)
                  (try simp only [Act.put, sA, sB, sC])
                  refine tkQ 66 (.bool false) hHeld (he := by intro w hSw; (have q := HSAFE.out.2.2.2.2; go_simp; (first | done | omega))) (h := ?_)
                  (try simp only [Act.put, sA, sB, sC])
                  refine tkQ 67 (.bool false) hHeld (h := ?_)
                  (try simp only [Act.put, sA, sB, sC])
                  refine wpAnyH_done (by kernel_rfl) ?_ _
                  have HSd19v3 := Lib.hid hHeld.1
                  have HBCd19v3 := Lib.hid (hHeld.2.1)
                  have HBn7d19v3 := Lib.hid (hHeld.2.2.1)
                  have HFqd19v3 := Lib.hid (hHeld.2.2.2.1)
                  have HFad19v3 := Lib.hid (hHeld.2.2.2.2.1)
                  have HFbd19v3 := Lib.hid (hHeld.2.2.2.2.2)
                  clear hHeld HRK HKS HS157 HBC157 HBn7157 HFq157 HFa157 HFb157
                  go_upto_region 18 with fail
                  refine wp_region_lit ?_
                  refine tkL (.int .i64 (p : Int)) (h := ?_)
                  (try simp only [Act.put, sA, sB, sC])
                  refine wpList_q (by rfl) (.int .i64 ((p : Int) + 1)) ?he ?_
                  case he => (have q1 := HNL.out; have q2 := HH2.out.1.1; go_simp; (first | done | (refine wrG _ ?_ ?_ <;> omega) | omega))
                  (try simp only [Act.put, sA, sB, sC])
                  refine tkL (.int .i64 ((p : Int) + 1)) (h := ?_)
                  (try simp only [Act.put, sA, sB, sC])
                  refine wpList_nil ?_
                  go_wp2_with fail
                  refine Met.intro ?_
                  refine hJ3 _ _ _ ?less157 ⟨(p + 1), rfl, ⟨rfl, rfl, rfl, rfl, rfl, rfl, rfl, rfl, rfl, rfl, rfl, rfl, trivial⟩, Lib.hid ⟨by have := HNL.out; omega, HSd19v3.out, HBCd19v3.out, HBn7d19v3.out, HFqd19v3.out, HFad19v3.out, HFbd19v3.out⟩⟩
                  case less157 => exact (by have := HM3.out; have := HNL.out; omega)
      · have HK9 := Lib.hid hcs; clear hcs
        go_upto_region 6 with fail
        refine wp_region_lit ?_
        refine tkL (.pointer (some ⟨bn7, 0, none⟩)) (h := ?_)
        (try simp only [Act.put, sA, sB, sC])
        refine wpList_q (by rfl) (.int .i64 ((os i).k)) ?he ?_
        case he => exact exec_cell 3 _ _ HBn754.out rfl rfl rfl Try.underlying3 rfl
        (try simp only [Act.put, sA, sB, sC])
        refine wpList_q (by rfl) (.bool true) ?he ?_
        case he => (have q := HK9.out; go_simp; (first | done | exact q | (simp [q]; done)))
        (try simp only [Act.put, sA, sB, sC])
        refine wpList_nil ?_
        go_upto_region 7 with fail
        refine wp_region_lit ?_
        refine tkL (.pointer (some ⟨q1, 0, none⟩)) (h := ?_)
        (try simp only [Act.put, sA, sB, sC])
        refine wpList_q (by rfl) (.agg (opA (os i))) ?he ?_
        case he => exact exec_load_row 46 _ _ HBn754.out rfl rfl Try.underlying46 rfl (by kernel_rfl)
        (try simp only [Act.put, sA, sB, sC])
        refine wpList_wp (by rfl) (fun K hK => ?_)
        (try go_simp)
        refine (doG (os i) w.heap.size q1 G R _ HFq_54.out HH.out.1.2.1 HH.out.2.2.2).mono ?_
        rintro e w55 ⟨rfl, Sq_2, hobj, hupd, hfar⟩
        (try go_wp2_with fail)
        refine hK.out _ _ ?_
        clear hK K
        (try simp only [Act.put, sA, sB, sC])
        have HS55 := Lib.hid (Since.upd HS54.out hupd (GO.low HFq_54.out))
        have HBC55 := Lib.hid (Upd.blk hupd HBC54.out HIC.out)
        have HIC_q_55 := Lib.hid (nin_next hfar HIC.out (Blk.lt HBC54.out))
        have HBn755 := Lib.hid (Upd.blk hupd HBn754.out HIn7_q.out)
        have HIn7_q_55 := Lib.hid (nin_next hfar HIn7_q.out (Blk.lt HBn754.out))
        have HFq55 := Lib.hid hobj
        clear hupd hobj hfar HS54 HBC54 HBn754 HFq_54
        refine wpList_nil ?_
        go_upto_region 4 with fail
        refine wp_region_lit ?_
        refine tkL (.int .i64 (i : Int)) (h := ?_)
        (try simp only [Act.put, sA, sB, sC])
        refine wpList_q (by rfl) (.int .i64 ((i : Int) + 1)) ?he ?_
        case he => (go_simp; (first | done | (refine wrG _ ?_ ?_ <;> (have q0 := HLT.out; have q1 := HI8.out; omega)) | (have q0 := HLT.out; have q1 := HI8.out; omega) | (have q0 := HLT.out; have q1 := HI8.out; split <;> omega) | (have q0 := HLT.out; have q1 := HI8.out; intro hh; omega)))
        (try simp only [Act.put, sA, sB, sC])
        refine tkL (.int .i64 ((i : Int) + 1)) (h := ?_)
        (try simp only [Act.put, sA, sB, sC])
        refine wpList_nil ?_
        go_wp2_with fail
        refine Met.intro ?_
        refine hJ1 _ _ _ ?less55 ⟨(i + 1), T, ((doR G (os i).k (os i).a (os i).b (os i).y).1), Sq_2, rfl, ⟨rfl, rfl, rfl, rfl, rfl, rfl, rfl, trivial⟩, Lib.hid ⟨by have := HI8.out; omega, by have := HT.out; omega, HGI.out.do_ _ _ _ _, HIC_q_55.out, HS55.out, HBC55.out, HFq55.out⟩⟩
        case less55 => exact (by have := HM.out; have := HI8.out; omega)
theorem safeF {H : Type} {enc : TypeId × Value → H} {x : DataW H × List MemPlace} (c : CfgV) (Ao : Option Addr) (on oc : Nat) (w : World) (hx : ∃ m, DataW.trod enc Try.prog w 0 (fun _ => true) true m 42 (Value.cells (.slice Ao on oc)).toList = some x) :
    Calls Try.prog 6 #[.agg (cfgA c), .slice Ao on oc] w fun e w' => e = .returned (.bool true) ∧ Since w w' := by
  obtain ⟨m, hm⟩ := hx
  obtain ⟨os, ho, hl⟩ := OV.open_ hm
  exact safeG c Ao on oc os w ho hl
end Go.Proofs.Ytpacieocmogjeaa.Gr
