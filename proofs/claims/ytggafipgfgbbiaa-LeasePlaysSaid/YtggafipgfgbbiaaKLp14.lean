/-
  What is wanted by the last of these texts, part 14.
  No condition.
-/
import Derived.Test.YtggafipgfgbbiaaProg
import Derived.Test.YtggafipgfgbbiaaKLp0
import Derived.Test.YtggafipgfgbbiaaKLp1
import Derived.Deep.CutBlock
import Derived.Test.YtggafipgfgbbiaaKLp10
import Derived.Test.YtggafipgfgbbiaaKLp12
import Derived.Test.YtggafipgfgbbiaaKLp13
namespace Go.Proofs.Ytggafipgfgbbiaa.Le
set_option linter.unusedVariables false
set_option linter.unusedSimpArgs false
open Go.RowKit Go.Proofs.Ytggafipgfgbbiaa.Ba Go.Proofs.Ytggafipgfgbbiaa.Mem Go.Proofs.Ytggafipgfgbbiaa.Ty
open Go.Proofs.Ytggafipgfgbbiaa.Ls (LV leaC)
open Go.Proofs.Ytggafipgfgbbiaa.Fl (mayB btw cnt)
set_option maxRecDepth 100000
attribute [local irreducible] Go.wpList
def cfgC (c : CfgV) : Array Value := #[.int .i64 c.ca, .int .i64 c.fl, .int .i64 c.ft, .int .i64 c.se, .int .i64 c.dr, .int .i64 c.dw, .int .i64 c.ho, .int .i64 c.re, .int .i64 c.yi, .int .i64 c.qu, .int .i64 c.qo, .int .i64 c.lo, .int .i64 c.sl, .int .i64 c.rt, .int .i64 c.cp, .int .i64 c.tr, .int .i64 c.de, .int .i64 c.wi]
theorem countW (lo : Nat) (A : Option Addr) (cap : Nat) (ls : List LeaseV) (f : Int) (w : World) (ho : w.ownsRow lo 56 10 (.slice A ls.length cap) ls.length (rowsOf leaC ls)) (hl : ls.length ≤ 10000) : Calls Try.prog 20 #[.slice A ls.length cap, .int .i64 f] w fun e w' => e = .returned (.int .i64 (cn ls f)) ∧ Since w w' := Fl.countR A ls.length cap _ f w (lv_own ho) (by omega)
theorem quotaW (c : CfgV) (w : World) : Calls Try.prog 18 #[.agg (cfgC c)] w fun e w' => e = .returned (.int .i64 (btw c.qo 1 8)) ∧ Since w w' := Fl.quotaR c w
theorem lgW (c : CfgV) (l : LeaseV) (b : Bool) (w : World) (hb : goodB c l = b) : Calls Try.prog 34 #[.agg (cfgC c), .agg #[.int .i64 l.se, .int .i64 l.fl, .int .i64 l.fm, .int .i64 l.to, .int .i64 l.ma, .int .i64 l.ca, .int .i64 l.ph, .int .i64 l.un, .int .i64 l.re, .int .i64 l.gr]] w fun e w' => e = .returned (.bool b) ∧ Since w w' := lgV c l b w hb
theorem newW (lo : Nat) (c : CfgV) (w : World) (hlo : lo ≤ w.heap.size) : Calls Try.prog 33 #[.agg (cfgC c)] w fun e w' => ∃ t, e = .returned (.pointer (some ⟨t, 0, none⟩)) ∧ TO lo t c [] [t] w' ∧ w.heap.size ≤ t ∧ Since w w' := newV lo c w hlo
theorem pS {s : Int} {x : LeaseV} (h : x.se = s) : isS s x = true := by simp [isS, h]
theorem pSn {s : Int} {x : LeaseV} (h : ¬ x.se = s) : isS s x = false := by simp [isS, h]
theorem pC {s : Int} {x : LeaseV} (h : x.ca = s) : isC s x = true := by simp [isC, h]
theorem pCn {s : Int} {x : LeaseV} (h : ¬ x.ca = s) : isC s x = false := by simp [isC, h]
theorem pT {l x : LeaseV} (h1 : x.se = l.se) (h2 : x.ca = l.ca) (h3 : x.fl = l.fl) : isT l x = true := isT_iff.2 ⟨h1, h2, h3⟩
theorem pTa {l x : LeaseV} (h : ¬ x.se = l.se) : isT l x = false := by cases e : isT l x; rfl; exact absurd (isT_iff.1 e).1 h
theorem pTb {l x : LeaseV} (h : ¬ x.ca = l.ca) : isT l x = false := by cases e : isT l x; rfl; exact absurd (isT_iff.1 e).2.1 h
theorem pTc {l x : LeaseV} (h : ¬ x.fl = l.fl) : isT l x = false := by cases e : isT l x; rfl; exact absurd (isT_iff.1 e).2.2 h
set_option maxHeartbeats 4000000 in
theorem plays (c : CfgV) (Ao : Option Addr) (on oc : Nat) (os : Nat → LopV) (w : World) (ho : Lops w Ao on os) (hol : on ≤ 9223372036854775807) : Calls Try.prog 8 #[.agg (cfgC c), .slice Ao on oc] w fun e w' => e = .returned (.bool true) ∧ Since w w' := by
 have HO := Lib.hid ho
 clear ho
 have HOL := Lib.hid hol
 clear hol
 go_enter Try.func8, Try.ntmps8
 go_upto_region 1 with fail
 obtain ⟨w1, hw1⟩ : ∃ w1, w1 = (w.alloc (.cells (cfgC c) 23)) := ⟨_, rfl⟩
 rw [← hw1]
 have HBC1 := Lib.hid (show Blk w1 (w.heap.size) 23 (cfgC c) by rw [hw1]; exact Blk.at_ (by (try simp only [size_alloc])) _ _)
 have HS1 := Lib.hid (show Since w w1 by rw [hw1]; exact Since.alloc (Since.refl w) _)
 have hNE : w.heap.size ≤ w.heap.size := by omega
 have HNE := Lib.hid hNE
 clear hNE hw1
 have HNE3 := Lib.hid (show w.heap.size ≤ w.heap.size from HNE.out)
 clear HNE
 refine wp_region_lit ?_
 refine wpList_q (by rfl) (.agg (cfgC c)) ?he ?_
 case he => exact exec_load_row 23 _ _ HBC1.out rfl rfl Try.underlying23 rfl (by kernel_rfl)
 (try simp only [Act.put, sA, sB, sC])
 refine wpList_wp (by rfl) (fun K hK => ?_)
 (try go_simp)
 refine (newW w.heap.size c _ (Since.size HS1.out)).mono ?_
 rintro e w2 ⟨t1, rfl, hT, hge, hb⟩
 (try go_wp2_with fail)
 refine hK.out _ _ ?_
 clear hK K
 (try simp only [Act.put, sA, sB, sC])
 have HINC := Lib.hid (show w.heap.size ∉ [t1] by have := Blk.lt HBC1.out; simp; omega)
 have HS2 := Lib.hid (Since.trans HS1.out hb)
 have HBC2 := Lib.hid (keep_blk hb HBC1.out)
 clear HS1 HBC1
 clear hb
 have HFt := Lib.hid hT
 clear hT hge
 refine tkL (.pointer (some ⟨t1, 0, none⟩)) (h := ?_)
 (try simp only [Act.put, sA, sB, sC])
 refine wpList_nil ?_
 go_upto_region 2 with fail
 refine wp_region_lit ?_
 refine tkL (.slice none 0 0) (h := ?_)
 (try simp only [Act.put, sA, sB, sC])
 refine wpList_nil ?_
 go_upto_region 3 with fail
 refine wp_region_lit ?_
 refine tkL (.int .i64 0) (h := ?_)
 (try simp only [Act.put, sA, sB, sC])
 refine wpList_nil ?_
 go_wp2_with fail
 have HL00 := Lib.hid (show (w2).ownsRow w.heap.size 56 10 (.slice none ([] : List LeaseV).length 0) ([] : List LeaseV).length (rowsOf leaC []) from World.ownsRow_nil _ _ _ _)
 refine wp_uloop (ds := []) (fun n fr wr => ∃ (i : Nat) (ls : List LeaseV) (St : List Nat) (Al : Option Addr) (cl : Nat), (200 - i) = n ∧ Fits fr 265 [(0, .agg (cfgC c)), (1, .slice Ao on oc), (2, .pointer (some ⟨w.heap.size, 0, none⟩)), (4, .bool false), (5, .pointer (some ⟨t1, 0, none⟩)), (6, .slice Al ls.length cl), (7, .int .i64 (i : Int))] ∧ Hid (i ≤ 200 ∧ ls.length ≤ i ∧ US ls ∧ QI c ls ∧ w.heap.size ∉ St ∧ (∀ g ∈ blkOf Al, g ∉ St) ∧ Since w wr ∧ Blk wr w.heap.size 23 (cfgC c) ∧ TO w.heap.size t1 c ls St wr ∧ (wr).ownsRow w.heap.size 56 10 (.slice Al ls.length cl) ls.length (rowsOf leaC ls))) (200) ?start2 ?round2
 case start2 => exact ⟨0, [], [t1], none, 0, rfl, ⟨rfl, rfl, rfl, rfl, rfl, rfl, rfl, rfl, trivial⟩, Lib.hid ⟨by decide, by decide, ⟨List.nodup_nil, List.nodup_nil⟩, QI.zero c, HINC.out, (fun g h => by simp [blkOf] at h), HS2.out, HBC2.out, HFt.out, HL00.out⟩⟩
 case round2 =>
  intro n fr wr hR J1 K1 hJ1 hK1
  clear HS2 HBC2 HFt HL00
  obtain ⟨i, ls, St, Al, cl, hn, hF, HO⟩ := hR
  have HM := Lib.hid hn; clear hn
  obtain ⟨e0, e1, e2, e3, e4, e5, g0, g1, g2, g3⟩ := HO.out
  clear HO
  have HI200 := Lib.hid e0
  have HLN := Lib.hid e1
  have HUS := Lib.hid e2
  have HQI := Lib.hid e3
  have HIC := Lib.hid e4
  have HDL := Lib.hid e5
  have HS52 := Lib.hid g0
  have HBC52 := Lib.hid g1
  have HFt52 := Lib.hid g2
  have HFl52 := Lib.hid g3
  clear e0 e1 e2 e3 e4 e5 g0 g1 g2 g3
  obtain ⟨u, hu⟩ := hF.open_
  have hu2 := hu.trans (show _ = #[.agg (cfgC c), .slice Ao on oc, .pointer (some ⟨w.heap.size, 0, none⟩), u 3, .bool false, .pointer (some ⟨t1, 0, none⟩), .slice Al ls.length cl, .int .i64 (i : Int), u 8, u 9, u 10, u 11, u 12, u 13, u 14, u 15, u 16, u 17, u 18, u 19, u 20, u 21, u 22, u 23, u 24, u 25, u 26, u 27, u 28, u 29, u 30, u 31, u 32, u 33, u 34, u 35, u 36, u 37, u 38, u 39, u 40, u 41, u 42, u 43, u 44, u 45, u 46, u 47, u 48, u 49, u 50, u 51, u 52, u 53, u 54, u 55, u 56, u 57, u 58, u 59, u 60, u 61, u 62, u 63, u 64, u 65, u 66, u 67, u 68, u 69, u 70, u 71, u 72, u 73, u 74, u 75, u 76, u 77, u 78, u 79, u 80, u 81, u 82, u 83, u 84, u 85, u 86, u 87, u 88, u 89, u 90, u 91, u 92, u 93, u 94, u 95, u 96, u 97, u 98, u 99, u 100, u 101, u 102, u 103, u 104, u 105, u 106, u 107, u 108, u 109, u 110, u 111, u 112, u 113, u 114, u 115, u 116, u 117, u 118, u 119, u 120, u 121, u 122, u 123, u 124, u 125, u 126, u 127, u 128, u 129, u 130, u 131, u 132, u 133, u 134, u 135, u 136, u 137, u 138, u 139, u 140, u 141, u 142, u 143, u 144, u 145, u 146, u 147, u 148, u 149, u 150, u 151, u 152, u 153, u 154, u 155, u 156, u 157, u 158, u 159, u 160, u 161, u 162, u 163, u 164, u 165, u 166, u 167, u 168, u 169, u 170, u 171, u 172, u 173, u 174, u 175, u 176, u 177, u 178, u 179, u 180, u 181, u 182, u 183, u 184, u 185, u 186, u 187, u 188, u 189, u 190, u 191, u 192, u 193, u 194, u 195, u 196, u 197, u 198, u 199, u 200, u 201, u 202, u 203, u 204, u 205, u 206, u 207, u 208, u 209, u 210, u 211, u 212, u 213, u 214, u 215, u 216, u 217, u 218, u 219, u 220, u 221, u 222, u 223, u 224, u 225, u 226, u 227, u 228, u 229, u 230, u 231, u 232, u 233, u 234, u 235, u 236, u 237, u 238, u 239, u 240, u 241, u 242, u 243, u 244, u 245, u 246, u 247, u 248, u 249, u 250, u 251, u 252, u 253, u 254, u 255, u 256, u 257, u 258, u 259, u 260, u 261, u 262, u 263, u 264] by kernel_rfl)
  clear hu hF
  subst hu2
  by_cases hcs : i < on
  rotate_left
  · have HLT := Lib.hid hcs; clear hcs
    go_upto_region 4 with fail
    refine wp_region_lit ?_
    refine tkL (.int .i64 (i : Int)) (h := ?_)
    (try simp only [Act.put, sA, sB, sC])
    refine tkL (.slice Ao on oc) (h := ?_)
    (try simp only [Act.put, sA, sB, sC])
    refine tkL (.int .i64 (on : Int)) (h := ?_)
    (try simp only [Act.put, sA, sB, sC])
    refine wpList_q (by rfl) (.bool false) ?he ?_
    case he => (have q0 := HLT.out; go_simp; (first | done | rfl | omega))
    (try simp only [Act.put, sA, sB, sC])
    refine tkL (.bool false) (h := ?_)
    (try simp only [Act.put, sA, sB, sC])
    refine wpList_no (by rfl) ?_
    (try simp only [Act.put, sA, sB, sC])
    refine wpList_no (by rfl) ?_
    (try simp only [Act.put, sA, sB, sC])
    refine tkL (.bool false) (h := ?_)
    (try simp only [Act.put, sA, sB, sC])
    refine wpList_nil ?_
    go_upto_region 54 with fail
    refine wp_region_lit ?_
    refine wpList_wp (by rfl) (fun K hK => ?_)
    (try go_simp)
    refine (ans _).mono ?_
    rintro e w53 ⟨rfl, hb⟩
    (try go_wp2_with fail)
    refine hK.out _ _ ?_
    clear hK K
    (try simp only [Act.put, sA, sB, sC])
    have HS53 := Lib.hid (Since.trans HS52.out hb)
    have HBC53 := Lib.hid (keep_blk hb HBC52.out)
    have HFt53 := Lib.hid (TO.keep hb HFt52.out)
    have HFl53 := Lib.hid (keep_own hb HFl52.out)
    clear HS52 HBC52 HFt52 HFl52
    clear hb
    refine tkL (.bool true) (h := ?_)
    (try simp only [Act.put, sA, sB, sC])
    refine wpList_nil ?_
    (try go_wp2_with fail)
    go_ret
    exact ⟨rfl, HS53.out⟩
  · have HLT := Lib.hid hcs; clear hcs
    by_cases hcs : i < 200
    rotate_left
    · have HI8 := Lib.hid hcs; clear hcs
      go_upto_region 4 with fail
      refine wp_region_lit ?_
      refine tkL (.int .i64 (i : Int)) (h := ?_)
      (try simp only [Act.put, sA, sB, sC])
      refine tkL (.slice Ao on oc) (h := ?_)
      (try simp only [Act.put, sA, sB, sC])
      refine tkL (.int .i64 (on : Int)) (h := ?_)
      (try simp only [Act.put, sA, sB, sC])
      refine wpList_q (by rfl) (.bool true) ?he ?_
      case he => (have q0 := HLT.out; go_simp; (first | done | rfl | omega))
      (try simp only [Act.put, sA, sB, sC])
      refine tkL (.bool true) (h := ?_)
      (try simp only [Act.put, sA, sB, sC])
      refine tkL (.int .i64 (i : Int)) (h := ?_)
      (try simp only [Act.put, sA, sB, sC])
      refine wpList_q (by rfl) (.bool false) ?he ?_
      case he => (have q0 := HI8.out; go_simp; (first | done | rfl | omega))
      (try simp only [Act.put, sA, sB, sC])
      refine tkL (.bool false) (h := ?_)
      (try simp only [Act.put, sA, sB, sC])
      refine wpList_nil ?_
      go_upto_region 54 with fail
      refine wp_region_lit ?_
      refine wpList_wp (by rfl) (fun K hK => ?_)
      (try go_simp)
      refine (ans _).mono ?_
      rintro e w53 ⟨rfl, hb⟩
      (try go_wp2_with fail)
      refine hK.out _ _ ?_
      clear hK K
      (try simp only [Act.put, sA, sB, sC])
      have HS53 := Lib.hid (Since.trans HS52.out hb)
      have HBC53 := Lib.hid (keep_blk hb HBC52.out)
      have HFt53 := Lib.hid (TO.keep hb HFt52.out)
      have HFl53 := Lib.hid (keep_own hb HFl52.out)
      clear HS52 HBC52 HFt52 HFl52
      clear hb
      refine tkL (.bool true) (h := ?_)
      (try simp only [Act.put, sA, sB, sC])
      refine wpList_nil ?_
      (try go_wp2_with fail)
      go_ret
      exact ⟨rfl, HS53.out⟩
    · have HI8 := Lib.hid hcs; clear hcs
      go_upto_region 4 with fail
      refine wp_region_lit ?_
      refine tkL (.int .i64 (i : Int)) (h := ?_)
      (try simp only [Act.put, sA, sB, sC])
      refine tkL (.slice Ao on oc) (h := ?_)
      (try simp only [Act.put, sA, sB, sC])
      refine tkL (.int .i64 (on : Int)) (h := ?_)
      (try simp only [Act.put, sA, sB, sC])
      refine wpList_q (by rfl) (.bool true) ?he ?_
      case he => (have q0 := HLT.out; go_simp; (first | done | rfl | omega))
      (try simp only [Act.put, sA, sB, sC])
      refine tkL (.bool true) (h := ?_)
      (try simp only [Act.put, sA, sB, sC])
      refine tkL (.int .i64 (i : Int)) (h := ?_)
      (try simp only [Act.put, sA, sB, sC])
      refine wpList_q (by rfl) (.bool true) ?he ?_
      case he => (have q0 := HI8.out; go_simp; (first | done | rfl | omega))
      (try simp only [Act.put, sA, sB, sC])
      refine tkL (.bool true) (h := ?_)
      (try simp only [Act.put, sA, sB, sC])
      refine wpList_nil ?_
      obtain ⟨go, oo, hA, hbo, hco⟩ := Lops.at_ HO.out HLT.out
      have HCO := Lib.hid (hco i HLT.out); clear hco hbo
      subst hA
      have HLB := Lib.hid (show ls.length ≤ 200 by have := HLN.out; have := HI200.out; omega)
      have HIlC := Lib.hid (own_ne_ty HFl52.out HBC52.out (by decide))
      go_upto_region 6 with fail
      refine wp_region_lit ?_
      refine tkL (.slice (some ⟨go, oo, none⟩) on oc) (h := ?_)
      (try simp only [Act.put, sA, sB, sC])
      refine tkL (.int .i64 (i : Int)) (h := ?_)
      (try simp only [Act.put, sA, sB, sC])
      refine wpList_q (by rfl) (.pointer (some ⟨go, oo + i * 11, none⟩)) ?he ?_
      case he => exact exec_index (i := i) (s := 11) 52 58 _ _ rfl rfl rfl rfl HLT.out Try.underlying52 (by kernel_rfl)
      (try simp only [Act.put, sA, sB, sC])
      refine tkL (.pointer (some ⟨go, oo + i * 11 + 1, none⟩)) (h := ?_)
      (try simp only [Act.put, sA, sB, sC])
      refine wpList_q (by rfl) (.agg #[.int .i64 ((os i).l.se), .int .i64 ((os i).l.fl), .int .i64 ((os i).l.fm), .int .i64 ((os i).l.to), .int .i64 ((os i).l.ma), .int .i64 ((os i).l.ca), .int .i64 ((os i).l.ph), .int .i64 ((os i).l.un), .int .i64 ((os i).l.re), .int .i64 ((os i).l.gr)]) ?he ?_
      case he => exact exec_rng (l := leaC (os i).l) 56 _ _ (fun j v hj => by rw [Nat.add_assoc _ 1 j]; exact keep_cell HS52.out (HCO.out (1 + j) v (by rw [Nat.add_comm]; exact hj))) rfl rfl Try.underlying56 rfl (by kernel_rfl)
      (try simp only [Act.put, sA, sB, sC])
      refine wpList_wp (by rfl) (fun K hK => ?_)
      refine wp_new (fun b => .pointer (some ⟨b, 0, none⟩)) 56 #[.int .i64 0, .int .i64 0, .int .i64 0, .int .i64 0, .int .i64 0, .int .i64 0, .int .i64 0, .int .i64 0, .int .i64 0, .int .i64 0] (by rintro b rfl; first | rfl | kernel_rfl) ?_
      intro bn8 w53 hge hB hb
      refine hK.out _ _ ?_
      clear hK K
      (try simp only [Act.put, sA, sB, sC])
      have HNn8C := Lib.hid (show bn8 ≠ w.heap.size by have := Blk.lt HBC52.out; omega)
      have HGn8 := Lib.hid (show w.heap.size ≤ bn8 by have := Since.size HS52.out; omega)
      have HIn8_t := Lib.hid (TO.far HFt52.out hge)
      have HIn8_l := Lib.hid (own_far HFl52.out hge)
      have HS53 := Lib.hid (Since.trans HS52.out hb)
      have HBC53 := Lib.hid (keep_blk hb HBC52.out)
      have HFt53 := Lib.hid (TO.keep hb HFt52.out)
      have HFl53 := Lib.hid (keep_own hb HFl52.out)
      clear HS52 HBC52 HFt52 HFl52
      clear hb hge
      have HBn853 := Lib.hid hB
      clear hB
      refine wpList_wp (by rfl) (fun K hK => ?_)
      refine wp_st_row 56 _ _ rfl #[.int .i64 ((os i).l.se), .int .i64 ((os i).l.fl), .int .i64 ((os i).l.fm), .int .i64 ((os i).l.to), .int .i64 ((os i).l.ma), .int .i64 ((os i).l.ca), .int .i64 ((os i).l.ph), .int .i64 ((os i).l.un), .int .i64 ((os i).l.re), .int .i64 ((os i).l.gr)] rfl rfl (HasRow.of HBn853.out rfl) rfl (by simp [cfgC, Value.oneCell']) (by kernel_rfl) ?_
      intro w54 hw
      refine hK.out _ _ ?_
      clear hK K
      (try simp only [Act.put, sA, sB, sC])
      have HS54 := Lib.hid (show Since w w54 by rw [hw]; exact Since.setRow HS53.out HGn8.out _)
      have HBC54 := Lib.hid (show Blk w54 w.heap.size 23 (cfgC c) by rw [hw]; exact Blk.row_far HBC53.out (Ne.symm HNn8C.out) _)
      have HBn854 := Lib.hid (show Blk w54 bn8 56 #[.int .i64 ((os i).l.se), .int .i64 ((os i).l.fl), .int .i64 ((os i).l.fm), .int .i64 ((os i).l.to), .int .i64 ((os i).l.ma), .int .i64 ((os i).l.ca), .int .i64 ((os i).l.ph), .int .i64 ((os i).l.un), .int .i64 ((os i).l.re), .int .i64 ((os i).l.gr)] by rw [hw]; exact Blk.row HBn853.out _)
      have HFt_54 := Lib.hid (show TO w.heap.size t1 c ls St w54 by rw [hw]; exact TO.row_far HFt53.out HIn8_t.out _)
      have HFl_54 := Lib.hid (show (w54).ownsRow w.heap.size 56 10 (.slice Al ls.length cl) ls.length (rowsOf leaC ls) by rw [hw]; exact own_row_far HFl53.out HIn8_l.out _)
      clear hw HS53 HBC53 HBn853 HFt53 HFl53
      refine wpList_nil ?_
      go_upto_region 7 with fail
      refine wp_region_lit ?_
      refine tkL (.int .i64 (-1)) (h := ?_)
      (try simp only [Act.put, sA, sB, sC])
      refine tkL (.int .i64 (-1)) (h := ?_)
      (try simp only [Act.put, sA, sB, sC])
      refine tkL (.int .i64 (-1)) (h := ?_)
      (try simp only [Act.put, sA, sB, sC])
      refine wpList_nil ?_
      go_upto_region 8 with fail
      refine wp_region_lit ?_
      refine tkL (.int .i64 0) (h := ?_)
      (try simp only [Act.put, sA, sB, sC])
      refine wpList_nil ?_
      go_wp2_with fail
      refine wp_uloop (ds := []) (fun n fr wr => ∃ k : Nat, (ls.length - k) = n ∧ Fits fr 265 [(0, .agg (cfgC c)), (1, .slice (some ⟨go, oo, none⟩) on oc), (2, .pointer (some ⟨w.heap.size, 0, none⟩)), (4, .bool false), (5, .pointer (some ⟨t1, 0, none⟩)), (6, .slice Al ls.length cl), (7, .int .i64 (i : Int)), (8, .pointer (some ⟨bn8, 0, none⟩)), (9, .int .i64 (lastP ls (isS (os i).l.se) k)), (10, .int .i64 (lastP ls (isC (os i).l.ca) k)), (11, .int .i64 (lastP ls (isT (os i).l) k)), (12, .int .i64 (k : Int))] ∧ Hid (k ≤ ls.length ∧ Since w wr ∧ Blk wr w.heap.size 23 (cfgC c) ∧ Blk wr bn8 56 #[.int .i64 ((os i).l.se), .int .i64 ((os i).l.fl), .int .i64 ((os i).l.fm), .int .i64 ((os i).l.to), .int .i64 ((os i).l.ma), .int .i64 ((os i).l.ca), .int .i64 ((os i).l.ph), .int .i64 ((os i).l.un), .int .i64 ((os i).l.re), .int .i64 ((os i).l.gr)] ∧ TO w.heap.size t1 c ls St wr ∧ (wr).ownsRow w.heap.size 56 10 (.slice Al ls.length cl) ls.length (rowsOf leaC ls))) (ls.length - 0) ?start54 ?round54
      case start54 => exact ⟨0, rfl, ⟨rfl, rfl, rfl, rfl, rfl, rfl, rfl, rfl, rfl, rfl, rfl, rfl, rfl, trivial⟩, Lib.hid ⟨Nat.zero_le _, HS54.out, HBC54.out, HBn854.out, HFt_54.out, HFl_54.out⟩⟩
      case round54 =>
       intro n fr wr hR J2 K2 hJ2 hK2
       clear HS54 HBC54 HBn854 HFt_54 HFl_54
       obtain ⟨k, hn, hF, HO⟩ := hR
       have HMk := Lib.hid hn; clear hn
       obtain ⟨e0, g0, g1, g2, g3, g4⟩ := HO.out
       clear HO
       have HKk := Lib.hid e0
       have HS104 := Lib.hid g0
       have HBC104 := Lib.hid g1
       have HBn8104 := Lib.hid g2
       have HFt104 := Lib.hid g3
       have HFl104 := Lib.hid g4
       clear e0 g0 g1 g2 g3 g4
       obtain ⟨u, hu⟩ := hF.open_
       have hu2 := hu.trans (show _ = #[.agg (cfgC c), .slice (some ⟨go, oo, none⟩) on oc, .pointer (some ⟨w.heap.size, 0, none⟩), u 3, .bool false, .pointer (some ⟨t1, 0, none⟩), .slice Al ls.length cl, .int .i64 (i : Int), .pointer (some ⟨bn8, 0, none⟩), .int .i64 (lastP ls (isS (os i).l.se) k), .int .i64 (lastP ls (isC (os i).l.ca) k), .int .i64 (lastP ls (isT (os i).l) k), .int .i64 (k : Int), u 13, u 14, u 15, u 16, u 17, u 18, u 19, u 20, u 21, u 22, u 23, u 24, u 25, u 26, u 27, u 28, u 29, u 30, u 31, u 32, u 33, u 34, u 35, u 36, u 37, u 38, u 39, u 40, u 41, u 42, u 43, u 44, u 45, u 46, u 47, u 48, u 49, u 50, u 51, u 52, u 53, u 54, u 55, u 56, u 57, u 58, u 59, u 60, u 61, u 62, u 63, u 64, u 65, u 66, u 67, u 68, u 69, u 70, u 71, u 72, u 73, u 74, u 75, u 76, u 77, u 78, u 79, u 80, u 81, u 82, u 83, u 84, u 85, u 86, u 87, u 88, u 89, u 90, u 91, u 92, u 93, u 94, u 95, u 96, u 97, u 98, u 99, u 100, u 101, u 102, u 103, u 104, u 105, u 106, u 107, u 108, u 109, u 110, u 111, u 112, u 113, u 114, u 115, u 116, u 117, u 118, u 119, u 120, u 121, u 122, u 123, u 124, u 125, u 126, u 127, u 128, u 129, u 130, u 131, u 132, u 133, u 134, u 135, u 136, u 137, u 138, u 139, u 140, u 141, u 142, u 143, u 144, u 145, u 146, u 147, u 148, u 149, u 150, u 151, u 152, u 153, u 154, u 155, u 156, u 157, u 158, u 159, u 160, u 161, u 162, u 163, u 164, u 165, u 166, u 167, u 168, u 169, u 170, u 171, u 172, u 173, u 174, u 175, u 176, u 177, u 178, u 179, u 180, u 181, u 182, u 183, u 184, u 185, u 186, u 187, u 188, u 189, u 190, u 191, u 192, u 193, u 194, u 195, u 196, u 197, u 198, u 199, u 200, u 201, u 202, u 203, u 204, u 205, u 206, u 207, u 208, u 209, u 210, u 211, u 212, u 213, u 214, u 215, u 216, u 217, u 218, u 219, u 220, u 221, u 222, u 223, u 224, u 225, u 226, u 227, u 228, u 229, u 230, u 231, u 232, u 233, u 234, u 235, u 236, u 237, u 238, u 239, u 240, u 241, u 242, u 243, u 244, u 245, u 246, u 247, u 248, u 249, u 250, u 251, u 252, u 253, u 254, u 255, u 256, u 257, u 258, u 259, u 260, u 261, u 262, u 263, u 264] by kernel_rfl)
       clear hu hF
       subst hu2
       by_cases hcs : k < ls.length
       rotate_left
       · have HKL := Lib.hid hcs; clear hcs
         go_upto_region 9 with fail
         refine wp_region_lit ?_
         refine tkL (.int .i64 (k : Int)) (h := ?_)
         (try simp only [Act.put, sA, sB, sC])
         refine tkL (.slice Al ls.length cl) (h := ?_)
         (try simp only [Act.put, sA, sB, sC])
         refine tkL (.int .i64 (ls.length : Int)) (h := ?_)
         (try simp only [Act.put, sA, sB, sC])
         refine wpList_q (by rfl) (.bool false) ?he ?_
         case he => (have q0 := HKL.out; go_simp; (first | done | rfl | omega))
         (try simp only [Act.put, sA, sB, sC])
         refine wpList_nil ?_
         have ek : k = ls.length := by have := HKL.out; have := HKk.out; omega
         subst ek
         rw [last_all (one_S HUS.out (os i).l.se), last_all (one_C HUS.out (os i).l.ca), last_all (one_T HUS.out (os i).l)]
         go_upto_region 17 with fail
         refine wp_region_lit ?_
         refine tkL (.slice (some ⟨go, oo, none⟩) on oc) (h := ?_)
         (try simp only [Act.put, sA, sB, sC])
         refine tkL (.int .i64 (i : Int)) (h := ?_)
         (try simp only [Act.put, sA, sB, sC])
         refine wpList_q (by rfl) (.pointer (some ⟨go, oo + i * 11, none⟩)) ?he ?_
         case he => exact exec_index (i := i) (s := 11) 52 58 _ _ rfl rfl rfl rfl HLT.out Try.underlying52 (by kernel_rfl)
         (try simp only [Act.put, sA, sB, sC])
         refine tkL (.pointer (some ⟨go, oo + i * 11, none⟩)) (h := ?_)
         (try simp only [Act.put, sA, sB, sC])
         refine wpList_q (by rfl) (.int .i64 ((os i).k)) ?he ?_
         case he => exact exec_at 3 _ _ (keep_cell HS104.out (HCO.out 0 _ rfl)) rfl rfl Try.underlying3 rfl
         (try simp only [Act.put, sA, sB, sC])
         refine wpList_nil ?_
         go_upto_block 4 with fail
         refine wp_ucut (ds := []) (fun fr wx => ∃ (ls2 : List LeaseV) (S2 : List Nat) (A2 : Option Addr) (c2 : Nat), Fits fr 265 [(0, .agg (cfgC c)), (1, .slice (some ⟨go, oo, none⟩) on oc), (2, .pointer (some ⟨w.heap.size, 0, none⟩)), (4, .bool false), (5, .pointer (some ⟨t1, 0, none⟩)), (6, .slice A2 ls2.length c2), (7, .int .i64 (i : Int)), (102, .int .i64 ((os i).k))] ∧ Hid (ls2.length ≤ i + 1 ∧ US ls2 ∧ QI c ls2 ∧ w.heap.size ∉ S2 ∧ (∀ g ∈ blkOf A2, g ∉ S2) ∧ Since w wx ∧ Blk wx w.heap.size 23 (cfgC c) ∧ TO w.heap.size t1 c ls2 S2 wx ∧ (wx).ownsRow w.heap.size 56 10 (.slice A2 ls2.length c2) ls2.length (rowsOf leaC ls2))) ?rest3 ?first3
         case first3 =>
          intro J3 K3 hJ3 hK3
          by_cases hcs : (os i).k = 1
          rotate_left
          · have HK1 := Lib.hid hcs; clear hcs
            by_cases hcs : (os i).k = 2
            rotate_left
            · have HK2 := Lib.hid hcs; clear hcs
              by_cases hcs : (os i).k = 3
              rotate_left
              · have HK3 := Lib.hid hcs; clear hcs
                go_upto_region 18 with fail
                refine wp_region_lit ?_
                refine wpList_q (by rfl) (.bool false) ?he ?_
                case he => (have q := HK1.out; go_simp; (first | done | exact q | (simp [q]; done)))
                (try simp only [Act.put, sA, sB, sC])
                refine tkL (.bool false) (h := ?_)
                (try simp only [Act.put, sA, sB, sC])
                refine wpList_nil ?_
                go_upto_region 29 with fail
                refine wp_region_lit ?_
                refine wpList_q (by rfl) (.bool false) ?he ?_
                case he => (have q := HK2.out; go_simp; (first | done | exact q | (simp [q]; done)))
                (try simp only [Act.put, sA, sB, sC])
                refine tkL (.bool false) (h := ?_)
                (try simp only [Act.put, sA, sB, sC])
                refine wpList_nil ?_
                go_upto_region 39 with fail
                refine wp_region_lit ?_
                refine wpList_q (by rfl) (.bool false) ?he ?_
                case he => (have q := HK3.out; go_simp; (first | done | exact q | (simp [q]; done)))
                (try simp only [Act.put, sA, sB, sC])
                refine tkL (.bool false) (h := ?_)
                (try simp only [Act.put, sA, sB, sC])
                refine wpList_nil ?_
                go_wp2_with fail
                refine Met.intro ?_
                exact hJ3 _ _ ⟨ls, St, Al, cl, ⟨rfl, rfl, rfl, rfl, rfl, rfl, rfl, rfl, rfl, trivial⟩, Lib.hid ⟨(by have := HLN.out; omega), HUS.out, HQI.out, HIC.out, HDL.out, HS104.out, HBC104.out, HFt104.out, HFl104.out⟩⟩
              · have HK3 := Lib.hid hcs; clear hcs
                go_upto_region 18 with fail
                refine wp_region_lit ?_
                refine wpList_q (by rfl) (.bool false) ?he ?_
                case he => (have q := HK1.out; go_simp; (first | done | exact q | (simp [q]; done)))
                (try simp only [Act.put, sA, sB, sC])
                refine tkL (.bool false) (h := ?_)
                (try simp only [Act.put, sA, sB, sC])
                refine wpList_nil ?_
                go_upto_region 29 with fail
                refine wp_region_lit ?_
                refine wpList_q (by rfl) (.bool false) ?he ?_
                case he => (have q := HK2.out; go_simp; (first | done | exact q | (simp [q]; done)))
                (try simp only [Act.put, sA, sB, sC])
                refine tkL (.bool false) (h := ?_)
                (try simp only [Act.put, sA, sB, sC])
                refine wpList_nil ?_
                go_upto_region 39 with fail
                refine wp_region_lit ?_
                refine wpList_q (by rfl) (.bool true) ?he ?_
                case he => (have q := HK3.out; go_simp; (first | done | exact q | (simp [q]; done)))
                (try simp only [Act.put, sA, sB, sC])
                refine tkL (.bool true) (h := ?_)
                (try simp only [Act.put, sA, sB, sC])
                refine wpList_nil ?_
                cases hat : atP ls (isS (os i).l.se) with
                | some j =>
                 have HAS := Lib.hid hat; have HJ := Lib.hid (atP_some hat).1; clear hat
                 rw [show oI (some j) = (j : Int) from rfl]
                 obtain ⟨x, hx⟩ : ∃ x, ls[j]? = some x := ⟨_, List.getElem?_eq_getElem HJ.out⟩
                 have HX := Lib.hid hx; clear hx
                 go_upto_region 40 with fail
                 refine wp_region_lit ?_
                 refine tkL (.pointer (some ⟨t1, 0, none⟩)) (h := ?_)
                 (try simp only [Act.put, sA, sB, sC])
                 refine tkL (.pointer (some ⟨bn8, 0, none⟩)) (h := ?_)
                 (try simp only [Act.put, sA, sB, sC])
                 refine tkL (.pointer (some ⟨bn8, 0, none⟩)) (h := ?_)
                 (try simp only [Act.put, sA, sB, sC])
                 refine wpList_q (by rfl) (.int .i64 ((os i).l.se)) ?he ?_
                 case he => exact exec_cell 3 _ _ HBn8104.out rfl rfl rfl Try.underlying3 rfl
                 (try simp only [Act.put, sA, sB, sC])
                 refine wpList_wp (by rfl) (fun K hK => ?_)
                 (try go_simp)
                 refine (endV1 w.heap.size t1 c ls St (os i).l.se j x _ HFt104.out (by have := HLB.out; omega) HAS.out HX.out).mono ?_
                 rintro e w105 ⟨St_1, rfl, hobj, hupd, hfar⟩
                 (try go_wp2_with fail)
                 refine hK.out _ _ ?_
                 clear hK K
                 (try simp only [Act.put, sA, sB, sC])
                 have HS105 := Lib.hid (Since.upd HS104.out hupd (TO.low HFt104.out))
                 have HBC105 := Lib.hid (Upd.blk hupd HBC104.out HIC.out)
                 have HIC_t_105 := Lib.hid (nin_next hfar HIC.out (Blk.lt HBC104.out))
                 have HBn8105 := Lib.hid (Upd.blk hupd HBn8104.out HIn8_t.out)
                 have HIn8_t_105 := Lib.hid (nin_next hfar HIn8_t.out (Blk.lt HBn8104.out))
                 have HFl105 := Lib.hid (Upd.own hupd HFl104.out HDL.out)
                 have HDDl_t_105 := Lib.hid (dis_next hfar HDL.out (own_lt HFl104.out))
                 have HFt105 := Lib.hid hobj
                 clear hupd hobj hfar HS104 HBC104 HBn8104 HFt104 HFl104
                 refine tkL (.tuple #[.agg #[.int .i64 x.se, .int .i64 x.fl, .int .i64 x.fm, .int .i64 x.to, .int .i64 x.ma, .int .i64 x.ca, .int .i64 x.ph, .int .i64 x.un, .int .i64 x.re, .int .i64 x.gr], .bool true]) (h := ?_)
                 (try simp only [Act.put, sA, sB, sC])
                 refine tkL (.agg #[.int .i64 x.se, .int .i64 x.fl, .int .i64 x.fm, .int .i64 x.to, .int .i64 x.ma, .int .i64 x.ca, .int .i64 x.ph, .int .i64 x.un, .int .i64 x.re, .int .i64 x.gr]) (h := ?_)
                 (try simp only [Act.put, sA, sB, sC])
                 refine tkL (.bool true) (h := ?_)
                 (try simp only [Act.put, sA, sB, sC])
                 refine wpList_wp (by rfl) (fun K hK => ?_)
                 refine wp_new (fun b => .pointer (some ⟨b, 0, none⟩)) 56 #[.int .i64 0, .int .i64 0, .int .i64 0, .int .i64 0, .int .i64 0, .int .i64 0, .int .i64 0, .int .i64 0, .int .i64 0, .int .i64 0] (by rintro b rfl; first | rfl | kernel_rfl) ?_
                 intro bn15 w106 hge hB hb
                 refine hK.out _ _ ?_
                 clear hK K
                 (try simp only [Act.put, sA, sB, sC])
                 have HNn15C := Lib.hid (show bn15 ≠ w.heap.size by have := Blk.lt HBC105.out; omega)
                 have HNn15n8 := Lib.hid (show bn15 ≠ bn8 by have := Blk.lt HBn8105.out; omega)
                 have HGn15 := Lib.hid (show w.heap.size ≤ bn15 by have := Since.size HS105.out; omega)
                 have HIn15_t := Lib.hid (TO.far HFt105.out hge)
                 have HIn15_l := Lib.hid (own_far HFl105.out hge)
                 have HS106 := Lib.hid (Since.trans HS105.out hb)
                 have HBC106 := Lib.hid (keep_blk hb HBC105.out)
                 have HBn8106 := Lib.hid (keep_blk hb HBn8105.out)
                 have HFt106 := Lib.hid (TO.keep hb HFt105.out)
                 have HFl106 := Lib.hid (keep_own hb HFl105.out)
                 clear HS105 HBC105 HBn8105 HFt105 HFl105
                 clear hb hge
                 have HBn15106 := Lib.hid hB
                 clear hB
                 refine wpList_wp (by rfl) (fun K hK => ?_)
                 refine wp_st_row 56 _ _ rfl #[.int .i64 x.se, .int .i64 x.fl, .int .i64 x.fm, .int .i64 x.to, .int .i64 x.ma, .int .i64 x.ca, .int .i64 x.ph, .int .i64 x.un, .int .i64 x.re, .int .i64 x.gr] rfl rfl (HasRow.of HBn15106.out rfl) rfl (by simp [cfgC, Value.oneCell']) (by kernel_rfl) ?_
                 intro w107 hw
                 refine hK.out _ _ ?_
                 clear hK K
                 (try simp only [Act.put, sA, sB, sC])
                 have HS107 := Lib.hid (show Since w w107 by rw [hw]; exact Since.setRow HS106.out HGn15.out _)
                 have HBC107 := Lib.hid (show Blk w107 w.heap.size 23 (cfgC c) by rw [hw]; exact Blk.row_far HBC106.out (Ne.symm HNn15C.out) _)
                 have HBn8107 := Lib.hid (show Blk w107 bn8 56 #[.int .i64 ((os i).l.se), .int .i64 ((os i).l.fl), .int .i64 ((os i).l.fm), .int .i64 ((os i).l.to), .int .i64 ((os i).l.ma), .int .i64 ((os i).l.ca), .int .i64 ((os i).l.ph), .int .i64 ((os i).l.un), .int .i64 ((os i).l.re), .int .i64 ((os i).l.gr)] by rw [hw]; exact Blk.row_far HBn8106.out (Ne.symm HNn15n8.out) _)
                 have HBn15107 := Lib.hid (show Blk w107 bn15 56 #[.int .i64 x.se, .int .i64 x.fl, .int .i64 x.fm, .int .i64 x.to, .int .i64 x.ma, .int .i64 x.ca, .int .i64 x.ph, .int .i64 x.un, .int .i64 x.re, .int .i64 x.gr] by rw [hw]; exact Blk.row HBn15106.out _)
                 have HFt_107 := Lib.hid (show TO w.heap.size t1 c (ls.eraseIdx j) St_1 w107 by rw [hw]; exact TO.row_far HFt106.out HIn15_t.out _)
                 have HFl_107 := Lib.hid (show (w107).ownsRow w.heap.size 56 10 (.slice Al ls.length cl) ls.length (rowsOf leaC ls) by rw [hw]; exact own_row_far HFl106.out HIn15_l.out _)
                 clear hw HS106 HBC106 HBn8106 HBn15106 HFt106 HFl106
                 refine tkL (.bool true) (h := ?_)
                 (try simp only [Act.put, sA, sB, sC])
                 refine wpList_nil ?_
                 obtain ⟨gl, hgl⟩ := own_addr HFl_107.out (show 0 < ls.length by have := HJ.out; omega)
                 subst hgl
                 have HCL := Lib.hid (own_cap2 HFl_107.out)
                 go_upto_region 41 with fail
                 have HKS : Hid (KeepS (fun W : World => Since w W ∧ Blk W w.heap.size 23 (cfgC c) ∧ Blk W bn8 56 #[.int .i64 ((os i).l.se), .int .i64 ((os i).l.fl), .int .i64 ((os i).l.fm), .int .i64 ((os i).l.to), .int .i64 ((os i).l.ma), .int .i64 ((os i).l.ca), .int .i64 ((os i).l.ph), .int .i64 ((os i).l.un), .int .i64 ((os i).l.re), .int .i64 ((os i).l.gr)] ∧ Blk W bn15 56 #[.int .i64 x.se, .int .i64 x.fl, .int .i64 x.fm, .int .i64 x.to, .int .i64 x.ma, .int .i64 x.ca, .int .i64 x.ph, .int .i64 x.un, .int .i64 x.re, .int .i64 x.gr] ∧ TO w.heap.size t1 c (ls.eraseIdx j) St_1 W ∧ (W).ownsRow w.heap.size 56 10 (.slice (some ⟨gl, 0, none⟩) ls.length cl) ls.length (rowsOf leaC ls)) w107) := Lib.hid ⟨fun W W' k ⟨h, h0, h1, h2, h3, h4⟩ => ⟨h.trans k, keep_blk k h0, keep_blk k h1, keep_blk k h2, TO.keep k h3, keep_own k h4⟩, ⟨HS107.out, HBC107.out, HBn8107.out, HBn15107.out, HFt_107.out, HFl_107.out⟩⟩
                 have HRK := Lib.hid HKS.out.1
                 refine wp_held HKS.out (by kernel_rfl) (fun hHeld => ?_)
                 refine tkQ 0 (.bool true) hHeld (h := ?_)
                 (try simp only [Act.put, sA, sB, sC])
                 refine tkQ 1 (.int .i64 (j : Int)) hHeld (h := ?_)
                 (try simp only [Act.put, sA, sB, sC])
                 refine tkQ 2 (.bool true) hHeld (he := by intro w hSw; (go_simp; (first | done | rfl | omega))) (h := ?_)
                 (try simp only [Act.put, sA, sB, sC])
                 refine tkQ 3 (.bool false) hHeld (he := by intro w hSw; (go_simp; (try with_reducible rfl))) (h := ?_)
                 (try simp only [Act.put, sA, sB, sC])
                 refine tkQ 4 (.bool false) hHeld (h := ?_)
                 (try simp only [Act.put, sA, sB, sC])
                 refine tkQ 5 (.bool true) hHeld (h := ?_)
                 (try simp only [Act.put, sA, sB, sC])
                 refine tkQ 6 (.bool true) hHeld (h := ?_)
                 (try simp only [Act.put, sA, sB, sC])
                 refine tkQ 7 (.agg #[.int .i64 x.se, .int .i64 x.fl, .int .i64 x.fm, .int .i64 x.to, .int .i64 x.ma, .int .i64 x.ca, .int .i64 x.ph, .int .i64 x.un, .int .i64 x.re, .int .i64 x.gr]) hHeld (he := by intro w hSw; exact exec_load_row 56 _ _ hSw.2.2.2.1 rfl rfl Try.underlying56 rfl (by kernel_rfl)) (h := ?_)
                 (try simp only [Act.put, sA, sB, sC])
                 refine tkQ 8 (.slice (some ⟨gl, 0, none⟩) ls.length cl) hHeld (h := ?_)
                 (try simp only [Act.put, sA, sB, sC])
                 refine tkQ 9 (.int .i64 (j : Int)) hHeld (h := ?_)
                 (try simp only [Act.put, sA, sB, sC])
                 refine tkQ 10 (.pointer (some ⟨gl, 0 + j * 10, none⟩)) hHeld (he := by intro w hSw; exact exec_index (i := j) (s := 10) 24 56 _ _ rfl rfl rfl rfl HJ.out Try.underlying24 (by kernel_rfl)) (h := ?_)
                 (try simp only [Act.put, sA, sB, sC])
                 refine tkQ 11 (.agg #[.int .i64 x.se, .int .i64 x.fl, .int .i64 x.fm, .int .i64 x.to, .int .i64 x.ma, .int .i64 x.ca, .int .i64 x.ph, .int .i64 x.un, .int .i64 x.re, .int .i64 x.gr]) hHeld (he := by intro w hSw; exact exec_rng (l := leaC x) 56 _ _ (row_l hSw.2.2.2.2.2 HX.out) rfl rfl Try.underlying56 rfl (by kernel_rfl)) (h := ?_)
                 (try simp only [Act.put, sA, sB, sC])
                 refine tkQ 12 (.bool false) hHeld (he := by intro w hSw; (go_simp; (try with_reducible rfl))) (h := ?_)
                 (try simp only [Act.put, sA, sB, sC])
                 refine tkQ 13 (.bool false) hHeld (h := ?_)
                 (try simp only [Act.put, sA, sB, sC])
                 refine tkQ 14 (.bool false) hHeld (h := ?_)
                 (try simp only [Act.put, sA, sB, sC])
                 refine tkQ 15 (.bool false) hHeld (h := ?_)
                 (try simp only [Act.put, sA, sB, sC])
                 refine tkQ 16 (.bool true) hHeld (h := ?_)
                 (try simp only [Act.put, sA, sB, sC])
                 refine tkQ 17 (.bool false) hHeld (he := by intro w hSw; (go_simp; (try with_reducible rfl))) (h := ?_)
                 (try simp only [Act.put, sA, sB, sC])
                 refine tkQ 18 (.bool false) hHeld (h := ?_)
                 (try simp only [Act.put, sA, sB, sC])
                 refine tkU 19 hHeld (h := ?_)
                 (try simp only [Act.put, sA, sB, sC])
                 refine tkU 20 hHeld (h := ?_)
                 (try simp only [Act.put, sA, sB, sC])
                 refine tkU 21 hHeld (h := ?_)
                 (try simp only [Act.put, sA, sB, sC])
                 refine tkQ 22 (.bool false) hHeld (h := ?_)
                 (try simp only [Act.put, sA, sB, sC])
                 refine tkQ 23 (.bool false) hHeld (h := ?_)
                 (try simp only [Act.put, sA, sB, sC])
                 refine wpAnyH_done (by kernel_rfl) ?_ _
                 have HSd41 := Lib.hid hHeld.1
                 have HBCd41 := Lib.hid (hHeld.2.1)
                 have HBn8d41 := Lib.hid (hHeld.2.2.1)
                 have HBn15d41 := Lib.hid (hHeld.2.2.2.1)
                 have HFtd41 := Lib.hid (hHeld.2.2.2.2.1)
                 have HFld41 := Lib.hid (hHeld.2.2.2.2.2)
                 clear hHeld HRK HKS HS107 HBC107 HBn8107 HBn15107 HFt_107 HFl_107
                 go_upto_region 43 with fail
                 refine wp_region_lit ?_
                 refine tkL (.bool true) (h := ?_)
                 (try simp only [Act.put, sA, sB, sC])
                 refine wpList_nil ?_
                 go_upto_region 44 with fail
                 have HKS : Hid (KeepS (fun W : World => Since w W ∧ Blk W w.heap.size 23 (cfgC c) ∧ TO w.heap.size t1 c (ls.eraseIdx j) St_1 W ∧ (W).ownsRow w.heap.size 56 10 (.slice (some ⟨gl, 0, none⟩) ls.length cl) ls.length (rowsOf leaC ls)) w107.drew) := Lib.hid ⟨fun W W' k ⟨h, h0, h1, h2⟩ => ⟨h.trans k, keep_blk k h0, TO.keep k h1, keep_own k h2⟩, ⟨HSd41.out, HBCd41.out, HFtd41.out, HFld41.out⟩⟩
                 have HRK := Lib.hid HKS.out.1
                 refine wp_held HKS.out (by kernel_rfl) (fun hHeld => ?_)
                 refine tkQ 1 (.slice (some ⟨gl, 0, none⟩) ls.length cl) hHeld (h := ?_)
                 (try simp only [Act.put, sA, sB, sC])
                 refine tkQ 2 (.int .i64 (j : Int)) hHeld (h := ?_)
                 (try simp only [Act.put, sA, sB, sC])
                 refine tkQ 3 (.slice (some ⟨gl, 0, none⟩) j cl) hHeld (he := by intro w hSw; exact exec_slice (s := 10) 24 56 _ _ _ _ rfl rfl Try.underlying24 (by kernel_rfl) (sb_h _ _ (h := j) rfl (by have := HJ.out; have := HCL.out; omega)) (by split <;> simp [Addr.add]) rfl rfl) (h := ?_)
                 (try simp only [Act.put, sA, sB, sC])
                 refine tkQ 5 (.slice (some ⟨gl, 0, none⟩) ls.length cl) hHeld (h := ?_)
                 (try simp only [Act.put, sA, sB, sC])
                 refine tkQ 6 (.int .i64 (j : Int)) hHeld (h := ?_)
                 (try simp only [Act.put, sA, sB, sC])
                 refine tkQ 7 (.int .i64 ((j : Int) + 1)) hHeld (he := by intro w hSw; (go_simp; (first | done | (refine wr64 _ ?_ ?_ <;> (have q0 := HJ.out; have q1 := HLB.out; omega)) | (have q0 := HJ.out; have q1 := HLB.out; omega) | (have q0 := HJ.out; have q1 := HLB.out; split <;> omega) | (have q0 := HJ.out; have q1 := HLB.out; intro hh; omega)))) (h := ?_)
                 (try simp only [Act.put, sA, sB, sC])
                 refine tkQ 8 (.slice (cutA cl (j + 1) (some ⟨gl, 0, none⟩) 10) (ls.length - (j + 1)) (cl - (j + 1))) hHeld (he := by intro w hSw; exact exec_slice (s := 10) 24 56 _ _ _ _ rfl rfl Try.underlying24 (by kernel_rfl) (sb_l _ _ (l := j + 1) (by push_cast; rfl) (by have := HJ.out; omega)) (by rfl) rfl rfl) (h := ?_)
                 (try simp only [Act.put, sA, sB, sC])
                 refine wpAnyH_ready (rs := [0]) (by kernel_rfl) (by simp) ?_
                 refine AllReadyH.cons (o := ?o44__0) ?h44__0 (fun K hK => ?_) AllReadyH.nil
                 case h44__0 => (first | (simp only [gA, gB, gC]; done) | (simp only [gA, gB, gC]; exact rfl))
                 rw [if_pos (by rfl)]
                 refine wp_new (fun b => .slice (some ⟨b, 0, none⟩) 0 0) 56 #[] (by rintro b rfl; first | rfl | kernel_rfl) ?_
                 intro bn187 w108 hge hB hb
                 refine hK.out _ _ (by (apply HRK.out; exact hb; exact hHeld)) (fun hHeld2 => ?_)
                 have HIn187_t := Lib.hid (TO.far (hHeld.2.2.1) hge)
                 have HIn187_l := Lib.hid (own_far (hHeld.2.2.2) hge)
                 have HGn187 := Lib.hid (show w.heap.size ≤ bn187 by have := Since.size hHeld.1; (try simp at this); (try simp at hge); omega)
                 have HXn187 := Lib.hid hB
                 clear hB
                 clear hge
                 clear hK K hHeld hb
                 have hHeld := hHeld2
                 clear hHeld2
                 (try simp only [Act.put, sA, sB, sC])
                 have HOE2 := Lib.hid (own_empty (e := 56) (size := 10) HXn187.out HGn187.out)
                 clear HXn187
                 refine wpAnyH_ready (rs := [4]) (by kernel_rfl) (by simp) ?_
                 refine AllReadyH.cons (o := ?o44__4) ?h44__4 (fun K hK => ?_) AllReadyH.nil
                 case h44__4 => (first | (simp only [gA, gB, gC]; done) | (simp only [gA, gB, gC]; exact rfl))
                 rw [if_pos (by rfl)]
                 refine wp_append_row (.tmp 187) (.tmp 190) 24 rfl w.heap.size 56 (Value.agg #[.int .i64 0, .int .i64 0, .int .i64 0, .int .i64 0, .int .i64 0, .int .i64 0, .int .i64 0, .int .i64 0, .int .i64 0, .int .i64 0]) 10 80 Try.underlying24 (by kernel_rfl) rfl (by decide) (by decide) (some ⟨bn187, 0, none⟩) 0 0 ([]) rfl HOE2.out _ (some ⟨gl, 0, none⟩) j cl ((rowsOf leaC ls).take (j * 10)) rfl (own_reads (own_prefix (hHeld.2.2.2) (by have := HJ.out; omega))) (fun u hu => leas_one ls u (List.mem_of_mem_take hu)) (by have := HJ.out; have := HLB.out; omega) (Since.size hHeld.1) j ((rowsOf leaC ls).take (j * 10)) (Nat.zero_add _) rfl ?_
                 intro A_2 c_2 w109 hown hupd hfar
                 have hHeld3 := HKS.out.at_ w109 ⟨Since.upd hHeld.1 hupd (own_low HOE2.out), Upd.blk hupd (hHeld.2.1) (own_ne_ty HOE2.out (hHeld.2.1) (by decide)), TO.upd hupd (hHeld.2.2.1) (fun g hg h => HIn187_t.out (by simp [blkOf] at h; rw [← h]; exact hg)), Upd.own hupd (hHeld.2.2.2) (fun g hg h => HIn187_l.out (by simp [blkOf] at h; rw [← h]; exact hg))⟩
                 have HDEt_2 := Lib.hid (dis_next hfar (fun g hg h => HIn187_t.out (by simp [blkOf] at h; rw [← h]; exact hg)) (TO.lt (hHeld.2.2.1)))
                 have HDEl_2 := Lib.hid (dis_next hfar (fun g hg h => HIn187_l.out (by simp [blkOf] at h; rw [← h]; exact hg)) (own_lt (hHeld.2.2.2)))
                 have HOW_w109 := Lib.hid hown
                 refine hK.out _ _ hHeld3 (fun hHeld2 => ?_)
                 clear hK K hHeld hHeld3 hupd hown hfar HOE2 
                 have hHeld := hHeld2
                 clear hHeld2
                 (try simp only [Act.put, sA, sB, sC])
                 refine wpAnyH_ready (rs := [9]) (by kernel_rfl) (by simp) ?_
                 refine AllReadyH.cons (o := ?o44__9) ?h44__9 (fun K hK => ?_) AllReadyH.nil
                 case h44__9 => (first | (simp only [gA, gB, gC]; done) | (simp only [gA, gB, gC]; exact rfl))
                 rw [if_pos (by rfl)]
                 refine wp_append_row (.tmp 191) (.tmp 195) 24 rfl w.heap.size 56 (Value.agg #[.int .i64 0, .int .i64 0, .int .i64 0, .int .i64 0, .int .i64 0, .int .i64 0, .int .i64 0, .int .i64 0, .int .i64 0, .int .i64 0]) 10 80 Try.underlying24 (by kernel_rfl) rfl (by decide) (by decide) A_2 j c_2 ((rowsOf leaC ls).take (j * 10)) rfl HOW_w109.out _ (cutA cl (j + 1) (some ⟨gl, 0, none⟩) 10) (ls.length - (j + 1)) (cl - (j + 1)) ((rowsOf leaC ls).drop ((j + 1) * 10)) rfl (reads_cut (own_reads (hHeld.2.2.2)) (by have := HJ.out; omega) HCL.out) (fun u hu => leas_one ls u (List.mem_of_mem_drop hu)) (by have := HJ.out; have := HLB.out; omega) (Since.size hHeld.1) ((ls.eraseIdx j).length) (rowsOf leaC (ls.eraseIdx j)) (by have := HJ.out; rw [List.length_eraseIdx]; split <;> omega) (erase_rows leaC_len HJ.out) ?_
                 intro A_3 c_3 w110 hown hupd hfar
                 have hHeld3 := HKS.out.at_ w110 ⟨Since.upd hHeld.1 hupd (own_low HOW_w109.out), Upd.blk hupd (hHeld.2.1) (own_ne_ty HOW_w109.out (hHeld.2.1) (by decide)), TO.upd hupd (hHeld.2.2.1) HDEt_2.out, Upd.own hupd (hHeld.2.2.2) HDEl_2.out⟩
                 have HDEt_3 := Lib.hid (dis_next hfar HDEt_2.out (TO.lt (hHeld.2.2.1)))
                 have HDEl_3 := Lib.hid (dis_next hfar HDEl_2.out (own_lt (hHeld.2.2.2)))
                 have HOW_w110 := Lib.hid hown
                 refine hK.out _ _ hHeld3 (fun hHeld2 => ?_)
                 clear hK K hHeld hHeld3 hupd hown hfar HOW_w109 
                 have hHeld := hHeld2
                 clear hHeld2
                 (try simp only [Act.put, sA, sB, sC])
                 refine tkQ 10 (.slice A_3 ((ls.eraseIdx j).length) c_3) hHeld (h := ?_)
                 (try simp only [Act.put, sA, sB, sC])
                 refine wpAnyH_done (by kernel_rfl) ?_ _
                 have HSd44 := Lib.hid hHeld.1
                 have HBCd44 := Lib.hid (hHeld.2.1)
                 have HFtd44 := Lib.hid (hHeld.2.2.1)
                 have HFld44 := Lib.hid (hHeld.2.2.2)
                 clear hHeld HRK HKS HSd41 HBCd41 HFtd41 HFld41
                 have HFed44 := Lib.hid HOW_w110.out
                 clear HOW_w110
                 go_wp2_with fail
                 refine Met.intro ?_
                 exact hJ3 _ _ ⟨(ls.eraseIdx j), St_1, A_3, c_3, ⟨rfl, rfl, rfl, rfl, rfl, rfl, rfl, rfl, rfl, trivial⟩, Lib.hid ⟨(by have := HLN.out; have := List.length_eraseIdx_le ls j; omega), (US.cut HUS.out), (QI.cut HQI.out), HIC_t_105.out, (fun g hg h => HDEt_3.out g h hg), HSd44.out, HBCd44.out, HFtd44.out, HFed44.out⟩⟩
                | none =>
                 have HAS := Lib.hid hat; clear hat
                 rw [show oI none = -1 from rfl]
                 go_upto_region 40 with fail
                 refine wp_region_lit ?_
                 refine tkL (.pointer (some ⟨t1, 0, none⟩)) (h := ?_)
                 (try simp only [Act.put, sA, sB, sC])
                 refine tkL (.pointer (some ⟨bn8, 0, none⟩)) (h := ?_)
                 (try simp only [Act.put, sA, sB, sC])
                 refine tkL (.pointer (some ⟨bn8, 0, none⟩)) (h := ?_)
                 (try simp only [Act.put, sA, sB, sC])
                 refine wpList_q (by rfl) (.int .i64 ((os i).l.se)) ?he ?_
                 case he => exact exec_cell 3 _ _ HBn8104.out rfl rfl rfl Try.underlying3 rfl
                 (try simp only [Act.put, sA, sB, sC])
                 refine wpList_wp (by rfl) (fun K hK => ?_)
                 (try go_simp)
                 refine (endV0 w.heap.size t1 c ls St (os i).l.se _ HFt104.out (by have := HLB.out; omega) HAS.out).mono ?_
                 rintro e w105 ⟨rfl, hb⟩
                 (try go_wp2_with fail)
                 refine hK.out _ _ ?_
                 clear hK K
                 (try simp only [Act.put, sA, sB, sC])
                 have HS105 := Lib.hid (Since.trans HS104.out hb)
                 have HBC105 := Lib.hid (keep_blk hb HBC104.out)
                 have HBn8105 := Lib.hid (keep_blk hb HBn8104.out)
                 have HFt105 := Lib.hid (TO.keep hb HFt104.out)
                 have HFl105 := Lib.hid (keep_own hb HFl104.out)
                 clear HS104 HBC104 HBn8104 HFt104 HFl104
                 clear hb
                 refine tkL (.tuple #[.agg #[.int .i64 0, .int .i64 0, .int .i64 0, .int .i64 0, .int .i64 0, .int .i64 0, .int .i64 0, .int .i64 0, .int .i64 0, .int .i64 0], .bool false]) (h := ?_)
                 (try simp only [Act.put, sA, sB, sC])
                 refine tkL (.agg #[.int .i64 0, .int .i64 0, .int .i64 0, .int .i64 0, .int .i64 0, .int .i64 0, .int .i64 0, .int .i64 0, .int .i64 0, .int .i64 0]) (h := ?_)
                 (try simp only [Act.put, sA, sB, sC])
                 refine tkL (.bool false) (h := ?_)
                 (try simp only [Act.put, sA, sB, sC])
                 refine wpList_wp (by rfl) (fun K hK => ?_)
                 refine wp_new (fun b => .pointer (some ⟨b, 0, none⟩)) 56 #[.int .i64 0, .int .i64 0, .int .i64 0, .int .i64 0, .int .i64 0, .int .i64 0, .int .i64 0, .int .i64 0, .int .i64 0, .int .i64 0] (by rintro b rfl; first | rfl | kernel_rfl) ?_
                 intro bn15 w106 hge hB hb
                 refine hK.out _ _ ?_
                 clear hK K
                 (try simp only [Act.put, sA, sB, sC])
                 have HNn15C := Lib.hid (show bn15 ≠ w.heap.size by have := Blk.lt HBC105.out; omega)
                 have HNn15n8 := Lib.hid (show bn15 ≠ bn8 by have := Blk.lt HBn8105.out; omega)
                 have HGn15 := Lib.hid (show w.heap.size ≤ bn15 by have := Since.size HS105.out; omega)
                 have HIn15_t := Lib.hid (TO.far HFt105.out hge)
                 have HIn15_l := Lib.hid (own_far HFl105.out hge)
                 have HS106 := Lib.hid (Since.trans HS105.out hb)
                 have HBC106 := Lib.hid (keep_blk hb HBC105.out)
                 have HBn8106 := Lib.hid (keep_blk hb HBn8105.out)
                 have HFt106 := Lib.hid (TO.keep hb HFt105.out)
                 have HFl106 := Lib.hid (keep_own hb HFl105.out)
                 clear HS105 HBC105 HBn8105 HFt105 HFl105
                 clear hb hge
                 have HBn15106 := Lib.hid hB
                 clear hB
                 refine wpList_wp (by rfl) (fun K hK => ?_)
                 refine wp_st_row 56 _ _ rfl #[.int .i64 0, .int .i64 0, .int .i64 0, .int .i64 0, .int .i64 0, .int .i64 0, .int .i64 0, .int .i64 0, .int .i64 0, .int .i64 0] rfl rfl (HasRow.of HBn15106.out rfl) rfl (by simp [cfgC, Value.oneCell']) (by kernel_rfl) ?_
                 intro w107 hw
                 refine hK.out _ _ ?_
                 clear hK K
                 (try simp only [Act.put, sA, sB, sC])
                 have HS107 := Lib.hid (show Since w w107 by rw [hw]; exact Since.setRow HS106.out HGn15.out _)
                 have HBC107 := Lib.hid (show Blk w107 w.heap.size 23 (cfgC c) by rw [hw]; exact Blk.row_far HBC106.out (Ne.symm HNn15C.out) _)
                 have HBn8107 := Lib.hid (show Blk w107 bn8 56 #[.int .i64 ((os i).l.se), .int .i64 ((os i).l.fl), .int .i64 ((os i).l.fm), .int .i64 ((os i).l.to), .int .i64 ((os i).l.ma), .int .i64 ((os i).l.ca), .int .i64 ((os i).l.ph), .int .i64 ((os i).l.un), .int .i64 ((os i).l.re), .int .i64 ((os i).l.gr)] by rw [hw]; exact Blk.row_far HBn8106.out (Ne.symm HNn15n8.out) _)
                 have HBn15107 := Lib.hid (show Blk w107 bn15 56 #[.int .i64 0, .int .i64 0, .int .i64 0, .int .i64 0, .int .i64 0, .int .i64 0, .int .i64 0, .int .i64 0, .int .i64 0, .int .i64 0] by rw [hw]; exact Blk.row HBn15106.out _)
                 have HFt_107 := Lib.hid (show TO w.heap.size t1 c ls St w107 by rw [hw]; exact TO.row_far HFt106.out HIn15_t.out _)
                 have HFl_107 := Lib.hid (show (w107).ownsRow w.heap.size 56 10 (.slice Al ls.length cl) ls.length (rowsOf leaC ls) by rw [hw]; exact own_row_far HFl106.out HIn15_l.out _)
                 clear hw HS106 HBC106 HBn8106 HBn15106 HFt106 HFl106
                 refine tkL (.bool false) (h := ?_)
                 (try simp only [Act.put, sA, sB, sC])
                 refine wpList_nil ?_
                 go_upto_region 41 with fail
                 have HKS : Hid (KeepS (fun W : World => Since w W ∧ Blk W w.heap.size 23 (cfgC c) ∧ Blk W bn8 56 #[.int .i64 ((os i).l.se), .int .i64 ((os i).l.fl), .int .i64 ((os i).l.fm), .int .i64 ((os i).l.to), .int .i64 ((os i).l.ma), .int .i64 ((os i).l.ca), .int .i64 ((os i).l.ph), .int .i64 ((os i).l.un), .int .i64 ((os i).l.re), .int .i64 ((os i).l.gr)] ∧ Blk W bn15 56 #[.int .i64 0, .int .i64 0, .int .i64 0, .int .i64 0, .int .i64 0, .int .i64 0, .int .i64 0, .int .i64 0, .int .i64 0, .int .i64 0] ∧ TO w.heap.size t1 c ls St W ∧ (W).ownsRow w.heap.size 56 10 (.slice Al ls.length cl) ls.length (rowsOf leaC ls)) w107) := Lib.hid ⟨fun W W' k ⟨h, h0, h1, h2, h3, h4⟩ => ⟨h.trans k, keep_blk k h0, keep_blk k h1, keep_blk k h2, TO.keep k h3, keep_own k h4⟩, ⟨HS107.out, HBC107.out, HBn8107.out, HBn15107.out, HFt_107.out, HFl_107.out⟩⟩
                 have HRK := Lib.hid HKS.out.1
                 refine wp_held HKS.out (by kernel_rfl) (fun hHeld => ?_)
                 refine tkQ 0 (.bool false) hHeld (h := ?_)
                 (try simp only [Act.put, sA, sB, sC])
                 refine tkQ 1 (.int .i64 (-1)) hHeld (h := ?_)
                 (try simp only [Act.put, sA, sB, sC])
                 refine tkQ 2 (.bool false) hHeld (he := by intro w hSw; (go_simp; (try with_reducible rfl))) (h := ?_)
                 (try simp only [Act.put, sA, sB, sC])
                 refine tkQ 3 (.bool false) hHeld (he := by intro w hSw; (go_simp; (try with_reducible rfl))) (h := ?_)
                 (try simp only [Act.put, sA, sB, sC])
                 refine tkQ 4 (.bool false) hHeld (h := ?_)
                 (try simp only [Act.put, sA, sB, sC])
                 refine tkQ 5 (.bool false) hHeld (h := ?_)
                 (try simp only [Act.put, sA, sB, sC])
                 refine tkQ 6 (.bool false) hHeld (h := ?_)
                 (try simp only [Act.put, sA, sB, sC])
                 refine tkU 7 hHeld (h := ?_)
                 (try simp only [Act.put, sA, sB, sC])
                 refine tkU 8 hHeld (h := ?_)
                 (try simp only [Act.put, sA, sB, sC])
                 refine tkU 9 hHeld (h := ?_)
                 (try simp only [Act.put, sA, sB, sC])
                 refine tkU 10 hHeld (h := ?_)
                 (try simp only [Act.put, sA, sB, sC])
                 refine tkU 11 hHeld (h := ?_)
                 (try simp only [Act.put, sA, sB, sC])
                 refine tkU 12 hHeld (h := ?_)
                 (try simp only [Act.put, sA, sB, sC])
                 refine tkQ 13 (.bool false) hHeld (h := ?_)
                 (try simp only [Act.put, sA, sB, sC])
                 refine tkQ 14 (.bool false) hHeld (h := ?_)
                 (try simp only [Act.put, sA, sB, sC])
                 refine tkQ 15 (.bool false) hHeld (h := ?_)
                 (try simp only [Act.put, sA, sB, sC])
                 refine tkQ 16 (.bool false) hHeld (h := ?_)
                 (try simp only [Act.put, sA, sB, sC])
                 refine tkQ 17 (.bool true) hHeld (he := by intro w hSw; (go_simp; (try with_reducible rfl))) (h := ?_)
                 (try simp only [Act.put, sA, sB, sC])
                 refine tkQ 18 (.bool true) hHeld (h := ?_)
                 (try simp only [Act.put, sA, sB, sC])
                 refine tkQ 19 (.agg #[.int .i64 0, .int .i64 0, .int .i64 0, .int .i64 0, .int .i64 0, .int .i64 0, .int .i64 0, .int .i64 0, .int .i64 0, .int .i64 0]) hHeld (he := by intro w hSw; exact exec_load_row 56 _ _ hSw.2.2.2.1 rfl rfl Try.underlying56 rfl (by kernel_rfl)) (h := ?_)
                 (try simp only [Act.put, sA, sB, sC])
                 refine tkQ 20 (.agg #[.int .i64 0, .int .i64 0, .int .i64 0, .int .i64 0, .int .i64 0, .int .i64 0, .int .i64 0, .int .i64 0, .int .i64 0, .int .i64 0]) hHeld (he := by intro w hSw; kernel_rfl) (h := ?_)
                 (try simp only [Act.put, sA, sB, sC])
                 refine tkQ 21 (.bool false) hHeld (he := by intro w hSw; (go_simp; (try with_reducible rfl))) (h := ?_)
                 (try simp only [Act.put, sA, sB, sC])
                 refine tkQ 22 (.bool false) hHeld (h := ?_)
                 (try simp only [Act.put, sA, sB, sC])
                 refine tkQ 23 (.bool false) hHeld (h := ?_)
                 (try simp only [Act.put, sA, sB, sC])
                 refine wpAnyH_done (by kernel_rfl) ?_ _
                 have HSd41v2 := Lib.hid hHeld.1
                 have HBCd41v2 := Lib.hid (hHeld.2.1)
                 have HBn8d41v2 := Lib.hid (hHeld.2.2.1)
                 have HBn15d41v2 := Lib.hid (hHeld.2.2.2.1)
                 have HFtd41v2 := Lib.hid (hHeld.2.2.2.2.1)
                 have HFld41v2 := Lib.hid (hHeld.2.2.2.2.2)
                 clear hHeld HRK HKS HS107 HBC107 HBn8107 HBn15107 HFt_107 HFl_107
                 go_upto_region 43 with fail
                 refine wp_region_lit ?_
                 refine tkL (.bool false) (h := ?_)
                 (try simp only [Act.put, sA, sB, sC])
                 refine wpList_nil ?_
                 go_wp2_with fail
                 refine Met.intro ?_
                 exact hJ3 _ _ ⟨ls, St, Al, cl, ⟨rfl, rfl, rfl, rfl, rfl, rfl, rfl, rfl, rfl, trivial⟩, Lib.hid ⟨(by have := HLN.out; omega), HUS.out, HQI.out, HIC.out, HDL.out, HSd41v2.out, HBCd41v2.out, HFtd41v2.out, HFld41v2.out⟩⟩
            · have HK2 := Lib.hid hcs; clear hcs
              go_upto_region 18 with fail
              refine wp_region_lit ?_
              refine wpList_q (by rfl) (.bool false) ?he ?_
              case he => (have q := HK1.out; go_simp; (first | done | exact q | (simp [q]; done)))
              (try simp only [Act.put, sA, sB, sC])
              refine tkL (.bool false) (h := ?_)
              (try simp only [Act.put, sA, sB, sC])
              refine wpList_nil ?_
              go_upto_region 29 with fail
              refine wp_region_lit ?_
              refine wpList_q (by rfl) (.bool true) ?he ?_
              case he => (have q := HK2.out; go_simp; (first | done | exact q | (simp [q]; done)))
              (try simp only [Act.put, sA, sB, sC])
              refine tkL (.bool true) (h := ?_)
              (try simp only [Act.put, sA, sB, sC])
              refine wpList_nil ?_
              go_upto_region 30 with fail
              refine wp_region_lit ?_
              refine tkL (.int .i64 0) (h := ?_)
              (try simp only [Act.put, sA, sB, sC])
              refine wpList_nil ?_
              cases hg : goodB c (os i).l with
              | false =>
               have HG := Lib.hid hg; clear hg
               go_upto_region 31 with fail
               refine wp_region_lit ?_
               refine wpList_q (by rfl) (.agg (cfgC c)) ?he ?_
               case he => exact exec_load_row 23 _ _ HBC104.out rfl rfl Try.underlying23 rfl (by kernel_rfl)
               (try simp only [Act.put, sA, sB, sC])
               refine wpList_q (by rfl) (.agg #[.int .i64 ((os i).l.se), .int .i64 ((os i).l.fl), .int .i64 ((os i).l.fm), .int .i64 ((os i).l.to), .int .i64 ((os i).l.ma), .int .i64 ((os i).l.ca), .int .i64 ((os i).l.ph), .int .i64 ((os i).l.un), .int .i64 ((os i).l.re), .int .i64 ((os i).l.gr)]) ?he ?_
               case he => exact exec_load_row 56 _ _ HBn8104.out rfl rfl Try.underlying56 rfl (by kernel_rfl)
               (try simp only [Act.put, sA, sB, sC])
               refine wpList_wp (by rfl) (fun K hK => ?_)
               (try go_simp)
               refine (lgW c (os i).l false _ HG.out).mono ?_
               rintro e w105 ⟨rfl, hb⟩
               (try go_wp2_with fail)
               refine hK.out _ _ ?_
               clear hK K
               (try simp only [Act.put, sA, sB, sC])
               have HS105 := Lib.hid (Since.trans HS104.out hb)
               have HBC105 := Lib.hid (keep_blk hb HBC104.out)
               have HBn8105 := Lib.hid (keep_blk hb HBn8104.out)
               have HFt105 := Lib.hid (TO.keep hb HFt104.out)
               have HFl105 := Lib.hid (keep_own hb HFl104.out)
               clear HS104 HBC104 HBn8104 HFt104 HFl104
               clear hb
               refine wpList_q (by rfl) (.bool true) ?he ?_
               case he => (go_simp; (try with_reducible rfl))
               (try simp only [Act.put, sA, sB, sC])
               refine wpList_nil ?_
               go_upto_region 32 with fail
               refine wp_region_lit ?_
               refine tkL (.int .i64 1) (h := ?_)
               (try simp only [Act.put, sA, sB, sC])
               refine wpList_nil ?_
               go_upto_region 37 with fail
               refine wp_region_lit ?_
               refine tkL (.pointer (some ⟨t1, 0, none⟩)) (h := ?_)
               (try simp only [Act.put, sA, sB, sC])
               refine wpList_q (by rfl) (.agg #[.int .i64 ((os i).l.se), .int .i64 ((os i).l.fl), .int .i64 ((os i).l.fm), .int .i64 ((os i).l.to), .int .i64 ((os i).l.ma), .int .i64 ((os i).l.ca), .int .i64 ((os i).l.ph), .int .i64 ((os i).l.un), .int .i64 ((os i).l.re), .int .i64 ((os i).l.gr)]) ?he ?_
               case he => exact exec_load_row 56 _ _ HBn8105.out rfl rfl Try.underlying56 rfl (by kernel_rfl)
               (try simp only [Act.put, sA, sB, sC])
               refine wpList_wp (by rfl) (fun K hK => ?_)
               (try go_simp)
               refine (setV w.heap.size t1 c ls St (os i).l _ HFt105.out (by have := HLB.out; omega) 1 ls (set1 HG.out).1 (set1 HG.out).2).mono ?_
               rintro e w106 ⟨St_4, rfl, hobj, hupd, hfar⟩
               (try go_wp2_with fail)
               refine hK.out _ _ ?_
               clear hK K
               (try simp only [Act.put, sA, sB, sC])
               have HS106 := Lib.hid (Since.upd HS105.out hupd (TO.low HFt105.out))
               have HBC106 := Lib.hid (Upd.blk hupd HBC105.out HIC.out)
               have HIC_t_106 := Lib.hid (nin_next hfar HIC.out (Blk.lt HBC105.out))
               have HBn8106 := Lib.hid (Upd.blk hupd HBn8105.out HIn8_t.out)
               have HIn8_t_106 := Lib.hid (nin_next hfar HIn8_t.out (Blk.lt HBn8105.out))
               have HFl106 := Lib.hid (Upd.own hupd HFl105.out HDL.out)
               have HDDl_t_106 := Lib.hid (dis_next hfar HDL.out (own_lt HFl105.out))
               have HFt106 := Lib.hid hobj
               clear hupd hobj hfar HS105 HBC105 HBn8105 HFt105 HFl105
               refine tkL (.int .i64 1) (h := ?_)
               (try simp only [Act.put, sA, sB, sC])
               refine wpList_q (by rfl) (.bool false) ?he ?_
               case he => (go_simp; (try with_reducible rfl))
               (try simp only [Act.put, sA, sB, sC])
               refine wpList_nil ?_
               go_wp2_with fail
               refine Met.intro ?_
               exact hJ3 _ _ ⟨ls, St_4, Al, cl, ⟨rfl, rfl, rfl, rfl, rfl, rfl, rfl, rfl, rfl, trivial⟩, Lib.hid ⟨(by have := HLN.out; omega), HUS.out, HQI.out, HIC_t_106.out, HDDl_t_106.out, HS106.out, HBC106.out, HFt106.out, HFl106.out⟩⟩
              | true =>
               have HG := Lib.hid hg; clear hg
               go_upto_region 31 with fail
               refine wp_region_lit ?_
               refine wpList_q (by rfl) (.agg (cfgC c)) ?he ?_
               case he => exact exec_load_row 23 _ _ HBC104.out rfl rfl Try.underlying23 rfl (by kernel_rfl)
               (try simp only [Act.put, sA, sB, sC])
               refine wpList_q (by rfl) (.agg #[.int .i64 ((os i).l.se), .int .i64 ((os i).l.fl), .int .i64 ((os i).l.fm), .int .i64 ((os i).l.to), .int .i64 ((os i).l.ma), .int .i64 ((os i).l.ca), .int .i64 ((os i).l.ph), .int .i64 ((os i).l.un), .int .i64 ((os i).l.re), .int .i64 ((os i).l.gr)]) ?he ?_
               case he => exact exec_load_row 56 _ _ HBn8104.out rfl rfl Try.underlying56 rfl (by kernel_rfl)
               (try simp only [Act.put, sA, sB, sC])
               refine wpList_wp (by rfl) (fun K hK => ?_)
               (try go_simp)
               refine (lgW c (os i).l true _ HG.out).mono ?_
               rintro e w105 ⟨rfl, hb⟩
               (try go_wp2_with fail)
               refine hK.out _ _ ?_
               clear hK K
               (try simp only [Act.put, sA, sB, sC])
               have HS105 := Lib.hid (Since.trans HS104.out hb)
               have HBC105 := Lib.hid (keep_blk hb HBC104.out)
               have HBn8105 := Lib.hid (keep_blk hb HBn8104.out)
               have HFt105 := Lib.hid (TO.keep hb HFt104.out)
               have HFl105 := Lib.hid (keep_own hb HFl104.out)
               clear HS104 HBC104 HBn8104 HFt104 HFl104
               clear hb
               refine wpList_q (by rfl) (.bool false) ?he ?_
               case he => (go_simp; (try with_reducible rfl))
               (try simp only [Act.put, sA, sB, sC])
               refine wpList_nil ?_
               cases hat : atP ls (isT (os i).l) with
               | some j =>
                have HAT := Lib.hid hat; have HJ := Lib.hid (atP_some hat).1; clear hat
                rw [show oI (some j) = (j : Int) from rfl]
                go_upto_region 33 with fail
                refine wp_region_lit ?_
                refine tkL (.int .i64 (j : Int)) (h := ?_)
                (try simp only [Act.put, sA, sB, sC])
                refine wpList_q (by rfl) (.bool false) ?he ?_
                case he => (go_simp; (first | done | rfl | omega))
                (try simp only [Act.put, sA, sB, sC])
                refine wpList_nil ?_
                go_upto_region 35 with fail
                refine wp_region_lit ?_
                refine wpList_wp (by rfl) (fun K hK => ?_)
                refine wp_new (fun b => .slice (some ⟨b, 0, none⟩) 0 0) 56 #[] (by rintro b rfl; first | rfl | kernel_rfl) ?_
                intro bn140 w106 hge hB hb
                refine hK.out _ _ ?_
                clear hK K
                (try simp only [Act.put, sA, sB, sC])
                have HNn140C := Lib.hid (show bn140 ≠ w.heap.size by have := Blk.lt HBC105.out; omega)
                have HNn140n8 := Lib.hid (show bn140 ≠ bn8 by have := Blk.lt HBn8105.out; omega)
                have HGn140 := Lib.hid (show w.heap.size ≤ bn140 by have := Since.size HS105.out; omega)
                have HIn140_t := Lib.hid (TO.far HFt105.out hge)
                have HIn140_l := Lib.hid (own_far HFl105.out hge)
                have HS106 := Lib.hid (Since.trans HS105.out hb)
                have HBC106 := Lib.hid (keep_blk hb HBC105.out)
                have HBn8106 := Lib.hid (keep_blk hb HBn8105.out)
                have HFt106 := Lib.hid (TO.keep hb HFt105.out)
                have HFl106 := Lib.hid (keep_own hb HFl105.out)
                clear HS105 HBC105 HBn8105 HFt105 HFl105
                clear hb hge
                have HBn140106 := Lib.hid hB
                clear hB
                refine tkL (.slice Al ls.length cl) (h := ?_)
                (try simp only [Act.put, sA, sB, sC])
                have HOE := Lib.hid (own_empty (e := 56) (size := 10) HBn140106.out HGn140.out)
                have HIeC := Lib.hid (show w.heap.size ∉ blkOf (some ⟨bn140, 0, none⟩) by simp [blkOf]; exact (Ne.symm HNn140C.out))
                have HIen8 := Lib.hid (show bn8 ∉ blkOf (some ⟨bn140, 0, none⟩) by simp [blkOf]; exact (Ne.symm HNn140n8.out))
                have HDet := Lib.hid (show ∀ g ∈ St, g ∉ blkOf (some ⟨bn140, 0, none⟩) from fun g hg h => HIn140_t.out (by simp [blkOf] at h; rw [← h]; exact hg))
                have HDel := Lib.hid (show ∀ g ∈ (blkOf Al), g ∉ blkOf (some ⟨bn140, 0, none⟩) from fun g hg h => HIn140_l.out (by simp [blkOf] at h; rw [← h]; exact hg))
                refine wpList_wp (by rfl) (fun K hK => ?_)
                refine wp_append_row (.tmp 140) (.tmp 141) 24 rfl w.heap.size 56 (Value.agg #[.int .i64 0, .int .i64 0, .int .i64 0, .int .i64 0, .int .i64 0, .int .i64 0, .int .i64 0, .int .i64 0, .int .i64 0, .int .i64 0]) 10 80 Try.underlying24 (by kernel_rfl) rfl (by decide) (by decide) (some ⟨bn140, 0, none⟩) 0 0 ([]) rfl HOE.out _ Al ls.length cl (rowsOf leaC ls) rfl (own_reads HFl106.out) (leas_one ls) (by have := HLB.out; omega) (Since.size HS106.out) ls.length (rowsOf leaC ls) (Nat.zero_add _) rfl ?_
                intro A_4 c_4 w107 hown hupd hfar
                refine hK.out _ _ ?_
                clear hK K
                (try simp only [Act.put, sA, sB, sC])
                have HS107 := Lib.hid (Since.upd HS106.out hupd (own_low HOE.out))
                have HBC107 := Lib.hid (Upd.blk hupd HBC106.out HIeC.out)
                have HIC_e_107 := Lib.hid (nin_next hfar HIeC.out (Blk.lt HBC106.out))
                have HBn8107 := Lib.hid (Upd.blk hupd HBn8106.out HIen8.out)
                have HIn8_e_107 := Lib.hid (nin_next hfar HIen8.out (Blk.lt HBn8106.out))
                have HFt107 := Lib.hid (TO.upd hupd HFt106.out HDet.out)
                have HDDt_e_107 := Lib.hid (dis_next hfar HDet.out (TO.lt HFt106.out))
                have HFl107 := Lib.hid (Upd.own hupd HFl106.out HDel.out)
                have HDDl_e_107 := Lib.hid (dis_next hfar HDel.out (own_lt HFl106.out))
                have HFe107 := Lib.hid hown
                clear hupd hown hfar HS106 HBC106 HBn8106 HFt106 HFl106 HOE
                refine tkL (.slice A_4 ls.length c_4) (h := ?_)
                (try simp only [Act.put, sA, sB, sC])
                refine wpList_nil ?_
                clear HFl107
                have HDle := Lib.hid (show ∀ g ∈ blkOf A_4, g ∉ St from fun g hg h => HDDt_e_107.out g h hg)
                have HNIe := Lib.hid (own_ne_ty HFe107.out HBC107.out (by decide)); have HGL := Lib.hid (own_low HFe107.out)
                obtain ⟨ge, hge⟩ := own_addr HFe107.out (show 0 < ls.length by have := HJ.out; omega)
                subst hge
                obtain ⟨y, hy⟩ : ∃ y, ls[j]? = some y := ⟨_, List.getElem?_eq_getElem HJ.out⟩
                obtain ⟨P, S0, hP, hE, hback⟩ := own_elS HFe107.out hy
                have HP := Lib.hid hP; have HE := Lib.hid (show Blk w107 ge 56 (el P #[.int .i64 y.se, .int .i64 y.fl, .int .i64 y.fm, .int .i64 y.to, .int .i64 y.ma, .int .i64 y.ca, .int .i64 y.ph, .int .i64 y.un, .int .i64 y.re, .int .i64 y.gr] S0) from hE); have HBKC := Lib.hid (show ∀ w', Blk w' ge 56 (el P #[.int .i64 ((os i).l.se), .int .i64 ((os i).l.fl), .int .i64 ((os i).l.fm), .int .i64 ((os i).l.to), .int .i64 ((os i).l.ma), .int .i64 ((os i).l.ca), .int .i64 ((os i).l.ph), .int .i64 ((os i).l.un), .int .i64 ((os i).l.re), .int .i64 ((os i).l.gr)] S0) → w'.ownsRow w.heap.size 56 10 (.slice (some ⟨ge, 0, none⟩) ls.length c_4) ls.length (rowsOf leaC (ls.set j (os i).l)) from fun w' h => hback (os i).l w' h); clear hP hE hback hy
                have HNCE := Lib.hid (Blk.ne_ HBC107.out HE.out (by decide)); have HNXE := Lib.hid (show bn8 ≠ ge from fun h => HIn8_e_107.out (by rw [h]; simp [blkOf])); have HGE := Lib.hid (HGL.out ge (by simp [blkOf])); have HITE := Lib.hid (show ge ∉ St from HDle.out ge (by simp [blkOf]))
                clear HFe107
                go_upto_region 36 with fail
                refine wp_region_lit ?_
                refine tkL (.slice (some ⟨ge, 0, none⟩) ls.length c_4) (h := ?_)
                (try simp only [Act.put, sA, sB, sC])
                refine tkL (.int .i64 (j : Int)) (h := ?_)
                (try simp only [Act.put, sA, sB, sC])
                refine wpList_q (by rfl) (.agg #[.int .i64 ((os i).l.se), .int .i64 ((os i).l.fl), .int .i64 ((os i).l.fm), .int .i64 ((os i).l.to), .int .i64 ((os i).l.ma), .int .i64 ((os i).l.ca), .int .i64 ((os i).l.ph), .int .i64 ((os i).l.un), .int .i64 ((os i).l.re), .int .i64 ((os i).l.gr)]) ?he ?_
                case he => exact exec_load_row 56 _ _ HBn8107.out rfl rfl Try.underlying56 rfl (by kernel_rfl)
                (try simp only [Act.put, sA, sB, sC])
                refine wpList_q (by rfl) (.pointer (some ⟨ge, j * 10, none⟩)) ?he ?_
                case he => (rw [show j * 10 = 0 + j * 10 by omega]; exact exec_index (i := j) (s := 10) 24 56 _ _ rfl rfl rfl rfl HJ.out Try.underlying24 (by kernel_rfl))
                (try simp only [Act.put, sA, sB, sC])
                refine wpList_wp (by rfl) (fun K hK => ?_)
                refine wp_st_part 56 _ _ rfl (el P #[.int .i64 ((os i).l.se), .int .i64 ((os i).l.fl), .int .i64 ((os i).l.fm), .int .i64 ((os i).l.to), .int .i64 ((os i).l.ma), .int .i64 ((os i).l.ca), .int .i64 ((os i).l.ph), .int .i64 ((os i).l.un), .int .i64 ((os i).l.re), .int .i64 ((os i).l.gr)] S0) (#[.int .i64 ((os i).l.se), .int .i64 ((os i).l.fl), .int .i64 ((os i).l.fm), .int .i64 ((os i).l.to), .int .i64 ((os i).l.ma), .int .i64 ((os i).l.ca), .int .i64 ((os i).l.ph), .int .i64 ((os i).l.un), .int .i64 ((os i).l.re), .int .i64 ((os i).l.gr)]) rfl rfl HE.out (el_le (j := 0) HP.out (by show 0 + 10 ≤ 10; decide)) (el_put (j := 0) HP.out (by show 0 + 10 ≤ 10; decide) (putLea y (os i).l)) (by simp [cfgC, Value.oneCell']) (by kernel_rfl) ?_
                intro w108 hw
                refine hK.out _ _ ?_
                clear hK K
                (try simp only [Act.put, sA, sB, sC])
                have HS108 := Lib.hid (show Since w w108 by rw [hw]; exact Since.setRow HS107.out HGE.out _)
                have HBC108 := Lib.hid (show Blk w108 w.heap.size 23 (cfgC c) by rw [hw]; exact Blk.row_far HBC107.out HNCE.out _)
                have HBn8108 := Lib.hid (show Blk w108 bn8 56 #[.int .i64 ((os i).l.se), .int .i64 ((os i).l.fl), .int .i64 ((os i).l.fm), .int .i64 ((os i).l.to), .int .i64 ((os i).l.ma), .int .i64 ((os i).l.ca), .int .i64 ((os i).l.ph), .int .i64 ((os i).l.un), .int .i64 ((os i).l.re), .int .i64 ((os i).l.gr)] by rw [hw]; exact Blk.row_far HBn8107.out HNXE.out _)
                have HBE108 := Lib.hid (show Blk w108 ge 56 (el P #[.int .i64 ((os i).l.se), .int .i64 ((os i).l.fl), .int .i64 ((os i).l.fm), .int .i64 ((os i).l.to), .int .i64 ((os i).l.ma), .int .i64 ((os i).l.ca), .int .i64 ((os i).l.ph), .int .i64 ((os i).l.un), .int .i64 ((os i).l.re), .int .i64 ((os i).l.gr)] S0) by rw [hw]; exact Blk.row HE.out _)
                have HFt_108 := Lib.hid (show TO w.heap.size t1 c ls St w108 by rw [hw]; exact TO.row_far HFt107.out HITE.out _)
                clear hw HS107 HBC107 HBn8107 HE HFt107
                refine wpList_nil ?_
                have HL2 := Lib.hid (show (w108).ownsRow w.heap.size 56 10 (.slice (some ⟨ge, 0, none⟩) (ls.set j (os i).l).length c_4) (ls.set j (os i).l).length (rowsOf leaC (ls.set j (os i).l)) by rw [List.length_set]; exact HBKC.out _ HBE108.out); clear HBE108
                have HDle2 := Lib.hid (show ∀ g ∈ blkOf (some ⟨ge, 0, none⟩), g ∉ St from HDle.out)
                go_upto_region 37 with fail
                refine wp_region_lit ?_
                refine tkL (.pointer (some ⟨t1, 0, none⟩)) (h := ?_)
                (try simp only [Act.put, sA, sB, sC])
                refine wpList_q (by rfl) (.agg #[.int .i64 ((os i).l.se), .int .i64 ((os i).l.fl), .int .i64 ((os i).l.fm), .int .i64 ((os i).l.to), .int .i64 ((os i).l.ma), .int .i64 ((os i).l.ca), .int .i64 ((os i).l.ph), .int .i64 ((os i).l.un), .int .i64 ((os i).l.re), .int .i64 ((os i).l.gr)]) ?he ?_
                case he => exact exec_load_row 56 _ _ HBn8108.out rfl rfl Try.underlying56 rfl (by kernel_rfl)
                (try simp only [Act.put, sA, sB, sC])
                refine wpList_wp (by rfl) (fun K hK => ?_)
                (try go_simp)
                refine (setV w.heap.size t1 c ls St (os i).l _ HFt_108.out (by have := HLB.out; omega) 0 (ls.set j (os i).l) (set0 HG.out HAT.out).1 (set0 HG.out HAT.out).2).mono ?_
                rintro e w109 ⟨St_5, rfl, hobj, hupd, hfar⟩
                (try go_wp2_with fail)
                refine hK.out _ _ ?_
                clear hK K
                (try simp only [Act.put, sA, sB, sC])
                have HS109 := Lib.hid (Since.upd HS108.out hupd (TO.low HFt_108.out))
                have HBC109 := Lib.hid (Upd.blk hupd HBC108.out HIC.out)
                have HIC_t_109 := Lib.hid (nin_next hfar HIC.out (Blk.lt HBC108.out))
                have HBn8109 := Lib.hid (Upd.blk hupd HBn8108.out HIn8_t.out)
                have HIn8_t_109 := Lib.hid (nin_next hfar HIn8_t.out (Blk.lt HBn8108.out))
                have HFl109 := Lib.hid (Upd.own hupd HL2.out HDle2.out)
                have HDDl_t_109 := Lib.hid (dis_next hfar HDle2.out (own_lt HL2.out))
                have HFt109 := Lib.hid hobj
                clear hupd hobj hfar HS108 HBC108 HBn8108 HFt_108 HL2
                refine tkL (.int .i64 0) (h := ?_)
                (try simp only [Act.put, sA, sB, sC])
                refine wpList_q (by rfl) (.bool false) ?he ?_
                case he => (go_simp; (try with_reducible rfl))
                (try simp only [Act.put, sA, sB, sC])
                refine wpList_nil ?_
                go_wp2_with fail
                refine Met.intro ?_
                exact hJ3 _ _ ⟨(ls.set j (os i).l), St_5, (some ⟨ge, 0, none⟩), c_4, ⟨rfl, rfl, rfl, rfl, rfl, rfl, (by rw [List.length_set]; rfl), rfl, rfl, trivial⟩, Lib.hid ⟨(by have := HLN.out; rw [List.length_set]; omega), (US.set HUS.out HAT.out), (QI.set HQI.out HAT.out), HIC_t_109.out, HDDl_t_109.out, HS109.out, HBC109.out, HFt109.out, HFl109.out⟩⟩
               | none =>
                have HAT := Lib.hid hat; clear hat
                rw [show oI none = -1 from rfl]
                go_upto_region 33 with fail
                refine wp_region_lit ?_
                refine tkL (.int .i64 (-1)) (h := ?_)
                (try simp only [Act.put, sA, sB, sC])
                refine wpList_q (by rfl) (.bool true) ?he ?_
                case he => (go_simp; (try with_reducible rfl))
                (try simp only [Act.put, sA, sB, sC])
                refine wpList_nil ?_
                go_upto_region 34 with fail
                refine wp_region_lit ?_
                refine tkL (.int .i64 6) (h := ?_)
                (try simp only [Act.put, sA, sB, sC])
                refine wpList_nil ?_
                go_upto_region 37 with fail
                refine wp_region_lit ?_
                refine tkL (.pointer (some ⟨t1, 0, none⟩)) (h := ?_)
                (try simp only [Act.put, sA, sB, sC])
                refine wpList_q (by rfl) (.agg #[.int .i64 ((os i).l.se), .int .i64 ((os i).l.fl), .int .i64 ((os i).l.fm), .int .i64 ((os i).l.to), .int .i64 ((os i).l.ma), .int .i64 ((os i).l.ca), .int .i64 ((os i).l.ph), .int .i64 ((os i).l.un), .int .i64 ((os i).l.re), .int .i64 ((os i).l.gr)]) ?he ?_
                case he => exact exec_load_row 56 _ _ HBn8105.out rfl rfl Try.underlying56 rfl (by kernel_rfl)
                (try simp only [Act.put, sA, sB, sC])
                refine wpList_wp (by rfl) (fun K hK => ?_)
                (try go_simp)
                refine (setV w.heap.size t1 c ls St (os i).l _ HFt105.out (by have := HLB.out; omega) 6 ls (set6 HG.out HAT.out).1 (set6 HG.out HAT.out).2).mono ?_
                rintro e w106 ⟨St_4, rfl, hobj, hupd, hfar⟩
                (try go_wp2_with fail)
                refine hK.out _ _ ?_
                clear hK K
                (try simp only [Act.put, sA, sB, sC])
                have HS106 := Lib.hid (Since.upd HS105.out hupd (TO.low HFt105.out))
                have HBC106 := Lib.hid (Upd.blk hupd HBC105.out HIC.out)
                have HIC_t_106 := Lib.hid (nin_next hfar HIC.out (Blk.lt HBC105.out))
                have HBn8106 := Lib.hid (Upd.blk hupd HBn8105.out HIn8_t.out)
                have HIn8_t_106 := Lib.hid (nin_next hfar HIn8_t.out (Blk.lt HBn8105.out))
                have HFl106 := Lib.hid (Upd.own hupd HFl105.out HDL.out)
                have HDDl_t_106 := Lib.hid (dis_next hfar HDL.out (own_lt HFl105.out))
                have HFt106 := Lib.hid hobj
                clear hupd hobj hfar HS105 HBC105 HBn8105 HFt105 HFl105
                refine tkL (.int .i64 6) (h := ?_)
                (try simp only [Act.put, sA, sB, sC])
                refine wpList_q (by rfl) (.bool false) ?he ?_
                case he => (go_simp; (try with_reducible rfl))
                (try simp only [Act.put, sA, sB, sC])
                refine wpList_nil ?_
                go_wp2_with fail
                refine Met.intro ?_
                exact hJ3 _ _ ⟨ls, St_4, Al, cl, ⟨rfl, rfl, rfl, rfl, rfl, rfl, rfl, rfl, rfl, trivial⟩, Lib.hid ⟨(by have := HLN.out; omega), HUS.out, HQI.out, HIC_t_106.out, HDDl_t_106.out, HS106.out, HBC106.out, HFt106.out, HFl106.out⟩⟩
          · have HK1 := Lib.hid hcs; clear hcs
            go_upto_region 18 with fail
            refine wp_region_lit ?_
            refine wpList_q (by rfl) (.bool true) ?he ?_
            case he => (have q := HK1.out; go_simp; (first | done | exact q | (simp [q]; done)))
            (try simp only [Act.put, sA, sB, sC])
            refine tkL (.bool true) (h := ?_)
            (try simp only [Act.put, sA, sB, sC])
            refine wpList_nil ?_
            go_upto_region 19 with fail
            refine wp_region_lit ?_
            refine tkL (.int .i64 0) (h := ?_)
            (try simp only [Act.put, sA, sB, sC])
            refine wpList_nil ?_
            cases hg : goodB c (os i).l with
            | false =>
             have HG := Lib.hid hg; clear hg
             go_upto_region 20 with fail
             refine wp_region_lit ?_
             refine wpList_q (by rfl) (.agg (cfgC c)) ?he ?_
             case he => exact exec_load_row 23 _ _ HBC104.out rfl rfl Try.underlying23 rfl (by kernel_rfl)
             (try simp only [Act.put, sA, sB, sC])
             refine wpList_q (by rfl) (.agg #[.int .i64 ((os i).l.se), .int .i64 ((os i).l.fl), .int .i64 ((os i).l.fm), .int .i64 ((os i).l.to), .int .i64 ((os i).l.ma), .int .i64 ((os i).l.ca), .int .i64 ((os i).l.ph), .int .i64 ((os i).l.un), .int .i64 ((os i).l.re), .int .i64 ((os i).l.gr)]) ?he ?_
             case he => exact exec_load_row 56 _ _ HBn8104.out rfl rfl Try.underlying56 rfl (by kernel_rfl)
             (try simp only [Act.put, sA, sB, sC])
             refine wpList_wp (by rfl) (fun K hK => ?_)
             (try go_simp)
             refine (lgW c (os i).l false _ HG.out).mono ?_
             rintro e w105 ⟨rfl, hb⟩
             (try go_wp2_with fail)
             refine hK.out _ _ ?_
             clear hK K
             (try simp only [Act.put, sA, sB, sC])
             have HS105 := Lib.hid (Since.trans HS104.out hb)
             have HBC105 := Lib.hid (keep_blk hb HBC104.out)
             have HBn8105 := Lib.hid (keep_blk hb HBn8104.out)
             have HFt105 := Lib.hid (TO.keep hb HFt104.out)
             have HFl105 := Lib.hid (keep_own hb HFl104.out)
             clear HS104 HBC104 HBn8104 HFt104 HFl104
             clear hb
             refine wpList_q (by rfl) (.bool true) ?he ?_
             case he => (go_simp; (try with_reducible rfl))
             (try simp only [Act.put, sA, sB, sC])
             refine wpList_nil ?_
             go_upto_region 21 with fail
             refine wp_region_lit ?_
             refine tkL (.int .i64 1) (h := ?_)
             (try simp only [Act.put, sA, sB, sC])
             refine wpList_nil ?_
             go_upto_region 27 with fail
             refine wp_region_lit ?_
             refine tkL (.pointer (some ⟨t1, 0, none⟩)) (h := ?_)
             (try simp only [Act.put, sA, sB, sC])
             refine wpList_q (by rfl) (.agg #[.int .i64 ((os i).l.se), .int .i64 ((os i).l.fl), .int .i64 ((os i).l.fm), .int .i64 ((os i).l.to), .int .i64 ((os i).l.ma), .int .i64 ((os i).l.ca), .int .i64 ((os i).l.ph), .int .i64 ((os i).l.un), .int .i64 ((os i).l.re), .int .i64 ((os i).l.gr)]) ?he ?_
             case he => exact exec_load_row 56 _ _ HBn8105.out rfl rfl Try.underlying56 rfl (by kernel_rfl)
             (try simp only [Act.put, sA, sB, sC])
             refine wpList_wp (by rfl) (fun K hK => ?_)
             (try go_simp)
             refine (putV w.heap.size t1 c ls St (os i).l _ HFt105.out (by have := HLB.out; omega) 1 ls (put1 HG.out).1 (put1 HG.out).2).mono ?_
             rintro e w106 ⟨St_4, rfl, hobj, hupd, hfar⟩
             (try go_wp2_with fail)
             refine hK.out _ _ ?_
             clear hK K
             (try simp only [Act.put, sA, sB, sC])
             have HS106 := Lib.hid (Since.upd HS105.out hupd (TO.low HFt105.out))
             have HBC106 := Lib.hid (Upd.blk hupd HBC105.out HIC.out)
             have HIC_t_106 := Lib.hid (nin_next hfar HIC.out (Blk.lt HBC105.out))
             have HBn8106 := Lib.hid (Upd.blk hupd HBn8105.out HIn8_t.out)
             have HIn8_t_106 := Lib.hid (nin_next hfar HIn8_t.out (Blk.lt HBn8105.out))
             have HFl106 := Lib.hid (Upd.own hupd HFl105.out HDL.out)
             have HDDl_t_106 := Lib.hid (dis_next hfar HDL.out (own_lt HFl105.out))
             have HFt106 := Lib.hid hobj
             clear hupd hobj hfar HS105 HBC105 HBn8105 HFt105 HFl105
             refine tkL (.int .i64 1) (h := ?_)
             (try simp only [Act.put, sA, sB, sC])
             refine wpList_q (by rfl) (.bool false) ?he ?_
             case he => (go_simp; (try with_reducible rfl))
             (try simp only [Act.put, sA, sB, sC])
             refine wpList_nil ?_
             go_wp2_with fail
             refine Met.intro ?_
             exact hJ3 _ _ ⟨ls, St_4, Al, cl, ⟨rfl, rfl, rfl, rfl, rfl, rfl, rfl, rfl, rfl, trivial⟩, Lib.hid ⟨(by have := HLN.out; omega), HUS.out, HQI.out, HIC_t_106.out, HDDl_t_106.out, HS106.out, HBC106.out, HFt106.out, HFl106.out⟩⟩
            | true =>
             have HG := Lib.hid hg; clear hg
             go_upto_region 20 with fail
             refine wp_region_lit ?_
             refine wpList_q (by rfl) (.agg (cfgC c)) ?he ?_
             case he => exact exec_load_row 23 _ _ HBC104.out rfl rfl Try.underlying23 rfl (by kernel_rfl)
             (try simp only [Act.put, sA, sB, sC])
             refine wpList_q (by rfl) (.agg #[.int .i64 ((os i).l.se), .int .i64 ((os i).l.fl), .int .i64 ((os i).l.fm), .int .i64 ((os i).l.to), .int .i64 ((os i).l.ma), .int .i64 ((os i).l.ca), .int .i64 ((os i).l.ph), .int .i64 ((os i).l.un), .int .i64 ((os i).l.re), .int .i64 ((os i).l.gr)]) ?he ?_
             case he => exact exec_load_row 56 _ _ HBn8104.out rfl rfl Try.underlying56 rfl (by kernel_rfl)
             (try simp only [Act.put, sA, sB, sC])
             refine wpList_wp (by rfl) (fun K hK => ?_)
             (try go_simp)
             refine (lgW c (os i).l true _ HG.out).mono ?_
             rintro e w105 ⟨rfl, hb⟩
             (try go_wp2_with fail)
             refine hK.out _ _ ?_
             clear hK K
             (try simp only [Act.put, sA, sB, sC])
             have HS105 := Lib.hid (Since.trans HS104.out hb)
             have HBC105 := Lib.hid (keep_blk hb HBC104.out)
             have HBn8105 := Lib.hid (keep_blk hb HBn8104.out)
             have HFt105 := Lib.hid (TO.keep hb HFt104.out)
             have HFl105 := Lib.hid (keep_own hb HFl104.out)
             clear HS104 HBC104 HBn8104 HFt104 HFl104
             clear hb
             refine wpList_q (by rfl) (.bool false) ?he ?_
             case he => (go_simp; (try with_reducible rfl))
             (try simp only [Act.put, sA, sB, sC])
             refine wpList_nil ?_
             cases hat : atP ls (isS (os i).l.se) with
             | some j =>
              have HAS := Lib.hid hat; have HJ := Lib.hid (atP_some hat).1; clear hat
              rw [show oI (some j) = (j : Int) from rfl]
              go_upto_region 22 with fail
              refine wp_region_lit ?_
              refine tkL (.int .i64 (j : Int)) (h := ?_)
              (try simp only [Act.put, sA, sB, sC])
              refine wpList_q (by rfl) (.bool true) ?he ?_
              case he => (go_simp; (first | done | rfl | omega))
              (try simp only [Act.put, sA, sB, sC])
              refine tkL (.bool true) (h := ?_)
              (try simp only [Act.put, sA, sB, sC])
              refine wpList_no (by rfl) ?_
              (try simp only [Act.put, sA, sB, sC])
              refine wpList_no (by rfl) ?_
              (try simp only [Act.put, sA, sB, sC])
              refine tkL (.bool true) (h := ?_)
              (try simp only [Act.put, sA, sB, sC])
              refine wpList_nil ?_
              go_upto_region 23 with fail
              refine wp_region_lit ?_
              refine tkL (.int .i64 7) (h := ?_)
              (try simp only [Act.put, sA, sB, sC])
              refine wpList_nil ?_
              go_upto_region 27 with fail
              refine wp_region_lit ?_
              refine tkL (.pointer (some ⟨t1, 0, none⟩)) (h := ?_)
              (try simp only [Act.put, sA, sB, sC])
              refine wpList_q (by rfl) (.agg #[.int .i64 ((os i).l.se), .int .i64 ((os i).l.fl), .int .i64 ((os i).l.fm), .int .i64 ((os i).l.to), .int .i64 ((os i).l.ma), .int .i64 ((os i).l.ca), .int .i64 ((os i).l.ph), .int .i64 ((os i).l.un), .int .i64 ((os i).l.re), .int .i64 ((os i).l.gr)]) ?he ?_
              case he => exact exec_load_row 56 _ _ HBn8105.out rfl rfl Try.underlying56 rfl (by kernel_rfl)
              (try simp only [Act.put, sA, sB, sC])
              refine wpList_wp (by rfl) (fun K hK => ?_)
              (try go_simp)
              refine (putV w.heap.size t1 c ls St (os i).l _ HFt105.out (by have := HLB.out; omega) 7 ls (put7 HG.out (.inl ⟨_, HAS.out⟩)).1 (put7 HG.out (.inl ⟨_, HAS.out⟩)).2).mono ?_
              rintro e w106 ⟨St_4, rfl, hobj, hupd, hfar⟩
              (try go_wp2_with fail)
              refine hK.out _ _ ?_
              clear hK K
              (try simp only [Act.put, sA, sB, sC])
              have HS106 := Lib.hid (Since.upd HS105.out hupd (TO.low HFt105.out))
              have HBC106 := Lib.hid (Upd.blk hupd HBC105.out HIC.out)
              have HIC_t_106 := Lib.hid (nin_next hfar HIC.out (Blk.lt HBC105.out))
              have HBn8106 := Lib.hid (Upd.blk hupd HBn8105.out HIn8_t.out)
              have HIn8_t_106 := Lib.hid (nin_next hfar HIn8_t.out (Blk.lt HBn8105.out))
              have HFl106 := Lib.hid (Upd.own hupd HFl105.out HDL.out)
              have HDDl_t_106 := Lib.hid (dis_next hfar HDL.out (own_lt HFl105.out))
              have HFt106 := Lib.hid hobj
              clear hupd hobj hfar HS105 HBC105 HBn8105 HFt105 HFl105
              refine tkL (.int .i64 7) (h := ?_)
              (try simp only [Act.put, sA, sB, sC])
              refine wpList_q (by rfl) (.bool false) ?he ?_
              case he => (go_simp; (try with_reducible rfl))
              (try simp only [Act.put, sA, sB, sC])
              refine wpList_nil ?_
              go_wp2_with fail
              refine Met.intro ?_
              exact hJ3 _ _ ⟨ls, St_4, Al, cl, ⟨rfl, rfl, rfl, rfl, rfl, rfl, rfl, rfl, rfl, trivial⟩, Lib.hid ⟨(by have := HLN.out; omega), HUS.out, HQI.out, HIC_t_106.out, HDDl_t_106.out, HS106.out, HBC106.out, HFt106.out, HFl106.out⟩⟩
             | none =>
              have HAS := Lib.hid hat; clear hat
              rw [show oI none = -1 from rfl]
              cases hat : atP ls (isC (os i).l.ca) with
              | some j =>
               have HAC := Lib.hid hat; have HJ := Lib.hid (atP_some hat).1; clear hat
               rw [show oI (some j) = (j : Int) from rfl]
               go_upto_region 22 with fail
               refine wp_region_lit ?_
               refine tkL (.int .i64 (-1)) (h := ?_)
               (try simp only [Act.put, sA, sB, sC])
               refine wpList_q (by rfl) (.bool false) ?he ?_
               case he => (go_simp; (try with_reducible rfl))
               (try simp only [Act.put, sA, sB, sC])
               refine tkL (.bool false) (h := ?_)
               (try simp only [Act.put, sA, sB, sC])
               refine tkL (.int .i64 (j : Int)) (h := ?_)
               (try simp only [Act.put, sA, sB, sC])
               refine wpList_q (by rfl) (.bool true) ?he ?_
               case he => (go_simp; (first | done | rfl | omega))
               (try simp only [Act.put, sA, sB, sC])
               refine tkL (.bool true) (h := ?_)
               (try simp only [Act.put, sA, sB, sC])
               refine wpList_nil ?_
               go_upto_region 23 with fail
               refine wp_region_lit ?_
               refine tkL (.int .i64 7) (h := ?_)
               (try simp only [Act.put, sA, sB, sC])
               refine wpList_nil ?_
               go_upto_region 27 with fail
               refine wp_region_lit ?_
               refine tkL (.pointer (some ⟨t1, 0, none⟩)) (h := ?_)
               (try simp only [Act.put, sA, sB, sC])
               refine wpList_q (by rfl) (.agg #[.int .i64 ((os i).l.se), .int .i64 ((os i).l.fl), .int .i64 ((os i).l.fm), .int .i64 ((os i).l.to), .int .i64 ((os i).l.ma), .int .i64 ((os i).l.ca), .int .i64 ((os i).l.ph), .int .i64 ((os i).l.un), .int .i64 ((os i).l.re), .int .i64 ((os i).l.gr)]) ?he ?_
               case he => exact exec_load_row 56 _ _ HBn8105.out rfl rfl Try.underlying56 rfl (by kernel_rfl)
               (try simp only [Act.put, sA, sB, sC])
               refine wpList_wp (by rfl) (fun K hK => ?_)
               (try go_simp)
               refine (putV w.heap.size t1 c ls St (os i).l _ HFt105.out (by have := HLB.out; omega) 7 ls (put7 HG.out (.inr ⟨_, HAC.out⟩)).1 (put7 HG.out (.inr ⟨_, HAC.out⟩)).2).mono ?_
               rintro e w106 ⟨St_4, rfl, hobj, hupd, hfar⟩
               (try go_wp2_with fail)
               refine hK.out _ _ ?_
               clear hK K
               (try simp only [Act.put, sA, sB, sC])
               have HS106 := Lib.hid (Since.upd HS105.out hupd (TO.low HFt105.out))
               have HBC106 := Lib.hid (Upd.blk hupd HBC105.out HIC.out)
               have HIC_t_106 := Lib.hid (nin_next hfar HIC.out (Blk.lt HBC105.out))
               have HBn8106 := Lib.hid (Upd.blk hupd HBn8105.out HIn8_t.out)
               have HIn8_t_106 := Lib.hid (nin_next hfar HIn8_t.out (Blk.lt HBn8105.out))
               have HFl106 := Lib.hid (Upd.own hupd HFl105.out HDL.out)
               have HDDl_t_106 := Lib.hid (dis_next hfar HDL.out (own_lt HFl105.out))
               have HFt106 := Lib.hid hobj
               clear hupd hobj hfar HS105 HBC105 HBn8105 HFt105 HFl105
               refine tkL (.int .i64 7) (h := ?_)
               (try simp only [Act.put, sA, sB, sC])
               refine wpList_q (by rfl) (.bool false) ?he ?_
               case he => (go_simp; (try with_reducible rfl))
               (try simp only [Act.put, sA, sB, sC])
               refine wpList_nil ?_
               go_wp2_with fail
               refine Met.intro ?_
               exact hJ3 _ _ ⟨ls, St_4, Al, cl, ⟨rfl, rfl, rfl, rfl, rfl, rfl, rfl, rfl, rfl, trivial⟩, Lib.hid ⟨(by have := HLN.out; omega), HUS.out, HQI.out, HIC_t_106.out, HDDl_t_106.out, HS106.out, HBC106.out, HFt106.out, HFl106.out⟩⟩
              | none =>
               have HAC := Lib.hid hat; clear hat
               rw [show oI none = -1 from rfl]
               go_upto_region 22 with fail
               refine wp_region_lit ?_
               refine tkL (.int .i64 (-1)) (h := ?_)
               (try simp only [Act.put, sA, sB, sC])
               refine wpList_q (by rfl) (.bool false) ?he ?_
               case he => (go_simp; (try with_reducible rfl))
               (try simp only [Act.put, sA, sB, sC])
               refine tkL (.bool false) (h := ?_)
               (try simp only [Act.put, sA, sB, sC])
               refine tkL (.int .i64 (-1)) (h := ?_)
               (try simp only [Act.put, sA, sB, sC])
               refine wpList_q (by rfl) (.bool false) ?he ?_
               case he => (go_simp; (try with_reducible rfl))
               (try simp only [Act.put, sA, sB, sC])
               refine tkL (.bool false) (h := ?_)
               (try simp only [Act.put, sA, sB, sC])
               refine wpList_nil ?_
               by_cases hcs : btw c.qo 1 8 ≤ cn ls (os i).l.fl
               rotate_left
               · have HQF := Lib.hid hcs; clear hcs
                 go_upto_region 24 with fail
                 have HKS : Hid (KeepS (fun W : World => Since w W ∧ Blk W w.heap.size 23 (cfgC c) ∧ Blk W bn8 56 #[.int .i64 ((os i).l.se), .int .i64 ((os i).l.fl), .int .i64 ((os i).l.fm), .int .i64 ((os i).l.to), .int .i64 ((os i).l.ma), .int .i64 ((os i).l.ca), .int .i64 ((os i).l.ph), .int .i64 ((os i).l.un), .int .i64 ((os i).l.re), .int .i64 ((os i).l.gr)] ∧ TO w.heap.size t1 c ls St W ∧ (W).ownsRow w.heap.size 56 10 (.slice Al ls.length cl) ls.length (rowsOf leaC ls)) w105) := Lib.hid ⟨fun W W' k ⟨h, h0, h1, h2, h3⟩ => ⟨h.trans k, keep_blk k h0, keep_blk k h1, TO.keep k h2, keep_own k h3⟩, ⟨HS105.out, HBC105.out, HBn8105.out, HFt105.out, HFl105.out⟩⟩
                 have HRK := Lib.hid HKS.out.1
                 refine wp_held HKS.out (by kernel_rfl) (fun hHeld => ?_)
                 refine tkQ 0 (.slice Al ls.length cl) hHeld (h := ?_)
                 (try simp only [Act.put, sA, sB, sC])
                 refine tkQ 1 (.pointer (some ⟨bn8, 0, none⟩)) hHeld (h := ?_)
                 (try simp only [Act.put, sA, sB, sC])
                 refine tkQ 2 (.pointer (some ⟨bn8, 1, none⟩)) hHeld (h := ?_)
                 (try simp only [Act.put, sA, sB, sC])
                 refine tkQ 3 (.int .i64 ((os i).l.fl)) hHeld (he := by intro w hSw; exact exec_cell 3 _ _ hSw.2.2.1 rfl rfl rfl Try.underlying3 rfl) (h := ?_)
                 (try simp only [Act.put, sA, sB, sC])
                 refine tkQ 5 (.agg (cfgC c)) hHeld (he := by intro w hSw; exact exec_load_row 23 _ _ hSw.2.1 rfl rfl Try.underlying23 rfl (by kernel_rfl)) (h := ?_)
                 (try simp only [Act.put, sA, sB, sC])
                 refine wpAnyH_ready (rs := [4]) (by kernel_rfl) (by simp) ?_
                 refine AllReadyH.cons (o := ?o24__4) ?h24__4 (fun K hK => ?_) AllReadyH.nil
                 case h24__4 => (first | (simp only [gA, gB, gC]; done) | (simp only [gA, gB, gC]; exact rfl))
                 (try go_simp)
                 refine (countW _ _ _ ls (os i).l.fl _ (hHeld.2.2.2.2) (by have := HLB.out; omega)).mono ?_
                 rintro e w106 ⟨rfl, hb⟩
                 (try go_wp2_with fail)
                 refine hK.out _ _ (by (apply HRK.out; exact hb; exact hHeld)) (fun hHeld2 => ?_)
                 clear hK K hHeld hb
                 have hHeld := hHeld2
                 clear hHeld2
                 (try simp only [Act.put, sA, sB, sC])
                 refine wpAnyH_ready (rs := [6]) (by kernel_rfl) (by simp) ?_
                 refine AllReadyH.cons (o := ?o24__6) ?h24__6 (fun K hK => ?_) AllReadyH.nil
                 case h24__6 => (first | (simp only [gA, gB, gC]; done) | (simp only [gA, gB, gC]; exact rfl))
                 (try go_simp)
                 refine (quotaW c _).mono ?_
                 rintro e w107 ⟨rfl, hb⟩
                 (try go_wp2_with fail)
                 refine hK.out _ _ (by (apply HRK.out; exact hb; exact hHeld)) (fun hHeld2 => ?_)
                 clear hK K hHeld hb
                 have hHeld := hHeld2
                 clear hHeld2
                 (try simp only [Act.put, sA, sB, sC])
                 refine tkQ 7 (.bool false) hHeld (he := by intro w hSw; (have q0 := HQF.out; go_simp; (first | done | rfl | omega))) (h := ?_)
                 (try simp only [Act.put, sA, sB, sC])
                 refine wpAnyH_done (by kernel_rfl) ?_ _
                 have HSd24 := Lib.hid hHeld.1
                 have HBCd24 := Lib.hid (hHeld.2.1)
                 have HBn8d24 := Lib.hid (hHeld.2.2.1)
                 have HFtd24 := Lib.hid (hHeld.2.2.2.1)
                 have HFld24 := Lib.hid (hHeld.2.2.2.2)
                 clear hHeld HRK HKS HS105 HBC105 HBn8105 HFt105 HFl105
                 go_upto_region 26 with fail
                 refine wp_region_lit ?_
                 refine tkL (.slice Al ls.length cl) (h := ?_)
                 (try simp only [Act.put, sA, sB, sC])
                 refine wpList_q (by rfl) (.agg #[.int .i64 ((os i).l.se), .int .i64 ((os i).l.fl), .int .i64 ((os i).l.fm), .int .i64 ((os i).l.to), .int .i64 ((os i).l.ma), .int .i64 ((os i).l.ca), .int .i64 ((os i).l.ph), .int .i64 ((os i).l.un), .int .i64 ((os i).l.re), .int .i64 ((os i).l.gr)]) ?he ?_
                 case he => exact exec_load_row 56 _ _ HBn8d24.out rfl rfl Try.underlying56 rfl (by kernel_rfl)
                 (try simp only [Act.put, sA, sB, sC])
                 refine wpList_wp (by rfl) (fun K hK => ?_)
                 refine wp_new (fun b => .slice (some ⟨b, 0, none⟩) 1 1) 56 #[.int .i64 ((os i).l.se), .int .i64 ((os i).l.fl), .int .i64 ((os i).l.fm), .int .i64 ((os i).l.to), .int .i64 ((os i).l.ma), .int .i64 ((os i).l.ca), .int .i64 ((os i).l.ph), .int .i64 ((os i).l.un), .int .i64 ((os i).l.re), .int .i64 ((os i).l.gr)] (by rintro b rfl; first | rfl | kernel_rfl) ?_
                 intro bn125 w108 hge hB hb
                 refine hK.out _ _ ?_
                 clear hK K
                 (try simp only [Act.put, sA, sB, sC])
                 have HNn125C := Lib.hid (show bn125 ≠ w.heap.size by have := Blk.lt HBCd24.out; omega)
                 have HNn125n8 := Lib.hid (show bn125 ≠ bn8 by have := Blk.lt HBn8d24.out; omega)
                 have HGn125 := Lib.hid (show w.heap.size ≤ bn125 by have := Since.size HSd24.out; omega)
                 have HIn125_t := Lib.hid (TO.far HFtd24.out hge)
                 have HIn125_l := Lib.hid (own_far HFld24.out hge)
                 have HS108 := Lib.hid (Since.trans HSd24.out hb)
                 have HBC108 := Lib.hid (keep_blk hb HBCd24.out)
                 have HBn8108 := Lib.hid (keep_blk hb HBn8d24.out)
                 have HFt108 := Lib.hid (TO.keep hb HFtd24.out)
                 have HFl108 := Lib.hid (keep_own hb HFld24.out)
                 clear HSd24 HBCd24 HBn8d24 HFtd24 HFld24
                 clear hb hge
                 have HBn125108 := Lib.hid hB
                 clear hB
                 refine wpList_wp (by rfl) (fun K hK => ?_)
                 refine wp_append_row (.tmp 123) (.tmp 125) 24 rfl w.heap.size 56 (Value.agg #[.int .i64 0, .int .i64 0, .int .i64 0, .int .i64 0, .int .i64 0, .int .i64 0, .int .i64 0, .int .i64 0, .int .i64 0, .int .i64 0]) 10 80 Try.underlying24 (by kernel_rfl) rfl (by decide) (by decide) Al ls.length cl (rowsOf leaC ls) rfl HFl108.out _ (some ⟨bn125, 0, none⟩) 1 1 (leaC (os i).l) rfl (reads_blk (cs := leaC (os i).l) HBn125108.out rfl) (leaC_one (os i).l) (by have := HLB.out; omega) (Since.size HS108.out) ((ls ++ [(os i).l]).length) (rowsOf leaC (ls ++ [(os i).l])) (by simp) (by rw [rowsOf_append, rowsOf_one]) ?_
                 intro A_4 c_4 w109 hown hupd hfar
                 refine hK.out _ _ ?_
                 clear hK K
                 (try simp only [Act.put, sA, sB, sC])
                 have HS109 := Lib.hid (Since.upd HS108.out hupd (own_low HFl108.out))
                 have HBC109 := Lib.hid (Upd.blk hupd HBC108.out HIlC.out)
                 have HIC_l_109 := Lib.hid (nin_next hfar HIlC.out (Blk.lt HBC108.out))
                 have HBn8109 := Lib.hid (Upd.blk hupd HBn8108.out HIn8_l.out)
                 have HIn8_l_109 := Lib.hid (nin_next hfar HIn8_l.out (Blk.lt HBn8108.out))
                 have HBn125109 := Lib.hid (Upd.blk hupd HBn125108.out HIn125_l.out)
                 have HIn125_l_109 := Lib.hid (nin_next hfar HIn125_l.out (Blk.lt HBn125108.out))
                 have HFt109 := Lib.hid (TO.upd hupd HFt108.out (fun g hg h => HDL.out g h hg))
                 have HDDt_l_109 := Lib.hid (dis_next hfar (fun g hg h => HDL.out g h hg) (TO.lt HFt108.out))
                 have HFl109 := Lib.hid hown
                 clear hupd hown hfar HS108 HBC108 HBn8108 HBn125108 HFt108 HFl108
                 refine tkL (.slice A_4 ((ls ++ [(os i).l]).length) c_4) (h := ?_)
                 (try simp only [Act.put, sA, sB, sC])
                 refine wpList_nil ?_
                 go_upto_region 27 with fail
                 refine wp_region_lit ?_
                 refine tkL (.pointer (some ⟨t1, 0, none⟩)) (h := ?_)
                 (try simp only [Act.put, sA, sB, sC])
                 refine wpList_q (by rfl) (.agg #[.int .i64 ((os i).l.se), .int .i64 ((os i).l.fl), .int .i64 ((os i).l.fm), .int .i64 ((os i).l.to), .int .i64 ((os i).l.ma), .int .i64 ((os i).l.ca), .int .i64 ((os i).l.ph), .int .i64 ((os i).l.un), .int .i64 ((os i).l.re), .int .i64 ((os i).l.gr)]) ?he ?_
                 case he => exact exec_load_row 56 _ _ HBn8109.out rfl rfl Try.underlying56 rfl (by kernel_rfl)
                 (try simp only [Act.put, sA, sB, sC])
                 refine wpList_wp (by rfl) (fun K hK => ?_)
                 (try go_simp)
                 refine (putV w.heap.size t1 c ls St (os i).l _ HFt109.out (by have := HLB.out; omega) 0 (ls ++ [(os i).l]) (put0 HG.out HAS.out HAC.out (show cn ls (os i).l.fl < btw c.qo 1 8 by have := HQF.out; omega)).1 (put0 HG.out HAS.out HAC.out (show cn ls (os i).l.fl < btw c.qo 1 8 by have := HQF.out; omega)).2).mono ?_
                 rintro e w110 ⟨St_5, rfl, hobj, hupd, hfar⟩
                 (try go_wp2_with fail)
                 refine hK.out _ _ ?_
                 clear hK K
                 (try simp only [Act.put, sA, sB, sC])
                 have HS110 := Lib.hid (Since.upd HS109.out hupd (TO.low HFt109.out))
                 have HBC110 := Lib.hid (Upd.blk hupd HBC109.out HIC.out)
                 have HIC_t_110 := Lib.hid (nin_next hfar HIC.out (Blk.lt HBC109.out))
                 have HBn8110 := Lib.hid (Upd.blk hupd HBn8109.out HIn8_t.out)
                 have HIn8_t_110 := Lib.hid (nin_next hfar HIn8_t.out (Blk.lt HBn8109.out))
                 have HBn125110 := Lib.hid (Upd.blk hupd HBn125109.out HIn125_t.out)
                 have HIn125_t_110 := Lib.hid (nin_next hfar HIn125_t.out (Blk.lt HBn125109.out))
                 have HFl110 := Lib.hid (Upd.own hupd HFl109.out (fun g hg h => HDDt_l_109.out g h hg))
                 have HDDl_t_110 := Lib.hid (dis_next hfar (fun g hg h => HDDt_l_109.out g h hg) (own_lt HFl109.out))
                 have HFt110 := Lib.hid hobj
                 clear hupd hobj hfar HS109 HBC109 HBn8109 HBn125109 HFt109 HFl109
                 refine tkL (.int .i64 0) (h := ?_)
                 (try simp only [Act.put, sA, sB, sC])
                 refine wpList_q (by rfl) (.bool false) ?he ?_
                 case he => (go_simp; (try with_reducible rfl))
                 (try simp only [Act.put, sA, sB, sC])
                 refine wpList_nil ?_
                 go_wp2_with fail
                 refine Met.intro ?_
                 exact hJ3 _ _ ⟨(ls ++ [(os i).l]), St_5, A_4, c_4, ⟨rfl, rfl, rfl, rfl, rfl, rfl, (by rw [show (ls ++ [(os i).l]).length = ls.length + 1 by simp]; rfl), rfl, rfl, trivial⟩, Lib.hid ⟨(by have := HLN.out; simp; omega), (US.add HUS.out HAS.out HAC.out), (QI.add HQI.out (show cn ls (os i).l.fl < btw c.qo 1 8 by have := HQF.out; omega)), HIC_t_110.out, HDDl_t_110.out, HS110.out, HBC110.out, HFt110.out, HFl110.out⟩⟩
               · have HQF := Lib.hid hcs; clear hcs
                 go_upto_region 24 with fail
                 have HKS : Hid (KeepS (fun W : World => Since w W ∧ Blk W w.heap.size 23 (cfgC c) ∧ Blk W bn8 56 #[.int .i64 ((os i).l.se), .int .i64 ((os i).l.fl), .int .i64 ((os i).l.fm), .int .i64 ((os i).l.to), .int .i64 ((os i).l.ma), .int .i64 ((os i).l.ca), .int .i64 ((os i).l.ph), .int .i64 ((os i).l.un), .int .i64 ((os i).l.re), .int .i64 ((os i).l.gr)] ∧ TO w.heap.size t1 c ls St W ∧ (W).ownsRow w.heap.size 56 10 (.slice Al ls.length cl) ls.length (rowsOf leaC ls)) w105) := Lib.hid ⟨fun W W' k ⟨h, h0, h1, h2, h3⟩ => ⟨h.trans k, keep_blk k h0, keep_blk k h1, TO.keep k h2, keep_own k h3⟩, ⟨HS105.out, HBC105.out, HBn8105.out, HFt105.out, HFl105.out⟩⟩
                 have HRK := Lib.hid HKS.out.1
                 refine wp_held HKS.out (by kernel_rfl) (fun hHeld => ?_)
                 refine tkQ 0 (.slice Al ls.length cl) hHeld (h := ?_)
                 (try simp only [Act.put, sA, sB, sC])
                 refine tkQ 1 (.pointer (some ⟨bn8, 0, none⟩)) hHeld (h := ?_)
                 (try simp only [Act.put, sA, sB, sC])
                 refine tkQ 2 (.pointer (some ⟨bn8, 1, none⟩)) hHeld (h := ?_)
                 (try simp only [Act.put, sA, sB, sC])
                 refine tkQ 3 (.int .i64 ((os i).l.fl)) hHeld (he := by intro w hSw; exact exec_cell 3 _ _ hSw.2.2.1 rfl rfl rfl Try.underlying3 rfl) (h := ?_)
                 (try simp only [Act.put, sA, sB, sC])
                 refine tkQ 5 (.agg (cfgC c)) hHeld (he := by intro w hSw; exact exec_load_row 23 _ _ hSw.2.1 rfl rfl Try.underlying23 rfl (by kernel_rfl)) (h := ?_)
                 (try simp only [Act.put, sA, sB, sC])
                 refine wpAnyH_ready (rs := [4]) (by kernel_rfl) (by simp) ?_
                 refine AllReadyH.cons (o := ?o24__4) ?h24__4 (fun K hK => ?_) AllReadyH.nil
                 case h24__4 => (first | (simp only [gA, gB, gC]; done) | (simp only [gA, gB, gC]; exact rfl))
                 (try go_simp)
                 refine (countW _ _ _ ls (os i).l.fl _ (hHeld.2.2.2.2) (by have := HLB.out; omega)).mono ?_
                 rintro e w106 ⟨rfl, hb⟩
                 (try go_wp2_with fail)
                 refine hK.out _ _ (by (apply HRK.out; exact hb; exact hHeld)) (fun hHeld2 => ?_)
                 clear hK K hHeld hb
                 have hHeld := hHeld2
                 clear hHeld2
                 (try simp only [Act.put, sA, sB, sC])
                 refine wpAnyH_ready (rs := [6]) (by kernel_rfl) (by simp) ?_
                 refine AllReadyH.cons (o := ?o24__6) ?h24__6 (fun K hK => ?_) AllReadyH.nil
                 case h24__6 => (first | (simp only [gA, gB, gC]; done) | (simp only [gA, gB, gC]; exact rfl))
                 (try go_simp)
                 refine (quotaW c _).mono ?_
                 rintro e w107 ⟨rfl, hb⟩
                 (try go_wp2_with fail)
                 refine hK.out _ _ (by (apply HRK.out; exact hb; exact hHeld)) (fun hHeld2 => ?_)
                 clear hK K hHeld hb
                 have hHeld := hHeld2
                 clear hHeld2
                 (try simp only [Act.put, sA, sB, sC])
                 refine tkQ 7 (.bool true) hHeld (he := by intro w hSw; (have q0 := HQF.out; go_simp; (first | done | rfl | omega))) (h := ?_)
                 (try simp only [Act.put, sA, sB, sC])
                 refine wpAnyH_done (by kernel_rfl) ?_ _
                 have HSd24 := Lib.hid hHeld.1
                 have HBCd24 := Lib.hid (hHeld.2.1)
                 have HBn8d24 := Lib.hid (hHeld.2.2.1)
                 have HFtd24 := Lib.hid (hHeld.2.2.2.1)
                 have HFld24 := Lib.hid (hHeld.2.2.2.2)
                 clear hHeld HRK HKS HS105 HBC105 HBn8105 HFt105 HFl105
                 go_upto_region 25 with fail
                 refine wp_region_lit ?_
                 refine tkL (.int .i64 5) (h := ?_)
                 (try simp only [Act.put, sA, sB, sC])
                 refine wpList_nil ?_
                 go_upto_region 27 with fail
                 refine wp_region_lit ?_
                 refine tkL (.pointer (some ⟨t1, 0, none⟩)) (h := ?_)
                 (try simp only [Act.put, sA, sB, sC])
                 refine wpList_q (by rfl) (.agg #[.int .i64 ((os i).l.se), .int .i64 ((os i).l.fl), .int .i64 ((os i).l.fm), .int .i64 ((os i).l.to), .int .i64 ((os i).l.ma), .int .i64 ((os i).l.ca), .int .i64 ((os i).l.ph), .int .i64 ((os i).l.un), .int .i64 ((os i).l.re), .int .i64 ((os i).l.gr)]) ?he ?_
                 case he => exact exec_load_row 56 _ _ HBn8d24.out rfl rfl Try.underlying56 rfl (by kernel_rfl)
                 (try simp only [Act.put, sA, sB, sC])
                 refine wpList_wp (by rfl) (fun K hK => ?_)
                 (try go_simp)
                 refine (putV w.heap.size t1 c ls St (os i).l _ HFtd24.out (by have := HLB.out; omega) 5 ls (put5 HG.out HAS.out HAC.out HQF.out).1 (put5 HG.out HAS.out HAC.out HQF.out).2).mono ?_
                 rintro e w108 ⟨St_4, rfl, hobj, hupd, hfar⟩
                 (try go_wp2_with fail)
                 refine hK.out _ _ ?_
                 clear hK K
                 (try simp only [Act.put, sA, sB, sC])
                 have HS108 := Lib.hid (Since.upd HSd24.out hupd (TO.low HFtd24.out))
                 have HBC108 := Lib.hid (Upd.blk hupd HBCd24.out HIC.out)
                 have HIC_t_108 := Lib.hid (nin_next hfar HIC.out (Blk.lt HBCd24.out))
                 have HBn8108 := Lib.hid (Upd.blk hupd HBn8d24.out HIn8_t.out)
                 have HIn8_t_108 := Lib.hid (nin_next hfar HIn8_t.out (Blk.lt HBn8d24.out))
                 have HFl108 := Lib.hid (Upd.own hupd HFld24.out HDL.out)
                 have HDDl_t_108 := Lib.hid (dis_next hfar HDL.out (own_lt HFld24.out))
                 have HFt108 := Lib.hid hobj
                 clear hupd hobj hfar HSd24 HBCd24 HBn8d24 HFtd24 HFld24
                 refine tkL (.int .i64 5) (h := ?_)
                 (try simp only [Act.put, sA, sB, sC])
                 refine wpList_q (by rfl) (.bool false) ?he ?_
                 case he => (go_simp; (try with_reducible rfl))
                 (try simp only [Act.put, sA, sB, sC])
                 refine wpList_nil ?_
                 go_wp2_with fail
                 refine Met.intro ?_
                 exact hJ3 _ _ ⟨ls, St_4, Al, cl, ⟨rfl, rfl, rfl, rfl, rfl, rfl, rfl, rfl, rfl, trivial⟩, Lib.hid ⟨(by have := HLN.out; omega), HUS.out, HQI.out, HIC_t_108.out, HDDl_t_108.out, HS108.out, HBC108.out, HFt108.out, HFl108.out⟩⟩
         case rest3 =>
          intro fr wc hR
          clear HS104 HBC104 HBn8104 HFt104 HFl104
          obtain ⟨ls2, S2, A2, c2, hF, HO⟩ := hR
          obtain ⟨e0, e1, e2, e3, e4, g0, g1, g2, g3⟩ := HO.out
          clear HO
          have HLN2 := Lib.hid e0
          have HUS2 := Lib.hid e1
          have HQI2 := Lib.hid e2
          have HIC2 := Lib.hid e3
          have HDL2 := Lib.hid e4
          have HS154 := Lib.hid g0
          have HBC154 := Lib.hid g1
          have HFt154 := Lib.hid g2
          have HFl154 := Lib.hid g3
          clear e0 e1 e2 e3 e4 g0 g1 g2 g3
          obtain ⟨u, hu⟩ := hF.open_
          have hu2 := hu.trans (show _ = #[.agg (cfgC c), .slice (some ⟨go, oo, none⟩) on oc, .pointer (some ⟨w.heap.size, 0, none⟩), u 3, .bool false, .pointer (some ⟨t1, 0, none⟩), .slice A2 ls2.length c2, .int .i64 (i : Int), u 8, u 9, u 10, u 11, u 12, u 13, u 14, u 15, u 16, u 17, u 18, u 19, u 20, u 21, u 22, u 23, u 24, u 25, u 26, u 27, u 28, u 29, u 30, u 31, u 32, u 33, u 34, u 35, u 36, u 37, u 38, u 39, u 40, u 41, u 42, u 43, u 44, u 45, u 46, u 47, u 48, u 49, u 50, u 51, u 52, u 53, u 54, u 55, u 56, u 57, u 58, u 59, u 60, u 61, u 62, u 63, u 64, u 65, u 66, u 67, u 68, u 69, u 70, u 71, u 72, u 73, u 74, u 75, u 76, u 77, u 78, u 79, u 80, u 81, u 82, u 83, u 84, u 85, u 86, u 87, u 88, u 89, u 90, u 91, u 92, u 93, u 94, u 95, u 96, u 97, u 98, u 99, u 100, u 101, .int .i64 ((os i).k), u 103, u 104, u 105, u 106, u 107, u 108, u 109, u 110, u 111, u 112, u 113, u 114, u 115, u 116, u 117, u 118, u 119, u 120, u 121, u 122, u 123, u 124, u 125, u 126, u 127, u 128, u 129, u 130, u 131, u 132, u 133, u 134, u 135, u 136, u 137, u 138, u 139, u 140, u 141, u 142, u 143, u 144, u 145, u 146, u 147, u 148, u 149, u 150, u 151, u 152, u 153, u 154, u 155, u 156, u 157, u 158, u 159, u 160, u 161, u 162, u 163, u 164, u 165, u 166, u 167, u 168, u 169, u 170, u 171, u 172, u 173, u 174, u 175, u 176, u 177, u 178, u 179, u 180, u 181, u 182, u 183, u 184, u 185, u 186, u 187, u 188, u 189, u 190, u 191, u 192, u 193, u 194, u 195, u 196, u 197, u 198, u 199, u 200, u 201, u 202, u 203, u 204, u 205, u 206, u 207, u 208, u 209, u 210, u 211, u 212, u 213, u 214, u 215, u 216, u 217, u 218, u 219, u 220, u 221, u 222, u 223, u 224, u 225, u 226, u 227, u 228, u 229, u 230, u 231, u 232, u 233, u 234, u 235, u 236, u 237, u 238, u 239, u 240, u 241, u 242, u 243, u 244, u 245, u 246, u 247, u 248, u 249, u 250, u 251, u 252, u 253, u 254, u 255, u 256, u 257, u 258, u 259, u 260, u 261, u 262, u 263, u 264] by kernel_rfl)
          clear hu hF
          subst hu2
          clear HLB
          have HLB := Lib.hid (show ls2.length ≤ 201 by have := HLN2.out; have := HI200.out; omega)
          go_upto_region 45 with fail
          refine wp_region_lit ?_
          refine tkL (.pointer (some ⟨t1, 0, none⟩)) (h := ?_)
          (try simp only [Act.put, sA, sB, sC])
          refine wpList_wp (by rfl) (fun K hK => ?_)
          (try go_simp)
          refine (listV w.heap.size t1 c ls2 S2 _ HFt154.out (by have := HLB.out; omega) ls2.length rfl).mono ?_
          rintro e w155 ⟨Am, cm, rfl, hown, hb⟩
          (try go_wp2_with fail)
          refine hK.out _ _ ?_
          clear hK K
          (try simp only [Act.put, sA, sB, sC])
          have HRm := Lib.hid hown; clear hown
          have HS155 := Lib.hid (Since.trans HS154.out hb)
          have HBC155 := Lib.hid (keep_blk hb HBC154.out)
          have HFt155 := Lib.hid (TO.keep hb HFt154.out)
          have HFl155 := Lib.hid (keep_own hb HFl154.out)
          clear HS154 HBC154 HFt154 HFl154
          clear hb
          refine tkL (.slice A2 ls2.length c2) (h := ?_)
          (try simp only [Act.put, sA, sB, sC])
          refine wpList_wp (by rfl) (fun K hK => ?_)
          (try go_simp)
          refine (sameL _ _ _ _ _ _ ls2 _ (by have := HLB.out; omega) HRm.out HFl155.out).mono ?_
          rintro e w156 ⟨rfl, hb⟩
          (try go_wp2_with fail)
          refine hK.out _ _ ?_
          clear hK K
          (try simp only [Act.put, sA, sB, sC])
          have HS156 := Lib.hid (Since.trans HS155.out hb)
          have HBC156 := Lib.hid (keep_blk hb HBC155.out)
          have HFt156 := Lib.hid (TO.keep hb HFt155.out)
          have HFl156 := Lib.hid (keep_own hb HFl155.out)
          have HFm156 := Lib.hid (keep_own hb HRm.out)
          clear HS155 HBC155 HFt155 HFl155 HRm
          clear hb
          refine wpList_q (by rfl) (.bool false) ?he ?_
          case he => (go_simp; (try with_reducible rfl))
          (try simp only [Act.put, sA, sB, sC])
          refine wpList_nil ?_
          clear HFm156
          go_upto_region 47 with fail
          refine wp_region_lit ?_
          refine tkL (.int .i64 0) (h := ?_)
          (try simp only [Act.put, sA, sB, sC])
          refine wpList_nil ?_
          go_wp2_with fail
          refine wp_uloop (ds := []) (fun n fr wr => ∃ p : Nat, (ls2.length - p) = n ∧ Fits fr 265 [(0, .agg (cfgC c)), (1, .slice (some ⟨go, oo, none⟩) on oc), (2, .pointer (some ⟨w.heap.size, 0, none⟩)), (4, .bool false), (5, .pointer (some ⟨t1, 0, none⟩)), (6, .slice A2 ls2.length c2), (7, .int .i64 (i : Int)), (17, .int .i64 (p : Int)), (102, .int .i64 ((os i).k))] ∧ Hid (p ≤ ls2.length ∧ Since w wr ∧ Blk wr w.heap.size 23 (cfgC c) ∧ TO w.heap.size t1 c ls2 S2 wr ∧ (wr).ownsRow w.heap.size 56 10 (.slice A2 ls2.length c2) ls2.length (rowsOf leaC ls2))) (ls2.length - 0) ?start156 ?round156
          case start156 => exact ⟨0, rfl, ⟨rfl, rfl, rfl, rfl, rfl, rfl, rfl, rfl, rfl, rfl, trivial⟩, Lib.hid ⟨Nat.zero_le _, HS156.out, HBC156.out, HFt156.out, HFl156.out⟩⟩
          case round156 =>
           intro n fr wr hR J4 K4 hJ4 hK4
           clear HS156 HBC156 HFt156 HFl156
           obtain ⟨p, hn, hF, HO⟩ := hR
           have HMp := Lib.hid hn; clear hn
           obtain ⟨e0, g0, g1, g2, g3⟩ := HO.out
           clear HO
           have HPp := Lib.hid e0
           have HS206 := Lib.hid g0
           have HBC206 := Lib.hid g1
           have HFt206 := Lib.hid g2
           have HFl206 := Lib.hid g3
           clear e0 g0 g1 g2 g3
           obtain ⟨u, hu⟩ := hF.open_
           have hu2 := hu.trans (show _ = #[.agg (cfgC c), .slice (some ⟨go, oo, none⟩) on oc, .pointer (some ⟨w.heap.size, 0, none⟩), u 3, .bool false, .pointer (some ⟨t1, 0, none⟩), .slice A2 ls2.length c2, .int .i64 (i : Int), u 8, u 9, u 10, u 11, u 12, u 13, u 14, u 15, u 16, .int .i64 (p : Int), u 18, u 19, u 20, u 21, u 22, u 23, u 24, u 25, u 26, u 27, u 28, u 29, u 30, u 31, u 32, u 33, u 34, u 35, u 36, u 37, u 38, u 39, u 40, u 41, u 42, u 43, u 44, u 45, u 46, u 47, u 48, u 49, u 50, u 51, u 52, u 53, u 54, u 55, u 56, u 57, u 58, u 59, u 60, u 61, u 62, u 63, u 64, u 65, u 66, u 67, u 68, u 69, u 70, u 71, u 72, u 73, u 74, u 75, u 76, u 77, u 78, u 79, u 80, u 81, u 82, u 83, u 84, u 85, u 86, u 87, u 88, u 89, u 90, u 91, u 92, u 93, u 94, u 95, u 96, u 97, u 98, u 99, u 100, u 101, .int .i64 ((os i).k), u 103, u 104, u 105, u 106, u 107, u 108, u 109, u 110, u 111, u 112, u 113, u 114, u 115, u 116, u 117, u 118, u 119, u 120, u 121, u 122, u 123, u 124, u 125, u 126, u 127, u 128, u 129, u 130, u 131, u 132, u 133, u 134, u 135, u 136, u 137, u 138, u 139, u 140, u 141, u 142, u 143, u 144, u 145, u 146, u 147, u 148, u 149, u 150, u 151, u 152, u 153, u 154, u 155, u 156, u 157, u 158, u 159, u 160, u 161, u 162, u 163, u 164, u 165, u 166, u 167, u 168, u 169, u 170, u 171, u 172, u 173, u 174, u 175, u 176, u 177, u 178, u 179, u 180, u 181, u 182, u 183, u 184, u 185, u 186, u 187, u 188, u 189, u 190, u 191, u 192, u 193, u 194, u 195, u 196, u 197, u 198, u 199, u 200, u 201, u 202, u 203, u 204, u 205, u 206, u 207, u 208, u 209, u 210, u 211, u 212, u 213, u 214, u 215, u 216, u 217, u 218, u 219, u 220, u 221, u 222, u 223, u 224, u 225, u 226, u 227, u 228, u 229, u 230, u 231, u 232, u 233, u 234, u 235, u 236, u 237, u 238, u 239, u 240, u 241, u 242, u 243, u 244, u 245, u 246, u 247, u 248, u 249, u 250, u 251, u 252, u 253, u 254, u 255, u 256, u 257, u 258, u 259, u 260, u 261, u 262, u 263, u 264] by kernel_rfl)
           clear hu hF
           subst hu2
           by_cases hcs : p < ls2.length
           rotate_left
           · have HKL := Lib.hid hcs; clear hcs
             go_upto_region 48 with fail
             refine wp_region_lit ?_
             refine tkL (.int .i64 (p : Int)) (h := ?_)
             (try simp only [Act.put, sA, sB, sC])
             refine tkL (.slice A2 ls2.length c2) (h := ?_)
             (try simp only [Act.put, sA, sB, sC])
             refine tkL (.int .i64 (ls2.length : Int)) (h := ?_)
             (try simp only [Act.put, sA, sB, sC])
             refine wpList_q (by rfl) (.bool false) ?he ?_
             case he => (have q0 := HKL.out; go_simp; (first | done | rfl | omega))
             (try simp only [Act.put, sA, sB, sC])
             refine wpList_nil ?_
             go_upto_region 5 with fail
             refine wp_region_lit ?_
             refine tkL (.int .i64 (i : Int)) (h := ?_)
             (try simp only [Act.put, sA, sB, sC])
             refine wpList_q (by rfl) (.int .i64 ((i : Int) + 1)) ?he ?_
             case he => (go_simp; (first | done | (refine wr64 _ ?_ ?_ <;> (have q0 := HI8.out; omega)) | (have q0 := HI8.out; omega) | (have q0 := HI8.out; split <;> omega) | (have q0 := HI8.out; intro hh; omega)))
             (try simp only [Act.put, sA, sB, sC])
             refine tkL (.int .i64 ((i : Int) + 1)) (h := ?_)
             (try simp only [Act.put, sA, sB, sC])
             refine wpList_nil ?_
             go_wp2_with fail
             refine Met.intro ?_
             refine hJ1 _ _ _ ?less206 ⟨(i + 1), ls2, S2, A2, c2, rfl, ⟨rfl, rfl, rfl, rfl, rfl, rfl, rfl, rfl, trivial⟩, Lib.hid ⟨by have := HI8.out; omega, HLN2.out, HUS2.out, HQI2.out, HIC2.out, HDL2.out, HS206.out, HBC206.out, HFt206.out, HFl206.out⟩⟩
             case less206 => exact (by have := HM.out; have := HI8.out; omega)
           · have HKL := Lib.hid hcs; clear hcs
             go_upto_region 48 with fail
             refine wp_region_lit ?_
             refine tkL (.int .i64 (p : Int)) (h := ?_)
             (try simp only [Act.put, sA, sB, sC])
             refine tkL (.slice A2 ls2.length c2) (h := ?_)
             (try simp only [Act.put, sA, sB, sC])
             refine tkL (.int .i64 (ls2.length : Int)) (h := ?_)
             (try simp only [Act.put, sA, sB, sC])
             refine wpList_q (by rfl) (.bool true) ?he ?_
             case he => (have q0 := HKL.out; go_simp; (first | done | rfl | omega))
             (try simp only [Act.put, sA, sB, sC])
             refine wpList_nil ?_
             obtain ⟨x, hx⟩ : ∃ x, ls2[p]? = some x := ⟨_, List.getElem?_eq_getElem HKL.out⟩
             have HX := Lib.hid hx; clear hx
             obtain ⟨gl, hgl⟩ := own_addr HFl206.out (show 0 < ls2.length by have := HKL.out; omega)
             subst hgl
             go_upto_region 50 with fail
             refine wp_region_lit ?_
             refine tkL (.pointer (some ⟨t1, 0, none⟩)) (h := ?_)
             (try simp only [Act.put, sA, sB, sC])
             refine tkL (.slice (some ⟨gl, 0, none⟩) ls2.length c2) (h := ?_)
             (try simp only [Act.put, sA, sB, sC])
             refine tkL (.int .i64 (p : Int)) (h := ?_)
             (try simp only [Act.put, sA, sB, sC])
             refine wpList_q (by rfl) (.pointer (some ⟨gl, 0 + p * 10, none⟩)) ?he ?_
             case he => exact exec_index (i := p) (s := 10) 24 56 _ _ rfl rfl rfl rfl HKL.out Try.underlying24 (by kernel_rfl)
             (try simp only [Act.put, sA, sB, sC])
             refine tkL (.pointer (some ⟨gl, 0 + p * 10, none⟩)) (h := ?_)
             (try simp only [Act.put, sA, sB, sC])
             refine tkL (.pointer (some ⟨gl, 0 + p * 10, none⟩)) (h := ?_)
             (try simp only [Act.put, sA, sB, sC])
             refine wpList_q (by rfl) (.int .i64 x.se) ?he ?_
             case he => exact exec_at 3 _ _ (row_l HFl206.out HX.out 0 _ rfl) rfl rfl Try.underlying3 rfl
             (try simp only [Act.put, sA, sB, sC])
             refine wpList_wp (by rfl) (fun K hK => ?_)
             (try go_simp)
             refine (ofV w.heap.size t1 c ls2 S2 x.se x true _ HFt206.out (by have := HLB.out; omega) (of_at HUS2.out HX.out)).mono ?_
             rintro e w207 ⟨rfl, hb⟩
             (try go_wp2_with fail)
             refine hK.out _ _ ?_
             clear hK K
             (try simp only [Act.put, sA, sB, sC])
             have HS207 := Lib.hid (Since.trans HS206.out hb)
             have HBC207 := Lib.hid (keep_blk hb HBC206.out)
             have HFt207 := Lib.hid (TO.keep hb HFt206.out)
             have HFl207 := Lib.hid (keep_own hb HFl206.out)
             clear HS206 HBC206 HFt206 HFl206
             clear hb
             refine tkL (.tuple #[.agg #[.int .i64 x.se, .int .i64 x.fl, .int .i64 x.fm, .int .i64 x.to, .int .i64 x.ma, .int .i64 x.ca, .int .i64 x.ph, .int .i64 x.un, .int .i64 x.re, .int .i64 x.gr], .bool true]) (h := ?_)
             (try simp only [Act.put, sA, sB, sC])
             refine tkL (.agg #[.int .i64 x.se, .int .i64 x.fl, .int .i64 x.fm, .int .i64 x.to, .int .i64 x.ma, .int .i64 x.ca, .int .i64 x.ph, .int .i64 x.un, .int .i64 x.re, .int .i64 x.gr]) (h := ?_)
             (try simp only [Act.put, sA, sB, sC])
             refine tkL (.bool true) (h := ?_)
             (try simp only [Act.put, sA, sB, sC])
             refine wpList_wp (by rfl) (fun K hK => ?_)
             refine wp_new (fun b => .pointer (some ⟨b, 0, none⟩)) 56 #[.int .i64 0, .int .i64 0, .int .i64 0, .int .i64 0, .int .i64 0, .int .i64 0, .int .i64 0, .int .i64 0, .int .i64 0, .int .i64 0] (by rintro b rfl; first | rfl | kernel_rfl) ?_
             intro bn18 w208 hge hB hb
             refine hK.out _ _ ?_
             clear hK K
             (try simp only [Act.put, sA, sB, sC])
             have HNn18C := Lib.hid (show bn18 ≠ w.heap.size by have := Blk.lt HBC207.out; omega)
             have HGn18 := Lib.hid (show w.heap.size ≤ bn18 by have := Since.size HS207.out; omega)
             have HIn18_t := Lib.hid (TO.far HFt207.out hge)
             have HIn18_l := Lib.hid (own_far HFl207.out hge)
             have HS208 := Lib.hid (Since.trans HS207.out hb)
             have HBC208 := Lib.hid (keep_blk hb HBC207.out)
             have HFt208 := Lib.hid (TO.keep hb HFt207.out)
             have HFl208 := Lib.hid (keep_own hb HFl207.out)
             clear HS207 HBC207 HFt207 HFl207
             clear hb hge
             have HBn18208 := Lib.hid hB
             clear hB
             refine wpList_wp (by rfl) (fun K hK => ?_)
             refine wp_st_row 56 _ _ rfl #[.int .i64 x.se, .int .i64 x.fl, .int .i64 x.fm, .int .i64 x.to, .int .i64 x.ma, .int .i64 x.ca, .int .i64 x.ph, .int .i64 x.un, .int .i64 x.re, .int .i64 x.gr] rfl rfl (HasRow.of HBn18208.out rfl) rfl (by simp [cfgC, Value.oneCell']) (by kernel_rfl) ?_
             intro w209 hw
             refine hK.out _ _ ?_
             clear hK K
             (try simp only [Act.put, sA, sB, sC])
             have HS209 := Lib.hid (show Since w w209 by rw [hw]; exact Since.setRow HS208.out HGn18.out _)
             have HBC209 := Lib.hid (show Blk w209 w.heap.size 23 (cfgC c) by rw [hw]; exact Blk.row_far HBC208.out (Ne.symm HNn18C.out) _)
             have HBn18209 := Lib.hid (show Blk w209 bn18 56 #[.int .i64 x.se, .int .i64 x.fl, .int .i64 x.fm, .int .i64 x.to, .int .i64 x.ma, .int .i64 x.ca, .int .i64 x.ph, .int .i64 x.un, .int .i64 x.re, .int .i64 x.gr] by rw [hw]; exact Blk.row HBn18208.out _)
             have HFt_209 := Lib.hid (show TO w.heap.size t1 c ls2 S2 w209 by rw [hw]; exact TO.row_far HFt208.out HIn18_t.out _)
             have HFl_209 := Lib.hid (show (w209).ownsRow w.heap.size 56 10 (.slice (some ⟨gl, 0, none⟩) ls2.length c2) ls2.length (rowsOf leaC ls2) by rw [hw]; exact own_row_far HFl208.out HIn18_l.out _)
             clear hw HS208 HBC208 HBn18208 HFt208 HFl208
             refine tkL (.bool true) (h := ?_)
             (try simp only [Act.put, sA, sB, sC])
             refine wpList_nil ?_
             go_upto_region 51 with fail
             refine wp_region_lit ?_
             refine tkL (.pointer (some ⟨t1, 0, none⟩)) (h := ?_)
             (try simp only [Act.put, sA, sB, sC])
             refine tkL (.slice (some ⟨gl, 0, none⟩) ls2.length c2) (h := ?_)
             (try simp only [Act.put, sA, sB, sC])
             refine tkL (.int .i64 (p : Int)) (h := ?_)
             (try simp only [Act.put, sA, sB, sC])
             refine wpList_q (by rfl) (.pointer (some ⟨gl, 0 + p * 10, none⟩)) ?he ?_
             case he => exact exec_index (i := p) (s := 10) 24 56 _ _ rfl rfl rfl rfl HKL.out Try.underlying24 (by kernel_rfl)
             (try simp only [Act.put, sA, sB, sC])
             refine tkL (.pointer (some ⟨gl, 0 + p * 10 + 5, none⟩)) (h := ?_)
             (try simp only [Act.put, sA, sB, sC])
             refine wpList_q (by rfl) (.int .i64 x.ca) ?he ?_
             case he => exact exec_at 3 _ _ (row_l HFl_209.out HX.out 5 _ rfl) rfl rfl Try.underlying3 rfl
             (try simp only [Act.put, sA, sB, sC])
             refine wpList_wp (by rfl) (fun K hK => ?_)
             (try go_simp)
             refine (carV w.heap.size t1 c ls2 S2 x.ca x true _ HFt_209.out (by have := HLB.out; omega) (car_at HUS2.out HX.out)).mono ?_
             rintro e w210 ⟨rfl, hb⟩
             (try go_wp2_with fail)
             refine hK.out _ _ ?_
             clear hK K
             (try simp only [Act.put, sA, sB, sC])
             have HS210 := Lib.hid (Since.trans HS209.out hb)
             have HBC210 := Lib.hid (keep_blk hb HBC209.out)
             have HBn18210 := Lib.hid (keep_blk hb HBn18209.out)
             have HFt210 := Lib.hid (TO.keep hb HFt_209.out)
             have HFl210 := Lib.hid (keep_own hb HFl_209.out)
             clear HS209 HBC209 HBn18209 HFt_209 HFl_209
             clear hb
             refine tkL (.tuple #[.agg #[.int .i64 x.se, .int .i64 x.fl, .int .i64 x.fm, .int .i64 x.to, .int .i64 x.ma, .int .i64 x.ca, .int .i64 x.ph, .int .i64 x.un, .int .i64 x.re, .int .i64 x.gr], .bool true]) (h := ?_)
             (try simp only [Act.put, sA, sB, sC])
             refine tkL (.agg #[.int .i64 x.se, .int .i64 x.fl, .int .i64 x.fm, .int .i64 x.to, .int .i64 x.ma, .int .i64 x.ca, .int .i64 x.ph, .int .i64 x.un, .int .i64 x.re, .int .i64 x.gr]) (h := ?_)
             (try simp only [Act.put, sA, sB, sC])
             refine tkL (.bool true) (h := ?_)
             (try simp only [Act.put, sA, sB, sC])
             refine wpList_wp (by rfl) (fun K hK => ?_)
             refine wp_new (fun b => .pointer (some ⟨b, 0, none⟩)) 56 #[.int .i64 0, .int .i64 0, .int .i64 0, .int .i64 0, .int .i64 0, .int .i64 0, .int .i64 0, .int .i64 0, .int .i64 0, .int .i64 0] (by rintro b rfl; first | rfl | kernel_rfl) ?_
             intro bn20 w211 hge hB hb
             refine hK.out _ _ ?_
             clear hK K
             (try simp only [Act.put, sA, sB, sC])
             have HNn20C := Lib.hid (show bn20 ≠ w.heap.size by have := Blk.lt HBC210.out; omega)
             have HNn20n18 := Lib.hid (show bn20 ≠ bn18 by have := Blk.lt HBn18210.out; omega)
             have HGn20 := Lib.hid (show w.heap.size ≤ bn20 by have := Since.size HS210.out; omega)
             have HIn20_t := Lib.hid (TO.far HFt210.out hge)
             have HIn20_l := Lib.hid (own_far HFl210.out hge)
             have HS211 := Lib.hid (Since.trans HS210.out hb)
             have HBC211 := Lib.hid (keep_blk hb HBC210.out)
             have HBn18211 := Lib.hid (keep_blk hb HBn18210.out)
             have HFt211 := Lib.hid (TO.keep hb HFt210.out)
             have HFl211 := Lib.hid (keep_own hb HFl210.out)
             clear HS210 HBC210 HBn18210 HFt210 HFl210
             clear hb hge
             have HBn20211 := Lib.hid hB
             clear hB
             refine wpList_wp (by rfl) (fun K hK => ?_)
             refine wp_st_row 56 _ _ rfl #[.int .i64 x.se, .int .i64 x.fl, .int .i64 x.fm, .int .i64 x.to, .int .i64 x.ma, .int .i64 x.ca, .int .i64 x.ph, .int .i64 x.un, .int .i64 x.re, .int .i64 x.gr] rfl rfl (HasRow.of HBn20211.out rfl) rfl (by simp [cfgC, Value.oneCell']) (by kernel_rfl) ?_
             intro w212 hw
             refine hK.out _ _ ?_
             clear hK K
             (try simp only [Act.put, sA, sB, sC])
             have HS212 := Lib.hid (show Since w w212 by rw [hw]; exact Since.setRow HS211.out HGn20.out _)
             have HBC212 := Lib.hid (show Blk w212 w.heap.size 23 (cfgC c) by rw [hw]; exact Blk.row_far HBC211.out (Ne.symm HNn20C.out) _)
             have HBn18212 := Lib.hid (show Blk w212 bn18 56 #[.int .i64 x.se, .int .i64 x.fl, .int .i64 x.fm, .int .i64 x.to, .int .i64 x.ma, .int .i64 x.ca, .int .i64 x.ph, .int .i64 x.un, .int .i64 x.re, .int .i64 x.gr] by rw [hw]; exact Blk.row_far HBn18211.out (Ne.symm HNn20n18.out) _)
             have HBn20212 := Lib.hid (show Blk w212 bn20 56 #[.int .i64 x.se, .int .i64 x.fl, .int .i64 x.fm, .int .i64 x.to, .int .i64 x.ma, .int .i64 x.ca, .int .i64 x.ph, .int .i64 x.un, .int .i64 x.re, .int .i64 x.gr] by rw [hw]; exact Blk.row HBn20211.out _)
             have HFt_212 := Lib.hid (show TO w.heap.size t1 c ls2 S2 w212 by rw [hw]; exact TO.row_far HFt211.out HIn20_t.out _)
             have HFl_212 := Lib.hid (show (w212).ownsRow w.heap.size 56 10 (.slice (some ⟨gl, 0, none⟩) ls2.length c2) ls2.length (rowsOf leaC ls2) by rw [hw]; exact own_row_far HFl211.out HIn20_l.out _)
             clear hw HS211 HBC211 HBn18211 HBn20211 HFt211 HFl211
             refine tkL (.bool true) (h := ?_)
             (try simp only [Act.put, sA, sB, sC])
             refine wpList_nil ?_
             go_upto_region 52 with fail
             have HKS : Hid (KeepS (fun W : World => Since w W ∧ Blk W w.heap.size 23 (cfgC c) ∧ Blk W bn18 56 #[.int .i64 x.se, .int .i64 x.fl, .int .i64 x.fm, .int .i64 x.to, .int .i64 x.ma, .int .i64 x.ca, .int .i64 x.ph, .int .i64 x.un, .int .i64 x.re, .int .i64 x.gr] ∧ Blk W bn20 56 #[.int .i64 x.se, .int .i64 x.fl, .int .i64 x.fm, .int .i64 x.to, .int .i64 x.ma, .int .i64 x.ca, .int .i64 x.ph, .int .i64 x.un, .int .i64 x.re, .int .i64 x.gr] ∧ TO w.heap.size t1 c ls2 S2 W ∧ (W).ownsRow w.heap.size 56 10 (.slice (some ⟨gl, 0, none⟩) ls2.length c2) ls2.length (rowsOf leaC ls2)) w212) := Lib.hid ⟨fun W W' k ⟨h, h0, h1, h2, h3, h4⟩ => ⟨h.trans k, keep_blk k h0, keep_blk k h1, keep_blk k h2, TO.keep k h3, keep_own k h4⟩, ⟨HS212.out, HBC212.out, HBn18212.out, HBn20212.out, HFt_212.out, HFl_212.out⟩⟩
             have HRK := Lib.hid HKS.out.1
             refine wp_held HKS.out (by kernel_rfl) (fun hHeld => ?_)
             refine tkQ 0 (.bool true) hHeld (h := ?_)
             (try simp only [Act.put, sA, sB, sC])
             refine tkQ 1 (.bool false) hHeld (he := by intro w hSw; (go_simp; (try with_reducible rfl))) (h := ?_)
             (try simp only [Act.put, sA, sB, sC])
             refine tkQ 2 (.bool false) hHeld (h := ?_)
             (try simp only [Act.put, sA, sB, sC])
             refine tkQ 3 (.bool true) hHeld (h := ?_)
             (try simp only [Act.put, sA, sB, sC])
             refine tkQ 4 (.bool false) hHeld (he := by intro w hSw; (go_simp; (try with_reducible rfl))) (h := ?_)
             (try simp only [Act.put, sA, sB, sC])
             refine tkQ 5 (.bool false) hHeld (h := ?_)
             (try simp only [Act.put, sA, sB, sC])
             refine tkQ 6 (.bool false) hHeld (h := ?_)
             (try simp only [Act.put, sA, sB, sC])
             refine tkQ 7 (.agg #[.int .i64 x.se, .int .i64 x.fl, .int .i64 x.fm, .int .i64 x.to, .int .i64 x.ma, .int .i64 x.ca, .int .i64 x.ph, .int .i64 x.un, .int .i64 x.re, .int .i64 x.gr]) hHeld (he := by intro w hSw; exact exec_load_row 56 _ _ hSw.2.2.1 rfl rfl Try.underlying56 rfl (by kernel_rfl)) (h := ?_)
             (try simp only [Act.put, sA, sB, sC])
             refine tkQ 8 (.slice (some ⟨gl, 0, none⟩) ls2.length c2) hHeld (h := ?_)
             (try simp only [Act.put, sA, sB, sC])
             refine tkQ 9 (.int .i64 (p : Int)) hHeld (h := ?_)
             (try simp only [Act.put, sA, sB, sC])
             refine tkQ 10 (.pointer (some ⟨gl, 0 + p * 10, none⟩)) hHeld (he := by intro w hSw; exact exec_index (i := p) (s := 10) 24 56 _ _ rfl rfl rfl rfl HKL.out Try.underlying24 (by kernel_rfl)) (h := ?_)
             (try simp only [Act.put, sA, sB, sC])
             refine tkQ 11 (.agg #[.int .i64 x.se, .int .i64 x.fl, .int .i64 x.fm, .int .i64 x.to, .int .i64 x.ma, .int .i64 x.ca, .int .i64 x.ph, .int .i64 x.un, .int .i64 x.re, .int .i64 x.gr]) hHeld (he := by intro w hSw; exact exec_rng (l := leaC x) 56 _ _ (row_l hSw.2.2.2.2.2 HX.out) rfl rfl Try.underlying56 rfl (by kernel_rfl)) (h := ?_)
             (try simp only [Act.put, sA, sB, sC])
             refine tkQ 12 (.bool false) hHeld (he := by intro w hSw; (go_simp; (try with_reducible rfl))) (h := ?_)
             (try simp only [Act.put, sA, sB, sC])
             refine tkQ 13 (.bool false) hHeld (h := ?_)
             (try simp only [Act.put, sA, sB, sC])
             refine tkQ 14 (.bool false) hHeld (h := ?_)
             (try simp only [Act.put, sA, sB, sC])
             refine tkQ 15 (.agg #[.int .i64 x.se, .int .i64 x.fl, .int .i64 x.fm, .int .i64 x.to, .int .i64 x.ma, .int .i64 x.ca, .int .i64 x.ph, .int .i64 x.un, .int .i64 x.re, .int .i64 x.gr]) hHeld (he := by intro w hSw; exact exec_load_row 56 _ _ hSw.2.2.2.1 rfl rfl Try.underlying56 rfl (by kernel_rfl)) (h := ?_)
             (try simp only [Act.put, sA, sB, sC])
             refine tkQ 16 (.slice (some ⟨gl, 0, none⟩) ls2.length c2) hHeld (h := ?_)
             (try simp only [Act.put, sA, sB, sC])
             refine tkQ 17 (.int .i64 (p : Int)) hHeld (h := ?_)
             (try simp only [Act.put, sA, sB, sC])
             refine tkQ 18 (.pointer (some ⟨gl, 0 + p * 10, none⟩)) hHeld (he := by intro w hSw; exact exec_index (i := p) (s := 10) 24 56 _ _ rfl rfl rfl rfl HKL.out Try.underlying24 (by kernel_rfl)) (h := ?_)
             (try simp only [Act.put, sA, sB, sC])
             refine tkQ 19 (.agg #[.int .i64 x.se, .int .i64 x.fl, .int .i64 x.fm, .int .i64 x.to, .int .i64 x.ma, .int .i64 x.ca, .int .i64 x.ph, .int .i64 x.un, .int .i64 x.re, .int .i64 x.gr]) hHeld (he := by intro w hSw; exact exec_rng (l := leaC x) 56 _ _ (row_l hSw.2.2.2.2.2 HX.out) rfl rfl Try.underlying56 rfl (by kernel_rfl)) (h := ?_)
             (try simp only [Act.put, sA, sB, sC])
             refine tkQ 20 (.bool false) hHeld (he := by intro w hSw; (go_simp; (try with_reducible rfl))) (h := ?_)
             (try simp only [Act.put, sA, sB, sC])
             refine tkQ 21 (.bool false) hHeld (h := ?_)
             (try simp only [Act.put, sA, sB, sC])
             refine tkQ 22 (.bool false) hHeld (h := ?_)
             (try simp only [Act.put, sA, sB, sC])
             refine tkQ 23 (.slice (some ⟨gl, 0, none⟩) ls2.length c2) hHeld (h := ?_)
             (try simp only [Act.put, sA, sB, sC])
             refine tkQ 24 (.slice (some ⟨gl, 0, none⟩) ls2.length c2) hHeld (h := ?_)
             (try simp only [Act.put, sA, sB, sC])
             refine tkQ 25 (.int .i64 (p : Int)) hHeld (h := ?_)
             (try simp only [Act.put, sA, sB, sC])
             refine tkQ 26 (.pointer (some ⟨gl, 0 + p * 10, none⟩)) hHeld (he := by intro w hSw; exact exec_index (i := p) (s := 10) 24 56 _ _ rfl rfl rfl rfl HKL.out Try.underlying24 (by kernel_rfl)) (h := ?_)
             (try simp only [Act.put, sA, sB, sC])
             refine tkQ 27 (.pointer (some ⟨gl, 0 + p * 10, none⟩)) hHeld (h := ?_)
             (try simp only [Act.put, sA, sB, sC])
             refine tkQ 28 (.pointer (some ⟨gl, 0 + p * 10 + 1, none⟩)) hHeld (h := ?_)
             (try simp only [Act.put, sA, sB, sC])
             refine tkQ 29 (.int .i64 x.fl) hHeld (he := by intro w hSw; exact exec_at 3 _ _ (row_l hSw.2.2.2.2.2 HX.out 1 _ rfl) rfl rfl Try.underlying3 rfl) (h := ?_)
             (try simp only [Act.put, sA, sB, sC])
             refine tkQ 31 (.agg (cfgC c)) hHeld (he := by intro w hSw; exact exec_load_row 23 _ _ hSw.2.1 rfl rfl Try.underlying23 rfl (by kernel_rfl)) (h := ?_)
             (try simp only [Act.put, sA, sB, sC])
             refine wpAnyH_ready (rs := [30]) (by kernel_rfl) (by simp) ?_
             refine AllReadyH.cons (o := ?o52__30) ?h52__30 (fun K hK => ?_) AllReadyH.nil
             case h52__30 => (first | (simp only [gA, gB, gC]; done) | (simp only [gA, gB, gC]; exact rfl))
             (try go_simp)
             refine (countW _ _ _ ls2 x.fl _ (hHeld.2.2.2.2.2) (by have := HLB.out; omega)).mono ?_
             rintro e w213 ⟨rfl, hb⟩
             (try go_wp2_with fail)
             refine hK.out _ _ (by (apply HRK.out; exact hb; exact hHeld)) (fun hHeld2 => ?_)
             clear hK K hHeld hb
             have hHeld := hHeld2
             clear hHeld2
             (try simp only [Act.put, sA, sB, sC])
             refine wpAnyH_ready (rs := [32]) (by kernel_rfl) (by simp) ?_
             refine AllReadyH.cons (o := ?o52__32) ?h52__32 (fun K hK => ?_) AllReadyH.nil
             case h52__32 => (first | (simp only [gA, gB, gC]; done) | (simp only [gA, gB, gC]; exact rfl))
             (try go_simp)
             refine (quotaW c _).mono ?_
             rintro e w214 ⟨rfl, hb⟩
             (try go_wp2_with fail)
             refine hK.out _ _ (by (apply HRK.out; exact hb; exact hHeld)) (fun hHeld2 => ?_)
             clear hK K hHeld hb
             have hHeld := hHeld2
             clear hHeld2
             (try simp only [Act.put, sA, sB, sC])
             refine tkQ 33 (.bool false) hHeld (he := by intro w hSw; (have q := HQI2.out x.fl; go_simp; (first | done | omega))) (h := ?_)
             (try simp only [Act.put, sA, sB, sC])
             refine tkQ 34 (.bool false) hHeld (h := ?_)
             (try simp only [Act.put, sA, sB, sC])
             refine wpAnyH_done (by kernel_rfl) ?_ _
             have HSd52 := Lib.hid hHeld.1
             have HBCd52 := Lib.hid (hHeld.2.1)
             have HBn18d52 := Lib.hid (hHeld.2.2.1)
             have HBn20d52 := Lib.hid (hHeld.2.2.2.1)
             have HFtd52 := Lib.hid (hHeld.2.2.2.2.1)
             have HFld52 := Lib.hid (hHeld.2.2.2.2.2)
             clear hHeld HRK HKS HS212 HBC212 HBn18212 HBn20212 HFt_212 HFl_212
             go_upto_region 49 with fail
             refine wp_region_lit ?_
             refine tkL (.int .i64 (p : Int)) (h := ?_)
             (try simp only [Act.put, sA, sB, sC])
             refine wpList_q (by rfl) (.int .i64 ((p : Int) + 1)) ?he ?_
             case he => (go_simp; (first | done | (refine wr64 _ ?_ ?_ <;> (have q0 := HKL.out; have q1 := HLB.out; omega)) | (have q0 := HKL.out; have q1 := HLB.out; omega) | (have q0 := HKL.out; have q1 := HLB.out; split <;> omega) | (have q0 := HKL.out; have q1 := HLB.out; intro hh; omega)))
             (try simp only [Act.put, sA, sB, sC])
             refine tkL (.int .i64 ((p : Int) + 1)) (h := ?_)
             (try simp only [Act.put, sA, sB, sC])
             refine wpList_nil ?_
             go_wp2_with fail
             refine Met.intro ?_
             refine hJ4 _ _ _ ?less214 ⟨(p + 1), rfl, ⟨rfl, rfl, rfl, rfl, rfl, rfl, rfl, rfl, rfl, rfl, trivial⟩, Lib.hid ⟨by have := HKL.out; omega, HSd52.out, HBCd52.out, HFtd52.out, HFld52.out⟩⟩
             case less214 => exact (by have := HMp.out; have := HKL.out; omega)
       · have HKL := Lib.hid hcs; clear hcs
         go_upto_region 9 with fail
         refine wp_region_lit ?_
         refine tkL (.int .i64 (k : Int)) (h := ?_)
         (try simp only [Act.put, sA, sB, sC])
         refine tkL (.slice Al ls.length cl) (h := ?_)
         (try simp only [Act.put, sA, sB, sC])
         refine tkL (.int .i64 (ls.length : Int)) (h := ?_)
         (try simp only [Act.put, sA, sB, sC])
         refine wpList_q (by rfl) (.bool true) ?he ?_
         case he => (have q0 := HKL.out; go_simp; (first | done | rfl | omega))
         (try simp only [Act.put, sA, sB, sC])
         refine wpList_nil ?_
         obtain ⟨x, hx⟩ : ∃ x, ls[k]? = some x := ⟨_, List.getElem?_eq_getElem HKL.out⟩
         have HX := Lib.hid hx; clear hx
         obtain ⟨gl, hgl⟩ := own_addr HFl104.out (show 0 < ls.length by have := HKL.out; omega)
         subst hgl
         by_cases hcs : x.se = (os i).l.se
         rotate_left
         · have HES := Lib.hid hcs; clear hcs
           by_cases hcs : x.ca = (os i).l.ca
           rotate_left
           · have HEC := Lib.hid hcs; clear hcs
             go_upto_region 11 with fail
             have HKS : Hid (KeepS (fun W : World => Since w W ∧ Blk W w.heap.size 23 (cfgC c) ∧ Blk W bn8 56 #[.int .i64 ((os i).l.se), .int .i64 ((os i).l.fl), .int .i64 ((os i).l.fm), .int .i64 ((os i).l.to), .int .i64 ((os i).l.ma), .int .i64 ((os i).l.ca), .int .i64 ((os i).l.ph), .int .i64 ((os i).l.un), .int .i64 ((os i).l.re), .int .i64 ((os i).l.gr)] ∧ TO w.heap.size t1 c ls St W ∧ (W).ownsRow w.heap.size 56 10 (.slice (some ⟨gl, 0, none⟩) ls.length cl) ls.length (rowsOf leaC ls)) wr) := Lib.hid ⟨fun W W' k ⟨h, h0, h1, h2, h3⟩ => ⟨h.trans k, keep_blk k h0, keep_blk k h1, TO.keep k h2, keep_own k h3⟩, ⟨HS104.out, HBC104.out, HBn8104.out, HFt104.out, HFl104.out⟩⟩
             have HRK := Lib.hid HKS.out.1
             refine wp_held HKS.out (by kernel_rfl) (fun hHeld => ?_)
             refine tkQ 0 (.slice (some ⟨gl, 0, none⟩) ls.length cl) hHeld (h := ?_)
             (try simp only [Act.put, sA, sB, sC])
             refine tkQ 1 (.int .i64 (k : Int)) hHeld (h := ?_)
             (try simp only [Act.put, sA, sB, sC])
             refine tkQ 2 (.pointer (some ⟨gl, 0 + k * 10, none⟩)) hHeld (he := by intro w hSw; exact exec_index (i := k) (s := 10) 24 56 _ _ rfl rfl rfl rfl HKL.out Try.underlying24 (by kernel_rfl)) (h := ?_)
             (try simp only [Act.put, sA, sB, sC])
             refine tkQ 3 (.pointer (some ⟨gl, 0 + k * 10, none⟩)) hHeld (h := ?_)
             (try simp only [Act.put, sA, sB, sC])
             refine tkQ 4 (.pointer (some ⟨gl, 0 + k * 10, none⟩)) hHeld (h := ?_)
             (try simp only [Act.put, sA, sB, sC])
             refine tkQ 5 (.int .i64 x.se) hHeld (he := by intro w hSw; exact exec_at 3 _ _ (row_l hSw.2.2.2.2 HX.out 0 _ rfl) rfl rfl Try.underlying3 rfl) (h := ?_)
             (try simp only [Act.put, sA, sB, sC])
             refine tkQ 6 (.pointer (some ⟨bn8, 0, none⟩)) hHeld (h := ?_)
             (try simp only [Act.put, sA, sB, sC])
             refine tkQ 7 (.pointer (some ⟨bn8, 0, none⟩)) hHeld (h := ?_)
             (try simp only [Act.put, sA, sB, sC])
             refine tkQ 8 (.int .i64 ((os i).l.se)) hHeld (he := by intro w hSw; exact exec_cell 3 _ _ hSw.2.2.1 rfl rfl rfl Try.underlying3 rfl) (h := ?_)
             (try simp only [Act.put, sA, sB, sC])
             refine tkQ 9 (.bool false) hHeld (he := by intro w hSw; (have q := HES.out; go_simp; (first | done | exact q | (simp [q]; done)))) (h := ?_)
             (try simp only [Act.put, sA, sB, sC])
             refine wpAnyH_done (by kernel_rfl) ?_ _
             have HSd11 := Lib.hid hHeld.1
             have HBCd11 := Lib.hid (hHeld.2.1)
             have HBn8d11 := Lib.hid (hHeld.2.2.1)
             have HFtd11 := Lib.hid (hHeld.2.2.2.1)
             have HFld11 := Lib.hid (hHeld.2.2.2.2)
             clear hHeld HRK HKS HS104 HBC104 HBn8104 HFt104 HFl104
             go_upto_region 13 with fail
             have HKS : Hid (KeepS (fun W : World => Since w W ∧ Blk W w.heap.size 23 (cfgC c) ∧ Blk W bn8 56 #[.int .i64 ((os i).l.se), .int .i64 ((os i).l.fl), .int .i64 ((os i).l.fm), .int .i64 ((os i).l.to), .int .i64 ((os i).l.ma), .int .i64 ((os i).l.ca), .int .i64 ((os i).l.ph), .int .i64 ((os i).l.un), .int .i64 ((os i).l.re), .int .i64 ((os i).l.gr)] ∧ TO w.heap.size t1 c ls St W ∧ (W).ownsRow w.heap.size 56 10 (.slice (some ⟨gl, 0, none⟩) ls.length cl) ls.length (rowsOf leaC ls)) wr.drew) := Lib.hid ⟨fun W W' k ⟨h, h0, h1, h2, h3⟩ => ⟨h.trans k, keep_blk k h0, keep_blk k h1, TO.keep k h2, keep_own k h3⟩, ⟨HSd11.out, HBCd11.out, HBn8d11.out, HFtd11.out, HFld11.out⟩⟩
             have HRK := Lib.hid HKS.out.1
             refine wp_held HKS.out (by kernel_rfl) (fun hHeld => ?_)
             refine tkQ 0 (.slice (some ⟨gl, 0, none⟩) ls.length cl) hHeld (h := ?_)
             (try simp only [Act.put, sA, sB, sC])
             refine tkQ 1 (.int .i64 (k : Int)) hHeld (h := ?_)
             (try simp only [Act.put, sA, sB, sC])
             refine tkQ 2 (.pointer (some ⟨gl, 0 + k * 10, none⟩)) hHeld (he := by intro w hSw; exact exec_index (i := k) (s := 10) 24 56 _ _ rfl rfl rfl rfl HKL.out Try.underlying24 (by kernel_rfl)) (h := ?_)
             (try simp only [Act.put, sA, sB, sC])
             refine tkQ 3 (.pointer (some ⟨gl, 0 + k * 10 + 5, none⟩)) hHeld (h := ?_)
             (try simp only [Act.put, sA, sB, sC])
             refine tkQ 4 (.int .i64 x.ca) hHeld (he := by intro w hSw; exact exec_at 3 _ _ (row_l hSw.2.2.2.2 HX.out 5 _ rfl) rfl rfl Try.underlying3 rfl) (h := ?_)
             (try simp only [Act.put, sA, sB, sC])
             refine tkQ 5 (.pointer (some ⟨bn8, 5, none⟩)) hHeld (h := ?_)
             (try simp only [Act.put, sA, sB, sC])
             refine tkQ 6 (.int .i64 ((os i).l.ca)) hHeld (he := by intro w hSw; exact exec_cell 3 _ _ hSw.2.2.1 rfl rfl rfl Try.underlying3 rfl) (h := ?_)
             (try simp only [Act.put, sA, sB, sC])
             refine tkQ 7 (.bool false) hHeld (he := by intro w hSw; (have q := HEC.out; go_simp; (first | done | exact q | (simp [q]; done)))) (h := ?_)
             (try simp only [Act.put, sA, sB, sC])
             refine wpAnyH_done (by kernel_rfl) ?_ _
             have HSd13 := Lib.hid hHeld.1
             have HBCd13 := Lib.hid (hHeld.2.1)
             have HBn8d13 := Lib.hid (hHeld.2.2.1)
             have HFtd13 := Lib.hid (hHeld.2.2.2.1)
             have HFld13 := Lib.hid (hHeld.2.2.2.2)
             clear hHeld HRK HKS HSd11 HBCd11 HBn8d11 HFtd11 HFld11
             go_upto_region 15 with fail
             have HKS : Hid (KeepS (fun W : World => Since w W ∧ Blk W w.heap.size 23 (cfgC c) ∧ Blk W bn8 56 #[.int .i64 ((os i).l.se), .int .i64 ((os i).l.fl), .int .i64 ((os i).l.fm), .int .i64 ((os i).l.to), .int .i64 ((os i).l.ma), .int .i64 ((os i).l.ca), .int .i64 ((os i).l.ph), .int .i64 ((os i).l.un), .int .i64 ((os i).l.re), .int .i64 ((os i).l.gr)] ∧ TO w.heap.size t1 c ls St W ∧ (W).ownsRow w.heap.size 56 10 (.slice (some ⟨gl, 0, none⟩) ls.length cl) ls.length (rowsOf leaC ls)) wr.drew.drew) := Lib.hid ⟨fun W W' k ⟨h, h0, h1, h2, h3⟩ => ⟨h.trans k, keep_blk k h0, keep_blk k h1, TO.keep k h2, keep_own k h3⟩, ⟨HSd13.out, HBCd13.out, HBn8d13.out, HFtd13.out, HFld13.out⟩⟩
             have HRK := Lib.hid HKS.out.1
             refine wp_held HKS.out (by kernel_rfl) (fun hHeld => ?_)
             refine tkQ 0 (.slice (some ⟨gl, 0, none⟩) ls.length cl) hHeld (h := ?_)
             (try simp only [Act.put, sA, sB, sC])
             refine tkQ 1 (.int .i64 (k : Int)) hHeld (h := ?_)
             (try simp only [Act.put, sA, sB, sC])
             refine tkQ 2 (.pointer (some ⟨gl, 0 + k * 10, none⟩)) hHeld (he := by intro w hSw; exact exec_index (i := k) (s := 10) 24 56 _ _ rfl rfl rfl rfl HKL.out Try.underlying24 (by kernel_rfl)) (h := ?_)
             (try simp only [Act.put, sA, sB, sC])
             refine tkQ 3 (.pointer (some ⟨gl, 0 + k * 10, none⟩)) hHeld (h := ?_)
             (try simp only [Act.put, sA, sB, sC])
             refine tkQ 4 (.pointer (some ⟨gl, 0 + k * 10, none⟩)) hHeld (h := ?_)
             (try simp only [Act.put, sA, sB, sC])
             refine tkQ 5 (.int .i64 x.se) hHeld (he := by intro w hSw; exact exec_at 3 _ _ (row_l hSw.2.2.2.2 HX.out 0 _ rfl) rfl rfl Try.underlying3 rfl) (h := ?_)
             (try simp only [Act.put, sA, sB, sC])
             refine tkQ 6 (.pointer (some ⟨bn8, 0, none⟩)) hHeld (h := ?_)
             (try simp only [Act.put, sA, sB, sC])
             refine tkQ 7 (.pointer (some ⟨bn8, 0, none⟩)) hHeld (h := ?_)
             (try simp only [Act.put, sA, sB, sC])
             refine tkQ 8 (.int .i64 ((os i).l.se)) hHeld (he := by intro w hSw; exact exec_cell 3 _ _ hSw.2.2.1 rfl rfl rfl Try.underlying3 rfl) (h := ?_)
             (try simp only [Act.put, sA, sB, sC])
             refine tkQ 9 (.bool false) hHeld (he := by intro w hSw; (have q := HES.out; go_simp; (first | done | exact q | (simp [q]; done)))) (h := ?_)
             (try simp only [Act.put, sA, sB, sC])
             refine tkQ 10 (.bool false) hHeld (h := ?_)
             (try simp only [Act.put, sA, sB, sC])
             refine tkU 11 hHeld (h := ?_)
             (try simp only [Act.put, sA, sB, sC])
             refine tkU 12 hHeld (h := ?_)
             (try simp only [Act.put, sA, sB, sC])
             refine tkU 13 hHeld (h := ?_)
             (try simp only [Act.put, sA, sB, sC])
             refine tkU 14 hHeld (h := ?_)
             (try simp only [Act.put, sA, sB, sC])
             refine tkU 15 hHeld (h := ?_)
             (try simp only [Act.put, sA, sB, sC])
             refine tkU 16 hHeld (h := ?_)
             (try simp only [Act.put, sA, sB, sC])
             refine tkU 17 hHeld (h := ?_)
             (try simp only [Act.put, sA, sB, sC])
             refine tkU 18 hHeld (h := ?_)
             (try simp only [Act.put, sA, sB, sC])
             refine tkQ 19 (.bool false) hHeld (h := ?_)
             (try simp only [Act.put, sA, sB, sC])
             refine tkQ 20 (.bool false) hHeld (h := ?_)
             (try simp only [Act.put, sA, sB, sC])
             refine tkU 21 hHeld (h := ?_)
             (try simp only [Act.put, sA, sB, sC])
             refine tkU 22 hHeld (h := ?_)
             (try simp only [Act.put, sA, sB, sC])
             refine tkU 23 hHeld (h := ?_)
             (try simp only [Act.put, sA, sB, sC])
             refine tkU 24 hHeld (h := ?_)
             (try simp only [Act.put, sA, sB, sC])
             refine tkU 25 hHeld (h := ?_)
             (try simp only [Act.put, sA, sB, sC])
             refine tkU 26 hHeld (h := ?_)
             (try simp only [Act.put, sA, sB, sC])
             refine tkU 27 hHeld (h := ?_)
             (try simp only [Act.put, sA, sB, sC])
             refine tkU 28 hHeld (h := ?_)
             (try simp only [Act.put, sA, sB, sC])
             refine tkU 29 hHeld (h := ?_)
             (try simp only [Act.put, sA, sB, sC])
             refine tkU 30 hHeld (h := ?_)
             (try simp only [Act.put, sA, sB, sC])
             refine tkQ 31 (.bool false) hHeld (h := ?_)
             (try simp only [Act.put, sA, sB, sC])
             refine wpAnyH_done (by kernel_rfl) ?_ _
             have HSd15 := Lib.hid hHeld.1
             have HBCd15 := Lib.hid (hHeld.2.1)
             have HBn8d15 := Lib.hid (hHeld.2.2.1)
             have HFtd15 := Lib.hid (hHeld.2.2.2.1)
             have HFld15 := Lib.hid (hHeld.2.2.2.2)
             clear hHeld HRK HKS HSd13 HBCd13 HBn8d13 HFtd13 HFld13
             go_upto_region 10 with fail
             refine wp_region_lit ?_
             refine tkL (.int .i64 (k : Int)) (h := ?_)
             (try simp only [Act.put, sA, sB, sC])
             refine wpList_q (by rfl) (.int .i64 ((k : Int) + 1)) ?he ?_
             case he => (go_simp; (first | done | (refine wr64 _ ?_ ?_ <;> (have q0 := HKL.out; have q1 := HLB.out; omega)) | (have q0 := HKL.out; have q1 := HLB.out; omega) | (have q0 := HKL.out; have q1 := HLB.out; split <;> omega) | (have q0 := HKL.out; have q1 := HLB.out; intro hh; omega)))
             (try simp only [Act.put, sA, sB, sC])
             refine tkL (.int .i64 ((k : Int) + 1)) (h := ?_)
             (try simp only [Act.put, sA, sB, sC])
             refine wpList_nil ?_
             go_wp2_with fail
             refine Met.intro ?_
             refine hJ2 _ _ _ ?less104 ⟨(k + 1), rfl, ⟨rfl, rfl, rfl, rfl, rfl, rfl, rfl, rfl, rfl, (by rw [← last_miss (p := isS (os i).l.se) HX.out (pSn HES.out)]; rfl), (by rw [← last_miss (p := isC (os i).l.ca) HX.out (pCn HEC.out)]; rfl), (by rw [← last_miss (p := isT (os i).l) HX.out (pTa HES.out)]; rfl), rfl, trivial⟩, Lib.hid ⟨by have := HKL.out; omega, HSd15.out, HBCd15.out, HBn8d15.out, HFtd15.out, HFld15.out⟩⟩
             case less104 => exact (by have := HMk.out; have := HKL.out; omega)
           · have HEC := Lib.hid hcs; clear hcs
             go_upto_region 11 with fail
             have HKS : Hid (KeepS (fun W : World => Since w W ∧ Blk W w.heap.size 23 (cfgC c) ∧ Blk W bn8 56 #[.int .i64 ((os i).l.se), .int .i64 ((os i).l.fl), .int .i64 ((os i).l.fm), .int .i64 ((os i).l.to), .int .i64 ((os i).l.ma), .int .i64 ((os i).l.ca), .int .i64 ((os i).l.ph), .int .i64 ((os i).l.un), .int .i64 ((os i).l.re), .int .i64 ((os i).l.gr)] ∧ TO w.heap.size t1 c ls St W ∧ (W).ownsRow w.heap.size 56 10 (.slice (some ⟨gl, 0, none⟩) ls.length cl) ls.length (rowsOf leaC ls)) wr) := Lib.hid ⟨fun W W' k ⟨h, h0, h1, h2, h3⟩ => ⟨h.trans k, keep_blk k h0, keep_blk k h1, TO.keep k h2, keep_own k h3⟩, ⟨HS104.out, HBC104.out, HBn8104.out, HFt104.out, HFl104.out⟩⟩
             have HRK := Lib.hid HKS.out.1
             refine wp_held HKS.out (by kernel_rfl) (fun hHeld => ?_)
             refine tkQ 0 (.slice (some ⟨gl, 0, none⟩) ls.length cl) hHeld (h := ?_)
             (try simp only [Act.put, sA, sB, sC])
             refine tkQ 1 (.int .i64 (k : Int)) hHeld (h := ?_)
             (try simp only [Act.put, sA, sB, sC])
             refine tkQ 2 (.pointer (some ⟨gl, 0 + k * 10, none⟩)) hHeld (he := by intro w hSw; exact exec_index (i := k) (s := 10) 24 56 _ _ rfl rfl rfl rfl HKL.out Try.underlying24 (by kernel_rfl)) (h := ?_)
             (try simp only [Act.put, sA, sB, sC])
             refine tkQ 3 (.pointer (some ⟨gl, 0 + k * 10, none⟩)) hHeld (h := ?_)
             (try simp only [Act.put, sA, sB, sC])
             refine tkQ 4 (.pointer (some ⟨gl, 0 + k * 10, none⟩)) hHeld (h := ?_)
             (try simp only [Act.put, sA, sB, sC])
             refine tkQ 5 (.int .i64 x.se) hHeld (he := by intro w hSw; exact exec_at 3 _ _ (row_l hSw.2.2.2.2 HX.out 0 _ rfl) rfl rfl Try.underlying3 rfl) (h := ?_)
             (try simp only [Act.put, sA, sB, sC])
             refine tkQ 6 (.pointer (some ⟨bn8, 0, none⟩)) hHeld (h := ?_)
             (try simp only [Act.put, sA, sB, sC])
             refine tkQ 7 (.pointer (some ⟨bn8, 0, none⟩)) hHeld (h := ?_)
             (try simp only [Act.put, sA, sB, sC])
             refine tkQ 8 (.int .i64 ((os i).l.se)) hHeld (he := by intro w hSw; exact exec_cell 3 _ _ hSw.2.2.1 rfl rfl rfl Try.underlying3 rfl) (h := ?_)
             (try simp only [Act.put, sA, sB, sC])
             refine tkQ 9 (.bool false) hHeld (he := by intro w hSw; (have q := HES.out; go_simp; (first | done | exact q | (simp [q]; done)))) (h := ?_)
             (try simp only [Act.put, sA, sB, sC])
             refine wpAnyH_done (by kernel_rfl) ?_ _
             have HSd11 := Lib.hid hHeld.1
             have HBCd11 := Lib.hid (hHeld.2.1)
             have HBn8d11 := Lib.hid (hHeld.2.2.1)
             have HFtd11 := Lib.hid (hHeld.2.2.2.1)
             have HFld11 := Lib.hid (hHeld.2.2.2.2)
             clear hHeld HRK HKS HS104 HBC104 HBn8104 HFt104 HFl104
             go_upto_region 13 with fail
             have HKS : Hid (KeepS (fun W : World => Since w W ∧ Blk W w.heap.size 23 (cfgC c) ∧ Blk W bn8 56 #[.int .i64 ((os i).l.se), .int .i64 ((os i).l.fl), .int .i64 ((os i).l.fm), .int .i64 ((os i).l.to), .int .i64 ((os i).l.ma), .int .i64 ((os i).l.ca), .int .i64 ((os i).l.ph), .int .i64 ((os i).l.un), .int .i64 ((os i).l.re), .int .i64 ((os i).l.gr)] ∧ TO w.heap.size t1 c ls St W ∧ (W).ownsRow w.heap.size 56 10 (.slice (some ⟨gl, 0, none⟩) ls.length cl) ls.length (rowsOf leaC ls)) wr.drew) := Lib.hid ⟨fun W W' k ⟨h, h0, h1, h2, h3⟩ => ⟨h.trans k, keep_blk k h0, keep_blk k h1, TO.keep k h2, keep_own k h3⟩, ⟨HSd11.out, HBCd11.out, HBn8d11.out, HFtd11.out, HFld11.out⟩⟩
             have HRK := Lib.hid HKS.out.1
             refine wp_held HKS.out (by kernel_rfl) (fun hHeld => ?_)
             refine tkQ 0 (.slice (some ⟨gl, 0, none⟩) ls.length cl) hHeld (h := ?_)
             (try simp only [Act.put, sA, sB, sC])
             refine tkQ 1 (.int .i64 (k : Int)) hHeld (h := ?_)
             (try simp only [Act.put, sA, sB, sC])
             refine tkQ 2 (.pointer (some ⟨gl, 0 + k * 10, none⟩)) hHeld (he := by intro w hSw; exact exec_index (i := k) (s := 10) 24 56 _ _ rfl rfl rfl rfl HKL.out Try.underlying24 (by kernel_rfl)) (h := ?_)
             (try simp only [Act.put, sA, sB, sC])
             refine tkQ 3 (.pointer (some ⟨gl, 0 + k * 10 + 5, none⟩)) hHeld (h := ?_)
             (try simp only [Act.put, sA, sB, sC])
             refine tkQ 4 (.int .i64 x.ca) hHeld (he := by intro w hSw; exact exec_at 3 _ _ (row_l hSw.2.2.2.2 HX.out 5 _ rfl) rfl rfl Try.underlying3 rfl) (h := ?_)
             (try simp only [Act.put, sA, sB, sC])
             refine tkQ 5 (.pointer (some ⟨bn8, 5, none⟩)) hHeld (h := ?_)
             (try simp only [Act.put, sA, sB, sC])
             refine tkQ 6 (.int .i64 ((os i).l.ca)) hHeld (he := by intro w hSw; exact exec_cell 3 _ _ hSw.2.2.1 rfl rfl rfl Try.underlying3 rfl) (h := ?_)
             (try simp only [Act.put, sA, sB, sC])
             refine tkQ 7 (.bool true) hHeld (he := by intro w hSw; (have q := HEC.out; go_simp; (first | done | exact q | (simp [q]; done)))) (h := ?_)
             (try simp only [Act.put, sA, sB, sC])
             refine wpAnyH_done (by kernel_rfl) ?_ _
             have HSd13 := Lib.hid hHeld.1
             have HBCd13 := Lib.hid (hHeld.2.1)
             have HBn8d13 := Lib.hid (hHeld.2.2.1)
             have HFtd13 := Lib.hid (hHeld.2.2.2.1)
             have HFld13 := Lib.hid (hHeld.2.2.2.2)
             clear hHeld HRK HKS HSd11 HBCd11 HBn8d11 HFtd11 HFld11
             go_upto_region 14 with fail
             refine wp_region_lit ?_
             refine tkL (.int .i64 (k : Int)) (h := ?_)
             (try simp only [Act.put, sA, sB, sC])
             refine tkL (.int .i64 (k : Int)) (h := ?_)
             (try simp only [Act.put, sA, sB, sC])
             refine wpList_nil ?_
             go_upto_region 15 with fail
             have HKS : Hid (KeepS (fun W : World => Since w W ∧ Blk W w.heap.size 23 (cfgC c) ∧ Blk W bn8 56 #[.int .i64 ((os i).l.se), .int .i64 ((os i).l.fl), .int .i64 ((os i).l.fm), .int .i64 ((os i).l.to), .int .i64 ((os i).l.ma), .int .i64 ((os i).l.ca), .int .i64 ((os i).l.ph), .int .i64 ((os i).l.un), .int .i64 ((os i).l.re), .int .i64 ((os i).l.gr)] ∧ TO w.heap.size t1 c ls St W ∧ (W).ownsRow w.heap.size 56 10 (.slice (some ⟨gl, 0, none⟩) ls.length cl) ls.length (rowsOf leaC ls)) wr.drew.drew) := Lib.hid ⟨fun W W' k ⟨h, h0, h1, h2, h3⟩ => ⟨h.trans k, keep_blk k h0, keep_blk k h1, TO.keep k h2, keep_own k h3⟩, ⟨HSd13.out, HBCd13.out, HBn8d13.out, HFtd13.out, HFld13.out⟩⟩
             have HRK := Lib.hid HKS.out.1
             refine wp_held HKS.out (by kernel_rfl) (fun hHeld => ?_)
             refine tkQ 0 (.slice (some ⟨gl, 0, none⟩) ls.length cl) hHeld (h := ?_)
             (try simp only [Act.put, sA, sB, sC])
             refine tkQ 1 (.int .i64 (k : Int)) hHeld (h := ?_)
             (try simp only [Act.put, sA, sB, sC])
             refine tkQ 2 (.pointer (some ⟨gl, 0 + k * 10, none⟩)) hHeld (he := by intro w hSw; exact exec_index (i := k) (s := 10) 24 56 _ _ rfl rfl rfl rfl HKL.out Try.underlying24 (by kernel_rfl)) (h := ?_)
             (try simp only [Act.put, sA, sB, sC])
             refine tkQ 3 (.pointer (some ⟨gl, 0 + k * 10, none⟩)) hHeld (h := ?_)
             (try simp only [Act.put, sA, sB, sC])
             refine tkQ 4 (.pointer (some ⟨gl, 0 + k * 10, none⟩)) hHeld (h := ?_)
             (try simp only [Act.put, sA, sB, sC])
             refine tkQ 5 (.int .i64 x.se) hHeld (he := by intro w hSw; exact exec_at 3 _ _ (row_l hSw.2.2.2.2 HX.out 0 _ rfl) rfl rfl Try.underlying3 rfl) (h := ?_)
             (try simp only [Act.put, sA, sB, sC])
             refine tkQ 6 (.pointer (some ⟨bn8, 0, none⟩)) hHeld (h := ?_)
             (try simp only [Act.put, sA, sB, sC])
             refine tkQ 7 (.pointer (some ⟨bn8, 0, none⟩)) hHeld (h := ?_)
             (try simp only [Act.put, sA, sB, sC])
             refine tkQ 8 (.int .i64 ((os i).l.se)) hHeld (he := by intro w hSw; exact exec_cell 3 _ _ hSw.2.2.1 rfl rfl rfl Try.underlying3 rfl) (h := ?_)
             (try simp only [Act.put, sA, sB, sC])
             refine tkQ 9 (.bool false) hHeld (he := by intro w hSw; (have q := HES.out; go_simp; (first | done | exact q | (simp [q]; done)))) (h := ?_)
             (try simp only [Act.put, sA, sB, sC])
             refine tkQ 10 (.bool false) hHeld (h := ?_)
             (try simp only [Act.put, sA, sB, sC])
             refine tkU 11 hHeld (h := ?_)
             (try simp only [Act.put, sA, sB, sC])
             refine tkU 12 hHeld (h := ?_)
             (try simp only [Act.put, sA, sB, sC])
             refine tkU 13 hHeld (h := ?_)
             (try simp only [Act.put, sA, sB, sC])
             refine tkU 14 hHeld (h := ?_)
             (try simp only [Act.put, sA, sB, sC])
             refine tkU 15 hHeld (h := ?_)
             (try simp only [Act.put, sA, sB, sC])
             refine tkU 16 hHeld (h := ?_)
             (try simp only [Act.put, sA, sB, sC])
             refine tkU 17 hHeld (h := ?_)
             (try simp only [Act.put, sA, sB, sC])
             refine tkU 18 hHeld (h := ?_)
             (try simp only [Act.put, sA, sB, sC])
             refine tkQ 19 (.bool false) hHeld (h := ?_)
             (try simp only [Act.put, sA, sB, sC])
             refine tkQ 20 (.bool false) hHeld (h := ?_)
             (try simp only [Act.put, sA, sB, sC])
             refine tkU 21 hHeld (h := ?_)
             (try simp only [Act.put, sA, sB, sC])
             refine tkU 22 hHeld (h := ?_)
             (try simp only [Act.put, sA, sB, sC])
             refine tkU 23 hHeld (h := ?_)
             (try simp only [Act.put, sA, sB, sC])
             refine tkU 24 hHeld (h := ?_)
             (try simp only [Act.put, sA, sB, sC])
             refine tkU 25 hHeld (h := ?_)
             (try simp only [Act.put, sA, sB, sC])
             refine tkU 26 hHeld (h := ?_)
             (try simp only [Act.put, sA, sB, sC])
             refine tkU 27 hHeld (h := ?_)
             (try simp only [Act.put, sA, sB, sC])
             refine tkU 28 hHeld (h := ?_)
             (try simp only [Act.put, sA, sB, sC])
             refine tkU 29 hHeld (h := ?_)
             (try simp only [Act.put, sA, sB, sC])
             refine tkU 30 hHeld (h := ?_)
             (try simp only [Act.put, sA, sB, sC])
             refine tkQ 31 (.bool false) hHeld (h := ?_)
             (try simp only [Act.put, sA, sB, sC])
             refine wpAnyH_done (by kernel_rfl) ?_ _
             have HSd15 := Lib.hid hHeld.1
             have HBCd15 := Lib.hid (hHeld.2.1)
             have HBn8d15 := Lib.hid (hHeld.2.2.1)
             have HFtd15 := Lib.hid (hHeld.2.2.2.1)
             have HFld15 := Lib.hid (hHeld.2.2.2.2)
             clear hHeld HRK HKS HSd13 HBCd13 HBn8d13 HFtd13 HFld13
             go_upto_region 10 with fail
             refine wp_region_lit ?_
             refine tkL (.int .i64 (k : Int)) (h := ?_)
             (try simp only [Act.put, sA, sB, sC])
             refine wpList_q (by rfl) (.int .i64 ((k : Int) + 1)) ?he ?_
             case he => (go_simp; (first | done | (refine wr64 _ ?_ ?_ <;> (have q0 := HKL.out; have q1 := HLB.out; omega)) | (have q0 := HKL.out; have q1 := HLB.out; omega) | (have q0 := HKL.out; have q1 := HLB.out; split <;> omega) | (have q0 := HKL.out; have q1 := HLB.out; intro hh; omega)))
             (try simp only [Act.put, sA, sB, sC])
             refine tkL (.int .i64 ((k : Int) + 1)) (h := ?_)
             (try simp only [Act.put, sA, sB, sC])
             refine wpList_nil ?_
             go_wp2_with fail
             refine Met.intro ?_
             refine hJ2 _ _ _ ?less104 ⟨(k + 1), rfl, ⟨rfl, rfl, rfl, rfl, rfl, rfl, rfl, rfl, rfl, (by rw [← last_miss (p := isS (os i).l.se) HX.out (pSn HES.out)]; rfl), (by rw [← last_hit (p := isC (os i).l.ca) HX.out (pC HEC.out)]; rfl), (by rw [← last_miss (p := isT (os i).l) HX.out (pTa HES.out)]; rfl), rfl, trivial⟩, Lib.hid ⟨by have := HKL.out; omega, HSd15.out, HBCd15.out, HBn8d15.out, HFtd15.out, HFld15.out⟩⟩
             case less104 => exact (by have := HMk.out; have := HKL.out; omega)
         · have HES := Lib.hid hcs; clear hcs
           by_cases hcs : x.ca = (os i).l.ca
           rotate_left
           · have HEC := Lib.hid hcs; clear hcs
             go_upto_region 11 with fail
             have HKS : Hid (KeepS (fun W : World => Since w W ∧ Blk W w.heap.size 23 (cfgC c) ∧ Blk W bn8 56 #[.int .i64 ((os i).l.se), .int .i64 ((os i).l.fl), .int .i64 ((os i).l.fm), .int .i64 ((os i).l.to), .int .i64 ((os i).l.ma), .int .i64 ((os i).l.ca), .int .i64 ((os i).l.ph), .int .i64 ((os i).l.un), .int .i64 ((os i).l.re), .int .i64 ((os i).l.gr)] ∧ TO w.heap.size t1 c ls St W ∧ (W).ownsRow w.heap.size 56 10 (.slice (some ⟨gl, 0, none⟩) ls.length cl) ls.length (rowsOf leaC ls)) wr) := Lib.hid ⟨fun W W' k ⟨h, h0, h1, h2, h3⟩ => ⟨h.trans k, keep_blk k h0, keep_blk k h1, TO.keep k h2, keep_own k h3⟩, ⟨HS104.out, HBC104.out, HBn8104.out, HFt104.out, HFl104.out⟩⟩
             have HRK := Lib.hid HKS.out.1
             refine wp_held HKS.out (by kernel_rfl) (fun hHeld => ?_)
             refine tkQ 0 (.slice (some ⟨gl, 0, none⟩) ls.length cl) hHeld (h := ?_)
             (try simp only [Act.put, sA, sB, sC])
             refine tkQ 1 (.int .i64 (k : Int)) hHeld (h := ?_)
             (try simp only [Act.put, sA, sB, sC])
             refine tkQ 2 (.pointer (some ⟨gl, 0 + k * 10, none⟩)) hHeld (he := by intro w hSw; exact exec_index (i := k) (s := 10) 24 56 _ _ rfl rfl rfl rfl HKL.out Try.underlying24 (by kernel_rfl)) (h := ?_)
             (try simp only [Act.put, sA, sB, sC])
             refine tkQ 3 (.pointer (some ⟨gl, 0 + k * 10, none⟩)) hHeld (h := ?_)
             (try simp only [Act.put, sA, sB, sC])
             refine tkQ 4 (.pointer (some ⟨gl, 0 + k * 10, none⟩)) hHeld (h := ?_)
             (try simp only [Act.put, sA, sB, sC])
             refine tkQ 5 (.int .i64 x.se) hHeld (he := by intro w hSw; exact exec_at 3 _ _ (row_l hSw.2.2.2.2 HX.out 0 _ rfl) rfl rfl Try.underlying3 rfl) (h := ?_)
             (try simp only [Act.put, sA, sB, sC])
             refine tkQ 6 (.pointer (some ⟨bn8, 0, none⟩)) hHeld (h := ?_)
             (try simp only [Act.put, sA, sB, sC])
             refine tkQ 7 (.pointer (some ⟨bn8, 0, none⟩)) hHeld (h := ?_)
             (try simp only [Act.put, sA, sB, sC])
             refine tkQ 8 (.int .i64 ((os i).l.se)) hHeld (he := by intro w hSw; exact exec_cell 3 _ _ hSw.2.2.1 rfl rfl rfl Try.underlying3 rfl) (h := ?_)
             (try simp only [Act.put, sA, sB, sC])
             refine tkQ 9 (.bool true) hHeld (he := by intro w hSw; (have q := HES.out; go_simp; (first | done | exact q | (simp [q]; done)))) (h := ?_)
             (try simp only [Act.put, sA, sB, sC])
             refine wpAnyH_done (by kernel_rfl) ?_ _
             have HSd11 := Lib.hid hHeld.1
             have HBCd11 := Lib.hid (hHeld.2.1)
             have HBn8d11 := Lib.hid (hHeld.2.2.1)
             have HFtd11 := Lib.hid (hHeld.2.2.2.1)
             have HFld11 := Lib.hid (hHeld.2.2.2.2)
             clear hHeld HRK HKS HS104 HBC104 HBn8104 HFt104 HFl104
             go_upto_region 12 with fail
             refine wp_region_lit ?_
             refine tkL (.int .i64 (k : Int)) (h := ?_)
             (try simp only [Act.put, sA, sB, sC])
             refine tkL (.int .i64 (k : Int)) (h := ?_)
             (try simp only [Act.put, sA, sB, sC])
             refine wpList_nil ?_
             go_upto_region 13 with fail
             have HKS : Hid (KeepS (fun W : World => Since w W ∧ Blk W w.heap.size 23 (cfgC c) ∧ Blk W bn8 56 #[.int .i64 ((os i).l.se), .int .i64 ((os i).l.fl), .int .i64 ((os i).l.fm), .int .i64 ((os i).l.to), .int .i64 ((os i).l.ma), .int .i64 ((os i).l.ca), .int .i64 ((os i).l.ph), .int .i64 ((os i).l.un), .int .i64 ((os i).l.re), .int .i64 ((os i).l.gr)] ∧ TO w.heap.size t1 c ls St W ∧ (W).ownsRow w.heap.size 56 10 (.slice (some ⟨gl, 0, none⟩) ls.length cl) ls.length (rowsOf leaC ls)) wr.drew) := Lib.hid ⟨fun W W' k ⟨h, h0, h1, h2, h3⟩ => ⟨h.trans k, keep_blk k h0, keep_blk k h1, TO.keep k h2, keep_own k h3⟩, ⟨HSd11.out, HBCd11.out, HBn8d11.out, HFtd11.out, HFld11.out⟩⟩
             have HRK := Lib.hid HKS.out.1
             refine wp_held HKS.out (by kernel_rfl) (fun hHeld => ?_)
             refine tkQ 0 (.slice (some ⟨gl, 0, none⟩) ls.length cl) hHeld (h := ?_)
             (try simp only [Act.put, sA, sB, sC])
             refine tkQ 1 (.int .i64 (k : Int)) hHeld (h := ?_)
             (try simp only [Act.put, sA, sB, sC])
             refine tkQ 2 (.pointer (some ⟨gl, 0 + k * 10, none⟩)) hHeld (he := by intro w hSw; exact exec_index (i := k) (s := 10) 24 56 _ _ rfl rfl rfl rfl HKL.out Try.underlying24 (by kernel_rfl)) (h := ?_)
             (try simp only [Act.put, sA, sB, sC])
             refine tkQ 3 (.pointer (some ⟨gl, 0 + k * 10 + 5, none⟩)) hHeld (h := ?_)
             (try simp only [Act.put, sA, sB, sC])
             refine tkQ 4 (.int .i64 x.ca) hHeld (he := by intro w hSw; exact exec_at 3 _ _ (row_l hSw.2.2.2.2 HX.out 5 _ rfl) rfl rfl Try.underlying3 rfl) (h := ?_)
             (try simp only [Act.put, sA, sB, sC])
             refine tkQ 5 (.pointer (some ⟨bn8, 5, none⟩)) hHeld (h := ?_)
             (try simp only [Act.put, sA, sB, sC])
             refine tkQ 6 (.int .i64 ((os i).l.ca)) hHeld (he := by intro w hSw; exact exec_cell 3 _ _ hSw.2.2.1 rfl rfl rfl Try.underlying3 rfl) (h := ?_)
             (try simp only [Act.put, sA, sB, sC])
             refine tkQ 7 (.bool false) hHeld (he := by intro w hSw; (have q := HEC.out; go_simp; (first | done | exact q | (simp [q]; done)))) (h := ?_)
             (try simp only [Act.put, sA, sB, sC])
             refine wpAnyH_done (by kernel_rfl) ?_ _
             have HSd13 := Lib.hid hHeld.1
             have HBCd13 := Lib.hid (hHeld.2.1)
             have HBn8d13 := Lib.hid (hHeld.2.2.1)
             have HFtd13 := Lib.hid (hHeld.2.2.2.1)
             have HFld13 := Lib.hid (hHeld.2.2.2.2)
             clear hHeld HRK HKS HSd11 HBCd11 HBn8d11 HFtd11 HFld11
             go_upto_region 15 with fail
             have HKS : Hid (KeepS (fun W : World => Since w W ∧ Blk W w.heap.size 23 (cfgC c) ∧ Blk W bn8 56 #[.int .i64 ((os i).l.se), .int .i64 ((os i).l.fl), .int .i64 ((os i).l.fm), .int .i64 ((os i).l.to), .int .i64 ((os i).l.ma), .int .i64 ((os i).l.ca), .int .i64 ((os i).l.ph), .int .i64 ((os i).l.un), .int .i64 ((os i).l.re), .int .i64 ((os i).l.gr)] ∧ TO w.heap.size t1 c ls St W ∧ (W).ownsRow w.heap.size 56 10 (.slice (some ⟨gl, 0, none⟩) ls.length cl) ls.length (rowsOf leaC ls)) wr.drew.drew) := Lib.hid ⟨fun W W' k ⟨h, h0, h1, h2, h3⟩ => ⟨h.trans k, keep_blk k h0, keep_blk k h1, TO.keep k h2, keep_own k h3⟩, ⟨HSd13.out, HBCd13.out, HBn8d13.out, HFtd13.out, HFld13.out⟩⟩
             have HRK := Lib.hid HKS.out.1
             refine wp_held HKS.out (by kernel_rfl) (fun hHeld => ?_)
             refine tkQ 0 (.slice (some ⟨gl, 0, none⟩) ls.length cl) hHeld (h := ?_)
             (try simp only [Act.put, sA, sB, sC])
             refine tkQ 1 (.int .i64 (k : Int)) hHeld (h := ?_)
             (try simp only [Act.put, sA, sB, sC])
             refine tkQ 2 (.pointer (some ⟨gl, 0 + k * 10, none⟩)) hHeld (he := by intro w hSw; exact exec_index (i := k) (s := 10) 24 56 _ _ rfl rfl rfl rfl HKL.out Try.underlying24 (by kernel_rfl)) (h := ?_)
             (try simp only [Act.put, sA, sB, sC])
             refine tkQ 3 (.pointer (some ⟨gl, 0 + k * 10, none⟩)) hHeld (h := ?_)
             (try simp only [Act.put, sA, sB, sC])
             refine tkQ 4 (.pointer (some ⟨gl, 0 + k * 10, none⟩)) hHeld (h := ?_)
             (try simp only [Act.put, sA, sB, sC])
             refine tkQ 5 (.int .i64 x.se) hHeld (he := by intro w hSw; exact exec_at 3 _ _ (row_l hSw.2.2.2.2 HX.out 0 _ rfl) rfl rfl Try.underlying3 rfl) (h := ?_)
             (try simp only [Act.put, sA, sB, sC])
             refine tkQ 6 (.pointer (some ⟨bn8, 0, none⟩)) hHeld (h := ?_)
             (try simp only [Act.put, sA, sB, sC])
             refine tkQ 7 (.pointer (some ⟨bn8, 0, none⟩)) hHeld (h := ?_)
             (try simp only [Act.put, sA, sB, sC])
             refine tkQ 8 (.int .i64 ((os i).l.se)) hHeld (he := by intro w hSw; exact exec_cell 3 _ _ hSw.2.2.1 rfl rfl rfl Try.underlying3 rfl) (h := ?_)
             (try simp only [Act.put, sA, sB, sC])
             refine tkQ 9 (.bool true) hHeld (he := by intro w hSw; (have q := HES.out; go_simp; (first | done | exact q | (simp [q]; done)))) (h := ?_)
             (try simp only [Act.put, sA, sB, sC])
             refine tkQ 10 (.bool true) hHeld (h := ?_)
             (try simp only [Act.put, sA, sB, sC])
             refine tkQ 11 (.slice (some ⟨gl, 0, none⟩) ls.length cl) hHeld (h := ?_)
             (try simp only [Act.put, sA, sB, sC])
             refine tkQ 12 (.int .i64 (k : Int)) hHeld (h := ?_)
             (try simp only [Act.put, sA, sB, sC])
             refine tkQ 13 (.pointer (some ⟨gl, 0 + k * 10, none⟩)) hHeld (he := by intro w hSw; exact exec_index (i := k) (s := 10) 24 56 _ _ rfl rfl rfl rfl HKL.out Try.underlying24 (by kernel_rfl)) (h := ?_)
             (try simp only [Act.put, sA, sB, sC])
             refine tkQ 14 (.pointer (some ⟨gl, 0 + k * 10 + 5, none⟩)) hHeld (h := ?_)
             (try simp only [Act.put, sA, sB, sC])
             refine tkQ 15 (.int .i64 x.ca) hHeld (he := by intro w hSw; exact exec_at 3 _ _ (row_l hSw.2.2.2.2 HX.out 5 _ rfl) rfl rfl Try.underlying3 rfl) (h := ?_)
             (try simp only [Act.put, sA, sB, sC])
             refine tkQ 16 (.pointer (some ⟨bn8, 5, none⟩)) hHeld (h := ?_)
             (try simp only [Act.put, sA, sB, sC])
             refine tkQ 17 (.int .i64 ((os i).l.ca)) hHeld (he := by intro w hSw; exact exec_cell 3 _ _ hSw.2.2.1 rfl rfl rfl Try.underlying3 rfl) (h := ?_)
             (try simp only [Act.put, sA, sB, sC])
             refine tkQ 18 (.bool false) hHeld (he := by intro w hSw; (have q := HEC.out; go_simp; (first | done | exact q | (simp [q]; done)))) (h := ?_)
             (try simp only [Act.put, sA, sB, sC])
             refine tkQ 19 (.bool false) hHeld (h := ?_)
             (try simp only [Act.put, sA, sB, sC])
             refine tkQ 20 (.bool false) hHeld (h := ?_)
             (try simp only [Act.put, sA, sB, sC])
             refine tkU 21 hHeld (h := ?_)
             (try simp only [Act.put, sA, sB, sC])
             refine tkU 22 hHeld (h := ?_)
             (try simp only [Act.put, sA, sB, sC])
             refine tkU 23 hHeld (h := ?_)
             (try simp only [Act.put, sA, sB, sC])
             refine tkU 24 hHeld (h := ?_)
             (try simp only [Act.put, sA, sB, sC])
             refine tkU 25 hHeld (h := ?_)
             (try simp only [Act.put, sA, sB, sC])
             refine tkU 26 hHeld (h := ?_)
             (try simp only [Act.put, sA, sB, sC])
             refine tkU 27 hHeld (h := ?_)
             (try simp only [Act.put, sA, sB, sC])
             refine tkU 28 hHeld (h := ?_)
             (try simp only [Act.put, sA, sB, sC])
             refine tkU 29 hHeld (h := ?_)
             (try simp only [Act.put, sA, sB, sC])
             refine tkU 30 hHeld (h := ?_)
             (try simp only [Act.put, sA, sB, sC])
             refine tkQ 31 (.bool false) hHeld (h := ?_)
             (try simp only [Act.put, sA, sB, sC])
             refine wpAnyH_done (by kernel_rfl) ?_ _
             have HSd15 := Lib.hid hHeld.1
             have HBCd15 := Lib.hid (hHeld.2.1)
             have HBn8d15 := Lib.hid (hHeld.2.2.1)
             have HFtd15 := Lib.hid (hHeld.2.2.2.1)
             have HFld15 := Lib.hid (hHeld.2.2.2.2)
             clear hHeld HRK HKS HSd13 HBCd13 HBn8d13 HFtd13 HFld13
             go_upto_region 10 with fail
             refine wp_region_lit ?_
             refine tkL (.int .i64 (k : Int)) (h := ?_)
             (try simp only [Act.put, sA, sB, sC])
             refine wpList_q (by rfl) (.int .i64 ((k : Int) + 1)) ?he ?_
             case he => (go_simp; (first | done | (refine wr64 _ ?_ ?_ <;> (have q0 := HKL.out; have q1 := HLB.out; omega)) | (have q0 := HKL.out; have q1 := HLB.out; omega) | (have q0 := HKL.out; have q1 := HLB.out; split <;> omega) | (have q0 := HKL.out; have q1 := HLB.out; intro hh; omega)))
             (try simp only [Act.put, sA, sB, sC])
             refine tkL (.int .i64 ((k : Int) + 1)) (h := ?_)
             (try simp only [Act.put, sA, sB, sC])
             refine wpList_nil ?_
             go_wp2_with fail
             refine Met.intro ?_
             refine hJ2 _ _ _ ?less104 ⟨(k + 1), rfl, ⟨rfl, rfl, rfl, rfl, rfl, rfl, rfl, rfl, rfl, (by rw [← last_hit (p := isS (os i).l.se) HX.out (pS HES.out)]; rfl), (by rw [← last_miss (p := isC (os i).l.ca) HX.out (pCn HEC.out)]; rfl), (by rw [← last_miss (p := isT (os i).l) HX.out (pTb HEC.out)]; rfl), rfl, trivial⟩, Lib.hid ⟨by have := HKL.out; omega, HSd15.out, HBCd15.out, HBn8d15.out, HFtd15.out, HFld15.out⟩⟩
             case less104 => exact (by have := HMk.out; have := HKL.out; omega)
           · have HEC := Lib.hid hcs; clear hcs
             by_cases hcs : x.fl = (os i).l.fl
             rotate_left
             · have HEF := Lib.hid hcs; clear hcs
               go_upto_region 11 with fail
               have HKS : Hid (KeepS (fun W : World => Since w W ∧ Blk W w.heap.size 23 (cfgC c) ∧ Blk W bn8 56 #[.int .i64 ((os i).l.se), .int .i64 ((os i).l.fl), .int .i64 ((os i).l.fm), .int .i64 ((os i).l.to), .int .i64 ((os i).l.ma), .int .i64 ((os i).l.ca), .int .i64 ((os i).l.ph), .int .i64 ((os i).l.un), .int .i64 ((os i).l.re), .int .i64 ((os i).l.gr)] ∧ TO w.heap.size t1 c ls St W ∧ (W).ownsRow w.heap.size 56 10 (.slice (some ⟨gl, 0, none⟩) ls.length cl) ls.length (rowsOf leaC ls)) wr) := Lib.hid ⟨fun W W' k ⟨h, h0, h1, h2, h3⟩ => ⟨h.trans k, keep_blk k h0, keep_blk k h1, TO.keep k h2, keep_own k h3⟩, ⟨HS104.out, HBC104.out, HBn8104.out, HFt104.out, HFl104.out⟩⟩
               have HRK := Lib.hid HKS.out.1
               refine wp_held HKS.out (by kernel_rfl) (fun hHeld => ?_)
               refine tkQ 0 (.slice (some ⟨gl, 0, none⟩) ls.length cl) hHeld (h := ?_)
               (try simp only [Act.put, sA, sB, sC])
               refine tkQ 1 (.int .i64 (k : Int)) hHeld (h := ?_)
               (try simp only [Act.put, sA, sB, sC])
               refine tkQ 2 (.pointer (some ⟨gl, 0 + k * 10, none⟩)) hHeld (he := by intro w hSw; exact exec_index (i := k) (s := 10) 24 56 _ _ rfl rfl rfl rfl HKL.out Try.underlying24 (by kernel_rfl)) (h := ?_)
               (try simp only [Act.put, sA, sB, sC])
               refine tkQ 3 (.pointer (some ⟨gl, 0 + k * 10, none⟩)) hHeld (h := ?_)
               (try simp only [Act.put, sA, sB, sC])
               refine tkQ 4 (.pointer (some ⟨gl, 0 + k * 10, none⟩)) hHeld (h := ?_)
               (try simp only [Act.put, sA, sB, sC])
               refine tkQ 5 (.int .i64 x.se) hHeld (he := by intro w hSw; exact exec_at 3 _ _ (row_l hSw.2.2.2.2 HX.out 0 _ rfl) rfl rfl Try.underlying3 rfl) (h := ?_)
               (try simp only [Act.put, sA, sB, sC])
               refine tkQ 6 (.pointer (some ⟨bn8, 0, none⟩)) hHeld (h := ?_)
               (try simp only [Act.put, sA, sB, sC])
               refine tkQ 7 (.pointer (some ⟨bn8, 0, none⟩)) hHeld (h := ?_)
               (try simp only [Act.put, sA, sB, sC])
               refine tkQ 8 (.int .i64 ((os i).l.se)) hHeld (he := by intro w hSw; exact exec_cell 3 _ _ hSw.2.2.1 rfl rfl rfl Try.underlying3 rfl) (h := ?_)
               (try simp only [Act.put, sA, sB, sC])
               refine tkQ 9 (.bool true) hHeld (he := by intro w hSw; (have q := HES.out; go_simp; (first | done | exact q | (simp [q]; done)))) (h := ?_)
               (try simp only [Act.put, sA, sB, sC])
               refine wpAnyH_done (by kernel_rfl) ?_ _
               have HSd11 := Lib.hid hHeld.1
               have HBCd11 := Lib.hid (hHeld.2.1)
               have HBn8d11 := Lib.hid (hHeld.2.2.1)
               have HFtd11 := Lib.hid (hHeld.2.2.2.1)
               have HFld11 := Lib.hid (hHeld.2.2.2.2)
               clear hHeld HRK HKS HS104 HBC104 HBn8104 HFt104 HFl104
               go_upto_region 12 with fail
               refine wp_region_lit ?_
               refine tkL (.int .i64 (k : Int)) (h := ?_)
               (try simp only [Act.put, sA, sB, sC])
               refine tkL (.int .i64 (k : Int)) (h := ?_)
               (try simp only [Act.put, sA, sB, sC])
               refine wpList_nil ?_
               go_upto_region 13 with fail
               have HKS : Hid (KeepS (fun W : World => Since w W ∧ Blk W w.heap.size 23 (cfgC c) ∧ Blk W bn8 56 #[.int .i64 ((os i).l.se), .int .i64 ((os i).l.fl), .int .i64 ((os i).l.fm), .int .i64 ((os i).l.to), .int .i64 ((os i).l.ma), .int .i64 ((os i).l.ca), .int .i64 ((os i).l.ph), .int .i64 ((os i).l.un), .int .i64 ((os i).l.re), .int .i64 ((os i).l.gr)] ∧ TO w.heap.size t1 c ls St W ∧ (W).ownsRow w.heap.size 56 10 (.slice (some ⟨gl, 0, none⟩) ls.length cl) ls.length (rowsOf leaC ls)) wr.drew) := Lib.hid ⟨fun W W' k ⟨h, h0, h1, h2, h3⟩ => ⟨h.trans k, keep_blk k h0, keep_blk k h1, TO.keep k h2, keep_own k h3⟩, ⟨HSd11.out, HBCd11.out, HBn8d11.out, HFtd11.out, HFld11.out⟩⟩
               have HRK := Lib.hid HKS.out.1
               refine wp_held HKS.out (by kernel_rfl) (fun hHeld => ?_)
               refine tkQ 0 (.slice (some ⟨gl, 0, none⟩) ls.length cl) hHeld (h := ?_)
               (try simp only [Act.put, sA, sB, sC])
               refine tkQ 1 (.int .i64 (k : Int)) hHeld (h := ?_)
               (try simp only [Act.put, sA, sB, sC])
               refine tkQ 2 (.pointer (some ⟨gl, 0 + k * 10, none⟩)) hHeld (he := by intro w hSw; exact exec_index (i := k) (s := 10) 24 56 _ _ rfl rfl rfl rfl HKL.out Try.underlying24 (by kernel_rfl)) (h := ?_)
               (try simp only [Act.put, sA, sB, sC])
               refine tkQ 3 (.pointer (some ⟨gl, 0 + k * 10 + 5, none⟩)) hHeld (h := ?_)
               (try simp only [Act.put, sA, sB, sC])
               refine tkQ 4 (.int .i64 x.ca) hHeld (he := by intro w hSw; exact exec_at 3 _ _ (row_l hSw.2.2.2.2 HX.out 5 _ rfl) rfl rfl Try.underlying3 rfl) (h := ?_)
               (try simp only [Act.put, sA, sB, sC])
               refine tkQ 5 (.pointer (some ⟨bn8, 5, none⟩)) hHeld (h := ?_)
               (try simp only [Act.put, sA, sB, sC])
               refine tkQ 6 (.int .i64 ((os i).l.ca)) hHeld (he := by intro w hSw; exact exec_cell 3 _ _ hSw.2.2.1 rfl rfl rfl Try.underlying3 rfl) (h := ?_)
               (try simp only [Act.put, sA, sB, sC])
               refine tkQ 7 (.bool true) hHeld (he := by intro w hSw; (have q := HEC.out; go_simp; (first | done | exact q | (simp [q]; done)))) (h := ?_)
               (try simp only [Act.put, sA, sB, sC])
               refine wpAnyH_done (by kernel_rfl) ?_ _
               have HSd13 := Lib.hid hHeld.1
               have HBCd13 := Lib.hid (hHeld.2.1)
               have HBn8d13 := Lib.hid (hHeld.2.2.1)
               have HFtd13 := Lib.hid (hHeld.2.2.2.1)
               have HFld13 := Lib.hid (hHeld.2.2.2.2)
               clear hHeld HRK HKS HSd11 HBCd11 HBn8d11 HFtd11 HFld11
               go_upto_region 14 with fail
               refine wp_region_lit ?_
               refine tkL (.int .i64 (k : Int)) (h := ?_)
               (try simp only [Act.put, sA, sB, sC])
               refine tkL (.int .i64 (k : Int)) (h := ?_)
               (try simp only [Act.put, sA, sB, sC])
               refine wpList_nil ?_
               go_upto_region 15 with fail
               have HKS : Hid (KeepS (fun W : World => Since w W ∧ Blk W w.heap.size 23 (cfgC c) ∧ Blk W bn8 56 #[.int .i64 ((os i).l.se), .int .i64 ((os i).l.fl), .int .i64 ((os i).l.fm), .int .i64 ((os i).l.to), .int .i64 ((os i).l.ma), .int .i64 ((os i).l.ca), .int .i64 ((os i).l.ph), .int .i64 ((os i).l.un), .int .i64 ((os i).l.re), .int .i64 ((os i).l.gr)] ∧ TO w.heap.size t1 c ls St W ∧ (W).ownsRow w.heap.size 56 10 (.slice (some ⟨gl, 0, none⟩) ls.length cl) ls.length (rowsOf leaC ls)) wr.drew.drew) := Lib.hid ⟨fun W W' k ⟨h, h0, h1, h2, h3⟩ => ⟨h.trans k, keep_blk k h0, keep_blk k h1, TO.keep k h2, keep_own k h3⟩, ⟨HSd13.out, HBCd13.out, HBn8d13.out, HFtd13.out, HFld13.out⟩⟩
               have HRK := Lib.hid HKS.out.1
               refine wp_held HKS.out (by kernel_rfl) (fun hHeld => ?_)
               refine tkQ 0 (.slice (some ⟨gl, 0, none⟩) ls.length cl) hHeld (h := ?_)
               (try simp only [Act.put, sA, sB, sC])
               refine tkQ 1 (.int .i64 (k : Int)) hHeld (h := ?_)
               (try simp only [Act.put, sA, sB, sC])
               refine tkQ 2 (.pointer (some ⟨gl, 0 + k * 10, none⟩)) hHeld (he := by intro w hSw; exact exec_index (i := k) (s := 10) 24 56 _ _ rfl rfl rfl rfl HKL.out Try.underlying24 (by kernel_rfl)) (h := ?_)
               (try simp only [Act.put, sA, sB, sC])
               refine tkQ 3 (.pointer (some ⟨gl, 0 + k * 10, none⟩)) hHeld (h := ?_)
               (try simp only [Act.put, sA, sB, sC])
               refine tkQ 4 (.pointer (some ⟨gl, 0 + k * 10, none⟩)) hHeld (h := ?_)
               (try simp only [Act.put, sA, sB, sC])
               refine tkQ 5 (.int .i64 x.se) hHeld (he := by intro w hSw; exact exec_at 3 _ _ (row_l hSw.2.2.2.2 HX.out 0 _ rfl) rfl rfl Try.underlying3 rfl) (h := ?_)
               (try simp only [Act.put, sA, sB, sC])
               refine tkQ 6 (.pointer (some ⟨bn8, 0, none⟩)) hHeld (h := ?_)
               (try simp only [Act.put, sA, sB, sC])
               refine tkQ 7 (.pointer (some ⟨bn8, 0, none⟩)) hHeld (h := ?_)
               (try simp only [Act.put, sA, sB, sC])
               refine tkQ 8 (.int .i64 ((os i).l.se)) hHeld (he := by intro w hSw; exact exec_cell 3 _ _ hSw.2.2.1 rfl rfl rfl Try.underlying3 rfl) (h := ?_)
               (try simp only [Act.put, sA, sB, sC])
               refine tkQ 9 (.bool true) hHeld (he := by intro w hSw; (have q := HES.out; go_simp; (first | done | exact q | (simp [q]; done)))) (h := ?_)
               (try simp only [Act.put, sA, sB, sC])
               refine tkQ 10 (.bool true) hHeld (h := ?_)
               (try simp only [Act.put, sA, sB, sC])
               refine tkQ 11 (.slice (some ⟨gl, 0, none⟩) ls.length cl) hHeld (h := ?_)
               (try simp only [Act.put, sA, sB, sC])
               refine tkQ 12 (.int .i64 (k : Int)) hHeld (h := ?_)
               (try simp only [Act.put, sA, sB, sC])
               refine tkQ 13 (.pointer (some ⟨gl, 0 + k * 10, none⟩)) hHeld (he := by intro w hSw; exact exec_index (i := k) (s := 10) 24 56 _ _ rfl rfl rfl rfl HKL.out Try.underlying24 (by kernel_rfl)) (h := ?_)
               (try simp only [Act.put, sA, sB, sC])
               refine tkQ 14 (.pointer (some ⟨gl, 0 + k * 10 + 5, none⟩)) hHeld (h := ?_)
               (try simp only [Act.put, sA, sB, sC])
               refine tkQ 15 (.int .i64 x.ca) hHeld (he := by intro w hSw; exact exec_at 3 _ _ (row_l hSw.2.2.2.2 HX.out 5 _ rfl) rfl rfl Try.underlying3 rfl) (h := ?_)
               (try simp only [Act.put, sA, sB, sC])
               refine tkQ 16 (.pointer (some ⟨bn8, 5, none⟩)) hHeld (h := ?_)
               (try simp only [Act.put, sA, sB, sC])
               refine tkQ 17 (.int .i64 ((os i).l.ca)) hHeld (he := by intro w hSw; exact exec_cell 3 _ _ hSw.2.2.1 rfl rfl rfl Try.underlying3 rfl) (h := ?_)
               (try simp only [Act.put, sA, sB, sC])
               refine tkQ 18 (.bool true) hHeld (he := by intro w hSw; (have q := HEC.out; go_simp; (first | done | exact q | (simp [q]; done)))) (h := ?_)
               (try simp only [Act.put, sA, sB, sC])
               refine tkQ 19 (.bool true) hHeld (h := ?_)
               (try simp only [Act.put, sA, sB, sC])
               refine tkQ 20 (.bool true) hHeld (h := ?_)
               (try simp only [Act.put, sA, sB, sC])
               refine tkQ 21 (.slice (some ⟨gl, 0, none⟩) ls.length cl) hHeld (h := ?_)
               (try simp only [Act.put, sA, sB, sC])
               refine tkQ 22 (.int .i64 (k : Int)) hHeld (h := ?_)
               (try simp only [Act.put, sA, sB, sC])
               refine tkQ 23 (.pointer (some ⟨gl, 0 + k * 10, none⟩)) hHeld (he := by intro w hSw; exact exec_index (i := k) (s := 10) 24 56 _ _ rfl rfl rfl rfl HKL.out Try.underlying24 (by kernel_rfl)) (h := ?_)
               (try simp only [Act.put, sA, sB, sC])
               refine tkQ 24 (.pointer (some ⟨gl, 0 + k * 10, none⟩)) hHeld (h := ?_)
               (try simp only [Act.put, sA, sB, sC])
               refine tkQ 25 (.pointer (some ⟨gl, 0 + k * 10 + 1, none⟩)) hHeld (h := ?_)
               (try simp only [Act.put, sA, sB, sC])
               refine tkQ 26 (.int .i64 x.fl) hHeld (he := by intro w hSw; exact exec_at 3 _ _ (row_l hSw.2.2.2.2 HX.out 1 _ rfl) rfl rfl Try.underlying3 rfl) (h := ?_)
               (try simp only [Act.put, sA, sB, sC])
               refine tkQ 27 (.pointer (some ⟨bn8, 0, none⟩)) hHeld (h := ?_)
               (try simp only [Act.put, sA, sB, sC])
               refine tkQ 28 (.pointer (some ⟨bn8, 1, none⟩)) hHeld (h := ?_)
               (try simp only [Act.put, sA, sB, sC])
               refine tkQ 29 (.int .i64 ((os i).l.fl)) hHeld (he := by intro w hSw; exact exec_cell 3 _ _ hSw.2.2.1 rfl rfl rfl Try.underlying3 rfl) (h := ?_)
               (try simp only [Act.put, sA, sB, sC])
               refine tkQ 30 (.bool false) hHeld (he := by intro w hSw; (have q := HEF.out; go_simp; (first | done | exact q | (simp [q]; done)))) (h := ?_)
               (try simp only [Act.put, sA, sB, sC])
               refine tkQ 31 (.bool false) hHeld (h := ?_)
               (try simp only [Act.put, sA, sB, sC])
               refine wpAnyH_done (by kernel_rfl) ?_ _
               have HSd15 := Lib.hid hHeld.1
               have HBCd15 := Lib.hid (hHeld.2.1)
               have HBn8d15 := Lib.hid (hHeld.2.2.1)
               have HFtd15 := Lib.hid (hHeld.2.2.2.1)
               have HFld15 := Lib.hid (hHeld.2.2.2.2)
               clear hHeld HRK HKS HSd13 HBCd13 HBn8d13 HFtd13 HFld13
               go_upto_region 10 with fail
               refine wp_region_lit ?_
               refine tkL (.int .i64 (k : Int)) (h := ?_)
               (try simp only [Act.put, sA, sB, sC])
               refine wpList_q (by rfl) (.int .i64 ((k : Int) + 1)) ?he ?_
               case he => (go_simp; (first | done | (refine wr64 _ ?_ ?_ <;> (have q0 := HKL.out; have q1 := HLB.out; omega)) | (have q0 := HKL.out; have q1 := HLB.out; omega) | (have q0 := HKL.out; have q1 := HLB.out; split <;> omega) | (have q0 := HKL.out; have q1 := HLB.out; intro hh; omega)))
               (try simp only [Act.put, sA, sB, sC])
               refine tkL (.int .i64 ((k : Int) + 1)) (h := ?_)
               (try simp only [Act.put, sA, sB, sC])
               refine wpList_nil ?_
               go_wp2_with fail
               refine Met.intro ?_
               refine hJ2 _ _ _ ?less104 ⟨(k + 1), rfl, ⟨rfl, rfl, rfl, rfl, rfl, rfl, rfl, rfl, rfl, (by rw [← last_hit (p := isS (os i).l.se) HX.out (pS HES.out)]; rfl), (by rw [← last_hit (p := isC (os i).l.ca) HX.out (pC HEC.out)]; rfl), (by rw [← last_miss (p := isT (os i).l) HX.out (pTc HEF.out)]; rfl), rfl, trivial⟩, Lib.hid ⟨by have := HKL.out; omega, HSd15.out, HBCd15.out, HBn8d15.out, HFtd15.out, HFld15.out⟩⟩
               case less104 => exact (by have := HMk.out; have := HKL.out; omega)
             · have HEF := Lib.hid hcs; clear hcs
               go_upto_region 11 with fail
               have HKS : Hid (KeepS (fun W : World => Since w W ∧ Blk W w.heap.size 23 (cfgC c) ∧ Blk W bn8 56 #[.int .i64 ((os i).l.se), .int .i64 ((os i).l.fl), .int .i64 ((os i).l.fm), .int .i64 ((os i).l.to), .int .i64 ((os i).l.ma), .int .i64 ((os i).l.ca), .int .i64 ((os i).l.ph), .int .i64 ((os i).l.un), .int .i64 ((os i).l.re), .int .i64 ((os i).l.gr)] ∧ TO w.heap.size t1 c ls St W ∧ (W).ownsRow w.heap.size 56 10 (.slice (some ⟨gl, 0, none⟩) ls.length cl) ls.length (rowsOf leaC ls)) wr) := Lib.hid ⟨fun W W' k ⟨h, h0, h1, h2, h3⟩ => ⟨h.trans k, keep_blk k h0, keep_blk k h1, TO.keep k h2, keep_own k h3⟩, ⟨HS104.out, HBC104.out, HBn8104.out, HFt104.out, HFl104.out⟩⟩
               have HRK := Lib.hid HKS.out.1
               refine wp_held HKS.out (by kernel_rfl) (fun hHeld => ?_)
               refine tkQ 0 (.slice (some ⟨gl, 0, none⟩) ls.length cl) hHeld (h := ?_)
               (try simp only [Act.put, sA, sB, sC])
               refine tkQ 1 (.int .i64 (k : Int)) hHeld (h := ?_)
               (try simp only [Act.put, sA, sB, sC])
               refine tkQ 2 (.pointer (some ⟨gl, 0 + k * 10, none⟩)) hHeld (he := by intro w hSw; exact exec_index (i := k) (s := 10) 24 56 _ _ rfl rfl rfl rfl HKL.out Try.underlying24 (by kernel_rfl)) (h := ?_)
               (try simp only [Act.put, sA, sB, sC])
               refine tkQ 3 (.pointer (some ⟨gl, 0 + k * 10, none⟩)) hHeld (h := ?_)
               (try simp only [Act.put, sA, sB, sC])
               refine tkQ 4 (.pointer (some ⟨gl, 0 + k * 10, none⟩)) hHeld (h := ?_)
               (try simp only [Act.put, sA, sB, sC])
               refine tkQ 5 (.int .i64 x.se) hHeld (he := by intro w hSw; exact exec_at 3 _ _ (row_l hSw.2.2.2.2 HX.out 0 _ rfl) rfl rfl Try.underlying3 rfl) (h := ?_)
               (try simp only [Act.put, sA, sB, sC])
               refine tkQ 6 (.pointer (some ⟨bn8, 0, none⟩)) hHeld (h := ?_)
               (try simp only [Act.put, sA, sB, sC])
               refine tkQ 7 (.pointer (some ⟨bn8, 0, none⟩)) hHeld (h := ?_)
               (try simp only [Act.put, sA, sB, sC])
               refine tkQ 8 (.int .i64 ((os i).l.se)) hHeld (he := by intro w hSw; exact exec_cell 3 _ _ hSw.2.2.1 rfl rfl rfl Try.underlying3 rfl) (h := ?_)
               (try simp only [Act.put, sA, sB, sC])
               refine tkQ 9 (.bool true) hHeld (he := by intro w hSw; (have q := HES.out; go_simp; (first | done | exact q | (simp [q]; done)))) (h := ?_)
               (try simp only [Act.put, sA, sB, sC])
               refine wpAnyH_done (by kernel_rfl) ?_ _
               have HSd11 := Lib.hid hHeld.1
               have HBCd11 := Lib.hid (hHeld.2.1)
               have HBn8d11 := Lib.hid (hHeld.2.2.1)
               have HFtd11 := Lib.hid (hHeld.2.2.2.1)
               have HFld11 := Lib.hid (hHeld.2.2.2.2)
               clear hHeld HRK HKS HS104 HBC104 HBn8104 HFt104 HFl104
               go_upto_region 12 with fail
               refine wp_region_lit ?_
               refine tkL (.int .i64 (k : Int)) (h := ?_)
               (try simp only [Act.put, sA, sB, sC])
               refine tkL (.int .i64 (k : Int)) (h := ?_)
               (try simp only [Act.put, sA, sB, sC])
               refine wpList_nil ?_
               go_upto_region 13 with fail
               have HKS : Hid (KeepS (fun W : World => Since w W ∧ Blk W w.heap.size 23 (cfgC c) ∧ Blk W bn8 56 #[.int .i64 ((os i).l.se), .int .i64 ((os i).l.fl), .int .i64 ((os i).l.fm), .int .i64 ((os i).l.to), .int .i64 ((os i).l.ma), .int .i64 ((os i).l.ca), .int .i64 ((os i).l.ph), .int .i64 ((os i).l.un), .int .i64 ((os i).l.re), .int .i64 ((os i).l.gr)] ∧ TO w.heap.size t1 c ls St W ∧ (W).ownsRow w.heap.size 56 10 (.slice (some ⟨gl, 0, none⟩) ls.length cl) ls.length (rowsOf leaC ls)) wr.drew) := Lib.hid ⟨fun W W' k ⟨h, h0, h1, h2, h3⟩ => ⟨h.trans k, keep_blk k h0, keep_blk k h1, TO.keep k h2, keep_own k h3⟩, ⟨HSd11.out, HBCd11.out, HBn8d11.out, HFtd11.out, HFld11.out⟩⟩
               have HRK := Lib.hid HKS.out.1
               refine wp_held HKS.out (by kernel_rfl) (fun hHeld => ?_)
               refine tkQ 0 (.slice (some ⟨gl, 0, none⟩) ls.length cl) hHeld (h := ?_)
               (try simp only [Act.put, sA, sB, sC])
               refine tkQ 1 (.int .i64 (k : Int)) hHeld (h := ?_)
               (try simp only [Act.put, sA, sB, sC])
               refine tkQ 2 (.pointer (some ⟨gl, 0 + k * 10, none⟩)) hHeld (he := by intro w hSw; exact exec_index (i := k) (s := 10) 24 56 _ _ rfl rfl rfl rfl HKL.out Try.underlying24 (by kernel_rfl)) (h := ?_)
               (try simp only [Act.put, sA, sB, sC])
               refine tkQ 3 (.pointer (some ⟨gl, 0 + k * 10 + 5, none⟩)) hHeld (h := ?_)
               (try simp only [Act.put, sA, sB, sC])
               refine tkQ 4 (.int .i64 x.ca) hHeld (he := by intro w hSw; exact exec_at 3 _ _ (row_l hSw.2.2.2.2 HX.out 5 _ rfl) rfl rfl Try.underlying3 rfl) (h := ?_)
               (try simp only [Act.put, sA, sB, sC])
               refine tkQ 5 (.pointer (some ⟨bn8, 5, none⟩)) hHeld (h := ?_)
               (try simp only [Act.put, sA, sB, sC])
               refine tkQ 6 (.int .i64 ((os i).l.ca)) hHeld (he := by intro w hSw; exact exec_cell 3 _ _ hSw.2.2.1 rfl rfl rfl Try.underlying3 rfl) (h := ?_)
               (try simp only [Act.put, sA, sB, sC])
               refine tkQ 7 (.bool true) hHeld (he := by intro w hSw; (have q := HEC.out; go_simp; (first | done | exact q | (simp [q]; done)))) (h := ?_)
               (try simp only [Act.put, sA, sB, sC])
               refine wpAnyH_done (by kernel_rfl) ?_ _
               have HSd13 := Lib.hid hHeld.1
               have HBCd13 := Lib.hid (hHeld.2.1)
               have HBn8d13 := Lib.hid (hHeld.2.2.1)
               have HFtd13 := Lib.hid (hHeld.2.2.2.1)
               have HFld13 := Lib.hid (hHeld.2.2.2.2)
               clear hHeld HRK HKS HSd11 HBCd11 HBn8d11 HFtd11 HFld11
               go_upto_region 14 with fail
               refine wp_region_lit ?_
               refine tkL (.int .i64 (k : Int)) (h := ?_)
               (try simp only [Act.put, sA, sB, sC])
               refine tkL (.int .i64 (k : Int)) (h := ?_)
               (try simp only [Act.put, sA, sB, sC])
               refine wpList_nil ?_
               go_upto_region 15 with fail
               have HKS : Hid (KeepS (fun W : World => Since w W ∧ Blk W w.heap.size 23 (cfgC c) ∧ Blk W bn8 56 #[.int .i64 ((os i).l.se), .int .i64 ((os i).l.fl), .int .i64 ((os i).l.fm), .int .i64 ((os i).l.to), .int .i64 ((os i).l.ma), .int .i64 ((os i).l.ca), .int .i64 ((os i).l.ph), .int .i64 ((os i).l.un), .int .i64 ((os i).l.re), .int .i64 ((os i).l.gr)] ∧ TO w.heap.size t1 c ls St W ∧ (W).ownsRow w.heap.size 56 10 (.slice (some ⟨gl, 0, none⟩) ls.length cl) ls.length (rowsOf leaC ls)) wr.drew.drew) := Lib.hid ⟨fun W W' k ⟨h, h0, h1, h2, h3⟩ => ⟨h.trans k, keep_blk k h0, keep_blk k h1, TO.keep k h2, keep_own k h3⟩, ⟨HSd13.out, HBCd13.out, HBn8d13.out, HFtd13.out, HFld13.out⟩⟩
               have HRK := Lib.hid HKS.out.1
               refine wp_held HKS.out (by kernel_rfl) (fun hHeld => ?_)
               refine tkQ 0 (.slice (some ⟨gl, 0, none⟩) ls.length cl) hHeld (h := ?_)
               (try simp only [Act.put, sA, sB, sC])
               refine tkQ 1 (.int .i64 (k : Int)) hHeld (h := ?_)
               (try simp only [Act.put, sA, sB, sC])
               refine tkQ 2 (.pointer (some ⟨gl, 0 + k * 10, none⟩)) hHeld (he := by intro w hSw; exact exec_index (i := k) (s := 10) 24 56 _ _ rfl rfl rfl rfl HKL.out Try.underlying24 (by kernel_rfl)) (h := ?_)
               (try simp only [Act.put, sA, sB, sC])
               refine tkQ 3 (.pointer (some ⟨gl, 0 + k * 10, none⟩)) hHeld (h := ?_)
               (try simp only [Act.put, sA, sB, sC])
               refine tkQ 4 (.pointer (some ⟨gl, 0 + k * 10, none⟩)) hHeld (h := ?_)
               (try simp only [Act.put, sA, sB, sC])
               refine tkQ 5 (.int .i64 x.se) hHeld (he := by intro w hSw; exact exec_at 3 _ _ (row_l hSw.2.2.2.2 HX.out 0 _ rfl) rfl rfl Try.underlying3 rfl) (h := ?_)
               (try simp only [Act.put, sA, sB, sC])
               refine tkQ 6 (.pointer (some ⟨bn8, 0, none⟩)) hHeld (h := ?_)
               (try simp only [Act.put, sA, sB, sC])
               refine tkQ 7 (.pointer (some ⟨bn8, 0, none⟩)) hHeld (h := ?_)
               (try simp only [Act.put, sA, sB, sC])
               refine tkQ 8 (.int .i64 ((os i).l.se)) hHeld (he := by intro w hSw; exact exec_cell 3 _ _ hSw.2.2.1 rfl rfl rfl Try.underlying3 rfl) (h := ?_)
               (try simp only [Act.put, sA, sB, sC])
               refine tkQ 9 (.bool true) hHeld (he := by intro w hSw; (have q := HES.out; go_simp; (first | done | exact q | (simp [q]; done)))) (h := ?_)
               (try simp only [Act.put, sA, sB, sC])
               refine tkQ 10 (.bool true) hHeld (h := ?_)
               (try simp only [Act.put, sA, sB, sC])
               refine tkQ 11 (.slice (some ⟨gl, 0, none⟩) ls.length cl) hHeld (h := ?_)
               (try simp only [Act.put, sA, sB, sC])
               refine tkQ 12 (.int .i64 (k : Int)) hHeld (h := ?_)
               (try simp only [Act.put, sA, sB, sC])
               refine tkQ 13 (.pointer (some ⟨gl, 0 + k * 10, none⟩)) hHeld (he := by intro w hSw; exact exec_index (i := k) (s := 10) 24 56 _ _ rfl rfl rfl rfl HKL.out Try.underlying24 (by kernel_rfl)) (h := ?_)
               (try simp only [Act.put, sA, sB, sC])
               refine tkQ 14 (.pointer (some ⟨gl, 0 + k * 10 + 5, none⟩)) hHeld (h := ?_)
               (try simp only [Act.put, sA, sB, sC])
               refine tkQ 15 (.int .i64 x.ca) hHeld (he := by intro w hSw; exact exec_at 3 _ _ (row_l hSw.2.2.2.2 HX.out 5 _ rfl) rfl rfl Try.underlying3 rfl) (h := ?_)
               (try simp only [Act.put, sA, sB, sC])
               refine tkQ 16 (.pointer (some ⟨bn8, 5, none⟩)) hHeld (h := ?_)
               (try simp only [Act.put, sA, sB, sC])
               refine tkQ 17 (.int .i64 ((os i).l.ca)) hHeld (he := by intro w hSw; exact exec_cell 3 _ _ hSw.2.2.1 rfl rfl rfl Try.underlying3 rfl) (h := ?_)
               (try simp only [Act.put, sA, sB, sC])
               refine tkQ 18 (.bool true) hHeld (he := by intro w hSw; (have q := HEC.out; go_simp; (first | done | exact q | (simp [q]; done)))) (h := ?_)
               (try simp only [Act.put, sA, sB, sC])
               refine tkQ 19 (.bool true) hHeld (h := ?_)
               (try simp only [Act.put, sA, sB, sC])
               refine tkQ 20 (.bool true) hHeld (h := ?_)
               (try simp only [Act.put, sA, sB, sC])
               refine tkQ 21 (.slice (some ⟨gl, 0, none⟩) ls.length cl) hHeld (h := ?_)
               (try simp only [Act.put, sA, sB, sC])
               refine tkQ 22 (.int .i64 (k : Int)) hHeld (h := ?_)
               (try simp only [Act.put, sA, sB, sC])
               refine tkQ 23 (.pointer (some ⟨gl, 0 + k * 10, none⟩)) hHeld (he := by intro w hSw; exact exec_index (i := k) (s := 10) 24 56 _ _ rfl rfl rfl rfl HKL.out Try.underlying24 (by kernel_rfl)) (h := ?_)
               (try simp only [Act.put, sA, sB, sC])
               refine tkQ 24 (.pointer (some ⟨gl, 0 + k * 10, none⟩)) hHeld (h := ?_)
               (try simp only [Act.put, sA, sB, sC])
               refine tkQ 25 (.pointer (some ⟨gl, 0 + k * 10 + 1, none⟩)) hHeld (h := ?_)
               (try simp only [Act.put, sA, sB, sC])
               refine tkQ 26 (.int .i64 x.fl) hHeld (he := by intro w hSw; exact exec_at 3 _ _ (row_l hSw.2.2.2.2 HX.out 1 _ rfl) rfl rfl Try.underlying3 rfl) (h := ?_)
               (try simp only [Act.put, sA, sB, sC])
               refine tkQ 27 (.pointer (some ⟨bn8, 0, none⟩)) hHeld (h := ?_)
               (try simp only [Act.put, sA, sB, sC])
               refine tkQ 28 (.pointer (some ⟨bn8, 1, none⟩)) hHeld (h := ?_)
               (try simp only [Act.put, sA, sB, sC])
               refine tkQ 29 (.int .i64 ((os i).l.fl)) hHeld (he := by intro w hSw; exact exec_cell 3 _ _ hSw.2.2.1 rfl rfl rfl Try.underlying3 rfl) (h := ?_)
               (try simp only [Act.put, sA, sB, sC])
               refine tkQ 30 (.bool true) hHeld (he := by intro w hSw; (have q := HEF.out; go_simp; (first | done | exact q | (simp [q]; done)))) (h := ?_)
               (try simp only [Act.put, sA, sB, sC])
               refine tkQ 31 (.bool true) hHeld (h := ?_)
               (try simp only [Act.put, sA, sB, sC])
               refine wpAnyH_done (by kernel_rfl) ?_ _
               have HSd15 := Lib.hid hHeld.1
               have HBCd15 := Lib.hid (hHeld.2.1)
               have HBn8d15 := Lib.hid (hHeld.2.2.1)
               have HFtd15 := Lib.hid (hHeld.2.2.2.1)
               have HFld15 := Lib.hid (hHeld.2.2.2.2)
               clear hHeld HRK HKS HSd13 HBCd13 HBn8d13 HFtd13 HFld13
               go_upto_region 16 with fail
               refine wp_region_lit ?_
               refine tkL (.int .i64 (k : Int)) (h := ?_)
               (try simp only [Act.put, sA, sB, sC])
               refine tkL (.int .i64 (k : Int)) (h := ?_)
               (try simp only [Act.put, sA, sB, sC])
               refine wpList_nil ?_
               go_upto_region 10 with fail
               refine wp_region_lit ?_
               refine tkL (.int .i64 (k : Int)) (h := ?_)
               (try simp only [Act.put, sA, sB, sC])
               refine wpList_q (by rfl) (.int .i64 ((k : Int) + 1)) ?he ?_
               case he => (go_simp; (first | done | (refine wr64 _ ?_ ?_ <;> (have q0 := HKL.out; have q1 := HLB.out; omega)) | (have q0 := HKL.out; have q1 := HLB.out; omega) | (have q0 := HKL.out; have q1 := HLB.out; split <;> omega) | (have q0 := HKL.out; have q1 := HLB.out; intro hh; omega)))
               (try simp only [Act.put, sA, sB, sC])
               refine tkL (.int .i64 ((k : Int) + 1)) (h := ?_)
               (try simp only [Act.put, sA, sB, sC])
               refine wpList_nil ?_
               go_wp2_with fail
               refine Met.intro ?_
               refine hJ2 _ _ _ ?less104 ⟨(k + 1), rfl, ⟨rfl, rfl, rfl, rfl, rfl, rfl, rfl, rfl, rfl, (by rw [← last_hit (p := isS (os i).l.se) HX.out (pS HES.out)]; rfl), (by rw [← last_hit (p := isC (os i).l.ca) HX.out (pC HEC.out)]; rfl), (by rw [← last_hit (p := isT (os i).l) HX.out (pT HES.out HEC.out HEF.out)]; rfl), rfl, trivial⟩, Lib.hid ⟨by have := HKL.out; omega, HSd15.out, HBCd15.out, HBn8d15.out, HFtd15.out, HFld15.out⟩⟩
               case less104 => exact (by have := HMk.out; have := HKL.out; omega)
theorem playsF {H : Type} {enc : TypeId × Value → H} {x : DataW H × List MemPlace} (c : CfgV) (Ao : Option Addr) (on oc : Nat) (w : World) (hx : ∃ m, DataW.trod enc Try.prog w 0 (fun _ => true) true m 52 (Value.cells (.slice Ao on oc)).toList = some x) :
    Calls Try.prog 8 #[.agg (cfgC c), .slice Ao on oc] w fun e w' => e = .returned (.bool true) ∧ Since w w' := by
  obtain ⟨m, hm⟩ := hx
  obtain ⟨os, ho, hl⟩ := Lops.open_ hm
  exact plays c Ao on oc os w ho hl
end Go.Proofs.Ytggafipgfgbbiaa.Le
