/-
  NetPlays: walked.
  Conditions: what stands ahead of each.
-/
import Derived.Test.YtlihhjcneedgnaaProg
import Derived.Test.YtlihhjcneedgnaaShort
import Derived.Test.YtlihhjcneedgnaaNetQ
import Derived.Test.YtlihhjcneedgnaaNetE
import Derived.Test.YtlihhjcneedgnaaNetM
import Derived.Test.YtlihhjcneedgnaaNop
import Derived.Test.YtlihhjcneedgnaaCut
import Derived.Deep.CutBlock
namespace Go.Proofs.Ytlihhjcneedgnaa.Nt
set_option linter.unusedVariables false
set_option linter.unusedSimpArgs false
open Go.RowKit Go.Proofs.Ytlihhjcneedgnaa.Ba Go.Proofs.Ytlihhjcneedgnaa.Mem
open Go.Proofs.Ytlihhjcneedgnaa.Byt (BV isB cells)
open Go.Proofs.Ytlihhjcneedgnaa.Mp (MapF setK exec_look wp_mapput wp_mapdel wp_mapnew)
set_option maxRecDepth 100000
attribute [local irreducible] Go.wpList
set_option maxHeartbeats 4000000 in
theorem plays (ends room : Int) (Ao : Option Addr) (on oc : Nat) (os : Nat → NopV) (w : World) (ho : Nops w Ao on os) (hol : on ≤ 9223372036854775807) : Calls Try.prog 6 #[.int .i64 ends, .int .i64 room, .slice Ao on oc] w fun e w' => e = .returned (.bool true) ∧ Since w w' := by
 have HO := Lib.hid ho
 clear ho
 have HOL := Lib.hid hol
 clear hol
 go_enter Try.func6, Try.ntmps6
 go_upto_region 1 with fail
 have HS1 := Lib.hid (Since.refl w)
 by_cases hcs : 100 < ends
 rotate_left
 · have HE := Lib.hid hcs; clear hcs
   refine wp_region_lit ?_
   refine tkL (.int .i64 ends) (h := ?_)
   (try simp only [Act.put, sA, sB, sC])
   refine wpList_q (by rfl) (.bool false) ?he ?_
   case he => (have q0 := HE.out; go_simp; (first | done | rfl | omega))
   (try simp only [Act.put, sA, sB, sC])
   refine wpList_nil ?_
   go_upto_region 3 with fail
   refine wp_region_lit ?_
   refine tkL (.int .i64 ends) (h := ?_)
   (try simp only [Act.put, sA, sB, sC])
   refine tkL (.int .i64 room) (h := ?_)
   (try simp only [Act.put, sA, sB, sC])
   refine wpList_wp (by rfl) (fun K hK => ?_)
   (try go_simp)
   refine (newC ends room _).mono ?_
   rintro e w2 ⟨q1, S1, rfl, hobj, hb⟩
   (try go_wp2_with fail)
   refine hK.out _ _ ?_
   clear hK K
   (try simp only [Act.put, sA, sB, sC])
   have HGq := Lib.hid (NC.base hobj (Since.size HS1.out)); clear hobj
   have HS2 := Lib.hid (Since.trans HS1.out hb)
   clear HS1 
   clear hb
   refine tkL (.pointer (some ⟨q1, 0, none⟩)) (h := ?_)
   (try simp only [Act.put, sA, sB, sC])
   refine wpList_nil ?_
   obtain ⟨m, hm⟩ : ∃ m : Nat, (m : Int) = max ends 0 := ⟨(max ends 0).toNat, by omega⟩
   have HMX := Lib.hid hm; have HM100 := Lib.hid (show m ≤ 100 by have := HE.out; omega); clear hm
   go_upto_region 4 with fail
   refine wp_region_lit ?_
   refine tkL (.int .i64 ends) (h := ?_)
   (try simp only [Act.put, sA, sB, sC])
   refine wpList_q (by rfl) (.int .i64 (m : Int)) ?he ?_
   case he => (have q := HMX.out; go_simp; (first | done | rfl | (rw [q]; done) | (congr 1; omega) | omega))
   (try simp only [Act.put, sA, sB, sC])
   refine wpList_wp (by rfl) (fun K hK => ?_)
   refine wp_make0 54 58 (.tmp 24) (.tmp 24) rfl (z := .slice none 0 0) (k := 1) (bytes := 24) Try.underlying54 (by kernel_rfl) m rfl rfl (by have := HM100.out; omega) (by decide) ?_
   intro gm w3 hge hB hb
   refine hK.out _ _ ?_
   clear hK K
   (try simp only [Act.put, sA, sB, sC])
   have HGM := Lib.hid (show w.heap.size ≤ gm by have := Since.size HS2.out; omega)
   have HNG := Lib.hid (NC.far HGq.out hge); clear hge
   have HS3 := Lib.hid (Since.trans HS2.out hb)
   have HFq3 := Lib.hid (NC.keep hb HGq.out)
   clear HS2 HGq
   clear hb
   have HFmo := Lib.hid (mo0 HGM.out hB); clear hB
   refine tkL (.slice (some ⟨gm, 0, none⟩) m m) (h := ?_)
   (try simp only [Act.put, sA, sB, sC])
   refine wpList_nil ?_
   go_upto_region 5 with fail
   refine wp_region_lit ?_
   refine tkL (.int .i64 0) (h := ?_)
   (try simp only [Act.put, sA, sB, sC])
   refine wpList_nil ?_
   go_wp2_with fail
   refine wp_uloop (ds := []) (fun n fr wr => ∃ (i : Nat) (c : Int → List (List Int)) (Sq : List Nat) (rs : List RowS) (Sm : List Nat), (200 - i) = n ∧ Fits fr 244 [(0, .int .i64 ends), (1, .int .i64 room), (2, .slice Ao on oc), (6, .bool false), (7, .pointer (some ⟨q1, 0, none⟩)), (8, .slice (some ⟨gm, 0, none⟩) m m), (9, .int .i64 (i : Int))] ∧ Hid (i ≤ 200 ∧ (∀ x, (c x).length ≤ i) ∧ rs.length = m ∧ Same rs c ∧ (∀ g ∈ Sm, g ∉ Sq) ∧ Since w wr ∧ NC w.heap.size q1 ends room i c Sq wr ∧ MO w.heap.size gm rs Sm wr)) (200) ?start3 ?round3
   case start3 => exact ⟨0, (fun _ => []), S1, (rows0 m), [gm], rfl, ⟨rfl, rfl, rfl, rfl, rfl, rfl, rfl, rfl, trivial⟩, Lib.hid ⟨by decide, (fun _ => by simp), by simp [rows0], same0, (fun g hg h => HNG.out (by rw [List.mem_singleton.1 hg] at h; exact h)), HS3.out, HFq3.out, HFmo.out⟩⟩
   intro n fr wr hR J1 K1 hJ1 hK1
   clear HS3 HFq3 HFmo
   obtain ⟨i, c, Sq, rs, Sm, hn, hF, HO⟩ := hR
   have HM := Lib.hid hn; clear hn
   obtain ⟨e0, e1, e2, e3, e4, g0, g1, g2⟩ := HO.out
   clear HO
   have HI200 := Lib.hid e0
   have HCL := Lib.hid e1
   have HRL := Lib.hid e2
   have HSM := Lib.hid e3
   have HDM := Lib.hid e4
   have HS53 := Lib.hid g0
   have HFq53 := Lib.hid g1
   have HFmo53 := Lib.hid g2
   clear e0 e1 e2 e3 e4 g0 g1 g2
   obtain ⟨u, hu⟩ := hF.open_
   have hu2 := hu.trans (show _ = #[.int .i64 ends, .int .i64 room, .slice Ao on oc, u 3, u 4, u 5, .bool false, .pointer (some ⟨q1, 0, none⟩), .slice (some ⟨gm, 0, none⟩) m m, .int .i64 (i : Int), u 10, u 11, u 12, u 13, u 14, u 15, u 16, u 17, u 18, u 19, u 20, u 21, u 22, u 23, u 24, u 25, u 26, u 27, u 28, u 29, u 30, u 31, u 32, u 33, u 34, u 35, u 36, u 37, u 38, u 39, u 40, u 41, u 42, u 43, u 44, u 45, u 46, u 47, u 48, u 49, u 50, u 51, u 52, u 53, u 54, u 55, u 56, u 57, u 58, u 59, u 60, u 61, u 62, u 63, u 64, u 65, u 66, u 67, u 68, u 69, u 70, u 71, u 72, u 73, u 74, u 75, u 76, u 77, u 78, u 79, u 80, u 81, u 82, u 83, u 84, u 85, u 86, u 87, u 88, u 89, u 90, u 91, u 92, u 93, u 94, u 95, u 96, u 97, u 98, u 99, u 100, u 101, u 102, u 103, u 104, u 105, u 106, u 107, u 108, u 109, u 110, u 111, u 112, u 113, u 114, u 115, u 116, u 117, u 118, u 119, u 120, u 121, u 122, u 123, u 124, u 125, u 126, u 127, u 128, u 129, u 130, u 131, u 132, u 133, u 134, u 135, u 136, u 137, u 138, u 139, u 140, u 141, u 142, u 143, u 144, u 145, u 146, u 147, u 148, u 149, u 150, u 151, u 152, u 153, u 154, u 155, u 156, u 157, u 158, u 159, u 160, u 161, u 162, u 163, u 164, u 165, u 166, u 167, u 168, u 169, u 170, u 171, u 172, u 173, u 174, u 175, u 176, u 177, u 178, u 179, u 180, u 181, u 182, u 183, u 184, u 185, u 186, u 187, u 188, u 189, u 190, u 191, u 192, u 193, u 194, u 195, u 196, u 197, u 198, u 199, u 200, u 201, u 202, u 203, u 204, u 205, u 206, u 207, u 208, u 209, u 210, u 211, u 212, u 213, u 214, u 215, u 216, u 217, u 218, u 219, u 220, u 221, u 222, u 223, u 224, u 225, u 226, u 227, u 228, u 229, u 230, u 231, u 232, u 233, u 234, u 235, u 236, u 237, u 238, u 239, u 240, u 241, u 242, u 243] by kernel_rfl)
   clear hu hF
   subst hu2
   by_cases hcs : i < on
   rotate_left
   · have HLT := Lib.hid hcs; clear hcs
     go_upto_region 6 with fail
     refine wp_region_lit ?_
     refine tkL (.int .i64 (i : Int)) (h := ?_)
     (try simp only [Act.put, sA, sB, sC])
     refine tkL (.slice Ao on oc) (h := ?_)
     (try simp only [Act.put, sA, sB, sC])
     refine tkL (.int .i64 (on : Int)) (h := ?_)
     (try simp only [Act.put, sA, sB, sC])
     refine wpList_q (by rfl) (.bool false) ?he ?_
     case he => (have q0 := HLT.out; go_simp; (first | done | rfl | omega))
     (try simp only [Act.put, sA, sB, sC])
     refine tkL (.bool false) (h := ?_)
     (try simp only [Act.put, sA, sB, sC])
     refine wpList_no (by rfl) ?_
     (try simp only [Act.put, sA, sB, sC])
     refine wpList_no (by rfl) ?_
     (try simp only [Act.put, sA, sB, sC])
     refine tkL (.bool false) (h := ?_)
     (try simp only [Act.put, sA, sB, sC])
     refine wpList_nil ?_
     go_upto_region 41 with fail
     refine wp_region_lit ?_
     refine wpList_wp (by rfl) (fun K hK => ?_)
     (try go_simp)
     refine (ans _).mono ?_
     rintro e w54 ⟨rfl, hb⟩
     (try go_wp2_with fail)
     refine hK.out _ _ ?_
     clear hK K
     (try simp only [Act.put, sA, sB, sC])
     have HS54 := Lib.hid (Since.trans HS53.out hb)
     have HFq54 := Lib.hid (NC.keep hb HFq53.out)
     have HFmo54 := Lib.hid (MO.keep hb HFmo53.out)
     clear HS53 HFq53 HFmo53
     clear hb
     refine tkL (.bool true) (h := ?_)
     (try simp only [Act.put, sA, sB, sC])
     refine wpList_nil ?_
     (try go_wp2_with fail)
     go_ret
     exact ⟨rfl, HS54.out⟩
   · have HLT := Lib.hid hcs; clear hcs
     by_cases hcs : i < 200
     rotate_left
     · have HI8 := Lib.hid hcs; clear hcs
       go_upto_region 6 with fail
       refine wp_region_lit ?_
       refine tkL (.int .i64 (i : Int)) (h := ?_)
       (try simp only [Act.put, sA, sB, sC])
       refine tkL (.slice Ao on oc) (h := ?_)
       (try simp only [Act.put, sA, sB, sC])
       refine tkL (.int .i64 (on : Int)) (h := ?_)
       (try simp only [Act.put, sA, sB, sC])
       refine wpList_q (by rfl) (.bool true) ?he ?_
       case he => (have q0 := HLT.out; go_simp; (first | done | rfl | omega))
       (try simp only [Act.put, sA, sB, sC])
       refine tkL (.bool true) (h := ?_)
       (try simp only [Act.put, sA, sB, sC])
       refine tkL (.int .i64 (i : Int)) (h := ?_)
       (try simp only [Act.put, sA, sB, sC])
       refine wpList_q (by rfl) (.bool false) ?he ?_
       case he => (have q0 := HI8.out; go_simp; (first | done | rfl | omega))
       (try simp only [Act.put, sA, sB, sC])
       refine tkL (.bool false) (h := ?_)
       (try simp only [Act.put, sA, sB, sC])
       refine wpList_nil ?_
       go_upto_region 41 with fail
       refine wp_region_lit ?_
       refine wpList_wp (by rfl) (fun K hK => ?_)
       (try go_simp)
       refine (ans _).mono ?_
       rintro e w54 ⟨rfl, hb⟩
       (try go_wp2_with fail)
       refine hK.out _ _ ?_
       clear hK K
       (try simp only [Act.put, sA, sB, sC])
       have HS54 := Lib.hid (Since.trans HS53.out hb)
       have HFq54 := Lib.hid (NC.keep hb HFq53.out)
       have HFmo54 := Lib.hid (MO.keep hb HFmo53.out)
       clear HS53 HFq53 HFmo53
       clear hb
       refine tkL (.bool true) (h := ?_)
       (try simp only [Act.put, sA, sB, sC])
       refine wpList_nil ?_
       (try go_wp2_with fail)
       go_ret
       exact ⟨rfl, HS54.out⟩
     · have HI8 := Lib.hid hcs; clear hcs
       go_upto_region 6 with fail
       refine wp_region_lit ?_
       refine tkL (.int .i64 (i : Int)) (h := ?_)
       (try simp only [Act.put, sA, sB, sC])
       refine tkL (.slice Ao on oc) (h := ?_)
       (try simp only [Act.put, sA, sB, sC])
       refine tkL (.int .i64 (on : Int)) (h := ?_)
       (try simp only [Act.put, sA, sB, sC])
       refine wpList_q (by rfl) (.bool true) ?he ?_
       case he => (have q0 := HLT.out; go_simp; (first | done | rfl | omega))
       (try simp only [Act.put, sA, sB, sC])
       refine tkL (.bool true) (h := ?_)
       (try simp only [Act.put, sA, sB, sC])
       refine tkL (.int .i64 (i : Int)) (h := ?_)
       (try simp only [Act.put, sA, sB, sC])
       refine wpList_q (by rfl) (.bool true) ?he ?_
       case he => (have q0 := HI8.out; go_simp; (first | done | rfl | omega))
       (try simp only [Act.put, sA, sB, sC])
       refine tkL (.bool true) (h := ?_)
       (try simp only [Act.put, sA, sB, sC])
       refine wpList_nil ?_
       obtain ⟨go, oo, hA, hbo, hco⟩ := Nops.at_ HO.out HLT.out
       have HCO := Lib.hid (hco i HLT.out).1; have HOK := Lib.hid (hco i HLT.out).2; clear hco
       have HBO := Lib.hid hbo; clear hbo
       subst hA
       go_upto_region 8 with fail
       refine wp_region_lit ?_
       refine tkL (.slice (some ⟨go, oo, none⟩) on oc) (h := ?_)
       (try simp only [Act.put, sA, sB, sC])
       refine tkL (.int .i64 (i : Int)) (h := ?_)
       (try simp only [Act.put, sA, sB, sC])
       refine wpList_q (by rfl) (.pointer (some ⟨go, (oo + i * 4), none⟩)) ?he ?_
       case he => exact exec_index (i := i) (s := 4) 51 57 _ _ rfl rfl rfl rfl HLT.out Try.underlying51 (by kernel_rfl)
       (try simp only [Act.put, sA, sB, sC])
       refine wpList_q (by rfl) (.agg #[.int .i64 ((os i).k), .int .i64 ((os i).tt), .int .i64 ((os i).ix), .slice (os i).A (os i).n (os i).c]) ?he ?_
       case he => exact exec_rng (l := nopC (os i)) 57 _ _ (fun j v hj => keep_cell HS53.out (HCO.out j v hj)) rfl rfl Try.underlying57 rfl (by kernel_rfl)
       (try simp only [Act.put, sA, sB, sC])
       refine wpList_wp (by rfl) (fun K hK => ?_)
       refine wp_new (fun b => .pointer (some ⟨b, 0, none⟩)) 57 #[.int .i64 0, .int .i64 0, .int .i64 0, .slice none 0 0] (by rintro b rfl; first | rfl | kernel_rfl) ?_
       intro bn10 w54 hge hB hb
       refine hK.out _ _ ?_
       clear hK K
       (try simp only [Act.put, sA, sB, sC])
       have HGn10 := Lib.hid (show w.heap.size ≤ bn10 by have := Since.size HS53.out; omega)
       have HIn10_q := Lib.hid (NC.far HFq53.out hge)
       have HIn10_mo := Lib.hid (MO.far HFmo53.out hge)
       have HS54 := Lib.hid (Since.trans HS53.out hb)
       have HFq54 := Lib.hid (NC.keep hb HFq53.out)
       have HFmo54 := Lib.hid (MO.keep hb HFmo53.out)
       clear HS53 HFq53 HFmo53
       clear hb hge
       have HBn1054 := Lib.hid hB
       clear hB
       refine wpList_wp (by rfl) (fun K hK => ?_)
       refine wp_st_row 57 _ _ rfl #[.int .i64 ((os i).k), .int .i64 ((os i).tt), .int .i64 ((os i).ix), .slice (os i).A (os i).n (os i).c] rfl rfl (HasRow.of HBn1054.out rfl) rfl (by simp [Value.oneCell']) (by kernel_rfl) ?_
       intro w55 hw
       refine hK.out _ _ ?_
       clear hK K
       (try simp only [Act.put, sA, sB, sC])
       have HS55 := Lib.hid (show Since w w55 by rw [hw]; exact Since.setRow HS54.out HGn10.out _)
       have HBn1055 := Lib.hid (show Blk w55 bn10 57 #[.int .i64 ((os i).k), .int .i64 ((os i).tt), .int .i64 ((os i).ix), .slice (os i).A (os i).n (os i).c] by rw [hw]; exact Blk.row HBn1054.out _)
       have HFq_55 := Lib.hid (show NC w.heap.size q1 ends room i c Sq w55 by rw [hw]; exact NC.row_far HFq54.out HIn10_q.out _)
       have HFmo_55 := Lib.hid (show MO w.heap.size gm rs Sm w55 by rw [hw]; exact MO.row_far HFmo54.out HIn10_mo.out _)
       clear hw HS54 HBn1054 HFq54 HFmo54
       refine wpList_nil ?_
       by_cases hcs : 200 < (os i).n
       rotate_left
       · have HNF := Lib.hid hcs; clear hcs
         go_upto_region 9 with fail
         refine wp_region_lit ?_
         refine tkL (.pointer (some ⟨bn10, 3, none⟩)) (h := ?_)
         (try simp only [Act.put, sA, sB, sC])
         refine wpList_q (by rfl) (.slice (os i).A (os i).n (os i).c) ?he ?_
         case he => exact exec_cell 55 _ _ HBn1055.out rfl rfl rfl Try.underlying55 rfl
         (try simp only [Act.put, sA, sB, sC])
         refine tkL (.int .i64 ((os i).n : Int)) (h := ?_)
         (try simp only [Act.put, sA, sB, sC])
         refine wpList_q (by rfl) (.bool false) ?he ?_
         case he => (have q0 := HNF.out; go_simp; (first | done | rfl | omega))
         (try simp only [Act.put, sA, sB, sC])
         refine wpList_nil ?_
         go_upto_region 11 with fail
         refine wp_ucut (ds := []) (fun fr wx => Fits fr 244 [(0, .int .i64 ends), (1, .int .i64 room), (2, .slice (some ⟨go, oo, none⟩) on oc), (6, .bool false), (7, .pointer (some ⟨q1, 0, none⟩)), (8, .slice (some ⟨gm, 0, none⟩) m m), (9, .int .i64 (i : Int)), (10, .pointer (some ⟨bn10, 0, none⟩)), (11, .bool (inB m (os i).tt))] ∧ Hid (Since w wx ∧ Blk wx bn10 57 #[.int .i64 ((os i).k), .int .i64 ((os i).tt), .int .i64 ((os i).ix), .slice (os i).A (os i).n (os i).c] ∧ NC w.heap.size q1 ends room i c Sq wx ∧ MO w.heap.size gm rs Sm wx)) ?rest2 ?first2
         case first2 =>
          intro J2 K2 hJ2 hK2
          by_cases hcs : 0 ≤ (os i).tt
          rotate_left
          · have HT0 := Lib.hid hcs; clear hcs
            refine wp_region_lit ?_
            refine tkL (.pointer (some ⟨bn10, 1, none⟩)) (h := ?_)
            (try simp only [Act.put, sA, sB, sC])
            refine wpList_q (by rfl) (.int .i64 ((os i).tt)) ?he ?_
            case he => exact exec_cell 3 _ _ HBn1055.out rfl rfl rfl Try.underlying3 rfl
            (try simp only [Act.put, sA, sB, sC])
            refine wpList_q (by rfl) (.bool false) ?he ?_
            case he => (have q0 := HT0.out; go_simp; (first | done | rfl | omega))
            (try simp only [Act.put, sA, sB, sC])
            refine tkL (.bool false) (h := ?_)
            (try simp only [Act.put, sA, sB, sC])
            refine wpList_no (by rfl) ?_
            (try simp only [Act.put, sA, sB, sC])
            refine wpList_no (by rfl) ?_
            (try simp only [Act.put, sA, sB, sC])
            refine wpList_no (by rfl) ?_
            (try simp only [Act.put, sA, sB, sC])
            refine wpList_no (by rfl) ?_
            (try simp only [Act.put, sA, sB, sC])
            refine wpList_no (by rfl) ?_
            (try simp only [Act.put, sA, sB, sC])
            refine tkL (.bool false) (h := ?_)
            (try simp only [Act.put, sA, sB, sC])
            refine tkL (.bool false) (h := ?_)
            (try simp only [Act.put, sA, sB, sC])
            refine wpList_nil ?_
            go_wp2_with fail
            refine Met.intro ?_
            exact hJ2 _ _ ⟨⟨rfl, rfl, rfl, rfl, rfl, rfl, rfl, rfl, rfl, (by rw [inB_f (show ¬ (0 ≤ (os i).tt ∧ (os i).tt < (m : Int)) from fun hh => by have := HT0.out; omega)]; rfl), trivial⟩, Lib.hid ⟨HS55.out, HBn1055.out, HFq_55.out, HFmo_55.out⟩⟩
          · have HT0 := Lib.hid hcs; clear hcs
            by_cases hcs : (os i).tt < (m : Int)
            rotate_left
            · have HT1 := Lib.hid hcs; clear hcs
              refine wp_region_lit ?_
              refine tkL (.pointer (some ⟨bn10, 1, none⟩)) (h := ?_)
              (try simp only [Act.put, sA, sB, sC])
              refine wpList_q (by rfl) (.int .i64 ((os i).tt)) ?he ?_
              case he => exact exec_cell 3 _ _ HBn1055.out rfl rfl rfl Try.underlying3 rfl
              (try simp only [Act.put, sA, sB, sC])
              refine wpList_q (by rfl) (.bool true) ?he ?_
              case he => (have q0 := HT0.out; go_simp; (first | done | rfl | omega))
              (try simp only [Act.put, sA, sB, sC])
              refine tkL (.bool true) (h := ?_)
              (try simp only [Act.put, sA, sB, sC])
              refine tkL (.pointer (some ⟨bn10, 1, none⟩)) (h := ?_)
              (try simp only [Act.put, sA, sB, sC])
              refine wpList_q (by rfl) (.int .i64 ((os i).tt)) ?he ?_
              case he => exact exec_cell 3 _ _ HBn1055.out rfl rfl rfl Try.underlying3 rfl
              (try simp only [Act.put, sA, sB, sC])
              refine tkL (.slice (some ⟨gm, 0, none⟩) m m) (h := ?_)
              (try simp only [Act.put, sA, sB, sC])
              refine tkL (.int .i64 (m : Int)) (h := ?_)
              (try simp only [Act.put, sA, sB, sC])
              refine wpList_q (by rfl) (.bool false) ?he ?_
              case he => (have q0 := HT1.out; go_simp; (first | done | rfl | omega))
              (try simp only [Act.put, sA, sB, sC])
              refine tkL (.bool false) (h := ?_)
              (try simp only [Act.put, sA, sB, sC])
              refine tkL (.bool false) (h := ?_)
              (try simp only [Act.put, sA, sB, sC])
              refine wpList_nil ?_
              go_wp2_with fail
              refine Met.intro ?_
              exact hJ2 _ _ ⟨⟨rfl, rfl, rfl, rfl, rfl, rfl, rfl, rfl, rfl, (by rw [inB_f (show ¬ (0 ≤ (os i).tt ∧ (os i).tt < (m : Int)) from fun hh => by have := HT1.out; omega)]; rfl), trivial⟩, Lib.hid ⟨HS55.out, HBn1055.out, HFq_55.out, HFmo_55.out⟩⟩
            · have HT1 := Lib.hid hcs; clear hcs
              refine wp_region_lit ?_
              refine tkL (.pointer (some ⟨bn10, 1, none⟩)) (h := ?_)
              (try simp only [Act.put, sA, sB, sC])
              refine wpList_q (by rfl) (.int .i64 ((os i).tt)) ?he ?_
              case he => exact exec_cell 3 _ _ HBn1055.out rfl rfl rfl Try.underlying3 rfl
              (try simp only [Act.put, sA, sB, sC])
              refine wpList_q (by rfl) (.bool true) ?he ?_
              case he => (have q0 := HT0.out; go_simp; (first | done | rfl | omega))
              (try simp only [Act.put, sA, sB, sC])
              refine tkL (.bool true) (h := ?_)
              (try simp only [Act.put, sA, sB, sC])
              refine tkL (.pointer (some ⟨bn10, 1, none⟩)) (h := ?_)
              (try simp only [Act.put, sA, sB, sC])
              refine wpList_q (by rfl) (.int .i64 ((os i).tt)) ?he ?_
              case he => exact exec_cell 3 _ _ HBn1055.out rfl rfl rfl Try.underlying3 rfl
              (try simp only [Act.put, sA, sB, sC])
              refine tkL (.slice (some ⟨gm, 0, none⟩) m m) (h := ?_)
              (try simp only [Act.put, sA, sB, sC])
              refine tkL (.int .i64 (m : Int)) (h := ?_)
              (try simp only [Act.put, sA, sB, sC])
              refine wpList_q (by rfl) (.bool true) ?he ?_
              case he => (have q0 := HT1.out; go_simp; (first | done | rfl | omega))
              (try simp only [Act.put, sA, sB, sC])
              refine tkL (.bool true) (h := ?_)
              (try simp only [Act.put, sA, sB, sC])
              refine tkL (.bool true) (h := ?_)
              (try simp only [Act.put, sA, sB, sC])
              refine wpList_nil ?_
              go_wp2_with fail
              refine Met.intro ?_
              exact hJ2 _ _ ⟨⟨rfl, rfl, rfl, rfl, rfl, rfl, rfl, rfl, rfl, (by rw [inB_t HT0.out HT1.out]; rfl), trivial⟩, Lib.hid ⟨HS55.out, HBn1055.out, HFq_55.out, HFmo_55.out⟩⟩
         intro fr wc hR
         clear HS55 HBn1055 HFq_55 HFmo_55
         obtain ⟨hF, HO⟩ := hR
         obtain ⟨g0, g1, g2, g3⟩ := HO.out
         clear HO
         have HS105 := Lib.hid g0
         have HBn10105 := Lib.hid g1
         have HFq105 := Lib.hid g2
         have HFmo105 := Lib.hid g3
         clear g0 g1 g2 g3
         obtain ⟨u, hu⟩ := hF.open_
         have hu2 := hu.trans (show _ = #[.int .i64 ends, .int .i64 room, .slice (some ⟨go, oo, none⟩) on oc, u 3, u 4, u 5, .bool false, .pointer (some ⟨q1, 0, none⟩), .slice (some ⟨gm, 0, none⟩) m m, .int .i64 (i : Int), .pointer (some ⟨bn10, 0, none⟩), .bool (inB m (os i).tt), u 12, u 13, u 14, u 15, u 16, u 17, u 18, u 19, u 20, u 21, u 22, u 23, u 24, u 25, u 26, u 27, u 28, u 29, u 30, u 31, u 32, u 33, u 34, u 35, u 36, u 37, u 38, u 39, u 40, u 41, u 42, u 43, u 44, u 45, u 46, u 47, u 48, u 49, u 50, u 51, u 52, u 53, u 54, u 55, u 56, u 57, u 58, u 59, u 60, u 61, u 62, u 63, u 64, u 65, u 66, u 67, u 68, u 69, u 70, u 71, u 72, u 73, u 74, u 75, u 76, u 77, u 78, u 79, u 80, u 81, u 82, u 83, u 84, u 85, u 86, u 87, u 88, u 89, u 90, u 91, u 92, u 93, u 94, u 95, u 96, u 97, u 98, u 99, u 100, u 101, u 102, u 103, u 104, u 105, u 106, u 107, u 108, u 109, u 110, u 111, u 112, u 113, u 114, u 115, u 116, u 117, u 118, u 119, u 120, u 121, u 122, u 123, u 124, u 125, u 126, u 127, u 128, u 129, u 130, u 131, u 132, u 133, u 134, u 135, u 136, u 137, u 138, u 139, u 140, u 141, u 142, u 143, u 144, u 145, u 146, u 147, u 148, u 149, u 150, u 151, u 152, u 153, u 154, u 155, u 156, u 157, u 158, u 159, u 160, u 161, u 162, u 163, u 164, u 165, u 166, u 167, u 168, u 169, u 170, u 171, u 172, u 173, u 174, u 175, u 176, u 177, u 178, u 179, u 180, u 181, u 182, u 183, u 184, u 185, u 186, u 187, u 188, u 189, u 190, u 191, u 192, u 193, u 194, u 195, u 196, u 197, u 198, u 199, u 200, u 201, u 202, u 203, u 204, u 205, u 206, u 207, u 208, u 209, u 210, u 211, u 212, u 213, u 214, u 215, u 216, u 217, u 218, u 219, u 220, u 221, u 222, u 223, u 224, u 225, u 226, u 227, u 228, u 229, u 230, u 231, u 232, u 233, u 234, u 235, u 236, u 237, u 238, u 239, u 240, u 241, u 242, u 243] by kernel_rfl)
         clear hu hF
         subst hu2
         go_upto_region 12 with fail
         refine wp_ucut (ds := []) (fun fr wx => Fits fr 244 [(0, .int .i64 ends), (1, .int .i64 room), (2, .slice (some ⟨go, oo, none⟩) on oc), (6, .bool false), (7, .pointer (some ⟨q1, 0, none⟩)), (8, .slice (some ⟨gm, 0, none⟩) m m), (9, .int .i64 (i : Int)), (10, .pointer (some ⟨bn10, 0, none⟩)), (11, .bool (inB m (os i).tt)), (12, .bool (hasC c (os i).tt (os i).ix))] ∧ Hid (Since w wx ∧ Blk wx bn10 57 #[.int .i64 ((os i).k), .int .i64 ((os i).tt), .int .i64 ((os i).ix), .slice (os i).A (os i).n (os i).c] ∧ NC w.heap.size q1 ends room i c Sq wx ∧ MO w.heap.size gm rs Sm wx)) ?rest3 ?first3
         case first3 =>
          intro J3 K3 hJ3 hK3
          cases hin : (inB m (os i).tt) with
          | true =>
           have HT0 := Lib.hid (of_decide_eq_true hin).1; have HT1 := Lib.hid (of_decide_eq_true hin).2; clear hin
           obtain ⟨t, ht⟩ : ∃ t : Nat, (os i).tt = (t : Int) := ⟨(os i).tt.toNat, by have := HT0.out; omega⟩
           have HTT := Lib.hid ht; clear ht
           have HTM := Lib.hid (show t < m by have := HT1.out; have := HTT.out; omega)
           obtain ⟨⟨rA, rn, rc, rz⟩, hr⟩ : ∃ r, rs[t]? = some r := ⟨_, List.getElem?_eq_getElem (by rw [HRL.out]; exact HTM.out)⟩
           have HRT := Lib.hid hr; clear hr
           have HRN := Lib.hid (show rn = (c (os i).tt).length by rw [HTT.out]; exact mo_len HFmo105.out HRT.out HSM.out)
           by_cases hcs : 0 ≤ (os i).ix
           rotate_left
           · have HX0 := Lib.hid hcs; clear hcs
             have HKS : Hid (KeepS (fun W : World => Since w W ∧ Blk W bn10 57 #[.int .i64 ((os i).k), .int .i64 ((os i).tt), .int .i64 ((os i).ix), .slice (os i).A (os i).n (os i).c] ∧ NC w.heap.size q1 ends room i c Sq W ∧ MO w.heap.size gm rs Sm W) wc) := Lib.hid ⟨fun W W' k ⟨h, h0, h1, h2⟩ => ⟨h.trans k, keep_blk k h0, NC.keep k h1, MO.keep k h2⟩, ⟨HS105.out, HBn10105.out, HFq105.out, HFmo105.out⟩⟩
             have HRK := Lib.hid HKS.out.1
             refine wp_held HKS.out (by kernel_rfl) (fun hHeld => ?_)
             refine tkQ 0 (.bool true) hHeld (h := ?_)
             (try simp only [Act.put, sA, sB, sC])
             refine tkQ 1 (.bool true) hHeld (h := ?_)
             (try simp only [Act.put, sA, sB, sC])
             refine tkQ 2 (.pointer (some ⟨bn10, 2, none⟩)) hHeld (h := ?_)
             (try simp only [Act.put, sA, sB, sC])
             refine tkQ 3 (.int .i64 ((os i).ix)) hHeld (he := by intro w hSw; exact exec_cell 3 _ _ hSw.2.1 rfl rfl rfl Try.underlying3 rfl) (h := ?_)
             (try simp only [Act.put, sA, sB, sC])
             refine tkQ 4 (.bool false) hHeld (he := by intro w hSw; (have q0 := HX0.out; go_simp; (first | done | rfl | omega))) (h := ?_)
             (try simp only [Act.put, sA, sB, sC])
             refine tkQ 5 (.bool false) hHeld (h := ?_)
             (try simp only [Act.put, sA, sB, sC])
             refine tkQ 6 (.bool false) hHeld (h := ?_)
             (try simp only [Act.put, sA, sB, sC])
             refine tkU 7 hHeld (h := ?_)
             (try simp only [Act.put, sA, sB, sC])
             refine tkU 8 hHeld (h := ?_)
             (try simp only [Act.put, sA, sB, sC])
             refine tkU 9 hHeld (h := ?_)
             (try simp only [Act.put, sA, sB, sC])
             refine tkU 10 hHeld (h := ?_)
             (try simp only [Act.put, sA, sB, sC])
             refine tkU 11 hHeld (h := ?_)
             (try simp only [Act.put, sA, sB, sC])
             refine tkU 12 hHeld (h := ?_)
             (try simp only [Act.put, sA, sB, sC])
             refine tkU 13 hHeld (h := ?_)
             (try simp only [Act.put, sA, sB, sC])
             refine tkU 14 hHeld (h := ?_)
             (try simp only [Act.put, sA, sB, sC])
             refine tkU 15 hHeld (h := ?_)
             (try simp only [Act.put, sA, sB, sC])
             refine tkQ 16 (.bool false) hHeld (h := ?_)
             (try simp only [Act.put, sA, sB, sC])
             refine tkQ 17 (.bool false) hHeld (h := ?_)
             (try simp only [Act.put, sA, sB, sC])
             refine wpAnyH_done (by kernel_rfl) ?_ _
             have HSd12 := Lib.hid hHeld.1
             have HBn10d12 := Lib.hid (hHeld.2.1)
             have HFqd12 := Lib.hid (hHeld.2.2.1)
             have HFmod12 := Lib.hid (hHeld.2.2.2)
             clear hHeld HRK HKS HS105 HBn10105 HFq105 HFmo105
             go_wp2_with fail
             refine Met.intro ?_
             exact hJ3 _ _ ⟨⟨rfl, rfl, rfl, rfl, rfl, rfl, rfl, rfl, rfl, (by rw [inB_t HT0.out HT1.out]; rfl), (by rw [show (hasC c (os i).tt (os i).ix) = false from decide_eq_false (fun hh => by have := HX0.out; omega)]; rfl), trivial⟩, Lib.hid ⟨HSd12.out, HBn10d12.out, HFqd12.out, HFmod12.out⟩⟩
           · have HX0 := Lib.hid hcs; clear hcs
             by_cases hcs : (os i).ix < (rn : Int)
             rotate_left
             · have HX1 := Lib.hid hcs; clear hcs
               have HKS : Hid (KeepS (fun W : World => Since w W ∧ Blk W bn10 57 #[.int .i64 ((os i).k), .int .i64 ((os i).tt), .int .i64 ((os i).ix), .slice (os i).A (os i).n (os i).c] ∧ NC w.heap.size q1 ends room i c Sq W ∧ MO w.heap.size gm rs Sm W) wc) := Lib.hid ⟨fun W W' k ⟨h, h0, h1, h2⟩ => ⟨h.trans k, keep_blk k h0, NC.keep k h1, MO.keep k h2⟩, ⟨HS105.out, HBn10105.out, HFq105.out, HFmo105.out⟩⟩
               have HRK := Lib.hid HKS.out.1
               refine wp_held HKS.out (by kernel_rfl) (fun hHeld => ?_)
               refine tkQ 0 (.bool true) hHeld (h := ?_)
               (try simp only [Act.put, sA, sB, sC])
               refine tkQ 1 (.bool true) hHeld (h := ?_)
               (try simp only [Act.put, sA, sB, sC])
               refine tkQ 2 (.pointer (some ⟨bn10, 2, none⟩)) hHeld (h := ?_)
               (try simp only [Act.put, sA, sB, sC])
               refine tkQ 3 (.int .i64 ((os i).ix)) hHeld (he := by intro w hSw; exact exec_cell 3 _ _ hSw.2.1 rfl rfl rfl Try.underlying3 rfl) (h := ?_)
               (try simp only [Act.put, sA, sB, sC])
               refine tkQ 4 (.bool true) hHeld (he := by intro w hSw; (have q0 := HX0.out; go_simp; (first | done | rfl | omega))) (h := ?_)
               (try simp only [Act.put, sA, sB, sC])
               refine tkQ 5 (.bool true) hHeld (h := ?_)
               (try simp only [Act.put, sA, sB, sC])
               refine tkQ 6 (.bool true) hHeld (h := ?_)
               (try simp only [Act.put, sA, sB, sC])
               refine tkQ 7 (.pointer (some ⟨bn10, 2, none⟩)) hHeld (h := ?_)
               (try simp only [Act.put, sA, sB, sC])
               refine tkQ 8 (.int .i64 ((os i).ix)) hHeld (he := by intro w hSw; exact exec_cell 3 _ _ hSw.2.1 rfl rfl rfl Try.underlying3 rfl) (h := ?_)
               (try simp only [Act.put, sA, sB, sC])
               refine tkQ 9 (.slice (some ⟨gm, 0, none⟩) m m) hHeld (h := ?_)
               (try simp only [Act.put, sA, sB, sC])
               refine tkQ 10 (.pointer (some ⟨bn10, 1, none⟩)) hHeld (h := ?_)
               (try simp only [Act.put, sA, sB, sC])
               refine tkQ 11 (.int .i64 ((os i).tt)) hHeld (he := by intro w hSw; exact exec_cell 3 _ _ hSw.2.1 rfl rfl rfl Try.underlying3 rfl) (h := ?_)
               (try simp only [Act.put, sA, sB, sC])
               refine tkQ 12 (.pointer (some ⟨gm, 0 + t * 1, none⟩)) hHeld (he := by intro w hSw; exact exec_index (i := t) (s := 1) 54 58 _ _ rfl rfl rfl HTT.out HTM.out Try.underlying54 (by kernel_rfl)) (h := ?_)
               (try simp only [Act.put, sA, sB, sC])
               refine tkQ 13 (.slice rA rn rc) hHeld (he := by intro w hSw; exact exec_at 58 _ _ (mo_cell hSw.2.2.2 HRT.out) rfl rfl Try.underlying58 rfl) (h := ?_)
               (try simp only [Act.put, sA, sB, sC])
               refine tkQ 14 (.int .i64 (rn : Int)) hHeld (h := ?_)
               (try simp only [Act.put, sA, sB, sC])
               refine tkQ 15 (.bool false) hHeld (he := by intro w hSw; (have q0 := HX1.out; go_simp; (first | done | rfl | omega))) (h := ?_)
               (try simp only [Act.put, sA, sB, sC])
               refine tkQ 16 (.bool false) hHeld (h := ?_)
               (try simp only [Act.put, sA, sB, sC])
               refine tkQ 17 (.bool false) hHeld (h := ?_)
               (try simp only [Act.put, sA, sB, sC])
               refine wpAnyH_done (by kernel_rfl) ?_ _
               have HSd12v2 := Lib.hid hHeld.1
               have HBn10d12v2 := Lib.hid (hHeld.2.1)
               have HFqd12v2 := Lib.hid (hHeld.2.2.1)
               have HFmod12v2 := Lib.hid (hHeld.2.2.2)
               clear hHeld HRK HKS HS105 HBn10105 HFq105 HFmo105
               go_wp2_with fail
               refine Met.intro ?_
               exact hJ3 _ _ ⟨⟨rfl, rfl, rfl, rfl, rfl, rfl, rfl, rfl, rfl, (by rw [inB_t HT0.out HT1.out]; rfl), (by rw [show (hasC c (os i).tt (os i).ix) = false from decide_eq_false (fun hh => by have q1 := HX1.out; have q2 := HRN.out; omega)]; rfl), trivial⟩, Lib.hid ⟨HSd12v2.out, HBn10d12v2.out, HFqd12v2.out, HFmod12v2.out⟩⟩
             · have HX1 := Lib.hid hcs; clear hcs
               have HKS : Hid (KeepS (fun W : World => Since w W ∧ Blk W bn10 57 #[.int .i64 ((os i).k), .int .i64 ((os i).tt), .int .i64 ((os i).ix), .slice (os i).A (os i).n (os i).c] ∧ NC w.heap.size q1 ends room i c Sq W ∧ MO w.heap.size gm rs Sm W) wc) := Lib.hid ⟨fun W W' k ⟨h, h0, h1, h2⟩ => ⟨h.trans k, keep_blk k h0, NC.keep k h1, MO.keep k h2⟩, ⟨HS105.out, HBn10105.out, HFq105.out, HFmo105.out⟩⟩
               have HRK := Lib.hid HKS.out.1
               refine wp_held HKS.out (by kernel_rfl) (fun hHeld => ?_)
               refine tkQ 0 (.bool true) hHeld (h := ?_)
               (try simp only [Act.put, sA, sB, sC])
               refine tkQ 1 (.bool true) hHeld (h := ?_)
               (try simp only [Act.put, sA, sB, sC])
               refine tkQ 2 (.pointer (some ⟨bn10, 2, none⟩)) hHeld (h := ?_)
               (try simp only [Act.put, sA, sB, sC])
               refine tkQ 3 (.int .i64 ((os i).ix)) hHeld (he := by intro w hSw; exact exec_cell 3 _ _ hSw.2.1 rfl rfl rfl Try.underlying3 rfl) (h := ?_)
               (try simp only [Act.put, sA, sB, sC])
               refine tkQ 4 (.bool true) hHeld (he := by intro w hSw; (have q0 := HX0.out; go_simp; (first | done | rfl | omega))) (h := ?_)
               (try simp only [Act.put, sA, sB, sC])
               refine tkQ 5 (.bool true) hHeld (h := ?_)
               (try simp only [Act.put, sA, sB, sC])
               refine tkQ 6 (.bool true) hHeld (h := ?_)
               (try simp only [Act.put, sA, sB, sC])
               refine tkQ 7 (.pointer (some ⟨bn10, 2, none⟩)) hHeld (h := ?_)
               (try simp only [Act.put, sA, sB, sC])
               refine tkQ 8 (.int .i64 ((os i).ix)) hHeld (he := by intro w hSw; exact exec_cell 3 _ _ hSw.2.1 rfl rfl rfl Try.underlying3 rfl) (h := ?_)
               (try simp only [Act.put, sA, sB, sC])
               refine tkQ 9 (.slice (some ⟨gm, 0, none⟩) m m) hHeld (h := ?_)
               (try simp only [Act.put, sA, sB, sC])
               refine tkQ 10 (.pointer (some ⟨bn10, 1, none⟩)) hHeld (h := ?_)
               (try simp only [Act.put, sA, sB, sC])
               refine tkQ 11 (.int .i64 ((os i).tt)) hHeld (he := by intro w hSw; exact exec_cell 3 _ _ hSw.2.1 rfl rfl rfl Try.underlying3 rfl) (h := ?_)
               (try simp only [Act.put, sA, sB, sC])
               refine tkQ 12 (.pointer (some ⟨gm, 0 + t * 1, none⟩)) hHeld (he := by intro w hSw; exact exec_index (i := t) (s := 1) 54 58 _ _ rfl rfl rfl HTT.out HTM.out Try.underlying54 (by kernel_rfl)) (h := ?_)
               (try simp only [Act.put, sA, sB, sC])
               refine tkQ 13 (.slice rA rn rc) hHeld (he := by intro w hSw; exact exec_at 58 _ _ (mo_cell hSw.2.2.2 HRT.out) rfl rfl Try.underlying58 rfl) (h := ?_)
               (try simp only [Act.put, sA, sB, sC])
               refine tkQ 14 (.int .i64 (rn : Int)) hHeld (h := ?_)
               (try simp only [Act.put, sA, sB, sC])
               refine tkQ 15 (.bool true) hHeld (he := by intro w hSw; (have q0 := HX1.out; go_simp; (first | done | rfl | omega))) (h := ?_)
               (try simp only [Act.put, sA, sB, sC])
               refine tkQ 16 (.bool true) hHeld (h := ?_)
               (try simp only [Act.put, sA, sB, sC])
               refine tkQ 17 (.bool true) hHeld (h := ?_)
               (try simp only [Act.put, sA, sB, sC])
               refine wpAnyH_done (by kernel_rfl) ?_ _
               have HSd12v2 := Lib.hid hHeld.1
               have HBn10d12v2 := Lib.hid (hHeld.2.1)
               have HFqd12v2 := Lib.hid (hHeld.2.2.1)
               have HFmod12v2 := Lib.hid (hHeld.2.2.2)
               clear hHeld HRK HKS HS105 HBn10105 HFq105 HFmo105
               go_wp2_with fail
               refine Met.intro ?_
               exact hJ3 _ _ ⟨⟨rfl, rfl, rfl, rfl, rfl, rfl, rfl, rfl, rfl, (by rw [inB_t HT0.out HT1.out]; rfl), (by rw [show (hasC c (os i).tt (os i).ix) = true from decide_eq_true ⟨HX0.out, by have q1 := HX1.out; have q2 := HRN.out; omega⟩]; rfl), trivial⟩, Lib.hid ⟨HSd12v2.out, HBn10d12v2.out, HFqd12v2.out, HFmod12v2.out⟩⟩
          | false =>
           have HNI := Lib.hid (show ¬ (0 ≤ (os i).tt ∧ (os i).tt < (m : Int)) from of_decide_eq_false hin); clear hin
           have HC0 := Lib.hid (show c (os i).tt = [] from HSM.out.2 _ (by rw [HRL.out]; have := HNI.out; omega))
           have HKS : Hid (KeepS (fun W : World => Since w W ∧ Blk W bn10 57 #[.int .i64 ((os i).k), .int .i64 ((os i).tt), .int .i64 ((os i).ix), .slice (os i).A (os i).n (os i).c] ∧ NC w.heap.size q1 ends room i c Sq W ∧ MO w.heap.size gm rs Sm W) wc) := Lib.hid ⟨fun W W' k ⟨h, h0, h1, h2⟩ => ⟨h.trans k, keep_blk k h0, NC.keep k h1, MO.keep k h2⟩, ⟨HS105.out, HBn10105.out, HFq105.out, HFmo105.out⟩⟩
           have HRK := Lib.hid HKS.out.1
           refine wp_held HKS.out (by kernel_rfl) (fun hHeld => ?_)
           refine tkQ 0 (.bool false) hHeld (h := ?_)
           (try simp only [Act.put, sA, sB, sC])
           refine tkQ 1 (.bool false) hHeld (h := ?_)
           (try simp only [Act.put, sA, sB, sC])
           refine tkU 2 hHeld (h := ?_)
           (try simp only [Act.put, sA, sB, sC])
           refine tkU 3 hHeld (h := ?_)
           (try simp only [Act.put, sA, sB, sC])
           refine tkU 4 hHeld (h := ?_)
           (try simp only [Act.put, sA, sB, sC])
           refine tkQ 5 (.bool false) hHeld (h := ?_)
           (try simp only [Act.put, sA, sB, sC])
           refine tkQ 6 (.bool false) hHeld (h := ?_)
           (try simp only [Act.put, sA, sB, sC])
           refine tkU 7 hHeld (h := ?_)
           (try simp only [Act.put, sA, sB, sC])
           refine tkU 8 hHeld (h := ?_)
           (try simp only [Act.put, sA, sB, sC])
           refine tkU 9 hHeld (h := ?_)
           (try simp only [Act.put, sA, sB, sC])
           refine tkU 10 hHeld (h := ?_)
           (try simp only [Act.put, sA, sB, sC])
           refine tkU 11 hHeld (h := ?_)
           (try simp only [Act.put, sA, sB, sC])
           refine tkU 12 hHeld (h := ?_)
           (try simp only [Act.put, sA, sB, sC])
           refine tkU 13 hHeld (h := ?_)
           (try simp only [Act.put, sA, sB, sC])
           refine tkU 14 hHeld (h := ?_)
           (try simp only [Act.put, sA, sB, sC])
           refine tkU 15 hHeld (h := ?_)
           (try simp only [Act.put, sA, sB, sC])
           refine tkQ 16 (.bool false) hHeld (h := ?_)
           (try simp only [Act.put, sA, sB, sC])
           refine tkQ 17 (.bool false) hHeld (h := ?_)
           (try simp only [Act.put, sA, sB, sC])
           refine wpAnyH_done (by kernel_rfl) ?_ _
           have HSd12v2 := Lib.hid hHeld.1
           have HBn10d12v2 := Lib.hid (hHeld.2.1)
           have HFqd12v2 := Lib.hid (hHeld.2.2.1)
           have HFmod12v2 := Lib.hid (hHeld.2.2.2)
           clear hHeld HRK HKS HS105 HBn10105 HFq105 HFmo105
           go_wp2_with fail
           refine Met.intro ?_
           exact hJ3 _ _ ⟨⟨rfl, rfl, rfl, rfl, rfl, rfl, rfl, rfl, rfl, (by rw [inB_f HNI.out]; rfl), (by rw [show (hasC c (os i).tt (os i).ix) = false from decide_eq_false (fun hh => by rw [HC0.out] at hh; simp at hh; omega)]; rfl), trivial⟩, Lib.hid ⟨HSd12v2.out, HBn10d12v2.out, HFqd12v2.out, HFmod12v2.out⟩⟩
         intro fr wc hR
         clear HS105 HBn10105 HFq105 HFmo105
         obtain ⟨hF, HO⟩ := hR
         obtain ⟨g0, g1, g2, g3⟩ := HO.out
         clear HO
         have HS155 := Lib.hid g0
         have HBn10155 := Lib.hid g1
         have HFq155 := Lib.hid g2
         have HFmo155 := Lib.hid g3
         clear g0 g1 g2 g3
         obtain ⟨u, hu⟩ := hF.open_
         have hu2 := hu.trans (show _ = #[.int .i64 ends, .int .i64 room, .slice (some ⟨go, oo, none⟩) on oc, u 3, u 4, u 5, .bool false, .pointer (some ⟨q1, 0, none⟩), .slice (some ⟨gm, 0, none⟩) m m, .int .i64 (i : Int), .pointer (some ⟨bn10, 0, none⟩), .bool (inB m (os i).tt), .bool (hasC c (os i).tt (os i).ix), u 13, u 14, u 15, u 16, u 17, u 18, u 19, u 20, u 21, u 22, u 23, u 24, u 25, u 26, u 27, u 28, u 29, u 30, u 31, u 32, u 33, u 34, u 35, u 36, u 37, u 38, u 39, u 40, u 41, u 42, u 43, u 44, u 45, u 46, u 47, u 48, u 49, u 50, u 51, u 52, u 53, u 54, u 55, u 56, u 57, u 58, u 59, u 60, u 61, u 62, u 63, u 64, u 65, u 66, u 67, u 68, u 69, u 70, u 71, u 72, u 73, u 74, u 75, u 76, u 77, u 78, u 79, u 80, u 81, u 82, u 83, u 84, u 85, u 86, u 87, u 88, u 89, u 90, u 91, u 92, u 93, u 94, u 95, u 96, u 97, u 98, u 99, u 100, u 101, u 102, u 103, u 104, u 105, u 106, u 107, u 108, u 109, u 110, u 111, u 112, u 113, u 114, u 115, u 116, u 117, u 118, u 119, u 120, u 121, u 122, u 123, u 124, u 125, u 126, u 127, u 128, u 129, u 130, u 131, u 132, u 133, u 134, u 135, u 136, u 137, u 138, u 139, u 140, u 141, u 142, u 143, u 144, u 145, u 146, u 147, u 148, u 149, u 150, u 151, u 152, u 153, u 154, u 155, u 156, u 157, u 158, u 159, u 160, u 161, u 162, u 163, u 164, u 165, u 166, u 167, u 168, u 169, u 170, u 171, u 172, u 173, u 174, u 175, u 176, u 177, u 178, u 179, u 180, u 181, u 182, u 183, u 184, u 185, u 186, u 187, u 188, u 189, u 190, u 191, u 192, u 193, u 194, u 195, u 196, u 197, u 198, u 199, u 200, u 201, u 202, u 203, u 204, u 205, u 206, u 207, u 208, u 209, u 210, u 211, u 212, u 213, u 214, u 215, u 216, u 217, u 218, u 219, u 220, u 221, u 222, u 223, u 224, u 225, u 226, u 227, u 228, u 229, u 230, u 231, u 232, u 233, u 234, u 235, u 236, u 237, u 238, u 239, u 240, u 241, u 242, u 243] by kernel_rfl)
         clear hu hF
         subst hu2
         go_upto_region 13 with fail
         refine wp_ucut (ds := []) (fun fr wx => Fits fr 244 [(0, .int .i64 ends), (1, .int .i64 room), (2, .slice (some ⟨go, oo, none⟩) on oc), (6, .bool false), (7, .pointer (some ⟨q1, 0, none⟩)), (8, .slice (some ⟨gm, 0, none⟩) m m), (9, .int .i64 (i : Int)), (10, .pointer (some ⟨bn10, 0, none⟩)), (11, .bool (inB m (os i).tt)), (12, .bool (hasC c (os i).tt (os i).ix)), (13, .bool (okP c ends room (os i).tt))] ∧ Hid (Since w wx ∧ Blk wx bn10 57 #[.int .i64 ((os i).k), .int .i64 ((os i).tt), .int .i64 ((os i).ix), .slice (os i).A (os i).n (os i).c] ∧ NC w.heap.size q1 ends room i c Sq wx ∧ MO w.heap.size gm rs Sm wx)) ?rest4 ?first4
         case first4 =>
          intro J4 K4 hJ4 hK4
          cases hin : (inB m (os i).tt) with
          | true =>
           have HT0 := Lib.hid (of_decide_eq_true hin).1; have HT1 := Lib.hid (of_decide_eq_true hin).2; clear hin
           obtain ⟨t, ht⟩ : ∃ t : Nat, (os i).tt = (t : Int) := ⟨(os i).tt.toNat, by have := HT0.out; omega⟩
           have HTT := Lib.hid ht; clear ht
           have HTM := Lib.hid (show t < m by have := HT1.out; have := HTT.out; omega)
           obtain ⟨⟨rA, rn, rc, rz⟩, hr⟩ : ∃ r, rs[t]? = some r := ⟨_, List.getElem?_eq_getElem (by rw [HRL.out]; exact HTM.out)⟩
           have HRT := Lib.hid hr; clear hr
           have HRN := Lib.hid (show rn = (c (os i).tt).length by rw [HTT.out]; exact mo_len HFmo155.out HRT.out HSM.out)
           by_cases hcs : (rn : Int) < max room 0
           rotate_left
           · have HF1 := Lib.hid hcs; clear hcs
             refine wp_region_lit ?_
             refine tkL (.bool true) (h := ?_)
             (try simp only [Act.put, sA, sB, sC])
             refine tkL (.bool true) (h := ?_)
             (try simp only [Act.put, sA, sB, sC])
             refine tkL (.slice (some ⟨gm, 0, none⟩) m m) (h := ?_)
             (try simp only [Act.put, sA, sB, sC])
             refine tkL (.pointer (some ⟨bn10, 1, none⟩)) (h := ?_)
             (try simp only [Act.put, sA, sB, sC])
             refine wpList_q (by rfl) (.int .i64 ((os i).tt)) ?he ?_
             case he => exact exec_cell 3 _ _ HBn10155.out rfl rfl rfl Try.underlying3 rfl
             (try simp only [Act.put, sA, sB, sC])
             refine wpList_q (by rfl) (.pointer (some ⟨gm, 0 + t * 1, none⟩)) ?he ?_
             case he => exact exec_index (i := t) (s := 1) 54 58 _ _ rfl rfl rfl HTT.out HTM.out Try.underlying54 (by kernel_rfl)
             (try simp only [Act.put, sA, sB, sC])
             refine wpList_q (by rfl) (.slice rA rn rc) ?he ?_
             case he => exact exec_at 58 _ _ (mo_cell HFmo155.out HRT.out) rfl rfl Try.underlying58 rfl
             (try simp only [Act.put, sA, sB, sC])
             refine tkL (.int .i64 (rn : Int)) (h := ?_)
             (try simp only [Act.put, sA, sB, sC])
             refine tkL (.int .i64 room) (h := ?_)
             (try simp only [Act.put, sA, sB, sC])
             refine wpList_q (by rfl) (.int .i64 (max room 0)) ?he ?_
             case he => (go_simp; (first | done | rfl | (congr 1; omega) | omega))
             (try simp only [Act.put, sA, sB, sC])
             refine wpList_q (by rfl) (.bool false) ?he ?_
             case he => (have q0 := HF1.out; go_simp; (first | done | rfl | omega))
             (try simp only [Act.put, sA, sB, sC])
             refine tkL (.bool false) (h := ?_)
             (try simp only [Act.put, sA, sB, sC])
             refine tkL (.bool false) (h := ?_)
             (try simp only [Act.put, sA, sB, sC])
             refine wpList_nil ?_
             go_wp2_with fail
             refine Met.intro ?_
             exact hJ4 _ _ ⟨⟨rfl, rfl, rfl, rfl, rfl, rfl, rfl, rfl, rfl, (by rw [inB_t HT0.out HT1.out]; rfl), rfl, (by rw [show (okP c ends room (os i).tt) = false from decide_eq_false (fun hh => by have q1 := HF1.out; have q2 := HRN.out; omega)]; rfl), trivial⟩, Lib.hid ⟨HS155.out, HBn10155.out, HFq155.out, HFmo155.out⟩⟩
           · have HF1 := Lib.hid hcs; clear hcs
             refine wp_region_lit ?_
             refine tkL (.bool true) (h := ?_)
             (try simp only [Act.put, sA, sB, sC])
             refine tkL (.bool true) (h := ?_)
             (try simp only [Act.put, sA, sB, sC])
             refine tkL (.slice (some ⟨gm, 0, none⟩) m m) (h := ?_)
             (try simp only [Act.put, sA, sB, sC])
             refine tkL (.pointer (some ⟨bn10, 1, none⟩)) (h := ?_)
             (try simp only [Act.put, sA, sB, sC])
             refine wpList_q (by rfl) (.int .i64 ((os i).tt)) ?he ?_
             case he => exact exec_cell 3 _ _ HBn10155.out rfl rfl rfl Try.underlying3 rfl
             (try simp only [Act.put, sA, sB, sC])
             refine wpList_q (by rfl) (.pointer (some ⟨gm, 0 + t * 1, none⟩)) ?he ?_
             case he => exact exec_index (i := t) (s := 1) 54 58 _ _ rfl rfl rfl HTT.out HTM.out Try.underlying54 (by kernel_rfl)
             (try simp only [Act.put, sA, sB, sC])
             refine wpList_q (by rfl) (.slice rA rn rc) ?he ?_
             case he => exact exec_at 58 _ _ (mo_cell HFmo155.out HRT.out) rfl rfl Try.underlying58 rfl
             (try simp only [Act.put, sA, sB, sC])
             refine tkL (.int .i64 (rn : Int)) (h := ?_)
             (try simp only [Act.put, sA, sB, sC])
             refine tkL (.int .i64 room) (h := ?_)
             (try simp only [Act.put, sA, sB, sC])
             refine wpList_q (by rfl) (.int .i64 (max room 0)) ?he ?_
             case he => (go_simp; (first | done | rfl | (congr 1; omega) | omega))
             (try simp only [Act.put, sA, sB, sC])
             refine wpList_q (by rfl) (.bool true) ?he ?_
             case he => (have q0 := HF1.out; go_simp; (first | done | rfl | omega))
             (try simp only [Act.put, sA, sB, sC])
             refine tkL (.bool true) (h := ?_)
             (try simp only [Act.put, sA, sB, sC])
             refine tkL (.bool true) (h := ?_)
             (try simp only [Act.put, sA, sB, sC])
             refine wpList_nil ?_
             go_wp2_with fail
             refine Met.intro ?_
             exact hJ4 _ _ ⟨⟨rfl, rfl, rfl, rfl, rfl, rfl, rfl, rfl, rfl, (by rw [inB_t HT0.out HT1.out]; rfl), rfl, (by rw [show (okP c ends room (os i).tt) = true from decide_eq_true ⟨HT0.out, by have q0 := HT0.out; have q1 := HT1.out; have q2 := HMX.out; omega, by have q1 := HF1.out; have q2 := HRN.out; omega⟩]; rfl), trivial⟩, Lib.hid ⟨HS155.out, HBn10155.out, HFq155.out, HFmo155.out⟩⟩
          | false =>
           have HNI := Lib.hid (show ¬ (0 ≤ (os i).tt ∧ (os i).tt < (m : Int)) from of_decide_eq_false hin); clear hin
           have HC0 := Lib.hid (show c (os i).tt = [] from HSM.out.2 _ (by rw [HRL.out]; have := HNI.out; omega))
           refine wp_region_lit ?_
           refine tkL (.bool false) (h := ?_)
           (try simp only [Act.put, sA, sB, sC])
           refine tkL (.bool false) (h := ?_)
           (try simp only [Act.put, sA, sB, sC])
           refine wpList_no (by rfl) ?_
           (try simp only [Act.put, sA, sB, sC])
           refine wpList_no (by rfl) ?_
           (try simp only [Act.put, sA, sB, sC])
           refine wpList_no (by rfl) ?_
           (try simp only [Act.put, sA, sB, sC])
           refine wpList_no (by rfl) ?_
           (try simp only [Act.put, sA, sB, sC])
           refine wpList_no (by rfl) ?_
           (try simp only [Act.put, sA, sB, sC])
           refine wpList_no (by rfl) ?_
           (try simp only [Act.put, sA, sB, sC])
           refine wpList_no (by rfl) ?_
           (try simp only [Act.put, sA, sB, sC])
           refine wpList_no (by rfl) ?_
           (try simp only [Act.put, sA, sB, sC])
           refine wpList_no (by rfl) ?_
           (try simp only [Act.put, sA, sB, sC])
           refine tkL (.bool false) (h := ?_)
           (try simp only [Act.put, sA, sB, sC])
           refine tkL (.bool false) (h := ?_)
           (try simp only [Act.put, sA, sB, sC])
           refine wpList_nil ?_
           go_wp2_with fail
           refine Met.intro ?_
           exact hJ4 _ _ ⟨⟨rfl, rfl, rfl, rfl, rfl, rfl, rfl, rfl, rfl, (by rw [inB_f HNI.out]; rfl), rfl, (by rw [show (okP c ends room (os i).tt) = false from by unfold okP; exact decide_eq_false (fun hh => by obtain ⟨q3, q4, _⟩ := hh; have q1 := HNI.out; have q2 := HMX.out; omega)]; rfl), trivial⟩, Lib.hid ⟨HS155.out, HBn10155.out, HFq155.out, HFmo155.out⟩⟩
         intro fr wc hR
         clear HS155 HBn10155 HFq155 HFmo155
         obtain ⟨hF, HO⟩ := hR
         obtain ⟨g0, g1, g2, g3⟩ := HO.out
         clear HO
         have HS205 := Lib.hid g0
         have HBn10205 := Lib.hid g1
         have HFq205 := Lib.hid g2
         have HFmo205 := Lib.hid g3
         clear g0 g1 g2 g3
         obtain ⟨u, hu⟩ := hF.open_
         have hu2 := hu.trans (show _ = #[.int .i64 ends, .int .i64 room, .slice (some ⟨go, oo, none⟩) on oc, u 3, u 4, u 5, .bool false, .pointer (some ⟨q1, 0, none⟩), .slice (some ⟨gm, 0, none⟩) m m, .int .i64 (i : Int), .pointer (some ⟨bn10, 0, none⟩), .bool (inB m (os i).tt), .bool (hasC c (os i).tt (os i).ix), .bool (okP c ends room (os i).tt), u 14, u 15, u 16, u 17, u 18, u 19, u 20, u 21, u 22, u 23, u 24, u 25, u 26, u 27, u 28, u 29, u 30, u 31, u 32, u 33, u 34, u 35, u 36, u 37, u 38, u 39, u 40, u 41, u 42, u 43, u 44, u 45, u 46, u 47, u 48, u 49, u 50, u 51, u 52, u 53, u 54, u 55, u 56, u 57, u 58, u 59, u 60, u 61, u 62, u 63, u 64, u 65, u 66, u 67, u 68, u 69, u 70, u 71, u 72, u 73, u 74, u 75, u 76, u 77, u 78, u 79, u 80, u 81, u 82, u 83, u 84, u 85, u 86, u 87, u 88, u 89, u 90, u 91, u 92, u 93, u 94, u 95, u 96, u 97, u 98, u 99, u 100, u 101, u 102, u 103, u 104, u 105, u 106, u 107, u 108, u 109, u 110, u 111, u 112, u 113, u 114, u 115, u 116, u 117, u 118, u 119, u 120, u 121, u 122, u 123, u 124, u 125, u 126, u 127, u 128, u 129, u 130, u 131, u 132, u 133, u 134, u 135, u 136, u 137, u 138, u 139, u 140, u 141, u 142, u 143, u 144, u 145, u 146, u 147, u 148, u 149, u 150, u 151, u 152, u 153, u 154, u 155, u 156, u 157, u 158, u 159, u 160, u 161, u 162, u 163, u 164, u 165, u 166, u 167, u 168, u 169, u 170, u 171, u 172, u 173, u 174, u 175, u 176, u 177, u 178, u 179, u 180, u 181, u 182, u 183, u 184, u 185, u 186, u 187, u 188, u 189, u 190, u 191, u 192, u 193, u 194, u 195, u 196, u 197, u 198, u 199, u 200, u 201, u 202, u 203, u 204, u 205, u 206, u 207, u 208, u 209, u 210, u 211, u 212, u 213, u 214, u 215, u 216, u 217, u 218, u 219, u 220, u 221, u 222, u 223, u 224, u 225, u 226, u 227, u 228, u 229, u 230, u 231, u 232, u 233, u 234, u 235, u 236, u 237, u 238, u 239, u 240, u 241, u 242, u 243] by kernel_rfl)
         clear hu hF
         subst hu2
         have HWF := Lib.hid HOK.out.2.1
         go_upto_region 14 with fail
         refine wp_region_lit ?_
         refine tkL (.pointer (some ⟨bn10, 0, none⟩)) (h := ?_)
         (try simp only [Act.put, sA, sB, sC])
         refine wpList_q (by rfl) (.int .i64 ((os i).k)) ?he ?_
         case he => exact exec_cell 3 _ _ HBn10205.out rfl rfl rfl Try.underlying3 rfl
         (try simp only [Act.put, sA, sB, sC])
         refine wpList_nil ?_
         go_upto_block 2 with fail
         refine wp_ucut (ds := []) (fun fr wx => ∃ (c2 : Int → List (List Int)) (S2 : List Nat) (rs2 : List RowS) (Sm2 : List Nat), Fits fr 244 [(0, .int .i64 ends), (1, .int .i64 room), (2, .slice (some ⟨go, oo, none⟩) on oc), (6, .bool false), (7, .pointer (some ⟨q1, 0, none⟩)), (8, .slice (some ⟨gm, 0, none⟩) m m), (9, .int .i64 (i : Int)), (10, .pointer (some ⟨bn10, 0, none⟩)), (11, .bool (inB m (os i).tt)), (85, .int .i64 ((os i).k))] ∧ Hid ((∀ x, (c2 x).length ≤ i + 1) ∧ rs2.length = m ∧ Same rs2 c2 ∧ (∀ g ∈ Sm2, g ∉ S2) ∧ Since w wx ∧ Blk wx bn10 57 #[.int .i64 ((os i).k), .int .i64 ((os i).tt), .int .i64 ((os i).ix), .slice (os i).A (os i).n (os i).c] ∧ NC w.heap.size q1 ends room (i + 1) c2 S2 wx ∧ MO w.heap.size gm rs2 Sm2 wx)) ?rest5 ?first5
         case first5 =>
          intro J5 K5 hJ5 hK5
          by_cases hcs : (os i).k = 1
          rotate_left
          · have HK1 := Lib.hid hcs; clear hcs
            by_cases hcs : (os i).k = 2 ∨ (os i).k = 3
            rotate_left
            · have HK23 := Lib.hid hcs; clear hcs
              have HK2 := Lib.hid (fun h => HK23.out (.inl h)); have HK3 := Lib.hid (fun h => HK23.out (.inr h))
              by_cases hcs : (os i).k = 4
              rotate_left
              · have HK4 := Lib.hid hcs; clear hcs
                go_upto_region 15 with fail
                refine wp_region_lit ?_
                refine wpList_q (by rfl) (.bool false) ?he ?_
                case he => (have q := HK1.out; go_simp; (first | done | exact q | (simp [q]; done)))
                (try simp only [Act.put, sA, sB, sC])
                refine tkL (.bool false) (h := ?_)
                (try simp only [Act.put, sA, sB, sC])
                refine wpList_nil ?_
                go_upto_region 20 with fail
                refine wp_region_lit ?_
                refine wpList_q (by rfl) (.bool false) ?he ?_
                case he => (have q := HK2.out; go_simp; (first | done | exact q | (simp [q]; done)))
                (try simp only [Act.put, sA, sB, sC])
                refine tkL (.bool false) (h := ?_)
                (try simp only [Act.put, sA, sB, sC])
                refine wpList_nil ?_
                go_upto_region 21 with fail
                refine wp_region_lit ?_
                refine wpList_q (by rfl) (.bool false) ?he ?_
                case he => (have q := HK3.out; go_simp; (first | done | exact q | (simp [q]; done)))
                (try simp only [Act.put, sA, sB, sC])
                refine tkL (.bool false) (h := ?_)
                (try simp only [Act.put, sA, sB, sC])
                refine wpList_nil ?_
                go_upto_region 31 with fail
                refine wp_region_lit ?_
                refine wpList_q (by rfl) (.bool false) ?he ?_
                case he => (have q := HK4.out; go_simp; (first | done | exact q | (simp [q]; done)))
                (try simp only [Act.put, sA, sB, sC])
                refine tkL (.bool false) (h := ?_)
                (try simp only [Act.put, sA, sB, sC])
                refine wpList_nil ?_
                have HQM205 := Lib.hid (NC.more HFq205.out (Nat.le_succ i))
                go_wp2_with fail
                refine Met.intro ?_
                exact hJ5 _ _ ⟨c, Sq, rs, Sm, ⟨rfl, rfl, rfl, rfl, rfl, rfl, rfl, rfl, rfl, rfl, rfl, trivial⟩, Lib.hid ⟨(fun x => Nat.le_succ_of_le (HCL.out x)), HRL.out, HSM.out, HDM.out, HS205.out, HBn10205.out, HQM205.out, HFmo205.out⟩⟩
              · have HK4 := Lib.hid hcs; clear hcs
                go_upto_region 15 with fail
                refine wp_region_lit ?_
                refine wpList_q (by rfl) (.bool false) ?he ?_
                case he => (have q := HK1.out; go_simp; (first | done | exact q | (simp [q]; done)))
                (try simp only [Act.put, sA, sB, sC])
                refine tkL (.bool false) (h := ?_)
                (try simp only [Act.put, sA, sB, sC])
                refine wpList_nil ?_
                go_upto_region 20 with fail
                refine wp_region_lit ?_
                refine wpList_q (by rfl) (.bool false) ?he ?_
                case he => (have q := HK2.out; go_simp; (first | done | exact q | (simp [q]; done)))
                (try simp only [Act.put, sA, sB, sC])
                refine tkL (.bool false) (h := ?_)
                (try simp only [Act.put, sA, sB, sC])
                refine wpList_nil ?_
                go_upto_region 21 with fail
                refine wp_region_lit ?_
                refine wpList_q (by rfl) (.bool false) ?he ?_
                case he => (have q := HK3.out; go_simp; (first | done | exact q | (simp [q]; done)))
                (try simp only [Act.put, sA, sB, sC])
                refine tkL (.bool false) (h := ?_)
                (try simp only [Act.put, sA, sB, sC])
                refine wpList_nil ?_
                go_upto_region 31 with fail
                refine wp_region_lit ?_
                refine wpList_q (by rfl) (.bool true) ?he ?_
                case he => (have q := HK4.out; go_simp; (first | done | exact q | (simp [q]; done)))
                (try simp only [Act.put, sA, sB, sC])
                refine tkL (.bool true) (h := ?_)
                (try simp only [Act.put, sA, sB, sC])
                refine wpList_nil ?_
                cases hhas : (hasC c (os i).tt (os i).ix) with
                | true =>
                 have HHAS := Lib.hid hhas; clear hhas
                 obtain ⟨j, hj, hjl⟩ := has_nat HHAS.out
                 have HJ := Lib.hid hj; have HJL := Lib.hid hjl; clear hj hjl
                 have HT0 := Lib.hid (show 0 ≤ (os i).tt from Int.not_lt.1 fun hh => by have q := HSM.out.2 _ (.inl hh); have q2 := HJL.out; rw [q] at q2; simp at q2); have HT1 := Lib.hid (show (os i).tt < (m : Int) from Int.not_le.1 fun hh => by have q := HSM.out.2 (os i).tt (.inr (by rw [HRL.out]; exact hh)); have q2 := HJL.out; rw [q] at q2; simp at q2)
                 obtain ⟨t, ht⟩ : ∃ t : Nat, (os i).tt = (t : Int) := ⟨(os i).tt.toNat, by have := HT0.out; omega⟩
                 have HTT := Lib.hid ht; clear ht
                 have HTM := Lib.hid (show t < m by have := HT1.out; have := HTT.out; omega)
                 obtain ⟨⟨rA, rn, rc, rz⟩, hr⟩ : ∃ r, rs[t]? = some r := ⟨_, List.getElem?_eq_getElem (by rw [HRL.out]; exact HTM.out)⟩
                 have HRT := Lib.hid hr; clear hr
                 have HRN := Lib.hid (show rn = (c (os i).tt).length by rw [HTT.out]; exact mo_len HFmo205.out HRT.out HSM.out)
                 obtain ⟨gr, hgr⟩ := own_addr (MO.open_ HFmo205.out HRT.out).2.1 (show 0 < rn by have q1 := HRN.out; have q2 := HJL.out; omega)
                 have hgr2 : rA = some ⟨gr, 0, none⟩ := hgr; clear hgr; subst hgr2
                 have HJN := Lib.hid (show j < rn by have q1 := HRN.out; have q2 := HJL.out; omega)
                 go_upto_region 32 with fail
                 refine wp_region_lit ?_
                 refine tkL (.pointer (some ⟨q1, 0, none⟩)) (h := ?_)
                 (try simp only [Act.put, sA, sB, sC])
                 refine tkL (.pointer (some ⟨bn10, 1, none⟩)) (h := ?_)
                 (try simp only [Act.put, sA, sB, sC])
                 refine wpList_q (by rfl) (.int .i64 ((os i).tt)) ?he ?_
                 case he => exact exec_cell 3 _ _ HBn10205.out rfl rfl rfl Try.underlying3 rfl
                 (try simp only [Act.put, sA, sB, sC])
                 refine tkL (.pointer (some ⟨bn10, 2, none⟩)) (h := ?_)
                 (try simp only [Act.put, sA, sB, sC])
                 refine wpList_q (by rfl) (.int .i64 ((os i).ix)) ?he ?_
                 case he => exact exec_cell 3 _ _ HBn10205.out rfl rfl rfl Try.underlying3 rfl
                 (try simp only [Act.put, sA, sB, sC])
                 refine wpList_wp (by rfl) (fun K hK => ?_)
                 (try go_simp)
                 refine (twinCK w.heap.size q1 ends room i c Sq (os i).tt (os i).ix j _ HFq205.out HWF.out (by have q := HCL.out (os i).tt; have := HI200.out; omega) HJL.out (by have := HI200.out; omega) (Since.size HS205.out) HJ.out).mono ?_
                 rintro e w206 ⟨Sq_1, rfl, hobj, hupd, hfar⟩
                 (try go_wp2_with fail)
                 refine hK.out _ _ ?_
                 clear hK K
                 (try simp only [Act.put, sA, sB, sC])
                 have HS206 := Lib.hid (Since.upd HS205.out hupd (NC.low HFq205.out))
                 have HBn10206 := Lib.hid (Upd.blk hupd HBn10205.out HIn10_q.out)
                 have HIn10_q_206 := Lib.hid (nin_next hfar HIn10_q.out (Blk.lt HBn10205.out))
                 have HFmo206 := Lib.hid (MO.upd hupd HFmo205.out HDM.out)
                 have HDDmo_q_206 := Lib.hid (dis_next hfar HDM.out (MO.lt HFmo205.out))
                 have HFq206 := Lib.hid hobj
                 clear hupd hobj hfar HS205 HBn10205 HFq205 HFmo205
                 refine tkL (.bool true) (h := ?_)
                 (try simp only [Act.put, sA, sB, sC])
                 refine tkL (.bool true) (h := ?_)
                 (try simp only [Act.put, sA, sB, sC])
                 refine tkL (.bool (okP c ends room (os i).tt)) (h := ?_)
                 (try simp only [Act.put, sA, sB, sC])
                 refine tkL (.bool (okP c ends room (os i).tt)) (h := ?_)
                 (try simp only [Act.put, sA, sB, sC])
                 refine wpList_q (by rfl) (.bool false) ?he ?_
                 case he => (go_simp; (try with_reducible rfl))
                 (try simp only [Act.put, sA, sB, sC])
                 refine wpList_nil ?_
                 cases hok : (okP c ends room (os i).tt) with
                 | true =>
                  have HOKP := Lib.hid hok; clear hok
                  have HT0 := Lib.hid (of_decide_eq_true HOKP.out).1; have HT1 := Lib.hid (show (os i).tt < (m : Int) by have q1 := (of_decide_eq_true HOKP.out).2.1; have q2 := HMX.out; omega)
                  go_upto_region 34 with fail
                  refine wp_region_lit ?_
                  refine tkL (.bool true) (h := ?_)
                  (try simp only [Act.put, sA, sB, sC])
                  refine tkL (.bool true) (h := ?_)
                  (try simp only [Act.put, sA, sB, sC])
                  refine tkL (.bool true) (h := ?_)
                  (try simp only [Act.put, sA, sB, sC])
                  refine tkL (.bool true) (h := ?_)
                  (try simp only [Act.put, sA, sB, sC])
                  refine wpList_nil ?_
                  obtain ⟨hE, hR, hX, hd1, hd2, hd3⟩ := MO.open_ HFmo206.out HRT.out
                  have HE0 := Lib.hid hE; have HR0 := Lib.hid (show (w206).ownsRow w.heap.size 9 1 (.slice (some ⟨gr, 0, none⟩) rn rc) rn (rowsOf strC rz) from hR); have HX0 := Lib.hid hX; have HRX := Lib.hid (show ∀ x ∈ blkOf (some ⟨gr, 0, none⟩), x ∉ restB rs t from hd1); have HEX := Lib.hid hd2; have HER := Lib.hid (show gm ∉ blkOf (some ⟨gr, 0, none⟩) from hd3); clear hE hR hX hd1 hd2 hd3
                  have HND := Lib.hid HFmo206.out.2.2.2.2; have HTL := Lib.hid (take_len HRT.out); have HZL := Lib.hid (show rz.length = rn from own_n strC_len (by decide) HR0.out); have HTLT := Lib.hid (List.getElem?_eq_some_iff.1 HRT.out).1
                  have HSE := Lib.hid HFmo206.out.2.1
                  have HEQ_ := Lib.hid (show gm ∉ Sq_1 from HDDmo_q_206.out gm (by rw [HSE.out]; exact List.mem_cons_self)); have HRQ := Lib.hid (show ∀ x ∈ blkOf (some ⟨gr, 0, none⟩), x ∉ Sq_1 from fun x hx => HDDmo_q_206.out x (by rw [HSE.out]; exact List.mem_cons_of_mem _ (List.mem_flatMap.2 ⟨_, List.mem_of_getElem? HRT.out, hx⟩))); have HXQ := Lib.hid (show ∀ x ∈ restB rs t, x ∉ Sq_1 from fun x hx => HDDmo_q_206.out x (by rw [HSE.out]; obtain ⟨a, b, _, hab, hxb⟩ := of_rest hx; exact List.mem_cons_of_mem _ (List.mem_flatMap.2 ⟨_, List.mem_of_getElem? hab, hxb⟩)))
                  have HGE := Lib.hid HGM.out
                  have HNEO := Lib.hid (Blk.ne_ HE0.out HBn10206.out (by decide)); clear HFmo206
                  have HZE := Lib.hid (show rz = c (os i).tt by rw [HTT.out]; exact HSM.out.1 t _ HRT.out)
                  go_upto_region 35 with fail
                  have HKS : Hid (KeepS (fun W : World => Since w W ∧ Blk W bn10 57 #[.int .i64 ((os i).k), .int .i64 ((os i).tt), .int .i64 ((os i).ix), .slice (os i).A (os i).n (os i).c] ∧ HasRow W gm 58 ((rowsOf rowC (rs.take t)).length + 1 + (rowsOf rowC (rs.drop (t + 1))).length) ∧ NC w.heap.size q1 ends room (i + 1) (putC c (okP c ends room (os i).tt) (os i).tt ((c (os i).tt).getD j [])) Sq_1 W ∧ Rest w.heap.size rs t W) w206) := Lib.hid ⟨fun W W' k ⟨h, h0, h1, h2, h3⟩ => ⟨h.trans k, keep_blk k h0, HasRow.keep k h1, NC.keep k h2, Rest.keep k h3⟩, ⟨HS206.out, HBn10206.out, HasRow.of HE0.out el_size, HFq206.out, HX0.out⟩⟩
                  have HRK := Lib.hid HKS.out.1
                  have HPE := Lib.hid (show Blk (World.drew w206) gm 58 (el (rowsOf rowC (rs.take t)) #[.slice (some ⟨gr, 0, none⟩) rn rc] (rowsOf rowC (rs.drop (t + 1)))) from HE0.out)
                  have HEr := Lib.hid (show ((World.drew w206)).ownsRow w.heap.size 9 1 (.slice (some ⟨gr, 0, none⟩) rn rc) rn (rowsOf strC rz) from HR0.out)
                  clear HR0
                  refine wp_held HKS.out (by kernel_rfl) (fun hHeld => ?_)
                  refine tkQ 0 (.slice (some ⟨gm, 0, none⟩) m m) hHeld (h := ?_)
                  (try simp only [Act.put, sA, sB, sC])
                  refine tkQ 1 (.pointer (some ⟨bn10, 1, none⟩)) hHeld (h := ?_)
                  (try simp only [Act.put, sA, sB, sC])
                  refine tkQ 2 (.int .i64 ((os i).tt)) hHeld (he := by intro w hSw; exact exec_cell 3 _ _ hSw.2.1 rfl rfl rfl Try.underlying3 rfl) (h := ?_)
                  (try simp only [Act.put, sA, sB, sC])
                  refine tkQ 3 (.slice (some ⟨gm, 0, none⟩) m m) hHeld (h := ?_)
                  (try simp only [Act.put, sA, sB, sC])
                  refine tkQ 4 (.pointer (some ⟨bn10, 1, none⟩)) hHeld (h := ?_)
                  (try simp only [Act.put, sA, sB, sC])
                  refine tkQ 5 (.int .i64 ((os i).tt)) hHeld (he := by intro w hSw; exact exec_cell 3 _ _ hSw.2.1 rfl rfl rfl Try.underlying3 rfl) (h := ?_)
                  (try simp only [Act.put, sA, sB, sC])
                  refine tkQ 6 (.pointer (some ⟨gm, 0 + t * 1, none⟩)) hHeld (he := by intro w hSw; exact exec_index (i := t) (s := 1) 54 58 _ _ rfl rfl rfl HTT.out HTM.out Try.underlying54 (by kernel_rfl)) (h := ?_)
                  (try simp only [Act.put, sA, sB, sC])
                  refine tkQ 8 (.slice (some ⟨gm, 0, none⟩) m m) hHeld (h := ?_)
                  (try simp only [Act.put, sA, sB, sC])
                  refine tkQ 9 (.pointer (some ⟨bn10, 1, none⟩)) hHeld (h := ?_)
                  (try simp only [Act.put, sA, sB, sC])
                  refine tkQ 10 (.int .i64 ((os i).tt)) hHeld (he := by intro w hSw; exact exec_cell 3 _ _ hSw.2.1 rfl rfl rfl Try.underlying3 rfl) (h := ?_)
                  (try simp only [Act.put, sA, sB, sC])
                  refine tkQ 11 (.pointer (some ⟨gm, 0 + t * 1, none⟩)) hHeld (he := by intro w hSw; exact exec_index (i := t) (s := 1) 54 58 _ _ rfl rfl rfl HTT.out HTM.out Try.underlying54 (by kernel_rfl)) (h := ?_)
                  (try simp only [Act.put, sA, sB, sC])
                  refine tkQ 13 (.pointer (some ⟨bn10, 2, none⟩)) hHeld (h := ?_)
                  (try simp only [Act.put, sA, sB, sC])
                  refine tkQ 14 (.int .i64 ((os i).ix)) hHeld (he := by intro w hSw; exact exec_cell 3 _ _ hSw.2.1 rfl rfl rfl Try.underlying3 rfl) (h := ?_)
                  (try simp only [Act.put, sA, sB, sC])
                  refine wpAnyH_ready (rs := [7, 12]) (by kernel_rfl) (by simp) ?_
                  refine AllReadyH.cons (o := ?o35__7b) ?h35__7b (fun K hK => ?g35__7b) (AllReadyH.cons (o := ?o35__12b) ?h35__12b (fun K hK => ?g35__12b) AllReadyH.nil)
                  case h35__7b => (first | (simp only [gA, gB, gC]; done) | (simp only [gA, gB, gC]; exact rfl))
                  case h35__12b => (first | (simp only [gA, gB, gC]; done) | (simp only [gA, gB, gC]; exact rfl))
                  case g35__7b =>
                   rw [if_pos (by rfl)]
                   refine wp_q (.slice (some ⟨gr, 0, none⟩) rn rc) ?e35_b7_7 ?_
                   case e35_b7_7 => exact exec_cell 58 _ _ HPE.out (el_at (j := 0) HTL.out rfl) rfl rfl Try.underlying58 rfl
                   refine hK.out _ _ hHeld (fun hHeld2 => ?_)
                   clear hK K hHeld2
                   (try simp only [Act.put, sA, sB, sC])
                   refine wpAnyH_ready (rs := [12]) (by kernel_rfl) (by simp) ?_
                   refine AllReadyH.cons (o := ?o35_b7_12) ?h35_b7_12 (fun K hK => ?_) AllReadyH.nil
                   case h35_b7_12 => (first | (simp only [gA, gB, gC]; done) | (simp only [gA, gB, gC]; exact rfl))
                   rw [if_pos (by rfl)]
                   refine wp_q (.slice (some ⟨gr, 0, none⟩) rn rc) ?e35_b7_12 ?_
                   case e35_b7_12 => exact exec_cell 58 _ _ HPE.out (el_at (j := 0) HTL.out rfl) rfl rfl Try.underlying58 rfl
                   refine hK.out _ _ hHeld (fun hHeld2 => ?_)
                   clear hK K hHeld2
                   (try simp only [Act.put, sA, sB, sC])
                   refine tkQ 15 (.pointer (some ⟨gr, 0 + j * 1, none⟩)) hHeld (he := by intro w hSw; exact exec_index (i := j) (s := 1) 58 9 _ _ rfl rfl rfl HJ.out HJN.out Try.underlying58 (by kernel_rfl)) (h := ?_)
                   (try simp only [Act.put, sA, sB, sC])
                   refine wpAnyH_ready (rs := [16]) (by kernel_rfl) (by simp) ?_
                   refine AllReadyH.cons (o := ?o35_b7_16) ?h35_b7_16 (fun K hK => ?_) AllReadyH.nil
                   case h35_b7_16 => (first | (simp only [gA, gB, gC]; done) | (simp only [gA, gB, gC]; exact rfl))
                   rw [if_pos (by rfl)]
                   refine wp_q (.string (strOfNums ((c (os i).tt).getD j []))) ?e35_b7_16 ?_
                   case e35_b7_16 => exact exec_at 9 _ _ (by rw [← HZE.out]; exact str_at rfl HEr.out (by have q1 := HZL.out; have q2 := HJN.out; omega)) rfl rfl Try.underlying9 rfl
                   refine hK.out _ _ hHeld (fun hHeld2 => ?_)
                   clear hK K hHeld2
                   (try simp only [Act.put, sA, sB, sC])
                   refine wpAnyH_ready (rs := [17]) (by kernel_rfl) (by simp) ?_
                   refine AllReadyH.cons (o := ?o35_b7_17) ?h35_b7_17 (fun K hK => ?_) AllReadyH.nil
                   case h35_b7_17 => (first | (simp only [gA, gB, gC]; done) | (simp only [gA, gB, gC]; exact rfl))
                   rw [if_pos (by rfl)]
                   refine wp_new (fun b => .slice (some ⟨b, 0, none⟩) 1 1) 9 #[.string (strOfNums ((c (os i).tt).getD j []))] (by rintro b rfl; first | rfl | kernel_rfl) ?_
                   intro bn227 w207 hge hB hb
                   refine hK.out _ _ (by (apply HRK.out; exact hb; exact hHeld)) (fun hHeld2 => ?_)
                   have HIn227_q := Lib.hid (NC.far (hHeld.2.2.2.1) hge)
                   have HIn227_x := Lib.hid (Rest.far (hHeld.2.2.2.2) hge)
                   have HPEk := Lib.hid (keep_blk hb HPE.out)
                   clear HPE
                   have HErk := Lib.hid (keep_own hb HEr.out)
                   clear HEr
                   have HNn227E := Lib.hid (show bn227 ≠ gm by obtain ⟨old, Bo, _⟩ := hHeld.2.2.1; have := Blk.lt Bo; omega)
                   have HGn227 := Lib.hid (show w.heap.size ≤ bn227 by have := Since.size hHeld.1; (try simp at this); (try simp at hge); omega)
                   have HXn227 := Lib.hid hB
                   clear hB
                   clear hge
                   clear hK K hHeld hb
                   have hHeld := hHeld2
                   clear hHeld2
                   (try simp only [Act.put, sA, sB, sC])
                   refine wpAnyH_ready (rs := [18]) (by kernel_rfl) (by simp) ?_
                   refine AllReadyH.cons (o := ?o35_b7_18) ?h35_b7_18 (fun K hK => ?_) AllReadyH.nil
                   case h35_b7_18 => (first | (simp only [gA, gB, gC]; done) | (simp only [gA, gB, gC]; exact rfl))
                   rw [if_pos (by rfl)]
                   refine wp_append_row (.tmp 217) (.tmp 227) 58 rfl w.heap.size 9 (.string ByteArray.empty) 1 16 Try.underlying58 (by kernel_rfl) rfl (by decide) (by decide) (some ⟨gr, 0, none⟩) rn rc (rowsOf strC rz) rfl HErk.out _ (some ⟨bn227, 0, none⟩) 1 1 (strC ((c (os i).tt).getD j [])) rfl (reads_blk (cs := strC ((c (os i).tt).getD j [])) HXn227.out rfl) (strC_one _) (by have q1 := HRN.out; have q2 := HCL.out (os i).tt; have q3 := HI200.out; omega) (Since.size hHeld.1) ((rz ++ [((c (os i).tt).getD j [])]).length) (rowsOf strC (rz ++ [((c (os i).tt).getD j [])])) (by have q := HZL.out; rw [List.length_append]; simp; omega) (by rw [rowsOf_append, rowsOf_one]) ?_
                   intro A_2 c_2 w208 hown hupd hfar
                   have hHeld3 := HKS.out.at_ w208 ⟨Since.upd hHeld.1 hupd (own_low HErk.out), Upd.blk hupd (hHeld.2.1) (own_ne_ty HErk.out (hHeld.2.1) (by decide)), HasRow.upd hupd (hHeld.2.2.1) HER.out, NC.upd hupd (hHeld.2.2.2.1) (fun g hg h => HRQ.out g h hg), Rest.upd hupd (hHeld.2.2.2.2) (fun g hg h => HRX.out g h hg)⟩
                   have HDEq_2 := Lib.hid (dis_next hfar (fun g hg h => HRQ.out g h hg) (NC.lt (hHeld.2.2.2.1)))
                   have HDEx_2 := Lib.hid (dis_next hfar (fun g hg h => HRX.out g h hg) (Rest.lt (hHeld.2.2.2.2)))
                   have HPEku := Lib.hid (Upd.blk hupd HPEk.out HER.out)
                   have HIE_r_2 := Lib.hid (nin_next hfar HER.out (Blk.lt HPEk.out))
                   clear HPEk
                   have HOW_w208 := Lib.hid hown
                   refine hK.out _ _ hHeld3 (fun hHeld2 => ?_)
                   clear hK K hHeld hHeld3 hupd hown hfar HErk HXn227
                   have hHeld := hHeld2
                   clear hHeld2
                   (try simp only [Act.put, sA, sB, sC])
                   refine tkQ 19 (.pointer (some ⟨gm, 0 + t * 1, none⟩)) hHeld (he := by intro w hSw; exact exec_index (i := t) (s := 1) 54 58 _ _ rfl rfl rfl HTT.out HTM.out Try.underlying54 (by kernel_rfl)) (h := ?_)
                   (try simp only [Act.put, sA, sB, sC])
                   refine wpAnyH_ready (rs := [20]) (by kernel_rfl) (by simp) ?_
                   refine AllReadyH.cons (o := ?o35_b7_20) ?h35_b7_20 (fun K hK => ?_) AllReadyH.nil
                   case h35_b7_20 => (first | (simp only [gA, gB, gC]; done) | (simp only [gA, gB, gC]; exact rfl))
                   rw [if_pos (by rfl)]
                   refine wp_st_cell 58 _ _ rfl (el (rowsOf rowC (rs.take t)) #[.slice A_2 ((rz ++ [((c (os i).tt).getD j [])]).length) c_2] (rowsOf rowC (rs.drop (t + 1)))) (.slice A_2 ((rz ++ [((c (os i).tt).getD j [])]).length) c_2) rfl rfl HPEku.out (el_lt (j := 0) HTL.out (by show 0 < 1; decide)) (el_set (j := 0) HTL.out (by show 0 < 1; decide) rfl) (by first | rfl | simp [Value.oneCell']) (by kernel_rfl) ?_
                   clear HPEku
                   intro w209 hw
                   have HOW_w208r := Lib.hid (show (w209).ownsRow w.heap.size 9 1 (.slice A_2 ((rz ++ [((c (os i).tt).getD j [])]).length) c_2) ((rz ++ [((c (os i).tt).getD j [])]).length) (rowsOf strC (rz ++ [((c (os i).tt).getD j [])])) by rw [hw]; exact own_row_far HOW_w208.out HIE_r_2.out _)
                   clear HOW_w208
                   have HRE := Lib.hid (show Blk w209 gm 58 (el (rowsOf rowC (rs.take t)) #[.slice A_2 ((rz ++ [((c (os i).tt).getD j [])]).length) c_2] (rowsOf rowC (rs.drop (t + 1)))) by obtain ⟨old, Bo, _⟩ := hHeld.2.2.1; rw [hw]; exact Blk.row Bo _)
                   have hHeld3 := HKS.out.at_ w209 ⟨by rw [hw]; exact Since.setRow hHeld.1 HGE.out _, by rw [hw]; exact Blk.row_far (hHeld.2.1) (Ne.symm HNEO.out) _, HasRow.of HRE.out el_size, by rw [hw]; exact NC.row_far (hHeld.2.2.2.1) HEQ_.out _, by rw [hw]; exact Rest.row_far (hHeld.2.2.2.2) HEX.out _⟩
                   refine hK.out _ _ hHeld3 (fun hHeld2 => ?_)
                   clear hK K hHeld hHeld3 hw
                   have hHeld := hHeld2
                   clear hHeld2
                   (try simp only [Act.put, sA, sB, sC])
                   refine wpAnyH_done (by kernel_rfl) ?_ _
                   have HSd35 := Lib.hid hHeld.1
                   have HBn10d35 := Lib.hid (hHeld.2.1)
                   have HBEd35 := Lib.hid HRE.out
                   clear HRE
                   have HFqd35 := Lib.hid (hHeld.2.2.2.1)
                   have HFxd35 := Lib.hid (hHeld.2.2.2.2)
                   clear hHeld HRK HKS HS206 HBn10206 HE0 HFq206 HX0
                   have HFrd35 := Lib.hid HOW_w208r.out
                   clear HOW_w208r
                   have HMO2 := Lib.hid (MO.close (r' := ⟨A_2, (rz ++ [((c (os i).tt).getD j [])]).length, c_2, (rz ++ [((c (os i).tt).getD j [])])⟩) HGM.out HRT.out HND.out HBEd35.out HFrd35.out HFxd35.out (fun g hg h => HDEx_2.out g h hg))
                   have HDM9 := Lib.hid (set_dis (r' := ⟨A_2, (rz ++ [((c (os i).tt).getD j [])]).length, c_2, (rz ++ [((c (os i).tt).getD j [])])⟩) HTLT.out HEQ_.out (fun g hg h => HDEq_2.out g h hg) HXQ.out)
                   go_wp2_with fail
                   refine Met.intro ?_
                   exact hJ5 _ _ ⟨(putC c (okP c ends room (os i).tt) (os i).tt ((c (os i).tt).getD j [])), Sq_1, (rs.set t ⟨A_2, (rz ++ [((c (os i).tt).getD j [])]).length, c_2, (rz ++ [((c (os i).tt).getD j [])])⟩), (gm :: (rs.set t ⟨A_2, (rz ++ [((c (os i).tt).getD j [])]).length, c_2, (rz ++ [((c (os i).tt).getD j [])])⟩).flatMap blkR), ⟨rfl, rfl, rfl, rfl, rfl, rfl, rfl, rfl, rfl, rfl, rfl, trivial⟩, Lib.hid ⟨(put_len HCL.out), (by rw [List.length_set]; exact HRL.out), (same_put HSM.out HRT.out HTT.out HOKP.out), HDM9.out, HSd35.out, HBn10d35.out, HFqd35.out, HMO2.out⟩⟩
                  case g35__12b =>
                   rw [if_pos (by rfl)]
                   refine wp_q (.slice (some ⟨gr, 0, none⟩) rn rc) ?e35_b12_12 ?_
                   case e35_b12_12 => exact exec_cell 58 _ _ HPE.out (el_at (j := 0) HTL.out rfl) rfl rfl Try.underlying58 rfl
                   refine hK.out _ _ hHeld (fun hHeld2 => ?_)
                   clear hK K hHeld2
                   (try simp only [Act.put, sA, sB, sC])
                   refine tkQ 15 (.pointer (some ⟨gr, 0 + j * 1, none⟩)) hHeld (he := by intro w hSw; exact exec_index (i := j) (s := 1) 58 9 _ _ rfl rfl rfl HJ.out HJN.out Try.underlying58 (by kernel_rfl)) (h := ?_)
                   (try simp only [Act.put, sA, sB, sC])
                   refine wpAnyH_ready (rs := [7, 16]) (by kernel_rfl) (by simp) ?_
                   refine AllReadyH.cons (o := ?o35_b12_7b) ?h35_b12_7b (fun K hK => ?g35_b12_7b) (AllReadyH.cons (o := ?o35_b12_16b) ?h35_b12_16b (fun K hK => ?g35_b12_16b) AllReadyH.nil)
                   case h35_b12_7b => (first | (simp only [gA, gB, gC]; done) | (simp only [gA, gB, gC]; exact rfl))
                   case h35_b12_16b => (first | (simp only [gA, gB, gC]; done) | (simp only [gA, gB, gC]; exact rfl))
                   case g35_b12_7b =>
                    rw [if_pos (by rfl)]
                    refine wp_q (.slice (some ⟨gr, 0, none⟩) rn rc) ?e35_b12b7_7 ?_
                    case e35_b12b7_7 => exact exec_cell 58 _ _ HPE.out (el_at (j := 0) HTL.out rfl) rfl rfl Try.underlying58 rfl
                    refine hK.out _ _ hHeld (fun hHeld2 => ?_)
                    clear hK K hHeld2
                    (try simp only [Act.put, sA, sB, sC])
                    refine wpAnyH_ready (rs := [16]) (by kernel_rfl) (by simp) ?_
                    refine AllReadyH.cons (o := ?o35_b12b7_16) ?h35_b12b7_16 (fun K hK => ?_) AllReadyH.nil
                    case h35_b12b7_16 => (first | (simp only [gA, gB, gC]; done) | (simp only [gA, gB, gC]; exact rfl))
                    rw [if_pos (by rfl)]
                    refine wp_q (.string (strOfNums ((c (os i).tt).getD j []))) ?e35_b12b7_16 ?_
                    case e35_b12b7_16 => exact exec_at 9 _ _ (by rw [← HZE.out]; exact str_at rfl HEr.out (by have q1 := HZL.out; have q2 := HJN.out; omega)) rfl rfl Try.underlying9 rfl
                    refine hK.out _ _ hHeld (fun hHeld2 => ?_)
                    clear hK K hHeld2
                    (try simp only [Act.put, sA, sB, sC])
                    refine wpAnyH_ready (rs := [17]) (by kernel_rfl) (by simp) ?_
                    refine AllReadyH.cons (o := ?o35_b12b7_17) ?h35_b12b7_17 (fun K hK => ?_) AllReadyH.nil
                    case h35_b12b7_17 => (first | (simp only [gA, gB, gC]; done) | (simp only [gA, gB, gC]; exact rfl))
                    rw [if_pos (by rfl)]
                    refine wp_new (fun b => .slice (some ⟨b, 0, none⟩) 1 1) 9 #[.string (strOfNums ((c (os i).tt).getD j []))] (by rintro b rfl; first | rfl | kernel_rfl) ?_
                    intro bn227 w207 hge hB hb
                    refine hK.out _ _ (by (apply HRK.out; exact hb; exact hHeld)) (fun hHeld2 => ?_)
                    have HIn227_q := Lib.hid (NC.far (hHeld.2.2.2.1) hge)
                    have HIn227_x := Lib.hid (Rest.far (hHeld.2.2.2.2) hge)
                    have HPEk := Lib.hid (keep_blk hb HPE.out)
                    clear HPE
                    have HErk := Lib.hid (keep_own hb HEr.out)
                    clear HEr
                    have HNn227E := Lib.hid (show bn227 ≠ gm by obtain ⟨old, Bo, _⟩ := hHeld.2.2.1; have := Blk.lt Bo; omega)
                    have HGn227 := Lib.hid (show w.heap.size ≤ bn227 by have := Since.size hHeld.1; (try simp at this); (try simp at hge); omega)
                    have HXn227 := Lib.hid hB
                    clear hB
                    clear hge
                    clear hK K hHeld hb
                    have hHeld := hHeld2
                    clear hHeld2
                    (try simp only [Act.put, sA, sB, sC])
                    refine wpAnyH_ready (rs := [18]) (by kernel_rfl) (by simp) ?_
                    refine AllReadyH.cons (o := ?o35_b12b7_18) ?h35_b12b7_18 (fun K hK => ?_) AllReadyH.nil
                    case h35_b12b7_18 => (first | (simp only [gA, gB, gC]; done) | (simp only [gA, gB, gC]; exact rfl))
                    rw [if_pos (by rfl)]
                    refine wp_append_row (.tmp 217) (.tmp 227) 58 rfl w.heap.size 9 (.string ByteArray.empty) 1 16 Try.underlying58 (by kernel_rfl) rfl (by decide) (by decide) (some ⟨gr, 0, none⟩) rn rc (rowsOf strC rz) rfl HErk.out _ (some ⟨bn227, 0, none⟩) 1 1 (strC ((c (os i).tt).getD j [])) rfl (reads_blk (cs := strC ((c (os i).tt).getD j [])) HXn227.out rfl) (strC_one _) (by have q1 := HRN.out; have q2 := HCL.out (os i).tt; have q3 := HI200.out; omega) (Since.size hHeld.1) ((rz ++ [((c (os i).tt).getD j [])]).length) (rowsOf strC (rz ++ [((c (os i).tt).getD j [])])) (by have q := HZL.out; rw [List.length_append]; simp; omega) (by rw [rowsOf_append, rowsOf_one]) ?_
                    intro A_3 c_3 w208 hown hupd hfar
                    have hHeld3 := HKS.out.at_ w208 ⟨Since.upd hHeld.1 hupd (own_low HErk.out), Upd.blk hupd (hHeld.2.1) (own_ne_ty HErk.out (hHeld.2.1) (by decide)), HasRow.upd hupd (hHeld.2.2.1) HER.out, NC.upd hupd (hHeld.2.2.2.1) (fun g hg h => HRQ.out g h hg), Rest.upd hupd (hHeld.2.2.2.2) (fun g hg h => HRX.out g h hg)⟩
                    have HDEq_3 := Lib.hid (dis_next hfar (fun g hg h => HRQ.out g h hg) (NC.lt (hHeld.2.2.2.1)))
                    have HDEx_3 := Lib.hid (dis_next hfar (fun g hg h => HRX.out g h hg) (Rest.lt (hHeld.2.2.2.2)))
                    have HPEku := Lib.hid (Upd.blk hupd HPEk.out HER.out)
                    have HIE_r_3 := Lib.hid (nin_next hfar HER.out (Blk.lt HPEk.out))
                    clear HPEk
                    have HOW_w208 := Lib.hid hown
                    refine hK.out _ _ hHeld3 (fun hHeld2 => ?_)
                    clear hK K hHeld hHeld3 hupd hown hfar HErk HXn227
                    have hHeld := hHeld2
                    clear hHeld2
                    (try simp only [Act.put, sA, sB, sC])
                    refine tkQ 19 (.pointer (some ⟨gm, 0 + t * 1, none⟩)) hHeld (he := by intro w hSw; exact exec_index (i := t) (s := 1) 54 58 _ _ rfl rfl rfl HTT.out HTM.out Try.underlying54 (by kernel_rfl)) (h := ?_)
                    (try simp only [Act.put, sA, sB, sC])
                    refine wpAnyH_ready (rs := [20]) (by kernel_rfl) (by simp) ?_
                    refine AllReadyH.cons (o := ?o35_b12b7_20) ?h35_b12b7_20 (fun K hK => ?_) AllReadyH.nil
                    case h35_b12b7_20 => (first | (simp only [gA, gB, gC]; done) | (simp only [gA, gB, gC]; exact rfl))
                    rw [if_pos (by rfl)]
                    refine wp_st_cell 58 _ _ rfl (el (rowsOf rowC (rs.take t)) #[.slice A_3 ((rz ++ [((c (os i).tt).getD j [])]).length) c_3] (rowsOf rowC (rs.drop (t + 1)))) (.slice A_3 ((rz ++ [((c (os i).tt).getD j [])]).length) c_3) rfl rfl HPEku.out (el_lt (j := 0) HTL.out (by show 0 < 1; decide)) (el_set (j := 0) HTL.out (by show 0 < 1; decide) rfl) (by first | rfl | simp [Value.oneCell']) (by kernel_rfl) ?_
                    clear HPEku
                    intro w209 hw
                    have HOW_w208r := Lib.hid (show (w209).ownsRow w.heap.size 9 1 (.slice A_3 ((rz ++ [((c (os i).tt).getD j [])]).length) c_3) ((rz ++ [((c (os i).tt).getD j [])]).length) (rowsOf strC (rz ++ [((c (os i).tt).getD j [])])) by rw [hw]; exact own_row_far HOW_w208.out HIE_r_3.out _)
                    clear HOW_w208
                    have HRE := Lib.hid (show Blk w209 gm 58 (el (rowsOf rowC (rs.take t)) #[.slice A_3 ((rz ++ [((c (os i).tt).getD j [])]).length) c_3] (rowsOf rowC (rs.drop (t + 1)))) by obtain ⟨old, Bo, _⟩ := hHeld.2.2.1; rw [hw]; exact Blk.row Bo _)
                    have hHeld3 := HKS.out.at_ w209 ⟨by rw [hw]; exact Since.setRow hHeld.1 HGE.out _, by rw [hw]; exact Blk.row_far (hHeld.2.1) (Ne.symm HNEO.out) _, HasRow.of HRE.out el_size, by rw [hw]; exact NC.row_far (hHeld.2.2.2.1) HEQ_.out _, by rw [hw]; exact Rest.row_far (hHeld.2.2.2.2) HEX.out _⟩
                    refine hK.out _ _ hHeld3 (fun hHeld2 => ?_)
                    clear hK K hHeld hHeld3 hw
                    have hHeld := hHeld2
                    clear hHeld2
                    (try simp only [Act.put, sA, sB, sC])
                    refine wpAnyH_done (by kernel_rfl) ?_ _
                    have HSd35v2 := Lib.hid hHeld.1
                    have HBn10d35v2 := Lib.hid (hHeld.2.1)
                    have HBEd35v2 := Lib.hid HRE.out
                    clear HRE
                    have HFqd35v2 := Lib.hid (hHeld.2.2.2.1)
                    have HFxd35v2 := Lib.hid (hHeld.2.2.2.2)
                    clear hHeld HRK HKS HS206 HBn10206 HE0 HFq206 HX0
                    have HFrd35v2 := Lib.hid HOW_w208r.out
                    clear HOW_w208r
                    have HMO2 := Lib.hid (MO.close (r' := ⟨A_3, (rz ++ [((c (os i).tt).getD j [])]).length, c_3, (rz ++ [((c (os i).tt).getD j [])])⟩) HGM.out HRT.out HND.out HBEd35v2.out HFrd35v2.out HFxd35v2.out (fun g hg h => HDEx_3.out g h hg))
                    have HDM9 := Lib.hid (set_dis (r' := ⟨A_3, (rz ++ [((c (os i).tt).getD j [])]).length, c_3, (rz ++ [((c (os i).tt).getD j [])])⟩) HTLT.out HEQ_.out (fun g hg h => HDEq_3.out g h hg) HXQ.out)
                    go_wp2_with fail
                    refine Met.intro ?_
                    exact hJ5 _ _ ⟨(putC c (okP c ends room (os i).tt) (os i).tt ((c (os i).tt).getD j [])), Sq_1, (rs.set t ⟨A_3, (rz ++ [((c (os i).tt).getD j [])]).length, c_3, (rz ++ [((c (os i).tt).getD j [])])⟩), (gm :: (rs.set t ⟨A_3, (rz ++ [((c (os i).tt).getD j [])]).length, c_3, (rz ++ [((c (os i).tt).getD j [])])⟩).flatMap blkR), ⟨rfl, rfl, rfl, rfl, rfl, rfl, rfl, rfl, rfl, rfl, rfl, trivial⟩, Lib.hid ⟨(put_len HCL.out), (by rw [List.length_set]; exact HRL.out), (same_put HSM.out HRT.out HTT.out HOKP.out), HDM9.out, HSd35v2.out, HBn10d35v2.out, HFqd35v2.out, HMO2.out⟩⟩
                   case g35_b12_16b =>
                    rw [if_pos (by rfl)]
                    refine wp_q (.string (strOfNums ((c (os i).tt).getD j []))) ?e35_b12b16_16 ?_
                    case e35_b12b16_16 => exact exec_at 9 _ _ (by rw [← HZE.out]; exact str_at rfl HEr.out (by have q1 := HZL.out; have q2 := HJN.out; omega)) rfl rfl Try.underlying9 rfl
                    refine hK.out _ _ hHeld (fun hHeld2 => ?_)
                    clear hK K hHeld2
                    (try simp only [Act.put, sA, sB, sC])
                    refine wpAnyH_ready (rs := [7, 17]) (by kernel_rfl) (by simp) ?_
                    refine AllReadyH.cons (o := ?o35_b12b16_7b) ?h35_b12b16_7b (fun K hK => ?g35_b12b16_7b) (AllReadyH.cons (o := ?o35_b12b16_17b) ?h35_b12b16_17b (fun K hK => ?g35_b12b16_17b) AllReadyH.nil)
                    case h35_b12b16_7b => (first | (simp only [gA, gB, gC]; done) | (simp only [gA, gB, gC]; exact rfl))
                    case h35_b12b16_17b => (first | (simp only [gA, gB, gC]; done) | (simp only [gA, gB, gC]; exact rfl))
                    case g35_b12b16_7b =>
                     rw [if_pos (by rfl)]
                     refine wp_q (.slice (some ⟨gr, 0, none⟩) rn rc) ?e35_b12b16b7_7 ?_
                     case e35_b12b16b7_7 => exact exec_cell 58 _ _ HPE.out (el_at (j := 0) HTL.out rfl) rfl rfl Try.underlying58 rfl
                     refine hK.out _ _ hHeld (fun hHeld2 => ?_)
                     clear hK K hHeld2
                     (try simp only [Act.put, sA, sB, sC])
                     refine wpAnyH_ready (rs := [17]) (by kernel_rfl) (by simp) ?_
                     refine AllReadyH.cons (o := ?o35_b12b16b7_17) ?h35_b12b16b7_17 (fun K hK => ?_) AllReadyH.nil
                     case h35_b12b16b7_17 => (first | (simp only [gA, gB, gC]; done) | (simp only [gA, gB, gC]; exact rfl))
                     rw [if_pos (by rfl)]
                     refine wp_new (fun b => .slice (some ⟨b, 0, none⟩) 1 1) 9 #[.string (strOfNums ((c (os i).tt).getD j []))] (by rintro b rfl; first | rfl | kernel_rfl) ?_
                     intro bn227 w207 hge hB hb
                     refine hK.out _ _ (by (apply HRK.out; exact hb; exact hHeld)) (fun hHeld2 => ?_)
                     have HIn227_q := Lib.hid (NC.far (hHeld.2.2.2.1) hge)
                     have HIn227_x := Lib.hid (Rest.far (hHeld.2.2.2.2) hge)
                     have HPEk := Lib.hid (keep_blk hb HPE.out)
                     clear HPE
                     have HErk := Lib.hid (keep_own hb HEr.out)
                     clear HEr
                     have HNn227E := Lib.hid (show bn227 ≠ gm by obtain ⟨old, Bo, _⟩ := hHeld.2.2.1; have := Blk.lt Bo; omega)
                     have HGn227 := Lib.hid (show w.heap.size ≤ bn227 by have := Since.size hHeld.1; (try simp at this); (try simp at hge); omega)
                     have HXn227 := Lib.hid hB
                     clear hB
                     clear hge
                     clear hK K hHeld hb
                     have hHeld := hHeld2
                     clear hHeld2
                     (try simp only [Act.put, sA, sB, sC])
                     refine wpAnyH_ready (rs := [18]) (by kernel_rfl) (by simp) ?_
                     refine AllReadyH.cons (o := ?o35_b12b16b7_18) ?h35_b12b16b7_18 (fun K hK => ?_) AllReadyH.nil
                     case h35_b12b16b7_18 => (first | (simp only [gA, gB, gC]; done) | (simp only [gA, gB, gC]; exact rfl))
                     rw [if_pos (by rfl)]
                     refine wp_append_row (.tmp 217) (.tmp 227) 58 rfl w.heap.size 9 (.string ByteArray.empty) 1 16 Try.underlying58 (by kernel_rfl) rfl (by decide) (by decide) (some ⟨gr, 0, none⟩) rn rc (rowsOf strC rz) rfl HErk.out _ (some ⟨bn227, 0, none⟩) 1 1 (strC ((c (os i).tt).getD j [])) rfl (reads_blk (cs := strC ((c (os i).tt).getD j [])) HXn227.out rfl) (strC_one _) (by have q1 := HRN.out; have q2 := HCL.out (os i).tt; have q3 := HI200.out; omega) (Since.size hHeld.1) ((rz ++ [((c (os i).tt).getD j [])]).length) (rowsOf strC (rz ++ [((c (os i).tt).getD j [])])) (by have q := HZL.out; rw [List.length_append]; simp; omega) (by rw [rowsOf_append, rowsOf_one]) ?_
                     intro A_4 c_4 w208 hown hupd hfar
                     have hHeld3 := HKS.out.at_ w208 ⟨Since.upd hHeld.1 hupd (own_low HErk.out), Upd.blk hupd (hHeld.2.1) (own_ne_ty HErk.out (hHeld.2.1) (by decide)), HasRow.upd hupd (hHeld.2.2.1) HER.out, NC.upd hupd (hHeld.2.2.2.1) (fun g hg h => HRQ.out g h hg), Rest.upd hupd (hHeld.2.2.2.2) (fun g hg h => HRX.out g h hg)⟩
                     have HDEq_4 := Lib.hid (dis_next hfar (fun g hg h => HRQ.out g h hg) (NC.lt (hHeld.2.2.2.1)))
                     have HDEx_4 := Lib.hid (dis_next hfar (fun g hg h => HRX.out g h hg) (Rest.lt (hHeld.2.2.2.2)))
                     have HPEku := Lib.hid (Upd.blk hupd HPEk.out HER.out)
                     have HIE_r_4 := Lib.hid (nin_next hfar HER.out (Blk.lt HPEk.out))
                     clear HPEk
                     have HOW_w208 := Lib.hid hown
                     refine hK.out _ _ hHeld3 (fun hHeld2 => ?_)
                     clear hK K hHeld hHeld3 hupd hown hfar HErk HXn227
                     have hHeld := hHeld2
                     clear hHeld2
                     (try simp only [Act.put, sA, sB, sC])
                     refine tkQ 19 (.pointer (some ⟨gm, 0 + t * 1, none⟩)) hHeld (he := by intro w hSw; exact exec_index (i := t) (s := 1) 54 58 _ _ rfl rfl rfl HTT.out HTM.out Try.underlying54 (by kernel_rfl)) (h := ?_)
                     (try simp only [Act.put, sA, sB, sC])
                     refine wpAnyH_ready (rs := [20]) (by kernel_rfl) (by simp) ?_
                     refine AllReadyH.cons (o := ?o35_b12b16b7_20) ?h35_b12b16b7_20 (fun K hK => ?_) AllReadyH.nil
                     case h35_b12b16b7_20 => (first | (simp only [gA, gB, gC]; done) | (simp only [gA, gB, gC]; exact rfl))
                     rw [if_pos (by rfl)]
                     refine wp_st_cell 58 _ _ rfl (el (rowsOf rowC (rs.take t)) #[.slice A_4 ((rz ++ [((c (os i).tt).getD j [])]).length) c_4] (rowsOf rowC (rs.drop (t + 1)))) (.slice A_4 ((rz ++ [((c (os i).tt).getD j [])]).length) c_4) rfl rfl HPEku.out (el_lt (j := 0) HTL.out (by show 0 < 1; decide)) (el_set (j := 0) HTL.out (by show 0 < 1; decide) rfl) (by first | rfl | simp [Value.oneCell']) (by kernel_rfl) ?_
                     clear HPEku
                     intro w209 hw
                     have HOW_w208r := Lib.hid (show (w209).ownsRow w.heap.size 9 1 (.slice A_4 ((rz ++ [((c (os i).tt).getD j [])]).length) c_4) ((rz ++ [((c (os i).tt).getD j [])]).length) (rowsOf strC (rz ++ [((c (os i).tt).getD j [])])) by rw [hw]; exact own_row_far HOW_w208.out HIE_r_4.out _)
                     clear HOW_w208
                     have HRE := Lib.hid (show Blk w209 gm 58 (el (rowsOf rowC (rs.take t)) #[.slice A_4 ((rz ++ [((c (os i).tt).getD j [])]).length) c_4] (rowsOf rowC (rs.drop (t + 1)))) by obtain ⟨old, Bo, _⟩ := hHeld.2.2.1; rw [hw]; exact Blk.row Bo _)
                     have hHeld3 := HKS.out.at_ w209 ⟨by rw [hw]; exact Since.setRow hHeld.1 HGE.out _, by rw [hw]; exact Blk.row_far (hHeld.2.1) (Ne.symm HNEO.out) _, HasRow.of HRE.out el_size, by rw [hw]; exact NC.row_far (hHeld.2.2.2.1) HEQ_.out _, by rw [hw]; exact Rest.row_far (hHeld.2.2.2.2) HEX.out _⟩
                     refine hK.out _ _ hHeld3 (fun hHeld2 => ?_)
                     clear hK K hHeld hHeld3 hw
                     have hHeld := hHeld2
                     clear hHeld2
                     (try simp only [Act.put, sA, sB, sC])
                     refine wpAnyH_done (by kernel_rfl) ?_ _
                     have HSd35v3 := Lib.hid hHeld.1
                     have HBn10d35v3 := Lib.hid (hHeld.2.1)
                     have HBEd35v3 := Lib.hid HRE.out
                     clear HRE
                     have HFqd35v3 := Lib.hid (hHeld.2.2.2.1)
                     have HFxd35v3 := Lib.hid (hHeld.2.2.2.2)
                     clear hHeld HRK HKS HS206 HBn10206 HE0 HFq206 HX0
                     have HFrd35v3 := Lib.hid HOW_w208r.out
                     clear HOW_w208r
                     have HMO2 := Lib.hid (MO.close (r' := ⟨A_4, (rz ++ [((c (os i).tt).getD j [])]).length, c_4, (rz ++ [((c (os i).tt).getD j [])])⟩) HGM.out HRT.out HND.out HBEd35v3.out HFrd35v3.out HFxd35v3.out (fun g hg h => HDEx_4.out g h hg))
                     have HDM9 := Lib.hid (set_dis (r' := ⟨A_4, (rz ++ [((c (os i).tt).getD j [])]).length, c_4, (rz ++ [((c (os i).tt).getD j [])])⟩) HTLT.out HEQ_.out (fun g hg h => HDEq_4.out g h hg) HXQ.out)
                     go_wp2_with fail
                     refine Met.intro ?_
                     exact hJ5 _ _ ⟨(putC c (okP c ends room (os i).tt) (os i).tt ((c (os i).tt).getD j [])), Sq_1, (rs.set t ⟨A_4, (rz ++ [((c (os i).tt).getD j [])]).length, c_4, (rz ++ [((c (os i).tt).getD j [])])⟩), (gm :: (rs.set t ⟨A_4, (rz ++ [((c (os i).tt).getD j [])]).length, c_4, (rz ++ [((c (os i).tt).getD j [])])⟩).flatMap blkR), ⟨rfl, rfl, rfl, rfl, rfl, rfl, rfl, rfl, rfl, rfl, rfl, trivial⟩, Lib.hid ⟨(put_len HCL.out), (by rw [List.length_set]; exact HRL.out), (same_put HSM.out HRT.out HTT.out HOKP.out), HDM9.out, HSd35v3.out, HBn10d35v3.out, HFqd35v3.out, HMO2.out⟩⟩
                    case g35_b12b16_17b =>
                     rw [if_pos (by rfl)]
                     refine wp_new (fun b => .slice (some ⟨b, 0, none⟩) 1 1) 9 #[.string (strOfNums ((c (os i).tt).getD j []))] (by rintro b rfl; first | rfl | kernel_rfl) ?_
                     intro bn227 w207 hge hB hb
                     refine hK.out _ _ (by (apply HRK.out; exact hb; exact hHeld)) (fun hHeld2 => ?_)
                     have HIn227_q := Lib.hid (NC.far (hHeld.2.2.2.1) hge)
                     have HIn227_x := Lib.hid (Rest.far (hHeld.2.2.2.2) hge)
                     have HPEk := Lib.hid (keep_blk hb HPE.out)
                     clear HPE
                     have HErk := Lib.hid (keep_own hb HEr.out)
                     clear HEr
                     have HNn227E := Lib.hid (show bn227 ≠ gm by obtain ⟨old, Bo, _⟩ := hHeld.2.2.1; have := Blk.lt Bo; omega)
                     have HGn227 := Lib.hid (show w.heap.size ≤ bn227 by have := Since.size hHeld.1; (try simp at this); (try simp at hge); omega)
                     have HXn227 := Lib.hid hB
                     clear hB
                     clear hge
                     clear hK K hHeld hb
                     have hHeld := hHeld2
                     clear hHeld2
                     (try simp only [Act.put, sA, sB, sC])
                     refine wpAnyH_ready (rs := [7]) (by kernel_rfl) (by simp) ?_
                     refine AllReadyH.cons (o := ?o35_b12b16b17_7) ?h35_b12b16b17_7 (fun K hK => ?_) AllReadyH.nil
                     case h35_b12b16b17_7 => (first | (simp only [gA, gB, gC]; done) | (simp only [gA, gB, gC]; exact rfl))
                     rw [if_pos (by rfl)]
                     refine wp_q (.slice (some ⟨gr, 0, none⟩) rn rc) ?e35_b12b16b17_7 ?_
                     case e35_b12b16b17_7 => exact exec_cell 58 _ _ HPEk.out (el_at (j := 0) HTL.out rfl) rfl rfl Try.underlying58 rfl
                     refine hK.out _ _ hHeld (fun hHeld2 => ?_)
                     clear hK K hHeld2
                     (try simp only [Act.put, sA, sB, sC])
                     refine wpAnyH_ready (rs := [18]) (by kernel_rfl) (by simp) ?_
                     refine AllReadyH.cons (o := ?o35_b12b16b17_18) ?h35_b12b16b17_18 (fun K hK => ?_) AllReadyH.nil
                     case h35_b12b16b17_18 => (first | (simp only [gA, gB, gC]; done) | (simp only [gA, gB, gC]; exact rfl))
                     rw [if_pos (by rfl)]
                     refine wp_append_row (.tmp 217) (.tmp 227) 58 rfl w.heap.size 9 (.string ByteArray.empty) 1 16 Try.underlying58 (by kernel_rfl) rfl (by decide) (by decide) (some ⟨gr, 0, none⟩) rn rc (rowsOf strC rz) rfl HErk.out _ (some ⟨bn227, 0, none⟩) 1 1 (strC ((c (os i).tt).getD j [])) rfl (reads_blk (cs := strC ((c (os i).tt).getD j [])) HXn227.out rfl) (strC_one _) (by have q1 := HRN.out; have q2 := HCL.out (os i).tt; have q3 := HI200.out; omega) (Since.size hHeld.1) ((rz ++ [((c (os i).tt).getD j [])]).length) (rowsOf strC (rz ++ [((c (os i).tt).getD j [])])) (by have q := HZL.out; rw [List.length_append]; simp; omega) (by rw [rowsOf_append, rowsOf_one]) ?_
                     intro A_5 c_5 w208 hown hupd hfar
                     have hHeld3 := HKS.out.at_ w208 ⟨Since.upd hHeld.1 hupd (own_low HErk.out), Upd.blk hupd (hHeld.2.1) (own_ne_ty HErk.out (hHeld.2.1) (by decide)), HasRow.upd hupd (hHeld.2.2.1) HER.out, NC.upd hupd (hHeld.2.2.2.1) (fun g hg h => HRQ.out g h hg), Rest.upd hupd (hHeld.2.2.2.2) (fun g hg h => HRX.out g h hg)⟩
                     have HDEq_5 := Lib.hid (dis_next hfar (fun g hg h => HRQ.out g h hg) (NC.lt (hHeld.2.2.2.1)))
                     have HDEx_5 := Lib.hid (dis_next hfar (fun g hg h => HRX.out g h hg) (Rest.lt (hHeld.2.2.2.2)))
                     have HPEku := Lib.hid (Upd.blk hupd HPEk.out HER.out)
                     have HIE_r_5 := Lib.hid (nin_next hfar HER.out (Blk.lt HPEk.out))
                     clear HPEk
                     have HOW_w208 := Lib.hid hown
                     refine hK.out _ _ hHeld3 (fun hHeld2 => ?_)
                     clear hK K hHeld hHeld3 hupd hown hfar HErk HXn227
                     have hHeld := hHeld2
                     clear hHeld2
                     (try simp only [Act.put, sA, sB, sC])
                     refine tkQ 19 (.pointer (some ⟨gm, 0 + t * 1, none⟩)) hHeld (he := by intro w hSw; exact exec_index (i := t) (s := 1) 54 58 _ _ rfl rfl rfl HTT.out HTM.out Try.underlying54 (by kernel_rfl)) (h := ?_)
                     (try simp only [Act.put, sA, sB, sC])
                     refine wpAnyH_ready (rs := [20]) (by kernel_rfl) (by simp) ?_
                     refine AllReadyH.cons (o := ?o35_b12b16b17_20) ?h35_b12b16b17_20 (fun K hK => ?_) AllReadyH.nil
                     case h35_b12b16b17_20 => (first | (simp only [gA, gB, gC]; done) | (simp only [gA, gB, gC]; exact rfl))
                     rw [if_pos (by rfl)]
                     refine wp_st_cell 58 _ _ rfl (el (rowsOf rowC (rs.take t)) #[.slice A_5 ((rz ++ [((c (os i).tt).getD j [])]).length) c_5] (rowsOf rowC (rs.drop (t + 1)))) (.slice A_5 ((rz ++ [((c (os i).tt).getD j [])]).length) c_5) rfl rfl HPEku.out (el_lt (j := 0) HTL.out (by show 0 < 1; decide)) (el_set (j := 0) HTL.out (by show 0 < 1; decide) rfl) (by first | rfl | simp [Value.oneCell']) (by kernel_rfl) ?_
                     clear HPEku
                     intro w209 hw
                     have HOW_w208r := Lib.hid (show (w209).ownsRow w.heap.size 9 1 (.slice A_5 ((rz ++ [((c (os i).tt).getD j [])]).length) c_5) ((rz ++ [((c (os i).tt).getD j [])]).length) (rowsOf strC (rz ++ [((c (os i).tt).getD j [])])) by rw [hw]; exact own_row_far HOW_w208.out HIE_r_5.out _)
                     clear HOW_w208
                     have HRE := Lib.hid (show Blk w209 gm 58 (el (rowsOf rowC (rs.take t)) #[.slice A_5 ((rz ++ [((c (os i).tt).getD j [])]).length) c_5] (rowsOf rowC (rs.drop (t + 1)))) by obtain ⟨old, Bo, _⟩ := hHeld.2.2.1; rw [hw]; exact Blk.row Bo _)
                     have hHeld3 := HKS.out.at_ w209 ⟨by rw [hw]; exact Since.setRow hHeld.1 HGE.out _, by rw [hw]; exact Blk.row_far (hHeld.2.1) (Ne.symm HNEO.out) _, HasRow.of HRE.out el_size, by rw [hw]; exact NC.row_far (hHeld.2.2.2.1) HEQ_.out _, by rw [hw]; exact Rest.row_far (hHeld.2.2.2.2) HEX.out _⟩
                     refine hK.out _ _ hHeld3 (fun hHeld2 => ?_)
                     clear hK K hHeld hHeld3 hw
                     have hHeld := hHeld2
                     clear hHeld2
                     (try simp only [Act.put, sA, sB, sC])
                     refine wpAnyH_done (by kernel_rfl) ?_ _
                     have HSd35v4 := Lib.hid hHeld.1
                     have HBn10d35v4 := Lib.hid (hHeld.2.1)
                     have HBEd35v4 := Lib.hid HRE.out
                     clear HRE
                     have HFqd35v4 := Lib.hid (hHeld.2.2.2.1)
                     have HFxd35v4 := Lib.hid (hHeld.2.2.2.2)
                     clear hHeld HRK HKS HS206 HBn10206 HE0 HFq206 HX0
                     have HFrd35v4 := Lib.hid HOW_w208r.out
                     clear HOW_w208r
                     have HMO2 := Lib.hid (MO.close (r' := ⟨A_5, (rz ++ [((c (os i).tt).getD j [])]).length, c_5, (rz ++ [((c (os i).tt).getD j [])])⟩) HGM.out HRT.out HND.out HBEd35v4.out HFrd35v4.out HFxd35v4.out (fun g hg h => HDEx_5.out g h hg))
                     have HDM9 := Lib.hid (set_dis (r' := ⟨A_5, (rz ++ [((c (os i).tt).getD j [])]).length, c_5, (rz ++ [((c (os i).tt).getD j [])])⟩) HTLT.out HEQ_.out (fun g hg h => HDEq_5.out g h hg) HXQ.out)
                     go_wp2_with fail
                     refine Met.intro ?_
                     exact hJ5 _ _ ⟨(putC c (okP c ends room (os i).tt) (os i).tt ((c (os i).tt).getD j [])), Sq_1, (rs.set t ⟨A_5, (rz ++ [((c (os i).tt).getD j [])]).length, c_5, (rz ++ [((c (os i).tt).getD j [])])⟩), (gm :: (rs.set t ⟨A_5, (rz ++ [((c (os i).tt).getD j [])]).length, c_5, (rz ++ [((c (os i).tt).getD j [])])⟩).flatMap blkR), ⟨rfl, rfl, rfl, rfl, rfl, rfl, rfl, rfl, rfl, rfl, rfl, trivial⟩, Lib.hid ⟨(put_len HCL.out), (by rw [List.length_set]; exact HRL.out), (same_put HSM.out HRT.out HTT.out HOKP.out), HDM9.out, HSd35v4.out, HBn10d35v4.out, HFqd35v4.out, HMO2.out⟩⟩
                 | false =>
                  have HOKP := Lib.hid hok; clear hok
                  go_upto_region 34 with fail
                  refine wp_region_lit ?_
                  refine tkL (.bool true) (h := ?_)
                  (try simp only [Act.put, sA, sB, sC])
                  refine tkL (.bool true) (h := ?_)
                  (try simp only [Act.put, sA, sB, sC])
                  refine tkL (.bool false) (h := ?_)
                  (try simp only [Act.put, sA, sB, sC])
                  refine tkL (.bool false) (h := ?_)
                  (try simp only [Act.put, sA, sB, sC])
                  refine wpList_nil ?_
                  go_wp2_with fail
                  refine Met.intro ?_
                  exact hJ5 _ _ ⟨(putC c (okP c ends room (os i).tt) (os i).tt ((c (os i).tt).getD j [])), Sq_1, rs, Sm, ⟨rfl, rfl, rfl, rfl, rfl, rfl, rfl, rfl, rfl, rfl, rfl, trivial⟩, Lib.hid ⟨(put_len HCL.out), HRL.out, (by rw [HOKP.out, putC_f]; exact HSM.out), HDDmo_q_206.out, HS206.out, HBn10206.out, HFq206.out, HFmo206.out⟩⟩
                | false =>
                 have HHAS := Lib.hid hhas; clear hhas
                 go_upto_region 32 with fail
                 refine wp_region_lit ?_
                 refine tkL (.pointer (some ⟨q1, 0, none⟩)) (h := ?_)
                 (try simp only [Act.put, sA, sB, sC])
                 refine tkL (.pointer (some ⟨bn10, 1, none⟩)) (h := ?_)
                 (try simp only [Act.put, sA, sB, sC])
                 refine wpList_q (by rfl) (.int .i64 ((os i).tt)) ?he ?_
                 case he => exact exec_cell 3 _ _ HBn10205.out rfl rfl rfl Try.underlying3 rfl
                 (try simp only [Act.put, sA, sB, sC])
                 refine tkL (.pointer (some ⟨bn10, 2, none⟩)) (h := ?_)
                 (try simp only [Act.put, sA, sB, sC])
                 refine wpList_q (by rfl) (.int .i64 ((os i).ix)) ?he ?_
                 case he => exact exec_cell 3 _ _ HBn10205.out rfl rfl rfl Try.underlying3 rfl
                 (try simp only [Act.put, sA, sB, sC])
                 refine wpList_wp (by rfl) (fun K hK => ?_)
                 (try go_simp)
                 refine (twinN w.heap.size q1 ends room i c Sq (os i).tt (os i).ix _ HFq205.out HWF.out HHAS.out).mono ?_
                 rintro e w' ⟨rfl, rfl⟩
                 (try go_wp2_with fail)
                 refine hK.out _ _ ?_
                 clear hK K
                 (try simp only [Act.put, sA, sB, sC])
                 refine tkL (.bool false) (h := ?_)
                 (try simp only [Act.put, sA, sB, sC])
                 refine tkL (.bool false) (h := ?_)
                 (try simp only [Act.put, sA, sB, sC])
                 refine wpList_no (by rfl) ?_
                 (try simp only [Act.put, sA, sB, sC])
                 refine tkL (.bool false) (h := ?_)
                 (try simp only [Act.put, sA, sB, sC])
                 refine wpList_q (by rfl) (.bool false) ?he ?_
                 case he => (go_simp; (try with_reducible rfl))
                 (try simp only [Act.put, sA, sB, sC])
                 refine wpList_nil ?_
                 go_upto_region 34 with fail
                 refine wp_region_lit ?_
                 refine tkL (.bool false) (h := ?_)
                 (try simp only [Act.put, sA, sB, sC])
                 refine tkL (.bool false) (h := ?_)
                 (try simp only [Act.put, sA, sB, sC])
                 refine wpList_no (by rfl) ?_
                 (try simp only [Act.put, sA, sB, sC])
                 refine tkL (.bool false) (h := ?_)
                 (try simp only [Act.put, sA, sB, sC])
                 refine wpList_nil ?_
                 have HQM205 := Lib.hid (NC.more HFq205.out (Nat.le_succ i))
                 go_wp2_with fail
                 refine Met.intro ?_
                 exact hJ5 _ _ ⟨c, Sq, rs, Sm, ⟨rfl, rfl, rfl, rfl, rfl, rfl, rfl, rfl, rfl, rfl, rfl, trivial⟩, Lib.hid ⟨(fun x => Nat.le_succ_of_le (HCL.out x)), HRL.out, HSM.out, HDM.out, HS205.out, HBn10205.out, HQM205.out, HFmo205.out⟩⟩
            · have HK23 := Lib.hid hcs; clear hcs
              go_upto_region 15 with fail
              refine wp_region_lit ?_
              refine wpList_q (by rfl) (.bool false) ?he ?_
              case he => (have q := HK1.out; go_simp; (first | done | exact q | (simp [q]; done)))
              (try simp only [Act.put, sA, sB, sC])
              refine tkL (.bool false) (h := ?_)
              (try simp only [Act.put, sA, sB, sC])
              refine wpList_nil ?_
              go_upto_region 20 with fail
              refine wp_region_lit ?_
              refine tkL (.bool ((os i).k == 2)) (h := ?_)
              (try simp only [Act.put, sA, sB, sC])
              refine tkL (.bool ((os i).k == 2)) (h := ?_)
              (try simp only [Act.put, sA, sB, sC])
              refine wpList_nil ?_
              go_upto_if 113 with fail
              refine wp_ucut (ds := []) (fun fr wx => Fits fr 244 [(0, .int .i64 ends), (1, .int .i64 room), (2, .slice (some ⟨go, oo, none⟩) on oc), (6, .bool false), (7, .pointer (some ⟨q1, 0, none⟩)), (8, .slice (some ⟨gm, 0, none⟩) m m), (9, .int .i64 (i : Int)), (10, .pointer (some ⟨bn10, 0, none⟩)), (11, .bool (inB m (os i).tt)), (12, .bool (hasC c (os i).tt (os i).ix)), (13, .bool (okP c ends room (os i).tt)), (85, .int .i64 ((os i).k)), (86, .bool false), (113, .bool true)] ∧ Hid (Since w wx ∧ Blk wx bn10 57 #[.int .i64 ((os i).k), .int .i64 ((os i).tt), .int .i64 ((os i).ix), .slice (os i).A (os i).n (os i).c] ∧ NC w.heap.size q1 ends room i c Sq wx ∧ MO w.heap.size gm rs Sm wx)) ?rest6 ?first6
              case first6 =>
               intro J6 K6 hJ6 hK6
               cases hkb : ((os i).k == 2) with
               | true =>
                have HKB := Lib.hid hkb; clear hkb
                go_wp2_with fail
                refine Met.intro ?_
                exact hJ6 _ _ ⟨⟨rfl, rfl, rfl, rfl, rfl, rfl, rfl, rfl, rfl, rfl, rfl, rfl, rfl, rfl, rfl, trivial⟩, Lib.hid ⟨HS205.out, HBn10205.out, HFq205.out, HFmo205.out⟩⟩
               | false =>
                have HKB := Lib.hid hkb; clear hkb
                have HK3 := Lib.hid (show (os i).k = 3 by have q := HKB.out; simp at q; exact HK23.out.resolve_left q)
                go_upto_region 21 with fail
                refine wp_region_lit ?_
                refine wpList_q (by rfl) (.bool true) ?he ?_
                case he => (have q := HK3.out; go_simp; (first | done | exact q | (simp [q]; done)))
                (try simp only [Act.put, sA, sB, sC])
                refine tkL (.bool true) (h := ?_)
                (try simp only [Act.put, sA, sB, sC])
                refine wpList_nil ?_
                go_wp2_with fail
                refine Met.intro ?_
                exact hJ6 _ _ ⟨⟨rfl, rfl, rfl, rfl, rfl, rfl, rfl, rfl, rfl, rfl, rfl, rfl, rfl, rfl, rfl, trivial⟩, Lib.hid ⟨HS205.out, HBn10205.out, HFq205.out, HFmo205.out⟩⟩
              intro fr wc hR
              clear HS205 HBn10205 HFq205 HFmo205
              obtain ⟨hF, HO⟩ := hR
              obtain ⟨g0, g1, g2, g3⟩ := HO.out
              clear HO
              have HS255 := Lib.hid g0
              have HBn10255 := Lib.hid g1
              have HFq255 := Lib.hid g2
              have HFmo255 := Lib.hid g3
              clear g0 g1 g2 g3
              obtain ⟨u, hu⟩ := hF.open_
              have hu2 := hu.trans (show _ = #[.int .i64 ends, .int .i64 room, .slice (some ⟨go, oo, none⟩) on oc, u 3, u 4, u 5, .bool false, .pointer (some ⟨q1, 0, none⟩), .slice (some ⟨gm, 0, none⟩) m m, .int .i64 (i : Int), .pointer (some ⟨bn10, 0, none⟩), .bool (inB m (os i).tt), .bool (hasC c (os i).tt (os i).ix), .bool (okP c ends room (os i).tt), u 14, u 15, u 16, u 17, u 18, u 19, u 20, u 21, u 22, u 23, u 24, u 25, u 26, u 27, u 28, u 29, u 30, u 31, u 32, u 33, u 34, u 35, u 36, u 37, u 38, u 39, u 40, u 41, u 42, u 43, u 44, u 45, u 46, u 47, u 48, u 49, u 50, u 51, u 52, u 53, u 54, u 55, u 56, u 57, u 58, u 59, u 60, u 61, u 62, u 63, u 64, u 65, u 66, u 67, u 68, u 69, u 70, u 71, u 72, u 73, u 74, u 75, u 76, u 77, u 78, u 79, u 80, u 81, u 82, u 83, u 84, .int .i64 ((os i).k), .bool false, u 87, u 88, u 89, u 90, u 91, u 92, u 93, u 94, u 95, u 96, u 97, u 98, u 99, u 100, u 101, u 102, u 103, u 104, u 105, u 106, u 107, u 108, u 109, u 110, u 111, u 112, .bool true, u 114, u 115, u 116, u 117, u 118, u 119, u 120, u 121, u 122, u 123, u 124, u 125, u 126, u 127, u 128, u 129, u 130, u 131, u 132, u 133, u 134, u 135, u 136, u 137, u 138, u 139, u 140, u 141, u 142, u 143, u 144, u 145, u 146, u 147, u 148, u 149, u 150, u 151, u 152, u 153, u 154, u 155, u 156, u 157, u 158, u 159, u 160, u 161, u 162, u 163, u 164, u 165, u 166, u 167, u 168, u 169, u 170, u 171, u 172, u 173, u 174, u 175, u 176, u 177, u 178, u 179, u 180, u 181, u 182, u 183, u 184, u 185, u 186, u 187, u 188, u 189, u 190, u 191, u 192, u 193, u 194, u 195, u 196, u 197, u 198, u 199, u 200, u 201, u 202, u 203, u 204, u 205, u 206, u 207, u 208, u 209, u 210, u 211, u 212, u 213, u 214, u 215, u 216, u 217, u 218, u 219, u 220, u 221, u 222, u 223, u 224, u 225, u 226, u 227, u 228, u 229, u 230, u 231, u 232, u 233, u 234, u 235, u 236, u 237, u 238, u 239, u 240, u 241, u 242, u 243] by kernel_rfl)
              clear hu hF
              subst hu2
              cases hhas : (hasC c (os i).tt (os i).ix) with
              | true =>
               have HHAS := Lib.hid hhas; clear hhas
               obtain ⟨j, hj, hjl⟩ := has_nat HHAS.out
               have HJ := Lib.hid hj; have HJL := Lib.hid hjl; clear hj hjl
               have HT0 := Lib.hid (show 0 ≤ (os i).tt from Int.not_lt.1 fun hh => by have q := HSM.out.2 _ (.inl hh); have q2 := HJL.out; rw [q] at q2; simp at q2); have HT1 := Lib.hid (show (os i).tt < (m : Int) from Int.not_le.1 fun hh => by have q := HSM.out.2 (os i).tt (.inr (by rw [HRL.out]; exact hh)); have q2 := HJL.out; rw [q] at q2; simp at q2)
               obtain ⟨t, ht⟩ : ∃ t : Nat, (os i).tt = (t : Int) := ⟨(os i).tt.toNat, by have := HT0.out; omega⟩
               have HTT := Lib.hid ht; clear ht
               have HTM := Lib.hid (show t < m by have := HT1.out; have := HTT.out; omega)
               obtain ⟨⟨rA, rn, rc, rz⟩, hr⟩ : ∃ r, rs[t]? = some r := ⟨_, List.getElem?_eq_getElem (by rw [HRL.out]; exact HTM.out)⟩
               have HRT := Lib.hid hr; clear hr
               have HRN := Lib.hid (show rn = (c (os i).tt).length by rw [HTT.out]; exact mo_len HFmo255.out HRT.out HSM.out)
               obtain ⟨gr, hgr⟩ := own_addr (MO.open_ HFmo255.out HRT.out).2.1 (show 0 < rn by have q1 := HRN.out; have q2 := HJL.out; omega)
               have hgr2 : rA = some ⟨gr, 0, none⟩ := hgr; clear hgr; subst hgr2
               have HJN := Lib.hid (show j < rn by have q1 := HRN.out; have q2 := HJL.out; omega)
               go_upto_region 22 with fail
               refine wp_region_lit ?_
               refine tkL (.slice none 0 0) (h := ?_)
               (try simp only [Act.put, sA, sB, sC])
               refine wpList_nil ?_
               go_upto_region 23 with fail
               refine wp_region_lit ?_
               refine tkL (.bool false) (h := ?_)
               (try simp only [Act.put, sA, sB, sC])
               refine wpList_nil ?_
               go_upto_region 24 with fail
               refine wp_region_lit ?_
               refine tkL (.pointer (some ⟨bn10, 0, none⟩)) (h := ?_)
               (try simp only [Act.put, sA, sB, sC])
               refine wpList_q (by rfl) (.int .i64 ((os i).k)) ?he ?_
               case he => exact exec_cell 3 _ _ HBn10255.out rfl rfl rfl Try.underlying3 rfl
               (try simp only [Act.put, sA, sB, sC])
               refine tkL (.bool ((os i).k == 2)) (h := ?_)
               (try simp only [Act.put, sA, sB, sC])
               refine wpList_nil ?_
               go_upto_if 118 with fail
               refine wp_ucut (ds := []) (fun fr wx => ∃ (Au : Option Addr) (nu cu : Nat) (S3 : List Nat), Fits fr 244 [(0, .int .i64 ends), (1, .int .i64 room), (2, .slice (some ⟨go, oo, none⟩) on oc), (6, .bool false), (7, .pointer (some ⟨q1, 0, none⟩)), (8, .slice (some ⟨gm, 0, none⟩) m m), (9, .int .i64 (i : Int)), (10, .pointer (some ⟨bn10, 0, none⟩)), (11, .bool (inB m (os i).tt)), (12, .bool true), (13, .bool (okP c ends room (os i).tt)), (14, .slice Au nu cu), (15, .bool true), (85, .int .i64 ((os i).k)), (86, .bool false), (113, .bool true)] ∧ Hid ((∀ g ∈ Sm, g ∉ S3) ∧ Since w wx ∧ Blk wx bn10 57 #[.int .i64 ((os i).k), .int .i64 ((os i).tt), .int .i64 ((os i).ix), .slice (os i).A (os i).n (os i).c] ∧ NC w.heap.size q1 ends room (i + 1) (delC c (os i).tt j) S3 wx ∧ MO w.heap.size gm rs Sm wx ∧ GotOk ((os i).k == 2) w.heap.size Au nu cu ((c (os i).tt).getD j []) wx)) ?rest7 ?first7
               case first7 =>
                intro J7 K7 hJ7 hK7
                cases hkb : ((os i).k == 2) with
                | true =>
                 have HKB := Lib.hid hkb; clear hkb
                 go_upto_region 25 with fail
                 refine wp_region_lit ?_
                 refine tkL (.pointer (some ⟨q1, 0, none⟩)) (h := ?_)
                 (try simp only [Act.put, sA, sB, sC])
                 refine tkL (.pointer (some ⟨bn10, 1, none⟩)) (h := ?_)
                 (try simp only [Act.put, sA, sB, sC])
                 refine wpList_q (by rfl) (.int .i64 ((os i).tt)) ?he ?_
                 case he => exact exec_cell 3 _ _ HBn10255.out rfl rfl rfl Try.underlying3 rfl
                 (try simp only [Act.put, sA, sB, sC])
                 refine tkL (.pointer (some ⟨bn10, 2, none⟩)) (h := ?_)
                 (try simp only [Act.put, sA, sB, sC])
                 refine wpList_q (by rfl) (.int .i64 ((os i).ix)) ?he ?_
                 case he => exact exec_cell 3 _ _ HBn10255.out rfl rfl rfl Try.underlying3 rfl
                 (try simp only [Act.put, sA, sB, sC])
                 refine wpList_wp (by rfl) (fun K hK => ?_)
                 (try go_simp)
                 refine (takeCK w.heap.size q1 ends room i c Sq (os i).tt (os i).ix j _ HFq255.out HWF.out (by have q := HCL.out (os i).tt; have := HI200.out; omega) HJL.out (by have := HI200.out; omega) HJ.out).mono ?_
                 rintro e w256 ⟨Av, nv, cv, Sq_2, rfl, hobj, hit, hds, hsub, hupd⟩
                 (try go_wp2_with fail)
                 refine hK.out _ _ ?_
                 clear hK K
                 (try simp only [Act.put, sA, sB, sC])
                 have hfar : ∀ x ∈ Sq_2, x ∈ Sq ∨ wc.heap.size ≤ x := fun x h => .inl (hsub x h)
                 clear hsub
                 have HS256 := Lib.hid (Since.upd HS255.out hupd (NC.low HFq255.out))
                 have HBn10256 := Lib.hid (Upd.blk hupd HBn10255.out HIn10_q.out)
                 have HIn10_q_256 := Lib.hid (nin_next hfar HIn10_q.out (Blk.lt HBn10255.out))
                 have HFmo256 := Lib.hid (MO.upd hupd HFmo255.out HDM.out)
                 have HDDmo_q_256 := Lib.hid (dis_next hfar HDM.out (MO.lt HFmo255.out))
                 have HFq256 := Lib.hid hobj
                 clear hupd hobj hfar HS255 HBn10255 HFq255 HFmo255
                 have HGO := Lib.hid (got_y (k2 := ((os i).k == 2)) hit); clear hit hds
                 refine tkL (.tuple #[.slice Av nv cv, .bool true]) (h := ?_)
                 (try simp only [Act.put, sA, sB, sC])
                 refine tkL (.slice Av nv cv) (h := ?_)
                 (try simp only [Act.put, sA, sB, sC])
                 refine tkL (.bool true) (h := ?_)
                 (try simp only [Act.put, sA, sB, sC])
                 refine tkL (.slice Av nv cv) (h := ?_)
                 (try simp only [Act.put, sA, sB, sC])
                 refine tkL (.bool true) (h := ?_)
                 (try simp only [Act.put, sA, sB, sC])
                 refine wpList_nil ?_
                 go_wp2_with fail
                 refine Met.intro ?_
                 exact hJ7 _ _ ⟨Av, nv, cv, Sq_2, ⟨rfl, rfl, rfl, rfl, rfl, rfl, rfl, rfl, rfl, rfl, rfl, rfl, rfl, rfl, rfl, rfl, rfl, trivial⟩, Lib.hid ⟨HDDmo_q_256.out, HS256.out, HBn10256.out, HFq256.out, HFmo256.out, HGO.out⟩⟩
                | false =>
                 have HKB := Lib.hid hkb; clear hkb
                 go_upto_region 26 with fail
                 refine wp_region_lit ?_
                 refine tkL (.pointer (some ⟨q1, 0, none⟩)) (h := ?_)
                 (try simp only [Act.put, sA, sB, sC])
                 refine tkL (.pointer (some ⟨bn10, 1, none⟩)) (h := ?_)
                 (try simp only [Act.put, sA, sB, sC])
                 refine wpList_q (by rfl) (.int .i64 ((os i).tt)) ?he ?_
                 case he => exact exec_cell 3 _ _ HBn10255.out rfl rfl rfl Try.underlying3 rfl
                 (try simp only [Act.put, sA, sB, sC])
                 refine tkL (.pointer (some ⟨bn10, 2, none⟩)) (h := ?_)
                 (try simp only [Act.put, sA, sB, sC])
                 refine wpList_q (by rfl) (.int .i64 ((os i).ix)) ?he ?_
                 case he => exact exec_cell 3 _ _ HBn10255.out rfl rfl rfl Try.underlying3 rfl
                 (try simp only [Act.put, sA, sB, sC])
                 refine wpList_wp (by rfl) (fun K hK => ?_)
                 (try go_simp)
                 refine (loseCK w.heap.size q1 ends room i c Sq (os i).tt (os i).ix j _ HFq255.out HWF.out (by have q := HCL.out (os i).tt; have := HI200.out; omega) HJL.out (by have := HI200.out; omega) HJ.out).mono ?_
                 rintro e w256 ⟨Sq_2, rfl, hobj, hupd, hfar⟩
                 (try go_wp2_with fail)
                 refine hK.out _ _ ?_
                 clear hK K
                 (try simp only [Act.put, sA, sB, sC])
                 have HS256 := Lib.hid (Since.upd HS255.out hupd (NC.low HFq255.out))
                 have HBn10256 := Lib.hid (Upd.blk hupd HBn10255.out HIn10_q.out)
                 have HIn10_q_256 := Lib.hid (nin_next hfar HIn10_q.out (Blk.lt HBn10255.out))
                 have HFmo256 := Lib.hid (MO.upd hupd HFmo255.out HDM.out)
                 have HDDmo_q_256 := Lib.hid (dis_next hfar HDM.out (MO.lt HFmo255.out))
                 have HFq256 := Lib.hid hobj
                 clear hupd hobj hfar HS255 HBn10255 HFq255 HFmo255
                 refine tkL (.bool true) (h := ?_)
                 (try simp only [Act.put, sA, sB, sC])
                 refine wpList_nil ?_
                 have HGO := Lib.hid (show GotOk ((os i).k == 2) w.heap.size none 0 0 ((c (os i).tt).getD j []) w256 from by rw [HKB.out]; exact got_n)
                 go_wp2_with fail
                 refine Met.intro ?_
                 exact hJ7 _ _ ⟨none, 0, 0, Sq_2, ⟨rfl, rfl, rfl, rfl, rfl, rfl, rfl, rfl, rfl, rfl, rfl, rfl, rfl, rfl, rfl, rfl, rfl, trivial⟩, Lib.hid ⟨HDDmo_q_256.out, HS256.out, HBn10256.out, HFq256.out, HFmo256.out, HGO.out⟩⟩
               intro fr wc hR
               clear HS255 HBn10255 HFq255 HFmo255
               obtain ⟨Au, nu, cu, S3, hF, HO⟩ := hR
               obtain ⟨e0, g0, g1, g2, g3, g4⟩ := HO.out
               clear HO
               have HDM3 := Lib.hid e0
               have HS306 := Lib.hid g0
               have HBn10306 := Lib.hid g1
               have HFq306 := Lib.hid g2
               have HFmo306 := Lib.hid g3
               have HFu306 := Lib.hid g4
               clear e0 g0 g1 g2 g3 g4
               obtain ⟨u, hu⟩ := hF.open_
               have hu2 := hu.trans (show _ = #[.int .i64 ends, .int .i64 room, .slice (some ⟨go, oo, none⟩) on oc, u 3, u 4, u 5, .bool false, .pointer (some ⟨q1, 0, none⟩), .slice (some ⟨gm, 0, none⟩) m m, .int .i64 (i : Int), .pointer (some ⟨bn10, 0, none⟩), .bool (inB m (os i).tt), .bool true, .bool (okP c ends room (os i).tt), .slice Au nu cu, .bool true, u 16, u 17, u 18, u 19, u 20, u 21, u 22, u 23, u 24, u 25, u 26, u 27, u 28, u 29, u 30, u 31, u 32, u 33, u 34, u 35, u 36, u 37, u 38, u 39, u 40, u 41, u 42, u 43, u 44, u 45, u 46, u 47, u 48, u 49, u 50, u 51, u 52, u 53, u 54, u 55, u 56, u 57, u 58, u 59, u 60, u 61, u 62, u 63, u 64, u 65, u 66, u 67, u 68, u 69, u 70, u 71, u 72, u 73, u 74, u 75, u 76, u 77, u 78, u 79, u 80, u 81, u 82, u 83, u 84, .int .i64 ((os i).k), .bool false, u 87, u 88, u 89, u 90, u 91, u 92, u 93, u 94, u 95, u 96, u 97, u 98, u 99, u 100, u 101, u 102, u 103, u 104, u 105, u 106, u 107, u 108, u 109, u 110, u 111, u 112, .bool true, u 114, u 115, u 116, u 117, u 118, u 119, u 120, u 121, u 122, u 123, u 124, u 125, u 126, u 127, u 128, u 129, u 130, u 131, u 132, u 133, u 134, u 135, u 136, u 137, u 138, u 139, u 140, u 141, u 142, u 143, u 144, u 145, u 146, u 147, u 148, u 149, u 150, u 151, u 152, u 153, u 154, u 155, u 156, u 157, u 158, u 159, u 160, u 161, u 162, u 163, u 164, u 165, u 166, u 167, u 168, u 169, u 170, u 171, u 172, u 173, u 174, u 175, u 176, u 177, u 178, u 179, u 180, u 181, u 182, u 183, u 184, u 185, u 186, u 187, u 188, u 189, u 190, u 191, u 192, u 193, u 194, u 195, u 196, u 197, u 198, u 199, u 200, u 201, u 202, u 203, u 204, u 205, u 206, u 207, u 208, u 209, u 210, u 211, u 212, u 213, u 214, u 215, u 216, u 217, u 218, u 219, u 220, u 221, u 222, u 223, u 224, u 225, u 226, u 227, u 228, u 229, u 230, u 231, u 232, u 233, u 234, u 235, u 236, u 237, u 238, u 239, u 240, u 241, u 242, u 243] by kernel_rfl)
               clear hu hF
               subst hu2
               go_upto_region 27 with fail
               refine wp_ucut (ds := []) (fun fr wx => Fits fr 244 [(0, .int .i64 ends), (1, .int .i64 room), (2, .slice (some ⟨go, oo, none⟩) on oc), (6, .bool false), (7, .pointer (some ⟨q1, 0, none⟩)), (8, .slice (some ⟨gm, 0, none⟩) m m), (9, .int .i64 (i : Int)), (10, .pointer (some ⟨bn10, 0, none⟩)), (11, .bool (inB m (os i).tt)), (12, .bool true), (13, .bool (okP c ends room (os i).tt)), (85, .int .i64 ((os i).k)), (86, .bool false), (113, .bool true), (167, .bool false)] ∧ Hid (Since w wx ∧ Blk wx bn10 57 #[.int .i64 ((os i).k), .int .i64 ((os i).tt), .int .i64 ((os i).ix), .slice (os i).A (os i).n (os i).c] ∧ NC w.heap.size q1 ends room (i + 1) (delC c (os i).tt j) S3 wx ∧ MO w.heap.size gm rs Sm wx)) ?rest8 ?first8
               case first8 =>
                intro J8 K8 hJ8 hK8
                cases hkb : ((os i).k == 2) with
                | true =>
                 have HKB := Lib.hid hkb; clear hkb
                 have HGT := Lib.hid (show GotOk true w.heap.size Au nu cu ((c (os i).tt).getD j []) wc from by rw [← HKB.out]; exact HFu306.out)
                 clear HFu306
                 have HKB2 := Lib.hid HKB.out
                 have HKS : Hid (KeepS (fun W : World => Since w W ∧ Blk W bn10 57 #[.int .i64 ((os i).k), .int .i64 ((os i).tt), .int .i64 ((os i).ix), .slice (os i).A (os i).n (os i).c] ∧ NC w.heap.size q1 ends room (i + 1) (delC c (os i).tt j) S3 W ∧ MO w.heap.size gm rs Sm W ∧ GotOk true w.heap.size Au nu cu ((c (os i).tt).getD j []) W) wc) := Lib.hid ⟨fun W W' k ⟨h, h0, h1, h2, h3⟩ => ⟨h.trans k, keep_blk k h0, NC.keep k h1, MO.keep k h2, GotOk.keep k h3⟩, ⟨HS306.out, HBn10306.out, HFq306.out, HFmo306.out, HGT.out⟩⟩
                 have HRK := Lib.hid HKS.out.1
                 refine wp_held HKS.out (by kernel_rfl) (fun hHeld => ?_)
                 refine tkQ 0 (.bool true) hHeld (h := ?_)
                 (try simp only [Act.put, sA, sB, sC])
                 refine tkQ 1 (.bool true) hHeld (h := ?_)
                 (try simp only [Act.put, sA, sB, sC])
                 refine tkQ 2 (.bool false) hHeld (he := by intro w hSw; (go_simp; (try with_reducible rfl))) (h := ?_)
                 (try simp only [Act.put, sA, sB, sC])
                 refine tkQ 3 (.bool false) hHeld (h := ?_)
                 (try simp only [Act.put, sA, sB, sC])
                 refine tkQ 4 (.pointer (some ⟨bn10, 0, none⟩)) hHeld (h := ?_)
                 (try simp only [Act.put, sA, sB, sC])
                 refine tkQ 5 (.int .i64 ((os i).k)) hHeld (he := by intro w hSw; exact exec_cell 3 _ _ hSw.2.1 rfl rfl rfl Try.underlying3 rfl) (h := ?_)
                 (try simp only [Act.put, sA, sB, sC])
                 refine tkQ 6 (.bool true) hHeld (he := by intro w hSw; (have q := HKB.out; go_simp; (first | done | exact q | (simp [q]; done) | (simp at q; simp [q]; done)))) (h := ?_)
                 (try simp only [Act.put, sA, sB, sC])
                 refine tkQ 7 (.bool true) hHeld (h := ?_)
                 (try simp only [Act.put, sA, sB, sC])
                 refine tkQ 8 (.bool true) hHeld (h := ?_)
                 (try simp only [Act.put, sA, sB, sC])
                 refine tkQ 9 (.bool true) hHeld (h := ?_)
                 (try simp only [Act.put, sA, sB, sC])
                 refine tkQ 10 (.bool true) hHeld (h := ?_)
                 (try simp only [Act.put, sA, sB, sC])
                 refine tkQ 11 (.slice Au nu cu) hHeld (h := ?_)
                 (try simp only [Act.put, sA, sB, sC])
                 refine tkQ 12 (.string (strOfNums ((c (os i).tt).getD j []))) hHeld (he := by intro w hSw; exact exec_str 55 5 9 _ (BV.of_own (hSw.2.2.2.2 rfl).1 (hSw.2.2.2.2 rfl).2) rfl rfl Try.underlying55 Try.underlying5 Try.underlying9) (h := ?_)
                 (try simp only [Act.put, sA, sB, sC])
                 refine tkQ 13 (.slice (some ⟨gm, 0, none⟩) m m) hHeld (h := ?_)
                 (try simp only [Act.put, sA, sB, sC])
                 refine tkQ 14 (.pointer (some ⟨bn10, 1, none⟩)) hHeld (h := ?_)
                 (try simp only [Act.put, sA, sB, sC])
                 refine tkQ 15 (.int .i64 ((os i).tt)) hHeld (he := by intro w hSw; exact exec_cell 3 _ _ hSw.2.1 rfl rfl rfl Try.underlying3 rfl) (h := ?_)
                 (try simp only [Act.put, sA, sB, sC])
                 refine tkQ 16 (.pointer (some ⟨gm, 0 + t * 1, none⟩)) hHeld (he := by intro w hSw; exact exec_index (i := t) (s := 1) 54 58 _ _ rfl rfl rfl HTT.out HTM.out Try.underlying54 (by kernel_rfl)) (h := ?_)
                 (try simp only [Act.put, sA, sB, sC])
                 refine tkQ 17 (.slice (some ⟨gr, 0, none⟩) rn rc) hHeld (he := by intro w hSw; exact exec_at 58 _ _ (mo_cell hSw.2.2.2.1 HRT.out) rfl rfl Try.underlying58 rfl) (h := ?_)
                 (try simp only [Act.put, sA, sB, sC])
                 refine tkQ 18 (.pointer (some ⟨bn10, 2, none⟩)) hHeld (h := ?_)
                 (try simp only [Act.put, sA, sB, sC])
                 refine tkQ 19 (.int .i64 ((os i).ix)) hHeld (he := by intro w hSw; exact exec_cell 3 _ _ hSw.2.1 rfl rfl rfl Try.underlying3 rfl) (h := ?_)
                 (try simp only [Act.put, sA, sB, sC])
                 refine tkQ 20 (.pointer (some ⟨gr, 0 + j * 1, none⟩)) hHeld (he := by intro w hSw; exact exec_index (i := j) (s := 1) 58 9 _ _ rfl rfl rfl HJ.out HJN.out Try.underlying58 (by kernel_rfl)) (h := ?_)
                 (try simp only [Act.put, sA, sB, sC])
                 refine tkQ 21 (.string (strOfNums ((c (os i).tt).getD j []))) hHeld (he := by intro w hSw; exact exec_at 9 _ _ (mo_str hSw.2.2.2.1 HRT.out HSM.out HTT.out HJL.out) rfl rfl Try.underlying9 rfl) (h := ?_)
                 (try simp only [Act.put, sA, sB, sC])
                 refine tkQ 22 (.bool false) hHeld (he := by intro w hSw; (first | (go_simp; (first | done | exact str_neq | simp [str_neq])) | rfl)) (h := ?_)
                 (try simp only [Act.put, sA, sB, sC])
                 refine tkQ 23 (.bool false) hHeld (h := ?_)
                 (try simp only [Act.put, sA, sB, sC])
                 refine tkQ 24 (.bool false) hHeld (h := ?_)
                 (try simp only [Act.put, sA, sB, sC])
                 refine tkQ 25 (.bool false) hHeld (h := ?_)
                 (try simp only [Act.put, sA, sB, sC])
                 refine tkQ 26 (.bool true) hHeld (h := ?_)
                 (try simp only [Act.put, sA, sB, sC])
                 refine tkQ 27 (.bool false) hHeld (he := by intro w hSw; (go_simp; (try with_reducible rfl))) (h := ?_)
                 (try simp only [Act.put, sA, sB, sC])
                 refine tkQ 28 (.bool false) hHeld (h := ?_)
                 (try simp only [Act.put, sA, sB, sC])
                 refine tkU 29 hHeld (h := ?_)
                 (try simp only [Act.put, sA, sB, sC])
                 refine tkU 30 hHeld (h := ?_)
                 (try simp only [Act.put, sA, sB, sC])
                 refine tkU 31 hHeld (h := ?_)
                 (try simp only [Act.put, sA, sB, sC])
                 refine tkQ 32 (.bool false) hHeld (h := ?_)
                 (try simp only [Act.put, sA, sB, sC])
                 refine tkQ 33 (.bool false) hHeld (h := ?_)
                 (try simp only [Act.put, sA, sB, sC])
                 refine wpAnyH_done (by kernel_rfl) ?_ _
                 have HSd27 := Lib.hid hHeld.1
                 have HBn10d27 := Lib.hid (hHeld.2.1)
                 have HFqd27 := Lib.hid (hHeld.2.2.1)
                 have HFmod27 := Lib.hid (hHeld.2.2.2.1)
                 have HFud27 := Lib.hid (hHeld.2.2.2.2)
                 clear hHeld HRK HKS HS306 HBn10306 HFq306 HFmo306 HGT
                 go_wp2_with fail
                 refine Met.intro ?_
                 exact hJ8 _ _ ⟨⟨rfl, rfl, rfl, rfl, rfl, rfl, rfl, rfl, rfl, rfl, rfl, rfl, rfl, rfl, rfl, rfl, trivial⟩, Lib.hid ⟨HSd27.out, HBn10d27.out, HFqd27.out, HFmod27.out⟩⟩
                | false =>
                 have HKB := Lib.hid hkb; clear hkb
                 have HKS : Hid (KeepS (fun W : World => Since w W ∧ Blk W bn10 57 #[.int .i64 ((os i).k), .int .i64 ((os i).tt), .int .i64 ((os i).ix), .slice (os i).A (os i).n (os i).c] ∧ NC w.heap.size q1 ends room (i + 1) (delC c (os i).tt j) S3 W ∧ MO w.heap.size gm rs Sm W ∧ GotOk ((os i).k == 2) w.heap.size Au nu cu ((c (os i).tt).getD j []) W) wc) := Lib.hid ⟨fun W W' k ⟨h, h0, h1, h2, h3⟩ => ⟨h.trans k, keep_blk k h0, NC.keep k h1, MO.keep k h2, GotOk.keep k h3⟩, ⟨HS306.out, HBn10306.out, HFq306.out, HFmo306.out, HFu306.out⟩⟩
                 have HRK := Lib.hid HKS.out.1
                 refine wp_held HKS.out (by kernel_rfl) (fun hHeld => ?_)
                 refine tkQ 0 (.bool true) hHeld (h := ?_)
                 (try simp only [Act.put, sA, sB, sC])
                 refine tkQ 1 (.bool true) hHeld (h := ?_)
                 (try simp only [Act.put, sA, sB, sC])
                 refine tkQ 2 (.bool false) hHeld (he := by intro w hSw; (go_simp; (try with_reducible rfl))) (h := ?_)
                 (try simp only [Act.put, sA, sB, sC])
                 refine tkQ 3 (.bool false) hHeld (h := ?_)
                 (try simp only [Act.put, sA, sB, sC])
                 refine tkQ 4 (.pointer (some ⟨bn10, 0, none⟩)) hHeld (h := ?_)
                 (try simp only [Act.put, sA, sB, sC])
                 refine tkQ 5 (.int .i64 ((os i).k)) hHeld (he := by intro w hSw; exact exec_cell 3 _ _ hSw.2.1 rfl rfl rfl Try.underlying3 rfl) (h := ?_)
                 (try simp only [Act.put, sA, sB, sC])
                 refine tkQ 6 (.bool false) hHeld (he := by intro w hSw; (have q := HKB.out; go_simp; (first | done | exact q | (simp [q]; done) | (simp at q; simp [q]; done)))) (h := ?_)
                 (try simp only [Act.put, sA, sB, sC])
                 refine tkQ 7 (.bool false) hHeld (h := ?_)
                 (try simp only [Act.put, sA, sB, sC])
                 refine tkU 8 hHeld (h := ?_)
                 (try simp only [Act.put, sA, sB, sC])
                 refine tkQ 9 (.bool false) hHeld (h := ?_)
                 (try simp only [Act.put, sA, sB, sC])
                 refine tkQ 10 (.bool false) hHeld (h := ?_)
                 (try simp only [Act.put, sA, sB, sC])
                 refine tkU 11 hHeld (h := ?_)
                 (try simp only [Act.put, sA, sB, sC])
                 refine tkU 12 hHeld (h := ?_)
                 (try simp only [Act.put, sA, sB, sC])
                 refine tkU 13 hHeld (h := ?_)
                 (try simp only [Act.put, sA, sB, sC])
                 refine tkU 14 hHeld (h := ?_)
                 (try simp only [Act.put, sA, sB, sC])
                 refine tkU 15 hHeld (h := ?_)
                 (try simp only [Act.put, sA, sB, sC])
                 refine tkU 16 hHeld (h := ?_)
                 (try simp only [Act.put, sA, sB, sC])
                 refine tkU 17 hHeld (h := ?_)
                 (try simp only [Act.put, sA, sB, sC])
                 refine tkU 18 hHeld (h := ?_)
                 (try simp only [Act.put, sA, sB, sC])
                 refine tkU 19 hHeld (h := ?_)
                 (try simp only [Act.put, sA, sB, sC])
                 refine tkU 20 hHeld (h := ?_)
                 (try simp only [Act.put, sA, sB, sC])
                 refine tkU 21 hHeld (h := ?_)
                 (try simp only [Act.put, sA, sB, sC])
                 refine tkU 22 hHeld (h := ?_)
                 (try simp only [Act.put, sA, sB, sC])
                 refine tkQ 23 (.bool false) hHeld (h := ?_)
                 (try simp only [Act.put, sA, sB, sC])
                 refine tkQ 24 (.bool false) hHeld (h := ?_)
                 (try simp only [Act.put, sA, sB, sC])
                 refine tkQ 25 (.bool false) hHeld (h := ?_)
                 (try simp only [Act.put, sA, sB, sC])
                 refine tkQ 26 (.bool true) hHeld (h := ?_)
                 (try simp only [Act.put, sA, sB, sC])
                 refine tkQ 27 (.bool false) hHeld (he := by intro w hSw; (go_simp; (try with_reducible rfl))) (h := ?_)
                 (try simp only [Act.put, sA, sB, sC])
                 refine tkQ 28 (.bool false) hHeld (h := ?_)
                 (try simp only [Act.put, sA, sB, sC])
                 refine tkU 29 hHeld (h := ?_)
                 (try simp only [Act.put, sA, sB, sC])
                 refine tkU 30 hHeld (h := ?_)
                 (try simp only [Act.put, sA, sB, sC])
                 refine tkU 31 hHeld (h := ?_)
                 (try simp only [Act.put, sA, sB, sC])
                 refine tkQ 32 (.bool false) hHeld (h := ?_)
                 (try simp only [Act.put, sA, sB, sC])
                 refine tkQ 33 (.bool false) hHeld (h := ?_)
                 (try simp only [Act.put, sA, sB, sC])
                 refine wpAnyH_done (by kernel_rfl) ?_ _
                 have HSd27 := Lib.hid hHeld.1
                 have HBn10d27 := Lib.hid (hHeld.2.1)
                 have HFqd27 := Lib.hid (hHeld.2.2.1)
                 have HFmod27 := Lib.hid (hHeld.2.2.2.1)
                 have HFud27 := Lib.hid (hHeld.2.2.2.2)
                 clear hHeld HRK HKS HS306 HBn10306 HFq306 HFmo306 HFu306
                 go_wp2_with fail
                 refine Met.intro ?_
                 exact hJ8 _ _ ⟨⟨rfl, rfl, rfl, rfl, rfl, rfl, rfl, rfl, rfl, rfl, rfl, rfl, rfl, rfl, rfl, rfl, trivial⟩, Lib.hid ⟨HSd27.out, HBn10d27.out, HFqd27.out, HFmod27.out⟩⟩
               intro fr wc hR
               clear HS306 HBn10306 HFq306 HFmo306 HFu306
               obtain ⟨hF, HO⟩ := hR
               obtain ⟨g0, g1, g2, g3⟩ := HO.out
               clear HO
               have HS356 := Lib.hid g0
               have HBn10356 := Lib.hid g1
               have HFq356 := Lib.hid g2
               have HFmo356 := Lib.hid g3
               clear g0 g1 g2 g3
               obtain ⟨u, hu⟩ := hF.open_
               have hu2 := hu.trans (show _ = #[.int .i64 ends, .int .i64 room, .slice (some ⟨go, oo, none⟩) on oc, u 3, u 4, u 5, .bool false, .pointer (some ⟨q1, 0, none⟩), .slice (some ⟨gm, 0, none⟩) m m, .int .i64 (i : Int), .pointer (some ⟨bn10, 0, none⟩), .bool (inB m (os i).tt), .bool true, .bool (okP c ends room (os i).tt), u 14, u 15, u 16, u 17, u 18, u 19, u 20, u 21, u 22, u 23, u 24, u 25, u 26, u 27, u 28, u 29, u 30, u 31, u 32, u 33, u 34, u 35, u 36, u 37, u 38, u 39, u 40, u 41, u 42, u 43, u 44, u 45, u 46, u 47, u 48, u 49, u 50, u 51, u 52, u 53, u 54, u 55, u 56, u 57, u 58, u 59, u 60, u 61, u 62, u 63, u 64, u 65, u 66, u 67, u 68, u 69, u 70, u 71, u 72, u 73, u 74, u 75, u 76, u 77, u 78, u 79, u 80, u 81, u 82, u 83, u 84, .int .i64 ((os i).k), .bool false, u 87, u 88, u 89, u 90, u 91, u 92, u 93, u 94, u 95, u 96, u 97, u 98, u 99, u 100, u 101, u 102, u 103, u 104, u 105, u 106, u 107, u 108, u 109, u 110, u 111, u 112, .bool true, u 114, u 115, u 116, u 117, u 118, u 119, u 120, u 121, u 122, u 123, u 124, u 125, u 126, u 127, u 128, u 129, u 130, u 131, u 132, u 133, u 134, u 135, u 136, u 137, u 138, u 139, u 140, u 141, u 142, u 143, u 144, u 145, u 146, u 147, u 148, u 149, u 150, u 151, u 152, u 153, u 154, u 155, u 156, u 157, u 158, u 159, u 160, u 161, u 162, u 163, u 164, u 165, u 166, .bool false, u 168, u 169, u 170, u 171, u 172, u 173, u 174, u 175, u 176, u 177, u 178, u 179, u 180, u 181, u 182, u 183, u 184, u 185, u 186, u 187, u 188, u 189, u 190, u 191, u 192, u 193, u 194, u 195, u 196, u 197, u 198, u 199, u 200, u 201, u 202, u 203, u 204, u 205, u 206, u 207, u 208, u 209, u 210, u 211, u 212, u 213, u 214, u 215, u 216, u 217, u 218, u 219, u 220, u 221, u 222, u 223, u 224, u 225, u 226, u 227, u 228, u 229, u 230, u 231, u 232, u 233, u 234, u 235, u 236, u 237, u 238, u 239, u 240, u 241, u 242, u 243] by kernel_rfl)
               clear hu hF
               subst hu2
               go_upto_region 29 with fail
               refine wp_region_lit ?_
               refine tkL (.bool true) (h := ?_)
               (try simp only [Act.put, sA, sB, sC])
               refine wpList_nil ?_
               obtain ⟨hE, hR, hX, hd1, hd2, hd3⟩ := MO.open_ HFmo356.out HRT.out
               have HE0 := Lib.hid hE; have HR0 := Lib.hid (show (wc).ownsRow w.heap.size 9 1 (.slice (some ⟨gr, 0, none⟩) rn rc) rn (rowsOf strC rz) from hR); have HX0 := Lib.hid hX; have HRX := Lib.hid (show ∀ x ∈ blkOf (some ⟨gr, 0, none⟩), x ∉ restB rs t from hd1); have HEX := Lib.hid hd2; have HER := Lib.hid (show gm ∉ blkOf (some ⟨gr, 0, none⟩) from hd3); clear hE hR hX hd1 hd2 hd3
               have HND := Lib.hid HFmo356.out.2.2.2.2; have HTL := Lib.hid (take_len HRT.out); have HZL := Lib.hid (show rz.length = rn from own_n strC_len (by decide) HR0.out); have HTLT := Lib.hid (List.getElem?_eq_some_iff.1 HRT.out).1
               have HSE := Lib.hid HFmo356.out.2.1
               have HEQ_ := Lib.hid (show gm ∉ S3 from HDM3.out gm (by rw [HSE.out]; exact List.mem_cons_self)); have HRQ := Lib.hid (show ∀ x ∈ blkOf (some ⟨gr, 0, none⟩), x ∉ S3 from fun x hx => HDM3.out x (by rw [HSE.out]; exact List.mem_cons_of_mem _ (List.mem_flatMap.2 ⟨_, List.mem_of_getElem? HRT.out, hx⟩))); have HXQ := Lib.hid (show ∀ x ∈ restB rs t, x ∉ S3 from fun x hx => HDM3.out x (by rw [HSE.out]; obtain ⟨a, b, _, hab, hxb⟩ := of_rest hx; exact List.mem_cons_of_mem _ (List.mem_flatMap.2 ⟨_, List.mem_of_getElem? hab, hxb⟩)))
               have HGE := Lib.hid HGM.out
               have HNEO := Lib.hid (Blk.ne_ HE0.out HBn10356.out (by decide)); clear HFmo356
               have HCP := Lib.hid (own_cap2 HR0.out)
               go_upto_region 30 with fail
               have HKS : Hid (KeepS (fun W : World => Since w W ∧ Blk W bn10 57 #[.int .i64 ((os i).k), .int .i64 ((os i).tt), .int .i64 ((os i).ix), .slice (os i).A (os i).n (os i).c] ∧ HasRow W gm 58 ((rowsOf rowC (rs.take t)).length + 1 + (rowsOf rowC (rs.drop (t + 1))).length) ∧ NC w.heap.size q1 ends room (i + 1) (delC c (os i).tt j) S3 W ∧ (W).ownsRow w.heap.size 9 1 (.slice (some ⟨gr, 0, none⟩) rn rc) rn (rowsOf strC rz) ∧ Rest w.heap.size rs t W) wc) := Lib.hid ⟨fun W W' k ⟨h, h0, h1, h2, h3, h4⟩ => ⟨h.trans k, keep_blk k h0, HasRow.keep k h1, NC.keep k h2, keep_own k h3, Rest.keep k h4⟩, ⟨HS356.out, HBn10356.out, HasRow.of HE0.out el_size, HFq356.out, HR0.out, HX0.out⟩⟩
               have HRK := Lib.hid HKS.out.1
               have HPE := Lib.hid (show Blk (World.drew wc) gm 58 (el (rowsOf rowC (rs.take t)) #[.slice (some ⟨gr, 0, none⟩) rn rc] (rowsOf rowC (rs.drop (t + 1)))) from HE0.out)
               refine wp_held HKS.out (by kernel_rfl) (fun hHeld => ?_)
               refine tkQ 0 (.slice (some ⟨gm, 0, none⟩) m m) hHeld (h := ?_)
               (try simp only [Act.put, sA, sB, sC])
               refine tkQ 1 (.pointer (some ⟨bn10, 1, none⟩)) hHeld (h := ?_)
               (try simp only [Act.put, sA, sB, sC])
               refine tkQ 2 (.int .i64 ((os i).tt)) hHeld (he := by intro w hSw; exact exec_cell 3 _ _ hSw.2.1 rfl rfl rfl Try.underlying3 rfl) (h := ?_)
               (try simp only [Act.put, sA, sB, sC])
               refine tkQ 4 (.slice (some ⟨gm, 0, none⟩) m m) hHeld (h := ?_)
               (try simp only [Act.put, sA, sB, sC])
               refine tkQ 5 (.pointer (some ⟨bn10, 1, none⟩)) hHeld (h := ?_)
               (try simp only [Act.put, sA, sB, sC])
               refine tkQ 6 (.int .i64 ((os i).tt)) hHeld (he := by intro w hSw; exact exec_cell 3 _ _ hSw.2.1 rfl rfl rfl Try.underlying3 rfl) (h := ?_)
               (try simp only [Act.put, sA, sB, sC])
               refine tkQ 7 (.pointer (some ⟨gm, 0 + t * 1, none⟩)) hHeld (he := by intro w hSw; exact exec_index (i := t) (s := 1) 54 58 _ _ rfl rfl rfl HTT.out HTM.out Try.underlying54 (by kernel_rfl)) (h := ?_)
               (try simp only [Act.put, sA, sB, sC])
               refine tkQ 9 (.pointer (some ⟨bn10, 2, none⟩)) hHeld (h := ?_)
               (try simp only [Act.put, sA, sB, sC])
               refine tkQ 10 (.int .i64 ((os i).ix)) hHeld (he := by intro w hSw; exact exec_cell 3 _ _ hSw.2.1 rfl rfl rfl Try.underlying3 rfl) (h := ?_)
               (try simp only [Act.put, sA, sB, sC])
               refine tkQ 13 (.slice (some ⟨gm, 0, none⟩) m m) hHeld (h := ?_)
               (try simp only [Act.put, sA, sB, sC])
               refine tkQ 14 (.pointer (some ⟨bn10, 1, none⟩)) hHeld (h := ?_)
               (try simp only [Act.put, sA, sB, sC])
               refine tkQ 15 (.int .i64 ((os i).tt)) hHeld (he := by intro w hSw; exact exec_cell 3 _ _ hSw.2.1 rfl rfl rfl Try.underlying3 rfl) (h := ?_)
               (try simp only [Act.put, sA, sB, sC])
               refine tkQ 16 (.pointer (some ⟨gm, 0 + t * 1, none⟩)) hHeld (he := by intro w hSw; exact exec_index (i := t) (s := 1) 54 58 _ _ rfl rfl rfl HTT.out HTM.out Try.underlying54 (by kernel_rfl)) (h := ?_)
               (try simp only [Act.put, sA, sB, sC])
               refine tkQ 18 (.pointer (some ⟨bn10, 2, none⟩)) hHeld (h := ?_)
               (try simp only [Act.put, sA, sB, sC])
               refine tkQ 19 (.int .i64 ((os i).ix)) hHeld (he := by intro w hSw; exact exec_cell 3 _ _ hSw.2.1 rfl rfl rfl Try.underlying3 rfl) (h := ?_)
               (try simp only [Act.put, sA, sB, sC])
               refine tkQ 20 (.int .i64 ((j : Int) + 1)) hHeld (he := by intro w hSw; (have q0 := HJ.out; have q1 := HJN.out; have q2 := HRN.out; have q3 := HCL.out (os i).tt; have q4 := HI200.out; rw [q0]; go_simp; (first | done | (refine wr64 _ ?_ ?_ <;> omega) | omega | (split <;> omega)))) (h := ?_)
               (try simp only [Act.put, sA, sB, sC])
               refine wpAnyH_ready (rs := [3, 8, 17]) (by kernel_rfl) (by simp) ?_
               refine AllReadyH.cons (o := ?o30__3b) ?h30__3b (fun K hK => ?g30__3b) (AllReadyH.cons (o := ?o30__8b) ?h30__8b (fun K hK => ?g30__8b) (AllReadyH.cons (o := ?o30__17b) ?h30__17b (fun K hK => ?g30__17b) AllReadyH.nil))
               case h30__3b => (first | (simp only [gA, gB, gC]; done) | (simp only [gA, gB, gC]; exact rfl))
               case h30__8b => (first | (simp only [gA, gB, gC]; done) | (simp only [gA, gB, gC]; exact rfl))
               case h30__17b => (first | (simp only [gA, gB, gC]; done) | (simp only [gA, gB, gC]; exact rfl))
               case g30__3b =>
                rw [if_pos (by rfl)]
                refine wp_new (fun b => .slice (some ⟨b, 0, none⟩) 0 0) 9 #[] (by rintro b rfl; first | rfl | kernel_rfl) ?_
                intro bn172 w357 hge hB hb
                refine hK.out _ _ (by (apply HRK.out; exact hb; exact hHeld)) (fun hHeld2 => ?_)
                have HIn172_q := Lib.hid (NC.far (hHeld.2.2.2.1) hge)
                have HIn172_r := Lib.hid (own_far (hHeld.2.2.2.2.1) hge)
                have HIn172_x := Lib.hid (Rest.far (hHeld.2.2.2.2.2) hge)
                have HPEk := Lib.hid (keep_blk hb HPE.out)
                clear HPE
                have HNn172E := Lib.hid (show bn172 ≠ gm by obtain ⟨old, Bo, _⟩ := hHeld.2.2.1; have := Blk.lt Bo; omega)
                have HGn172 := Lib.hid (show w.heap.size ≤ bn172 by have := Since.size hHeld.1; (try simp at this); (try simp at hge); omega)
                have HXn172 := Lib.hid hB
                clear hB
                clear hge
                clear hK K hHeld hb
                have hHeld := hHeld2
                clear hHeld2
                (try simp only [Act.put, sA, sB, sC])
                have HOE2 := Lib.hid (own_empty (e := 9) (size := 1) HXn172.out HGn172.out)
                clear HXn172
                refine wpAnyH_ready (rs := [8, 17]) (by kernel_rfl) (by simp) ?_
                refine AllReadyH.cons (o := ?o30_b3_8b) ?h30_b3_8b (fun K hK => ?g30_b3_8b) (AllReadyH.cons (o := ?o30_b3_17b) ?h30_b3_17b (fun K hK => ?g30_b3_17b) AllReadyH.nil)
                case h30_b3_8b => (first | (simp only [gA, gB, gC]; done) | (simp only [gA, gB, gC]; exact rfl))
                case h30_b3_17b => (first | (simp only [gA, gB, gC]; done) | (simp only [gA, gB, gC]; exact rfl))
                case g30_b3_8b =>
                 rw [if_pos (by rfl)]
                 refine wp_q (.slice (some ⟨gr, 0, none⟩) rn rc) ?e30_b3b8_8 ?_
                 case e30_b3b8_8 => exact exec_cell 58 _ _ HPEk.out (el_at (j := 0) HTL.out rfl) rfl rfl Try.underlying58 rfl
                 refine hK.out _ _ hHeld (fun hHeld2 => ?_)
                 clear hK K hHeld2
                 (try simp only [Act.put, sA, sB, sC])
                 refine tkQ 11 (.slice (some ⟨gr, 0, none⟩) j rc) hHeld (he := by intro w hSw; exact exec_slice (s := 1) 58 9 _ _ _ _ rfl rfl Try.underlying58 (by kernel_rfl) (sb_h _ _ (h := j) HJ.out (by have := HJN.out; have := HCP.out; omega)) (by split <;> simp [Addr.add]) rfl rfl) (h := ?_)
                 (try simp only [Act.put, sA, sB, sC])
                 refine wpAnyH_ready (rs := [12, 17]) (by kernel_rfl) (by simp) ?_
                 refine AllReadyH.cons (o := ?o30_b3b8_12b) ?h30_b3b8_12b (fun K hK => ?g30_b3b8_12b) (AllReadyH.cons (o := ?o30_b3b8_17b) ?h30_b3b8_17b (fun K hK => ?g30_b3b8_17b) AllReadyH.nil)
                 case h30_b3b8_12b => (first | (simp only [gA, gB, gC]; done) | (simp only [gA, gB, gC]; exact rfl))
                 case h30_b3b8_17b => (first | (simp only [gA, gB, gC]; done) | (simp only [gA, gB, gC]; exact rfl))
                 case g30_b3b8_12b =>
                  rw [if_pos (by rfl)]
                  refine wp_append_row (.tmp 172) (.tmp 180) 58 rfl w.heap.size 9 (.string ByteArray.empty) 1 16 Try.underlying58 (by kernel_rfl) rfl (by decide) (by decide) (some ⟨bn172, 0, none⟩) 0 0 ([]) rfl HOE2.out _ (some ⟨gr, 0, none⟩) j rc ((rowsOf strC rz).take (j * 1)) rfl (own_reads (own_prefix (hHeld.2.2.2.2.1) (by have := HJN.out; omega))) (fun u hu => strs_one rz u (List.mem_of_mem_take hu)) (by have q1 := HRN.out; have q2 := HCL.out (os i).tt; have q3 := HI200.out; have q4 := HJN.out; omega) (Since.size hHeld.1) j ((rowsOf strC rz).take (j * 1)) (Nat.zero_add _) rfl ?_
                  intro A_2 c_2 w358 hown hupd hfar
                  have hHeld3 := HKS.out.at_ w358 ⟨Since.upd hHeld.1 hupd (own_low HOE2.out), Upd.blk hupd (hHeld.2.1) (own_ne_ty HOE2.out (hHeld.2.1) (by decide)), HasRow.upd hupd (hHeld.2.2.1) (own_ne_ty HOE2.out HPEk.out (by decide)), NC.upd hupd (hHeld.2.2.2.1) (fun g hg h => HIn172_q.out (by simp [blkOf] at h; rw [← h]; exact hg)), Upd.own hupd (hHeld.2.2.2.2.1) (fun g hg h => HIn172_r.out (by simp [blkOf] at h; rw [← h]; exact hg)), Rest.upd hupd (hHeld.2.2.2.2.2) (fun g hg h => HIn172_x.out (by simp [blkOf] at h; rw [← h]; exact hg))⟩
                  have HDEq_2 := Lib.hid (dis_next hfar (fun g hg h => HIn172_q.out (by simp [blkOf] at h; rw [← h]; exact hg)) (NC.lt (hHeld.2.2.2.1)))
                  have HDEr_2 := Lib.hid (dis_next hfar (fun g hg h => HIn172_r.out (by simp [blkOf] at h; rw [← h]; exact hg)) (own_lt (hHeld.2.2.2.2.1)))
                  have HDEx_2 := Lib.hid (dis_next hfar (fun g hg h => HIn172_x.out (by simp [blkOf] at h; rw [← h]; exact hg)) (Rest.lt (hHeld.2.2.2.2.2)))
                  have HPEku := Lib.hid (Upd.blk hupd HPEk.out (own_ne_ty HOE2.out HPEk.out (by decide)))
                  have HIE_e_2 := Lib.hid (nin_next hfar (own_ne_ty HOE2.out HPEk.out (by decide)) (Blk.lt HPEk.out))
                  clear HPEk
                  have HOW_w358 := Lib.hid hown
                  refine hK.out _ _ hHeld3 (fun hHeld2 => ?_)
                  clear hK K hHeld hHeld3 hupd hown hfar HOE2 
                  have hHeld := hHeld2
                  clear hHeld2
                  (try simp only [Act.put, sA, sB, sC])
                  refine wpAnyH_ready (rs := [17]) (by kernel_rfl) (by simp) ?_
                  refine AllReadyH.cons (o := ?o30_b3b8b12_17) ?h30_b3b8b12_17 (fun K hK => ?_) AllReadyH.nil
                  case h30_b3b8b12_17 => (first | (simp only [gA, gB, gC]; done) | (simp only [gA, gB, gC]; exact rfl))
                  rw [if_pos (by rfl)]
                  refine wp_q (.slice (some ⟨gr, 0, none⟩) rn rc) ?e30_b3b8b12_17 ?_
                  case e30_b3b8b12_17 => exact exec_cell 58 _ _ HPEku.out (el_at (j := 0) HTL.out rfl) rfl rfl Try.underlying58 rfl
                  refine hK.out _ _ hHeld (fun hHeld2 => ?_)
                  clear hK K hHeld2
                  (try simp only [Act.put, sA, sB, sC])
                  refine tkQ 21 (.slice (cutA rc (j + 1) (some ⟨gr, 0, none⟩) 1) (rn - (j + 1)) (rc - (j + 1))) hHeld (he := by intro w hSw; exact exec_slice (s := 1) 58 9 _ _ _ _ rfl rfl Try.underlying58 (by kernel_rfl) (sb_l _ _ (l := j + 1) (by push_cast; rfl) (by have := HJN.out; omega)) (by rfl) rfl rfl) (h := ?_)
                  (try simp only [Act.put, sA, sB, sC])
                  refine wpAnyH_ready (rs := [22]) (by kernel_rfl) (by simp) ?_
                  refine AllReadyH.cons (o := ?o30_b3b8b12_22) ?h30_b3b8b12_22 (fun K hK => ?_) AllReadyH.nil
                  case h30_b3b8b12_22 => (first | (simp only [gA, gB, gC]; done) | (simp only [gA, gB, gC]; exact rfl))
                  rw [if_pos (by rfl)]
                  refine wp_append_row (.tmp 181) (.tmp 190) 58 rfl w.heap.size 9 (.string ByteArray.empty) 1 16 Try.underlying58 (by kernel_rfl) rfl (by decide) (by decide) A_2 j c_2 ((rowsOf strC rz).take (j * 1)) rfl HOW_w358.out _ (cutA rc (j + 1) (some ⟨gr, 0, none⟩) 1) (rn - (j + 1)) (rc - (j + 1)) ((rowsOf strC rz).drop ((j + 1) * 1)) rfl (reads_cut (own_reads (hHeld.2.2.2.2.1)) (by have := HJN.out; omega) HCP.out) (fun u hu => strs_one rz u (List.mem_of_mem_drop hu)) (by have q1 := HRN.out; have q2 := HCL.out (os i).tt; have q3 := HI200.out; have q4 := HJN.out; omega) (Since.size hHeld.1) ((rz.eraseIdx j).length) (rowsOf strC (rz.eraseIdx j)) (by have q1 := HJN.out; have q2 := HZL.out; rw [List.length_eraseIdx]; split <;> omega) (erase_rows strC_len (by have q1 := HJN.out; have q2 := HZL.out; omega)) ?_
                  intro A_3 c_3 w359 hown hupd hfar
                  have hHeld3 := HKS.out.at_ w359 ⟨Since.upd hHeld.1 hupd (own_low HOW_w358.out), Upd.blk hupd (hHeld.2.1) (own_ne_ty HOW_w358.out (hHeld.2.1) (by decide)), HasRow.upd hupd (hHeld.2.2.1) (own_ne_ty HOW_w358.out HPEku.out (by decide)), NC.upd hupd (hHeld.2.2.2.1) HDEq_2.out, Upd.own hupd (hHeld.2.2.2.2.1) HDEr_2.out, Rest.upd hupd (hHeld.2.2.2.2.2) HDEx_2.out⟩
                  have HDEq_3 := Lib.hid (dis_next hfar HDEq_2.out (NC.lt (hHeld.2.2.2.1)))
                  have HDEr_3 := Lib.hid (dis_next hfar HDEr_2.out (own_lt (hHeld.2.2.2.2.1)))
                  have HDEx_3 := Lib.hid (dis_next hfar HDEx_2.out (Rest.lt (hHeld.2.2.2.2.2)))
                  have HPEkuu := Lib.hid (Upd.blk hupd HPEku.out (own_ne_ty HOW_w358.out HPEku.out (by decide)))
                  have HIE_e_3 := Lib.hid (nin_next hfar (own_ne_ty HOW_w358.out HPEku.out (by decide)) (Blk.lt HPEku.out))
                  clear HPEku
                  have HOW_w359 := Lib.hid hown
                  refine hK.out _ _ hHeld3 (fun hHeld2 => ?_)
                  clear hK K hHeld hHeld3 hupd hown hfar HOW_w358 
                  have hHeld := hHeld2
                  clear hHeld2
                  (try simp only [Act.put, sA, sB, sC])
                  refine tkQ 23 (.pointer (some ⟨gm, 0 + t * 1, none⟩)) hHeld (he := by intro w hSw; exact exec_index (i := t) (s := 1) 54 58 _ _ rfl rfl rfl HTT.out HTM.out Try.underlying54 (by kernel_rfl)) (h := ?_)
                  (try simp only [Act.put, sA, sB, sC])
                  refine wpAnyH_ready (rs := [24]) (by kernel_rfl) (by simp) ?_
                  refine AllReadyH.cons (o := ?o30_b3b8b12_24) ?h30_b3b8b12_24 (fun K hK => ?_) AllReadyH.nil
                  case h30_b3b8b12_24 => (first | (simp only [gA, gB, gC]; done) | (simp only [gA, gB, gC]; exact rfl))
                  rw [if_pos (by rfl)]
                  refine wp_st_cell 58 _ _ rfl (el (rowsOf rowC (rs.take t)) #[.slice A_3 ((rz.eraseIdx j).length) c_3] (rowsOf rowC (rs.drop (t + 1)))) (.slice A_3 ((rz.eraseIdx j).length) c_3) rfl rfl HPEkuu.out (el_lt (j := 0) HTL.out (by show 0 < 1; decide)) (el_set (j := 0) HTL.out (by show 0 < 1; decide) rfl) (by first | rfl | simp [Value.oneCell']) (by kernel_rfl) ?_
                  clear HPEkuu
                  intro w360 hw
                  have HOW_w359r := Lib.hid (show (w360).ownsRow w.heap.size 9 1 (.slice A_3 ((rz.eraseIdx j).length) c_3) ((rz.eraseIdx j).length) (rowsOf strC (rz.eraseIdx j)) by rw [hw]; exact own_row_far HOW_w359.out HIE_e_3.out _)
                  clear HOW_w359
                  have HRE := Lib.hid (show Blk w360 gm 58 (el (rowsOf rowC (rs.take t)) #[.slice A_3 ((rz.eraseIdx j).length) c_3] (rowsOf rowC (rs.drop (t + 1)))) by obtain ⟨old, Bo, _⟩ := hHeld.2.2.1; rw [hw]; exact Blk.row Bo _)
                  have hHeld3 := HKS.out.at_ w360 ⟨by rw [hw]; exact Since.setRow hHeld.1 HGE.out _, by rw [hw]; exact Blk.row_far (hHeld.2.1) (Ne.symm HNEO.out) _, HasRow.of HRE.out el_size, by rw [hw]; exact NC.row_far (hHeld.2.2.2.1) HEQ_.out _, by rw [hw]; exact own_row_far (hHeld.2.2.2.2.1) HER.out _, by rw [hw]; exact Rest.row_far (hHeld.2.2.2.2.2) HEX.out _⟩
                  refine hK.out _ _ hHeld3 (fun hHeld2 => ?_)
                  clear hK K hHeld hHeld3 hw
                  have hHeld := hHeld2
                  clear hHeld2
                  (try simp only [Act.put, sA, sB, sC])
                  refine wpAnyH_done (by kernel_rfl) ?_ _
                  have HSd30 := Lib.hid hHeld.1
                  have HBn10d30 := Lib.hid (hHeld.2.1)
                  have HBEd30 := Lib.hid HRE.out
                  clear HRE
                  have HFqd30 := Lib.hid (hHeld.2.2.2.1)
                  have HFrd30 := Lib.hid (hHeld.2.2.2.2.1)
                  have HFxd30 := Lib.hid (hHeld.2.2.2.2.2)
                  clear hHeld HRK HKS HS356 HBn10356 HE0 HFq356 HR0 HX0
                  have HFed30 := Lib.hid HOW_w359r.out
                  clear HOW_w359r
                  have HMO2 := Lib.hid (MO.close (r' := ⟨A_3, (rz.eraseIdx j).length, c_3, (rz.eraseIdx j)⟩) HGM.out HRT.out HND.out HBEd30.out HFed30.out HFxd30.out (fun g hg h => HDEx_3.out g h hg))
                  have HDM9 := Lib.hid (set_dis (r' := ⟨A_3, (rz.eraseIdx j).length, c_3, (rz.eraseIdx j)⟩) HTLT.out HEQ_.out (fun g hg h => HDEq_3.out g h hg) HXQ.out)
                  go_wp2_with fail
                  refine Met.intro ?_
                  exact hJ5 _ _ ⟨(delC c (os i).tt j), S3, (rs.set t ⟨A_3, (rz.eraseIdx j).length, c_3, (rz.eraseIdx j)⟩), (gm :: (rs.set t ⟨A_3, (rz.eraseIdx j).length, c_3, (rz.eraseIdx j)⟩).flatMap blkR), ⟨rfl, rfl, rfl, rfl, rfl, rfl, rfl, rfl, rfl, rfl, rfl, trivial⟩, Lib.hid ⟨(del_len HCL.out), (by rw [List.length_set]; exact HRL.out), (same_del HSM.out HRT.out HTT.out), HDM9.out, HSd30.out, HBn10d30.out, HFqd30.out, HMO2.out⟩⟩
                 case g30_b3b8_17b =>
                  rw [if_pos (by rfl)]
                  refine wp_q (.slice (some ⟨gr, 0, none⟩) rn rc) ?e30_b3b8b17_17 ?_
                  case e30_b3b8b17_17 => exact exec_cell 58 _ _ HPEk.out (el_at (j := 0) HTL.out rfl) rfl rfl Try.underlying58 rfl
                  refine hK.out _ _ hHeld (fun hHeld2 => ?_)
                  clear hK K hHeld2
                  (try simp only [Act.put, sA, sB, sC])
                  refine tkQ 21 (.slice (cutA rc (j + 1) (some ⟨gr, 0, none⟩) 1) (rn - (j + 1)) (rc - (j + 1))) hHeld (he := by intro w hSw; exact exec_slice (s := 1) 58 9 _ _ _ _ rfl rfl Try.underlying58 (by kernel_rfl) (sb_l _ _ (l := j + 1) (by push_cast; rfl) (by have := HJN.out; omega)) (by rfl) rfl rfl) (h := ?_)
                  (try simp only [Act.put, sA, sB, sC])
                  refine wpAnyH_ready (rs := [12]) (by kernel_rfl) (by simp) ?_
                  refine AllReadyH.cons (o := ?o30_b3b8b17_12) ?h30_b3b8b17_12 (fun K hK => ?_) AllReadyH.nil
                  case h30_b3b8b17_12 => (first | (simp only [gA, gB, gC]; done) | (simp only [gA, gB, gC]; exact rfl))
                  rw [if_pos (by rfl)]
                  refine wp_append_row (.tmp 172) (.tmp 180) 58 rfl w.heap.size 9 (.string ByteArray.empty) 1 16 Try.underlying58 (by kernel_rfl) rfl (by decide) (by decide) (some ⟨bn172, 0, none⟩) 0 0 ([]) rfl HOE2.out _ (some ⟨gr, 0, none⟩) j rc ((rowsOf strC rz).take (j * 1)) rfl (own_reads (own_prefix (hHeld.2.2.2.2.1) (by have := HJN.out; omega))) (fun u hu => strs_one rz u (List.mem_of_mem_take hu)) (by have q1 := HRN.out; have q2 := HCL.out (os i).tt; have q3 := HI200.out; have q4 := HJN.out; omega) (Since.size hHeld.1) j ((rowsOf strC rz).take (j * 1)) (Nat.zero_add _) rfl ?_
                  intro A_4 c_4 w358 hown hupd hfar
                  have hHeld3 := HKS.out.at_ w358 ⟨Since.upd hHeld.1 hupd (own_low HOE2.out), Upd.blk hupd (hHeld.2.1) (own_ne_ty HOE2.out (hHeld.2.1) (by decide)), HasRow.upd hupd (hHeld.2.2.1) (own_ne_ty HOE2.out HPEk.out (by decide)), NC.upd hupd (hHeld.2.2.2.1) (fun g hg h => HIn172_q.out (by simp [blkOf] at h; rw [← h]; exact hg)), Upd.own hupd (hHeld.2.2.2.2.1) (fun g hg h => HIn172_r.out (by simp [blkOf] at h; rw [← h]; exact hg)), Rest.upd hupd (hHeld.2.2.2.2.2) (fun g hg h => HIn172_x.out (by simp [blkOf] at h; rw [← h]; exact hg))⟩
                  have HDEq_4 := Lib.hid (dis_next hfar (fun g hg h => HIn172_q.out (by simp [blkOf] at h; rw [← h]; exact hg)) (NC.lt (hHeld.2.2.2.1)))
                  have HDEr_4 := Lib.hid (dis_next hfar (fun g hg h => HIn172_r.out (by simp [blkOf] at h; rw [← h]; exact hg)) (own_lt (hHeld.2.2.2.2.1)))
                  have HDEx_4 := Lib.hid (dis_next hfar (fun g hg h => HIn172_x.out (by simp [blkOf] at h; rw [← h]; exact hg)) (Rest.lt (hHeld.2.2.2.2.2)))
                  have HPEku := Lib.hid (Upd.blk hupd HPEk.out (own_ne_ty HOE2.out HPEk.out (by decide)))
                  have HIE_e_4 := Lib.hid (nin_next hfar (own_ne_ty HOE2.out HPEk.out (by decide)) (Blk.lt HPEk.out))
                  clear HPEk
                  have HOW_w358 := Lib.hid hown
                  refine hK.out _ _ hHeld3 (fun hHeld2 => ?_)
                  clear hK K hHeld hHeld3 hupd hown hfar HOE2 
                  have hHeld := hHeld2
                  clear hHeld2
                  (try simp only [Act.put, sA, sB, sC])
                  refine wpAnyH_ready (rs := [22]) (by kernel_rfl) (by simp) ?_
                  refine AllReadyH.cons (o := ?o30_b3b8b17_22) ?h30_b3b8b17_22 (fun K hK => ?_) AllReadyH.nil
                  case h30_b3b8b17_22 => (first | (simp only [gA, gB, gC]; done) | (simp only [gA, gB, gC]; exact rfl))
                  rw [if_pos (by rfl)]
                  refine wp_append_row (.tmp 181) (.tmp 190) 58 rfl w.heap.size 9 (.string ByteArray.empty) 1 16 Try.underlying58 (by kernel_rfl) rfl (by decide) (by decide) A_4 j c_4 ((rowsOf strC rz).take (j * 1)) rfl HOW_w358.out _ (cutA rc (j + 1) (some ⟨gr, 0, none⟩) 1) (rn - (j + 1)) (rc - (j + 1)) ((rowsOf strC rz).drop ((j + 1) * 1)) rfl (reads_cut (own_reads (hHeld.2.2.2.2.1)) (by have := HJN.out; omega) HCP.out) (fun u hu => strs_one rz u (List.mem_of_mem_drop hu)) (by have q1 := HRN.out; have q2 := HCL.out (os i).tt; have q3 := HI200.out; have q4 := HJN.out; omega) (Since.size hHeld.1) ((rz.eraseIdx j).length) (rowsOf strC (rz.eraseIdx j)) (by have q1 := HJN.out; have q2 := HZL.out; rw [List.length_eraseIdx]; split <;> omega) (erase_rows strC_len (by have q1 := HJN.out; have q2 := HZL.out; omega)) ?_
                  intro A_5 c_5 w359 hown hupd hfar
                  have hHeld3 := HKS.out.at_ w359 ⟨Since.upd hHeld.1 hupd (own_low HOW_w358.out), Upd.blk hupd (hHeld.2.1) (own_ne_ty HOW_w358.out (hHeld.2.1) (by decide)), HasRow.upd hupd (hHeld.2.2.1) (own_ne_ty HOW_w358.out HPEku.out (by decide)), NC.upd hupd (hHeld.2.2.2.1) HDEq_4.out, Upd.own hupd (hHeld.2.2.2.2.1) HDEr_4.out, Rest.upd hupd (hHeld.2.2.2.2.2) HDEx_4.out⟩
                  have HDEq_5 := Lib.hid (dis_next hfar HDEq_4.out (NC.lt (hHeld.2.2.2.1)))
                  have HDEr_5 := Lib.hid (dis_next hfar HDEr_4.out (own_lt (hHeld.2.2.2.2.1)))
                  have HDEx_5 := Lib.hid (dis_next hfar HDEx_4.out (Rest.lt (hHeld.2.2.2.2.2)))
                  have HPEkuu := Lib.hid (Upd.blk hupd HPEku.out (own_ne_ty HOW_w358.out HPEku.out (by decide)))
                  have HIE_e_5 := Lib.hid (nin_next hfar (own_ne_ty HOW_w358.out HPEku.out (by decide)) (Blk.lt HPEku.out))
                  clear HPEku
                  have HOW_w359 := Lib.hid hown
                  refine hK.out _ _ hHeld3 (fun hHeld2 => ?_)
                  clear hK K hHeld hHeld3 hupd hown hfar HOW_w358 
                  have hHeld := hHeld2
                  clear hHeld2
                  (try simp only [Act.put, sA, sB, sC])
                  refine tkQ 23 (.pointer (some ⟨gm, 0 + t * 1, none⟩)) hHeld (he := by intro w hSw; exact exec_index (i := t) (s := 1) 54 58 _ _ rfl rfl rfl HTT.out HTM.out Try.underlying54 (by kernel_rfl)) (h := ?_)
                  (try simp only [Act.put, sA, sB, sC])
                  refine wpAnyH_ready (rs := [24]) (by kernel_rfl) (by simp) ?_
                  refine AllReadyH.cons (o := ?o30_b3b8b17_24) ?h30_b3b8b17_24 (fun K hK => ?_) AllReadyH.nil
                  case h30_b3b8b17_24 => (first | (simp only [gA, gB, gC]; done) | (simp only [gA, gB, gC]; exact rfl))
                  rw [if_pos (by rfl)]
                  refine wp_st_cell 58 _ _ rfl (el (rowsOf rowC (rs.take t)) #[.slice A_5 ((rz.eraseIdx j).length) c_5] (rowsOf rowC (rs.drop (t + 1)))) (.slice A_5 ((rz.eraseIdx j).length) c_5) rfl rfl HPEkuu.out (el_lt (j := 0) HTL.out (by show 0 < 1; decide)) (el_set (j := 0) HTL.out (by show 0 < 1; decide) rfl) (by first | rfl | simp [Value.oneCell']) (by kernel_rfl) ?_
                  clear HPEkuu
                  intro w360 hw
                  have HOW_w359r := Lib.hid (show (w360).ownsRow w.heap.size 9 1 (.slice A_5 ((rz.eraseIdx j).length) c_5) ((rz.eraseIdx j).length) (rowsOf strC (rz.eraseIdx j)) by rw [hw]; exact own_row_far HOW_w359.out HIE_e_5.out _)
                  clear HOW_w359
                  have HRE := Lib.hid (show Blk w360 gm 58 (el (rowsOf rowC (rs.take t)) #[.slice A_5 ((rz.eraseIdx j).length) c_5] (rowsOf rowC (rs.drop (t + 1)))) by obtain ⟨old, Bo, _⟩ := hHeld.2.2.1; rw [hw]; exact Blk.row Bo _)
                  have hHeld3 := HKS.out.at_ w360 ⟨by rw [hw]; exact Since.setRow hHeld.1 HGE.out _, by rw [hw]; exact Blk.row_far (hHeld.2.1) (Ne.symm HNEO.out) _, HasRow.of HRE.out el_size, by rw [hw]; exact NC.row_far (hHeld.2.2.2.1) HEQ_.out _, by rw [hw]; exact own_row_far (hHeld.2.2.2.2.1) HER.out _, by rw [hw]; exact Rest.row_far (hHeld.2.2.2.2.2) HEX.out _⟩
                  refine hK.out _ _ hHeld3 (fun hHeld2 => ?_)
                  clear hK K hHeld hHeld3 hw
                  have hHeld := hHeld2
                  clear hHeld2
                  (try simp only [Act.put, sA, sB, sC])
                  refine wpAnyH_done (by kernel_rfl) ?_ _
                  have HSd30v2 := Lib.hid hHeld.1
                  have HBn10d30v2 := Lib.hid (hHeld.2.1)
                  have HBEd30v2 := Lib.hid HRE.out
                  clear HRE
                  have HFqd30v2 := Lib.hid (hHeld.2.2.2.1)
                  have HFrd30v2 := Lib.hid (hHeld.2.2.2.2.1)
                  have HFxd30v2 := Lib.hid (hHeld.2.2.2.2.2)
                  clear hHeld HRK HKS HS356 HBn10356 HE0 HFq356 HR0 HX0
                  have HFed30v2 := Lib.hid HOW_w359r.out
                  clear HOW_w359r
                  have HMO2 := Lib.hid (MO.close (r' := ⟨A_5, (rz.eraseIdx j).length, c_5, (rz.eraseIdx j)⟩) HGM.out HRT.out HND.out HBEd30v2.out HFed30v2.out HFxd30v2.out (fun g hg h => HDEx_5.out g h hg))
                  have HDM9 := Lib.hid (set_dis (r' := ⟨A_5, (rz.eraseIdx j).length, c_5, (rz.eraseIdx j)⟩) HTLT.out HEQ_.out (fun g hg h => HDEq_5.out g h hg) HXQ.out)
                  go_wp2_with fail
                  refine Met.intro ?_
                  exact hJ5 _ _ ⟨(delC c (os i).tt j), S3, (rs.set t ⟨A_5, (rz.eraseIdx j).length, c_5, (rz.eraseIdx j)⟩), (gm :: (rs.set t ⟨A_5, (rz.eraseIdx j).length, c_5, (rz.eraseIdx j)⟩).flatMap blkR), ⟨rfl, rfl, rfl, rfl, rfl, rfl, rfl, rfl, rfl, rfl, rfl, trivial⟩, Lib.hid ⟨(del_len HCL.out), (by rw [List.length_set]; exact HRL.out), (same_del HSM.out HRT.out HTT.out), HDM9.out, HSd30v2.out, HBn10d30v2.out, HFqd30v2.out, HMO2.out⟩⟩
                case g30_b3_17b =>
                 rw [if_pos (by rfl)]
                 refine wp_q (.slice (some ⟨gr, 0, none⟩) rn rc) ?e30_b3b17_17 ?_
                 case e30_b3b17_17 => exact exec_cell 58 _ _ HPEk.out (el_at (j := 0) HTL.out rfl) rfl rfl Try.underlying58 rfl
                 refine hK.out _ _ hHeld (fun hHeld2 => ?_)
                 clear hK K hHeld2
                 (try simp only [Act.put, sA, sB, sC])
                 refine tkQ 21 (.slice (cutA rc (j + 1) (some ⟨gr, 0, none⟩) 1) (rn - (j + 1)) (rc - (j + 1))) hHeld (he := by intro w hSw; exact exec_slice (s := 1) 58 9 _ _ _ _ rfl rfl Try.underlying58 (by kernel_rfl) (sb_l _ _ (l := j + 1) (by push_cast; rfl) (by have := HJN.out; omega)) (by rfl) rfl rfl) (h := ?_)
                 (try simp only [Act.put, sA, sB, sC])
                 refine wpAnyH_ready (rs := [8]) (by kernel_rfl) (by simp) ?_
                 refine AllReadyH.cons (o := ?o30_b3b17_8) ?h30_b3b17_8 (fun K hK => ?_) AllReadyH.nil
                 case h30_b3b17_8 => (first | (simp only [gA, gB, gC]; done) | (simp only [gA, gB, gC]; exact rfl))
                 rw [if_pos (by rfl)]
                 refine wp_q (.slice (some ⟨gr, 0, none⟩) rn rc) ?e30_b3b17_8 ?_
                 case e30_b3b17_8 => exact exec_cell 58 _ _ HPEk.out (el_at (j := 0) HTL.out rfl) rfl rfl Try.underlying58 rfl
                 refine hK.out _ _ hHeld (fun hHeld2 => ?_)
                 clear hK K hHeld2
                 (try simp only [Act.put, sA, sB, sC])
                 refine tkQ 11 (.slice (some ⟨gr, 0, none⟩) j rc) hHeld (he := by intro w hSw; exact exec_slice (s := 1) 58 9 _ _ _ _ rfl rfl Try.underlying58 (by kernel_rfl) (sb_h _ _ (h := j) HJ.out (by have := HJN.out; have := HCP.out; omega)) (by split <;> simp [Addr.add]) rfl rfl) (h := ?_)
                 (try simp only [Act.put, sA, sB, sC])
                 refine wpAnyH_ready (rs := [12]) (by kernel_rfl) (by simp) ?_
                 refine AllReadyH.cons (o := ?o30_b3b17_12) ?h30_b3b17_12 (fun K hK => ?_) AllReadyH.nil
                 case h30_b3b17_12 => (first | (simp only [gA, gB, gC]; done) | (simp only [gA, gB, gC]; exact rfl))
                 rw [if_pos (by rfl)]
                 refine wp_append_row (.tmp 172) (.tmp 180) 58 rfl w.heap.size 9 (.string ByteArray.empty) 1 16 Try.underlying58 (by kernel_rfl) rfl (by decide) (by decide) (some ⟨bn172, 0, none⟩) 0 0 ([]) rfl HOE2.out _ (some ⟨gr, 0, none⟩) j rc ((rowsOf strC rz).take (j * 1)) rfl (own_reads (own_prefix (hHeld.2.2.2.2.1) (by have := HJN.out; omega))) (fun u hu => strs_one rz u (List.mem_of_mem_take hu)) (by have q1 := HRN.out; have q2 := HCL.out (os i).tt; have q3 := HI200.out; have q4 := HJN.out; omega) (Since.size hHeld.1) j ((rowsOf strC rz).take (j * 1)) (Nat.zero_add _) rfl ?_
                 intro A_6 c_6 w358 hown hupd hfar
                 have hHeld3 := HKS.out.at_ w358 ⟨Since.upd hHeld.1 hupd (own_low HOE2.out), Upd.blk hupd (hHeld.2.1) (own_ne_ty HOE2.out (hHeld.2.1) (by decide)), HasRow.upd hupd (hHeld.2.2.1) (own_ne_ty HOE2.out HPEk.out (by decide)), NC.upd hupd (hHeld.2.2.2.1) (fun g hg h => HIn172_q.out (by simp [blkOf] at h; rw [← h]; exact hg)), Upd.own hupd (hHeld.2.2.2.2.1) (fun g hg h => HIn172_r.out (by simp [blkOf] at h; rw [← h]; exact hg)), Rest.upd hupd (hHeld.2.2.2.2.2) (fun g hg h => HIn172_x.out (by simp [blkOf] at h; rw [← h]; exact hg))⟩
                 have HDEq_6 := Lib.hid (dis_next hfar (fun g hg h => HIn172_q.out (by simp [blkOf] at h; rw [← h]; exact hg)) (NC.lt (hHeld.2.2.2.1)))
                 have HDEr_6 := Lib.hid (dis_next hfar (fun g hg h => HIn172_r.out (by simp [blkOf] at h; rw [← h]; exact hg)) (own_lt (hHeld.2.2.2.2.1)))
                 have HDEx_6 := Lib.hid (dis_next hfar (fun g hg h => HIn172_x.out (by simp [blkOf] at h; rw [← h]; exact hg)) (Rest.lt (hHeld.2.2.2.2.2)))
                 have HPEku := Lib.hid (Upd.blk hupd HPEk.out (own_ne_ty HOE2.out HPEk.out (by decide)))
                 have HIE_e_6 := Lib.hid (nin_next hfar (own_ne_ty HOE2.out HPEk.out (by decide)) (Blk.lt HPEk.out))
                 clear HPEk
                 have HOW_w358 := Lib.hid hown
                 refine hK.out _ _ hHeld3 (fun hHeld2 => ?_)
                 clear hK K hHeld hHeld3 hupd hown hfar HOE2 
                 have hHeld := hHeld2
                 clear hHeld2
                 (try simp only [Act.put, sA, sB, sC])
                 refine wpAnyH_ready (rs := [22]) (by kernel_rfl) (by simp) ?_
                 refine AllReadyH.cons (o := ?o30_b3b17_22) ?h30_b3b17_22 (fun K hK => ?_) AllReadyH.nil
                 case h30_b3b17_22 => (first | (simp only [gA, gB, gC]; done) | (simp only [gA, gB, gC]; exact rfl))
                 rw [if_pos (by rfl)]
                 refine wp_append_row (.tmp 181) (.tmp 190) 58 rfl w.heap.size 9 (.string ByteArray.empty) 1 16 Try.underlying58 (by kernel_rfl) rfl (by decide) (by decide) A_6 j c_6 ((rowsOf strC rz).take (j * 1)) rfl HOW_w358.out _ (cutA rc (j + 1) (some ⟨gr, 0, none⟩) 1) (rn - (j + 1)) (rc - (j + 1)) ((rowsOf strC rz).drop ((j + 1) * 1)) rfl (reads_cut (own_reads (hHeld.2.2.2.2.1)) (by have := HJN.out; omega) HCP.out) (fun u hu => strs_one rz u (List.mem_of_mem_drop hu)) (by have q1 := HRN.out; have q2 := HCL.out (os i).tt; have q3 := HI200.out; have q4 := HJN.out; omega) (Since.size hHeld.1) ((rz.eraseIdx j).length) (rowsOf strC (rz.eraseIdx j)) (by have q1 := HJN.out; have q2 := HZL.out; rw [List.length_eraseIdx]; split <;> omega) (erase_rows strC_len (by have q1 := HJN.out; have q2 := HZL.out; omega)) ?_
                 intro A_7 c_7 w359 hown hupd hfar
                 have hHeld3 := HKS.out.at_ w359 ⟨Since.upd hHeld.1 hupd (own_low HOW_w358.out), Upd.blk hupd (hHeld.2.1) (own_ne_ty HOW_w358.out (hHeld.2.1) (by decide)), HasRow.upd hupd (hHeld.2.2.1) (own_ne_ty HOW_w358.out HPEku.out (by decide)), NC.upd hupd (hHeld.2.2.2.1) HDEq_6.out, Upd.own hupd (hHeld.2.2.2.2.1) HDEr_6.out, Rest.upd hupd (hHeld.2.2.2.2.2) HDEx_6.out⟩
                 have HDEq_7 := Lib.hid (dis_next hfar HDEq_6.out (NC.lt (hHeld.2.2.2.1)))
                 have HDEr_7 := Lib.hid (dis_next hfar HDEr_6.out (own_lt (hHeld.2.2.2.2.1)))
                 have HDEx_7 := Lib.hid (dis_next hfar HDEx_6.out (Rest.lt (hHeld.2.2.2.2.2)))
                 have HPEkuu := Lib.hid (Upd.blk hupd HPEku.out (own_ne_ty HOW_w358.out HPEku.out (by decide)))
                 have HIE_e_7 := Lib.hid (nin_next hfar (own_ne_ty HOW_w358.out HPEku.out (by decide)) (Blk.lt HPEku.out))
                 clear HPEku
                 have HOW_w359 := Lib.hid hown
                 refine hK.out _ _ hHeld3 (fun hHeld2 => ?_)
                 clear hK K hHeld hHeld3 hupd hown hfar HOW_w358 
                 have hHeld := hHeld2
                 clear hHeld2
                 (try simp only [Act.put, sA, sB, sC])
                 refine tkQ 23 (.pointer (some ⟨gm, 0 + t * 1, none⟩)) hHeld (he := by intro w hSw; exact exec_index (i := t) (s := 1) 54 58 _ _ rfl rfl rfl HTT.out HTM.out Try.underlying54 (by kernel_rfl)) (h := ?_)
                 (try simp only [Act.put, sA, sB, sC])
                 refine wpAnyH_ready (rs := [24]) (by kernel_rfl) (by simp) ?_
                 refine AllReadyH.cons (o := ?o30_b3b17_24) ?h30_b3b17_24 (fun K hK => ?_) AllReadyH.nil
                 case h30_b3b17_24 => (first | (simp only [gA, gB, gC]; done) | (simp only [gA, gB, gC]; exact rfl))
                 rw [if_pos (by rfl)]
                 refine wp_st_cell 58 _ _ rfl (el (rowsOf rowC (rs.take t)) #[.slice A_7 ((rz.eraseIdx j).length) c_7] (rowsOf rowC (rs.drop (t + 1)))) (.slice A_7 ((rz.eraseIdx j).length) c_7) rfl rfl HPEkuu.out (el_lt (j := 0) HTL.out (by show 0 < 1; decide)) (el_set (j := 0) HTL.out (by show 0 < 1; decide) rfl) (by first | rfl | simp [Value.oneCell']) (by kernel_rfl) ?_
                 clear HPEkuu
                 intro w360 hw
                 have HOW_w359r := Lib.hid (show (w360).ownsRow w.heap.size 9 1 (.slice A_7 ((rz.eraseIdx j).length) c_7) ((rz.eraseIdx j).length) (rowsOf strC (rz.eraseIdx j)) by rw [hw]; exact own_row_far HOW_w359.out HIE_e_7.out _)
                 clear HOW_w359
                 have HRE := Lib.hid (show Blk w360 gm 58 (el (rowsOf rowC (rs.take t)) #[.slice A_7 ((rz.eraseIdx j).length) c_7] (rowsOf rowC (rs.drop (t + 1)))) by obtain ⟨old, Bo, _⟩ := hHeld.2.2.1; rw [hw]; exact Blk.row Bo _)
                 have hHeld3 := HKS.out.at_ w360 ⟨by rw [hw]; exact Since.setRow hHeld.1 HGE.out _, by rw [hw]; exact Blk.row_far (hHeld.2.1) (Ne.symm HNEO.out) _, HasRow.of HRE.out el_size, by rw [hw]; exact NC.row_far (hHeld.2.2.2.1) HEQ_.out _, by rw [hw]; exact own_row_far (hHeld.2.2.2.2.1) HER.out _, by rw [hw]; exact Rest.row_far (hHeld.2.2.2.2.2) HEX.out _⟩
                 refine hK.out _ _ hHeld3 (fun hHeld2 => ?_)
                 clear hK K hHeld hHeld3 hw
                 have hHeld := hHeld2
                 clear hHeld2
                 (try simp only [Act.put, sA, sB, sC])
                 refine wpAnyH_done (by kernel_rfl) ?_ _
                 have HSd30v3 := Lib.hid hHeld.1
                 have HBn10d30v3 := Lib.hid (hHeld.2.1)
                 have HBEd30v3 := Lib.hid HRE.out
                 clear HRE
                 have HFqd30v3 := Lib.hid (hHeld.2.2.2.1)
                 have HFrd30v3 := Lib.hid (hHeld.2.2.2.2.1)
                 have HFxd30v3 := Lib.hid (hHeld.2.2.2.2.2)
                 clear hHeld HRK HKS HS356 HBn10356 HE0 HFq356 HR0 HX0
                 have HFed30v3 := Lib.hid HOW_w359r.out
                 clear HOW_w359r
                 have HMO2 := Lib.hid (MO.close (r' := ⟨A_7, (rz.eraseIdx j).length, c_7, (rz.eraseIdx j)⟩) HGM.out HRT.out HND.out HBEd30v3.out HFed30v3.out HFxd30v3.out (fun g hg h => HDEx_7.out g h hg))
                 have HDM9 := Lib.hid (set_dis (r' := ⟨A_7, (rz.eraseIdx j).length, c_7, (rz.eraseIdx j)⟩) HTLT.out HEQ_.out (fun g hg h => HDEq_7.out g h hg) HXQ.out)
                 go_wp2_with fail
                 refine Met.intro ?_
                 exact hJ5 _ _ ⟨(delC c (os i).tt j), S3, (rs.set t ⟨A_7, (rz.eraseIdx j).length, c_7, (rz.eraseIdx j)⟩), (gm :: (rs.set t ⟨A_7, (rz.eraseIdx j).length, c_7, (rz.eraseIdx j)⟩).flatMap blkR), ⟨rfl, rfl, rfl, rfl, rfl, rfl, rfl, rfl, rfl, rfl, rfl, trivial⟩, Lib.hid ⟨(del_len HCL.out), (by rw [List.length_set]; exact HRL.out), (same_del HSM.out HRT.out HTT.out), HDM9.out, HSd30v3.out, HBn10d30v3.out, HFqd30v3.out, HMO2.out⟩⟩
               case g30__8b =>
                rw [if_pos (by rfl)]
                refine wp_q (.slice (some ⟨gr, 0, none⟩) rn rc) ?e30_b8_8 ?_
                case e30_b8_8 => exact exec_cell 58 _ _ HPE.out (el_at (j := 0) HTL.out rfl) rfl rfl Try.underlying58 rfl
                refine hK.out _ _ hHeld (fun hHeld2 => ?_)
                clear hK K hHeld2
                (try simp only [Act.put, sA, sB, sC])
                refine tkQ 11 (.slice (some ⟨gr, 0, none⟩) j rc) hHeld (he := by intro w hSw; exact exec_slice (s := 1) 58 9 _ _ _ _ rfl rfl Try.underlying58 (by kernel_rfl) (sb_h _ _ (h := j) HJ.out (by have := HJN.out; have := HCP.out; omega)) (by split <;> simp [Addr.add]) rfl rfl) (h := ?_)
                (try simp only [Act.put, sA, sB, sC])
                refine wpAnyH_ready (rs := [3, 17]) (by kernel_rfl) (by simp) ?_
                refine AllReadyH.cons (o := ?o30_b8_3b) ?h30_b8_3b (fun K hK => ?g30_b8_3b) (AllReadyH.cons (o := ?o30_b8_17b) ?h30_b8_17b (fun K hK => ?g30_b8_17b) AllReadyH.nil)
                case h30_b8_3b => (first | (simp only [gA, gB, gC]; done) | (simp only [gA, gB, gC]; exact rfl))
                case h30_b8_17b => (first | (simp only [gA, gB, gC]; done) | (simp only [gA, gB, gC]; exact rfl))
                case g30_b8_3b =>
                 rw [if_pos (by rfl)]
                 refine wp_new (fun b => .slice (some ⟨b, 0, none⟩) 0 0) 9 #[] (by rintro b rfl; first | rfl | kernel_rfl) ?_
                 intro bn172 w357 hge hB hb
                 refine hK.out _ _ (by (apply HRK.out; exact hb; exact hHeld)) (fun hHeld2 => ?_)
                 have HIn172_q := Lib.hid (NC.far (hHeld.2.2.2.1) hge)
                 have HIn172_r := Lib.hid (own_far (hHeld.2.2.2.2.1) hge)
                 have HIn172_x := Lib.hid (Rest.far (hHeld.2.2.2.2.2) hge)
                 have HPEk := Lib.hid (keep_blk hb HPE.out)
                 clear HPE
                 have HNn172E := Lib.hid (show bn172 ≠ gm by obtain ⟨old, Bo, _⟩ := hHeld.2.2.1; have := Blk.lt Bo; omega)
                 have HGn172 := Lib.hid (show w.heap.size ≤ bn172 by have := Since.size hHeld.1; (try simp at this); (try simp at hge); omega)
                 have HXn172 := Lib.hid hB
                 clear hB
                 clear hge
                 clear hK K hHeld hb
                 have hHeld := hHeld2
                 clear hHeld2
                 (try simp only [Act.put, sA, sB, sC])
                 have HOE2 := Lib.hid (own_empty (e := 9) (size := 1) HXn172.out HGn172.out)
                 clear HXn172
                 refine wpAnyH_ready (rs := [12, 17]) (by kernel_rfl) (by simp) ?_
                 refine AllReadyH.cons (o := ?o30_b8b3_12b) ?h30_b8b3_12b (fun K hK => ?g30_b8b3_12b) (AllReadyH.cons (o := ?o30_b8b3_17b) ?h30_b8b3_17b (fun K hK => ?g30_b8b3_17b) AllReadyH.nil)
                 case h30_b8b3_12b => (first | (simp only [gA, gB, gC]; done) | (simp only [gA, gB, gC]; exact rfl))
                 case h30_b8b3_17b => (first | (simp only [gA, gB, gC]; done) | (simp only [gA, gB, gC]; exact rfl))
                 case g30_b8b3_12b =>
                  rw [if_pos (by rfl)]
                  refine wp_append_row (.tmp 172) (.tmp 180) 58 rfl w.heap.size 9 (.string ByteArray.empty) 1 16 Try.underlying58 (by kernel_rfl) rfl (by decide) (by decide) (some ⟨bn172, 0, none⟩) 0 0 ([]) rfl HOE2.out _ (some ⟨gr, 0, none⟩) j rc ((rowsOf strC rz).take (j * 1)) rfl (own_reads (own_prefix (hHeld.2.2.2.2.1) (by have := HJN.out; omega))) (fun u hu => strs_one rz u (List.mem_of_mem_take hu)) (by have q1 := HRN.out; have q2 := HCL.out (os i).tt; have q3 := HI200.out; have q4 := HJN.out; omega) (Since.size hHeld.1) j ((rowsOf strC rz).take (j * 1)) (Nat.zero_add _) rfl ?_
                  intro A_8 c_8 w358 hown hupd hfar
                  have hHeld3 := HKS.out.at_ w358 ⟨Since.upd hHeld.1 hupd (own_low HOE2.out), Upd.blk hupd (hHeld.2.1) (own_ne_ty HOE2.out (hHeld.2.1) (by decide)), HasRow.upd hupd (hHeld.2.2.1) (own_ne_ty HOE2.out HPEk.out (by decide)), NC.upd hupd (hHeld.2.2.2.1) (fun g hg h => HIn172_q.out (by simp [blkOf] at h; rw [← h]; exact hg)), Upd.own hupd (hHeld.2.2.2.2.1) (fun g hg h => HIn172_r.out (by simp [blkOf] at h; rw [← h]; exact hg)), Rest.upd hupd (hHeld.2.2.2.2.2) (fun g hg h => HIn172_x.out (by simp [blkOf] at h; rw [← h]; exact hg))⟩
                  have HDEq_8 := Lib.hid (dis_next hfar (fun g hg h => HIn172_q.out (by simp [blkOf] at h; rw [← h]; exact hg)) (NC.lt (hHeld.2.2.2.1)))
                  have HDEr_8 := Lib.hid (dis_next hfar (fun g hg h => HIn172_r.out (by simp [blkOf] at h; rw [← h]; exact hg)) (own_lt (hHeld.2.2.2.2.1)))
                  have HDEx_8 := Lib.hid (dis_next hfar (fun g hg h => HIn172_x.out (by simp [blkOf] at h; rw [← h]; exact hg)) (Rest.lt (hHeld.2.2.2.2.2)))
                  have HPEku := Lib.hid (Upd.blk hupd HPEk.out (own_ne_ty HOE2.out HPEk.out (by decide)))
                  have HIE_e_8 := Lib.hid (nin_next hfar (own_ne_ty HOE2.out HPEk.out (by decide)) (Blk.lt HPEk.out))
                  clear HPEk
                  have HOW_w358 := Lib.hid hown
                  refine hK.out _ _ hHeld3 (fun hHeld2 => ?_)
                  clear hK K hHeld hHeld3 hupd hown hfar HOE2 
                  have hHeld := hHeld2
                  clear hHeld2
                  (try simp only [Act.put, sA, sB, sC])
                  refine wpAnyH_ready (rs := [17]) (by kernel_rfl) (by simp) ?_
                  refine AllReadyH.cons (o := ?o30_b8b3b12_17) ?h30_b8b3b12_17 (fun K hK => ?_) AllReadyH.nil
                  case h30_b8b3b12_17 => (first | (simp only [gA, gB, gC]; done) | (simp only [gA, gB, gC]; exact rfl))
                  rw [if_pos (by rfl)]
                  refine wp_q (.slice (some ⟨gr, 0, none⟩) rn rc) ?e30_b8b3b12_17 ?_
                  case e30_b8b3b12_17 => exact exec_cell 58 _ _ HPEku.out (el_at (j := 0) HTL.out rfl) rfl rfl Try.underlying58 rfl
                  refine hK.out _ _ hHeld (fun hHeld2 => ?_)
                  clear hK K hHeld2
                  (try simp only [Act.put, sA, sB, sC])
                  refine tkQ 21 (.slice (cutA rc (j + 1) (some ⟨gr, 0, none⟩) 1) (rn - (j + 1)) (rc - (j + 1))) hHeld (he := by intro w hSw; exact exec_slice (s := 1) 58 9 _ _ _ _ rfl rfl Try.underlying58 (by kernel_rfl) (sb_l _ _ (l := j + 1) (by push_cast; rfl) (by have := HJN.out; omega)) (by rfl) rfl rfl) (h := ?_)
                  (try simp only [Act.put, sA, sB, sC])
                  refine wpAnyH_ready (rs := [22]) (by kernel_rfl) (by simp) ?_
                  refine AllReadyH.cons (o := ?o30_b8b3b12_22) ?h30_b8b3b12_22 (fun K hK => ?_) AllReadyH.nil
                  case h30_b8b3b12_22 => (first | (simp only [gA, gB, gC]; done) | (simp only [gA, gB, gC]; exact rfl))
                  rw [if_pos (by rfl)]
                  refine wp_append_row (.tmp 181) (.tmp 190) 58 rfl w.heap.size 9 (.string ByteArray.empty) 1 16 Try.underlying58 (by kernel_rfl) rfl (by decide) (by decide) A_8 j c_8 ((rowsOf strC rz).take (j * 1)) rfl HOW_w358.out _ (cutA rc (j + 1) (some ⟨gr, 0, none⟩) 1) (rn - (j + 1)) (rc - (j + 1)) ((rowsOf strC rz).drop ((j + 1) * 1)) rfl (reads_cut (own_reads (hHeld.2.2.2.2.1)) (by have := HJN.out; omega) HCP.out) (fun u hu => strs_one rz u (List.mem_of_mem_drop hu)) (by have q1 := HRN.out; have q2 := HCL.out (os i).tt; have q3 := HI200.out; have q4 := HJN.out; omega) (Since.size hHeld.1) ((rz.eraseIdx j).length) (rowsOf strC (rz.eraseIdx j)) (by have q1 := HJN.out; have q2 := HZL.out; rw [List.length_eraseIdx]; split <;> omega) (erase_rows strC_len (by have q1 := HJN.out; have q2 := HZL.out; omega)) ?_
                  intro A_9 c_9 w359 hown hupd hfar
                  have hHeld3 := HKS.out.at_ w359 ⟨Since.upd hHeld.1 hupd (own_low HOW_w358.out), Upd.blk hupd (hHeld.2.1) (own_ne_ty HOW_w358.out (hHeld.2.1) (by decide)), HasRow.upd hupd (hHeld.2.2.1) (own_ne_ty HOW_w358.out HPEku.out (by decide)), NC.upd hupd (hHeld.2.2.2.1) HDEq_8.out, Upd.own hupd (hHeld.2.2.2.2.1) HDEr_8.out, Rest.upd hupd (hHeld.2.2.2.2.2) HDEx_8.out⟩
                  have HDEq_9 := Lib.hid (dis_next hfar HDEq_8.out (NC.lt (hHeld.2.2.2.1)))
                  have HDEr_9 := Lib.hid (dis_next hfar HDEr_8.out (own_lt (hHeld.2.2.2.2.1)))
                  have HDEx_9 := Lib.hid (dis_next hfar HDEx_8.out (Rest.lt (hHeld.2.2.2.2.2)))
                  have HPEkuu := Lib.hid (Upd.blk hupd HPEku.out (own_ne_ty HOW_w358.out HPEku.out (by decide)))
                  have HIE_e_9 := Lib.hid (nin_next hfar (own_ne_ty HOW_w358.out HPEku.out (by decide)) (Blk.lt HPEku.out))
                  clear HPEku
                  have HOW_w359 := Lib.hid hown
                  refine hK.out _ _ hHeld3 (fun hHeld2 => ?_)
                  clear hK K hHeld hHeld3 hupd hown hfar HOW_w358 
                  have hHeld := hHeld2
                  clear hHeld2
                  (try simp only [Act.put, sA, sB, sC])
                  refine tkQ 23 (.pointer (some ⟨gm, 0 + t * 1, none⟩)) hHeld (he := by intro w hSw; exact exec_index (i := t) (s := 1) 54 58 _ _ rfl rfl rfl HTT.out HTM.out Try.underlying54 (by kernel_rfl)) (h := ?_)
                  (try simp only [Act.put, sA, sB, sC])
                  refine wpAnyH_ready (rs := [24]) (by kernel_rfl) (by simp) ?_
                  refine AllReadyH.cons (o := ?o30_b8b3b12_24) ?h30_b8b3b12_24 (fun K hK => ?_) AllReadyH.nil
                  case h30_b8b3b12_24 => (first | (simp only [gA, gB, gC]; done) | (simp only [gA, gB, gC]; exact rfl))
                  rw [if_pos (by rfl)]
                  refine wp_st_cell 58 _ _ rfl (el (rowsOf rowC (rs.take t)) #[.slice A_9 ((rz.eraseIdx j).length) c_9] (rowsOf rowC (rs.drop (t + 1)))) (.slice A_9 ((rz.eraseIdx j).length) c_9) rfl rfl HPEkuu.out (el_lt (j := 0) HTL.out (by show 0 < 1; decide)) (el_set (j := 0) HTL.out (by show 0 < 1; decide) rfl) (by first | rfl | simp [Value.oneCell']) (by kernel_rfl) ?_
                  clear HPEkuu
                  intro w360 hw
                  have HOW_w359r := Lib.hid (show (w360).ownsRow w.heap.size 9 1 (.slice A_9 ((rz.eraseIdx j).length) c_9) ((rz.eraseIdx j).length) (rowsOf strC (rz.eraseIdx j)) by rw [hw]; exact own_row_far HOW_w359.out HIE_e_9.out _)
                  clear HOW_w359
                  have HRE := Lib.hid (show Blk w360 gm 58 (el (rowsOf rowC (rs.take t)) #[.slice A_9 ((rz.eraseIdx j).length) c_9] (rowsOf rowC (rs.drop (t + 1)))) by obtain ⟨old, Bo, _⟩ := hHeld.2.2.1; rw [hw]; exact Blk.row Bo _)
                  have hHeld3 := HKS.out.at_ w360 ⟨by rw [hw]; exact Since.setRow hHeld.1 HGE.out _, by rw [hw]; exact Blk.row_far (hHeld.2.1) (Ne.symm HNEO.out) _, HasRow.of HRE.out el_size, by rw [hw]; exact NC.row_far (hHeld.2.2.2.1) HEQ_.out _, by rw [hw]; exact own_row_far (hHeld.2.2.2.2.1) HER.out _, by rw [hw]; exact Rest.row_far (hHeld.2.2.2.2.2) HEX.out _⟩
                  refine hK.out _ _ hHeld3 (fun hHeld2 => ?_)
                  clear hK K hHeld hHeld3 hw
                  have hHeld := hHeld2
                  clear hHeld2
                  (try simp only [Act.put, sA, sB, sC])
                  refine wpAnyH_done (by kernel_rfl) ?_ _
                  have HSd30v4 := Lib.hid hHeld.1
                  have HBn10d30v4 := Lib.hid (hHeld.2.1)
                  have HBEd30v4 := Lib.hid HRE.out
                  clear HRE
                  have HFqd30v4 := Lib.hid (hHeld.2.2.2.1)
                  have HFrd30v4 := Lib.hid (hHeld.2.2.2.2.1)
                  have HFxd30v4 := Lib.hid (hHeld.2.2.2.2.2)
                  clear hHeld HRK HKS HS356 HBn10356 HE0 HFq356 HR0 HX0
                  have HFed30v4 := Lib.hid HOW_w359r.out
                  clear HOW_w359r
                  have HMO2 := Lib.hid (MO.close (r' := ⟨A_9, (rz.eraseIdx j).length, c_9, (rz.eraseIdx j)⟩) HGM.out HRT.out HND.out HBEd30v4.out HFed30v4.out HFxd30v4.out (fun g hg h => HDEx_9.out g h hg))
                  have HDM9 := Lib.hid (set_dis (r' := ⟨A_9, (rz.eraseIdx j).length, c_9, (rz.eraseIdx j)⟩) HTLT.out HEQ_.out (fun g hg h => HDEq_9.out g h hg) HXQ.out)
                  go_wp2_with fail
                  refine Met.intro ?_
                  exact hJ5 _ _ ⟨(delC c (os i).tt j), S3, (rs.set t ⟨A_9, (rz.eraseIdx j).length, c_9, (rz.eraseIdx j)⟩), (gm :: (rs.set t ⟨A_9, (rz.eraseIdx j).length, c_9, (rz.eraseIdx j)⟩).flatMap blkR), ⟨rfl, rfl, rfl, rfl, rfl, rfl, rfl, rfl, rfl, rfl, rfl, trivial⟩, Lib.hid ⟨(del_len HCL.out), (by rw [List.length_set]; exact HRL.out), (same_del HSM.out HRT.out HTT.out), HDM9.out, HSd30v4.out, HBn10d30v4.out, HFqd30v4.out, HMO2.out⟩⟩
                 case g30_b8b3_17b =>
                  rw [if_pos (by rfl)]
                  refine wp_q (.slice (some ⟨gr, 0, none⟩) rn rc) ?e30_b8b3b17_17 ?_
                  case e30_b8b3b17_17 => exact exec_cell 58 _ _ HPEk.out (el_at (j := 0) HTL.out rfl) rfl rfl Try.underlying58 rfl
                  refine hK.out _ _ hHeld (fun hHeld2 => ?_)
                  clear hK K hHeld2
                  (try simp only [Act.put, sA, sB, sC])
                  refine tkQ 21 (.slice (cutA rc (j + 1) (some ⟨gr, 0, none⟩) 1) (rn - (j + 1)) (rc - (j + 1))) hHeld (he := by intro w hSw; exact exec_slice (s := 1) 58 9 _ _ _ _ rfl rfl Try.underlying58 (by kernel_rfl) (sb_l _ _ (l := j + 1) (by push_cast; rfl) (by have := HJN.out; omega)) (by rfl) rfl rfl) (h := ?_)
                  (try simp only [Act.put, sA, sB, sC])
                  refine wpAnyH_ready (rs := [12]) (by kernel_rfl) (by simp) ?_
                  refine AllReadyH.cons (o := ?o30_b8b3b17_12) ?h30_b8b3b17_12 (fun K hK => ?_) AllReadyH.nil
                  case h30_b8b3b17_12 => (first | (simp only [gA, gB, gC]; done) | (simp only [gA, gB, gC]; exact rfl))
                  rw [if_pos (by rfl)]
                  refine wp_append_row (.tmp 172) (.tmp 180) 58 rfl w.heap.size 9 (.string ByteArray.empty) 1 16 Try.underlying58 (by kernel_rfl) rfl (by decide) (by decide) (some ⟨bn172, 0, none⟩) 0 0 ([]) rfl HOE2.out _ (some ⟨gr, 0, none⟩) j rc ((rowsOf strC rz).take (j * 1)) rfl (own_reads (own_prefix (hHeld.2.2.2.2.1) (by have := HJN.out; omega))) (fun u hu => strs_one rz u (List.mem_of_mem_take hu)) (by have q1 := HRN.out; have q2 := HCL.out (os i).tt; have q3 := HI200.out; have q4 := HJN.out; omega) (Since.size hHeld.1) j ((rowsOf strC rz).take (j * 1)) (Nat.zero_add _) rfl ?_
                  intro A_10 c_10 w358 hown hupd hfar
                  have hHeld3 := HKS.out.at_ w358 ⟨Since.upd hHeld.1 hupd (own_low HOE2.out), Upd.blk hupd (hHeld.2.1) (own_ne_ty HOE2.out (hHeld.2.1) (by decide)), HasRow.upd hupd (hHeld.2.2.1) (own_ne_ty HOE2.out HPEk.out (by decide)), NC.upd hupd (hHeld.2.2.2.1) (fun g hg h => HIn172_q.out (by simp [blkOf] at h; rw [← h]; exact hg)), Upd.own hupd (hHeld.2.2.2.2.1) (fun g hg h => HIn172_r.out (by simp [blkOf] at h; rw [← h]; exact hg)), Rest.upd hupd (hHeld.2.2.2.2.2) (fun g hg h => HIn172_x.out (by simp [blkOf] at h; rw [← h]; exact hg))⟩
                  have HDEq_10 := Lib.hid (dis_next hfar (fun g hg h => HIn172_q.out (by simp [blkOf] at h; rw [← h]; exact hg)) (NC.lt (hHeld.2.2.2.1)))
                  have HDEr_10 := Lib.hid (dis_next hfar (fun g hg h => HIn172_r.out (by simp [blkOf] at h; rw [← h]; exact hg)) (own_lt (hHeld.2.2.2.2.1)))
                  have HDEx_10 := Lib.hid (dis_next hfar (fun g hg h => HIn172_x.out (by simp [blkOf] at h; rw [← h]; exact hg)) (Rest.lt (hHeld.2.2.2.2.2)))
                  have HPEku := Lib.hid (Upd.blk hupd HPEk.out (own_ne_ty HOE2.out HPEk.out (by decide)))
                  have HIE_e_10 := Lib.hid (nin_next hfar (own_ne_ty HOE2.out HPEk.out (by decide)) (Blk.lt HPEk.out))
                  clear HPEk
                  have HOW_w358 := Lib.hid hown
                  refine hK.out _ _ hHeld3 (fun hHeld2 => ?_)
                  clear hK K hHeld hHeld3 hupd hown hfar HOE2 
                  have hHeld := hHeld2
                  clear hHeld2
                  (try simp only [Act.put, sA, sB, sC])
                  refine wpAnyH_ready (rs := [22]) (by kernel_rfl) (by simp) ?_
                  refine AllReadyH.cons (o := ?o30_b8b3b17_22) ?h30_b8b3b17_22 (fun K hK => ?_) AllReadyH.nil
                  case h30_b8b3b17_22 => (first | (simp only [gA, gB, gC]; done) | (simp only [gA, gB, gC]; exact rfl))
                  rw [if_pos (by rfl)]
                  refine wp_append_row (.tmp 181) (.tmp 190) 58 rfl w.heap.size 9 (.string ByteArray.empty) 1 16 Try.underlying58 (by kernel_rfl) rfl (by decide) (by decide) A_10 j c_10 ((rowsOf strC rz).take (j * 1)) rfl HOW_w358.out _ (cutA rc (j + 1) (some ⟨gr, 0, none⟩) 1) (rn - (j + 1)) (rc - (j + 1)) ((rowsOf strC rz).drop ((j + 1) * 1)) rfl (reads_cut (own_reads (hHeld.2.2.2.2.1)) (by have := HJN.out; omega) HCP.out) (fun u hu => strs_one rz u (List.mem_of_mem_drop hu)) (by have q1 := HRN.out; have q2 := HCL.out (os i).tt; have q3 := HI200.out; have q4 := HJN.out; omega) (Since.size hHeld.1) ((rz.eraseIdx j).length) (rowsOf strC (rz.eraseIdx j)) (by have q1 := HJN.out; have q2 := HZL.out; rw [List.length_eraseIdx]; split <;> omega) (erase_rows strC_len (by have q1 := HJN.out; have q2 := HZL.out; omega)) ?_
                  intro A_11 c_11 w359 hown hupd hfar
                  have hHeld3 := HKS.out.at_ w359 ⟨Since.upd hHeld.1 hupd (own_low HOW_w358.out), Upd.blk hupd (hHeld.2.1) (own_ne_ty HOW_w358.out (hHeld.2.1) (by decide)), HasRow.upd hupd (hHeld.2.2.1) (own_ne_ty HOW_w358.out HPEku.out (by decide)), NC.upd hupd (hHeld.2.2.2.1) HDEq_10.out, Upd.own hupd (hHeld.2.2.2.2.1) HDEr_10.out, Rest.upd hupd (hHeld.2.2.2.2.2) HDEx_10.out⟩
                  have HDEq_11 := Lib.hid (dis_next hfar HDEq_10.out (NC.lt (hHeld.2.2.2.1)))
                  have HDEr_11 := Lib.hid (dis_next hfar HDEr_10.out (own_lt (hHeld.2.2.2.2.1)))
                  have HDEx_11 := Lib.hid (dis_next hfar HDEx_10.out (Rest.lt (hHeld.2.2.2.2.2)))
                  have HPEkuu := Lib.hid (Upd.blk hupd HPEku.out (own_ne_ty HOW_w358.out HPEku.out (by decide)))
                  have HIE_e_11 := Lib.hid (nin_next hfar (own_ne_ty HOW_w358.out HPEku.out (by decide)) (Blk.lt HPEku.out))
                  clear HPEku
                  have HOW_w359 := Lib.hid hown
                  refine hK.out _ _ hHeld3 (fun hHeld2 => ?_)
                  clear hK K hHeld hHeld3 hupd hown hfar HOW_w358 
                  have hHeld := hHeld2
                  clear hHeld2
                  (try simp only [Act.put, sA, sB, sC])
                  refine tkQ 23 (.pointer (some ⟨gm, 0 + t * 1, none⟩)) hHeld (he := by intro w hSw; exact exec_index (i := t) (s := 1) 54 58 _ _ rfl rfl rfl HTT.out HTM.out Try.underlying54 (by kernel_rfl)) (h := ?_)
                  (try simp only [Act.put, sA, sB, sC])
                  refine wpAnyH_ready (rs := [24]) (by kernel_rfl) (by simp) ?_
                  refine AllReadyH.cons (o := ?o30_b8b3b17_24) ?h30_b8b3b17_24 (fun K hK => ?_) AllReadyH.nil
                  case h30_b8b3b17_24 => (first | (simp only [gA, gB, gC]; done) | (simp only [gA, gB, gC]; exact rfl))
                  rw [if_pos (by rfl)]
                  refine wp_st_cell 58 _ _ rfl (el (rowsOf rowC (rs.take t)) #[.slice A_11 ((rz.eraseIdx j).length) c_11] (rowsOf rowC (rs.drop (t + 1)))) (.slice A_11 ((rz.eraseIdx j).length) c_11) rfl rfl HPEkuu.out (el_lt (j := 0) HTL.out (by show 0 < 1; decide)) (el_set (j := 0) HTL.out (by show 0 < 1; decide) rfl) (by first | rfl | simp [Value.oneCell']) (by kernel_rfl) ?_
                  clear HPEkuu
                  intro w360 hw
                  have HOW_w359r := Lib.hid (show (w360).ownsRow w.heap.size 9 1 (.slice A_11 ((rz.eraseIdx j).length) c_11) ((rz.eraseIdx j).length) (rowsOf strC (rz.eraseIdx j)) by rw [hw]; exact own_row_far HOW_w359.out HIE_e_11.out _)
                  clear HOW_w359
                  have HRE := Lib.hid (show Blk w360 gm 58 (el (rowsOf rowC (rs.take t)) #[.slice A_11 ((rz.eraseIdx j).length) c_11] (rowsOf rowC (rs.drop (t + 1)))) by obtain ⟨old, Bo, _⟩ := hHeld.2.2.1; rw [hw]; exact Blk.row Bo _)
                  have hHeld3 := HKS.out.at_ w360 ⟨by rw [hw]; exact Since.setRow hHeld.1 HGE.out _, by rw [hw]; exact Blk.row_far (hHeld.2.1) (Ne.symm HNEO.out) _, HasRow.of HRE.out el_size, by rw [hw]; exact NC.row_far (hHeld.2.2.2.1) HEQ_.out _, by rw [hw]; exact own_row_far (hHeld.2.2.2.2.1) HER.out _, by rw [hw]; exact Rest.row_far (hHeld.2.2.2.2.2) HEX.out _⟩
                  refine hK.out _ _ hHeld3 (fun hHeld2 => ?_)
                  clear hK K hHeld hHeld3 hw
                  have hHeld := hHeld2
                  clear hHeld2
                  (try simp only [Act.put, sA, sB, sC])
                  refine wpAnyH_done (by kernel_rfl) ?_ _
                  have HSd30v5 := Lib.hid hHeld.1
                  have HBn10d30v5 := Lib.hid (hHeld.2.1)
                  have HBEd30v5 := Lib.hid HRE.out
                  clear HRE
                  have HFqd30v5 := Lib.hid (hHeld.2.2.2.1)
                  have HFrd30v5 := Lib.hid (hHeld.2.2.2.2.1)
                  have HFxd30v5 := Lib.hid (hHeld.2.2.2.2.2)
                  clear hHeld HRK HKS HS356 HBn10356 HE0 HFq356 HR0 HX0
                  have HFed30v5 := Lib.hid HOW_w359r.out
                  clear HOW_w359r
                  have HMO2 := Lib.hid (MO.close (r' := ⟨A_11, (rz.eraseIdx j).length, c_11, (rz.eraseIdx j)⟩) HGM.out HRT.out HND.out HBEd30v5.out HFed30v5.out HFxd30v5.out (fun g hg h => HDEx_11.out g h hg))
                  have HDM9 := Lib.hid (set_dis (r' := ⟨A_11, (rz.eraseIdx j).length, c_11, (rz.eraseIdx j)⟩) HTLT.out HEQ_.out (fun g hg h => HDEq_11.out g h hg) HXQ.out)
                  go_wp2_with fail
                  refine Met.intro ?_
                  exact hJ5 _ _ ⟨(delC c (os i).tt j), S3, (rs.set t ⟨A_11, (rz.eraseIdx j).length, c_11, (rz.eraseIdx j)⟩), (gm :: (rs.set t ⟨A_11, (rz.eraseIdx j).length, c_11, (rz.eraseIdx j)⟩).flatMap blkR), ⟨rfl, rfl, rfl, rfl, rfl, rfl, rfl, rfl, rfl, rfl, rfl, trivial⟩, Lib.hid ⟨(del_len HCL.out), (by rw [List.length_set]; exact HRL.out), (same_del HSM.out HRT.out HTT.out), HDM9.out, HSd30v5.out, HBn10d30v5.out, HFqd30v5.out, HMO2.out⟩⟩
                case g30_b8_17b =>
                 rw [if_pos (by rfl)]
                 refine wp_q (.slice (some ⟨gr, 0, none⟩) rn rc) ?e30_b8b17_17 ?_
                 case e30_b8b17_17 => exact exec_cell 58 _ _ HPE.out (el_at (j := 0) HTL.out rfl) rfl rfl Try.underlying58 rfl
                 refine hK.out _ _ hHeld (fun hHeld2 => ?_)
                 clear hK K hHeld2
                 (try simp only [Act.put, sA, sB, sC])
                 refine tkQ 21 (.slice (cutA rc (j + 1) (some ⟨gr, 0, none⟩) 1) (rn - (j + 1)) (rc - (j + 1))) hHeld (he := by intro w hSw; exact exec_slice (s := 1) 58 9 _ _ _ _ rfl rfl Try.underlying58 (by kernel_rfl) (sb_l _ _ (l := j + 1) (by push_cast; rfl) (by have := HJN.out; omega)) (by rfl) rfl rfl) (h := ?_)
                 (try simp only [Act.put, sA, sB, sC])
                 refine wpAnyH_ready (rs := [3]) (by kernel_rfl) (by simp) ?_
                 refine AllReadyH.cons (o := ?o30_b8b17_3) ?h30_b8b17_3 (fun K hK => ?_) AllReadyH.nil
                 case h30_b8b17_3 => (first | (simp only [gA, gB, gC]; done) | (simp only [gA, gB, gC]; exact rfl))
                 rw [if_pos (by rfl)]
                 refine wp_new (fun b => .slice (some ⟨b, 0, none⟩) 0 0) 9 #[] (by rintro b rfl; first | rfl | kernel_rfl) ?_
                 intro bn172 w357 hge hB hb
                 refine hK.out _ _ (by (apply HRK.out; exact hb; exact hHeld)) (fun hHeld2 => ?_)
                 have HIn172_q := Lib.hid (NC.far (hHeld.2.2.2.1) hge)
                 have HIn172_r := Lib.hid (own_far (hHeld.2.2.2.2.1) hge)
                 have HIn172_x := Lib.hid (Rest.far (hHeld.2.2.2.2.2) hge)
                 have HPEk := Lib.hid (keep_blk hb HPE.out)
                 clear HPE
                 have HNn172E := Lib.hid (show bn172 ≠ gm by obtain ⟨old, Bo, _⟩ := hHeld.2.2.1; have := Blk.lt Bo; omega)
                 have HGn172 := Lib.hid (show w.heap.size ≤ bn172 by have := Since.size hHeld.1; (try simp at this); (try simp at hge); omega)
                 have HXn172 := Lib.hid hB
                 clear hB
                 clear hge
                 clear hK K hHeld hb
                 have hHeld := hHeld2
                 clear hHeld2
                 (try simp only [Act.put, sA, sB, sC])
                 have HOE2 := Lib.hid (own_empty (e := 9) (size := 1) HXn172.out HGn172.out)
                 clear HXn172
                 refine wpAnyH_ready (rs := [12]) (by kernel_rfl) (by simp) ?_
                 refine AllReadyH.cons (o := ?o30_b8b17_12) ?h30_b8b17_12 (fun K hK => ?_) AllReadyH.nil
                 case h30_b8b17_12 => (first | (simp only [gA, gB, gC]; done) | (simp only [gA, gB, gC]; exact rfl))
                 rw [if_pos (by rfl)]
                 refine wp_append_row (.tmp 172) (.tmp 180) 58 rfl w.heap.size 9 (.string ByteArray.empty) 1 16 Try.underlying58 (by kernel_rfl) rfl (by decide) (by decide) (some ⟨bn172, 0, none⟩) 0 0 ([]) rfl HOE2.out _ (some ⟨gr, 0, none⟩) j rc ((rowsOf strC rz).take (j * 1)) rfl (own_reads (own_prefix (hHeld.2.2.2.2.1) (by have := HJN.out; omega))) (fun u hu => strs_one rz u (List.mem_of_mem_take hu)) (by have q1 := HRN.out; have q2 := HCL.out (os i).tt; have q3 := HI200.out; have q4 := HJN.out; omega) (Since.size hHeld.1) j ((rowsOf strC rz).take (j * 1)) (Nat.zero_add _) rfl ?_
                 intro A_12 c_12 w358 hown hupd hfar
                 have hHeld3 := HKS.out.at_ w358 ⟨Since.upd hHeld.1 hupd (own_low HOE2.out), Upd.blk hupd (hHeld.2.1) (own_ne_ty HOE2.out (hHeld.2.1) (by decide)), HasRow.upd hupd (hHeld.2.2.1) (own_ne_ty HOE2.out HPEk.out (by decide)), NC.upd hupd (hHeld.2.2.2.1) (fun g hg h => HIn172_q.out (by simp [blkOf] at h; rw [← h]; exact hg)), Upd.own hupd (hHeld.2.2.2.2.1) (fun g hg h => HIn172_r.out (by simp [blkOf] at h; rw [← h]; exact hg)), Rest.upd hupd (hHeld.2.2.2.2.2) (fun g hg h => HIn172_x.out (by simp [blkOf] at h; rw [← h]; exact hg))⟩
                 have HDEq_12 := Lib.hid (dis_next hfar (fun g hg h => HIn172_q.out (by simp [blkOf] at h; rw [← h]; exact hg)) (NC.lt (hHeld.2.2.2.1)))
                 have HDEr_12 := Lib.hid (dis_next hfar (fun g hg h => HIn172_r.out (by simp [blkOf] at h; rw [← h]; exact hg)) (own_lt (hHeld.2.2.2.2.1)))
                 have HDEx_12 := Lib.hid (dis_next hfar (fun g hg h => HIn172_x.out (by simp [blkOf] at h; rw [← h]; exact hg)) (Rest.lt (hHeld.2.2.2.2.2)))
                 have HPEku := Lib.hid (Upd.blk hupd HPEk.out (own_ne_ty HOE2.out HPEk.out (by decide)))
                 have HIE_e_12 := Lib.hid (nin_next hfar (own_ne_ty HOE2.out HPEk.out (by decide)) (Blk.lt HPEk.out))
                 clear HPEk
                 have HOW_w358 := Lib.hid hown
                 refine hK.out _ _ hHeld3 (fun hHeld2 => ?_)
                 clear hK K hHeld hHeld3 hupd hown hfar HOE2 
                 have hHeld := hHeld2
                 clear hHeld2
                 (try simp only [Act.put, sA, sB, sC])
                 refine wpAnyH_ready (rs := [22]) (by kernel_rfl) (by simp) ?_
                 refine AllReadyH.cons (o := ?o30_b8b17_22) ?h30_b8b17_22 (fun K hK => ?_) AllReadyH.nil
                 case h30_b8b17_22 => (first | (simp only [gA, gB, gC]; done) | (simp only [gA, gB, gC]; exact rfl))
                 rw [if_pos (by rfl)]
                 refine wp_append_row (.tmp 181) (.tmp 190) 58 rfl w.heap.size 9 (.string ByteArray.empty) 1 16 Try.underlying58 (by kernel_rfl) rfl (by decide) (by decide) A_12 j c_12 ((rowsOf strC rz).take (j * 1)) rfl HOW_w358.out _ (cutA rc (j + 1) (some ⟨gr, 0, none⟩) 1) (rn - (j + 1)) (rc - (j + 1)) ((rowsOf strC rz).drop ((j + 1) * 1)) rfl (reads_cut (own_reads (hHeld.2.2.2.2.1)) (by have := HJN.out; omega) HCP.out) (fun u hu => strs_one rz u (List.mem_of_mem_drop hu)) (by have q1 := HRN.out; have q2 := HCL.out (os i).tt; have q3 := HI200.out; have q4 := HJN.out; omega) (Since.size hHeld.1) ((rz.eraseIdx j).length) (rowsOf strC (rz.eraseIdx j)) (by have q1 := HJN.out; have q2 := HZL.out; rw [List.length_eraseIdx]; split <;> omega) (erase_rows strC_len (by have q1 := HJN.out; have q2 := HZL.out; omega)) ?_
                 intro A_13 c_13 w359 hown hupd hfar
                 have hHeld3 := HKS.out.at_ w359 ⟨Since.upd hHeld.1 hupd (own_low HOW_w358.out), Upd.blk hupd (hHeld.2.1) (own_ne_ty HOW_w358.out (hHeld.2.1) (by decide)), HasRow.upd hupd (hHeld.2.2.1) (own_ne_ty HOW_w358.out HPEku.out (by decide)), NC.upd hupd (hHeld.2.2.2.1) HDEq_12.out, Upd.own hupd (hHeld.2.2.2.2.1) HDEr_12.out, Rest.upd hupd (hHeld.2.2.2.2.2) HDEx_12.out⟩
                 have HDEq_13 := Lib.hid (dis_next hfar HDEq_12.out (NC.lt (hHeld.2.2.2.1)))
                 have HDEr_13 := Lib.hid (dis_next hfar HDEr_12.out (own_lt (hHeld.2.2.2.2.1)))
                 have HDEx_13 := Lib.hid (dis_next hfar HDEx_12.out (Rest.lt (hHeld.2.2.2.2.2)))
                 have HPEkuu := Lib.hid (Upd.blk hupd HPEku.out (own_ne_ty HOW_w358.out HPEku.out (by decide)))
                 have HIE_e_13 := Lib.hid (nin_next hfar (own_ne_ty HOW_w358.out HPEku.out (by decide)) (Blk.lt HPEku.out))
                 clear HPEku
                 have HOW_w359 := Lib.hid hown
                 refine hK.out _ _ hHeld3 (fun hHeld2 => ?_)
                 clear hK K hHeld hHeld3 hupd hown hfar HOW_w358 
                 have hHeld := hHeld2
                 clear hHeld2
                 (try simp only [Act.put, sA, sB, sC])
                 refine tkQ 23 (.pointer (some ⟨gm, 0 + t * 1, none⟩)) hHeld (he := by intro w hSw; exact exec_index (i := t) (s := 1) 54 58 _ _ rfl rfl rfl HTT.out HTM.out Try.underlying54 (by kernel_rfl)) (h := ?_)
                 (try simp only [Act.put, sA, sB, sC])
                 refine wpAnyH_ready (rs := [24]) (by kernel_rfl) (by simp) ?_
                 refine AllReadyH.cons (o := ?o30_b8b17_24) ?h30_b8b17_24 (fun K hK => ?_) AllReadyH.nil
                 case h30_b8b17_24 => (first | (simp only [gA, gB, gC]; done) | (simp only [gA, gB, gC]; exact rfl))
                 rw [if_pos (by rfl)]
                 refine wp_st_cell 58 _ _ rfl (el (rowsOf rowC (rs.take t)) #[.slice A_13 ((rz.eraseIdx j).length) c_13] (rowsOf rowC (rs.drop (t + 1)))) (.slice A_13 ((rz.eraseIdx j).length) c_13) rfl rfl HPEkuu.out (el_lt (j := 0) HTL.out (by show 0 < 1; decide)) (el_set (j := 0) HTL.out (by show 0 < 1; decide) rfl) (by first | rfl | simp [Value.oneCell']) (by kernel_rfl) ?_
                 clear HPEkuu
                 intro w360 hw
                 have HOW_w359r := Lib.hid (show (w360).ownsRow w.heap.size 9 1 (.slice A_13 ((rz.eraseIdx j).length) c_13) ((rz.eraseIdx j).length) (rowsOf strC (rz.eraseIdx j)) by rw [hw]; exact own_row_far HOW_w359.out HIE_e_13.out _)
                 clear HOW_w359
                 have HRE := Lib.hid (show Blk w360 gm 58 (el (rowsOf rowC (rs.take t)) #[.slice A_13 ((rz.eraseIdx j).length) c_13] (rowsOf rowC (rs.drop (t + 1)))) by obtain ⟨old, Bo, _⟩ := hHeld.2.2.1; rw [hw]; exact Blk.row Bo _)
                 have hHeld3 := HKS.out.at_ w360 ⟨by rw [hw]; exact Since.setRow hHeld.1 HGE.out _, by rw [hw]; exact Blk.row_far (hHeld.2.1) (Ne.symm HNEO.out) _, HasRow.of HRE.out el_size, by rw [hw]; exact NC.row_far (hHeld.2.2.2.1) HEQ_.out _, by rw [hw]; exact own_row_far (hHeld.2.2.2.2.1) HER.out _, by rw [hw]; exact Rest.row_far (hHeld.2.2.2.2.2) HEX.out _⟩
                 refine hK.out _ _ hHeld3 (fun hHeld2 => ?_)
                 clear hK K hHeld hHeld3 hw
                 have hHeld := hHeld2
                 clear hHeld2
                 (try simp only [Act.put, sA, sB, sC])
                 refine wpAnyH_done (by kernel_rfl) ?_ _
                 have HSd30v6 := Lib.hid hHeld.1
                 have HBn10d30v6 := Lib.hid (hHeld.2.1)
                 have HBEd30v6 := Lib.hid HRE.out
                 clear HRE
                 have HFqd30v6 := Lib.hid (hHeld.2.2.2.1)
                 have HFrd30v6 := Lib.hid (hHeld.2.2.2.2.1)
                 have HFxd30v6 := Lib.hid (hHeld.2.2.2.2.2)
                 clear hHeld HRK HKS HS356 HBn10356 HE0 HFq356 HR0 HX0
                 have HFed30v6 := Lib.hid HOW_w359r.out
                 clear HOW_w359r
                 have HMO2 := Lib.hid (MO.close (r' := ⟨A_13, (rz.eraseIdx j).length, c_13, (rz.eraseIdx j)⟩) HGM.out HRT.out HND.out HBEd30v6.out HFed30v6.out HFxd30v6.out (fun g hg h => HDEx_13.out g h hg))
                 have HDM9 := Lib.hid (set_dis (r' := ⟨A_13, (rz.eraseIdx j).length, c_13, (rz.eraseIdx j)⟩) HTLT.out HEQ_.out (fun g hg h => HDEq_13.out g h hg) HXQ.out)
                 go_wp2_with fail
                 refine Met.intro ?_
                 exact hJ5 _ _ ⟨(delC c (os i).tt j), S3, (rs.set t ⟨A_13, (rz.eraseIdx j).length, c_13, (rz.eraseIdx j)⟩), (gm :: (rs.set t ⟨A_13, (rz.eraseIdx j).length, c_13, (rz.eraseIdx j)⟩).flatMap blkR), ⟨rfl, rfl, rfl, rfl, rfl, rfl, rfl, rfl, rfl, rfl, rfl, trivial⟩, Lib.hid ⟨(del_len HCL.out), (by rw [List.length_set]; exact HRL.out), (same_del HSM.out HRT.out HTT.out), HDM9.out, HSd30v6.out, HBn10d30v6.out, HFqd30v6.out, HMO2.out⟩⟩
               case g30__17b =>
                rw [if_pos (by rfl)]
                refine wp_q (.slice (some ⟨gr, 0, none⟩) rn rc) ?e30_b17_17 ?_
                case e30_b17_17 => exact exec_cell 58 _ _ HPE.out (el_at (j := 0) HTL.out rfl) rfl rfl Try.underlying58 rfl
                refine hK.out _ _ hHeld (fun hHeld2 => ?_)
                clear hK K hHeld2
                (try simp only [Act.put, sA, sB, sC])
                refine tkQ 21 (.slice (cutA rc (j + 1) (some ⟨gr, 0, none⟩) 1) (rn - (j + 1)) (rc - (j + 1))) hHeld (he := by intro w hSw; exact exec_slice (s := 1) 58 9 _ _ _ _ rfl rfl Try.underlying58 (by kernel_rfl) (sb_l _ _ (l := j + 1) (by push_cast; rfl) (by have := HJN.out; omega)) (by rfl) rfl rfl) (h := ?_)
                (try simp only [Act.put, sA, sB, sC])
                refine wpAnyH_ready (rs := [3, 8]) (by kernel_rfl) (by simp) ?_
                refine AllReadyH.cons (o := ?o30_b17_3b) ?h30_b17_3b (fun K hK => ?g30_b17_3b) (AllReadyH.cons (o := ?o30_b17_8b) ?h30_b17_8b (fun K hK => ?g30_b17_8b) AllReadyH.nil)
                case h30_b17_3b => (first | (simp only [gA, gB, gC]; done) | (simp only [gA, gB, gC]; exact rfl))
                case h30_b17_8b => (first | (simp only [gA, gB, gC]; done) | (simp only [gA, gB, gC]; exact rfl))
                case g30_b17_3b =>
                 rw [if_pos (by rfl)]
                 refine wp_new (fun b => .slice (some ⟨b, 0, none⟩) 0 0) 9 #[] (by rintro b rfl; first | rfl | kernel_rfl) ?_
                 intro bn172 w357 hge hB hb
                 refine hK.out _ _ (by (apply HRK.out; exact hb; exact hHeld)) (fun hHeld2 => ?_)
                 have HIn172_q := Lib.hid (NC.far (hHeld.2.2.2.1) hge)
                 have HIn172_r := Lib.hid (own_far (hHeld.2.2.2.2.1) hge)
                 have HIn172_x := Lib.hid (Rest.far (hHeld.2.2.2.2.2) hge)
                 have HPEk := Lib.hid (keep_blk hb HPE.out)
                 clear HPE
                 have HNn172E := Lib.hid (show bn172 ≠ gm by obtain ⟨old, Bo, _⟩ := hHeld.2.2.1; have := Blk.lt Bo; omega)
                 have HGn172 := Lib.hid (show w.heap.size ≤ bn172 by have := Since.size hHeld.1; (try simp at this); (try simp at hge); omega)
                 have HXn172 := Lib.hid hB
                 clear hB
                 clear hge
                 clear hK K hHeld hb
                 have hHeld := hHeld2
                 clear hHeld2
                 (try simp only [Act.put, sA, sB, sC])
                 have HOE2 := Lib.hid (own_empty (e := 9) (size := 1) HXn172.out HGn172.out)
                 clear HXn172
                 refine wpAnyH_ready (rs := [8]) (by kernel_rfl) (by simp) ?_
                 refine AllReadyH.cons (o := ?o30_b17b3_8) ?h30_b17b3_8 (fun K hK => ?_) AllReadyH.nil
                 case h30_b17b3_8 => (first | (simp only [gA, gB, gC]; done) | (simp only [gA, gB, gC]; exact rfl))
                 rw [if_pos (by rfl)]
                 refine wp_q (.slice (some ⟨gr, 0, none⟩) rn rc) ?e30_b17b3_8 ?_
                 case e30_b17b3_8 => exact exec_cell 58 _ _ HPEk.out (el_at (j := 0) HTL.out rfl) rfl rfl Try.underlying58 rfl
                 refine hK.out _ _ hHeld (fun hHeld2 => ?_)
                 clear hK K hHeld2
                 (try simp only [Act.put, sA, sB, sC])
                 refine tkQ 11 (.slice (some ⟨gr, 0, none⟩) j rc) hHeld (he := by intro w hSw; exact exec_slice (s := 1) 58 9 _ _ _ _ rfl rfl Try.underlying58 (by kernel_rfl) (sb_h _ _ (h := j) HJ.out (by have := HJN.out; have := HCP.out; omega)) (by split <;> simp [Addr.add]) rfl rfl) (h := ?_)
                 (try simp only [Act.put, sA, sB, sC])
                 refine wpAnyH_ready (rs := [12]) (by kernel_rfl) (by simp) ?_
                 refine AllReadyH.cons (o := ?o30_b17b3_12) ?h30_b17b3_12 (fun K hK => ?_) AllReadyH.nil
                 case h30_b17b3_12 => (first | (simp only [gA, gB, gC]; done) | (simp only [gA, gB, gC]; exact rfl))
                 rw [if_pos (by rfl)]
                 refine wp_append_row (.tmp 172) (.tmp 180) 58 rfl w.heap.size 9 (.string ByteArray.empty) 1 16 Try.underlying58 (by kernel_rfl) rfl (by decide) (by decide) (some ⟨bn172, 0, none⟩) 0 0 ([]) rfl HOE2.out _ (some ⟨gr, 0, none⟩) j rc ((rowsOf strC rz).take (j * 1)) rfl (own_reads (own_prefix (hHeld.2.2.2.2.1) (by have := HJN.out; omega))) (fun u hu => strs_one rz u (List.mem_of_mem_take hu)) (by have q1 := HRN.out; have q2 := HCL.out (os i).tt; have q3 := HI200.out; have q4 := HJN.out; omega) (Since.size hHeld.1) j ((rowsOf strC rz).take (j * 1)) (Nat.zero_add _) rfl ?_
                 intro A_14 c_14 w358 hown hupd hfar
                 have hHeld3 := HKS.out.at_ w358 ⟨Since.upd hHeld.1 hupd (own_low HOE2.out), Upd.blk hupd (hHeld.2.1) (own_ne_ty HOE2.out (hHeld.2.1) (by decide)), HasRow.upd hupd (hHeld.2.2.1) (own_ne_ty HOE2.out HPEk.out (by decide)), NC.upd hupd (hHeld.2.2.2.1) (fun g hg h => HIn172_q.out (by simp [blkOf] at h; rw [← h]; exact hg)), Upd.own hupd (hHeld.2.2.2.2.1) (fun g hg h => HIn172_r.out (by simp [blkOf] at h; rw [← h]; exact hg)), Rest.upd hupd (hHeld.2.2.2.2.2) (fun g hg h => HIn172_x.out (by simp [blkOf] at h; rw [← h]; exact hg))⟩
                 have HDEq_14 := Lib.hid (dis_next hfar (fun g hg h => HIn172_q.out (by simp [blkOf] at h; rw [← h]; exact hg)) (NC.lt (hHeld.2.2.2.1)))
                 have HDEr_14 := Lib.hid (dis_next hfar (fun g hg h => HIn172_r.out (by simp [blkOf] at h; rw [← h]; exact hg)) (own_lt (hHeld.2.2.2.2.1)))
                 have HDEx_14 := Lib.hid (dis_next hfar (fun g hg h => HIn172_x.out (by simp [blkOf] at h; rw [← h]; exact hg)) (Rest.lt (hHeld.2.2.2.2.2)))
                 have HPEku := Lib.hid (Upd.blk hupd HPEk.out (own_ne_ty HOE2.out HPEk.out (by decide)))
                 have HIE_e_14 := Lib.hid (nin_next hfar (own_ne_ty HOE2.out HPEk.out (by decide)) (Blk.lt HPEk.out))
                 clear HPEk
                 have HOW_w358 := Lib.hid hown
                 refine hK.out _ _ hHeld3 (fun hHeld2 => ?_)
                 clear hK K hHeld hHeld3 hupd hown hfar HOE2 
                 have hHeld := hHeld2
                 clear hHeld2
                 (try simp only [Act.put, sA, sB, sC])
                 refine wpAnyH_ready (rs := [22]) (by kernel_rfl) (by simp) ?_
                 refine AllReadyH.cons (o := ?o30_b17b3_22) ?h30_b17b3_22 (fun K hK => ?_) AllReadyH.nil
                 case h30_b17b3_22 => (first | (simp only [gA, gB, gC]; done) | (simp only [gA, gB, gC]; exact rfl))
                 rw [if_pos (by rfl)]
                 refine wp_append_row (.tmp 181) (.tmp 190) 58 rfl w.heap.size 9 (.string ByteArray.empty) 1 16 Try.underlying58 (by kernel_rfl) rfl (by decide) (by decide) A_14 j c_14 ((rowsOf strC rz).take (j * 1)) rfl HOW_w358.out _ (cutA rc (j + 1) (some ⟨gr, 0, none⟩) 1) (rn - (j + 1)) (rc - (j + 1)) ((rowsOf strC rz).drop ((j + 1) * 1)) rfl (reads_cut (own_reads (hHeld.2.2.2.2.1)) (by have := HJN.out; omega) HCP.out) (fun u hu => strs_one rz u (List.mem_of_mem_drop hu)) (by have q1 := HRN.out; have q2 := HCL.out (os i).tt; have q3 := HI200.out; have q4 := HJN.out; omega) (Since.size hHeld.1) ((rz.eraseIdx j).length) (rowsOf strC (rz.eraseIdx j)) (by have q1 := HJN.out; have q2 := HZL.out; rw [List.length_eraseIdx]; split <;> omega) (erase_rows strC_len (by have q1 := HJN.out; have q2 := HZL.out; omega)) ?_
                 intro A_15 c_15 w359 hown hupd hfar
                 have hHeld3 := HKS.out.at_ w359 ⟨Since.upd hHeld.1 hupd (own_low HOW_w358.out), Upd.blk hupd (hHeld.2.1) (own_ne_ty HOW_w358.out (hHeld.2.1) (by decide)), HasRow.upd hupd (hHeld.2.2.1) (own_ne_ty HOW_w358.out HPEku.out (by decide)), NC.upd hupd (hHeld.2.2.2.1) HDEq_14.out, Upd.own hupd (hHeld.2.2.2.2.1) HDEr_14.out, Rest.upd hupd (hHeld.2.2.2.2.2) HDEx_14.out⟩
                 have HDEq_15 := Lib.hid (dis_next hfar HDEq_14.out (NC.lt (hHeld.2.2.2.1)))
                 have HDEr_15 := Lib.hid (dis_next hfar HDEr_14.out (own_lt (hHeld.2.2.2.2.1)))
                 have HDEx_15 := Lib.hid (dis_next hfar HDEx_14.out (Rest.lt (hHeld.2.2.2.2.2)))
                 have HPEkuu := Lib.hid (Upd.blk hupd HPEku.out (own_ne_ty HOW_w358.out HPEku.out (by decide)))
                 have HIE_e_15 := Lib.hid (nin_next hfar (own_ne_ty HOW_w358.out HPEku.out (by decide)) (Blk.lt HPEku.out))
                 clear HPEku
                 have HOW_w359 := Lib.hid hown
                 refine hK.out _ _ hHeld3 (fun hHeld2 => ?_)
                 clear hK K hHeld hHeld3 hupd hown hfar HOW_w358 
                 have hHeld := hHeld2
                 clear hHeld2
                 (try simp only [Act.put, sA, sB, sC])
                 refine tkQ 23 (.pointer (some ⟨gm, 0 + t * 1, none⟩)) hHeld (he := by intro w hSw; exact exec_index (i := t) (s := 1) 54 58 _ _ rfl rfl rfl HTT.out HTM.out Try.underlying54 (by kernel_rfl)) (h := ?_)
                 (try simp only [Act.put, sA, sB, sC])
                 refine wpAnyH_ready (rs := [24]) (by kernel_rfl) (by simp) ?_
                 refine AllReadyH.cons (o := ?o30_b17b3_24) ?h30_b17b3_24 (fun K hK => ?_) AllReadyH.nil
                 case h30_b17b3_24 => (first | (simp only [gA, gB, gC]; done) | (simp only [gA, gB, gC]; exact rfl))
                 rw [if_pos (by rfl)]
                 refine wp_st_cell 58 _ _ rfl (el (rowsOf rowC (rs.take t)) #[.slice A_15 ((rz.eraseIdx j).length) c_15] (rowsOf rowC (rs.drop (t + 1)))) (.slice A_15 ((rz.eraseIdx j).length) c_15) rfl rfl HPEkuu.out (el_lt (j := 0) HTL.out (by show 0 < 1; decide)) (el_set (j := 0) HTL.out (by show 0 < 1; decide) rfl) (by first | rfl | simp [Value.oneCell']) (by kernel_rfl) ?_
                 clear HPEkuu
                 intro w360 hw
                 have HOW_w359r := Lib.hid (show (w360).ownsRow w.heap.size 9 1 (.slice A_15 ((rz.eraseIdx j).length) c_15) ((rz.eraseIdx j).length) (rowsOf strC (rz.eraseIdx j)) by rw [hw]; exact own_row_far HOW_w359.out HIE_e_15.out _)
                 clear HOW_w359
                 have HRE := Lib.hid (show Blk w360 gm 58 (el (rowsOf rowC (rs.take t)) #[.slice A_15 ((rz.eraseIdx j).length) c_15] (rowsOf rowC (rs.drop (t + 1)))) by obtain ⟨old, Bo, _⟩ := hHeld.2.2.1; rw [hw]; exact Blk.row Bo _)
                 have hHeld3 := HKS.out.at_ w360 ⟨by rw [hw]; exact Since.setRow hHeld.1 HGE.out _, by rw [hw]; exact Blk.row_far (hHeld.2.1) (Ne.symm HNEO.out) _, HasRow.of HRE.out el_size, by rw [hw]; exact NC.row_far (hHeld.2.2.2.1) HEQ_.out _, by rw [hw]; exact own_row_far (hHeld.2.2.2.2.1) HER.out _, by rw [hw]; exact Rest.row_far (hHeld.2.2.2.2.2) HEX.out _⟩
                 refine hK.out _ _ hHeld3 (fun hHeld2 => ?_)
                 clear hK K hHeld hHeld3 hw
                 have hHeld := hHeld2
                 clear hHeld2
                 (try simp only [Act.put, sA, sB, sC])
                 refine wpAnyH_done (by kernel_rfl) ?_ _
                 have HSd30v7 := Lib.hid hHeld.1
                 have HBn10d30v7 := Lib.hid (hHeld.2.1)
                 have HBEd30v7 := Lib.hid HRE.out
                 clear HRE
                 have HFqd30v7 := Lib.hid (hHeld.2.2.2.1)
                 have HFrd30v7 := Lib.hid (hHeld.2.2.2.2.1)
                 have HFxd30v7 := Lib.hid (hHeld.2.2.2.2.2)
                 clear hHeld HRK HKS HS356 HBn10356 HE0 HFq356 HR0 HX0
                 have HFed30v7 := Lib.hid HOW_w359r.out
                 clear HOW_w359r
                 have HMO2 := Lib.hid (MO.close (r' := ⟨A_15, (rz.eraseIdx j).length, c_15, (rz.eraseIdx j)⟩) HGM.out HRT.out HND.out HBEd30v7.out HFed30v7.out HFxd30v7.out (fun g hg h => HDEx_15.out g h hg))
                 have HDM9 := Lib.hid (set_dis (r' := ⟨A_15, (rz.eraseIdx j).length, c_15, (rz.eraseIdx j)⟩) HTLT.out HEQ_.out (fun g hg h => HDEq_15.out g h hg) HXQ.out)
                 go_wp2_with fail
                 refine Met.intro ?_
                 exact hJ5 _ _ ⟨(delC c (os i).tt j), S3, (rs.set t ⟨A_15, (rz.eraseIdx j).length, c_15, (rz.eraseIdx j)⟩), (gm :: (rs.set t ⟨A_15, (rz.eraseIdx j).length, c_15, (rz.eraseIdx j)⟩).flatMap blkR), ⟨rfl, rfl, rfl, rfl, rfl, rfl, rfl, rfl, rfl, rfl, rfl, trivial⟩, Lib.hid ⟨(del_len HCL.out), (by rw [List.length_set]; exact HRL.out), (same_del HSM.out HRT.out HTT.out), HDM9.out, HSd30v7.out, HBn10d30v7.out, HFqd30v7.out, HMO2.out⟩⟩
                case g30_b17_8b =>
                 rw [if_pos (by rfl)]
                 refine wp_q (.slice (some ⟨gr, 0, none⟩) rn rc) ?e30_b17b8_8 ?_
                 case e30_b17b8_8 => exact exec_cell 58 _ _ HPE.out (el_at (j := 0) HTL.out rfl) rfl rfl Try.underlying58 rfl
                 refine hK.out _ _ hHeld (fun hHeld2 => ?_)
                 clear hK K hHeld2
                 (try simp only [Act.put, sA, sB, sC])
                 refine tkQ 11 (.slice (some ⟨gr, 0, none⟩) j rc) hHeld (he := by intro w hSw; exact exec_slice (s := 1) 58 9 _ _ _ _ rfl rfl Try.underlying58 (by kernel_rfl) (sb_h _ _ (h := j) HJ.out (by have := HJN.out; have := HCP.out; omega)) (by split <;> simp [Addr.add]) rfl rfl) (h := ?_)
                 (try simp only [Act.put, sA, sB, sC])
                 refine wpAnyH_ready (rs := [3]) (by kernel_rfl) (by simp) ?_
                 refine AllReadyH.cons (o := ?o30_b17b8_3) ?h30_b17b8_3 (fun K hK => ?_) AllReadyH.nil
                 case h30_b17b8_3 => (first | (simp only [gA, gB, gC]; done) | (simp only [gA, gB, gC]; exact rfl))
                 rw [if_pos (by rfl)]
                 refine wp_new (fun b => .slice (some ⟨b, 0, none⟩) 0 0) 9 #[] (by rintro b rfl; first | rfl | kernel_rfl) ?_
                 intro bn172 w357 hge hB hb
                 refine hK.out _ _ (by (apply HRK.out; exact hb; exact hHeld)) (fun hHeld2 => ?_)
                 have HIn172_q := Lib.hid (NC.far (hHeld.2.2.2.1) hge)
                 have HIn172_r := Lib.hid (own_far (hHeld.2.2.2.2.1) hge)
                 have HIn172_x := Lib.hid (Rest.far (hHeld.2.2.2.2.2) hge)
                 have HPEk := Lib.hid (keep_blk hb HPE.out)
                 clear HPE
                 have HNn172E := Lib.hid (show bn172 ≠ gm by obtain ⟨old, Bo, _⟩ := hHeld.2.2.1; have := Blk.lt Bo; omega)
                 have HGn172 := Lib.hid (show w.heap.size ≤ bn172 by have := Since.size hHeld.1; (try simp at this); (try simp at hge); omega)
                 have HXn172 := Lib.hid hB
                 clear hB
                 clear hge
                 clear hK K hHeld hb
                 have hHeld := hHeld2
                 clear hHeld2
                 (try simp only [Act.put, sA, sB, sC])
                 have HOE2 := Lib.hid (own_empty (e := 9) (size := 1) HXn172.out HGn172.out)
                 clear HXn172
                 refine wpAnyH_ready (rs := [12]) (by kernel_rfl) (by simp) ?_
                 refine AllReadyH.cons (o := ?o30_b17b8_12) ?h30_b17b8_12 (fun K hK => ?_) AllReadyH.nil
                 case h30_b17b8_12 => (first | (simp only [gA, gB, gC]; done) | (simp only [gA, gB, gC]; exact rfl))
                 rw [if_pos (by rfl)]
                 refine wp_append_row (.tmp 172) (.tmp 180) 58 rfl w.heap.size 9 (.string ByteArray.empty) 1 16 Try.underlying58 (by kernel_rfl) rfl (by decide) (by decide) (some ⟨bn172, 0, none⟩) 0 0 ([]) rfl HOE2.out _ (some ⟨gr, 0, none⟩) j rc ((rowsOf strC rz).take (j * 1)) rfl (own_reads (own_prefix (hHeld.2.2.2.2.1) (by have := HJN.out; omega))) (fun u hu => strs_one rz u (List.mem_of_mem_take hu)) (by have q1 := HRN.out; have q2 := HCL.out (os i).tt; have q3 := HI200.out; have q4 := HJN.out; omega) (Since.size hHeld.1) j ((rowsOf strC rz).take (j * 1)) (Nat.zero_add _) rfl ?_
                 intro A_16 c_16 w358 hown hupd hfar
                 have hHeld3 := HKS.out.at_ w358 ⟨Since.upd hHeld.1 hupd (own_low HOE2.out), Upd.blk hupd (hHeld.2.1) (own_ne_ty HOE2.out (hHeld.2.1) (by decide)), HasRow.upd hupd (hHeld.2.2.1) (own_ne_ty HOE2.out HPEk.out (by decide)), NC.upd hupd (hHeld.2.2.2.1) (fun g hg h => HIn172_q.out (by simp [blkOf] at h; rw [← h]; exact hg)), Upd.own hupd (hHeld.2.2.2.2.1) (fun g hg h => HIn172_r.out (by simp [blkOf] at h; rw [← h]; exact hg)), Rest.upd hupd (hHeld.2.2.2.2.2) (fun g hg h => HIn172_x.out (by simp [blkOf] at h; rw [← h]; exact hg))⟩
                 have HDEq_16 := Lib.hid (dis_next hfar (fun g hg h => HIn172_q.out (by simp [blkOf] at h; rw [← h]; exact hg)) (NC.lt (hHeld.2.2.2.1)))
                 have HDEr_16 := Lib.hid (dis_next hfar (fun g hg h => HIn172_r.out (by simp [blkOf] at h; rw [← h]; exact hg)) (own_lt (hHeld.2.2.2.2.1)))
                 have HDEx_16 := Lib.hid (dis_next hfar (fun g hg h => HIn172_x.out (by simp [blkOf] at h; rw [← h]; exact hg)) (Rest.lt (hHeld.2.2.2.2.2)))
                 have HPEku := Lib.hid (Upd.blk hupd HPEk.out (own_ne_ty HOE2.out HPEk.out (by decide)))
                 have HIE_e_16 := Lib.hid (nin_next hfar (own_ne_ty HOE2.out HPEk.out (by decide)) (Blk.lt HPEk.out))
                 clear HPEk
                 have HOW_w358 := Lib.hid hown
                 refine hK.out _ _ hHeld3 (fun hHeld2 => ?_)
                 clear hK K hHeld hHeld3 hupd hown hfar HOE2 
                 have hHeld := hHeld2
                 clear hHeld2
                 (try simp only [Act.put, sA, sB, sC])
                 refine wpAnyH_ready (rs := [22]) (by kernel_rfl) (by simp) ?_
                 refine AllReadyH.cons (o := ?o30_b17b8_22) ?h30_b17b8_22 (fun K hK => ?_) AllReadyH.nil
                 case h30_b17b8_22 => (first | (simp only [gA, gB, gC]; done) | (simp only [gA, gB, gC]; exact rfl))
                 rw [if_pos (by rfl)]
                 refine wp_append_row (.tmp 181) (.tmp 190) 58 rfl w.heap.size 9 (.string ByteArray.empty) 1 16 Try.underlying58 (by kernel_rfl) rfl (by decide) (by decide) A_16 j c_16 ((rowsOf strC rz).take (j * 1)) rfl HOW_w358.out _ (cutA rc (j + 1) (some ⟨gr, 0, none⟩) 1) (rn - (j + 1)) (rc - (j + 1)) ((rowsOf strC rz).drop ((j + 1) * 1)) rfl (reads_cut (own_reads (hHeld.2.2.2.2.1)) (by have := HJN.out; omega) HCP.out) (fun u hu => strs_one rz u (List.mem_of_mem_drop hu)) (by have q1 := HRN.out; have q2 := HCL.out (os i).tt; have q3 := HI200.out; have q4 := HJN.out; omega) (Since.size hHeld.1) ((rz.eraseIdx j).length) (rowsOf strC (rz.eraseIdx j)) (by have q1 := HJN.out; have q2 := HZL.out; rw [List.length_eraseIdx]; split <;> omega) (erase_rows strC_len (by have q1 := HJN.out; have q2 := HZL.out; omega)) ?_
                 intro A_17 c_17 w359 hown hupd hfar
                 have hHeld3 := HKS.out.at_ w359 ⟨Since.upd hHeld.1 hupd (own_low HOW_w358.out), Upd.blk hupd (hHeld.2.1) (own_ne_ty HOW_w358.out (hHeld.2.1) (by decide)), HasRow.upd hupd (hHeld.2.2.1) (own_ne_ty HOW_w358.out HPEku.out (by decide)), NC.upd hupd (hHeld.2.2.2.1) HDEq_16.out, Upd.own hupd (hHeld.2.2.2.2.1) HDEr_16.out, Rest.upd hupd (hHeld.2.2.2.2.2) HDEx_16.out⟩
                 have HDEq_17 := Lib.hid (dis_next hfar HDEq_16.out (NC.lt (hHeld.2.2.2.1)))
                 have HDEr_17 := Lib.hid (dis_next hfar HDEr_16.out (own_lt (hHeld.2.2.2.2.1)))
                 have HDEx_17 := Lib.hid (dis_next hfar HDEx_16.out (Rest.lt (hHeld.2.2.2.2.2)))
                 have HPEkuu := Lib.hid (Upd.blk hupd HPEku.out (own_ne_ty HOW_w358.out HPEku.out (by decide)))
                 have HIE_e_17 := Lib.hid (nin_next hfar (own_ne_ty HOW_w358.out HPEku.out (by decide)) (Blk.lt HPEku.out))
                 clear HPEku
                 have HOW_w359 := Lib.hid hown
                 refine hK.out _ _ hHeld3 (fun hHeld2 => ?_)
                 clear hK K hHeld hHeld3 hupd hown hfar HOW_w358 
                 have hHeld := hHeld2
                 clear hHeld2
                 (try simp only [Act.put, sA, sB, sC])
                 refine tkQ 23 (.pointer (some ⟨gm, 0 + t * 1, none⟩)) hHeld (he := by intro w hSw; exact exec_index (i := t) (s := 1) 54 58 _ _ rfl rfl rfl HTT.out HTM.out Try.underlying54 (by kernel_rfl)) (h := ?_)
                 (try simp only [Act.put, sA, sB, sC])
                 refine wpAnyH_ready (rs := [24]) (by kernel_rfl) (by simp) ?_
                 refine AllReadyH.cons (o := ?o30_b17b8_24) ?h30_b17b8_24 (fun K hK => ?_) AllReadyH.nil
                 case h30_b17b8_24 => (first | (simp only [gA, gB, gC]; done) | (simp only [gA, gB, gC]; exact rfl))
                 rw [if_pos (by rfl)]
                 refine wp_st_cell 58 _ _ rfl (el (rowsOf rowC (rs.take t)) #[.slice A_17 ((rz.eraseIdx j).length) c_17] (rowsOf rowC (rs.drop (t + 1)))) (.slice A_17 ((rz.eraseIdx j).length) c_17) rfl rfl HPEkuu.out (el_lt (j := 0) HTL.out (by show 0 < 1; decide)) (el_set (j := 0) HTL.out (by show 0 < 1; decide) rfl) (by first | rfl | simp [Value.oneCell']) (by kernel_rfl) ?_
                 clear HPEkuu
                 intro w360 hw
                 have HOW_w359r := Lib.hid (show (w360).ownsRow w.heap.size 9 1 (.slice A_17 ((rz.eraseIdx j).length) c_17) ((rz.eraseIdx j).length) (rowsOf strC (rz.eraseIdx j)) by rw [hw]; exact own_row_far HOW_w359.out HIE_e_17.out _)
                 clear HOW_w359
                 have HRE := Lib.hid (show Blk w360 gm 58 (el (rowsOf rowC (rs.take t)) #[.slice A_17 ((rz.eraseIdx j).length) c_17] (rowsOf rowC (rs.drop (t + 1)))) by obtain ⟨old, Bo, _⟩ := hHeld.2.2.1; rw [hw]; exact Blk.row Bo _)
                 have hHeld3 := HKS.out.at_ w360 ⟨by rw [hw]; exact Since.setRow hHeld.1 HGE.out _, by rw [hw]; exact Blk.row_far (hHeld.2.1) (Ne.symm HNEO.out) _, HasRow.of HRE.out el_size, by rw [hw]; exact NC.row_far (hHeld.2.2.2.1) HEQ_.out _, by rw [hw]; exact own_row_far (hHeld.2.2.2.2.1) HER.out _, by rw [hw]; exact Rest.row_far (hHeld.2.2.2.2.2) HEX.out _⟩
                 refine hK.out _ _ hHeld3 (fun hHeld2 => ?_)
                 clear hK K hHeld hHeld3 hw
                 have hHeld := hHeld2
                 clear hHeld2
                 (try simp only [Act.put, sA, sB, sC])
                 refine wpAnyH_done (by kernel_rfl) ?_ _
                 have HSd30v8 := Lib.hid hHeld.1
                 have HBn10d30v8 := Lib.hid (hHeld.2.1)
                 have HBEd30v8 := Lib.hid HRE.out
                 clear HRE
                 have HFqd30v8 := Lib.hid (hHeld.2.2.2.1)
                 have HFrd30v8 := Lib.hid (hHeld.2.2.2.2.1)
                 have HFxd30v8 := Lib.hid (hHeld.2.2.2.2.2)
                 clear hHeld HRK HKS HS356 HBn10356 HE0 HFq356 HR0 HX0
                 have HFed30v8 := Lib.hid HOW_w359r.out
                 clear HOW_w359r
                 have HMO2 := Lib.hid (MO.close (r' := ⟨A_17, (rz.eraseIdx j).length, c_17, (rz.eraseIdx j)⟩) HGM.out HRT.out HND.out HBEd30v8.out HFed30v8.out HFxd30v8.out (fun g hg h => HDEx_17.out g h hg))
                 have HDM9 := Lib.hid (set_dis (r' := ⟨A_17, (rz.eraseIdx j).length, c_17, (rz.eraseIdx j)⟩) HTLT.out HEQ_.out (fun g hg h => HDEq_17.out g h hg) HXQ.out)
                 go_wp2_with fail
                 refine Met.intro ?_
                 exact hJ5 _ _ ⟨(delC c (os i).tt j), S3, (rs.set t ⟨A_17, (rz.eraseIdx j).length, c_17, (rz.eraseIdx j)⟩), (gm :: (rs.set t ⟨A_17, (rz.eraseIdx j).length, c_17, (rz.eraseIdx j)⟩).flatMap blkR), ⟨rfl, rfl, rfl, rfl, rfl, rfl, rfl, rfl, rfl, rfl, rfl, trivial⟩, Lib.hid ⟨(del_len HCL.out), (by rw [List.length_set]; exact HRL.out), (same_del HSM.out HRT.out HTT.out), HDM9.out, HSd30v8.out, HBn10d30v8.out, HFqd30v8.out, HMO2.out⟩⟩
              | false =>
               have HHAS := Lib.hid hhas; clear hhas
               go_upto_region 22 with fail
               refine wp_region_lit ?_
               refine tkL (.slice none 0 0) (h := ?_)
               (try simp only [Act.put, sA, sB, sC])
               refine wpList_nil ?_
               go_upto_region 23 with fail
               refine wp_region_lit ?_
               refine tkL (.bool false) (h := ?_)
               (try simp only [Act.put, sA, sB, sC])
               refine wpList_nil ?_
               go_upto_region 24 with fail
               refine wp_region_lit ?_
               refine tkL (.pointer (some ⟨bn10, 0, none⟩)) (h := ?_)
               (try simp only [Act.put, sA, sB, sC])
               refine wpList_q (by rfl) (.int .i64 ((os i).k)) ?he ?_
               case he => exact exec_cell 3 _ _ HBn10255.out rfl rfl rfl Try.underlying3 rfl
               (try simp only [Act.put, sA, sB, sC])
               refine tkL (.bool ((os i).k == 2)) (h := ?_)
               (try simp only [Act.put, sA, sB, sC])
               refine wpList_nil ?_
               cases hkb : ((os i).k == 2) with
               | true =>
                have HKB := Lib.hid hkb; clear hkb
                go_upto_region 25 with fail
                refine wp_region_lit ?_
                refine tkL (.pointer (some ⟨q1, 0, none⟩)) (h := ?_)
                (try simp only [Act.put, sA, sB, sC])
                refine tkL (.pointer (some ⟨bn10, 1, none⟩)) (h := ?_)
                (try simp only [Act.put, sA, sB, sC])
                refine wpList_q (by rfl) (.int .i64 ((os i).tt)) ?he ?_
                case he => exact exec_cell 3 _ _ HBn10255.out rfl rfl rfl Try.underlying3 rfl
                (try simp only [Act.put, sA, sB, sC])
                refine tkL (.pointer (some ⟨bn10, 2, none⟩)) (h := ?_)
                (try simp only [Act.put, sA, sB, sC])
                refine wpList_q (by rfl) (.int .i64 ((os i).ix)) ?he ?_
                case he => exact exec_cell 3 _ _ HBn10255.out rfl rfl rfl Try.underlying3 rfl
                (try simp only [Act.put, sA, sB, sC])
                refine wpList_wp (by rfl) (fun K hK => ?_)
                (try go_simp)
                refine (takeN w.heap.size q1 ends room i c Sq (os i).tt (os i).ix _ HFq255.out HWF.out HHAS.out).mono ?_
                rintro e w' ⟨rfl, rfl⟩
                (try go_wp2_with fail)
                refine hK.out _ _ ?_
                clear hK K
                (try simp only [Act.put, sA, sB, sC])
                refine tkL (.tuple #[.slice none 0 0, .bool false]) (h := ?_)
                (try simp only [Act.put, sA, sB, sC])
                refine tkL (.slice none 0 0) (h := ?_)
                (try simp only [Act.put, sA, sB, sC])
                refine tkL (.bool false) (h := ?_)
                (try simp only [Act.put, sA, sB, sC])
                refine tkL (.slice none 0 0) (h := ?_)
                (try simp only [Act.put, sA, sB, sC])
                refine tkL (.bool false) (h := ?_)
                (try simp only [Act.put, sA, sB, sC])
                refine wpList_nil ?_
                go_upto_region 27 with fail
                have HKS : Hid (KeepS (fun W : World => Since w W ∧ Blk W bn10 57 #[.int .i64 ((os i).k), .int .i64 ((os i).tt), .int .i64 ((os i).ix), .slice (os i).A (os i).n (os i).c] ∧ NC w.heap.size q1 ends room i c Sq W ∧ MO w.heap.size gm rs Sm W) wc) := Lib.hid ⟨fun W W' k ⟨h, h0, h1, h2⟩ => ⟨h.trans k, keep_blk k h0, NC.keep k h1, MO.keep k h2⟩, ⟨HS255.out, HBn10255.out, HFq255.out, HFmo255.out⟩⟩
                have HRK := Lib.hid HKS.out.1
                refine wp_held HKS.out (by kernel_rfl) (fun hHeld => ?_)
                refine tkQ 0 (.bool false) hHeld (h := ?_)
                (try simp only [Act.put, sA, sB, sC])
                refine tkQ 1 (.bool false) hHeld (h := ?_)
                (try simp only [Act.put, sA, sB, sC])
                refine tkQ 2 (.bool false) hHeld (he := by intro w hSw; (go_simp; (try with_reducible rfl))) (h := ?_)
                (try simp only [Act.put, sA, sB, sC])
                refine tkQ 3 (.bool false) hHeld (h := ?_)
                (try simp only [Act.put, sA, sB, sC])
                refine tkQ 4 (.pointer (some ⟨bn10, 0, none⟩)) hHeld (h := ?_)
                (try simp only [Act.put, sA, sB, sC])
                refine tkQ 5 (.int .i64 ((os i).k)) hHeld (he := by intro w hSw; exact exec_cell 3 _ _ hSw.2.1 rfl rfl rfl Try.underlying3 rfl) (h := ?_)
                (try simp only [Act.put, sA, sB, sC])
                refine tkQ 6 (.bool true) hHeld (he := by intro w hSw; (have q := HKB.out; go_simp; (first | done | exact q | (simp [q]; done) | (simp at q; simp [q]; done)))) (h := ?_)
                (try simp only [Act.put, sA, sB, sC])
                refine tkQ 7 (.bool true) hHeld (h := ?_)
                (try simp only [Act.put, sA, sB, sC])
                refine tkQ 8 (.bool false) hHeld (h := ?_)
                (try simp only [Act.put, sA, sB, sC])
                refine tkQ 9 (.bool false) hHeld (h := ?_)
                (try simp only [Act.put, sA, sB, sC])
                refine tkQ 10 (.bool false) hHeld (h := ?_)
                (try simp only [Act.put, sA, sB, sC])
                refine tkU 11 hHeld (h := ?_)
                (try simp only [Act.put, sA, sB, sC])
                refine tkU 12 hHeld (h := ?_)
                (try simp only [Act.put, sA, sB, sC])
                refine tkU 13 hHeld (h := ?_)
                (try simp only [Act.put, sA, sB, sC])
                refine tkU 14 hHeld (h := ?_)
                (try simp only [Act.put, sA, sB, sC])
                refine tkU 15 hHeld (h := ?_)
                (try simp only [Act.put, sA, sB, sC])
                refine tkU 16 hHeld (h := ?_)
                (try simp only [Act.put, sA, sB, sC])
                refine tkU 17 hHeld (h := ?_)
                (try simp only [Act.put, sA, sB, sC])
                refine tkU 18 hHeld (h := ?_)
                (try simp only [Act.put, sA, sB, sC])
                refine tkU 19 hHeld (h := ?_)
                (try simp only [Act.put, sA, sB, sC])
                refine tkU 20 hHeld (h := ?_)
                (try simp only [Act.put, sA, sB, sC])
                refine tkU 21 hHeld (h := ?_)
                (try simp only [Act.put, sA, sB, sC])
                refine tkU 22 hHeld (h := ?_)
                (try simp only [Act.put, sA, sB, sC])
                refine tkQ 23 (.bool false) hHeld (h := ?_)
                (try simp only [Act.put, sA, sB, sC])
                refine tkQ 24 (.bool false) hHeld (h := ?_)
                (try simp only [Act.put, sA, sB, sC])
                refine tkQ 25 (.bool false) hHeld (h := ?_)
                (try simp only [Act.put, sA, sB, sC])
                refine tkQ 26 (.bool false) hHeld (h := ?_)
                (try simp only [Act.put, sA, sB, sC])
                refine tkQ 27 (.bool true) hHeld (he := by intro w hSw; (go_simp; (try with_reducible rfl))) (h := ?_)
                (try simp only [Act.put, sA, sB, sC])
                refine tkQ 28 (.bool true) hHeld (h := ?_)
                (try simp only [Act.put, sA, sB, sC])
                refine tkQ 29 (.slice none 0 0) hHeld (h := ?_)
                (try simp only [Act.put, sA, sB, sC])
                refine tkQ 30 (.int .i64 0) hHeld (h := ?_)
                (try simp only [Act.put, sA, sB, sC])
                refine tkQ 31 (.bool false) hHeld (he := by intro w hSw; (go_simp; (try with_reducible rfl))) (h := ?_)
                (try simp only [Act.put, sA, sB, sC])
                refine tkQ 32 (.bool false) hHeld (h := ?_)
                (try simp only [Act.put, sA, sB, sC])
                refine tkQ 33 (.bool false) hHeld (h := ?_)
                (try simp only [Act.put, sA, sB, sC])
                refine wpAnyH_done (by kernel_rfl) ?_ _
                have HSd27 := Lib.hid hHeld.1
                have HBn10d27 := Lib.hid (hHeld.2.1)
                have HFqd27 := Lib.hid (hHeld.2.2.1)
                have HFmod27 := Lib.hid (hHeld.2.2.2)
                clear hHeld HRK HKS HS255 HBn10255 HFq255 HFmo255
                go_upto_region 29 with fail
                refine wp_region_lit ?_
                refine tkL (.bool false) (h := ?_)
                (try simp only [Act.put, sA, sB, sC])
                refine wpList_nil ?_
                have HQM255 := Lib.hid (NC.more HFqd27.out (Nat.le_succ i))
                go_wp2_with fail
                refine Met.intro ?_
                exact hJ5 _ _ ⟨c, Sq, rs, Sm, ⟨rfl, rfl, rfl, rfl, rfl, rfl, rfl, rfl, rfl, rfl, rfl, trivial⟩, Lib.hid ⟨(fun x => Nat.le_succ_of_le (HCL.out x)), HRL.out, HSM.out, HDM.out, HSd27.out, HBn10d27.out, HQM255.out, HFmod27.out⟩⟩
               | false =>
                have HKB := Lib.hid hkb; clear hkb
                go_upto_region 26 with fail
                refine wp_region_lit ?_
                refine tkL (.pointer (some ⟨q1, 0, none⟩)) (h := ?_)
                (try simp only [Act.put, sA, sB, sC])
                refine tkL (.pointer (some ⟨bn10, 1, none⟩)) (h := ?_)
                (try simp only [Act.put, sA, sB, sC])
                refine wpList_q (by rfl) (.int .i64 ((os i).tt)) ?he ?_
                case he => exact exec_cell 3 _ _ HBn10255.out rfl rfl rfl Try.underlying3 rfl
                (try simp only [Act.put, sA, sB, sC])
                refine tkL (.pointer (some ⟨bn10, 2, none⟩)) (h := ?_)
                (try simp only [Act.put, sA, sB, sC])
                refine wpList_q (by rfl) (.int .i64 ((os i).ix)) ?he ?_
                case he => exact exec_cell 3 _ _ HBn10255.out rfl rfl rfl Try.underlying3 rfl
                (try simp only [Act.put, sA, sB, sC])
                refine wpList_wp (by rfl) (fun K hK => ?_)
                (try go_simp)
                refine (loseN w.heap.size q1 ends room i c Sq (os i).tt (os i).ix _ HFq255.out HWF.out HHAS.out).mono ?_
                rintro e w' ⟨rfl, rfl⟩
                (try go_wp2_with fail)
                refine hK.out _ _ ?_
                clear hK K
                (try simp only [Act.put, sA, sB, sC])
                refine tkL (.bool false) (h := ?_)
                (try simp only [Act.put, sA, sB, sC])
                refine wpList_nil ?_
                go_upto_region 27 with fail
                have HKS : Hid (KeepS (fun W : World => Since w W ∧ Blk W bn10 57 #[.int .i64 ((os i).k), .int .i64 ((os i).tt), .int .i64 ((os i).ix), .slice (os i).A (os i).n (os i).c] ∧ NC w.heap.size q1 ends room i c Sq W ∧ MO w.heap.size gm rs Sm W) wc) := Lib.hid ⟨fun W W' k ⟨h, h0, h1, h2⟩ => ⟨h.trans k, keep_blk k h0, NC.keep k h1, MO.keep k h2⟩, ⟨HS255.out, HBn10255.out, HFq255.out, HFmo255.out⟩⟩
                have HRK := Lib.hid HKS.out.1
                refine wp_held HKS.out (by kernel_rfl) (fun hHeld => ?_)
                refine tkQ 0 (.bool false) hHeld (h := ?_)
                (try simp only [Act.put, sA, sB, sC])
                refine tkQ 1 (.bool false) hHeld (h := ?_)
                (try simp only [Act.put, sA, sB, sC])
                refine tkQ 2 (.bool false) hHeld (he := by intro w hSw; (go_simp; (try with_reducible rfl))) (h := ?_)
                (try simp only [Act.put, sA, sB, sC])
                refine tkQ 3 (.bool false) hHeld (h := ?_)
                (try simp only [Act.put, sA, sB, sC])
                refine tkQ 4 (.pointer (some ⟨bn10, 0, none⟩)) hHeld (h := ?_)
                (try simp only [Act.put, sA, sB, sC])
                refine tkQ 5 (.int .i64 ((os i).k)) hHeld (he := by intro w hSw; exact exec_cell 3 _ _ hSw.2.1 rfl rfl rfl Try.underlying3 rfl) (h := ?_)
                (try simp only [Act.put, sA, sB, sC])
                refine tkQ 6 (.bool false) hHeld (he := by intro w hSw; (have q := HKB.out; go_simp; (first | done | exact q | (simp [q]; done) | (simp at q; simp [q]; done)))) (h := ?_)
                (try simp only [Act.put, sA, sB, sC])
                refine tkQ 7 (.bool false) hHeld (h := ?_)
                (try simp only [Act.put, sA, sB, sC])
                refine tkU 8 hHeld (h := ?_)
                (try simp only [Act.put, sA, sB, sC])
                refine tkQ 9 (.bool false) hHeld (h := ?_)
                (try simp only [Act.put, sA, sB, sC])
                refine tkQ 10 (.bool false) hHeld (h := ?_)
                (try simp only [Act.put, sA, sB, sC])
                refine tkU 11 hHeld (h := ?_)
                (try simp only [Act.put, sA, sB, sC])
                refine tkU 12 hHeld (h := ?_)
                (try simp only [Act.put, sA, sB, sC])
                refine tkU 13 hHeld (h := ?_)
                (try simp only [Act.put, sA, sB, sC])
                refine tkU 14 hHeld (h := ?_)
                (try simp only [Act.put, sA, sB, sC])
                refine tkU 15 hHeld (h := ?_)
                (try simp only [Act.put, sA, sB, sC])
                refine tkU 16 hHeld (h := ?_)
                (try simp only [Act.put, sA, sB, sC])
                refine tkU 17 hHeld (h := ?_)
                (try simp only [Act.put, sA, sB, sC])
                refine tkU 18 hHeld (h := ?_)
                (try simp only [Act.put, sA, sB, sC])
                refine tkU 19 hHeld (h := ?_)
                (try simp only [Act.put, sA, sB, sC])
                refine tkU 20 hHeld (h := ?_)
                (try simp only [Act.put, sA, sB, sC])
                refine tkU 21 hHeld (h := ?_)
                (try simp only [Act.put, sA, sB, sC])
                refine tkU 22 hHeld (h := ?_)
                (try simp only [Act.put, sA, sB, sC])
                refine tkQ 23 (.bool false) hHeld (h := ?_)
                (try simp only [Act.put, sA, sB, sC])
                refine tkQ 24 (.bool false) hHeld (h := ?_)
                (try simp only [Act.put, sA, sB, sC])
                refine tkQ 25 (.bool false) hHeld (h := ?_)
                (try simp only [Act.put, sA, sB, sC])
                refine tkQ 26 (.bool false) hHeld (h := ?_)
                (try simp only [Act.put, sA, sB, sC])
                refine tkQ 27 (.bool true) hHeld (he := by intro w hSw; (go_simp; (try with_reducible rfl))) (h := ?_)
                (try simp only [Act.put, sA, sB, sC])
                refine tkQ 28 (.bool true) hHeld (h := ?_)
                (try simp only [Act.put, sA, sB, sC])
                refine tkQ 29 (.slice none 0 0) hHeld (h := ?_)
                (try simp only [Act.put, sA, sB, sC])
                refine tkQ 30 (.int .i64 0) hHeld (h := ?_)
                (try simp only [Act.put, sA, sB, sC])
                refine tkQ 31 (.bool false) hHeld (he := by intro w hSw; (go_simp; (try with_reducible rfl))) (h := ?_)
                (try simp only [Act.put, sA, sB, sC])
                refine tkQ 32 (.bool false) hHeld (h := ?_)
                (try simp only [Act.put, sA, sB, sC])
                refine tkQ 33 (.bool false) hHeld (h := ?_)
                (try simp only [Act.put, sA, sB, sC])
                refine wpAnyH_done (by kernel_rfl) ?_ _
                have HSd27 := Lib.hid hHeld.1
                have HBn10d27 := Lib.hid (hHeld.2.1)
                have HFqd27 := Lib.hid (hHeld.2.2.1)
                have HFmod27 := Lib.hid (hHeld.2.2.2)
                clear hHeld HRK HKS HS255 HBn10255 HFq255 HFmo255
                go_upto_region 29 with fail
                refine wp_region_lit ?_
                refine tkL (.bool false) (h := ?_)
                (try simp only [Act.put, sA, sB, sC])
                refine wpList_nil ?_
                have HQM255 := Lib.hid (NC.more HFqd27.out (Nat.le_succ i))
                go_wp2_with fail
                refine Met.intro ?_
                exact hJ5 _ _ ⟨c, Sq, rs, Sm, ⟨rfl, rfl, rfl, rfl, rfl, rfl, rfl, rfl, rfl, rfl, rfl, trivial⟩, Lib.hid ⟨(fun x => Nat.le_succ_of_le (HCL.out x)), HRL.out, HSM.out, HDM.out, HSd27.out, HBn10d27.out, HQM255.out, HFmod27.out⟩⟩
          · have HK1 := Lib.hid hcs; clear hcs
            go_upto_region 15 with fail
            refine wp_region_lit ?_
            refine wpList_q (by rfl) (.bool true) ?he ?_
            case he => (have q := HK1.out; go_simp; (first | done | exact q | (simp [q]; done)))
            (try simp only [Act.put, sA, sB, sC])
            refine tkL (.bool true) (h := ?_)
            (try simp only [Act.put, sA, sB, sC])
            refine wpList_nil ?_
            go_upto_region 16 with fail
            have HKS : Hid (KeepS (fun W : World => Since w W ∧ Blk W bn10 57 #[.int .i64 ((os i).k), .int .i64 ((os i).tt), .int .i64 ((os i).ix), .slice (os i).A (os i).n (os i).c] ∧ MO w.heap.size gm rs Sm W) wc) := Lib.hid ⟨fun W W' k ⟨h, h0, h1⟩ => ⟨h.trans k, keep_blk k h0, MO.keep k h1⟩, ⟨HS205.out, HBn10205.out, HFmo205.out⟩⟩
            have HRK := Lib.hid HKS.out.1
            have HEq := Lib.hid (show NC w.heap.size q1 ends room i c Sq (World.drew wc) from HFq205.out)
            clear HFq205
            refine wp_held HKS.out (by kernel_rfl) (fun hHeld => ?_)
            refine tkQ 0 (.pointer (some ⟨q1, 0, none⟩)) hHeld (h := ?_)
            (try simp only [Act.put, sA, sB, sC])
            refine tkQ 1 (.pointer (some ⟨bn10, 1, none⟩)) hHeld (h := ?_)
            (try simp only [Act.put, sA, sB, sC])
            refine tkQ 2 (.int .i64 ((os i).tt)) hHeld (he := by intro w hSw; exact exec_cell 3 _ _ hSw.2.1 rfl rfl rfl Try.underlying3 rfl) (h := ?_)
            (try simp only [Act.put, sA, sB, sC])
            refine tkQ 4 (.pointer (some ⟨bn10, 3, none⟩)) hHeld (h := ?_)
            (try simp only [Act.put, sA, sB, sC])
            refine tkQ 5 (.slice (os i).A (os i).n (os i).c) hHeld (he := by intro w hSw; exact exec_cell 55 _ _ hSw.2.1 rfl rfl rfl Try.underlying55 rfl) (h := ?_)
            (try simp only [Act.put, sA, sB, sC])
            refine tkQ 8 (.bool (okP c ends room (os i).tt)) hHeld (h := ?_)
            (try simp only [Act.put, sA, sB, sC])
            refine wpAnyH_ready (rs := [3]) (by kernel_rfl) (by simp) ?_
            refine AllReadyH.cons (o := ?o16__3) ?h16__3 (fun K hK => ?_) AllReadyH.nil
            case h16__3 => (first | (simp only [gA, gB, gC]; done) | (simp only [gA, gB, gC]; exact rfl))
            rw [if_pos (by rfl)]
            refine wp_new (fun b => .slice (some ⟨b, 0, none⟩) 0 0) 5 #[] (by rintro b rfl; first | rfl | kernel_rfl) ?_
            intro bn91 w206 hge hB hb
            refine hK.out _ _ (by (apply HRK.out; exact hb; exact hHeld)) (fun hHeld2 => ?_)
            have HIn91_mo := Lib.hid (MO.far (hHeld.2.2) hge)
            have HIn91_q := Lib.hid (NC.far HEq.out hge)
            have HEqk := Lib.hid (NC.keep hb HEq.out)
            clear HEq
            have HGn91 := Lib.hid (show w.heap.size ≤ bn91 by have := Since.size hHeld.1; (try simp at this); (try simp at hge); omega)
            have HXn91 := Lib.hid hB
            clear hB
            clear hge
            clear hK K hHeld hb
            have hHeld := hHeld2
            clear hHeld2
            (try simp only [Act.put, sA, sB, sC])
            have HOE2 := Lib.hid (own_empty (e := 5) (size := 1) HXn91.out HGn91.out)
            clear HXn91
            refine wpAnyH_ready (rs := [6]) (by kernel_rfl) (by simp) ?_
            refine AllReadyH.cons (o := ?o16__6) ?h16__6 (fun K hK => ?_) AllReadyH.nil
            case h16__6 => (first | (simp only [gA, gB, gC]; done) | (simp only [gA, gB, gC]; exact rfl))
            rw [if_pos (by rfl)]
            refine wp_append_row (.tmp 91) (.tmp 93) 55 rfl w.heap.size 5 (.int .u8 0) 1 1 Try.underlying55 (by kernel_rfl) rfl (by decide) (by decide) (some ⟨bn91, 0, none⟩) 0 0 ([]) rfl HOE2.out _ ((os i).A) ((os i).n) ((os i).c) (cells (os i).zs) rfl (BV.reads (keep_bv hHeld.1 HOK.out.1)) (Go.Proofs.Ytlihhjcneedgnaa.Byt.cells_one (os i).zs) (by have := HNF.out; omega) (Since.size hHeld.1) ((os i).n) (cells (os i).zs) (Nat.zero_add _) rfl ?_
            intro A_2 c_2 w207 hown hupd hfar
            have hHeld3 := HKS.out.at_ w207 ⟨Since.upd hHeld.1 hupd (own_low HOE2.out), Upd.blk hupd (hHeld.2.1) (own_ne_ty HOE2.out (hHeld.2.1) (by decide)), MO.upd hupd (hHeld.2.2) (fun g hg h => HIn91_mo.out (by simp [blkOf] at h; rw [← h]; exact hg))⟩
            have HDEmo_2 := Lib.hid (dis_next hfar (fun g hg h => HIn91_mo.out (by simp [blkOf] at h; rw [← h]; exact hg)) (MO.lt (hHeld.2.2)))
            have HEqkuw207 := Lib.hid (NC.upd hupd HEqk.out (fun g hg h => HIn91_q.out (by simp [blkOf] at h; rw [← h]; exact hg)))
            have HDXq_d_2 := Lib.hid (dis_next hfar (fun g hg h => HIn91_q.out (by simp [blkOf] at h; rw [← h]; exact hg)) (NC.lt HEqk.out))
            clear HEqk
            have HOW_w207 := Lib.hid hown
            refine hK.out _ _ hHeld3 (fun hHeld2 => ?_)
            clear hK K hHeld hHeld3 hupd hown hfar HOE2 
            have hHeld := hHeld2
            clear hHeld2
            (try simp only [Act.put, sA, sB, sC])
            refine wpAnyH_ready (rs := [7]) (by kernel_rfl) (by simp) ?_
            refine AllReadyH.cons (o := ?o16__7) ?h16__7 (fun K hK => ?_) AllReadyH.nil
            case h16__7 => (first | (simp only [gA, gB, gC]; done) | (simp only [gA, gB, gC]; exact rfl))
            (try go_simp)
            refine (putCT w.heap.size q1 ends room i c Sq (os i).tt _ _ _ (os i).zs _ HEqkuw207.out HWF.out (by have q := HCL.out (os i).tt; have := HI200.out; omega) (BV.of_own HOW_w207.out HOK.out.1.2.2.1) (by have := HNF.out; omega) (by have := HI200.out; omega) (Since.size hHeld.1) (fun g hg h => HDXq_d_2.out g h hg)).mono ?_
            rintro e w208 ⟨Sq_3, rfl, hobj, hupd, hfar⟩
            (try go_wp2_with fail)
            have hHeld3 := HKS.out.at_ w208 ⟨Since.upd hHeld.1 hupd (NC.low HEqkuw207.out), Upd.blk hupd (hHeld.2.1) HIn10_q.out, MO.upd hupd (hHeld.2.2) HDM.out⟩
            have HIn10_q_w208 := Lib.hid (nin_next hfar HIn10_q.out (Blk.lt (hHeld.2.1)))
            have HDDmo_q_w208 := Lib.hid (dis_next hfar HDM.out (MO.lt (hHeld.2.2)))
            have HOW_w207uw208 := Lib.hid (Upd.own hupd HOW_w207.out (fun g hg h => HDXq_d_2.out g h hg))
            clear HOW_w207
            have HUq_w208 := Lib.hid hobj
            clear HEqkuw207
            refine hK.out _ _ hHeld3 (fun hHeld2 => ?_)
            clear hK K hHeld hHeld3 hupd hobj hfar
            have hHeld := hHeld2
            clear hHeld2
            (try simp only [Act.put, sA, sB, sC])
            refine tkQ 9 (.bool false) hHeld (he := by intro w hSw; (go_simp; (try with_reducible rfl))) (h := ?_)
            (try simp only [Act.put, sA, sB, sC])
            refine wpAnyH_done (by kernel_rfl) ?_ _
            have HSd16 := Lib.hid hHeld.1
            have HBn10d16 := Lib.hid (hHeld.2.1)
            have HFmod16 := Lib.hid (hHeld.2.2)
            clear hHeld HRK HKS HS205 HBn10205 HFmo205
            have HFqd16 := Lib.hid HUq_w208.out
            clear HUq_w208
            have HFdd16 := Lib.hid HOW_w207uw208.out
            clear HOW_w207uw208
            cases hok : (okP c ends room (os i).tt) with
            | true =>
             have HOKP := Lib.hid hok; clear hok
             have HT0 := Lib.hid (of_decide_eq_true HOKP.out).1; have HT1 := Lib.hid (show (os i).tt < (m : Int) by have q1 := (of_decide_eq_true HOKP.out).2.1; have q2 := HMX.out; omega)
             go_upto_region 18 with fail
             refine wp_region_lit ?_
             refine tkL (.bool true) (h := ?_)
             (try simp only [Act.put, sA, sB, sC])
             refine wpList_nil ?_
             obtain ⟨t, ht⟩ : ∃ t : Nat, (os i).tt = (t : Int) := ⟨(os i).tt.toNat, by have := HT0.out; omega⟩
             have HTT := Lib.hid ht; clear ht
             have HTM := Lib.hid (show t < m by have := HT1.out; have := HTT.out; omega)
             obtain ⟨⟨rA, rn, rc, rz⟩, hr⟩ : ∃ r, rs[t]? = some r := ⟨_, List.getElem?_eq_getElem (by rw [HRL.out]; exact HTM.out)⟩
             have HRT := Lib.hid hr; clear hr
             have HRN := Lib.hid (show rn = (c (os i).tt).length by rw [HTT.out]; exact mo_len HFmod16.out HRT.out HSM.out)
             obtain ⟨hE, hR, hX, hd1, hd2, hd3⟩ := MO.open_ HFmod16.out HRT.out
             have HE0 := Lib.hid hE; have HR0 := Lib.hid (show (w208).ownsRow w.heap.size 9 1 (.slice rA rn rc) rn (rowsOf strC rz) from hR); have HX0 := Lib.hid hX; have HRX := Lib.hid (show ∀ x ∈ blkOf rA, x ∉ restB rs t from hd1); have HEX := Lib.hid hd2; have HER := Lib.hid (show gm ∉ blkOf rA from hd3); clear hE hR hX hd1 hd2 hd3
             have HND := Lib.hid HFmod16.out.2.2.2.2; have HTL := Lib.hid (take_len HRT.out); have HZL := Lib.hid (show rz.length = rn from own_n strC_len (by decide) HR0.out); have HTLT := Lib.hid (List.getElem?_eq_some_iff.1 HRT.out).1
             have HSE := Lib.hid HFmod16.out.2.1
             have HEQ_ := Lib.hid (show gm ∉ Sq_3 from HDDmo_q_w208.out gm (by rw [HSE.out]; exact List.mem_cons_self)); have HRQ := Lib.hid (show ∀ x ∈ blkOf rA, x ∉ Sq_3 from fun x hx => HDDmo_q_w208.out x (by rw [HSE.out]; exact List.mem_cons_of_mem _ (List.mem_flatMap.2 ⟨_, List.mem_of_getElem? HRT.out, hx⟩))); have HXQ := Lib.hid (show ∀ x ∈ restB rs t, x ∉ Sq_3 from fun x hx => HDDmo_q_w208.out x (by rw [HSE.out]; obtain ⟨a, b, _, hab, hxb⟩ := of_rest hx; exact List.mem_cons_of_mem _ (List.mem_flatMap.2 ⟨_, List.mem_of_getElem? hab, hxb⟩)))
             have HGE := Lib.hid HGM.out
             have HNEO := Lib.hid (Blk.ne_ HE0.out HBn10d16.out (by decide)); clear HFmod16
             go_upto_region 19 with fail
             have HKS : Hid (KeepS (fun W : World => Since w W ∧ Blk W bn10 57 #[.int .i64 ((os i).k), .int .i64 ((os i).tt), .int .i64 ((os i).ix), .slice (os i).A (os i).n (os i).c] ∧ HasRow W gm 58 ((rowsOf rowC (rs.take t)).length + 1 + (rowsOf rowC (rs.drop (t + 1))).length) ∧ NC w.heap.size q1 ends room (i + 1) (putC c (okP c ends room (os i).tt) (os i).tt (os i).zs) Sq_3 W ∧ Rest w.heap.size rs t W) w208) := Lib.hid ⟨fun W W' k ⟨h, h0, h1, h2, h3⟩ => ⟨h.trans k, keep_blk k h0, HasRow.keep k h1, NC.keep k h2, Rest.keep k h3⟩, ⟨HSd16.out, HBn10d16.out, HasRow.of HE0.out el_size, HFqd16.out, HX0.out⟩⟩
             have HRK := Lib.hid HKS.out.1
             have HPE := Lib.hid (show Blk (World.drew w208) gm 58 (el (rowsOf rowC (rs.take t)) #[.slice rA rn rc] (rowsOf rowC (rs.drop (t + 1)))) from HE0.out)
             have HEr := Lib.hid (show ((World.drew w208)).ownsRow w.heap.size 9 1 (.slice rA rn rc) rn (rowsOf strC rz) from HR0.out)
             clear HR0
             refine wp_held HKS.out (by kernel_rfl) (fun hHeld => ?_)
             refine tkQ 0 (.slice (some ⟨gm, 0, none⟩) m m) hHeld (h := ?_)
             (try simp only [Act.put, sA, sB, sC])
             refine tkQ 1 (.pointer (some ⟨bn10, 1, none⟩)) hHeld (h := ?_)
             (try simp only [Act.put, sA, sB, sC])
             refine tkQ 2 (.int .i64 ((os i).tt)) hHeld (he := by intro w hSw; exact exec_cell 3 _ _ hSw.2.1 rfl rfl rfl Try.underlying3 rfl) (h := ?_)
             (try simp only [Act.put, sA, sB, sC])
             refine tkQ 3 (.slice (some ⟨gm, 0, none⟩) m m) hHeld (h := ?_)
             (try simp only [Act.put, sA, sB, sC])
             refine tkQ 4 (.pointer (some ⟨bn10, 1, none⟩)) hHeld (h := ?_)
             (try simp only [Act.put, sA, sB, sC])
             refine tkQ 5 (.int .i64 ((os i).tt)) hHeld (he := by intro w hSw; exact exec_cell 3 _ _ hSw.2.1 rfl rfl rfl Try.underlying3 rfl) (h := ?_)
             (try simp only [Act.put, sA, sB, sC])
             refine tkQ 6 (.pointer (some ⟨gm, 0 + t * 1, none⟩)) hHeld (he := by intro w hSw; exact exec_index (i := t) (s := 1) 54 58 _ _ rfl rfl rfl HTT.out HTM.out Try.underlying54 (by kernel_rfl)) (h := ?_)
             (try simp only [Act.put, sA, sB, sC])
             refine tkQ 8 (.pointer (some ⟨bn10, 3, none⟩)) hHeld (h := ?_)
             (try simp only [Act.put, sA, sB, sC])
             refine tkQ 9 (.slice (os i).A (os i).n (os i).c) hHeld (he := by intro w hSw; exact exec_cell 55 _ _ hSw.2.1 rfl rfl rfl Try.underlying55 rfl) (h := ?_)
             (try simp only [Act.put, sA, sB, sC])
             refine tkQ 10 (.string (strOfNums (os i).zs)) hHeld (he := by intro w hSw; exact exec_str 55 5 9 _ (keep_bv hSw.1 HOK.out.1) rfl rfl Try.underlying55 Try.underlying5 Try.underlying9) (h := ?_)
             (try simp only [Act.put, sA, sB, sC])
             refine wpAnyH_ready (rs := [7, 11]) (by kernel_rfl) (by simp) ?_
             refine AllReadyH.cons (o := ?o19__7b) ?h19__7b (fun K hK => ?g19__7b) (AllReadyH.cons (o := ?o19__11b) ?h19__11b (fun K hK => ?g19__11b) AllReadyH.nil)
             case h19__7b => (first | (simp only [gA, gB, gC]; done) | (simp only [gA, gB, gC]; exact rfl))
             case h19__11b => (first | (simp only [gA, gB, gC]; done) | (simp only [gA, gB, gC]; exact rfl))
             case g19__7b =>
              rw [if_pos (by rfl)]
              refine wp_q (.slice rA rn rc) ?e19_b7_7 ?_
              case e19_b7_7 => exact exec_cell 58 _ _ HPE.out (el_at (j := 0) HTL.out rfl) rfl rfl Try.underlying58 rfl
              refine hK.out _ _ hHeld (fun hHeld2 => ?_)
              clear hK K hHeld2
              (try simp only [Act.put, sA, sB, sC])
              refine wpAnyH_ready (rs := [11]) (by kernel_rfl) (by simp) ?_
              refine AllReadyH.cons (o := ?o19_b7_11) ?h19_b7_11 (fun K hK => ?_) AllReadyH.nil
              case h19_b7_11 => (first | (simp only [gA, gB, gC]; done) | (simp only [gA, gB, gC]; exact rfl))
              rw [if_pos (by rfl)]
              refine wp_new (fun b => .slice (some ⟨b, 0, none⟩) 1 1) 9 #[.string (strOfNums (os i).zs)] (by rintro b rfl; first | rfl | kernel_rfl) ?_
              intro bn110 w209 hge hB hb
              refine hK.out _ _ (by (apply HRK.out; exact hb; exact hHeld)) (fun hHeld2 => ?_)
              have HIn110_q := Lib.hid (NC.far (hHeld.2.2.2.1) hge)
              have HIn110_x := Lib.hid (Rest.far (hHeld.2.2.2.2) hge)
              have HPEk := Lib.hid (keep_blk hb HPE.out)
              clear HPE
              have HErk := Lib.hid (keep_own hb HEr.out)
              clear HEr
              have HNn110E := Lib.hid (show bn110 ≠ gm by obtain ⟨old, Bo, _⟩ := hHeld.2.2.1; have := Blk.lt Bo; omega)
              have HGn110 := Lib.hid (show w.heap.size ≤ bn110 by have := Since.size hHeld.1; (try simp at this); (try simp at hge); omega)
              have HXn110 := Lib.hid hB
              clear hB
              clear hge
              clear hK K hHeld hb
              have hHeld := hHeld2
              clear hHeld2
              (try simp only [Act.put, sA, sB, sC])
              refine wpAnyH_ready (rs := [12]) (by kernel_rfl) (by simp) ?_
              refine AllReadyH.cons (o := ?o19_b7_12) ?h19_b7_12 (fun K hK => ?_) AllReadyH.nil
              case h19_b7_12 => (first | (simp only [gA, gB, gC]; done) | (simp only [gA, gB, gC]; exact rfl))
              rw [if_pos (by rfl)]
              refine wp_append_row (.tmp 106) (.tmp 110) 58 rfl w.heap.size 9 (.string ByteArray.empty) 1 16 Try.underlying58 (by kernel_rfl) rfl (by decide) (by decide) rA rn rc (rowsOf strC rz) rfl HErk.out _ (some ⟨bn110, 0, none⟩) 1 1 (strC (os i).zs) rfl (reads_blk (cs := strC (os i).zs) HXn110.out rfl) (strC_one _) (by have q1 := HRN.out; have q2 := HCL.out (os i).tt; have q3 := HI200.out; omega) (Since.size hHeld.1) ((rz ++ [(os i).zs]).length) (rowsOf strC (rz ++ [(os i).zs])) (by have q := HZL.out; rw [List.length_append]; simp; omega) (by rw [rowsOf_append, rowsOf_one]) ?_
              intro A_4 c_4 w210 hown hupd hfar
              have hHeld3 := HKS.out.at_ w210 ⟨Since.upd hHeld.1 hupd (own_low HErk.out), Upd.blk hupd (hHeld.2.1) (own_ne_ty HErk.out (hHeld.2.1) (by decide)), HasRow.upd hupd (hHeld.2.2.1) HER.out, NC.upd hupd (hHeld.2.2.2.1) (fun g hg h => HRQ.out g h hg), Rest.upd hupd (hHeld.2.2.2.2) (fun g hg h => HRX.out g h hg)⟩
              have HDEq_4 := Lib.hid (dis_next hfar (fun g hg h => HRQ.out g h hg) (NC.lt (hHeld.2.2.2.1)))
              have HDEx_4 := Lib.hid (dis_next hfar (fun g hg h => HRX.out g h hg) (Rest.lt (hHeld.2.2.2.2)))
              have HPEku := Lib.hid (Upd.blk hupd HPEk.out HER.out)
              have HIE_r_4 := Lib.hid (nin_next hfar HER.out (Blk.lt HPEk.out))
              clear HPEk
              have HOW_w210 := Lib.hid hown
              refine hK.out _ _ hHeld3 (fun hHeld2 => ?_)
              clear hK K hHeld hHeld3 hupd hown hfar HErk HXn110
              have hHeld := hHeld2
              clear hHeld2
              (try simp only [Act.put, sA, sB, sC])
              refine tkQ 13 (.pointer (some ⟨gm, 0 + t * 1, none⟩)) hHeld (he := by intro w hSw; exact exec_index (i := t) (s := 1) 54 58 _ _ rfl rfl rfl HTT.out HTM.out Try.underlying54 (by kernel_rfl)) (h := ?_)
              (try simp only [Act.put, sA, sB, sC])
              refine wpAnyH_ready (rs := [14]) (by kernel_rfl) (by simp) ?_
              refine AllReadyH.cons (o := ?o19_b7_14) ?h19_b7_14 (fun K hK => ?_) AllReadyH.nil
              case h19_b7_14 => (first | (simp only [gA, gB, gC]; done) | (simp only [gA, gB, gC]; exact rfl))
              rw [if_pos (by rfl)]
              refine wp_st_cell 58 _ _ rfl (el (rowsOf rowC (rs.take t)) #[.slice A_4 ((rz ++ [(os i).zs]).length) c_4] (rowsOf rowC (rs.drop (t + 1)))) (.slice A_4 ((rz ++ [(os i).zs]).length) c_4) rfl rfl HPEku.out (el_lt (j := 0) HTL.out (by show 0 < 1; decide)) (el_set (j := 0) HTL.out (by show 0 < 1; decide) rfl) (by first | rfl | simp [Value.oneCell']) (by kernel_rfl) ?_
              clear HPEku
              intro w211 hw
              have HOW_w210r := Lib.hid (show (w211).ownsRow w.heap.size 9 1 (.slice A_4 ((rz ++ [(os i).zs]).length) c_4) ((rz ++ [(os i).zs]).length) (rowsOf strC (rz ++ [(os i).zs])) by rw [hw]; exact own_row_far HOW_w210.out HIE_r_4.out _)
              clear HOW_w210
              have HRE := Lib.hid (show Blk w211 gm 58 (el (rowsOf rowC (rs.take t)) #[.slice A_4 ((rz ++ [(os i).zs]).length) c_4] (rowsOf rowC (rs.drop (t + 1)))) by obtain ⟨old, Bo, _⟩ := hHeld.2.2.1; rw [hw]; exact Blk.row Bo _)
              have hHeld3 := HKS.out.at_ w211 ⟨by rw [hw]; exact Since.setRow hHeld.1 HGE.out _, by rw [hw]; exact Blk.row_far (hHeld.2.1) (Ne.symm HNEO.out) _, HasRow.of HRE.out el_size, by rw [hw]; exact NC.row_far (hHeld.2.2.2.1) HEQ_.out _, by rw [hw]; exact Rest.row_far (hHeld.2.2.2.2) HEX.out _⟩
              refine hK.out _ _ hHeld3 (fun hHeld2 => ?_)
              clear hK K hHeld hHeld3 hw
              have hHeld := hHeld2
              clear hHeld2
              (try simp only [Act.put, sA, sB, sC])
              refine wpAnyH_done (by kernel_rfl) ?_ _
              have HSd19 := Lib.hid hHeld.1
              have HBn10d19 := Lib.hid (hHeld.2.1)
              have HBEd19 := Lib.hid HRE.out
              clear HRE
              have HFqd19 := Lib.hid (hHeld.2.2.2.1)
              have HFxd19 := Lib.hid (hHeld.2.2.2.2)
              clear hHeld HRK HKS HSd16 HBn10d16 HE0 HFqd16 HX0
              have HFrd19 := Lib.hid HOW_w210r.out
              clear HOW_w210r
              have HMO2 := Lib.hid (MO.close (r' := ⟨A_4, (rz ++ [(os i).zs]).length, c_4, (rz ++ [(os i).zs])⟩) HGM.out HRT.out HND.out HBEd19.out HFrd19.out HFxd19.out (fun g hg h => HDEx_4.out g h hg))
              have HDM9 := Lib.hid (set_dis (r' := ⟨A_4, (rz ++ [(os i).zs]).length, c_4, (rz ++ [(os i).zs])⟩) HTLT.out HEQ_.out (fun g hg h => HDEq_4.out g h hg) HXQ.out)
              go_wp2_with fail
              refine Met.intro ?_
              exact hJ5 _ _ ⟨(putC c (okP c ends room (os i).tt) (os i).tt (os i).zs), Sq_3, (rs.set t ⟨A_4, (rz ++ [(os i).zs]).length, c_4, (rz ++ [(os i).zs])⟩), (gm :: (rs.set t ⟨A_4, (rz ++ [(os i).zs]).length, c_4, (rz ++ [(os i).zs])⟩).flatMap blkR), ⟨rfl, rfl, rfl, rfl, rfl, rfl, rfl, rfl, rfl, rfl, rfl, trivial⟩, Lib.hid ⟨(put_len HCL.out), (by rw [List.length_set]; exact HRL.out), (same_put HSM.out HRT.out HTT.out HOKP.out), HDM9.out, HSd19.out, HBn10d19.out, HFqd19.out, HMO2.out⟩⟩
             case g19__11b =>
              rw [if_pos (by rfl)]
              refine wp_new (fun b => .slice (some ⟨b, 0, none⟩) 1 1) 9 #[.string (strOfNums (os i).zs)] (by rintro b rfl; first | rfl | kernel_rfl) ?_
              intro bn110 w209 hge hB hb
              refine hK.out _ _ (by (apply HRK.out; exact hb; exact hHeld)) (fun hHeld2 => ?_)
              have HIn110_q := Lib.hid (NC.far (hHeld.2.2.2.1) hge)
              have HIn110_x := Lib.hid (Rest.far (hHeld.2.2.2.2) hge)
              have HPEk := Lib.hid (keep_blk hb HPE.out)
              clear HPE
              have HErk := Lib.hid (keep_own hb HEr.out)
              clear HEr
              have HNn110E := Lib.hid (show bn110 ≠ gm by obtain ⟨old, Bo, _⟩ := hHeld.2.2.1; have := Blk.lt Bo; omega)
              have HGn110 := Lib.hid (show w.heap.size ≤ bn110 by have := Since.size hHeld.1; (try simp at this); (try simp at hge); omega)
              have HXn110 := Lib.hid hB
              clear hB
              clear hge
              clear hK K hHeld hb
              have hHeld := hHeld2
              clear hHeld2
              (try simp only [Act.put, sA, sB, sC])
              refine wpAnyH_ready (rs := [7]) (by kernel_rfl) (by simp) ?_
              refine AllReadyH.cons (o := ?o19_b11_7) ?h19_b11_7 (fun K hK => ?_) AllReadyH.nil
              case h19_b11_7 => (first | (simp only [gA, gB, gC]; done) | (simp only [gA, gB, gC]; exact rfl))
              rw [if_pos (by rfl)]
              refine wp_q (.slice rA rn rc) ?e19_b11_7 ?_
              case e19_b11_7 => exact exec_cell 58 _ _ HPEk.out (el_at (j := 0) HTL.out rfl) rfl rfl Try.underlying58 rfl
              refine hK.out _ _ hHeld (fun hHeld2 => ?_)
              clear hK K hHeld2
              (try simp only [Act.put, sA, sB, sC])
              refine wpAnyH_ready (rs := [12]) (by kernel_rfl) (by simp) ?_
              refine AllReadyH.cons (o := ?o19_b11_12) ?h19_b11_12 (fun K hK => ?_) AllReadyH.nil
              case h19_b11_12 => (first | (simp only [gA, gB, gC]; done) | (simp only [gA, gB, gC]; exact rfl))
              rw [if_pos (by rfl)]
              refine wp_append_row (.tmp 106) (.tmp 110) 58 rfl w.heap.size 9 (.string ByteArray.empty) 1 16 Try.underlying58 (by kernel_rfl) rfl (by decide) (by decide) rA rn rc (rowsOf strC rz) rfl HErk.out _ (some ⟨bn110, 0, none⟩) 1 1 (strC (os i).zs) rfl (reads_blk (cs := strC (os i).zs) HXn110.out rfl) (strC_one _) (by have q1 := HRN.out; have q2 := HCL.out (os i).tt; have q3 := HI200.out; omega) (Since.size hHeld.1) ((rz ++ [(os i).zs]).length) (rowsOf strC (rz ++ [(os i).zs])) (by have q := HZL.out; rw [List.length_append]; simp; omega) (by rw [rowsOf_append, rowsOf_one]) ?_
              intro A_5 c_5 w210 hown hupd hfar
              have hHeld3 := HKS.out.at_ w210 ⟨Since.upd hHeld.1 hupd (own_low HErk.out), Upd.blk hupd (hHeld.2.1) (own_ne_ty HErk.out (hHeld.2.1) (by decide)), HasRow.upd hupd (hHeld.2.2.1) HER.out, NC.upd hupd (hHeld.2.2.2.1) (fun g hg h => HRQ.out g h hg), Rest.upd hupd (hHeld.2.2.2.2) (fun g hg h => HRX.out g h hg)⟩
              have HDEq_5 := Lib.hid (dis_next hfar (fun g hg h => HRQ.out g h hg) (NC.lt (hHeld.2.2.2.1)))
              have HDEx_5 := Lib.hid (dis_next hfar (fun g hg h => HRX.out g h hg) (Rest.lt (hHeld.2.2.2.2)))
              have HPEku := Lib.hid (Upd.blk hupd HPEk.out HER.out)
              have HIE_r_5 := Lib.hid (nin_next hfar HER.out (Blk.lt HPEk.out))
              clear HPEk
              have HOW_w210 := Lib.hid hown
              refine hK.out _ _ hHeld3 (fun hHeld2 => ?_)
              clear hK K hHeld hHeld3 hupd hown hfar HErk HXn110
              have hHeld := hHeld2
              clear hHeld2
              (try simp only [Act.put, sA, sB, sC])
              refine tkQ 13 (.pointer (some ⟨gm, 0 + t * 1, none⟩)) hHeld (he := by intro w hSw; exact exec_index (i := t) (s := 1) 54 58 _ _ rfl rfl rfl HTT.out HTM.out Try.underlying54 (by kernel_rfl)) (h := ?_)
              (try simp only [Act.put, sA, sB, sC])
              refine wpAnyH_ready (rs := [14]) (by kernel_rfl) (by simp) ?_
              refine AllReadyH.cons (o := ?o19_b11_14) ?h19_b11_14 (fun K hK => ?_) AllReadyH.nil
              case h19_b11_14 => (first | (simp only [gA, gB, gC]; done) | (simp only [gA, gB, gC]; exact rfl))
              rw [if_pos (by rfl)]
              refine wp_st_cell 58 _ _ rfl (el (rowsOf rowC (rs.take t)) #[.slice A_5 ((rz ++ [(os i).zs]).length) c_5] (rowsOf rowC (rs.drop (t + 1)))) (.slice A_5 ((rz ++ [(os i).zs]).length) c_5) rfl rfl HPEku.out (el_lt (j := 0) HTL.out (by show 0 < 1; decide)) (el_set (j := 0) HTL.out (by show 0 < 1; decide) rfl) (by first | rfl | simp [Value.oneCell']) (by kernel_rfl) ?_
              clear HPEku
              intro w211 hw
              have HOW_w210r := Lib.hid (show (w211).ownsRow w.heap.size 9 1 (.slice A_5 ((rz ++ [(os i).zs]).length) c_5) ((rz ++ [(os i).zs]).length) (rowsOf strC (rz ++ [(os i).zs])) by rw [hw]; exact own_row_far HOW_w210.out HIE_r_5.out _)
              clear HOW_w210
              have HRE := Lib.hid (show Blk w211 gm 58 (el (rowsOf rowC (rs.take t)) #[.slice A_5 ((rz ++ [(os i).zs]).length) c_5] (rowsOf rowC (rs.drop (t + 1)))) by obtain ⟨old, Bo, _⟩ := hHeld.2.2.1; rw [hw]; exact Blk.row Bo _)
              have hHeld3 := HKS.out.at_ w211 ⟨by rw [hw]; exact Since.setRow hHeld.1 HGE.out _, by rw [hw]; exact Blk.row_far (hHeld.2.1) (Ne.symm HNEO.out) _, HasRow.of HRE.out el_size, by rw [hw]; exact NC.row_far (hHeld.2.2.2.1) HEQ_.out _, by rw [hw]; exact Rest.row_far (hHeld.2.2.2.2) HEX.out _⟩
              refine hK.out _ _ hHeld3 (fun hHeld2 => ?_)
              clear hK K hHeld hHeld3 hw
              have hHeld := hHeld2
              clear hHeld2
              (try simp only [Act.put, sA, sB, sC])
              refine wpAnyH_done (by kernel_rfl) ?_ _
              have HSd19v2 := Lib.hid hHeld.1
              have HBn10d19v2 := Lib.hid (hHeld.2.1)
              have HBEd19v2 := Lib.hid HRE.out
              clear HRE
              have HFqd19v2 := Lib.hid (hHeld.2.2.2.1)
              have HFxd19v2 := Lib.hid (hHeld.2.2.2.2)
              clear hHeld HRK HKS HSd16 HBn10d16 HE0 HFqd16 HX0
              have HFrd19v2 := Lib.hid HOW_w210r.out
              clear HOW_w210r
              have HMO2 := Lib.hid (MO.close (r' := ⟨A_5, (rz ++ [(os i).zs]).length, c_5, (rz ++ [(os i).zs])⟩) HGM.out HRT.out HND.out HBEd19v2.out HFrd19v2.out HFxd19v2.out (fun g hg h => HDEx_5.out g h hg))
              have HDM9 := Lib.hid (set_dis (r' := ⟨A_5, (rz ++ [(os i).zs]).length, c_5, (rz ++ [(os i).zs])⟩) HTLT.out HEQ_.out (fun g hg h => HDEq_5.out g h hg) HXQ.out)
              go_wp2_with fail
              refine Met.intro ?_
              exact hJ5 _ _ ⟨(putC c (okP c ends room (os i).tt) (os i).tt (os i).zs), Sq_3, (rs.set t ⟨A_5, (rz ++ [(os i).zs]).length, c_5, (rz ++ [(os i).zs])⟩), (gm :: (rs.set t ⟨A_5, (rz ++ [(os i).zs]).length, c_5, (rz ++ [(os i).zs])⟩).flatMap blkR), ⟨rfl, rfl, rfl, rfl, rfl, rfl, rfl, rfl, rfl, rfl, rfl, trivial⟩, Lib.hid ⟨(put_len HCL.out), (by rw [List.length_set]; exact HRL.out), (same_put HSM.out HRT.out HTT.out HOKP.out), HDM9.out, HSd19v2.out, HBn10d19v2.out, HFqd19v2.out, HMO2.out⟩⟩
            | false =>
             have HOKP := Lib.hid hok; clear hok
             go_upto_region 18 with fail
             refine wp_region_lit ?_
             refine tkL (.bool false) (h := ?_)
             (try simp only [Act.put, sA, sB, sC])
             refine wpList_nil ?_
             go_wp2_with fail
             refine Met.intro ?_
             exact hJ5 _ _ ⟨(putC c (okP c ends room (os i).tt) (os i).tt (os i).zs), Sq_3, rs, Sm, ⟨rfl, rfl, rfl, rfl, rfl, rfl, rfl, rfl, rfl, rfl, rfl, trivial⟩, Lib.hid ⟨(put_len HCL.out), HRL.out, (by rw [HOKP.out, putC_f]; exact HSM.out), HDDmo_q_w208.out, HSd16.out, HBn10d16.out, HFqd16.out, HFmod16.out⟩⟩
         intro fr wc hR
         clear HS205 HBn10205 HFq205 HFmo205
         obtain ⟨c2, S2, rs2, Sm2, hF, HO⟩ := hR
         obtain ⟨e0, e1, e2, e3, g0, g1, g2, g3⟩ := HO.out
         clear HO
         have HCL2 := Lib.hid e0
         have HRL2 := Lib.hid e1
         have HSM2 := Lib.hid e2
         have HDM2 := Lib.hid e3
         have HS255 := Lib.hid g0
         have HBn10255 := Lib.hid g1
         have HFq255 := Lib.hid g2
         have HFmo255 := Lib.hid g3
         clear e0 e1 e2 e3 g0 g1 g2 g3
         obtain ⟨u, hu⟩ := hF.open_
         have hu2 := hu.trans (show _ = #[.int .i64 ends, .int .i64 room, .slice (some ⟨go, oo, none⟩) on oc, u 3, u 4, u 5, .bool false, .pointer (some ⟨q1, 0, none⟩), .slice (some ⟨gm, 0, none⟩) m m, .int .i64 (i : Int), .pointer (some ⟨bn10, 0, none⟩), .bool (inB m (os i).tt), u 12, u 13, u 14, u 15, u 16, u 17, u 18, u 19, u 20, u 21, u 22, u 23, u 24, u 25, u 26, u 27, u 28, u 29, u 30, u 31, u 32, u 33, u 34, u 35, u 36, u 37, u 38, u 39, u 40, u 41, u 42, u 43, u 44, u 45, u 46, u 47, u 48, u 49, u 50, u 51, u 52, u 53, u 54, u 55, u 56, u 57, u 58, u 59, u 60, u 61, u 62, u 63, u 64, u 65, u 66, u 67, u 68, u 69, u 70, u 71, u 72, u 73, u 74, u 75, u 76, u 77, u 78, u 79, u 80, u 81, u 82, u 83, u 84, .int .i64 ((os i).k), u 86, u 87, u 88, u 89, u 90, u 91, u 92, u 93, u 94, u 95, u 96, u 97, u 98, u 99, u 100, u 101, u 102, u 103, u 104, u 105, u 106, u 107, u 108, u 109, u 110, u 111, u 112, u 113, u 114, u 115, u 116, u 117, u 118, u 119, u 120, u 121, u 122, u 123, u 124, u 125, u 126, u 127, u 128, u 129, u 130, u 131, u 132, u 133, u 134, u 135, u 136, u 137, u 138, u 139, u 140, u 141, u 142, u 143, u 144, u 145, u 146, u 147, u 148, u 149, u 150, u 151, u 152, u 153, u 154, u 155, u 156, u 157, u 158, u 159, u 160, u 161, u 162, u 163, u 164, u 165, u 166, u 167, u 168, u 169, u 170, u 171, u 172, u 173, u 174, u 175, u 176, u 177, u 178, u 179, u 180, u 181, u 182, u 183, u 184, u 185, u 186, u 187, u 188, u 189, u 190, u 191, u 192, u 193, u 194, u 195, u 196, u 197, u 198, u 199, u 200, u 201, u 202, u 203, u 204, u 205, u 206, u 207, u 208, u 209, u 210, u 211, u 212, u 213, u 214, u 215, u 216, u 217, u 218, u 219, u 220, u 221, u 222, u 223, u 224, u 225, u 226, u 227, u 228, u 229, u 230, u 231, u 232, u 233, u 234, u 235, u 236, u 237, u 238, u 239, u 240, u 241, u 242, u 243] by kernel_rfl)
         clear hu hF
         subst hu2
         go_upto_region 36 with fail
         refine wp_region_lit ?_
         refine tkL (.int .i64 0) (h := ?_)
         (try simp only [Act.put, sA, sB, sC])
         refine wpList_nil ?_
         cases hin : (inB m (os i).tt) with
         | true =>
          have HT0 := Lib.hid (of_decide_eq_true hin).1; have HT1 := Lib.hid (of_decide_eq_true hin).2; clear hin
          obtain ⟨t, ht⟩ : ∃ t : Nat, (os i).tt = (t : Int) := ⟨(os i).tt.toNat, by have := HT0.out; omega⟩
          have HTT := Lib.hid ht; clear ht
          have HTM := Lib.hid (show t < m by have := HT1.out; have := HTT.out; omega)
          obtain ⟨⟨rA, rn, rc, rz⟩, hr⟩ : ∃ r, rs2[t]? = some r := ⟨_, List.getElem?_eq_getElem (by rw [HRL2.out]; exact HTM.out)⟩
          have HRT := Lib.hid hr; clear hr
          have HRN := Lib.hid (show rn = (c2 (os i).tt).length by rw [HTT.out]; exact mo_len HFmo255.out HRT.out HSM2.out)
          go_upto_region 37 with fail
          refine wp_region_lit ?_
          refine tkL (.bool true) (h := ?_)
          (try simp only [Act.put, sA, sB, sC])
          refine wpList_nil ?_
          go_upto_region 38 with fail
          refine wp_region_lit ?_
          refine tkL (.slice (some ⟨gm, 0, none⟩) m m) (h := ?_)
          (try simp only [Act.put, sA, sB, sC])
          refine tkL (.pointer (some ⟨bn10, 1, none⟩)) (h := ?_)
          (try simp only [Act.put, sA, sB, sC])
          refine wpList_q (by rfl) (.int .i64 ((os i).tt)) ?he ?_
          case he => exact exec_cell 3 _ _ HBn10255.out rfl rfl rfl Try.underlying3 rfl
          (try simp only [Act.put, sA, sB, sC])
          refine wpList_q (by rfl) (.pointer (some ⟨gm, 0 + t * 1, none⟩)) ?he ?_
          case he => exact exec_index (i := t) (s := 1) 54 58 _ _ rfl rfl rfl HTT.out HTM.out Try.underlying54 (by kernel_rfl)
          (try simp only [Act.put, sA, sB, sC])
          refine wpList_q (by rfl) (.slice rA rn rc) ?he ?_
          case he => exact exec_at 58 _ _ (mo_cell HFmo255.out HRT.out) rfl rfl Try.underlying58 rfl
          (try simp only [Act.put, sA, sB, sC])
          refine tkL (.int .i64 (rn : Int)) (h := ?_)
          (try simp only [Act.put, sA, sB, sC])
          refine tkL (.int .i64 (rn : Int)) (h := ?_)
          (try simp only [Act.put, sA, sB, sC])
          refine wpList_nil ?_
          go_upto_region 39 with fail
          refine wp_region_lit ?_
          refine tkL (.pointer (some ⟨q1, 0, none⟩)) (h := ?_)
          (try simp only [Act.put, sA, sB, sC])
          refine tkL (.pointer (some ⟨bn10, 1, none⟩)) (h := ?_)
          (try simp only [Act.put, sA, sB, sC])
          refine wpList_q (by rfl) (.int .i64 ((os i).tt)) ?he ?_
          case he => exact exec_cell 3 _ _ HBn10255.out rfl rfl rfl Try.underlying3 rfl
          (try simp only [Act.put, sA, sB, sC])
          refine wpList_wp (by rfl) (fun K hK => ?_)
          (try go_simp)
          refine (lenC w.heap.size q1 ends room (i + 1) c2 S2 (os i).tt _ HFq255.out HWF.out).mono ?_
          rintro e w' ⟨rfl, rfl⟩
          (try go_wp2_with fail)
          refine hK.out _ _ ?_
          clear hK K
          (try simp only [Act.put, sA, sB, sC])
          refine tkL (.int .i64 (rn : Int)) (h := ?_)
          (try simp only [Act.put, sA, sB, sC])
          refine wpList_q (by rfl) (.bool false) ?he ?_
          case he => (have q := HRN.out; go_simp; (first | done | (rw [q]; simp; done) | omega | (simp [q]; done)))
          (try simp only [Act.put, sA, sB, sC])
          refine wpList_nil ?_
          go_upto_region 7 with fail
          refine wp_region_lit ?_
          refine tkL (.int .i64 (i : Int)) (h := ?_)
          (try simp only [Act.put, sA, sB, sC])
          refine wpList_q (by rfl) (.int .i64 ((i : Int) + 1)) ?he ?_
          case he => (go_simp; (first | done | (refine wr64 _ ?_ ?_ <;> (have q0 := HI8.out; omega)) | (have q0 := HI8.out; omega) | (have q0 := HI8.out; split <;> omega) | (have q0 := HI8.out; intro hh; omega)))
          (try simp only [Act.put, sA, sB, sC])
          refine tkL (.int .i64 ((i : Int) + 1)) (h := ?_)
          (try simp only [Act.put, sA, sB, sC])
          refine wpList_nil ?_
          go_wp2_with fail
          refine Met.intro ?_
          refine hJ1 _ _ _ ?less255 ⟨(i + 1), c2, S2, rs2, Sm2, rfl, ⟨rfl, rfl, rfl, rfl, rfl, rfl, rfl, rfl, trivial⟩, Lib.hid ⟨by have := HI8.out; omega, HCL2.out, HRL2.out, HSM2.out, HDM2.out, HS255.out, HFq255.out, HFmo255.out⟩⟩
          case less255 => exact (by have := HM.out; have := HI8.out; omega)
         | false =>
          have HNI := Lib.hid (show ¬ (0 ≤ (os i).tt ∧ (os i).tt < (m : Int)) from of_decide_eq_false hin); clear hin
          have HC0 := Lib.hid (show (c2 (os i).tt).length = 0 by rw [HSM2.out.2 _ (by rw [HRL2.out]; have := HNI.out; omega)]; rfl)
          go_upto_region 37 with fail
          refine wp_region_lit ?_
          refine tkL (.bool false) (h := ?_)
          (try simp only [Act.put, sA, sB, sC])
          refine wpList_nil ?_
          go_upto_region 39 with fail
          refine wp_region_lit ?_
          refine tkL (.pointer (some ⟨q1, 0, none⟩)) (h := ?_)
          (try simp only [Act.put, sA, sB, sC])
          refine tkL (.pointer (some ⟨bn10, 1, none⟩)) (h := ?_)
          (try simp only [Act.put, sA, sB, sC])
          refine wpList_q (by rfl) (.int .i64 ((os i).tt)) ?he ?_
          case he => exact exec_cell 3 _ _ HBn10255.out rfl rfl rfl Try.underlying3 rfl
          (try simp only [Act.put, sA, sB, sC])
          refine wpList_wp (by rfl) (fun K hK => ?_)
          (try go_simp)
          refine (lenC w.heap.size q1 ends room (i + 1) c2 S2 (os i).tt _ HFq255.out HWF.out).mono ?_
          rintro e w' ⟨rfl, rfl⟩
          (try go_wp2_with fail)
          refine hK.out _ _ ?_
          clear hK K
          (try simp only [Act.put, sA, sB, sC])
          refine tkL (.int .i64 0) (h := ?_)
          (try simp only [Act.put, sA, sB, sC])
          refine wpList_q (by rfl) (.bool false) ?he ?_
          case he => (have q := HC0.out; go_simp; (first | done | (rw [q]; simp; done) | omega | (simp [q]; done)))
          (try simp only [Act.put, sA, sB, sC])
          refine wpList_nil ?_
          go_upto_region 7 with fail
          refine wp_region_lit ?_
          refine tkL (.int .i64 (i : Int)) (h := ?_)
          (try simp only [Act.put, sA, sB, sC])
          refine wpList_q (by rfl) (.int .i64 ((i : Int) + 1)) ?he ?_
          case he => (go_simp; (first | done | (refine wr64 _ ?_ ?_ <;> (have q0 := HI8.out; omega)) | (have q0 := HI8.out; omega) | (have q0 := HI8.out; split <;> omega) | (have q0 := HI8.out; intro hh; omega)))
          (try simp only [Act.put, sA, sB, sC])
          refine tkL (.int .i64 ((i : Int) + 1)) (h := ?_)
          (try simp only [Act.put, sA, sB, sC])
          refine wpList_nil ?_
          go_wp2_with fail
          refine Met.intro ?_
          refine hJ1 _ _ _ ?less255 ⟨(i + 1), c2, S2, rs2, Sm2, rfl, ⟨rfl, rfl, rfl, rfl, rfl, rfl, rfl, rfl, trivial⟩, Lib.hid ⟨by have := HI8.out; omega, HCL2.out, HRL2.out, HSM2.out, HDM2.out, HS255.out, HFq255.out, HFmo255.out⟩⟩
          case less255 => exact (by have := HM.out; have := HI8.out; omega)
       · have HNF := Lib.hid hcs; clear hcs
         go_upto_region 9 with fail
         refine wp_region_lit ?_
         refine tkL (.pointer (some ⟨bn10, 3, none⟩)) (h := ?_)
         (try simp only [Act.put, sA, sB, sC])
         refine wpList_q (by rfl) (.slice (os i).A (os i).n (os i).c) ?he ?_
         case he => exact exec_cell 55 _ _ HBn1055.out rfl rfl rfl Try.underlying55 rfl
         (try simp only [Act.put, sA, sB, sC])
         refine tkL (.int .i64 ((os i).n : Int)) (h := ?_)
         (try simp only [Act.put, sA, sB, sC])
         refine wpList_q (by rfl) (.bool true) ?he ?_
         case he => (have q0 := HNF.out; go_simp; (first | done | rfl | omega))
         (try simp only [Act.put, sA, sB, sC])
         refine wpList_nil ?_
         go_upto_region 10 with fail
         refine wp_region_lit ?_
         refine wpList_wp (by rfl) (fun K hK => ?_)
         (try go_simp)
         refine (ans _).mono ?_
         rintro e w56 ⟨rfl, hb⟩
         (try go_wp2_with fail)
         refine hK.out _ _ ?_
         clear hK K
         (try simp only [Act.put, sA, sB, sC])
         have HS56 := Lib.hid (Since.trans HS55.out hb)
         have HBn1056 := Lib.hid (keep_blk hb HBn1055.out)
         have HFq56 := Lib.hid (NC.keep hb HFq_55.out)
         have HFmo56 := Lib.hid (MO.keep hb HFmo_55.out)
         clear HS55 HBn1055 HFq_55 HFmo_55
         clear hb
         refine tkL (.bool true) (h := ?_)
         (try simp only [Act.put, sA, sB, sC])
         refine wpList_nil ?_
         (try go_wp2_with fail)
         go_ret
         exact ⟨rfl, HS56.out⟩
 · have HE := Lib.hid hcs; clear hcs
   refine wp_region_lit ?_
   refine tkL (.int .i64 ends) (h := ?_)
   (try simp only [Act.put, sA, sB, sC])
   refine wpList_q (by rfl) (.bool true) ?he ?_
   case he => (have q0 := HE.out; go_simp; (first | done | rfl | omega))
   (try simp only [Act.put, sA, sB, sC])
   refine wpList_nil ?_
   go_upto_region 2 with fail
   refine wp_region_lit ?_
   refine wpList_wp (by rfl) (fun K hK => ?_)
   (try go_simp)
   refine (ans _).mono ?_
   rintro e w2 ⟨rfl, hb⟩
   (try go_wp2_with fail)
   refine hK.out _ _ ?_
   clear hK K
   (try simp only [Act.put, sA, sB, sC])
   have HS2 := Lib.hid (Since.trans HS1.out hb)
   clear HS1 
   clear hb
   refine tkL (.bool true) (h := ?_)
   (try simp only [Act.put, sA, sB, sC])
   refine wpList_nil ?_
   (try go_wp2_with fail)
   go_ret
   exact ⟨rfl, HS2.out⟩
theorem playsF {H : Type} {enc : TypeId × Value → H} {x : DataW H × List MemPlace} (ends room : Int) (Ao : Option Addr) (on oc : Nat) (w : World) (hx : ∃ m, DataW.trod enc Try.prog w 0 (fun _ => true) true m 51 (Value.cells (.slice Ao on oc)).toList = some x) :
    Calls Try.prog 6 #[.int .i64 ends, .int .i64 room, .slice Ao on oc] w fun e w' => e = .returned (.bool true) ∧ Since w w' := by
  obtain ⟨m, hm⟩ := hx
  obtain ⟨os, ho, hl⟩ := Nops.open_ hm
  exact plays ends room Ao on oc os w ho hl
end Go.Proofs.Ytlihhjcneedgnaa.Nt
