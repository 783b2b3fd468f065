/-
  QueuePlays: walked.
  Conditions: what stands ahead of each.
-/
import Derived.Test.YtggafipgfgbbiaaProg
import Derived.Test.YtggafipgfgbbiaaShort
import Derived.Test.YtggafipgfgbbiaaCut
import Derived.Test.YtggafipgfgbbiaaQueG
import Derived.Test.YtggafipgfgbbiaaQuP
import Derived.Test.YtggafipgfgbbiaaQop
import Derived.Test.YtggafipgfgbbiaaQueE
import Derived.Deep.CutBlock
namespace Go.Proofs.Ytggafipgfgbbiaa.Qu
set_option linter.unusedVariables false
set_option linter.unusedSimpArgs false
open Go.RowKit Go.Proofs.Ytggafipgfgbbiaa.Ba Go.Proofs.Ytggafipgfgbbiaa.Mem Go.Proofs.Ytggafipgfgbbiaa.Ty
set_option maxRecDepth 100000
attribute [local irreducible] Go.wpList
theorem put7 {room : Int} {ls : List AskV} {a : AskV} {j : Nat} (h : atS ls a.se = some j) : putE room ls a = 7 ∧ putL room ls a = ls := by
  have e : putE room ls a = 7 := by unfold putE; rw [h]; rfl
  exact ⟨e, by unfold putL; rw [e]; rfl⟩
theorem put5 {room : Int} {ls : List AskV} {a : AskV} (h : atS ls a.se = none) (hr : room ≤ (ls.length : Int)) : putE room ls a = 5 ∧ putL room ls a = ls := by
  have e : putE room ls a = 5 := by unfold putE; rw [h, if_neg (by simp), if_pos hr]
  exact ⟨e, by unfold putL; rw [e]; rfl⟩
theorem put0 {room : Int} {ls : List AskV} {a : AskV} (h : atS ls a.se = none) (hr : ¬ room ≤ (ls.length : Int)) : putE room ls a = 0 ∧ putL room ls a = ls ++ [a] := by
  have e : putE room ls a = 0 := by unfold putE; rw [h, if_neg (by simp), if_neg hr]
  exact ⟨e, by unfold putL; rw [e]; rfl⟩
theorem uniq_add {ls : List AskV} {a : AskV} (hu : Uniq ls) (h : atS ls a.se = none) : Uniq (ls ++ [a]) := by
  have q := uniq_put (room := (ls.length : Int) + 1) (a := a) hu
  rw [(put0 h (by omega)).2] at q
  exact q
theorem uniq_cut {ls : List AskV} {s : Int} {j : Nat} (hu : Uniq ls) (h : atS ls s = some j) : Uniq (ls.eraseIdx j) := by
  have q := uniq_drop (s := s) hu
  unfold dropL at q
  rw [h] at q
  exact q
theorem drop1 {ls : List AskV} {s : Int} {j : Nat} (h : atS ls s = some j) : (atS ls s).isSome = true ∧ dropL ls s = ls.eraseIdx j := by
  unfold dropL; rw [h]; exact ⟨rfl, rfl⟩
theorem drop0 {ls : List AskV} {s : Int} (h : atS ls s = none) : (atS ls s).isSome = false ∧ dropL ls s = ls := by
  unfold dropL; rw [h]; exact ⟨rfl, rfl⟩
def oM (y : Option Nat) : Int := match y with | some k => (k : Int) | none => 0
theorem aheadU (lo q : Nat) (room : Int) (ls : List AskV) (S : List Nat) (s : Int) (w : World) (hQ : QO lo q room ls S w) (hl : ls.length ≤ 10000) :
    Calls Try.prog 30 #[.pointer (some ⟨q, 0, none⟩), .int .i64 s] w fun e w' => e = .returned (.tuple #[.int .i64 (oM (atS ls s)), .bool (atS ls s).isSome]) ∧ Since w w' := by
  have h := aheadT lo q room ls S s w hQ hl
  cases e : atS ls s with
  | none => rw [e] at h; exact h
  | some k => rw [e] at h; exact h
theorem getD_some {ls : List AskV} {k : Nat} {x : AskV} (h : ls[k]? = some x) : ls.getD k zA = x := by simp [List.getD, h]
theorem last_hit {ls : List AskV} {k : Nat} {x : AskV} {s : Int} (h : ls[k]? = some x) (e : x.se = s) : (k : Int) = lastS ls s (k + 1) := by
  show _ = (if (ls.getD k zA).se = s then (k : Int) else lastS ls s k)
  rw [getD_some h, if_pos e]
theorem last_miss {ls : List AskV} {k : Nat} {x : AskV} {s : Int} (h : ls[k]? = some x) (e : ¬ x.se = s) : lastS ls s k = lastS ls s (k + 1) := by
  show _ = (if (ls.getD k zA).se = s then (k : Int) else lastS ls s k)
  rw [getD_some h, if_neg e]
theorem any_t {zs : List Int} {v : Int} {j : Nat} (h : anyI zs v j = true) : true = anyI zs v (j + 1) := by unfold anyI; rw [h]; rfl
theorem any_f {zs : List Int} {v : Int} {j : Nat} (h : anyI zs v j = false) : (zs.getD j 0 == v) = anyI zs v (j + 1) := by
  show _ = (anyI zs v j || (zs.getD j 0 == v))
  rw [h]; rfl
theorem first_y {zs : List Int} {ls : List AskV} {m : Nat} {x : AskV} (h : ls[m]? = some x) (e : okF zs x = true) : firstR zs (ls.drop m) = (x, true) := by
  obtain ⟨h1, rfl⟩ := List.getElem?_eq_some_iff.1 h
  rw [firstR_drop zs h1, if_pos e]
theorem first_n {zs : List Int} {ls : List AskV} {m : Nat} {x : AskV} {p : AskV × Bool} (h : ls[m]? = some x) (e : okF zs x = false) (hp : firstR zs (ls.drop (m + 1)) = p) : firstR zs (ls.drop m) = p := by
  obtain ⟨h1, rfl⟩ := List.getElem?_eq_some_iff.1 h
  rw [firstR_drop zs h1, e]; exact hp
set_option maxHeartbeats 4000000 in
theorem plays (room : Int) (Ao : Option Addr) (on oc : Nat) (os : Nat → QopV) (w : World) (ho : Qops w Ao on os) (hol : on ≤ 9223372036854775807) : Calls Try.prog 5 #[.int .i64 room, .slice Ao on oc] w fun e w' => e = .returned (.bool true) ∧ Since w w' := by
 have HO := Lib.hid ho
 clear ho
 have HOL := Lib.hid hol
 clear hol
 go_enter Try.func5, Try.ntmps5
 go_upto_region 1 with fail
 have HS1 := Lib.hid (Since.refl w)
 refine wp_region_lit ?_
 refine tkL (.int .i64 room) (h := ?_)
 (try simp only [Act.put, sA, sB, sC])
 refine wpList_wp (by rfl) (fun K hK => ?_)
 (try go_simp)
 refine (newV w.heap.size room _ (Since.size HS1.out)).mono ?_
 rintro e w2 ⟨q1, rfl, hQ, hge, hb⟩
 (try go_wp2_with fail)
 refine hK.out _ _ ?_
 clear hK K
 (try simp only [Act.put, sA, sB, sC])
 have HS2 := Lib.hid (Since.trans HS1.out hb)
 clear HS1 
 clear hb
 have HFq := Lib.hid hQ
 clear hQ hge
 refine tkL (.pointer (some ⟨q1, 0, none⟩)) (h := ?_)
 (try simp only [Act.put, sA, sB, sC])
 refine wpList_nil ?_
 go_upto_region 2 with fail
 refine wp_region_lit ?_
 refine tkL (.slice none 0 0) (h := ?_)
 (try simp only [Act.put, sA, sB, sC])
 refine wpList_nil ?_
 go_upto_region 3 with fail
 refine wp_region_lit ?_
 refine tkL (.int .i64 0) (h := ?_)
 (try simp only [Act.put, sA, sB, sC])
 refine wpList_nil ?_
 go_wp2_with fail
 have HL00 := Lib.hid (show (w2).ownsRow w.heap.size 30 5 (.slice none ([] : List AskV).length 0) ([] : List AskV).length (rowsOf askC []) from World.ownsRow_nil _ _ _ _)
 refine wp_uloop (ds := []) (fun n fr wr => ∃ (i : Nat) (ls : List AskV) (Sq : List Nat) (Al : Option Addr) (cl : Nat), (200 - i) = n ∧ Fits fr 199 [(0, .int .i64 room), (1, .slice Ao on oc), (4, .bool false), (5, .pointer (some ⟨q1, 0, none⟩)), (6, .slice Al ls.length cl), (7, .int .i64 (i : Int))] ∧ Hid (i ≤ 200 ∧ ls.length ≤ i ∧ Uniq ls ∧ (∀ g ∈ blkOf Al, g ∉ Sq) ∧ Since w wr ∧ QO w.heap.size q1 (btw room 0 64) ls Sq wr ∧ (wr).ownsRow w.heap.size 30 5 (.slice Al ls.length cl) ls.length (rowsOf askC ls))) (200) ?start2 ?round2
 case start2 => exact ⟨0, [], [q1], none, 0, rfl, ⟨rfl, rfl, rfl, rfl, rfl, rfl, rfl, trivial⟩, Lib.hid ⟨by decide, by decide, List.nodup_nil, (fun g h => by simp [blkOf] at h), HS2.out, HFq.out, HL00.out⟩⟩
 case round2 =>
  intro n fr wr hR J1 K1 hJ1 hK1
  clear HS2 HFq HL00
  obtain ⟨i, ls, Sq, Al, cl, hn, hF, HO⟩ := hR
  have HM := Lib.hid hn; clear hn
  obtain ⟨e0, e1, e2, e3, g0, g1, g2⟩ := HO.out
  clear HO
  have HI200 := Lib.hid e0
  have HLN := Lib.hid e1
  have HUQ := Lib.hid e2
  have HDL := Lib.hid e3
  have HS52 := Lib.hid g0
  have HFq52 := Lib.hid g1
  have HFl52 := Lib.hid g2
  clear e0 e1 e2 e3 g0 g1 g2
  obtain ⟨u, hu⟩ := hF.open_
  have hu2 := hu.trans (show _ = #[.int .i64 room, .slice Ao on oc, u 2, u 3, .bool false, .pointer (some ⟨q1, 0, none⟩), .slice Al ls.length cl, .int .i64 (i : Int), u 8, u 9, u 10, u 11, u 12, u 13, u 14, u 15, u 16, u 17, u 18, u 19, u 20, u 21, u 22, u 23, u 24, u 25, u 26, u 27, u 28, u 29, u 30, u 31, u 32, u 33, u 34, u 35, u 36, u 37, u 38, u 39, u 40, u 41, u 42, u 43, u 44, u 45, u 46, u 47, u 48, u 49, u 50, u 51, u 52, u 53, u 54, u 55, u 56, u 57, u 58, u 59, u 60, u 61, u 62, u 63, u 64, u 65, u 66, u 67, u 68, u 69, u 70, u 71, u 72, u 73, u 74, u 75, u 76, u 77, u 78, u 79, u 80, u 81, u 82, u 83, u 84, u 85, u 86, u 87, u 88, u 89, u 90, u 91, u 92, u 93, u 94, u 95, u 96, u 97, u 98, u 99, u 100, u 101, u 102, u 103, u 104, u 105, u 106, u 107, u 108, u 109, u 110, u 111, u 112, u 113, u 114, u 115, u 116, u 117, u 118, u 119, u 120, u 121, u 122, u 123, u 124, u 125, u 126, u 127, u 128, u 129, u 130, u 131, u 132, u 133, u 134, u 135, u 136, u 137, u 138, u 139, u 140, u 141, u 142, u 143, u 144, u 145, u 146, u 147, u 148, u 149, u 150, u 151, u 152, u 153, u 154, u 155, u 156, u 157, u 158, u 159, u 160, u 161, u 162, u 163, u 164, u 165, u 166, u 167, u 168, u 169, u 170, u 171, u 172, u 173, u 174, u 175, u 176, u 177, u 178, u 179, u 180, u 181, u 182, u 183, u 184, u 185, u 186, u 187, u 188, u 189, u 190, u 191, u 192, u 193, u 194, u 195, u 196, u 197, u 198] by kernel_rfl)
  clear hu hF
  subst hu2
  by_cases hcs : i < on
  rotate_left
  · have HLT := Lib.hid hcs; clear hcs
    go_upto_region 4 with fail
    refine wp_region_lit ?_
    refine tkL (.int .i64 (i : Int)) (h := ?_)
    (try simp only [Act.put, sA, sB, sC])
    refine tkL (.slice Ao on oc) (h := ?_)
    (try simp only [Act.put, sA, sB, sC])
    refine tkL (.int .i64 (on : Int)) (h := ?_)
    (try simp only [Act.put, sA, sB, sC])
    refine wpList_q (by rfl) (.bool false) ?he ?_
    case he => (have q0 := HLT.out; go_simp; (first | done | rfl | omega))
    (try simp only [Act.put, sA, sB, sC])
    refine tkL (.bool false) (h := ?_)
    (try simp only [Act.put, sA, sB, sC])
    refine wpList_no (by rfl) ?_
    (try simp only [Act.put, sA, sB, sC])
    refine wpList_no (by rfl) ?_
    (try simp only [Act.put, sA, sB, sC])
    refine tkL (.bool false) (h := ?_)
    (try simp only [Act.put, sA, sB, sC])
    refine wpList_nil ?_
    go_upto_region 54 with fail
    refine wp_region_lit ?_
    refine wpList_wp (by rfl) (fun K hK => ?_)
    (try go_simp)
    refine (ans _).mono ?_
    rintro e w53 ⟨rfl, hb⟩
    (try go_wp2_with fail)
    refine hK.out _ _ ?_
    clear hK K
    (try simp only [Act.put, sA, sB, sC])
    have HS53 := Lib.hid (Since.trans HS52.out hb)
    have HFq53 := Lib.hid (QO.keep hb HFq52.out)
    have HFl53 := Lib.hid (keep_own hb HFl52.out)
    clear HS52 HFq52 HFl52
    clear hb
    refine tkL (.bool true) (h := ?_)
    (try simp only [Act.put, sA, sB, sC])
    refine wpList_nil ?_
    (try go_wp2_with fail)
    go_ret
    exact ⟨rfl, HS53.out⟩
  · have HLT := Lib.hid hcs; clear hcs
    by_cases hcs : i < 200
    rotate_left
    · have HI8 := Lib.hid hcs; clear hcs
      go_upto_region 4 with fail
      refine wp_region_lit ?_
      refine tkL (.int .i64 (i : Int)) (h := ?_)
      (try simp only [Act.put, sA, sB, sC])
      refine tkL (.slice Ao on oc) (h := ?_)
      (try simp only [Act.put, sA, sB, sC])
      refine tkL (.int .i64 (on : Int)) (h := ?_)
      (try simp only [Act.put, sA, sB, sC])
      refine wpList_q (by rfl) (.bool true) ?he ?_
      case he => (have q0 := HLT.out; go_simp; (first | done | rfl | omega))
      (try simp only [Act.put, sA, sB, sC])
      refine tkL (.bool true) (h := ?_)
      (try simp only [Act.put, sA, sB, sC])
      refine tkL (.int .i64 (i : Int)) (h := ?_)
      (try simp only [Act.put, sA, sB, sC])
      refine wpList_q (by rfl) (.bool false) ?he ?_
      case he => (have q0 := HI8.out; go_simp; (first | done | rfl | omega))
      (try simp only [Act.put, sA, sB, sC])
      refine tkL (.bool false) (h := ?_)
      (try simp only [Act.put, sA, sB, sC])
      refine wpList_nil ?_
      go_upto_region 54 with fail
      refine wp_region_lit ?_
      refine wpList_wp (by rfl) (fun K hK => ?_)
      (try go_simp)
      refine (ans _).mono ?_
      rintro e w53 ⟨rfl, hb⟩
      (try go_wp2_with fail)
      refine hK.out _ _ ?_
      clear hK K
      (try simp only [Act.put, sA, sB, sC])
      have HS53 := Lib.hid (Since.trans HS52.out hb)
      have HFq53 := Lib.hid (QO.keep hb HFq52.out)
      have HFl53 := Lib.hid (keep_own hb HFl52.out)
      clear HS52 HFq52 HFl52
      clear hb
      refine tkL (.bool true) (h := ?_)
      (try simp only [Act.put, sA, sB, sC])
      refine wpList_nil ?_
      (try go_wp2_with fail)
      go_ret
      exact ⟨rfl, HS53.out⟩
    · have HI8 := Lib.hid hcs; clear hcs
      go_upto_region 4 with fail
      refine wp_region_lit ?_
      refine tkL (.int .i64 (i : Int)) (h := ?_)
      (try simp only [Act.put, sA, sB, sC])
      refine tkL (.slice Ao on oc) (h := ?_)
      (try simp only [Act.put, sA, sB, sC])
      refine tkL (.int .i64 (on : Int)) (h := ?_)
      (try simp only [Act.put, sA, sB, sC])
      refine wpList_q (by rfl) (.bool true) ?he ?_
      case he => (have q0 := HLT.out; go_simp; (first | done | rfl | omega))
      (try simp only [Act.put, sA, sB, sC])
      refine tkL (.bool true) (h := ?_)
      (try simp only [Act.put, sA, sB, sC])
      refine tkL (.int .i64 (i : Int)) (h := ?_)
      (try simp only [Act.put, sA, sB, sC])
      refine wpList_q (by rfl) (.bool true) ?he ?_
      case he => (have q0 := HI8.out; go_simp; (first | done | rfl | omega))
      (try simp only [Act.put, sA, sB, sC])
      refine tkL (.bool true) (h := ?_)
      (try simp only [Act.put, sA, sB, sC])
      refine wpList_nil ?_
      obtain ⟨go, oo, hA, hbo, hco⟩ := Qops.at_ HO.out HLT.out
      have HCO := Lib.hid (hco i HLT.out).1; have HIV := Lib.hid (hco i HLT.out).2; clear hco hbo
      subst hA
      have HLB := Lib.hid (show ls.length ≤ 200 by have := HLN.out; have := HI200.out; omega)
      go_upto_region 6 with fail
      refine wp_region_lit ?_
      refine tkL (.slice (some ⟨go, oo, none⟩) on oc) (h := ?_)
      (try simp only [Act.put, sA, sB, sC])
      refine tkL (.int .i64 (i : Int)) (h := ?_)
      (try simp only [Act.put, sA, sB, sC])
      refine wpList_q (by rfl) (.pointer (some ⟨go, (oo + i * 7), none⟩)) ?he ?_
      case he => exact exec_index (i := i) (s := 7) 32 38 _ _ rfl rfl rfl rfl HLT.out Try.underlying32 (by kernel_rfl)
      (try simp only [Act.put, sA, sB, sC])
      refine wpList_q (by rfl) (.agg #[.int .i64 ((os i).k), .int .i64 ((os i).a.se), .int .i64 ((os i).a.fl), .int .i64 ((os i).a.fm), .int .i64 ((os i).a.to), .int .i64 ((os i).a.ma), .slice (os i).A (os i).n (os i).c]) ?he ?_
      case he => exact exec_rng (l := qopC (os i)) 38 _ _ (fun j v hj => keep_cell HS52.out (HCO.out j v hj)) rfl rfl Try.underlying38 rfl (by kernel_rfl)
      (try simp only [Act.put, sA, sB, sC])
      refine wpList_wp (by rfl) (fun K hK => ?_)
      refine wp_new (fun b => .pointer (some ⟨b, 0, none⟩)) 38 #[.int .i64 0, .int .i64 0, .int .i64 0, .int .i64 0, .int .i64 0, .int .i64 0, .slice none 0 0] (by rintro b rfl; first | rfl | kernel_rfl) ?_
      intro bn8 w53 hge hB hb
      refine hK.out _ _ ?_
      clear hK K
      (try simp only [Act.put, sA, sB, sC])
      have HGn8 := Lib.hid (show w.heap.size ≤ bn8 by have := Since.size HS52.out; omega)
      have HIn8_q := Lib.hid (QO.far HFq52.out hge)
      have HIn8_l := Lib.hid (own_far HFl52.out hge)
      have HS53 := Lib.hid (Since.trans HS52.out hb)
      have HFq53 := Lib.hid (QO.keep hb HFq52.out)
      have HFl53 := Lib.hid (keep_own hb HFl52.out)
      clear HS52 HFq52 HFl52
      clear hb hge
      have HBn853 := Lib.hid hB
      clear hB
      refine wpList_wp (by rfl) (fun K hK => ?_)
      refine wp_st_row 38 _ _ rfl #[.int .i64 ((os i).k), .int .i64 ((os i).a.se), .int .i64 ((os i).a.fl), .int .i64 ((os i).a.fm), .int .i64 ((os i).a.to), .int .i64 ((os i).a.ma), .slice (os i).A (os i).n (os i).c] rfl rfl (HasRow.of HBn853.out rfl) rfl (by simp [Value.oneCell']) (by kernel_rfl) ?_
      intro w54 hw
      refine hK.out _ _ ?_
      clear hK K
      (try simp only [Act.put, sA, sB, sC])
      have HS54 := Lib.hid (show Since w w54 by rw [hw]; exact Since.setRow HS53.out HGn8.out _)
      have HBn854 := Lib.hid (show Blk w54 bn8 38 #[.int .i64 ((os i).k), .int .i64 ((os i).a.se), .int .i64 ((os i).a.fl), .int .i64 ((os i).a.fm), .int .i64 ((os i).a.to), .int .i64 ((os i).a.ma), .slice (os i).A (os i).n (os i).c] by rw [hw]; exact Blk.row HBn853.out _)
      have HFq_54 := Lib.hid (show QO w.heap.size q1 (btw room 0 64) ls Sq w54 by rw [hw]; exact QO.row_far HFq53.out HIn8_q.out _)
      have HFl_54 := Lib.hid (show (w54).ownsRow w.heap.size 30 5 (.slice Al ls.length cl) ls.length (rowsOf askC ls) by rw [hw]; exact own_row_far HFl53.out HIn8_l.out _)
      clear hw HS53 HBn853 HFq53 HFl53
      refine wpList_nil ?_
      go_upto_region 7 with fail
      refine wp_region_lit ?_
      refine tkL (.int .i64 (-1)) (h := ?_)
      (try simp only [Act.put, sA, sB, sC])
      refine wpList_nil ?_
      go_upto_region 8 with fail
      refine wp_region_lit ?_
      refine tkL (.int .i64 0) (h := ?_)
      (try simp only [Act.put, sA, sB, sC])
      refine wpList_nil ?_
      go_wp2_with fail
      refine wp_uloop (ds := []) (fun n fr wr => ∃ k : Nat, (ls.length - k) = n ∧ Fits fr 199 [(0, .int .i64 room), (1, .slice (some ⟨go, oo, none⟩) on oc), (4, .bool false), (5, .pointer (some ⟨q1, 0, none⟩)), (6, .slice Al ls.length cl), (7, .int .i64 (i : Int)), (8, .pointer (some ⟨bn8, 0, none⟩)), (9, .int .i64 (lastS ls (os i).a.se k)), (10, .int .i64 (k : Int))] ∧ Hid (k ≤ ls.length ∧ Since w wr ∧ Blk wr bn8 38 #[.int .i64 ((os i).k), .int .i64 ((os i).a.se), .int .i64 ((os i).a.fl), .int .i64 ((os i).a.fm), .int .i64 ((os i).a.to), .int .i64 ((os i).a.ma), .slice (os i).A (os i).n (os i).c] ∧ QO w.heap.size q1 (btw room 0 64) ls Sq wr ∧ (wr).ownsRow w.heap.size 30 5 (.slice Al ls.length cl) ls.length (rowsOf askC ls))) (ls.length - 0) ?start54 ?round54
      case start54 => exact ⟨0, rfl, ⟨rfl, rfl, rfl, rfl, rfl, rfl, rfl, rfl, rfl, rfl, trivial⟩, Lib.hid ⟨Nat.zero_le _, HS54.out, HBn854.out, HFq_54.out, HFl_54.out⟩⟩
      case round54 =>
       intro n fr wr hR J2 K2 hJ2 hK2
       clear HS54 HBn854 HFq_54 HFl_54
       obtain ⟨k, hn, hF, HO⟩ := hR
       have HMk := Lib.hid hn; clear hn
       obtain ⟨e0, g0, g1, g2, g3⟩ := HO.out
       clear HO
       have HKk := Lib.hid e0
       have HS104 := Lib.hid g0
       have HBn8104 := Lib.hid g1
       have HFq104 := Lib.hid g2
       have HFl104 := Lib.hid g3
       clear e0 g0 g1 g2 g3
       obtain ⟨u, hu⟩ := hF.open_
       have hu2 := hu.trans (show _ = #[.int .i64 room, .slice (some ⟨go, oo, none⟩) on oc, u 2, u 3, .bool false, .pointer (some ⟨q1, 0, none⟩), .slice Al ls.length cl, .int .i64 (i : Int), .pointer (some ⟨bn8, 0, none⟩), .int .i64 (lastS ls (os i).a.se k), .int .i64 (k : Int), u 11, u 12, u 13, u 14, u 15, u 16, u 17, u 18, u 19, u 20, u 21, u 22, u 23, u 24, u 25, u 26, u 27, u 28, u 29, u 30, u 31, u 32, u 33, u 34, u 35, u 36, u 37, u 38, u 39, u 40, u 41, u 42, u 43, u 44, u 45, u 46, u 47, u 48, u 49, u 50, u 51, u 52, u 53, u 54, u 55, u 56, u 57, u 58, u 59, u 60, u 61, u 62, u 63, u 64, u 65, u 66, u 67, u 68, u 69, u 70, u 71, u 72, u 73, u 74, u 75, u 76, u 77, u 78, u 79, u 80, u 81, u 82, u 83, u 84, u 85, u 86, u 87, u 88, u 89, u 90, u 91, u 92, u 93, u 94, u 95, u 96, u 97, u 98, u 99, u 100, u 101, u 102, u 103, u 104, u 105, u 106, u 107, u 108, u 109, u 110, u 111, u 112, u 113, u 114, u 115, u 116, u 117, u 118, u 119, u 120, u 121, u 122, u 123, u 124, u 125, u 126, u 127, u 128, u 129, u 130, u 131, u 132, u 133, u 134, u 135, u 136, u 137, u 138, u 139, u 140, u 141, u 142, u 143, u 144, u 145, u 146, u 147, u 148, u 149, u 150, u 151, u 152, u 153, u 154, u 155, u 156, u 157, u 158, u 159, u 160, u 161, u 162, u 163, u 164, u 165, u 166, u 167, u 168, u 169, u 170, u 171, u 172, u 173, u 174, u 175, u 176, u 177, u 178, u 179, u 180, u 181, u 182, u 183, u 184, u 185, u 186, u 187, u 188, u 189, u 190, u 191, u 192, u 193, u 194, u 195, u 196, u 197, u 198] by kernel_rfl)
       clear hu hF
       subst hu2
       by_cases hcs : k < ls.length
       rotate_left
       · have HKLk := Lib.hid hcs; clear hcs
         go_upto_region 9 with fail
         refine wp_region_lit ?_
         refine tkL (.int .i64 (k : Int)) (h := ?_)
         (try simp only [Act.put, sA, sB, sC])
         refine tkL (.slice Al ls.length cl) (h := ?_)
         (try simp only [Act.put, sA, sB, sC])
         refine tkL (.int .i64 (ls.length : Int)) (h := ?_)
         (try simp only [Act.put, sA, sB, sC])
         refine wpList_q (by rfl) (.bool false) ?he ?_
         case he => (have q0 := HKLk.out; go_simp; (first | done | rfl | omega))
         (try simp only [Act.put, sA, sB, sC])
         refine wpList_nil ?_
         have ek : k = ls.length := by have := HKLk.out; have := HKk.out; omega
         subst ek
         rw [last_all HUQ.out (os i).a.se]
         go_upto_region 13 with fail
         refine wp_region_lit ?_
         refine tkL (.pointer (some ⟨bn8, 0, none⟩)) (h := ?_)
         (try simp only [Act.put, sA, sB, sC])
         refine wpList_q (by rfl) (.int .i64 ((os i).k)) ?he ?_
         case he => exact exec_cell 3 _ _ HBn8104.out rfl rfl rfl Try.underlying3 rfl
         (try simp only [Act.put, sA, sB, sC])
         refine wpList_nil ?_
         go_upto_block 4 with fail
         refine wp_ucut (ds := []) (fun fr wx => ∃ (ls2 : List AskV) (S2 : List Nat) (A2 : Option Addr) (c2 : Nat), Fits fr 199 [(0, .int .i64 room), (1, .slice (some ⟨go, oo, none⟩) on oc), (4, .bool false), (5, .pointer (some ⟨q1, 0, none⟩)), (6, .slice A2 ls2.length c2), (7, .int .i64 (i : Int)), (8, .pointer (some ⟨bn8, 0, none⟩)), (55, .int .i64 ((os i).k))] ∧ Hid (ls2.length ≤ i + 1 ∧ Uniq ls2 ∧ (∀ g ∈ blkOf A2, g ∉ S2) ∧ Since w wx ∧ Blk wx bn8 38 #[.int .i64 ((os i).k), .int .i64 ((os i).a.se), .int .i64 ((os i).a.fl), .int .i64 ((os i).a.fm), .int .i64 ((os i).a.to), .int .i64 ((os i).a.ma), .slice (os i).A (os i).n (os i).c] ∧ QO w.heap.size q1 (btw room 0 64) ls2 S2 wx ∧ (wx).ownsRow w.heap.size 30 5 (.slice A2 ls2.length c2) ls2.length (rowsOf askC ls2))) ?rest3 ?first3
         case first3 =>
          intro J3 K3 hJ3 hK3
          by_cases hcs : (os i).k = 1
          rotate_left
          · have HK1 := Lib.hid hcs; clear hcs
            by_cases hcs : (os i).k = 2
            rotate_left
            · have HK2 := Lib.hid hcs; clear hcs
              by_cases hcs : (os i).k = 3
              rotate_left
              · have HK3 := Lib.hid hcs; clear hcs
                go_upto_region 14 with fail
                refine wp_region_lit ?_
                refine wpList_q (by rfl) (.bool false) ?he ?_
                case he => (have q := HK1.out; go_simp; (first | done | exact q | (simp [q]; done)))
                (try simp only [Act.put, sA, sB, sC])
                refine tkL (.bool false) (h := ?_)
                (try simp only [Act.put, sA, sB, sC])
                refine wpList_nil ?_
                go_upto_region 23 with fail
                refine wp_region_lit ?_
                refine wpList_q (by rfl) (.bool false) ?he ?_
                case he => (have q := HK2.out; go_simp; (first | done | exact q | (simp [q]; done)))
                (try simp only [Act.put, sA, sB, sC])
                refine tkL (.bool false) (h := ?_)
                (try simp only [Act.put, sA, sB, sC])
                refine wpList_nil ?_
                go_upto_region 28 with fail
                refine wp_region_lit ?_
                refine wpList_q (by rfl) (.bool false) ?he ?_
                case he => (have q := HK3.out; go_simp; (first | done | exact q | (simp [q]; done)))
                (try simp only [Act.put, sA, sB, sC])
                refine tkL (.bool false) (h := ?_)
                (try simp only [Act.put, sA, sB, sC])
                refine wpList_nil ?_
                go_wp2_with fail
                refine Met.intro ?_
                exact hJ3 _ _ ⟨ls, Sq, Al, cl, ⟨rfl, rfl, rfl, rfl, rfl, rfl, rfl, rfl, rfl, trivial⟩, Lib.hid ⟨(by have := HLN.out; omega), HUQ.out, HDL.out, HS104.out, HBn8104.out, HFq104.out, HFl104.out⟩⟩
              · have HK3 := Lib.hid hcs; clear hcs
                go_upto_region 14 with fail
                refine wp_region_lit ?_
                refine wpList_q (by rfl) (.bool false) ?he ?_
                case he => (have q := HK1.out; go_simp; (first | done | exact q | (simp [q]; done)))
                (try simp only [Act.put, sA, sB, sC])
                refine tkL (.bool false) (h := ?_)
                (try simp only [Act.put, sA, sB, sC])
                refine wpList_nil ?_
                go_upto_region 23 with fail
                refine wp_region_lit ?_
                refine wpList_q (by rfl) (.bool false) ?he ?_
                case he => (have q := HK2.out; go_simp; (first | done | exact q | (simp [q]; done)))
                (try simp only [Act.put, sA, sB, sC])
                refine tkL (.bool false) (h := ?_)
                (try simp only [Act.put, sA, sB, sC])
                refine wpList_nil ?_
                go_upto_region 28 with fail
                refine wp_region_lit ?_
                refine wpList_q (by rfl) (.bool true) ?he ?_
                case he => (have q := HK3.out; go_simp; (first | done | exact q | (simp [q]; done)))
                (try simp only [Act.put, sA, sB, sC])
                refine tkL (.bool true) (h := ?_)
                (try simp only [Act.put, sA, sB, sC])
                refine wpList_nil ?_
                by_cases hcs : 50 < (os i).n
                rotate_left
                · have HNF := Lib.hid hcs; clear hcs
                  go_upto_region 29 with fail
                  refine wp_region_lit ?_
                  refine tkL (.pointer (some ⟨bn8, 6, none⟩)) (h := ?_)
                  (try simp only [Act.put, sA, sB, sC])
                  refine wpList_q (by rfl) (.slice (os i).A (os i).n (os i).c) ?he ?_
                  case he => exact exec_cell 36 _ _ HBn8104.out rfl rfl rfl Try.underlying36 rfl
                  (try simp only [Act.put, sA, sB, sC])
                  refine tkL (.int .i64 ((os i).n : Int)) (h := ?_)
                  (try simp only [Act.put, sA, sB, sC])
                  refine wpList_q (by rfl) (.bool false) ?he ?_
                  case he => (have q0 := HNF.out; go_simp; (first | done | rfl | omega))
                  (try simp only [Act.put, sA, sB, sC])
                  refine wpList_nil ?_
                  go_upto_region 31 with fail
                  refine wp_region_lit ?_
                  refine wpList_q (by rfl) (.agg #[.int .i64 0, .int .i64 0, .int .i64 0, .int .i64 0, .int .i64 0]) ?he ?_
                  case he => kernel_rfl
                  (try simp only [Act.put, sA, sB, sC])
                  refine wpList_wp (by rfl) (fun K hK => ?_)
                  refine wp_new (fun b => .pointer (some ⟨b, 0, none⟩)) 30 #[.int .i64 0, .int .i64 0, .int .i64 0, .int .i64 0, .int .i64 0] (by rintro b rfl; first | rfl | kernel_rfl) ?_
                  intro bn12 w105 hge hB hb
                  refine hK.out _ _ ?_
                  clear hK K
                  (try simp only [Act.put, sA, sB, sC])
                  have HNn12n8 := Lib.hid (show bn12 ≠ bn8 by have := Blk.lt HBn8104.out; omega)
                  have HGn12 := Lib.hid (show w.heap.size ≤ bn12 by have := Since.size HS104.out; omega)
                  have HIn12_q := Lib.hid (QO.far HFq104.out hge)
                  have HIn12_l := Lib.hid (own_far HFl104.out hge)
                  have HS105 := Lib.hid (Since.trans HS104.out hb)
                  have HBn8105 := Lib.hid (keep_blk hb HBn8104.out)
                  have HFq105 := Lib.hid (QO.keep hb HFq104.out)
                  have HFl105 := Lib.hid (keep_own hb HFl104.out)
                  clear HS104 HBn8104 HFq104 HFl104
                  clear hb hge
                  have HBn12105 := Lib.hid hB
                  clear hB
                  refine wpList_wp (by rfl) (fun K hK => ?_)
                  refine wp_st_row 30 _ _ rfl #[.int .i64 0, .int .i64 0, .int .i64 0, .int .i64 0, .int .i64 0] rfl rfl (HasRow.of HBn12105.out rfl) rfl (by simp [Value.oneCell']) (by kernel_rfl) ?_
                  intro w106 hw
                  refine hK.out _ _ ?_
                  clear hK K
                  (try simp only [Act.put, sA, sB, sC])
                  have HS106 := Lib.hid (show Since w w106 by rw [hw]; exact Since.setRow HS105.out HGn12.out _)
                  have HBn8106 := Lib.hid (show Blk w106 bn8 38 #[.int .i64 ((os i).k), .int .i64 ((os i).a.se), .int .i64 ((os i).a.fl), .int .i64 ((os i).a.fm), .int .i64 ((os i).a.to), .int .i64 ((os i).a.ma), .slice (os i).A (os i).n (os i).c] by rw [hw]; exact Blk.row_far HBn8105.out (Ne.symm HNn12n8.out) _)
                  have HBn12106 := Lib.hid (show Blk w106 bn12 30 #[.int .i64 0, .int .i64 0, .int .i64 0, .int .i64 0, .int .i64 0] by rw [hw]; exact Blk.row HBn12105.out _)
                  have HFq_106 := Lib.hid (show QO w.heap.size q1 (btw room 0 64) ls Sq w106 by rw [hw]; exact QO.row_far HFq105.out HIn12_q.out _)
                  have HFl_106 := Lib.hid (show (w106).ownsRow w.heap.size 30 5 (.slice Al ls.length cl) ls.length (rowsOf askC ls) by rw [hw]; exact own_row_far HFl105.out HIn12_l.out _)
                  clear hw HS105 HBn8105 HBn12105 HFq105 HFl105
                  refine tkL (.bool false) (h := ?_)
                  (try simp only [Act.put, sA, sB, sC])
                  refine wpList_nil ?_
                  go_upto_region 32 with fail
                  refine wp_region_lit ?_
                  refine tkL (.slice Al ls.length cl) (h := ?_)
                  (try simp only [Act.put, sA, sB, sC])
                  refine tkL (.int .i64 (ls.length : Int)) (h := ?_)
                  (try simp only [Act.put, sA, sB, sC])
                  refine wpList_q (by rfl) (.int .i64 ((ls.length : Int) - 1)) ?he ?_
                  case he => (go_simp; (first | done | (refine wr64 _ ?_ ?_ <;> (have q0 := HLB.out; omega)) | (have q0 := HLB.out; omega) | (have q0 := HLB.out; split <;> omega) | (have q0 := HLB.out; intro hh; omega)))
                  (try simp only [Act.put, sA, sB, sC])
                  refine tkL (.int .i64 ((ls.length : Int) - 1)) (h := ?_)
                  (try simp only [Act.put, sA, sB, sC])
                  refine wpList_nil ?_
                  go_wp2_with fail
                  refine wp_uloop (ds := []) (fun n fr wr => ∃ (k : Nat) (y : AskV) (b : Bool), (k) = n ∧ Fits fr 199 [(0, .int .i64 room), (1, .slice (some ⟨go, oo, none⟩) on oc), (4, .bool false), (5, .pointer (some ⟨q1, 0, none⟩)), (6, .slice Al ls.length cl), (7, .int .i64 (i : Int)), (8, .pointer (some ⟨bn8, 0, none⟩)), (9, .int .i64 (oQ (atS ls (os i).a.se))), (10, .int .i64 (ls.length : Int)), (12, .pointer (some ⟨bn12, 0, none⟩)), (13, .bool b), (14, .int .i64 ((k : Int) - 1)), (55, .int .i64 ((os i).k)), (56, .bool false), (76, .bool false), (98, .bool true)] ∧ Hid (k ≤ ls.length ∧ firstR (os i).zs (ls.drop k) = (y, b) ∧ Since w wr ∧ Blk wr bn8 38 #[.int .i64 ((os i).k), .int .i64 ((os i).a.se), .int .i64 ((os i).a.fl), .int .i64 ((os i).a.fm), .int .i64 ((os i).a.to), .int .i64 ((os i).a.ma), .slice (os i).A (os i).n (os i).c] ∧ Blk wr bn12 30 #[.int .i64 y.se, .int .i64 y.fl, .int .i64 y.fm, .int .i64 y.to, .int .i64 y.ma] ∧ QO w.heap.size q1 (btw room 0 64) ls Sq wr ∧ (wr).ownsRow w.heap.size 30 5 (.slice Al ls.length cl) ls.length (rowsOf askC ls))) (ls.length) ?start106 ?round106
                  case start106 => exact ⟨ls.length, zA, false, rfl, ⟨rfl, rfl, rfl, rfl, rfl, rfl, rfl, rfl, rfl, rfl, rfl, rfl, rfl, rfl, rfl, rfl, rfl, trivial⟩, Lib.hid ⟨Nat.le_refl _, (firstR_end _ _), HS106.out, HBn8106.out, HBn12106.out, HFq_106.out, HFl_106.out⟩⟩
                  case round106 =>
                   intro n fr wr hR J4 K4 hJ4 hK4
                   clear HS106 HBn8106 HBn12106 HFq_106 HFl_106
                   obtain ⟨k, y, b, hn, hF, HO⟩ := hR
                   have HMF := Lib.hid hn; clear hn
                   obtain ⟨e0, e1, g0, g1, g2, g3, g4⟩ := HO.out
                   clear HO
                   have HKF := Lib.hid e0
                   have HFR := Lib.hid e1
                   have HS156 := Lib.hid g0
                   have HBn8156 := Lib.hid g1
                   have HBn12156 := Lib.hid g2
                   have HFq156 := Lib.hid g3
                   have HFl156 := Lib.hid g4
                   clear e0 e1 g0 g1 g2 g3 g4
                   obtain ⟨u, hu⟩ := hF.open_
                   have hu2 := hu.trans (show _ = #[.int .i64 room, .slice (some ⟨go, oo, none⟩) on oc, u 2, u 3, .bool false, .pointer (some ⟨q1, 0, none⟩), .slice Al ls.length cl, .int .i64 (i : Int), .pointer (some ⟨bn8, 0, none⟩), .int .i64 (oQ (atS ls (os i).a.se)), .int .i64 (ls.length : Int), u 11, .pointer (some ⟨bn12, 0, none⟩), .bool b, .int .i64 ((k : Int) - 1), u 15, u 16, u 17, u 18, u 19, u 20, u 21, u 22, u 23, u 24, u 25, u 26, u 27, u 28, u 29, u 30, u 31, u 32, u 33, u 34, u 35, u 36, u 37, u 38, u 39, u 40, u 41, u 42, u 43, u 44, u 45, u 46, u 47, u 48, u 49, u 50, u 51, u 52, u 53, u 54, .int .i64 ((os i).k), .bool false, u 57, u 58, u 59, u 60, u 61, u 62, u 63, u 64, u 65, u 66, u 67, u 68, u 69, u 70, u 71, u 72, u 73, u 74, u 75, .bool false, u 77, u 78, u 79, u 80, u 81, u 82, u 83, u 84, u 85, u 86, u 87, u 88, u 89, u 90, u 91, u 92, u 93, u 94, u 95, u 96, u 97, .bool true, u 99, u 100, u 101, u 102, u 103, u 104, u 105, u 106, u 107, u 108, u 109, u 110, u 111, u 112, u 113, u 114, u 115, u 116, u 117, u 118, u 119, u 120, u 121, u 122, u 123, u 124, u 125, u 126, u 127, u 128, u 129, u 130, u 131, u 132, u 133, u 134, u 135, u 136, u 137, u 138, u 139, u 140, u 141, u 142, u 143, u 144, u 145, u 146, u 147, u 148, u 149, u 150, u 151, u 152, u 153, u 154, u 155, u 156, u 157, u 158, u 159, u 160, u 161, u 162, u 163, u 164, u 165, u 166, u 167, u 168, u 169, u 170, u 171, u 172, u 173, u 174, u 175, u 176, u 177, u 178, u 179, u 180, u 181, u 182, u 183, u 184, u 185, u 186, u 187, u 188, u 189, u 190, u 191, u 192, u 193, u 194, u 195, u 196, u 197, u 198] by kernel_rfl)
                   clear hu hF
                   subst hu2
                   by_cases hcs : 0 < k
                   rotate_left
                   · have HKP := Lib.hid hcs; clear hcs
                     go_upto_region 33 with fail
                     refine wp_region_lit ?_
                     refine tkL (.int .i64 ((k : Int) - 1)) (h := ?_)
                     (try simp only [Act.put, sA, sB, sC])
                     refine wpList_q (by rfl) (.bool false) ?he ?_
                     case he => (have q0 := HKP.out; go_simp; (first | done | rfl | omega))
                     (try simp only [Act.put, sA, sB, sC])
                     refine wpList_nil ?_
                     have HFQ := Lib.hid (show firstR (os i).zs ls = (y, b) by have q := HFR.out; rw [show k = 0 by have := HKP.out; omega] at q; exact q)
                     go_upto_region 42 with fail
                     refine wp_region_lit ?_
                     refine tkL (.pointer (some ⟨q1, 0, none⟩)) (h := ?_)
                     (try simp only [Act.put, sA, sB, sC])
                     refine wpList_wp (by rfl) (fun K hK => ?_)
                     refine wp_new (fun b => .slice (some ⟨b, 0, none⟩) 0 0) 3 #[] (by rintro b rfl; first | rfl | kernel_rfl) ?_
                     intro bn142 w157 hge hB hb
                     refine hK.out _ _ ?_
                     clear hK K
                     (try simp only [Act.put, sA, sB, sC])
                     have HNn142n8 := Lib.hid (show bn142 ≠ bn8 by have := Blk.lt HBn8156.out; omega)
                     have HNn142n12 := Lib.hid (show bn142 ≠ bn12 by have := Blk.lt HBn12156.out; omega)
                     have HGn142 := Lib.hid (show w.heap.size ≤ bn142 by have := Since.size HS156.out; omega)
                     have HIn142_q := Lib.hid (QO.far HFq156.out hge)
                     have HIn142_l := Lib.hid (own_far HFl156.out hge)
                     have HS157 := Lib.hid (Since.trans HS156.out hb)
                     have HBn8157 := Lib.hid (keep_blk hb HBn8156.out)
                     have HBn12157 := Lib.hid (keep_blk hb HBn12156.out)
                     have HFq157 := Lib.hid (QO.keep hb HFq156.out)
                     have HFl157 := Lib.hid (keep_own hb HFl156.out)
                     clear HS156 HBn8156 HBn12156 HFq156 HFl156
                     clear hb hge
                     have HBn142157 := Lib.hid hB
                     clear hB
                     refine tkL (.pointer (some ⟨bn8, 6, none⟩)) (h := ?_)
                     (try simp only [Act.put, sA, sB, sC])
                     refine wpList_q (by rfl) (.slice (os i).A (os i).n (os i).c) ?he ?_
                     case he => exact exec_cell 36 _ _ HBn8157.out rfl rfl rfl Try.underlying36 rfl
                     (try simp only [Act.put, sA, sB, sC])
                     have HOE := Lib.hid (own_empty (e := 3) (size := 1) HBn142157.out HGn142.out)
                     have HIfn8 := Lib.hid (show bn8 ∉ blkOf (some ⟨bn142, 0, none⟩) by simp [blkOf]; exact (Ne.symm HNn142n8.out))
                     have HIfn12 := Lib.hid (show bn12 ∉ blkOf (some ⟨bn142, 0, none⟩) by simp [blkOf]; exact (Ne.symm HNn142n12.out))
                     have HDfq := Lib.hid (show ∀ g ∈ Sq, g ∉ blkOf (some ⟨bn142, 0, none⟩) from fun g hg h => HIn142_q.out (by simp [blkOf] at h; rw [← h]; exact hg))
                     have HDfl := Lib.hid (show ∀ g ∈ (blkOf Al), g ∉ blkOf (some ⟨bn142, 0, none⟩) from fun g hg h => HIn142_l.out (by simp [blkOf] at h; rw [← h]; exact hg))
                     refine wpList_wp (by rfl) (fun K hK => ?_)
                     refine wp_append_row (.tmp 142) (.tmp 144) 36 rfl w.heap.size 3 (Value.int .i64 0) 1 8 Try.underlying36 (by kernel_rfl) rfl (by decide) (by decide) (some ⟨bn142, 0, none⟩) 0 0 ([]) rfl HOE.out _ ((os i).A) ((os i).n) ((os i).c) (icells (os i).zs) rfl (IV.reads (IV.keep HS157.out HIV.out.1)) (icells_one _) (by have := HNF.out; omega) (Since.size HS157.out) ((os i).n) (icells (os i).zs) (Nat.zero_add _) rfl ?_
                     intro A_1 c_1 w158 hown hupd hfar
                     refine hK.out _ _ ?_
                     clear hK K
                     (try simp only [Act.put, sA, sB, sC])
                     have HS158 := Lib.hid (Since.upd HS157.out hupd (own_low HOE.out))
                     have HBn8158 := Lib.hid (Upd.blk hupd HBn8157.out HIfn8.out)
                     have HIn8_f_158 := Lib.hid (nin_next hfar HIfn8.out (Blk.lt HBn8157.out))
                     have HBn12158 := Lib.hid (Upd.blk hupd HBn12157.out HIfn12.out)
                     have HIn12_f_158 := Lib.hid (nin_next hfar HIfn12.out (Blk.lt HBn12157.out))
                     have HFq158 := Lib.hid (QO.upd hupd HFq157.out HDfq.out)
                     have HDDq_f_158 := Lib.hid (dis_next hfar HDfq.out (QO.lt HFq157.out))
                     have HFl158 := Lib.hid (Upd.own hupd HFl157.out HDfl.out)
                     have HDDl_f_158 := Lib.hid (dis_next hfar HDfl.out (own_lt HFl157.out))
                     have HFf158 := Lib.hid hown
                     clear hupd hown hfar HS157 HBn8157 HBn12157 HFq157 HFl157 HOE
                     refine wpList_wp (by rfl) (fun K hK => ?_)
                     (try go_simp)
                     refine (firstV w.heap.size q1 (btw room 0 64) ls Sq _ _ _ (os i).zs _ HFq158.out (by have := HLB.out; omega) (IV.own HFf158.out) (by have := HNF.out; omega) y b (by rw [← HFQ.out]; exact (firstR_at _ _).symm)).mono ?_
                     rintro e w159 ⟨rfl, hb⟩
                     (try go_wp2_with fail)
                     refine hK.out _ _ ?_
                     clear hK K
                     (try simp only [Act.put, sA, sB, sC])
                     have HS159 := Lib.hid (Since.trans HS158.out hb)
                     have HBn8159 := Lib.hid (keep_blk hb HBn8158.out)
                     have HBn12159 := Lib.hid (keep_blk hb HBn12158.out)
                     have HFq159 := Lib.hid (QO.keep hb HFq158.out)
                     have HFl159 := Lib.hid (keep_own hb HFl158.out)
                     have HFf159 := Lib.hid (keep_own hb HFf158.out)
                     clear HS158 HBn8158 HBn12158 HFq158 HFl158 HFf158
                     clear hb
                     refine tkL (.tuple #[.agg #[.int .i64 y.se, .int .i64 y.fl, .int .i64 y.fm, .int .i64 y.to, .int .i64 y.ma], .bool b]) (h := ?_)
                     (try simp only [Act.put, sA, sB, sC])
                     refine tkL (.agg #[.int .i64 y.se, .int .i64 y.fl, .int .i64 y.fm, .int .i64 y.to, .int .i64 y.ma]) (h := ?_)
                     (try simp only [Act.put, sA, sB, sC])
                     refine tkL (.bool b) (h := ?_)
                     (try simp only [Act.put, sA, sB, sC])
                     refine wpList_wp (by rfl) (fun K hK => ?_)
                     refine wp_new (fun b => .pointer (some ⟨b, 0, none⟩)) 30 #[.int .i64 0, .int .i64 0, .int .i64 0, .int .i64 0, .int .i64 0] (by rintro b rfl; first | rfl | kernel_rfl) ?_
                     intro bn17 w160 hge hB hb
                     refine hK.out _ _ ?_
                     clear hK K
                     (try simp only [Act.put, sA, sB, sC])
                     have HNn17n8 := Lib.hid (show bn17 ≠ bn8 by have := Blk.lt HBn8159.out; omega)
                     have HNn17n12 := Lib.hid (show bn17 ≠ bn12 by have := Blk.lt HBn12159.out; omega)
                     have HGn17 := Lib.hid (show w.heap.size ≤ bn17 by have := Since.size HS159.out; omega)
                     have HIn17_q := Lib.hid (QO.far HFq159.out hge)
                     have HIn17_l := Lib.hid (own_far HFl159.out hge)
                     have HIn17_f := Lib.hid (own_far HFf159.out hge)
                     have HS160 := Lib.hid (Since.trans HS159.out hb)
                     have HBn8160 := Lib.hid (keep_blk hb HBn8159.out)
                     have HBn12160 := Lib.hid (keep_blk hb HBn12159.out)
                     have HFq160 := Lib.hid (QO.keep hb HFq159.out)
                     have HFl160 := Lib.hid (keep_own hb HFl159.out)
                     have HFf160 := Lib.hid (keep_own hb HFf159.out)
                     clear HS159 HBn8159 HBn12159 HFq159 HFl159 HFf159
                     clear hb hge
                     have HBn17160 := Lib.hid hB
                     clear hB
                     refine wpList_wp (by rfl) (fun K hK => ?_)
                     refine wp_st_row 30 _ _ rfl #[.int .i64 y.se, .int .i64 y.fl, .int .i64 y.fm, .int .i64 y.to, .int .i64 y.ma] rfl rfl (HasRow.of HBn17160.out rfl) rfl (by simp [Value.oneCell']) (by kernel_rfl) ?_
                     intro w161 hw
                     refine hK.out _ _ ?_
                     clear hK K
                     (try simp only [Act.put, sA, sB, sC])
                     have HS161 := Lib.hid (show Since w w161 by rw [hw]; exact Since.setRow HS160.out HGn17.out _)
                     have HBn8161 := Lib.hid (show Blk w161 bn8 38 #[.int .i64 ((os i).k), .int .i64 ((os i).a.se), .int .i64 ((os i).a.fl), .int .i64 ((os i).a.fm), .int .i64 ((os i).a.to), .int .i64 ((os i).a.ma), .slice (os i).A (os i).n (os i).c] by rw [hw]; exact Blk.row_far HBn8160.out (Ne.symm HNn17n8.out) _)
                     have HBn12161 := Lib.hid (show Blk w161 bn12 30 #[.int .i64 y.se, .int .i64 y.fl, .int .i64 y.fm, .int .i64 y.to, .int .i64 y.ma] by rw [hw]; exact Blk.row_far HBn12160.out (Ne.symm HNn17n12.out) _)
                     have HBn17161 := Lib.hid (show Blk w161 bn17 30 #[.int .i64 y.se, .int .i64 y.fl, .int .i64 y.fm, .int .i64 y.to, .int .i64 y.ma] by rw [hw]; exact Blk.row HBn17160.out _)
                     have HFq_161 := Lib.hid (show QO w.heap.size q1 (btw room 0 64) ls Sq w161 by rw [hw]; exact QO.row_far HFq160.out HIn17_q.out _)
                     have HFl_161 := Lib.hid (show (w161).ownsRow w.heap.size 30 5 (.slice Al ls.length cl) ls.length (rowsOf askC ls) by rw [hw]; exact own_row_far HFl160.out HIn17_l.out _)
                     have HFf_161 := Lib.hid (show (w161).ownsRow w.heap.size 3 1 (.slice A_1 ((os i).n) c_1) ((os i).n) (icells (os i).zs) by rw [hw]; exact own_row_far HFf160.out HIn17_f.out _)
                     clear hw HS160 HBn8160 HBn12160 HBn17160 HFq160 HFl160 HFf160
                     refine tkL (.bool b) (h := ?_)
                     (try simp only [Act.put, sA, sB, sC])
                     refine wpList_nil ?_
                     go_upto_region 43 with fail
                     refine wp_region_lit ?_
                     refine wpList_q (by rfl) (.agg #[.int .i64 y.se, .int .i64 y.fl, .int .i64 y.fm, .int .i64 y.to, .int .i64 y.ma]) ?he ?_
                     case he => exact exec_load_row 30 _ _ HBn17161.out rfl rfl Try.underlying30 rfl (by kernel_rfl)
                     (try simp only [Act.put, sA, sB, sC])
                     refine wpList_q (by rfl) (.agg #[.int .i64 y.se, .int .i64 y.fl, .int .i64 y.fm, .int .i64 y.to, .int .i64 y.ma]) ?he ?_
                     case he => exact exec_load_row 30 _ _ HBn12161.out rfl rfl Try.underlying30 rfl (by kernel_rfl)
                     (try simp only [Act.put, sA, sB, sC])
                     refine wpList_q (by rfl) (.bool false) ?he ?_
                     case he => (go_simp; (try with_reducible rfl))
                     (try simp only [Act.put, sA, sB, sC])
                     refine tkL (.bool false) (h := ?_)
                     (try simp only [Act.put, sA, sB, sC])
                     refine tkL (.bool b) (h := ?_)
                     (try simp only [Act.put, sA, sB, sC])
                     refine tkL (.bool b) (h := ?_)
                     (try simp only [Act.put, sA, sB, sC])
                     refine wpList_q (by rfl) (.bool false) ?he ?_
                     case he => (go_simp; (try with_reducible rfl))
                     (try simp only [Act.put, sA, sB, sC])
                     refine tkL (.bool false) (h := ?_)
                     (try simp only [Act.put, sA, sB, sC])
                     refine wpList_nil ?_
                     go_wp2_with fail
                     refine Met.intro ?_
                     exact hJ3 _ _ ⟨ls, Sq, Al, cl, ⟨rfl, rfl, rfl, rfl, rfl, rfl, rfl, rfl, rfl, trivial⟩, Lib.hid ⟨(by have := HLN.out; omega), HUQ.out, HDL.out, HS161.out, HBn8161.out, HFq_161.out, HFl_161.out⟩⟩
                   · have HKP := Lib.hid hcs; clear hcs
                     go_upto_region 33 with fail
                     refine wp_region_lit ?_
                     refine tkL (.int .i64 ((k : Int) - 1)) (h := ?_)
                     (try simp only [Act.put, sA, sB, sC])
                     refine wpList_q (by rfl) (.bool true) ?he ?_
                     case he => (have q0 := HKP.out; go_simp; (first | done | rfl | omega))
                     (try simp only [Act.put, sA, sB, sC])
                     refine wpList_nil ?_
                     obtain ⟨m, hm⟩ : ∃ m, k = m + 1 := ⟨k - 1, by have := HKP.out; omega⟩
                     subst hm
                     obtain ⟨x, hx⟩ : ∃ x, ls[m]? = some x := ⟨_, List.getElem?_eq_getElem (by have := HKF.out; omega)⟩
                     have HX := Lib.hid hx; clear hx
                     obtain ⟨gl, hgl⟩ := own_addr HFl156.out (show 0 < ls.length by have := HKF.out; omega)
                     subst hgl
                     go_upto_region 35 with fail
                     refine wp_region_lit ?_
                     refine tkL (.bool false) (h := ?_)
                     (try simp only [Act.put, sA, sB, sC])
                     refine wpList_nil ?_
                     go_upto_region 36 with fail
                     refine wp_region_lit ?_
                     refine tkL (.int .i64 0) (h := ?_)
                     (try simp only [Act.put, sA, sB, sC])
                     refine wpList_nil ?_
                     go_wp2_with fail
                     refine wp_uloop (ds := []) (fun n fr wr => ∃ j : Nat, ((os i).n - j) = n ∧ Fits fr 199 [(0, .int .i64 room), (1, .slice (some ⟨go, oo, none⟩) on oc), (4, .bool false), (5, .pointer (some ⟨q1, 0, none⟩)), (6, .slice (some ⟨gl, 0, none⟩) ls.length cl), (7, .int .i64 (i : Int)), (8, .pointer (some ⟨bn8, 0, none⟩)), (9, .int .i64 (oQ (atS ls (os i).a.se))), (10, .int .i64 (ls.length : Int)), (12, .pointer (some ⟨bn12, 0, none⟩)), (13, .bool b), (14, .int .i64 (((m + 1 : Nat) : Int) - 1)), (15, .bool (anyI (os i).zs x.fl j)), (16, .int .i64 (j : Int)), (55, .int .i64 ((os i).k)), (56, .bool false), (76, .bool false), (98, .bool true)] ∧ Hid (j ≤ (os i).n ∧ Since w wr ∧ Blk wr bn8 38 #[.int .i64 ((os i).k), .int .i64 ((os i).a.se), .int .i64 ((os i).a.fl), .int .i64 ((os i).a.fm), .int .i64 ((os i).a.to), .int .i64 ((os i).a.ma), .slice (os i).A (os i).n (os i).c] ∧ Blk wr bn12 30 #[.int .i64 y.se, .int .i64 y.fl, .int .i64 y.fm, .int .i64 y.to, .int .i64 y.ma] ∧ QO w.heap.size q1 (btw room 0 64) ls Sq wr ∧ (wr).ownsRow w.heap.size 30 5 (.slice (some ⟨gl, 0, none⟩) ls.length cl) ls.length (rowsOf askC ls))) ((os i).n - 0) ?start156 ?round156
                     case start156 => exact ⟨0, rfl, ⟨rfl, rfl, rfl, rfl, rfl, rfl, rfl, rfl, rfl, rfl, rfl, rfl, rfl, rfl, rfl, rfl, rfl, rfl, rfl, trivial⟩, Lib.hid ⟨Nat.zero_le _, HS156.out, HBn8156.out, HBn12156.out, HFq156.out, HFl156.out⟩⟩
                     case round156 =>
                      intro n fr wr hR J5 K5 hJ5 hK5
                      clear HS156 HBn8156 HBn12156 HFq156 HFl156
                      obtain ⟨j, hn, hF, HO⟩ := hR
                      have HMJ := Lib.hid hn; clear hn
                      obtain ⟨e0, g0, g1, g2, g3, g4⟩ := HO.out
                      clear HO
                      have HJN := Lib.hid e0
                      have HS206 := Lib.hid g0
                      have HBn8206 := Lib.hid g1
                      have HBn12206 := Lib.hid g2
                      have HFq206 := Lib.hid g3
                      have HFl206 := Lib.hid g4
                      clear e0 g0 g1 g2 g3 g4
                      obtain ⟨u, hu⟩ := hF.open_
                      have hu2 := hu.trans (show _ = #[.int .i64 room, .slice (some ⟨go, oo, none⟩) on oc, u 2, u 3, .bool false, .pointer (some ⟨q1, 0, none⟩), .slice (some ⟨gl, 0, none⟩) ls.length cl, .int .i64 (i : Int), .pointer (some ⟨bn8, 0, none⟩), .int .i64 (oQ (atS ls (os i).a.se)), .int .i64 (ls.length : Int), u 11, .pointer (some ⟨bn12, 0, none⟩), .bool b, .int .i64 (((m + 1 : Nat) : Int) - 1), .bool (anyI (os i).zs x.fl j), .int .i64 (j : Int), u 17, u 18, u 19, u 20, u 21, u 22, u 23, u 24, u 25, u 26, u 27, u 28, u 29, u 30, u 31, u 32, u 33, u 34, u 35, u 36, u 37, u 38, u 39, u 40, u 41, u 42, u 43, u 44, u 45, u 46, u 47, u 48, u 49, u 50, u 51, u 52, u 53, u 54, .int .i64 ((os i).k), .bool false, u 57, u 58, u 59, u 60, u 61, u 62, u 63, u 64, u 65, u 66, u 67, u 68, u 69, u 70, u 71, u 72, u 73, u 74, u 75, .bool false, u 77, u 78, u 79, u 80, u 81, u 82, u 83, u 84, u 85, u 86, u 87, u 88, u 89, u 90, u 91, u 92, u 93, u 94, u 95, u 96, u 97, .bool true, u 99, u 100, u 101, u 102, u 103, u 104, u 105, u 106, u 107, u 108, u 109, u 110, u 111, u 112, u 113, u 114, u 115, u 116, u 117, u 118, u 119, u 120, u 121, u 122, u 123, u 124, u 125, u 126, u 127, u 128, u 129, u 130, u 131, u 132, u 133, u 134, u 135, u 136, u 137, u 138, u 139, u 140, u 141, u 142, u 143, u 144, u 145, u 146, u 147, u 148, u 149, u 150, u 151, u 152, u 153, u 154, u 155, u 156, u 157, u 158, u 159, u 160, u 161, u 162, u 163, u 164, u 165, u 166, u 167, u 168, u 169, u 170, u 171, u 172, u 173, u 174, u 175, u 176, u 177, u 178, u 179, u 180, u 181, u 182, u 183, u 184, u 185, u 186, u 187, u 188, u 189, u 190, u 191, u 192, u 193, u 194, u 195, u 196, u 197, u 198] by kernel_rfl)
                      clear hu hF
                      subst hu2
                      by_cases hcs : j < (os i).n
                      rotate_left
                      · have HJL := Lib.hid hcs; clear hcs
                        go_upto_region 37 with fail
                        refine wp_region_lit ?_
                        refine tkL (.int .i64 (j : Int)) (h := ?_)
                        (try simp only [Act.put, sA, sB, sC])
                        refine tkL (.pointer (some ⟨bn8, 6, none⟩)) (h := ?_)
                        (try simp only [Act.put, sA, sB, sC])
                        refine wpList_q (by rfl) (.slice (os i).A (os i).n (os i).c) ?he ?_
                        case he => exact exec_cell 36 _ _ HBn8206.out rfl rfl rfl Try.underlying36 rfl
                        (try simp only [Act.put, sA, sB, sC])
                        refine tkL (.int .i64 ((os i).n : Int)) (h := ?_)
                        (try simp only [Act.put, sA, sB, sC])
                        refine wpList_q (by rfl) (.bool false) ?he ?_
                        case he => (have q0 := HJL.out; go_simp; (first | done | rfl | omega))
                        (try simp only [Act.put, sA, sB, sC])
                        refine wpList_nil ?_
                        have ej : j = (os i).n := by have := HJL.out; have := HJN.out; omega
                        subst ej
                        cases hok : okF (os i).zs x with
                        | true =>
                         have HAE := Lib.hid (show anyI (os i).zs x.fl (os i).n = false by have q := any_all (os i).zs x.fl; rw [HIV.out.1.1] at q; rw [q]; have q2 : (!(atI (os i).zs x.fl).isSome) = true := hok; cases e : (atI (os i).zs x.fl).isSome; (first | rfl | (rw [e] at q2; cases q2)); (first | rfl | (rw [e] at q2; cases q2))); have HOK := Lib.hid hok; clear hok
                         rw [HAE.out]
                         go_upto_region 40 with fail
                         refine wp_region_lit ?_
                         refine tkL (.bool false) (h := ?_)
                         (try simp only [Act.put, sA, sB, sC])
                         refine wpList_q (by rfl) (.bool true) ?he ?_
                         case he => (go_simp; (try with_reducible rfl))
                         (try simp only [Act.put, sA, sB, sC])
                         refine wpList_nil ?_
                         go_upto_region 41 with fail
                         refine wp_region_lit ?_
                         refine tkL (.slice (some ⟨gl, 0, none⟩) ls.length cl) (h := ?_)
                         (try simp only [Act.put, sA, sB, sC])
                         refine tkL (.int .i64 (((m + 1 : Nat) : Int) - 1)) (h := ?_)
                         (try simp only [Act.put, sA, sB, sC])
                         refine wpList_q (by rfl) (.pointer (some ⟨gl, 0 + m * 5, none⟩)) ?he ?_
                         case he => exact exec_index (i := m) (s := 5) 35 30 _ _ rfl rfl rfl (by push_cast; omega) (by have := HKF.out; omega) Try.underlying35 (by kernel_rfl)
                         (try simp only [Act.put, sA, sB, sC])
                         refine wpList_q (by rfl) (.agg #[.int .i64 x.se, .int .i64 x.fl, .int .i64 x.fm, .int .i64 x.to, .int .i64 x.ma]) ?he ?_
                         case he => exact exec_rng (l := askC x) 30 _ _ (row_q HFl206.out HX.out) rfl rfl Try.underlying30 rfl (by kernel_rfl)
                         (try simp only [Act.put, sA, sB, sC])
                         refine wpList_wp (by rfl) (fun K hK => ?_)
                         refine wp_st_row 30 _ _ rfl #[.int .i64 x.se, .int .i64 x.fl, .int .i64 x.fm, .int .i64 x.to, .int .i64 x.ma] rfl rfl (HasRow.of HBn12206.out rfl) rfl (by simp [Value.oneCell']) (by kernel_rfl) ?_
                         intro w207 hw
                         refine hK.out _ _ ?_
                         clear hK K
                         (try simp only [Act.put, sA, sB, sC])
                         have HS207 := Lib.hid (show Since w w207 by rw [hw]; exact Since.setRow HS206.out HGn12.out _)
                         have HBn8207 := Lib.hid (show Blk w207 bn8 38 #[.int .i64 ((os i).k), .int .i64 ((os i).a.se), .int .i64 ((os i).a.fl), .int .i64 ((os i).a.fm), .int .i64 ((os i).a.to), .int .i64 ((os i).a.ma), .slice (os i).A (os i).n (os i).c] by rw [hw]; exact Blk.row_far HBn8206.out (Ne.symm HNn12n8.out) _)
                         have HBn12207 := Lib.hid (show Blk w207 bn12 30 #[.int .i64 x.se, .int .i64 x.fl, .int .i64 x.fm, .int .i64 x.to, .int .i64 x.ma] by rw [hw]; exact Blk.row HBn12206.out _)
                         have HFq_207 := Lib.hid (show QO w.heap.size q1 (btw room 0 64) ls Sq w207 by rw [hw]; exact QO.row_far HFq206.out HIn12_q.out _)
                         have HFl_207 := Lib.hid (show (w207).ownsRow w.heap.size 30 5 (.slice (some ⟨gl, 0, none⟩) ls.length cl) ls.length (rowsOf askC ls) by rw [hw]; exact own_row_far HFl206.out HIn12_l.out _)
                         clear hw HS206 HBn8206 HBn12206 HFq206 HFl206
                         refine tkL (.bool true) (h := ?_)
                         (try simp only [Act.put, sA, sB, sC])
                         refine wpList_nil ?_
                         go_upto_region 34 with fail
                         refine wp_region_lit ?_
                         refine tkL (.int .i64 (((m + 1 : Nat) : Int) - 1)) (h := ?_)
                         (try simp only [Act.put, sA, sB, sC])
                         refine wpList_q (by rfl) (.int .i64 ((m : Int) - 1)) ?he ?_
                         case he => (have q := HKF.out; have q2 := HLB.out; go_simp; (first | done | (push_cast; simp only [IntKind.wrap, IntKind.bits, IntKind.signed]; simp; omega) | (congr 1; omega) | omega))
                         (try simp only [Act.put, sA, sB, sC])
                         refine tkL (.int .i64 ((m : Int) - 1)) (h := ?_)
                         (try simp only [Act.put, sA, sB, sC])
                         refine wpList_nil ?_
                         go_wp2_with fail
                         refine Met.intro ?_
                         refine hJ4 _ _ _ ?less207 ⟨m, x, true, rfl, ⟨rfl, rfl, rfl, rfl, rfl, rfl, rfl, rfl, rfl, rfl, rfl, rfl, rfl, rfl, rfl, rfl, rfl, trivial⟩, Lib.hid ⟨by have := HKF.out; omega, first_y HX.out HOK.out, HS207.out, HBn8207.out, HBn12207.out, HFq_207.out, HFl_207.out⟩⟩
                         case less207 => exact (by have := HMF.out; omega)
                        | false =>
                         have HAE := Lib.hid (show anyI (os i).zs x.fl (os i).n = true by have q := any_all (os i).zs x.fl; rw [HIV.out.1.1] at q; rw [q]; have q2 : (!(atI (os i).zs x.fl).isSome) = false := hok; cases e : (atI (os i).zs x.fl).isSome; (first | rfl | (rw [e] at q2; cases q2)); (first | rfl | (rw [e] at q2; cases q2))); have HOK := Lib.hid hok; clear hok
                         rw [HAE.out]
                         go_upto_region 40 with fail
                         refine wp_region_lit ?_
                         refine tkL (.bool true) (h := ?_)
                         (try simp only [Act.put, sA, sB, sC])
                         refine wpList_q (by rfl) (.bool false) ?he ?_
                         case he => (go_simp; (try with_reducible rfl))
                         (try simp only [Act.put, sA, sB, sC])
                         refine wpList_nil ?_
                         go_upto_region 34 with fail
                         refine wp_region_lit ?_
                         refine tkL (.int .i64 (((m + 1 : Nat) : Int) - 1)) (h := ?_)
                         (try simp only [Act.put, sA, sB, sC])
                         refine wpList_q (by rfl) (.int .i64 ((m : Int) - 1)) ?he ?_
                         case he => (have q := HKF.out; have q2 := HLB.out; go_simp; (first | done | (push_cast; simp only [IntKind.wrap, IntKind.bits, IntKind.signed]; simp; omega) | (congr 1; omega) | omega))
                         (try simp only [Act.put, sA, sB, sC])
                         refine tkL (.int .i64 ((m : Int) - 1)) (h := ?_)
                         (try simp only [Act.put, sA, sB, sC])
                         refine wpList_nil ?_
                         go_wp2_with fail
                         refine Met.intro ?_
                         refine hJ4 _ _ _ ?less206 ⟨m, y, b, rfl, ⟨rfl, rfl, rfl, rfl, rfl, rfl, rfl, rfl, rfl, rfl, rfl, rfl, rfl, rfl, rfl, rfl, rfl, trivial⟩, Lib.hid ⟨by have := HKF.out; omega, first_n HX.out HOK.out HFR.out, HS206.out, HBn8206.out, HBn12206.out, HFq206.out, HFl206.out⟩⟩
                         case less206 => exact (by have := HMF.out; omega)
                      · have HJL := Lib.hid hcs; clear hcs
                        go_upto_region 37 with fail
                        refine wp_region_lit ?_
                        refine tkL (.int .i64 (j : Int)) (h := ?_)
                        (try simp only [Act.put, sA, sB, sC])
                        refine tkL (.pointer (some ⟨bn8, 6, none⟩)) (h := ?_)
                        (try simp only [Act.put, sA, sB, sC])
                        refine wpList_q (by rfl) (.slice (os i).A (os i).n (os i).c) ?he ?_
                        case he => exact exec_cell 36 _ _ HBn8206.out rfl rfl rfl Try.underlying36 rfl
                        (try simp only [Act.put, sA, sB, sC])
                        refine tkL (.int .i64 ((os i).n : Int)) (h := ?_)
                        (try simp only [Act.put, sA, sB, sC])
                        refine wpList_q (by rfl) (.bool true) ?he ?_
                        case he => (have q0 := HJL.out; go_simp; (first | done | rfl | omega))
                        (try simp only [Act.put, sA, sB, sC])
                        refine wpList_nil ?_
                        cases han : anyI (os i).zs x.fl j with
                        | true =>
                         have HAN := Lib.hid han; clear han
                         go_upto_region 39 with fail
                         have HKS : Hid (KeepS (fun W : World => Since w W ∧ Blk W bn8 38 #[.int .i64 ((os i).k), .int .i64 ((os i).a.se), .int .i64 ((os i).a.fl), .int .i64 ((os i).a.fm), .int .i64 ((os i).a.to), .int .i64 ((os i).a.ma), .slice (os i).A (os i).n (os i).c] ∧ Blk W bn12 30 #[.int .i64 y.se, .int .i64 y.fl, .int .i64 y.fm, .int .i64 y.to, .int .i64 y.ma] ∧ QO w.heap.size q1 (btw room 0 64) ls Sq W ∧ (W).ownsRow w.heap.size 30 5 (.slice (some ⟨gl, 0, none⟩) ls.length cl) ls.length (rowsOf askC ls)) wr) := Lib.hid ⟨fun W W' k ⟨h, h0, h1, h2, h3⟩ => ⟨h.trans k, keep_blk k h0, keep_blk k h1, QO.keep k h2, keep_own k h3⟩, ⟨HS206.out, HBn8206.out, HBn12206.out, HFq206.out, HFl206.out⟩⟩
                         have HRK := Lib.hid HKS.out.1
                         refine wp_held HKS.out (by kernel_rfl) (fun hHeld => ?_)
                         refine tkQ 0 (.bool true) hHeld (h := ?_)
                         (try simp only [Act.put, sA, sB, sC])
                         refine tkQ 1 (.bool true) hHeld (h := ?_)
                         (try simp only [Act.put, sA, sB, sC])
                         refine tkU 2 hHeld (h := ?_)
                         (try simp only [Act.put, sA, sB, sC])
                         refine tkU 3 hHeld (h := ?_)
                         (try simp only [Act.put, sA, sB, sC])
                         refine tkU 4 hHeld (h := ?_)
                         (try simp only [Act.put, sA, sB, sC])
                         refine tkU 5 hHeld (h := ?_)
                         (try simp only [Act.put, sA, sB, sC])
                         refine tkU 6 hHeld (h := ?_)
                         (try simp only [Act.put, sA, sB, sC])
                         refine tkU 7 hHeld (h := ?_)
                         (try simp only [Act.put, sA, sB, sC])
                         refine tkU 8 hHeld (h := ?_)
                         (try simp only [Act.put, sA, sB, sC])
                         refine tkU 9 hHeld (h := ?_)
                         (try simp only [Act.put, sA, sB, sC])
                         refine tkU 10 hHeld (h := ?_)
                         (try simp only [Act.put, sA, sB, sC])
                         refine tkU 11 hHeld (h := ?_)
                         (try simp only [Act.put, sA, sB, sC])
                         refine tkU 12 hHeld (h := ?_)
                         (try simp only [Act.put, sA, sB, sC])
                         refine tkQ 13 (.bool true) hHeld (h := ?_)
                         (try simp only [Act.put, sA, sB, sC])
                         refine tkQ 14 (.bool true) hHeld (h := ?_)
                         (try simp only [Act.put, sA, sB, sC])
                         refine wpAnyH_done (by kernel_rfl) ?_ _
                         have HSd39 := Lib.hid hHeld.1
                         have HBn8d39 := Lib.hid (hHeld.2.1)
                         have HBn12d39 := Lib.hid (hHeld.2.2.1)
                         have HFqd39 := Lib.hid (hHeld.2.2.2.1)
                         have HFld39 := Lib.hid (hHeld.2.2.2.2)
                         clear hHeld HRK HKS HS206 HBn8206 HBn12206 HFq206 HFl206
                         go_upto_region 38 with fail
                         refine wp_region_lit ?_
                         refine tkL (.int .i64 (j : Int)) (h := ?_)
                         (try simp only [Act.put, sA, sB, sC])
                         refine wpList_q (by rfl) (.int .i64 ((j : Int) + 1)) ?he ?_
                         case he => (go_simp; (first | done | (refine wr64 _ ?_ ?_ <;> (have q0 := HJL.out; have q1 := HNF.out; omega)) | (have q0 := HJL.out; have q1 := HNF.out; omega) | (have q0 := HJL.out; have q1 := HNF.out; split <;> omega) | (have q0 := HJL.out; have q1 := HNF.out; intro hh; omega)))
                         (try simp only [Act.put, sA, sB, sC])
                         refine tkL (.int .i64 ((j : Int) + 1)) (h := ?_)
                         (try simp only [Act.put, sA, sB, sC])
                         refine wpList_nil ?_
                         go_wp2_with fail
                         refine Met.intro ?_
                         refine hJ5 _ _ _ ?less206 ⟨(j + 1), rfl, ⟨rfl, rfl, rfl, rfl, rfl, rfl, rfl, rfl, rfl, rfl, rfl, rfl, rfl, (by rw [← any_t HAN.out]; rfl), rfl, rfl, rfl, rfl, rfl, trivial⟩, Lib.hid ⟨by have := HJL.out; omega, HSd39.out, HBn8d39.out, HBn12d39.out, HFqd39.out, HFld39.out⟩⟩
                         case less206 => exact (by have := HMJ.out; have := HJL.out; omega)
                        | false =>
                         have HAN := Lib.hid han; clear han
                         obtain ⟨gd, offd, hAd, hcd⟩ := IV.at_ HIV.out.1 HJL.out
                         have HCED := Lib.hid (hcd j HJL.out); clear hcd
                         have HAD := Lib.hid hAd; clear hAd
                         go_upto_region 39 with fail
                         have HKS : Hid (KeepS (fun W : World => Since w W ∧ Blk W bn8 38 #[.int .i64 ((os i).k), .int .i64 ((os i).a.se), .int .i64 ((os i).a.fl), .int .i64 ((os i).a.fm), .int .i64 ((os i).a.to), .int .i64 ((os i).a.ma), .slice (os i).A (os i).n (os i).c] ∧ Blk W bn12 30 #[.int .i64 y.se, .int .i64 y.fl, .int .i64 y.fm, .int .i64 y.to, .int .i64 y.ma] ∧ QO w.heap.size q1 (btw room 0 64) ls Sq W ∧ (W).ownsRow w.heap.size 30 5 (.slice (some ⟨gl, 0, none⟩) ls.length cl) ls.length (rowsOf askC ls)) wr) := Lib.hid ⟨fun W W' k ⟨h, h0, h1, h2, h3⟩ => ⟨h.trans k, keep_blk k h0, keep_blk k h1, QO.keep k h2, keep_own k h3⟩, ⟨HS206.out, HBn8206.out, HBn12206.out, HFq206.out, HFl206.out⟩⟩
                         have HRK := Lib.hid HKS.out.1
                         refine wp_held HKS.out (by kernel_rfl) (fun hHeld => ?_)
                         refine tkQ 0 (.bool false) hHeld (h := ?_)
                         (try simp only [Act.put, sA, sB, sC])
                         refine tkQ 1 (.bool false) hHeld (h := ?_)
                         (try simp only [Act.put, sA, sB, sC])
                         refine tkQ 2 (.pointer (some ⟨bn8, 6, none⟩)) hHeld (h := ?_)
                         (try simp only [Act.put, sA, sB, sC])
                         refine tkQ 3 (.slice (os i).A (os i).n (os i).c) hHeld (he := by intro w hSw; exact exec_cell 36 _ _ hSw.2.1 rfl rfl rfl Try.underlying36 rfl) (h := ?_)
                         (try simp only [Act.put, sA, sB, sC])
                         refine tkQ 4 (.int .i64 (j : Int)) hHeld (h := ?_)
                         (try simp only [Act.put, sA, sB, sC])
                         refine tkQ 5 (.pointer (some ⟨gd, (offd + j * 1), none⟩)) hHeld (he := by intro w hSw; (rw [HAD.out]; exact exec_index (i := j) (s := 1) 36 3 _ _ rfl rfl rfl rfl HJL.out Try.underlying36 (by kernel_rfl))) (h := ?_)
                         (try simp only [Act.put, sA, sB, sC])
                         refine tkQ 6 (.int .i64 ((os i).zs.getD j 0)) hHeld (he := by intro w hSw; exact exec_at 3 _ _ (by rw [Nat.mul_one]; exact keep_cell hSw.1 HCED.out) rfl rfl Try.underlying3 rfl) (h := ?_)
                         (try simp only [Act.put, sA, sB, sC])
                         refine tkQ 7 (.slice (some ⟨gl, 0, none⟩) ls.length cl) hHeld (h := ?_)
                         (try simp only [Act.put, sA, sB, sC])
                         refine tkQ 8 (.int .i64 (((m + 1 : Nat) : Int) - 1)) hHeld (h := ?_)
                         (try simp only [Act.put, sA, sB, sC])
                         refine tkQ 9 (.pointer (some ⟨gl, 0 + m * 5, none⟩)) hHeld (he := by intro w hSw; exact exec_index (i := m) (s := 5) 35 30 _ _ rfl rfl rfl (by push_cast; omega) (by have := HKF.out; omega) Try.underlying35 (by kernel_rfl)) (h := ?_)
                         (try simp only [Act.put, sA, sB, sC])
                         refine tkQ 10 (.pointer (some ⟨gl, 0 + m * 5 + 1, none⟩)) hHeld (h := ?_)
                         (try simp only [Act.put, sA, sB, sC])
                         refine tkQ 11 (.int .i64 x.fl) hHeld (he := by intro w hSw; exact exec_at 3 _ _ (row_q hSw.2.2.2.2 HX.out 1 _ rfl) rfl rfl Try.underlying3 rfl) (h := ?_)
                         (try simp only [Act.put, sA, sB, sC])
                         refine tkQ 12 (.bool (((os i).zs.getD j 0) == x.fl)) hHeld (h := ?_)
                         (try simp only [Act.put, sA, sB, sC])
                         refine tkQ 13 (.bool (((os i).zs.getD j 0) == x.fl)) hHeld (h := ?_)
                         (try simp only [Act.put, sA, sB, sC])
                         refine tkQ 14 (.bool (((os i).zs.getD j 0) == x.fl)) hHeld (h := ?_)
                         (try simp only [Act.put, sA, sB, sC])
                         refine wpAnyH_done (by kernel_rfl) ?_ _
                         have HSd39v2 := Lib.hid hHeld.1
                         have HBn8d39v2 := Lib.hid (hHeld.2.1)
                         have HBn12d39v2 := Lib.hid (hHeld.2.2.1)
                         have HFqd39v2 := Lib.hid (hHeld.2.2.2.1)
                         have HFld39v2 := Lib.hid (hHeld.2.2.2.2)
                         clear hHeld HRK HKS HS206 HBn8206 HBn12206 HFq206 HFl206
                         go_upto_region 38 with fail
                         refine wp_region_lit ?_
                         refine tkL (.int .i64 (j : Int)) (h := ?_)
                         (try simp only [Act.put, sA, sB, sC])
                         refine wpList_q (by rfl) (.int .i64 ((j : Int) + 1)) ?he ?_
                         case he => (go_simp; (first | done | (refine wr64 _ ?_ ?_ <;> (have q0 := HJL.out; have q1 := HNF.out; omega)) | (have q0 := HJL.out; have q1 := HNF.out; omega) | (have q0 := HJL.out; have q1 := HNF.out; split <;> omega) | (have q0 := HJL.out; have q1 := HNF.out; intro hh; omega)))
                         (try simp only [Act.put, sA, sB, sC])
                         refine tkL (.int .i64 ((j : Int) + 1)) (h := ?_)
                         (try simp only [Act.put, sA, sB, sC])
                         refine wpList_nil ?_
                         go_wp2_with fail
                         refine Met.intro ?_
                         refine hJ5 _ _ _ ?less206 ⟨(j + 1), rfl, ⟨rfl, rfl, rfl, rfl, rfl, rfl, rfl, rfl, rfl, rfl, rfl, rfl, rfl, (by rw [← any_f HAN.out]; rfl), rfl, rfl, rfl, rfl, rfl, trivial⟩, Lib.hid ⟨by have := HJL.out; omega, HSd39v2.out, HBn8d39v2.out, HBn12d39v2.out, HFqd39v2.out, HFld39v2.out⟩⟩
                         case less206 => exact (by have := HMJ.out; have := HJL.out; omega)
                · have HNF := Lib.hid hcs; clear hcs
                  go_upto_region 29 with fail
                  refine wp_region_lit ?_
                  refine tkL (.pointer (some ⟨bn8, 6, none⟩)) (h := ?_)
                  (try simp only [Act.put, sA, sB, sC])
                  refine wpList_q (by rfl) (.slice (os i).A (os i).n (os i).c) ?he ?_
                  case he => exact exec_cell 36 _ _ HBn8104.out rfl rfl rfl Try.underlying36 rfl
                  (try simp only [Act.put, sA, sB, sC])
                  refine tkL (.int .i64 ((os i).n : Int)) (h := ?_)
                  (try simp only [Act.put, sA, sB, sC])
                  refine wpList_q (by rfl) (.bool true) ?he ?_
                  case he => (have q0 := HNF.out; go_simp; (first | done | rfl | omega))
                  (try simp only [Act.put, sA, sB, sC])
                  refine wpList_nil ?_
                  go_upto_region 30 with fail
                  refine wp_region_lit ?_
                  refine wpList_wp (by rfl) (fun K hK => ?_)
                  (try go_simp)
                  refine (ans _).mono ?_
                  rintro e w105 ⟨rfl, hb⟩
                  (try go_wp2_with fail)
                  refine hK.out _ _ ?_
                  clear hK K
                  (try simp only [Act.put, sA, sB, sC])
                  have HS105 := Lib.hid (Since.trans HS104.out hb)
                  have HBn8105 := Lib.hid (keep_blk hb HBn8104.out)
                  have HFq105 := Lib.hid (QO.keep hb HFq104.out)
                  have HFl105 := Lib.hid (keep_own hb HFl104.out)
                  clear HS104 HBn8104 HFq104 HFl104
                  clear hb
                  refine tkL (.bool true) (h := ?_)
                  (try simp only [Act.put, sA, sB, sC])
                  refine wpList_nil ?_
                  (try go_wp2_with fail)
                  go_ret
                  exact ⟨rfl, HS105.out⟩
            · have HK2 := Lib.hid hcs; clear hcs
              go_upto_region 14 with fail
              refine wp_region_lit ?_
              refine wpList_q (by rfl) (.bool false) ?he ?_
              case he => (have q := HK1.out; go_simp; (first | done | exact q | (simp [q]; done)))
              (try simp only [Act.put, sA, sB, sC])
              refine tkL (.bool false) (h := ?_)
              (try simp only [Act.put, sA, sB, sC])
              refine wpList_nil ?_
              go_upto_region 23 with fail
              refine wp_region_lit ?_
              refine wpList_q (by rfl) (.bool true) ?he ?_
              case he => (have q := HK2.out; go_simp; (first | done | exact q | (simp [q]; done)))
              (try simp only [Act.put, sA, sB, sC])
              refine tkL (.bool true) (h := ?_)
              (try simp only [Act.put, sA, sB, sC])
              refine wpList_nil ?_
              cases hat : atS ls (os i).a.se with
              | some j =>
               have HE9 := Lib.hid (show oQ (atS ls (os i).a.se) = (j : Int) by rw [hat]; rfl); have HAT := Lib.hid hat; have HJ := Lib.hid (atS_some hat).1; clear hat
               rw [show oQ (some j) = (j : Int) from rfl]
               go_upto_region 24 with fail
               refine wp_region_lit ?_
               refine tkL (.pointer (some ⟨q1, 0, none⟩)) (h := ?_)
               (try simp only [Act.put, sA, sB, sC])
               refine tkL (.pointer (some ⟨bn8, 1, none⟩)) (h := ?_)
               (try simp only [Act.put, sA, sB, sC])
               refine tkL (.pointer (some ⟨bn8, 1, none⟩)) (h := ?_)
               (try simp only [Act.put, sA, sB, sC])
               refine wpList_q (by rfl) (.int .i64 ((os i).a.se)) ?he ?_
               case he => exact exec_cell 3 _ _ HBn8104.out rfl rfl rfl Try.underlying3 rfl
               (try simp only [Act.put, sA, sB, sC])
               refine wpList_wp (by rfl) (fun K hK => ?_)
               (try go_simp)
               refine (dropV w.heap.size q1 (btw room 0 64) ls Sq (os i).a.se _ HFq104.out (by have := HLB.out; omega) true (ls.eraseIdx j) (drop1 HAT.out).1 (drop1 HAT.out).2).mono ?_
               rintro e w105 ⟨Sq_2, rfl, hobj, hupd, hfar⟩
               (try go_wp2_with fail)
               refine hK.out _ _ ?_
               clear hK K
               (try simp only [Act.put, sA, sB, sC])
               have HS105 := Lib.hid (Since.upd HS104.out hupd (QO.low HFq104.out))
               have HBn8105 := Lib.hid (Upd.blk hupd HBn8104.out HIn8_q.out)
               have HIn8_q_105 := Lib.hid (nin_next hfar HIn8_q.out (Blk.lt HBn8104.out))
               have HFl105 := Lib.hid (Upd.own hupd HFl104.out HDL.out)
               have HDDl_q_105 := Lib.hid (dis_next hfar HDL.out (own_lt HFl104.out))
               have HFq105 := Lib.hid hobj
               clear hupd hobj hfar HS104 HBn8104 HFq104 HFl104
               refine tkL (.int .i64 (j : Int)) (h := ?_)
               (try simp only [Act.put, sA, sB, sC])
               refine wpList_q (by rfl) (.bool true) ?he ?_
               case he => (go_simp; (first | done | rfl | omega))
               (try simp only [Act.put, sA, sB, sC])
               refine wpList_q (by rfl) (.bool false) ?he ?_
               case he => (go_simp; (try with_reducible rfl))
               (try simp only [Act.put, sA, sB, sC])
               refine wpList_nil ?_
               go_upto_region 26 with fail
               refine wp_region_lit ?_
               refine tkL (.int .i64 (j : Int)) (h := ?_)
               (try simp only [Act.put, sA, sB, sC])
               refine wpList_q (by rfl) (.bool true) ?he ?_
               case he => (go_simp; (first | done | rfl | omega))
               (try simp only [Act.put, sA, sB, sC])
               refine wpList_nil ?_
               obtain ⟨gl, hgl⟩ := own_addr HFl105.out (show 0 < ls.length by have := HJ.out; omega)
               subst hgl
               have HCL := Lib.hid (own_cap2 HFl105.out)
               go_upto_region 27 with fail
               have HKS : Hid (KeepS (fun W : World => Since w W ∧ Blk W bn8 38 #[.int .i64 ((os i).k), .int .i64 ((os i).a.se), .int .i64 ((os i).a.fl), .int .i64 ((os i).a.fm), .int .i64 ((os i).a.to), .int .i64 ((os i).a.ma), .slice (os i).A (os i).n (os i).c] ∧ QO w.heap.size q1 (btw room 0 64) (ls.eraseIdx j) Sq_2 W ∧ (W).ownsRow w.heap.size 30 5 (.slice (some ⟨gl, 0, none⟩) ls.length cl) ls.length (rowsOf askC ls)) w105) := Lib.hid ⟨fun W W' k ⟨h, h0, h1, h2⟩ => ⟨h.trans k, keep_blk k h0, QO.keep k h1, keep_own k h2⟩, ⟨HS105.out, HBn8105.out, HFq105.out, HFl105.out⟩⟩
               have HRK := Lib.hid HKS.out.1
               refine wp_held HKS.out (by kernel_rfl) (fun hHeld => ?_)
               refine tkQ 1 (.slice (some ⟨gl, 0, none⟩) ls.length cl) hHeld (h := ?_)
               (try simp only [Act.put, sA, sB, sC])
               refine tkQ 2 (.int .i64 (j : Int)) hHeld (h := ?_)
               (try simp only [Act.put, sA, sB, sC])
               refine tkQ 3 (.slice (some ⟨gl, 0, none⟩) j cl) hHeld (he := by intro w hSw; exact exec_slice (s := 5) 35 30 _ _ _ _ rfl rfl Try.underlying35 (by kernel_rfl) (sb_h _ _ (h := j) rfl (by have := HJ.out; have := HCL.out; omega)) (by split <;> simp [Addr.add]) rfl rfl) (h := ?_)
               (try simp only [Act.put, sA, sB, sC])
               refine tkQ 5 (.slice (some ⟨gl, 0, none⟩) ls.length cl) hHeld (h := ?_)
               (try simp only [Act.put, sA, sB, sC])
               refine tkQ 6 (.int .i64 (j : Int)) hHeld (h := ?_)
               (try simp only [Act.put, sA, sB, sC])
               refine tkQ 7 (.int .i64 ((j : Int) + 1)) hHeld (he := by intro w hSw; (go_simp; (first | done | (refine wr64 _ ?_ ?_ <;> (have q0 := HJ.out; have q1 := HLB.out; omega)) | (have q0 := HJ.out; have q1 := HLB.out; omega) | (have q0 := HJ.out; have q1 := HLB.out; split <;> omega) | (have q0 := HJ.out; have q1 := HLB.out; intro hh; omega)))) (h := ?_)
               (try simp only [Act.put, sA, sB, sC])
               refine tkQ 8 (.slice (cutA cl (j + 1) (some ⟨gl, 0, none⟩) 5) (ls.length - (j + 1)) (cl - (j + 1))) hHeld (he := by intro w hSw; exact exec_slice (s := 5) 35 30 _ _ _ _ rfl rfl Try.underlying35 (by kernel_rfl) (sb_l _ _ (l := j + 1) (by push_cast; rfl) (by have := HJ.out; omega)) (by rfl) rfl rfl) (h := ?_)
               (try simp only [Act.put, sA, sB, sC])
               refine wpAnyH_ready (rs := [0]) (by kernel_rfl) (by simp) ?_
               refine AllReadyH.cons (o := ?o27__0) ?h27__0 (fun K hK => ?_) AllReadyH.nil
               case h27__0 => (first | (simp only [gA, gB, gC]; done) | (simp only [gA, gB, gC]; exact rfl))
               rw [if_pos (by rfl)]
               refine wp_new (fun b => .slice (some ⟨b, 0, none⟩) 0 0) 30 #[] (by rintro b rfl; first | rfl | kernel_rfl) ?_
               intro bn88 w106 hge hB hb
               refine hK.out _ _ (by (apply HRK.out; exact hb; exact hHeld)) (fun hHeld2 => ?_)
               have HIn88_q := Lib.hid (QO.far (hHeld.2.2.1) hge)
               have HIn88_l := Lib.hid (own_far (hHeld.2.2.2) hge)
               have HGn88 := Lib.hid (show w.heap.size ≤ bn88 by have := Since.size hHeld.1; (try simp at this); (try simp at hge); omega)
               have HXn88 := Lib.hid hB
               clear hB
               clear hge
               clear hK K hHeld hb
               have hHeld := hHeld2
               clear hHeld2
               (try simp only [Act.put, sA, sB, sC])
               have HOE2 := Lib.hid (own_empty (e := 30) (size := 5) HXn88.out HGn88.out)
               clear HXn88
               refine wpAnyH_ready (rs := [4]) (by kernel_rfl) (by simp) ?_
               refine AllReadyH.cons (o := ?o27__4) ?h27__4 (fun K hK => ?_) AllReadyH.nil
               case h27__4 => (first | (simp only [gA, gB, gC]; done) | (simp only [gA, gB, gC]; exact rfl))
               rw [if_pos (by rfl)]
               refine wp_append_row (.tmp 88) (.tmp 91) 35 rfl w.heap.size 30 (Value.agg #[.int .i64 0, .int .i64 0, .int .i64 0, .int .i64 0, .int .i64 0]) 5 40 Try.underlying35 (by kernel_rfl) rfl (by decide) (by decide) (some ⟨bn88, 0, none⟩) 0 0 ([]) rfl HOE2.out _ (some ⟨gl, 0, none⟩) j cl ((rowsOf askC ls).take (j * 5)) rfl (own_reads (own_prefix (hHeld.2.2.2) (by have := HJ.out; omega))) (fun u hu => asks_one ls u (List.mem_of_mem_take hu)) (by have := HJ.out; have := HLB.out; omega) (Since.size hHeld.1) j ((rowsOf askC ls).take (j * 5)) (Nat.zero_add _) rfl ?_
               intro A_3 c_3 w107 hown hupd hfar
               have hHeld3 := HKS.out.at_ w107 ⟨Since.upd hHeld.1 hupd (own_low HOE2.out), Upd.blk hupd (hHeld.2.1) (own_ne_ty HOE2.out (hHeld.2.1) (by decide)), QO.upd hupd (hHeld.2.2.1) (fun g hg h => HIn88_q.out (by simp [blkOf] at h; rw [← h]; exact hg)), Upd.own hupd (hHeld.2.2.2) (fun g hg h => HIn88_l.out (by simp [blkOf] at h; rw [← h]; exact hg))⟩
               have HDEq_3 := Lib.hid (dis_next hfar (fun g hg h => HIn88_q.out (by simp [blkOf] at h; rw [← h]; exact hg)) (QO.lt (hHeld.2.2.1)))
               have HDEl_3 := Lib.hid (dis_next hfar (fun g hg h => HIn88_l.out (by simp [blkOf] at h; rw [← h]; exact hg)) (own_lt (hHeld.2.2.2)))
               have HOW_w107 := Lib.hid hown
               refine hK.out _ _ hHeld3 (fun hHeld2 => ?_)
               clear hK K hHeld hHeld3 hupd hown hfar HOE2 
               have hHeld := hHeld2
               clear hHeld2
               (try simp only [Act.put, sA, sB, sC])
               refine wpAnyH_ready (rs := [9]) (by kernel_rfl) (by simp) ?_
               refine AllReadyH.cons (o := ?o27__9) ?h27__9 (fun K hK => ?_) AllReadyH.nil
               case h27__9 => (first | (simp only [gA, gB, gC]; done) | (simp only [gA, gB, gC]; exact rfl))
               rw [if_pos (by rfl)]
               refine wp_append_row (.tmp 92) (.tmp 96) 35 rfl w.heap.size 30 (Value.agg #[.int .i64 0, .int .i64 0, .int .i64 0, .int .i64 0, .int .i64 0]) 5 40 Try.underlying35 (by kernel_rfl) rfl (by decide) (by decide) A_3 j c_3 ((rowsOf askC ls).take (j * 5)) rfl HOW_w107.out _ (cutA cl (j + 1) (some ⟨gl, 0, none⟩) 5) (ls.length - (j + 1)) (cl - (j + 1)) ((rowsOf askC ls).drop ((j + 1) * 5)) rfl (reads_cut (own_reads (hHeld.2.2.2)) (by have := HJ.out; omega) HCL.out) (fun u hu => asks_one ls u (List.mem_of_mem_drop hu)) (by have := HJ.out; have := HLB.out; omega) (Since.size hHeld.1) ((ls.eraseIdx j).length) (rowsOf askC (ls.eraseIdx j)) (by have := HJ.out; rw [List.length_eraseIdx]; split <;> omega) (erase_rows askC_len HJ.out) ?_
               intro A_4 c_4 w108 hown hupd hfar
               have hHeld3 := HKS.out.at_ w108 ⟨Since.upd hHeld.1 hupd (own_low HOW_w107.out), Upd.blk hupd (hHeld.2.1) (own_ne_ty HOW_w107.out (hHeld.2.1) (by decide)), QO.upd hupd (hHeld.2.2.1) HDEq_3.out, Upd.own hupd (hHeld.2.2.2) HDEl_3.out⟩
               have HDEq_4 := Lib.hid (dis_next hfar HDEq_3.out (QO.lt (hHeld.2.2.1)))
               have HDEl_4 := Lib.hid (dis_next hfar HDEl_3.out (own_lt (hHeld.2.2.2)))
               have HOW_w108 := Lib.hid hown
               refine hK.out _ _ hHeld3 (fun hHeld2 => ?_)
               clear hK K hHeld hHeld3 hupd hown hfar HOW_w107 
               have hHeld := hHeld2
               clear hHeld2
               (try simp only [Act.put, sA, sB, sC])
               refine tkQ 10 (.slice A_4 ((ls.eraseIdx j).length) c_4) hHeld (h := ?_)
               (try simp only [Act.put, sA, sB, sC])
               refine wpAnyH_done (by kernel_rfl) ?_ _
               have HSd27 := Lib.hid hHeld.1
               have HBn8d27 := Lib.hid (hHeld.2.1)
               have HFqd27 := Lib.hid (hHeld.2.2.1)
               have HFld27 := Lib.hid (hHeld.2.2.2)
               clear hHeld HRK HKS HS105 HBn8105 HFq105 HFl105
               have HFed27 := Lib.hid HOW_w108.out
               clear HOW_w108
               go_wp2_with fail
               refine Met.intro ?_
               exact hJ3 _ _ ⟨(ls.eraseIdx j), Sq_2, A_4, c_4, ⟨rfl, rfl, rfl, rfl, rfl, rfl, rfl, rfl, rfl, trivial⟩, Lib.hid ⟨(by have := HLN.out; have := List.length_eraseIdx_le ls j; omega), (uniq_cut HUQ.out HAT.out), (fun g hg h => HDEq_4.out g h hg), HSd27.out, HBn8d27.out, HFqd27.out, HFed27.out⟩⟩
              | none =>
               have HE9 := Lib.hid (show oQ (atS ls (os i).a.se) = -1 by rw [hat]; rfl); have HAT := Lib.hid hat; clear hat
               rw [show oQ none = -1 from rfl]
               go_upto_region 24 with fail
               refine wp_region_lit ?_
               refine tkL (.pointer (some ⟨q1, 0, none⟩)) (h := ?_)
               (try simp only [Act.put, sA, sB, sC])
               refine tkL (.pointer (some ⟨bn8, 1, none⟩)) (h := ?_)
               (try simp only [Act.put, sA, sB, sC])
               refine tkL (.pointer (some ⟨bn8, 1, none⟩)) (h := ?_)
               (try simp only [Act.put, sA, sB, sC])
               refine wpList_q (by rfl) (.int .i64 ((os i).a.se)) ?he ?_
               case he => exact exec_cell 3 _ _ HBn8104.out rfl rfl rfl Try.underlying3 rfl
               (try simp only [Act.put, sA, sB, sC])
               refine wpList_wp (by rfl) (fun K hK => ?_)
               (try go_simp)
               refine (dropV w.heap.size q1 (btw room 0 64) ls Sq (os i).a.se _ HFq104.out (by have := HLB.out; omega) false ls (drop0 HAT.out).1 (drop0 HAT.out).2).mono ?_
               rintro e w105 ⟨Sq_2, rfl, hobj, hupd, hfar⟩
               (try go_wp2_with fail)
               refine hK.out _ _ ?_
               clear hK K
               (try simp only [Act.put, sA, sB, sC])
               have HS105 := Lib.hid (Since.upd HS104.out hupd (QO.low HFq104.out))
               have HBn8105 := Lib.hid (Upd.blk hupd HBn8104.out HIn8_q.out)
               have HIn8_q_105 := Lib.hid (nin_next hfar HIn8_q.out (Blk.lt HBn8104.out))
               have HFl105 := Lib.hid (Upd.own hupd HFl104.out HDL.out)
               have HDDl_q_105 := Lib.hid (dis_next hfar HDL.out (own_lt HFl104.out))
               have HFq105 := Lib.hid hobj
               clear hupd hobj hfar HS104 HBn8104 HFq104 HFl104
               refine tkL (.int .i64 (-1)) (h := ?_)
               (try simp only [Act.put, sA, sB, sC])
               refine wpList_q (by rfl) (.bool false) ?he ?_
               case he => (go_simp; (try with_reducible rfl))
               (try simp only [Act.put, sA, sB, sC])
               refine wpList_q (by rfl) (.bool false) ?he ?_
               case he => (go_simp; (try with_reducible rfl))
               (try simp only [Act.put, sA, sB, sC])
               refine wpList_nil ?_
               go_upto_region 26 with fail
               refine wp_region_lit ?_
               refine tkL (.int .i64 (-1)) (h := ?_)
               (try simp only [Act.put, sA, sB, sC])
               refine wpList_q (by rfl) (.bool false) ?he ?_
               case he => (go_simp; (try with_reducible rfl))
               (try simp only [Act.put, sA, sB, sC])
               refine wpList_nil ?_
               go_wp2_with fail
               refine Met.intro ?_
               exact hJ3 _ _ ⟨ls, Sq_2, Al, cl, ⟨rfl, rfl, rfl, rfl, rfl, rfl, rfl, rfl, rfl, trivial⟩, Lib.hid ⟨(by have := HLN.out; omega), HUQ.out, HDDl_q_105.out, HS105.out, HBn8105.out, HFq105.out, HFl105.out⟩⟩
          · have HK1 := Lib.hid hcs; clear hcs
            go_upto_region 14 with fail
            refine wp_region_lit ?_
            refine wpList_q (by rfl) (.bool true) ?he ?_
            case he => (have q := HK1.out; go_simp; (first | done | exact q | (simp [q]; done)))
            (try simp only [Act.put, sA, sB, sC])
            refine tkL (.bool true) (h := ?_)
            (try simp only [Act.put, sA, sB, sC])
            refine wpList_nil ?_
            go_upto_region 15 with fail
            refine wp_region_lit ?_
            refine tkL (.int .i64 0) (h := ?_)
            (try simp only [Act.put, sA, sB, sC])
            refine wpList_nil ?_
            cases hat : atS ls (os i).a.se with
            | some j =>
             have HE9 := Lib.hid (show oQ (atS ls (os i).a.se) = (j : Int) by rw [hat]; rfl); have HAT := Lib.hid hat; have HJ := Lib.hid (atS_some hat).1; clear hat
             rw [show oQ (some j) = (j : Int) from rfl]
             go_upto_region 16 with fail
             refine wp_region_lit ?_
             refine tkL (.int .i64 (j : Int)) (h := ?_)
             (try simp only [Act.put, sA, sB, sC])
             refine wpList_q (by rfl) (.bool true) ?he ?_
             case he => (go_simp; (first | done | rfl | omega))
             (try simp only [Act.put, sA, sB, sC])
             refine wpList_nil ?_
             go_upto_region 17 with fail
             refine wp_region_lit ?_
             refine tkL (.int .i64 7) (h := ?_)
             (try simp only [Act.put, sA, sB, sC])
             refine wpList_nil ?_
             go_upto_region 21 with fail
             refine wp_region_lit ?_
             refine tkL (.pointer (some ⟨q1, 0, none⟩)) (h := ?_)
             (try simp only [Act.put, sA, sB, sC])
             refine tkL (.pointer (some ⟨bn8, 1, none⟩)) (h := ?_)
             (try simp only [Act.put, sA, sB, sC])
             refine wpList_q (by rfl) (.agg #[.int .i64 ((os i).a.se), .int .i64 ((os i).a.fl), .int .i64 ((os i).a.fm), .int .i64 ((os i).a.to), .int .i64 ((os i).a.ma)]) ?he ?_
             case he => exact exec_part (n := 5) 30 _ _ HBn8104.out rfl rfl rfl rfl Try.underlying30 rfl (by kernel_rfl)
             (try simp only [Act.put, sA, sB, sC])
             refine wpList_wp (by rfl) (fun K hK => ?_)
             (try go_simp)
             refine (putV w.heap.size q1 (btw room 0 64) ls Sq (os i).a _ HFq104.out (by have := HLB.out; omega) 7 ls (put7 HAT.out).1 (put7 HAT.out).2).mono ?_
             rintro e w105 ⟨Sq_3, rfl, hobj, hupd, hfar⟩
             (try go_wp2_with fail)
             refine hK.out _ _ ?_
             clear hK K
             (try simp only [Act.put, sA, sB, sC])
             have HS105 := Lib.hid (Since.upd HS104.out hupd (QO.low HFq104.out))
             have HBn8105 := Lib.hid (Upd.blk hupd HBn8104.out HIn8_q.out)
             have HIn8_q_105 := Lib.hid (nin_next hfar HIn8_q.out (Blk.lt HBn8104.out))
             have HFl105 := Lib.hid (Upd.own hupd HFl104.out HDL.out)
             have HDDl_q_105 := Lib.hid (dis_next hfar HDL.out (own_lt HFl104.out))
             have HFq105 := Lib.hid hobj
             clear hupd hobj hfar HS104 HBn8104 HFq104 HFl104
             refine tkL (.int .i64 7) (h := ?_)
             (try simp only [Act.put, sA, sB, sC])
             refine wpList_q (by rfl) (.bool false) ?he ?_
             case he => (go_simp; (try with_reducible rfl))
             (try simp only [Act.put, sA, sB, sC])
             refine wpList_nil ?_
             go_wp2_with fail
             refine Met.intro ?_
             exact hJ3 _ _ ⟨ls, Sq_3, Al, cl, ⟨rfl, rfl, rfl, rfl, rfl, rfl, rfl, rfl, rfl, trivial⟩, Lib.hid ⟨(by have := HLN.out; omega), HUQ.out, HDDl_q_105.out, HS105.out, HBn8105.out, HFq105.out, HFl105.out⟩⟩
            | none =>
             have HE9 := Lib.hid (show oQ (atS ls (os i).a.se) = -1 by rw [hat]; rfl); have HAT := Lib.hid hat; clear hat
             rw [show oQ none = -1 from rfl]
             go_upto_region 16 with fail
             refine wp_region_lit ?_
             refine tkL (.int .i64 (-1)) (h := ?_)
             (try simp only [Act.put, sA, sB, sC])
             refine wpList_q (by rfl) (.bool false) ?he ?_
             case he => (go_simp; (try with_reducible rfl))
             (try simp only [Act.put, sA, sB, sC])
             refine wpList_nil ?_
             by_cases hcs : (btw room 0 64) ≤ (ls.length : Int)
             rotate_left
             · have HRM := Lib.hid hcs; clear hcs
               go_upto_region 18 with fail
               refine wp_region_lit ?_
               refine tkL (.slice Al ls.length cl) (h := ?_)
               (try simp only [Act.put, sA, sB, sC])
               refine tkL (.int .i64 (ls.length : Int)) (h := ?_)
               (try simp only [Act.put, sA, sB, sC])
               refine tkL (.int .i64 room) (h := ?_)
               (try simp only [Act.put, sA, sB, sC])
               refine wpList_wp (by rfl) (fun K hK => ?_)
               (try go_simp)
               refine (roomT room _).mono ?_
               rintro e w' ⟨rfl, rfl⟩
               (try go_wp2_with fail)
               refine hK.out _ _ ?_
               clear hK K
               (try simp only [Act.put, sA, sB, sC])
               refine wpList_q (by rfl) (.bool false) ?he ?_
               case he => (have q0 := HRM.out; go_simp; (first | done | rfl | omega))
               (try simp only [Act.put, sA, sB, sC])
               refine wpList_nil ?_
               go_upto_region 20 with fail
               refine wp_region_lit ?_
               refine tkL (.slice Al ls.length cl) (h := ?_)
               (try simp only [Act.put, sA, sB, sC])
               refine tkL (.pointer (some ⟨bn8, 1, none⟩)) (h := ?_)
               (try simp only [Act.put, sA, sB, sC])
               refine wpList_q (by rfl) (.agg #[.int .i64 ((os i).a.se), .int .i64 ((os i).a.fl), .int .i64 ((os i).a.fm), .int .i64 ((os i).a.to), .int .i64 ((os i).a.ma)]) ?he ?_
               case he => exact exec_part (n := 5) 30 _ _ HBn8104.out rfl rfl rfl rfl Try.underlying30 rfl (by kernel_rfl)
               (try simp only [Act.put, sA, sB, sC])
               refine wpList_wp (by rfl) (fun K hK => ?_)
               refine wp_new (fun b => .slice (some ⟨b, 0, none⟩) 1 1) 30 #[.int .i64 ((os i).a.se), .int .i64 ((os i).a.fl), .int .i64 ((os i).a.fm), .int .i64 ((os i).a.to), .int .i64 ((os i).a.ma)] (by rintro b rfl; first | rfl | kernel_rfl) ?_
               intro bn68 w105 hge hB hb
               refine hK.out _ _ ?_
               clear hK K
               (try simp only [Act.put, sA, sB, sC])
               have HNn68n8 := Lib.hid (show bn68 ≠ bn8 by have := Blk.lt HBn8104.out; omega)
               have HGn68 := Lib.hid (show w.heap.size ≤ bn68 by have := Since.size HS104.out; omega)
               have HIn68_q := Lib.hid (QO.far HFq104.out hge)
               have HIn68_l := Lib.hid (own_far HFl104.out hge)
               have HS105 := Lib.hid (Since.trans HS104.out hb)
               have HBn8105 := Lib.hid (keep_blk hb HBn8104.out)
               have HFq105 := Lib.hid (QO.keep hb HFq104.out)
               have HFl105 := Lib.hid (keep_own hb HFl104.out)
               clear HS104 HBn8104 HFq104 HFl104
               clear hb hge
               have HBn68105 := Lib.hid hB
               clear hB
               refine wpList_wp (by rfl) (fun K hK => ?_)
               refine wp_append_row (.tmp 65) (.tmp 68) 35 rfl w.heap.size 30 (Value.agg #[.int .i64 0, .int .i64 0, .int .i64 0, .int .i64 0, .int .i64 0]) 5 40 Try.underlying35 (by kernel_rfl) rfl (by decide) (by decide) Al ls.length cl (rowsOf askC ls) rfl HFl105.out _ (some ⟨bn68, 0, none⟩) 1 1 (askC (os i).a) rfl (reads_blk (cs := askC (os i).a) HBn68105.out rfl) (askC_one (os i).a) (by have := HLB.out; omega) (Since.size HS105.out) ((ls ++ [(os i).a]).length) (rowsOf askC (ls ++ [(os i).a])) (by simp) (by rw [rowsOf_append, rowsOf_one]) ?_
               intro A_3 c_3 w106 hown hupd hfar
               refine hK.out _ _ ?_
               clear hK K
               (try simp only [Act.put, sA, sB, sC])
               have HS106 := Lib.hid (Since.upd HS105.out hupd (own_low HFl105.out))
               have HBn8106 := Lib.hid (Upd.blk hupd HBn8105.out HIn8_l.out)
               have HIn8_l_106 := Lib.hid (nin_next hfar HIn8_l.out (Blk.lt HBn8105.out))
               have HBn68106 := Lib.hid (Upd.blk hupd HBn68105.out HIn68_l.out)
               have HIn68_l_106 := Lib.hid (nin_next hfar HIn68_l.out (Blk.lt HBn68105.out))
               have HFq106 := Lib.hid (QO.upd hupd HFq105.out (fun g hg h => HDL.out g h hg))
               have HDDq_l_106 := Lib.hid (dis_next hfar (fun g hg h => HDL.out g h hg) (QO.lt HFq105.out))
               have HFl106 := Lib.hid hown
               clear hupd hown hfar HS105 HBn8105 HBn68105 HFq105 HFl105
               refine tkL (.slice A_3 ((ls ++ [(os i).a]).length) c_3) (h := ?_)
               (try simp only [Act.put, sA, sB, sC])
               refine wpList_nil ?_
               go_upto_region 21 with fail
               refine wp_region_lit ?_
               refine tkL (.pointer (some ⟨q1, 0, none⟩)) (h := ?_)
               (try simp only [Act.put, sA, sB, sC])
               refine tkL (.pointer (some ⟨bn8, 1, none⟩)) (h := ?_)
               (try simp only [Act.put, sA, sB, sC])
               refine wpList_q (by rfl) (.agg #[.int .i64 ((os i).a.se), .int .i64 ((os i).a.fl), .int .i64 ((os i).a.fm), .int .i64 ((os i).a.to), .int .i64 ((os i).a.ma)]) ?he ?_
               case he => exact exec_part (n := 5) 30 _ _ HBn8106.out rfl rfl rfl rfl Try.underlying30 rfl (by kernel_rfl)
               (try simp only [Act.put, sA, sB, sC])
               refine wpList_wp (by rfl) (fun K hK => ?_)
               (try go_simp)
               refine (putV w.heap.size q1 (btw room 0 64) ls Sq (os i).a _ HFq106.out (by have := HLB.out; omega) 0 (ls ++ [(os i).a]) (put0 HAT.out (show ¬ (btw room 0 64) ≤ (ls.length : Int) by have := HRM.out; omega)).1 (put0 HAT.out (show ¬ (btw room 0 64) ≤ (ls.length : Int) by have := HRM.out; omega)).2).mono ?_
               rintro e w107 ⟨Sq_4, rfl, hobj, hupd, hfar⟩
               (try go_wp2_with fail)
               refine hK.out _ _ ?_
               clear hK K
               (try simp only [Act.put, sA, sB, sC])
               have HS107 := Lib.hid (Since.upd HS106.out hupd (QO.low HFq106.out))
               have HBn8107 := Lib.hid (Upd.blk hupd HBn8106.out HIn8_q.out)
               have HIn8_q_107 := Lib.hid (nin_next hfar HIn8_q.out (Blk.lt HBn8106.out))
               have HBn68107 := Lib.hid (Upd.blk hupd HBn68106.out HIn68_q.out)
               have HIn68_q_107 := Lib.hid (nin_next hfar HIn68_q.out (Blk.lt HBn68106.out))
               have HFl107 := Lib.hid (Upd.own hupd HFl106.out (fun g hg h => HDDq_l_106.out g h hg))
               have HDDl_q_107 := Lib.hid (dis_next hfar (fun g hg h => HDDq_l_106.out g h hg) (own_lt HFl106.out))
               have HFq107 := Lib.hid hobj
               clear hupd hobj hfar HS106 HBn8106 HBn68106 HFq106 HFl106
               refine tkL (.int .i64 0) (h := ?_)
               (try simp only [Act.put, sA, sB, sC])
               refine wpList_q (by rfl) (.bool false) ?he ?_
               case he => (go_simp; (try with_reducible rfl))
               (try simp only [Act.put, sA, sB, sC])
               refine wpList_nil ?_
               go_wp2_with fail
               refine Met.intro ?_
               exact hJ3 _ _ ⟨(ls ++ [(os i).a]), Sq_4, A_3, c_3, ⟨rfl, rfl, rfl, rfl, rfl, (by rw [show (ls ++ [(os i).a]).length = ls.length + 1 by simp]; rfl), rfl, rfl, rfl, trivial⟩, Lib.hid ⟨(by have := HLN.out; simp; omega), (uniq_add HUQ.out HAT.out), HDDl_q_107.out, HS107.out, HBn8107.out, HFq107.out, HFl107.out⟩⟩
             · have HRM := Lib.hid hcs; clear hcs
               go_upto_region 18 with fail
               refine wp_region_lit ?_
               refine tkL (.slice Al ls.length cl) (h := ?_)
               (try simp only [Act.put, sA, sB, sC])
               refine tkL (.int .i64 (ls.length : Int)) (h := ?_)
               (try simp only [Act.put, sA, sB, sC])
               refine tkL (.int .i64 room) (h := ?_)
               (try simp only [Act.put, sA, sB, sC])
               refine wpList_wp (by rfl) (fun K hK => ?_)
               (try go_simp)
               refine (roomT room _).mono ?_
               rintro e w' ⟨rfl, rfl⟩
               (try go_wp2_with fail)
               refine hK.out _ _ ?_
               clear hK K
               (try simp only [Act.put, sA, sB, sC])
               refine wpList_q (by rfl) (.bool true) ?he ?_
               case he => (have q0 := HRM.out; go_simp; (first | done | rfl | omega))
               (try simp only [Act.put, sA, sB, sC])
               refine wpList_nil ?_
               go_upto_region 19 with fail
               refine wp_region_lit ?_
               refine tkL (.int .i64 5) (h := ?_)
               (try simp only [Act.put, sA, sB, sC])
               refine wpList_nil ?_
               go_upto_region 21 with fail
               refine wp_region_lit ?_
               refine tkL (.pointer (some ⟨q1, 0, none⟩)) (h := ?_)
               (try simp only [Act.put, sA, sB, sC])
               refine tkL (.pointer (some ⟨bn8, 1, none⟩)) (h := ?_)
               (try simp only [Act.put, sA, sB, sC])
               refine wpList_q (by rfl) (.agg #[.int .i64 ((os i).a.se), .int .i64 ((os i).a.fl), .int .i64 ((os i).a.fm), .int .i64 ((os i).a.to), .int .i64 ((os i).a.ma)]) ?he ?_
               case he => exact exec_part (n := 5) 30 _ _ HBn8104.out rfl rfl rfl rfl Try.underlying30 rfl (by kernel_rfl)
               (try simp only [Act.put, sA, sB, sC])
               refine wpList_wp (by rfl) (fun K hK => ?_)
               (try go_simp)
               refine (putV w.heap.size q1 (btw room 0 64) ls Sq (os i).a _ HFq104.out (by have := HLB.out; omega) 5 ls (put5 HAT.out HRM.out).1 (put5 HAT.out HRM.out).2).mono ?_
               rintro e w105 ⟨Sq_3, rfl, hobj, hupd, hfar⟩
               (try go_wp2_with fail)
               refine hK.out _ _ ?_
               clear hK K
               (try simp only [Act.put, sA, sB, sC])
               have HS105 := Lib.hid (Since.upd HS104.out hupd (QO.low HFq104.out))
               have HBn8105 := Lib.hid (Upd.blk hupd HBn8104.out HIn8_q.out)
               have HIn8_q_105 := Lib.hid (nin_next hfar HIn8_q.out (Blk.lt HBn8104.out))
               have HFl105 := Lib.hid (Upd.own hupd HFl104.out HDL.out)
               have HDDl_q_105 := Lib.hid (dis_next hfar HDL.out (own_lt HFl104.out))
               have HFq105 := Lib.hid hobj
               clear hupd hobj hfar HS104 HBn8104 HFq104 HFl104
               refine tkL (.int .i64 5) (h := ?_)
               (try simp only [Act.put, sA, sB, sC])
               refine wpList_q (by rfl) (.bool false) ?he ?_
               case he => (go_simp; (try with_reducible rfl))
               (try simp only [Act.put, sA, sB, sC])
               refine wpList_nil ?_
               go_wp2_with fail
               refine Met.intro ?_
               exact hJ3 _ _ ⟨ls, Sq_3, Al, cl, ⟨rfl, rfl, rfl, rfl, rfl, rfl, rfl, rfl, rfl, trivial⟩, Lib.hid ⟨(by have := HLN.out; omega), HUQ.out, HDDl_q_105.out, HS105.out, HBn8105.out, HFq105.out, HFl105.out⟩⟩
         case rest3 =>
          intro fr wc hR
          clear HS104 HBn8104 HFq104 HFl104
          obtain ⟨ls2, S2, A2, c2, hF, HO⟩ := hR
          obtain ⟨e0, e1, e2, g0, g1, g2, g3⟩ := HO.out
          clear HO
          have HLN2 := Lib.hid e0
          have HUQ2 := Lib.hid e1
          have HDL2 := Lib.hid e2
          have HS154 := Lib.hid g0
          have HBn8154 := Lib.hid g1
          have HFq154 := Lib.hid g2
          have HFl154 := Lib.hid g3
          clear e0 e1 e2 g0 g1 g2 g3
          obtain ⟨u, hu⟩ := hF.open_
          have hu2 := hu.trans (show _ = #[.int .i64 room, .slice (some ⟨go, oo, none⟩) on oc, u 2, u 3, .bool false, .pointer (some ⟨q1, 0, none⟩), .slice A2 ls2.length c2, .int .i64 (i : Int), .pointer (some ⟨bn8, 0, none⟩), u 9, u 10, u 11, u 12, u 13, u 14, u 15, u 16, u 17, u 18, u 19, u 20, u 21, u 22, u 23, u 24, u 25, u 26, u 27, u 28, u 29, u 30, u 31, u 32, u 33, u 34, u 35, u 36, u 37, u 38, u 39, u 40, u 41, u 42, u 43, u 44, u 45, u 46, u 47, u 48, u 49, u 50, u 51, u 52, u 53, u 54, .int .i64 ((os i).k), u 56, u 57, u 58, u 59, u 60, u 61, u 62, u 63, u 64, u 65, u 66, u 67, u 68, u 69, u 70, u 71, u 72, u 73, u 74, u 75, u 76, u 77, u 78, u 79, u 80, u 81, u 82, u 83, u 84, u 85, u 86, u 87, u 88, u 89, u 90, u 91, u 92, u 93, u 94, u 95, u 96, u 97, u 98, u 99, u 100, u 101, u 102, u 103, u 104, u 105, u 106, u 107, u 108, u 109, u 110, u 111, u 112, u 113, u 114, u 115, u 116, u 117, u 118, u 119, u 120, u 121, u 122, u 123, u 124, u 125, u 126, u 127, u 128, u 129, u 130, u 131, u 132, u 133, u 134, u 135, u 136, u 137, u 138, u 139, u 140, u 141, u 142, u 143, u 144, u 145, u 146, u 147, u 148, u 149, u 150, u 151, u 152, u 153, u 154, u 155, u 156, u 157, u 158, u 159, u 160, u 161, u 162, u 163, u 164, u 165, u 166, u 167, u 168, u 169, u 170, u 171, u 172, u 173, u 174, u 175, u 176, u 177, u 178, u 179, u 180, u 181, u 182, u 183, u 184, u 185, u 186, u 187, u 188, u 189, u 190, u 191, u 192, u 193, u 194, u 195, u 196, u 197, u 198] by kernel_rfl)
          clear hu hF
          subst hu2
          clear HLB
          have HLB := Lib.hid (show ls2.length ≤ 201 by have := HLN2.out; have := HI200.out; omega)
          go_upto_region 45 with fail
          refine wp_region_lit ?_
          refine tkL (.pointer (some ⟨q1, 0, none⟩)) (h := ?_)
          (try simp only [Act.put, sA, sB, sC])
          refine tkL (.pointer (some ⟨bn8, 1, none⟩)) (h := ?_)
          (try simp only [Act.put, sA, sB, sC])
          refine tkL (.pointer (some ⟨bn8, 1, none⟩)) (h := ?_)
          (try simp only [Act.put, sA, sB, sC])
          refine wpList_q (by rfl) (.int .i64 ((os i).a.se)) ?he ?_
          case he => exact exec_cell 3 _ _ HBn8154.out rfl rfl rfl Try.underlying3 rfl
          (try simp only [Act.put, sA, sB, sC])
          refine wpList_wp (by rfl) (fun K hK => ?_)
          (try go_simp)
          refine (aheadU w.heap.size q1 (btw room 0 64) ls2 S2 (os i).a.se _ HFq154.out (by have := HLB.out; omega)).mono ?_
          rintro e w155 ⟨rfl, hb⟩
          (try go_wp2_with fail)
          refine hK.out _ _ ?_
          clear hK K
          (try simp only [Act.put, sA, sB, sC])
          have HS155 := Lib.hid (Since.trans HS154.out hb)
          have HBn8155 := Lib.hid (keep_blk hb HBn8154.out)
          have HFq155 := Lib.hid (QO.keep hb HFq154.out)
          have HFl155 := Lib.hid (keep_own hb HFl154.out)
          clear HS154 HBn8154 HFq154 HFl154
          clear hb
          refine tkL (.tuple #[.int .i64 (oM (atS ls2 (os i).a.se)), .bool ((atS ls2 (os i).a.se).isSome)]) (h := ?_)
          (try simp only [Act.put, sA, sB, sC])
          refine tkL (.int .i64 (oM (atS ls2 (os i).a.se))) (h := ?_)
          (try simp only [Act.put, sA, sB, sC])
          refine tkL (.bool ((atS ls2 (os i).a.se).isSome)) (h := ?_)
          (try simp only [Act.put, sA, sB, sC])
          refine tkL (.int .i64 (oM (atS ls2 (os i).a.se))) (h := ?_)
          (try simp only [Act.put, sA, sB, sC])
          refine tkL (.bool ((atS ls2 (os i).a.se).isSome)) (h := ?_)
          (try simp only [Act.put, sA, sB, sC])
          refine wpList_nil ?_
          go_upto_region 46 with fail
          refine wp_region_lit ?_
          refine tkL (.int .i64 (-1)) (h := ?_)
          (try simp only [Act.put, sA, sB, sC])
          refine wpList_nil ?_
          go_upto_region 47 with fail
          refine wp_region_lit ?_
          refine tkL (.int .i64 0) (h := ?_)
          (try simp only [Act.put, sA, sB, sC])
          refine wpList_nil ?_
          go_wp2_with fail
          refine wp_uloop (ds := []) (fun n fr wr => ∃ p : Nat, (ls2.length - p) = n ∧ Fits fr 199 [(0, .int .i64 room), (1, .slice (some ⟨go, oo, none⟩) on oc), (4, .bool false), (5, .pointer (some ⟨q1, 0, none⟩)), (6, .slice A2 ls2.length c2), (7, .int .i64 (i : Int)), (8, .pointer (some ⟨bn8, 0, none⟩)), (9, .int .i64 (lastS ls2 (os i).a.se p)), (19, .int .i64 (oM (atS ls2 (os i).a.se))), (20, .bool ((atS ls2 (os i).a.se).isSome)), (21, .int .i64 (p : Int)), (55, .int .i64 ((os i).k))] ∧ Hid (p ≤ ls2.length ∧ Since w wr ∧ Blk wr bn8 38 #[.int .i64 ((os i).k), .int .i64 ((os i).a.se), .int .i64 ((os i).a.fl), .int .i64 ((os i).a.fm), .int .i64 ((os i).a.to), .int .i64 ((os i).a.ma), .slice (os i).A (os i).n (os i).c] ∧ QO w.heap.size q1 (btw room 0 64) ls2 S2 wr ∧ (wr).ownsRow w.heap.size 30 5 (.slice A2 ls2.length c2) ls2.length (rowsOf askC ls2))) (ls2.length - 0) ?start155 ?round155
          case start155 => exact ⟨0, rfl, ⟨rfl, rfl, rfl, rfl, rfl, rfl, rfl, rfl, rfl, rfl, rfl, rfl, rfl, trivial⟩, Lib.hid ⟨Nat.zero_le _, HS155.out, HBn8155.out, HFq155.out, HFl155.out⟩⟩
          case round155 =>
           intro n fr wr hR J4 K4 hJ4 hK4
           clear HS155 HBn8155 HFq155 HFl155
           obtain ⟨p, hn, hF, HO⟩ := hR
           have HMp := Lib.hid hn; clear hn
           obtain ⟨e0, g0, g1, g2, g3⟩ := HO.out
           clear HO
           have HKp := Lib.hid e0
           have HS205 := Lib.hid g0
           have HBn8205 := Lib.hid g1
           have HFq205 := Lib.hid g2
           have HFl205 := Lib.hid g3
           clear e0 g0 g1 g2 g3
           obtain ⟨u, hu⟩ := hF.open_
           have hu2 := hu.trans (show _ = #[.int .i64 room, .slice (some ⟨go, oo, none⟩) on oc, u 2, u 3, .bool false, .pointer (some ⟨q1, 0, none⟩), .slice A2 ls2.length c2, .int .i64 (i : Int), .pointer (some ⟨bn8, 0, none⟩), .int .i64 (lastS ls2 (os i).a.se p), u 10, u 11, u 12, u 13, u 14, u 15, u 16, u 17, u 18, .int .i64 (oM (atS ls2 (os i).a.se)), .bool ((atS ls2 (os i).a.se).isSome), .int .i64 (p : Int), u 22, u 23, u 24, u 25, u 26, u 27, u 28, u 29, u 30, u 31, u 32, u 33, u 34, u 35, u 36, u 37, u 38, u 39, u 40, u 41, u 42, u 43, u 44, u 45, u 46, u 47, u 48, u 49, u 50, u 51, u 52, u 53, u 54, .int .i64 ((os i).k), u 56, u 57, u 58, u 59, u 60, u 61, u 62, u 63, u 64, u 65, u 66, u 67, u 68, u 69, u 70, u 71, u 72, u 73, u 74, u 75, u 76, u 77, u 78, u 79, u 80, u 81, u 82, u 83, u 84, u 85, u 86, u 87, u 88, u 89, u 90, u 91, u 92, u 93, u 94, u 95, u 96, u 97, u 98, u 99, u 100, u 101, u 102, u 103, u 104, u 105, u 106, u 107, u 108, u 109, u 110, u 111, u 112, u 113, u 114, u 115, u 116, u 117, u 118, u 119, u 120, u 121, u 122, u 123, u 124, u 125, u 126, u 127, u 128, u 129, u 130, u 131, u 132, u 133, u 134, u 135, u 136, u 137, u 138, u 139, u 140, u 141, u 142, u 143, u 144, u 145, u 146, u 147, u 148, u 149, u 150, u 151, u 152, u 153, u 154, u 155, u 156, u 157, u 158, u 159, u 160, u 161, u 162, u 163, u 164, u 165, u 166, u 167, u 168, u 169, u 170, u 171, u 172, u 173, u 174, u 175, u 176, u 177, u 178, u 179, u 180, u 181, u 182, u 183, u 184, u 185, u 186, u 187, u 188, u 189, u 190, u 191, u 192, u 193, u 194, u 195, u 196, u 197, u 198] by kernel_rfl)
           clear hu hF
           subst hu2
           by_cases hcs : p < ls2.length
           rotate_left
           · have HKLp := Lib.hid hcs; clear hcs
             go_upto_region 48 with fail
             refine wp_region_lit ?_
             refine tkL (.int .i64 (p : Int)) (h := ?_)
             (try simp only [Act.put, sA, sB, sC])
             refine tkL (.slice A2 ls2.length c2) (h := ?_)
             (try simp only [Act.put, sA, sB, sC])
             refine tkL (.int .i64 (ls2.length : Int)) (h := ?_)
             (try simp only [Act.put, sA, sB, sC])
             refine wpList_q (by rfl) (.bool false) ?he ?_
             case he => (have q0 := HKLp.out; go_simp; (first | done | rfl | omega))
             (try simp only [Act.put, sA, sB, sC])
             refine wpList_nil ?_
             have ep : p = ls2.length := by have := HKLp.out; have := HKp.out; omega
             subst ep
             rw [last_all HUQ2.out (os i).a.se]
             cases hat : atS ls2 (os i).a.se with
             | some j =>
              have HE1 := Lib.hid (show (some j : Option Nat).isSome = true from rfl); have HE2 := Lib.hid (show oM (some j) = (j : Int) from rfl); have HE3 := Lib.hid (show oQ (some j) = (j : Int) from rfl); clear hat
              rw [HE1.out, HE2.out, HE3.out]
              go_upto_region 52 with fail
              refine wp_region_lit ?_
              refine tkL (.bool true) (h := ?_)
              (try simp only [Act.put, sA, sB, sC])
              refine tkL (.int .i64 (j : Int)) (h := ?_)
              (try simp only [Act.put, sA, sB, sC])
              refine wpList_q (by rfl) (.bool true) ?he ?_
              case he => (go_simp; (first | done | rfl | omega))
              (try simp only [Act.put, sA, sB, sC])
              refine wpList_q (by rfl) (.bool false) ?he ?_
              case he => (go_simp; (try with_reducible rfl))
              (try simp only [Act.put, sA, sB, sC])
              refine tkL (.bool false) (h := ?_)
              (try simp only [Act.put, sA, sB, sC])
              refine tkL (.int .i64 (j : Int)) (h := ?_)
              (try simp only [Act.put, sA, sB, sC])
              refine tkL (.int .i64 (j : Int)) (h := ?_)
              (try simp only [Act.put, sA, sB, sC])
              refine wpList_q (by rfl) (.int .i64 (j : Int)) ?he ?_
              case he => (go_simp; (first | done | rfl | (congr 1; omega) | omega))
              (try simp only [Act.put, sA, sB, sC])
              refine wpList_q (by rfl) (.bool false) ?he ?_
              case he => (go_simp; (try with_reducible rfl))
              (try simp only [Act.put, sA, sB, sC])
              refine tkL (.bool false) (h := ?_)
              (try simp only [Act.put, sA, sB, sC])
              refine tkL (.bool false) (h := ?_)
              (try simp only [Act.put, sA, sB, sC])
              refine tkL (.pointer (some ⟨q1, 0, none⟩)) (h := ?_)
              (try simp only [Act.put, sA, sB, sC])
              refine wpList_wp (by rfl) (fun K hK => ?_)
              (try go_simp)
              refine (listV w.heap.size q1 (btw room 0 64) ls2 S2 _ HFq205.out (by have := HLB.out; omega) ls2.length rfl).mono ?_
              rintro e w206 ⟨Am, cm, rfl, hown, hb⟩
              (try go_wp2_with fail)
              refine hK.out _ _ ?_
              clear hK K
              (try simp only [Act.put, sA, sB, sC])
              have HRm := Lib.hid hown; clear hown
              have HS206 := Lib.hid (Since.trans HS205.out hb)
              have HBn8206 := Lib.hid (keep_blk hb HBn8205.out)
              have HFq206 := Lib.hid (QO.keep hb HFq205.out)
              have HFl206 := Lib.hid (keep_own hb HFl205.out)
              clear HS205 HBn8205 HFq205 HFl205
              clear hb
              refine tkL (.slice A2 ls2.length c2) (h := ?_)
              (try simp only [Act.put, sA, sB, sC])
              refine wpList_wp (by rfl) (fun K hK => ?_)
              (try go_simp)
              refine (sameT _ _ _ _ _ _ ls2 _ (by have := HLB.out; omega) HRm.out HFl206.out).mono ?_
              rintro e w207 ⟨rfl, hb⟩
              (try go_wp2_with fail)
              refine hK.out _ _ ?_
              clear hK K
              (try simp only [Act.put, sA, sB, sC])
              have HS207 := Lib.hid (Since.trans HS206.out hb)
              have HBn8207 := Lib.hid (keep_blk hb HBn8206.out)
              have HFq207 := Lib.hid (QO.keep hb HFq206.out)
              have HFl207 := Lib.hid (keep_own hb HFl206.out)
              have HFm207 := Lib.hid (keep_own hb HRm.out)
              clear HS206 HBn8206 HFq206 HFl206 HRm
              clear hb
              refine wpList_q (by rfl) (.bool false) ?he ?_
              case he => (go_simp; (try with_reducible rfl))
              (try simp only [Act.put, sA, sB, sC])
              refine tkL (.bool false) (h := ?_)
              (try simp only [Act.put, sA, sB, sC])
              refine wpList_nil ?_
              go_upto_region 5 with fail
              refine wp_region_lit ?_
              refine tkL (.int .i64 (i : Int)) (h := ?_)
              (try simp only [Act.put, sA, sB, sC])
              refine wpList_q (by rfl) (.int .i64 ((i : Int) + 1)) ?he ?_
              case he => (go_simp; (first | done | (refine wr64 _ ?_ ?_ <;> (have q0 := HI8.out; omega)) | (have q0 := HI8.out; omega) | (have q0 := HI8.out; split <;> omega) | (have q0 := HI8.out; intro hh; omega)))
              (try simp only [Act.put, sA, sB, sC])
              refine tkL (.int .i64 ((i : Int) + 1)) (h := ?_)
              (try simp only [Act.put, sA, sB, sC])
              refine wpList_nil ?_
              go_wp2_with fail
              refine Met.intro ?_
              refine hJ1 _ _ _ ?less207 ⟨(i + 1), ls2, S2, A2, c2, rfl, ⟨rfl, rfl, rfl, rfl, rfl, rfl, rfl, trivial⟩, Lib.hid ⟨by have := HI8.out; omega, HLN2.out, HUQ2.out, HDL2.out, HS207.out, HFq207.out, HFl207.out⟩⟩
              case less207 => exact (by have := HM.out; have := HI8.out; omega)
             | none =>
              have HE1 := Lib.hid (show (none : Option Nat).isSome = false from rfl); have HE2 := Lib.hid (show oM (none) = (0 : Int) from rfl); have HE3 := Lib.hid (show oQ (none) = (-1 : Int) from rfl); clear hat
              rw [HE1.out, HE2.out, HE3.out]
              go_upto_region 52 with fail
              refine wp_region_lit ?_
              refine tkL (.bool false) (h := ?_)
              (try simp only [Act.put, sA, sB, sC])
              refine tkL (.int .i64 (-1)) (h := ?_)
              (try simp only [Act.put, sA, sB, sC])
              refine wpList_q (by rfl) (.bool false) ?he ?_
              case he => (go_simp; (first | done | rfl | omega))
              (try simp only [Act.put, sA, sB, sC])
              refine wpList_q (by rfl) (.bool false) ?he ?_
              case he => (go_simp; (try with_reducible rfl))
              (try simp only [Act.put, sA, sB, sC])
              refine tkL (.bool false) (h := ?_)
              (try simp only [Act.put, sA, sB, sC])
              refine tkL (.int .i64 0) (h := ?_)
              (try simp only [Act.put, sA, sB, sC])
              refine tkL (.int .i64 (-1)) (h := ?_)
              (try simp only [Act.put, sA, sB, sC])
              refine wpList_q (by rfl) (.int .i64 0) ?he ?_
              case he => (first | rfl | kernel_rfl | (go_simp; (try with_reducible rfl)))
              (try simp only [Act.put, sA, sB, sC])
              refine wpList_q (by rfl) (.bool false) ?he ?_
              case he => (go_simp; (try with_reducible rfl))
              (try simp only [Act.put, sA, sB, sC])
              refine tkL (.bool false) (h := ?_)
              (try simp only [Act.put, sA, sB, sC])
              refine tkL (.bool false) (h := ?_)
              (try simp only [Act.put, sA, sB, sC])
              refine tkL (.pointer (some ⟨q1, 0, none⟩)) (h := ?_)
              (try simp only [Act.put, sA, sB, sC])
              refine wpList_wp (by rfl) (fun K hK => ?_)
              (try go_simp)
              refine (listV w.heap.size q1 (btw room 0 64) ls2 S2 _ HFq205.out (by have := HLB.out; omega) ls2.length rfl).mono ?_
              rintro e w206 ⟨Am, cm, rfl, hown, hb⟩
              (try go_wp2_with fail)
              refine hK.out _ _ ?_
              clear hK K
              (try simp only [Act.put, sA, sB, sC])
              have HRm := Lib.hid hown; clear hown
              have HS206 := Lib.hid (Since.trans HS205.out hb)
              have HBn8206 := Lib.hid (keep_blk hb HBn8205.out)
              have HFq206 := Lib.hid (QO.keep hb HFq205.out)
              have HFl206 := Lib.hid (keep_own hb HFl205.out)
              clear HS205 HBn8205 HFq205 HFl205
              clear hb
              refine tkL (.slice A2 ls2.length c2) (h := ?_)
              (try simp only [Act.put, sA, sB, sC])
              refine wpList_wp (by rfl) (fun K hK => ?_)
              (try go_simp)
              refine (sameT _ _ _ _ _ _ ls2 _ (by have := HLB.out; omega) HRm.out HFl206.out).mono ?_
              rintro e w207 ⟨rfl, hb⟩
              (try go_wp2_with fail)
              refine hK.out _ _ ?_
              clear hK K
              (try simp only [Act.put, sA, sB, sC])
              have HS207 := Lib.hid (Since.trans HS206.out hb)
              have HBn8207 := Lib.hid (keep_blk hb HBn8206.out)
              have HFq207 := Lib.hid (QO.keep hb HFq206.out)
              have HFl207 := Lib.hid (keep_own hb HFl206.out)
              have HFm207 := Lib.hid (keep_own hb HRm.out)
              clear HS206 HBn8206 HFq206 HFl206 HRm
              clear hb
              refine wpList_q (by rfl) (.bool false) ?he ?_
              case he => (go_simp; (try with_reducible rfl))
              (try simp only [Act.put, sA, sB, sC])
              refine tkL (.bool false) (h := ?_)
              (try simp only [Act.put, sA, sB, sC])
              refine wpList_nil ?_
              go_upto_region 5 with fail
              refine wp_region_lit ?_
              refine tkL (.int .i64 (i : Int)) (h := ?_)
              (try simp only [Act.put, sA, sB, sC])
              refine wpList_q (by rfl) (.int .i64 ((i : Int) + 1)) ?he ?_
              case he => (go_simp; (first | done | (refine wr64 _ ?_ ?_ <;> (have q0 := HI8.out; omega)) | (have q0 := HI8.out; omega) | (have q0 := HI8.out; split <;> omega) | (have q0 := HI8.out; intro hh; omega)))
              (try simp only [Act.put, sA, sB, sC])
              refine tkL (.int .i64 ((i : Int) + 1)) (h := ?_)
              (try simp only [Act.put, sA, sB, sC])
              refine wpList_nil ?_
              go_wp2_with fail
              refine Met.intro ?_
              refine hJ1 _ _ _ ?less207 ⟨(i + 1), ls2, S2, A2, c2, rfl, ⟨rfl, rfl, rfl, rfl, rfl, rfl, rfl, trivial⟩, Lib.hid ⟨by have := HI8.out; omega, HLN2.out, HUQ2.out, HDL2.out, HS207.out, HFq207.out, HFl207.out⟩⟩
              case less207 => exact (by have := HM.out; have := HI8.out; omega)
           · have HKLp := Lib.hid hcs; clear hcs
             go_upto_region 48 with fail
             refine wp_region_lit ?_
             refine tkL (.int .i64 (p : Int)) (h := ?_)
             (try simp only [Act.put, sA, sB, sC])
             refine tkL (.slice A2 ls2.length c2) (h := ?_)
             (try simp only [Act.put, sA, sB, sC])
             refine tkL (.int .i64 (ls2.length : Int)) (h := ?_)
             (try simp only [Act.put, sA, sB, sC])
             refine wpList_q (by rfl) (.bool true) ?he ?_
             case he => (have q0 := HKLp.out; go_simp; (first | done | rfl | omega))
             (try simp only [Act.put, sA, sB, sC])
             refine wpList_nil ?_
             obtain ⟨x, hx⟩ : ∃ x, ls2[p]? = some x := ⟨_, List.getElem?_eq_getElem HKLp.out⟩
             have HX := Lib.hid hx; clear hx
             obtain ⟨gl, hgl⟩ := own_addr HFl205.out (show 0 < ls2.length by have := HKLp.out; omega)
             subst hgl
             by_cases hcs : x.se = (os i).a.se
             rotate_left
             · have HEQ := Lib.hid hcs; clear hcs
               go_upto_region 50 with fail
               have HKS : Hid (KeepS (fun W : World => Since w W ∧ Blk W bn8 38 #[.int .i64 ((os i).k), .int .i64 ((os i).a.se), .int .i64 ((os i).a.fl), .int .i64 ((os i).a.fm), .int .i64 ((os i).a.to), .int .i64 ((os i).a.ma), .slice (os i).A (os i).n (os i).c] ∧ QO w.heap.size q1 (btw room 0 64) ls2 S2 W ∧ (W).ownsRow w.heap.size 30 5 (.slice (some ⟨gl, 0, none⟩) ls2.length c2) ls2.length (rowsOf askC ls2)) wr) := Lib.hid ⟨fun W W' k ⟨h, h0, h1, h2⟩ => ⟨h.trans k, keep_blk k h0, QO.keep k h1, keep_own k h2⟩, ⟨HS205.out, HBn8205.out, HFq205.out, HFl205.out⟩⟩
               have HRK := Lib.hid HKS.out.1
               refine wp_held HKS.out (by kernel_rfl) (fun hHeld => ?_)
               refine tkQ 0 (.slice (some ⟨gl, 0, none⟩) ls2.length c2) hHeld (h := ?_)
               (try simp only [Act.put, sA, sB, sC])
               refine tkQ 1 (.int .i64 (p : Int)) hHeld (h := ?_)
               (try simp only [Act.put, sA, sB, sC])
               refine tkQ 2 (.pointer (some ⟨gl, 0 + p * 5, none⟩)) hHeld (he := by intro w hSw; exact exec_index (i := p) (s := 5) 35 30 _ _ rfl rfl rfl rfl HKLp.out Try.underlying35 (by kernel_rfl)) (h := ?_)
               (try simp only [Act.put, sA, sB, sC])
               refine tkQ 3 (.pointer (some ⟨gl, 0 + p * 5, none⟩)) hHeld (h := ?_)
               (try simp only [Act.put, sA, sB, sC])
               refine tkQ 4 (.int .i64 x.se) hHeld (he := by intro w hSw; exact exec_at 3 _ _ (row_q hSw.2.2.2 HX.out 0 _ rfl) rfl rfl Try.underlying3 rfl) (h := ?_)
               (try simp only [Act.put, sA, sB, sC])
               refine tkQ 5 (.pointer (some ⟨bn8, 1, none⟩)) hHeld (h := ?_)
               (try simp only [Act.put, sA, sB, sC])
               refine tkQ 6 (.pointer (some ⟨bn8, 1, none⟩)) hHeld (h := ?_)
               (try simp only [Act.put, sA, sB, sC])
               refine tkQ 7 (.int .i64 ((os i).a.se)) hHeld (he := by intro w hSw; exact exec_cell 3 _ _ hSw.2.1 rfl rfl rfl Try.underlying3 rfl) (h := ?_)
               (try simp only [Act.put, sA, sB, sC])
               refine tkQ 8 (.bool false) hHeld (he := by intro w hSw; (have q := HEQ.out; go_simp; (first | done | exact q | (simp [q]; done)))) (h := ?_)
               (try simp only [Act.put, sA, sB, sC])
               refine wpAnyH_done (by kernel_rfl) ?_ _
               have HSd50 := Lib.hid hHeld.1
               have HBn8d50 := Lib.hid (hHeld.2.1)
               have HFqd50 := Lib.hid (hHeld.2.2.1)
               have HFld50 := Lib.hid (hHeld.2.2.2)
               clear hHeld HRK HKS HS205 HBn8205 HFq205 HFl205
               go_upto_region 49 with fail
               refine wp_region_lit ?_
               refine tkL (.int .i64 (p : Int)) (h := ?_)
               (try simp only [Act.put, sA, sB, sC])
               refine wpList_q (by rfl) (.int .i64 ((p : Int) + 1)) ?he ?_
               case he => (go_simp; (first | done | (refine wr64 _ ?_ ?_ <;> (have q0 := HKLp.out; have q1 := HLB.out; omega)) | (have q0 := HKLp.out; have q1 := HLB.out; omega) | (have q0 := HKLp.out; have q1 := HLB.out; split <;> omega) | (have q0 := HKLp.out; have q1 := HLB.out; intro hh; omega)))
               (try simp only [Act.put, sA, sB, sC])
               refine tkL (.int .i64 ((p : Int) + 1)) (h := ?_)
               (try simp only [Act.put, sA, sB, sC])
               refine wpList_nil ?_
               go_wp2_with fail
               refine Met.intro ?_
               refine hJ4 _ _ _ ?less205 ⟨(p + 1), rfl, ⟨rfl, rfl, rfl, rfl, rfl, rfl, rfl, rfl, (by rw [← last_miss HX.out HEQ.out]; rfl), rfl, rfl, rfl, rfl, trivial⟩, Lib.hid ⟨by have := HKLp.out; omega, HSd50.out, HBn8d50.out, HFqd50.out, HFld50.out⟩⟩
               case less205 => exact (by have := HMp.out; have := HKLp.out; omega)
             · have HEQ := Lib.hid hcs; clear hcs
               go_upto_region 50 with fail
               have HKS : Hid (KeepS (fun W : World => Since w W ∧ Blk W bn8 38 #[.int .i64 ((os i).k), .int .i64 ((os i).a.se), .int .i64 ((os i).a.fl), .int .i64 ((os i).a.fm), .int .i64 ((os i).a.to), .int .i64 ((os i).a.ma), .slice (os i).A (os i).n (os i).c] ∧ QO w.heap.size q1 (btw room 0 64) ls2 S2 W ∧ (W).ownsRow w.heap.size 30 5 (.slice (some ⟨gl, 0, none⟩) ls2.length c2) ls2.length (rowsOf askC ls2)) wr) := Lib.hid ⟨fun W W' k ⟨h, h0, h1, h2⟩ => ⟨h.trans k, keep_blk k h0, QO.keep k h1, keep_own k h2⟩, ⟨HS205.out, HBn8205.out, HFq205.out, HFl205.out⟩⟩
               have HRK := Lib.hid HKS.out.1
               refine wp_held HKS.out (by kernel_rfl) (fun hHeld => ?_)
               refine tkQ 0 (.slice (some ⟨gl, 0, none⟩) ls2.length c2) hHeld (h := ?_)
               (try simp only [Act.put, sA, sB, sC])
               refine tkQ 1 (.int .i64 (p : Int)) hHeld (h := ?_)
               (try simp only [Act.put, sA, sB, sC])
               refine tkQ 2 (.pointer (some ⟨gl, 0 + p * 5, none⟩)) hHeld (he := by intro w hSw; exact exec_index (i := p) (s := 5) 35 30 _ _ rfl rfl rfl rfl HKLp.out Try.underlying35 (by kernel_rfl)) (h := ?_)
               (try simp only [Act.put, sA, sB, sC])
               refine tkQ 3 (.pointer (some ⟨gl, 0 + p * 5, none⟩)) hHeld (h := ?_)
               (try simp only [Act.put, sA, sB, sC])
               refine tkQ 4 (.int .i64 x.se) hHeld (he := by intro w hSw; exact exec_at 3 _ _ (row_q hSw.2.2.2 HX.out 0 _ rfl) rfl rfl Try.underlying3 rfl) (h := ?_)
               (try simp only [Act.put, sA, sB, sC])
               refine tkQ 5 (.pointer (some ⟨bn8, 1, none⟩)) hHeld (h := ?_)
               (try simp only [Act.put, sA, sB, sC])
               refine tkQ 6 (.pointer (some ⟨bn8, 1, none⟩)) hHeld (h := ?_)
               (try simp only [Act.put, sA, sB, sC])
               refine tkQ 7 (.int .i64 ((os i).a.se)) hHeld (he := by intro w hSw; exact exec_cell 3 _ _ hSw.2.1 rfl rfl rfl Try.underlying3 rfl) (h := ?_)
               (try simp only [Act.put, sA, sB, sC])
               refine tkQ 8 (.bool true) hHeld (he := by intro w hSw; (have q := HEQ.out; go_simp; (first | done | exact q | (simp [q]; done)))) (h := ?_)
               (try simp only [Act.put, sA, sB, sC])
               refine wpAnyH_done (by kernel_rfl) ?_ _
               have HSd50 := Lib.hid hHeld.1
               have HBn8d50 := Lib.hid (hHeld.2.1)
               have HFqd50 := Lib.hid (hHeld.2.2.1)
               have HFld50 := Lib.hid (hHeld.2.2.2)
               clear hHeld HRK HKS HS205 HBn8205 HFq205 HFl205
               go_upto_region 51 with fail
               refine wp_region_lit ?_
               refine tkL (.int .i64 (p : Int)) (h := ?_)
               (try simp only [Act.put, sA, sB, sC])
               refine tkL (.int .i64 (p : Int)) (h := ?_)
               (try simp only [Act.put, sA, sB, sC])
               refine wpList_nil ?_
               go_upto_region 49 with fail
               refine wp_region_lit ?_
               refine tkL (.int .i64 (p : Int)) (h := ?_)
               (try simp only [Act.put, sA, sB, sC])
               refine wpList_q (by rfl) (.int .i64 ((p : Int) + 1)) ?he ?_
               case he => (go_simp; (first | done | (refine wr64 _ ?_ ?_ <;> (have q0 := HKLp.out; have q1 := HLB.out; omega)) | (have q0 := HKLp.out; have q1 := HLB.out; omega) | (have q0 := HKLp.out; have q1 := HLB.out; split <;> omega) | (have q0 := HKLp.out; have q1 := HLB.out; intro hh; omega)))
               (try simp only [Act.put, sA, sB, sC])
               refine tkL (.int .i64 ((p : Int) + 1)) (h := ?_)
               (try simp only [Act.put, sA, sB, sC])
               refine wpList_nil ?_
               go_wp2_with fail
               refine Met.intro ?_
               refine hJ4 _ _ _ ?less205 ⟨(p + 1), rfl, ⟨rfl, rfl, rfl, rfl, rfl, rfl, rfl, rfl, (by rw [← last_hit HX.out HEQ.out]; rfl), rfl, rfl, rfl, rfl, trivial⟩, Lib.hid ⟨by have := HKLp.out; omega, HSd50.out, HBn8d50.out, HFqd50.out, HFld50.out⟩⟩
               case less205 => exact (by have := HMp.out; have := HKLp.out; omega)
       · have HKLk := Lib.hid hcs; clear hcs
         go_upto_region 9 with fail
         refine wp_region_lit ?_
         refine tkL (.int .i64 (k : Int)) (h := ?_)
         (try simp only [Act.put, sA, sB, sC])
         refine tkL (.slice Al ls.length cl) (h := ?_)
         (try simp only [Act.put, sA, sB, sC])
         refine tkL (.int .i64 (ls.length : Int)) (h := ?_)
         (try simp only [Act.put, sA, sB, sC])
         refine wpList_q (by rfl) (.bool true) ?he ?_
         case he => (have q0 := HKLk.out; go_simp; (first | done | rfl | omega))
         (try simp only [Act.put, sA, sB, sC])
         refine wpList_nil ?_
         obtain ⟨x, hx⟩ : ∃ x, ls[k]? = some x := ⟨_, List.getElem?_eq_getElem HKLk.out⟩
         have HX := Lib.hid hx; clear hx
         obtain ⟨gl, hgl⟩ := own_addr HFl104.out (show 0 < ls.length by have := HKLk.out; omega)
         subst hgl
         by_cases hcs : x.se = (os i).a.se
         rotate_left
         · have HEQ := Lib.hid hcs; clear hcs
           go_upto_region 11 with fail
           have HKS : Hid (KeepS (fun W : World => Since w W ∧ Blk W bn8 38 #[.int .i64 ((os i).k), .int .i64 ((os i).a.se), .int .i64 ((os i).a.fl), .int .i64 ((os i).a.fm), .int .i64 ((os i).a.to), .int .i64 ((os i).a.ma), .slice (os i).A (os i).n (os i).c] ∧ QO w.heap.size q1 (btw room 0 64) ls Sq W ∧ (W).ownsRow w.heap.size 30 5 (.slice (some ⟨gl, 0, none⟩) ls.length cl) ls.length (rowsOf askC ls)) wr) := Lib.hid ⟨fun W W' k ⟨h, h0, h1, h2⟩ => ⟨h.trans k, keep_blk k h0, QO.keep k h1, keep_own k h2⟩, ⟨HS104.out, HBn8104.out, HFq104.out, HFl104.out⟩⟩
           have HRK := Lib.hid HKS.out.1
           refine wp_held HKS.out (by kernel_rfl) (fun hHeld => ?_)
           refine tkQ 0 (.slice (some ⟨gl, 0, none⟩) ls.length cl) hHeld (h := ?_)
           (try simp only [Act.put, sA, sB, sC])
           refine tkQ 1 (.int .i64 (k : Int)) hHeld (h := ?_)
           (try simp only [Act.put, sA, sB, sC])
           refine tkQ 2 (.pointer (some ⟨gl, 0 + k * 5, none⟩)) hHeld (he := by intro w hSw; exact exec_index (i := k) (s := 5) 35 30 _ _ rfl rfl rfl rfl HKLk.out Try.underlying35 (by kernel_rfl)) (h := ?_)
           (try simp only [Act.put, sA, sB, sC])
           refine tkQ 3 (.pointer (some ⟨gl, 0 + k * 5, none⟩)) hHeld (h := ?_)
           (try simp only [Act.put, sA, sB, sC])
           refine tkQ 4 (.int .i64 x.se) hHeld (he := by intro w hSw; exact exec_at 3 _ _ (row_q hSw.2.2.2 HX.out 0 _ rfl) rfl rfl Try.underlying3 rfl) (h := ?_)
           (try simp only [Act.put, sA, sB, sC])
           refine tkQ 5 (.pointer (some ⟨bn8, 1, none⟩)) hHeld (h := ?_)
           (try simp only [Act.put, sA, sB, sC])
           refine tkQ 6 (.pointer (some ⟨bn8, 1, none⟩)) hHeld (h := ?_)
           (try simp only [Act.put, sA, sB, sC])
           refine tkQ 7 (.int .i64 ((os i).a.se)) hHeld (he := by intro w hSw; exact exec_cell 3 _ _ hSw.2.1 rfl rfl rfl Try.underlying3 rfl) (h := ?_)
           (try simp only [Act.put, sA, sB, sC])
           refine tkQ 8 (.bool false) hHeld (he := by intro w hSw; (have q := HEQ.out; go_simp; (first | done | exact q | (simp [q]; done)))) (h := ?_)
           (try simp only [Act.put, sA, sB, sC])
           refine wpAnyH_done (by kernel_rfl) ?_ _
           have HSd11 := Lib.hid hHeld.1
           have HBn8d11 := Lib.hid (hHeld.2.1)
           have HFqd11 := Lib.hid (hHeld.2.2.1)
           have HFld11 := Lib.hid (hHeld.2.2.2)
           clear hHeld HRK HKS HS104 HBn8104 HFq104 HFl104
           go_upto_region 10 with fail
           refine wp_region_lit ?_
           refine tkL (.int .i64 (k : Int)) (h := ?_)
           (try simp only [Act.put, sA, sB, sC])
           refine wpList_q (by rfl) (.int .i64 ((k : Int) + 1)) ?he ?_
           case he => (go_simp; (first | done | (refine wr64 _ ?_ ?_ <;> (have q0 := HKLk.out; have q1 := HLB.out; omega)) | (have q0 := HKLk.out; have q1 := HLB.out; omega) | (have q0 := HKLk.out; have q1 := HLB.out; split <;> omega) | (have q0 := HKLk.out; have q1 := HLB.out; intro hh; omega)))
           (try simp only [Act.put, sA, sB, sC])
           refine tkL (.int .i64 ((k : Int) + 1)) (h := ?_)
           (try simp only [Act.put, sA, sB, sC])
           refine wpList_nil ?_
           go_wp2_with fail
           refine Met.intro ?_
           refine hJ2 _ _ _ ?less104 ⟨(k + 1), rfl, ⟨rfl, rfl, rfl, rfl, rfl, rfl, rfl, rfl, (by rw [← last_miss HX.out HEQ.out]; rfl), rfl, trivial⟩, Lib.hid ⟨by have := HKLk.out; omega, HSd11.out, HBn8d11.out, HFqd11.out, HFld11.out⟩⟩
           case less104 => exact (by have := HMk.out; have := HKLk.out; omega)
         · have HEQ := Lib.hid hcs; clear hcs
           go_upto_region 11 with fail
           have HKS : Hid (KeepS (fun W : World => Since w W ∧ Blk W bn8 38 #[.int .i64 ((os i).k), .int .i64 ((os i).a.se), .int .i64 ((os i).a.fl), .int .i64 ((os i).a.fm), .int .i64 ((os i).a.to), .int .i64 ((os i).a.ma), .slice (os i).A (os i).n (os i).c] ∧ QO w.heap.size q1 (btw room 0 64) ls Sq W ∧ (W).ownsRow w.heap.size 30 5 (.slice (some ⟨gl, 0, none⟩) ls.length cl) ls.length (rowsOf askC ls)) wr) := Lib.hid ⟨fun W W' k ⟨h, h0, h1, h2⟩ => ⟨h.trans k, keep_blk k h0, QO.keep k h1, keep_own k h2⟩, ⟨HS104.out, HBn8104.out, HFq104.out, HFl104.out⟩⟩
           have HRK := Lib.hid HKS.out.1
           refine wp_held HKS.out (by kernel_rfl) (fun hHeld => ?_)
           refine tkQ 0 (.slice (some ⟨gl, 0, none⟩) ls.length cl) hHeld (h := ?_)
           (try simp only [Act.put, sA, sB, sC])
           refine tkQ 1 (.int .i64 (k : Int)) hHeld (h := ?_)
           (try simp only [Act.put, sA, sB, sC])
           refine tkQ 2 (.pointer (some ⟨gl, 0 + k * 5, none⟩)) hHeld (he := by intro w hSw; exact exec_index (i := k) (s := 5) 35 30 _ _ rfl rfl rfl rfl HKLk.out Try.underlying35 (by kernel_rfl)) (h := ?_)
           (try simp only [Act.put, sA, sB, sC])
           refine tkQ 3 (.pointer (some ⟨gl, 0 + k * 5, none⟩)) hHeld (h := ?_)
           (try simp only [Act.put, sA, sB, sC])
           refine tkQ 4 (.int .i64 x.se) hHeld (he := by intro w hSw; exact exec_at 3 _ _ (row_q hSw.2.2.2 HX.out 0 _ rfl) rfl rfl Try.underlying3 rfl) (h := ?_)
           (try simp only [Act.put, sA, sB, sC])
           refine tkQ 5 (.pointer (some ⟨bn8, 1, none⟩)) hHeld (h := ?_)
           (try simp only [Act.put, sA, sB, sC])
           refine tkQ 6 (.pointer (some ⟨bn8, 1, none⟩)) hHeld (h := ?_)
           (try simp only [Act.put, sA, sB, sC])
           refine tkQ 7 (.int .i64 ((os i).a.se)) hHeld (he := by intro w hSw; exact exec_cell 3 _ _ hSw.2.1 rfl rfl rfl Try.underlying3 rfl) (h := ?_)
           (try simp only [Act.put, sA, sB, sC])
           refine tkQ 8 (.bool true) hHeld (he := by intro w hSw; (have q := HEQ.out; go_simp; (first | done | exact q | (simp [q]; done)))) (h := ?_)
           (try simp only [Act.put, sA, sB, sC])
           refine wpAnyH_done (by kernel_rfl) ?_ _
           have HSd11 := Lib.hid hHeld.1
           have HBn8d11 := Lib.hid (hHeld.2.1)
           have HFqd11 := Lib.hid (hHeld.2.2.1)
           have HFld11 := Lib.hid (hHeld.2.2.2)
           clear hHeld HRK HKS HS104 HBn8104 HFq104 HFl104
           go_upto_region 12 with fail
           refine wp_region_lit ?_
           refine tkL (.int .i64 (k : Int)) (h := ?_)
           (try simp only [Act.put, sA, sB, sC])
           refine tkL (.int .i64 (k : Int)) (h := ?_)
           (try simp only [Act.put, sA, sB, sC])
           refine wpList_nil ?_
           go_upto_region 10 with fail
           refine wp_region_lit ?_
           refine tkL (.int .i64 (k : Int)) (h := ?_)
           (try simp only [Act.put, sA, sB, sC])
           refine wpList_q (by rfl) (.int .i64 ((k : Int) + 1)) ?he ?_
           case he => (go_simp; (first | done | (refine wr64 _ ?_ ?_ <;> (have q0 := HKLk.out; have q1 := HLB.out; omega)) | (have q0 := HKLk.out; have q1 := HLB.out; omega) | (have q0 := HKLk.out; have q1 := HLB.out; split <;> omega) | (have q0 := HKLk.out; have q1 := HLB.out; intro hh; omega)))
           (try simp only [Act.put, sA, sB, sC])
           refine tkL (.int .i64 ((k : Int) + 1)) (h := ?_)
           (try simp only [Act.put, sA, sB, sC])
           refine wpList_nil ?_
           go_wp2_with fail
           refine Met.intro ?_
           refine hJ2 _ _ _ ?less104 ⟨(k + 1), rfl, ⟨rfl, rfl, rfl, rfl, rfl, rfl, rfl, rfl, (by rw [← last_hit HX.out HEQ.out]; rfl), rfl, trivial⟩, Lib.hid ⟨by have := HKLk.out; omega, HSd11.out, HBn8d11.out, HFqd11.out, HFld11.out⟩⟩
           case less104 => exact (by have := HMk.out; have := HKLk.out; omega)
theorem playsF {H : Type} {enc : TypeId × Value → H} {x : DataW H × List MemPlace} (room : Int) (Ao : Option Addr) (on oc : Nat) (w : World) (hx : ∃ m, DataW.trod enc Try.prog w 0 (fun _ => true) true m 32 (Value.cells (.slice Ao on oc)).toList = some x) :
    Calls Try.prog 5 #[.int .i64 room, .slice Ao on oc] w fun e w' => e = .returned (.bool true) ∧ Since w w' := by
  obtain ⟨m, hm⟩ := hx
  obtain ⟨os, ho, hl⟩ := Qops.open_ hm
  exact plays room Ao on oc os w ho hl
end Go.Proofs.Ytggafipgfgbbiaa.Qu
