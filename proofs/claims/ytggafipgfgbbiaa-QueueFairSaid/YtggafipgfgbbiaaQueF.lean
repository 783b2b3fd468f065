/-
  QueueFair: walked.
  Conditions: what stands ahead of each.
-/
import Derived.Test.YtggafipgfgbbiaaProg
import Derived.Test.YtggafipgfgbbiaaQueE
import Derived.Test.YtggafipgfgbbiaaAskL
namespace Go.Proofs.Ytggafipgfgbbiaa.Qu
set_option linter.unusedVariables false
set_option linter.unusedSimpArgs false
open Go.RowKit Go.Proofs.Ytggafipgfgbbiaa.Ba Go.Proofs.Ytggafipgfgbbiaa.Mem Go.Proofs.Ytggafipgfgbbiaa.Ty
set_option maxRecDepth 100000
attribute [local irreducible] Go.wpList
open Go.Proofs.Ytggafipgfgbbiaa.Al (Asks)
theorem at_append {ls : List AskV} {x : AskV} {s : Int} {j : Nat} (h : atS ls s = some j) : atS (ls ++ [x]) s = some j := by
  unfold atS at *
  rw [List.findIdx?_append, h]
  rfl
theorem at_put {room : Int} {ls : List AskV} {x : AskV} {s : Int} {j : Nat} (h : atS ls s = some j) : atS (putL room ls x) s = some j := by
  unfold putL
  split
  · exact at_append h
  · exact h
theorem at_no {ls : List AskV} {s : Int} (h : ∀ x ∈ ls, x.se ≠ s) : atS ls s = none := by
  unfold atS
  rw [List.findIdx?_eq_none_iff]
  intro x hx
  simpa [isS] using h x hx
theorem at_new {ls : List AskV} {a : AskV} (h : ∀ x ∈ ls, x.se ≠ a.se) : atS (ls ++ [a]) a.se = some ls.length := by
  have hn := at_no h
  unfold atS at *
  rw [List.findIdx?_append, hn]
  simp [isS]
theorem len_put (room : Int) (ls : List AskV) (a : AskV) : (putL room ls a).length ≤ ls.length + 1 := by
  unfold putL
  split <;> simp
theorem len_put64 {ls : List AskV} (a : AskV) (h : ls.length ≤ 64) : (putL (btw 64 0 64) ls a).length ≤ 64 := by
  unfold putL
  split
  · rename_i h0
    unfold putE at h0
    have hb : btw 64 0 64 = 64 := by decide
    rw [hb] at h0
    split at h0
    · cases h0
    · split at h0
      · cases h0
      · simp; omega
  · exact h
theorem put_ok {ls : List AskV} {a : AskV} (h1 : ∀ x ∈ ls, x.se ≠ a.se) (h2 : ls.length ≤ 30) : putE (btw 64 0 64) ls a = 0 := by
  have hb : btw 64 0 64 = 64 := by decide
  unfold putE
  rw [at_no h1, hb, if_neg (by simp), if_neg (by omega)]
theorem put_okL {ls : List AskV} {a : AskV} (h1 : ∀ x ∈ ls, x.se ≠ a.se) (h2 : ls.length ≤ 30) : putL (btw 64 0 64) ls a = ls ++ [a] := by
  unfold putL
  rw [put_ok h1 h2, if_pos rfl]
theorem mem_put {room : Int} {ls : List AskV} {x : AskV} {s : Int} (h : ∀ y ∈ ls, y.se ≠ s) (hx : x.se ≠ s) : ∀ y ∈ putL room ls x, y.se ≠ s := by
  unfold putL
  split
  · intro y hy
    rcases List.mem_append.1 hy with hy | hy
    · exact h y hy
    · rw [List.mem_singleton.1 hy]; exact hx
  · exact h
theorem len_drop (ls : List AskV) (d : Int) : (dropL ls d).length ≤ ls.length := by
  unfold dropL
  split
  · exact List.length_eraseIdx_le _ _
  · exact Nat.le_refl _
theorem at_drop {ls : List AskV} {s d : Int} {j : Nat} (h : atS ls s = some j) (hd : d ≠ s) : ∃ j', j' ≤ j ∧ atS (dropL ls d) s = some j' := by
  cases hk : atS ls d with
  | none => exact ⟨j, Nat.le_refl _, by unfold dropL; rw [hk]; exact h⟩
  | some k =>
    obtain ⟨k1, k2, _⟩ := atS_some hk
    obtain ⟨j1, j2, j3⟩ := atS_some h
    have e : dropL ls d = ls.eraseIdx k := by unfold dropL; rw [hk]
    have hkj : k ≠ j := by
      rintro rfl
      have := k2 k1; have := j2 j1; omega
    have hl : (ls.eraseIdx k).length = ls.length - 1 := by rw [List.length_eraseIdx, if_pos k1]
    rw [e]
    rcases Nat.lt_or_ge j k with hlt | hge
    · refine ⟨j, Nat.le_refl _, ?_⟩
      unfold atS
      rw [List.findIdx?_eq_some_iff_getElem]
      refine ⟨by omega, ?_, fun m hm => ?_⟩
      · rw [List.getElem_eraseIdx, dif_pos hlt]
        simpa [isS] using j2 j1
      · rw [List.getElem_eraseIdx, dif_pos (by omega)]
        simpa [isS] using j3 m hm (by omega)
    · refine ⟨j - 1, by omega, ?_⟩
      unfold atS
      rw [List.findIdx?_eq_some_iff_getElem]
      refine ⟨by omega, ?_, fun m hm => ?_⟩
      · rw [List.getElem_eraseIdx, dif_neg (by omega)]
        have e2 : j - 1 + 1 = j := by omega
        simp only [e2]
        simpa [isS] using j2 j1
      · rw [List.getElem_eraseIdx]
        split
        · simpa [isS] using j3 m (by omega) (by omega)
        · simpa [isS] using j3 (m + 1) (by omega) (by omega)
theorem IV.of_row {w : World} {a : Option Addr} {zs : List Int} {len cap : Nat} (h : (a = none ∧ len = 0 ∧ cap = 0 ∧ zs = []) ∨
    ∃ x, a = some x ∧ len ≤ cap ∧ cap ≤ maxLen ∧ zs.length = cap ∧ (∀ i, i < zs.length → w.cell? (x.add i) = some (.int .i64 (zs.getD i 0))) ∧ ∀ n ∈ zs, (Lit.int .i64 n).wf = true) : IV w a len (zs.take len) := by
  rcases h with ⟨rfl, rfl, rfl, rfl⟩ | ⟨x, rfl, hlc, hm, hz, hc, hw⟩
  · exact IV.nil _ _
  · refine ⟨by rw [List.length_take]; omega, ?_⟩
    rcases Nat.eq_zero_or_pos len with h0 | h0
    · exact .inl h0
    · obtain ⟨b, off, rfl, hc'⟩ := ints_at hc (by omega)
      refine .inr ⟨b, off, rfl, ?_, fun j hj => ?_⟩
      · have := hc' 0 (by omega)
        exact World.block_lt_of_cell? _ _ this
      · rw [hc' j (by omega)]
        congr 2
        simp [List.getD, List.getElem?_take, hj]
set_option maxHeartbeats 4000000 in
theorem fair (Ab : Option Addr) (bn bc : Nat) (be : Nat → AskV) (Aa : Option Addr) (an ac : Nat) (af : Nat → AskV) (a : AskV) (Ad : Option Addr) (dn dc : Nat) (zs : List Int) (w : World) (hb : Asks w Ab bn be) (ha : Asks w Aa an af) (hd : IV w Ad dn zs) (hbl : bn ≤ 9223372036854775807) (hal : an ≤ 9223372036854775807) (hdl : dn ≤ 9223372036854775807) : Calls Try.prog 6 #[.slice Ab bn bc, .slice Aa an ac, .agg #[.int .i64 a.se, .int .i64 a.fl, .int .i64 a.fm, .int .i64 a.to, .int .i64 a.ma], .slice Ad dn dc] w fun e w' => e = .returned (.bool true) ∧ Since w w' := by
  have HB := Lib.hid hb
  clear hb
  have HA := Lib.hid ha
  clear ha
  have HD := Lib.hid hd
  clear hd
  have HBL := Lib.hid hbl
  clear hbl
  have HAL := Lib.hid hal
  clear hal
  have HDL := Lib.hid hdl
  clear hdl
  go_enter Try.func6, Try.ntmps6
  go_upto_region 1 with fail
  obtain ⟨w1, hw1⟩ : ∃ w1, w1 = (w.alloc (.cells #[.int .i64 a.se, .int .i64 a.fl, .int .i64 a.fm, .int .i64 a.to, .int .i64 a.ma] 30)) := ⟨_, rfl⟩
  rw [← hw1]
  have HBA1 := Lib.hid (show Blk w1 (w.heap.size) 30 #[.int .i64 a.se, .int .i64 a.fl, .int .i64 a.fm, .int .i64 a.to, .int .i64 a.ma] by rw [hw1]; exact Blk.at_ (by (try simp only [size_alloc])) _ _)
  have HS1 := Lib.hid (show Since w w1 by rw [hw1]; exact Since.alloc (Since.refl w) _)
  have hNE : w.heap.size ≤ w.heap.size := by omega
  have HNE := Lib.hid hNE
  clear hNE hw1
  have HNE3 := Lib.hid (show w.heap.size ≤ w.heap.size from HNE.out)
  clear HNE
  refine wp_region_lit ?_
  refine wpList_wp (by rfl) (fun K hK => ?_)
  (try go_simp)
  refine (newV w.heap.size 64 _ (Since.size HS1.out)).mono ?_
  rintro e w2 ⟨q1, rfl, hQ, hge, hb⟩
  (try go_wp2_with fail)
  refine hK.out _ _ ?_
  clear hK K
  (try simp only [Act.put, sA, sB, sC])
  have HIA_q := Lib.hid (show w.heap.size ∉ [q1] by have := Blk.lt HBA1.out; simp; omega)
  have HS2 := Lib.hid (Since.trans HS1.out hb)
  have HBA2 := Lib.hid (keep_blk hb HBA1.out)
  clear HS1 HBA1
  clear hb
  have HFq := Lib.hid hQ
  clear hQ hge
  refine wpList_q (by rfl) (.pointer (some ⟨q1, 0, none⟩)) ?he ?_
  case he => (first | rfl | (go_simp; (try with_reducible rfl)))
  (try simp only [Act.put, sA, sB, sC])
  refine wpList_nil ?_
  go_upto_region 2 with fail
  refine wp_region_lit ?_
  refine wpList_q (by rfl) (.int .i64 0) ?he ?_
  case he => (first | rfl | (go_simp; (try with_reducible rfl)))
  (try simp only [Act.put, sA, sB, sC])
  refine wpList_nil ?_
  go_wp2_with fail
  go_loopw [10] (fun s10 wr => ∃ (k : Nat) (ls : List AskV) (Sq : List Nat), k ≤ 30 ∧ k ≤ bn ∧ s10 = .int .i64 (k : Int) ∧ Hid (ls.length ≤ k ∧ (∀ x ∈ ls, x.se ≠ a.se) ∧ w.heap.size ∉ Sq ∧ Since w wr ∧ Blk wr w.heap.size 30 #[.int .i64 a.se, .int .i64 a.fl, .int .i64 a.fm, .int .i64 a.to, .int .i64 a.ma] ∧ QO w.heap.size q1 (btw 64 0 64) ls Sq wr)) (fun s10 _ => ((bn : Int) - intOf s10).toNat)
  case atStart => exact ⟨0, [], [q1], by omega, by omega, rfl, Lib.hid ⟨(by simp), (by simp), HIA_q.out, HS2.out, HBA2.out, HFq.out⟩⟩
  case round =>
    obtain ⟨k, ls, Sq, hk30, hkb, rfl, HO⟩ := hrel
    obtain ⟨e0, e1, e2, g0, g1, g2⟩ := HO.out
    clear HO HS2 HBA2 HFq
    have HLEN := Lib.hid e0
    have HNO := Lib.hid e1
    have HIA := Lib.hid e2
    have HS52 := Lib.hid g0
    have HBA52 := Lib.hid g1
    have HFq52 := Lib.hid g2
    clear e0 e1 e2 g0 g1 g2
    have HK30 := Lib.hid hk30; have HKB := Lib.hid hkb; clear hk30 hkb
    by_cases hcs : k < bn
    rotate_left
    · have HGE := Lib.hid hcs; clear hcs
      go_upto_region 3 with fail
      refine wp_region_lit ?_
      refine wpList_q (by rfl) (.int .i64 (k : Int)) ?he ?_
      case he => (first | rfl | (go_simp; (try with_reducible rfl)))
      (try simp only [Act.put, sA, sB, sC])
      refine wpList_q (by rfl) (.slice Ab bn bc) ?he ?_
      case he => (first | rfl | (go_simp; (try with_reducible rfl)))
      (try simp only [Act.put, sA, sB, sC])
      refine wpList_q (by rfl) (.int .i64 (bn : Int)) ?he ?_
      case he => (first | rfl | (go_simp; (try with_reducible rfl)))
      (try simp only [Act.put, sA, sB, sC])
      refine wpList_q (by rfl) (.bool false) ?he ?_
      case he => (have q0 := HGE.out; go_simp; (first | done | rfl | omega))
      (try simp only [Act.put, sA, sB, sC])
      refine wpList_q (by rfl) (.bool false) ?he ?_
      case he => (first | rfl | (go_simp; (try with_reducible rfl)))
      (try simp only [Act.put, sA, sB, sC])
      refine wpList_no (by rfl) ?_
      (try simp only [Act.put, sA, sB, sC])
      refine wpList_no (by rfl) ?_
      (try simp only [Act.put, sA, sB, sC])
      refine wpList_q (by rfl) (.bool false) ?he ?_
      case he => (first | rfl | (go_simp; (try with_reducible rfl)))
      (try simp only [Act.put, sA, sB, sC])
      refine wpList_nil ?_
      go_upto_region 7 with fail
      refine wp_region_lit ?_
      refine wpList_q (by rfl) (.pointer (some ⟨q1, 0, none⟩)) ?he ?_
      case he => (first | rfl | (go_simp; (try with_reducible rfl)))
      (try simp only [Act.put, sA, sB, sC])
      refine wpList_wp (by rfl) (fun K hK => ?_)
      (try go_simp)
      refine (listV w.heap.size q1 (btw 64 0 64) ls Sq _ HFq52.out (by have q1 := HLEN.out; have q2 := HK30.out; omega) ls.length rfl).mono ?_
      rintro e w53 ⟨A2, c2, rfl, hown, hb⟩
      (try go_wp2_with fail)
      refine hK.out _ _ ?_
      clear hK K
      (try simp only [Act.put, sA, sB, sC])
      have HS53 := Lib.hid (Since.trans HS52.out hb)
      have HBA53 := Lib.hid (keep_blk hb HBA52.out)
      have HFq53 := Lib.hid (QO.keep hb HFq52.out)
      clear HS52 HBA52 HFq52
      clear hb
      clear hown
      refine wpList_q (by rfl) (.int .i64 (ls.length : Int)) ?he ?_
      case he => (first | rfl | (go_simp; (try with_reducible rfl)))
      (try simp only [Act.put, sA, sB, sC])
      refine wpList_q (by rfl) (.int .i64 (ls.length : Int)) ?he ?_
      case he => (first | rfl | (go_simp; (try with_reducible rfl)))
      (try simp only [Act.put, sA, sB, sC])
      refine wpList_nil ?_
      go_upto_region 8 with fail
      refine wp_region_lit ?_
      refine wpList_q (by rfl) (.pointer (some ⟨q1, 0, none⟩)) ?he ?_
      case he => (first | rfl | (go_simp; (try with_reducible rfl)))
      (try simp only [Act.put, sA, sB, sC])
      refine wpList_q (by rfl) (.agg #[.int .i64 a.se, .int .i64 a.fl, .int .i64 a.fm, .int .i64 a.to, .int .i64 a.ma]) ?he ?_
      case he => exact exec_load_row 30 _ _ HBA53.out rfl rfl Try.underlying30 rfl (by kernel_rfl)
      (try simp only [Act.put, sA, sB, sC])
      refine wpList_wp (by rfl) (fun K hK => ?_)
      (try go_simp)
      refine (putV w.heap.size q1 (btw 64 0 64) ls Sq a _ HFq53.out (by have q1 := HLEN.out; have q2 := HK30.out; omega) 0 (ls ++ [a]) (put_ok HNO.out (by have q1 := HLEN.out; have q2 := HK30.out; omega)) (put_okL HNO.out (by have q1 := HLEN.out; have q2 := HK30.out; omega))).mono ?_
      rintro e w54 ⟨Sq_1, rfl, hobj, hupd, hfar⟩
      (try go_wp2_with fail)
      refine hK.out _ _ ?_
      clear hK K
      (try simp only [Act.put, sA, sB, sC])
      have HS54 := Lib.hid (Since.upd HS53.out hupd (QO.low HFq53.out))
      have HBA54 := Lib.hid (Upd.blk hupd HBA53.out HIA.out)
      have HIA_q_54 := Lib.hid (nin_next hfar HIA.out (Blk.lt HBA53.out))
      have HFq54 := Lib.hid hobj
      clear hupd hobj hfar HS53 HBA53 HFq53
      refine wpList_q (by rfl) (.bool false) ?he ?_
      case he => (go_simp; (try with_reducible rfl))
      (try simp only [Act.put, sA, sB, sC])
      refine wpList_nil ?_
      go_upto_region 10 with fail
      refine wp_region_lit ?_
      refine wpList_q (by rfl) (.int .i64 0) ?he ?_
      case he => (first | rfl | (go_simp; (try with_reducible rfl)))
      (try simp only [Act.put, sA, sB, sC])
      refine wpList_nil ?_
      go_wp2_with fail
      have HST := Lib.hid (show (ls ++ [a]).length ≤ 64 ∧ atS (ls ++ [a]) a.se = some ls.length from ⟨by have q1 := HLEN.out; have q2 := HK30.out; simp; omega, at_new HNO.out⟩)
      clear HK30 HKB HLEN HNO
      go_loopw [11, 12] (fun s11 s12 wr => ∃ (k j : Nat) (n : Int) (ms : List AskV) (Sm : List Nat), k ≤ 60 ∧ k ≤ an ∧ s11 = .int .i64 n ∧ s12 = .int .i64 (k : Int) ∧ Hid (ms.length ≤ 64 ∧ atS ms a.se = some j ∧ (j : Int) ≤ n ∧ w.heap.size ∉ Sm ∧ Since w wr ∧ Blk wr w.heap.size 30 #[.int .i64 a.se, .int .i64 a.fl, .int .i64 a.fm, .int .i64 a.to, .int .i64 a.ma] ∧ QO w.heap.size q1 (btw 64 0 64) ms Sm wr)) (fun s11 s12 _ => ((an : Int) - intOf s12).toNat)
      case atStart => exact ⟨0, ls.length, (ls.length : Int), (ls ++ [a]), Sq_1, by omega, by omega, rfl, rfl, Lib.hid ⟨HST.out.1, HST.out.2, (Int.le_refl _), HIA_q_54.out, HS54.out, HBA54.out, HFq54.out⟩⟩
      case round =>
        clear HST
        rename_i k_old
        skip
        obtain ⟨k, j, n, ms, Sm, hk60, hka, rfl, rfl, HO⟩ := hrel
        obtain ⟨e0, e1, e2, e3, g0, g1, g2⟩ := HO.out
        clear HO HS54 HBA54 HFq54
        have HLEN := Lib.hid e0
        have HAT := Lib.hid e1
        have HJN := Lib.hid e2
        have HIA2 := Lib.hid e3
        have HS104 := Lib.hid g0
        have HBA104 := Lib.hid g1
        have HFq104 := Lib.hid g2
        clear e0 e1 e2 e3 g0 g1 g2
        have HK60 := Lib.hid hk60; have HKA := Lib.hid hka; clear hk60 hka
        by_cases hcs : k < an
        rotate_left
        · have HGE := Lib.hid hcs; clear hcs
          go_upto_region 11 with fail
          refine wp_region_lit ?_
          refine wpList_q (by rfl) (.int .i64 (k : Int)) ?he ?_
          case he => (first | rfl | (go_simp; (try with_reducible rfl)))
          (try simp only [Act.put, sA, sB, sC])
          refine wpList_q (by rfl) (.slice Aa an ac) ?he ?_
          case he => (first | rfl | (go_simp; (try with_reducible rfl)))
          (try simp only [Act.put, sA, sB, sC])
          refine wpList_q (by rfl) (.int .i64 (an : Int)) ?he ?_
          case he => (first | rfl | (go_simp; (try with_reducible rfl)))
          (try simp only [Act.put, sA, sB, sC])
          refine wpList_q (by rfl) (.bool false) ?he ?_
          case he => (have q0 := HGE.out; go_simp; (first | done | rfl | omega))
          (try simp only [Act.put, sA, sB, sC])
          refine wpList_q (by rfl) (.bool false) ?he ?_
          case he => (first | rfl | (go_simp; (try with_reducible rfl)))
          (try simp only [Act.put, sA, sB, sC])
          refine wpList_no (by rfl) ?_
          (try simp only [Act.put, sA, sB, sC])
          refine wpList_no (by rfl) ?_
          (try simp only [Act.put, sA, sB, sC])
          refine wpList_q (by rfl) (.bool false) ?he ?_
          case he => (first | rfl | (go_simp; (try with_reducible rfl)))
          (try simp only [Act.put, sA, sB, sC])
          refine wpList_nil ?_
          go_upto_region 20 with fail
          refine wp_region_lit ?_
          refine wpList_wp (by rfl) (fun K hK => ?_)
          (try go_simp)
          refine (ans _).mono ?_
          rintro e w105 ⟨rfl, hb⟩
          (try go_wp2_with fail)
          refine hK.out _ _ ?_
          clear hK K
          (try simp only [Act.put, sA, sB, sC])
          have HS105 := Lib.hid (Since.trans HS104.out hb)
          have HBA105 := Lib.hid (keep_blk hb HBA104.out)
          have HFq105 := Lib.hid (QO.keep hb HFq104.out)
          clear HS104 HBA104 HFq104
          clear hb
          refine wpList_q (by rfl) (.bool true) ?he ?_
          case he => (first | rfl | (go_simp; (try with_reducible rfl)))
          (try simp only [Act.put, sA, sB, sC])
          refine wpList_nil ?_
          (try go_wp2_with fail)
          go_ret
          exact ⟨rfl, HS105.out⟩
        · have HLT := Lib.hid hcs; clear hcs
          by_cases hcs : k < 60
          rotate_left
          · have HLM := Lib.hid hcs; clear hcs
            go_upto_region 11 with fail
            refine wp_region_lit ?_
            refine wpList_q (by rfl) (.int .i64 (k : Int)) ?he ?_
            case he => (first | rfl | (go_simp; (try with_reducible rfl)))
            (try simp only [Act.put, sA, sB, sC])
            refine wpList_q (by rfl) (.slice Aa an ac) ?he ?_
            case he => (first | rfl | (go_simp; (try with_reducible rfl)))
            (try simp only [Act.put, sA, sB, sC])
            refine wpList_q (by rfl) (.int .i64 (an : Int)) ?he ?_
            case he => (first | rfl | (go_simp; (try with_reducible rfl)))
            (try simp only [Act.put, sA, sB, sC])
            refine wpList_q (by rfl) (.bool true) ?he ?_
            case he => (have q0 := HLT.out; go_simp; (first | done | rfl | omega))
            (try simp only [Act.put, sA, sB, sC])
            refine wpList_q (by rfl) (.bool true) ?he ?_
            case he => (first | rfl | (go_simp; (try with_reducible rfl)))
            (try simp only [Act.put, sA, sB, sC])
            refine wpList_q (by rfl) (.int .i64 (k : Int)) ?he ?_
            case he => (first | rfl | (go_simp; (try with_reducible rfl)))
            (try simp only [Act.put, sA, sB, sC])
            refine wpList_q (by rfl) (.bool false) ?he ?_
            case he => (have q0 := HLM.out; go_simp; (first | done | rfl | omega))
            (try simp only [Act.put, sA, sB, sC])
            refine wpList_q (by rfl) (.bool false) ?he ?_
            case he => (first | rfl | (go_simp; (try with_reducible rfl)))
            (try simp only [Act.put, sA, sB, sC])
            refine wpList_nil ?_
            go_upto_region 20 with fail
            refine wp_region_lit ?_
            refine wpList_wp (by rfl) (fun K hK => ?_)
            (try go_simp)
            refine (ans _).mono ?_
            rintro e w105 ⟨rfl, hb⟩
            (try go_wp2_with fail)
            refine hK.out _ _ ?_
            clear hK K
            (try simp only [Act.put, sA, sB, sC])
            have HS105 := Lib.hid (Since.trans HS104.out hb)
            have HBA105 := Lib.hid (keep_blk hb HBA104.out)
            have HFq105 := Lib.hid (QO.keep hb HFq104.out)
            clear HS104 HBA104 HFq104
            clear hb
            refine wpList_q (by rfl) (.bool true) ?he ?_
            case he => (first | rfl | (go_simp; (try with_reducible rfl)))
            (try simp only [Act.put, sA, sB, sC])
            refine wpList_nil ?_
            (try go_wp2_with fail)
            go_ret
            exact ⟨rfl, HS105.out⟩
          · have HLM := Lib.hid hcs; clear hcs
            go_upto_region 11 with fail
            refine wp_region_lit ?_
            refine wpList_q (by rfl) (.int .i64 (k : Int)) ?he ?_
            case he => (first | rfl | (go_simp; (try with_reducible rfl)))
            (try simp only [Act.put, sA, sB, sC])
            refine wpList_q (by rfl) (.slice Aa an ac) ?he ?_
            case he => (first | rfl | (go_simp; (try with_reducible rfl)))
            (try simp only [Act.put, sA, sB, sC])
            refine wpList_q (by rfl) (.int .i64 (an : Int)) ?he ?_
            case he => (first | rfl | (go_simp; (try with_reducible rfl)))
            (try simp only [Act.put, sA, sB, sC])
            refine wpList_q (by rfl) (.bool true) ?he ?_
            case he => (have q0 := HLT.out; go_simp; (first | done | rfl | omega))
            (try simp only [Act.put, sA, sB, sC])
            refine wpList_q (by rfl) (.bool true) ?he ?_
            case he => (first | rfl | (go_simp; (try with_reducible rfl)))
            (try simp only [Act.put, sA, sB, sC])
            refine wpList_q (by rfl) (.int .i64 (k : Int)) ?he ?_
            case he => (first | rfl | (go_simp; (try with_reducible rfl)))
            (try simp only [Act.put, sA, sB, sC])
            refine wpList_q (by rfl) (.bool true) ?he ?_
            case he => (have q0 := HLM.out; go_simp; (first | done | rfl | omega))
            (try simp only [Act.put, sA, sB, sC])
            refine wpList_q (by rfl) (.bool true) ?he ?_
            case he => (first | rfl | (go_simp; (try with_reducible rfl)))
            (try simp only [Act.put, sA, sB, sC])
            refine wpList_nil ?_
            obtain ⟨ga, offa, hAa, hba, hca⟩ := Al.Asks.at_ HA.out HLT.out
            have hcea := hca k HLT.out
            clear hca hba
            subst hAa
            have HCEa := Lib.hid hcea; clear hcea
            go_upto_region 13 with fail
            refine wp_region_lit ?_
            refine wpList_q (by rfl) (.pointer (some ⟨q1, 0, none⟩)) ?he ?_
            case he => (first | rfl | (go_simp; (try with_reducible rfl)))
            (try simp only [Act.put, sA, sB, sC])
            refine wpList_q (by rfl) (.slice (some ⟨ga, offa, none⟩) an ac) ?he ?_
            case he => (first | rfl | (go_simp; (try with_reducible rfl)))
            (try simp only [Act.put, sA, sB, sC])
            refine wpList_q (by rfl) (.int .i64 (k : Int)) ?he ?_
            case he => (first | rfl | (go_simp; (try with_reducible rfl)))
            (try simp only [Act.put, sA, sB, sC])
            refine wpList_q (by rfl) (.pointer (some ⟨ga, (offa + k * 5), none⟩)) ?he ?_
            case he => exact exec_index (i := k) 35 30 _ _ rfl rfl rfl rfl HLT.out Try.underlying35 (by kernel_rfl)
            (try simp only [Act.put, sA, sB, sC])
            refine wpList_q (by rfl) (.agg #[.int .i64 ((af k).se), .int .i64 ((af k).fl), .int .i64 ((af k).fm), .int .i64 ((af k).to), .int .i64 ((af k).ma)]) ?he ?_
            case he => exact exec_rng (l := askC (af k)) 30 _ _ (fun j v hj => keep_cell HS104.out (HCEa.out j v hj)) rfl rfl Try.underlying30 rfl (by kernel_rfl)
            (try simp only [Act.put, sA, sB, sC])
            refine wpList_wp (by rfl) (fun K hK => ?_)
            (try go_simp)
            refine (putV w.heap.size q1 (btw 64 0 64) ms Sm (af k) _ HFq104.out (by have q1 := HLEN.out; omega) (putE (btw 64 0 64) ms (af k)) (putL (btw 64 0 64) ms (af k)) rfl rfl).mono ?_
            rintro e w105 ⟨Sq_2, rfl, hobj, hupd, hfar⟩
            (try go_wp2_with fail)
            refine hK.out _ _ ?_
            clear hK K
            (try simp only [Act.put, sA, sB, sC])
            have HS105 := Lib.hid (Since.upd HS104.out hupd (QO.low HFq104.out))
            have HBA105 := Lib.hid (Upd.blk hupd HBA104.out HIA2.out)
            have HIA_q_105 := Lib.hid (nin_next hfar HIA2.out (Blk.lt HBA104.out))
            have HFq105 := Lib.hid hobj
            clear hupd hobj hfar HS104 HBA104 HFq104
            refine wpList_nil ?_
            have HAT1 := Lib.hid (at_put (room := btw 64 0 64) (x := af k) HAT.out)
            have HLEN1 := Lib.hid (len_put64 (af k) HLEN.out)
            clear HAT HLEN
            by_cases hcs : k < dn
            rotate_left
            · have HDL2 := Lib.hid hcs; clear hcs
              go_upto_region 14 with fail
              have hrK : ∀ W W' : World, Since W W' → (Since w W ∧ Blk W w.heap.size 30 #[.int .i64 a.se, .int .i64 a.fl, .int .i64 a.fm, .int .i64 a.to, .int .i64 a.ma] ∧ QO w.heap.size q1 (btw 64 0 64) (putL (btw 64 0 64) ms (af k)) Sq_2 W) → (Since w W' ∧ Blk W' w.heap.size 30 #[.int .i64 a.se, .int .i64 a.fl, .int .i64 a.fm, .int .i64 a.to, .int .i64 a.ma] ∧ QO w.heap.size q1 (btw 64 0 64) (putL (btw 64 0 64) ms (af k)) Sq_2 W') := fun W W' k ⟨h, h0, h1⟩ => ⟨h.trans k, keep_blk k h0, QO.keep k h1⟩
              have hrS : (fun W : World => Since w W ∧ Blk W w.heap.size 30 #[.int .i64 a.se, .int .i64 a.fl, .int .i64 a.fm, .int .i64 a.to, .int .i64 a.ma] ∧ QO w.heap.size q1 (btw 64 0 64) (putL (btw 64 0 64) ms (af k)) Sq_2 W) w105 := ⟨HS105.out, HBA105.out, HFq105.out⟩
              have HRK := Lib.hid hrK
              have HRD := Lib.hid (show (fun W : World => Since w W ∧ Blk W w.heap.size 30 #[.int .i64 a.se, .int .i64 a.fl, .int .i64 a.fm, .int .i64 a.to, .int .i64 a.ma] ∧ QO w.heap.size q1 (btw 64 0 64) (putL (btw 64 0 64) ms (af k)) Sq_2 W) (World.drew w105) from ⟨Since.drew hrS.1, hrS.2⟩)
              clear hrK hrS
              refine wp_region_held_drew (S := fun W : World => Since w W ∧ Blk W w.heap.size 30 #[.int .i64 a.se, .int .i64 a.fl, .int .i64 a.fm, .int .i64 a.to, .int .i64 a.ma] ∧ QO w.heap.size q1 (btw 64 0 64) (putL (btw 64 0 64) ms (af k)) Sq_2 W) (by kernel_rfl) HRD.out (fun hHeld => ?_)
              refine wpAnyH_take (i := 0) (oi := ?o14__0) (v := .int .i64 (k : Int)) ?h14__0 (by kernel_rfl) (by kernel_rfl) (by kernel_rfl) ?q14__0 ?y14__0 (by assumption) ?_
              case h14__0 => (first | (simp only [gA, gB, gC]; done) | (simp only [gA, gB, gC]; exact rfl))
              case q14__0 => exact fun _ _ _ h => h
              case y14__0 => (refine Or.inl ⟨rfl, ?_⟩; intro w hSw; (first | rfl | (go_simp; (try with_reducible rfl))))
              (try simp only [Act.put, sA, sB, sC])
              refine wpAnyH_take (i := 1) (oi := ?o14__1) (v := .slice Ad dn dc) ?h14__1 (by kernel_rfl) (by kernel_rfl) (by kernel_rfl) ?q14__1 ?y14__1 (by assumption) ?_
              case h14__1 => (first | (simp only [gA, gB, gC]; done) | (simp only [gA, gB, gC]; exact rfl))
              case q14__1 => exact fun _ _ _ h => h
              case y14__1 => (refine Or.inl ⟨rfl, ?_⟩; intro w hSw; (first | rfl | (go_simp; (try with_reducible rfl))))
              (try simp only [Act.put, sA, sB, sC])
              refine wpAnyH_take (i := 2) (oi := ?o14__2) (v := .int .i64 (dn : Int)) ?h14__2 (by kernel_rfl) (by kernel_rfl) (by kernel_rfl) ?q14__2 ?y14__2 (by assumption) ?_
              case h14__2 => (first | (simp only [gA, gB, gC]; done) | (simp only [gA, gB, gC]; exact rfl))
              case q14__2 => exact fun _ _ _ h => h
              case y14__2 => (refine Or.inl ⟨rfl, ?_⟩; intro w hSw; (first | rfl | (go_simp; (try with_reducible rfl))))
              (try simp only [Act.put, sA, sB, sC])
              refine wpAnyH_take (i := 3) (oi := ?o14__3) (v := .bool false) ?h14__3 (by kernel_rfl) (by kernel_rfl) (by kernel_rfl) ?q14__3 ?y14__3 (by assumption) ?_
              case h14__3 => (first | (simp only [gA, gB, gC]; done) | (simp only [gA, gB, gC]; exact rfl))
              case q14__3 => exact fun _ _ _ h => h
              case y14__3 => (refine Or.inl ⟨rfl, ?_⟩; intro w hSw; (have q0 := HDL2.out; go_simp; (first | done | rfl | omega)))
              (try simp only [Act.put, sA, sB, sC])
              refine wpAnyH_take (i := 4) (oi := ?o14__4) (v := .bool false) ?h14__4 (by kernel_rfl) (by kernel_rfl) (by kernel_rfl) ?q14__4 ?y14__4 (by assumption) ?_
              case h14__4 => (first | (simp only [gA, gB, gC]; done) | (simp only [gA, gB, gC]; exact rfl))
              case q14__4 => exact fun _ _ _ h => h
              case y14__4 => (refine Or.inl ⟨rfl, ?_⟩; intro w hSw; (first | rfl | (go_simp; (try with_reducible rfl))))
              (try simp only [Act.put, sA, sB, sC])
              refine wpAnyH_take (i := 5) (oi := ?o14__5) (v := undef) ?h14__5 (by kernel_rfl) (by kernel_rfl) (by kernel_rfl) ?q14__5 ?y14__5 (by assumption) ?_
              case h14__5 => (first | (simp only [gA, gB, gC]; done) | (simp only [gA, gB, gC]; exact rfl))
              case q14__5 => exact fun _ _ _ h => h
              case y14__5 => exact Or.inr ⟨rfl, rfl⟩
              (try simp only [Act.put, sA, sB, sC])
              refine wpAnyH_take (i := 6) (oi := ?o14__6) (v := undef) ?h14__6 (by kernel_rfl) (by kernel_rfl) (by kernel_rfl) ?q14__6 ?y14__6 (by assumption) ?_
              case h14__6 => (first | (simp only [gA, gB, gC]; done) | (simp only [gA, gB, gC]; exact rfl))
              case q14__6 => exact fun _ _ _ h => h
              case y14__6 => exact Or.inr ⟨rfl, rfl⟩
              (try simp only [Act.put, sA, sB, sC])
              refine wpAnyH_take (i := 7) (oi := ?o14__7) (v := undef) ?h14__7 (by kernel_rfl) (by kernel_rfl) (by kernel_rfl) ?q14__7 ?y14__7 (by assumption) ?_
              case h14__7 => (first | (simp only [gA, gB, gC]; done) | (simp only [gA, gB, gC]; exact rfl))
              case q14__7 => exact fun _ _ _ h => h
              case y14__7 => exact Or.inr ⟨rfl, rfl⟩
              (try simp only [Act.put, sA, sB, sC])
              refine wpAnyH_take (i := 8) (oi := ?o14__8) (v := undef) ?h14__8 (by kernel_rfl) (by kernel_rfl) (by kernel_rfl) ?q14__8 ?y14__8 (by assumption) ?_
              case h14__8 => (first | (simp only [gA, gB, gC]; done) | (simp only [gA, gB, gC]; exact rfl))
              case q14__8 => exact fun _ _ _ h => h
              case y14__8 => exact Or.inr ⟨rfl, rfl⟩
              (try simp only [Act.put, sA, sB, sC])
              refine wpAnyH_take (i := 9) (oi := ?o14__9) (v := undef) ?h14__9 (by kernel_rfl) (by kernel_rfl) (by kernel_rfl) ?q14__9 ?y14__9 (by assumption) ?_
              case h14__9 => (first | (simp only [gA, gB, gC]; done) | (simp only [gA, gB, gC]; exact rfl))
              case q14__9 => exact fun _ _ _ h => h
              case y14__9 => exact Or.inr ⟨rfl, rfl⟩
              (try simp only [Act.put, sA, sB, sC])
              refine wpAnyH_take (i := 10) (oi := ?o14__10) (v := undef) ?h14__10 (by kernel_rfl) (by kernel_rfl) (by kernel_rfl) ?q14__10 ?y14__10 (by assumption) ?_
              case h14__10 => (first | (simp only [gA, gB, gC]; done) | (simp only [gA, gB, gC]; exact rfl))
              case q14__10 => exact fun _ _ _ h => h
              case y14__10 => exact Or.inr ⟨rfl, rfl⟩
              (try simp only [Act.put, sA, sB, sC])
              refine wpAnyH_take (i := 11) (oi := ?o14__11) (v := undef) ?h14__11 (by kernel_rfl) (by kernel_rfl) (by kernel_rfl) ?q14__11 ?y14__11 (by assumption) ?_
              case h14__11 => (first | (simp only [gA, gB, gC]; done) | (simp only [gA, gB, gC]; exact rfl))
              case q14__11 => exact fun _ _ _ h => h
              case y14__11 => exact Or.inr ⟨rfl, rfl⟩
              (try simp only [Act.put, sA, sB, sC])
              refine wpAnyH_take (i := 12) (oi := ?o14__12) (v := .bool false) ?h14__12 (by kernel_rfl) (by kernel_rfl) (by kernel_rfl) ?q14__12 ?y14__12 (by assumption) ?_
              case h14__12 => (first | (simp only [gA, gB, gC]; done) | (simp only [gA, gB, gC]; exact rfl))
              case q14__12 => exact fun _ _ _ h => h
              case y14__12 => (refine Or.inl ⟨rfl, ?_⟩; intro w hSw; (first | rfl | (go_simp; (try with_reducible rfl))))
              (try simp only [Act.put, sA, sB, sC])
              refine wpAnyH_done (by kernel_rfl) ?_ _
              have HSd14 := Lib.hid hHeld.1
              have HBAd14 := Lib.hid (hHeld.2.1)
              have HFqd14 := Lib.hid (hHeld.2.2)
              clear hHeld HRK HRD HS105 HBA105 HFq105
              have HAT2 := Lib.hid HAT1.out; have HLEN2 := Lib.hid HLEN1.out; clear HAT1 HLEN1
              go_upto_region 16 with fail
              refine wp_region_lit ?_
              refine wpList_q (by rfl) (.pointer (some ⟨q1, 0, none⟩)) ?he ?_
              case he => (first | rfl | (go_simp; (try with_reducible rfl)))
              (try simp only [Act.put, sA, sB, sC])
              refine wpList_q (by rfl) (.pointer (some ⟨w.heap.size, 0, none⟩)) ?he ?_
              case he => (first | rfl | (go_simp; (try with_reducible rfl)))
              (try simp only [Act.put, sA, sB, sC])
              refine wpList_q (by rfl) (.int .i64 a.se) ?he ?_
              case he => exact exec_cell 3 _ _ HBAd14.out rfl rfl rfl Try.underlying3 rfl
              (try simp only [Act.put, sA, sB, sC])
              refine wpList_wp (by rfl) (fun K hK => ?_)
              (try go_simp)
              refine (aheadV w.heap.size q1 (btw 64 0 64) (putL (btw 64 0 64) ms (af k)) Sq_2 a.se _ HFqd14.out (by have q1 := HLEN2.out; omega) j HAT2.out).mono ?_
              rintro e w106 ⟨rfl, hb⟩
              (try go_wp2_with fail)
              refine hK.out _ _ ?_
              clear hK K
              (try simp only [Act.put, sA, sB, sC])
              have HS106 := Lib.hid (Since.trans HSd14.out hb)
              have HBA106 := Lib.hid (keep_blk hb HBAd14.out)
              have HFq106 := Lib.hid (QO.keep hb HFqd14.out)
              clear HSd14 HBAd14 HFqd14
              clear hb
              refine wpList_q (by rfl) (.tuple #[.int .i64 (j : Int), .bool true]) ?he ?_
              case he => (first | rfl | (go_simp; (try with_reducible rfl)))
              (try simp only [Act.put, sA, sB, sC])
              refine wpList_q (by rfl) (.int .i64 (j : Int)) ?he ?_
              case he => (first | rfl | (go_simp; (try with_reducible rfl)))
              (try simp only [Act.put, sA, sB, sC])
              refine wpList_q (by rfl) (.bool true) ?he ?_
              case he => (first | rfl | (go_simp; (try with_reducible rfl)))
              (try simp only [Act.put, sA, sB, sC])
              refine wpList_q (by rfl) (.int .i64 (j : Int)) ?he ?_
              case he => (first | rfl | (go_simp; (try with_reducible rfl)))
              (try simp only [Act.put, sA, sB, sC])
              refine wpList_q (by rfl) (.bool true) ?he ?_
              case he => (first | rfl | (go_simp; (try with_reducible rfl)))
              (try simp only [Act.put, sA, sB, sC])
              refine wpList_nil ?_
              go_upto_region 17 with fail
              refine wp_region_lit ?_
              refine wpList_q (by rfl) (.bool true) ?he ?_
              case he => (first | rfl | (go_simp; (try with_reducible rfl)))
              (try simp only [Act.put, sA, sB, sC])
              refine wpList_q (by rfl) (.bool false) ?he ?_
              case he => (go_simp; (try with_reducible rfl))
              (try simp only [Act.put, sA, sB, sC])
              refine wpList_q (by rfl) (.bool false) ?he ?_
              case he => (first | rfl | (go_simp; (try with_reducible rfl)))
              (try simp only [Act.put, sA, sB, sC])
              refine wpList_q (by rfl) (.int .i64 (j : Int)) ?he ?_
              case he => (first | rfl | (go_simp; (try with_reducible rfl)))
              (try simp only [Act.put, sA, sB, sC])
              refine wpList_q (by rfl) (.int .i64 n) ?he ?_
              case he => (first | rfl | (go_simp; (try with_reducible rfl)))
              (try simp only [Act.put, sA, sB, sC])
              refine wpList_q (by rfl) (.bool false) ?he ?_
              case he => (have q0 := HJN.out; have q1 := Nat.le_refl j; go_simp; (first | done | omega))
              (try simp only [Act.put, sA, sB, sC])
              refine wpList_q (by rfl) (.bool false) ?he ?_
              case he => (first | rfl | (go_simp; (try with_reducible rfl)))
              (try simp only [Act.put, sA, sB, sC])
              refine wpList_nil ?_
              go_upto_region 19 with fail
              refine wp_region_lit ?_
              refine wpList_q (by rfl) (.int .i64 (j : Int)) ?he ?_
              case he => (first | rfl | (go_simp; (try with_reducible rfl)))
              (try simp only [Act.put, sA, sB, sC])
              refine wpList_q (by rfl) (.int .i64 (j : Int)) ?he ?_
              case he => (first | rfl | (go_simp; (try with_reducible rfl)))
              (try simp only [Act.put, sA, sB, sC])
              refine wpList_nil ?_
              go_upto_region 12 with fail
              refine wp_region_lit ?_
              refine wpList_q (by rfl) (.int .i64 (k : Int)) ?he ?_
              case he => (first | rfl | (go_simp; (try with_reducible rfl)))
              (try simp only [Act.put, sA, sB, sC])
              refine wpList_q (by rfl) (.int .i64 ((k : Int) + 1)) ?he ?_
              case he => (go_simp; (first | done | (refine wr64 _ ?_ ?_ <;> (have q0 := HLM.out; omega)) | (have q0 := HLM.out; omega) | (have q0 := HLM.out; split <;> omega) | (have q0 := HLM.out; intro hh; omega)))
              (try simp only [Act.put, sA, sB, sC])
              refine wpList_q (by rfl) (.int .i64 ((k : Int) + 1)) ?he ?_
              case he => (first | rfl | (go_simp; (try with_reducible rfl)))
              (try simp only [Act.put, sA, sB, sC])
              refine wpList_nil ?_
              go_wp2_with fail
              go_roundw
              case rel => exact ⟨k + 1, j, (j : Int), (putL (btw 64 0 64) ms (af k)), Sq_2, by have := HLM.out; omega, by have := HLT.out; omega, rfl, by go_num, Lib.hid ⟨HLEN2.out, HAT2.out, Int.le_refl _, HIA_q_105.out, HS106.out, HBA106.out, HFq106.out⟩⟩
              case measure => have := HLT.out; simp [intOf]; omega
            · have HDL2 := Lib.hid hcs; clear hcs
              obtain ⟨gd, offd, hAd, hcd⟩ := IV.at_ HD.out HDL2.out
              have hced := hcd k HDL2.out; clear hcd
              subst hAd
              have HCED := Lib.hid hced; clear hced
              by_cases hcs : zs.getD k 0 = a.se
              rotate_left
              · have HDS := Lib.hid hcs; clear hcs
                go_upto_region 14 with fail
                have hrK : ∀ W W' : World, Since W W' → (Since w W ∧ Blk W w.heap.size 30 #[.int .i64 a.se, .int .i64 a.fl, .int .i64 a.fm, .int .i64 a.to, .int .i64 a.ma] ∧ QO w.heap.size q1 (btw 64 0 64) (putL (btw 64 0 64) ms (af k)) Sq_2 W) → (Since w W' ∧ Blk W' w.heap.size 30 #[.int .i64 a.se, .int .i64 a.fl, .int .i64 a.fm, .int .i64 a.to, .int .i64 a.ma] ∧ QO w.heap.size q1 (btw 64 0 64) (putL (btw 64 0 64) ms (af k)) Sq_2 W') := fun W W' k ⟨h, h0, h1⟩ => ⟨h.trans k, keep_blk k h0, QO.keep k h1⟩
                have hrS : (fun W : World => Since w W ∧ Blk W w.heap.size 30 #[.int .i64 a.se, .int .i64 a.fl, .int .i64 a.fm, .int .i64 a.to, .int .i64 a.ma] ∧ QO w.heap.size q1 (btw 64 0 64) (putL (btw 64 0 64) ms (af k)) Sq_2 W) w105 := ⟨HS105.out, HBA105.out, HFq105.out⟩
                have HRK := Lib.hid hrK
                have HRD := Lib.hid (show (fun W : World => Since w W ∧ Blk W w.heap.size 30 #[.int .i64 a.se, .int .i64 a.fl, .int .i64 a.fm, .int .i64 a.to, .int .i64 a.ma] ∧ QO w.heap.size q1 (btw 64 0 64) (putL (btw 64 0 64) ms (af k)) Sq_2 W) (World.drew w105) from ⟨Since.drew hrS.1, hrS.2⟩)
                clear hrK hrS
                refine wp_region_held_drew (S := fun W : World => Since w W ∧ Blk W w.heap.size 30 #[.int .i64 a.se, .int .i64 a.fl, .int .i64 a.fm, .int .i64 a.to, .int .i64 a.ma] ∧ QO w.heap.size q1 (btw 64 0 64) (putL (btw 64 0 64) ms (af k)) Sq_2 W) (by kernel_rfl) HRD.out (fun hHeld => ?_)
                refine wpAnyH_take (i := 0) (oi := ?o14__0) (v := .int .i64 (k : Int)) ?h14__0 (by kernel_rfl) (by kernel_rfl) (by kernel_rfl) ?q14__0 ?y14__0 (by assumption) ?_
                case h14__0 => (first | (simp only [gA, gB, gC]; done) | (simp only [gA, gB, gC]; exact rfl))
                case q14__0 => exact fun _ _ _ h => h
                case y14__0 => (refine Or.inl ⟨rfl, ?_⟩; intro w hSw; (first | rfl | (go_simp; (try with_reducible rfl))))
                (try simp only [Act.put, sA, sB, sC])
                refine wpAnyH_take (i := 1) (oi := ?o14__1) (v := .slice (some ⟨gd, offd, none⟩) dn dc) ?h14__1 (by kernel_rfl) (by kernel_rfl) (by kernel_rfl) ?q14__1 ?y14__1 (by assumption) ?_
                case h14__1 => (first | (simp only [gA, gB, gC]; done) | (simp only [gA, gB, gC]; exact rfl))
                case q14__1 => exact fun _ _ _ h => h
                case y14__1 => (refine Or.inl ⟨rfl, ?_⟩; intro w hSw; (first | rfl | (go_simp; (try with_reducible rfl))))
                (try simp only [Act.put, sA, sB, sC])
                refine wpAnyH_take (i := 2) (oi := ?o14__2) (v := .int .i64 (dn : Int)) ?h14__2 (by kernel_rfl) (by kernel_rfl) (by kernel_rfl) ?q14__2 ?y14__2 (by assumption) ?_
                case h14__2 => (first | (simp only [gA, gB, gC]; done) | (simp only [gA, gB, gC]; exact rfl))
                case q14__2 => exact fun _ _ _ h => h
                case y14__2 => (refine Or.inl ⟨rfl, ?_⟩; intro w hSw; (first | rfl | (go_simp; (try with_reducible rfl))))
                (try simp only [Act.put, sA, sB, sC])
                refine wpAnyH_take (i := 3) (oi := ?o14__3) (v := .bool true) ?h14__3 (by kernel_rfl) (by kernel_rfl) (by kernel_rfl) ?q14__3 ?y14__3 (by assumption) ?_
                case h14__3 => (first | (simp only [gA, gB, gC]; done) | (simp only [gA, gB, gC]; exact rfl))
                case q14__3 => exact fun _ _ _ h => h
                case y14__3 => (refine Or.inl ⟨rfl, ?_⟩; intro w hSw; (have q0 := HDL2.out; go_simp; (first | done | rfl | omega)))
                (try simp only [Act.put, sA, sB, sC])
                refine wpAnyH_take (i := 4) (oi := ?o14__4) (v := .bool true) ?h14__4 (by kernel_rfl) (by kernel_rfl) (by kernel_rfl) ?q14__4 ?y14__4 (by assumption) ?_
                case h14__4 => (first | (simp only [gA, gB, gC]; done) | (simp only [gA, gB, gC]; exact rfl))
                case q14__4 => exact fun _ _ _ h => h
                case y14__4 => (refine Or.inl ⟨rfl, ?_⟩; intro w hSw; (first | rfl | (go_simp; (try with_reducible rfl))))
                (try simp only [Act.put, sA, sB, sC])
                refine wpAnyH_take (i := 5) (oi := ?o14__5) (v := .slice (some ⟨gd, offd, none⟩) dn dc) ?h14__5 (by kernel_rfl) (by kernel_rfl) (by kernel_rfl) ?q14__5 ?y14__5 (by assumption) ?_
                case h14__5 => (first | (simp only [gA, gB, gC]; done) | (simp only [gA, gB, gC]; exact rfl))
                case q14__5 => exact fun _ _ _ h => h
                case y14__5 => (refine Or.inl ⟨rfl, ?_⟩; intro w hSw; (first | rfl | (go_simp; (try with_reducible rfl))))
                (try simp only [Act.put, sA, sB, sC])
                refine wpAnyH_take (i := 6) (oi := ?o14__6) (v := .int .i64 (k : Int)) ?h14__6 (by kernel_rfl) (by kernel_rfl) (by kernel_rfl) ?q14__6 ?y14__6 (by assumption) ?_
                case h14__6 => (first | (simp only [gA, gB, gC]; done) | (simp only [gA, gB, gC]; exact rfl))
                case q14__6 => exact fun _ _ _ h => h
                case y14__6 => (refine Or.inl ⟨rfl, ?_⟩; intro w hSw; (first | rfl | (go_simp; (try with_reducible rfl))))
                (try simp only [Act.put, sA, sB, sC])
                refine wpAnyH_take (i := 7) (oi := ?o14__7) (v := .pointer (some ⟨gd, (offd + k * 1), none⟩)) ?h14__7 (by kernel_rfl) (by kernel_rfl) (by kernel_rfl) ?q14__7 ?y14__7 (by assumption) ?_
                case h14__7 => (first | (simp only [gA, gB, gC]; done) | (simp only [gA, gB, gC]; exact rfl))
                case q14__7 => exact fun _ _ _ h => h
                case y14__7 => (refine Or.inl ⟨rfl, ?_⟩; intro w hSw; exact exec_index (i := k) 36 3 _ _ rfl rfl rfl rfl HDL2.out Try.underlying36 (by kernel_rfl))
                (try simp only [Act.put, sA, sB, sC])
                refine wpAnyH_take (i := 8) (oi := ?o14__8) (v := .int .i64 (zs.getD k 0)) ?h14__8 (by kernel_rfl) (by kernel_rfl) (by kernel_rfl) ?q14__8 ?y14__8 (by assumption) ?_
                case h14__8 => (first | (simp only [gA, gB, gC]; done) | (simp only [gA, gB, gC]; exact rfl))
                case q14__8 => exact fun _ _ _ h => h
                case y14__8 => (refine Or.inl ⟨rfl, ?_⟩; intro w hSw; exact exec_at 3 _ _ (by rw [Nat.mul_one]; exact keep_cell hSw.1 HCED.out) rfl rfl Try.underlying3 rfl)
                (try simp only [Act.put, sA, sB, sC])
                refine wpAnyH_take (i := 9) (oi := ?o14__9) (v := .pointer (some ⟨w.heap.size, 0, none⟩)) ?h14__9 (by kernel_rfl) (by kernel_rfl) (by kernel_rfl) ?q14__9 ?y14__9 (by assumption) ?_
                case h14__9 => (first | (simp only [gA, gB, gC]; done) | (simp only [gA, gB, gC]; exact rfl))
                case q14__9 => exact fun _ _ _ h => h
                case y14__9 => (refine Or.inl ⟨rfl, ?_⟩; intro w hSw; (first | rfl | (go_simp; (try with_reducible rfl))))
                (try simp only [Act.put, sA, sB, sC])
                refine wpAnyH_take (i := 10) (oi := ?o14__10) (v := .int .i64 a.se) ?h14__10 (by kernel_rfl) (by kernel_rfl) (by kernel_rfl) ?q14__10 ?y14__10 (by assumption) ?_
                case h14__10 => (first | (simp only [gA, gB, gC]; done) | (simp only [gA, gB, gC]; exact rfl))
                case q14__10 => exact fun _ _ _ h => h
                case y14__10 => (refine Or.inl ⟨rfl, ?_⟩; intro w hSw; exact exec_cell 3 _ _ hSw.2.1 rfl rfl rfl Try.underlying3 rfl)
                (try simp only [Act.put, sA, sB, sC])
                refine wpAnyH_take (i := 11) (oi := ?o14__11) (v := .bool true) ?h14__11 (by kernel_rfl) (by kernel_rfl) (by kernel_rfl) ?q14__11 ?y14__11 (by assumption) ?_
                case h14__11 => (first | (simp only [gA, gB, gC]; done) | (simp only [gA, gB, gC]; exact rfl))
                case q14__11 => exact fun _ _ _ h => h
                case y14__11 => (refine Or.inl ⟨rfl, ?_⟩; intro w hSw; (have q := HDS.out; go_simp; (first | done | exact q | (simp [q]; done))))
                (try simp only [Act.put, sA, sB, sC])
                refine wpAnyH_take (i := 12) (oi := ?o14__12) (v := .bool true) ?h14__12 (by kernel_rfl) (by kernel_rfl) (by kernel_rfl) ?q14__12 ?y14__12 (by assumption) ?_
                case h14__12 => (first | (simp only [gA, gB, gC]; done) | (simp only [gA, gB, gC]; exact rfl))
                case q14__12 => exact fun _ _ _ h => h
                case y14__12 => (refine Or.inl ⟨rfl, ?_⟩; intro w hSw; (first | rfl | (go_simp; (try with_reducible rfl))))
                (try simp only [Act.put, sA, sB, sC])
                refine wpAnyH_done (by kernel_rfl) ?_ _
                have HSd14v2 := Lib.hid hHeld.1
                have HBAd14v2 := Lib.hid (hHeld.2.1)
                have HFqd14v2 := Lib.hid (hHeld.2.2)
                clear hHeld HRK HRD HS105 HBA105 HFq105
                go_upto_region 15 with fail
                refine wp_region_lit ?_
                refine wpList_q (by rfl) (.pointer (some ⟨q1, 0, none⟩)) ?he ?_
                case he => (first | rfl | (go_simp; (try with_reducible rfl)))
                (try simp only [Act.put, sA, sB, sC])
                refine wpList_q (by rfl) (.slice (some ⟨gd, offd, none⟩) dn dc) ?he ?_
                case he => (first | rfl | (go_simp; (try with_reducible rfl)))
                (try simp only [Act.put, sA, sB, sC])
                refine wpList_q (by rfl) (.int .i64 (k : Int)) ?he ?_
                case he => (first | rfl | (go_simp; (try with_reducible rfl)))
                (try simp only [Act.put, sA, sB, sC])
                refine wpList_q (by rfl) (.pointer (some ⟨gd, (offd + k * 1), none⟩)) ?he ?_
                case he => exact exec_index (i := k) 36 3 _ _ rfl rfl rfl rfl HDL2.out Try.underlying36 (by kernel_rfl)
                (try simp only [Act.put, sA, sB, sC])
                refine wpList_q (by rfl) (.int .i64 (zs.getD k 0)) ?he ?_
                case he => exact exec_at 3 _ _ (by rw [Nat.mul_one]; exact keep_cell HSd14v2.out HCED.out) rfl rfl Try.underlying3 rfl
                (try simp only [Act.put, sA, sB, sC])
                refine wpList_wp (by rfl) (fun K hK => ?_)
                (try go_simp)
                refine (dropV w.heap.size q1 (btw 64 0 64) (putL (btw 64 0 64) ms (af k)) Sq_2 (zs.getD k 0) _ HFqd14v2.out (by have q1 := HLEN1.out; omega) (atS (putL (btw 64 0 64) ms (af k)) (zs.getD k 0)).isSome (dropL (putL (btw 64 0 64) ms (af k)) (zs.getD k 0)) rfl rfl).mono ?_
                rintro e w106 ⟨Sq_3, rfl, hobj, hupd, hfar⟩
                (try go_wp2_with fail)
                refine hK.out _ _ ?_
                clear hK K
                (try simp only [Act.put, sA, sB, sC])
                have HS106 := Lib.hid (Since.upd HSd14v2.out hupd (QO.low HFqd14v2.out))
                have HBA106 := Lib.hid (Upd.blk hupd HBAd14v2.out HIA_q_105.out)
                have HIA_q_106 := Lib.hid (nin_next hfar HIA_q_105.out (Blk.lt HBAd14v2.out))
                have HFq106 := Lib.hid hobj
                clear hupd hobj hfar HSd14v2 HBAd14v2 HFqd14v2
                refine wpList_nil ?_
                obtain ⟨j', hj', hat'⟩ := at_drop HAT1.out HDS.out
                have HJ := Lib.hid hj'; have HAT2 := Lib.hid hat'; clear hj' hat'
                have HLEN2 := Lib.hid (Nat.le_trans (len_drop (putL (btw 64 0 64) ms (af k)) (zs.getD k 0)) HLEN1.out); clear HAT1 HLEN1
                go_upto_region 16 with fail
                refine wp_region_lit ?_
                refine wpList_q (by rfl) (.pointer (some ⟨q1, 0, none⟩)) ?he ?_
                case he => (first | rfl | (go_simp; (try with_reducible rfl)))
                (try simp only [Act.put, sA, sB, sC])
                refine wpList_q (by rfl) (.pointer (some ⟨w.heap.size, 0, none⟩)) ?he ?_
                case he => (first | rfl | (go_simp; (try with_reducible rfl)))
                (try simp only [Act.put, sA, sB, sC])
                refine wpList_q (by rfl) (.int .i64 a.se) ?he ?_
                case he => exact exec_cell 3 _ _ HBA106.out rfl rfl rfl Try.underlying3 rfl
                (try simp only [Act.put, sA, sB, sC])
                refine wpList_wp (by rfl) (fun K hK => ?_)
                (try go_simp)
                refine (aheadV w.heap.size q1 (btw 64 0 64) (dropL (putL (btw 64 0 64) ms (af k)) (zs.getD k 0)) Sq_3 a.se _ HFq106.out (by have q1 := HLEN2.out; omega) j' HAT2.out).mono ?_
                rintro e w107 ⟨rfl, hb⟩
                (try go_wp2_with fail)
                refine hK.out _ _ ?_
                clear hK K
                (try simp only [Act.put, sA, sB, sC])
                have HS107 := Lib.hid (Since.trans HS106.out hb)
                have HBA107 := Lib.hid (keep_blk hb HBA106.out)
                have HFq107 := Lib.hid (QO.keep hb HFq106.out)
                clear HS106 HBA106 HFq106
                clear hb
                refine wpList_q (by rfl) (.tuple #[.int .i64 (j' : Int), .bool true]) ?he ?_
                case he => (first | rfl | (go_simp; (try with_reducible rfl)))
                (try simp only [Act.put, sA, sB, sC])
                refine wpList_q (by rfl) (.int .i64 (j' : Int)) ?he ?_
                case he => (first | rfl | (go_simp; (try with_reducible rfl)))
                (try simp only [Act.put, sA, sB, sC])
                refine wpList_q (by rfl) (.bool true) ?he ?_
                case he => (first | rfl | (go_simp; (try with_reducible rfl)))
                (try simp only [Act.put, sA, sB, sC])
                refine wpList_q (by rfl) (.int .i64 (j' : Int)) ?he ?_
                case he => (first | rfl | (go_simp; (try with_reducible rfl)))
                (try simp only [Act.put, sA, sB, sC])
                refine wpList_q (by rfl) (.bool true) ?he ?_
                case he => (first | rfl | (go_simp; (try with_reducible rfl)))
                (try simp only [Act.put, sA, sB, sC])
                refine wpList_nil ?_
                go_upto_region 17 with fail
                refine wp_region_lit ?_
                refine wpList_q (by rfl) (.bool true) ?he ?_
                case he => (first | rfl | (go_simp; (try with_reducible rfl)))
                (try simp only [Act.put, sA, sB, sC])
                refine wpList_q (by rfl) (.bool false) ?he ?_
                case he => (go_simp; (try with_reducible rfl))
                (try simp only [Act.put, sA, sB, sC])
                refine wpList_q (by rfl) (.bool false) ?he ?_
                case he => (first | rfl | (go_simp; (try with_reducible rfl)))
                (try simp only [Act.put, sA, sB, sC])
                refine wpList_q (by rfl) (.int .i64 (j' : Int)) ?he ?_
                case he => (first | rfl | (go_simp; (try with_reducible rfl)))
                (try simp only [Act.put, sA, sB, sC])
                refine wpList_q (by rfl) (.int .i64 n) ?he ?_
                case he => (first | rfl | (go_simp; (try with_reducible rfl)))
                (try simp only [Act.put, sA, sB, sC])
                refine wpList_q (by rfl) (.bool false) ?he ?_
                case he => (have q0 := HJN.out; have q1 := HJ.out; go_simp; (first | done | omega))
                (try simp only [Act.put, sA, sB, sC])
                refine wpList_q (by rfl) (.bool false) ?he ?_
                case he => (first | rfl | (go_simp; (try with_reducible rfl)))
                (try simp only [Act.put, sA, sB, sC])
                refine wpList_nil ?_
                go_upto_region 19 with fail
                refine wp_region_lit ?_
                refine wpList_q (by rfl) (.int .i64 (j' : Int)) ?he ?_
                case he => (first | rfl | (go_simp; (try with_reducible rfl)))
                (try simp only [Act.put, sA, sB, sC])
                refine wpList_q (by rfl) (.int .i64 (j' : Int)) ?he ?_
                case he => (first | rfl | (go_simp; (try with_reducible rfl)))
                (try simp only [Act.put, sA, sB, sC])
                refine wpList_nil ?_
                go_upto_region 12 with fail
                refine wp_region_lit ?_
                refine wpList_q (by rfl) (.int .i64 (k : Int)) ?he ?_
                case he => (first | rfl | (go_simp; (try with_reducible rfl)))
                (try simp only [Act.put, sA, sB, sC])
                refine wpList_q (by rfl) (.int .i64 ((k : Int) + 1)) ?he ?_
                case he => (go_simp; (first | done | (refine wr64 _ ?_ ?_ <;> (have q0 := HLM.out; omega)) | (have q0 := HLM.out; omega) | (have q0 := HLM.out; split <;> omega) | (have q0 := HLM.out; intro hh; omega)))
                (try simp only [Act.put, sA, sB, sC])
                refine wpList_q (by rfl) (.int .i64 ((k : Int) + 1)) ?he ?_
                case he => (first | rfl | (go_simp; (try with_reducible rfl)))
                (try simp only [Act.put, sA, sB, sC])
                refine wpList_nil ?_
                go_wp2_with fail
                go_roundw
                case rel => exact ⟨k + 1, j', (j' : Int), (dropL (putL (btw 64 0 64) ms (af k)) (zs.getD k 0)), Sq_3, by have := HLM.out; omega, by have := HLT.out; omega, rfl, by go_num, Lib.hid ⟨HLEN2.out, HAT2.out, Int.le_refl _, HIA_q_106.out, HS107.out, HBA107.out, HFq107.out⟩⟩
                case measure => have := HLT.out; simp [intOf]; omega
              · have HDS := Lib.hid hcs; clear hcs
                go_upto_region 14 with fail
                have hrK : ∀ W W' : World, Since W W' → (Since w W ∧ Blk W w.heap.size 30 #[.int .i64 a.se, .int .i64 a.fl, .int .i64 a.fm, .int .i64 a.to, .int .i64 a.ma] ∧ QO w.heap.size q1 (btw 64 0 64) (putL (btw 64 0 64) ms (af k)) Sq_2 W) → (Since w W' ∧ Blk W' w.heap.size 30 #[.int .i64 a.se, .int .i64 a.fl, .int .i64 a.fm, .int .i64 a.to, .int .i64 a.ma] ∧ QO w.heap.size q1 (btw 64 0 64) (putL (btw 64 0 64) ms (af k)) Sq_2 W') := fun W W' k ⟨h, h0, h1⟩ => ⟨h.trans k, keep_blk k h0, QO.keep k h1⟩
                have hrS : (fun W : World => Since w W ∧ Blk W w.heap.size 30 #[.int .i64 a.se, .int .i64 a.fl, .int .i64 a.fm, .int .i64 a.to, .int .i64 a.ma] ∧ QO w.heap.size q1 (btw 64 0 64) (putL (btw 64 0 64) ms (af k)) Sq_2 W) w105 := ⟨HS105.out, HBA105.out, HFq105.out⟩
                have HRK := Lib.hid hrK
                have HRD := Lib.hid (show (fun W : World => Since w W ∧ Blk W w.heap.size 30 #[.int .i64 a.se, .int .i64 a.fl, .int .i64 a.fm, .int .i64 a.to, .int .i64 a.ma] ∧ QO w.heap.size q1 (btw 64 0 64) (putL (btw 64 0 64) ms (af k)) Sq_2 W) (World.drew w105) from ⟨Since.drew hrS.1, hrS.2⟩)
                clear hrK hrS
                refine wp_region_held_drew (S := fun W : World => Since w W ∧ Blk W w.heap.size 30 #[.int .i64 a.se, .int .i64 a.fl, .int .i64 a.fm, .int .i64 a.to, .int .i64 a.ma] ∧ QO w.heap.size q1 (btw 64 0 64) (putL (btw 64 0 64) ms (af k)) Sq_2 W) (by kernel_rfl) HRD.out (fun hHeld => ?_)
                refine wpAnyH_take (i := 0) (oi := ?o14__0) (v := .int .i64 (k : Int)) ?h14__0 (by kernel_rfl) (by kernel_rfl) (by kernel_rfl) ?q14__0 ?y14__0 (by assumption) ?_
                case h14__0 => (first | (simp only [gA, gB, gC]; done) | (simp only [gA, gB, gC]; exact rfl))
                case q14__0 => exact fun _ _ _ h => h
                case y14__0 => (refine Or.inl ⟨rfl, ?_⟩; intro w hSw; (first | rfl | (go_simp; (try with_reducible rfl))))
                (try simp only [Act.put, sA, sB, sC])
                refine wpAnyH_take (i := 1) (oi := ?o14__1) (v := .slice (some ⟨gd, offd, none⟩) dn dc) ?h14__1 (by kernel_rfl) (by kernel_rfl) (by kernel_rfl) ?q14__1 ?y14__1 (by assumption) ?_
                case h14__1 => (first | (simp only [gA, gB, gC]; done) | (simp only [gA, gB, gC]; exact rfl))
                case q14__1 => exact fun _ _ _ h => h
                case y14__1 => (refine Or.inl ⟨rfl, ?_⟩; intro w hSw; (first | rfl | (go_simp; (try with_reducible rfl))))
                (try simp only [Act.put, sA, sB, sC])
                refine wpAnyH_take (i := 2) (oi := ?o14__2) (v := .int .i64 (dn : Int)) ?h14__2 (by kernel_rfl) (by kernel_rfl) (by kernel_rfl) ?q14__2 ?y14__2 (by assumption) ?_
                case h14__2 => (first | (simp only [gA, gB, gC]; done) | (simp only [gA, gB, gC]; exact rfl))
                case q14__2 => exact fun _ _ _ h => h
                case y14__2 => (refine Or.inl ⟨rfl, ?_⟩; intro w hSw; (first | rfl | (go_simp; (try with_reducible rfl))))
                (try simp only [Act.put, sA, sB, sC])
                refine wpAnyH_take (i := 3) (oi := ?o14__3) (v := .bool true) ?h14__3 (by kernel_rfl) (by kernel_rfl) (by kernel_rfl) ?q14__3 ?y14__3 (by assumption) ?_
                case h14__3 => (first | (simp only [gA, gB, gC]; done) | (simp only [gA, gB, gC]; exact rfl))
                case q14__3 => exact fun _ _ _ h => h
                case y14__3 => (refine Or.inl ⟨rfl, ?_⟩; intro w hSw; (have q0 := HDL2.out; go_simp; (first | done | rfl | omega)))
                (try simp only [Act.put, sA, sB, sC])
                refine wpAnyH_take (i := 4) (oi := ?o14__4) (v := .bool true) ?h14__4 (by kernel_rfl) (by kernel_rfl) (by kernel_rfl) ?q14__4 ?y14__4 (by assumption) ?_
                case h14__4 => (first | (simp only [gA, gB, gC]; done) | (simp only [gA, gB, gC]; exact rfl))
                case q14__4 => exact fun _ _ _ h => h
                case y14__4 => (refine Or.inl ⟨rfl, ?_⟩; intro w hSw; (first | rfl | (go_simp; (try with_reducible rfl))))
                (try simp only [Act.put, sA, sB, sC])
                refine wpAnyH_take (i := 5) (oi := ?o14__5) (v := .slice (some ⟨gd, offd, none⟩) dn dc) ?h14__5 (by kernel_rfl) (by kernel_rfl) (by kernel_rfl) ?q14__5 ?y14__5 (by assumption) ?_
                case h14__5 => (first | (simp only [gA, gB, gC]; done) | (simp only [gA, gB, gC]; exact rfl))
                case q14__5 => exact fun _ _ _ h => h
                case y14__5 => (refine Or.inl ⟨rfl, ?_⟩; intro w hSw; (first | rfl | (go_simp; (try with_reducible rfl))))
                (try simp only [Act.put, sA, sB, sC])
                refine wpAnyH_take (i := 6) (oi := ?o14__6) (v := .int .i64 (k : Int)) ?h14__6 (by kernel_rfl) (by kernel_rfl) (by kernel_rfl) ?q14__6 ?y14__6 (by assumption) ?_
                case h14__6 => (first | (simp only [gA, gB, gC]; done) | (simp only [gA, gB, gC]; exact rfl))
                case q14__6 => exact fun _ _ _ h => h
                case y14__6 => (refine Or.inl ⟨rfl, ?_⟩; intro w hSw; (first | rfl | (go_simp; (try with_reducible rfl))))
                (try simp only [Act.put, sA, sB, sC])
                refine wpAnyH_take (i := 7) (oi := ?o14__7) (v := .pointer (some ⟨gd, (offd + k * 1), none⟩)) ?h14__7 (by kernel_rfl) (by kernel_rfl) (by kernel_rfl) ?q14__7 ?y14__7 (by assumption) ?_
                case h14__7 => (first | (simp only [gA, gB, gC]; done) | (simp only [gA, gB, gC]; exact rfl))
                case q14__7 => exact fun _ _ _ h => h
                case y14__7 => (refine Or.inl ⟨rfl, ?_⟩; intro w hSw; exact exec_index (i := k) 36 3 _ _ rfl rfl rfl rfl HDL2.out Try.underlying36 (by kernel_rfl))
                (try simp only [Act.put, sA, sB, sC])
                refine wpAnyH_take (i := 8) (oi := ?o14__8) (v := .int .i64 (zs.getD k 0)) ?h14__8 (by kernel_rfl) (by kernel_rfl) (by kernel_rfl) ?q14__8 ?y14__8 (by assumption) ?_
                case h14__8 => (first | (simp only [gA, gB, gC]; done) | (simp only [gA, gB, gC]; exact rfl))
                case q14__8 => exact fun _ _ _ h => h
                case y14__8 => (refine Or.inl ⟨rfl, ?_⟩; intro w hSw; exact exec_at 3 _ _ (by rw [Nat.mul_one]; exact keep_cell hSw.1 HCED.out) rfl rfl Try.underlying3 rfl)
                (try simp only [Act.put, sA, sB, sC])
                refine wpAnyH_take (i := 9) (oi := ?o14__9) (v := .pointer (some ⟨w.heap.size, 0, none⟩)) ?h14__9 (by kernel_rfl) (by kernel_rfl) (by kernel_rfl) ?q14__9 ?y14__9 (by assumption) ?_
                case h14__9 => (first | (simp only [gA, gB, gC]; done) | (simp only [gA, gB, gC]; exact rfl))
                case q14__9 => exact fun _ _ _ h => h
                case y14__9 => (refine Or.inl ⟨rfl, ?_⟩; intro w hSw; (first | rfl | (go_simp; (try with_reducible rfl))))
                (try simp only [Act.put, sA, sB, sC])
                refine wpAnyH_take (i := 10) (oi := ?o14__10) (v := .int .i64 a.se) ?h14__10 (by kernel_rfl) (by kernel_rfl) (by kernel_rfl) ?q14__10 ?y14__10 (by assumption) ?_
                case h14__10 => (first | (simp only [gA, gB, gC]; done) | (simp only [gA, gB, gC]; exact rfl))
                case q14__10 => exact fun _ _ _ h => h
                case y14__10 => (refine Or.inl ⟨rfl, ?_⟩; intro w hSw; exact exec_cell 3 _ _ hSw.2.1 rfl rfl rfl Try.underlying3 rfl)
                (try simp only [Act.put, sA, sB, sC])
                refine wpAnyH_take (i := 11) (oi := ?o14__11) (v := .bool false) ?h14__11 (by kernel_rfl) (by kernel_rfl) (by kernel_rfl) ?q14__11 ?y14__11 (by assumption) ?_
                case h14__11 => (first | (simp only [gA, gB, gC]; done) | (simp only [gA, gB, gC]; exact rfl))
                case q14__11 => exact fun _ _ _ h => h
                case y14__11 => (refine Or.inl ⟨rfl, ?_⟩; intro w hSw; (have q := HDS.out; go_simp; (first | done | exact q | (simp [q]; done))))
                (try simp only [Act.put, sA, sB, sC])
                refine wpAnyH_take (i := 12) (oi := ?o14__12) (v := .bool false) ?h14__12 (by kernel_rfl) (by kernel_rfl) (by kernel_rfl) ?q14__12 ?y14__12 (by assumption) ?_
                case h14__12 => (first | (simp only [gA, gB, gC]; done) | (simp only [gA, gB, gC]; exact rfl))
                case q14__12 => exact fun _ _ _ h => h
                case y14__12 => (refine Or.inl ⟨rfl, ?_⟩; intro w hSw; (first | rfl | (go_simp; (try with_reducible rfl))))
                (try simp only [Act.put, sA, sB, sC])
                refine wpAnyH_done (by kernel_rfl) ?_ _
                have HSd14v2 := Lib.hid hHeld.1
                have HBAd14v2 := Lib.hid (hHeld.2.1)
                have HFqd14v2 := Lib.hid (hHeld.2.2)
                clear hHeld HRK HRD HS105 HBA105 HFq105
                have HAT2 := Lib.hid HAT1.out; have HLEN2 := Lib.hid HLEN1.out; clear HAT1 HLEN1
                go_upto_region 16 with fail
                refine wp_region_lit ?_
                refine wpList_q (by rfl) (.pointer (some ⟨q1, 0, none⟩)) ?he ?_
                case he => (first | rfl | (go_simp; (try with_reducible rfl)))
                (try simp only [Act.put, sA, sB, sC])
                refine wpList_q (by rfl) (.pointer (some ⟨w.heap.size, 0, none⟩)) ?he ?_
                case he => (first | rfl | (go_simp; (try with_reducible rfl)))
                (try simp only [Act.put, sA, sB, sC])
                refine wpList_q (by rfl) (.int .i64 a.se) ?he ?_
                case he => exact exec_cell 3 _ _ HBAd14v2.out rfl rfl rfl Try.underlying3 rfl
                (try simp only [Act.put, sA, sB, sC])
                refine wpList_wp (by rfl) (fun K hK => ?_)
                (try go_simp)
                refine (aheadV w.heap.size q1 (btw 64 0 64) (putL (btw 64 0 64) ms (af k)) Sq_2 a.se _ HFqd14v2.out (by have q1 := HLEN2.out; omega) j HAT2.out).mono ?_
                rintro e w106 ⟨rfl, hb⟩
                (try go_wp2_with fail)
                refine hK.out _ _ ?_
                clear hK K
                (try simp only [Act.put, sA, sB, sC])
                have HS106 := Lib.hid (Since.trans HSd14v2.out hb)
                have HBA106 := Lib.hid (keep_blk hb HBAd14v2.out)
                have HFq106 := Lib.hid (QO.keep hb HFqd14v2.out)
                clear HSd14v2 HBAd14v2 HFqd14v2
                clear hb
                refine wpList_q (by rfl) (.tuple #[.int .i64 (j : Int), .bool true]) ?he ?_
                case he => (first | rfl | (go_simp; (try with_reducible rfl)))
                (try simp only [Act.put, sA, sB, sC])
                refine wpList_q (by rfl) (.int .i64 (j : Int)) ?he ?_
                case he => (first | rfl | (go_simp; (try with_reducible rfl)))
                (try simp only [Act.put, sA, sB, sC])
                refine wpList_q (by rfl) (.bool true) ?he ?_
                case he => (first | rfl | (go_simp; (try with_reducible rfl)))
                (try simp only [Act.put, sA, sB, sC])
                refine wpList_q (by rfl) (.int .i64 (j : Int)) ?he ?_
                case he => (first | rfl | (go_simp; (try with_reducible rfl)))
                (try simp only [Act.put, sA, sB, sC])
                refine wpList_q (by rfl) (.bool true) ?he ?_
                case he => (first | rfl | (go_simp; (try with_reducible rfl)))
                (try simp only [Act.put, sA, sB, sC])
                refine wpList_nil ?_
                go_upto_region 17 with fail
                refine wp_region_lit ?_
                refine wpList_q (by rfl) (.bool true) ?he ?_
                case he => (first | rfl | (go_simp; (try with_reducible rfl)))
                (try simp only [Act.put, sA, sB, sC])
                refine wpList_q (by rfl) (.bool false) ?he ?_
                case he => (go_simp; (try with_reducible rfl))
                (try simp only [Act.put, sA, sB, sC])
                refine wpList_q (by rfl) (.bool false) ?he ?_
                case he => (first | rfl | (go_simp; (try with_reducible rfl)))
                (try simp only [Act.put, sA, sB, sC])
                refine wpList_q (by rfl) (.int .i64 (j : Int)) ?he ?_
                case he => (first | rfl | (go_simp; (try with_reducible rfl)))
                (try simp only [Act.put, sA, sB, sC])
                refine wpList_q (by rfl) (.int .i64 n) ?he ?_
                case he => (first | rfl | (go_simp; (try with_reducible rfl)))
                (try simp only [Act.put, sA, sB, sC])
                refine wpList_q (by rfl) (.bool false) ?he ?_
                case he => (have q0 := HJN.out; have q1 := Nat.le_refl j; go_simp; (first | done | omega))
                (try simp only [Act.put, sA, sB, sC])
                refine wpList_q (by rfl) (.bool false) ?he ?_
                case he => (first | rfl | (go_simp; (try with_reducible rfl)))
                (try simp only [Act.put, sA, sB, sC])
                refine wpList_nil ?_
                go_upto_region 19 with fail
                refine wp_region_lit ?_
                refine wpList_q (by rfl) (.int .i64 (j : Int)) ?he ?_
                case he => (first | rfl | (go_simp; (try with_reducible rfl)))
                (try simp only [Act.put, sA, sB, sC])
                refine wpList_q (by rfl) (.int .i64 (j : Int)) ?he ?_
                case he => (first | rfl | (go_simp; (try with_reducible rfl)))
                (try simp only [Act.put, sA, sB, sC])
                refine wpList_nil ?_
                go_upto_region 12 with fail
                refine wp_region_lit ?_
                refine wpList_q (by rfl) (.int .i64 (k : Int)) ?he ?_
                case he => (first | rfl | (go_simp; (try with_reducible rfl)))
                (try simp only [Act.put, sA, sB, sC])
                refine wpList_q (by rfl) (.int .i64 ((k : Int) + 1)) ?he ?_
                case he => (go_simp; (first | done | (refine wr64 _ ?_ ?_ <;> (have q0 := HLM.out; omega)) | (have q0 := HLM.out; omega) | (have q0 := HLM.out; split <;> omega) | (have q0 := HLM.out; intro hh; omega)))
                (try simp only [Act.put, sA, sB, sC])
                refine wpList_q (by rfl) (.int .i64 ((k : Int) + 1)) ?he ?_
                case he => (first | rfl | (go_simp; (try with_reducible rfl)))
                (try simp only [Act.put, sA, sB, sC])
                refine wpList_nil ?_
                go_wp2_with fail
                go_roundw
                case rel => exact ⟨k + 1, j, (j : Int), (putL (btw 64 0 64) ms (af k)), Sq_2, by have := HLM.out; omega, by have := HLT.out; omega, rfl, by go_num, Lib.hid ⟨HLEN2.out, HAT2.out, Int.le_refl _, HIA_q_105.out, HS106.out, HBA106.out, HFq106.out⟩⟩
                case measure => have := HLT.out; simp [intOf]; omega
    · have HLT := Lib.hid hcs; clear hcs
      by_cases hcs : k < 30
      rotate_left
      · have HLM := Lib.hid hcs; clear hcs
        go_upto_region 3 with fail
        refine wp_region_lit ?_
        refine wpList_q (by rfl) (.int .i64 (k : Int)) ?he ?_
        case he => (first | rfl | (go_simp; (try with_reducible rfl)))
        (try simp only [Act.put, sA, sB, sC])
        refine wpList_q (by rfl) (.slice Ab bn bc) ?he ?_
        case he => (first | rfl | (go_simp; (try with_reducible rfl)))
        (try simp only [Act.put, sA, sB, sC])
        refine wpList_q (by rfl) (.int .i64 (bn : Int)) ?he ?_
        case he => (first | rfl | (go_simp; (try with_reducible rfl)))
        (try simp only [Act.put, sA, sB, sC])
        refine wpList_q (by rfl) (.bool true) ?he ?_
        case he => (have q0 := HLT.out; go_simp; (first | done | rfl | omega))
        (try simp only [Act.put, sA, sB, sC])
        refine wpList_q (by rfl) (.bool true) ?he ?_
        case he => (first | rfl | (go_simp; (try with_reducible rfl)))
        (try simp only [Act.put, sA, sB, sC])
        refine wpList_q (by rfl) (.int .i64 (k : Int)) ?he ?_
        case he => (first | rfl | (go_simp; (try with_reducible rfl)))
        (try simp only [Act.put, sA, sB, sC])
        refine wpList_q (by rfl) (.bool false) ?he ?_
        case he => (have q0 := HLM.out; go_simp; (first | done | rfl | omega))
        (try simp only [Act.put, sA, sB, sC])
        refine wpList_q (by rfl) (.bool false) ?he ?_
        case he => (first | rfl | (go_simp; (try with_reducible rfl)))
        (try simp only [Act.put, sA, sB, sC])
        refine wpList_nil ?_
        go_upto_region 7 with fail
        refine wp_region_lit ?_
        refine wpList_q (by rfl) (.pointer (some ⟨q1, 0, none⟩)) ?he ?_
        case he => (first | rfl | (go_simp; (try with_reducible rfl)))
        (try simp only [Act.put, sA, sB, sC])
        refine wpList_wp (by rfl) (fun K hK => ?_)
        (try go_simp)
        refine (listV w.heap.size q1 (btw 64 0 64) ls Sq _ HFq52.out (by have q1 := HLEN.out; have q2 := HK30.out; omega) ls.length rfl).mono ?_
        rintro e w53 ⟨A2, c2, rfl, hown, hb⟩
        (try go_wp2_with fail)
        refine hK.out _ _ ?_
        clear hK K
        (try simp only [Act.put, sA, sB, sC])
        have HS53 := Lib.hid (Since.trans HS52.out hb)
        have HBA53 := Lib.hid (keep_blk hb HBA52.out)
        have HFq53 := Lib.hid (QO.keep hb HFq52.out)
        clear HS52 HBA52 HFq52
        clear hb
        clear hown
        refine wpList_q (by rfl) (.int .i64 (ls.length : Int)) ?he ?_
        case he => (first | rfl | (go_simp; (try with_reducible rfl)))
        (try simp only [Act.put, sA, sB, sC])
        refine wpList_q (by rfl) (.int .i64 (ls.length : Int)) ?he ?_
        case he => (first | rfl | (go_simp; (try with_reducible rfl)))
        (try simp only [Act.put, sA, sB, sC])
        refine wpList_nil ?_
        go_upto_region 8 with fail
        refine wp_region_lit ?_
        refine wpList_q (by rfl) (.pointer (some ⟨q1, 0, none⟩)) ?he ?_
        case he => (first | rfl | (go_simp; (try with_reducible rfl)))
        (try simp only [Act.put, sA, sB, sC])
        refine wpList_q (by rfl) (.agg #[.int .i64 a.se, .int .i64 a.fl, .int .i64 a.fm, .int .i64 a.to, .int .i64 a.ma]) ?he ?_
        case he => exact exec_load_row 30 _ _ HBA53.out rfl rfl Try.underlying30 rfl (by kernel_rfl)
        (try simp only [Act.put, sA, sB, sC])
        refine wpList_wp (by rfl) (fun K hK => ?_)
        (try go_simp)
        refine (putV w.heap.size q1 (btw 64 0 64) ls Sq a _ HFq53.out (by have q1 := HLEN.out; have q2 := HK30.out; omega) 0 (ls ++ [a]) (put_ok HNO.out (by have q1 := HLEN.out; have q2 := HK30.out; omega)) (put_okL HNO.out (by have q1 := HLEN.out; have q2 := HK30.out; omega))).mono ?_
        rintro e w54 ⟨Sq_2, rfl, hobj, hupd, hfar⟩
        (try go_wp2_with fail)
        refine hK.out _ _ ?_
        clear hK K
        (try simp only [Act.put, sA, sB, sC])
        have HS54 := Lib.hid (Since.upd HS53.out hupd (QO.low HFq53.out))
        have HBA54 := Lib.hid (Upd.blk hupd HBA53.out HIA.out)
        have HIA_q_54 := Lib.hid (nin_next hfar HIA.out (Blk.lt HBA53.out))
        have HFq54 := Lib.hid hobj
        clear hupd hobj hfar HS53 HBA53 HFq53
        refine wpList_q (by rfl) (.bool false) ?he ?_
        case he => (go_simp; (try with_reducible rfl))
        (try simp only [Act.put, sA, sB, sC])
        refine wpList_nil ?_
        go_upto_region 10 with fail
        refine wp_region_lit ?_
        refine wpList_q (by rfl) (.int .i64 0) ?he ?_
        case he => (first | rfl | (go_simp; (try with_reducible rfl)))
        (try simp only [Act.put, sA, sB, sC])
        refine wpList_nil ?_
        go_wp2_with fail
        have HST := Lib.hid (show (ls ++ [a]).length ≤ 64 ∧ atS (ls ++ [a]) a.se = some ls.length from ⟨by have q1 := HLEN.out; have q2 := HK30.out; simp; omega, at_new HNO.out⟩)
        clear HK30 HKB HLEN HNO
        go_loopw [11, 12] (fun s11 s12 wr => ∃ (k j : Nat) (n : Int) (ms : List AskV) (Sm : List Nat), k ≤ 60 ∧ k ≤ an ∧ s11 = .int .i64 n ∧ s12 = .int .i64 (k : Int) ∧ Hid (ms.length ≤ 64 ∧ atS ms a.se = some j ∧ (j : Int) ≤ n ∧ w.heap.size ∉ Sm ∧ Since w wr ∧ Blk wr w.heap.size 30 #[.int .i64 a.se, .int .i64 a.fl, .int .i64 a.fm, .int .i64 a.to, .int .i64 a.ma] ∧ QO w.heap.size q1 (btw 64 0 64) ms Sm wr)) (fun s11 s12 _ => ((an : Int) - intOf s12).toNat)
        case atStart => exact ⟨0, ls.length, (ls.length : Int), (ls ++ [a]), Sq_2, by omega, by omega, rfl, rfl, Lib.hid ⟨HST.out.1, HST.out.2, (Int.le_refl _), HIA_q_54.out, HS54.out, HBA54.out, HFq54.out⟩⟩
        case round =>
          clear HST
          rename_i k_old
          skip
          obtain ⟨k, j, n, ms, Sm, hk60, hka, rfl, rfl, HO⟩ := hrel
          obtain ⟨e0, e1, e2, e3, g0, g1, g2⟩ := HO.out
          clear HO HS54 HBA54 HFq54
          have HLEN := Lib.hid e0
          have HAT := Lib.hid e1
          have HJN := Lib.hid e2
          have HIA2 := Lib.hid e3
          have HS104 := Lib.hid g0
          have HBA104 := Lib.hid g1
          have HFq104 := Lib.hid g2
          clear e0 e1 e2 e3 g0 g1 g2
          have HK60 := Lib.hid hk60; have HKA := Lib.hid hka; clear hk60 hka
          by_cases hcs : k < an
          rotate_left
          · have HGE := Lib.hid hcs; clear hcs
            go_upto_region 11 with fail
            refine wp_region_lit ?_
            refine wpList_q (by rfl) (.int .i64 (k : Int)) ?he ?_
            case he => (first | rfl | (go_simp; (try with_reducible rfl)))
            (try simp only [Act.put, sA, sB, sC])
            refine wpList_q (by rfl) (.slice Aa an ac) ?he ?_
            case he => (first | rfl | (go_simp; (try with_reducible rfl)))
            (try simp only [Act.put, sA, sB, sC])
            refine wpList_q (by rfl) (.int .i64 (an : Int)) ?he ?_
            case he => (first | rfl | (go_simp; (try with_reducible rfl)))
            (try simp only [Act.put, sA, sB, sC])
            refine wpList_q (by rfl) (.bool false) ?he ?_
            case he => (have q0 := HGE.out; go_simp; (first | done | rfl | omega))
            (try simp only [Act.put, sA, sB, sC])
            refine wpList_q (by rfl) (.bool false) ?he ?_
            case he => (first | rfl | (go_simp; (try with_reducible rfl)))
            (try simp only [Act.put, sA, sB, sC])
            refine wpList_no (by rfl) ?_
            (try simp only [Act.put, sA, sB, sC])
            refine wpList_no (by rfl) ?_
            (try simp only [Act.put, sA, sB, sC])
            refine wpList_q (by rfl) (.bool false) ?he ?_
            case he => (first | rfl | (go_simp; (try with_reducible rfl)))
            (try simp only [Act.put, sA, sB, sC])
            refine wpList_nil ?_
            go_upto_region 20 with fail
            refine wp_region_lit ?_
            refine wpList_wp (by rfl) (fun K hK => ?_)
            (try go_simp)
            refine (ans _).mono ?_
            rintro e w105 ⟨rfl, hb⟩
            (try go_wp2_with fail)
            refine hK.out _ _ ?_
            clear hK K
            (try simp only [Act.put, sA, sB, sC])
            have HS105 := Lib.hid (Since.trans HS104.out hb)
            have HBA105 := Lib.hid (keep_blk hb HBA104.out)
            have HFq105 := Lib.hid (QO.keep hb HFq104.out)
            clear HS104 HBA104 HFq104
            clear hb
            refine wpList_q (by rfl) (.bool true) ?he ?_
            case he => (first | rfl | (go_simp; (try with_reducible rfl)))
            (try simp only [Act.put, sA, sB, sC])
            refine wpList_nil ?_
            (try go_wp2_with fail)
            go_ret
            exact ⟨rfl, HS105.out⟩
          · have HLT := Lib.hid hcs; clear hcs
            by_cases hcs : k < 60
            rotate_left
            · have HLM := Lib.hid hcs; clear hcs
              go_upto_region 11 with fail
              refine wp_region_lit ?_
              refine wpList_q (by rfl) (.int .i64 (k : Int)) ?he ?_
              case he => (first | rfl | (go_simp; (try with_reducible rfl)))
              (try simp only [Act.put, sA, sB, sC])
              refine wpList_q (by rfl) (.slice Aa an ac) ?he ?_
              case he => (first | rfl | (go_simp; (try with_reducible rfl)))
              (try simp only [Act.put, sA, sB, sC])
              refine wpList_q (by rfl) (.int .i64 (an : Int)) ?he ?_
              case he => (first | rfl | (go_simp; (try with_reducible rfl)))
              (try simp only [Act.put, sA, sB, sC])
              refine wpList_q (by rfl) (.bool true) ?he ?_
              case he => (have q0 := HLT.out; go_simp; (first | done | rfl | omega))
              (try simp only [Act.put, sA, sB, sC])
              refine wpList_q (by rfl) (.bool true) ?he ?_
              case he => (first | rfl | (go_simp; (try with_reducible rfl)))
              (try simp only [Act.put, sA, sB, sC])
              refine wpList_q (by rfl) (.int .i64 (k : Int)) ?he ?_
              case he => (first | rfl | (go_simp; (try with_reducible rfl)))
              (try simp only [Act.put, sA, sB, sC])
              refine wpList_q (by rfl) (.bool false) ?he ?_
              case he => (have q0 := HLM.out; go_simp; (first | done | rfl | omega))
              (try simp only [Act.put, sA, sB, sC])
              refine wpList_q (by rfl) (.bool false) ?he ?_
              case he => (first | rfl | (go_simp; (try with_reducible rfl)))
              (try simp only [Act.put, sA, sB, sC])
              refine wpList_nil ?_
              go_upto_region 20 with fail
              refine wp_region_lit ?_
              refine wpList_wp (by rfl) (fun K hK => ?_)
              (try go_simp)
              refine (ans _).mono ?_
              rintro e w105 ⟨rfl, hb⟩
              (try go_wp2_with fail)
              refine hK.out _ _ ?_
              clear hK K
              (try simp only [Act.put, sA, sB, sC])
              have HS105 := Lib.hid (Since.trans HS104.out hb)
              have HBA105 := Lib.hid (keep_blk hb HBA104.out)
              have HFq105 := Lib.hid (QO.keep hb HFq104.out)
              clear HS104 HBA104 HFq104
              clear hb
              refine wpList_q (by rfl) (.bool true) ?he ?_
              case he => (first | rfl | (go_simp; (try with_reducible rfl)))
              (try simp only [Act.put, sA, sB, sC])
              refine wpList_nil ?_
              (try go_wp2_with fail)
              go_ret
              exact ⟨rfl, HS105.out⟩
            · have HLM := Lib.hid hcs; clear hcs
              go_upto_region 11 with fail
              refine wp_region_lit ?_
              refine wpList_q (by rfl) (.int .i64 (k : Int)) ?he ?_
              case he => (first | rfl | (go_simp; (try with_reducible rfl)))
              (try simp only [Act.put, sA, sB, sC])
              refine wpList_q (by rfl) (.slice Aa an ac) ?he ?_
              case he => (first | rfl | (go_simp; (try with_reducible rfl)))
              (try simp only [Act.put, sA, sB, sC])
              refine wpList_q (by rfl) (.int .i64 (an : Int)) ?he ?_
              case he => (first | rfl | (go_simp; (try with_reducible rfl)))
              (try simp only [Act.put, sA, sB, sC])
              refine wpList_q (by rfl) (.bool true) ?he ?_
              case he => (have q0 := HLT.out; go_simp; (first | done | rfl | omega))
              (try simp only [Act.put, sA, sB, sC])
              refine wpList_q (by rfl) (.bool true) ?he ?_
              case he => (first | rfl | (go_simp; (try with_reducible rfl)))
              (try simp only [Act.put, sA, sB, sC])
              refine wpList_q (by rfl) (.int .i64 (k : Int)) ?he ?_
              case he => (first | rfl | (go_simp; (try with_reducible rfl)))
              (try simp only [Act.put, sA, sB, sC])
              refine wpList_q (by rfl) (.bool true) ?he ?_
              case he => (have q0 := HLM.out; go_simp; (first | done | rfl | omega))
              (try simp only [Act.put, sA, sB, sC])
              refine wpList_q (by rfl) (.bool true) ?he ?_
              case he => (first | rfl | (go_simp; (try with_reducible rfl)))
              (try simp only [Act.put, sA, sB, sC])
              refine wpList_nil ?_
              obtain ⟨ga, offa, hAa, hba, hca⟩ := Al.Asks.at_ HA.out HLT.out
              have hcea := hca k HLT.out
              clear hca hba
              subst hAa
              have HCEa := Lib.hid hcea; clear hcea
              go_upto_region 13 with fail
              refine wp_region_lit ?_
              refine wpList_q (by rfl) (.pointer (some ⟨q1, 0, none⟩)) ?he ?_
              case he => (first | rfl | (go_simp; (try with_reducible rfl)))
              (try simp only [Act.put, sA, sB, sC])
              refine wpList_q (by rfl) (.slice (some ⟨ga, offa, none⟩) an ac) ?he ?_
              case he => (first | rfl | (go_simp; (try with_reducible rfl)))
              (try simp only [Act.put, sA, sB, sC])
              refine wpList_q (by rfl) (.int .i64 (k : Int)) ?he ?_
              case he => (first | rfl | (go_simp; (try with_reducible rfl)))
              (try simp only [Act.put, sA, sB, sC])
              refine wpList_q (by rfl) (.pointer (some ⟨ga, (offa + k * 5), none⟩)) ?he ?_
              case he => exact exec_index (i := k) 35 30 _ _ rfl rfl rfl rfl HLT.out Try.underlying35 (by kernel_rfl)
              (try simp only [Act.put, sA, sB, sC])
              refine wpList_q (by rfl) (.agg #[.int .i64 ((af k).se), .int .i64 ((af k).fl), .int .i64 ((af k).fm), .int .i64 ((af k).to), .int .i64 ((af k).ma)]) ?he ?_
              case he => exact exec_rng (l := askC (af k)) 30 _ _ (fun j v hj => keep_cell HS104.out (HCEa.out j v hj)) rfl rfl Try.underlying30 rfl (by kernel_rfl)
              (try simp only [Act.put, sA, sB, sC])
              refine wpList_wp (by rfl) (fun K hK => ?_)
              (try go_simp)
              refine (putV w.heap.size q1 (btw 64 0 64) ms Sm (af k) _ HFq104.out (by have q1 := HLEN.out; omega) (putE (btw 64 0 64) ms (af k)) (putL (btw 64 0 64) ms (af k)) rfl rfl).mono ?_
              rintro e w105 ⟨Sq_3, rfl, hobj, hupd, hfar⟩
              (try go_wp2_with fail)
              refine hK.out _ _ ?_
              clear hK K
              (try simp only [Act.put, sA, sB, sC])
              have HS105 := Lib.hid (Since.upd HS104.out hupd (QO.low HFq104.out))
              have HBA105 := Lib.hid (Upd.blk hupd HBA104.out HIA2.out)
              have HIA_q_105 := Lib.hid (nin_next hfar HIA2.out (Blk.lt HBA104.out))
              have HFq105 := Lib.hid hobj
              clear hupd hobj hfar HS104 HBA104 HFq104
              refine wpList_nil ?_
              have HAT1 := Lib.hid (at_put (room := btw 64 0 64) (x := af k) HAT.out)
              have HLEN1 := Lib.hid (len_put64 (af k) HLEN.out)
              clear HAT HLEN
              by_cases hcs : k < dn
              rotate_left
              · have HDL2 := Lib.hid hcs; clear hcs
                go_upto_region 14 with fail
                have hrK : ∀ W W' : World, Since W W' → (Since w W ∧ Blk W w.heap.size 30 #[.int .i64 a.se, .int .i64 a.fl, .int .i64 a.fm, .int .i64 a.to, .int .i64 a.ma] ∧ QO w.heap.size q1 (btw 64 0 64) (putL (btw 64 0 64) ms (af k)) Sq_3 W) → (Since w W' ∧ Blk W' w.heap.size 30 #[.int .i64 a.se, .int .i64 a.fl, .int .i64 a.fm, .int .i64 a.to, .int .i64 a.ma] ∧ QO w.heap.size q1 (btw 64 0 64) (putL (btw 64 0 64) ms (af k)) Sq_3 W') := fun W W' k ⟨h, h0, h1⟩ => ⟨h.trans k, keep_blk k h0, QO.keep k h1⟩
                have hrS : (fun W : World => Since w W ∧ Blk W w.heap.size 30 #[.int .i64 a.se, .int .i64 a.fl, .int .i64 a.fm, .int .i64 a.to, .int .i64 a.ma] ∧ QO w.heap.size q1 (btw 64 0 64) (putL (btw 64 0 64) ms (af k)) Sq_3 W) w105 := ⟨HS105.out, HBA105.out, HFq105.out⟩
                have HRK := Lib.hid hrK
                have HRD := Lib.hid (show (fun W : World => Since w W ∧ Blk W w.heap.size 30 #[.int .i64 a.se, .int .i64 a.fl, .int .i64 a.fm, .int .i64 a.to, .int .i64 a.ma] ∧ QO w.heap.size q1 (btw 64 0 64) (putL (btw 64 0 64) ms (af k)) Sq_3 W) (World.drew w105) from ⟨Since.drew hrS.1, hrS.2⟩)
                clear hrK hrS
                refine wp_region_held_drew (S := fun W : World => Since w W ∧ Blk W w.heap.size 30 #[.int .i64 a.se, .int .i64 a.fl, .int .i64 a.fm, .int .i64 a.to, .int .i64 a.ma] ∧ QO w.heap.size q1 (btw 64 0 64) (putL (btw 64 0 64) ms (af k)) Sq_3 W) (by kernel_rfl) HRD.out (fun hHeld => ?_)
                refine wpAnyH_take (i := 0) (oi := ?o14__0) (v := .int .i64 (k : Int)) ?h14__0 (by kernel_rfl) (by kernel_rfl) (by kernel_rfl) ?q14__0 ?y14__0 (by assumption) ?_
                case h14__0 => (first | (simp only [gA, gB, gC]; done) | (simp only [gA, gB, gC]; exact rfl))
                case q14__0 => exact fun _ _ _ h => h
                case y14__0 => (refine Or.inl ⟨rfl, ?_⟩; intro w hSw; (first | rfl | (go_simp; (try with_reducible rfl))))
                (try simp only [Act.put, sA, sB, sC])
                refine wpAnyH_take (i := 1) (oi := ?o14__1) (v := .slice Ad dn dc) ?h14__1 (by kernel_rfl) (by kernel_rfl) (by kernel_rfl) ?q14__1 ?y14__1 (by assumption) ?_
                case h14__1 => (first | (simp only [gA, gB, gC]; done) | (simp only [gA, gB, gC]; exact rfl))
                case q14__1 => exact fun _ _ _ h => h
                case y14__1 => (refine Or.inl ⟨rfl, ?_⟩; intro w hSw; (first | rfl | (go_simp; (try with_reducible rfl))))
                (try simp only [Act.put, sA, sB, sC])
                refine wpAnyH_take (i := 2) (oi := ?o14__2) (v := .int .i64 (dn : Int)) ?h14__2 (by kernel_rfl) (by kernel_rfl) (by kernel_rfl) ?q14__2 ?y14__2 (by assumption) ?_
                case h14__2 => (first | (simp only [gA, gB, gC]; done) | (simp only [gA, gB, gC]; exact rfl))
                case q14__2 => exact fun _ _ _ h => h
                case y14__2 => (refine Or.inl ⟨rfl, ?_⟩; intro w hSw; (first | rfl | (go_simp; (try with_reducible rfl))))
                (try simp only [Act.put, sA, sB, sC])
                refine wpAnyH_take (i := 3) (oi := ?o14__3) (v := .bool false) ?h14__3 (by kernel_rfl) (by kernel_rfl) (by kernel_rfl) ?q14__3 ?y14__3 (by assumption) ?_
                case h14__3 => (first | (simp only [gA, gB, gC]; done) | (simp only [gA, gB, gC]; exact rfl))
                case q14__3 => exact fun _ _ _ h => h
                case y14__3 => (refine Or.inl ⟨rfl, ?_⟩; intro w hSw; (have q0 := HDL2.out; go_simp; (first | done | rfl | omega)))
                (try simp only [Act.put, sA, sB, sC])
                refine wpAnyH_take (i := 4) (oi := ?o14__4) (v := .bool false) ?h14__4 (by kernel_rfl) (by kernel_rfl) (by kernel_rfl) ?q14__4 ?y14__4 (by assumption) ?_
                case h14__4 => (first | (simp only [gA, gB, gC]; done) | (simp only [gA, gB, gC]; exact rfl))
                case q14__4 => exact fun _ _ _ h => h
                case y14__4 => (refine Or.inl ⟨rfl, ?_⟩; intro w hSw; (first | rfl | (go_simp; (try with_reducible rfl))))
                (try simp only [Act.put, sA, sB, sC])
                refine wpAnyH_take (i := 5) (oi := ?o14__5) (v := undef) ?h14__5 (by kernel_rfl) (by kernel_rfl) (by kernel_rfl) ?q14__5 ?y14__5 (by assumption) ?_
                case h14__5 => (first | (simp only [gA, gB, gC]; done) | (simp only [gA, gB, gC]; exact rfl))
                case q14__5 => exact fun _ _ _ h => h
                case y14__5 => exact Or.inr ⟨rfl, rfl⟩
                (try simp only [Act.put, sA, sB, sC])
                refine wpAnyH_take (i := 6) (oi := ?o14__6) (v := undef) ?h14__6 (by kernel_rfl) (by kernel_rfl) (by kernel_rfl) ?q14__6 ?y14__6 (by assumption) ?_
                case h14__6 => (first | (simp only [gA, gB, gC]; done) | (simp only [gA, gB, gC]; exact rfl))
                case q14__6 => exact fun _ _ _ h => h
                case y14__6 => exact Or.inr ⟨rfl, rfl⟩
                (try simp only [Act.put, sA, sB, sC])
                refine wpAnyH_take (i := 7) (oi := ?o14__7) (v := undef) ?h14__7 (by kernel_rfl) (by kernel_rfl) (by kernel_rfl) ?q14__7 ?y14__7 (by assumption) ?_
                case h14__7 => (first | (simp only [gA, gB, gC]; done) | (simp only [gA, gB, gC]; exact rfl))
                case q14__7 => exact fun _ _ _ h => h
                case y14__7 => exact Or.inr ⟨rfl, rfl⟩
                (try simp only [Act.put, sA, sB, sC])
                refine wpAnyH_take (i := 8) (oi := ?o14__8) (v := undef) ?h14__8 (by kernel_rfl) (by kernel_rfl) (by kernel_rfl) ?q14__8 ?y14__8 (by assumption) ?_
                case h14__8 => (first | (simp only [gA, gB, gC]; done) | (simp only [gA, gB, gC]; exact rfl))
                case q14__8 => exact fun _ _ _ h => h
                case y14__8 => exact Or.inr ⟨rfl, rfl⟩
                (try simp only [Act.put, sA, sB, sC])
                refine wpAnyH_take (i := 9) (oi := ?o14__9) (v := undef) ?h14__9 (by kernel_rfl) (by kernel_rfl) (by kernel_rfl) ?q14__9 ?y14__9 (by assumption) ?_
                case h14__9 => (first | (simp only [gA, gB, gC]; done) | (simp only [gA, gB, gC]; exact rfl))
                case q14__9 => exact fun _ _ _ h => h
                case y14__9 => exact Or.inr ⟨rfl, rfl⟩
                (try simp only [Act.put, sA, sB, sC])
                refine wpAnyH_take (i := 10) (oi := ?o14__10) (v := undef) ?h14__10 (by kernel_rfl) (by kernel_rfl) (by kernel_rfl) ?q14__10 ?y14__10 (by assumption) ?_
                case h14__10 => (first | (simp only [gA, gB, gC]; done) | (simp only [gA, gB, gC]; exact rfl))
                case q14__10 => exact fun _ _ _ h => h
                case y14__10 => exact Or.inr ⟨rfl, rfl⟩
                (try simp only [Act.put, sA, sB, sC])
                refine wpAnyH_take (i := 11) (oi := ?o14__11) (v := undef) ?h14__11 (by kernel_rfl) (by kernel_rfl) (by kernel_rfl) ?q14__11 ?y14__11 (by assumption) ?_
                case h14__11 => (first | (simp only [gA, gB, gC]; done) | (simp only [gA, gB, gC]; exact rfl))
                case q14__11 => exact fun _ _ _ h => h
                case y14__11 => exact Or.inr ⟨rfl, rfl⟩
                (try simp only [Act.put, sA, sB, sC])
                refine wpAnyH_take (i := 12) (oi := ?o14__12) (v := .bool false) ?h14__12 (by kernel_rfl) (by kernel_rfl) (by kernel_rfl) ?q14__12 ?y14__12 (by assumption) ?_
                case h14__12 => (first | (simp only [gA, gB, gC]; done) | (simp only [gA, gB, gC]; exact rfl))
                case q14__12 => exact fun _ _ _ h => h
                case y14__12 => (refine Or.inl ⟨rfl, ?_⟩; intro w hSw; (first | rfl | (go_simp; (try with_reducible rfl))))
                (try simp only [Act.put, sA, sB, sC])
                refine wpAnyH_done (by kernel_rfl) ?_ _
                have HSd14v2 := Lib.hid hHeld.1
                have HBAd14v2 := Lib.hid (hHeld.2.1)
                have HFqd14v2 := Lib.hid (hHeld.2.2)
                clear hHeld HRK HRD HS105 HBA105 HFq105
                have HAT2 := Lib.hid HAT1.out; have HLEN2 := Lib.hid HLEN1.out; clear HAT1 HLEN1
                go_upto_region 16 with fail
                refine wp_region_lit ?_
                refine wpList_q (by rfl) (.pointer (some ⟨q1, 0, none⟩)) ?he ?_
                case he => (first | rfl | (go_simp; (try with_reducible rfl)))
                (try simp only [Act.put, sA, sB, sC])
                refine wpList_q (by rfl) (.pointer (some ⟨w.heap.size, 0, none⟩)) ?he ?_
                case he => (first | rfl | (go_simp; (try with_reducible rfl)))
                (try simp only [Act.put, sA, sB, sC])
                refine wpList_q (by rfl) (.int .i64 a.se) ?he ?_
                case he => exact exec_cell 3 _ _ HBAd14v2.out rfl rfl rfl Try.underlying3 rfl
                (try simp only [Act.put, sA, sB, sC])
                refine wpList_wp (by rfl) (fun K hK => ?_)
                (try go_simp)
                refine (aheadV w.heap.size q1 (btw 64 0 64) (putL (btw 64 0 64) ms (af k)) Sq_3 a.se _ HFqd14v2.out (by have q1 := HLEN2.out; omega) j HAT2.out).mono ?_
                rintro e w106 ⟨rfl, hb⟩
                (try go_wp2_with fail)
                refine hK.out _ _ ?_
                clear hK K
                (try simp only [Act.put, sA, sB, sC])
                have HS106 := Lib.hid (Since.trans HSd14v2.out hb)
                have HBA106 := Lib.hid (keep_blk hb HBAd14v2.out)
                have HFq106 := Lib.hid (QO.keep hb HFqd14v2.out)
                clear HSd14v2 HBAd14v2 HFqd14v2
                clear hb
                refine wpList_q (by rfl) (.tuple #[.int .i64 (j : Int), .bool true]) ?he ?_
                case he => (first | rfl | (go_simp; (try with_reducible rfl)))
                (try simp only [Act.put, sA, sB, sC])
                refine wpList_q (by rfl) (.int .i64 (j : Int)) ?he ?_
                case he => (first | rfl | (go_simp; (try with_reducible rfl)))
                (try simp only [Act.put, sA, sB, sC])
                refine wpList_q (by rfl) (.bool true) ?he ?_
                case he => (first | rfl | (go_simp; (try with_reducible rfl)))
                (try simp only [Act.put, sA, sB, sC])
                refine wpList_q (by rfl) (.int .i64 (j : Int)) ?he ?_
                case he => (first | rfl | (go_simp; (try with_reducible rfl)))
                (try simp only [Act.put, sA, sB, sC])
                refine wpList_q (by rfl) (.bool true) ?he ?_
                case he => (first | rfl | (go_simp; (try with_reducible rfl)))
                (try simp only [Act.put, sA, sB, sC])
                refine wpList_nil ?_
                go_upto_region 17 with fail
                refine wp_region_lit ?_
                refine wpList_q (by rfl) (.bool true) ?he ?_
                case he => (first | rfl | (go_simp; (try with_reducible rfl)))
                (try simp only [Act.put, sA, sB, sC])
                refine wpList_q (by rfl) (.bool false) ?he ?_
                case he => (go_simp; (try with_reducible rfl))
                (try simp only [Act.put, sA, sB, sC])
                refine wpList_q (by rfl) (.bool false) ?he ?_
                case he => (first | rfl | (go_simp; (try with_reducible rfl)))
                (try simp only [Act.put, sA, sB, sC])
                refine wpList_q (by rfl) (.int .i64 (j : Int)) ?he ?_
                case he => (first | rfl | (go_simp; (try with_reducible rfl)))
                (try simp only [Act.put, sA, sB, sC])
                refine wpList_q (by rfl) (.int .i64 n) ?he ?_
                case he => (first | rfl | (go_simp; (try with_reducible rfl)))
                (try simp only [Act.put, sA, sB, sC])
                refine wpList_q (by rfl) (.bool false) ?he ?_
                case he => (have q0 := HJN.out; have q1 := Nat.le_refl j; go_simp; (first | done | omega))
                (try simp only [Act.put, sA, sB, sC])
                refine wpList_q (by rfl) (.bool false) ?he ?_
                case he => (first | rfl | (go_simp; (try with_reducible rfl)))
                (try simp only [Act.put, sA, sB, sC])
                refine wpList_nil ?_
                go_upto_region 19 with fail
                refine wp_region_lit ?_
                refine wpList_q (by rfl) (.int .i64 (j : Int)) ?he ?_
                case he => (first | rfl | (go_simp; (try with_reducible rfl)))
                (try simp only [Act.put, sA, sB, sC])
                refine wpList_q (by rfl) (.int .i64 (j : Int)) ?he ?_
                case he => (first | rfl | (go_simp; (try with_reducible rfl)))
                (try simp only [Act.put, sA, sB, sC])
                refine wpList_nil ?_
                go_upto_region 12 with fail
                refine wp_region_lit ?_
                refine wpList_q (by rfl) (.int .i64 (k : Int)) ?he ?_
                case he => (first | rfl | (go_simp; (try with_reducible rfl)))
                (try simp only [Act.put, sA, sB, sC])
                refine wpList_q (by rfl) (.int .i64 ((k : Int) + 1)) ?he ?_
                case he => (go_simp; (first | done | (refine wr64 _ ?_ ?_ <;> (have q0 := HLM.out; omega)) | (have q0 := HLM.out; omega) | (have q0 := HLM.out; split <;> omega) | (have q0 := HLM.out; intro hh; omega)))
                (try simp only [Act.put, sA, sB, sC])
                refine wpList_q (by rfl) (.int .i64 ((k : Int) + 1)) ?he ?_
                case he => (first | rfl | (go_simp; (try with_reducible rfl)))
                (try simp only [Act.put, sA, sB, sC])
                refine wpList_nil ?_
                go_wp2_with fail
                go_roundw
                case rel => exact ⟨k + 1, j, (j : Int), (putL (btw 64 0 64) ms (af k)), Sq_3, by have := HLM.out; omega, by have := HLT.out; omega, rfl, by go_num, Lib.hid ⟨HLEN2.out, HAT2.out, Int.le_refl _, HIA_q_105.out, HS106.out, HBA106.out, HFq106.out⟩⟩
                case measure => have := HLT.out; simp [intOf]; omega
              · have HDL2 := Lib.hid hcs; clear hcs
                obtain ⟨gd, offd, hAd, hcd⟩ := IV.at_ HD.out HDL2.out
                have hced := hcd k HDL2.out; clear hcd
                subst hAd
                have HCED := Lib.hid hced; clear hced
                by_cases hcs : zs.getD k 0 = a.se
                rotate_left
                · have HDS := Lib.hid hcs; clear hcs
                  go_upto_region 14 with fail
                  have hrK : ∀ W W' : World, Since W W' → (Since w W ∧ Blk W w.heap.size 30 #[.int .i64 a.se, .int .i64 a.fl, .int .i64 a.fm, .int .i64 a.to, .int .i64 a.ma] ∧ QO w.heap.size q1 (btw 64 0 64) (putL (btw 64 0 64) ms (af k)) Sq_3 W) → (Since w W' ∧ Blk W' w.heap.size 30 #[.int .i64 a.se, .int .i64 a.fl, .int .i64 a.fm, .int .i64 a.to, .int .i64 a.ma] ∧ QO w.heap.size q1 (btw 64 0 64) (putL (btw 64 0 64) ms (af k)) Sq_3 W') := fun W W' k ⟨h, h0, h1⟩ => ⟨h.trans k, keep_blk k h0, QO.keep k h1⟩
                  have hrS : (fun W : World => Since w W ∧ Blk W w.heap.size 30 #[.int .i64 a.se, .int .i64 a.fl, .int .i64 a.fm, .int .i64 a.to, .int .i64 a.ma] ∧ QO w.heap.size q1 (btw 64 0 64) (putL (btw 64 0 64) ms (af k)) Sq_3 W) w105 := ⟨HS105.out, HBA105.out, HFq105.out⟩
                  have HRK := Lib.hid hrK
                  have HRD := Lib.hid (show (fun W : World => Since w W ∧ Blk W w.heap.size 30 #[.int .i64 a.se, .int .i64 a.fl, .int .i64 a.fm, .int .i64 a.to, .int .i64 a.ma] ∧ QO w.heap.size q1 (btw 64 0 64) (putL (btw 64 0 64) ms (af k)) Sq_3 W) (World.drew w105) from ⟨Since.drew hrS.1, hrS.2⟩)
                  clear hrK hrS
                  refine wp_region_held_drew (S := fun W : World => Since w W ∧ Blk W w.heap.size 30 #[.int .i64 a.se, .int .i64 a.fl, .int .i64 a.fm, .int .i64 a.to, .int .i64 a.ma] ∧ QO w.heap.size q1 (btw 64 0 64) (putL (btw 64 0 64) ms (af k)) Sq_3 W) (by kernel_rfl) HRD.out (fun hHeld => ?_)
                  refine wpAnyH_take (i := 0) (oi := ?o14__0) (v := .int .i64 (k : Int)) ?h14__0 (by kernel_rfl) (by kernel_rfl) (by kernel_rfl) ?q14__0 ?y14__0 (by assumption) ?_
                  case h14__0 => (first | (simp only [gA, gB, gC]; done) | (simp only [gA, gB, gC]; exact rfl))
                  case q14__0 => exact fun _ _ _ h => h
                  case y14__0 => (refine Or.inl ⟨rfl, ?_⟩; intro w hSw; (first | rfl | (go_simp; (try with_reducible rfl))))
                  (try simp only [Act.put, sA, sB, sC])
                  refine wpAnyH_take (i := 1) (oi := ?o14__1) (v := .slice (some ⟨gd, offd, none⟩) dn dc) ?h14__1 (by kernel_rfl) (by kernel_rfl) (by kernel_rfl) ?q14__1 ?y14__1 (by assumption) ?_
                  case h14__1 => (first | (simp only [gA, gB, gC]; done) | (simp only [gA, gB, gC]; exact rfl))
                  case q14__1 => exact fun _ _ _ h => h
                  case y14__1 => (refine Or.inl ⟨rfl, ?_⟩; intro w hSw; (first | rfl | (go_simp; (try with_reducible rfl))))
                  (try simp only [Act.put, sA, sB, sC])
                  refine wpAnyH_take (i := 2) (oi := ?o14__2) (v := .int .i64 (dn : Int)) ?h14__2 (by kernel_rfl) (by kernel_rfl) (by kernel_rfl) ?q14__2 ?y14__2 (by assumption) ?_
                  case h14__2 => (first | (simp only [gA, gB, gC]; done) | (simp only [gA, gB, gC]; exact rfl))
                  case q14__2 => exact fun _ _ _ h => h
                  case y14__2 => (refine Or.inl ⟨rfl, ?_⟩; intro w hSw; (first | rfl | (go_simp; (try with_reducible rfl))))
                  (try simp only [Act.put, sA, sB, sC])
                  refine wpAnyH_take (i := 3) (oi := ?o14__3) (v := .bool true) ?h14__3 (by kernel_rfl) (by kernel_rfl) (by kernel_rfl) ?q14__3 ?y14__3 (by assumption) ?_
                  case h14__3 => (first | (simp only [gA, gB, gC]; done) | (simp only [gA, gB, gC]; exact rfl))
                  case q14__3 => exact fun _ _ _ h => h
                  case y14__3 => (refine Or.inl ⟨rfl, ?_⟩; intro w hSw; (have q0 := HDL2.out; go_simp; (first | done | rfl | omega)))
                  (try simp only [Act.put, sA, sB, sC])
                  refine wpAnyH_take (i := 4) (oi := ?o14__4) (v := .bool true) ?h14__4 (by kernel_rfl) (by kernel_rfl) (by kernel_rfl) ?q14__4 ?y14__4 (by assumption) ?_
                  case h14__4 => (first | (simp only [gA, gB, gC]; done) | (simp only [gA, gB, gC]; exact rfl))
                  case q14__4 => exact fun _ _ _ h => h
                  case y14__4 => (refine Or.inl ⟨rfl, ?_⟩; intro w hSw; (first | rfl | (go_simp; (try with_reducible rfl))))
                  (try simp only [Act.put, sA, sB, sC])
                  refine wpAnyH_take (i := 5) (oi := ?o14__5) (v := .slice (some ⟨gd, offd, none⟩) dn dc) ?h14__5 (by kernel_rfl) (by kernel_rfl) (by kernel_rfl) ?q14__5 ?y14__5 (by assumption) ?_
                  case h14__5 => (first | (simp only [gA, gB, gC]; done) | (simp only [gA, gB, gC]; exact rfl))
                  case q14__5 => exact fun _ _ _ h => h
                  case y14__5 => (refine Or.inl ⟨rfl, ?_⟩; intro w hSw; (first | rfl | (go_simp; (try with_reducible rfl))))
                  (try simp only [Act.put, sA, sB, sC])
                  refine wpAnyH_take (i := 6) (oi := ?o14__6) (v := .int .i64 (k : Int)) ?h14__6 (by kernel_rfl) (by kernel_rfl) (by kernel_rfl) ?q14__6 ?y14__6 (by assumption) ?_
                  case h14__6 => (first | (simp only [gA, gB, gC]; done) | (simp only [gA, gB, gC]; exact rfl))
                  case q14__6 => exact fun _ _ _ h => h
                  case y14__6 => (refine Or.inl ⟨rfl, ?_⟩; intro w hSw; (first | rfl | (go_simp; (try with_reducible rfl))))
                  (try simp only [Act.put, sA, sB, sC])
                  refine wpAnyH_take (i := 7) (oi := ?o14__7) (v := .pointer (some ⟨gd, (offd + k * 1), none⟩)) ?h14__7 (by kernel_rfl) (by kernel_rfl) (by kernel_rfl) ?q14__7 ?y14__7 (by assumption) ?_
                  case h14__7 => (first | (simp only [gA, gB, gC]; done) | (simp only [gA, gB, gC]; exact rfl))
                  case q14__7 => exact fun _ _ _ h => h
                  case y14__7 => (refine Or.inl ⟨rfl, ?_⟩; intro w hSw; exact exec_index (i := k) 36 3 _ _ rfl rfl rfl rfl HDL2.out Try.underlying36 (by kernel_rfl))
                  (try simp only [Act.put, sA, sB, sC])
                  refine wpAnyH_take (i := 8) (oi := ?o14__8) (v := .int .i64 (zs.getD k 0)) ?h14__8 (by kernel_rfl) (by kernel_rfl) (by kernel_rfl) ?q14__8 ?y14__8 (by assumption) ?_
                  case h14__8 => (first | (simp only [gA, gB, gC]; done) | (simp only [gA, gB, gC]; exact rfl))
                  case q14__8 => exact fun _ _ _ h => h
                  case y14__8 => (refine Or.inl ⟨rfl, ?_⟩; intro w hSw; exact exec_at 3 _ _ (by rw [Nat.mul_one]; exact keep_cell hSw.1 HCED.out) rfl rfl Try.underlying3 rfl)
                  (try simp only [Act.put, sA, sB, sC])
                  refine wpAnyH_take (i := 9) (oi := ?o14__9) (v := .pointer (some ⟨w.heap.size, 0, none⟩)) ?h14__9 (by kernel_rfl) (by kernel_rfl) (by kernel_rfl) ?q14__9 ?y14__9 (by assumption) ?_
                  case h14__9 => (first | (simp only [gA, gB, gC]; done) | (simp only [gA, gB, gC]; exact rfl))
                  case q14__9 => exact fun _ _ _ h => h
                  case y14__9 => (refine Or.inl ⟨rfl, ?_⟩; intro w hSw; (first | rfl | (go_simp; (try with_reducible rfl))))
                  (try simp only [Act.put, sA, sB, sC])
                  refine wpAnyH_take (i := 10) (oi := ?o14__10) (v := .int .i64 a.se) ?h14__10 (by kernel_rfl) (by kernel_rfl) (by kernel_rfl) ?q14__10 ?y14__10 (by assumption) ?_
                  case h14__10 => (first | (simp only [gA, gB, gC]; done) | (simp only [gA, gB, gC]; exact rfl))
                  case q14__10 => exact fun _ _ _ h => h
                  case y14__10 => (refine Or.inl ⟨rfl, ?_⟩; intro w hSw; exact exec_cell 3 _ _ hSw.2.1 rfl rfl rfl Try.underlying3 rfl)
                  (try simp only [Act.put, sA, sB, sC])
                  refine wpAnyH_take (i := 11) (oi := ?o14__11) (v := .bool true) ?h14__11 (by kernel_rfl) (by kernel_rfl) (by kernel_rfl) ?q14__11 ?y14__11 (by assumption) ?_
                  case h14__11 => (first | (simp only [gA, gB, gC]; done) | (simp only [gA, gB, gC]; exact rfl))
                  case q14__11 => exact fun _ _ _ h => h
                  case y14__11 => (refine Or.inl ⟨rfl, ?_⟩; intro w hSw; (have q := HDS.out; go_simp; (first | done | exact q | (simp [q]; done))))
                  (try simp only [Act.put, sA, sB, sC])
                  refine wpAnyH_take (i := 12) (oi := ?o14__12) (v := .bool true) ?h14__12 (by kernel_rfl) (by kernel_rfl) (by kernel_rfl) ?q14__12 ?y14__12 (by assumption) ?_
                  case h14__12 => (first | (simp only [gA, gB, gC]; done) | (simp only [gA, gB, gC]; exact rfl))
                  case q14__12 => exact fun _ _ _ h => h
                  case y14__12 => (refine Or.inl ⟨rfl, ?_⟩; intro w hSw; (first | rfl | (go_simp; (try with_reducible rfl))))
                  (try simp only [Act.put, sA, sB, sC])
                  refine wpAnyH_done (by kernel_rfl) ?_ _
                  have HSd14v2 := Lib.hid hHeld.1
                  have HBAd14v2 := Lib.hid (hHeld.2.1)
                  have HFqd14v2 := Lib.hid (hHeld.2.2)
                  clear hHeld HRK HRD HS105 HBA105 HFq105
                  go_upto_region 15 with fail
                  refine wp_region_lit ?_
                  refine wpList_q (by rfl) (.pointer (some ⟨q1, 0, none⟩)) ?he ?_
                  case he => (first | rfl | (go_simp; (try with_reducible rfl)))
                  (try simp only [Act.put, sA, sB, sC])
                  refine wpList_q (by rfl) (.slice (some ⟨gd, offd, none⟩) dn dc) ?he ?_
                  case he => (first | rfl | (go_simp; (try with_reducible rfl)))
                  (try simp only [Act.put, sA, sB, sC])
                  refine wpList_q (by rfl) (.int .i64 (k : Int)) ?he ?_
                  case he => (first | rfl | (go_simp; (try with_reducible rfl)))
                  (try simp only [Act.put, sA, sB, sC])
                  refine wpList_q (by rfl) (.pointer (some ⟨gd, (offd + k * 1), none⟩)) ?he ?_
                  case he => exact exec_index (i := k) 36 3 _ _ rfl rfl rfl rfl HDL2.out Try.underlying36 (by kernel_rfl)
                  (try simp only [Act.put, sA, sB, sC])
                  refine wpList_q (by rfl) (.int .i64 (zs.getD k 0)) ?he ?_
                  case he => exact exec_at 3 _ _ (by rw [Nat.mul_one]; exact keep_cell HSd14v2.out HCED.out) rfl rfl Try.underlying3 rfl
                  (try simp only [Act.put, sA, sB, sC])
                  refine wpList_wp (by rfl) (fun K hK => ?_)
                  (try go_simp)
                  refine (dropV w.heap.size q1 (btw 64 0 64) (putL (btw 64 0 64) ms (af k)) Sq_3 (zs.getD k 0) _ HFqd14v2.out (by have q1 := HLEN1.out; omega) (atS (putL (btw 64 0 64) ms (af k)) (zs.getD k 0)).isSome (dropL (putL (btw 64 0 64) ms (af k)) (zs.getD k 0)) rfl rfl).mono ?_
                  rintro e w106 ⟨Sq_4, rfl, hobj, hupd, hfar⟩
                  (try go_wp2_with fail)
                  refine hK.out _ _ ?_
                  clear hK K
                  (try simp only [Act.put, sA, sB, sC])
                  have HS106 := Lib.hid (Since.upd HSd14v2.out hupd (QO.low HFqd14v2.out))
                  have HBA106 := Lib.hid (Upd.blk hupd HBAd14v2.out HIA_q_105.out)
                  have HIA_q_106 := Lib.hid (nin_next hfar HIA_q_105.out (Blk.lt HBAd14v2.out))
                  have HFq106 := Lib.hid hobj
                  clear hupd hobj hfar HSd14v2 HBAd14v2 HFqd14v2
                  refine wpList_nil ?_
                  obtain ⟨j', hj', hat'⟩ := at_drop HAT1.out HDS.out
                  have HJ := Lib.hid hj'; have HAT2 := Lib.hid hat'; clear hj' hat'
                  have HLEN2 := Lib.hid (Nat.le_trans (len_drop (putL (btw 64 0 64) ms (af k)) (zs.getD k 0)) HLEN1.out); clear HAT1 HLEN1
                  go_upto_region 16 with fail
                  refine wp_region_lit ?_
                  refine wpList_q (by rfl) (.pointer (some ⟨q1, 0, none⟩)) ?he ?_
                  case he => (first | rfl | (go_simp; (try with_reducible rfl)))
                  (try simp only [Act.put, sA, sB, sC])
                  refine wpList_q (by rfl) (.pointer (some ⟨w.heap.size, 0, none⟩)) ?he ?_
                  case he => (first | rfl | (go_simp; (try with_reducible rfl)))
                  (try simp only [Act.put, sA, sB, sC])
                  refine wpList_q (by rfl) (.int .i64 a.se) ?he ?_
                  case he => exact exec_cell 3 _ _ HBA106.out rfl rfl rfl Try.underlying3 rfl
                  (try simp only [Act.put, sA, sB, sC])
                  refine wpList_wp (by rfl) (fun K hK => ?_)
                  (try go_simp)
                  refine (aheadV w.heap.size q1 (btw 64 0 64) (dropL (putL (btw 64 0 64) ms (af k)) (zs.getD k 0)) Sq_4 a.se _ HFq106.out (by have q1 := HLEN2.out; omega) j' HAT2.out).mono ?_
                  rintro e w107 ⟨rfl, hb⟩
                  (try go_wp2_with fail)
                  refine hK.out _ _ ?_
                  clear hK K
                  (try simp only [Act.put, sA, sB, sC])
                  have HS107 := Lib.hid (Since.trans HS106.out hb)
                  have HBA107 := Lib.hid (keep_blk hb HBA106.out)
                  have HFq107 := Lib.hid (QO.keep hb HFq106.out)
                  clear HS106 HBA106 HFq106
                  clear hb
                  refine wpList_q (by rfl) (.tuple #[.int .i64 (j' : Int), .bool true]) ?he ?_
                  case he => (first | rfl | (go_simp; (try with_reducible rfl)))
                  (try simp only [Act.put, sA, sB, sC])
                  refine wpList_q (by rfl) (.int .i64 (j' : Int)) ?he ?_
                  case he => (first | rfl | (go_simp; (try with_reducible rfl)))
                  (try simp only [Act.put, sA, sB, sC])
                  refine wpList_q (by rfl) (.bool true) ?he ?_
                  case he => (first | rfl | (go_simp; (try with_reducible rfl)))
                  (try simp only [Act.put, sA, sB, sC])
                  refine wpList_q (by rfl) (.int .i64 (j' : Int)) ?he ?_
                  case he => (first | rfl | (go_simp; (try with_reducible rfl)))
                  (try simp only [Act.put, sA, sB, sC])
                  refine wpList_q (by rfl) (.bool true) ?he ?_
                  case he => (first | rfl | (go_simp; (try with_reducible rfl)))
                  (try simp only [Act.put, sA, sB, sC])
                  refine wpList_nil ?_
                  go_upto_region 17 with fail
                  refine wp_region_lit ?_
                  refine wpList_q (by rfl) (.bool true) ?he ?_
                  case he => (first | rfl | (go_simp; (try with_reducible rfl)))
                  (try simp only [Act.put, sA, sB, sC])
                  refine wpList_q (by rfl) (.bool false) ?he ?_
                  case he => (go_simp; (try with_reducible rfl))
                  (try simp only [Act.put, sA, sB, sC])
                  refine wpList_q (by rfl) (.bool false) ?he ?_
                  case he => (first | rfl | (go_simp; (try with_reducible rfl)))
                  (try simp only [Act.put, sA, sB, sC])
                  refine wpList_q (by rfl) (.int .i64 (j' : Int)) ?he ?_
                  case he => (first | rfl | (go_simp; (try with_reducible rfl)))
                  (try simp only [Act.put, sA, sB, sC])
                  refine wpList_q (by rfl) (.int .i64 n) ?he ?_
                  case he => (first | rfl | (go_simp; (try with_reducible rfl)))
                  (try simp only [Act.put, sA, sB, sC])
                  refine wpList_q (by rfl) (.bool false) ?he ?_
                  case he => (have q0 := HJN.out; have q1 := HJ.out; go_simp; (first | done | omega))
                  (try simp only [Act.put, sA, sB, sC])
                  refine wpList_q (by rfl) (.bool false) ?he ?_
                  case he => (first | rfl | (go_simp; (try with_reducible rfl)))
                  (try simp only [Act.put, sA, sB, sC])
                  refine wpList_nil ?_
                  go_upto_region 19 with fail
                  refine wp_region_lit ?_
                  refine wpList_q (by rfl) (.int .i64 (j' : Int)) ?he ?_
                  case he => (first | rfl | (go_simp; (try with_reducible rfl)))
                  (try simp only [Act.put, sA, sB, sC])
                  refine wpList_q (by rfl) (.int .i64 (j' : Int)) ?he ?_
                  case he => (first | rfl | (go_simp; (try with_reducible rfl)))
                  (try simp only [Act.put, sA, sB, sC])
                  refine wpList_nil ?_
                  go_upto_region 12 with fail
                  refine wp_region_lit ?_
                  refine wpList_q (by rfl) (.int .i64 (k : Int)) ?he ?_
                  case he => (first | rfl | (go_simp; (try with_reducible rfl)))
                  (try simp only [Act.put, sA, sB, sC])
                  refine wpList_q (by rfl) (.int .i64 ((k : Int) + 1)) ?he ?_
                  case he => (go_simp; (first | done | (refine wr64 _ ?_ ?_ <;> (have q0 := HLM.out; omega)) | (have q0 := HLM.out; omega) | (have q0 := HLM.out; split <;> omega) | (have q0 := HLM.out; intro hh; omega)))
                  (try simp only [Act.put, sA, sB, sC])
                  refine wpList_q (by rfl) (.int .i64 ((k : Int) + 1)) ?he ?_
                  case he => (first | rfl | (go_simp; (try with_reducible rfl)))
                  (try simp only [Act.put, sA, sB, sC])
                  refine wpList_nil ?_
                  go_wp2_with fail
                  go_roundw
                  case rel => exact ⟨k + 1, j', (j' : Int), (dropL (putL (btw 64 0 64) ms (af k)) (zs.getD k 0)), Sq_4, by have := HLM.out; omega, by have := HLT.out; omega, rfl, by go_num, Lib.hid ⟨HLEN2.out, HAT2.out, Int.le_refl _, HIA_q_106.out, HS107.out, HBA107.out, HFq107.out⟩⟩
                  case measure => have := HLT.out; simp [intOf]; omega
                · have HDS := Lib.hid hcs; clear hcs
                  go_upto_region 14 with fail
                  have hrK : ∀ W W' : World, Since W W' → (Since w W ∧ Blk W w.heap.size 30 #[.int .i64 a.se, .int .i64 a.fl, .int .i64 a.fm, .int .i64 a.to, .int .i64 a.ma] ∧ QO w.heap.size q1 (btw 64 0 64) (putL (btw 64 0 64) ms (af k)) Sq_3 W) → (Since w W' ∧ Blk W' w.heap.size 30 #[.int .i64 a.se, .int .i64 a.fl, .int .i64 a.fm, .int .i64 a.to, .int .i64 a.ma] ∧ QO w.heap.size q1 (btw 64 0 64) (putL (btw 64 0 64) ms (af k)) Sq_3 W') := fun W W' k ⟨h, h0, h1⟩ => ⟨h.trans k, keep_blk k h0, QO.keep k h1⟩
                  have hrS : (fun W : World => Since w W ∧ Blk W w.heap.size 30 #[.int .i64 a.se, .int .i64 a.fl, .int .i64 a.fm, .int .i64 a.to, .int .i64 a.ma] ∧ QO w.heap.size q1 (btw 64 0 64) (putL (btw 64 0 64) ms (af k)) Sq_3 W) w105 := ⟨HS105.out, HBA105.out, HFq105.out⟩
                  have HRK := Lib.hid hrK
                  have HRD := Lib.hid (show (fun W : World => Since w W ∧ Blk W w.heap.size 30 #[.int .i64 a.se, .int .i64 a.fl, .int .i64 a.fm, .int .i64 a.to, .int .i64 a.ma] ∧ QO w.heap.size q1 (btw 64 0 64) (putL (btw 64 0 64) ms (af k)) Sq_3 W) (World.drew w105) from ⟨Since.drew hrS.1, hrS.2⟩)
                  clear hrK hrS
                  refine wp_region_held_drew (S := fun W : World => Since w W ∧ Blk W w.heap.size 30 #[.int .i64 a.se, .int .i64 a.fl, .int .i64 a.fm, .int .i64 a.to, .int .i64 a.ma] ∧ QO w.heap.size q1 (btw 64 0 64) (putL (btw 64 0 64) ms (af k)) Sq_3 W) (by kernel_rfl) HRD.out (fun hHeld => ?_)
                  refine wpAnyH_take (i := 0) (oi := ?o14__0) (v := .int .i64 (k : Int)) ?h14__0 (by kernel_rfl) (by kernel_rfl) (by kernel_rfl) ?q14__0 ?y14__0 (by assumption) ?_
                  case h14__0 => (first | (simp only [gA, gB, gC]; done) | (simp only [gA, gB, gC]; exact rfl))
                  case q14__0 => exact fun _ _ _ h => h
                  case y14__0 => (refine Or.inl ⟨rfl, ?_⟩; intro w hSw; (first | rfl | (go_simp; (try with_reducible rfl))))
                  (try simp only [Act.put, sA, sB, sC])
                  refine wpAnyH_take (i := 1) (oi := ?o14__1) (v := .slice (some ⟨gd, offd, none⟩) dn dc) ?h14__1 (by kernel_rfl) (by kernel_rfl) (by kernel_rfl) ?q14__1 ?y14__1 (by assumption) ?_
                  case h14__1 => (first | (simp only [gA, gB, gC]; done) | (simp only [gA, gB, gC]; exact rfl))
                  case q14__1 => exact fun _ _ _ h => h
                  case y14__1 => (refine Or.inl ⟨rfl, ?_⟩; intro w hSw; (first | rfl | (go_simp; (try with_reducible rfl))))
                  (try simp only [Act.put, sA, sB, sC])
                  refine wpAnyH_take (i := 2) (oi := ?o14__2) (v := .int .i64 (dn : Int)) ?h14__2 (by kernel_rfl) (by kernel_rfl) (by kernel_rfl) ?q14__2 ?y14__2 (by assumption) ?_
                  case h14__2 => (first | (simp only [gA, gB, gC]; done) | (simp only [gA, gB, gC]; exact rfl))
                  case q14__2 => exact fun _ _ _ h => h
                  case y14__2 => (refine Or.inl ⟨rfl, ?_⟩; intro w hSw; (first | rfl | (go_simp; (try with_reducible rfl))))
                  (try simp only [Act.put, sA, sB, sC])
                  refine wpAnyH_take (i := 3) (oi := ?o14__3) (v := .bool true) ?h14__3 (by kernel_rfl) (by kernel_rfl) (by kernel_rfl) ?q14__3 ?y14__3 (by assumption) ?_
                  case h14__3 => (first | (simp only [gA, gB, gC]; done) | (simp only [gA, gB, gC]; exact rfl))
                  case q14__3 => exact fun _ _ _ h => h
                  case y14__3 => (refine Or.inl ⟨rfl, ?_⟩; intro w hSw; (have q0 := HDL2.out; go_simp; (first | done | rfl | omega)))
                  (try simp only [Act.put, sA, sB, sC])
                  refine wpAnyH_take (i := 4) (oi := ?o14__4) (v := .bool true) ?h14__4 (by kernel_rfl) (by kernel_rfl) (by kernel_rfl) ?q14__4 ?y14__4 (by assumption) ?_
                  case h14__4 => (first | (simp only [gA, gB, gC]; done) | (simp only [gA, gB, gC]; exact rfl))
                  case q14__4 => exact fun _ _ _ h => h
                  case y14__4 => (refine Or.inl ⟨rfl, ?_⟩; intro w hSw; (first | rfl | (go_simp; (try with_reducible rfl))))
                  (try simp only [Act.put, sA, sB, sC])
                  refine wpAnyH_take (i := 5) (oi := ?o14__5) (v := .slice (some ⟨gd, offd, none⟩) dn dc) ?h14__5 (by kernel_rfl) (by kernel_rfl) (by kernel_rfl) ?q14__5 ?y14__5 (by assumption) ?_
                  case h14__5 => (first | (simp only [gA, gB, gC]; done) | (simp only [gA, gB, gC]; exact rfl))
                  case q14__5 => exact fun _ _ _ h => h
                  case y14__5 => (refine Or.inl ⟨rfl, ?_⟩; intro w hSw; (first | rfl | (go_simp; (try with_reducible rfl))))
                  (try simp only [Act.put, sA, sB, sC])
                  refine wpAnyH_take (i := 6) (oi := ?o14__6) (v := .int .i64 (k : Int)) ?h14__6 (by kernel_rfl) (by kernel_rfl) (by kernel_rfl) ?q14__6 ?y14__6 (by assumption) ?_
                  case h14__6 => (first | (simp only [gA, gB, gC]; done) | (simp only [gA, gB, gC]; exact rfl))
                  case q14__6 => exact fun _ _ _ h => h
                  case y14__6 => (refine Or.inl ⟨rfl, ?_⟩; intro w hSw; (first | rfl | (go_simp; (try with_reducible rfl))))
                  (try simp only [Act.put, sA, sB, sC])
                  refine wpAnyH_take (i := 7) (oi := ?o14__7) (v := .pointer (some ⟨gd, (offd + k * 1), none⟩)) ?h14__7 (by kernel_rfl) (by kernel_rfl) (by kernel_rfl) ?q14__7 ?y14__7 (by assumption) ?_
                  case h14__7 => (first | (simp only [gA, gB, gC]; done) | (simp only [gA, gB, gC]; exact rfl))
                  case q14__7 => exact fun _ _ _ h => h
                  case y14__7 => (refine Or.inl ⟨rfl, ?_⟩; intro w hSw; exact exec_index (i := k) 36 3 _ _ rfl rfl rfl rfl HDL2.out Try.underlying36 (by kernel_rfl))
                  (try simp only [Act.put, sA, sB, sC])
                  refine wpAnyH_take (i := 8) (oi := ?o14__8) (v := .int .i64 (zs.getD k 0)) ?h14__8 (by kernel_rfl) (by kernel_rfl) (by kernel_rfl) ?q14__8 ?y14__8 (by assumption) ?_
                  case h14__8 => (first | (simp only [gA, gB, gC]; done) | (simp only [gA, gB, gC]; exact rfl))
                  case q14__8 => exact fun _ _ _ h => h
                  case y14__8 => (refine Or.inl ⟨rfl, ?_⟩; intro w hSw; exact exec_at 3 _ _ (by rw [Nat.mul_one]; exact keep_cell hSw.1 HCED.out) rfl rfl Try.underlying3 rfl)
                  (try simp only [Act.put, sA, sB, sC])
                  refine wpAnyH_take (i := 9) (oi := ?o14__9) (v := .pointer (some ⟨w.heap.size, 0, none⟩)) ?h14__9 (by kernel_rfl) (by kernel_rfl) (by kernel_rfl) ?q14__9 ?y14__9 (by assumption) ?_
                  case h14__9 => (first | (simp only [gA, gB, gC]; done) | (simp only [gA, gB, gC]; exact rfl))
                  case q14__9 => exact fun _ _ _ h => h
                  case y14__9 => (refine Or.inl ⟨rfl, ?_⟩; intro w hSw; (first | rfl | (go_simp; (try with_reducible rfl))))
                  (try simp only [Act.put, sA, sB, sC])
                  refine wpAnyH_take (i := 10) (oi := ?o14__10) (v := .int .i64 a.se) ?h14__10 (by kernel_rfl) (by kernel_rfl) (by kernel_rfl) ?q14__10 ?y14__10 (by assumption) ?_
                  case h14__10 => (first | (simp only [gA, gB, gC]; done) | (simp only [gA, gB, gC]; exact rfl))
                  case q14__10 => exact fun _ _ _ h => h
                  case y14__10 => (refine Or.inl ⟨rfl, ?_⟩; intro w hSw; exact exec_cell 3 _ _ hSw.2.1 rfl rfl rfl Try.underlying3 rfl)
                  (try simp only [Act.put, sA, sB, sC])
                  refine wpAnyH_take (i := 11) (oi := ?o14__11) (v := .bool false) ?h14__11 (by kernel_rfl) (by kernel_rfl) (by kernel_rfl) ?q14__11 ?y14__11 (by assumption) ?_
                  case h14__11 => (first | (simp only [gA, gB, gC]; done) | (simp only [gA, gB, gC]; exact rfl))
                  case q14__11 => exact fun _ _ _ h => h
                  case y14__11 => (refine Or.inl ⟨rfl, ?_⟩; intro w hSw; (have q := HDS.out; go_simp; (first | done | exact q | (simp [q]; done))))
                  (try simp only [Act.put, sA, sB, sC])
                  refine wpAnyH_take (i := 12) (oi := ?o14__12) (v := .bool false) ?h14__12 (by kernel_rfl) (by kernel_rfl) (by kernel_rfl) ?q14__12 ?y14__12 (by assumption) ?_
                  case h14__12 => (first | (simp only [gA, gB, gC]; done) | (simp only [gA, gB, gC]; exact rfl))
                  case q14__12 => exact fun _ _ _ h => h
                  case y14__12 => (refine Or.inl ⟨rfl, ?_⟩; intro w hSw; (first | rfl | (go_simp; (try with_reducible rfl))))
                  (try simp only [Act.put, sA, sB, sC])
                  refine wpAnyH_done (by kernel_rfl) ?_ _
                  have HSd14v2 := Lib.hid hHeld.1
                  have HBAd14v2 := Lib.hid (hHeld.2.1)
                  have HFqd14v2 := Lib.hid (hHeld.2.2)
                  clear hHeld HRK HRD HS105 HBA105 HFq105
                  have HAT2 := Lib.hid HAT1.out; have HLEN2 := Lib.hid HLEN1.out; clear HAT1 HLEN1
                  go_upto_region 16 with fail
                  refine wp_region_lit ?_
                  refine wpList_q (by rfl) (.pointer (some ⟨q1, 0, none⟩)) ?he ?_
                  case he => (first | rfl | (go_simp; (try with_reducible rfl)))
                  (try simp only [Act.put, sA, sB, sC])
                  refine wpList_q (by rfl) (.pointer (some ⟨w.heap.size, 0, none⟩)) ?he ?_
                  case he => (first | rfl | (go_simp; (try with_reducible rfl)))
                  (try simp only [Act.put, sA, sB, sC])
                  refine wpList_q (by rfl) (.int .i64 a.se) ?he ?_
                  case he => exact exec_cell 3 _ _ HBAd14v2.out rfl rfl rfl Try.underlying3 rfl
                  (try simp only [Act.put, sA, sB, sC])
                  refine wpList_wp (by rfl) (fun K hK => ?_)
                  (try go_simp)
                  refine (aheadV w.heap.size q1 (btw 64 0 64) (putL (btw 64 0 64) ms (af k)) Sq_3 a.se _ HFqd14v2.out (by have q1 := HLEN2.out; omega) j HAT2.out).mono ?_
                  rintro e w106 ⟨rfl, hb⟩
                  (try go_wp2_with fail)
                  refine hK.out _ _ ?_
                  clear hK K
                  (try simp only [Act.put, sA, sB, sC])
                  have HS106 := Lib.hid (Since.trans HSd14v2.out hb)
                  have HBA106 := Lib.hid (keep_blk hb HBAd14v2.out)
                  have HFq106 := Lib.hid (QO.keep hb HFqd14v2.out)
                  clear HSd14v2 HBAd14v2 HFqd14v2
                  clear hb
                  refine wpList_q (by rfl) (.tuple #[.int .i64 (j : Int), .bool true]) ?he ?_
                  case he => (first | rfl | (go_simp; (try with_reducible rfl)))
                  (try simp only [Act.put, sA, sB, sC])
                  refine wpList_q (by rfl) (.int .i64 (j : Int)) ?he ?_
                  case he => (first | rfl | (go_simp; (try with_reducible rfl)))
                  (try simp only [Act.put, sA, sB, sC])
                  refine wpList_q (by rfl) (.bool true) ?he ?_
                  case he => (first | rfl | (go_simp; (try with_reducible rfl)))
                  (try simp only [Act.put, sA, sB, sC])
                  refine wpList_q (by rfl) (.int .i64 (j : Int)) ?he ?_
                  case he => (first | rfl | (go_simp; (try with_reducible rfl)))
                  (try simp only [Act.put, sA, sB, sC])
                  refine wpList_q (by rfl) (.bool true) ?he ?_
                  case he => (first | rfl | (go_simp; (try with_reducible rfl)))
                  (try simp only [Act.put, sA, sB, sC])
                  refine wpList_nil ?_
                  go_upto_region 17 with fail
                  refine wp_region_lit ?_
                  refine wpList_q (by rfl) (.bool true) ?he ?_
                  case he => (first | rfl | (go_simp; (try with_reducible rfl)))
                  (try simp only [Act.put, sA, sB, sC])
                  refine wpList_q (by rfl) (.bool false) ?he ?_
                  case he => (go_simp; (try with_reducible rfl))
                  (try simp only [Act.put, sA, sB, sC])
                  refine wpList_q (by rfl) (.bool false) ?he ?_
                  case he => (first | rfl | (go_simp; (try with_reducible rfl)))
                  (try simp only [Act.put, sA, sB, sC])
                  refine wpList_q (by rfl) (.int .i64 (j : Int)) ?he ?_
                  case he => (first | rfl | (go_simp; (try with_reducible rfl)))
                  (try simp only [Act.put, sA, sB, sC])
                  refine wpList_q (by rfl) (.int .i64 n) ?he ?_
                  case he => (first | rfl | (go_simp; (try with_reducible rfl)))
                  (try simp only [Act.put, sA, sB, sC])
                  refine wpList_q (by rfl) (.bool false) ?he ?_
                  case he => (have q0 := HJN.out; have q1 := Nat.le_refl j; go_simp; (first | done | omega))
                  (try simp only [Act.put, sA, sB, sC])
                  refine wpList_q (by rfl) (.bool false) ?he ?_
                  case he => (first | rfl | (go_simp; (try with_reducible rfl)))
                  (try simp only [Act.put, sA, sB, sC])
                  refine wpList_nil ?_
                  go_upto_region 19 with fail
                  refine wp_region_lit ?_
                  refine wpList_q (by rfl) (.int .i64 (j : Int)) ?he ?_
                  case he => (first | rfl | (go_simp; (try with_reducible rfl)))
                  (try simp only [Act.put, sA, sB, sC])
                  refine wpList_q (by rfl) (.int .i64 (j : Int)) ?he ?_
                  case he => (first | rfl | (go_simp; (try with_reducible rfl)))
                  (try simp only [Act.put, sA, sB, sC])
                  refine wpList_nil ?_
                  go_upto_region 12 with fail
                  refine wp_region_lit ?_
                  refine wpList_q (by rfl) (.int .i64 (k : Int)) ?he ?_
                  case he => (first | rfl | (go_simp; (try with_reducible rfl)))
                  (try simp only [Act.put, sA, sB, sC])
                  refine wpList_q (by rfl) (.int .i64 ((k : Int) + 1)) ?he ?_
                  case he => (go_simp; (first | done | (refine wr64 _ ?_ ?_ <;> (have q0 := HLM.out; omega)) | (have q0 := HLM.out; omega) | (have q0 := HLM.out; split <;> omega) | (have q0 := HLM.out; intro hh; omega)))
                  (try simp only [Act.put, sA, sB, sC])
                  refine wpList_q (by rfl) (.int .i64 ((k : Int) + 1)) ?he ?_
                  case he => (first | rfl | (go_simp; (try with_reducible rfl)))
                  (try simp only [Act.put, sA, sB, sC])
                  refine wpList_nil ?_
                  go_wp2_with fail
                  go_roundw
                  case rel => exact ⟨k + 1, j, (j : Int), (putL (btw 64 0 64) ms (af k)), Sq_3, by have := HLM.out; omega, by have := HLT.out; omega, rfl, by go_num, Lib.hid ⟨HLEN2.out, HAT2.out, Int.le_refl _, HIA_q_105.out, HS106.out, HBA106.out, HFq106.out⟩⟩
                  case measure => have := HLT.out; simp [intOf]; omega
      · have HLM := Lib.hid hcs; clear hcs
        go_upto_region 3 with fail
        refine wp_region_lit ?_
        refine wpList_q (by rfl) (.int .i64 (k : Int)) ?he ?_
        case he => (first | rfl | (go_simp; (try with_reducible rfl)))
        (try simp only [Act.put, sA, sB, sC])
        refine wpList_q (by rfl) (.slice Ab bn bc) ?he ?_
        case he => (first | rfl | (go_simp; (try with_reducible rfl)))
        (try simp only [Act.put, sA, sB, sC])
        refine wpList_q (by rfl) (.int .i64 (bn : Int)) ?he ?_
        case he => (first | rfl | (go_simp; (try with_reducible rfl)))
        (try simp only [Act.put, sA, sB, sC])
        refine wpList_q (by rfl) (.bool true) ?he ?_
        case he => (have q0 := HLT.out; go_simp; (first | done | rfl | omega))
        (try simp only [Act.put, sA, sB, sC])
        refine wpList_q (by rfl) (.bool true) ?he ?_
        case he => (first | rfl | (go_simp; (try with_reducible rfl)))
        (try simp only [Act.put, sA, sB, sC])
        refine wpList_q (by rfl) (.int .i64 (k : Int)) ?he ?_
        case he => (first | rfl | (go_simp; (try with_reducible rfl)))
        (try simp only [Act.put, sA, sB, sC])
        refine wpList_q (by rfl) (.bool true) ?he ?_
        case he => (have q0 := HLM.out; go_simp; (first | done | rfl | omega))
        (try simp only [Act.put, sA, sB, sC])
        refine wpList_q (by rfl) (.bool true) ?he ?_
        case he => (first | rfl | (go_simp; (try with_reducible rfl)))
        (try simp only [Act.put, sA, sB, sC])
        refine wpList_nil ?_
        obtain ⟨gb, offb, hAb, hbb, hcb⟩ := Al.Asks.at_ HB.out HLT.out
        have hceb := hcb k HLT.out
        clear hcb hbb
        subst hAb
        have HCEb := Lib.hid hceb; clear hceb
        by_cases hcs : (be k).se = a.se
        rotate_left
        · have HSE := Lib.hid hcs; clear hcs
          go_upto_region 5 with fail
          have hrK : ∀ W W' : World, Since W W' → (Since w W ∧ Blk W w.heap.size 30 #[.int .i64 a.se, .int .i64 a.fl, .int .i64 a.fm, .int .i64 a.to, .int .i64 a.ma] ∧ QO w.heap.size q1 (btw 64 0 64) ls Sq W) → (Since w W' ∧ Blk W' w.heap.size 30 #[.int .i64 a.se, .int .i64 a.fl, .int .i64 a.fm, .int .i64 a.to, .int .i64 a.ma] ∧ QO w.heap.size q1 (btw 64 0 64) ls Sq W') := fun W W' k ⟨h, h0, h1⟩ => ⟨h.trans k, keep_blk k h0, QO.keep k h1⟩
          have hrS : (fun W : World => Since w W ∧ Blk W w.heap.size 30 #[.int .i64 a.se, .int .i64 a.fl, .int .i64 a.fm, .int .i64 a.to, .int .i64 a.ma] ∧ QO w.heap.size q1 (btw 64 0 64) ls Sq W) wr := ⟨HS52.out, HBA52.out, HFq52.out⟩
          have HRK := Lib.hid hrK
          have HRD := Lib.hid (show (fun W : World => Since w W ∧ Blk W w.heap.size 30 #[.int .i64 a.se, .int .i64 a.fl, .int .i64 a.fm, .int .i64 a.to, .int .i64 a.ma] ∧ QO w.heap.size q1 (btw 64 0 64) ls Sq W) (World.drew wr) from ⟨Since.drew hrS.1, hrS.2⟩)
          clear hrK hrS
          refine wp_region_held_drew (S := fun W : World => Since w W ∧ Blk W w.heap.size 30 #[.int .i64 a.se, .int .i64 a.fl, .int .i64 a.fm, .int .i64 a.to, .int .i64 a.ma] ∧ QO w.heap.size q1 (btw 64 0 64) ls Sq W) (by kernel_rfl) HRD.out (fun hHeld => ?_)
          refine wpAnyH_take (i := 0) (oi := ?o5__0) (v := .slice (some ⟨gb, offb, none⟩) bn bc) ?h5__0 (by kernel_rfl) (by kernel_rfl) (by kernel_rfl) ?q5__0 ?y5__0 (by assumption) ?_
          case h5__0 => (first | (simp only [gA, gB, gC]; done) | (simp only [gA, gB, gC]; exact rfl))
          case q5__0 => exact fun _ _ _ h => h
          case y5__0 => (refine Or.inl ⟨rfl, ?_⟩; intro w hSw; (first | rfl | (go_simp; (try with_reducible rfl))))
          (try simp only [Act.put, sA, sB, sC])
          refine wpAnyH_take (i := 1) (oi := ?o5__1) (v := .int .i64 (k : Int)) ?h5__1 (by kernel_rfl) (by kernel_rfl) (by kernel_rfl) ?q5__1 ?y5__1 (by assumption) ?_
          case h5__1 => (first | (simp only [gA, gB, gC]; done) | (simp only [gA, gB, gC]; exact rfl))
          case q5__1 => exact fun _ _ _ h => h
          case y5__1 => (refine Or.inl ⟨rfl, ?_⟩; intro w hSw; (first | rfl | (go_simp; (try with_reducible rfl))))
          (try simp only [Act.put, sA, sB, sC])
          refine wpAnyH_take (i := 2) (oi := ?o5__2) (v := .pointer (some ⟨gb, (offb + k * 5), none⟩)) ?h5__2 (by kernel_rfl) (by kernel_rfl) (by kernel_rfl) ?q5__2 ?y5__2 (by assumption) ?_
          case h5__2 => (first | (simp only [gA, gB, gC]; done) | (simp only [gA, gB, gC]; exact rfl))
          case q5__2 => exact fun _ _ _ h => h
          case y5__2 => (refine Or.inl ⟨rfl, ?_⟩; intro w hSw; exact exec_index (i := k) 35 30 _ _ rfl rfl rfl rfl HLT.out Try.underlying35 (by kernel_rfl))
          (try simp only [Act.put, sA, sB, sC])
          refine wpAnyH_take (i := 3) (oi := ?o5__3) (v := .pointer (some ⟨gb, (offb + k * 5), none⟩)) ?h5__3 (by kernel_rfl) (by kernel_rfl) (by kernel_rfl) ?q5__3 ?y5__3 (by assumption) ?_
          case h5__3 => (first | (simp only [gA, gB, gC]; done) | (simp only [gA, gB, gC]; exact rfl))
          case q5__3 => exact fun _ _ _ h => h
          case y5__3 => (refine Or.inl ⟨rfl, ?_⟩; intro w hSw; (first | rfl | (go_simp; (try with_reducible rfl))))
          (try simp only [Act.put, sA, sB, sC])
          refine wpAnyH_take (i := 4) (oi := ?o5__4) (v := .int .i64 ((be k).se)) ?h5__4 (by kernel_rfl) (by kernel_rfl) (by kernel_rfl) ?q5__4 ?y5__4 (by assumption) ?_
          case h5__4 => (first | (simp only [gA, gB, gC]; done) | (simp only [gA, gB, gC]; exact rfl))
          case q5__4 => exact fun _ _ _ h => h
          case y5__4 => (refine Or.inl ⟨rfl, ?_⟩; intro w hSw; exact exec_at 3 _ _ (keep_cell hSw.1 (HCEb.out 0 _ rfl)) rfl rfl Try.underlying3 rfl)
          (try simp only [Act.put, sA, sB, sC])
          refine wpAnyH_take (i := 5) (oi := ?o5__5) (v := .pointer (some ⟨w.heap.size, 0, none⟩)) ?h5__5 (by kernel_rfl) (by kernel_rfl) (by kernel_rfl) ?q5__5 ?y5__5 (by assumption) ?_
          case h5__5 => (first | (simp only [gA, gB, gC]; done) | (simp only [gA, gB, gC]; exact rfl))
          case q5__5 => exact fun _ _ _ h => h
          case y5__5 => (refine Or.inl ⟨rfl, ?_⟩; intro w hSw; (first | rfl | (go_simp; (try with_reducible rfl))))
          (try simp only [Act.put, sA, sB, sC])
          refine wpAnyH_take (i := 6) (oi := ?o5__6) (v := .int .i64 a.se) ?h5__6 (by kernel_rfl) (by kernel_rfl) (by kernel_rfl) ?q5__6 ?y5__6 (by assumption) ?_
          case h5__6 => (first | (simp only [gA, gB, gC]; done) | (simp only [gA, gB, gC]; exact rfl))
          case q5__6 => exact fun _ _ _ h => h
          case y5__6 => (refine Or.inl ⟨rfl, ?_⟩; intro w hSw; exact exec_cell 3 _ _ hSw.2.1 rfl rfl rfl Try.underlying3 rfl)
          (try simp only [Act.put, sA, sB, sC])
          refine wpAnyH_take (i := 7) (oi := ?o5__7) (v := .bool true) ?h5__7 (by kernel_rfl) (by kernel_rfl) (by kernel_rfl) ?q5__7 ?y5__7 (by assumption) ?_
          case h5__7 => (first | (simp only [gA, gB, gC]; done) | (simp only [gA, gB, gC]; exact rfl))
          case q5__7 => exact fun _ _ _ h => h
          case y5__7 => (refine Or.inl ⟨rfl, ?_⟩; intro w hSw; (have q := HSE.out; go_simp; (first | done | exact q | (simp [q]; done))))
          (try simp only [Act.put, sA, sB, sC])
          refine wpAnyH_done (by kernel_rfl) ?_ _
          have HSd5 := Lib.hid hHeld.1
          have HBAd5 := Lib.hid (hHeld.2.1)
          have HFqd5 := Lib.hid (hHeld.2.2)
          clear hHeld HRK HRD HS52 HBA52 HFq52
          go_upto_region 6 with fail
          refine wp_region_lit ?_
          refine wpList_q (by rfl) (.pointer (some ⟨q1, 0, none⟩)) ?he ?_
          case he => (first | rfl | (go_simp; (try with_reducible rfl)))
          (try simp only [Act.put, sA, sB, sC])
          refine wpList_q (by rfl) (.slice (some ⟨gb, offb, none⟩) bn bc) ?he ?_
          case he => (first | rfl | (go_simp; (try with_reducible rfl)))
          (try simp only [Act.put, sA, sB, sC])
          refine wpList_q (by rfl) (.int .i64 (k : Int)) ?he ?_
          case he => (first | rfl | (go_simp; (try with_reducible rfl)))
          (try simp only [Act.put, sA, sB, sC])
          refine wpList_q (by rfl) (.pointer (some ⟨gb, (offb + k * 5), none⟩)) ?he ?_
          case he => exact exec_index (i := k) 35 30 _ _ rfl rfl rfl rfl HLT.out Try.underlying35 (by kernel_rfl)
          (try simp only [Act.put, sA, sB, sC])
          refine wpList_q (by rfl) (.agg #[.int .i64 ((be k).se), .int .i64 ((be k).fl), .int .i64 ((be k).fm), .int .i64 ((be k).to), .int .i64 ((be k).ma)]) ?he ?_
          case he => exact exec_rng (l := askC (be k)) 30 _ _ (fun j v hj => keep_cell HSd5.out (HCEb.out j v hj)) rfl rfl Try.underlying30 rfl (by kernel_rfl)
          (try simp only [Act.put, sA, sB, sC])
          refine wpList_wp (by rfl) (fun K hK => ?_)
          (try go_simp)
          refine (putV w.heap.size q1 (btw 64 0 64) ls Sq (be k) _ HFqd5.out (by have q1 := HLEN.out; have q2 := HK30.out; omega) (putE (btw 64 0 64) ls (be k)) (putL (btw 64 0 64) ls (be k)) rfl rfl).mono ?_
          rintro e w53 ⟨Sq_2, rfl, hobj, hupd, hfar⟩
          (try go_wp2_with fail)
          refine hK.out _ _ ?_
          clear hK K
          (try simp only [Act.put, sA, sB, sC])
          have HS53 := Lib.hid (Since.upd HSd5.out hupd (QO.low HFqd5.out))
          have HBA53 := Lib.hid (Upd.blk hupd HBAd5.out HIA.out)
          have HIA_q_53 := Lib.hid (nin_next hfar HIA.out (Blk.lt HBAd5.out))
          have HFq53 := Lib.hid hobj
          clear hupd hobj hfar HSd5 HBAd5 HFqd5
          refine wpList_nil ?_
          go_upto_region 4 with fail
          refine wp_region_lit ?_
          refine wpList_q (by rfl) (.int .i64 (k : Int)) ?he ?_
          case he => (first | rfl | (go_simp; (try with_reducible rfl)))
          (try simp only [Act.put, sA, sB, sC])
          refine wpList_q (by rfl) (.int .i64 ((k : Int) + 1)) ?he ?_
          case he => (go_simp; (first | done | (refine wr64 _ ?_ ?_ <;> (have q0 := HLM.out; omega)) | (have q0 := HLM.out; omega) | (have q0 := HLM.out; split <;> omega) | (have q0 := HLM.out; intro hh; omega)))
          (try simp only [Act.put, sA, sB, sC])
          refine wpList_q (by rfl) (.int .i64 ((k : Int) + 1)) ?he ?_
          case he => (first | rfl | (go_simp; (try with_reducible rfl)))
          (try simp only [Act.put, sA, sB, sC])
          refine wpList_nil ?_
          go_wp2_with fail
          go_roundw
          case rel => exact ⟨k + 1, (putL (btw 64 0 64) ls (be k)), Sq_2, by have := HLM.out; omega, by have := HLT.out; omega, by go_num, Lib.hid ⟨(by have := len_put (btw 64 0 64) ls (be k); have := HLEN.out; omega), (mem_put HNO.out HSE.out), HIA_q_53.out, HS53.out, HBA53.out, HFq53.out⟩⟩
          case measure => have := HLT.out; simp [intOf]; omega
        · have HSE := Lib.hid hcs; clear hcs
          go_upto_region 5 with fail
          have hrK : ∀ W W' : World, Since W W' → (Since w W ∧ Blk W w.heap.size 30 #[.int .i64 a.se, .int .i64 a.fl, .int .i64 a.fm, .int .i64 a.to, .int .i64 a.ma] ∧ QO w.heap.size q1 (btw 64 0 64) ls Sq W) → (Since w W' ∧ Blk W' w.heap.size 30 #[.int .i64 a.se, .int .i64 a.fl, .int .i64 a.fm, .int .i64 a.to, .int .i64 a.ma] ∧ QO w.heap.size q1 (btw 64 0 64) ls Sq W') := fun W W' k ⟨h, h0, h1⟩ => ⟨h.trans k, keep_blk k h0, QO.keep k h1⟩
          have hrS : (fun W : World => Since w W ∧ Blk W w.heap.size 30 #[.int .i64 a.se, .int .i64 a.fl, .int .i64 a.fm, .int .i64 a.to, .int .i64 a.ma] ∧ QO w.heap.size q1 (btw 64 0 64) ls Sq W) wr := ⟨HS52.out, HBA52.out, HFq52.out⟩
          have HRK := Lib.hid hrK
          have HRD := Lib.hid (show (fun W : World => Since w W ∧ Blk W w.heap.size 30 #[.int .i64 a.se, .int .i64 a.fl, .int .i64 a.fm, .int .i64 a.to, .int .i64 a.ma] ∧ QO w.heap.size q1 (btw 64 0 64) ls Sq W) (World.drew wr) from ⟨Since.drew hrS.1, hrS.2⟩)
          clear hrK hrS
          refine wp_region_held_drew (S := fun W : World => Since w W ∧ Blk W w.heap.size 30 #[.int .i64 a.se, .int .i64 a.fl, .int .i64 a.fm, .int .i64 a.to, .int .i64 a.ma] ∧ QO w.heap.size q1 (btw 64 0 64) ls Sq W) (by kernel_rfl) HRD.out (fun hHeld => ?_)
          refine wpAnyH_take (i := 0) (oi := ?o5__0) (v := .slice (some ⟨gb, offb, none⟩) bn bc) ?h5__0 (by kernel_rfl) (by kernel_rfl) (by kernel_rfl) ?q5__0 ?y5__0 (by assumption) ?_
          case h5__0 => (first | (simp only [gA, gB, gC]; done) | (simp only [gA, gB, gC]; exact rfl))
          case q5__0 => exact fun _ _ _ h => h
          case y5__0 => (refine Or.inl ⟨rfl, ?_⟩; intro w hSw; (first | rfl | (go_simp; (try with_reducible rfl))))
          (try simp only [Act.put, sA, sB, sC])
          refine wpAnyH_take (i := 1) (oi := ?o5__1) (v := .int .i64 (k : Int)) ?h5__1 (by kernel_rfl) (by kernel_rfl) (by kernel_rfl) ?q5__1 ?y5__1 (by assumption) ?_
          case h5__1 => (first | (simp only [gA, gB, gC]; done) | (simp only [gA, gB, gC]; exact rfl))
          case q5__1 => exact fun _ _ _ h => h
          case y5__1 => (refine Or.inl ⟨rfl, ?_⟩; intro w hSw; (first | rfl | (go_simp; (try with_reducible rfl))))
          (try simp only [Act.put, sA, sB, sC])
          refine wpAnyH_take (i := 2) (oi := ?o5__2) (v := .pointer (some ⟨gb, (offb + k * 5), none⟩)) ?h5__2 (by kernel_rfl) (by kernel_rfl) (by kernel_rfl) ?q5__2 ?y5__2 (by assumption) ?_
          case h5__2 => (first | (simp only [gA, gB, gC]; done) | (simp only [gA, gB, gC]; exact rfl))
          case q5__2 => exact fun _ _ _ h => h
          case y5__2 => (refine Or.inl ⟨rfl, ?_⟩; intro w hSw; exact exec_index (i := k) 35 30 _ _ rfl rfl rfl rfl HLT.out Try.underlying35 (by kernel_rfl))
          (try simp only [Act.put, sA, sB, sC])
          refine wpAnyH_take (i := 3) (oi := ?o5__3) (v := .pointer (some ⟨gb, (offb + k * 5), none⟩)) ?h5__3 (by kernel_rfl) (by kernel_rfl) (by kernel_rfl) ?q5__3 ?y5__3 (by assumption) ?_
          case h5__3 => (first | (simp only [gA, gB, gC]; done) | (simp only [gA, gB, gC]; exact rfl))
          case q5__3 => exact fun _ _ _ h => h
          case y5__3 => (refine Or.inl ⟨rfl, ?_⟩; intro w hSw; (first | rfl | (go_simp; (try with_reducible rfl))))
          (try simp only [Act.put, sA, sB, sC])
          refine wpAnyH_take (i := 4) (oi := ?o5__4) (v := .int .i64 ((be k).se)) ?h5__4 (by kernel_rfl) (by kernel_rfl) (by kernel_rfl) ?q5__4 ?y5__4 (by assumption) ?_
          case h5__4 => (first | (simp only [gA, gB, gC]; done) | (simp only [gA, gB, gC]; exact rfl))
          case q5__4 => exact fun _ _ _ h => h
          case y5__4 => (refine Or.inl ⟨rfl, ?_⟩; intro w hSw; exact exec_at 3 _ _ (keep_cell hSw.1 (HCEb.out 0 _ rfl)) rfl rfl Try.underlying3 rfl)
          (try simp only [Act.put, sA, sB, sC])
          refine wpAnyH_take (i := 5) (oi := ?o5__5) (v := .pointer (some ⟨w.heap.size, 0, none⟩)) ?h5__5 (by kernel_rfl) (by kernel_rfl) (by kernel_rfl) ?q5__5 ?y5__5 (by assumption) ?_
          case h5__5 => (first | (simp only [gA, gB, gC]; done) | (simp only [gA, gB, gC]; exact rfl))
          case q5__5 => exact fun _ _ _ h => h
          case y5__5 => (refine Or.inl ⟨rfl, ?_⟩; intro w hSw; (first | rfl | (go_simp; (try with_reducible rfl))))
          (try simp only [Act.put, sA, sB, sC])
          refine wpAnyH_take (i := 6) (oi := ?o5__6) (v := .int .i64 a.se) ?h5__6 (by kernel_rfl) (by kernel_rfl) (by kernel_rfl) ?q5__6 ?y5__6 (by assumption) ?_
          case h5__6 => (first | (simp only [gA, gB, gC]; done) | (simp only [gA, gB, gC]; exact rfl))
          case q5__6 => exact fun _ _ _ h => h
          case y5__6 => (refine Or.inl ⟨rfl, ?_⟩; intro w hSw; exact exec_cell 3 _ _ hSw.2.1 rfl rfl rfl Try.underlying3 rfl)
          (try simp only [Act.put, sA, sB, sC])
          refine wpAnyH_take (i := 7) (oi := ?o5__7) (v := .bool false) ?h5__7 (by kernel_rfl) (by kernel_rfl) (by kernel_rfl) ?q5__7 ?y5__7 (by assumption) ?_
          case h5__7 => (first | (simp only [gA, gB, gC]; done) | (simp only [gA, gB, gC]; exact rfl))
          case q5__7 => exact fun _ _ _ h => h
          case y5__7 => (refine Or.inl ⟨rfl, ?_⟩; intro w hSw; (have q := HSE.out; go_simp; (first | done | exact q | (simp [q]; done))))
          (try simp only [Act.put, sA, sB, sC])
          refine wpAnyH_done (by kernel_rfl) ?_ _
          have HSd5 := Lib.hid hHeld.1
          have HBAd5 := Lib.hid (hHeld.2.1)
          have HFqd5 := Lib.hid (hHeld.2.2)
          clear hHeld HRK HRD HS52 HBA52 HFq52
          go_upto_region 4 with fail
          refine wp_region_lit ?_
          refine wpList_q (by rfl) (.int .i64 (k : Int)) ?he ?_
          case he => (first | rfl | (go_simp; (try with_reducible rfl)))
          (try simp only [Act.put, sA, sB, sC])
          refine wpList_q (by rfl) (.int .i64 ((k : Int) + 1)) ?he ?_
          case he => (go_simp; (first | done | (refine wr64 _ ?_ ?_ <;> (have q0 := HLM.out; omega)) | (have q0 := HLM.out; omega) | (have q0 := HLM.out; split <;> omega) | (have q0 := HLM.out; intro hh; omega)))
          (try simp only [Act.put, sA, sB, sC])
          refine wpList_q (by rfl) (.int .i64 ((k : Int) + 1)) ?he ?_
          case he => (first | rfl | (go_simp; (try with_reducible rfl)))
          (try simp only [Act.put, sA, sB, sC])
          refine wpList_nil ?_
          go_wp2_with fail
          go_roundw
          case rel => exact ⟨k + 1, ls, Sq, by have := HLM.out; omega, by have := HLT.out; omega, by go_num, Lib.hid ⟨(by have := HLEN.out; omega), HNO.out, HIA.out, HSd5.out, HBAd5.out, HFqd5.out⟩⟩
          case measure => have := HLT.out; simp [intOf]; omega
theorem fairF {H : Type} {enc : TypeId × Value → H} {x y : DataW H × List MemPlace} (Ab : Option Addr) (bn bc : Nat) (Aa : Option Addr) (an ac : Nat) (a : AskV) (Ad : Option Addr) (dn dc : Nat) (zs : List Int) (w : World) (hx : ∃ m, DataW.trod enc Try.prog w 0 (fun _ => true) true m 35 (Value.cells (.slice Ab bn bc)).toList = some x) (hy : ∃ m, DataW.trod enc Try.prog w 0 (fun _ => true) true m 35 (Value.cells (.slice Aa an ac)).toList = some y)
    (h3 : (Ad = none ∧ dn = 0 ∧ dc = 0 ∧ zs = []) ∨ ∃ x, Ad = some x ∧ dn ≤ dc ∧ dc ≤ maxLen ∧ zs.length = dc ∧ (∀ i, i < zs.length → w.cell? (x.add i) = some (.int .i64 (zs.getD i 0))) ∧ ∀ n ∈ zs, (Lit.int .i64 n).wf = true) (m3 : dn * 8 ≤ 140737488351232) :
    Calls Try.prog 6 #[.slice Ab bn bc, .slice Aa an ac, .agg #[.int .i64 a.se, .int .i64 a.fl, .int .i64 a.fm, .int .i64 a.to, .int .i64 a.ma], .slice Ad dn dc] w fun e w' => e = .returned (.bool true) ∧ Since w w' := by
  obtain ⟨m, hm⟩ := hx
  obtain ⟨be, hbe, hl⟩ := Al.Asks.open_ hm
  obtain ⟨m', hm'⟩ := hy
  obtain ⟨af, haf, hl'⟩ := Al.Asks.open_ hm'
  exact fair Ab bn bc be Aa an ac af a Ad dn dc (zs.take dn) w hbe haf (IV.of_row h3) hl hl' (by omega)
end Go.Proofs.Ytggafipgfgbbiaa.Qu
