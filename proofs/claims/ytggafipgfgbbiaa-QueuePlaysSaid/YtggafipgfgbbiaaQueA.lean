/-
  queue's calls, walked: New, Ahead, Clone, Delete.
  Conditions: what stands ahead of each.
-/
import Derived.Test.YtggafipgfgbbiaaProg
import Derived.Test.YtggafipgfgbbiaaQue
namespace Go.Proofs.Ytggafipgfgbbiaa.Qu
set_option linter.unusedVariables false
set_option linter.unusedSimpArgs false
open Go.RowKit Go.Proofs.Ytggafipgfgbbiaa.Ba Go.Proofs.Ytggafipgfgbbiaa.Mem Go.Proofs.Ytggafipgfgbbiaa.Ty
set_option maxRecDepth 100000
attribute [local irreducible] Go.wpList
set_option maxHeartbeats 4000000 in
theorem newA (room : Int) (h0 : room < 0) (w : World) : Calls Try.prog 24 #[.int .i64 room] w fun e w' => ∃ q, e = .returned (.pointer (some ⟨q, 0, none⟩)) ∧ w.heap.size ≤ q ∧ Blk w' q 96 #[.int .i64 (btw room 0 64), .slice none 0 0] ∧ Since w w' := by
  have H0 := Lib.hid h0
  clear h0
  go_enter Try.func24, Try.ntmps24
  go_upto_region 1 with fail
  have HS1 := Lib.hid (Since.refl w)
  refine wp_region_lit ?_
  refine wpList_q (by rfl) (.int .i64 room) ?he ?_
  case he => (first | rfl | (go_simp; (try with_reducible rfl)))
  (try simp only [Act.put, sA, sB, sC])
  refine wpList_q (by rfl) (.int .i64 0) ?he ?_
  case he => (have q0 := H0.out; go_simp; (first | done | rfl | (congr 1; omega) | omega))
  (try simp only [Act.put, sA, sB, sC])
  refine wpList_q (by rfl) (.int .i64 0) ?he ?_
  case he => (have q0 := H0.out; go_simp; (first | done | rfl | (congr 1; omega) | omega))
  (try simp only [Act.put, sA, sB, sC])
  refine wpList_q (by rfl) (.agg #[.int .i64 0, .slice none 0 0]) ?he ?_
  case he => kernel_rfl
  (try simp only [Act.put, sA, sB, sC])
  refine wpList_wp (by rfl) (fun K hK => ?_)
  refine wp_new (fun b => .pointer (some ⟨b, 0, none⟩)) 96 #[.int .i64 0, .slice none 0 0] (by rintro b rfl; first | rfl | kernel_rfl) ?_
  intro bn7 w2 hge hB hb
  refine hK.out _ _ ?_
  clear hK K
  (try simp only [Act.put, sA, sB, sC])
  have HGn7 := Lib.hid (show w.heap.size ≤ bn7 by have := Since.size HS1.out; omega)
  have HS2 := Lib.hid (Since.trans HS1.out hb)
  clear HS1 
  clear hb hge
  have HBn72 := Lib.hid hB
  clear hB
  refine wpList_q (by rfl) (.pointer (some ⟨bn7, 0, none⟩)) ?he ?_
  case he => (first | rfl | (go_simp; (try with_reducible rfl)))
  (try simp only [Act.put, sA, sB, sC])
  refine wpList_nil ?_
  (try go_wp2_with fail)
  go_ret
  have hv : btw room 0 64 = 0 := by have q0 := H0.out; unfold btw; (repeat' split) <;> omega
  rw [hv]
  exact ⟨bn7, rfl, HGn7.out, HBn72.out, HS2.out⟩
set_option maxHeartbeats 4000000 in
theorem newB (room : Int) (h0 : ¬ room < 0) (h1 : 64 < room) (w : World) : Calls Try.prog 24 #[.int .i64 room] w fun e w' => ∃ q, e = .returned (.pointer (some ⟨q, 0, none⟩)) ∧ w.heap.size ≤ q ∧ Blk w' q 96 #[.int .i64 (btw room 0 64), .slice none 0 0] ∧ Since w w' := by
  have H0 := Lib.hid h0
  clear h0
  have H1 := Lib.hid h1
  clear h1
  go_enter Try.func24, Try.ntmps24
  go_upto_region 1 with fail
  have HS1 := Lib.hid (Since.refl w)
  refine wp_region_lit ?_
  refine wpList_q (by rfl) (.int .i64 room) ?he ?_
  case he => (first | rfl | (go_simp; (try with_reducible rfl)))
  (try simp only [Act.put, sA, sB, sC])
  refine wpList_q (by rfl) (.int .i64 room) ?he ?_
  case he => (have q0 := H0.out; have q1 := H1.out; go_simp; (first | done | rfl | (congr 1; omega) | omega))
  (try simp only [Act.put, sA, sB, sC])
  refine wpList_q (by rfl) (.int .i64 64) ?he ?_
  case he => (have q0 := H0.out; have q1 := H1.out; go_simp; (first | done | rfl | (congr 1; omega) | omega))
  (try simp only [Act.put, sA, sB, sC])
  refine wpList_q (by rfl) (.agg #[.int .i64 64, .slice none 0 0]) ?he ?_
  case he => kernel_rfl
  (try simp only [Act.put, sA, sB, sC])
  refine wpList_wp (by rfl) (fun K hK => ?_)
  refine wp_new (fun b => .pointer (some ⟨b, 0, none⟩)) 96 #[.int .i64 64, .slice none 0 0] (by rintro b rfl; first | rfl | kernel_rfl) ?_
  intro bn7 w2 hge hB hb
  refine hK.out _ _ ?_
  clear hK K
  (try simp only [Act.put, sA, sB, sC])
  have HGn7 := Lib.hid (show w.heap.size ≤ bn7 by have := Since.size HS1.out; omega)
  have HS2 := Lib.hid (Since.trans HS1.out hb)
  clear HS1 
  clear hb hge
  have HBn72 := Lib.hid hB
  clear hB
  refine wpList_q (by rfl) (.pointer (some ⟨bn7, 0, none⟩)) ?he ?_
  case he => (first | rfl | (go_simp; (try with_reducible rfl)))
  (try simp only [Act.put, sA, sB, sC])
  refine wpList_nil ?_
  (try go_wp2_with fail)
  go_ret
  have hv : btw room 0 64 = 64 := by have q0 := H0.out; have q1 := H1.out; unfold btw; (repeat' split) <;> omega
  rw [hv]
  exact ⟨bn7, rfl, HGn7.out, HBn72.out, HS2.out⟩
set_option maxHeartbeats 4000000 in
theorem newC (room : Int) (h0 : ¬ room < 0) (h1 : ¬ 64 < room) (w : World) : Calls Try.prog 24 #[.int .i64 room] w fun e w' => ∃ q, e = .returned (.pointer (some ⟨q, 0, none⟩)) ∧ w.heap.size ≤ q ∧ Blk w' q 96 #[.int .i64 (btw room 0 64), .slice none 0 0] ∧ Since w w' := by
  have H0 := Lib.hid h0
  clear h0
  have H1 := Lib.hid h1
  clear h1
  go_enter Try.func24, Try.ntmps24
  go_upto_region 1 with fail
  have HS1 := Lib.hid (Since.refl w)
  refine wp_region_lit ?_
  refine wpList_q (by rfl) (.int .i64 room) ?he ?_
  case he => (first | rfl | (go_simp; (try with_reducible rfl)))
  (try simp only [Act.put, sA, sB, sC])
  refine wpList_q (by rfl) (.int .i64 room) ?he ?_
  case he => (have q0 := H0.out; have q1 := H1.out; go_simp; (first | done | rfl | (congr 1; omega) | omega))
  (try simp only [Act.put, sA, sB, sC])
  refine wpList_q (by rfl) (.int .i64 room) ?he ?_
  case he => (have q0 := H0.out; have q1 := H1.out; go_simp; (first | done | rfl | (congr 1; omega) | omega))
  (try simp only [Act.put, sA, sB, sC])
  refine wpList_q (by rfl) (.agg #[.int .i64 room, .slice none 0 0]) ?he ?_
  case he => kernel_rfl
  (try simp only [Act.put, sA, sB, sC])
  refine wpList_wp (by rfl) (fun K hK => ?_)
  refine wp_new (fun b => .pointer (some ⟨b, 0, none⟩)) 96 #[.int .i64 room, .slice none 0 0] (by rintro b rfl; first | rfl | kernel_rfl) ?_
  intro bn7 w2 hge hB hb
  refine hK.out _ _ ?_
  clear hK K
  (try simp only [Act.put, sA, sB, sC])
  have HGn7 := Lib.hid (show w.heap.size ≤ bn7 by have := Since.size HS1.out; omega)
  have HS2 := Lib.hid (Since.trans HS1.out hb)
  clear HS1 
  clear hb hge
  have HBn72 := Lib.hid hB
  clear hB
  refine wpList_q (by rfl) (.pointer (some ⟨bn7, 0, none⟩)) ?he ?_
  case he => (first | rfl | (go_simp; (try with_reducible rfl)))
  (try simp only [Act.put, sA, sB, sC])
  refine wpList_nil ?_
  (try go_wp2_with fail)
  go_ret
  have hv : btw room 0 64 = room := by have q0 := H0.out; have q1 := H1.out; unfold btw; (repeat' split) <;> omega
  rw [hv]
  exact ⟨bn7, rfl, HGn7.out, HBn72.out, HS2.out⟩
theorem newT (room : Int) (w : World) : Calls Try.prog 24 #[.int .i64 room] w fun e w' => ∃ q, e = .returned (.pointer (some ⟨q, 0, none⟩)) ∧ QO w.heap.size q (btw room 0 64) [] [q] w' ∧ Since w w' := by
  have key : Calls Try.prog 24 #[.int .i64 room] w fun e w' => ∃ q, e = .returned (.pointer (some ⟨q, 0, none⟩)) ∧ w.heap.size ≤ q ∧ Blk w' q 96 #[.int .i64 (btw room 0 64), .slice none 0 0] ∧ Since w w' := by
    by_cases h0 : room < 0
    · exact newA room h0 w
    · by_cases h1 : 64 < room
      · exact newB room h0 h1 w
      · exact newC room h0 h1 w
  refine key.mono ?_
  rintro e w1 ⟨q, rfl, hq, hB, hb⟩
  exact ⟨q, rfl, ⟨hq, none, 0, rfl, hB, World.ownsRow_nil _ _ _ _⟩, hb⟩
set_option maxHeartbeats 4000000 in
theorem aheadNil (s : Int) (w : World) : Calls Try.prog 30 #[.pointer none, .int .i64 s] w fun e w' => e = .returned (.tuple #[.int .i64 0, .bool false]) ∧ Since w w' := by
  go_enter Try.func30, Try.ntmps30
  go_upto_region 1 with fail
  have HS1 := Lib.hid (Since.refl w)
  refine wp_region_lit ?_
  refine wpList_q (by rfl) (.pointer none) ?he ?_
  case he => (first | rfl | (go_simp; (try with_reducible rfl)))
  (try simp only [Act.put, sA, sB, sC])
  refine wpList_q (by rfl) (.bool true) ?he ?_
  case he => (first | rfl | (go_simp; (try with_reducible rfl)))
  (try simp only [Act.put, sA, sB, sC])
  refine wpList_nil ?_
  go_upto_region 2 with fail
  refine wp_region_lit ?_
  refine wpList_q (by rfl) (.int .i64 0) ?he ?_
  case he => (first | rfl | (go_simp; (try with_reducible rfl)))
  (try simp only [Act.put, sA, sB, sC])
  refine wpList_q (by rfl) (.bool false) ?he ?_
  case he => (first | rfl | (go_simp; (try with_reducible rfl)))
  (try simp only [Act.put, sA, sB, sC])
  refine wpList_nil ?_
  (try go_wp2_with fail)
  go_ret2
  exact ⟨rfl, HS1.out⟩
set_option maxHeartbeats 4000000 in
theorem aheadHit (lo q : Nat) (room : Int) (ls : List AskV) (A : Option Addr) (c : Nat) (s : Int) (k0 : Nat) (w : World) (hB : Blk w q 96 #[.int .i64 room, .slice A ls.length c]) (hO : w.ownsRow lo 30 5 (.slice A ls.length c) ls.length (rowsOf askC ls)) (hl : ls.length ≤ 1000000) (hf : atS ls s = some k0) : Calls Try.prog 30 #[.pointer (some ⟨q, 0, none⟩), .int .i64 s] w fun e w' => e = .returned (.tuple #[.int .i64 k0, .bool true]) ∧ Since w w' := by
  have HBQ := Lib.hid hB
  have HOW := Lib.hid hO
  have HL := Lib.hid hl
  have HF := Lib.hid hf
  clear hB hO hl hf
  go_enter Try.func30, Try.ntmps30
  go_upto_region 1 with fail
  have HS1 := Lib.hid (Since.refl w)
  refine wp_region_lit ?_
  refine wpList_q (by rfl) (.pointer (some ⟨q, 0, none⟩)) ?he ?_
  case he => (first | rfl | (go_simp; (try with_reducible rfl)))
  (try simp only [Act.put, sA, sB, sC])
  refine wpList_q (by rfl) (.bool false) ?he ?_
  case he => (first | rfl | (go_simp; (try with_reducible rfl)))
  (try simp only [Act.put, sA, sB, sC])
  refine wpList_nil ?_
  go_upto_region 3 with fail
  refine wp_region_lit ?_
  refine wpList_q (by rfl) (.pointer (some ⟨q, 0, none⟩)) ?he ?_
  case he => (first | rfl | (go_simp; (try with_reducible rfl)))
  (try simp only [Act.put, sA, sB, sC])
  refine wpList_q (by rfl) (.pointer (some ⟨q, 0, none⟩)) ?he ?_
  case he => (first | rfl | (go_simp; (try with_reducible rfl)))
  (try simp only [Act.put, sA, sB, sC])
  refine wpList_q (by rfl) (.pointer (some ⟨q, 1, none⟩)) ?he ?_
  case he => (first | rfl | (go_simp; (try with_reducible rfl)))
  (try simp only [Act.put, sA, sB, sC])
  refine wpList_q (by rfl) (.slice A ls.length c) ?he ?_
  case he => exact exec_cell 35 _ _ HBQ.out rfl rfl rfl Try.underlying35 rfl
  (try simp only [Act.put, sA, sB, sC])
  refine wpList_q (by rfl) (.int .i64 ls.length) ?he ?_
  case he => (go_simp; (try with_reducible rfl))
  (try simp only [Act.put, sA, sB, sC])
  refine wpList_q (by rfl) (.int .i64 0) ?he ?_
  case he => (first | rfl | (go_simp; (try with_reducible rfl)))
  (try simp only [Act.put, sA, sB, sC])
  refine wpList_nil ?_
  go_wp2_with fail
  go_loopw [15] (fun s15 wr => ∃ (k : Nat), k ≤ k0 ∧ s15 = .int .i64 (k : Int) ∧ Hid (Since w wr ∧ Blk wr q 96 #[.int .i64 room, .slice A ls.length c] ∧ (wr).ownsRow lo 30 5 (.slice A ls.length c) ls.length (rowsOf askC ls))) (fun s15 _ => ((ls.length : Int) - intOf s15).toNat)
  case atStart => exact ⟨0, by omega, rfl, Lib.hid ⟨HS1.out, HBQ.out, HOW.out⟩⟩
  case round =>
    obtain ⟨k, hk, rfl, HO⟩ := hrel
    obtain ⟨g0, g1, g2⟩ := HO.out
    clear HO HS1 HBQ HOW
    have HS51 := Lib.hid g0
    have HBQ51 := Lib.hid g1
    have HFr51 := Lib.hid g2
    clear g0 g1 g2
    obtain ⟨hk0, hse, hne⟩ := atS_some HF.out
    have HLT := Lib.hid (show k < ls.length by omega)
    have HSE := Lib.hid hse
    have HNE := Lib.hid hne
    have HK0 := Lib.hid hk0
    clear hse hne hk0
    by_cases hkk : k = k0
    · subst hkk
      obtain ⟨g, hg⟩ := own_addr HFr51.out (by have := HLT.out; omega)
      subst hg
      go_upto_region 4 with fail
      refine wp_region_lit ?_
      refine wpList_q (by rfl) (.bool true) ?he ?_
      case he => (have q0 := HLT.out; go_simp; (first | done | rfl | omega))
      (try simp only [Act.put, sA, sB, sC])
      refine wpList_nil ?_
      go_upto_region 5 with fail
      refine wp_region_lit ?_
      refine wpList_q (by rfl) (.int .i64 (k : Int)) ?he ?_
      case he => (first | rfl | (go_simp; (try with_reducible rfl)))
      (try simp only [Act.put, sA, sB, sC])
      refine wpList_q (by rfl) (.pointer (some ⟨g, (0 + k * 5), none⟩)) ?he ?_
      case he => exact exec_index (i := k) 35 30 _ _ rfl rfl rfl rfl HLT.out Try.underlying35 (by kernel_rfl)
      (try simp only [Act.put, sA, sB, sC])
      refine wpList_q (by rfl) (.agg #[.int .i64 ((ls[k]'HLT.out).se), .int .i64 ((ls[k]'HLT.out).fl), .int .i64 ((ls[k]'HLT.out).fm), .int .i64 ((ls[k]'HLT.out).to), .int .i64 ((ls[k]'HLT.out).ma)]) ?he ?_
      case he => exact exec_rng (l := askC (ls[k]'HLT.out)) 30 _ _ (by have q := row_at HFr51.out HLT.out; simpa only [Nat.zero_add] using q) rfl rfl Try.underlying30 rfl (by kernel_rfl)
      (try simp only [Act.put, sA, sB, sC])
      refine wpList_wp (by rfl) (fun K hK => ?_)
      refine wp_new (fun b => .pointer (some ⟨b, 0, none⟩)) 30 #[.int .i64 0, .int .i64 0, .int .i64 0, .int .i64 0, .int .i64 0] (by rintro b rfl; first | rfl | kernel_rfl) ?_
      intro bn7 w52 hge hB hb
      refine hK.out _ _ ?_
      clear hK K
      (try simp only [Act.put, sA, sB, sC])
      have HNn7Q := Lib.hid (show bn7 ≠ q by have := Blk.lt HBQ51.out; omega)
      have HGn7 := Lib.hid (show w.heap.size ≤ bn7 by have := Since.size HS51.out; omega)
      have HIn7_r := Lib.hid (own_far HFr51.out hge)
      have HS52 := Lib.hid (Since.trans HS51.out hb)
      have HBQ52 := Lib.hid (keep_blk hb HBQ51.out)
      have HFr52 := Lib.hid (keep_own hb HFr51.out)
      clear HS51 HBQ51 HFr51
      clear hb hge
      have HBn752 := Lib.hid hB
      clear hB
      refine wpList_q (by rfl) (.int .i64 (k : Int)) ?he ?_
      case he => (first | rfl | (go_simp; (try with_reducible rfl)))
      (try simp only [Act.put, sA, sB, sC])
      refine wpList_wp (by rfl) (fun K hK => ?_)
      refine wp_st_row 30 _ _ rfl #[.int .i64 ((ls[k]'HLT.out).se), .int .i64 ((ls[k]'HLT.out).fl), .int .i64 ((ls[k]'HLT.out).fm), .int .i64 ((ls[k]'HLT.out).to), .int .i64 ((ls[k]'HLT.out).ma)] rfl rfl (HasRow.of HBn752.out rfl) rfl (by simp [Value.oneCell']) (by kernel_rfl) ?_
      intro w53 hw
      refine hK.out _ _ ?_
      clear hK K
      (try simp only [Act.put, sA, sB, sC])
      have HS53 := Lib.hid (show Since w w53 by rw [hw]; exact Since.setRow HS52.out HGn7.out _)
      have HBQ53 := Lib.hid (show Blk w53 q 96 #[.int .i64 room, .slice (some ⟨g, 0, none⟩) ls.length c] by rw [hw]; exact Blk.row_far HBQ52.out (Ne.symm HNn7Q.out) _)
      have HBn753 := Lib.hid (show Blk w53 bn7 30 #[.int .i64 ((ls[k]'HLT.out).se), .int .i64 ((ls[k]'HLT.out).fl), .int .i64 ((ls[k]'HLT.out).fm), .int .i64 ((ls[k]'HLT.out).to), .int .i64 ((ls[k]'HLT.out).ma)] by rw [hw]; exact Blk.row HBn752.out _)
      have HFr_53 := Lib.hid (show (w53).ownsRow lo 30 5 (.slice (some ⟨g, 0, none⟩) ls.length c) ls.length (rowsOf askC ls) by rw [hw]; exact own_row_far HFr52.out HIn7_r.out _)
      clear hw HS52 HBQ52 HBn752 HFr52
      refine wpList_nil ?_
      go_upto_region 6 with fail
      refine wp_region_lit ?_
      refine wpList_q (by rfl) (.pointer (some ⟨bn7, 0, none⟩)) ?he ?_
      case he => (first | rfl | (go_simp; (try with_reducible rfl)))
      (try simp only [Act.put, sA, sB, sC])
      refine wpList_q (by rfl) (.int .i64 ((ls[k]'HLT.out).se)) ?he ?_
      case he => exact exec_cell 3 _ _ HBn753.out rfl rfl rfl Try.underlying3 rfl
      (try simp only [Act.put, sA, sB, sC])
      refine wpList_q (by rfl) (.int .i64 s) ?he ?_
      case he => (first | rfl | (go_simp; (try with_reducible rfl)))
      (try simp only [Act.put, sA, sB, sC])
      refine wpList_q (by rfl) (.bool true) ?he ?_
      case he => (have q := HSE.out HLT.out; go_simp; (first | done | exact q | (rw [q]; done) | (simp [q]; done)))
      (try simp only [Act.put, sA, sB, sC])
      refine wpList_nil ?_
      go_upto_region 7 with fail
      refine wp_region_lit ?_
      refine wpList_q (by rfl) (.int .i64 (k : Int)) ?he ?_
      case he => (first | rfl | (go_simp; (try with_reducible rfl)))
      (try simp only [Act.put, sA, sB, sC])
      refine wpList_q (by rfl) (.int .i64 (k : Int)) ?he ?_
      case he => (first | rfl | (go_simp; (try with_reducible rfl)))
      (try simp only [Act.put, sA, sB, sC])
      refine wpList_q (by rfl) (.bool true) ?he ?_
      case he => (first | rfl | (go_simp; (try with_reducible rfl)))
      (try simp only [Act.put, sA, sB, sC])
      refine wpList_nil ?_
      (try go_wp2_with fail)
      go_ret2
      exact ⟨rfl, HS53.out⟩
    · have HKL := Lib.hid (show k < k0 by omega)
      obtain ⟨g, hg⟩ := own_addr HFr51.out (by have := HLT.out; omega)
      subst hg
      go_upto_region 4 with fail
      refine wp_region_lit ?_
      refine wpList_q (by rfl) (.bool true) ?he ?_
      case he => (have q0 := HLT.out; go_simp; (first | done | rfl | omega))
      (try simp only [Act.put, sA, sB, sC])
      refine wpList_nil ?_
      go_upto_region 5 with fail
      refine wp_region_lit ?_
      refine wpList_q (by rfl) (.int .i64 (k : Int)) ?he ?_
      case he => (first | rfl | (go_simp; (try with_reducible rfl)))
      (try simp only [Act.put, sA, sB, sC])
      refine wpList_q (by rfl) (.pointer (some ⟨g, (0 + k * 5), none⟩)) ?he ?_
      case he => exact exec_index (i := k) 35 30 _ _ rfl rfl rfl rfl HLT.out Try.underlying35 (by kernel_rfl)
      (try simp only [Act.put, sA, sB, sC])
      refine wpList_q (by rfl) (.agg #[.int .i64 ((ls[k]'HLT.out).se), .int .i64 ((ls[k]'HLT.out).fl), .int .i64 ((ls[k]'HLT.out).fm), .int .i64 ((ls[k]'HLT.out).to), .int .i64 ((ls[k]'HLT.out).ma)]) ?he ?_
      case he => exact exec_rng (l := askC (ls[k]'HLT.out)) 30 _ _ (by have q := row_at HFr51.out HLT.out; simpa only [Nat.zero_add] using q) rfl rfl Try.underlying30 rfl (by kernel_rfl)
      (try simp only [Act.put, sA, sB, sC])
      refine wpList_wp (by rfl) (fun K hK => ?_)
      refine wp_new (fun b => .pointer (some ⟨b, 0, none⟩)) 30 #[.int .i64 0, .int .i64 0, .int .i64 0, .int .i64 0, .int .i64 0] (by rintro b rfl; first | rfl | kernel_rfl) ?_
      intro bn7 w52 hge hB hb
      refine hK.out _ _ ?_
      clear hK K
      (try simp only [Act.put, sA, sB, sC])
      have HNn7Q := Lib.hid (show bn7 ≠ q by have := Blk.lt HBQ51.out; omega)
      have HGn7 := Lib.hid (show w.heap.size ≤ bn7 by have := Since.size HS51.out; omega)
      have HIn7_r := Lib.hid (own_far HFr51.out hge)
      have HS52 := Lib.hid (Since.trans HS51.out hb)
      have HBQ52 := Lib.hid (keep_blk hb HBQ51.out)
      have HFr52 := Lib.hid (keep_own hb HFr51.out)
      clear HS51 HBQ51 HFr51
      clear hb hge
      have HBn752 := Lib.hid hB
      clear hB
      refine wpList_q (by rfl) (.int .i64 (k : Int)) ?he ?_
      case he => (first | rfl | (go_simp; (try with_reducible rfl)))
      (try simp only [Act.put, sA, sB, sC])
      refine wpList_wp (by rfl) (fun K hK => ?_)
      refine wp_st_row 30 _ _ rfl #[.int .i64 ((ls[k]'HLT.out).se), .int .i64 ((ls[k]'HLT.out).fl), .int .i64 ((ls[k]'HLT.out).fm), .int .i64 ((ls[k]'HLT.out).to), .int .i64 ((ls[k]'HLT.out).ma)] rfl rfl (HasRow.of HBn752.out rfl) rfl (by simp [Value.oneCell']) (by kernel_rfl) ?_
      intro w53 hw
      refine hK.out _ _ ?_
      clear hK K
      (try simp only [Act.put, sA, sB, sC])
      have HS53 := Lib.hid (show Since w w53 by rw [hw]; exact Since.setRow HS52.out HGn7.out _)
      have HBQ53 := Lib.hid (show Blk w53 q 96 #[.int .i64 room, .slice (some ⟨g, 0, none⟩) ls.length c] by rw [hw]; exact Blk.row_far HBQ52.out (Ne.symm HNn7Q.out) _)
      have HBn753 := Lib.hid (show Blk w53 bn7 30 #[.int .i64 ((ls[k]'HLT.out).se), .int .i64 ((ls[k]'HLT.out).fl), .int .i64 ((ls[k]'HLT.out).fm), .int .i64 ((ls[k]'HLT.out).to), .int .i64 ((ls[k]'HLT.out).ma)] by rw [hw]; exact Blk.row HBn752.out _)
      have HFr_53 := Lib.hid (show (w53).ownsRow lo 30 5 (.slice (some ⟨g, 0, none⟩) ls.length c) ls.length (rowsOf askC ls) by rw [hw]; exact own_row_far HFr52.out HIn7_r.out _)
      clear hw HS52 HBQ52 HBn752 HFr52
      refine wpList_nil ?_
      go_upto_region 6 with fail
      refine wp_region_lit ?_
      refine wpList_q (by rfl) (.pointer (some ⟨bn7, 0, none⟩)) ?he ?_
      case he => (first | rfl | (go_simp; (try with_reducible rfl)))
      (try simp only [Act.put, sA, sB, sC])
      refine wpList_q (by rfl) (.int .i64 ((ls[k]'HLT.out).se)) ?he ?_
      case he => exact exec_cell 3 _ _ HBn753.out rfl rfl rfl Try.underlying3 rfl
      (try simp only [Act.put, sA, sB, sC])
      refine wpList_q (by rfl) (.int .i64 s) ?he ?_
      case he => (first | rfl | (go_simp; (try with_reducible rfl)))
      (try simp only [Act.put, sA, sB, sC])
      refine wpList_q (by rfl) (.bool false) ?he ?_
      case he => (have q := HNE.out k HKL.out HLT.out; go_simp; (first | done | exact q | (simp [q]; done)))
      (try simp only [Act.put, sA, sB, sC])
      refine wpList_nil ?_
      go_upto_region 8 with fail
      refine wp_region_lit ?_
      refine wpList_q (by rfl) (.int .i64 ((k : Int) + 1)) ?he ?_
      case he => (go_simp; (first | done | (refine wr64 _ ?_ ?_ <;> (have q0 := HLT.out; have q1 := HL.out; omega)) | (have q0 := HLT.out; have q1 := HL.out; omega) | (have q0 := HLT.out; have q1 := HL.out; split <;> omega) | (have q0 := HLT.out; have q1 := HL.out; intro hh; omega)))
      (try simp only [Act.put, sA, sB, sC])
      refine wpList_q (by rfl) (.int .i64 ((k : Int) + 1)) ?he ?_
      case he => (first | rfl | (go_simp; (try with_reducible rfl)))
      (try simp only [Act.put, sA, sB, sC])
      refine wpList_nil ?_
      go_wp2_with fail
      go_roundw
      case rel => exact ⟨k + 1, by have := HKL.out; omega, by go_num, Lib.hid ⟨HS53.out, HBQ53.out, HFr_53.out⟩⟩
      case measure => have := HLT.out; simp [intOf]; omega
set_option maxHeartbeats 4000000 in
theorem aheadMiss (lo q : Nat) (room : Int) (ls : List AskV) (A : Option Addr) (c : Nat) (s : Int) (w : World) (hB : Blk w q 96 #[.int .i64 room, .slice A ls.length c]) (hO : w.ownsRow lo 30 5 (.slice A ls.length c) ls.length (rowsOf askC ls)) (hl : ls.length ≤ 1000000) (hf : atS ls s = none) : Calls Try.prog 30 #[.pointer (some ⟨q, 0, none⟩), .int .i64 s] w fun e w' => e = .returned (.tuple #[.int .i64 0, .bool false]) ∧ Since w w' := by
  have HBQ := Lib.hid hB
  have HOW := Lib.hid hO
  have HL := Lib.hid hl
  have HF := Lib.hid hf
  clear hB hO hl hf
  go_enter Try.func30, Try.ntmps30
  go_upto_region 1 with fail
  have HS1 := Lib.hid (Since.refl w)
  refine wp_region_lit ?_
  refine wpList_q (by rfl) (.pointer (some ⟨q, 0, none⟩)) ?he ?_
  case he => (first | rfl | (go_simp; (try with_reducible rfl)))
  (try simp only [Act.put, sA, sB, sC])
  refine wpList_q (by rfl) (.bool false) ?he ?_
  case he => (first | rfl | (go_simp; (try with_reducible rfl)))
  (try simp only [Act.put, sA, sB, sC])
  refine wpList_nil ?_
  go_upto_region 3 with fail
  refine wp_region_lit ?_
  refine wpList_q (by rfl) (.pointer (some ⟨q, 0, none⟩)) ?he ?_
  case he => (first | rfl | (go_simp; (try with_reducible rfl)))
  (try simp only [Act.put, sA, sB, sC])
  refine wpList_q (by rfl) (.pointer (some ⟨q, 0, none⟩)) ?he ?_
  case he => (first | rfl | (go_simp; (try with_reducible rfl)))
  (try simp only [Act.put, sA, sB, sC])
  refine wpList_q (by rfl) (.pointer (some ⟨q, 1, none⟩)) ?he ?_
  case he => (first | rfl | (go_simp; (try with_reducible rfl)))
  (try simp only [Act.put, sA, sB, sC])
  refine wpList_q (by rfl) (.slice A ls.length c) ?he ?_
  case he => exact exec_cell 35 _ _ HBQ.out rfl rfl rfl Try.underlying35 rfl
  (try simp only [Act.put, sA, sB, sC])
  refine wpList_q (by rfl) (.int .i64 ls.length) ?he ?_
  case he => (go_simp; (try with_reducible rfl))
  (try simp only [Act.put, sA, sB, sC])
  refine wpList_q (by rfl) (.int .i64 0) ?he ?_
  case he => (first | rfl | (go_simp; (try with_reducible rfl)))
  (try simp only [Act.put, sA, sB, sC])
  refine wpList_nil ?_
  go_wp2_with fail
  go_loopw [15] (fun s15 wr => ∃ (k : Nat), k ≤ ls.length ∧ s15 = .int .i64 (k : Int) ∧ Hid (Since w wr ∧ Blk wr q 96 #[.int .i64 room, .slice A ls.length c] ∧ (wr).ownsRow lo 30 5 (.slice A ls.length c) ls.length (rowsOf askC ls))) (fun s15 _ => ((ls.length : Int) - intOf s15).toNat)
  case atStart => exact ⟨0, by omega, rfl, Lib.hid ⟨HS1.out, HBQ.out, HOW.out⟩⟩
  case round =>
    obtain ⟨k, hk, rfl, HO⟩ := hrel
    obtain ⟨g0, g1, g2⟩ := HO.out
    clear HO HS1 HBQ HOW
    have HS51 := Lib.hid g0
    have HBQ51 := Lib.hid g1
    have HFr51 := Lib.hid g2
    clear g0 g1 g2
    by_cases hlt : k < ls.length
    rotate_left
    · have HGE := Lib.hid (show ls.length ≤ k by omega)
      go_upto_region 4 with fail
      refine wp_region_lit ?_
      refine wpList_q (by rfl) (.bool false) ?he ?_
      case he => (have q0 := HGE.out; go_simp; (first | done | rfl | omega))
      (try simp only [Act.put, sA, sB, sC])
      refine wpList_nil ?_
      go_upto_region 9 with fail
      refine wp_region_lit ?_
      refine wpList_q (by rfl) (.int .i64 0) ?he ?_
      case he => (first | rfl | (go_simp; (try with_reducible rfl)))
      (try simp only [Act.put, sA, sB, sC])
      refine wpList_q (by rfl) (.bool false) ?he ?_
      case he => (first | rfl | (go_simp; (try with_reducible rfl)))
      (try simp only [Act.put, sA, sB, sC])
      refine wpList_nil ?_
      (try go_wp2_with fail)
      go_ret2
      exact ⟨rfl, HS51.out⟩
    · have HLT := Lib.hid hlt
      clear hlt
      obtain ⟨g, hg⟩ := own_addr HFr51.out (by have := HLT.out; omega)
      subst hg
      go_upto_region 4 with fail
      refine wp_region_lit ?_
      refine wpList_q (by rfl) (.bool true) ?he ?_
      case he => (have q0 := HLT.out; go_simp; (first | done | rfl | omega))
      (try simp only [Act.put, sA, sB, sC])
      refine wpList_nil ?_
      go_upto_region 5 with fail
      refine wp_region_lit ?_
      refine wpList_q (by rfl) (.int .i64 (k : Int)) ?he ?_
      case he => (first | rfl | (go_simp; (try with_reducible rfl)))
      (try simp only [Act.put, sA, sB, sC])
      refine wpList_q (by rfl) (.pointer (some ⟨g, (0 + k * 5), none⟩)) ?he ?_
      case he => exact exec_index (i := k) 35 30 _ _ rfl rfl rfl rfl HLT.out Try.underlying35 (by kernel_rfl)
      (try simp only [Act.put, sA, sB, sC])
      refine wpList_q (by rfl) (.agg #[.int .i64 ((ls[k]'HLT.out).se), .int .i64 ((ls[k]'HLT.out).fl), .int .i64 ((ls[k]'HLT.out).fm), .int .i64 ((ls[k]'HLT.out).to), .int .i64 ((ls[k]'HLT.out).ma)]) ?he ?_
      case he => exact exec_rng (l := askC (ls[k]'HLT.out)) 30 _ _ (by have q := row_at HFr51.out HLT.out; simpa only [Nat.zero_add] using q) rfl rfl Try.underlying30 rfl (by kernel_rfl)
      (try simp only [Act.put, sA, sB, sC])
      refine wpList_wp (by rfl) (fun K hK => ?_)
      refine wp_new (fun b => .pointer (some ⟨b, 0, none⟩)) 30 #[.int .i64 0, .int .i64 0, .int .i64 0, .int .i64 0, .int .i64 0] (by rintro b rfl; first | rfl | kernel_rfl) ?_
      intro bn7 w52 hge hB hb
      refine hK.out _ _ ?_
      clear hK K
      (try simp only [Act.put, sA, sB, sC])
      have HNn7Q := Lib.hid (show bn7 ≠ q by have := Blk.lt HBQ51.out; omega)
      have HGn7 := Lib.hid (show w.heap.size ≤ bn7 by have := Since.size HS51.out; omega)
      have HIn7_r := Lib.hid (own_far HFr51.out hge)
      have HS52 := Lib.hid (Since.trans HS51.out hb)
      have HBQ52 := Lib.hid (keep_blk hb HBQ51.out)
      have HFr52 := Lib.hid (keep_own hb HFr51.out)
      clear HS51 HBQ51 HFr51
      clear hb hge
      have HBn752 := Lib.hid hB
      clear hB
      refine wpList_q (by rfl) (.int .i64 (k : Int)) ?he ?_
      case he => (first | rfl | (go_simp; (try with_reducible rfl)))
      (try simp only [Act.put, sA, sB, sC])
      refine wpList_wp (by rfl) (fun K hK => ?_)
      refine wp_st_row 30 _ _ rfl #[.int .i64 ((ls[k]'HLT.out).se), .int .i64 ((ls[k]'HLT.out).fl), .int .i64 ((ls[k]'HLT.out).fm), .int .i64 ((ls[k]'HLT.out).to), .int .i64 ((ls[k]'HLT.out).ma)] rfl rfl (HasRow.of HBn752.out rfl) rfl (by simp [Value.oneCell']) (by kernel_rfl) ?_
      intro w53 hw
      refine hK.out _ _ ?_
      clear hK K
      (try simp only [Act.put, sA, sB, sC])
      have HS53 := Lib.hid (show Since w w53 by rw [hw]; exact Since.setRow HS52.out HGn7.out _)
      have HBQ53 := Lib.hid (show Blk w53 q 96 #[.int .i64 room, .slice (some ⟨g, 0, none⟩) ls.length c] by rw [hw]; exact Blk.row_far HBQ52.out (Ne.symm HNn7Q.out) _)
      have HBn753 := Lib.hid (show Blk w53 bn7 30 #[.int .i64 ((ls[k]'HLT.out).se), .int .i64 ((ls[k]'HLT.out).fl), .int .i64 ((ls[k]'HLT.out).fm), .int .i64 ((ls[k]'HLT.out).to), .int .i64 ((ls[k]'HLT.out).ma)] by rw [hw]; exact Blk.row HBn752.out _)
      have HFr_53 := Lib.hid (show (w53).ownsRow lo 30 5 (.slice (some ⟨g, 0, none⟩) ls.length c) ls.length (rowsOf askC ls) by rw [hw]; exact own_row_far HFr52.out HIn7_r.out _)
      clear hw HS52 HBQ52 HBn752 HFr52
      refine wpList_nil ?_
      go_upto_region 6 with fail
      refine wp_region_lit ?_
      refine wpList_q (by rfl) (.pointer (some ⟨bn7, 0, none⟩)) ?he ?_
      case he => (first | rfl | (go_simp; (try with_reducible rfl)))
      (try simp only [Act.put, sA, sB, sC])
      refine wpList_q (by rfl) (.int .i64 ((ls[k]'HLT.out).se)) ?he ?_
      case he => exact exec_cell 3 _ _ HBn753.out rfl rfl rfl Try.underlying3 rfl
      (try simp only [Act.put, sA, sB, sC])
      refine wpList_q (by rfl) (.int .i64 s) ?he ?_
      case he => (first | rfl | (go_simp; (try with_reducible rfl)))
      (try simp only [Act.put, sA, sB, sC])
      refine wpList_q (by rfl) (.bool false) ?he ?_
      case he => (have q := atS_none HF.out _ (List.getElem_mem HLT.out); go_simp; (first | done | exact q | (simp [q]; done)))
      (try simp only [Act.put, sA, sB, sC])
      refine wpList_nil ?_
      go_upto_region 8 with fail
      refine wp_region_lit ?_
      refine wpList_q (by rfl) (.int .i64 ((k : Int) + 1)) ?he ?_
      case he => (go_simp; (first | done | (refine wr64 _ ?_ ?_ <;> (have q0 := HLT.out; have q1 := HL.out; omega)) | (have q0 := HLT.out; have q1 := HL.out; omega) | (have q0 := HLT.out; have q1 := HL.out; split <;> omega) | (have q0 := HLT.out; have q1 := HL.out; intro hh; omega)))
      (try simp only [Act.put, sA, sB, sC])
      refine wpList_q (by rfl) (.int .i64 ((k : Int) + 1)) ?he ?_
      case he => (first | rfl | (go_simp; (try with_reducible rfl)))
      (try simp only [Act.put, sA, sB, sC])
      refine wpList_nil ?_
      go_wp2_with fail
      go_roundw
      case rel => exact ⟨k + 1, by have := HLT.out; omega, by go_num, Lib.hid ⟨HS53.out, HBQ53.out, HFr_53.out⟩⟩
      case measure => have := HLT.out; simp [intOf]; omega
end Go.Proofs.Ytggafipgfgbbiaa.Qu
