/-
  CarctlHolds, walked.
  Conditions: what stands ahead of each.
-/
import Derived.Test.YtdbbacpofgjgoaaProg
import Derived.Test.YtdbbacpofgjgoaaShort
import Derived.Test.YtdbbacpofgjgoaaCtlAns
import Derived.Test.YtdbbacpofgjgoaaCtlMath
import Derived.Test.YtdbbacpofgjgoaaBoo
namespace Go.Proofs.Ytdbbacpofgjgoaa.Ct
set_option linter.unusedVariables false
set_option linter.unusedSimpArgs false
open Go.RowKit Go.Proofs.Ytdbbacpofgjgoaa.Ba Go.Proofs.Ytdbbacpofgjgoaa.Mem Go.Proofs.Ytdbbacpofgjgoaa.Ty Go.Proofs.Ytdbbacpofgjgoaa.Mo Go.Proofs.Ytdbbacpofgjgoaa.St Go.Proofs.Ytdbbacpofgjgoaa.Sc Go.Proofs.Ytdbbacpofgjgoaa.Pl
open Go.Proofs.Ytdbbacpofgjgoaa.Do Go.Proofs.Ytdbbacpofgjgoaa.Bo
set_option maxRecDepth 100000
attribute [local irreducible] Go.wpList
/-- What holds of the car ahead of a round; b: was its door open? -/
def HoldI (c : CfgV) (f : Int) (x : CarV) (b : Bool) : Prop := mayB c x = true ∧ (x.un = 4 * f ∧ x.mo = 1 ∧ x.ta = f ∧ x.ho = true ∧ x.br = false) ∧ (R x.sp ∧ R x.su ∧ R x.sd) ∧ x.ti = 0 ∧ (b = true → x.ds = 2) ∧ (b = false → x.ds = 0 ∨ x.ds = 1)
theorem ld_hold {x : CarV} {f : Int} (h1 : x.un = 4 * f) (h2 : x.ta = f) (h3 : x.ho = true) : ldX x = x ∧ ldR x = 0 ∧ ldO x = (if x.ds = 0 then true else decide (x.ds = 3)) ∧ ldK x = false := by
  have e : ldT x = true := by
    unfold ldT tw
    rw [h1, h2]
    simp
  refine ⟨by simp [ldX, e], by simp [ldR, e], by simp [ldO, e, h3], by simp [ldK, e, h3]⟩
theorem tk_lead {c : CfgV} {x : CarV} (h1 : x.br = false) (h2 : x.mo = 1) : tkV c x = stepV c (ldX x) (ldR x) (ldO x) (ldK x) := by
  unfold tkV tkX tkR tkO tkK
  simp [h1, h2]
theorem hold_next {c : CfgV} {f : Int} {x : CarV} {b : Bool} (hf0 : 0 ≤ f) (hf1 : f ≤ 63) (h : HoldI c f x b) : HoldI c f (tkV c x) (b || decide ((tkV c x).ds = 2)) ∧ ¬ (tkV c x).ds = 3 ∧ (b = true → (tkV c x).ds = 2) := by
  obtain ⟨hm, ⟨h1, h2, h3, h4, h5⟩, hR, ht, hb1, hb0⟩ := h
  obtain ⟨l1, l2, l3, l4⟩ := ld_hold h1 h3 h4
  have hv := tk_lead (c := c) h5 h2
  have hlv := (far_lv f hf0 hf1).1
  have hgo : goesB c x 0 (ldO x) false = false := by unfold goesB; simp
  have hds : (tkV c x).ds = dS1 c x (ldO x) false := by rw [hv, l1, l2, l4]; rfl
  have hcase : (x.ds = 2 ∧ (tkV c x).ds = 2) ∨ ((x.ds = 0 ∨ x.ds = 1) ∧ ((tkV c x).ds = 1 ∨ (tkV c x).ds = 2)) := by
    have hd : x.ds = 2 ∨ x.ds = 0 ∨ x.ds = 1 := by cases b with
      | true => exact .inl (hb1 rfl)
      | false => exact .inr (hb0 rfl)
    rw [hds, l3]
    unfold dS1 dS0 toldS
    rw [h5, h1, hlv]
    rcases hd with hd | hd | hd
    · left; refine ⟨hd, ?_⟩; rw [hd]; simp [oS, cS, tS]
    · right; refine ⟨.inl hd, ?_⟩; rw [hd]; simp only [oS, tS]; simp; first | omega | (split <;> omega)
    · right; refine ⟨.inr hd, ?_⟩; rw [hd]; simp only [oS, tS]; simp; first | omega | (split <;> omega)
  have hun : (tkV c x).un = x.un := by
    rw [hv, l1, l2, l4]
    show un1 c x 0 (ldO x) false = x.un
    unfold un1; rw [hgo]; simp
  have hK := tk_R c x hR.1 hR.2.1 hR.2.2
  have e2 : (tkV c x).ti = x.ti := by rw [hv, l1]; rfl
  obtain ⟨e1, -, -, e4, e5, e6, e7, e8⟩ := tk_same c x
  refine ⟨⟨tk_may c x hm, ⟨hun.trans h1, e5.trans h2, e6.trans h3, e8.trans h4, e4.trans h5⟩, hK, e2.trans ht, ?_, ?_⟩, ?_, ?_⟩
  · intro hq
    rcases hcase with ⟨_, h⟩ | ⟨h0, h | h⟩
    · exact h
    · exfalso
      rw [h] at hq
      cases b with
      | true => have := hb1 rfl; omega
      | false => simp at hq
    · exact h
  · intro hq
    rcases hcase with ⟨_, h⟩ | ⟨h0, h | h⟩
    · rw [h] at hq; simp at hq
    · exact .inr h
    · rw [h] at hq; simp at hq
  · rcases hcase with ⟨_, h⟩ | ⟨h0, h | h⟩ <;> omega
  · intro hq
    have := hb1 hq
    rcases hcase with ⟨_, h⟩ | ⟨h0, h | h⟩
    · exact h
    · omega
    · exact h
theorem hold_first (c : CfgV) (f : Int) (h0 : 0 ≤ f) (h1 : f < fl c.fl) : HoldI c f ⟨0, 0, 4 * f, 0, 0, -1, 0, false, false, 1, f, true, 0, 0, 0⟩ false := by
  have h64 := fl_hi c.fl
  have hl := (far_lv f h0 (by omega)).1
  refine ⟨?_, ⟨rfl, rfl, rfl, rfl, rfl⟩, ⟨R.zero, R.zero, R.zero⟩, rfl, fun h => by simp at h, fun _ => .inl rfl⟩
  rw [mayB_iff, goodB_iff]
  exact ⟨⟨(gd_iff _ _ _).2 (.inl ⟨rfl, rfl⟩), (by show 0 ≤ 4 * f; omega), (by show 4 * f ≤ _; omega), .inl rfl, .inl rfl⟩, .inr rfl, .inl hl, .inr ⟨h0, h1⟩⟩
set_option maxHeartbeats 4000000 in
theorem holds (c : CfgV) (f8 n f : Int) (A : Option Addr) (len cap : Nat) (bs : Nat → Bool) (w : World) (hx : BoV w A len bs) (hlen : len ≤ 9223372036854775807) (hn : 0 ≤ n ∧ n ≤ 255) (hf8 : 0 ≤ f8 ∧ f8 ≤ 255) (hf : f = f8 % fl c.fl) (hf0 : 0 ≤ f ∧ f < fl c.fl ∧ f ≤ 63) : Calls Try.prog 12 #[.agg (cfgA c), .int .u8 f8, .int .u8 n, .slice A len cap] w fun e w' => e = .returned (.bool true) ∧ Since w w' := by
  have HX := Lib.hid hx
  clear hx
  have HLEN := Lib.hid hlen
  clear hlen
  have HN := Lib.hid hn
  clear hn
  have HF8 := Lib.hid hf8
  clear hf8
  have HF := Lib.hid hf
  clear hf
  have HF0 := Lib.hid hf0
  clear hf0
  go_enter Try.func12, Try.ntmps12
  go_upto_region 1 with fail
  obtain ⟨w1, hw1⟩ : ∃ w1, w1 = (w.alloc (.cells (cfgA c) 23)) := ⟨_, rfl⟩
  rw [← hw1]
  have HBC1 := Lib.hid (show Blk w1 (w.heap.size) 23 (cfgA c) by rw [hw1]; exact Blk.at_ (by (try simp only [size_alloc])) _ _)
  have HS1 := Lib.hid (show Since w w1 by rw [hw1]; exact Since.alloc (Since.refl w) _)
  have hNE : w.heap.size ≤ w.heap.size := by omega
  have HNE := Lib.hid hNE
  clear hNE hw1
  have HNE3 := Lib.hid (show w.heap.size ≤ w.heap.size from HNE.out)
  clear HNE
  refine wp_region_lit ?_
  refine tkL (.int .u8 f8) (h := ?_)
  (try simp only [Act.put, sA, sB, sC])
  refine wpList_q (by rfl) (.int .i64 f8) ?he ?_
  case he => (have q := HF8.out; go_simp; (first | done | rfl | (simp only [IntKind.wrap, IntKind.bits, IntKind.signed]; simp; omega) | omega))
  (try simp only [Act.put, sA, sB, sC])
  refine tkL (.pointer (some ⟨w.heap.size, 1, none⟩)) (h := ?_)
  (try simp only [Act.put, sA, sB, sC])
  refine wpList_q (by rfl) (.int .i64 c.fl) ?he ?_
  case he => exact exec_cell 3 _ _ HBC1.out rfl rfl rfl Try.underlying3 rfl
  (try simp only [Act.put, sA, sB, sC])
  refine wpList_wp (by rfl) (fun K hK => ?_)
  (try go_simp)
  refine (floorsR c.fl _).mono ?_
  rintro e w' ⟨rfl, rfl⟩
  (try go_wp2_with fail)
  refine hK.out _ _ ?_
  clear hK K
  (try simp only [Act.put, sA, sB, sC])
  refine wpList_q (by rfl) (.int .i64 f) ?he ?_
  case he => (have q := HF8.out; have q1 := HF.out; have q2 := fl_lo c.fl; have t := Int.tmod_eq_emod_of_nonneg (b := fl c.fl) q.1; have t2 : ¬ fl c.fl = 0 := (by omega); go_simp; (first | done | rfl | (rw [t, ← q1]; done) | (simp only [t, t2, ← q1, if_false]; done) | (rw [q1, ← t]; done) | (simp [t, t2, ← q1]; done)))
  (try simp only [Act.put, sA, sB, sC])
  refine tkL (.int .i64 f) (h := ?_)
  (try simp only [Act.put, sA, sB, sC])
  refine wpList_nil ?_
  go_upto_region 2 with fail
  refine wp_region_lit ?_
  refine tkL (.int .i64 f) (h := ?_)
  (try simp only [Act.put, sA, sB, sC])
  refine wpList_q (by rfl) (.int .i64 (4 * f)) ?he ?_
  case he => (go_simp; (first | done | (refine wrI _ ?_ ?_ <;> (have q0 := HF0.out; omega)) | (have q0 := HF0.out; omega) | (have q0 := HF0.out; split <;> omega) | (have q0 := HF0.out; intro hh; omega)))
  (try simp only [Act.put, sA, sB, sC])
  refine tkL (.int .i64 f) (h := ?_)
  (try simp only [Act.put, sA, sB, sC])
  refine wpList_q (by rfl) (.agg #[.int .i64 0, .int .i64 0, .int .i64 (4 * f), .int .i64 0, .int .i64 0, .int .i64 (-1), .int .i64 0, .bool false, .bool false, .int .i64 1, .int .i64 f, .bool true, .int .u64 0, .int .u64 0, .int .u64 0]) ?he ?_
  case he => kernel_rfl
  (try simp only [Act.put, sA, sB, sC])
  refine wpList_wp (by rfl) (fun K hK => ?_)
  refine wp_new (fun b => .pointer (some ⟨b, 0, none⟩)) 30 #[.int .i64 0, .int .i64 0, .int .i64 0, .int .i64 0, .int .i64 0, .int .i64 0, .int .i64 0, .bool false, .bool false, .int .i64 0, .int .i64 0, .bool false, .int .u64 0, .int .u64 0, .int .u64 0] (by rintro b rfl; first | rfl | kernel_rfl) ?_
  intro bn10 w2 hge hB hb
  refine hK.out _ _ ?_
  clear hK K
  (try simp only [Act.put, sA, sB, sC])
  have HNn10C := Lib.hid (show bn10 ≠ w.heap.size by have := Blk.lt HBC1.out; omega)
  have HGn10 := Lib.hid (show w.heap.size ≤ bn10 by have := Since.size HS1.out; omega)
  have HS2 := Lib.hid (Since.trans HS1.out hb)
  have HBC2 := Lib.hid (keep_blk hb HBC1.out)
  clear HS1 HBC1
  clear hb hge
  have HBn102 := Lib.hid hB
  clear hB
  refine wpList_wp (by rfl) (fun K hK => ?_)
  refine wp_st_row 30 _ _ rfl #[.int .i64 0, .int .i64 0, .int .i64 (4 * f), .int .i64 0, .int .i64 0, .int .i64 (-1), .int .i64 0, .bool false, .bool false, .int .i64 1, .int .i64 f, .bool true, .int .u64 0, .int .u64 0, .int .u64 0] rfl rfl (HasRow.of HBn102.out rfl) rfl (by simp [cfgA, carA, ctlA, Value.oneCell']) (by kernel_rfl) ?_
  intro w3 hw
  refine hK.out _ _ ?_
  clear hK K
  (try simp only [Act.put, sA, sB, sC])
  have HS3 := Lib.hid (show Since w w3 by rw [hw]; exact Since.setRow HS2.out HGn10.out _)
  have HBC3 := Lib.hid (show Blk w3 w.heap.size 23 (cfgA c) by rw [hw]; exact Blk.row_far HBC2.out (Ne.symm HNn10C.out) _)
  have HBn103 := Lib.hid (show Blk w3 bn10 30 #[.int .i64 0, .int .i64 0, .int .i64 (4 * f), .int .i64 0, .int .i64 0, .int .i64 (-1), .int .i64 0, .bool false, .bool false, .int .i64 1, .int .i64 f, .bool true, .int .u64 0, .int .u64 0, .int .u64 0] by rw [hw]; exact Blk.row HBn102.out _)
  clear hw HS2 HBC2 HBn102
  refine wpList_nil ?_
  go_upto_region 3 with fail
  refine wp_region_lit ?_
  refine tkL (.bool false) (h := ?_)
  (try simp only [Act.put, sA, sB, sC])
  refine wpList_nil ?_
  go_upto_region 4 with fail
  refine wp_region_lit ?_
  refine tkL (.int .i64 0) (h := ?_)
  (try simp only [Act.put, sA, sB, sC])
  refine wpList_nil ?_
  go_wp2_with fail
  have HI0 := Lib.hid (hold_first c f HF0.out.1 HF0.out.2.1)
  go_loopw [11, 12] (fun s11 s12 wr => ∃ (i : Nat) (x : CarV) (b : Bool), (i : Int) ≤ 255 ∧ (i : Int) ≤ n ∧ s11 = .bool b ∧ s12 = .int .i64 (i : Int) ∧ Hid (HoldI c f x b ∧ Since w wr ∧ Blk wr w.heap.size 23 (cfgA c) ∧ Blk wr bn10 30 (carA x))) (fun s11 s12 wq => ((n : Int) - intOf s12).toNat)
  case atStart => exact ⟨0, ⟨0, 0, 4 * f, 0, 0, -1, 0, false, false, 1, f, true, 0, 0, 0⟩, false, by omega, by have := HN.out; omega, rfl, rfl, Lib.hid ⟨HI0.out, HS3.out, HBC3.out, HBn103.out⟩⟩
  case round =>
    obtain ⟨i, x, b, hk, hkn, rfl, rfl, HO⟩ := hrel
    obtain ⟨e0, g0, g1, g2⟩ := HO.out
    clear HO HS3 HBC3 HBn103
    have HI := Lib.hid e0
    have HS53 := Lib.hid g0
    have HBC53 := Lib.hid g1
    have HBn1053 := Lib.hid g2
    clear e0 g0 g1 g2
    have HK := Lib.hid hk; have HKN := Lib.hid hkn; clear hk hkn
    by_cases hcs : (i : Int) < n
    rotate_left
    · have HLT := Lib.hid hcs; clear hcs
      go_upto_region 5 with fail
      refine wp_region_lit ?_
      refine tkL (.int .i64 (i : Int)) (h := ?_)
      (try simp only [Act.put, sA, sB, sC])
      refine tkL (.int .u8 n) (h := ?_)
      (try simp only [Act.put, sA, sB, sC])
      refine wpList_q (by rfl) (.int .i64 n) ?he ?_
      case he => (have q := HN.out; go_simp; (first | done | rfl | (simp only [IntKind.wrap, IntKind.bits, IntKind.signed]; simp; omega) | omega))
      (try simp only [Act.put, sA, sB, sC])
      refine wpList_q (by rfl) (.bool false) ?he ?_
      case he => (have q0 := HLT.out; go_simp; (first | done | rfl | omega))
      (try simp only [Act.put, sA, sB, sC])
      refine wpList_nil ?_
      go_upto_region 12 with fail
      refine wp_region_lit ?_
      refine wpList_wp (by rfl) (fun K hK => ?_)
      (try go_simp)
      refine (ans _).mono ?_
      rintro e w54 ⟨rfl, hb⟩
      (try go_wp2_with fail)
      refine hK.out _ _ ?_
      clear hK K
      (try simp only [Act.put, sA, sB, sC])
      have HS54 := Lib.hid (Since.trans HS53.out hb)
      have HBC54 := Lib.hid (keep_blk hb HBC53.out)
      have HBn1054 := Lib.hid (keep_blk hb HBn1053.out)
      clear HS53 HBC53 HBn1053
      clear hb
      refine tkL (.bool true) (h := ?_)
      (try simp only [Act.put, sA, sB, sC])
      refine tkL (.int .u8 n) (h := ?_)
      (try simp only [Act.put, sA, sB, sC])
      refine wpList_q (by rfl) (.int .i64 n) ?he ?_
      case he => (have q := HN.out; go_simp; (first | done | rfl | (simp only [IntKind.wrap, IntKind.bits, IntKind.signed]; simp; omega) | omega))
      (try simp only [Act.put, sA, sB, sC])
      refine wpList_q (by rfl) (.bool true) ?he ?_
      case he => (have q0 := HN.out; go_simp; (first | done | rfl | omega))
      (try simp only [Act.put, sA, sB, sC])
      refine tkL (.bool true) (h := ?_)
      (try simp only [Act.put, sA, sB, sC])
      refine wpList_no (by rfl) ?_
      (try simp only [Act.put, sA, sB, sC])
      refine tkL (.bool true) (h := ?_)
      (try simp only [Act.put, sA, sB, sC])
      refine tkL (.bool true) (h := ?_)
      (try simp only [Act.put, sA, sB, sC])
      refine tkL (.bool true) (h := ?_)
      (try simp only [Act.put, sA, sB, sC])
      refine wpList_nil ?_
      (try go_wp2_with fail)
      go_ret
      exact ⟨rfl, HS54.out⟩
    · have HLT := Lib.hid hcs; clear hcs
      go_upto_region 5 with fail
      refine wp_region_lit ?_
      refine tkL (.int .i64 (i : Int)) (h := ?_)
      (try simp only [Act.put, sA, sB, sC])
      refine tkL (.int .u8 n) (h := ?_)
      (try simp only [Act.put, sA, sB, sC])
      refine wpList_q (by rfl) (.int .i64 n) ?he ?_
      case he => (have q := HN.out; go_simp; (first | done | rfl | (simp only [IntKind.wrap, IntKind.bits, IntKind.signed]; simp; omega) | omega))
      (try simp only [Act.put, sA, sB, sC])
      refine wpList_q (by rfl) (.bool true) ?he ?_
      case he => (have q0 := HLT.out; go_simp; (first | done | rfl | omega))
      (try simp only [Act.put, sA, sB, sC])
      refine wpList_nil ?_
      go_upto_region 7 with fail
      go_cut [] (fun wx => Hid (∃ b_bl : Bool, Since w wx ∧ Blk wx w.heap.size 23 (cfgA c) ∧ Blk wx bn10 30 #[.int .i64 x.ds, .int .i64 x.da, .int .i64 x.un, .int .i64 x.wy, .int .i64 x.ti, .int .i64 x.ju, .int .i64 x.lo, .bool b_bl, .bool x.br, .int .i64 x.mo, .int .i64 x.ta, .bool x.ho, .int .u64 x.sp, .int .u64 x.su, .int .u64 x.sd]))
      case first =>
        by_cases hcs : i < len
        rotate_left
        · have HIL := Lib.hid hcs; clear hcs
          refine wp_region_lit ?_
          refine tkL (.int .i64 (i : Int)) (h := ?_)
          (try simp only [Act.put, sA, sB, sC])
          refine tkL (.slice A len cap) (h := ?_)
          (try simp only [Act.put, sA, sB, sC])
          refine tkL (.int .i64 (len : Int)) (h := ?_)
          (try simp only [Act.put, sA, sB, sC])
          refine wpList_q (by rfl) (.bool false) ?he ?_
          case he => (have q0 := HIL.out; go_simp; (first | done | rfl | omega))
          (try simp only [Act.put, sA, sB, sC])
          refine tkL (.bool false) (h := ?_)
          (try simp only [Act.put, sA, sB, sC])
          refine wpList_no (by rfl) ?_
          (try simp only [Act.put, sA, sB, sC])
          refine wpList_no (by rfl) ?_
          (try simp only [Act.put, sA, sB, sC])
          refine wpList_no (by rfl) ?_
          (try simp only [Act.put, sA, sB, sC])
          refine wpList_no (by rfl) ?_
          (try simp only [Act.put, sA, sB, sC])
          refine tkL (.bool false) (h := ?_)
          (try simp only [Act.put, sA, sB, sC])
          refine tkL (.pointer (some ⟨bn10, 7, none⟩)) (h := ?_)
          (try simp only [Act.put, sA, sB, sC])
          refine wpList_wp (by rfl) (fun K hK => ?_)
          refine wp_st_cell 4 _ _ rfl #[.int .i64 x.ds, .int .i64 x.da, .int .i64 x.un, .int .i64 x.wy, .int .i64 x.ti, .int .i64 x.ju, .int .i64 x.lo, .bool false, .bool x.br, .int .i64 x.mo, .int .i64 x.ta, .bool x.ho, .int .u64 x.sp, .int .u64 x.su, .int .u64 x.sd] (.bool false) rfl rfl HBn1053.out (by show 7 < 15; decide) rfl (by first | rfl | simp [Value.oneCell']) (by kernel_rfl) ?_
          intro w54 hw
          refine hK.out _ _ ?_
          clear hK K
          (try simp only [Act.put, sA, sB, sC])
          have HS54 := Lib.hid (show Since w w54 by rw [hw]; exact Since.setRow HS53.out HGn10.out _)
          have HBC54 := Lib.hid (show Blk w54 w.heap.size 23 (cfgA c) by rw [hw]; exact Blk.row_far HBC53.out (Ne.symm HNn10C.out) _)
          have HBn1054 := Lib.hid (show Blk w54 bn10 30 #[.int .i64 x.ds, .int .i64 x.da, .int .i64 x.un, .int .i64 x.wy, .int .i64 x.ti, .int .i64 x.ju, .int .i64 x.lo, .bool false, .bool x.br, .int .i64 x.mo, .int .i64 x.ta, .bool x.ho, .int .u64 x.sp, .int .u64 x.su, .int .u64 x.sd] by rw [hw]; exact Blk.row HBn1053.out _)
          clear hw HS53 HBC53 HBn1053
          refine wpList_nil ?_
          go_wp2_with fail
          go_meet
          case rel => exact Lib.hid ⟨false, HS54.out, HBC54.out, HBn1054.out⟩
        · have HIL := Lib.hid hcs; clear hcs
          obtain ⟨bL, oL, rfl, hcL⟩ : ∃ bL oL, A = some ⟨bL, oL, none⟩ ∧ ∀ j, j < len → w.cell? ⟨bL, oL + j, none⟩ = some (.bool (bs j)) := by rcases HX.out with h | ⟨b, o, e, h1, h2⟩; (exact absurd HIL.out (by omega)); exact ⟨b, o, e, h2⟩
          have HCB := Lib.hid (show w.cell? ⟨bL, oL + i * 1, none⟩ = some (.bool (bs i)) by rw [Nat.mul_one, hcL i HIL.out]); clear hcL
          refine wp_region_lit ?_
          refine tkL (.int .i64 (i : Int)) (h := ?_)
          (try simp only [Act.put, sA, sB, sC])
          refine tkL (.slice (some ⟨bL, oL, none⟩) len cap) (h := ?_)
          (try simp only [Act.put, sA, sB, sC])
          refine tkL (.int .i64 (len : Int)) (h := ?_)
          (try simp only [Act.put, sA, sB, sC])
          refine wpList_q (by rfl) (.bool true) ?he ?_
          case he => (have q0 := HIL.out; go_simp; (first | done | rfl | omega))
          (try simp only [Act.put, sA, sB, sC])
          refine tkL (.bool true) (h := ?_)
          (try simp only [Act.put, sA, sB, sC])
          refine tkL (.slice (some ⟨bL, oL, none⟩) len cap) (h := ?_)
          (try simp only [Act.put, sA, sB, sC])
          refine tkL (.int .i64 (i : Int)) (h := ?_)
          (try simp only [Act.put, sA, sB, sC])
          refine wpList_q (by rfl) (.pointer (some ⟨bL, (oL + i * 1), none⟩)) ?he ?_
          case he => exact exec_ix (i := i) (s := 1) 39 4 _ _ rfl rfl rfl rfl HIL.out Try.underlying39 (by kernel_rfl)
          (try simp only [Act.put, sA, sB, sC])
          refine wpList_q (by rfl) (.bool (bs i)) ?he ?_
          case he => exact exec_at 4 _ _ (keep_cell HS53.out HCB.out) rfl rfl Try.underlying4 rfl
          (try simp only [Act.put, sA, sB, sC])
          refine tkL (.bool (bs i)) (h := ?_)
          (try simp only [Act.put, sA, sB, sC])
          refine tkL (.pointer (some ⟨bn10, 7, none⟩)) (h := ?_)
          (try simp only [Act.put, sA, sB, sC])
          refine wpList_wp (by rfl) (fun K hK => ?_)
          refine wp_st_cell 4 _ _ rfl #[.int .i64 x.ds, .int .i64 x.da, .int .i64 x.un, .int .i64 x.wy, .int .i64 x.ti, .int .i64 x.ju, .int .i64 x.lo, .bool (bs i), .bool x.br, .int .i64 x.mo, .int .i64 x.ta, .bool x.ho, .int .u64 x.sp, .int .u64 x.su, .int .u64 x.sd] (.bool (bs i)) rfl rfl HBn1053.out (by show 7 < 15; decide) rfl (by first | rfl | simp [Value.oneCell']) (by kernel_rfl) ?_
          intro w54 hw
          refine hK.out _ _ ?_
          clear hK K
          (try simp only [Act.put, sA, sB, sC])
          have HS54 := Lib.hid (show Since w w54 by rw [hw]; exact Since.setRow HS53.out HGn10.out _)
          have HBC54 := Lib.hid (show Blk w54 w.heap.size 23 (cfgA c) by rw [hw]; exact Blk.row_far HBC53.out (Ne.symm HNn10C.out) _)
          have HBn1054 := Lib.hid (show Blk w54 bn10 30 #[.int .i64 x.ds, .int .i64 x.da, .int .i64 x.un, .int .i64 x.wy, .int .i64 x.ti, .int .i64 x.ju, .int .i64 x.lo, .bool (bs i), .bool x.br, .int .i64 x.mo, .int .i64 x.ta, .bool x.ho, .int .u64 x.sp, .int .u64 x.su, .int .u64 x.sd] by rw [hw]; exact Blk.row HBn1053.out _)
          clear hw HS53 HBC53 HBn1053
          refine wpList_nil ?_
          go_wp2_with fail
          go_meet
          case rel => exact Lib.hid ⟨(bs i), HS54.out, HBC54.out, HBn1054.out⟩
      case rest =>
        clear HS53 HBC53 HBn1053
        obtain ⟨b_bl, g0, g1, g2⟩ := hcut.out
        clear hcut
        obtain ⟨x1, hx1⟩ : ∃ x1 : CarV, x1 = { x with bl := b_bl } := ⟨_, rfl⟩
        have HSc := Lib.hid g0; have HBCc := Lib.hid g1; have HBXc := Lib.hid (show Blk wc bn10 30 (carA x1) by rw [hx1]; exact g2); clear g0 g1 g2
        have HI1 := Lib.hid (show HoldI c f x1 b by rw [hx1]; exact HI.out)
        clear hx1 HI
        have HNX := Lib.hid (hold_next HF0.out.1 HF0.out.2.2 HI1.out)
        go_upto_region 8 with fail
        refine wp_region_lit ?_
        refine wpList_q (by rfl) (.agg (cfgA c)) ?he ?_
        case he => exact exec_load_row 23 _ _ HBCc.out rfl rfl Try.underlying23 rfl (by kernel_rfl)
        (try simp only [Act.put, sA, sB, sC])
        refine wpList_q (by rfl) (.agg (carA x1)) ?he ?_
        case he => exact exec_load_row 30 _ _ HBXc.out rfl rfl Try.underlying30 rfl (by kernel_rfl)
        (try simp only [Act.put, sA, sB, sC])
        refine wpList_wp (by rfl) (fun K hK => ?_)
        (try go_simp)
        refine (tickT c x1 _ (may_bd HI1.out.1).1 HI1.out.2.2.1.1 HI1.out.2.2.1.2.1 HI1.out.2.2.1.2.2 (fun hm => may_ta HI1.out.1 hm) (by have q1 := HI1.out.2.2.2.1; omega) (by have q1 := HI1.out.2.2.2.1; omega)).mono ?_
        rintro e w104 ⟨rfl, hb⟩
        (try go_wp2_with fail)
        refine hK.out _ _ ?_
        clear hK K
        (try simp only [Act.put, sA, sB, sC])
        have HS104 := Lib.hid (Since.trans HSc.out hb)
        have HBC104 := Lib.hid (keep_blk hb HBCc.out)
        have HBn10104 := Lib.hid (keep_blk hb HBXc.out)
        clear HSc HBCc HBXc
        clear hb
        refine tkL (.tuple #[.agg (carA (tkV c x1)), .agg #[.int .i64 (tkF x1), .int .i64 (tkW x1)], .bool (tkS x1)]) (h := ?_)
        (try simp only [Act.put, sA, sB, sC])
        refine tkL (.agg (carA (tkV c x1))) (h := ?_)
        (try simp only [Act.put, sA, sB, sC])
        refine tkL (.agg #[.int .i64 (tkF x1), .int .i64 (tkW x1)]) (h := ?_)
        (try simp only [Act.put, sA, sB, sC])
        refine tkL (.bool (tkS x1)) (h := ?_)
        (try simp only [Act.put, sA, sB, sC])
        refine wpList_wp (by rfl) (fun K hK => ?_)
        refine wp_st_row 30 _ _ rfl (carA (tkV c x1)) rfl rfl (HasRow.of HBn10104.out rfl) rfl (by simp [cfgA, carA, ctlA, Value.oneCell']) (by kernel_rfl) ?_
        intro w105 hw
        refine hK.out _ _ ?_
        clear hK K
        (try simp only [Act.put, sA, sB, sC])
        have HS105 := Lib.hid (show Since w w105 by rw [hw]; exact Since.setRow HS104.out HGn10.out _)
        have HBC105 := Lib.hid (show Blk w105 w.heap.size 23 (cfgA c) by rw [hw]; exact Blk.row_far HBC104.out (Ne.symm HNn10C.out) _)
        have HBn10105 := Lib.hid (show Blk w105 bn10 30 (carA (tkV c x1)) by rw [hw]; exact Blk.row HBn10104.out _)
        clear hw HS104 HBC104 HBn10104
        refine wpList_nil ?_
        have HUN := Lib.hid (show (tkV c x1).un = 4 * f from HNX.out.1.2.1.1)
        cases b with
        | true =>
          have H2 := Lib.hid (show (tkV c x1).ds = 2 from HNX.out.2.2 rfl)
          go_upto_region 9 with fail
          refine wp_region_lit ?_
          refine tkL (.pointer (some ⟨bn10, 2, none⟩)) (h := ?_)
          (try simp only [Act.put, sA, sB, sC])
          refine wpList_q (by rfl) (.int .i64 ((tkV c x1).un)) ?he ?_
          case he => exact exec_cell 3 _ _ HBn10105.out rfl rfl rfl Try.underlying3 rfl
          (try simp only [Act.put, sA, sB, sC])
          refine tkL (.int .i64 f) (h := ?_)
          (try simp only [Act.put, sA, sB, sC])
          refine wpList_q (by rfl) (.int .i64 (4 * f)) ?he ?_
          case he => (go_simp; (first | done | (refine wrI _ ?_ ?_ <;> (have q0 := HF0.out; omega)) | (have q0 := HF0.out; omega) | (have q0 := HF0.out; split <;> omega) | (have q0 := HF0.out; intro hh; omega)))
          (try simp only [Act.put, sA, sB, sC])
          refine wpList_q (by rfl) (.bool false) ?he ?_
          case he => (have q := HUN.out; go_simp; (first | done | exact q | (simp [q]; done)))
          (try simp only [Act.put, sA, sB, sC])
          refine tkL (.bool false) (h := ?_)
          (try simp only [Act.put, sA, sB, sC])
          refine tkL (.pointer (some ⟨bn10, 0, none⟩)) (h := ?_)
          (try simp only [Act.put, sA, sB, sC])
          refine tkL (.pointer (some ⟨bn10, 0, none⟩)) (h := ?_)
          (try simp only [Act.put, sA, sB, sC])
          refine wpList_q (by rfl) (.int .i64 ((tkV c x1).ds)) ?he ?_
          case he => exact exec_cell 3 _ _ HBn10105.out rfl rfl rfl Try.underlying3 rfl
          (try simp only [Act.put, sA, sB, sC])
          refine wpList_q (by rfl) (.bool false) ?he ?_
          case he => (have q := HNX.out.2.1; go_simp; (first | done | exact q | (simp [q]; done)))
          (try simp only [Act.put, sA, sB, sC])
          refine tkL (.bool false) (h := ?_)
          (try simp only [Act.put, sA, sB, sC])
          refine tkL (.bool false) (h := ?_)
          (try simp only [Act.put, sA, sB, sC])
          refine tkL (.bool true) (h := ?_)
          (try simp only [Act.put, sA, sB, sC])
          refine tkL (.bool true) (h := ?_)
          (try simp only [Act.put, sA, sB, sC])
          refine tkL (.pointer (some ⟨bn10, 0, none⟩)) (h := ?_)
          (try simp only [Act.put, sA, sB, sC])
          refine tkL (.pointer (some ⟨bn10, 0, none⟩)) (h := ?_)
          (try simp only [Act.put, sA, sB, sC])
          refine wpList_q (by rfl) (.int .i64 ((tkV c x1).ds)) ?he ?_
          case he => exact exec_cell 3 _ _ HBn10105.out rfl rfl rfl Try.underlying3 rfl
          (try simp only [Act.put, sA, sB, sC])
          refine wpList_q (by rfl) (.bool false) ?he ?_
          case he => (have q := H2.out; go_simp; (first | done | exact q | (simp [q]; done)))
          (try simp only [Act.put, sA, sB, sC])
          refine tkL (.bool false) (h := ?_)
          (try simp only [Act.put, sA, sB, sC])
          refine tkL (.bool false) (h := ?_)
          (try simp only [Act.put, sA, sB, sC])
          refine wpList_nil ?_
          go_upto_region 11 with fail
          refine wp_region_lit ?_
          refine tkL (.bool true) (h := ?_)
          (try simp only [Act.put, sA, sB, sC])
          refine tkL (.bool true) (h := ?_)
          (try simp only [Act.put, sA, sB, sC])
          refine wpList_no (by rfl) ?_
          (try simp only [Act.put, sA, sB, sC])
          refine wpList_no (by rfl) ?_
          (try simp only [Act.put, sA, sB, sC])
          refine wpList_no (by rfl) ?_
          (try simp only [Act.put, sA, sB, sC])
          refine wpList_no (by rfl) ?_
          (try simp only [Act.put, sA, sB, sC])
          refine tkL (.bool true) (h := ?_)
          (try simp only [Act.put, sA, sB, sC])
          refine tkL (.bool true) (h := ?_)
          (try simp only [Act.put, sA, sB, sC])
          refine wpList_nil ?_
          go_upto_region 6 with fail
          refine wp_region_lit ?_
          refine tkL (.int .i64 (i : Int)) (h := ?_)
          (try simp only [Act.put, sA, sB, sC])
          refine wpList_q (by rfl) (.int .i64 ((i : Int) + 1)) ?he ?_
          case he => (go_simp; (first | done | (refine wrI _ ?_ ?_ <;> (have q0 := HK.out; omega)) | (have q0 := HK.out; omega) | (have q0 := HK.out; split <;> omega) | (have q0 := HK.out; intro hh; omega)))
          (try simp only [Act.put, sA, sB, sC])
          refine tkL (.int .i64 ((i : Int) + 1)) (h := ?_)
          (try simp only [Act.put, sA, sB, sC])
          refine wpList_nil ?_
          go_wp2_with fail
          go_roundw
          case rel => exact ⟨i + 1, tkV c x1, true, by have q1 := HLT.out; have q2 := HN.out; push_cast; omega, by have := HLT.out; push_cast; omega, rfl, by go_num, Lib.hid ⟨HNX.out.1, HS105.out, HBC105.out, HBn10105.out⟩⟩
          case measure => have := HLT.out; simp [intOf]; omega
        | false =>
          go_upto_region 9 with fail
          refine wp_region_lit ?_
          refine tkL (.pointer (some ⟨bn10, 2, none⟩)) (h := ?_)
          (try simp only [Act.put, sA, sB, sC])
          refine wpList_q (by rfl) (.int .i64 ((tkV c x1).un)) ?he ?_
          case he => exact exec_cell 3 _ _ HBn10105.out rfl rfl rfl Try.underlying3 rfl
          (try simp only [Act.put, sA, sB, sC])
          refine tkL (.int .i64 f) (h := ?_)
          (try simp only [Act.put, sA, sB, sC])
          refine wpList_q (by rfl) (.int .i64 (4 * f)) ?he ?_
          case he => (go_simp; (first | done | (refine wrI _ ?_ ?_ <;> (have q0 := HF0.out; omega)) | (have q0 := HF0.out; omega) | (have q0 := HF0.out; split <;> omega) | (have q0 := HF0.out; intro hh; omega)))
          (try simp only [Act.put, sA, sB, sC])
          refine wpList_q (by rfl) (.bool false) ?he ?_
          case he => (have q := HUN.out; go_simp; (first | done | exact q | (simp [q]; done)))
          (try simp only [Act.put, sA, sB, sC])
          refine tkL (.bool false) (h := ?_)
          (try simp only [Act.put, sA, sB, sC])
          refine tkL (.pointer (some ⟨bn10, 0, none⟩)) (h := ?_)
          (try simp only [Act.put, sA, sB, sC])
          refine tkL (.pointer (some ⟨bn10, 0, none⟩)) (h := ?_)
          (try simp only [Act.put, sA, sB, sC])
          refine wpList_q (by rfl) (.int .i64 ((tkV c x1).ds)) ?he ?_
          case he => exact exec_cell 3 _ _ HBn10105.out rfl rfl rfl Try.underlying3 rfl
          (try simp only [Act.put, sA, sB, sC])
          refine wpList_q (by rfl) (.bool false) ?he ?_
          case he => (have q := HNX.out.2.1; go_simp; (first | done | exact q | (simp [q]; done)))
          (try simp only [Act.put, sA, sB, sC])
          refine tkL (.bool false) (h := ?_)
          (try simp only [Act.put, sA, sB, sC])
          refine tkL (.bool false) (h := ?_)
          (try simp only [Act.put, sA, sB, sC])
          refine tkL (.bool false) (h := ?_)
          (try simp only [Act.put, sA, sB, sC])
          refine tkL (.bool false) (h := ?_)
          (try simp only [Act.put, sA, sB, sC])
          refine wpList_no (by rfl) ?_
          (try simp only [Act.put, sA, sB, sC])
          refine wpList_no (by rfl) ?_
          (try simp only [Act.put, sA, sB, sC])
          refine wpList_no (by rfl) ?_
          (try simp only [Act.put, sA, sB, sC])
          refine wpList_no (by rfl) ?_
          (try simp only [Act.put, sA, sB, sC])
          refine tkL (.bool false) (h := ?_)
          (try simp only [Act.put, sA, sB, sC])
          refine tkL (.bool false) (h := ?_)
          (try simp only [Act.put, sA, sB, sC])
          refine wpList_nil ?_
          go_upto_region 11 with fail
          refine wp_region_lit ?_
          refine tkL (.bool false) (h := ?_)
          (try simp only [Act.put, sA, sB, sC])
          refine tkL (.bool false) (h := ?_)
          (try simp only [Act.put, sA, sB, sC])
          refine tkL (.pointer (some ⟨bn10, 0, none⟩)) (h := ?_)
          (try simp only [Act.put, sA, sB, sC])
          refine tkL (.pointer (some ⟨bn10, 0, none⟩)) (h := ?_)
          (try simp only [Act.put, sA, sB, sC])
          refine wpList_q (by rfl) (.int .i64 ((tkV c x1).ds)) ?he ?_
          case he => exact exec_cell 3 _ _ HBn10105.out rfl rfl rfl Try.underlying3 rfl
          (try simp only [Act.put, sA, sB, sC])
          refine wpList_q (by rfl) (.bool (decide ((tkV c x1).ds = 2))) ?he ?_
          case he => (go_simp; (first | done | rfl | (simp; done)))
          (try simp only [Act.put, sA, sB, sC])
          refine tkL (.bool (decide ((tkV c x1).ds = 2))) (h := ?_)
          (try simp only [Act.put, sA, sB, sC])
          refine tkL (.bool (decide ((tkV c x1).ds = 2))) (h := ?_)
          (try simp only [Act.put, sA, sB, sC])
          refine wpList_nil ?_
          go_upto_region 6 with fail
          refine wp_region_lit ?_
          refine tkL (.int .i64 (i : Int)) (h := ?_)
          (try simp only [Act.put, sA, sB, sC])
          refine wpList_q (by rfl) (.int .i64 ((i : Int) + 1)) ?he ?_
          case he => (go_simp; (first | done | (refine wrI _ ?_ ?_ <;> (have q0 := HK.out; omega)) | (have q0 := HK.out; omega) | (have q0 := HK.out; split <;> omega) | (have q0 := HK.out; intro hh; omega)))
          (try simp only [Act.put, sA, sB, sC])
          refine tkL (.int .i64 ((i : Int) + 1)) (h := ?_)
          (try simp only [Act.put, sA, sB, sC])
          refine wpList_nil ?_
          go_wp2_with fail
          go_roundw
          case rel => exact ⟨i + 1, tkV c x1, (decide ((tkV c x1).ds = 2)), by have q1 := HLT.out; have q2 := HN.out; push_cast; omega, by have := HLT.out; push_cast; omega, rfl, by go_num, Lib.hid ⟨(by have q := HNX.out.1; rw [Bool.false_or] at q; exact q), HS105.out, HBC105.out, HBn10105.out⟩⟩
          case measure => have := HLT.out; simp [intOf]; omega
theorem u8_in {n : Int} (hn : (Lit.int .u8 n).wf = true) : 0 ≤ n ∧ n ≤ 255 := by
  simp only [Lit.wf, IntKind.has, IntKind.min, IntKind.max, IntKind.bits, IntKind.signed] at hn
  simp at hn
  omega
theorem holdsF {H : Type} {enc : TypeId × Value → H} {x3 : DataW H × List MemPlace} (cca cfl cft cse cdr cdw cho cre cyi cqu cqo clo csl crt ccp ctr cde cwi : Int) (f8 n : Int) (a3 : Option Addr) (len3 cap3 : Nat) (w : World) (_ : (Lit.int .i64 cca).wf = true) (_ : (Lit.int .i64 cfl).wf = true) (_ : (Lit.int .i64 cft).wf = true) (_ : (Lit.int .i64 cse).wf = true) (_ : (Lit.int .i64 cdr).wf = true) (_ : (Lit.int .i64 cdw).wf = true) (_ : (Lit.int .i64 cho).wf = true) (_ : (Lit.int .i64 cre).wf = true) (_ : (Lit.int .i64 cyi).wf = true) (_ : (Lit.int .i64 cqu).wf = true) (_ : (Lit.int .i64 cqo).wf = true) (_ : (Lit.int .i64 clo).wf = true) (_ : (Lit.int .i64 csl).wf = true) (_ : (Lit.int .i64 crt).wf = true) (_ : (Lit.int .i64 ccp).wf = true) (_ : (Lit.int .i64 ctr).wf = true) (_ : (Lit.int .i64 cde).wf = true) (_ : (Lit.int .i64 cwi).wf = true) (wf : (Lit.int .u8 f8).wf = true) (wn : (Lit.int .u8 n).wf = true)
    (h3 : ∃ m, DataW.trod enc Try.prog w 0 (fun _ => true) true m 39 (Value.cells (.slice a3 len3 cap3)).toList = some x3) :
    Calls Try.prog 12 #[.agg #[.int .i64 cca, .int .i64 cfl, .int .i64 cft, .int .i64 cse, .int .i64 cdr, .int .i64 cdw, .int .i64 cho, .int .i64 cre, .int .i64 cyi, .int .i64 cqu, .int .i64 cqo, .int .i64 clo, .int .i64 csl, .int .i64 crt, .int .i64 ccp, .int .i64 ctr, .int .i64 cde, .int .i64 cwi], .int .u8 f8, .int .u8 n, .slice a3 len3 cap3] w fun e w' => e = .returned (.bool true) ∧ Since w w' := by
  obtain ⟨m3, h3⟩ := h3
  obtain ⟨bs, hX, hl⟩ := BoV.open_ h3
  have a := u8_in wf
  have b0 := fl_lo cfl
  have b1 := fl_hi cfl
  have c0 := Int.emod_nonneg f8 (b := fl cfl) (by omega)
  have c1 := Int.emod_lt_of_pos f8 (b := fl cfl) (by omega)
  exact holds ⟨cca, cfl, cft, cse, cdr, cdw, cho, cre, cyi, cqu, cqo, clo, csl, crt, ccp, ctr, cde, cwi⟩ f8 n (f8 % fl cfl) a3 len3 cap3 bs w hX hl (u8_in wn) a rfl ⟨c0, c1, by show f8 % fl cfl ≤ 63; omega⟩
end Go.Proofs.Ytdbbacpofgjgoaa.Ct
