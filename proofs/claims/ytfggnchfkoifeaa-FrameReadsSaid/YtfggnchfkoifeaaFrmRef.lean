/-
  The reference's frame, walked: it returns, in new memory, the frame of the bytes that it is handed.
  Conditions: the slice reads as the bytes; at most 1000 of them.
-/
import Derived.Test.YtfggnchfkoifeaaRows
import Derived.Test.YtfggnchfkoifeaaFrmMath
import Derived.Test.YtfggnchfkoifeaaCrcRef
import Derived.WalkKit
import Derived.WalkLawsBesides
import Derived.IntWalk
import Derived.OwnWalk
import Derived.Lib.Hide
namespace Go.Proofs.Ytfggnchfkoifeaa.Fw
set_option linter.unusedVariables false
set_option linter.unusedSimpArgs false
open Go.RowKit
open Go.Proofs.Ytfggnchfkoifeaa.Cm Go.Proofs.Ytfggnchfkoifeaa.Byt Go.Proofs.Ytfggnchfkoifeaa.Mem Go.Proofs.Ytfggnchfkoifeaa.Cw Go.Proofs.Ytfggnchfkoifeaa.Fm

/-- What comes back is a row of new memory that holds zs; nothing that was there has turned. -/
def NewB (zs : List Int) (w : World) (e : Ending) (w' : World) : Prop :=
  ∃ A c, e = .returned (.slice A zs.length c) ∧ w'.ownsRow w.heap.size 5 1 (.slice A zs.length c) zs.length (cells zs) ∧ Below w.heap.size w w'
theorem infoB : (Try.prog.info? 5).map (fun i => (i.zero, i.size, i.bytes)) = some (some (.int .u8 0), 1, 1) := by kernel_rfl
theorem own_lit (w : World) (e : TypeId) (zs : List Int) (n : Nat) (h : zs.length = n) (hn : n ≤ 1000) : (w.alloc (.cells (cells zs).toArray e)).ownsRow w.heap.size e 1 (.slice (some ⟨w.heap.size, 0, none⟩) n n) n (cells zs) := by
  have hc : (cells zs).length = n := by simp [cells, h]
  refine ⟨by omega, .inr ⟨w.heap.size, n, (cells zs).toArray, rfl, Nat.le_refl _, heap_alloc_new w _, Nat.le_refl _, by unfold maxLen; omega, by simp [hc], ?_⟩⟩
  rw [List.take_of_length_le]
  simp [hc]
theorem BV.lit (w : World) (t : TypeId) (fr : Nat × Nat) (zs : List Int) (n : Nat) (hl : zs.length = n) (hn : n ≤ 1000) (hB : ∀ z ∈ zs, isB z) : BV (w.alloc (.cells (cells zs).toArray t fr)) (some ⟨w.heap.size, 0, none⟩) n zs := by
  refine ⟨hl, by omega, hB, .inr ⟨_, 0, rfl, by simp, fun j hj => ?_⟩⟩
  have h := cell_of_row (w.alloc (.cells (cells zs).toArray t fr)) w.heap.size (0 + j) _ _ _ (heap_alloc_new w _)
  rw [h, Nat.zero_add]
  simpa using cells_at zs j (by omega)
set_option maxHeartbeats 1000000 in
set_option maxRecDepth 100000 in
theorem frameR (a : Option Addr) (n cap : Nat) (zs : List Int) (w : World) (h : BV w a n zs) (hn : n ≤ 1000) :
    Calls Try.prog 17 #[.slice a n cap] w (NewB (frm zs) w) := by
  have HL := Lib.hid h.1
  go_enter Try.func17, Try.ntmps17
  go_wp2_with (at_builtin; refine wpList_append_b _ rfl (.tmp 8) (.tmp 9) _ rfl w.heap.size 5 Try.underlying22 infoB (.slice (some ⟨w.heap.size, 0, none⟩) 2 2) 2 [165, (n : Int) % 256] rfl (own_lit w _ [165, (n : Int) % 256] 2 rfl (by omega)) a n cap zs rfl (h.alloc _) (by omega) (by simp) ?_; intro A1 c1 w1 hown1 hg1 hb1)
  have hB := h.2.2.1
  have ehd : [165, (n : Int) % 256] ++ zs = hd zs := by
    have := HL.out
    rw [← this]; rfl
  rw [ehd] at hown1
  have q1 : BV w1 A1 (2 + n) (hd zs) := BV.of_own hown1 (hd_isB hB)
  have HE := Lib.hid ehd
  clear ehd
  refine (crcR _ _ _ _ _ q1).mono ?_
  rintro e _ ⟨rfl, rfl⟩
  have hlo := crcN_lo (hd zs)
  have hhi := crcN_hi (hd zs)
  generalize hN : crcN (hd zs) = N at hlo hhi
  have HN := Lib.hid hN
  clear hN
  obtain ⟨M, rfl⟩ := Int.eq_ofNat_of_zero_le hlo
  have e1 : bits .and .u32 ((M : Int) / 65536) 255 = (M : Int) / 65536 % 256 := by
    have h1 := u32_and_nat (M / 65536) 255 (by omega) (by omega)
    have h2 : M / 65536 &&& 255 = M / 65536 % 256 := Nat.and_two_pow_sub_one_eq_mod (M / 65536) 8
    rw [h2] at h1
    have h3 : ((M / 65536 : Nat) : Int) = (M : Int) / 65536 := by omega
    rw [h3] at h1
    rw [show ((255 : Nat) : Int) = 255 from rfl] at h1
    rw [h1]; omega
  have e2 : bits .and .u32 ((M : Int) / 256) 255 = (M : Int) / 256 % 256 := by
    have h1 := u32_and_nat (M / 256) 255 (by omega) (by omega)
    have h2 : M / 256 &&& 255 = M / 256 % 256 := Nat.and_two_pow_sub_one_eq_mod (M / 256) 8
    rw [h2] at h1
    have h3 : ((M / 256 : Nat) : Int) = (M : Int) / 256 := by omega
    rw [h3] at h1
    rw [show ((255 : Nat) : Int) = 255 from rfl] at h1
    rw [h1]; omega
  have e3 : bits .and .u32 (M : Int) 255 = (M : Int) % 256 := by
    have h1 := u32_and_nat M 255 (by omega) (by omega)
    have h2 : M &&& 255 = M % 256 := Nat.and_two_pow_sub_one_eq_mod M 8
    rw [h2] at h1
    rw [show ((255 : Nat) : Int) = 255 from rfl] at h1
    rw [h1]; omega
  have HB1 := Lib.hid hb1
  clear hhi
  go_wp2_with (at_builtin; refine wpList_append_b _ rfl (.tmp 13) (.tmp 28) _ rfl w.heap.size 5 Try.underlying22 infoB (.slice A1 (2 + n) c1) (2 + n) (hd zs) rfl (hown1.alloc _) (some ⟨w1.heap.size, 0, none⟩) 4 4 (be4 (M : Int)) rfl (BV.lit w1 5 (0, 0) (be4 (M : Int)) 4 rfl (by omega) (be4_isB _)) (by omega) ?bs ?_; (case bs => have := hb1.size; simp at this ⊢; omega); intro A2 c2 w2 hown2 hg2 hb2)
  go_ret
  have hlen : (frm zs).length = 2 + n + 4 := by rw [frm_length, HL.out]; omega
  have hfr : hd zs ++ be4 (M : Int) = frm zs := by unfold frm; rw [HN.out]
  refine ⟨A2, c2, by rw [hlen]; rfl, ?_, ?_⟩
  · rw [hlen, ← hfr]; exact hown2
  · exact (((Below.refl _ _).alloc (Nat.le_refl _) _).trans HB1.out).alloc (by have := HB1.out.size; simp at this; omega) _ |>.trans hb2
end Go.Proofs.Ytfggnchfkoifeaa.Fw
