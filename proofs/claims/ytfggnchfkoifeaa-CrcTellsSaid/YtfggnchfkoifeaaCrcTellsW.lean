/-
  The walk of CrcTells: whatever bytes and whatever burst come in, it answers true.
  Conditions: the contracts of the program's two calls.
-/
import Derived.Test.YtfggnchfkoifeaaCrcLaw
import Derived.OwnWalk
namespace Go.Proofs.Ytfggnchfkoifeaa.CtW
set_option linter.unusedVariables false
set_option linter.unusedSimpArgs false
open Go.RowKit
open Go.Proofs.Ytfggnchfkoifeaa.Cl Go.Proofs.Ytfggnchfkoifeaa.Cm Go.Proofs.Ytfggnchfkoifeaa.Byt Go.Proofs.Ytfggnchfkoifeaa.Mem Go.Proofs.Ytfggnchfkoifeaa.Cw

/-- The bytes, with the first j of five laid over. -/
def upd (y : List Int) (K X : Nat) : Nat → List Int
  | 0 => y
  | j + 1 => (upd y K X j).set (K + j) (xb (y.getD (K + j) 0) (bu X j))
theorem upd_length (y : List Int) (K X j : Nat) : (upd y K X j).length = y.length := by
  induction j with
  | zero => rfl
  | succ j ih => simp [upd, ih]
theorem upd_get (y : List Int) (K X j i : Nat) (h : K + j ≤ i) : (upd y K X j).getD i 0 = y.getD i 0 := by
  induction j with
  | zero => rfl
  | succ j ih =>
    have := ih (by omega)
    simp only [List.getD, upd] at this ⊢
    rw [List.getElem?_set_ne (by omega), this]
theorem upd_isB (y : List Int) (K X j : Nat) (h : ∀ z ∈ y, isB z) (hk : K + j ≤ y.length) : ∀ z ∈ upd y K X j, isB z := by
  induction j with
  | zero => exact h
  | succ j ih =>
    intro z hz
    rcases List.mem_or_eq_of_mem_set hz with h1 | h1
    · exact ih (by omega) z h1
    · subst h1
      refine xb_isB ?_ ⟨by omega, by have := bu_lt X j; omega⟩
      have : y.getD (K + j) 0 = y[K + j]'(by omega) := by simp [List.getD, show K + j < y.length by omega]
      rw [this]; exact h _ (List.getElem_mem _)
theorem split5 (y : List Int) (K : Nat) (h : K + 5 ≤ y.length) : ∃ pre b0 b1 b2 b3 b4 post, y = pre ++ [b0, b1, b2, b3, b4] ++ post ∧ pre.length = K := by
  refine ⟨y.take K, y[K], y[K+1], y[K+2], y[K+3], y[K+4], y.drop (K + 5), ?_, by rw [List.length_take]; omega⟩
  have e : y.drop K = y[K] :: y[K+1] :: y[K+2] :: y[K+3] :: y[K+4] :: y.drop (K + 5) := by
    rw [List.drop_eq_getElem_cons (by omega), List.drop_eq_getElem_cons (by omega), List.drop_eq_getElem_cons (by omega), List.drop_eq_getElem_cons (by omega), List.drop_eq_getElem_cons (by omega)]
  have := List.take_append_drop K y
  rw [e] at this
  rw [List.append_assoc]
  exact this.symm
theorem upd_tells (y : List Int) (K T sh : Nat) (h : K + 5 ≤ y.length) (hB : ∀ z ∈ y, isB z) (hT : T < 4294967296) (hsh : sh < 8) (h0 : T ≠ 0) :
    crcZ y ≠ crcZ (upd y K (T * 2 ^ sh) 5) := by
  obtain ⟨pre, b0, b1, b2, b3, b4, post, rfl, rfl⟩ := split5 y K h
  have e : upd (pre ++ [b0, b1, b2, b3, b4] ++ post) pre.length (T * 2 ^ sh) 5 = pre ++ [xb b0 (bu (T * 2 ^ sh) 0), xb b1 (bu (T * 2 ^ sh) 1), xb b2 (bu (T * 2 ^ sh) 2), xb b3 (bu (T * 2 ^ sh) 3), xb b4 (bu (T * 2 ^ sh) 4)] ++ post := by
    simp [upd, List.getD]
  rw [e]
  exact tells pre post b0 b1 b2 b3 b4 T sh hT hsh h0 (hB _ (by simp)) (hB _ (by simp)) (hB _ (by simp)) (hB _ (by simp)) (hB _ (by simp))
theorem upd_tells' (y : List Int) (K T sh : Nat) (h : K + 5 ≤ y.length) (hB : ∀ z ∈ y, isB z) (hT : T < 4294967296) (hsh : sh < 8) (h0 : T ≠ 0) :
    (crcN y != crcN (upd y K (T * 2 ^ sh) 5)) = true := by
  rw [bne_iff_ne]
  intro he
  apply upd_tells y K T sh h hB hT hsh h0
  unfold crcN at he
  exact BitVec.eq_of_toNat_eq (by omega)
theorem infoB : (Try.prog.info? 5).map (fun i => (i.zero, i.size, i.bytes)) = some (some (.int .u8 0), 1, 1) := by kernel_rfl
set_option maxHeartbeats 1000000 in
theorem walkH (hS : SumSaid) (hM : MoreSaid) (a0 : Option Addr) (len0 cap0 : Nat) (y0 : List Int) (at1 turn sh : Int) (w : World) (b0 : BV w a0 len0 y0) (m0 : len0 ≤ 140737488351232)
    (w1 : (Lit.int .u16 at1).wf = true) (w2 : (Lit.int .u32 turn).wf = true) (w3 : (Lit.int .u8 sh).wf = true) :
    Calls Try.prog 4 #[.slice a0 len0 cap0, .int .u16 at1, .int .u32 turn, .int .u8 sh] w fun e w' => e = .returned (.bool true) ∧ Below w.heap.size w w' := by
  have r1 := bounds_u16 w1
  have r2 := bounds_u32 w2
  have r3 := bounds_u8 w3
  clear w1 w2 w3
  by_cases h5 : len0 < 5
  · go_enter Try.func4, Try.ntmps4
    go_wp2_with (go_at_call 11; refine (ans hS hM _).mono ?_; rintro e w1 ⟨rfl, hb1⟩)
    go_ret
    exact ⟨rfl, hb1⟩
  · by_cases h5000 : 5000 < len0
    · go_enter Try.func4, Try.ntmps4
      go_wp2_with (go_at_call 11; refine (ans hS hM _).mono ?_; rintro e w1 ⟨rfl, hb1⟩)
      go_ret
      exact ⟨rfl, hb1⟩
    · by_cases h0 : turn = 0
      · subst h0
        go_enter Try.func4, Try.ntmps4
        go_wp2_with (go_at_call 11; refine (ans hS hM _).mono ?_; rintro e w1 ⟨rfl, hb1⟩)
        go_ret
        exact ⟨rfl, hb1⟩
      · have h0' : (turn == 0) = false := by simp [h0]
        have k0 := Int.emod_nonneg at1 (show (len0 : Int) - 4 ≠ 0 by omega)
        have k1 := Int.emod_lt_of_pos at1 (show 0 < (len0 : Int) - 4 by omega)
        obtain ⟨K, hK⟩ := Int.eq_ofNat_of_zero_le k0
        have hK5 : K + 5 ≤ len0 := by omega
        have T0 : 0 ≤ turn * 2 ^ (sh % 8).toNat := Int.mul_nonneg (by omega) (Int.pow_nonneg (by omega))
        obtain ⟨T, rfl⟩ := Int.eq_ofNat_of_zero_le r2.1
        have hsh : (sh % 8).toNat < 8 := by omega
        obtain ⟨S, hS'⟩ : ∃ S, S = (sh % 8).toNat := ⟨_, rfl⟩
        have hX : IntKind.u64.wrap ((T : Int) * 2 ^ (sh % 8).toNat) = ((T * 2 ^ S : Nat) : Int) := by
          rw [hS'] at *
          have e1 : (2 : Nat) ^ (sh % 8).toNat ≤ 2 ^ 8 := Nat.pow_le_pow_right (by omega) (by omega)
          have e2 : T * 2 ^ (sh % 8).toNat ≤ 4294967295 * 2 ^ 8 := Nat.mul_le_mul (by omega) e1
          have e3 : ((T : Int) * 2 ^ (sh % 8).toNat) = ((T * 2 ^ (sh % 8).toNat : Nat) : Int) := by simp
          rw [e3]
          generalize T * 2 ^ (sh % 8).toNat = Y at e2
          simp [IntKind.wrap, IntKind.bits, IntKind.signed]
          omega
        obtain ⟨X, hXX⟩ : ∃ X, X = T * 2 ^ S := ⟨_, rfl⟩
        rw [← hXX] at hX
        have HX := Lib.hid hXX
        have HS := Lib.hid hS'
        clear hXX hS' T0 k0 k1
        go_enter Try.func4, Try.ntmps4
        go_wp2_with (at_builtin; refine wpList_append_b _ rfl (.tmp 32) (.tmp 33) _ rfl w.heap.size 5 Try.underlying22 infoB (.slice (some ⟨w.heap.size, 0, none⟩) 0 0) 0 [] rfl (own_empty w _ 1) a0 len0 cap0 y0 rfl (b0.alloc _) (by omega) (by simp) ?_; intro A1 c1 w1 hown1 hg1 hb1; simp only [Nat.zero_add, List.nil_append] at hown1; obtain ⟨g, cap', hv, hbg, hlt⟩ := hown1.form (by omega); obtain ⟨rfl, _⟩ : A1 = some ⟨g, 0, none⟩ ∧ True := ⟨by injection hv, trivial⟩)
        have HB1 := Lib.hid (((Below.refl _ _).alloc (Nat.le_refl _) _).trans hb1)
        have HK := Lib.hid hK
        have HXw := Lib.hid hX
        clear hg1 hb1 hK hX
        go_loopw [12] (fun i wr => ∃ j : Nat, j ≤ 5 ∧ i = .int .i64 j ∧ wr.ownsRow w.heap.size 5 1 (.slice (some ⟨g, 0, none⟩) len0 c1) len0 (cells (upd y0 K X j)) ∧ Below w.heap.size w wr) (fun i _ => 5 - (intOf i).toNat)
        case atStart => exact ⟨0, by omega, rfl, hown1, HB1.out⟩
        case round =>
          obtain ⟨j, hj, rfl, hown, hbel⟩ := hrel
          have HB := Lib.hid hbel
          clear hbel
          by_cases hlt : j < 5
          · have hcell := hown.cellAt (K + j) (by omega)
            have hfr := hown.frozenAt (K + j)
            have hgd : (cells (upd y0 K X j))[K + j]? = some (.int .u8 (y0.getD (K + j) 0)) := by
              rw [cells_at _ _ (by rw [upd_length, b0.1]; omega), upd_get _ _ _ _ _ (Nat.le_refl _)]
            rw [hgd] at hcell
            have HO := Lib.hid hown
            clear hown hgd
            generalize hy : y0.getD (K + j) 0 = z at hcell
            have HY := Lib.hid hy
            clear hy
            go_wp2
            go_roundw
            case rel =>
              refine ⟨j + 1, by omega, by go_num, ?_, HB.out.setCell hbg _⟩
              have h1 := HO.out.stored (K + j) (.int .u8 (bits .xor .u8 z ((X : Int) / 2 ^ (8 * j) % 256)))
              have h2 : cells (upd y0 K X (j + 1)) = (cells (upd y0 K X j)).set (K + j) (.int .u8 (bits .xor .u8 z ((X : Int) / 2 ^ (8 * j) % 256))) := by
                rw [upd, HY.out]
                unfold cells
                rw [List.map_set]
                congr 2
              rw [h2]
              exact h1.1
            case measure => simp [intOf]; omega
          · obtain rfl : j = 5 := by omega
            have q0 := b0.below HB.out
            have hB' : ∀ z ∈ upd y0 K X 5, isB z := upd_isB y0 K X 5 b0.2.2.1 (by rw [b0.1]; omega)
            have qa : BV wr (some ⟨g, 0, none⟩) len0 (upd y0 K X 5) := BV.of_own hown hB'
            have ht : (crcN y0 != crcN (upd y0 K X 5)) = true := by
              rw [HX.out]
              exact upd_tells' y0 K T S (by rw [b0.1]; omega) b0.2.2.1 (by omega) (by rw [HS.out]; omega) (by omega)
            have HB0 := HB
            clear hown hB' HB
            go_wp2_with fail
            refine (ans hS hM _).mono ?_
            rintro e w1 ⟨rfl, hb1⟩
            replace q0 := q0.below hb1
            replace qa := qa.below hb1
            have HB1 := Lib.hid (HB0.out.trans (hb1.mono HB0.out.size))
            clear hb1
            go_wp2_with fail
            refine (hS _ _ _ _ _ q0).mono ?_
            rintro e w2 ⟨rfl, hb2⟩
            replace qa := qa.below hb2
            have HB2 := Lib.hid (HB1.out.trans (hb2.mono HB1.out.size))
            clear hb2
            go_wp2_with fail
            refine (hS _ _ _ _ _ qa).mono ?_
            rintro e w3 ⟨rfl, hb3⟩
            have HB3 := Lib.hid (HB2.out.trans (hb3.mono HB2.out.size))
            clear hb3
            go_wp2_with fail
            go_ret
            exact ⟨rfl, HB3.out⟩
end Go.Proofs.Ytfggnchfkoifeaa.CtW
