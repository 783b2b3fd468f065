/-
  The reference's checksum, walked: it returns the sum of the bytes that it is handed, and leaves the world alone.
  Conditions: the slice reads as the bytes.
-/
import Derived.Test.YtfggnchfkoifeaaRows
import Derived.Test.YtfggnchfkoifeaaCrcMath
import Derived.WalkKit
import Derived.WalkLawsBesides
import Derived.IntWalk
import Derived.Lib.Hide
namespace Go.Proofs.Ytfggnchfkoifeaa.Cw
set_option linter.unusedVariables false
set_option linter.unusedSimpArgs false
open Go.RowKit
open Go.Proofs.Ytfggnchfkoifeaa.Cm Go.Proofs.Ytfggnchfkoifeaa.Byt

theorem ret_int {k : IntKind} {a b : Int} (h : a = b) : Ending.returned (.int k a) = .returned (.int k b) := by rw [h]

/-- A step of the sum, as numbers. -/
theorem bit_c (X : BitVec 32) : (bits .and .u32 (X.toNat : Int) 1 == 1) = X.getLsbD 0 := by
  have h := u32_and_nat X.toNat 1 X.isLt (by omega)
  rw [show ((1 : Nat) : Int) = 1 from rfl] at h
  rw [h, Nat.and_one_is_mod]
  have e : X.getLsbD 0 = decide (X.toNat % 2 = 1) := by
    rw [BitVec.getLsbD, Nat.testBit_zero]
  rw [e]
  by_cases h1 : X.toNat % 2 = 1
  · simp [h1]
  · have h2 : X.toNat % 2 = 0 := by omega
    simp [h2]
theorem bit_z (z : Int) (h : isB z) (j : Nat) : (bits .and .u8 (z / 2 ^ j) 1 == 1) = z.toNat.testBit j := by
  obtain ⟨Z, rfl⟩ := Int.eq_ofNat_of_zero_le h.1
  have hz := h.2
  have e : ((Z : Int) / 2 ^ j) = ((Z / 2 ^ j : Nat) : Int) := by simp
  have hlt : Z / 2 ^ j < 256 := Nat.lt_of_le_of_lt (Nat.div_le_self _ _) (by omega)
  have h2 := u8_and_nat (Z / 2 ^ j) 1 hlt (by omega)
  rw [show ((1 : Nat) : Int) = 1 from rfl] at h2
  rw [e, h2, Nat.and_one_is_mod, Int.toNat_natCast, Nat.testBit_eq_decide_div_mod_eq]
  by_cases h1 : Z / 2 ^ j % 2 = 1
  · simp [h1]
  · have h3 : Z / 2 ^ j % 2 = 0 := by omega
    simp [h3]
theorem half (X : BitVec 32) : HDiv.hDiv (α := Int) (X.toNat : Int) (2 : Int) = ((X >>> 1).toNat : Int) := by
  rw [BitVec.toNat_ushiftRight, Nat.shiftRight_eq_div_pow]; simp
theorem half_po (X : BitVec 32) : bits .xor .u32 (HDiv.hDiv (α := Int) (X.toNat : Int) (2 : Int)) 3988292384 = ((X >>> 1 ^^^ po).toNat : Int) := by
  rw [half]
  have h := u32_xor_nat (X >>> 1).toNat 3988292384 (X >>> 1).isLt (by omega)
  rw [show ((3988292384 : Nat) : Int) = 3988292384 from rfl] at h
  rw [h, BitVec.toNat_xor]; rfl
theorem not_max (X : BitVec 32) : bits .xor .u32 IntKind.u32.max (X.toNat : Int) = ((~~~X).toNat : Int) := by
  have h := u32_xor_nat 4294967295 X.toNat (by omega) X.isLt
  have e : IntKind.u32.max = ((4294967295 : Nat) : Int) := by decide
  rw [e, h]
  have e2 : ~~~X = 4294967295#32 ^^^ X := by
    have h1 : (4294967295#32) = BitVec.allOnes 32 := by decide
    rw [h1, BitVec.allOnes_xor]
  rw [e2, BitVec.toNat_xor]; rfl
theorem bst_f (X : BitVec 32) (x : Bool) (h : (X.getLsbD 0 ^^ x) = false) : (X.toNat : Int) / 2 = ((bst X x).toNat : Int) := by
  unfold bst; rw [h]; exact half X
theorem bst_t (X : BitVec 32) (x : Bool) (h : (X.getLsbD 0 ^^ x) = true) : bits .xor .u32 ((X.toNat : Int) / 2) 3988292384 = ((bst X x).toNat : Int) := by
  unfold bst; rw [h]; exact half_po X
/-- The number behind k bytes; behind j bits more. -/
def acc (zs : List Int) (k : Nat) : BitVec 32 := crcF (~~~ 0#32) (zs.take k)
def accb (zs : List Int) (k j : Nat) : BitVec 32 := runF (acc zs k) (fun i => (zs.getD k 0).toNat.testBit i) j
theorem acc_succ (zs : List Int) (k : Nat) (h : k < zs.length) (hB : ∀ z ∈ zs, isB z) : acc zs (k + 1) = accb zs k 8 := by
  unfold acc accb
  rw [List.take_succ_eq_append_getElem h, crcF_snoc]
  have hz := hB _ (List.getElem_mem h)
  have hg : zs.getD k 0 = zs[k] := by simp [List.getD, h]
  rw [hg]
  generalize zs[k] = z at hz
  obtain ⟨Z, rfl⟩ := Int.eq_ofNat_of_zero_le hz.1
  have := hz.2
  exact byS_run _ Z (by omega)

set_option maxHeartbeats 1000000 in
theorem crcR (a : Option Addr) (n cap : Nat) (zs : List Int) (w : World) (h : BV w a n zs) :
    Calls Try.prog 13 #[.slice a n cap] w fun e w' => e = .returned (.int .u32 (crcN zs)) ∧ w = w' := by
  obtain ⟨hl, hn, hB, hr⟩ := h
  rcases hr with h0 | ⟨b, off, rfl, _, hc⟩
  · subst h0
    obtain rfl : zs = [] := List.eq_nil_of_length_eq_zero hl
    go_enter Try.func13, Try.ntmps13
    go_wp2
    go_loop [3, 4] (fun c i => c = .int .u32 4294967295 ∧ i = .int .i64 0) (fun _ _ => 0)
    case atStart => exact ⟨rfl, rfl⟩
    case round =>
      obtain ⟨rfl, rfl⟩ := hrel
      go_wp2
      go_ret
      exact ⟨congrArg Ending.returned (by kernel_rfl), rfl⟩
  · have HL := Lib.hid hl
    clear hl
    have HC := Lib.hid hc
    clear hc
    go_enter Try.func13, Try.ntmps13
    go_wp2
    go_loop [3, 4, 5, 6] (fun c i _ _ => ∃ k : Nat, k ≤ n ∧ i = .int .i64 k ∧ c = .int .u32 ((acc zs k).toNat : Int)) (fun _ i _ _ => n - (intOf i).toNat)
    case atStart => exact ⟨0, by omega, rfl, rfl⟩
    case round =>
      obtain ⟨k, hk, rfl, rfl⟩ := hrel
      by_cases hlt : k < n
      · have hcell := HC.out k hlt
        have hz : isB (zs.getD k 0) := by
          have hk' : k < zs.length := by have := HL.out; omega
          have hg : zs.getD k 0 = zs[k] := by simp [List.getD, hk']
          rw [hg]; exact hB _ (List.getElem_mem _)
        have HZ := Lib.hid hz
        clear hz
        generalize hzd : zs.getD k 0 = z at hcell HZ
        have HD := Lib.hid hzd
        clear hzd
        go_wp2
        go_loop [3, 5, 6] (fun c i _ => ∃ j : Nat, j ≤ 8 ∧ i = .int .i64 j ∧ c = .int .u32 ((accb zs k j).toNat : Int)) (fun _ i _ => 8 - (intOf i).toNat)
        case atStart => exact ⟨0, by omega, rfl, rfl⟩
        case round =>
          obtain ⟨j, hj, rfl, rfl⟩ := hrel
          by_cases hlj : j < 8
          · have hx := (accb zs k j).isLt
            have b1 := bit_c (accb zs k j)
            have b2 := bit_z z HZ.out j
            have HN : Hid (accb zs k (j + 1) = bst (accb zs k j) (z.toNat.testBit j)) := Lib.hid (by
              show bst (accb zs k j) ((zs.getD k 0).toNat.testBit j) = _
              rw [HD.out])
            generalize accb zs k j = X at hx b1 HN ⊢
            generalize hT : z.toNat.testBit j = t at b2 HN
            have HT' := Lib.hid hT
            clear hT
            cases hb : X.getLsbD 0 <;> cases ht : t
            · rw [hb] at b1
              rw [ht] at b2
              have HB := Lib.hid hb
              have HT := Lib.hid ht
              clear hb ht
              go_wp2
              go_round
              case rel => exact ⟨j + 1, by omega, by go_num, congrArg (Value.int .u32) (by rw [HN.out]; exact bst_f X _ (by rw [HB.out, HT.out]; rfl))⟩
              case measure => simp [intOf]; omega
            · rw [hb] at b1
              rw [ht] at b2
              have HB := Lib.hid hb
              have HT := Lib.hid ht
              clear hb ht
              go_wp2
              go_round
              case rel => exact ⟨j + 1, by omega, by go_num, congrArg (Value.int .u32) (by rw [HN.out]; exact bst_t X _ (by rw [HB.out, HT.out]; rfl))⟩
              case measure => simp [intOf]; omega
            · rw [hb] at b1
              rw [ht] at b2
              have HB := Lib.hid hb
              have HT := Lib.hid ht
              clear hb ht
              go_wp2
              go_round
              case rel => exact ⟨j + 1, by omega, by go_num, congrArg (Value.int .u32) (by rw [HN.out]; exact bst_t X _ (by rw [HB.out, HT.out]; rfl))⟩
              case measure => simp [intOf]; omega
            · rw [hb] at b1
              rw [ht] at b2
              have HB := Lib.hid hb
              have HT := Lib.hid ht
              clear hb ht
              go_wp2
              go_round
              case rel => exact ⟨j + 1, by omega, by go_num, congrArg (Value.int .u32) (by rw [HN.out]; exact bst_f X _ (by rw [HB.out, HT.out]; rfl))⟩
              case measure => simp [intOf]; omega
          · obtain rfl : j = 8 := by omega
            have HN : Hid (acc zs (k + 1) = accb zs k 8) := Lib.hid (acc_succ zs k (by have := HL.out; omega) hB)
            go_wp2
            go_round
            case rel => exact ⟨k + 1, by omega, by go_num, congrArg (Value.int .u32) (by rw [HN.out])⟩
            case measure => simp [intOf]; omega
      · obtain rfl : k = n := by omega
        have HF : Hid (crcZ zs = ~~~ acc zs k) := Lib.hid (by
          unfold crcZ acc
          rw [List.take_of_length_le (by have := HL.out; omega)])
        go_wp2
        go_ret
        exact ⟨ret_int (by unfold crcN; rw [HF.out]; exact not_max _), rfl⟩
end Go.Proofs.Ytfggnchfkoifeaa.Cw
