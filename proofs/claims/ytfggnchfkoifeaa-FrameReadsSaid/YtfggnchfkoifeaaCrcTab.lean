/-
  Plain facts: a byte's step by a table of 256.
  No condition.
-/
import Derived.Test.YtfggnchfkoifeaaCrcRef
namespace Go.Proofs.Ytfggnchfkoifeaa.Cm
set_option linter.unusedVariables false
set_option linter.unusedSimpArgs false
open Go.Proofs.Ytfggnchfkoifeaa.Byt (isB)
theorem zn_high (n : Nat) (c : BitVec 32) (h : ∀ i, i < n → c.getLsbD i = false) : zn n c = c >>> n := by
  induction n with
  | zero => simp [zn]
  | succ n ih =>
    show zst (zn n c) = _
    rw [ih (fun i hi => h i (by omega))]
    have h0 : (c >>> n).getLsbD 0 = false := by rw [BitVec.getLsbD_ushiftRight]; exact h n (by omega)
    unfold zst
    rw [if_neg (by rw [h0]; decide), BitVec.shiftRight_add]
theorem low_xor (c : BitVec 32) : low c 8 ^^^ (c ^^^ low c 8) = c := by
  have : low c 8 ^^^ (c ^^^ low c 8) = c ^^^ (low c 8 ^^^ low c 8) := by ac_rfl
  rw [this]; simp
theorem byS_tab (c : BitVec 32) (z : Int) : byS c z = zn 8 (low c 8 ^^^ BitVec.ofInt 32 z) ^^^ c >>> 8 := by
  have hh : ∀ i, i < 8 → (c ^^^ low c 8).getLsbD i = false := by
    intro i hi
    rw [BitVec.getLsbD_xor, low_get _ _ _ (by omega)]
    simp [hi]
  have hs : (c ^^^ low c 8) >>> 8 = c >>> 8 := by
    apply BitVec.eq_of_getLsbD_eq
    intro i hi
    rw [BitVec.getLsbD_ushiftRight, BitVec.getLsbD_ushiftRight, BitVec.getLsbD_xor]
    by_cases h : 8 + i < 32
    · rw [low_get _ _ _ h, show decide (8 + i < 8) = false from decide_eq_false (by omega)]; simp only [Bool.and_false, Bool.xor_false]
    · rw [BitVec.getLsbD_of_ge _ _ (by omega), BitVec.getLsbD_of_ge _ _ (by omega)]; rfl
  unfold byS
  have e : c ^^^ BitVec.ofInt 32 z = (low c 8 ^^^ BitVec.ofInt 32 z) ^^^ (c ^^^ low c 8) := by
    have : (low c 8 ^^^ BitVec.ofInt 32 z) ^^^ (c ^^^ low c 8) = (low c 8 ^^^ (c ^^^ low c 8)) ^^^ BitVec.ofInt 32 z := by ac_rfl
    rw [this, low_xor]
  rw [e, zn_xor, zn_high 8 _ hh, hs]
/-- The table's place of a byte. -/
def at8 (c : BitVec 32) (Z : Nat) : Nat := (c.toNat % 256) ^^^ Z
theorem at8_lt (c : BitVec 32) (Z : Nat) (h : Z < 256) : at8 c Z < 256 := by
  have : c.toNat % 256 ^^^ Z < 2 ^ 8 := Nat.xor_lt_two_pow (by omega) (by omega)
  unfold at8; omega
theorem low_at (c : BitVec 32) (Z : Nat) (h : Z < 256) : low c 8 ^^^ BitVec.ofInt 32 Z = BitVec.ofNat 32 (at8 c Z) := by
  apply BitVec.eq_of_getLsbD_eq
  intro i hi
  rw [BitVec.getLsbD_xor, low_get _ _ _ hi, BitVec.ofInt_natCast, BitVec.getLsbD_ofNat, BitVec.getLsbD_ofNat]
  unfold at8
  rw [Nat.testBit_xor, show (256 : Nat) = 2 ^ 8 from rfl, Nat.testBit_mod_two_pow, BitVec.getLsbD]
  simp [hi, Bool.and_comm]
/-- What the table holds at a place. -/
def tab (n : Nat) : BitVec 32 := zn 8 (BitVec.ofNat 32 n)
theorem byS_at (c : BitVec 32) (Z : Nat) (h : Z < 256) : byS c (Z : Int) = tab (at8 c Z) ^^^ c >>> 8 := by
  rw [byS_tab, low_at c Z h]; rfl
theorem zst_bst (c : BitVec 32) : bst c false = zst c := by rw [bst_eq]; simp [b32]
theorem tab_zero_lt (n : Nat) : (tab n).toNat < 4294967296 := (tab n).isLt
end Go.Proofs.Ytfggnchfkoifeaa.Cm
