/-
  What the laws on checksums lean on: the contracts of the program's two calls, and the fixed answers.
  Conditions: the two contracts.
-/
import Derived.Test.YtfggnchfkoifeaaRows
import Derived.Test.YtfggnchfkoifeaaCrcMath
import Derived.Test.YtfggnchfkoifeaaCrcRef
import Derived.WalkKit
import Derived.WalkLawsBesides
import Derived.IntWalk
import Derived.Lib.Hide
import Derived.Lib.SlBytesConst
namespace Go.Proofs.Ytfggnchfkoifeaa.Cl
set_option linter.unusedVariables false
set_option linter.unusedSimpArgs false
open Go.RowKit
open Go.Proofs.Ytfggnchfkoifeaa.Cm Go.Proofs.Ytfggnchfkoifeaa.Byt Go.Proofs.Ytfggnchfkoifeaa.Mem Go.Proofs.Ytfggnchfkoifeaa.Cw

def SumSaid : Prop := ∀ (a : Option Addr) (n cap : Nat) (zs : List Int) (w : World), BV w a n zs →
  Calls Try.prog 12 #[.slice a n cap] w fun e w' => e = .returned (.int .u32 (crcN zs)) ∧ Below w.heap.size w w'
def MoreSaid : Prop := ∀ (c : Int) (pre : List Int) (a : Option Addr) (n cap : Nat) (zs : List Int) (w : World), c = crcN pre → BV w a n zs →
  Calls Try.prog 14 #[.int .u32 c, .slice a n cap] w fun e w' => e = .returned (.int .u32 (crcN (pre ++ zs))) ∧ Below w.heap.size w w'

theorem SumSaid.on (hS : SumSaid) (a : Option Addr) (n cap : Nat) (zs : List Int) (w : World) (h : BV w a n zs) :
    Calls Try.prog 12 #[.slice a n cap] w fun e w' => e = .returned (.int .u32 (crcN zs)) ∧ Below w.heap.size w w' := hS a n cap zs w h
def nine : List Int := [49, 50, 51, 52, 53, 54, 55, 56, 57]
def four : List Int := [49, 50, 51, 52]
def five : List Int := [53, 54, 55, 56, 57]
theorem nine_sum : (crcN nine == 3421780262) = true := by decide +kernel
theorem both_sum : (crcN (four ++ five) == 3421780262) = true := by decide +kernel
theorem BV.lit (w : World) (t : TypeId) (fr : Nat × Nat) (zs : List Int) (n : Nat) (hl : zs.length = n) (hn : n ≤ 1000) (hB : ∀ z ∈ zs, isB z) : BV (w.alloc (.cells (cells zs).toArray t fr)) (some ⟨w.heap.size, 0, none⟩) n zs := by
  refine ⟨hl, by omega, hB, .inr ⟨_, 0, rfl, by simp, fun j hj => ?_⟩⟩
  have h := cell_of_row (w.alloc (.cells (cells zs).toArray t fr)) w.heap.size (0 + j) _ _ _ (heap_alloc_new w _)
  rw [h, Nat.zero_add]
  simpa using cells_at zs j (by omega)
theorem nine_B : ∀ z ∈ nine, isB z := by unfold nine isB; decide
theorem four_B : ∀ z ∈ four, isB z := by unfold four isB; decide
theorem five_B : ∀ z ∈ five, isB z := by unfold five isB; decide

set_option maxHeartbeats 1000000 in
theorem ans (hS : SumSaid) (hM : MoreSaid) (w : World) : Calls Try.prog 11 #[] w fun e w' => e = .returned (.bool true) ∧ Below w.heap.size w w' := by
  have kc := fun (w : World) (C : Array Value) (n c : Nat) => Lib.run_convert_bytes_const (P := Try.prog) w 22 5 C n c Try.underlying22 Try.underlying5
  have h9 := nine_sum
  have h45 := both_sum
  go_enter Try.func11, Try.ntmps11
  go_wp2_with fail
  refine (hS _ _ _ nine _ (BV.lit _ _ _ nine 9 rfl (by omega) nine_B)).mono ?_
  rintro e w1 ⟨rfl, hb1⟩
  have HB1 := Lib.hid hb1
  clear hb1
  go_wp2_with fail
  refine (hS _ _ _ four _ (BV.lit _ _ _ four 4 rfl (by omega) four_B)).mono ?_
  rintro e w2 ⟨rfl, hb2⟩
  have HB2 := Lib.hid hb2
  clear hb2
  go_wp2_with fail
  refine (hM _ four _ _ _ five _ rfl (BV.lit _ _ _ five 5 rfl (by omega) five_B)).mono ?_
  rintro e w3 ⟨rfl, hb3⟩
  have HB3 := Lib.hid hb3
  clear hb3
  go_wp2_with fail
  go_ret
  refine ⟨rfl, ?_⟩
  have c1 : Below w.heap.size w w1 := ((Below.refl _ _).alloc (Nat.le_refl _) _).trans (HB1.out.mono (by simp))
  have c2 : Below w.heap.size w w2 := (c1.alloc c1.size _).trans (HB2.out.mono (by simp; exact Nat.le_succ_of_le c1.size))
  exact (c2.alloc c2.size _).trans (HB3.out.mono (by simp; exact Nat.le_succ_of_le c2.size))
end Go.Proofs.Ytfggnchfkoifeaa.Cl
