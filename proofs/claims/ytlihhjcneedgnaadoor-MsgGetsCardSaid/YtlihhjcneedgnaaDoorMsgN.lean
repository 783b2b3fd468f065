/-
  msg.number, walked: what bytes say, the highest one first.
  Conditions: four bytes at most.
-/
import Derived.Test.YtlihhjcneedgnaaDoorMsgW
import Derived.Laws.BitsAllLaws
namespace Go.Proofs.YtlihhjcneedgnaaDoor.Mg
set_option linter.unusedVariables false
set_option linter.unusedSimpArgs false
open Go.RowKit Go.Proofs.YtlihhjcneedgnaaDoor.Ba Go.Proofs.YtlihhjcneedgnaaDoor.Mem
open Go.Proofs.YtlihhjcneedgnaaDoor.Byt (BV isB cells)
set_option maxRecDepth 100000
def numL (zs : List Int) : Int := zs.foldl (fun n z => n * 256 + z) 0
theorem numL_snoc (zs : List Int) (x : Int) : numL (zs ++ [x]) = numL zs * 256 + x := by unfold numL; rw [List.foldl_append]; rfl
theorem numL_bd : ∀ (n : Nat) (zs : List Int), zs.length = n → (∀ z ∈ zs, isB z) → 0 ≤ numL zs ∧ numL zs < 256 ^ n := by
  intro n
  induction n with
  | zero => intro zs h _; obtain rfl := List.eq_nil_of_length_eq_zero h; simp [numL]
  | succ n ih =>
    intro zs h hB
    have hne : zs ≠ [] := by intro e; subst e; simp at h
    obtain ⟨ys, x, rfl⟩ : ∃ ys x, zs = ys ++ [x] := ⟨zs.dropLast, zs.getLast hne, (List.dropLast_concat_getLast hne).symm⟩
    have hl : ys.length = n := by simp at h; exact h
    have := ih ys hl (fun z hz => hB z (by simp [hz]))
    have hx := hB x (by simp)
    unfold isB at hx
    rw [numL_snoc, Int.pow_succ]
    omega
theorem or_low (x z : Int) (h0 : 0 ≤ x) (h1 : x ≤ 4294967296) (h2 : 0 ≤ z) (h3 : z < 256) : bits .or .i64 (x * 256) z = x * 256 + z := by
  obtain ⟨X, rfl⟩ := Int.eq_ofNat_of_zero_le h0
  obtain ⟨Z, rfl⟩ := Int.eq_ofNat_of_zero_le h2
  have e0 : ((X : Int) * 256) = ((X * 256 : Nat) : Int) := by simp
  have e : X * 256 ||| Z = X * 256 + Z := by
    have := Nat.shiftLeft_add_eq_or_of_lt (i := 8) (b := Z) (by omega) X
    rw [Nat.shiftLeft_eq, show 2 ^ 8 = 256 from rfl] at this
    exact this.symm
  rw [e0]
  show IntKind.i64.wrap ((BitVec.ofInt 64 ((X * 256 : Nat) : Int) ||| BitVec.ofInt 64 (Z : Int)).toNat : Int) = _
  rw [BitVec.toNat_or, ofInt_u64 _ (by omega), ofInt_u64 _ (by omega), e]
  rw [wr64 _ (by omega) (by omega)]
  simp
theorem numberT (A : Option Addr) (n c : Nat) (zs : List Int) (w : World) (h : BV w A n zs) (hn : n ≤ 4) : Calls Tryd.prog 21 #[.slice A n c] w fun e w' => e = .returned (.int .i64 (numL zs)) ∧ w = w' := by
  have hni : (n : Int) ≤ 4 := by omega
  have HV := Lib.hid h
  obtain ⟨hl, hb, hB, hA⟩ := h
  have HL := Lib.hid hl
  have HZ := Lib.hid hB
  have HA := Lib.hid hA
  clear hl hb hB hA
  go_enter Tryd.func21, Tryd.ntmps21
  go_wp2
  go_loop [3, 8] (fun x i => ∃ k : Nat, k ≤ n ∧ i = .int .i64 k ∧ x = .int .i64 (numL (zs.take k))) (fun _ i => n - (intOf i).toNat)
  case atStart => exact ⟨0, by omega, rfl, rfl⟩
  case round =>
    obtain ⟨k, hk, rfl, rfl⟩ := hrel
    by_cases hlt : k < n
    · have hkl : k < zs.length := by have := HL.out; omega
      have hg : zs.getD k 0 = zs[k] := by simp [List.getD, hkl]
      have HN := Lib.hid (show numL (zs.take (k + 1)) = numL (zs.take k) * 256 + zs.getD k 0 by rw [List.take_succ_eq_append_getElem hkl, numL_snoc, hg])
      have hz : isB (zs.getD k 0) := by rw [hg]; exact HZ.out _ (List.getElem_mem _)
      have hbd := numL_bd k (zs.take k) (by rw [List.length_take]; omega) (fun z hz => HZ.out z (List.mem_of_mem_take hz))
      have hb2 : (256 : Int) ^ k ≤ 16777216 := by
        rcases (show k = 0 ∨ k = 1 ∨ k = 2 ∨ k = 3 by omega) with rfl | rfl | rfl | rfl <;> decide
      rcases HA.out with h0 | ⟨b, off, ha, hlb, hc⟩
      · omega
      have hcell := hc k hlt
      subst ha
      clear hc hlb hg hkl
      generalize zs.getD k 0 = z at hz hcell HN
      generalize numL (zs.take k) = x at hbd HN ⊢
      unfold isB at hz
      obtain ⟨z0, z1⟩ := hz
      have x0 : 0 ≤ x := hbd.1
      have x1 : x ≤ 16777216 := by omega
      clear hbd hb2
      have hor := or_low x z x0 (by omega) z0 z1
      have hw : IntKind.i64.wrap (x * 256) = x * 256 := wr64 _ (by omega) (by omega)
      go_wp2
      go_round
      case rel => exact ⟨k + 1, by omega, by go_num, congrArg (Value.int .i64) (by rw [HN.out]; first | (rw [hw, hor]) | (rw [hor]) | skip)⟩
      case measure => simp [intOf]; omega
    · obtain rfl : k = n := by omega
      have HF := Lib.hid (show zs.take k = zs from List.take_of_length_le (by have := HL.out; omega))
      go_wp2
      go_ret
      exact ⟨ret_int (by rw [HF.out]), rfl⟩
theorem number2T (A : Option Addr) (c : Nat) (x y : Int) (w : World) (h : BV w A 2 [x, y]) : Calls Tryd.prog 21 #[.slice A 2 c] w fun e w' => e = .returned (.int .i64 (num2 x y)) ∧ w = w' := by
  refine (numberT A 2 c [x, y] w h (by omega)).mono ?_
  rintro e w' ⟨rfl, rfl⟩
  exact ⟨ret_int (by unfold numL num2; simp), rfl⟩
theorem number4T (A : Option Addr) (c : Nat) (x y u v : Int) (w : World) (h : BV w A 4 [x, y, u, v]) : Calls Tryd.prog 21 #[.slice A 4 c] w fun e w' => e = .returned (.int .i64 (num4 x y u v)) ∧ w = w' := by
  refine (numberT A 4 c [x, y, u, v] w h (by omega)).mono ?_
  rintro e w' ⟨rfl, rfl⟩
  exact ⟨ret_int (by unfold numL num4; simp), rfl⟩
/-- A part of bytes that lie at a place. -/
theorem bv_part {w : World} {b off n : Nat} {zs ys : List Int} {i m : Nat} (h : BV w (some ⟨b, off, none⟩) n zs) (hi : i + m ≤ n) (hy : (zs.drop i).take m = ys) : BV w (some ⟨b, off + i, none⟩) m ys := by
  rw [← hy]
  exact (Byt.BV.drop (k := i) h (by omega)).cut (by omega)
theorem part2 {zs : List Int} {i : Nat} (h : i + 2 ≤ zs.length) : (zs.drop i).take 2 = [z zs i, z zs (i + 1)] := by
  apply List.ext_getElem?
  intro j
  rcases (show j = 0 ∨ j = 1 ∨ 2 ≤ j by omega) with rfl | rfl | hj
  · simp [z, List.getElem?_take, List.getElem?_drop, List.getD, show i < zs.length by omega]
  · simp [z, List.getElem?_take, List.getElem?_drop, List.getD, show i + 1 < zs.length by omega]
  · rw [List.getElem?_eq_none (by simp; omega), List.getElem?_eq_none (by simp; omega)]
theorem part4 {zs : List Int} {i : Nat} (h : i + 4 ≤ zs.length) : (zs.drop i).take 4 = [z zs i, z zs (i + 1), z zs (i + 2), z zs (i + 3)] := by
  apply List.ext_getElem?
  intro j
  rcases (show j = 0 ∨ j = 1 ∨ j = 2 ∨ j = 3 ∨ 4 ≤ j by omega) with rfl | rfl | rfl | rfl | hj
  · simp [z, List.getElem?_take, List.getElem?_drop, List.getD, show i < zs.length by omega]
  · simp [z, List.getElem?_take, List.getElem?_drop, List.getD, show i + 1 < zs.length by omega]
  · simp [z, List.getElem?_take, List.getElem?_drop, List.getD, show i + 2 < zs.length by omega]
  · simp [z, List.getElem?_take, List.getElem?_drop, List.getD, show i + 3 < zs.length by omega]
  · rw [List.getElem?_eq_none (by simp; omega), List.getElem?_eq_none (by simp; omega)]
end Go.Proofs.YtlihhjcneedgnaaDoor.Mg
