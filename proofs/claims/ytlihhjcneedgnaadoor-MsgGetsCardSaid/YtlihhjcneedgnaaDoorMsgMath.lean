/-
  Packets and their bytes, as plain functions; there and back.
  No condition.
-/
import Derived.Test.YtlihhjcneedgnaaDoorByt
namespace Go.Proofs.YtlihhjcneedgnaaDoor.Mg
set_option linter.unusedVariables false
set_option linter.unusedSimpArgs false
open Go.Proofs.YtlihhjcneedgnaaDoor.Byt (isB)
/-- A packet. -/
structure PktV where
  se : Int
  ep : Int
  sq : Int
  ak : Int
  has : Bool
  ki : Int
  a : Int
  b : Int
  c : Int
deriving DecidableEq
def zeroP : PktV := ⟨0, 0, 0, 0, false, 0, 0, 0, 0⟩
def twoL (n : Int) : List Int := [n / 256 % 256, n % 256]
def fourL (n : Int) : List Int := [n / 16777216 % 256, n / 65536 % 256, n / 256 % 256, n % 256]
def headL (p : PktV) : List Int := [1, p.se % 256, p.ep / 256 % 256, p.ep % 256, p.sq / 256 % 256, p.sq % 256, p.ak / 256 % 256, p.ak % 256]
def bodyL (p : PktV) : List Int := [p.ki % 256, p.a / 16777216 % 256, p.a / 65536 % 256, p.a / 256 % 256, p.a % 256, p.b / 16777216 % 256, p.b / 65536 % 256, p.b / 256 % 256, p.b % 256, p.c / 16777216 % 256, p.c / 65536 % 256, p.c / 256 % 256, p.c % 256]
def bytesOf (p : PktV) : List Int := if p.has = true then headL p ++ bodyL p else headL p
def headB (p : PktV) : Bool := decide (0 ≤ p.se ∧ p.se ≤ 255 ∧ (0 ≤ p.ep ∧ p.ep ≤ 65535) ∧ (0 ≤ p.sq ∧ p.sq ≤ 65535) ∧ 0 ≤ p.ak ∧ p.ak ≤ 65535)
def msgB (p : PktV) : Bool := decide (1 ≤ p.ki ∧ p.ki ≤ 16 ∧ (0 ≤ p.a ∧ p.a ≤ 2147483647) ∧ (0 ≤ p.b ∧ p.b ≤ 2147483647) ∧ 0 ≤ p.c ∧ p.c ≤ 2147483647)
def noMsg (p : PktV) : Bool := decide (p.ki = 0 ∧ p.a = 0 ∧ p.b = 0 ∧ p.c = 0)
def mayB (p : PktV) : Bool := headB p && (if p.has = true then msgB p else noMsg p)
def z (zs : List Int) (i : Nat) : Int := zs.getD i 0
def num2 (x y : Int) : Int := x * 256 + y
def num4 (x y u v : Int) : Int := ((x * 256 + y) * 256 + u) * 256 + v
def headP (zs : List Int) : PktV := ⟨z zs 1, num2 (z zs 2) (z zs 3), num2 (z zs 4) (z zs 5), num2 (z zs 6) (z zs 7), false, 0, 0, 0, 0⟩
def bodyP (zs : List Int) : PktV := ⟨z zs 1, num2 (z zs 2) (z zs 3), num2 (z zs 4) (z zs 5), num2 (z zs 6) (z zs 7), true, z zs 8, num4 (z zs 9) (z zs 10) (z zs 11) (z zs 12), num4 (z zs 13) (z zs 14) (z zs 15) (z zs 16), num4 (z zs 17) (z zs 18) (z zs 19) (z zs 20)⟩
def getV (zs : List Int) : PktV × Int :=
  if (zs.length ≠ 8 ∧ zs.length ≠ 21) ∨ z zs 0 ≠ 1 then (zeroP, 2)
  else if zs.length = 8 then (headP zs, 0)
  else if ¬ (1 ≤ z zs 8 ∧ z zs 8 ≤ 16) then (zeroP, 4)
  else if mayB (bodyP zs) = true then (bodyP zs, 0) else (zeroP, 2)
theorem head_iff (p : PktV) : headB p = true ↔ (0 ≤ p.se ∧ p.se ≤ 255 ∧ (0 ≤ p.ep ∧ p.ep ≤ 65535) ∧ (0 ≤ p.sq ∧ p.sq ≤ 65535) ∧ 0 ≤ p.ak ∧ p.ak ≤ 65535) := by
  unfold headB; exact decide_eq_true_iff
theorem msg_iff (p : PktV) : msgB p = true ↔ (1 ≤ p.ki ∧ p.ki ≤ 16 ∧ (0 ≤ p.a ∧ p.a ≤ 2147483647) ∧ (0 ≤ p.b ∧ p.b ≤ 2147483647) ∧ 0 ≤ p.c ∧ p.c ≤ 2147483647) := by
  unfold msgB; exact decide_eq_true_iff
theorem may_has {p : PktV} (h : p.has = true) : mayB p = (headB p && msgB p) := by unfold mayB; rw [if_pos h]
theorem may_not {p : PktV} (h : p.has = false) : mayB p = (headB p && noMsg p) := by unfold mayB; rw [if_neg (by rw [h]; decide)]
theorem two_back (n : Int) (h0 : 0 ≤ n) (h1 : n ≤ 65535) : num2 (n / 256 % 256) (n % 256) = n := by unfold num2; omega
theorem four_back (n : Int) (h0 : 0 ≤ n) (h1 : n ≤ 2147483647) : num4 (n / 16777216 % 256) (n / 65536 % 256) (n / 256 % 256) (n % 256) = n := by unfold num4; omega
theorem back (p : PktV) (h : mayB p = true) : getV (bytesOf p) = (p, 0) := by
  obtain ⟨se, ep, sq, ak, has, ki, a, b, c⟩ := p
  cases has
  · rw [may_not rfl, Bool.and_eq_true] at h
    obtain ⟨h1, h2⟩ := h
    rw [head_iff] at h1
    have h2' := of_decide_eq_true h2
    simp only at h1 h2'
    obtain ⟨rfl, rfl, rfl, rfl⟩ := h2'
    unfold getV
    rw [if_neg (by simp [bytesOf, headL, z]), if_pos (by simp [bytesOf, headL])]
    simp only [headP, bytesOf, headL, z, List.getD, List.getElem?_cons_succ, List.getElem?_cons_zero, Option.getD_some, Bool.false_eq_true, if_false]
    rw [two_back ep (by omega) (by omega), two_back sq (by omega) (by omega), two_back ak (by omega) (by omega), show se % 256 = se by omega]
  · rw [may_has rfl, Bool.and_eq_true] at h
    obtain ⟨h1, h2⟩ := h
    have h3 := h1
    have h4 := h2
    rw [head_iff] at h1
    rw [msg_iff] at h2
    simp only at h1 h2
    have e : bodyP (bytesOf ⟨se, ep, sq, ak, true, ki, a, b, c⟩) = ⟨se, ep, sq, ak, true, ki, a, b, c⟩ := by
      simp only [bodyP, bytesOf, headL, bodyL, z, List.getD, List.cons_append, List.nil_append, List.getElem?_cons_succ, List.getElem?_cons_zero, Option.getD_some, if_true]
      rw [two_back ep (by omega) (by omega), two_back sq (by omega) (by omega), two_back ak (by omega) (by omega), show se % 256 = se by omega,
        four_back a (by omega) (by omega), four_back b (by omega) (by omega), four_back c (by omega) (by omega), show ki % 256 = ki by omega]
    have e8 : z (bytesOf ⟨se, ep, sq, ak, true, ki, a, b, c⟩) 8 = ki := congrArg PktV.ki e
    have hl : (bytesOf ⟨se, ep, sq, ak, true, ki, a, b, c⟩).length = 21 := by simp [bytesOf, headL, bodyL]
    have h0 : z (bytesOf ⟨se, ep, sq, ak, true, ki, a, b, c⟩) 0 = 1 := by simp [bytesOf, headL, z]
    unfold getV
    rw [hl, h0, e8, e, if_neg (by simp), if_neg (by simp), if_neg (by omega), if_pos (by rw [may_has rfl, h3, h4]; rfl)]
theorem list_eta {zs : List Int} {n : Nat} (h : zs.length = n) : zs = (List.range n).map (z zs) := by
  apply List.ext_getElem?
  intro i
  rcases Nat.lt_or_ge i n with hi | hi
  · simp [hi, z, List.getD, h]
  · rw [List.getElem?_eq_none (by omega), List.getElem?_eq_none (by simp; omega)]
theorem z_isB {zs : List Int} (h : ∀ x ∈ zs, isB x) (i : Nat) : 0 ≤ z zs i ∧ z zs i ≤ 255 := by
  unfold z List.getD
  rcases Nat.lt_or_ge i zs.length with hi | hi
  · rw [List.getElem?_eq_getElem hi]
    have := h _ (List.getElem_mem hi)
    unfold isB at this
    simp only [Option.getD_some]; omega
  · rw [List.getElem?_eq_none hi]; simp
theorem two_fwd (x y : Int) (hx : 0 ≤ x ∧ x ≤ 255) (hy : 0 ≤ y ∧ y ≤ 255) : num2 x y / 256 % 256 = x ∧ num2 x y % 256 = y := by unfold num2; omega
theorem four_fwd (x y u v : Int) (hx : 0 ≤ x ∧ x ≤ 255) (hy : 0 ≤ y ∧ y ≤ 255) (hu : 0 ≤ u ∧ u ≤ 255) (hv : 0 ≤ v ∧ v ≤ 255) :
    num4 x y u v / 16777216 % 256 = x ∧ num4 x y u v / 65536 % 256 = y ∧ num4 x y u v / 256 % 256 = u ∧ num4 x y u v % 256 = v := by unfold num4; omega
theorem head_may (zs : List Int) (h : ∀ x ∈ zs, isB x) : headB (headP zs) = true := by
  rw [head_iff]
  have h1 := z_isB h 1; have h2 := z_isB h 2; have h3 := z_isB h 3; have h4 := z_isB h 4; have h5 := z_isB h 5; have h6 := z_isB h 6; have h7 := z_isB h 7
  simp only [headP, num2]; omega
theorem get_may (zs : List Int) (h : ∀ x ∈ zs, isB x) (p : PktV) (hg : getV zs = (p, 0)) : mayB p = true ∧ bytesOf p = zs := by
  unfold getV at hg
  split at hg
  · cases hg
  · rename_i h0
    split at hg
    · rename_i h8
      obtain rfl : headP zs = p := congrArg Prod.fst hg
      refine ⟨?_, ?_⟩
      · rw [may_not rfl, head_may zs h]; rfl
      · have h1 := z_isB h 1; have h2 := z_isB h 2; have h3 := z_isB h 3; have h4 := z_isB h 4; have h5 := z_isB h 5; have h6 := z_isB h 6; have h7 := z_isB h 7
        have e0 : z zs 0 = 1 := by omega
        rw [list_eta h8]
        have t2 := two_fwd _ _ h2 h3; have t4 := two_fwd _ _ h4 h5; have t6 := two_fwd _ _ h6 h7
        rw [← list_eta h8]
        conv => rhs; rw [list_eta h8]
        simp only [bytesOf, headP, headL, Bool.false_eq_true, if_false, List.range_succ_eq_map, List.range_zero, List.map_cons, List.map_nil, t2.1, t2.2, t4.1, t4.2, t6.1, t6.2, e0]
        rw [show z zs 1 % 256 = z zs 1 by omega]
    · rename_i h8
      split at hg
      · cases hg
      · rename_i hk
        split at hg
        · rename_i hm
          obtain rfl : bodyP zs = p := congrArg Prod.fst hg
          refine ⟨hm, ?_⟩
          have h21 : zs.length = 21 := by omega
          have e0 : z zs 0 = 1 := by omega
          have hz := z_isB h
          have t2 := two_fwd _ _ (hz 2) (hz 3); have t4 := two_fwd _ _ (hz 4) (hz 5); have t6 := two_fwd _ _ (hz 6) (hz 7)
          have f9 := four_fwd _ _ _ _ (hz 9) (hz 10) (hz 11) (hz 12); have f13 := four_fwd _ _ _ _ (hz 13) (hz 14) (hz 15) (hz 16); have f17 := four_fwd _ _ _ _ (hz 17) (hz 18) (hz 19) (hz 20)
          have h1 := hz 1; have h8' := hz 8
          conv => rhs; rw [list_eta h21]
          simp only [bytesOf, bodyP, headL, bodyL, if_true, List.cons_append, List.nil_append, List.range_succ_eq_map, List.range_zero, List.map_cons, List.map_nil, t2.1, t2.2, t4.1, t4.2, t6.1, t6.2, f9.1, f9.2.1, f9.2.2.1, f9.2.2.2, f13.1, f13.2.1, f13.2.2.1, f13.2.2.2, f17.1, f17.2.1, f17.2.2.1, f17.2.2.2, e0]
          rw [show z zs 1 % 256 = z zs 1 by omega, show z zs 8 % 256 = z zs 8 by omega]
        · cases hg
theorem get_bad (zs : List Int) (h : (getV zs).2 ≠ 0) : (getV zs).1 = zeroP := by
  unfold getV at h ⊢
  split
  · rfl
  · rename_i h0
    rw [if_neg h0] at h
    split
    · rename_i h8; rw [if_pos h8] at h; exact absurd rfl h
    · rename_i h8
      rw [if_neg h8] at h
      split
      · rfl
      · rename_i hk
        rw [if_neg hk] at h
        split
        · rename_i hm; rw [if_pos hm] at h; exact absurd rfl h
        · rfl
theorem bytes_isB (p : PktV) : ∀ x ∈ bytesOf p, isB x := by
  intro x hx
  unfold bytesOf headL bodyL at hx
  unfold isB
  split at hx <;> (simp only [List.cons_append, List.nil_append, List.mem_cons, List.not_mem_nil, or_false] at hx; omega)
end Go.Proofs.YtlihhjcneedgnaaDoor.Mg
