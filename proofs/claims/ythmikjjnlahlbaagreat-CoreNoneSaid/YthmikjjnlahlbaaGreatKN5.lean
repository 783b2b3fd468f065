/-
  What is wanted by the last of these texts, part 5.
  No condition.
-/
import Derived.Test.YthmikjjnlahlbaaGreatKN4
import Derived.IntWalk
import Derived.Laws.Bits128
import Derived.Test.YthmikjjnlahlbaaGreatKN0
import Derived.Test.YthmikjjnlahlbaaGreatKN1
namespace Go.Proofs.YthmikjjnlahlbaaGreat.St
set_option linter.unusedSectionVars false
set_option linter.unusedVariables false
set_option linter.unusedSimpArgs false
/-- Two numbers in lanes, bit by bit. -/
theorem and_split (m a b c d : Nat) (ha : a < 2 ^ m) (hc : c < 2 ^ m) : (a + 2 ^ m * b) &&& (c + 2 ^ m * d) = (a &&& c) + 2 ^ m * (b &&& d) := by
  have hac : a &&& c < 2 ^ m := Nat.lt_of_le_of_lt Nat.and_le_left ha
  apply Nat.eq_of_testBit_eq
  intro i
  rw [Nat.testBit_and, Nat.add_comm a, Nat.add_comm c, Nat.add_comm (a &&& c), Nat.testBit_two_pow_mul_add _ ha, Nat.testBit_two_pow_mul_add _ hc, Nat.testBit_two_pow_mul_add _ hac]
  split
  · rw [Nat.testBit_and]
  · rw [Nat.testBit_and]
/-- The mask of n lanes. -/
def M (k : Nat) : Nat → Nat
  | 0 => 0
  | n + 1 => (2 ^ k - 1) + 2 ^ (2 * k) * M k n
/-- Lanes in pairs, added. -/
def S (k : Nat) : Nat → Nat → Nat
  | 0, _ => 0
  | n + 1, x => (x % 2 ^ k + x / 2 ^ k % 2 ^ k) + 2 ^ (2 * k) * S k n (x / 2 ^ (2 * k))
/-- The sum of n lanes. -/
def T (k : Nat) : Nat → Nat → Nat
  | 0, _ => 0
  | n + 1, x => x % 2 ^ k + T k n (x / 2 ^ k)
theorem mask_lt (k : Nat) : 2 ^ k - 1 < 2 ^ (2 * k) := by
  have h1 : 2 ^ k ≤ 2 ^ (2 * k) := Nat.pow_le_pow_right (by omega) (by omega)
  have h2 : 0 < 2 ^ k := Nat.pow_pos (by omega)
  omega
theorem split_at (m x : Nat) : x = x % 2 ^ m + 2 ^ m * (x / 2 ^ m) := by rw [Nat.add_comm]; exact (Nat.div_add_mod x (2 ^ m)).symm
theorem and_mask (k n x : Nat) : x &&& M k (n + 1) = x % 2 ^ k + 2 ^ (2 * k) * (x / 2 ^ (2 * k) &&& M k n) := by
  have h := and_split (2 * k) (x % 2 ^ (2 * k)) (x / 2 ^ (2 * k)) (2 ^ k - 1) (M k n) (Nat.mod_lt _ (Nat.pow_pos (by omega))) (mask_lt k)
  rw [← split_at] at h
  show x &&& ((2 ^ k - 1) + 2 ^ (2 * k) * M k n) = _
  rw [h, Nat.and_two_pow_sub_one_eq_mod, Nat.mod_mod_of_dvd _ (Nat.pow_dvd_pow 2 (by omega))]
theorem lanes (k : Nat) : ∀ n x, (x / 2 ^ k &&& M k n) + (x &&& M k n) = S k n x
  | 0, x => by simp [M, S]
  | n + 1, x => by
    rw [and_mask, and_mask]
    have h := lanes k n (x / 2 ^ (2 * k))
    have e : x / 2 ^ k / 2 ^ (2 * k) = x / 2 ^ (2 * k) / 2 ^ k := by rw [Nat.div_div_eq_div_mul, Nat.div_div_eq_div_mul, Nat.mul_comm]
    rw [e]
    show _ = (x % 2 ^ k + x / 2 ^ k % 2 ^ k) + 2 ^ (2 * k) * S k n (x / 2 ^ (2 * k))
    rw [← h, Nat.mul_add]
    omega
theorem pair_lt (k : Nat) (hk : 1 ≤ k) (x : Nat) : x % 2 ^ k + x / 2 ^ k % 2 ^ k < 2 ^ (2 * k) := by
  have h1 := Nat.mod_lt x (show 0 < 2 ^ k from Nat.pow_pos (by omega))
  have h2 := Nat.mod_lt (x / 2 ^ k) (show 0 < 2 ^ k from Nat.pow_pos (by omega))
  have h3 : 2 ^ (2 * k) = 2 ^ k * 2 ^ k := by rw [← Nat.pow_add]; congr 1; omega
  have h4 : 2 ≤ 2 ^ k := by
    have := Nat.pow_le_pow_right (n := 2) (by omega) hk
    simpa using this
  have h5 : 2 * 2 ^ k ≤ 2 ^ k * 2 ^ k := Nat.mul_le_mul_right _ h4
  omega
theorem S_mod (k : Nat) (hk : 1 ≤ k) (n x : Nat) : S k (n + 1) x % 2 ^ (2 * k) = x % 2 ^ k + x / 2 ^ k % 2 ^ k := by
  show ((x % 2 ^ k + x / 2 ^ k % 2 ^ k) + 2 ^ (2 * k) * _) % 2 ^ (2 * k) = _
  rw [Nat.add_mul_mod_self_left, Nat.mod_eq_of_lt (pair_lt k hk x)]
theorem S_div (k : Nat) (hk : 1 ≤ k) (n x : Nat) : S k (n + 1) x / 2 ^ (2 * k) = S k n (x / 2 ^ (2 * k)) := by
  show ((x % 2 ^ k + x / 2 ^ k % 2 ^ k) + 2 ^ (2 * k) * _) / 2 ^ (2 * k) = _
  rw [Nat.add_mul_div_left _ _ (Nat.pow_pos (by omega)), Nat.div_eq_of_lt (pair_lt k hk x), Nat.zero_add]
theorem T_S (k : Nat) (hk : 1 ≤ k) : ∀ n x, T (2 * k) n (S k n x) = T k (2 * n) x
  | 0, _ => rfl
  | n + 1, x => by
    show S k (n + 1) x % 2 ^ (2 * k) + T (2 * k) n (S k (n + 1) x / 2 ^ (2 * k)) = _
    rw [S_mod k hk, S_div k hk, T_S k hk n]
    show _ = T k (2 * n + 1 + 1) x
    show _ = x % 2 ^ k + (x / 2 ^ k % 2 ^ k + T k (2 * n) (x / 2 ^ k / 2 ^ k))
    rw [Nat.div_div_eq_div_mul x (2 ^ k) (2 ^ k), show 2 ^ k * 2 ^ k = 2 ^ (2 * k) by rw [← Nat.pow_add]; congr 1; omega]
    omega
/-- Each of n lanes is at most c. -/
def Le (k c : Nat) : Nat → Nat → Prop
  | 0, _ => True
  | n + 1, x => x % 2 ^ k ≤ c ∧ Le k c n (x / 2 ^ k)
theorem Le_S (k c : Nat) (hk : 1 ≤ k) : ∀ n x, Le k c (2 * n) x → Le (2 * k) (c + c) n (S k n x)
  | 0, _, _ => trivial
  | n + 1, x, h => by
    have h' : x % 2 ^ k ≤ c ∧ x / 2 ^ k % 2 ^ k ≤ c ∧ Le k c (2 * n) (x / 2 ^ k / 2 ^ k) := h
    obtain ⟨h1, h2, h3⟩ := h'
    refine ⟨?_, ?_⟩
    · rw [S_mod k hk]; omega
    · rw [S_div k hk]
      rw [Nat.div_div_eq_div_mul, show 2 ^ k * 2 ^ k = 2 ^ (2 * k) by rw [← Nat.pow_add]; congr 1; omega] at h3
      exact Le_S k c hk n _ h3
theorem Le_1 : ∀ n x, Le 1 1 n x
  | 0, _ => trivial
  | n + 1, x => ⟨by have := Nat.mod_lt x (show 0 < 2 by omega); simp; omega, Le_1 n _⟩
theorem nibbles (x : Nat) (h1 : x % 16 ≤ 7) (h2 : x / 16 % 16 ≤ 7) (h4 : x / 256 % 16 ≤ 7) : (x / 16 + x) % 2 ^ 4 = x % 2 ^ 4 + x / 2 ^ 4 % 2 ^ 4 ∧ (x / 16 + x) / 2 ^ (2 * 4) = x / 2 ^ (2 * 4) / 16 + x / 2 ^ (2 * 4) := by
  obtain ⟨l0, hl0⟩ : ∃ l, l = x % 16 := ⟨_, rfl⟩
  obtain ⟨l1, hl1⟩ : ∃ l, l = x / 16 % 16 := ⟨_, rfl⟩
  obtain ⟨y, hy⟩ : ∃ l, l = x / 256 := ⟨_, rfl⟩
  obtain ⟨z, hz⟩ : ∃ l, l = y / 16 := ⟨_, rfl⟩
  obtain ⟨r, hr⟩ : ∃ l, l = y % 16 := ⟨_, rfl⟩
  have hx : x = l0 + 16 * l1 + 256 * y := by omega
  have hq : x / 16 = l1 + 16 * y := by omega
  have hyz : y = r + 16 * z := by omega
  have a1 : l0 ≤ 7 := by omega
  have a2 : l1 ≤ 7 := by omega
  have a3 : r ≤ 7 := by rw [hr, hy]; exact h4
  have hs : x / 16 + x = (l0 + l1) + 16 * (l1 + r) + 256 * (z + y) := by rw [hq, hx]; omega
  simp only [Nat.reducePow, Nat.reduceMul]
  rw [hs, ← hy, ← hz, ← hl0, ← hl1]
  clear hs hx hq hyz hl0 hl1 hy hz hr h1 h2 h4
  constructor <;> omega
/-- The third step: added first, masked then. -/
theorem lanes4 : ∀ n x, Le 4 7 (2 * n + 1) x → ((x / 16 + x) &&& M 4 n) = S 4 n x
  | 0, x, _ => by simp [M, S]
  | n + 1, x, h => by
    have h' : x % 2 ^ 4 ≤ 7 ∧ x / 2 ^ 4 % 2 ^ 4 ≤ 7 ∧ Le 4 7 (2 * n + 1) (x / 2 ^ 4 / 2 ^ 4) := h
    obtain ⟨h1, h2, h3⟩ := h'
    have h4 : x / 2 ^ 4 / 2 ^ 4 % 2 ^ 4 ≤ 7 := h3.1
    have ih := lanes4 n (x / 2 ^ (2 * 4)) (by rw [Nat.div_div_eq_div_mul] at h3; exact h3)
    rw [and_mask]
    show _ = (x % 2 ^ 4 + x / 2 ^ 4 % 2 ^ 4) + 2 ^ (2 * 4) * S 4 n (x / 2 ^ (2 * 4))
    rw [← ih]
    obtain ⟨e1, e2⟩ := nibbles x (by simpa using h1) (by simpa using h2) (by rw [Nat.div_div_eq_div_mul] at h4; simpa using h4)
    rw [e1, e2]
theorem M0 : M 1 32 = 6148914691236517205 := by decide
theorem M1 : M 2 16 = 3689348814741910323 := by decide
theorem M2 : M 4 8 = 1085102592571150095 := by decide
/-- How many bits. -/
def pc (n : Nat) : Nat := T 1 64 n
/-- The count, lane by lane. -/
def cA (n : Nat) : Nat := (n / 2 &&& 6148914691236517205) + (n &&& 6148914691236517205)
def cB (n : Nat) : Nat := (n / 4 &&& 3689348814741910323) + (n &&& 3689348814741910323)
def cC (n : Nat) : Nat := (n / 16 + n) &&& 1085102592571150095
theorem Le_more (k c d : Nat) (h : c ≤ d) : ∀ n x, Le k c n x → Le k d n x
  | 0, _, _ => trivial
  | n + 1, _, hh => ⟨Nat.le_trans hh.1 h, Le_more k c d h n _ hh.2⟩
theorem Le_snoc (k c : Nat) : ∀ n x, Le k c n x → x / 2 ^ (k * n) = 0 → Le k c (n + 1) x
  | 0, x, _, h => ⟨by
      have : x = 0 := by simpa using h
      subst this; simp, trivial⟩
  | n + 1, x, hh, h => ⟨hh.1, Le_snoc k c n _ hh.2 (by
      rw [Nat.div_div_eq_div_mul, ← Nat.pow_add, show k + k * n = k * (n + 1) by rw [Nat.mul_succ]; omega]; exact h)⟩
theorem S_lt (k : Nat) (hk : 1 ≤ k) : ∀ n x, S k n x < 2 ^ (2 * k * n)
  | 0, _ => by simp [S]
  | n + 1, x => by
    have h1 := pair_lt k hk x
    have h2 := S_lt k hk n (x / 2 ^ (2 * k))
    show (x % 2 ^ k + x / 2 ^ k % 2 ^ k) + 2 ^ (2 * k) * S k n (x / 2 ^ (2 * k)) < _
    rw [show 2 * k * (n + 1) = 2 * k + 2 * k * n by rw [Nat.mul_succ]; omega, Nat.pow_add]
    have h3 : 2 ^ (2 * k) * (S k n (x / 2 ^ (2 * k)) + 1) ≤ 2 ^ (2 * k) * 2 ^ (2 * k * n) := Nat.mul_le_mul_left _ h2
    rw [Nat.mul_add] at h3
    omega
theorem by_lanes (n : Nat) : T 8 8 (cC (cB (cA n))) = pc n ∧ Le 8 8 8 (cC (cB (cA n))) := by
  have a : cA n = S 1 32 n := by unfold cA; rw [← M0]; exact lanes 1 32 n
  have b : cB (cA n) = S 2 16 (S 1 32 n) := by rw [a]; unfold cB; rw [← M1]; exact lanes 2 16 _
  have l1 : Le 2 2 32 (S 1 32 n) := Le_S 1 1 (by omega) 32 n (Le_1 64 n)
  have l2 : Le 4 4 16 (S 2 16 (S 1 32 n)) := Le_S 2 2 (by omega) 16 _ l1
  have l3 : Le 4 7 17 (S 2 16 (S 1 32 n)) := Le_snoc 4 7 16 _ (Le_more 4 4 7 (by omega) 16 _ l2) (Nat.div_eq_of_lt (S_lt 2 (by omega) 16 _))
  have c : cC (cB (cA n)) = S 4 8 (S 2 16 (S 1 32 n)) := by rw [b]; unfold cC; rw [← M2]; exact lanes4 8 _ l3
  rw [c]
  refine ⟨?_, Le_S 4 4 (by omega) 8 _ l2⟩
  unfold pc
  rw [T_S 4 (by omega) 8, T_S 2 (by omega) 16, T_S 1 (by omega) 32]
/-- Eight lanes, added into one. -/
def cD (c : Nat) : Nat := c + c / 256
def cE (c : Nat) : Nat := c + c / 65536
def cF (c : Nat) : Nat := c + c / 4294967296
/-- Lanes of eight bits. -/
def D : List Nat → Nat
  | [] => 0
  | c :: l => c + 256 * D l
def addl : List Nat → List Nat → List Nat
  | [], m => m
  | l, [] => l
  | a :: l, b :: m => (a + b) :: addl l m
theorem D_add : ∀ l m, D l + D m = D (addl l m)
  | [], m => by simp [D, addl]
  | a :: l, [] => by simp [D, addl]
  | a :: l, b :: m => by
    have := D_add l m
    show (a + 256 * D l) + (b + 256 * D m) = (a + b) + 256 * D (addl l m)
    omega
theorem D_div (c : Nat) (l : List Nat) (h : c < 256) : D (c :: l) / 256 = D l := by
  show (c + 256 * D l) / 256 = D l
  rw [Nat.add_mul_div_left _ _ (by omega), Nat.div_eq_of_lt h, Nat.zero_add]
theorem D_mod (c : Nat) (l : List Nat) (h : c < 128) : D (c :: l) % 128 = c := by
  show (c + 256 * D l) % 128 = c
  omega
theorem D_lt : ∀ (l : List Nat), (∀ c ∈ l, c ≤ 127) → 2 * D l < 256 ^ l.length
  | [], _ => by simp [D]
  | c :: l, h => by
    have h1 := D_lt l fun x hx => h x (by simp [hx])
    have h2 := h c (by simp)
    show 2 * (c + 256 * D l) < 256 ^ (l.length + 1)
    rw [Nat.pow_succ]
    omega
def dig : Nat → Nat → List Nat
  | 0, _ => []
  | n + 1, c => c % 256 :: dig n (c / 256)
theorem dig_D : ∀ n c, c < 256 ^ n → D (dig n c) = c
  | 0, c, h => by
    have : c = 0 := by simpa using h
    subst this; rfl
  | n + 1, c, h => by
    have h1 := dig_D n (c / 256) (by rw [Nat.pow_succ] at h; omega)
    show c % 256 + 256 * D (dig n (c / 256)) = c
    rw [h1]; omega
theorem dig_T : ∀ n c, T 8 n c = (dig n c).sum
  | 0, _ => rfl
  | n + 1, c => by
    show c % 2 ^ 8 + T 8 n (c / 2 ^ 8) = _
    rw [dig_T n]
    simp [dig]
theorem dig_le : ∀ n c, Le 8 8 n c → ∀ x ∈ dig n c, x ≤ 8
  | 0, _, _ => by simp [dig]
  | n + 1, c, h => by
    have h1 := dig_le n _ h.2
    intro x hx
    rcases List.mem_cons.1 hx with rfl | hx
    · exact h.1
    · exact h1 x hx
theorem fold8 (c : Nat) (hc : c < 18446744073709551616) (h : Le 8 8 8 c) : cF (cE (cD c)) % 128 = T 8 8 c ∧ cD c < 18446744073709551616 ∧ cE (cD c) < 18446744073709551616 ∧ cF (cE (cD c)) < 9223372036854775808 := by
  have hD := dig_D 8 c (by simpa using hc)
  have hT := dig_T 8 c
  have hL := dig_le 8 c h
  have hp : (256 : Nat) ^ 8 = 18446744073709551616 := by decide
  obtain ⟨c0, c1, c2, c3, c4, c5, c6, c7, hd⟩ : ∃ c0 c1 c2 c3 c4 c5 c6 c7, dig 8 c = [c0, c1, c2, c3, c4, c5, c6, c7] := ⟨_, _, _, _, _, _, _, _, rfl⟩
  rw [hd] at hD hT hL
  clear hd h
  have h0 := hL c0 (by simp)
  have h1 := hL c1 (by simp)
  have h2 := hL c2 (by simp)
  have h3 := hL c3 (by simp)
  have h4 := hL c4 (by simp)
  have h5 := hL c5 (by simp)
  have h6 := hL c6 (by simp)
  have h7 := hL c7 (by simp)
  clear hL
  have d1 : cD c = D [c0 + c1, c1 + c2, c2 + c3, c3 + c4, c4 + c5, c5 + c6, c6 + c7, c7] := by
    unfold cD
    rw [← hD, D_div _ _ (by omega), D_add]; rfl
  have e1 : cE (cD c) = D [c0 + c1 + (c2 + c3), c1 + c2 + (c3 + c4), c2 + c3 + (c4 + c5), c3 + c4 + (c5 + c6), c4 + c5 + (c6 + c7), c5 + c6 + c7, c6 + c7, c7] := by
    rw [d1]
    unfold cE
    rw [show ∀ n : Nat, n / 65536 = n / 256 / 256 by intro n; rw [Nat.div_div_eq_div_mul], D_div _ _ (by omega), D_div _ _ (by omega), D_add]; rfl
  have f1 : cF (cE (cD c)) = D [c0 + c1 + (c2 + c3) + (c4 + c5 + (c6 + c7)), c1 + c2 + (c3 + c4) + (c5 + c6 + c7), c2 + c3 + (c4 + c5) + (c6 + c7), c3 + c4 + (c5 + c6) + c7, c4 + c5 + (c6 + c7), c5 + c6 + c7, c6 + c7, c7] := by
    rw [e1]
    unfold cF
    rw [show ∀ n : Nat, n / 4294967296 = n / 256 / 256 / 256 / 256 by intro n; rw [Nat.div_div_eq_div_mul, Nat.div_div_eq_div_mul, Nat.div_div_eq_div_mul], D_div _ _ (by omega), D_div _ _ (by omega), D_div _ _ (by omega), D_div _ _ (by omega), D_add]; rfl
  have b1 := D_lt [c0 + c1, c1 + c2, c2 + c3, c3 + c4, c4 + c5, c5 + c6, c6 + c7, c7] (by intro x hx; simp at hx; omega)
  have b2 := D_lt [c0 + c1 + (c2 + c3), c1 + c2 + (c3 + c4), c2 + c3 + (c4 + c5), c3 + c4 + (c5 + c6), c4 + c5 + (c6 + c7), c5 + c6 + c7, c6 + c7, c7] (by intro x hx; simp at hx; omega)
  have b3 := D_lt [c0 + c1 + (c2 + c3) + (c4 + c5 + (c6 + c7)), c1 + c2 + (c3 + c4) + (c5 + c6 + c7), c2 + c3 + (c4 + c5) + (c6 + c7), c3 + c4 + (c5 + c6) + c7, c4 + c5 + (c6 + c7), c5 + c6 + c7, c6 + c7, c7] (by intro x hx; simp at hx; omega)
  simp only [List.length_cons, List.length_nil, Nat.zero_add, Nat.reduceAdd, hp] at b1 b2 b3
  refine ⟨?_, ?_, ?_, ?_⟩
  · rw [f1, D_mod _ _ (by omega), hT]; simp; omega
  · rw [d1]; omega
  · rw [e1]; omega
  · rw [f1]; omega
theorem Le_bd : ∀ n y, Le 4 4 n y → y < 16 ^ n → 15 * y ≤ 4 * (16 ^ n - 1)
  | 0, y, _, h => by have : y = 0 := by simpa using h
                     subst this; simp
  | n + 1, y, h, hy => by
    have h1 := Le_bd n (y / 2 ^ 4) h.2 (by rw [Nat.pow_succ] at hy; omega)
    have h2 := h.1
    have h3 : 0 < 16 ^ n := Nat.pow_pos (by omega)
    rw [Nat.pow_succ]
    simp only [Nat.reducePow] at h1 h2
    omega
theorem cB_lt (n : Nat) : cB (cA n) < 8000000000000000000 ∧ cA n < 18446744073709551616 := by
  have a : cA n = S 1 32 n := by unfold cA; rw [← M0]; exact lanes 1 32 n
  have b : cB (cA n) = S 2 16 (S 1 32 n) := by rw [a]; unfold cB; rw [← M1]; exact lanes 2 16 _
  have l1 : Le 2 2 32 (S 1 32 n) := Le_S 1 1 (by omega) 32 n (Le_1 64 n)
  have l2 : Le 4 4 16 (S 2 16 (S 1 32 n)) := Le_S 2 2 (by omega) 16 _ l1
  have h1 := Le_bd 16 _ l2 (by have := S_lt 2 (by omega) 16 (S 1 32 n); simpa using this)
  have h2 := S_lt 1 (by omega) 32 n
  have h3 : (16 : Nat) ^ 16 = 18446744073709551616 := by decide
  have h4 : (2 : Nat) ^ (2 * 1 * 32) = 18446744073709551616 := by decide
  rw [h3] at h1
  rw [h4] at h2
  rw [b, a]
  omega
/-- The steps of math/bits, on numbers as they are written. -/
def iA (x : Int) : Int := IntKind.u64.wrap (bits .and .u64 (x / 2) 6148914691236517205 + bits .and .u64 x 6148914691236517205)
def iB (y : Int) : Int := IntKind.u64.wrap (bits .and .u64 (y / 4) 3689348814741910323 + bits .and .u64 y 3689348814741910323)
def iC (y : Int) : Int := bits .and .u64 (IntKind.u64.wrap (y / 16 + y)) 1085102592571150095
def iD (y : Int) : Int := IntKind.u64.wrap (y + y / 256)
def iE (y : Int) : Int := IntKind.u64.wrap (y + y / 65536)
def iF (y : Int) : Int := IntKind.u64.wrap (y + y / 4294967296)
theorem div_cast (n k : Nat) : ((n : Int) / (k : Int)) = ((n / k : Nat) : Int) := by simp
theorem iA_eq (n : Nat) (h : n < 18446744073709551616) : iA (n : Int) = (cA n : Int) := by
  have h1 := u64_and_nat (n / 2) 6148914691236517205 (by omega) (by omega)
  have h2 := u64_and_nat n 6148914691236517205 h (by omega)
  have h3 := (cB_lt n).2
  unfold iA
  rw [show ((n : Int) / 2) = ((n / 2 : Nat) : Int) from div_cast n 2, show (6148914691236517205 : Int) = ((6148914691236517205 : Nat) : Int) from rfl, h1, h2, IntWalk.u64_in _ (by unfold cA at h3; omega)]
  unfold cA; simp
theorem iB_eq (n : Nat) (h : n < 18446744073709551616) (hb : cB n < 18446744073709551616) : iB (n : Int) = (cB n : Int) := by
  have h1 := u64_and_nat (n / 4) 3689348814741910323 (by omega) (by omega)
  have h2 := u64_and_nat n 3689348814741910323 h (by omega)
  unfold iB
  rw [show ((n : Int) / 4) = ((n / 4 : Nat) : Int) from div_cast n 4, show (3689348814741910323 : Int) = ((3689348814741910323 : Nat) : Int) from rfl, h1, h2, IntWalk.u64_in _ (by unfold cB at hb; omega)]
  unfold cB; simp
theorem iC_eq (n : Nat) (h : n < 8000000000000000000) : iC (n : Int) = (cC n : Int) := by
  have h1 := u64_and_nat (n / 16 + n) 1085102592571150095 (by omega) (by omega)
  unfold iC
  rw [IntWalk.u64_in _ (by omega), show ((n : Int) / 16 + (n : Int)) = ((n / 16 + n : Nat) : Int) by simp, show (1085102592571150095 : Int) = ((1085102592571150095 : Nat) : Int) from rfl, h1]
  rfl
theorem iD_eq (n : Nat) (h : cD n < 18446744073709551616) : iD (n : Int) = (cD n : Int) := by
  unfold cD at h
  unfold iD
  rw [IntWalk.u64_in _ (by omega)]
  unfold cD; simp
theorem iE_eq (n : Nat) (h : cE n < 18446744073709551616) : iE (n : Int) = (cE n : Int) := by
  unfold cE at h
  unfold iE
  rw [IntWalk.u64_in _ (by omega)]
  unfold cE; simp
theorem iF_eq (n : Nat) (h : cF n < 18446744073709551616) : iF (n : Int) = (cF n : Int) := by
  unfold cF at h
  unfold iF
  rw [IntWalk.u64_in _ (by omega)]
  unfold cF; simp
theorem swar (x : Int) (hx : R x) : bits .and .i64 (RowKit.wrap64 (iF (iE (iD (iC (iB (iA x))))))) 127 = (pc x.toNat : Int) := by
  obtain ⟨n, rfl⟩ := Int.eq_ofNat_of_zero_le hx.1
  have hn : n < 18446744073709551616 := by have := hx.nat; simpa using this
  obtain ⟨b1, b2⟩ := cB_lt n
  obtain ⟨t1, t2⟩ := by_lanes n
  have c1 : cC (cB (cA n)) < 18446744073709551616 := by
    have : cC (cB (cA n)) ≤ 1085102592571150095 := Nat.and_le_right
    omega
  obtain ⟨f1, f2, f3, f4⟩ := fold8 _ c1 t2
  rw [iA_eq n hn, iB_eq _ b2 (by omega), iC_eq _ b1, iD_eq _ f2, iE_eq _ f3, iF_eq _ (by omega), IntWalk.wrap64_in _ (by omega), i64_and127]
  rw [show ((cF (cE (cD (cC (cB (cA n))))) : Int) % 128) = ((cF (cE (cD (cC (cB (cA n))))) % 128 : Nat) : Int) by simp, f1, t1]
  simp
theorem T_le : ∀ n x, T 1 n x ≤ n
  | 0, _ => Nat.le_refl _
  | n + 1, x => by
    have := T_le n (x / 2 ^ 1)
    have := Nat.mod_lt x (show 0 < 2 ^ 1 by decide)
    show x % 2 ^ 1 + T 1 n (x / 2 ^ 1) ≤ n + 1
    omega
def cn (x : Int) : Int := (pc x.toNat : Int)
theorem cn_lo (x : Int) : 0 ≤ cn x := by unfold cn; omega
theorem cn_hi (x : Int) : cn x ≤ 64 := by unfold cn pc; have := T_le 64 x.toNat; omega
/-- Bit by bit, from the lowest on. -/
def up (x : Int) : Nat → Int
  | 0 => 0
  | k + 1 => up x k + (if tb x k = true then 1 else 0)
end Go.Proofs.YthmikjjnlahlbaaGreat.St
namespace Go.Proofs.YthmikjjnlahlbaaGreat.St
set_option linter.unusedSectionVars false
set_option linter.unusedVariables false
set_option linter.unusedSimpArgs false
open Go.RowKit Go.Proofs.YthmikjjnlahlbaaGreat.Ba
set_option maxRecDepth 100000
theorem onesT (x : Int) (hx : R x) (w : World) : Calls Tryz.prog 223 #[.int .u64 x] w fun e w' => e = .returned (.int .i64 (cn x)) ∧ w = w' := by
  have HS := Lib.hid (swar x hx)
  have hx0 := hx.1
  clear hx
  go_enter Tryz.func223, Tryz.ntmps223
  go_wp2
  go_ret
  exact ⟨ret_int HS.out, rfl⟩
theorem countT (p u d : Int) (hp : R p) (hu : R u) (hd : R d) (w : World) : Calls Tryz.prog 191 #[.agg #[.int .u64 p, .int .u64 u, .int .u64 d]] w fun e w' => e = .returned (.int .i64 (cn p + cn u + cn d)) ∧ Since w w' := by
  have a1 := cn_lo p
  have a2 := cn_hi p
  have a3 := cn_lo u
  have a4 := cn_hi u
  have a5 := cn_lo d
  have a6 := cn_hi d
  go_enter Tryz.func191, Tryz.ntmps191
  go_wp2_with fail
  go_quiet ((go_at_call 223; exact quiet_eq (onesT _ (by assumption) _)))
  go_wp2
  go_ret
  exact ⟨rfl, (by repeat (first | exact Since.refl _ | assumption | refine Since.setCell ?_ (by first | (simp; done) | (simp; omega)) _ | refine Since.drew ?_ | refine Since.drewN ?_ _ | refine Since.alloc ?_ _ | refine Since.trans ?_ (by assumption) | refine Since.trans ?_ (Hid.out (by assumption))))⟩
end Go.Proofs.YthmikjjnlahlbaaGreat.St
namespace Go.Proofs.YthmikjjnlahlbaaGreat.Ct
set_option linter.unusedSectionVars false
set_option linter.unusedVariables false
set_option linter.unusedSimpArgs false
open Go.RowKit Go.Proofs.YthmikjjnlahlbaaGreat.Ba Go.Proofs.YthmikjjnlahlbaaGreat.Mem Go.Proofs.YthmikjjnlahlbaaGreat.En Go.Proofs.YthmikjjnlahlbaaGreat.Do Go.Proofs.YthmikjjnlahlbaaGreat.Mo Go.Proofs.YthmikjjnlahlbaaGreat.Ty Go.Proofs.YthmikjjnlahlbaaGreat.Ce Go.Proofs.YthmikjjnlahlbaaGreat.St Go.Proofs.YthmikjjnlahlbaaGreat.Sc Go.Proofs.YthmikjjnlahlbaaGreat.Pl
set_option maxRecDepth 100000
attribute [local irreducible] lvB Go.Calls ov atB
def cfgA (c : CfgV) : Array Value := #[.int .i64 c.ca, .int .i64 c.fl, .int .i64 c.ft, .int .i64 c.se, .int .i64 c.dr, .int .i64 c.dw, .int .i64 c.ho, .int .i64 c.re, .int .i64 c.yi, .int .i64 c.qu, .int .i64 c.qo, .int .i64 c.lo, .int .i64 c.sl, .int .i64 c.rt, .int .i64 c.cp, .int .i64 c.tr, .int .i64 c.de, .int .i64 c.wi]
def carA (x : CarV) : Array Value := #[.int .i64 x.ds, .int .i64 x.da, .int .i64 x.un, .int .i64 x.wy, .int .i64 x.ti, .int .i64 x.ju, .int .i64 x.lo, .bool x.bl, .bool x.br, .int .i64 x.mo, .int .i64 x.ta, .bool x.ho, .int .u64 x.sp, .int .u64 x.su, .int .u64 x.sd]
def ctlA (x : CarV) (r : Int) (o k : Bool) : Array Value := #[.int .i64 x.ds, .int .i64 x.da, .int .i64 x.un, .int .i64 x.wy, .int .i64 x.ti, .int .i64 x.ju, .int .i64 x.lo, .bool x.bl, .bool x.br, .int .i64 x.mo, .int .i64 x.ta, .bool x.ho, .int .u64 x.sp, .int .u64 x.su, .int .u64 x.sd, .int .i64 r, .bool o, .bool k]
/-- The control's cells. -/
def ctlS (x : CarV) (r : Int) (o k : Bool) : List SV := [.i .i64 x.ds, .i .i64 x.da, .i .i64 x.un, .i .i64 x.wy, .i .i64 x.ti, .i .i64 x.ju, .i .i64 x.lo, .b x.bl, .b x.br, .i .i64 x.mo, .i .i64 x.ta, .b x.ho, .i .u64 x.sp, .i .u64 x.su, .i .u64 x.sd, .i .i64 r, .b o, .b k]
theorem runT (q : Nat) (x : CarV) (r : Int) (w : World) (hb : Blk w q 144 (ctlA x 0 false false)) : Calls Tryz.prog 174 #[.pointer (some ⟨q, 0, none⟩), .int .i64 r] w fun e w' => e = .returned (.tuple #[]) ∧ Blk w' q 144 (ctlA { x with ju := -1 } r false false) ∧ Upd [q] w w' := by
  refine entR tab_ok hb [.i .i64 x.ds, .i .i64 x.da, .i .i64 x.un, .i .i64 x.wy, .i .i64 x.ti, .i .i64 x.ju, .i .i64 x.lo, .b x.bl, .b x.br, .i .i64 x.mo, .i .i64 x.ta, .b x.ho, .i .u64 x.sp, .i .u64 x.su, .i .u64 x.sd, .i .i64 0, .b false, .b false] [.p 0 0, .i .i64 r] rfl Tryz.func174 Tryz.ntmps174 rfl rfl ?_
  repeat' ((conv => whnf); first | refine sgo ⟨tab_ok⟩ ?_ | refine br_not ?_ | refine br_t rfl ?_ | refine br_f rfl ?_ | refine br_t (by assumption) ?_ | refine br_f (by assumption) ?_ | refine br_t (decide_eq_true (by assumption)) ?_ | refine br_f (decide_eq_false (by assumption)) ?_ | refine br_t (beq_iff_eq.2 (by assumption)) ?_ | refine br_f (beq_eq_false_iff_ne.2 (by assumption)) ?_ | intro b | refine drA ⟨tab_ok⟩ [] ?_ | refine kpt ?_ | refine fin_s ?_ | refine fin_r ?_ ?_ | refine fin_e ?_ ?_)
  all_goals rfl
def ldT (x : CarV) : Bool := decide (tw x.un x.ta = 0)
def ldX (x : CarV) : CarV := if x.ds = 0 ∧ ldT x = false then { x with ju := -1 } else x
def ldR (x : CarV) : Int := if x.ds = 0 ∧ ldT x = false then tw x.un x.ta else 0
def ldO (x : CarV) : Bool := if x.ds = 0 then (ldT x && x.ho) else (ldT x && x.ho && decide (x.ds = 3))
def ldK (x : CarV) : Bool := !(ldT x && x.ho) && decide (x.ds = 2) && !x.bl
theorem leadT (q : Nat) (x : CarV) (w : World) (hb : Blk w q 144 (ctlA x 0 false false)) (hta0 : -1099511627776 ≤ x.ta) (hta1 : x.ta ≤ 1099511627776) : Calls Tryz.prog 104 #[.pointer (some ⟨q, 0, none⟩)] w fun e w' => e = .returned (.tuple #[]) ∧ Blk w' q 144 (ctlA (ldX x) (ldR x) (ldO x) (ldK x)) ∧ Upd [q] w w' := by
  refine entR tab_ok hb [.i .i64 x.ds, .i .i64 x.da, .i .i64 x.un, .i .i64 x.wy, .i .i64 x.ti, .i .i64 x.ju, .i .i64 x.lo, .b x.bl, .b x.br, .i .i64 x.mo, .i .i64 x.ta, .b x.ho, .i .u64 x.sp, .i .u64 x.su, .i .u64 x.sd, .i .i64 0, .b false, .b false] [.p 0 0] rfl Tryz.func104 Tryz.ntmps104 rfl rfl ?_
  repeat' ((conv => whnf); first | refine sgo ⟨tab_ok⟩ ?_ | refine br_not ?_ | refine br_t rfl ?_ | refine br_f rfl ?_ | refine br_t (by assumption) ?_ | refine br_f (by assumption) ?_ | refine br_t (decide_eq_true (by assumption)) ?_ | refine br_f (decide_eq_false (by assumption)) ?_ | refine br_t (beq_iff_eq.2 (by assumption)) ?_ | refine br_f (beq_eq_false_iff_ne.2 (by assumption)) ?_ | intro b | refine drA ⟨tab_ok⟩ [] ?_ | refine kpt ?_ | refine br_dec (fun h => ?_) (fun h => ?_) | refine br_eq (fun h => ?_) (fun h => ?_) | refine br_b (fun h => ?_) (fun h => ?_) | refine callS (f := 173) (.i .i64 _) (towardT _ _ ⟨hta0, hta1⟩) ?_ | refine callR (f := 174) 0 (.t []) (ctlS { x with ju := -1 } _ false false) (fun w hb => runT _ x _ w hb) ?_ | refine fin_s ?_ | refine fin_r ?_ ?_ | refine fin_e ?_ ?_)
  all_goals first | rfl | (simp only [denL, den, ctlA, ctlS, ldX, ldR, ldO, ldK, ldT]; (try simp_all) <;> first | done | rfl | (refine ⟨?_, ?_⟩ <;> rfl))
def m1 (n : Int) : Int := if n < 1 then 1 else n
def dwV (n : Int) : Int := if 1000 < m1 n then 1000 else m1 n
theorem dwellT (c : CfgV) (w : World) : Calls Tryz.prog 178 #[.agg (cfgA c)] w fun e w' => e = .returned (.int .i64 (dwV c.dw)) ∧ Since w w' := by
  refine ent tab_ok [.a [.i .i64 c.ca, .i .i64 c.fl, .i .i64 c.ft, .i .i64 c.se, .i .i64 c.dr, .i .i64 c.dw, .i .i64 c.ho, .i .i64 c.re, .i .i64 c.yi, .i .i64 c.qu, .i .i64 c.qo, .i .i64 c.lo, .i .i64 c.sl, .i .i64 c.rt, .i .i64 c.cp, .i .i64 c.tr, .i .i64 c.de, .i .i64 c.wi]] Tryz.func178 Tryz.ntmps178 rfl rfl ?_
  repeat' ((conv => whnf); first | refine sgo ⟨tab_ok⟩ ?_ | refine br_not ?_ | refine br_t rfl ?_ | refine br_f rfl ?_ | refine br_t (by assumption) ?_ | refine br_f (by assumption) ?_ | refine br_t (decide_eq_true (by assumption)) ?_ | refine br_f (decide_eq_false (by assumption)) ?_ | refine br_t (beq_iff_eq.2 (by assumption)) ?_ | refine br_f (beq_eq_false_iff_ne.2 (by assumption)) ?_ | intro b | refine drA ⟨tab_ok⟩ [] ?_ | refine kpt ?_ | refine fin_s ?_ | refine fin_r ?_ ?_ | refine fin_e ?_ ?_)
  exact congrArg (Value.int .i64) (by unfold dwV m1; repeat' split <;> omega)
def svX (c : CfgV) (x : CarV) (f : Int) : CarV := { x with sp := clP x.sp f, su := clU x.su f x.wy, sd := clD x.sd f x.wy, ti := dwV c.dw, ju := f }
def svF (x : CarV) (f : Int) : Int := if atB x.su x.sd f x.wy = true then f else 0
def svW (x : CarV) (f : Int) : Int := if atB x.su x.sd f x.wy = true then x.wy else 0
theorem serveT (q : Nat) (c : CfgV) (x : CarV) (f : Int) (w : World) (hb : Blk w q 144 (ctlA x 0 false false)) (hp : R x.sp) (hu : R x.su) (hd : R x.sd) : Calls Tryz.prog 176 #[.pointer (some ⟨q, 0, none⟩), .agg (cfgA c), .int .i64 f] w fun e w' => e = .returned (.tuple #[.agg #[.int .i64 (svF x f), .int .i64 (svW x f)], .bool (atB x.su x.sd f x.wy)]) ∧ Blk w' q 144 (ctlA (svX c x f) 0 true false) ∧ Upd [q] w w' := by
  refine entR tab_ok hb [.i .i64 x.ds, .i .i64 x.da, .i .i64 x.un, .i .i64 x.wy, .i .i64 x.ti, .i .i64 x.ju, .i .i64 x.lo, .b x.bl, .b x.br, .i .i64 x.mo, .i .i64 x.ta, .b x.ho, .i .u64 x.sp, .i .u64 x.su, .i .u64 x.sd, .i .i64 0, .b false, .b false] [.p 0 0, .a [.i .i64 c.ca, .i .i64 c.fl, .i .i64 c.ft, .i .i64 c.se, .i .i64 c.dr, .i .i64 c.dw, .i .i64 c.ho, .i .i64 c.re, .i .i64 c.yi, .i .i64 c.qu, .i .i64 c.qo, .i .i64 c.lo, .i .i64 c.sl, .i .i64 c.rt, .i .i64 c.cp, .i .i64 c.tr, .i .i64 c.de, .i .i64 c.wi], .i .i64 f] rfl Tryz.func176 Tryz.ntmps176 rfl rfl ?_
  repeat' ((conv => whnf); first | refine sgo ⟨tab_ok⟩ ?_ | refine br_not ?_ | refine br_t rfl ?_ | refine br_f rfl ?_ | refine br_t (by assumption) ?_ | refine br_f (by assumption) ?_ | refine br_t (decide_eq_true (by assumption)) ?_ | refine br_f (decide_eq_false (by assumption)) ?_ | refine br_t (beq_iff_eq.2 (by assumption)) ?_ | refine br_f (beq_eq_false_iff_ne.2 (by assumption)) ?_ | intro b | refine drA ⟨tab_ok⟩ [] ?_ | refine kpt ?_ | refine br_dec (fun h => ?_) (fun h => ?_) | refine br_eq (fun h => ?_) (fun h => ?_) | refine br_b (fun h => ?_) (fun h => ?_) | refine callS (f := 215) (.b _) (atT _ _ _ _ _ hu hd) ?_ | refine callS (f := 216) (.a [.i .u64 _, .i .u64 _, .i .u64 _]) (clearT _ _ _ _ _) ?_ | refine callS (f := 178) (.i .i64 _) (dwellT c) ?_ | refine fin_s ?_ | refine fin_r ?_ ?_ | refine fin_e ?_ ?_)
  all_goals first | rfl | (simp only [denL, den, ctlA, ctlS, svX, svF, svW]; (try simp_all) <;> first | done | rfl | (refine ⟨?_, ?_⟩ <;> rfl))
def nW (x : CarV) : Int := nxW x.sp x.su x.sd (lvN x.un) x.wy x.ju
def nO (x : CarV) : Bool := nxO x.sp x.su x.sd (lvN x.un) x.wy x.ju
def goX (c : CfgV) (x : CarV) : CarV := if lvB x.un = false then x else if nO x = true then svX c { x with wy := nW x } (lvN x.un) else if nW x = 0 then { x with wy := nW x } else { x with ju := -1 }
def goR (x : CarV) : Int := if lvB x.un = false then x.wy else if nO x = true then 0 else nW x
def goO (x : CarV) : Bool := lvB x.un && nO x
def goS (x : CarV) : Bool := lvB x.un && nO x && atB x.su x.sd (lvN x.un) (nW x)
def goF (x : CarV) : Int := if goS x = true then lvN x.un else 0
def goW (x : CarV) : Int := if goS x = true then nW x else 0
set_option maxHeartbeats 1000000 in
theorem goT (q : Nat) (c : CfgV) (x : CarV) (w : World) (hb : Blk w q 144 (ctlA x 0 false false)) (hp : R x.sp) (hu : R x.su) (hd : R x.sd) : Calls Tryz.prog 105 #[.pointer (some ⟨q, 0, none⟩), .agg (cfgA c)] w fun e w' => e = .returned (.tuple #[.agg #[.int .i64 (goF x), .int .i64 (goW x)], .bool (goS x)]) ∧ Blk w' q 144 (ctlA (goX c x) (goR x) (goO x) false) ∧ Upd [q] w w' := by
  refine entR tab_ok hb [.i .i64 x.ds, .i .i64 x.da, .i .i64 x.un, .i .i64 x.wy, .i .i64 x.ti, .i .i64 x.ju, .i .i64 x.lo, .b x.bl, .b x.br, .i .i64 x.mo, .i .i64 x.ta, .b x.ho, .i .u64 x.sp, .i .u64 x.su, .i .u64 x.sd, .i .i64 0, .b false, .b false] [.p 0 0, .a [.i .i64 c.ca, .i .i64 c.fl, .i .i64 c.ft, .i .i64 c.se, .i .i64 c.dr, .i .i64 c.dw, .i .i64 c.ho, .i .i64 c.re, .i .i64 c.yi, .i .i64 c.qu, .i .i64 c.qo, .i .i64 c.lo, .i .i64 c.sl, .i .i64 c.rt, .i .i64 c.cp, .i .i64 c.tr, .i .i64 c.de, .i .i64 c.wi]] rfl Tryz.func105 Tryz.ntmps105 rfl rfl ?_
  repeat' ((conv => whnf); first | refine sgo ⟨tab_ok⟩ ?_ | refine br_not ?_ | refine br_t rfl ?_ | refine br_f rfl ?_ | refine br_t (by assumption) ?_ | refine br_f (by assumption) ?_ | refine br_t (decide_eq_true (by assumption)) ?_ | refine br_f (decide_eq_false (by assumption)) ?_ | refine br_t (beq_iff_eq.2 (by assumption)) ?_ | refine br_f (beq_eq_false_iff_ne.2 (by assumption)) ?_ | intro b | refine drA ⟨tab_ok⟩ [] ?_ | refine kpt ?_ | refine br_dec (fun h => ?_) (fun h => ?_) | refine br_eq (fun h => ?_) (fun h => ?_) | refine br_b (fun h => ?_) (fun h => ?_) | refine callS (f := 131) (.t [.i .i64 _, .b _]) (levelT _) ?_ | refine callS (f := 175) (.t [.i .i64 _, .b _]) (nextT _ _ _ _ _ _ hp hu hd) ?_ | refine callR (f := 174) 0 (.t []) (ctlS { x with ju := -1 } _ false false) (fun w hb => runT _ x _ w hb) ?_ | refine callR (f := 176) 0 (.t [.a [.i .i64 _, .i .i64 _], .b _]) (ctlS (svX c { x with wy := nW x } (lvN x.un)) 0 true false) (fun w hb => serveT _ c { x with wy := nW x } _ w hb hp hu hd) ?_ | refine fin_s ?_ | refine fin_r ?_ ?_ | refine fin_e ?_ ?_)
  all_goals first | rfl | (simp only [denL, den, ctlA, ctlS, goX, goR, goO, goS, goF, goW, svX, svF, svW, nW, nO]; (try simp_all) <;> first | done | rfl | (refine ⟨?_, ?_⟩ <;> rfl))
def stB (c : CfgV) (x : CarV) : Bool := x.bl || ov x.lo c.lo
def stX (c : CfgV) (x : CarV) : CarV := if stB c x = true then { x with ti := dwV c.dw } else { x with ti := x.ti - 1 }
def stK (c : CfgV) (x : CarV) : Bool := !stB c x && decide (x.ti - 1 ≤ 0)
theorem stayT (q : Nat) (c : CfgV) (x : CarV) (w : World) (hb : Blk w q 144 (ctlA x 0 false false)) (ht0 : -1000000000 ≤ x.ti) (ht1 : x.ti ≤ 1000000000) : Calls Tryz.prog 106 #[.pointer (some ⟨q, 0, none⟩), .agg (cfgA c)] w fun e w' => e = .returned (.tuple #[]) ∧ Blk w' q 144 (ctlA (stX c x) 0 false (stK c x)) ∧ Upd [q] w w' := by
  refine entR tab_ok hb [.i .i64 x.ds, .i .i64 x.da, .i .i64 x.un, .i .i64 x.wy, .i .i64 x.ti, .i .i64 x.ju, .i .i64 x.lo, .b x.bl, .b x.br, .i .i64 x.mo, .i .i64 x.ta, .b x.ho, .i .u64 x.sp, .i .u64 x.su, .i .u64 x.sd, .i .i64 0, .b false, .b false] [.p 0 0, .a [.i .i64 c.ca, .i .i64 c.fl, .i .i64 c.ft, .i .i64 c.se, .i .i64 c.dr, .i .i64 c.dw, .i .i64 c.ho, .i .i64 c.re, .i .i64 c.yi, .i .i64 c.qu, .i .i64 c.qo, .i .i64 c.lo, .i .i64 c.sl, .i .i64 c.rt, .i .i64 c.cp, .i .i64 c.tr, .i .i64 c.de, .i .i64 c.wi]] rfl Tryz.func106 Tryz.ntmps106 rfl rfl ?_
  repeat' ((conv => whnf); first | refine sgo ⟨tab_ok⟩ ?_ | refine br_not ?_ | refine br_t rfl ?_ | refine br_f rfl ?_ | refine br_t (by assumption) ?_ | refine br_f (by assumption) ?_ | refine br_t (decide_eq_true (by assumption)) ?_ | refine br_f (decide_eq_false (by assumption)) ?_ | refine br_t (beq_iff_eq.2 (by assumption)) ?_ | refine br_f (beq_eq_false_iff_ne.2 (by assumption)) ?_ | intro b | refine drA ⟨tab_ok⟩ [] ?_ | refine kpt ?_ | refine wr_i ?_ | refine br_dec (fun h => ?_) (fun h => ?_) | refine br_eq (fun h => ?_) (fun h => ?_) | refine br_b (fun h => ?_) (fun h => ?_) | refine callS (f := 177) (.b _) (overT _ _) ?_ | refine callS (f := 178) (.i .i64 _) (dwellT c) ?_ | refine fin_s ?_ | refine fin_r ?_ ?_ | refine fin_e ?_ ?_)
  all_goals first | rfl | (simp only [denL, den, ctlA, ctlS, stX, stK, stB]; (try simp_all) <;> first | done | rfl | (refine ⟨?_, ?_⟩ <;> rfl))
end Go.Proofs.YthmikjjnlahlbaaGreat.Ct
namespace Go.Proofs.YthmikjjnlahlbaaGreat.Ct
set_option linter.unusedSectionVars false
set_option linter.unusedVariables false
set_option linter.unusedSimpArgs false
open Go.RowKit Go.Proofs.YthmikjjnlahlbaaGreat.Ba Go.Proofs.YthmikjjnlahlbaaGreat.Mem Go.Proofs.YthmikjjnlahlbaaGreat.En Go.Proofs.YthmikjjnlahlbaaGreat.Do Go.Proofs.YthmikjjnlahlbaaGreat.Mo Go.Proofs.YthmikjjnlahlbaaGreat.Ty Go.Proofs.YthmikjjnlahlbaaGreat.Ce Go.Proofs.YthmikjjnlahlbaaGreat.St Go.Proofs.YthmikjjnlahlbaaGreat.Sc Go.Proofs.YthmikjjnlahlbaaGreat.Pl
set_option maxRecDepth 100000
attribute [local irreducible] lvB Go.Calls ov atB
def bdX (x : CarV) : Prop := (0 ≤ x.da ∧ x.da ≤ 1000) ∧ -9223372036854775808 ≤ x.un ∧ x.un ≤ 9223372036854775807
theorem ld_bd {x : CarV} (h : bdX x) : bdX (ldX x) := by unfold ldX; split <;> exact h
theorem go_bd {c : CfgV} {x : CarV} (h : bdX x) : bdX (goX c x) := by unfold goX; repeat' split <;> first | exact h | skip
theorem st_bd {c : CfgV} {x : CarV} (h : bdX x) : bdX (stX c x) := by unfold stX; split <;> exact h
def tkX (c : CfgV) (x : CarV) : CarV := if x.br = true then x else if x.mo = 1 then ldX x else if x.ds = 0 then goX c x else if x.ds = 2 then stX c x else x
def tkR (x : CarV) : Int := if x.br = true then 0 else if x.mo = 1 then ldR x else if x.ds = 0 then goR x else 0
def tkO (x : CarV) : Bool := if x.br = true then false else if x.mo = 1 then ldO x else if x.ds = 0 then goO x else false
def tkK (c : CfgV) (x : CarV) : Bool := if x.br = true then false else if x.mo = 1 then ldK x else if x.ds = 0 then false else if x.ds = 2 then stK c x else false
def tkS (x : CarV) : Bool := if x.br = true then false else if x.mo = 1 then false else if x.ds = 0 then goS x else false
def tkF (x : CarV) : Int := if x.br = true then 0 else if x.mo = 1 then 0 else if x.ds = 0 then goF x else 0
def tkW (x : CarV) : Int := if x.br = true then 0 else if x.mo = 1 then 0 else if x.ds = 0 then goW x else 0
def tkV (c : CfgV) (x : CarV) : CarV := stepV c (tkX c x) (tkR x) (tkO x) (tkK c x)
set_option maxHeartbeats 2000000 in
theorem tickT (c : CfgV) (x : CarV) (w : World) (hbd : bdX x) (hp : R x.sp) (hu : R x.su) (hd : R x.sd) (hta : x.mo = 1 → -1099511627776 ≤ x.ta ∧ x.ta ≤ 1099511627776) (ht0 : -1000000000 ≤ x.ti) (ht1 : x.ti ≤ 1000000000) :
    Calls Tryz.prog 51 #[.agg (cfgA c), .agg (carA x)] w fun e w' => e = .returned (.tuple #[.agg (carA (tkV c x)), .agg #[.int .i64 (tkF x), .int .i64 (tkW x)], .bool (tkS x)]) ∧ Since w w' := by
  refine ent tab_ok [.a [.i .i64 c.ca, .i .i64 c.fl, .i .i64 c.ft, .i .i64 c.se, .i .i64 c.dr, .i .i64 c.dw, .i .i64 c.ho, .i .i64 c.re, .i .i64 c.yi, .i .i64 c.qu, .i .i64 c.qo, .i .i64 c.lo, .i .i64 c.sl, .i .i64 c.rt, .i .i64 c.cp, .i .i64 c.tr, .i .i64 c.de, .i .i64 c.wi], .a [.i .i64 x.ds, .i .i64 x.da, .i .i64 x.un, .i .i64 x.wy, .i .i64 x.ti, .i .i64 x.ju, .i .i64 x.lo, .b x.bl, .b x.br, .i .i64 x.mo, .i .i64 x.ta, .b x.ho, .i .u64 x.sp, .i .u64 x.su, .i .u64 x.sd]] Tryz.func51 Tryz.ntmps51 rfl rfl ?_
  repeat' ((conv => whnf); first | refine sgo ⟨tab_ok⟩ ?_ | refine br_not ?_ | refine br_t rfl ?_ | refine br_f rfl ?_ | refine br_t (by assumption) ?_ | refine br_f (by assumption) ?_ | refine br_t (decide_eq_true (by assumption)) ?_ | refine br_f (decide_eq_false (by assumption)) ?_ | refine br_t (beq_iff_eq.2 (by assumption)) ?_ | refine br_f (beq_eq_false_iff_ne.2 (by assumption)) ?_ | intro b | refine drA ⟨tab_ok⟩ [] ?_ | refine kpt ?_ | refine br_dec (fun h => ?_) (fun h => ?_) | refine br_eq (fun h => ?_) (fun h => ?_) | refine br_b (fun h => ?_) (fun h => ?_) | refine callR (f := 104) 4 (.t []) (ctlS (ldX x) (ldR x) (ldO x) (ldK x)) (fun w hb => leadT _ x w hb (hta (by assumption)).1 (hta (by assumption)).2) ?_ | refine callR (f := 105) 4 (.t [.a [.i .i64 _, .i .i64 _], .b _]) (ctlS (goX c x) (goR x) (goO x) false) (fun w hb => goT _ c x w hb hp hu hd) ?_ | refine callR (f := 106) 4 (.t []) (ctlS (stX c x) 0 false (stK c x)) (fun w hb => stayT _ c x w hb ht0 ht1) ?_ | refine callS (f := 107) (.a [.i .i64 (stepV c x 0 false false).ds, .i .i64 (stepV c x 0 false false).da, .i .i64 (stepV c x 0 false false).un, .i .i64 (stepV c x 0 false false).wy, .i .i64 (stepV c x 0 false false).ti, .i .i64 (stepV c x 0 false false).ju, .i .i64 (stepV c x 0 false false).lo, .b (stepV c x 0 false false).bl, .b (stepV c x 0 false false).br, .i .i64 (stepV c x 0 false false).mo, .i .i64 (stepV c x 0 false false).ta, .b (stepV c x 0 false false).ho, .i .u64 (stepV c x 0 false false).sp, .i .u64 (stepV c x 0 false false).su, .i .u64 (stepV c x 0 false false).sd]) (Pl.stepT c x _ _ _ (hbd).1.1 (hbd).1.2 (hbd).2) ?_ | refine callS (f := 107) (.a [.i .i64 (stepV c (ldX x) (ldR x) (ldO x) (ldK x)).ds, .i .i64 (stepV c (ldX x) (ldR x) (ldO x) (ldK x)).da, .i .i64 (stepV c (ldX x) (ldR x) (ldO x) (ldK x)).un, .i .i64 (stepV c (ldX x) (ldR x) (ldO x) (ldK x)).wy, .i .i64 (stepV c (ldX x) (ldR x) (ldO x) (ldK x)).ti, .i .i64 (stepV c (ldX x) (ldR x) (ldO x) (ldK x)).ju, .i .i64 (stepV c (ldX x) (ldR x) (ldO x) (ldK x)).lo, .b (stepV c (ldX x) (ldR x) (ldO x) (ldK x)).bl, .b (stepV c (ldX x) (ldR x) (ldO x) (ldK x)).br, .i .i64 (stepV c (ldX x) (ldR x) (ldO x) (ldK x)).mo, .i .i64 (stepV c (ldX x) (ldR x) (ldO x) (ldK x)).ta, .b (stepV c (ldX x) (ldR x) (ldO x) (ldK x)).ho, .i .u64 (stepV c (ldX x) (ldR x) (ldO x) (ldK x)).sp, .i .u64 (stepV c (ldX x) (ldR x) (ldO x) (ldK x)).su, .i .u64 (stepV c (ldX x) (ldR x) (ldO x) (ldK x)).sd]) (Pl.stepT c (ldX x) _ _ _ (ld_bd hbd).1.1 (ld_bd hbd).1.2 (ld_bd hbd).2) ?_ | refine callS (f := 107) (.a [.i .i64 (stepV c (goX c x) (goR x) (goO x) false).ds, .i .i64 (stepV c (goX c x) (goR x) (goO x) false).da, .i .i64 (stepV c (goX c x) (goR x) (goO x) false).un, .i .i64 (stepV c (goX c x) (goR x) (goO x) false).wy, .i .i64 (stepV c (goX c x) (goR x) (goO x) false).ti, .i .i64 (stepV c (goX c x) (goR x) (goO x) false).ju, .i .i64 (stepV c (goX c x) (goR x) (goO x) false).lo, .b (stepV c (goX c x) (goR x) (goO x) false).bl, .b (stepV c (goX c x) (goR x) (goO x) false).br, .i .i64 (stepV c (goX c x) (goR x) (goO x) false).mo, .i .i64 (stepV c (goX c x) (goR x) (goO x) false).ta, .b (stepV c (goX c x) (goR x) (goO x) false).ho, .i .u64 (stepV c (goX c x) (goR x) (goO x) false).sp, .i .u64 (stepV c (goX c x) (goR x) (goO x) false).su, .i .u64 (stepV c (goX c x) (goR x) (goO x) false).sd]) (Pl.stepT c (goX c x) _ _ _ (go_bd hbd).1.1 (go_bd hbd).1.2 (go_bd hbd).2) ?_ | refine callS (f := 107) (.a [.i .i64 (stepV c (stX c x) 0 false (stK c x)).ds, .i .i64 (stepV c (stX c x) 0 false (stK c x)).da, .i .i64 (stepV c (stX c x) 0 false (stK c x)).un, .i .i64 (stepV c (stX c x) 0 false (stK c x)).wy, .i .i64 (stepV c (stX c x) 0 false (stK c x)).ti, .i .i64 (stepV c (stX c x) 0 false (stK c x)).ju, .i .i64 (stepV c (stX c x) 0 false (stK c x)).lo, .b (stepV c (stX c x) 0 false (stK c x)).bl, .b (stepV c (stX c x) 0 false (stK c x)).br, .i .i64 (stepV c (stX c x) 0 false (stK c x)).mo, .i .i64 (stepV c (stX c x) 0 false (stK c x)).ta, .b (stepV c (stX c x) 0 false (stK c x)).ho, .i .u64 (stepV c (stX c x) 0 false (stK c x)).sp, .i .u64 (stepV c (stX c x) 0 false (stK c x)).su, .i .u64 (stepV c (stX c x) 0 false (stK c x)).sd]) (Pl.stepT c (stX c x) _ _ _ (st_bd hbd).1.1 (st_bd hbd).1.2 (st_bd hbd).2) ?_ | refine fin_s ?_ | refine fin_r ?_ ?_ | refine fin_e ?_ ?_)
  all_goals (simp only [denL, den, tkV, tkX, tkR, tkO, tkK, tkS, tkF, tkW, *]; (try simp) <;> first | done | rfl)
end Go.Proofs.YthmikjjnlahlbaaGreat.Ct
namespace Go.Proofs.YthmikjjnlahlbaaGreat.Et
set_option linter.unusedSectionVars false
set_option linter.unusedVariables false
set_option linter.unusedSimpArgs false
open Go.RowKit Go.Proofs.YthmikjjnlahlbaaGreat.Ba Go.Proofs.YthmikjjnlahlbaaGreat.Mem Go.Proofs.YthmikjjnlahlbaaGreat.En Go.Proofs.YthmikjjnlahlbaaGreat.Mo Go.Proofs.YthmikjjnlahlbaaGreat.Ty Go.Proofs.YthmikjjnlahlbaaGreat.St
open Go.Proofs.YthmikjjnlahlbaaGreat.Do (hd_lo hd_hi)
set_option maxRecDepth 100000
attribute [local irreducible] Go.Calls lvB
theorem spanT (n : Int) (w : World) : Calls Tryz.prog 211 #[.int .i64 n] w fun e w' => e = .returned (.int .i64 (Do.hd n)) ∧ Since w w' := by
  refine ent tab_ok [.i .i64 n] Tryz.func211 Tryz.ntmps211 rfl rfl ?_
  repeat' ((conv => whnf); first | refine sgo ⟨tab_ok⟩ ?_ | refine br_not ?_ | refine br_t rfl ?_ | refine br_f rfl ?_ | refine br_t (by assumption) ?_ | refine br_f (by assumption) ?_ | refine br_t (decide_eq_true (by assumption)) ?_ | refine br_f (decide_eq_false (by assumption)) ?_ | refine br_t (beq_iff_eq.2 (by assumption)) ?_ | refine br_f (beq_eq_false_iff_ne.2 (by assumption)) ?_ | refine fin_s ?_ | refine fin_r ?_ ?_ | refine fin_e ?_ ?_)
  exact congrArg (Value.int .i64) (by unfold Do.hd; repeat' split <;> omega)
def behB (wy t : Int) : Bool := decide ((wy = 1 ∧ t = 2) ∨ (wy = 2 ∧ t = 1))
theorem behindT (x : CarV) (f : Int) (h0 : -1099511627776 ≤ f ∧ f ≤ 1099511627776) (w : World) : Calls Tryz.prog 228 #[.agg #[.int .i64 x.ds, .int .i64 x.da, .int .i64 x.un, .int .i64 x.wy, .int .i64 x.ti, .int .i64 x.ju, .int .i64 x.lo, .bool x.bl, .bool x.br, .int .i64 x.mo, .int .i64 x.ta, .bool x.ho, .int .u64 x.sp, .int .u64 x.su, .int .u64 x.sd], .int .i64 f] w fun e w' => e = .returned (.bool (behB x.wy (tw x.un f))) ∧ Since w w' := by
  refine ent tab_ok [.a [.i .i64 x.ds, .i .i64 x.da, .i .i64 x.un, .i .i64 x.wy, .i .i64 x.ti, .i .i64 x.ju, .i .i64 x.lo, .b x.bl, .b x.br, .i .i64 x.mo, .i .i64 x.ta, .b x.ho, .i .u64 x.sp, .i .u64 x.su, .i .u64 x.sd], .i .i64 f] Tryz.func228 Tryz.ntmps228 rfl rfl ?_
  repeat' ((conv => whnf); first | refine sgo ⟨tab_ok⟩ ?_ | refine br_not ?_ | refine br_t rfl ?_ | refine br_f rfl ?_ | refine br_t (by assumption) ?_ | refine br_f (by assumption) ?_ | refine br_t (decide_eq_true (by assumption)) ?_ | refine br_f (decide_eq_false (by assumption)) ?_ | refine br_t (beq_iff_eq.2 (by assumption)) ?_ | refine br_f (beq_eq_false_iff_ne.2 (by assumption)) ?_ | intro b | refine drA ⟨tab_ok⟩ [] ?_ | refine kpt ?_ | refine br_dec (fun h => ?_) (fun h => ?_) | refine br_eq (fun h => ?_) (fun h => ?_) | refine br_b (fun h => ?_) (fun h => ?_) | refine callS (f := 173) (.i .i64 _) (towardT _ _ h0) ?_ | refine fin_s ?_ | refine fin_r ?_ ?_ | refine fin_e ?_ ?_)
  all_goals exact congrArg Value.bool (by unfold behB; simp_all <;> rfl)
def onB (wy cw t : Int) : Bool := decide (wy = 0 ∨ (wy = cw ∧ behB wy t = false))
theorem onT (x : CarV) (f cw : Int) (h0 : -1099511627776 ≤ f ∧ f ≤ 1099511627776) (w : World) : Calls Tryz.prog 212 #[.agg #[.int .i64 x.ds, .int .i64 x.da, .int .i64 x.un, .int .i64 x.wy, .int .i64 x.ti, .int .i64 x.ju, .int .i64 x.lo, .bool x.bl, .bool x.br, .int .i64 x.mo, .int .i64 x.ta, .bool x.ho, .int .u64 x.sp, .int .u64 x.su, .int .u64 x.sd], .agg #[.int .i64 f, .int .i64 cw]] w fun e w' => e = .returned (.bool (onB x.wy cw (tw x.un f))) ∧ Since w w' := by
  refine ent tab_ok [.a [.i .i64 x.ds, .i .i64 x.da, .i .i64 x.un, .i .i64 x.wy, .i .i64 x.ti, .i .i64 x.ju, .i .i64 x.lo, .b x.bl, .b x.br, .i .i64 x.mo, .i .i64 x.ta, .b x.ho, .i .u64 x.sp, .i .u64 x.su, .i .u64 x.sd], .a [.i .i64 f, .i .i64 cw]] Tryz.func212 Tryz.ntmps212 rfl rfl ?_
  repeat' ((conv => whnf); first | refine sgo ⟨tab_ok⟩ ?_ | refine br_not ?_ | refine br_t rfl ?_ | refine br_f rfl ?_ | refine br_t (by assumption) ?_ | refine br_f (by assumption) ?_ | refine br_t (decide_eq_true (by assumption)) ?_ | refine br_f (decide_eq_false (by assumption)) ?_ | refine br_t (beq_iff_eq.2 (by assumption)) ?_ | refine br_f (beq_eq_false_iff_ne.2 (by assumption)) ?_ | intro b | refine drA ⟨tab_ok⟩ [] ?_ | refine kpt ?_ | refine br_dec (fun h => ?_) (fun h => ?_) | refine br_eq (fun h => ?_) (fun h => ?_) | refine br_b (fun h => ?_) (fun h => ?_) | refine callS (f := 228) (.b _) (behindT x _ h0) ?_ | refine fin_s ?_ | refine fin_r ?_ ?_ | refine fin_e ?_ ?_)
  all_goals exact congrArg Value.bool (by unfold onB; simp_all)
attribute [local irreducible] onB behB
def stV (c : CfgV) : Int := 2 * Do.hd c.dr + Do.hd c.dw
def baV (c : CfgV) (x : CarV) (f : Int) : Int := fr x.un f + (cn x.sp + cn x.su + cn x.sd) * stV c
def coV (c : CfgV) (x : CarV) (f cw : Int) : Int := if onB x.wy cw (tw x.un f) = true then baV c x f else baV c x f + 8 * (fl c.fl - 1)
theorem mul_bd (a b A B : Int) (h0 : 0 ≤ a) (h1 : a ≤ A) (k0 : 0 ≤ b) (k1 : b ≤ B) : 0 ≤ a * b ∧ a * b ≤ A * B :=
  ⟨Int.mul_nonneg h0 k0, Int.mul_le_mul h1 k1 k0 (by omega)⟩
theorem st_bd (c : CfgV) : 0 ≤ stV c ∧ stV c ≤ 3000 := by have := hd_lo c.dr; have := hd_hi c.dr; have := hd_lo c.dw; have := hd_hi c.dw; unfold stV; omega
theorem on_bd (x : CarV) : 0 ≤ cn x.sp + cn x.su + cn x.sd ∧ cn x.sp + cn x.su + cn x.sd ≤ 192 := by have := cn_lo x.sp; have := cn_lo x.su; have := cn_lo x.sd; have := cn_hi x.sp; have := cn_hi x.su; have := cn_hi x.sd; omega
theorem fr_bd (u f : Int) (h0 : 0 ≤ u) (h1 : u ≤ 252) (g0 : 0 ≤ f) (g1 : f ≤ 63) : 0 ≤ fr u f ∧ fr u f ≤ 252 := by unfold fr; split <;> omega
theorem ba_bd (c : CfgV) (x : CarV) (f : Int) (h0 : 0 ≤ x.un) (h1 : x.un ≤ 252) (g0 : 0 ≤ f) (g1 : f ≤ 63) : 0 ≤ baV c x f ∧ baV c x f ≤ 600000 := by
  have a := fr_bd x.un f h0 h1 g0 g1
  have b := on_bd x
  have d := st_bd c
  have e := mul_bd _ _ 192 3000 b.1 b.2 d.1 d.2
  unfold baV; omega
theorem costT (c : CfgV) (x : CarV) (f cw : Int) (h0 : 0 ≤ x.un) (h1 : x.un ≤ 252) (g0 : 0 ≤ f) (g1 : f ≤ 63) (hp : R x.sp) (hu : R x.su) (hdd : R x.sd) (w : World) : Calls Tryz.prog 171 #[.agg #[.int .i64 c.ca, .int .i64 c.fl, .int .i64 c.ft, .int .i64 c.se, .int .i64 c.dr, .int .i64 c.dw, .int .i64 c.ho, .int .i64 c.re, .int .i64 c.yi, .int .i64 c.qu, .int .i64 c.qo, .int .i64 c.lo, .int .i64 c.sl, .int .i64 c.rt, .int .i64 c.cp, .int .i64 c.tr, .int .i64 c.de, .int .i64 c.wi], .agg #[.int .i64 x.ds, .int .i64 x.da, .int .i64 x.un, .int .i64 x.wy, .int .i64 x.ti, .int .i64 x.ju, .int .i64 x.lo, .bool x.bl, .bool x.br, .int .i64 x.mo, .int .i64 x.ta, .bool x.ho, .int .u64 x.sp, .int .u64 x.su, .int .u64 x.sd], .agg #[.int .i64 f, .int .i64 cw]] w fun e w' => e = .returned (.int .i64 (coV c x f cw)) ∧ Since w w' := by
  have b1 := ba_bd c x f h0 h1 g0 g1
  have b2 := fr_bd x.un f h0 h1 g0 g1
  have b3 := on_bd x
  have b4 := st_bd c
  have b5 := mul_bd _ _ 192 3000 b3.1 b3.2 b4.1 b4.2
  have b6 := fl_lo c.fl
  have b7 := fl_hi c.fl
  have b8 := hd_lo c.dr
  have b9 := hd_hi c.dr
  have b10 := hd_lo c.dw
  have b11 := hd_hi c.dw
  refine ent tab_ok [.a [.i .i64 c.ca, .i .i64 c.fl, .i .i64 c.ft, .i .i64 c.se, .i .i64 c.dr, .i .i64 c.dw, .i .i64 c.ho, .i .i64 c.re, .i .i64 c.yi, .i .i64 c.qu, .i .i64 c.qo, .i .i64 c.lo, .i .i64 c.sl, .i .i64 c.rt, .i .i64 c.cp, .i .i64 c.tr, .i .i64 c.de, .i .i64 c.wi], .a [.i .i64 x.ds, .i .i64 x.da, .i .i64 x.un, .i .i64 x.wy, .i .i64 x.ti, .i .i64 x.ju, .i .i64 x.lo, .b x.bl, .b x.br, .i .i64 x.mo, .i .i64 x.ta, .b x.ho, .i .u64 x.sp, .i .u64 x.su, .i .u64 x.sd], .a [.i .i64 f, .i .i64 cw]] Tryz.func171 Tryz.ntmps171 rfl rfl ?_
  repeat' ((conv => whnf); first | refine sgo ⟨tab_ok⟩ ?_ | refine br_not ?_ | refine br_t rfl ?_ | refine br_f rfl ?_ | refine br_t (by assumption) ?_ | refine br_f (by assumption) ?_ | refine br_t (decide_eq_true (by assumption)) ?_ | refine br_f (decide_eq_false (by assumption)) ?_ | refine br_t (beq_iff_eq.2 (by assumption)) ?_ | refine br_f (beq_eq_false_iff_ne.2 (by assumption)) ?_ | intro b | refine drA ⟨tab_ok⟩ [] ?_ | refine kpt ?_ | refine br_dec (fun h => ?_) (fun h => ?_) | refine br_eq (fun h => ?_) (fun h => ?_) | refine br_b (fun h => ?_) (fun h => ?_) | refine wr_i ?_ | refine wr_i (x := (cn x.sp + cn x.su + cn x.sd) * stV c) ?_ | refine callS (f := 211) (.i .i64 _) (spanT _) ?_ | refine callS (f := 203) (.i .i64 _) (farT _ _ (by omega) (by omega)) ?_ | refine callS (f := 191) (.i .i64 _) (countT _ _ _ hp hu hdd) ?_ | refine callS (f := 212) (.b _) (onT x _ _ (by omega)) ?_ | refine callS (f := 190) (.i .i64 _) (floorsT _) ?_ | refine fin_s ?_ | refine fin_r ?_ ?_ | refine fin_e ?_ ?_)
  all_goals exact congrArg (Value.int .i64) (by unfold coV baV; simp [*])
end Go.Proofs.YthmikjjnlahlbaaGreat.Et
namespace Go.Proofs.YthmikjjnlahlbaaGreat.Gr
set_option linter.unusedSectionVars false
set_option linter.unusedVariables false
set_option linter.unusedSimpArgs false
open Go.RowKit Go.Proofs.YthmikjjnlahlbaaGreat.Ba Go.Proofs.YthmikjjnlahlbaaGreat.Mem Go.Proofs.YthmikjjnlahlbaaGreat.En Go.Proofs.YthmikjjnlahlbaaGreat.Mo Go.Proofs.YthmikjjnlahlbaaGreat.Ty Go.Proofs.YthmikjjnlahlbaaGreat.St
open Go.Proofs.YthmikjjnlahlbaaGreat.Ct (carA)
set_option maxRecDepth 100000
attribute [local irreducible] Go.Calls lvB
def idB (x : CarV) : Bool := decide (x.mo = 0 ∧ x.br = false ∧ lvB x.un = true ∧ x.ds = 0 ∧ x.wy = 0 ∧ cn x.sp + cn x.su + cn x.sd = 0)
theorem idlT (x : CarV) (w : World) (hp : R x.sp) (hu : R x.su) (hd : R x.sd) : Calls Tryz.prog 128 #[.agg (carA x)] w fun e w' => e = .returned (.bool (idB x)) ∧ Since w w' := by
  refine ent tab_ok [.a [.i .i64 x.ds, .i .i64 x.da, .i .i64 x.un, .i .i64 x.wy, .i .i64 x.ti, .i .i64 x.ju, .i .i64 x.lo, .b x.bl, .b x.br, .i .i64 x.mo, .i .i64 x.ta, .b x.ho, .i .u64 x.sp, .i .u64 x.su, .i .u64 x.sd]] Tryz.func128 Tryz.ntmps128 rfl rfl ?_
  repeat' ((conv => whnf); first | refine sgo ⟨tab_ok⟩ ?_ | refine br_not ?_ | refine br_t rfl ?_ | refine br_f rfl ?_ | refine br_t (by assumption) ?_ | refine br_f (by assumption) ?_ | refine br_t (decide_eq_true (by assumption)) ?_ | refine br_f (decide_eq_false (by assumption)) ?_ | refine br_t (beq_iff_eq.2 (by assumption)) ?_ | refine br_f (beq_eq_false_iff_ne.2 (by assumption)) ?_ | intro b | refine drA ⟨tab_ok⟩ [] ?_ | refine kpt ?_ | refine br_dec (fun h => ?_) (fun h => ?_) | refine br_eq (fun h => ?_) (fun h => ?_) | refine br_b (fun h => ?_) (fun h => ?_) | refine callS (f := 131) (.t [.i .i64 _, .b _]) (levelT _) ?_ | refine callS (f := 191) (.i .i64 _) (countT _ _ _ hp hu hd) ?_ | refine fin_s ?_ | refine fin_r ?_ ?_ | refine fin_e ?_ ?_)
  all_goals exact congrArg Value.bool (by unfold idB; simp_all <;> rfl)
end Go.Proofs.YthmikjjnlahlbaaGreat.Gr
namespace Go.Proofs.YthmikjjnlahlbaaGreat.Gr
set_option linter.unusedSectionVars false
set_option linter.unusedVariables false
set_option linter.unusedSimpArgs false
open Go.RowKit Go.Proofs.YthmikjjnlahlbaaGreat.Ba Go.Proofs.YthmikjjnlahlbaaGreat.Mem Go.Proofs.YthmikjjnlahlbaaGreat.Ty Go.Proofs.YthmikjjnlahlbaaGreat.Mo Go.Proofs.YthmikjjnlahlbaaGreat.St
open Go.Proofs.YthmikjjnlahlbaaGreat.Ct (cfgA carA)
theorem wrG (x : Int) (h0 : -9223372036854775808 ≤ x) (h1 : x ≤ 9223372036854775807) : IntKind.i64.wrap x = x := by
  simp only [IntKind.wrap, IntKind.bits, IntKind.signed]; simp; omega
structure WaitV where
  fl : Int
  wy : Int
  ca : Int
  si : Int
deriving DecidableEq
def waitL (a : WaitV) : List Value := [.int .i64 a.fl, .int .i64 a.wy, .int .i64 a.ca, .int .i64 a.si]
def waitA (a : WaitV) : Array Value := #[.int .i64 a.fl, .int .i64 a.wy, .int .i64 a.ca, .int .i64 a.si]
def carL (x : CarV) : List Value := [.int .i64 x.ds, .int .i64 x.da, .int .i64 x.un, .int .i64 x.wy, .int .i64 x.ti, .int .i64 x.ju, .int .i64 x.lo, .bool x.bl, .bool x.br, .int .i64 x.mo, .int .i64 x.ta, .bool x.ho, .int .u64 x.sp, .int .u64 x.su, .int .u64 x.sd]
theorem waitL_len (a : WaitV) : (waitL a).length = 4 := rfl
theorem carL_len (x : CarV) : (carL x).length = 15 := rfl
theorem waitL_one (a : WaitV) : ∀ u ∈ waitL a, u.oneCell' = true := by
  intro u hu
  simp only [waitL, List.mem_cons, List.not_mem_nil, or_false] at hu
  rcases hu with rfl | rfl | rfl | rfl <;> rfl
theorem carL_one (x : CarV) : ∀ u ∈ carL x, u.oneCell' = true := by
  intro u hu
  simp only [carL, List.mem_cons, List.not_mem_nil, or_false] at hu
  rcases hu with rfl | rfl | rfl | rfl | rfl | rfl | rfl | rfl | rfl | rfl | rfl | rfl | rfl | rfl | rfl <;> rfl
theorem waits_one (ls : List WaitV) : ∀ u ∈ rowsOf waitL ls, u.oneCell' = true := rowsOf_one' waitL_one ls
theorem cars_one (ls : List CarV) : ∀ u ∈ rowsOf carL ls, u.oneCell' = true := rowsOf_one' carL_one ls
structure GrV where
  c : CfgV
  cars : List CarV
  waits : List WaitV
  now : Int
def grpA (G : GrV) (v1 v2 : Value) : Array Value := #[.int .i64 G.c.ca, .int .i64 G.c.fl, .int .i64 G.c.ft, .int .i64 G.c.se, .int .i64 G.c.dr, .int .i64 G.c.dw, .int .i64 G.c.ho, .int .i64 G.c.re, .int .i64 G.c.yi, .int .i64 G.c.qu, .int .i64 G.c.qo, .int .i64 G.c.lo, .int .i64 G.c.sl, .int .i64 G.c.rt, .int .i64 G.c.cp, .int .i64 G.c.tr, .int .i64 G.c.de, .int .i64 G.c.wi, v1, v2, .int .i64 G.now]
/-- The cars' row, the waits' row. -/
def CarsAt (lo : Nat) (A : Option Addr) (n c : Nat) (ls : List CarV) (w : World) : Prop := w.ownsRow lo 72 15 (.slice A n c) n (rowsOf carL ls)
def WaitsAt (lo : Nat) (A : Option Addr) (n c : Nat) (ls : List WaitV) (w : World) : Prop := w.ownsRow lo 99 4 (.slice A n c) n (rowsOf waitL ls)
/-- The group q of world w; S: its blocks, all from lo on. -/
def GO (lo q : Nat) (G : GrV) (S : List Nat) (w : World) : Prop :=
  lo ≤ q ∧ ∃ A1 c1 A2 c2, S = q :: (blkOf A1 ++ blkOf A2) ∧ Blk w q 93 (grpA G (.slice A1 G.cars.length c1) (.slice A2 G.waits.length c2)) ∧
    CarsAt lo A1 G.cars.length c1 G.cars w ∧ WaitsAt lo A2 G.waits.length c2 G.waits w
section
variable {w w' : World} {lo q b : Nat} {G : GrV} {S T : List Nat}
theorem GO.keep (k : Since w w') (h : GO lo q G S w) : GO lo q G S w' := by
  obtain ⟨h0, A1, c1, A2, c2, rfl, B, O1, O2⟩ := h
  exact ⟨h0, A1, c1, A2, c2, rfl, keep_blk k B, keep_own k O1, keep_own k O2⟩
theorem GO.upd (k : Upd T w w') (h : GO lo q G S w) (hT : ∀ g ∈ S, g ∉ T) : GO lo q G S w' := by
  obtain ⟨h0, A1, c1, A2, c2, rfl, B, O1, O2⟩ := h
  exact ⟨h0, A1, c1, A2, c2, rfl, k.blk B (hT _ (by simp)), k.own O1 (fun g hg => hT g (by simp [hg])), k.own O2 (fun g hg => hT g (by simp [hg]))⟩
theorem GO.low (h : GO lo q G S w) : ∀ g ∈ S, lo ≤ g := by
  obtain ⟨h0, A1, c1, A2, c2, rfl, B, O1, O2⟩ := h
  intro g hg
  rcases List.mem_cons.1 hg with rfl | hg
  · exact h0
  · rcases List.mem_append.1 hg with hg | hg
    · exact own_low O1 g hg
    · exact own_low O2 g hg
theorem GO.lt (h : GO lo q G S w) : ∀ g ∈ S, g < w.heap.size := by
  obtain ⟨h0, A1, c1, A2, c2, rfl, B, O1, O2⟩ := h
  intro g hg
  rcases List.mem_cons.1 hg with rfl | hg
  · exact B.lt
  · rcases List.mem_append.1 hg with hg | hg
    · exact own_lt O1 g hg
    · exact own_lt O2 g hg
theorem GO.far (h : GO lo q G S w) (hb : w.heap.size ≤ b) : b ∉ S := fun hm => by have := h.lt b hm; omega
theorem GO.row_far (h : GO lo q G S w) (hb : b ∉ S) (cs : Array Value) : GO lo q G S (w.setRow b cs) :=
  h.upd (T := [b]) ((Upd.refl _ w).setRow (.inl (by simp)) cs) (fun g hg hgb => hb (by simpa using (List.mem_singleton.1 hgb) ▸ hg))
theorem GO.base {lo' : Nat} (h : GO lo q G S w) (hb : lo' ≤ lo) : GO lo' q G S w := by
  obtain ⟨h0, A1, c1, A2, c2, rfl, B, O1, O2⟩ := h
  exact ⟨by omega, A1, c1, A2, c2, rfl, B, own_base O1 hb, own_base O2 hb⟩
end
/-- What is changed of one car. -/
def GrV.car (G : GrV) (i : Nat) (x : CarV) : GrV := { G with cars := G.cars.set i x }
end Go.Proofs.YthmikjjnlahlbaaGreat.Gr
namespace Go.Proofs.YthmikjjnlahlbaaGreat.Et
set_option linter.unusedSectionVars false
set_option linter.unusedVariables false
set_option linter.unusedSimpArgs false
open Go.RowKit Go.Proofs.YthmikjjnlahlbaaGreat.Ba Go.Proofs.YthmikjjnlahlbaaGreat.Mem Go.Proofs.YthmikjjnlahlbaaGreat.En Go.Proofs.YthmikjjnlahlbaaGreat.Mo Go.Proofs.YthmikjjnlahlbaaGreat.Ty Go.Proofs.YthmikjjnlahlbaaGreat.St Go.Proofs.YthmikjjnlahlbaaGreat.Gr
open Go.Proofs.YthmikjjnlahlbaaGreat.Ct (cfgA carA)
set_option maxRecDepth 100000
attribute [local irreducible] Go.Calls lvB onB behB coV
/-- A row of cars, as an object that is only read. -/
def carsO (lo : Nat) (A : Option Addr) (n c : Nat) (ls : List CarV) (rw : Bool) : Asr := ⟨blkOf A, rw, CarsAt lo A n c ls, fun k h hs => k.own hs h, fun h => own_lt h⟩
/-- The best of the first k, and its cost. -/
def blL (c : CfgV) (f cw : Int) (ls : List CarV) : Nat → Int × Int
  | 0 => (-1, 0)
  | k + 1 => match ls[k]? with
    | none => blL c f cw ls k
    | some x => if (x.mo = 0 ∧ x.br = false) ∧ ((blL c f cw ls k).1 < 0 ∨ coV c x f cw < (blL c f cw ls k).2) then ((k : Int), coV c x f cw) else blL c f cw ls k
def inL (x : CarV) : Prop := (0 ≤ x.un ∧ x.un ≤ 252) ∧ R x.sp ∧ R x.su ∧ R x.sd
/-- A car of the row, where it lies. -/
theorem car_rng {lo g n c i : Nat} {ls : List CarV} {w : World} (h : CarsAt lo (some ⟨g, 0, none⟩) n c ls w) (hi : i < ls.length) : w.rangeAt g (0 + i * 15) (carL ls[i]) := by
  obtain ⟨P, S, hP, hB, _⟩ := own_el carL_len h hi
  have := el_part (P := P) (S := S) (cs := (carL ls[i]).toArray) (j := 0) (n := 15) (l := carL ls[i]) hP (by show List.take 15 (carL ls[i]) = _; rw [List.take_of_length_le (by rw [carL_len]; exact Nat.le_refl _)]) (by simp [carL_len])
  exact range_of hB this (carL_len _)
theorem car_at {lo g n c k : Nat} {ls : List CarV} {w : World} {x : CarV} (h : CarsAt lo (some ⟨g, 0, none⟩) n c ls w) (hx : ls[k]? = some x) : w.rangeAt g (0 + k * 15) (carL x) := by
  obtain ⟨hi, rfl⟩ := List.getElem?_eq_some_iff.1 hx
  exact car_rng h hi
theorem bestT (c : CfgV) (f cw : Int) (lo : Nat) (A : Option Addr) (n cap : Nat) (ls : List CarV) (w : World) (h : CarsAt lo A n cap ls w) (hn : ls.length = n) (hl : n ≤ 1000000) (hf : 0 ≤ f ∧ f ≤ 63) (hin : ∀ x ∈ ls, inL x) :
    Calls Tryz.prog 100 #[.agg #[.int .i64 c.ca, .int .i64 c.fl, .int .i64 c.ft, .int .i64 c.se, .int .i64 c.dr, .int .i64 c.dw, .int .i64 c.ho, .int .i64 c.re, .int .i64 c.yi, .int .i64 c.qu, .int .i64 c.qo, .int .i64 c.lo, .int .i64 c.sl, .int .i64 c.rt, .int .i64 c.cp, .int .i64 c.tr, .int .i64 c.de, .int .i64 c.wi], .slice A n cap, .agg #[.int .i64 f, .int .i64 cw]] w fun e w' => e = .returned (.int .i64 (blL c f cw ls n).1) ∧ Since w w' := by
  obtain ⟨g, hA⟩ : ∃ g, 0 < n → A = some ⟨g, 0, none⟩ := by
    rcases own_at h with ⟨_, h0, _⟩ | ⟨g, _, h1, _⟩
    · exact ⟨0, fun k => by omega⟩
    · exact ⟨g, fun _ => h1⟩
  refine entH tab_ok (Hold.addObj (Hold.nil _ tab [] 41 w) (carsO lo A n cap ls false) h (by intro k; cases k) (by intro r hr; cases hr) (by intro A hA; cases hA)) [.a [.i .i64 c.ca, .i .i64 c.fl, .i .i64 c.ft, .i .i64 c.se, .i .i64 c.dr, .i .i64 c.dw, .i .i64 c.ho, .i .i64 c.re, .i .i64 c.yi, .i .i64 c.qu, .i .i64 c.qo, .i .i64 c.lo, .i .i64 c.sl, .i .i64 c.rt, .i .i64 c.cp, .i .i64 c.tr, .i .i64 c.de, .i .i64 c.wi], .v (.slice A n cap), .a [.i .i64 f, .i .i64 cw]] Tryz.func100 Tryz.ntmps100 rfl rfl ?_
  repeat' ((conv => whnf); first | refine sgo ⟨tab_ok⟩ ?_ | refine br_not ?_ | refine br_t rfl ?_ | refine br_f rfl ?_ | refine br_t (by assumption) ?_ | refine br_f (by assumption) ?_ | refine br_t (decide_eq_true (by assumption)) ?_ | refine br_f (decide_eq_false (by assumption)) ?_ | refine br_t (beq_iff_eq.2 (by assumption)) ?_ | refine br_f (beq_eq_false_iff_ne.2 (by assumption)) ?_ | intro b | refine drA ⟨tab_ok⟩ [] ?_ | refine kpt ?_ | refine br_dec (fun h => ?_) (fun h => ?_) | refine br_eq (fun h => ?_) (fun h => ?_) | refine br_b (fun h => ?_) (fun h => ?_) | refine fin_s ?_ | refine fin_r ?_ ?_ | refine fin_e ?_ ?_)
  rename_i b0
  conv => whnf
  refine lp ⟨tab_ok⟩ (ι := {k : Nat // k ≤ n}) (fun p => match p with | ⟨k, _⟩ => ⟨[(3, .p 0 0), (5, .p 1 0), (6, .i .i64 0), (7, .i .i64 (blL c f cw ls k).1), (8, .i .i64 (blL c f cw ls k).2), (12, .v (.slice A n cap)), (13, .i .i64 n), (14, .i .i64 (k : Int))], [⟨b0, 23, true, 0, [], [.i .i64 c.ca, .i .i64 c.fl, .i .i64 c.ft, .i .i64 c.se, .i .i64 c.dr, .i .i64 c.dw, .i .i64 c.ho, .i .i64 c.re, .i .i64 c.yi, .i .i64 c.qu, .i .i64 c.qo, .i .i64 c.lo, .i .i64 c.sl, .i .i64 c.rt, .i .i64 c.cp, .i .i64 c.tr, .i .i64 c.de, .i .i64 c.wi], [], true⟩, ⟨b, 97, true, 0, [], [.i .i64 f, .i .i64 cw], [], true⟩], [carsO lo A n cap ls false]⟩) (fun k => n - k.1) ⟨0, Nat.zero_le _⟩ (wk ?_) ?_
  · repeat' (first | exact trivial | rfl | ((conv => whnf); refine And.intro ?_ ?_))
  rintro ⟨k, hk⟩
  by_cases hlt : k < n
  · obtain ⟨x, hx⟩ : ∃ x, ls[k]? = some x := ⟨_, List.getElem?_eq_getElem (by omega)⟩
    obtain rfl := hA (by omega)
    have hix := hin x (List.mem_of_getElem? hx)
    repeat' ((conv => whnf); first | refine sgo ⟨tab_ok⟩ ?_ | refine br_not ?_ | refine br_t rfl ?_ | refine br_f rfl ?_ | refine br_t (by assumption) ?_ | refine br_f (by assumption) ?_ | refine br_t (decide_eq_true (by assumption)) ?_ | refine br_f (decide_eq_false (by assumption)) ?_ | refine br_t (beq_iff_eq.2 (by assumption)) ?_ | refine br_f (beq_eq_false_iff_ne.2 (by assumption)) ?_ | intro b2 | refine drA ⟨tab_ok⟩ [] ?_ | refine kpt ?_ | refine br_t (decide_eq_true (by omega)) ?_ | refine br_f (decide_eq_false (by omega)) ?_ | refine wr_i ?_ | refine opiv ⟨tab_ok⟩ (by rfl) (by rfl) (by rfl) (by rfl) (by rfl) (by rfl) ⟨by omega, by omega⟩ ?_ | refine opix (g := g) (off := 0 + k * 15) [.i .i64 x.ds, .i .i64 x.da, .i .i64 x.un, .i .i64 x.wy, .i .i64 x.ti, .i .i64 x.ju, .i .i64 x.lo, .b x.bl, .b x.br, .i .i64 x.mo, .i .i64 x.ta, .b x.ho, .i .u64 x.sp, .i .u64 x.su, .i .u64 x.sd] (fun w hH => car_at (hH.obj (carsO lo (some ⟨g, 0, none⟩) n cap ls false) (List.mem_singleton.2 rfl)) hx) ⟨tab_ok⟩ (by rfl) (by rfl) (by show Addr.add ⟨g, 0, none⟩ (k * 15) = _; rw [Go.WideShapes.add_plain]) ?_ | refine back ⟨k + 1, by omega⟩ (wk ?_) ?_ | refine br_dec (fun h => ?_) (fun h => ?_) | refine br_eq (fun h => ?_) (fun h => ?_) | refine br_b (fun h => ?_) (fun h => ?_) | refine callS (f := 171) (.i .i64 _) (costT c x f cw hix.1.1 hix.1.2 hf.1 hf.2 hix.2.1 hix.2.2.1 hix.2.2.2) ?_ | refine fin_s ?_ | refine fin_r ?_ ?_ | refine fin_e ?_ ?_)
    all_goals first | (show n - (k + 1) < n - k; omega) | skip
    all_goals (repeat' (first | exact trivial | rfl | ((conv => whnf); refine And.intro ?_ ?_)))
    all_goals (simp only [den, blL, hx])
    all_goals (simp [*]; done)
  · repeat' ((conv => whnf); first | refine sgo ⟨tab_ok⟩ ?_ | refine br_not ?_ | refine br_t rfl ?_ | refine br_f rfl ?_ | refine br_t (by assumption) ?_ | refine br_f (by assumption) ?_ | refine br_t (decide_eq_true (by assumption)) ?_ | refine br_f (decide_eq_false (by assumption)) ?_ | refine br_t (beq_iff_eq.2 (by assumption)) ?_ | refine br_f (beq_eq_false_iff_ne.2 (by assumption)) ?_ | intro b2 | refine drA ⟨tab_ok⟩ [] ?_ | refine kpt ?_ | refine br_t (decide_eq_true (by omega)) ?_ | refine br_f (decide_eq_false (by omega)) ?_ | refine wr_i ?_ | refine fin_s ?_ | refine fin_r ?_ ?_ | refine fin_e ?_ ?_)
    obtain rfl : k = n := by omega
    rfl
end Go.Proofs.YthmikjjnlahlbaaGreat.Et
namespace Go.Proofs.YthmikjjnlahlbaaGreat.Gr
set_option linter.unusedSectionVars false
set_option linter.unusedVariables false
set_option linter.unusedSimpArgs false
open Go.RowKit Go.Proofs.YthmikjjnlahlbaaGreat.Ba Go.Proofs.YthmikjjnlahlbaaGreat.Mem Go.Proofs.YthmikjjnlahlbaaGreat.En Go.Proofs.YthmikjjnlahlbaaGreat.Mo Go.Proofs.YthmikjjnlahlbaaGreat.Ty Go.Proofs.YthmikjjnlahlbaaGreat.St
open Go.Proofs.YthmikjjnlahlbaaGreat.Ct (cfgA carA dwV m1)
set_option maxRecDepth 100000
attribute [local irreducible] Go.Calls lvB idB
def takeX (v : Int) (x : CarV) : CarV := if idB x = true then { x with mo := 1, ta := v, ho := true } else x
def takeE (x : CarV) : Int := if idB x = true then 0 else 7
def aimX (v : Int) (u : Bool) (x : CarV) : CarV := if x.mo = 1 then { x with ta := v, ho := u } else x
def aimE (x : CarV) : Int := if x.mo = 1 then 0 else 7
def givX (c : CfgV) (x : CarV) : CarV := if x.mo = 1 then { x with mo := 0, ta := 0, ho := false, ju := -1, ti := dwV c.dw, wy := if lvB x.un = true then 0 else x.wy } else x
theorem dwE (n : Int) : (if 1000 < (if 1 > n then 1 else n) then 1000 else (if 1 > n then 1 else n)) = dwV n := by unfold dwV m1; rfl
section
variable (g off : Nat) (P S : List Value) (x : CarV) (cp cq : Nat) (w : World) (hb : Blk w g 72 (el P (carA x) S)) (hp : P.length = off)
include hb hp
theorem take1T (v : Int) (hcp : Blk w cp 3 #[.int .i64 v]) (hr : R x.sp ∧ R x.su ∧ R x.sd) : Calls Tryz.prog 127 #[.pointer (some ⟨g, off, none⟩), .pointer (some ⟨cp, 0, none⟩)] w fun e w' => e = .returned (.int .i64 (takeE x)) ∧ Blk w' g 72 (el P (carA (takeX v x)) S) ∧ Upd [g] w w' := by
  refine entH tab_ok (hold_e1 [.i .i64 x.ds, .i .i64 x.da, .i .i64 x.un, .i .i64 x.wy, .i .i64 x.ti, .i .i64 x.ju, .i .i64 x.lo, .b x.bl, .b x.br, .i .i64 x.mo, .i .i64 x.ta, .b x.ho, .i .u64 x.sp, .i .u64 x.su, .i .u64 x.sd] (.i .i64 v) hb hp hcp (by decide) rfl rfl) [.p 0 0, .p 1 0] Tryz.func127 Tryz.ntmps127 rfl rfl ?_
  repeat' ((conv => whnf); first | refine sgo ⟨tab_ok⟩ ?_ | refine br_not ?_ | refine br_t rfl ?_ | refine br_f rfl ?_ | refine br_t (by assumption) ?_ | refine br_f (by assumption) ?_ | refine br_t (decide_eq_true (by assumption)) ?_ | refine br_f (decide_eq_false (by assumption)) ?_ | refine br_t (beq_iff_eq.2 (by assumption)) ?_ | refine br_f (beq_eq_false_iff_ne.2 (by assumption)) ?_ | refine drA ⟨tab_ok⟩ [] ?_ | refine kpt ?_ | refine br_dec (fun h => ?_) (fun h => ?_) | refine br_eq (fun h => ?_) (fun h => ?_) | refine br_b (fun h => ?_) (fun h => ?_) | refine callS (f := 128) (.b _) (fun w => idlT x w hr.1 hr.2.1 hr.2.2) ?_ | refine fin_s ?_ | refine fin_r ?_ ?_ | refine fin_e ?_ ?_)
  all_goals first | rfl | (simp only [takeX, takeE]; split <;> first | rfl | (exfalso; simp_all; done))
theorem aim1T (v : Int) (u : Bool) (hcp : Blk w cp 3 #[.int .i64 v]) (hcq : Blk w cq 4 #[.bool u]) : Calls Tryz.prog 129 #[.pointer (some ⟨g, off, none⟩), .pointer (some ⟨cp, 0, none⟩), .pointer (some ⟨cq, 0, none⟩)] w fun e w' => e = .returned (.int .i64 (aimE x)) ∧ Blk w' g 72 (el P (carA (aimX v u x)) S) ∧ Upd [g] w w' := by
  refine entH tab_ok (hold_e2 [.i .i64 x.ds, .i .i64 x.da, .i .i64 x.un, .i .i64 x.wy, .i .i64 x.ti, .i .i64 x.ju, .i .i64 x.lo, .b x.bl, .b x.br, .i .i64 x.mo, .i .i64 x.ta, .b x.ho, .i .u64 x.sp, .i .u64 x.su, .i .u64 x.sd] (.i .i64 v) (.b u) hb hp hcp hcq (by decide) (by decide) (by decide) rfl rfl rfl) [.p 0 0, .p 1 0, .p 2 0] Tryz.func129 Tryz.ntmps129 rfl rfl ?_
  repeat' ((conv => whnf); first | refine sgo ⟨tab_ok⟩ ?_ | refine br_not ?_ | refine br_t rfl ?_ | refine br_f rfl ?_ | refine br_t (by assumption) ?_ | refine br_f (by assumption) ?_ | refine br_t (decide_eq_true (by assumption)) ?_ | refine br_f (decide_eq_false (by assumption)) ?_ | refine br_t (beq_iff_eq.2 (by assumption)) ?_ | refine br_f (beq_eq_false_iff_ne.2 (by assumption)) ?_ | refine drA ⟨tab_ok⟩ [] ?_ | refine kpt ?_ | refine br_dec (fun h => ?_) (fun h => ?_) | refine br_eq (fun h => ?_) (fun h => ?_) | refine br_b (fun h => ?_) (fun h => ?_) | refine fin_s ?_ | refine fin_r ?_ ?_ | refine fin_e ?_ ?_)
  all_goals first | rfl | (simp only [aimX, aimE]; split <;> first | rfl | (exfalso; simp_all; done))
theorem give1T (q : Nat) (G : GrV) (v1 v2 : Value) (hcp : Blk w cp 25 #[.pointer (some ⟨q, 0, none⟩)]) (hq : Blk w q 93 (grpA G v1 v2)) : Calls Tryz.prog 130 #[.pointer (some ⟨g, off, none⟩), .pointer (some ⟨cp, 0, none⟩)] w fun e w' => e = .returned (.int .i64 (aimE x)) ∧ Blk w' g 72 (el P (carA (givX G.c x)) S) ∧ Upd [g] w w' := by
  refine entH tab_ok (Hold.addRow (Hold.addRow (hold_e0 [.i .i64 x.ds, .i .i64 x.da, .i .i64 x.un, .i .i64 x.wy, .i .i64 x.ti, .i .i64 x.ju, .i .i64 x.lo, .b x.bl, .b x.br, .i .i64 x.mo, .i .i64 x.ta, .b x.ho, .i .u64 x.sp, .i .u64 x.su, .i .u64 x.sd] hb hp rfl) ⟨q, 93, true, 0, [], [.i .i64 G.c.ca, .i .i64 G.c.fl, .i .i64 G.c.ft, .i .i64 G.c.se, .i .i64 G.c.dr, .i .i64 G.c.dw, .i .i64 G.c.ho, .i .i64 G.c.re, .i .i64 G.c.yi, .i .i64 G.c.qu, .i .i64 G.c.qo, .i .i64 G.c.lo, .i .i64 G.c.sl, .i .i64 G.c.rt, .i .i64 G.c.cp, .i .i64 G.c.tr, .i .i64 G.c.de, .i .i64 G.c.wi, .v v1, .v v2, .i .i64 G.now], [], false⟩ hq (by intro h; cases h) (by intro r hr _; rw [List.mem_singleton] at hr; subst hr; exact Blk.ne_ hb hq (by decide)) (by intro A hA; cases hA)) ⟨cp, 25, true, 0, [], [.p 1 0], [], false⟩ hcp (by intro h; cases h) (by intro r hr _; simp only [List.mem_append, List.mem_singleton] at hr; rcases hr with rfl | rfl <;> exact Blk.ne_ (by assumption) hcp (by decide)) (by intro A hA; cases hA)) [.p 0 0, .p 2 0] Tryz.func130 Tryz.ntmps130 rfl rfl ?_
  repeat' ((conv => whnf); first | refine sgo ⟨tab_ok⟩ ?_ | refine br_not ?_ | refine br_t rfl ?_ | refine br_f rfl ?_ | refine br_t (by assumption) ?_ | refine br_f (by assumption) ?_ | refine br_t (decide_eq_true (by assumption)) ?_ | refine br_f (decide_eq_false (by assumption)) ?_ | refine br_t (beq_iff_eq.2 (by assumption)) ?_ | refine br_f (beq_eq_false_iff_ne.2 (by assumption)) ?_ | refine drA ⟨tab_ok⟩ [] ?_ | refine kpt ?_ | refine br_dec (fun h => ?_) (fun h => ?_) | refine br_eq (fun h => ?_) (fun h => ?_) | refine br_b (fun h => ?_) (fun h => ?_) | refine callS (f := 131) (.t [.i .i64 _, .b _]) (levelT _) ?_ | refine fin_s ?_ | refine fin_r ?_ ?_ | refine fin_e ?_ ?_)
  all_goals first | rfl | (simp only [givX, aimE, *, dwE, if_true, if_false, reduceIte, Bool.false_eq_true]; first | done | rfl)
end
end Go.Proofs.YthmikjjnlahlbaaGreat.Gr
namespace Go.Proofs.YthmikjjnlahlbaaGreat.Gr
set_option linter.unusedSectionVars false
set_option linter.unusedVariables false
set_option linter.unusedSimpArgs false
open Go.RowKit Go.Proofs.YthmikjjnlahlbaaGreat.Ba Go.Proofs.YthmikjjnlahlbaaGreat.Mem Go.Proofs.YthmikjjnlahlbaaGreat.En Go.Proofs.YthmikjjnlahlbaaGreat.Mo Go.Proofs.YthmikjjnlahlbaaGreat.Ty Go.Proofs.YthmikjjnlahlbaaGreat.St
open Go.Proofs.YthmikjjnlahlbaaGreat.Ct (cfgA carA)
set_option maxRecDepth 100000
attribute [local irreducible] Go.Calls
def hasF (c : CfgV) (f : Int) : Bool := decide (0 ≤ f ∧ f < fl c.fl)
def hasC (c : CfgV) (f wy : Int) : Bool := if wy = 1 then hasF c f && hasF c (f + 1) else if wy = 2 then hasF c f && hasF c (f - 1) else false
section
variable (q : Nat) (G : GrV) (v1 v2 : Value) (w : World) (hq : Blk w q 93 (grpA G v1 v2))
include hq
theorem hasFT (f : Int) : Calls Tryz.prog 120 #[.pointer (some ⟨q, 0, none⟩), .int .i64 f] w fun e w' => e = .returned (.bool (hasF G.c f)) ∧ Since w w' := by
  refine entH tab_ok (hold_q (S := []) [.i .i64 G.c.ca, .i .i64 G.c.fl, .i .i64 G.c.ft, .i .i64 G.c.se, .i .i64 G.c.dr, .i .i64 G.c.dw, .i .i64 G.c.ho, .i .i64 G.c.re, .i .i64 G.c.yi, .i .i64 G.c.qu, .i .i64 G.c.qo, .i .i64 G.c.lo, .i .i64 G.c.sl, .i .i64 G.c.rt, .i .i64 G.c.cp, .i .i64 G.c.tr, .i .i64 G.c.de, .i .i64 G.c.wi, .v v1, .v v2, .i .i64 G.now] hq) [.p 0 0, .i .i64 f] Tryz.func120 Tryz.ntmps120 rfl rfl ?_
  repeat' ((conv => whnf); first | refine sgo ⟨tab_ok⟩ ?_ | refine br_not ?_ | refine br_t rfl ?_ | refine br_f rfl ?_ | refine br_t (by assumption) ?_ | refine br_f (by assumption) ?_ | refine br_t (decide_eq_true (by assumption)) ?_ | refine br_f (decide_eq_false (by assumption)) ?_ | refine br_t (beq_iff_eq.2 (by assumption)) ?_ | refine br_f (beq_eq_false_iff_ne.2 (by assumption)) ?_ | refine drA ⟨tab_ok⟩ [] ?_ | refine kpt ?_ | refine br_dec (fun h => ?_) (fun h => ?_) | refine br_eq (fun h => ?_) (fun h => ?_) | refine br_b (fun h => ?_) (fun h => ?_) | refine callS (f := 190) (.i .i64 _) (floorsT _) ?_ | refine fin_s ?_ | refine fin_r ?_ ?_ | refine fin_e ?_ ?_)
  all_goals (unfold hasF; simp [den, *])
end
attribute [local irreducible] hasF
def isW (f wy : Int) (a : WaitV) : Bool := a.fl == f && a.wy == wy
theorem find1T (cp : Nat) (f wy : Int) (a : WaitV) (w : World) (hb : Blk w cp 97 #[.int .i64 f, .int .i64 wy]) : Calls Tryz.prog 109 #[.agg (waitA a), .pointer (some ⟨cp, 0, none⟩)] w fun e w' => e = .returned (.bool (isW f wy a)) ∧ Since w w' := by
  refine entH tab_ok (hold_q (S := []) [.i .i64 f, .i .i64 wy] hb) [.a [.i .i64 a.fl, .i .i64 a.wy, .i .i64 a.ca, .i .i64 a.si], .p 0 0] Tryz.func109 Tryz.ntmps109 rfl rfl ?_
  repeat' ((conv => whnf); first | refine sgo ⟨tab_ok⟩ ?_ | refine br_not ?_ | refine br_t rfl ?_ | refine br_f rfl ?_ | refine br_t (by assumption) ?_ | refine br_f (by assumption) ?_ | refine br_t (decide_eq_true (by assumption)) ?_ | refine br_f (decide_eq_false (by assumption)) ?_ | refine br_t (beq_iff_eq.2 (by assumption)) ?_ | refine br_f (beq_eq_false_iff_ne.2 (by assumption)) ?_ | intro b | refine drA ⟨tab_ok⟩ [] ?_ | refine kpt ?_ | refine wr_i ?_ | refine br_dec (fun h => ?_) (fun h => ?_) | refine br_eq (fun h => ?_) (fun h => ?_) | refine br_b (fun h => ?_) (fun h => ?_) | refine fin_s ?_ | refine fin_r ?_ ?_ | refine fin_e ?_ ?_)
  all_goals (unfold isW; simp [den, *])
def oI (y : Option Nat) : Int := match y with | some k => (k : Int) | none => -1
def atP (ls : List WaitV) (p : WaitV → Bool) : Option Nat := ls.findIdx? p
theorem atP_some {ls : List WaitV} {p : WaitV → Bool} {k : Nat} (h : atP ls p = some k) : k < ls.length ∧ (∀ hk : k < ls.length, p ls[k] = true) ∧ ∀ j, j < k → ∀ hj : j < ls.length, p ls[j] = false := by
  obtain ⟨hk, h1, h2⟩ := List.findIdx?_eq_some_iff_getElem.1 h
  exact ⟨hk, fun _ => h1, fun j hj _ => by have := h2 j hj; simpa using this⟩
/-- A row of waits, as an object. -/
def waitsO (lo : Nat) (A : Option Addr) (n c : Nat) (ls : List WaitV) (rw : Bool) : Asr := ⟨blkOf A, rw, WaitsAt lo A n c ls, fun k h hs => k.own hs h, fun h => own_lt h⟩
theorem wait_at {lo g n c k : Nat} {ls : List WaitV} {w : World} {x : WaitV} (h : WaitsAt lo (some ⟨g, 0, none⟩) n c ls w) (hx : ls[k]? = some x) : w.rangeAt g (0 + k * 4) (waitL x) := by
  obtain ⟨hi, rfl⟩ := List.getElem?_eq_some_iff.1 hx
  obtain ⟨P, S, hP, hB, _⟩ := own_el waitL_len h hi
  have := el_part (P := P) (S := S) (cs := (waitL ls[k]).toArray) (j := 0) (n := 4) (l := waitL ls[k]) hP (by show List.take 4 (waitL ls[k]) = _; rw [List.take_of_length_le (by rw [waitL_len]; exact Nat.le_refl _)]) (by simp [waitL_len])
  exact range_of hB this (waitL_len _)
theorem indexT (lo : Nat) (A : Option Addr) (n c : Nat) (ls : List WaitV) (F : FuncId) (cp : Value) (p : WaitV → Bool) (w : World) (ho : WaitsAt lo A n c ls w) (hn : ls.length = n) (hl : n ≤ 1000000) (hp : ∀ (l : WaitV) (w1 : World), Since w w1 → Calls Tryz.prog F #[.agg (waitA l), cp] w1 fun e w2 => e = .returned (.bool (p l)) ∧ Since w1 w2) (hcf : ∀ (args : Array Value) (w1 : World), (callFunc F args).run Tryz.prog w1 = .ok (.enter F args) w1) :
    Calls Tryz.prog 108 #[.slice A n c, .func (.func F) #[] #[cp]] w fun e w' => e = .returned (.int .i64 (oI (atP ls p))) ∧ Since w w' := by
  obtain ⟨g, hA⟩ : ∃ g, 0 < n → A = some ⟨g, 0, none⟩ := by
    rcases own_at ho with ⟨_, h0, _⟩ | ⟨g, _, h1, _⟩
    · exact ⟨0, fun k => by omega⟩
    · exact ⟨g, fun _ => h1⟩
  refine entH tab_ok (Hold.addObj (Hold.nil _ tab [] _ w) (waitsO lo A n c ls false) ho (by intro k; cases k) (by intro r hr; cases hr) (by intro A hA; cases hA)) [.v (.slice A n c), .f F [.v cp]] Tryz.func108 Tryz.ntmps108 rfl rfl ?_
  repeat' ((conv => whnf); first | refine sgo ⟨tab_ok⟩ ?_ | refine br_not ?_ | refine br_t rfl ?_ | refine br_f rfl ?_ | refine br_t (by assumption) ?_ | refine br_f (by assumption) ?_ | refine br_t (decide_eq_true (by assumption)) ?_ | refine br_f (decide_eq_false (by assumption)) ?_ | refine br_t (beq_iff_eq.2 (by assumption)) ?_ | refine br_f (beq_eq_false_iff_ne.2 (by assumption)) ?_ | intro b | refine drA ⟨tab_ok⟩ [] ?_ | refine kpt ?_ | refine br_dec (fun h => ?_) (fun h => ?_) | refine br_eq (fun h => ?_) (fun h => ?_) | refine br_b (fun h => ?_) (fun h => ?_) | refine fin_s ?_ | refine fin_r ?_ ?_ | refine fin_e ?_ ?_)
  conv => whnf
  refine lp ⟨tab_ok⟩ (ι := {k : Nat // k ≤ n ∧ ∀ j, j < k → ∀ hj : j < ls.length, p ls[j] = false}) (fun x => match x with | ⟨k, _⟩ => ⟨[(0, .v (.slice A n c)), (1, .f F [.v cp]), (4, .i .i64 0), (7, .i .i64 n), (8, .i .i64 (k : Int))], [], [waitsO lo A n c ls false]⟩) (fun x => n - x.1) ⟨0, Nat.zero_le _, fun j hj => by omega⟩ (wk ?_) ?_
  · repeat' (first | exact trivial | rfl | ((conv => whnf); refine And.intro ?_ ?_))
  rintro ⟨k, hk, hno⟩
  by_cases hlt : k < n
  · obtain ⟨x, hx⟩ : ∃ x, ls[k]? = some x := ⟨_, List.getElem?_eq_getElem (by omega)⟩
    obtain ⟨hkl, hxe⟩ := List.getElem?_eq_some_iff.1 hx
    obtain rfl := hA (by omega)
    cases hpx : p x with
    | true =>
      repeat' ((conv => whnf); first | refine sgo ⟨tab_ok⟩ ?_ | refine br_not ?_ | refine br_t rfl ?_ | refine br_f rfl ?_ | refine br_t (by assumption) ?_ | refine br_f (by assumption) ?_ | refine br_t (decide_eq_true (by assumption)) ?_ | refine br_f (decide_eq_false (by assumption)) ?_ | refine br_t (beq_iff_eq.2 (by assumption)) ?_ | refine br_f (beq_eq_false_iff_ne.2 (by assumption)) ?_ | intro b2 | refine drA ⟨tab_ok⟩ [] ?_ | refine kpt ?_ | refine br_t (decide_eq_true (by omega)) ?_ | refine br_f (decide_eq_false (by omega)) ?_ | refine wr_i ?_ | refine opiv ⟨tab_ok⟩ (by rfl) (by rfl) (by rfl) (by rfl) (by rfl) (by rfl) ⟨by omega, by omega⟩ ?_ | refine opix (g := g) (off := 0 + k * 4) [.i .i64 x.fl, .i .i64 x.wy, .i .i64 x.ca, .i .i64 x.si] (fun w hH => wait_at (hH.obj (waitsO lo (some ⟨g, 0, none⟩) n c ls false) (List.mem_singleton.2 rfl)) hx) ⟨tab_ok⟩ (by rfl) (by rfl) (by show Addr.add ⟨g, 0, none⟩ (k * 4) = _; rw [Go.WideShapes.add_plain]) ?_ | refine callHF hcf (.b (p x)) (fun w hH => hp x w (hH.out rfl)) ?_ | refine br_dec (fun h => ?_) (fun h => ?_) | refine br_eq (fun h => ?_) (fun h => ?_) | refine br_b (fun h => ?_) (fun h => ?_) | refine fin_s ?_ | refine fin_r ?_ ?_ | refine fin_e ?_ ?_)
      have e : atP ls p = some k := List.findIdx?_eq_some_iff_getElem.2 ⟨hkl, by rw [hxe]; exact hpx, fun j hj => by simpa using hno j hj (by omega)⟩
      rw [e]; rfl
    | false =>
      repeat' ((conv => whnf); first | refine sgo ⟨tab_ok⟩ ?_ | refine br_not ?_ | refine br_t rfl ?_ | refine br_f rfl ?_ | refine br_t (by assumption) ?_ | refine br_f (by assumption) ?_ | refine br_t (decide_eq_true (by assumption)) ?_ | refine br_f (decide_eq_false (by assumption)) ?_ | refine br_t (beq_iff_eq.2 (by assumption)) ?_ | refine br_f (beq_eq_false_iff_ne.2 (by assumption)) ?_ | intro b2 | refine drA ⟨tab_ok⟩ [] ?_ | refine kpt ?_ | refine br_t (decide_eq_true (by omega)) ?_ | refine br_f (decide_eq_false (by omega)) ?_ | refine wr_i ?_ | refine opiv ⟨tab_ok⟩ (by rfl) (by rfl) (by rfl) (by rfl) (by rfl) (by rfl) ⟨by omega, by omega⟩ ?_ | refine opix (g := g) (off := 0 + k * 4) [.i .i64 x.fl, .i .i64 x.wy, .i .i64 x.ca, .i .i64 x.si] (fun w hH => wait_at (hH.obj (waitsO lo (some ⟨g, 0, none⟩) n c ls false) (List.mem_singleton.2 rfl)) hx) ⟨tab_ok⟩ (by rfl) (by rfl) (by show Addr.add ⟨g, 0, none⟩ (k * 4) = _; rw [Go.WideShapes.add_plain]) ?_ | refine callHF hcf (.b (p x)) (fun w hH => hp x w (hH.out rfl)) ?_ | refine br_dec (fun h => ?_) (fun h => ?_) | refine br_eq (fun h => ?_) (fun h => ?_) | refine br_b (fun h => ?_) (fun h => ?_) | refine back ⟨k + 1, by omega, fun j hj hjl => (Nat.lt_succ_iff_lt_or_eq.1 hj).elim (fun h => hno j h hjl) (fun h => by subst h; rw [hxe]; exact hpx)⟩ (wk ?_) ?_ | refine fin_s ?_ | refine fin_r ?_ ?_ | refine fin_e ?_ ?_)
      all_goals first | (show n - (k + 1) < n - k; omega) | skip
      all_goals (repeat' (first | exact trivial | rfl | ((conv => whnf); refine And.intro ?_ ?_)))
  · repeat' ((conv => whnf); first | refine sgo ⟨tab_ok⟩ ?_ | refine br_not ?_ | refine br_t rfl ?_ | refine br_f rfl ?_ | refine br_t (by assumption) ?_ | refine br_f (by assumption) ?_ | refine br_t (decide_eq_true (by assumption)) ?_ | refine br_f (decide_eq_false (by assumption)) ?_ | refine br_t (beq_iff_eq.2 (by assumption)) ?_ | refine br_f (beq_eq_false_iff_ne.2 (by assumption)) ?_ | intro b2 | refine drA ⟨tab_ok⟩ [] ?_ | refine kpt ?_ | refine br_t (decide_eq_true (by omega)) ?_ | refine br_f (decide_eq_false (by omega)) ?_ | refine wr_i ?_ | refine fin_s ?_ | refine fin_r ?_ ?_ | refine fin_e ?_ ?_)
    obtain rfl : k = n := by omega
    have e : atP ls p = none := List.findIdx?_eq_none_iff.2 fun x hx => by
      obtain ⟨j, hj, rfl⟩ := List.mem_iff_getElem.1 hx
      exact hno j (by omega) hj
    rw [e]; rfl
theorem findT (lo q : Nat) (G : GrV) (v1 : Value) (A2 : Option Addr) (c2 : Nat) (f wy : Int) (w : World) (hq : Blk w q 93 (grpA G v1 (.slice A2 G.waits.length c2))) (ho : WaitsAt lo A2 G.waits.length c2 G.waits w) (hl : G.waits.length ≤ 1000000) : Calls Tryz.prog 52 #[.pointer (some ⟨q, 0, none⟩), .agg #[.int .i64 f, .int .i64 wy]] w fun e w' => e = .returned (.int .i64 (oI (atP G.waits (isW f wy)))) ∧ Since w w' := by
  refine entH tab_ok (Hold.addObj (hold_q (S := []) [.i .i64 G.c.ca, .i .i64 G.c.fl, .i .i64 G.c.ft, .i .i64 G.c.se, .i .i64 G.c.dr, .i .i64 G.c.dw, .i .i64 G.c.ho, .i .i64 G.c.re, .i .i64 G.c.yi, .i .i64 G.c.qu, .i .i64 G.c.qo, .i .i64 G.c.lo, .i .i64 G.c.sl, .i .i64 G.c.rt, .i .i64 G.c.cp, .i .i64 G.c.tr, .i .i64 G.c.de, .i .i64 G.c.wi, .v v1, .v (.slice A2 G.waits.length c2), .i .i64 G.now] hq) (waitsO lo A2 G.waits.length c2 G.waits false) ho (by intro k; cases k) (by intro r hr _; rw [List.mem_singleton] at hr; subst hr; exact own_ne_ty ho hq (by decide)) (by intro A hA; cases hA)) [.p 0 0, .a [.i .i64 f, .i .i64 wy]] Tryz.func52 Tryz.ntmps52 rfl rfl ?_
  repeat' ((conv => whnf); first | refine sgo ⟨tab_ok⟩ ?_ | refine br_not ?_ | refine br_t rfl ?_ | refine br_f rfl ?_ | refine br_t (by assumption) ?_ | refine br_f (by assumption) ?_ | refine br_t (decide_eq_true (by assumption)) ?_ | refine br_f (decide_eq_false (by assumption)) ?_ | refine br_t (beq_iff_eq.2 (by assumption)) ?_ | refine br_f (beq_eq_false_iff_ne.2 (by assumption)) ?_ | intro b | refine drA ⟨tab_ok⟩ [] ?_ | refine kpt ?_ | refine br_dec (fun h => ?_) (fun h => ?_) | refine br_eq (fun h => ?_) (fun h => ?_) | refine br_b (fun h => ?_) (fun h => ?_) | refine callH (f := 108) (.i .i64 (oI (atP G.waits (isW f wy)))) (fun w hH => indexT lo A2 _ c2 G.waits 109 _ (isW f wy) w (hH.obj (waitsO lo A2 G.waits.length c2 G.waits false) (List.mem_singleton.2 rfl)) rfl hl (fun l w1 hs => find1T _ f wy l w1 (keep_blk hs (hH.row 1 _ rfl rfl))) (entC (by kernel_rfl))) ?_ | refine fin_s ?_ | refine fin_r ?_ ?_ | refine fin_e ?_ ?_)
  all_goals rfl
theorem change0 (q : Nat) (G : GrV) (A : Option Addr) (n c1 : Nat) (v2 : Value) (i : Int) (V : Value) (w : World) (hq : Blk w q 93 (grpA G (.slice A n c1) v2)) (hi : i < 0 ∨ (n : Int) ≤ i) : Calls Tryz.prog 101 #[.pointer (some ⟨q, 0, none⟩), .int .i64 i, V] w fun e w' => e = .returned (.int .i64 1) ∧ Since w w' := by
  refine entH tab_ok (hold_q (S := []) [.i .i64 G.c.ca, .i .i64 G.c.fl, .i .i64 G.c.ft, .i .i64 G.c.se, .i .i64 G.c.dr, .i .i64 G.c.dw, .i .i64 G.c.ho, .i .i64 G.c.re, .i .i64 G.c.yi, .i .i64 G.c.qu, .i .i64 G.c.qo, .i .i64 G.c.lo, .i .i64 G.c.sl, .i .i64 G.c.rt, .i .i64 G.c.cp, .i .i64 G.c.tr, .i .i64 G.c.de, .i .i64 G.c.wi, .v (.slice A n c1), .v v2, .i .i64 G.now] hq) [.p 0 0, .i .i64 i, .v V] Tryz.func101 Tryz.ntmps101 rfl rfl ?_
  repeat' ((conv => whnf); first | refine sgo ⟨tab_ok⟩ ?_ | refine br_not ?_ | refine br_t rfl ?_ | refine br_f rfl ?_ | refine br_t (by assumption) ?_ | refine br_f (by assumption) ?_ | refine br_t (decide_eq_true (by assumption)) ?_ | refine br_f (decide_eq_false (by assumption)) ?_ | refine br_t (beq_iff_eq.2 (by assumption)) ?_ | refine br_f (beq_eq_false_iff_ne.2 (by assumption)) ?_ | intro b | refine drA ⟨tab_ok⟩ [] ?_ | refine kpt ?_ | refine br_t (decide_eq_true (by omega)) ?_ | refine br_f (decide_eq_false (by omega)) ?_ | refine br_dec (fun h => ?_) (fun h => ?_) | refine br_eq (fun h => ?_) (fun h => ?_) | refine br_b (fun h => ?_) (fun h => ?_) | refine fin_s ?_ | refine fin_r ?_ ?_ | refine fin_e ?_ ?_)
  all_goals rfl
theorem change1 (q g : Nat) (G : GrV) (n c1 : Nat) (v2 : Value) (i : Int) (k : Nat) (F : FuncId) (p0 : Value) (r : Int) (O B : Asr) (w : World) (hq : Blk w q 93 (grpA G (.slice (some ⟨g, 0, none⟩) n c1) v2)) (hO : O.st w) (hqO : q ∉ O.F) (hi : i = (k : Int)) (hk : k < n) (h1 : O.rw = true) (h2 : B.rw = true) (hcf : ∀ (args : Array Value) (w1 : World), (callFunc F args).run Tryz.prog w1 = .ok (.enter F args) w1)
    (hf : ∀ w1, Upd O.F w w1 → O.st w1 → Calls Tryz.prog F #[.pointer (some ⟨g, 0 + k * 15, none⟩), p0] w1 fun e w' => e = .returned (.int .i64 r) ∧ B.st w' ∧ Upd O.F w1 w' ∧ ∀ g ∈ B.F, g ∈ O.F ∨ w1.heap.size ≤ g) :
    Calls Tryz.prog 101 #[.pointer (some ⟨q, 0, none⟩), .int .i64 i, .func (.func F) #[] #[p0]] w fun e w' => e = .returned (.int .i64 r) ∧ B.st w' ∧ Upd O.F w w' ∧ ∀ g ∈ B.F, g ∈ O.F ∨ w.heap.size ≤ g := by
  subst hi
  refine entH tab_ok (Hold.addObj (hold_q (S := O.F) [.i .i64 G.c.ca, .i .i64 G.c.fl, .i .i64 G.c.ft, .i .i64 G.c.se, .i .i64 G.c.dr, .i .i64 G.c.dw, .i .i64 G.c.ho, .i .i64 G.c.re, .i .i64 G.c.yi, .i .i64 G.c.qu, .i .i64 G.c.qo, .i .i64 G.c.lo, .i .i64 G.c.sl, .i .i64 G.c.rt, .i .i64 G.c.cp, .i .i64 G.c.tr, .i .i64 G.c.de, .i .i64 G.c.wi, .v (.slice (some ⟨g, 0, none⟩) n c1), .v v2, .i .i64 G.now] hq) O hO (fun _ g hg => .inl hg) (by intro r hr _; rw [List.mem_singleton] at hr; subst hr; exact hqO) (by intro A hA; cases hA)) [.p 0 0, .i .i64 (k : Int), .f F [.v p0]] Tryz.func101 Tryz.ntmps101 rfl rfl ?_
  repeat' ((conv => whnf); first | refine sgo ⟨tab_ok⟩ ?_ | refine br_not ?_ | refine br_t rfl ?_ | refine br_f rfl ?_ | refine br_t (by assumption) ?_ | refine br_f (by assumption) ?_ | refine br_t (decide_eq_true (by assumption)) ?_ | refine br_f (decide_eq_false (by assumption)) ?_ | refine br_t (beq_iff_eq.2 (by assumption)) ?_ | refine br_f (beq_eq_false_iff_ne.2 (by assumption)) ?_ | intro b | refine drA ⟨tab_ok⟩ [] ?_ | refine kpt ?_ | refine br_t (decide_eq_true (by omega)) ?_ | refine br_f (decide_eq_false (by omega)) ?_ | refine br_dec (fun h => ?_) (fun h => ?_) | refine br_eq (fun h => ?_) (fun h => ?_) | refine br_b (fun h => ?_) (fun h => ?_) | refine opiv ⟨tab_ok⟩ (by rfl) (by rfl) (by rfl) (by rfl) (by rfl) (by rfl) ⟨by omega, by omega⟩ ?_ | refine callOF hcf 0 (.i .i64 r) B (fun w1 hH hw => by have := hf w1 hH.upd hw; rwa [show (⟨g, 0 + k * 15, none⟩ : Addr) = Addr.add ⟨g, 0, none⟩ (k * 15) by rw [Go.WideShapes.add_plain]] at this) ?_ (by rfl) h1 | refine fin fun w' hH => ⟨rfl, hH.obj B (List.mem_singleton.2 rfl), hH.upd, hH.own B (List.mem_singleton.2 rfl) h2⟩ | refine fin_s ?_ | refine fin_r ?_ ?_ | refine fin_e ?_ ?_)
theorem change2 (q g : Nat) (G : GrV) (n c1 : Nat) (v2 : Value) (i : Int) (k : Nat) (F : FuncId) (p0 p1 : Value) (r : Int) (O B : Asr) (w : World) (hq : Blk w q 93 (grpA G (.slice (some ⟨g, 0, none⟩) n c1) v2)) (hO : O.st w) (hqO : q ∉ O.F) (hi : i = (k : Int)) (hk : k < n) (h1 : O.rw = true) (h2 : B.rw = true) (hcf : ∀ (args : Array Value) (w1 : World), (callFunc F args).run Tryz.prog w1 = .ok (.enter F args) w1)
    (hf : ∀ w1, Upd O.F w w1 → O.st w1 → Calls Tryz.prog F #[.pointer (some ⟨g, 0 + k * 15, none⟩), p0, p1] w1 fun e w' => e = .returned (.int .i64 r) ∧ B.st w' ∧ Upd O.F w1 w' ∧ ∀ g ∈ B.F, g ∈ O.F ∨ w1.heap.size ≤ g) :
    Calls Tryz.prog 101 #[.pointer (some ⟨q, 0, none⟩), .int .i64 i, .func (.func F) #[] #[p0, p1]] w fun e w' => e = .returned (.int .i64 r) ∧ B.st w' ∧ Upd O.F w w' ∧ ∀ g ∈ B.F, g ∈ O.F ∨ w.heap.size ≤ g := by
  subst hi
  refine entH tab_ok (Hold.addObj (hold_q (S := O.F) [.i .i64 G.c.ca, .i .i64 G.c.fl, .i .i64 G.c.ft, .i .i64 G.c.se, .i .i64 G.c.dr, .i .i64 G.c.dw, .i .i64 G.c.ho, .i .i64 G.c.re, .i .i64 G.c.yi, .i .i64 G.c.qu, .i .i64 G.c.qo, .i .i64 G.c.lo, .i .i64 G.c.sl, .i .i64 G.c.rt, .i .i64 G.c.cp, .i .i64 G.c.tr, .i .i64 G.c.de, .i .i64 G.c.wi, .v (.slice (some ⟨g, 0, none⟩) n c1), .v v2, .i .i64 G.now] hq) O hO (fun _ g hg => .inl hg) (by intro r hr _; rw [List.mem_singleton] at hr; subst hr; exact hqO) (by intro A hA; cases hA)) [.p 0 0, .i .i64 (k : Int), .f F [.v p0, .v p1]] Tryz.func101 Tryz.ntmps101 rfl rfl ?_
  repeat' ((conv => whnf); first | refine sgo ⟨tab_ok⟩ ?_ | refine br_not ?_ | refine br_t rfl ?_ | refine br_f rfl ?_ | refine br_t (by assumption) ?_ | refine br_f (by assumption) ?_ | refine br_t (decide_eq_true (by assumption)) ?_ | refine br_f (decide_eq_false (by assumption)) ?_ | refine br_t (beq_iff_eq.2 (by assumption)) ?_ | refine br_f (beq_eq_false_iff_ne.2 (by assumption)) ?_ | intro b | refine drA ⟨tab_ok⟩ [] ?_ | refine kpt ?_ | refine br_t (decide_eq_true (by omega)) ?_ | refine br_f (decide_eq_false (by omega)) ?_ | refine br_dec (fun h => ?_) (fun h => ?_) | refine br_eq (fun h => ?_) (fun h => ?_) | refine br_b (fun h => ?_) (fun h => ?_) | refine opiv ⟨tab_ok⟩ (by rfl) (by rfl) (by rfl) (by rfl) (by rfl) (by rfl) ⟨by omega, by omega⟩ ?_ | refine callOF hcf 0 (.i .i64 r) B (fun w1 hH hw => by have := hf w1 hH.upd hw; rwa [show (⟨g, 0 + k * 15, none⟩ : Addr) = Addr.add ⟨g, 0, none⟩ (k * 15) by rw [Go.WideShapes.add_plain]] at this) ?_ (by rfl) h1 | refine fin fun w' hH => ⟨rfl, hH.obj B (List.mem_singleton.2 rfl), hH.upd, hH.own B (List.mem_singleton.2 rfl) h2⟩ | refine fin_s ?_ | refine fin_r ?_ ?_ | refine fin_e ?_ ?_)
end Go.Proofs.YthmikjjnlahlbaaGreat.Gr
