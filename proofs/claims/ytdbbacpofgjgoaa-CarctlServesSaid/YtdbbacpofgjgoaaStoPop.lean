/-
  Plain facts on how many bits a number of 64 bits has: by lanes, as math/bits counts them.
  No condition.
-/
import Derived.Test.YtdbbacpofgjgoaaStoMath
import Derived.IntWalk
import Derived.Laws.Bits128
namespace Go.Proofs.Ytdbbacpofgjgoaa.St
set_option linter.unusedVariables false
set_option linter.unusedSimpArgs false
/-- Two numbers in lanes, bit by bit. -/
theorem and_split (m a b c d : Nat) (ha : a < 2 ^ m) (hc : c < 2 ^ m) : (a + 2 ^ m * b) &&& (c + 2 ^ m * d) = (a &&& c) + 2 ^ m * (b &&& d) := by
  have hac : a &&& c < 2 ^ m := Nat.lt_of_le_of_lt Nat.and_le_left ha
  apply Nat.eq_of_testBit_eq
  intro i
  rw [Nat.testBit_and, Nat.add_comm a, Nat.add_comm c, Nat.add_comm (a &&& c), Nat.testBit_two_pow_mul_add _ ha, Nat.testBit_two_pow_mul_add _ hc, Nat.testBit_two_pow_mul_add _ hac]
  split
  · rw [Nat.testBit_and]
  · rw [Nat.testBit_and]
/-- The mask of n lanes. -/
def M (k : Nat) : Nat → Nat
  | 0 => 0
  | n + 1 => (2 ^ k - 1) + 2 ^ (2 * k) * M k n
/-- Lanes in pairs, added. -/
def S (k : Nat) : Nat → Nat → Nat
  | 0, _ => 0
  | n + 1, x => (x % 2 ^ k + x / 2 ^ k % 2 ^ k) + 2 ^ (2 * k) * S k n (x / 2 ^ (2 * k))
/-- The sum of n lanes. -/
def T (k : Nat) : Nat → Nat → Nat
  | 0, _ => 0
  | n + 1, x => x % 2 ^ k + T k n (x / 2 ^ k)
theorem mask_lt (k : Nat) : 2 ^ k - 1 < 2 ^ (2 * k) := by
  have h1 : 2 ^ k ≤ 2 ^ (2 * k) := Nat.pow_le_pow_right (by omega) (by omega)
  have h2 : 0 < 2 ^ k := Nat.pow_pos (by omega)
  omega
theorem split_at (m x : Nat) : x = x % 2 ^ m + 2 ^ m * (x / 2 ^ m) := by rw [Nat.add_comm]; exact (Nat.div_add_mod x (2 ^ m)).symm
theorem and_mask (k n x : Nat) : x &&& M k (n + 1) = x % 2 ^ k + 2 ^ (2 * k) * (x / 2 ^ (2 * k) &&& M k n) := by
  have h := and_split (2 * k) (x % 2 ^ (2 * k)) (x / 2 ^ (2 * k)) (2 ^ k - 1) (M k n) (Nat.mod_lt _ (Nat.pow_pos (by omega))) (mask_lt k)
  rw [← split_at] at h
  show x &&& ((2 ^ k - 1) + 2 ^ (2 * k) * M k n) = _
  rw [h, Nat.and_two_pow_sub_one_eq_mod, Nat.mod_mod_of_dvd _ (Nat.pow_dvd_pow 2 (by omega))]
theorem lanes (k : Nat) : ∀ n x, (x / 2 ^ k &&& M k n) + (x &&& M k n) = S k n x
  | 0, x => by simp [M, S]
  | n + 1, x => by
    rw [and_mask, and_mask]
    have h := lanes k n (x / 2 ^ (2 * k))
    have e : x / 2 ^ k / 2 ^ (2 * k) = x / 2 ^ (2 * k) / 2 ^ k := by rw [Nat.div_div_eq_div_mul, Nat.div_div_eq_div_mul, Nat.mul_comm]
    rw [e]
    show _ = (x % 2 ^ k + x / 2 ^ k % 2 ^ k) + 2 ^ (2 * k) * S k n (x / 2 ^ (2 * k))
    rw [← h, Nat.mul_add]
    omega
theorem pair_lt (k : Nat) (hk : 1 ≤ k) (x : Nat) : x % 2 ^ k + x / 2 ^ k % 2 ^ k < 2 ^ (2 * k) := by
  have h1 := Nat.mod_lt x (show 0 < 2 ^ k from Nat.pow_pos (by omega))
  have h2 := Nat.mod_lt (x / 2 ^ k) (show 0 < 2 ^ k from Nat.pow_pos (by omega))
  have h3 : 2 ^ (2 * k) = 2 ^ k * 2 ^ k := by rw [← Nat.pow_add]; congr 1; omega
  have h4 : 2 ≤ 2 ^ k := by
    have := Nat.pow_le_pow_right (n := 2) (by omega) hk
    simpa using this
  have h5 : 2 * 2 ^ k ≤ 2 ^ k * 2 ^ k := Nat.mul_le_mul_right _ h4
  omega
theorem S_mod (k : Nat) (hk : 1 ≤ k) (n x : Nat) : S k (n + 1) x % 2 ^ (2 * k) = x % 2 ^ k + x / 2 ^ k % 2 ^ k := by
  show ((x % 2 ^ k + x / 2 ^ k % 2 ^ k) + 2 ^ (2 * k) * _) % 2 ^ (2 * k) = _
  rw [Nat.add_mul_mod_self_left, Nat.mod_eq_of_lt (pair_lt k hk x)]
theorem S_div (k : Nat) (hk : 1 ≤ k) (n x : Nat) : S k (n + 1) x / 2 ^ (2 * k) = S k n (x / 2 ^ (2 * k)) := by
  show ((x % 2 ^ k + x / 2 ^ k % 2 ^ k) + 2 ^ (2 * k) * _) / 2 ^ (2 * k) = _
  rw [Nat.add_mul_div_left _ _ (Nat.pow_pos (by omega)), Nat.div_eq_of_lt (pair_lt k hk x), Nat.zero_add]
theorem T_S (k : Nat) (hk : 1 ≤ k) : ∀ n x, T (2 * k) n (S k n x) = T k (2 * n) x
  | 0, _ => rfl
  | n + 1, x => by
    show S k (n + 1) x % 2 ^ (2 * k) + T (2 * k) n (S k (n + 1) x / 2 ^ (2 * k)) = _
    rw [S_mod k hk, S_div k hk, T_S k hk n]
    show _ = T k (2 * n + 1 + 1) x
    show _ = x % 2 ^ k + (x / 2 ^ k % 2 ^ k + T k (2 * n) (x / 2 ^ k / 2 ^ k))
    rw [Nat.div_div_eq_div_mul x (2 ^ k) (2 ^ k), show 2 ^ k * 2 ^ k = 2 ^ (2 * k) by rw [← Nat.pow_add]; congr 1; omega]
    omega
/-- Each of n lanes is at most c. -/
def Le (k c : Nat) : Nat → Nat → Prop
  | 0, _ => True
  | n + 1, x => x % 2 ^ k ≤ c ∧ Le k c n (x / 2 ^ k)
theorem Le_S (k c : Nat) (hk : 1 ≤ k) : ∀ n x, Le k c (2 * n) x → Le (2 * k) (c + c) n (S k n x)
  | 0, _, _ => trivial
  | n + 1, x, h => by
    have h' : x % 2 ^ k ≤ c ∧ x / 2 ^ k % 2 ^ k ≤ c ∧ Le k c (2 * n) (x / 2 ^ k / 2 ^ k) := h
    obtain ⟨h1, h2, h3⟩ := h'
    refine ⟨?_, ?_⟩
    · rw [S_mod k hk]; omega
    · rw [S_div k hk]
      rw [Nat.div_div_eq_div_mul, show 2 ^ k * 2 ^ k = 2 ^ (2 * k) by rw [← Nat.pow_add]; congr 1; omega] at h3
      exact Le_S k c hk n _ h3
theorem Le_1 : ∀ n x, Le 1 1 n x
  | 0, _ => trivial
  | n + 1, x => ⟨by have := Nat.mod_lt x (show 0 < 2 by omega); simp; omega, Le_1 n _⟩
theorem nibbles (x : Nat) (h1 : x % 16 ≤ 7) (h2 : x / 16 % 16 ≤ 7) (h4 : x / 256 % 16 ≤ 7) : (x / 16 + x) % 2 ^ 4 = x % 2 ^ 4 + x / 2 ^ 4 % 2 ^ 4 ∧ (x / 16 + x) / 2 ^ (2 * 4) = x / 2 ^ (2 * 4) / 16 + x / 2 ^ (2 * 4) := by
  obtain ⟨l0, hl0⟩ : ∃ l, l = x % 16 := ⟨_, rfl⟩
  obtain ⟨l1, hl1⟩ : ∃ l, l = x / 16 % 16 := ⟨_, rfl⟩
  obtain ⟨y, hy⟩ : ∃ l, l = x / 256 := ⟨_, rfl⟩
  obtain ⟨z, hz⟩ : ∃ l, l = y / 16 := ⟨_, rfl⟩
  obtain ⟨r, hr⟩ : ∃ l, l = y % 16 := ⟨_, rfl⟩
  have hx : x = l0 + 16 * l1 + 256 * y := by omega
  have hq : x / 16 = l1 + 16 * y := by omega
  have hyz : y = r + 16 * z := by omega
  have a1 : l0 ≤ 7 := by omega
  have a2 : l1 ≤ 7 := by omega
  have a3 : r ≤ 7 := by rw [hr, hy]; exact h4
  have hs : x / 16 + x = (l0 + l1) + 16 * (l1 + r) + 256 * (z + y) := by rw [hq, hx]; omega
  simp only [Nat.reducePow, Nat.reduceMul]
  rw [hs, ← hy, ← hz, ← hl0, ← hl1]
  clear hs hx hq hyz hl0 hl1 hy hz hr h1 h2 h4
  constructor <;> omega
/-- The third step: added first, masked then. -/
theorem lanes4 : ∀ n x, Le 4 7 (2 * n + 1) x → ((x / 16 + x) &&& M 4 n) = S 4 n x
  | 0, x, _ => by simp [M, S]
  | n + 1, x, h => by
    have h' : x % 2 ^ 4 ≤ 7 ∧ x / 2 ^ 4 % 2 ^ 4 ≤ 7 ∧ Le 4 7 (2 * n + 1) (x / 2 ^ 4 / 2 ^ 4) := h
    obtain ⟨h1, h2, h3⟩ := h'
    have h4 : x / 2 ^ 4 / 2 ^ 4 % 2 ^ 4 ≤ 7 := h3.1
    have ih := lanes4 n (x / 2 ^ (2 * 4)) (by rw [Nat.div_div_eq_div_mul] at h3; exact h3)
    rw [and_mask]
    show _ = (x % 2 ^ 4 + x / 2 ^ 4 % 2 ^ 4) + 2 ^ (2 * 4) * S 4 n (x / 2 ^ (2 * 4))
    rw [← ih]
    obtain ⟨e1, e2⟩ := nibbles x (by simpa using h1) (by simpa using h2) (by rw [Nat.div_div_eq_div_mul] at h4; simpa using h4)
    rw [e1, e2]
theorem M0 : M 1 32 = 6148914691236517205 := by decide
theorem M1 : M 2 16 = 3689348814741910323 := by decide
theorem M2 : M 4 8 = 1085102592571150095 := by decide
/-- How many bits. -/
def pc (n : Nat) : Nat := T 1 64 n
/-- The count, lane by lane. -/
def cA (n : Nat) : Nat := (n / 2 &&& 6148914691236517205) + (n &&& 6148914691236517205)
def cB (n : Nat) : Nat := (n / 4 &&& 3689348814741910323) + (n &&& 3689348814741910323)
def cC (n : Nat) : Nat := (n / 16 + n) &&& 1085102592571150095
theorem Le_more (k c d : Nat) (h : c ≤ d) : ∀ n x, Le k c n x → Le k d n x
  | 0, _, _ => trivial
  | n + 1, _, hh => ⟨Nat.le_trans hh.1 h, Le_more k c d h n _ hh.2⟩
theorem Le_snoc (k c : Nat) : ∀ n x, Le k c n x → x / 2 ^ (k * n) = 0 → Le k c (n + 1) x
  | 0, x, _, h => ⟨by
      have : x = 0 := by simpa using h
      subst this; simp, trivial⟩
  | n + 1, x, hh, h => ⟨hh.1, Le_snoc k c n _ hh.2 (by
      rw [Nat.div_div_eq_div_mul, ← Nat.pow_add, show k + k * n = k * (n + 1) by rw [Nat.mul_succ]; omega]; exact h)⟩
theorem S_lt (k : Nat) (hk : 1 ≤ k) : ∀ n x, S k n x < 2 ^ (2 * k * n)
  | 0, _ => by simp [S]
  | n + 1, x => by
    have h1 := pair_lt k hk x
    have h2 := S_lt k hk n (x / 2 ^ (2 * k))
    show (x % 2 ^ k + x / 2 ^ k % 2 ^ k) + 2 ^ (2 * k) * S k n (x / 2 ^ (2 * k)) < _
    rw [show 2 * k * (n + 1) = 2 * k + 2 * k * n by rw [Nat.mul_succ]; omega, Nat.pow_add]
    have h3 : 2 ^ (2 * k) * (S k n (x / 2 ^ (2 * k)) + 1) ≤ 2 ^ (2 * k) * 2 ^ (2 * k * n) := Nat.mul_le_mul_left _ h2
    rw [Nat.mul_add] at h3
    omega
theorem by_lanes (n : Nat) : T 8 8 (cC (cB (cA n))) = pc n ∧ Le 8 8 8 (cC (cB (cA n))) := by
  have a : cA n = S 1 32 n := by unfold cA; rw [← M0]; exact lanes 1 32 n
  have b : cB (cA n) = S 2 16 (S 1 32 n) := by rw [a]; unfold cB; rw [← M1]; exact lanes 2 16 _
  have l1 : Le 2 2 32 (S 1 32 n) := Le_S 1 1 (by omega) 32 n (Le_1 64 n)
  have l2 : Le 4 4 16 (S 2 16 (S 1 32 n)) := Le_S 2 2 (by omega) 16 _ l1
  have l3 : Le 4 7 17 (S 2 16 (S 1 32 n)) := Le_snoc 4 7 16 _ (Le_more 4 4 7 (by omega) 16 _ l2) (Nat.div_eq_of_lt (S_lt 2 (by omega) 16 _))
  have c : cC (cB (cA n)) = S 4 8 (S 2 16 (S 1 32 n)) := by rw [b]; unfold cC; rw [← M2]; exact lanes4 8 _ l3
  rw [c]
  refine ⟨?_, Le_S 4 4 (by omega) 8 _ l2⟩
  unfold pc
  rw [T_S 4 (by omega) 8, T_S 2 (by omega) 16, T_S 1 (by omega) 32]
/-- Eight lanes, added into one. -/
def cD (c : Nat) : Nat := c + c / 256
def cE (c : Nat) : Nat := c + c / 65536
def cF (c : Nat) : Nat := c + c / 4294967296
/-- Lanes of eight bits. -/
def D : List Nat → Nat
  | [] => 0
  | c :: l => c + 256 * D l
def addl : List Nat → List Nat → List Nat
  | [], m => m
  | l, [] => l
  | a :: l, b :: m => (a + b) :: addl l m
theorem D_add : ∀ l m, D l + D m = D (addl l m)
  | [], m => by simp [D, addl]
  | a :: l, [] => by simp [D, addl]
  | a :: l, b :: m => by
    have := D_add l m
    show (a + 256 * D l) + (b + 256 * D m) = (a + b) + 256 * D (addl l m)
    omega
theorem D_div (c : Nat) (l : List Nat) (h : c < 256) : D (c :: l) / 256 = D l := by
  show (c + 256 * D l) / 256 = D l
  rw [Nat.add_mul_div_left _ _ (by omega), Nat.div_eq_of_lt h, Nat.zero_add]
theorem D_mod (c : Nat) (l : List Nat) (h : c < 128) : D (c :: l) % 128 = c := by
  show (c + 256 * D l) % 128 = c
  omega
theorem D_lt : ∀ (l : List Nat), (∀ c ∈ l, c ≤ 127) → 2 * D l < 256 ^ l.length
  | [], _ => by simp [D]
  | c :: l, h => by
    have h1 := D_lt l fun x hx => h x (by simp [hx])
    have h2 := h c (by simp)
    show 2 * (c + 256 * D l) < 256 ^ (l.length + 1)
    rw [Nat.pow_succ]
    omega
def dig : Nat → Nat → List Nat
  | 0, _ => []
  | n + 1, c => c % 256 :: dig n (c / 256)
theorem dig_D : ∀ n c, c < 256 ^ n → D (dig n c) = c
  | 0, c, h => by
    have : c = 0 := by simpa using h
    subst this; rfl
  | n + 1, c, h => by
    have h1 := dig_D n (c / 256) (by rw [Nat.pow_succ] at h; omega)
    show c % 256 + 256 * D (dig n (c / 256)) = c
    rw [h1]; omega
theorem dig_T : ∀ n c, T 8 n c = (dig n c).sum
  | 0, _ => rfl
  | n + 1, c => by
    show c % 2 ^ 8 + T 8 n (c / 2 ^ 8) = _
    rw [dig_T n]
    simp [dig]
theorem dig_le : ∀ n c, Le 8 8 n c → ∀ x ∈ dig n c, x ≤ 8
  | 0, _, _ => by simp [dig]
  | n + 1, c, h => by
    have h1 := dig_le n _ h.2
    intro x hx
    rcases List.mem_cons.1 hx with rfl | hx
    · exact h.1
    · exact h1 x hx
theorem fold8 (c : Nat) (hc : c < 18446744073709551616) (h : Le 8 8 8 c) : cF (cE (cD c)) % 128 = T 8 8 c ∧ cD c < 18446744073709551616 ∧ cE (cD c) < 18446744073709551616 ∧ cF (cE (cD c)) < 9223372036854775808 := by
  have hD := dig_D 8 c (by simpa using hc)
  have hT := dig_T 8 c
  have hL := dig_le 8 c h
  have hp : (256 : Nat) ^ 8 = 18446744073709551616 := by decide
  obtain ⟨c0, c1, c2, c3, c4, c5, c6, c7, hd⟩ : ∃ c0 c1 c2 c3 c4 c5 c6 c7, dig 8 c = [c0, c1, c2, c3, c4, c5, c6, c7] := ⟨_, _, _, _, _, _, _, _, rfl⟩
  rw [hd] at hD hT hL
  clear hd h
  have h0 := hL c0 (by simp)
  have h1 := hL c1 (by simp)
  have h2 := hL c2 (by simp)
  have h3 := hL c3 (by simp)
  have h4 := hL c4 (by simp)
  have h5 := hL c5 (by simp)
  have h6 := hL c6 (by simp)
  have h7 := hL c7 (by simp)
  clear hL
  have d1 : cD c = D [c0 + c1, c1 + c2, c2 + c3, c3 + c4, c4 + c5, c5 + c6, c6 + c7, c7] := by
    unfold cD
    rw [← hD, D_div _ _ (by omega), D_add]; rfl
  have e1 : cE (cD c) = D [c0 + c1 + (c2 + c3), c1 + c2 + (c3 + c4), c2 + c3 + (c4 + c5), c3 + c4 + (c5 + c6), c4 + c5 + (c6 + c7), c5 + c6 + c7, c6 + c7, c7] := by
    rw [d1]
    unfold cE
    rw [show ∀ n : Nat, n / 65536 = n / 256 / 256 by intro n; rw [Nat.div_div_eq_div_mul], D_div _ _ (by omega), D_div _ _ (by omega), D_add]; rfl
  have f1 : cF (cE (cD c)) = D [c0 + c1 + (c2 + c3) + (c4 + c5 + (c6 + c7)), c1 + c2 + (c3 + c4) + (c5 + c6 + c7), c2 + c3 + (c4 + c5) + (c6 + c7), c3 + c4 + (c5 + c6) + c7, c4 + c5 + (c6 + c7), c5 + c6 + c7, c6 + c7, c7] := by
    rw [e1]
    unfold cF
    rw [show ∀ n : Nat, n / 4294967296 = n / 256 / 256 / 256 / 256 by intro n; rw [Nat.div_div_eq_div_mul, Nat.div_div_eq_div_mul, Nat.div_div_eq_div_mul], D_div _ _ (by omega), D_div _ _ (by omega), D_div _ _ (by omega), D_div _ _ (by omega), D_add]; rfl
  have b1 := D_lt [c0 + c1, c1 + c2, c2 + c3, c3 + c4, c4 + c5, c5 + c6, c6 + c7, c7] (by intro x hx; simp at hx; omega)
  have b2 := D_lt [c0 + c1 + (c2 + c3), c1 + c2 + (c3 + c4), c2 + c3 + (c4 + c5), c3 + c4 + (c5 + c6), c4 + c5 + (c6 + c7), c5 + c6 + c7, c6 + c7, c7] (by intro x hx; simp at hx; omega)
  have b3 := D_lt [c0 + c1 + (c2 + c3) + (c4 + c5 + (c6 + c7)), c1 + c2 + (c3 + c4) + (c5 + c6 + c7), c2 + c3 + (c4 + c5) + (c6 + c7), c3 + c4 + (c5 + c6) + c7, c4 + c5 + (c6 + c7), c5 + c6 + c7, c6 + c7, c7] (by intro x hx; simp at hx; omega)
  simp only [List.length_cons, List.length_nil, Nat.zero_add, Nat.reduceAdd, hp] at b1 b2 b3
  refine ⟨?_, ?_, ?_, ?_⟩
  · rw [f1, D_mod _ _ (by omega), hT]; simp; omega
  · rw [d1]; omega
  · rw [e1]; omega
  · rw [f1]; omega
theorem Le_bd : ∀ n y, Le 4 4 n y → y < 16 ^ n → 15 * y ≤ 4 * (16 ^ n - 1)
  | 0, y, _, h => by have : y = 0 := by simpa using h
                     subst this; simp
  | n + 1, y, h, hy => by
    have h1 := Le_bd n (y / 2 ^ 4) h.2 (by rw [Nat.pow_succ] at hy; omega)
    have h2 := h.1
    have h3 : 0 < 16 ^ n := Nat.pow_pos (by omega)
    rw [Nat.pow_succ]
    simp only [Nat.reducePow] at h1 h2
    omega
theorem cB_lt (n : Nat) : cB (cA n) < 8000000000000000000 ∧ cA n < 18446744073709551616 := by
  have a : cA n = S 1 32 n := by unfold cA; rw [← M0]; exact lanes 1 32 n
  have b : cB (cA n) = S 2 16 (S 1 32 n) := by rw [a]; unfold cB; rw [← M1]; exact lanes 2 16 _
  have l1 : Le 2 2 32 (S 1 32 n) := Le_S 1 1 (by omega) 32 n (Le_1 64 n)
  have l2 : Le 4 4 16 (S 2 16 (S 1 32 n)) := Le_S 2 2 (by omega) 16 _ l1
  have h1 := Le_bd 16 _ l2 (by have := S_lt 2 (by omega) 16 (S 1 32 n); simpa using this)
  have h2 := S_lt 1 (by omega) 32 n
  have h3 : (16 : Nat) ^ 16 = 18446744073709551616 := by decide
  have h4 : (2 : Nat) ^ (2 * 1 * 32) = 18446744073709551616 := by decide
  rw [h3] at h1
  rw [h4] at h2
  rw [b, a]
  omega
/-- The steps of math/bits, on numbers as they are written. -/
def iA (x : Int) : Int := IntKind.u64.wrap (bits .and .u64 (x / 2) 6148914691236517205 + bits .and .u64 x 6148914691236517205)
def iB (y : Int) : Int := IntKind.u64.wrap (bits .and .u64 (y / 4) 3689348814741910323 + bits .and .u64 y 3689348814741910323)
def iC (y : Int) : Int := bits .and .u64 (IntKind.u64.wrap (y / 16 + y)) 1085102592571150095
def iD (y : Int) : Int := IntKind.u64.wrap (y + y / 256)
def iE (y : Int) : Int := IntKind.u64.wrap (y + y / 65536)
def iF (y : Int) : Int := IntKind.u64.wrap (y + y / 4294967296)
theorem div_cast (n k : Nat) : ((n : Int) / (k : Int)) = ((n / k : Nat) : Int) := by simp
theorem iA_eq (n : Nat) (h : n < 18446744073709551616) : iA (n : Int) = (cA n : Int) := by
  have h1 := u64_and_nat (n / 2) 6148914691236517205 (by omega) (by omega)
  have h2 := u64_and_nat n 6148914691236517205 h (by omega)
  have h3 := (cB_lt n).2
  unfold iA
  rw [show ((n : Int) / 2) = ((n / 2 : Nat) : Int) from div_cast n 2, show (6148914691236517205 : Int) = ((6148914691236517205 : Nat) : Int) from rfl, h1, h2, IntWalk.u64_in _ (by unfold cA at h3; omega)]
  unfold cA; simp
theorem iB_eq (n : Nat) (h : n < 18446744073709551616) (hb : cB n < 18446744073709551616) : iB (n : Int) = (cB n : Int) := by
  have h1 := u64_and_nat (n / 4) 3689348814741910323 (by omega) (by omega)
  have h2 := u64_and_nat n 3689348814741910323 h (by omega)
  unfold iB
  rw [show ((n : Int) / 4) = ((n / 4 : Nat) : Int) from div_cast n 4, show (3689348814741910323 : Int) = ((3689348814741910323 : Nat) : Int) from rfl, h1, h2, IntWalk.u64_in _ (by unfold cB at hb; omega)]
  unfold cB; simp
theorem iC_eq (n : Nat) (h : n < 8000000000000000000) : iC (n : Int) = (cC n : Int) := by
  have h1 := u64_and_nat (n / 16 + n) 1085102592571150095 (by omega) (by omega)
  unfold iC
  rw [IntWalk.u64_in _ (by omega), show ((n : Int) / 16 + (n : Int)) = ((n / 16 + n : Nat) : Int) by simp, show (1085102592571150095 : Int) = ((1085102592571150095 : Nat) : Int) from rfl, h1]
  rfl
theorem iD_eq (n : Nat) (h : cD n < 18446744073709551616) : iD (n : Int) = (cD n : Int) := by
  unfold cD at h
  unfold iD
  rw [IntWalk.u64_in _ (by omega)]
  unfold cD; simp
theorem iE_eq (n : Nat) (h : cE n < 18446744073709551616) : iE (n : Int) = (cE n : Int) := by
  unfold cE at h
  unfold iE
  rw [IntWalk.u64_in _ (by omega)]
  unfold cE; simp
theorem iF_eq (n : Nat) (h : cF n < 18446744073709551616) : iF (n : Int) = (cF n : Int) := by
  unfold cF at h
  unfold iF
  rw [IntWalk.u64_in _ (by omega)]
  unfold cF; simp
theorem swar (x : Int) (hx : R x) : bits .and .i64 (RowKit.wrap64 (iF (iE (iD (iC (iB (iA x))))))) 127 = (pc x.toNat : Int) := by
  obtain ⟨n, rfl⟩ := Int.eq_ofNat_of_zero_le hx.1
  have hn : n < 18446744073709551616 := by have := hx.nat; simpa using this
  obtain ⟨b1, b2⟩ := cB_lt n
  obtain ⟨t1, t2⟩ := by_lanes n
  have c1 : cC (cB (cA n)) < 18446744073709551616 := by
    have : cC (cB (cA n)) ≤ 1085102592571150095 := Nat.and_le_right
    omega
  obtain ⟨f1, f2, f3, f4⟩ := fold8 _ c1 t2
  rw [iA_eq n hn, iB_eq _ b2 (by omega), iC_eq _ b1, iD_eq _ f2, iE_eq _ f3, iF_eq _ (by omega), IntWalk.wrap64_in _ (by omega), i64_and127]
  rw [show ((cF (cE (cD (cC (cB (cA n))))) : Int) % 128) = ((cF (cE (cD (cC (cB (cA n))))) % 128 : Nat) : Int) by simp, f1, t1]
  simp
theorem T_le : ∀ n x, T 1 n x ≤ n
  | 0, _ => Nat.le_refl _
  | n + 1, x => by
    have := T_le n (x / 2 ^ 1)
    have := Nat.mod_lt x (show 0 < 2 ^ 1 by decide)
    show x % 2 ^ 1 + T 1 n (x / 2 ^ 1) ≤ n + 1
    omega
def cn (x : Int) : Int := (pc x.toNat : Int)
theorem cn_lo (x : Int) : 0 ≤ cn x := by unfold cn; omega
theorem cn_hi (x : Int) : cn x ≤ 64 := by unfold cn pc; have := T_le 64 x.toNat; omega
/-- Bit by bit, from the lowest on. -/
def up (x : Int) : Nat → Int
  | 0 => 0
  | k + 1 => up x k + (if tb x k = true then 1 else 0)
theorem up_T : ∀ (k n : Nat), up (n : Int) k = (T 1 k n : Int) := by
  intro k
  induction k with
  | zero => intro n; rfl
  | succ k ih =>
    intro n
    have key : ∀ k (n : Nat), T 1 (k + 1) n = T 1 k n + n / 2 ^ k % 2 := by
      intro k
      induction k with
      | zero => intro n; simp [T]
      | succ k ih2 =>
        intro n
        show n % 2 ^ 1 + T 1 (k + 1) (n / 2 ^ 1) = (n % 2 ^ 1 + T 1 k (n / 2 ^ 1)) + n / 2 ^ (k + 1) % 2
        rw [ih2, Nat.div_div_eq_div_mul, ← Nat.pow_add, Nat.add_comm 1 k]
        omega
    rw [key k n]
    show up (n : Int) k + _ = _
    rw [ih n]
    have e : tb (n : Int) k = decide (n / 2 ^ k % 2 = 1) := by unfold tb; rw [Int.toNat_natCast, Nat.testBit_eq_decide_div_mod_eq]
    rw [e]
    rcases Nat.mod_two_eq_zero_or_one (n / 2 ^ k) with h | h <;> rw [h] <;> simp
theorem up_cn (x : Int) (hx : R x) : up x 64 = cn x := by
  obtain ⟨n, rfl⟩ := Int.eq_ofNat_of_zero_le hx.1
  rw [up_T]; unfold cn pc; simp
end Go.Proofs.Ytdbbacpofgjgoaa.St
