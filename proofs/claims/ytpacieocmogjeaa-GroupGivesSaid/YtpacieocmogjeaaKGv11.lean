/-
  What is wanted by the last of these texts, part 11.
  No condition.
-/
import Derived.Test.YtpacieocmogjeaaKGv6
import Derived.Test.YtpacieocmogjeaaKGv5
import Derived.IntWalk
import Derived.Laws.Bits128
import Derived.Test.YtpacieocmogjeaaKGv1
import Derived.Test.YtpacieocmogjeaaKGv0
import Derived.LoopN
import Derived.Test.YtpacieocmogjeaaRows
import Derived.Deep.Slices
namespace Go.Proofs.Ytpacieocmogjeaa.St
set_option linter.unusedVariables false
set_option linter.unusedSimpArgs false
open Go.RowKit Go.Proofs.Ytpacieocmogjeaa.Ba
set_option maxRecDepth 100000
theorem has_fact {x : Int} (hx : R x) (f : Int) (h0 : 0 ≤ f) (h1 : f < 64) : (bits .and .u64 (x / 2 ^ f.toNat) 1 == 1) = mem x f := by
  have hn := hx.nat
  have e : x / 2 ^ f.toNat = ((x.toNat / 2 ^ f.toNat : Nat) : Int) := by
    have h2 : x = (x.toNat : Int) := by unfold R at hx; omega
    conv => lhs; rw [h2]
    simp
  have hlt : x.toNat / 2 ^ f.toNat < 18446744073709551616 := Nat.lt_of_le_of_lt (Nat.div_le_self _ _) hn
  have e2 := u64_and_nat (x.toNat / 2 ^ f.toNat) 1 hlt (by omega)
  rw [nat_mask1] at e2
  have e3 : bits .and .u64 (x / 2 ^ f.toNat) 1 = ((x.toNat / 2 ^ f.toNat % 2 : Nat) : Int) := by rw [e]; exact e2
  rw [e3]
  unfold mem tb
  rw [Nat.testBit_eq_decide_div_mod_eq]
  have hd : decide (0 ≤ f ∧ f < 64) = true := by simp; omega
  rw [hd]
  rcases Nat.mod_two_eq_zero_or_one (x.toNat / 2 ^ f.toNat) with h | h
  · rw [h]; rfl
  · rw [h]; rfl
theorem hasR (x f : Int) (hx : R x) (w : World) : Calls Try.prog 50 #[.int .u64 x, .int .i64 f] w fun e w' => e = .returned (.bool (mem x f)) ∧ w = w' := by
  by_cases h : 0 ≤ f ∧ f < 64
  · obtain ⟨h0, h1⟩ := h
    have HF := Lib.hid (has_fact hx f h0 h1)
    go_enter Try.func50, Try.ntmps50
    go_wp2
    go_ret
    exact ⟨ret_bool HF.out, rfl⟩
  · have e : mem x f = false := by unfold mem; simp; intro a b; omega
    have HE := Lib.hid e
    clear e
    rcases (show f < 0 ∨ 64 ≤ f by omega) with h1 | h1
    all_goals
      clear h
      go_enter Try.func50, Try.ntmps50
      go_wp2
      go_ret
      exact ⟨ret_bool HE.out.symm, rfl⟩
theorem hallR (p u d f way : Int) (hu : R u) (hd : R d) (w : World) : Calls Try.prog 22 #[.agg #[.int .u64 p, .int .u64 u, .int .u64 d], .int .i64 f, .int .i64 way] w fun e w' => e = .returned (.bool (atB u d f way)) ∧ Since w w' := by
  go_enter Try.func22, Try.ntmps22
  go_wp2_with (first | (go_at_call 50; refine (hasR _ _ (by assumption) _).mono ?_; rintro e w' ⟨rfl, rfl⟩))
  all_goals
    go_ret
    exact ⟨ret_bool (by unfold atB; simp [*]), (by repeat (first | exact Since.refl _ | assumption | refine Since.setCell ?_ (by first | (simp; done) | (simp; omega)) _ | refine Since.drew ?_ | refine Since.drewN ?_ _ | refine Since.alloc ?_ _ | refine Since.trans ?_ (by assumption) | refine Since.trans ?_ (Hid.out (by assumption))))⟩
end Go.Proofs.Ytpacieocmogjeaa.St
namespace Go.Proofs.Ytpacieocmogjeaa.St
set_option linter.unusedVariables false
set_option linter.unusedSimpArgs false
/-- Two numbers in lanes, bit by bit. -/
theorem and_split (m a b c d : Nat) (ha : a < 2 ^ m) (hc : c < 2 ^ m) : (a + 2 ^ m * b) &&& (c + 2 ^ m * d) = (a &&& c) + 2 ^ m * (b &&& d) := by
  have hac : a &&& c < 2 ^ m := Nat.lt_of_le_of_lt Nat.and_le_left ha
  apply Nat.eq_of_testBit_eq
  intro i
  rw [Nat.testBit_and, Nat.add_comm a, Nat.add_comm c, Nat.add_comm (a &&& c), Nat.testBit_two_pow_mul_add _ ha, Nat.testBit_two_pow_mul_add _ hc, Nat.testBit_two_pow_mul_add _ hac]
  split
  · rw [Nat.testBit_and]
  · rw [Nat.testBit_and]
/-- The mask of n lanes. -/
def M (k : Nat) : Nat → Nat
  | 0 => 0
  | n + 1 => (2 ^ k - 1) + 2 ^ (2 * k) * M k n
/-- Lanes in pairs, added. -/
def S (k : Nat) : Nat → Nat → Nat
  | 0, _ => 0
  | n + 1, x => (x % 2 ^ k + x / 2 ^ k % 2 ^ k) + 2 ^ (2 * k) * S k n (x / 2 ^ (2 * k))
/-- The sum of n lanes. -/
def T (k : Nat) : Nat → Nat → Nat
  | 0, _ => 0
  | n + 1, x => x % 2 ^ k + T k n (x / 2 ^ k)
theorem mask_lt (k : Nat) : 2 ^ k - 1 < 2 ^ (2 * k) := by
  have h1 : 2 ^ k ≤ 2 ^ (2 * k) := Nat.pow_le_pow_right (by omega) (by omega)
  have h2 : 0 < 2 ^ k := Nat.pow_pos (by omega)
  omega
theorem split_at (m x : Nat) : x = x % 2 ^ m + 2 ^ m * (x / 2 ^ m) := by rw [Nat.add_comm]; exact (Nat.div_add_mod x (2 ^ m)).symm
theorem and_mask (k n x : Nat) : x &&& M k (n + 1) = x % 2 ^ k + 2 ^ (2 * k) * (x / 2 ^ (2 * k) &&& M k n) := by
  have h := and_split (2 * k) (x % 2 ^ (2 * k)) (x / 2 ^ (2 * k)) (2 ^ k - 1) (M k n) (Nat.mod_lt _ (Nat.pow_pos (by omega))) (mask_lt k)
  rw [← split_at] at h
  show x &&& ((2 ^ k - 1) + 2 ^ (2 * k) * M k n) = _
  rw [h, Nat.and_two_pow_sub_one_eq_mod, Nat.mod_mod_of_dvd _ (Nat.pow_dvd_pow 2 (by omega))]
theorem lanes (k : Nat) : ∀ n x, (x / 2 ^ k &&& M k n) + (x &&& M k n) = S k n x
  | 0, x => by simp [M, S]
  | n + 1, x => by
    rw [and_mask, and_mask]
    have h := lanes k n (x / 2 ^ (2 * k))
    have e : x / 2 ^ k / 2 ^ (2 * k) = x / 2 ^ (2 * k) / 2 ^ k := by rw [Nat.div_div_eq_div_mul, Nat.div_div_eq_div_mul, Nat.mul_comm]
    rw [e]
    show _ = (x % 2 ^ k + x / 2 ^ k % 2 ^ k) + 2 ^ (2 * k) * S k n (x / 2 ^ (2 * k))
    rw [← h, Nat.mul_add]
    omega
theorem pair_lt (k : Nat) (hk : 1 ≤ k) (x : Nat) : x % 2 ^ k + x / 2 ^ k % 2 ^ k < 2 ^ (2 * k) := by
  have h1 := Nat.mod_lt x (show 0 < 2 ^ k from Nat.pow_pos (by omega))
  have h2 := Nat.mod_lt (x / 2 ^ k) (show 0 < 2 ^ k from Nat.pow_pos (by omega))
  have h3 : 2 ^ (2 * k) = 2 ^ k * 2 ^ k := by rw [← Nat.pow_add]; congr 1; omega
  have h4 : 2 ≤ 2 ^ k := by
    have := Nat.pow_le_pow_right (n := 2) (by omega) hk
    simpa using this
  have h5 : 2 * 2 ^ k ≤ 2 ^ k * 2 ^ k := Nat.mul_le_mul_right _ h4
  omega
theorem S_mod (k : Nat) (hk : 1 ≤ k) (n x : Nat) : S k (n + 1) x % 2 ^ (2 * k) = x % 2 ^ k + x / 2 ^ k % 2 ^ k := by
  show ((x % 2 ^ k + x / 2 ^ k % 2 ^ k) + 2 ^ (2 * k) * _) % 2 ^ (2 * k) = _
  rw [Nat.add_mul_mod_self_left, Nat.mod_eq_of_lt (pair_lt k hk x)]
theorem S_div (k : Nat) (hk : 1 ≤ k) (n x : Nat) : S k (n + 1) x / 2 ^ (2 * k) = S k n (x / 2 ^ (2 * k)) := by
  show ((x % 2 ^ k + x / 2 ^ k % 2 ^ k) + 2 ^ (2 * k) * _) / 2 ^ (2 * k) = _
  rw [Nat.add_mul_div_left _ _ (Nat.pow_pos (by omega)), Nat.div_eq_of_lt (pair_lt k hk x), Nat.zero_add]
theorem T_S (k : Nat) (hk : 1 ≤ k) : ∀ n x, T (2 * k) n (S k n x) = T k (2 * n) x
  | 0, _ => rfl
  | n + 1, x => by
    show S k (n + 1) x % 2 ^ (2 * k) + T (2 * k) n (S k (n + 1) x / 2 ^ (2 * k)) = _
    rw [S_mod k hk, S_div k hk, T_S k hk n]
    show _ = T k (2 * n + 1 + 1) x
    show _ = x % 2 ^ k + (x / 2 ^ k % 2 ^ k + T k (2 * n) (x / 2 ^ k / 2 ^ k))
    rw [Nat.div_div_eq_div_mul x (2 ^ k) (2 ^ k), show 2 ^ k * 2 ^ k = 2 ^ (2 * k) by rw [← Nat.pow_add]; congr 1; omega]
    omega
/-- Each of n lanes is at most c. -/
def Le (k c : Nat) : Nat → Nat → Prop
  | 0, _ => True
  | n + 1, x => x % 2 ^ k ≤ c ∧ Le k c n (x / 2 ^ k)
theorem Le_S (k c : Nat) (hk : 1 ≤ k) : ∀ n x, Le k c (2 * n) x → Le (2 * k) (c + c) n (S k n x)
  | 0, _, _ => trivial
  | n + 1, x, h => by
    have h' : x % 2 ^ k ≤ c ∧ x / 2 ^ k % 2 ^ k ≤ c ∧ Le k c (2 * n) (x / 2 ^ k / 2 ^ k) := h
    obtain ⟨h1, h2, h3⟩ := h'
    refine ⟨?_, ?_⟩
    · rw [S_mod k hk]; omega
    · rw [S_div k hk]
      rw [Nat.div_div_eq_div_mul, show 2 ^ k * 2 ^ k = 2 ^ (2 * k) by rw [← Nat.pow_add]; congr 1; omega] at h3
      exact Le_S k c hk n _ h3
theorem Le_1 : ∀ n x, Le 1 1 n x
  | 0, _ => trivial
  | n + 1, x => ⟨by have := Nat.mod_lt x (show 0 < 2 by omega); simp; omega, Le_1 n _⟩
theorem nibbles (x : Nat) (h1 : x % 16 ≤ 7) (h2 : x / 16 % 16 ≤ 7) (h4 : x / 256 % 16 ≤ 7) : (x / 16 + x) % 2 ^ 4 = x % 2 ^ 4 + x / 2 ^ 4 % 2 ^ 4 ∧ (x / 16 + x) / 2 ^ (2 * 4) = x / 2 ^ (2 * 4) / 16 + x / 2 ^ (2 * 4) := by
  obtain ⟨l0, hl0⟩ : ∃ l, l = x % 16 := ⟨_, rfl⟩
  obtain ⟨l1, hl1⟩ : ∃ l, l = x / 16 % 16 := ⟨_, rfl⟩
  obtain ⟨y, hy⟩ : ∃ l, l = x / 256 := ⟨_, rfl⟩
  obtain ⟨z, hz⟩ : ∃ l, l = y / 16 := ⟨_, rfl⟩
  obtain ⟨r, hr⟩ : ∃ l, l = y % 16 := ⟨_, rfl⟩
  have hx : x = l0 + 16 * l1 + 256 * y := by omega
  have hq : x / 16 = l1 + 16 * y := by omega
  have hyz : y = r + 16 * z := by omega
  have a1 : l0 ≤ 7 := by omega
  have a2 : l1 ≤ 7 := by omega
  have a3 : r ≤ 7 := by rw [hr, hy]; exact h4
  have hs : x / 16 + x = (l0 + l1) + 16 * (l1 + r) + 256 * (z + y) := by rw [hq, hx]; omega
  simp only [Nat.reducePow, Nat.reduceMul]
  rw [hs, ← hy, ← hz, ← hl0, ← hl1]
  clear hs hx hq hyz hl0 hl1 hy hz hr h1 h2 h4
  constructor <;> omega
/-- The third step: added first, masked then. -/
theorem lanes4 : ∀ n x, Le 4 7 (2 * n + 1) x → ((x / 16 + x) &&& M 4 n) = S 4 n x
  | 0, x, _ => by simp [M, S]
  | n + 1, x, h => by
    have h' : x % 2 ^ 4 ≤ 7 ∧ x / 2 ^ 4 % 2 ^ 4 ≤ 7 ∧ Le 4 7 (2 * n + 1) (x / 2 ^ 4 / 2 ^ 4) := h
    obtain ⟨h1, h2, h3⟩ := h'
    have h4 : x / 2 ^ 4 / 2 ^ 4 % 2 ^ 4 ≤ 7 := h3.1
    have ih := lanes4 n (x / 2 ^ (2 * 4)) (by rw [Nat.div_div_eq_div_mul] at h3; exact h3)
    rw [and_mask]
    show _ = (x % 2 ^ 4 + x / 2 ^ 4 % 2 ^ 4) + 2 ^ (2 * 4) * S 4 n (x / 2 ^ (2 * 4))
    rw [← ih]
    obtain ⟨e1, e2⟩ := nibbles x (by simpa using h1) (by simpa using h2) (by rw [Nat.div_div_eq_div_mul] at h4; simpa using h4)
    rw [e1, e2]
theorem M0 : M 1 32 = 6148914691236517205 := by decide
theorem M1 : M 2 16 = 3689348814741910323 := by decide
theorem M2 : M 4 8 = 1085102592571150095 := by decide
/-- How many bits. -/
def pc (n : Nat) : Nat := T 1 64 n
/-- The count, lane by lane. -/
def cA (n : Nat) : Nat := (n / 2 &&& 6148914691236517205) + (n &&& 6148914691236517205)
def cB (n : Nat) : Nat := (n / 4 &&& 3689348814741910323) + (n &&& 3689348814741910323)
def cC (n : Nat) : Nat := (n / 16 + n) &&& 1085102592571150095
theorem Le_more (k c d : Nat) (h : c ≤ d) : ∀ n x, Le k c n x → Le k d n x
  | 0, _, _ => trivial
  | n + 1, _, hh => ⟨Nat.le_trans hh.1 h, Le_more k c d h n _ hh.2⟩
theorem Le_snoc (k c : Nat) : ∀ n x, Le k c n x → x / 2 ^ (k * n) = 0 → Le k c (n + 1) x
  | 0, x, _, h => ⟨by
      have : x = 0 := by simpa using h
      subst this; simp, trivial⟩
  | n + 1, x, hh, h => ⟨hh.1, Le_snoc k c n _ hh.2 (by
      rw [Nat.div_div_eq_div_mul, ← Nat.pow_add, show k + k * n = k * (n + 1) by rw [Nat.mul_succ]; omega]; exact h)⟩
theorem S_lt (k : Nat) (hk : 1 ≤ k) : ∀ n x, S k n x < 2 ^ (2 * k * n)
  | 0, _ => by simp [S]
  | n + 1, x => by
    have h1 := pair_lt k hk x
    have h2 := S_lt k hk n (x / 2 ^ (2 * k))
    show (x % 2 ^ k + x / 2 ^ k % 2 ^ k) + 2 ^ (2 * k) * S k n (x / 2 ^ (2 * k)) < _
    rw [show 2 * k * (n + 1) = 2 * k + 2 * k * n by rw [Nat.mul_succ]; omega, Nat.pow_add]
    have h3 : 2 ^ (2 * k) * (S k n (x / 2 ^ (2 * k)) + 1) ≤ 2 ^ (2 * k) * 2 ^ (2 * k * n) := Nat.mul_le_mul_left _ h2
    rw [Nat.mul_add] at h3
    omega
theorem by_lanes (n : Nat) : T 8 8 (cC (cB (cA n))) = pc n ∧ Le 8 8 8 (cC (cB (cA n))) := by
  have a : cA n = S 1 32 n := by unfold cA; rw [← M0]; exact lanes 1 32 n
  have b : cB (cA n) = S 2 16 (S 1 32 n) := by rw [a]; unfold cB; rw [← M1]; exact lanes 2 16 _
  have l1 : Le 2 2 32 (S 1 32 n) := Le_S 1 1 (by omega) 32 n (Le_1 64 n)
  have l2 : Le 4 4 16 (S 2 16 (S 1 32 n)) := Le_S 2 2 (by omega) 16 _ l1
  have l3 : Le 4 7 17 (S 2 16 (S 1 32 n)) := Le_snoc 4 7 16 _ (Le_more 4 4 7 (by omega) 16 _ l2) (Nat.div_eq_of_lt (S_lt 2 (by omega) 16 _))
  have c : cC (cB (cA n)) = S 4 8 (S 2 16 (S 1 32 n)) := by rw [b]; unfold cC; rw [← M2]; exact lanes4 8 _ l3
  rw [c]
  refine ⟨?_, Le_S 4 4 (by omega) 8 _ l2⟩
  unfold pc
  rw [T_S 4 (by omega) 8, T_S 2 (by omega) 16, T_S 1 (by omega) 32]
/-- Eight lanes, added into one. -/
def cD (c : Nat) : Nat := c + c / 256
def cE (c : Nat) : Nat := c + c / 65536
def cF (c : Nat) : Nat := c + c / 4294967296
/-- Lanes of eight bits. -/
def D : List Nat → Nat
  | [] => 0
  | c :: l => c + 256 * D l
def addl : List Nat → List Nat → List Nat
  | [], m => m
  | l, [] => l
  | a :: l, b :: m => (a + b) :: addl l m
theorem D_add : ∀ l m, D l + D m = D (addl l m)
  | [], m => by simp [D, addl]
  | a :: l, [] => by simp [D, addl]
  | a :: l, b :: m => by
    have := D_add l m
    show (a + 256 * D l) + (b + 256 * D m) = (a + b) + 256 * D (addl l m)
    omega
theorem D_div (c : Nat) (l : List Nat) (h : c < 256) : D (c :: l) / 256 = D l := by
  show (c + 256 * D l) / 256 = D l
  rw [Nat.add_mul_div_left _ _ (by omega), Nat.div_eq_of_lt h, Nat.zero_add]
theorem D_mod (c : Nat) (l : List Nat) (h : c < 128) : D (c :: l) % 128 = c := by
  show (c + 256 * D l) % 128 = c
  omega
theorem D_lt : ∀ (l : List Nat), (∀ c ∈ l, c ≤ 127) → 2 * D l < 256 ^ l.length
  | [], _ => by simp [D]
  | c :: l, h => by
    have h1 := D_lt l fun x hx => h x (by simp [hx])
    have h2 := h c (by simp)
    show 2 * (c + 256 * D l) < 256 ^ (l.length + 1)
    rw [Nat.pow_succ]
    omega
def dig : Nat → Nat → List Nat
  | 0, _ => []
  | n + 1, c => c % 256 :: dig n (c / 256)
theorem dig_D : ∀ n c, c < 256 ^ n → D (dig n c) = c
  | 0, c, h => by
    have : c = 0 := by simpa using h
    subst this; rfl
  | n + 1, c, h => by
    have h1 := dig_D n (c / 256) (by rw [Nat.pow_succ] at h; omega)
    show c % 256 + 256 * D (dig n (c / 256)) = c
    rw [h1]; omega
theorem dig_T : ∀ n c, T 8 n c = (dig n c).sum
  | 0, _ => rfl
  | n + 1, c => by
    show c % 2 ^ 8 + T 8 n (c / 2 ^ 8) = _
    rw [dig_T n]
    simp [dig]
theorem dig_le : ∀ n c, Le 8 8 n c → ∀ x ∈ dig n c, x ≤ 8
  | 0, _, _ => by simp [dig]
  | n + 1, c, h => by
    have h1 := dig_le n _ h.2
    intro x hx
    rcases List.mem_cons.1 hx with rfl | hx
    · exact h.1
    · exact h1 x hx
theorem fold8 (c : Nat) (hc : c < 18446744073709551616) (h : Le 8 8 8 c) : cF (cE (cD c)) % 128 = T 8 8 c ∧ cD c < 18446744073709551616 ∧ cE (cD c) < 18446744073709551616 ∧ cF (cE (cD c)) < 9223372036854775808 := by
  have hD := dig_D 8 c (by simpa using hc)
  have hT := dig_T 8 c
  have hL := dig_le 8 c h
  have hp : (256 : Nat) ^ 8 = 18446744073709551616 := by decide
  obtain ⟨c0, c1, c2, c3, c4, c5, c6, c7, hd⟩ : ∃ c0 c1 c2 c3 c4 c5 c6 c7, dig 8 c = [c0, c1, c2, c3, c4, c5, c6, c7] := ⟨_, _, _, _, _, _, _, _, rfl⟩
  rw [hd] at hD hT hL
  clear hd h
  have h0 := hL c0 (by simp)
  have h1 := hL c1 (by simp)
  have h2 := hL c2 (by simp)
  have h3 := hL c3 (by simp)
  have h4 := hL c4 (by simp)
  have h5 := hL c5 (by simp)
  have h6 := hL c6 (by simp)
  have h7 := hL c7 (by simp)
  clear hL
  have d1 : cD c = D [c0 + c1, c1 + c2, c2 + c3, c3 + c4, c4 + c5, c5 + c6, c6 + c7, c7] := by
    unfold cD
    rw [← hD, D_div _ _ (by omega), D_add]; rfl
  have e1 : cE (cD c) = D [c0 + c1 + (c2 + c3), c1 + c2 + (c3 + c4), c2 + c3 + (c4 + c5), c3 + c4 + (c5 + c6), c4 + c5 + (c6 + c7), c5 + c6 + c7, c6 + c7, c7] := by
    rw [d1]
    unfold cE
    rw [show ∀ n : Nat, n / 65536 = n / 256 / 256 by intro n; rw [Nat.div_div_eq_div_mul], D_div _ _ (by omega), D_div _ _ (by omega), D_add]; rfl
  have f1 : cF (cE (cD c)) = D [c0 + c1 + (c2 + c3) + (c4 + c5 + (c6 + c7)), c1 + c2 + (c3 + c4) + (c5 + c6 + c7), c2 + c3 + (c4 + c5) + (c6 + c7), c3 + c4 + (c5 + c6) + c7, c4 + c5 + (c6 + c7), c5 + c6 + c7, c6 + c7, c7] := by
    rw [e1]
    unfold cF
    rw [show ∀ n : Nat, n / 4294967296 = n / 256 / 256 / 256 / 256 by intro n; rw [Nat.div_div_eq_div_mul, Nat.div_div_eq_div_mul, Nat.div_div_eq_div_mul], D_div _ _ (by omega), D_div _ _ (by omega), D_div _ _ (by omega), D_div _ _ (by omega), D_add]; rfl
  have b1 := D_lt [c0 + c1, c1 + c2, c2 + c3, c3 + c4, c4 + c5, c5 + c6, c6 + c7, c7] (by intro x hx; simp at hx; omega)
  have b2 := D_lt [c0 + c1 + (c2 + c3), c1 + c2 + (c3 + c4), c2 + c3 + (c4 + c5), c3 + c4 + (c5 + c6), c4 + c5 + (c6 + c7), c5 + c6 + c7, c6 + c7, c7] (by intro x hx; simp at hx; omega)
  have b3 := D_lt [c0 + c1 + (c2 + c3) + (c4 + c5 + (c6 + c7)), c1 + c2 + (c3 + c4) + (c5 + c6 + c7), c2 + c3 + (c4 + c5) + (c6 + c7), c3 + c4 + (c5 + c6) + c7, c4 + c5 + (c6 + c7), c5 + c6 + c7, c6 + c7, c7] (by intro x hx; simp at hx; omega)
  simp only [List.length_cons, List.length_nil, Nat.zero_add, Nat.reduceAdd, hp] at b1 b2 b3
  refine ⟨?_, ?_, ?_, ?_⟩
  · rw [f1, D_mod _ _ (by omega), hT]; simp; omega
  · rw [d1]; omega
  · rw [e1]; omega
  · rw [f1]; omega
theorem Le_bd : ∀ n y, Le 4 4 n y → y < 16 ^ n → 15 * y ≤ 4 * (16 ^ n - 1)
  | 0, y, _, h => by have : y = 0 := by simpa using h
                     subst this; simp
  | n + 1, y, h, hy => by
    have h1 := Le_bd n (y / 2 ^ 4) h.2 (by rw [Nat.pow_succ] at hy; omega)
    have h2 := h.1
    have h3 : 0 < 16 ^ n := Nat.pow_pos (by omega)
    rw [Nat.pow_succ]
    simp only [Nat.reducePow] at h1 h2
    omega
theorem cB_lt (n : Nat) : cB (cA n) < 8000000000000000000 ∧ cA n < 18446744073709551616 := by
  have a : cA n = S 1 32 n := by unfold cA; rw [← M0]; exact lanes 1 32 n
  have b : cB (cA n) = S 2 16 (S 1 32 n) := by rw [a]; unfold cB; rw [← M1]; exact lanes 2 16 _
  have l1 : Le 2 2 32 (S 1 32 n) := Le_S 1 1 (by omega) 32 n (Le_1 64 n)
  have l2 : Le 4 4 16 (S 2 16 (S 1 32 n)) := Le_S 2 2 (by omega) 16 _ l1
  have h1 := Le_bd 16 _ l2 (by have := S_lt 2 (by omega) 16 (S 1 32 n); simpa using this)
  have h2 := S_lt 1 (by omega) 32 n
  have h3 : (16 : Nat) ^ 16 = 18446744073709551616 := by decide
  have h4 : (2 : Nat) ^ (2 * 1 * 32) = 18446744073709551616 := by decide
  rw [h3] at h1
  rw [h4] at h2
  rw [b, a]
  omega
/-- The steps of math/bits, on numbers as they are written. -/
def iA (x : Int) : Int := IntKind.u64.wrap (bits .and .u64 (x / 2) 6148914691236517205 + bits .and .u64 x 6148914691236517205)
def iB (y : Int) : Int := IntKind.u64.wrap (bits .and .u64 (y / 4) 3689348814741910323 + bits .and .u64 y 3689348814741910323)
def iC (y : Int) : Int := bits .and .u64 (IntKind.u64.wrap (y / 16 + y)) 1085102592571150095
def iD (y : Int) : Int := IntKind.u64.wrap (y + y / 256)
def iE (y : Int) : Int := IntKind.u64.wrap (y + y / 65536)
def iF (y : Int) : Int := IntKind.u64.wrap (y + y / 4294967296)
theorem div_cast (n k : Nat) : ((n : Int) / (k : Int)) = ((n / k : Nat) : Int) := by simp
theorem iA_eq (n : Nat) (h : n < 18446744073709551616) : iA (n : Int) = (cA n : Int) := by
  have h1 := u64_and_nat (n / 2) 6148914691236517205 (by omega) (by omega)
  have h2 := u64_and_nat n 6148914691236517205 h (by omega)
  have h3 := (cB_lt n).2
  unfold iA
  rw [show ((n : Int) / 2) = ((n / 2 : Nat) : Int) from div_cast n 2, show (6148914691236517205 : Int) = ((6148914691236517205 : Nat) : Int) from rfl, h1, h2, IntWalk.u64_in _ (by unfold cA at h3; omega)]
  unfold cA; simp
theorem iB_eq (n : Nat) (h : n < 18446744073709551616) (hb : cB n < 18446744073709551616) : iB (n : Int) = (cB n : Int) := by
  have h1 := u64_and_nat (n / 4) 3689348814741910323 (by omega) (by omega)
  have h2 := u64_and_nat n 3689348814741910323 h (by omega)
  unfold iB
  rw [show ((n : Int) / 4) = ((n / 4 : Nat) : Int) from div_cast n 4, show (3689348814741910323 : Int) = ((3689348814741910323 : Nat) : Int) from rfl, h1, h2, IntWalk.u64_in _ (by unfold cB at hb; omega)]
  unfold cB; simp
theorem iC_eq (n : Nat) (h : n < 8000000000000000000) : iC (n : Int) = (cC n : Int) := by
  have h1 := u64_and_nat (n / 16 + n) 1085102592571150095 (by omega) (by omega)
  unfold iC
  rw [IntWalk.u64_in _ (by omega), show ((n : Int) / 16 + (n : Int)) = ((n / 16 + n : Nat) : Int) by simp, show (1085102592571150095 : Int) = ((1085102592571150095 : Nat) : Int) from rfl, h1]
  rfl
theorem iD_eq (n : Nat) (h : cD n < 18446744073709551616) : iD (n : Int) = (cD n : Int) := by
  unfold cD at h
  unfold iD
  rw [IntWalk.u64_in _ (by omega)]
  unfold cD; simp
theorem iE_eq (n : Nat) (h : cE n < 18446744073709551616) : iE (n : Int) = (cE n : Int) := by
  unfold cE at h
  unfold iE
  rw [IntWalk.u64_in _ (by omega)]
  unfold cE; simp
theorem iF_eq (n : Nat) (h : cF n < 18446744073709551616) : iF (n : Int) = (cF n : Int) := by
  unfold cF at h
  unfold iF
  rw [IntWalk.u64_in _ (by omega)]
  unfold cF; simp
theorem swar (x : Int) (hx : R x) : bits .and .i64 (RowKit.wrap64 (iF (iE (iD (iC (iB (iA x))))))) 127 = (pc x.toNat : Int) := by
  obtain ⟨n, rfl⟩ := Int.eq_ofNat_of_zero_le hx.1
  have hn : n < 18446744073709551616 := by have := hx.nat; simpa using this
  obtain ⟨b1, b2⟩ := cB_lt n
  obtain ⟨t1, t2⟩ := by_lanes n
  have c1 : cC (cB (cA n)) < 18446744073709551616 := by
    have : cC (cB (cA n)) ≤ 1085102592571150095 := Nat.and_le_right
    omega
  obtain ⟨f1, f2, f3, f4⟩ := fold8 _ c1 t2
  rw [iA_eq n hn, iB_eq _ b2 (by omega), iC_eq _ b1, iD_eq _ f2, iE_eq _ f3, iF_eq _ (by omega), IntWalk.wrap64_in _ (by omega), i64_and127]
  rw [show ((cF (cE (cD (cC (cB (cA n))))) : Int) % 128) = ((cF (cE (cD (cC (cB (cA n))))) % 128 : Nat) : Int) by simp, f1, t1]
  simp
theorem T_le : ∀ n x, T 1 n x ≤ n
  | 0, _ => Nat.le_refl _
  | n + 1, x => by
    have := T_le n (x / 2 ^ 1)
    have := Nat.mod_lt x (show 0 < 2 ^ 1 by decide)
    show x % 2 ^ 1 + T 1 n (x / 2 ^ 1) ≤ n + 1
    omega
def cn (x : Int) : Int := (pc x.toNat : Int)
theorem cn_lo (x : Int) : 0 ≤ cn x := by unfold cn; omega
theorem cn_hi (x : Int) : cn x ≤ 64 := by unfold cn pc; have := T_le 64 x.toNat; omega
/-- Bit by bit, from the lowest on. -/
def up (x : Int) : Nat → Int
  | 0 => 0
  | k + 1 => up x k + (if tb x k = true then 1 else 0)
theorem up_T : ∀ (k n : Nat), up (n : Int) k = (T 1 k n : Int) := by
  intro k
  induction k with
  | zero => intro n; rfl
  | succ k ih =>
    intro n
    have key : ∀ k (n : Nat), T 1 (k + 1) n = T 1 k n + n / 2 ^ k % 2 := by
      intro k
      induction k with
      | zero => intro n; simp [T]
      | succ k ih2 =>
        intro n
        show n % 2 ^ 1 + T 1 (k + 1) (n / 2 ^ 1) = (n % 2 ^ 1 + T 1 k (n / 2 ^ 1)) + n / 2 ^ (k + 1) % 2
        rw [ih2, Nat.div_div_eq_div_mul, ← Nat.pow_add, Nat.add_comm 1 k]
        omega
    rw [key k n]
    show up (n : Int) k + _ = _
    rw [ih n]
    have e : tb (n : Int) k = decide (n / 2 ^ k % 2 = 1) := by unfold tb; rw [Int.toNat_natCast, Nat.testBit_eq_decide_div_mod_eq]
    rw [e]
    rcases Nat.mod_two_eq_zero_or_one (n / 2 ^ k) with h | h <;> rw [h] <;> simp
theorem up_cn (x : Int) (hx : R x) : up x 64 = cn x := by
  obtain ⟨n, rfl⟩ := Int.eq_ofNat_of_zero_le hx.1
  rw [up_T]; unfold cn pc; simp
end Go.Proofs.Ytpacieocmogjeaa.St
namespace Go.Proofs.Ytpacieocmogjeaa.St
set_option linter.unusedVariables false
set_option linter.unusedSimpArgs false
open Go.RowKit Go.Proofs.Ytpacieocmogjeaa.Ba
set_option maxRecDepth 100000
theorem onesT (x : Int) (hx : R x) (w : World) : Calls Try.prog 53 #[.int .u64 x] w fun e w' => e = .returned (.int .i64 (cn x)) ∧ w = w' := by
  have HS := Lib.hid (swar x hx)
  have hx0 := hx.1
  clear hx
  go_enter Try.func53, Try.ntmps53
  go_wp2
  go_ret
  exact ⟨ret_int HS.out, rfl⟩
theorem countT (p u d : Int) (hp : R p) (hu : R u) (hd : R d) (w : World) : Calls Try.prog 28 #[.agg #[.int .u64 p, .int .u64 u, .int .u64 d]] w fun e w' => e = .returned (.int .i64 (cn p + cn u + cn d)) ∧ Since w w' := by
  have a1 := cn_lo p
  have a2 := cn_hi p
  have a3 := cn_lo u
  have a4 := cn_hi u
  have a5 := cn_lo d
  have a6 := cn_hi d
  go_enter Try.func28, Try.ntmps28
  go_wp2_with fail
  go_quiet ((go_at_call 53; exact quiet_eq (onesT _ (by assumption) _)))
  go_wp2
  go_ret
  exact ⟨rfl, (by repeat (first | exact Since.refl _ | assumption | refine Since.setCell ?_ (by first | (simp; done) | (simp; omega)) _ | refine Since.drew ?_ | refine Since.drewN ?_ _ | refine Since.alloc ?_ _ | refine Since.trans ?_ (by assumption) | refine Since.trans ?_ (Hid.out (by assumption))))⟩
end Go.Proofs.Ytpacieocmogjeaa.St
namespace Go.Proofs.Ytpacieocmogjeaa.Et
set_option linter.unusedVariables false
set_option linter.unusedSimpArgs false
open Go.RowKit Go.Proofs.Ytpacieocmogjeaa.Ba Go.Proofs.Ytpacieocmogjeaa.Mo Go.Proofs.Ytpacieocmogjeaa.Ty Go.Proofs.Ytpacieocmogjeaa.Mem Go.Proofs.Ytpacieocmogjeaa.St
open Go.Proofs.Ytpacieocmogjeaa.Do (hd hd_lo hd_hi spanR)
set_option maxRecDepth 100000
theorem wr (x : Int) (h0 : -9223372036854775808 ≤ x) (h1 : x ≤ 9223372036854775807) : IntKind.i64.wrap x = x := by
  simp only [IntKind.wrap, IntKind.bits, IntKind.signed]; simp; omega
theorem spanT (n : Int) (w : World) : Calls Try.prog 26 #[.int .i64 n] w fun e w' => e = .returned (.int .i64 (hd n)) ∧ w = w' := by
  by_cases h0 : n < 1
  · go_enter Try.func26, Try.ntmps26
    go_wp2
    go_ret
    exact ⟨ret_int (by unfold hd; repeat' split <;> omega), rfl⟩
  · by_cases h1 : 1000 < n
    · go_enter Try.func26, Try.ntmps26
      go_wp2
      go_ret
      exact ⟨ret_int (by unfold hd; repeat' split <;> omega), rfl⟩
    · go_enter Try.func26, Try.ntmps26
      go_wp2
      go_ret
      exact ⟨ret_int (by unfold hd; repeat' split <;> omega), rfl⟩
def behB (wy t : Int) : Bool := decide ((wy = 1 ∧ t = 2) ∨ (wy = 2 ∧ t = 1))
theorem behindT (x : CarV) (f : Int) (h0 : -1099511627776 ≤ f) (h1 : f ≤ 1099511627776) (w : World) : Calls Try.prog 54 #[.agg #[.int .i64 x.ds, .int .i64 x.da, .int .i64 x.un, .int .i64 x.wy, .int .i64 x.ti, .int .i64 x.ju, .int .i64 x.lo, .bool x.bl, .bool x.br, .int .i64 x.mo, .int .i64 x.ta, .bool x.ho, .int .u64 x.sp, .int .u64 x.su, .int .u64 x.sd], .int .i64 f] w fun e w' => e = .returned (.bool (behB x.wy (tw x.un f))) ∧ Since w w' := by
  obtain ⟨ds, da, un, wy, ti, ju, lo, bl, br, mo, ta, ho, sp, su, sd⟩ := x
  have HT := Lib.hid (towardT un f h0 h1)
  clear h0 h1
  generalize htw : tw un f = t at HT
  clear htw
  by_cases h1 : wy = 1
  · subst h1
    by_cases h2 : t = 2
    · subst h2
      have HB := Lib.hid (show behB 1 2 = true by decide)
      go_enter Try.func54, Try.ntmps54
      go_wp2_with fail
      refine (HT.out _).mono ?_
      rintro e w' ⟨rfl, rfl⟩
      go_wp2
      go_ret
      exact ⟨ret_bool HB.out.symm, (by repeat (first | exact Since.refl _ | assumption | refine Since.setCell ?_ (by first | (simp; done) | (simp; omega)) _ | refine Since.drew ?_ | refine Since.drewN ?_ _ | refine Since.alloc ?_ _ | refine Since.trans ?_ (by assumption) | refine Since.trans ?_ (Hid.out (by assumption))))⟩
    · have k2 : (t == 2) = false := by simpa using h2
      have HB := Lib.hid (show behB 1 t = false by unfold behB; simp [h2])
      clear h2
      go_enter Try.func54, Try.ntmps54
      go_wp2_with fail
      refine (HT.out _).mono ?_
      rintro e w' ⟨rfl, rfl⟩
      go_wp2
      go_ret
      exact ⟨ret_bool HB.out.symm, (by repeat (first | exact Since.refl _ | assumption | refine Since.setCell ?_ (by first | (simp; done) | (simp; omega)) _ | refine Since.drew ?_ | refine Since.drewN ?_ _ | refine Since.alloc ?_ _ | refine Since.trans ?_ (by assumption) | refine Since.trans ?_ (Hid.out (by assumption))))⟩
  · have k1 : (wy == 1) = false := by simpa using h1
    by_cases h2 : wy = 2
    · subst h2
      have HB := Lib.hid (show behB 2 t = (t == 1) by unfold behB; rw [Bool.eq_iff_iff]; simp)
      clear h1
      go_enter Try.func54, Try.ntmps54
      go_wp2_with fail
      refine (HT.out _).mono ?_
      rintro e w' ⟨rfl, rfl⟩
      go_wp2
      go_ret
      exact ⟨ret_bool HB.out.symm, (by repeat (first | exact Since.refl _ | assumption | refine Since.setCell ?_ (by first | (simp; done) | (simp; omega)) _ | refine Since.drew ?_ | refine Since.drewN ?_ _ | refine Since.alloc ?_ _ | refine Since.trans ?_ (by assumption) | refine Since.trans ?_ (Hid.out (by assumption))))⟩
    · have k2 : (wy == 2) = false := by simpa using h2
      have HB := Lib.hid (show behB wy t = false by unfold behB; simp [h1, h2])
      clear h1 h2
      go_enter Try.func54, Try.ntmps54
      go_wp2_with fail
      refine (HT.out _).mono ?_
      rintro e w' ⟨rfl, rfl⟩
      go_wp2
      go_ret
      exact ⟨ret_bool HB.out.symm, (by repeat (first | exact Since.refl _ | assumption | refine Since.setCell ?_ (by first | (simp; done) | (simp; omega)) _ | refine Since.drew ?_ | refine Since.drewN ?_ _ | refine Since.alloc ?_ _ | refine Since.trans ?_ (by assumption) | refine Since.trans ?_ (Hid.out (by assumption))))⟩
def onB (wy cw t : Int) : Bool := decide (wy = 0 ∨ (wy = cw ∧ behB wy t = false))
theorem onT (x : CarV) (f cw : Int) (h0 : -1099511627776 ≤ f) (h1 : f ≤ 1099511627776) (w : World) : Calls Try.prog 29 #[.agg #[.int .i64 x.ds, .int .i64 x.da, .int .i64 x.un, .int .i64 x.wy, .int .i64 x.ti, .int .i64 x.ju, .int .i64 x.lo, .bool x.bl, .bool x.br, .int .i64 x.mo, .int .i64 x.ta, .bool x.ho, .int .u64 x.sp, .int .u64 x.su, .int .u64 x.sd], .agg #[.int .i64 f, .int .i64 cw]] w fun e w' => e = .returned (.bool (onB x.wy cw (tw x.un f))) ∧ Since w w' := by
  obtain ⟨ds, da, un, wy, ti, ju, lo, bl, br, mo, ta, ho, sp, su, sd⟩ := x
  have HH := Lib.hid (fun w => behindT ⟨ds, da, un, wy, ti, ju, lo, bl, br, mo, ta, ho, sp, su, sd⟩ f h0 h1 w)
  clear h0 h1
  by_cases g0 : wy = 0
  · have k0 : (wy == 0) = true := by simpa using g0
    have HB := Lib.hid (show onB wy cw (tw un f) = true by unfold onB; simp [g0])
    clear g0
    go_enter Try.func29, Try.ntmps29
    go_wp2
    go_ret
    exact ⟨ret_bool HB.out.symm, (by repeat (first | exact Since.refl _ | assumption | refine Since.setCell ?_ (by first | (simp; done) | (simp; omega)) _ | refine Since.drew ?_ | refine Since.drewN ?_ _ | refine Since.alloc ?_ _ | refine Since.trans ?_ (by assumption) | refine Since.trans ?_ (Hid.out (by assumption))))⟩
  · have k0 : (wy == 0) = false := by simpa using g0
    by_cases g1 : wy = cw
    · subst g1
      have HB := Lib.hid (show onB wy wy (tw un f) = !behB wy (tw un f) by unfold onB; rw [Bool.eq_iff_iff]; simp [g0])
      clear g0
      go_enter Try.func29, Try.ntmps29
      go_wp2_with fail
      refine (HH.out _).mono ?_
      rintro e w1 ⟨rfl, hb1⟩
      go_wp2
      go_ret
      exact ⟨ret_bool HB.out.symm, (by repeat (first | exact Since.refl _ | assumption | refine Since.setCell ?_ (by first | (simp; done) | (simp; omega)) _ | refine Since.drew ?_ | refine Since.drewN ?_ _ | refine Since.alloc ?_ _ | refine Since.trans ?_ (by assumption) | refine Since.trans ?_ (Hid.out (by assumption))))⟩
    · have k1 : (wy == cw) = false := by simpa using g1
      have HB := Lib.hid (show onB wy cw (tw un f) = false by unfold onB; simp [g0, g1])
      clear g0 g1
      go_enter Try.func29, Try.ntmps29
      go_wp2
      go_ret
      exact ⟨ret_bool HB.out.symm, (by repeat (first | exact Since.refl _ | assumption | refine Since.setCell ?_ (by first | (simp; done) | (simp; omega)) _ | refine Since.drew ?_ | refine Since.drewN ?_ _ | refine Since.alloc ?_ _ | refine Since.trans ?_ (by assumption) | refine Since.trans ?_ (Hid.out (by assumption))))⟩
def wiB (un wy f cw : Int) : Bool := decide (0 ≤ un ∧ un ≤ 252 ∧ 0 ≤ f ∧ f ≤ 63 ∧ 0 ≤ wy ∧ wy ≤ 2 ∧ 1 ≤ cw ∧ cw ≤ 2)
theorem wiB_iff (un wy f cw : Int) : wiB un wy f cw = true ↔ (0 ≤ un ∧ un ≤ 252 ∧ 0 ≤ f ∧ f ≤ 63 ∧ 0 ≤ wy ∧ wy ≤ 2 ∧ 1 ≤ cw ∧ cw ≤ 2) := by unfold wiB; simp
end Go.Proofs.Ytpacieocmogjeaa.Et
namespace Go.Proofs.Ytpacieocmogjeaa.Et
set_option linter.unusedVariables false
set_option linter.unusedSimpArgs false
open Go.RowKit Go.Proofs.Ytpacieocmogjeaa.Ba Go.Proofs.Ytpacieocmogjeaa.Mo Go.Proofs.Ytpacieocmogjeaa.Ty Go.Proofs.Ytpacieocmogjeaa.Mem Go.Proofs.Ytpacieocmogjeaa.St
open Go.Proofs.Ytpacieocmogjeaa.Do (hd hd_lo hd_hi spanR)
set_option maxRecDepth 100000
def stV (c : CfgV) : Int := 2 * hd c.dr + hd c.dw
def baV (c : CfgV) (x : CarV) (f : Int) : Int := fr x.un f + (cn x.sp + cn x.su + cn x.sd) * stV c
def coV (c : CfgV) (x : CarV) (f cw : Int) : Int := if onB x.wy cw (tw x.un f) = true then baV c x f else baV c x f + 8 * (fl c.fl - 1)
theorem mul_bd (a b A B : Int) (h0 : 0 ≤ a) (h1 : a ≤ A) (k0 : 0 ≤ b) (k1 : b ≤ B) : 0 ≤ a * b ∧ a * b ≤ A * B :=
  ⟨Int.mul_nonneg h0 k0, Int.mul_le_mul h1 k1 k0 (by omega)⟩
theorem st_bd (c : CfgV) : 0 ≤ stV c ∧ stV c ≤ 3000 := by have := hd_lo c.dr; have := hd_hi c.dr; have := hd_lo c.dw; have := hd_hi c.dw; unfold stV; omega
theorem on_bd (x : CarV) : 0 ≤ cn x.sp + cn x.su + cn x.sd ∧ cn x.sp + cn x.su + cn x.sd ≤ 192 := by have := cn_lo x.sp; have := cn_lo x.su; have := cn_lo x.sd; have := cn_hi x.sp; have := cn_hi x.su; have := cn_hi x.sd; omega
theorem fr_bd (u f : Int) (h0 : 0 ≤ u) (h1 : u ≤ 252) (g0 : 0 ≤ f) (g1 : f ≤ 63) : 0 ≤ fr u f ∧ fr u f ≤ 252 := by unfold fr; split <;> omega
theorem ba_bd (c : CfgV) (x : CarV) (f : Int) (h0 : 0 ≤ x.un) (h1 : x.un ≤ 252) (g0 : 0 ≤ f) (g1 : f ≤ 63) : 0 ≤ baV c x f ∧ baV c x f ≤ 600000 := by
  have a := fr_bd x.un f h0 h1 g0 g1
  have b := on_bd x
  have d := st_bd c
  have e := mul_bd _ _ 192 3000 b.1 b.2 d.1 d.2
  unfold baV; omega
set_option maxHeartbeats 4000000 in
theorem costT (c : CfgV) (x : CarV) (f cw : Int) (h0 : 0 ≤ x.un) (h1 : x.un ≤ 252) (g0 : 0 ≤ f) (g1 : f ≤ 63) (hp : R x.sp) (hu : R x.su) (hdd : R x.sd) (w : World) : Calls Try.prog 11 #[.agg #[.int .i64 c.ca, .int .i64 c.fl, .int .i64 c.ft, .int .i64 c.se, .int .i64 c.dr, .int .i64 c.dw, .int .i64 c.ho, .int .i64 c.re, .int .i64 c.yi, .int .i64 c.qu, .int .i64 c.qo, .int .i64 c.lo, .int .i64 c.sl, .int .i64 c.rt, .int .i64 c.cp, .int .i64 c.tr, .int .i64 c.de, .int .i64 c.wi], .agg #[.int .i64 x.ds, .int .i64 x.da, .int .i64 x.un, .int .i64 x.wy, .int .i64 x.ti, .int .i64 x.ju, .int .i64 x.lo, .bool x.bl, .bool x.br, .int .i64 x.mo, .int .i64 x.ta, .bool x.ho, .int .u64 x.sp, .int .u64 x.su, .int .u64 x.sd], .agg #[.int .i64 f, .int .i64 cw]] w fun e w' => e = .returned (.int .i64 (coV c x f cw)) ∧ Since w w' := by
  obtain ⟨b0, b1⟩ := ba_bd c x f h0 h1 g0 g1
  obtain ⟨s0, s1⟩ := st_bd c
  obtain ⟨n0, n1⟩ := on_bd x
  obtain ⟨p0, p1⟩ := mul_bd _ _ 192 3000 n0 n1 s0 s1
  obtain ⟨r0, r1⟩ := fr_bd x.un f h0 h1 g0 g1
  have f1 := fl_lo c.fl
  have f2 := fl_hi c.fl
  have e1 := hd_lo c.dr
  have e2 := hd_hi c.dr
  have e3 := hd_lo c.dw
  have e4 := hd_hi c.dw
  go_enter Try.func11, Try.ntmps11
  go_upto_region 1 with fail
  obtain ⟨w1, hw1⟩ : ∃ w1, w1 = ((w.alloc (.cells #[.int .i64 c.ca, .int .i64 c.fl, .int .i64 c.ft, .int .i64 c.se, .int .i64 c.dr, .int .i64 c.dw, .int .i64 c.ho, .int .i64 c.re, .int .i64 c.yi, .int .i64 c.qu, .int .i64 c.qo, .int .i64 c.lo, .int .i64 c.sl, .int .i64 c.rt, .int .i64 c.cp, .int .i64 c.tr, .int .i64 c.de, .int .i64 c.wi] 23)).alloc (.cells #[.int .i64 x.ds, .int .i64 x.da, .int .i64 x.un, .int .i64 x.wy, .int .i64 x.ti, .int .i64 x.ju, .int .i64 x.lo, .bool x.bl, .bool x.br, .int .i64 x.mo, .int .i64 x.ta, .bool x.ho, .int .u64 x.sp, .int .u64 x.su, .int .u64 x.sd] 30)).alloc (.cells #[.int .i64 f, .int .i64 cw] 32) := ⟨_, rfl⟩
  rw [← hw1]
  have BC : Blk w1 w.heap.size 23 #[.int .i64 c.ca, .int .i64 c.fl, .int .i64 c.ft, .int .i64 c.se, .int .i64 c.dr, .int .i64 c.dw, .int .i64 c.ho, .int .i64 c.re, .int .i64 c.yi, .int .i64 c.qu, .int .i64 c.qo, .int .i64 c.lo, .int .i64 c.sl, .int .i64 c.rt, .int .i64 c.cp, .int .i64 c.tr, .int .i64 c.de, .int .i64 c.wi] := by rw [hw1]; exact ((Blk.new w _ _).alloc _).alloc _
  have BX : Blk w1 (w.heap.size + 1) 30 #[.int .i64 x.ds, .int .i64 x.da, .int .i64 x.un, .int .i64 x.wy, .int .i64 x.ti, .int .i64 x.ju, .int .i64 x.lo, .bool x.bl, .bool x.br, .int .i64 x.mo, .int .i64 x.ta, .bool x.ho, .int .u64 x.sp, .int .u64 x.su, .int .u64 x.sd] := by rw [hw1]; have h := (Blk.new (w.alloc (.cells #[.int .i64 c.ca, .int .i64 c.fl, .int .i64 c.ft, .int .i64 c.se, .int .i64 c.dr, .int .i64 c.dw, .int .i64 c.ho, .int .i64 c.re, .int .i64 c.yi, .int .i64 c.qu, .int .i64 c.qo, .int .i64 c.lo, .int .i64 c.sl, .int .i64 c.rt, .int .i64 c.cp, .int .i64 c.tr, .int .i64 c.de, .int .i64 c.wi] 23)) 30 #[.int .i64 x.ds, .int .i64 x.da, .int .i64 x.un, .int .i64 x.wy, .int .i64 x.ti, .int .i64 x.ju, .int .i64 x.lo, .bool x.bl, .bool x.br, .int .i64 x.mo, .int .i64 x.ta, .bool x.ho, .int .u64 x.sp, .int .u64 x.su, .int .u64 x.sd]).alloc (.cells #[.int .i64 f, .int .i64 cw] 32); simpa using h
  have BL : Blk w1 (w.heap.size + 2) 32 #[.int .i64 f, .int .i64 cw] := by rw [hw1]; have h := Blk.new ((w.alloc (.cells #[.int .i64 c.ca, .int .i64 c.fl, .int .i64 c.ft, .int .i64 c.se, .int .i64 c.dr, .int .i64 c.dw, .int .i64 c.ho, .int .i64 c.re, .int .i64 c.yi, .int .i64 c.qu, .int .i64 c.qo, .int .i64 c.lo, .int .i64 c.sl, .int .i64 c.rt, .int .i64 c.cp, .int .i64 c.tr, .int .i64 c.de, .int .i64 c.wi] 23)).alloc (.cells #[.int .i64 x.ds, .int .i64 x.da, .int .i64 x.un, .int .i64 x.wy, .int .i64 x.ti, .int .i64 x.ju, .int .i64 x.lo, .bool x.bl, .bool x.br, .int .i64 x.mo, .int .i64 x.ta, .bool x.ho, .int .u64 x.sp, .int .u64 x.su, .int .u64 x.sd] 30)) 32 #[.int .i64 f, .int .i64 cw]; simpa using h
  have HS1 := Lib.hid (show Since w w1 by rw [hw1]; exact (((Since.refl _).alloc _).alloc _).alloc _)
  clear hw1
  have q0 : w1.cell? ⟨w.heap.size, 1, none⟩ = some (.int .i64 c.fl) := BC.cell 1
  have q1 : w1.cell? ⟨w.heap.size, 4, none⟩ = some (.int .i64 c.dr) := BC.cell 4
  have q2 : w1.cell? ⟨w.heap.size, 5, none⟩ = some (.int .i64 c.dw) := BC.cell 5
  have q3 : w1.cell? ⟨w.heap.size + 1, 2, none⟩ = some (.int .i64 x.un) := BX.cell 2
  have q4 : w1.cell? ⟨w.heap.size + 1, 12, none⟩ = some (.int .u64 x.sp) := BX.cell 12
  have q5 : w1.cell? ⟨w.heap.size + 1, 13, none⟩ = some (.int .u64 x.su) := BX.cell 13
  have q6 : w1.cell? ⟨w.heap.size + 1, 14, none⟩ = some (.int .u64 x.sd) := BX.cell 14
  have q7 : w1.cell? ⟨w.heap.size + 2, 0, none⟩ = some (.int .i64 f) := BL.cell 0
  have HBC := Lib.hid BC; have HBX := Lib.hid BX; have HBL := Lib.hid BL; clear BC BX BL
  go_cut [7] (fun s7 wx => s7 = .int .i64 (stV c) ∧ Hid (Since w1 wx))
  case first =>
    go_quiet ((first | (go_at_call 26; exact quiet_eq (spanT _ _))))
    go_wp2_with fail
    go_meet
    case rel => exact ⟨by unfold stV; simp (disch := omega) only [wr], Lib.hid (by repeat (first | exact Since.refl _ | assumption | refine Since.setCell ?_ (by first | (simp; done) | (simp; omega)) _ | refine Since.drew ?_ | refine Since.drewN ?_ _ | refine Since.alloc ?_ _ | refine Since.trans ?_ (by assumption) | refine Since.trans ?_ (Hid.out (by assumption))))⟩
  case rest =>
    obtain ⟨rfl, H2⟩ := hcut
    replace q0 := keep_cell H2.out q0
    replace q1 := keep_cell H2.out q1
    replace q2 := keep_cell H2.out q2
    replace q3 := keep_cell H2.out q3
    replace q4 := keep_cell H2.out q4
    replace q5 := keep_cell H2.out q5
    replace q6 := keep_cell H2.out q6
    replace q7 := keep_cell H2.out q7
    have HC2 := Lib.hid (keep_blk H2.out HBC.out); have HX2 := Lib.hid (keep_blk H2.out HBX.out); have HL2 := Lib.hid (keep_blk H2.out HBL.out); have HS2 := Lib.hid (HS1.out.trans H2.out)
    clear H2 HBC HBX HBL HS1
    generalize wc = w2 at *
    go_wp2_with fail
    go_cut [8] (fun s8 wx => s8 = .int .i64 (baV c x f) ∧ Hid (Since w2 wx))
    case first =>
      have hrK : ∀ W W' : World, Since W W' → (Since w2 W ∧ W.cell? ⟨w.heap.size + 1, 2, none⟩ = some (.int .i64 x.un) ∧ W.cell? ⟨w.heap.size + 1, 12, none⟩ = some (.int .u64 x.sp) ∧ W.cell? ⟨w.heap.size + 1, 13, none⟩ = some (.int .u64 x.su) ∧ W.cell? ⟨w.heap.size + 1, 14, none⟩ = some (.int .u64 x.sd) ∧ W.cell? ⟨w.heap.size + 2, 0, none⟩ = some (.int .i64 f)) → (Since w2 W' ∧ W'.cell? ⟨w.heap.size + 1, 2, none⟩ = some (.int .i64 x.un) ∧ W'.cell? ⟨w.heap.size + 1, 12, none⟩ = some (.int .u64 x.sp) ∧ W'.cell? ⟨w.heap.size + 1, 13, none⟩ = some (.int .u64 x.su) ∧ W'.cell? ⟨w.heap.size + 1, 14, none⟩ = some (.int .u64 x.sd) ∧ W'.cell? ⟨w.heap.size + 2, 0, none⟩ = some (.int .i64 f)) := fun W W' k ⟨h, h0, h1, h2, h3, h4⟩ => ⟨h.trans k, keep_cell k h0, keep_cell k h1, keep_cell k h2, keep_cell k h3, keep_cell k h4⟩
      have hrS : (fun W : World => Since w2 W ∧ W.cell? ⟨w.heap.size + 1, 2, none⟩ = some (.int .i64 x.un) ∧ W.cell? ⟨w.heap.size + 1, 12, none⟩ = some (.int .u64 x.sp) ∧ W.cell? ⟨w.heap.size + 1, 13, none⟩ = some (.int .u64 x.su) ∧ W.cell? ⟨w.heap.size + 1, 14, none⟩ = some (.int .u64 x.sd) ∧ W.cell? ⟨w.heap.size + 2, 0, none⟩ = some (.int .i64 f)) (w2) := ⟨Since.refl _, by first | assumption | (simp; done), by first | assumption | (simp; done), by first | assumption | (simp; done), by first | assumption | (simp; done), by first | assumption | (simp; done)⟩
      have HRK := Lib.hid hrK
      have HRD := Lib.hid (show (fun W : World => Since w2 W ∧ W.cell? ⟨w.heap.size + 1, 2, none⟩ = some (.int .i64 x.un) ∧ W.cell? ⟨w.heap.size + 1, 12, none⟩ = some (.int .u64 x.sp) ∧ W.cell? ⟨w.heap.size + 1, 13, none⟩ = some (.int .u64 x.su) ∧ W.cell? ⟨w.heap.size + 1, 14, none⟩ = some (.int .u64 x.sd) ∧ W.cell? ⟨w.heap.size + 2, 0, none⟩ = some (.int .i64 f)) (World.drew (w2)) from ⟨(Since.refl _).drew, hrS.2⟩)
      clear hrK hrS
      refine wp_region_held_drew (S := fun W : World => Since w2 W ∧ W.cell? ⟨w.heap.size + 1, 2, none⟩ = some (.int .i64 x.un) ∧ W.cell? ⟨w.heap.size + 1, 12, none⟩ = some (.int .u64 x.sp) ∧ W.cell? ⟨w.heap.size + 1, 13, none⟩ = some (.int .u64 x.su) ∧ W.cell? ⟨w.heap.size + 1, 14, none⟩ = some (.int .u64 x.sd) ∧ W.cell? ⟨w.heap.size + 2, 0, none⟩ = some (.int .i64 f)) (by kernel_rfl) HRD.out (fun hHeld => ?_)
      refine wpAnyH_take (i := 0) (oi := ?op_0) (v := ?vp_0) ?hp_0 (by kernel_rfl) (by kernel_rfl) (by kernel_rfl) ?qp_0 ?yp_0 (by assumption) ?_
      case hp_0 => (first | (simp only [List.getElem?_toArray, List.getElem?_cons_zero, List.getElem?_cons_succ]; done) | (simp only [List.getElem?_toArray, List.getElem?_cons_zero, List.getElem?_cons_succ]; exact rfl))
      case qp_0 => exact fun _ _ _ h => h
      case yp_0 => (refine Or.inl ⟨rfl, ?_⟩; intro w hSw; (try dsimp only at hSw); go_simp; (try with_reducible rfl))
      (try simp only [Act.put, List.setIfInBounds_toArray, List.set_cons_zero, List.set_cons_succ])
      refine wpAnyH_take (i := 1) (oi := ?op_1) (v := .int .i64 x.un) ?hp_1 (by kernel_rfl) (by kernel_rfl) (by kernel_rfl) ?qp_1 ?yp_1 (by assumption) ?_
      case hp_1 => (first | (simp only [List.getElem?_toArray, List.getElem?_cons_zero, List.getElem?_cons_succ]; done) | (simp only [List.getElem?_toArray, List.getElem?_cons_zero, List.getElem?_cons_succ]; exact rfl))
      case qp_1 => exact fun _ _ _ h => h
      case yp_1 => (refine Or.inl ⟨rfl, ?_⟩; intro w hSw; (try dsimp only at hSw); go_simp; (try with_reducible rfl))
      (try simp only [Act.put, List.setIfInBounds_toArray, List.set_cons_zero, List.set_cons_succ])
      refine wpAnyH_take (i := 2) (oi := ?op_2) (v := ?vp_2) ?hp_2 (by kernel_rfl) (by kernel_rfl) (by kernel_rfl) ?qp_2 ?yp_2 (by assumption) ?_
      case hp_2 => (first | (simp only [List.getElem?_toArray, List.getElem?_cons_zero, List.getElem?_cons_succ]; done) | (simp only [List.getElem?_toArray, List.getElem?_cons_zero, List.getElem?_cons_succ]; exact rfl))
      case qp_2 => exact fun _ _ _ h => h
      case yp_2 => (refine Or.inl ⟨rfl, ?_⟩; intro w hSw; (try dsimp only at hSw); go_simp; (try with_reducible rfl))
      (try simp only [Act.put, List.setIfInBounds_toArray, List.set_cons_zero, List.set_cons_succ])
      refine wpAnyH_take (i := 3) (oi := ?op_3) (v := .int .i64 f) ?hp_3 (by kernel_rfl) (by kernel_rfl) (by kernel_rfl) ?qp_3 ?yp_3 (by assumption) ?_
      case hp_3 => (first | (simp only [List.getElem?_toArray, List.getElem?_cons_zero, List.getElem?_cons_succ]; done) | (simp only [List.getElem?_toArray, List.getElem?_cons_zero, List.getElem?_cons_succ]; exact rfl))
      case qp_3 => exact fun _ _ _ h => h
      case yp_3 => (refine Or.inl ⟨rfl, ?_⟩; intro w hSw; (try dsimp only at hSw); go_simp; (try with_reducible rfl))
      (try simp only [Act.put, List.setIfInBounds_toArray, List.set_cons_zero, List.set_cons_succ])
      refine wpAnyH_take (i := 5) (oi := ?op_5) (v := ?vp_5) ?hp_5 (by kernel_rfl) (by kernel_rfl) (by kernel_rfl) ?qp_5 ?yp_5 (by assumption) ?_
      case hp_5 => (first | (simp only [List.getElem?_toArray, List.getElem?_cons_zero, List.getElem?_cons_succ]; done) | (simp only [List.getElem?_toArray, List.getElem?_cons_zero, List.getElem?_cons_succ]; exact rfl))
      case qp_5 => exact fun _ _ _ h => h
      case yp_5 => (refine Or.inl ⟨rfl, ?_⟩; intro w hSw; (try dsimp only at hSw); go_simp; (try with_reducible rfl))
      (try simp only [Act.put, List.setIfInBounds_toArray, List.set_cons_zero, List.set_cons_succ])
      refine wpAnyH_take (i := 6) (oi := ?op_6) (v := .agg #[.int .u64 x.sp, .int .u64 x.su, .int .u64 x.sd]) ?hp_6 (by kernel_rfl) (by kernel_rfl) (by kernel_rfl) ?qp_6 ?yp_6 (by assumption) ?_
      case hp_6 => (first | (simp only [List.getElem?_toArray, List.getElem?_cons_zero, List.getElem?_cons_succ]; done) | (simp only [List.getElem?_toArray, List.getElem?_cons_zero, List.getElem?_cons_succ]; exact rfl))
      case qp_6 => exact fun _ _ _ h => h
      case yp_6 => (refine Or.inl ⟨rfl, ?_⟩; intro w hSw; (try dsimp only at hSw); go_simp; (try with_reducible rfl))
      (try simp only [Act.put, List.setIfInBounds_toArray, List.set_cons_zero, List.set_cons_succ])
      refine wpAnyH_take (i := 8) (oi := ?op_8) (v := .int .i64 (stV c)) ?hp_8 (by kernel_rfl) (by kernel_rfl) (by kernel_rfl) ?qp_8 ?yp_8 (by assumption) ?_
      case hp_8 => (first | (simp only [List.getElem?_toArray, List.getElem?_cons_zero, List.getElem?_cons_succ]; done) | (simp only [List.getElem?_toArray, List.getElem?_cons_zero, List.getElem?_cons_succ]; exact rfl))
      case qp_8 => exact fun _ _ _ h => h
      case yp_8 => (refine Or.inl ⟨rfl, ?_⟩; intro w hSw; (try dsimp only at hSw); go_simp; (try with_reducible rfl))
      (try simp only [Act.put, List.setIfInBounds_toArray, List.set_cons_zero, List.set_cons_succ])
      refine wpAnyH_ready (rs := [4]) (by kernel_rfl) (by simp) ?_
      refine AllReadyH.cons (o := ?op_4) ?hp_4 (fun K hK => ?_) AllReadyH.nil
      case hp_4 => (first | (simp only [List.getElem?_toArray, List.getElem?_cons_zero, List.getElem?_cons_succ]; done) | (simp only [List.getElem?_toArray, List.getElem?_cons_zero, List.getElem?_cons_succ]; exact rfl))
      (try go_simp)
      (go_at_call 27; refine (farT x.un f (by omega) (by omega) (by omega) (by omega) _).mono ?_; rintro e w' ⟨rfl, rfl⟩)
      (try go_wp2_with fail)
      refine hK.out _ _ ?_ (fun hHeld2 => ?_)
      · first | exact HRD.out | exact hHeld | (apply HRK.out; assumption; assumption)
      clear hK K hHeld
      have hHeld := hHeld2
      clear hHeld2
      (try simp only [Act.put, List.setIfInBounds_toArray, List.set_cons_zero, List.set_cons_succ])
      refine wpAnyH_ready (rs := [7]) (by kernel_rfl) (by simp) ?_
      refine AllReadyH.cons (o := ?op_7) ?hp_7 (fun K hK => ?_) AllReadyH.nil
      case hp_7 => (first | (simp only [List.getElem?_toArray, List.getElem?_cons_zero, List.getElem?_cons_succ]; done) | (simp only [List.getElem?_toArray, List.getElem?_cons_zero, List.getElem?_cons_succ]; exact rfl))
      (try go_simp)
      (go_at_call 28; refine (countT x.sp x.su x.sd hp hu hdd _).mono ?_; rintro e w9 ⟨rfl, hb9⟩)
      (try go_wp2_with fail)
      refine hK.out _ _ ?_ (fun hHeld2 => ?_)
      · first | exact HRD.out | exact hHeld | (apply HRK.out; assumption; assumption)
      clear hK K hHeld
      have hHeld := hHeld2
      clear hHeld2
      (try simp only [Act.put, List.setIfInBounds_toArray, List.set_cons_zero, List.set_cons_succ])
      refine wpAnyH_take (i := 9) (oi := ?op_9) (v := ?vp_9) ?hp_9 (by kernel_rfl) (by kernel_rfl) (by kernel_rfl) ?qp_9 ?yp_9 (by assumption) ?_
      case hp_9 => (first | (simp only [List.getElem?_toArray, List.getElem?_cons_zero, List.getElem?_cons_succ]; done) | (simp only [List.getElem?_toArray, List.getElem?_cons_zero, List.getElem?_cons_succ]; exact rfl))
      case qp_9 => exact fun _ _ _ h => h
      case yp_9 => (refine Or.inl ⟨rfl, ?_⟩; intro w hSw; (try dsimp only at hSw); go_simp; (try with_reducible rfl))
      (try simp only [Act.put, List.setIfInBounds_toArray, List.set_cons_zero, List.set_cons_succ])
      refine wpAnyH_take (i := 10) (oi := ?op_10) (v := ?vp_10) ?hp_10 (by kernel_rfl) (by kernel_rfl) (by kernel_rfl) ?qp_10 ?yp_10 (by assumption) ?_
      case hp_10 => (first | (simp only [List.getElem?_toArray, List.getElem?_cons_zero, List.getElem?_cons_succ]; done) | (simp only [List.getElem?_toArray, List.getElem?_cons_zero, List.getElem?_cons_succ]; exact rfl))
      case qp_10 => exact fun _ _ _ h => h
      case yp_10 => (refine Or.inl ⟨rfl, ?_⟩; intro w hSw; (try dsimp only at hSw); go_simp; (try with_reducible rfl))
      (try simp only [Act.put, List.setIfInBounds_toArray, List.set_cons_zero, List.set_cons_succ])
      refine wpAnyH_take (i := 11) (oi := ?op_11) (v := ?vp_11) ?hp_11 (by kernel_rfl) (by kernel_rfl) (by kernel_rfl) ?qp_11 ?yp_11 (by assumption) ?_
      case hp_11 => (first | (simp only [List.getElem?_toArray, List.getElem?_cons_zero, List.getElem?_cons_succ]; done) | (simp only [List.getElem?_toArray, List.getElem?_cons_zero, List.getElem?_cons_succ]; exact rfl))
      case qp_11 => exact fun _ _ _ h => h
      case yp_11 => (refine Or.inl ⟨rfl, ?_⟩; intro w hSw; (try dsimp only at hSw); go_simp; (try with_reducible rfl))
      (try simp only [Act.put, List.setIfInBounds_toArray, List.set_cons_zero, List.set_cons_succ])
      refine wpAnyH_done (by kernel_rfl) ?_ _
      obtain ⟨hs2, _⟩ := hHeld
      have HS2 := Lib.hid hs2
      clear hs2 HRK HRD
      go_wp2_with fail
      go_meet
      case rel => exact ⟨by unfold baV; simp (disch := omega) only [wr], Lib.hid HS2.out⟩
    case rest =>
      obtain ⟨rfl, H3⟩ := hcut
      replace q0 := keep_cell H3.out q0
      replace q1 := keep_cell H3.out q1
      replace q2 := keep_cell H3.out q2
      replace q3 := keep_cell H3.out q3
      replace q4 := keep_cell H3.out q4
      replace q5 := keep_cell H3.out q5
      replace q6 := keep_cell H3.out q6
      replace q7 := keep_cell H3.out q7
      have HX3 := Lib.hid (keep_blk H3.out HX2.out); have HL3 := Lib.hid (keep_blk H3.out HL2.out); have HS3 := Lib.hid (HS2.out.trans H3.out)
      clear H3 HC2 HX2 HL2 HS2 q1 q2 q3 q4 q5 q6 q7
      generalize wc = w3 at *
      go_wp2_with (first | (refine wpList_load_row rfl 30 _ rfl _ rfl 30 _ (0, 0) _ HX3.out Try.underlying30 rfl (by kernel_rfl) ?_) | (refine wpList_load_row rfl 32 _ rfl _ rfl 32 _ (0, 0) _ HL3.out Try.underlying32 rfl (by kernel_rfl) ?_))
      refine (onT x f cw (by omega) (by omega) _).mono ?_
      rintro e w4 ⟨rfl, hb4⟩
      replace q0 := keep_cell hb4 q0
      have HS4 := Lib.hid (HS3.out.trans hb4)
      clear hb4 HS3 HX3 HL3
      cases hon : onB x.wy cw (tw x.un f)
      · have HV := Lib.hid (show coV c x f cw = baV c x f + 8 * (fl c.fl - 1) by unfold coV; rw [hon]; simp)
        go_wp2_with fail
        refine (floorsT _ _).mono ?_
        rintro e w' ⟨rfl, rfl⟩
        go_wp2
        go_ret
        exact ⟨ret_int HV.out.symm, HS4.out⟩
      · have HV := Lib.hid (show coV c x f cw = baV c x f by unfold coV; rw [hon]; simp)
        go_wp2
        go_ret
        exact ⟨ret_int HV.out.symm, HS4.out⟩
end Go.Proofs.Ytpacieocmogjeaa.Et
namespace Go.Proofs.Ytpacieocmogjeaa.Et
set_option linter.unusedVariables false
set_option linter.unusedSimpArgs false
open Go.RowKit Go.Proofs.Ytpacieocmogjeaa.Ba Go.Proofs.Ytpacieocmogjeaa.Mo Go.Proofs.Ytpacieocmogjeaa.Ty Go.Proofs.Ytpacieocmogjeaa.Mem Go.Proofs.Ytpacieocmogjeaa.St
open Go.Proofs.Ytpacieocmogjeaa.Do (hd hd_lo hd_hi spanR)
set_option maxRecDepth 100000
end Go.Proofs.Ytpacieocmogjeaa.Et
namespace Go.Proofs.Ytpacieocmogjeaa.Cs
set_option linter.unusedVariables false
set_option linter.unusedSimpArgs false
open Go.RowKit Go.Proofs.Ytpacieocmogjeaa.Ba Go.Proofs.Ytpacieocmogjeaa.Ty Go.Proofs.Ytpacieocmogjeaa.Mem
def carC (x : CarV) : List Value := [.int .i64 x.ds, .int .i64 x.da, .int .i64 x.un, .int .i64 x.wy, .int .i64 x.ti, .int .i64 x.ju, .int .i64 x.lo, .bool x.bl, .bool x.br, .int .i64 x.mo, .int .i64 x.ta, .bool x.ho, .int .u64 x.sp, .int .u64 x.su, .int .u64 x.sd]
/-- Its stops are numbers of 64 bits. -/
def fitC (x : CarV) : Prop := (Lit.int .u64 x.sp).wf = true ∧ (Lit.int .u64 x.su).wf = true ∧ (Lit.int .u64 x.sd).wf = true
instance : Inhabited CarV := ⟨⟨0, 0, 0, 0, 0, 0, 0, false, false, 0, 0, false, 0, 0, 0⟩⟩
set_option maxRecDepth 100000
section
variable {H : Type} {enc : TypeId × Value → H} {w : World} {base : Nat} {spare : Nat → Bool} {held : Bool}
theorem car_of {fuel : Nat} {cs : List Value} {x : DataW H × List MemPlace} (h : DataW.trod enc Try.prog w base spare held fuel 30 cs = some x) : ∃ l : CarV, cs = carC l ∧ fitC l := by
  have e1 : Try.prog.cellsOf 3 = 1 := by kernel_rfl
  have eb : Try.prog.cellsOf 4 = 1 := by kernel_rfl
  have eu : Try.prog.cellsOf 26 = 1 := by kernel_rfl
  have e2 : Try.prog.cellsOf 25 = 2 := by kernel_rfl
  have e3 : Try.prog.cellsOf 28 = 3 := by kernel_rfl
  obtain ⟨xs, n, rfl, _, hl, hx, hf⟩ := DataW.trod_struct Try.underlying30 h
  have hl' : cs.length = 15 := hl.trans (by kernel_rfl)
  match cs, hl' with
  | [a0, a1, a2, a3, a4, a5, a6, a7, a8, a9, a10, a11, a12, a13, a14], _ =>
    have hx' : xs.length = 12 := hx
    match xs, hx' with
    | [y0, y1, y2, y3, y4, y5, y6, y7, y8, y9, y10, y11], _ =>
      have g0 := hf 0 _ rfl
      have g1 := hf 1 _ rfl
      have g2 := hf 2 _ rfl
      have g3 := hf 3 _ rfl
      have g4 := hf 4 _ rfl
      have g5 := hf 5 _ rfl
      have g6 := hf 6 _ rfl
      have g7 := hf 7 _ rfl
      have g8 := hf 8 _ rfl
      have g9 := hf 9 _ rfl
      have g10 := hf 10 _ rfl
      have g11 := hf 11 _ rfl
      simp [e1, eb, e2, e3] at g0 g1 g2 g3 g4 g5 g6 g7 g8 g9 g10 g11
      obtain ⟨zs, m, rfl, _, _, hz, hg⟩ := DataW.trod_struct Try.underlying25 g0
      have hz' : zs.length = 2 := hz
      obtain ⟨us, m', hm', _, _, hu, hh⟩ := DataW.trod_struct Try.underlying28 g11
      have hu' : us.length = 3 := hu
      match zs, hz', us, hu' with
      | [z0, z1], _, [u0, u1, u2], _ =>
        have k0 := hg 0 _ rfl
        have k1 := hg 1 _ rfl
        have s0 := hh 0 _ rfl
        have s1 := hh 1 _ rfl
        have s2 := hh 2 _ rfl
        simp [e1] at k0 k1
        simp [eu] at s0 s1 s2
        obtain ⟨v0, q0, _, w0⟩ := DataW.trod_int Try.underlying3 k0
        obtain ⟨v1, q1, _, w1⟩ := DataW.trod_int Try.underlying3 k1
        obtain ⟨v2, q2, _, w2⟩ := DataW.trod_int Try.underlying3 g1
        obtain ⟨v3, q3, _, w3⟩ := DataW.trod_int Try.underlying3 g2
        obtain ⟨v4, q4, _, w4⟩ := DataW.trod_int Try.underlying3 g3
        obtain ⟨v5, q5, _, w5⟩ := DataW.trod_int Try.underlying3 g4
        obtain ⟨v6, q6, _, w6⟩ := DataW.trod_int Try.underlying3 g5
        obtain ⟨v7, q7, _⟩ := DataW.trod_bool Try.underlying4 g6
        obtain ⟨v8, q8, _⟩ := DataW.trod_bool Try.underlying4 g7
        obtain ⟨v9, q9, _, w9⟩ := DataW.trod_int Try.underlying3 g8
        obtain ⟨v10, q10, _, w10⟩ := DataW.trod_int Try.underlying3 g9
        obtain ⟨v11, q11, _⟩ := DataW.trod_bool Try.underlying4 g10
        obtain ⟨v12, q12, _, w12⟩ := DataW.trod_int Try.underlying26 s0
        obtain ⟨v13, q13, _, w13⟩ := DataW.trod_int Try.underlying26 s1
        obtain ⟨v14, q14, _, w14⟩ := DataW.trod_int Try.underlying26 s2
        simp at q0 q1 q2 q3 q4 q5 q6 q7 q8 q9 q10 q11 q12 q13 q14
        exact ⟨⟨v0, v1, v2, v3, v4, v5, v6, v7, v8, v9, v10, v11, v12, v13, v14⟩, by simp [carC, *], w12, w13, w14⟩
/-- The slice (address a, n elements) reads as these cars. -/
def CV (w : World) (a : Option Addr) (n : Nat) (ls : Nat → CarV) : Prop :=
  n = 0 ∨ ∃ b off, a = some ⟨b, off, none⟩ ∧ b < w.heap.size ∧ ∀ i, i < n → ∀ j v, (carC (ls i))[j]? = some v → w.cell? ⟨b, off + i * 15 + j, none⟩ = some v
theorem CV.keep {w w' : World} {a : Option Addr} {n : Nat} {ls : Nat → CarV} (k : Since w w') (h : CV w a n ls) : CV w' a n ls := by
  rcases h with h | ⟨b, off, e, hb, hc⟩
  · exact .inl h
  · exact .inr ⟨b, off, e, Nat.lt_of_lt_of_le hb k.size, fun i hi j v hj => keep_cell k (hc i hi j v hj)⟩
theorem CV.at_ {w : World} {a : Option Addr} {n : Nat} {ls : Nat → CarV} (h : CV w a n ls) {k : Nat} (hk : k < n) : ∃ b off, a = some ⟨b, off, none⟩ ∧ b < w.heap.size ∧ ∀ i, i < n → ∀ j v, (carC (ls i))[j]? = some v → w.cell? ⟨b, off + i * 15 + j, none⟩ = some v := by
  rcases h with h | h
  · omega
  · exact h
theorem CV.open_ {fuel : Nat} {a : Option Addr} {len cap : Nat} {x : DataW H × List MemPlace} (h : DataW.trod enc Try.prog w base spare held fuel 37 [.slice a len cap] = some x) : ∃ ls, CV w a len ls ∧ len ≤ 9223372036854775807 ∧ ∀ i, i < len → fitC (ls i) := by
  have ce : Try.prog.cellsOf 30 = 15 := by kernel_rfl
  rcases Go.Deep.open_slice Try.underlying37 h with ⟨hcs, _⟩ | ⟨a', len', cap', m, n, D, Pl, hcs, hb, hlc, hcm, hm, _, hx⟩
  · simp at hcs
    obtain ⟨rfl, rfl, rfl⟩ := hcs
    exact ⟨default, .inl rfl, by omega, fun i hi => by omega⟩
  · simp at hcs
    obtain ⟨rfl, rfl, rfl⟩ := hcs
    have hlm : len ≤ m := by rw [hm]; split <;> omega
    have each : ∀ i, i < len → ∃ l : CarV, (∀ j v, (carC l)[j]? = some v → w.cell? ((a'.add (i * 15)).add j) = some v) ∧ fitC l := by
      intro i hi
      obtain ⟨cs', h1, h2⟩ := hx i (by omega)
      rw [ce] at h1
      obtain ⟨_, hlen, hcell⟩ := World.cells?_some h1
      obtain ⟨l, rfl, hfit⟩ := car_of h2
      refine ⟨l, fun j v hj => ?_, hfit⟩
      have hj15 : j < 15 := by
        obtain ⟨hlt, _⟩ := List.getElem?_eq_some_iff.1 hj
        simpa [carC] using hlt
      rw [hcell j hj15, hj]
    obtain ⟨ls, hls⟩ := Go.Deep.choose_lt each
    refine ⟨ls, ?_, by unfold maxLen at hcm; omega, fun i hi => (hls i hi).2⟩
    rcases Nat.eq_zero_or_pos len with h0 | h0
    · exact .inl h0
    · obtain ⟨b, off, idx⟩ := a'
      have c0 := (hls 0 h0).1 0 _ rfl
      cases idx with
      | none =>
        rw [Go.WideShapes.add_plain, Go.WideShapes.add_plain] at c0
        refine .inr ⟨b, off, rfl, World.block_lt_of_cell? _ _ c0, fun i hi j v hj => ?_⟩
        have := (hls i hi).1 j v hj
        rw [Go.WideShapes.add_plain, Go.WideShapes.add_plain] at this
        exact this
      | some q =>
        exfalso
        simp [World.cell?, Addr.add] at c0
        split at c0 <;> simp at c0
end
end Go.Proofs.Ytpacieocmogjeaa.Cs
