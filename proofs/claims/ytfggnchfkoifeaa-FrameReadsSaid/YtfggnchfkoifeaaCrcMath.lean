/-
  Plain facts on the checksum of 32 bits: it is linear, each of its steps can be undone, and a burst of at most 32 turned bits is told.
  No condition.
-/
import Derived.WalkKit
import Derived.Laws.BitsAllLaws
import Derived.Test.YtfggnchfkoifeaaByt
namespace Go.Proofs.Ytfggnchfkoifeaa.Cm
set_option linter.unusedVariables false
set_option linter.unusedSimpArgs false
open Go.Proofs.Ytfggnchfkoifeaa.Byt (isB)

/-- The polynomial. -/
def po : BitVec 32 := 0xedb88320#32
/-- One step with a bit 0. -/
def zst (c : BitVec 32) : BitVec 32 := if c.getLsbD 0 = true then (c >>> 1) ^^^ po else c >>> 1
/-- One step with any bit. -/
def bst (c : BitVec 32) (x : Bool) : BitVec 32 := if (c.getLsbD 0 ^^ x) = true then (c >>> 1) ^^^ po else c >>> 1
def zn : Nat → BitVec 32 → BitVec 32
  | 0, c => c
  | n + 1, c => zst (zn n c)

theorem zst_zero : zst 0#32 = 0#32 := by decide
theorem zn_zero (n : Nat) : zn n 0#32 = 0#32 := by
  induction n with
  | zero => rfl
  | succ n ih => show zst (zn n 0#32) = _; rw [ih, zst_zero]
theorem zst_xor (a b : BitVec 32) : zst (a ^^^ b) = zst a ^^^ zst b := by
  unfold zst
  rw [BitVec.getLsbD_xor, BitVec.ushiftRight_xor_distrib]
  cases a.getLsbD 0 <;> cases b.getLsbD 0 <;> simp
  · ac_rfl
  · ac_rfl
  · have : (a >>> 1 ^^^ po) ^^^ (b >>> 1 ^^^ po) = (a >>> 1 ^^^ b >>> 1) ^^^ (po ^^^ po) := by ac_rfl
    rw [this]; simp
theorem zn_xor (n : Nat) (a b : BitVec 32) : zn n (a ^^^ b) = zn n a ^^^ zn n b := by
  induction n with
  | zero => rfl
  | succ n ih => show zst (zn n _) = zst (zn n a) ^^^ zst (zn n b); rw [ih, zst_xor]

/-- What a step leaves tells whether the lowest bit was set. -/
theorem zst_top (c : BitVec 32) : (zst c).getLsbD 31 = c.getLsbD 0 := by
  unfold zst
  have hp : po.getLsbD 31 = true := by decide
  split
  · rename_i h; rw [BitVec.getLsbD_xor, hp, h]; simp
  · rename_i h
    have h' : c.getLsbD 0 = false := by simpa using h
    rw [h']; simp
theorem zst_eq_zero (c : BitVec 32) (h : zst c = 0#32) : c = 0#32 := by
  have h0 : c.getLsbD 0 = false := by rw [← zst_top, h]; simp
  have h1 : c >>> 1 = 0#32 := by
    unfold zst at h
    rwa [if_neg (by rw [h0]; decide)] at h
  apply BitVec.eq_of_getLsbD_eq
  intro i hi
  rcases Nat.eq_zero_or_pos i with rfl | hp
  · rw [h0]; simp
  · have := congrArg (fun x : BitVec 32 => x.getLsbD (i - 1)) h1
    simp only [BitVec.getLsbD_ushiftRight] at this
    rw [show 1 + (i - 1) = i by omega] at this
    simpa using this
theorem zn_eq_zero (n : Nat) (c : BitVec 32) (h : zn n c = 0#32) : c = 0#32 := by
  induction n with
  | zero => exact h
  | succ n ih => exact ih (zst_eq_zero _ h)

/-- A bit, as a number. -/
def b32 (x : Bool) : BitVec 32 := if x = true then 1#32 else 0#32
theorem bst_eq (c : BitVec 32) (x : Bool) : bst c x = zst (c ^^^ b32 x) := by
  unfold bst zst b32
  cases x
  · simp
  · have e : (c ^^^ 1#32) >>> 1 = c >>> 1 := by
      rw [BitVec.ushiftRight_xor_distrib]
      have : (1#32 >>> 1) = 0#32 := by decide
      rw [this]; simp
    have h1 : (1#32).getLsbD 0 = true := by decide
    simp only [if_true, BitVec.getLsbD_xor, e, h1]
theorem bst_xor (c d : BitVec 32) (x y : Bool) : bst (c ^^^ d) (x ^^ y) = bst c x ^^^ bst d y := by
  have : b32 (x ^^ y) = b32 x ^^^ b32 y := by cases x <;> cases y <;> decide
  rw [bst_eq, bst_eq, bst_eq, this, ← zst_xor]
  congr 1; ac_rfl

set_option maxRecDepth 100000 in
theorem zn_one : ∀ n : Fin 32, zn n.val (1#32 <<< n.val) = 1#32 := by decide
theorem zn_bit (n : Nat) (h : n < 32) (x : Bool) : zn n (b32 x <<< n) = b32 x := by
  cases x
  · show zn n (0#32 <<< n) = 0#32
    rw [BitVec.zero_shiftLeft, zn_zero]
  · exact zn_one ⟨n, h⟩

/-- The lowest n bits. -/
def low (t : BitVec 32) (n : Nat) : BitVec 32 := t &&& BitVec.ofNat 32 (2 ^ n - 1)
theorem low_get (t : BitVec 32) (n i : Nat) (hi : i < 32) : (low t n).getLsbD i = (t.getLsbD i && decide (i < n)) := by
  unfold low
  rw [BitVec.getLsbD_and]
  congr 1
  rw [BitVec.getLsbD_ofNat, Nat.testBit_two_pow_sub_one]
  simp [hi]
theorem low_succ (t : BitVec 32) (n : Nat) (hn : n < 32) : low t (n + 1) = low t n ^^^ (b32 (t.getLsbD n) <<< n) := by
  apply BitVec.eq_of_getLsbD_eq
  intro i hi
  rw [BitVec.getLsbD_xor, low_get _ _ _ hi, low_get _ _ _ hi, BitVec.getLsbD_shiftLeft]
  unfold b32
  by_cases h1 : i < n
  · have h2 : i < n + 1 := by omega
    simp [h1, h2]
  · by_cases h2 : i = n
    · subst h2
      cases h3 : t.getLsbD i <;> simp [hi]
    · have h3 : ¬ i < n + 1 := by omega
      have h4 : i - n ≠ 0 := by omega
      cases h5 : t.getLsbD n <;> simp [h1, h3, h4]

/-- The first n bits of t, one by one. -/
def run (c t : BitVec 32) : Nat → BitVec 32
  | 0 => c
  | n + 1 => bst (run c t n) (t.getLsbD n)
theorem run_eq (c t : BitVec 32) (n : Nat) (h : n ≤ 32) : run c t n = zn n (c ^^^ low t n) := by
  induction n with
  | zero => simp [run, zn, low]
  | succ n ih =>
    show bst (run c t n) (t.getLsbD n) = zst (zn n _)
    rw [bst_eq, ih (by omega), low_succ t n (by omega), ← BitVec.xor_assoc, zn_xor n _ (b32 _ <<< n), zn_bit n (by omega)]

/-- Bits f 0, f 1, .., one by one. -/
def runF (c : BitVec 32) (f : Nat → Bool) : Nat → BitVec 32
  | 0 => c
  | n + 1 => bst (runF c f n) (f n)
theorem runF_run (c t : BitVec 32) (n : Nat) : runF c t.getLsbD n = run c t n := by
  induction n with
  | zero => rfl
  | succ n ih => show bst _ _ = bst _ _; rw [ih]
theorem runF_congr (c : BitVec 32) (f g : Nat → Bool) (n : Nat) (h : ∀ i, i < n → f i = g i) : runF c f n = runF c g n := by
  induction n with
  | zero => rfl
  | succ n ih => show bst _ _ = bst _ _; rw [ih fun i hi => h i (by omega), h n (by omega)]
theorem runF_add (c : BitVec 32) (f : Nat → Bool) (m n : Nat) : runF c f (m + n) = runF (runF c f m) (fun i => f (m + i)) n := by
  induction n with
  | zero => rfl
  | succ n ih =>
    rw [show m + (n + 1) = (m + n) + 1 from rfl]
    simp only [runF]
    rw [ih]
theorem runF_false (c : BitVec 32) (f : Nat → Bool) (n : Nat) (h : ∀ i, i < n → f i = false) : runF c f n = zn n c := by
  induction n with
  | zero => rfl
  | succ n ih =>
    show bst _ _ = zst _
    rw [ih fun i hi => h i (by omega), h n (by omega), bst_eq]
    congr 1
    show _ ^^^ 0#32 = _
    simp

/-- A byte's step. -/
def byS (c : BitVec 32) (z : Int) : BitVec 32 := zn 8 (c ^^^ BitVec.ofInt 32 z)
theorem byS_run (c : BitVec 32) (z : Nat) (h : z < 256) : byS c z = runF c (fun i => z.testBit i) 8 := by
  unfold byS
  have e : low (BitVec.ofNat 32 z) 8 = BitVec.ofNat 32 z := by
    apply BitVec.eq_of_getLsbD_eq
    intro i hi
    rw [low_get _ _ _ hi, BitVec.getLsbD_ofNat]
    by_cases h8 : i < 8
    · simp [h8]
    · have : z.testBit i = false := Nat.testBit_lt_two_pow (Nat.lt_of_lt_of_le h (by
        have : 2 ^ 8 ≤ 2 ^ i := Nat.pow_le_pow_right (by omega) (by omega)
        simpa using this))
      simp [this]
  rw [BitVec.ofInt_natCast, ← e, ← run_eq _ _ 8 (by omega), ← runF_run]
  apply runF_congr
  intro i hi
  rw [BitVec.getLsbD_ofNat]
  have : i < 32 := by omega
  simp [this]
def crcF (c : BitVec 32) (l : List Int) : BitVec 32 := l.foldl byS c
def crcZ (l : List Int) : BitVec 32 := ~~~ (crcF (~~~ 0#32) l)
/-- The sum, as a number. -/
def crcN (l : List Int) : Int := ((crcZ l).toNat : Int)
theorem crcN_lo (l : List Int) : 0 ≤ crcN l := by unfold crcN; omega
theorem crcN_hi (l : List Int) : crcN l < 4294967296 := by unfold crcN; have := (crcZ l).isLt; omega
theorem crcF_append (c : BitVec 32) (l m : List Int) : crcF c (l ++ m) = crcF (crcF c l) m := by unfold crcF; rw [List.foldl_append]
theorem crcF_snoc (c : BitVec 32) (l : List Int) (z : Int) : crcF c (l ++ [z]) = byS (crcF c l) z := by rw [crcF_append]; rfl

/-- Exclusive or of two bytes. -/
def xb (x y : Int) : Int := bits .xor .u8 x y
theorem xb_nat (a b : Nat) (ha : a < 256) (hb : b < 256) : xb a b = ((a ^^^ b : Nat) : Int) := u8_xor_nat a b ha hb
theorem xb_isB {x y : Int} (hx : isB x) (hy : isB y) : isB (xb x y) := by
  obtain ⟨A, rfl⟩ := Int.eq_ofNat_of_zero_le hx.1
  obtain ⟨B, rfl⟩ := Int.eq_ofNat_of_zero_le hy.1
  have h1 := hx.2
  have h2 := hy.2
  rw [xb_nat A B (by omega) (by omega)]
  have : A ^^^ B < 2 ^ 8 := Nat.xor_lt_two_pow (by omega) (by omega)
  exact ⟨by omega, by omega⟩
theorem ofInt_xb {x y : Int} (hx : isB x) (hy : isB y) : BitVec.ofInt 32 (xb x y) = BitVec.ofInt 32 x ^^^ BitVec.ofInt 32 y := by
  obtain ⟨A, rfl⟩ := Int.eq_ofNat_of_zero_le hx.1
  obtain ⟨B, rfl⟩ := Int.eq_ofNat_of_zero_le hy.1
  have h1 := hx.2
  have h2 := hy.2
  rw [xb_nat A B (by omega) (by omega), BitVec.ofInt_natCast, BitVec.ofInt_natCast, BitVec.ofInt_natCast]
  apply BitVec.eq_of_getLsbD_eq
  intro i hi
  simp [BitVec.getLsbD_ofNat, hi]
theorem byS_xor (c d : BitVec 32) {x y : Int} (hx : isB x) (hy : isB y) : byS (c ^^^ d) (xb x y) = byS c x ^^^ byS d y := by
  unfold byS
  rw [ofInt_xb hx hy, ← zn_xor]
  congr 1; ac_rfl
theorem byS_inj (c d : BitVec 32) (z : Int) (h : byS c z = byS d z) : c = d := by
  unfold byS at h
  have h1 : zn 8 (c ^^^ d) = 0#32 := by
    have e : c ^^^ d = (c ^^^ BitVec.ofInt 32 z) ^^^ (d ^^^ BitVec.ofInt 32 z) := by
      have : (c ^^^ BitVec.ofInt 32 z) ^^^ (d ^^^ BitVec.ofInt 32 z) = (c ^^^ d) ^^^ (BitVec.ofInt 32 z ^^^ BitVec.ofInt 32 z) := by ac_rfl
      rw [this]; simp
    rw [e, zn_xor, h]; simp
  have h2 := zn_eq_zero _ _ h1
  have h3 : c ^^^ d ^^^ d = 0#32 ^^^ d := by rw [h2]
  simpa [BitVec.xor_assoc] using h3
theorem crcF_inj (l : List Int) : ∀ (c d : BitVec 32), crcF c l = crcF d l → c = d := by
  induction l with
  | nil => intro c d h; exact h
  | cons z l ih => intro c d h; exact byS_inj c d z (ih _ _ h)
theorem crcF_xor : ∀ (l m : List Int) (c d : BitVec 32), l.length = m.length → (∀ z ∈ l, isB z) → (∀ z ∈ m, isB z) →
    crcF (c ^^^ d) (List.zipWith xb l m) = crcF c l ^^^ crcF d m
  | [], [], _, _, _, _, _ => rfl
  | x :: l, y :: m, c, d, h, hl, hm => by
    show crcF (byS (c ^^^ d) (xb x y)) (List.zipWith xb l m) = crcF (byS c x) l ^^^ crcF (byS d y) m
    rw [byS_xor c d (hl x (by simp)) (hm y (by simp))]
    exact crcF_xor l m _ _ (by simpa using h) (fun z hz => hl z (by simp [hz])) (fun z hz => hm z (by simp [hz]))
/-- Three texts of one length, laid over one another. -/
theorem crcZ_three (a b c : List Int) (h1 : a.length = b.length) (h2 : b.length = c.length) (ha : ∀ z ∈ a, isB z) (hb : ∀ z ∈ b, isB z) (hc : ∀ z ∈ c, isB z) :
    crcZ (List.zipWith xb (List.zipWith xb a b) c) = crcZ a ^^^ crcZ b ^^^ crcZ c := by
  unfold crcZ
  have hab : ∀ z ∈ List.zipWith xb a b, isB z := by
    intro z hz
    rw [List.mem_iff_getElem] at hz
    obtain ⟨i, hi, rfl⟩ := hz
    rw [List.getElem_zipWith]
    exact xb_isB (ha _ (List.getElem_mem _)) (hb _ (List.getElem_mem _))
  have e : (~~~ 0#32 : BitVec 32) = (~~~ 0#32 ^^^ ~~~ 0#32) ^^^ ~~~ 0#32 := by decide
  conv => lhs; rw [e]
  rw [crcF_xor _ _ _ _ (by simp [h1, h2]) hab hc, crcF_xor _ _ _ _ h1 ha hb]
  generalize crcF (~~~ 0#32) a = x
  generalize crcF (~~~ 0#32) b = y
  generalize crcF (~~~ 0#32) c = z
  apply BitVec.eq_of_getLsbD_eq
  intro i hi
  simp only [BitVec.getLsbD_not, BitVec.getLsbD_xor, hi, decide_true, Bool.true_and]
  cases x.getLsbD i <;> cases y.getLsbD i <;> cases z.getLsbD i <;> rfl

/-- A burst of at most 32 turned bits, in five bytes. -/
def bu (X j : Nat) : Nat := X / 2 ^ (8 * j) % 256
theorem bu_test (X j i : Nat) (h : i < 8) : (bu X j).testBit i = X.testBit (8 * j + i) := by
  unfold bu
  rw [show (256 : Nat) = 2 ^ 8 by decide, Nat.testBit_mod_two_pow, Nat.testBit_div_two_pow]
  simp [h, Nat.add_comm]
theorem bu_lt (X j : Nat) : bu X j < 256 := Nat.mod_lt _ (by omega)
theorem burst_run (X : Nat) : crcF 0#32 [(bu X 0 : Int), bu X 1, bu X 2, bu X 3, bu X 4] = runF 0#32 (fun i => X.testBit i) 40 := by
  have e : ∀ j, runF (runF 0#32 (fun i => X.testBit i) (8 * j)) (fun i => X.testBit (8 * j + i)) 8 = byS (runF 0#32 (fun i => X.testBit i) (8 * j)) (bu X j) := fun j => by
    rw [byS_run _ _ (bu_lt X j)]
    exact runF_congr _ _ _ _ fun i hi => (bu_test X j i hi).symm
  show byS (byS (byS (byS (byS (runF 0#32 (fun i => X.testBit i) (8 * 0)) (bu X 0)) (bu X 1)) (bu X 2)) (bu X 3)) (bu X 4) = _
  rw [← e 0, ← runF_add 0#32 (fun i => X.testBit i) (8 * 0) 8]
  show byS (byS (byS (byS (runF 0#32 (fun i => X.testBit i) (8 * 1)) (bu X 1)) (bu X 2)) (bu X 3)) (bu X 4) = _
  rw [← e 1, ← runF_add 0#32 (fun i => X.testBit i) (8 * 1) 8]
  show byS (byS (byS (runF 0#32 (fun i => X.testBit i) (8 * 2)) (bu X 2)) (bu X 3)) (bu X 4) = _
  rw [← e 2, ← runF_add 0#32 (fun i => X.testBit i) (8 * 2) 8]
  show byS (byS (runF 0#32 (fun i => X.testBit i) (8 * 3)) (bu X 3)) (bu X 4) = _
  rw [← e 3, ← runF_add 0#32 (fun i => X.testBit i) (8 * 3) 8]
  show byS (runF 0#32 (fun i => X.testBit i) (8 * 4)) (bu X 4) = _
  rw [← e 4, ← runF_add 0#32 (fun i => X.testBit i) (8 * 4) 8]
theorem burst (T sh : Nat) (hT : T < 4294967296) (hsh : sh < 8) (h : crcF 0#32 [(bu (T * 2 ^ sh) 0 : Int), bu (T * 2 ^ sh) 1, bu (T * 2 ^ sh) 2, bu (T * 2 ^ sh) 3, bu (T * 2 ^ sh) 4] = 0#32) : T = 0 := by
  rw [burst_run] at h
  have e40 : 40 = (sh + 32) + (8 - sh) := by omega
  rw [e40, runF_add, runF_add] at h
  have bit : ∀ k, (T * 2 ^ sh).testBit k = (decide (k ≥ sh) && T.testBit (k - sh)) := fun k => Nat.testBit_mul_two_pow T k sh
  rw [runF_false 0#32 _ sh (fun i hi => by rw [bit]; have : ¬ (i ≥ sh) := by omega
                                           simp [this]), zn_zero] at h
  rw [runF_false _ _ (8 - sh) (fun i hi => by
    rw [bit]
    have : T.testBit (sh + 32 + i - sh) = false := Nat.testBit_lt_two_pow (Nat.lt_of_lt_of_le hT (by
      have : 2 ^ 32 ≤ 2 ^ (sh + 32 + i - sh) := Nat.pow_le_pow_right (by omega) (by omega)
      simpa using this))
    simp [this])] at h
  have h2 := zn_eq_zero _ _ h
  rw [runF_congr 0#32 _ (BitVec.ofNat 32 T).getLsbD 32 (fun i hi => by
    rw [bit, BitVec.getLsbD_ofNat]
    have h3 : sh + i - sh = i := by omega
    simp [h3, hi]), runF_run, run_eq _ _ _ (Nat.le_refl _)] at h2
  have h3 := zn_eq_zero _ _ h2
  have h4 : low (BitVec.ofNat 32 T) 32 = BitVec.ofNat 32 T := by
    apply BitVec.eq_of_getLsbD_eq
    intro i hi
    rw [low_get _ _ _ hi]; simp [hi]
  rw [h4] at h3
  have h5 := congrArg BitVec.toNat h3
  simp at h5
  omega
/-- Bytes of which five are laid over with a burst have another sum. -/
theorem tells (pre post : List Int) (b0 b1 b2 b3 b4 : Int) (T sh : Nat) (hT : T < 4294967296) (hsh : sh < 8) (h0 : T ≠ 0)
    (k0 : isB b0) (k1 : isB b1) (k2 : isB b2) (k3 : isB b3) (k4 : isB b4) :
    crcZ (pre ++ [b0, b1, b2, b3, b4] ++ post) ≠ crcZ (pre ++ [xb b0 (bu (T * 2 ^ sh) 0), xb b1 (bu (T * 2 ^ sh) 1), xb b2 (bu (T * 2 ^ sh) 2), xb b3 (bu (T * 2 ^ sh) 3), xb b4 (bu (T * 2 ^ sh) 4)] ++ post) := by
  intro h
  unfold crcZ at h
  have h1 := congrArg (fun x => ~~~ x) h
  simp only [BitVec.not_not] at h1
  rw [crcF_append, crcF_append, crcF_append, crcF_append] at h1
  have h2 := crcF_inj _ _ _ h1
  generalize crcF (~~~ 0#32) pre = s at h2
  have B : ∀ j, isB (bu (T * 2 ^ sh) j : Int) := fun j => ⟨by omega, by have := bu_lt (T * 2 ^ sh) j; omega⟩
  have h3 := crcF_xor [b0, b1, b2, b3, b4] [(bu (T * 2 ^ sh) 0 : Int), bu (T * 2 ^ sh) 1, bu (T * 2 ^ sh) 2, bu (T * 2 ^ sh) 3, bu (T * 2 ^ sh) 4] s 0#32 rfl
    (by intro z hz; simp at hz; rcases hz with rfl | rfl | rfl | rfl | rfl <;> assumption)
    (by intro z hz; simp only [List.mem_cons, List.not_mem_nil, or_false] at hz; rcases hz with rfl | rfl | rfl | rfl | rfl <;> exact B _)
  simp only [List.zipWith_cons_cons, List.zipWith_nil_left, BitVec.xor_zero] at h3
  rw [h3] at h2
  apply h0
  apply burst T sh hT hsh
  generalize crcF 0#32 _ = d at h2 ⊢
  generalize crcF s _ = u at h2
  have h4 : u ^^^ u = u ^^^ (u ^^^ d) := by rw [← h2]
  rw [← BitVec.xor_assoc] at h4
  simpa using h4.symm
end Go.Proofs.Ytfggnchfkoifeaa.Cm
