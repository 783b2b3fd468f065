/-
  Plain facts on doors: how one stands behind a tick; which ones are good.
  No condition.
-/
namespace Go.Proofs.Ytdbbacpofgjgoaa.Do
set_option linter.unusedVariables false
set_option linter.unusedSimpArgs false
/-- A timer's ticks. -/
def hd (t : Int) : Int := if t < 1 then 1 else if 1000 < t then 1000 else t
theorem hd_lo (t : Int) : 1 ≤ hd t := by unfold hd; repeat' split <;> omega
theorem hd_hi (t : Int) : hd t ≤ 1000 := by unfold hd; repeat' split <;> omega
def gd (s a t : Int) : Bool := decide ((s = 0 ∧ a = 0) ∨ (s = 2 ∧ a = hd t) ∨ ((s = 1 ∨ s = 3) ∧ 0 ≤ a ∧ a ≤ hd t))
theorem gd_iff (s a t : Int) : gd s a t = true ↔ ((s = 0 ∧ a = 0) ∨ (s = 2 ∧ a = hd t) ∨ ((s = 1 ∨ s = 3) ∧ 0 ≤ a ∧ a ≤ hd t)) := by unfold gd; simp
theorem gd_bd (s a t : Int) (h : gd s a t = true) : 0 ≤ s ∧ s ≤ 3 ∧ 0 ≤ a ∧ a ≤ 1000 := by
  have := hd_lo t; have := hd_hi t; rw [gd_iff] at h; omega
/-- Told to open; told to close. -/
def oS (s : Int) : Int := if s = 0 ∨ s = 3 then 1 else s
def cS (s : Int) : Int := if s = 1 ∨ s = 2 then 3 else s
/-- A tick: the state; the place. -/
def tS (s a t : Int) (b : Bool) : Int := if s = 3 ∧ b = true then 1 else if s = 3 ∧ a ≤ 1 then 0 else if s = 3 then 3 else if s = 1 ∧ hd t ≤ a + 1 then 2 else s
def tA (s a t : Int) (b : Bool) : Int := if s = 3 ∧ b = true then a else if s = 3 ∧ a ≤ 1 then 0 else if s = 3 then a - 1 else if s = 1 ∧ hd t ≤ a + 1 then hd t else if s = 1 then a + 1 else a
/-- Opening, closing, by one. -/
def pS (s a t : Int) : Int := if t ≤ a + 1 then 2 else s
def pA (a t : Int) : Int := if t ≤ a + 1 then t else a + 1
def qS (s a : Int) : Int := if a ≤ 1 then 0 else s
def qA (a : Int) : Int := if a ≤ 1 then 0 else a - 1
theorem tS_1 (a t : Int) (b : Bool) : tS 1 a t b = pS 1 a (hd t) := by unfold tS pS; simp
theorem tA_1 (a t : Int) (b : Bool) : tA 1 a t b = pA a (hd t) := by unfold tA pA; simp
theorem tS_3 (a t : Int) : tS 3 a t false = qS 3 a := by unfold tS qS; simp
theorem tA_3 (a t : Int) : tA 3 a t false = qA a := by unfold tA qA; simp
theorem tS_b (a t : Int) : tS 3 a t true = oS 3 := by unfold tS oS; simp
theorem tA_b (a t : Int) : tA 3 a t true = a := by unfold tA; simp
theorem tS_o (s a t : Int) (b : Bool) (h1 : s ≠ 1) (h3 : s ≠ 3) : tS s a t b = s := by unfold tS; simp [h1, h3]
theorem tA_o (s a t : Int) (b : Bool) (h1 : s ≠ 1) (h3 : s ≠ 3) : tA s a t b = a := by unfold tA; simp [h1, h3]
theorem gd_open (s a t : Int) (h : gd s a t = true) : gd (oS s) a t = true := by
  rw [gd_iff] at *; unfold oS; have := hd_lo t; split <;> omega
theorem gd_close (s a t : Int) (h : gd s a t = true) : gd (cS s) a t = true := by
  rw [gd_iff] at *; unfold cS; have := hd_lo t; split <;> omega
theorem gd_tick (s a t : Int) (b : Bool) (h : gd s a t = true) : gd (tS s a t b) (tA s a t b) t = true := by
  rw [gd_iff] at *; unfold tS tA; have := hd_lo t; have := hd_hi t
  cases b <;> simp <;> (repeat' split) <;> omega
theorem tA_near (s a t : Int) (b : Bool) (h : gd s a t = true) : tA s a t b - a ≤ 1 ∧ a - tA s a t b ≤ 1 := by
  rw [gd_iff] at h; unfold tA; have := hd_lo t; have := hd_hi t
  cases b <;> simp <;> (repeat' split) <;> omega
/-- A door that opens in n ticks, behind k of them; one that closes. -/
def opS (k n : Int) : Int := if k < n then 1 else 2
def clS (k n : Int) : Int := if k < n then 3 else 0
theorem opS_go (k n : Int) (h : k < n) : opS k n = 1 := if_pos h
theorem opS_end (n : Int) : opS n n = 2 := if_neg (by omega)
theorem clS_go (k n : Int) (h : k < n) : clS k n = 3 := if_pos h
theorem clS_end (n : Int) : clS n n = 0 := if_neg (by omega)
theorem hd_id (n : Int) (h : 1 ≤ n) (k : n ≤ 1000) : hd n = n := by unfold hd; repeat' split <;> omega
theorem op_tick (k n : Int) (b : Bool) (h0 : 0 ≤ k) (h : k < n) (h1 : n ≤ 1000) : tS 1 k n b = opS (k + 1) n ∧ tA 1 k n b = k + 1 := by
  rw [tS_1, tA_1, hd_id n (by omega) h1]; unfold pS pA opS
  constructor <;> repeat' split <;> omega
theorem cl_tick (k n : Int) (h0 : 0 ≤ k) (h : k < n) (h1 : n ≤ 1000) : tS 3 (n - k) n false = clS (k + 1) n ∧ tA 3 (n - k) n false = n - (k + 1) := by
  rw [tS_3, tA_3]; unfold qS qA clS
  constructor <;> repeat' split <;> omega
end Go.Proofs.Ytdbbacpofgjgoaa.Do
