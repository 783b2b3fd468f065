/-
  LinkAll's rounds as plain numbers: what holds ahead of round i, and that each way of a round keeps it.
  base: messages acked; sent, got; du: when the first that waits is due; st: how often it was sent; n: rounds that may lose.
  No condition.
-/
import Derived.Test.YtlihhjcneedgnaaMath
namespace Go.Proofs.Ytlihhjcneedgnaa.La
set_option linter.unusedVariables false
set_option linter.unusedSimpArgs false
open Go.Proofs.Ytlihhjcneedgnaa.Tm
def AllI (k n i base sent got : Nat) (du st : Int) : Prop :=
  base ≤ got ∧ got ≤ base + 1 ∧ got ≤ sent ∧ sent ≤ k ∧ sent ≤ base + 4 ∧ 0 ≤ du ∧ 0 ≤ st ∧ st ≤ i ∧ (i ≤ n → du ≤ (i : Int) + 8) ∧ (n ≤ i → du ≤ (n : Int) + 8) ∧ (n + 9 ≤ i → i ≤ base + n + 9 ∨ base = k)
/-- How many were sent, behind this round's Send. -/
def snd (k base sent : Nat) : Nat := if sent < k ∧ sent < base + 4 then sent + 1 else sent
theorem first (k n : Nat) : AllI k n 0 0 0 0 0 0 := by unfold AllI; omega
section
variable {k n i base sent got : Nat} {du st : Int}
theorem snd_le (h : AllI k n i base sent got du st) : sent ≤ snd k base sent ∧ snd k base sent ≤ k ∧ snd k base sent ≤ base + 4 ∧ (base < k → base < snd k base sent) := by
  unfold AllI at h
  unfold snd
  split <;> omega
theorem quiet (h : AllI k n i base sent got du st) (hd : snd k base sent = base ∨ (i : Int) < du) : AllI k n (i + 1) base (snd k base sent) got du st := by
  have h2 := snd_le h
  unfold AllI at h ⊢
  omega
theorem lost1 (h : AllI k n i base sent got du st) {p : Int} (hp : 0 ≤ p) (hq : p ≤ 9) (hn : i < n) : AllI k n (i + 1) base (snd k base sent) got ((i : Int) + p) (st + 1) := by
  have h2 := snd_le h
  unfold AllI at h ⊢
  omega
theorem lost2 (h : AllI k n i base sent got du st) (hs : base < snd k base sent) {p : Int} (hp : 0 ≤ p) (hq : p ≤ 9) (hn : i < n) : AllI k n (i + 1) base (snd k base sent) (base + 1) ((i : Int) + p) (st + 1) := by
  have h2 := snd_le h
  unfold AllI at h ⊢
  omega
theorem acked (h : AllI k n i base sent got du st) (hs : base < snd k base sent) : AllI k n (i + 1) (base + 1) (snd k base sent) (base + 1) 0 0 := by
  have h2 := snd_le h
  unfold AllI at h ⊢
  omega
theorem last (h : AllI k n (60 + 20 * k + n) base sent got du st) : base = k ∧ sent = k ∧ got = k := by
  unfold AllI at h
  omega
end
theorem pa9 (t : Int) : 0 ≤ pa 2 9 t ∧ pa 2 9 t ≤ 9 := by
  refine ⟨pa_lo _ _ _, ?_⟩
  have : cl 9 = 9 := by decide
  unfold pa
  omega
theorem due_sum (i : Nat) (hi : i ≤ 1000000) (t : Int) : cl (cl (i : Int) + cl (pa 2 9 t)) = (i : Int) + pa 2 9 t := by
  have := pa9 t
  rw [cl_id (i : Int) (by omega) (by omega), cl_id (pa 2 9 t) (by omega) (by omega), cl_id _ (by omega) (by omega)]
end Go.Proofs.Ytlihhjcneedgnaa.La
