/-
  LinkAll's two ends as objects: what each call answers there.
  Conditions: what stands ahead of each.
-/
import Derived.Test.YtlihhjcneedgnaaLnkR
import Derived.Test.YtlihhjcneedgnaaAllMath
namespace Go.Proofs.Ytlihhjcneedgnaa.La
set_option linter.unusedVariables false
set_option linter.unusedSimpArgs false
open Go.RowKit Go.Proofs.Ytlihhjcneedgnaa.Ba Go.Proofs.Ytlihhjcneedgnaa.Mem Go.Proofs.Ytlihhjcneedgnaa.Ty Go.Proofs.Ytlihhjcneedgnaa.Tm Go.Proofs.Ytlihhjcneedgnaa.Tw Go.Proofs.Ytlihhjcneedgnaa.Ln
def cA : CfgV := ⟨0, 0, 0, 0, 0, 0, 0, 0, 0, 0, 0, 0, 0, 2, 9, 1073741824, 1073741824, 4⟩
def mA (j : Nat) : MsgV := ⟨2, (j : Int), 0, 0⟩
/-- The messages b .. s - 1. -/
def ms (b s : Nat) : List MsgV := (List.range' b (s - b)).map mA
def kA (base : Nat) (du st he : Int) : LkV := ⟨cA, 0, 1, (base : Int), st, du, 0, false, he⟩
def kB (got : Nat) (an : Bool) (he : Int) : LkV := ⟨cA, 0, 1, 0, 0, 0, (got : Int), an, he⟩
theorem ms_len (b s : Nat) : (ms b s).length = s - b := by simp [ms]
theorem ms_head {b s : Nat} (h : b < s) : (ms b s)[0]? = some (mA b) := by
  obtain ⟨d, hd⟩ : ∃ d, s - b = d + 1 := ⟨s - b - 1, by omega⟩
  simp [ms, hd, List.range'_succ]
theorem ms_tail {b s : Nat} (h : b < s) : (ms b s).tail = ms (b + 1) s := by
  obtain ⟨d, hd⟩ : ∃ d, s - b = d + 1 := ⟨s - b - 1, by omega⟩
  have hd2 : s - (b + 1) = d := by omega
  simp [ms, hd, hd2, List.range'_succ]
theorem ms_snoc {b s : Nat} (h : b ≤ s) : ms b s ++ [mA s] = ms b (s + 1) := by
  have hd : s + 1 - b = (s - b) + 1 := by omega
  have hs : b + (s - b) = s := by omega
  simp [ms, hd, List.range'_concat, hs]
theorem nx_of {b : Nat} (h : b < 65535) : Se.nx (b : Int) = ((b + 1 : Nat) : Int) := by unfold Se.nx; omega
theorem win : winV cA = 4 := by decide
section
variable {lo q : Nat} {S : List Nat} {w : World}
theorem sendA {base sent k : Nat} {du st he : Int} (h : LO lo q (kA base du st he) (ms base sent) S w) (hb : base ≤ sent) (hk : sent ≤ 1000) (hs : sent < k) :
    Calls Try.prog 14 #[.pointer (some ⟨q, 0, none⟩), .agg #[.int .i64 2, .int .i64 (sent : Int), .int .i64 0, .int .i64 0]] w fun e w' => ∃ S', e = .returned (.bool (decide (sent < base + 4))) ∧ LO lo q (kA base du st he) (ms base (snd k base sent)) S' w' ∧ Upd S w w' ∧ ∀ g ∈ S', g ∈ S ∨ w.heap.size ≤ g := by
  have hl := ms_len base sent
  have e0 : ((ms base sent).length : Int) < winV (kA base du st he).c ↔ sent < base + 4 := by
    rw [hl, show winV (kA base du st he).c = 4 from win]; omega
  refine (sendT h (mA sent) (by rw [hl]; omega)).mono ?_
  rintro e w1 ⟨S', rfl, h1, h2, h3⟩
  refine ⟨S', by rw [decide_eq_decide.2 e0], ?_, h2, h3⟩
  by_cases h4 : sent < base + 4
  · rw [if_pos (e0.2 h4), ms_snoc hb] at h1
    rw [show snd k base sent = sent + 1 by unfold snd; rw [if_pos ⟨hs, h4⟩]]
    exact h1
  · rw [if_neg (fun h => h4 (e0.1 h))] at h1
    rw [show snd k base sent = sent by unfold snd; rw [if_neg (fun h => h4 h.2)]]
    exact h1
theorem pollA0 {base s : Nat} {du st he : Int} (h : LO lo q (kA base du st he) (ms base s) S w) (i : Nat) (hi : i ≤ 1000000) (hs : s ≤ 1000) (h0 : 0 ≤ du) (h1 : du ≤ 1099511627776) (hd : s ≤ base ∨ (i : Int) < du) :
    Calls Try.prog 15 #[.pointer (some ⟨q, 0, none⟩), .int .i64 (i : Int)] w fun e w' => e = .returned (.tuple #[.agg #[.int .i64 0, .int .i64 0, .int .i64 0, .int .i64 0, .bool false, .int .i64 0, .int .i64 0, .int .i64 0, .int .i64 0], .bool false]) ∧ Since w w' := by
  refine pollNoV h i (by rw [ms_len]; omega) ?_ rfl
  have e1 : cl (i : Int) = i := cl_id _ (by omega) (by omega)
  have e2 : cl du = du := cl_id _ h0 h1
  show (decide (0 < (ms base s).length) && decide (cl du ≤ cl (i : Int))) = false
  rw [e1, e2, ms_len]
  rcases hd with hd | hd
  · rw [decide_eq_false (by omega)]; rfl
  · rw [decide_eq_false (p := du ≤ (i : Int)) (by omega), Bool.and_false]
theorem pollA1 {base s : Nat} {du st he : Int} (h : LO lo q (kA base du st he) (ms base s) S w) (i : Nat) (hi : i ≤ 1000000) (hs : s ≤ 1000) (h0 : 0 ≤ du) (hb : base < s) (hd : du ≤ (i : Int)) (t0 : 0 ≤ st) (t1 : st ≤ 1000000) :
    Calls Try.prog 15 #[.pointer (some ⟨q, 0, none⟩), .int .i64 (i : Int)] w fun e w' => ∃ S', e = .returned (.tuple #[.agg #[.int .i64 0, .int .i64 1, .int .i64 (base : Int), .int .i64 0, .bool true, .int .i64 2, .int .i64 (base : Int), .int .i64 0, .int .i64 0], .bool true]) ∧ LO lo q (kA base ((i : Int) + pa 2 9 st) (st + 1) he) (ms base s) S' w' ∧ Upd S w w' ∧ ∀ g ∈ S', g ∈ S ∨ w.heap.size ≤ g := by
  refine pollDueV h i (mA base) (by rw [ms_len]; omega) ?_ (ms_head hb) ⟨by show -1000000000 ≤ st; omega, by show st ≤ 1000000000; omega⟩ _ ?_ _ rfl
  · have e1 : cl (i : Int) = i := cl_id _ (by omega) (by omega)
    have e2 : cl du = du := cl_id _ h0 (by omega)
    show (decide (0 < (ms base s).length) && decide (cl du ≤ cl (i : Int))) = true
    rw [e1, e2, ms_len, decide_eq_true (by omega), decide_eq_true hd]
    rfl
  · rw [← due_sum i hi st]
    rfl
theorem recvB1 {got : Nat} {he : Int} (h : LO lo q (kB got false he) [] S w) (base i : Nat) (hg : got ≤ 1000) (hb : base = got) :
    Calls Try.prog 16 #[.pointer (some ⟨q, 0, none⟩), .agg #[.int .i64 0, .int .i64 1, .int .i64 (base : Int), .int .i64 0, .bool true, .int .i64 2, .int .i64 (base : Int), .int .i64 0, .int .i64 0], .int .i64 (i : Int)] w fun e w' => ∃ S', e = .returned (.tuple #[.agg #[.int .i64 2, .int .i64 (got : Int), .int .i64 0, .int .i64 0], .bool true]) ∧ LO lo q (kB (got + 1) true (mx2 he (cl i))) [] S' w' ∧ Upd S w w' ∧ ∀ g ∈ S', g ∈ S ∨ w.heap.size ≤ g := by
  subst hb
  refine recvTakeV h ⟨0, 1, (base : Int), 0, true, mA base⟩ i rfl rfl rfl rfl ?_ rfl _ ?_ _ _ rfl rfl
  · show decide (0 < Se.ne (base : Int) (base : Int)) = false
    exact decide_eq_false (by unfold Se.ne; omega)
  · show (⟨cA, 0, 1, 0, 0, 0, Se.nx (base : Int), true, mx2 he (cl i)⟩ : LkV) = _
    rw [nx_of (by omega)]
    rfl
theorem pollB1 {got : Nat} {he : Int} (h : LO lo q (kB got true he) [] S w) (i : Nat) :
    Calls Try.prog 15 #[.pointer (some ⟨q, 0, none⟩), .int .i64 (i : Int)] w fun e w' => ∃ S', e = .returned (.tuple #[.agg #[.int .i64 0, .int .i64 1, .int .i64 0, .int .i64 (got : Int), .bool false, .int .i64 0, .int .i64 0, .int .i64 0, .int .i64 0], .bool true]) ∧ LO lo q (kB got false he) [] S' w' ∧ Upd S w w' ∧ ∀ g ∈ S', g ∈ S ∨ w.heap.size ≤ g :=
  pollAnsV h i (by decide) rfl rfl _ rfl _ rfl
theorem pollB0 {got : Nat} {he : Int} (h : LO lo q (kB got false he) [] S w) (i : Nat) :
    Calls Try.prog 15 #[.pointer (some ⟨q, 0, none⟩), .int .i64 (i : Int)] w fun e w' => e = .returned (.tuple #[.agg #[.int .i64 0, .int .i64 0, .int .i64 0, .int .i64 0, .bool false, .int .i64 0, .int .i64 0, .int .i64 0, .int .i64 0], .bool false]) ∧ Since w w' :=
  pollNoV h i (by decide) rfl rfl
theorem recvA1 {base s : Nat} {du st he : Int} (h : LO lo q (kA base du st he) (ms base s) S w) (got i : Nat) (hs : s ≤ 1000) (hb : base < s) (hg : got = base + 1) :
    Calls Try.prog 16 #[.pointer (some ⟨q, 0, none⟩), .agg #[.int .i64 0, .int .i64 1, .int .i64 0, .int .i64 (got : Int), .bool false, .int .i64 0, .int .i64 0, .int .i64 0, .int .i64 0], .int .i64 (i : Int)] w fun e w' => ∃ S', e = .returned (.tuple #[.agg #[.int .i64 0, .int .i64 0, .int .i64 0, .int .i64 0], .bool false]) ∧ LO lo q (kA (base + 1) 0 0 (mx2 he (cl i))) (ms (base + 1) s) S' w' ∧ Upd S w w' ∧ ∀ g ∈ S', g ∈ S ∨ w.heap.size ≤ g := by
  subst hg
  refine recvAckV h ⟨0, 1, 0, ((base + 1 : Nat) : Int), false, zeroM⟩ i (s - base - 1) (by rw [ms_len]; omega) rfl rfl (by rw [ms_len]; omega) (nx_of (by omega)).symm rfl _ ?_ _ (ms_tail hb) _ rfl
  show (⟨cA, 0, 1, Se.nx (base : Int), 0, 0, 0, false, mx2 he (cl i)⟩ : LkV) = _
  rw [nx_of (by omega)]
  rfl
theorem recvB0 {got : Nat} {he : Int} (h : LO lo q (kB got false he) [] S w) (base i : Nat) (hg : got ≤ 1000) (hb : got = base + 1) :
    Calls Try.prog 16 #[.pointer (some ⟨q, 0, none⟩), .agg #[.int .i64 0, .int .i64 1, .int .i64 (base : Int), .int .i64 0, .bool true, .int .i64 2, .int .i64 (base : Int), .int .i64 0, .int .i64 0], .int .i64 (i : Int)] w fun e w' => ∃ S', e = .returned (.tuple #[.agg #[.int .i64 0, .int .i64 0, .int .i64 0, .int .i64 0], .bool false]) ∧ LO lo q (kB got true (mx2 he (cl i))) [] S' w' ∧ Upd S w w' ∧ ∀ g ∈ S', g ∈ S ∨ w.heap.size ≤ g := by
  subst hb
  obtain ⟨h0, A, c, rfl, B, O⟩ := h
  refine (recv_e_ahead lo q (kB (base + 1) false he) [] A c ⟨0, 1, (base : Int), 0, true, mA base⟩ i w B O (by decide) rfl rfl h0 rfl rfl ?_ ?_).mono ?_
  · show decide (0 < Se.ne ((base + 1 : Nat) : Int) (base : Int)) = false
    exact decide_eq_false (by unfold Se.ne; omega)
  · show (base : Int) ≠ ((base + 1 : Nat) : Int)
    omega
  · rintro e w1 ⟨rfl, h1, h2⟩
    exact ⟨_, rfl, h1, h2, fun g hg => .inl hg⟩
end
end Go.Proofs.Ytlihhjcneedgnaa.La
