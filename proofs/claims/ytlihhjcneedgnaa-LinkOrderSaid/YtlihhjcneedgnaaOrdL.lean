/-
  LinkOrder: blocks told apart by their types; a bit, and a rest, of what came in.
  No condition.
-/
import Derived.Test.YtlihhjcneedgnaaOrdC
namespace Go.Proofs.Ytlihhjcneedgnaa.Lo
set_option linter.unusedVariables false
set_option linter.unusedSimpArgs false
open Go.RowKit Go.Proofs.Ytlihhjcneedgnaa.Ba Go.Proofs.Ytlihhjcneedgnaa.Mem Go.Proofs.Ytlihhjcneedgnaa.Ty Go.Proofs.Ytlihhjcneedgnaa.Tm Go.Proofs.Ytlihhjcneedgnaa.Tw Go.Proofs.Ytlihhjcneedgnaa.Ln
theorem lo_ty {lo q g : Nat} {k : LkV} {ls : List MsgV} {S : List Nat} {w : World} {t : TypeId} {cs : Array Value} (hb : Blk w g t cs) (h : LO lo q k ls S w) (h1 : t ≠ 88) (h2 : t ≠ 36) : g ∉ S := by
  obtain ⟨h0, A, c, rfl, B, O⟩ := h
  intro hg
  rcases List.mem_cons.1 hg with rfl | hg
  · exact Blk.ne_ hb B h1 rfl
  · exact own_ne_ty O hb h2 hg
theorem lo_row {lo q base n c : Nat} {k : LkV} {ls : List MsgV} {S : List Nat} {w : World} {A : Option Addr} {xs : List Value} (ho : w.ownsRow base 38 9 (.slice A n c) n xs) (h : LO lo q k ls S w) : ∀ g ∈ blkOf A, g ∉ S := by
  rcases own_at ho with ⟨rfl, _⟩ | ⟨g0, cur, rfl, _, hg, _⟩
  · intro g hg; simp [blkOf] at hg
  · intro g hg'
    have : g = g0 := by simpa [blkOf] using hg'
    subst this
    exact lo_ty hg h (by decide) (by decide)
theorem wrL (x : Int) (h0 : -9223372036854775808 ≤ x) (h1 : x ≤ 9223372036854775807) : IntKind.i64.wrap x = x := by
  simp only [IntKind.wrap, IntKind.bits, IntKind.signed]; simp; omega
theorem and1 (x : Int) : ∃ n : Nat, n ≤ 1 ∧ bits .and .i64 x 1 = (n : Int) := by
  have h : (BitVec.ofInt 64 x &&& BitVec.ofInt 64 1).toNat ≤ 1 := by
    rw [BitVec.toNat_and]
    exact Nat.le_trans Nat.and_le_right (by decide)
  obtain ⟨m, hm⟩ : ∃ m, m = (BitVec.ofInt 64 x &&& BitVec.ofInt 64 1).toNat := ⟨_, rfl⟩
  rw [← hm] at h
  refine ⟨m, h, ?_⟩
  show IntKind.i64.wrap (((BitVec.ofInt 64 x &&& BitVec.ofInt 64 1).toNat : Nat) : Int) = m
  rw [← hm]
  exact wrL (m : Int) (by omega) (by omega)
theorem kmod (x : Int) {n : Nat} (hn : 0 < n) : ∃ k : Nat, k < n ∧ IntKind.u64.wrap x % (n : Int) = (k : Int) ∧ 0 ≤ IntKind.u64.wrap x := by
  have h0 : 0 ≤ IntKind.u64.wrap x := by
    simp only [IntKind.wrap, IntKind.bits, IntKind.signed]
    simp
    omega
  have h1 := Int.emod_nonneg (IntKind.u64.wrap x) (show (n : Int) ≠ 0 by omega)
  have h2 := Int.emod_lt_of_pos (IntKind.u64.wrap x) (show (0 : Int) < n by omega)
  exact ⟨(IntKind.u64.wrap x % (n : Int)).toNat, by omega, by omega, h0⟩
theorem row_pk {g lo n c k : Nat} {w : World} {ls : List PkV} {p : PkV} (h : w.ownsRow lo 38 9 (.slice (some ⟨g, 0, none⟩) n c) n (rowsOf pkL ls)) (hp : ls[k]? = some p) :
    ∀ j v, (pkL p)[j]? = some v → w.cell? ⟨g, k * 9 + j, none⟩ = some v := by
  obtain ⟨hk, rfl⟩ := List.getElem?_eq_some_iff.1 hp
  exact own_rng h (rowsOf_at pkL_len hk)
theorem pk_of {ps : List PkV} {b g s k : Nat} {p : PkV} (h : PsI ps b g s) (hp : ps[k]? = some p) : PkI p b g s := h p (List.mem_of_getElem? hp)
end Go.Proofs.Ytlihhjcneedgnaa.Lo
