/-
  A table of leases as an object: what it holds, in which blocks; what its calls answer.
  No condition.
-/
import Derived.Test.YtggafipgfgbbiaaRws
import Derived.Test.YtggafipgfgbbiaaTyp
import Derived.Test.YtggafipgfgbbiaaLea
import Derived.Test.YtggafipgfgbbiaaFltCnt
import Derived.Test.YtggafipgfgbbiaaFltMay
namespace Go.Proofs.Ytggafipgfgbbiaa.Le
set_option linter.unusedVariables false
set_option linter.unusedSimpArgs false
open Go.RowKit Go.Proofs.Ytggafipgfgbbiaa.Ba Go.Proofs.Ytggafipgfgbbiaa.Mem Go.Proofs.Ytggafipgfgbbiaa.Ty
open Go.Proofs.Ytggafipgfgbbiaa.Ls (LV leaC)
open Go.Proofs.Ytggafipgfgbbiaa.Fl (mayB btw cnt)
theorem leaC_len (a : LeaseV) : (leaC a).length = 10 := rfl
theorem leaC_one (a : LeaseV) : ∀ u ∈ leaC a, u.oneCell' = true := by
  intro u hu
  simp only [leaC, List.mem_cons, List.not_mem_nil, or_false] at hu
  rcases hu with rfl | rfl | rfl | rfl | rfl | rfl | rfl | rfl | rfl | rfl <;> rfl
theorem leas_one (ls : List LeaseV) : ∀ u ∈ rowsOf leaC ls, u.oneCell' = true := rowsOf_one' leaC_one ls
def zeroL : LeaseV := ⟨0, 0, 0, 0, 0, 0, 0, 0, 0, 0⟩
def askOf (l : LeaseV) : AskV := ⟨l.se, l.fl, l.fm, l.to, l.ma⟩
def tabC (c : CfgV) (v : Value) : Array Value := #[.int .i64 c.ca, .int .i64 c.fl, .int .i64 c.ft, .int .i64 c.se, .int .i64 c.dr, .int .i64 c.dw, .int .i64 c.ho, .int .i64 c.re, .int .i64 c.yi, .int .i64 c.qu, .int .i64 c.qo, .int .i64 c.lo, .int .i64 c.sl, .int .i64 c.rt, .int .i64 c.cp, .int .i64 c.tr, .int .i64 c.de, .int .i64 c.wi, v]
/-- The table t of world w: its setting, its leases; S: its blocks, all from lo on. -/
def TO (lo t : Nat) (c : CfgV) (ls : List LeaseV) (S : List Nat) (w : World) : Prop :=
  lo ≤ t ∧ ∃ A cap, S = t :: blkOf A ∧ Blk w t 101 (tabC c (.slice A ls.length cap)) ∧ w.ownsRow lo 56 10 (.slice A ls.length cap) ls.length (rowsOf leaC ls)
section
variable {w w' : World} {lo t b : Nat} {c : CfgV} {ls : List LeaseV} {S T : List Nat}
theorem TO.keep (k : Since w w') (h : TO lo t c ls S w) : TO lo t c ls S w' := by
  obtain ⟨h0, A, cap, rfl, B, O⟩ := h
  exact ⟨h0, A, cap, rfl, keep_blk k B, keep_own k O⟩
theorem TO.upd (k : Upd T w w') (h : TO lo t c ls S w) (hT : ∀ g ∈ S, g ∉ T) : TO lo t c ls S w' := by
  obtain ⟨h0, A, cap, rfl, B, O⟩ := h
  exact ⟨h0, A, cap, rfl, k.blk B (hT _ (by simp)), k.own O (fun g hg => hT g (by simp [hg]))⟩
theorem TO.low (h : TO lo t c ls S w) : ∀ g ∈ S, lo ≤ g := by
  obtain ⟨h0, A, cap, rfl, B, O⟩ := h
  intro g hg
  rcases List.mem_cons.1 hg with rfl | hg
  · exact h0
  · exact own_low O g hg
theorem TO.lt (h : TO lo t c ls S w) : ∀ g ∈ S, g < w.heap.size := by
  obtain ⟨h0, A, cap, rfl, B, O⟩ := h
  intro g hg
  rcases List.mem_cons.1 hg with rfl | hg
  · exact B.lt
  · exact own_lt O g hg
theorem TO.far (h : TO lo t c ls S w) (hb : w.heap.size ≤ b) : b ∉ S := fun hm => by have := h.lt b hm; omega
theorem TO.row_far (h : TO lo t c ls S w) (hb : b ∉ S) (cs : Array Value) : TO lo t c ls S (w.setRow b cs) :=
  h.upd (T := [b]) ((Upd.refl _ w).setRow (.inl (by simp)) cs) (fun g hg hgb => hb (by simpa using (List.mem_singleton.1 hgb) ▸ hg))
theorem TO.base {lo' : Nat} (h : TO lo t c ls S w) (hb : lo' ≤ lo) : TO lo' t c ls S w := by
  obtain ⟨h0, A, cap, rfl, B, O⟩ := h
  exact ⟨by omega, A, cap, rfl, B, own_base O hb⟩
end
theorem row_at {w : World} {g lo n c i : Nat} {ls : List LeaseV} (h : w.ownsRow lo 56 10 (.slice (some ⟨g, 0, none⟩) n c) n (rowsOf leaC ls)) (hi : i < ls.length) :
    ∀ j v, (leaC ls[i])[j]? = some v → w.cell? ⟨g, i * 10 + j, none⟩ = some v := own_rng h (rowsOf_at leaC_len hi)
/-- The leases, as fleet's calls read them. -/
theorem lv_own {w : World} {lo c : Nat} {A : Option Addr} {ls : List LeaseV} (h : w.ownsRow lo 56 10 (.slice A ls.length c) ls.length (rowsOf leaC ls)) : LV w A ls.length (fun i => ls.getD i zeroL) := by
  rcases Nat.eq_zero_or_pos ls.length with h0 | h0
  · exact .inl h0
  · obtain ⟨g, rfl⟩ := own_addr h h0
    refine .inr ⟨g, 0, rfl, own_lt h g (by simp [blkOf]), fun i hi j v hj => ?_⟩
    have e : ls.getD i zeroL = ls[i] := by simp [List.getD, hi]
    change (leaC (ls.getD i zeroL))[j]? = some v at hj
    rw [e] at hj
    rw [Nat.zero_add]
    exact row_at h hi j v hj
def goodB (c : CfgV) (l : LeaseV) : Bool := mayB c (askOf l) && decide (0 ≤ l.ca) && decide (l.ca < 8) && decide (1 ≤ l.ph) && decide (l.ph ≤ 4)
def isP (x l : LeaseV) : Bool := l.se == x.se || l.ca == x.ca
def isS (s : Int) (l : LeaseV) : Bool := l.se == s
def isC (s : Int) (l : LeaseV) : Bool := l.ca == s
def isT (x l : LeaseV) : Bool := l.se == x.se && l.ca == x.ca && l.fl == x.fl
def atP (ls : List LeaseV) (p : LeaseV → Bool) : Option Nat := ls.findIdx? p
theorem atP_some {ls : List LeaseV} {p : LeaseV → Bool} {k : Nat} (h : atP ls p = some k) : k < ls.length ∧ (∀ hk : k < ls.length, p ls[k] = true) ∧ ∀ j, j < k → ∀ hj : j < ls.length, p ls[j] = false := by
  obtain ⟨hk, h1, h2⟩ := List.findIdx?_eq_some_iff_getElem.1 h
  exact ⟨hk, fun _ => h1, fun j hj _ => by have := h2 j hj; simpa using this⟩
theorem atP_none {ls : List LeaseV} {p : LeaseV → Bool} (h : atP ls p = none) : ∀ j, ∀ hj : j < ls.length, p ls[j] = false := by
  intro j hj
  exact List.findIdx?_eq_none_iff.1 h ls[j] (List.getElem_mem hj)
def full (c : CfgV) (ls : List LeaseV) (f : Int) : Bool := !decide (cnt (fun i => ls.getD i zeroL) f ls.length < btw c.qo 1 8)
def putE (c : CfgV) (ls : List LeaseV) (l : LeaseV) : Int := if goodB c l = false then 1 else if (atP ls (isP l)).isSome then 7 else if full c ls l.fl then 5 else 0
def putL (c : CfgV) (ls : List LeaseV) (l : LeaseV) : List LeaseV := if putE c ls l = 0 then ls ++ [l] else ls
end Go.Proofs.Ytggafipgfgbbiaa.Le
