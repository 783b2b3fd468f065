/-
  A link as an object: what it knows, what waits, in which blocks.
  No condition.
-/
import Derived.Test.YtlihhjcneedgnaaRws
import Derived.Test.YtlihhjcneedgnaaTyp
import Derived.Test.YtlihhjcneedgnaaTckP
import Derived.Test.YtlihhjcneedgnaaSerW
namespace Go.Proofs.Ytlihhjcneedgnaa.Ln
set_option linter.unusedVariables false
set_option linter.unusedSimpArgs false
open Go.RowKit Go.Proofs.Ytlihhjcneedgnaa.Ba Go.Proofs.Ytlihhjcneedgnaa.Mem Go.Proofs.Ytlihhjcneedgnaa.Ty Go.Proofs.Ytlihhjcneedgnaa.Tm Go.Proofs.Ytlihhjcneedgnaa.Tw
structure MsgV where
  ki : Int
  a : Int
  b : Int
  c : Int
structure PkV where
  se : Int
  ep : Int
  sq : Int
  ak : Int
  ha : Bool
  m : MsgV
structure LkV where
  c : CfgV
  se : Int
  ep : Int
  sq : Int
  st : Int
  du : Int
  ak : Int
  an : Bool
  he : Int
instance : Inhabited MsgV := ⟨⟨0, 0, 0, 0⟩⟩
def zeroM : MsgV := ⟨0, 0, 0, 0⟩
def msgC (m : MsgV) : List Value := [.int .i64 m.ki, .int .i64 m.a, .int .i64 m.b, .int .i64 m.c]
theorem msgC_len (m : MsgV) : (msgC m).length = 4 := rfl
theorem msgC_one (m : MsgV) : ∀ u ∈ msgC m, u.oneCell' = true := by
  intro u hu
  simp only [msgC, List.mem_cons, List.not_mem_nil, or_false] at hu
  rcases hu with rfl | rfl | rfl | rfl <;> rfl
def pkC (p : PkV) : Array Value := #[.int .i64 p.se, .int .i64 p.ep, .int .i64 p.sq, .int .i64 p.ak, .bool p.ha, .int .i64 p.m.ki, .int .i64 p.m.a, .int .i64 p.m.b, .int .i64 p.m.c]
def lkC (k : LkV) (sl : Value) : Array Value := #[.int .i64 k.c.ca, .int .i64 k.c.fl, .int .i64 k.c.ft, .int .i64 k.c.se, .int .i64 k.c.dr, .int .i64 k.c.dw, .int .i64 k.c.ho, .int .i64 k.c.re, .int .i64 k.c.yi, .int .i64 k.c.qu, .int .i64 k.c.qo, .int .i64 k.c.lo, .int .i64 k.c.sl, .int .i64 k.c.rt, .int .i64 k.c.cp, .int .i64 k.c.tr, .int .i64 k.c.de, .int .i64 k.c.wi, .int .i64 k.se, .int .i64 k.ep, sl, .int .i64 k.sq, .int .i64 k.st, .int .i64 k.du, .int .i64 k.ak, .bool k.an, .int .i64 k.he]
/-- The link q of world w: what it knows, what waits; S: its blocks, all from lo on. -/
def LO (lo q : Nat) (k : LkV) (ls : List MsgV) (S : List Nat) (w : World) : Prop :=
  lo ≤ q ∧ ∃ A c, S = q :: blkOf A ∧ Blk w q 88 (lkC k (.slice A ls.length c)) ∧ w.ownsRow lo 36 4 (.slice A ls.length c) ls.length (rowsOf msgC ls)
section
variable {w w' : World} {lo q b : Nat} {k : LkV} {ls : List MsgV} {S T : List Nat}
theorem LO.keep (e : Since w w') (h : LO lo q k ls S w) : LO lo q k ls S w' := by
  obtain ⟨h0, A, c, rfl, B, O⟩ := h
  exact ⟨h0, A, c, rfl, keep_blk e B, keep_own e O⟩
theorem LO.upd (e : Upd T w w') (h : LO lo q k ls S w) (hT : ∀ g ∈ S, g ∉ T) : LO lo q k ls S w' := by
  obtain ⟨h0, A, c, rfl, B, O⟩ := h
  exact ⟨h0, A, c, rfl, e.blk B (hT _ (by simp)), e.own O (fun g hg => hT g (by simp [hg]))⟩
theorem LO.low (h : LO lo q k ls S w) : ∀ g ∈ S, lo ≤ g := by
  obtain ⟨h0, A, c, rfl, B, O⟩ := h
  intro g hg
  rcases List.mem_cons.1 hg with rfl | hg
  · exact h0
  · exact own_low O g hg
theorem LO.lt (h : LO lo q k ls S w) : ∀ g ∈ S, g < w.heap.size := by
  obtain ⟨h0, A, c, rfl, B, O⟩ := h
  intro g hg
  rcases List.mem_cons.1 hg with rfl | hg
  · exact B.lt
  · exact own_lt O g hg
theorem LO.far (h : LO lo q k ls S w) (hb : w.heap.size ≤ b) : b ∉ S := fun hm => by have := h.lt b hm; omega
theorem LO.row_far (h : LO lo q k ls S w) (hb : b ∉ S) (cs : Array Value) : LO lo q k ls S (w.setRow b cs) :=
  h.upd (T := [b]) ((Upd.refl _ w).setRow (.inl (by simp)) cs) (fun g hg hgb => hb (by simpa using (List.mem_singleton.1 hgb) ▸ hg))
end
/-- How many messages wait at most. -/
def mx1 (n : Int) : Int := if n < 1 then 1 else n
def winV (c : CfgV) : Int := if 16 < mx1 c.wi then 16 else mx1 c.wi
/-- Is the first that waits due? -/
def dueB (k : LkV) (n : Nat) (now : Int) : Bool := decide (0 < n) && decide (cl k.du ≤ cl now)
theorem row0 {g lo n c : Nat} {w : World} {ls : List MsgV} {m : MsgV} (h : w.ownsRow lo 36 4 (.slice (some ⟨g, 0, none⟩) n c) n (rowsOf msgC ls)) (hm : ls[0]? = some m) :
    ∀ j v, (msgC m)[j]? = some v → w.cell? ⟨g, 0 + j, none⟩ = some v := by
  obtain ⟨h0, rfl⟩ := List.getElem?_eq_some_iff.1 hm
  simpa using own_rng h (rowsOf_at msgC_len h0)
theorem row_at {g lo n c i : Nat} {w : World} {ls : List MsgV} (h : w.ownsRow lo 36 4 (.slice (some ⟨g, 0, none⟩) n c) n (rowsOf msgC ls)) (hi : i < ls.length) :
    ∀ j v, (msgC ls[i])[j]? = some v → w.cell? ⟨g, i * 4 + j, none⟩ = some v := own_rng h (rowsOf_at msgC_len hi)
end Go.Proofs.Ytlihhjcneedgnaa.Ln
