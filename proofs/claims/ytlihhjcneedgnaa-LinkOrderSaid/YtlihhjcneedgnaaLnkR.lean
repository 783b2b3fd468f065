/-
  a link's Send, Poll, Recv at the object, whatever it holds.
  Conditions: what stands ahead of each.
-/
import Derived.Test.YtlihhjcneedgnaaProg
import Derived.Test.YtlihhjcneedgnaaShort
import Derived.Test.YtlihhjcneedgnaaLnkD
import Derived.Test.YtlihhjcneedgnaaLnkF
import Derived.Test.YtlihhjcneedgnaaLnkG
import Derived.Test.YtlihhjcneedgnaaLnkH
namespace Go.Proofs.Ytlihhjcneedgnaa.Ln
set_option linter.unusedVariables false
set_option linter.unusedSimpArgs false
open Go.RowKit Go.Proofs.Ytlihhjcneedgnaa.Ba Go.Proofs.Ytlihhjcneedgnaa.Mem Go.Proofs.Ytlihhjcneedgnaa.Ty Go.Proofs.Ytlihhjcneedgnaa.Tm Go.Proofs.Ytlihhjcneedgnaa.Tw
set_option maxRecDepth 100000
attribute [local irreducible] Go.wpList
def okB (k : LkV) (p : PkV) : Bool := decide (p.se = k.se) && decide (p.ep = k.ep)
def arrB (k : LkV) (n : Nat) (p : PkV) : Bool := decide (0 < n) && decide (p.ak = Se.nx k.sq)
def newB (k : LkV) (p : PkV) : Bool := decide (0 < Se.ne k.ak p.sq)
/-- What a link is behind a packet. -/
def hearK (k : LkV) (n : Nat) (p : PkV) (now : Int) : LkV := if arrB k n p then { k with he := mx2 k.he (cl now), sq := Se.nx k.sq, st := 0, du := 0 } else { k with he := mx2 k.he (cl now) }
def takeB (k : LkV) (p : PkV) : Bool := okB k p && p.ha && !newB k p && decide (p.sq = k.ak)
def recvK (k : LkV) (n : Nat) (p : PkV) (now : Int) : LkV :=
  if okB k p then (if p.ha && !newB k p then (if p.sq = k.ak then { hearK k n p now with an := true, ak := Se.nx k.ak } else { hearK k n p now with an := true }) else hearK k n p now) else k
def recvL (k : LkV) (ls : List MsgV) (p : PkV) : List MsgV := if okB k p && arrB k ls.length p then ls.tail else ls
def recvM (k : LkV) (p : PkV) : MsgV := if takeB k p then p.m else zeroM
/-- What a link is, and says, when it is asked. -/
def pollK (k : LkV) (n : Nat) (now : Int) : LkV := if dueB k n now then { k with du := cl (cl now + cl (pa k.c.rt k.c.cp k.st)), st := k.st + 1, an := false } else { k with an := false }
def pollB (k : LkV) (n : Nat) (now : Int) : Bool := dueB k n now || k.an
def pollP (k : LkV) (ls : List MsgV) (now : Int) : PkV := if dueB k ls.length now then ⟨k.se, k.ep, k.sq, k.ak, true, ls.headD zeroM⟩ else if k.an then ⟨k.se, k.ep, k.sq, k.ak, false, zeroM⟩ else ⟨0, 0, 0, 0, false, zeroM⟩
section
variable {lo q : Nat} {k : LkV} {ls : List MsgV} {S : List Nat} {w : World}
theorem sendT (h : LO lo q k ls S w) (m : MsgV) (hl : ls.length ≤ 10000) :
    Calls Try.prog 14 #[.pointer (some ⟨q, 0, none⟩), .agg #[.int .i64 m.ki, .int .i64 m.a, .int .i64 m.b, .int .i64 m.c]] w fun e w' => ∃ S', e = .returned (.bool (decide ((ls.length : Int) < winV k.c))) ∧ LO lo q k (if (ls.length : Int) < winV k.c then ls ++ [m] else ls) S' w' ∧ Upd S w w' ∧ ∀ g ∈ S', g ∈ S ∨ w.heap.size ≤ g := by
  by_cases hw : (ls.length : Int) < winV k.c
  · rw [if_pos hw, decide_eq_true hw]
    exact sendV h m hl (by omega) _ rfl
  · rw [if_neg hw, decide_eq_false hw]
    have h' := h
    obtain ⟨h0, A, c, rfl, B, O⟩ := h
    refine (sendFull lo q k ls A c m w B O hl (by omega)).mono ?_
    rintro e w1 ⟨rfl, hb⟩
    exact ⟨_, rfl, h'.keep hb, Upd.of_since hb, fun g hg => .inl hg⟩
theorem pollT (h : LO lo q k ls S w) (now : Int) (hl : ls.length ≤ 10000) (hs : -1000000000 ≤ k.st ∧ k.st ≤ 1000000000) :
    Calls Try.prog 15 #[.pointer (some ⟨q, 0, none⟩), .int .i64 now] w fun e w' => ∃ S', e = .returned (.tuple #[.agg (pkC (pollP k ls now)), .bool (pollB k ls.length now)]) ∧ LO lo q (if pollB k ls.length now then pollK k ls.length now else k) ls S' w' ∧ Upd S w w' ∧ ∀ g ∈ S', g ∈ S ∨ w.heap.size ≤ g := by
  cases hd : dueB k ls.length now with
  | true =>
    have hn : 0 < ls.length := by
      have hd2 := hd
      simp only [dueB, Bool.and_eq_true, decide_eq_true_eq] at hd2
      exact hd2.1
    obtain ⟨m, l2, rfl⟩ : ∃ m l2, ls = m :: l2 := by
      cases ls with
      | nil => simp at hn
      | cons m l2 => exact ⟨m, l2, rfl⟩
    have e1 : pollB k (m :: l2).length now = true := by simp only [pollB, hd, Bool.true_or]
    have e2 : pollP k (m :: l2) now = ⟨k.se, k.ep, k.sq, k.ak, true, m⟩ := by simp only [pollP, hd, if_pos, List.headD_cons]
    have e3 : pollK k (m :: l2).length now = { k with du := cl (cl now + cl (pa k.c.rt k.c.cp k.st)), st := k.st + 1, an := false } := by simp only [pollK, hd, if_pos]
    rw [e1, e2, if_pos rfl, e3]
    exact pollDueV h now m hl hd rfl hs _ rfl _ rfl
  | false =>
    cases ha : k.an with
    | true =>
      have e1 : pollB k ls.length now = true := by simp only [pollB, hd, ha, Bool.false_or]
      have e2 : pollP k ls now = ⟨k.se, k.ep, k.sq, k.ak, false, zeroM⟩ := by simp [pollP, hd, ha]
      have e3 : pollK k ls.length now = { k with an := false } := by simp [pollK, hd]
      rw [e1, e2, if_pos rfl, e3]
      exact pollAnsV h now hl hd ha _ rfl _ rfl
    | false =>
      have e1 : pollB k ls.length now = false := by simp only [pollB, hd, ha, Bool.false_or]
      have e2 : pollP k ls now = ⟨0, 0, 0, 0, false, zeroM⟩ := by simp [pollP, hd, ha]
      rw [e1, e2, if_neg (by decide)]
      refine (pollNoV h now hl hd ha).mono ?_
      rintro e w1 ⟨rfl, hb⟩
      exact ⟨_, rfl, h.keep hb, Upd.of_since hb, fun g hg => .inl hg⟩
set_option maxHeartbeats 4000000 in
theorem recvT (h : LO lo q k ls S w) (p : PkV) (now : Int) (hl : ls.length ≤ 10000) :
    Calls Try.prog 16 #[.pointer (some ⟨q, 0, none⟩), .agg #[.int .i64 p.se, .int .i64 p.ep, .int .i64 p.sq, .int .i64 p.ak, .bool p.ha, .int .i64 p.m.ki, .int .i64 p.m.a, .int .i64 p.m.b, .int .i64 p.m.c], .int .i64 now] w fun e w' => ∃ S', e = .returned (.tuple #[.agg #[.int .i64 (recvM k p).ki, .int .i64 (recvM k p).a, .int .i64 (recvM k p).b, .int .i64 (recvM k p).c], .bool (takeB k p)]) ∧ LO lo q (recvK k ls.length p now) (recvL k ls p) S' w' ∧ Upd S w w' ∧ ∀ g ∈ S', g ∈ S ∨ w.heap.size ≤ g := by
  have h' := h
  obtain ⟨h0, A, c, rfl, B, O⟩ := h
  have same : okB k p = false → ∀ {e : Ending} {w1 : World}, e = .returned (.tuple #[.agg #[.int .i64 0, .int .i64 0, .int .i64 0, .int .i64 0], .bool false]) ∧ Since w w1 → ∃ S', e = .returned (.tuple #[.agg #[.int .i64 (recvM k p).ki, .int .i64 (recvM k p).a, .int .i64 (recvM k p).b, .int .i64 (recvM k p).c], .bool (takeB k p)]) ∧ LO lo q (recvK k ls.length p now) (recvL k ls p) S' w1 ∧ Upd (q :: blkOf A) w w1 ∧ ∀ g ∈ S', g ∈ q :: blkOf A ∨ w.heap.size ≤ g := by
    rintro ho e w1 ⟨rfl, hb⟩
    have e1 : takeB k p = false := by simp [takeB, ho]
    have e2 : recvK k ls.length p now = k := by simp [recvK, ho]
    have e3 : recvL k ls p = ls := by simp [recvL, ho]
    have e4 : recvM k p = zeroM := by simp [recvM, e1]
    rw [e1, e2, e3, e4]
    exact ⟨_, rfl, h'.keep hb, Upd.of_since hb, fun g hg => .inl hg⟩
  by_cases h1 : p.se = k.se
  rotate_left
  · exact (recv_se lo q k ls A c p now w B O hl h1).mono fun e w1 hh => same (by simp [okB, h1]) hh
  by_cases h2 : p.ep = k.ep
  rotate_left
  · exact (recv_ep lo q k ls A c p now w B O hl h1 h2).mono fun e w1 hh => same (by simp [okB, h2]) hh
  have ho : okB k p = true := by simp [okB, h1, h2]
  by_cases h3 : ls.length = 0
  · have har : arrB k ls.length p = false := by simp [arrB, h3]
    by_cases h5' : p.ha = true
    rotate_left
    · have h5 : p.ha = false := by simpa using h5'
      have e1 : takeB k p = false := by simp [takeB, ho, h5]
      have e2 : recvK k ls.length p now = { k with he := mx2 k.he (cl now) } := by simp [recvK, hearK, ho, har, h5]
      have e3 : recvL k ls p = ls := by simp [recvL, ho, har]
      have e4 : recvM k p = zeroM := by simp [recvM, e1]
      rw [e1, e2, e3, e4]
      refine (recv_e_nohas lo q k ls A c p now w B O hl h1 h2 h0 h3 h5).mono ?_
      rintro e w1 ⟨rfl, h8, h9⟩
      exact ⟨_, rfl, h8, h9, fun g hg => .inl hg⟩
    · have h5 : p.ha = true := h5'
      cases h6 : decide (0 < Se.ne k.ak p.sq) with
      | true =>
        have hnw : newB k p = true := h6
        have e1 : takeB k p = false := by simp [takeB, ho, h5, hnw]
        have e2 : recvK k ls.length p now = { k with he := mx2 k.he (cl now) } := by simp [recvK, hearK, ho, har, h5, hnw]
        have e3 : recvL k ls p = ls := by simp [recvL, ho, har]
        have e4 : recvM k p = zeroM := by simp [recvM, e1]
        rw [e1, e2, e3, e4]
        refine (recv_e_newer lo q k ls A c p now w B O hl h1 h2 h0 h3 h5 h6).mono ?_
        rintro e w1 ⟨rfl, h8, h9⟩
        exact ⟨_, rfl, h8, h9, fun g hg => .inl hg⟩
      | false =>
        by_cases h7 : p.sq = k.ak
        · have hnw : newB k p = false := h6
          have e1 : takeB k p = true := by simp [takeB, ho, h5, hnw, h7]
          have e2 : recvK k ls.length p now = { k with he := mx2 k.he (cl now), an := true, ak := Se.nx k.ak } := by simp [recvK, hearK, ho, har, h5, hnw, h7]
          have e3 : recvL k ls p = ls := by simp [recvL, ho, har]
          have e4 : recvM k p = p.m := by simp [recvM, e1]
          rw [e1, e2, e3, e4]
          refine (recv_e_take lo q k ls A c p now w B O hl h1 h2 h0 h3 h5 h6 h7).mono ?_
          rintro e w1 ⟨rfl, h8, h9⟩
          exact ⟨_, rfl, h8, h9, fun g hg => .inl hg⟩
        · have hnw : newB k p = false := h6
          have e1 : takeB k p = false := by simp [takeB, ho, h5, hnw, h7]
          have e2 : recvK k ls.length p now = { k with he := mx2 k.he (cl now), an := true } := by simp [recvK, hearK, ho, har, h5, hnw, h7]
          have e3 : recvL k ls p = ls := by simp [recvL, ho, har]
          have e4 : recvM k p = zeroM := by simp [recvM, e1]
          rw [e1, e2, e3, e4]
          refine (recv_e_ahead lo q k ls A c p now w B O hl h1 h2 h0 h3 h5 h6 h7).mono ?_
          rintro e w1 ⟨rfl, h8, h9⟩
          exact ⟨_, rfl, h8, h9, fun g hg => .inl hg⟩
  by_cases h4 : p.ak = Se.nx k.sq
  · have har : arrB k ls.length p = true := by simp [arrB, h4]; omega
    obtain ⟨g, rfl⟩ := own_addr O (by omega)
    have hcap := own_cap2 O
    obtain ⟨m, h3⟩ : ∃ m, ls.length = m + 1 := ⟨ls.length - 1, by omega⟩
    by_cases h5' : p.ha = true
    rotate_left
    · have h5 : p.ha = false := by simpa using h5'
      have e1 : takeB k p = false := by simp [takeB, ho, h5]
      have e2 : recvK k ls.length p now = { k with he := mx2 k.he (cl now), sq := Se.nx k.sq, st := 0, du := 0 } := by simp [recvK, hearK, ho, har, h5]
      have e3 : recvL k ls p = ls.tail := by simp [recvL, ho, har]
      have e4 : recvM k p = zeroM := by simp [recvM, e1]
      rw [e1, e2, e3, e4]
      refine (recv_y_nohas lo q k ls g m c p now w B O hl h1 h2 h0 h3 h4 (by omega) h5).mono ?_
      rintro e w1 ⟨rfl, h8, h9⟩
      exact ⟨_, rfl, h8, h9, fun g hg => .inl hg⟩
    · have h5 : p.ha = true := h5'
      cases h6 : decide (0 < Se.ne k.ak p.sq) with
      | true =>
        have hnw : newB k p = true := h6
        have e1 : takeB k p = false := by simp [takeB, ho, h5, hnw]
        have e2 : recvK k ls.length p now = { k with he := mx2 k.he (cl now), sq := Se.nx k.sq, st := 0, du := 0 } := by simp [recvK, hearK, ho, har, h5, hnw]
        have e3 : recvL k ls p = ls.tail := by simp [recvL, ho, har]
        have e4 : recvM k p = zeroM := by simp [recvM, e1]
        rw [e1, e2, e3, e4]
        refine (recv_y_newer lo q k ls g m c p now w B O hl h1 h2 h0 h3 h4 (by omega) h5 h6).mono ?_
        rintro e w1 ⟨rfl, h8, h9⟩
        exact ⟨_, rfl, h8, h9, fun g hg => .inl hg⟩
      | false =>
        by_cases h7 : p.sq = k.ak
        · have hnw : newB k p = false := h6
          have e1 : takeB k p = true := by simp [takeB, ho, h5, hnw, h7]
          have e2 : recvK k ls.length p now = { k with he := mx2 k.he (cl now), sq := Se.nx k.sq, st := 0, du := 0, an := true, ak := Se.nx k.ak } := by simp [recvK, hearK, ho, har, h5, hnw, h7]
          have e3 : recvL k ls p = ls.tail := by simp [recvL, ho, har]
          have e4 : recvM k p = p.m := by simp [recvM, e1]
          rw [e1, e2, e3, e4]
          refine (recv_y_take lo q k ls g m c p now w B O hl h1 h2 h0 h3 h4 (by omega) h5 h6 h7).mono ?_
          rintro e w1 ⟨rfl, h8, h9⟩
          exact ⟨_, rfl, h8, h9, fun g hg => .inl hg⟩
        · have hnw : newB k p = false := h6
          have e1 : takeB k p = false := by simp [takeB, ho, h5, hnw, h7]
          have e2 : recvK k ls.length p now = { k with he := mx2 k.he (cl now), sq := Se.nx k.sq, st := 0, du := 0, an := true } := by simp [recvK, hearK, ho, har, h5, hnw, h7]
          have e3 : recvL k ls p = ls.tail := by simp [recvL, ho, har]
          have e4 : recvM k p = zeroM := by simp [recvM, e1]
          rw [e1, e2, e3, e4]
          refine (recv_y_ahead lo q k ls g m c p now w B O hl h1 h2 h0 h3 h4 (by omega) h5 h6 h7).mono ?_
          rintro e w1 ⟨rfl, h8, h9⟩
          exact ⟨_, rfl, h8, h9, fun g hg => .inl hg⟩
  · have har : arrB k ls.length p = false := by simp [arrB, h4]
    have h3 : 0 < ls.length := by omega
    by_cases h5' : p.ha = true
    rotate_left
    · have h5 : p.ha = false := by simpa using h5'
      have e1 : takeB k p = false := by simp [takeB, ho, h5]
      have e2 : recvK k ls.length p now = { k with he := mx2 k.he (cl now) } := by simp [recvK, hearK, ho, har, h5]
      have e3 : recvL k ls p = ls := by simp [recvL, ho, har]
      have e4 : recvM k p = zeroM := by simp [recvM, e1]
      rw [e1, e2, e3, e4]
      refine (recv_n_nohas lo q k ls A c p now w B O hl h1 h2 h0 h3 h4 h5).mono ?_
      rintro e w1 ⟨rfl, h8, h9⟩
      exact ⟨_, rfl, h8, h9, fun g hg => .inl hg⟩
    · have h5 : p.ha = true := h5'
      cases h6 : decide (0 < Se.ne k.ak p.sq) with
      | true =>
        have hnw : newB k p = true := h6
        have e1 : takeB k p = false := by simp [takeB, ho, h5, hnw]
        have e2 : recvK k ls.length p now = { k with he := mx2 k.he (cl now) } := by simp [recvK, hearK, ho, har, h5, hnw]
        have e3 : recvL k ls p = ls := by simp [recvL, ho, har]
        have e4 : recvM k p = zeroM := by simp [recvM, e1]
        rw [e1, e2, e3, e4]
        refine (recv_n_newer lo q k ls A c p now w B O hl h1 h2 h0 h3 h4 h5 h6).mono ?_
        rintro e w1 ⟨rfl, h8, h9⟩
        exact ⟨_, rfl, h8, h9, fun g hg => .inl hg⟩
      | false =>
        by_cases h7 : p.sq = k.ak
        · have hnw : newB k p = false := h6
          have e1 : takeB k p = true := by simp [takeB, ho, h5, hnw, h7]
          have e2 : recvK k ls.length p now = { k with he := mx2 k.he (cl now), an := true, ak := Se.nx k.ak } := by simp [recvK, hearK, ho, har, h5, hnw, h7]
          have e3 : recvL k ls p = ls := by simp [recvL, ho, har]
          have e4 : recvM k p = p.m := by simp [recvM, e1]
          rw [e1, e2, e3, e4]
          refine (recv_n_take lo q k ls A c p now w B O hl h1 h2 h0 h3 h4 h5 h6 h7).mono ?_
          rintro e w1 ⟨rfl, h8, h9⟩
          exact ⟨_, rfl, h8, h9, fun g hg => .inl hg⟩
        · have hnw : newB k p = false := h6
          have e1 : takeB k p = false := by simp [takeB, ho, h5, hnw, h7]
          have e2 : recvK k ls.length p now = { k with he := mx2 k.he (cl now), an := true } := by simp [recvK, hearK, ho, har, h5, hnw, h7]
          have e3 : recvL k ls p = ls := by simp [recvL, ho, har]
          have e4 : recvM k p = zeroM := by simp [recvM, e1]
          rw [e1, e2, e3, e4]
          refine (recv_n_ahead lo q k ls A c p now w B O hl h1 h2 h0 h3 h4 h5 h6 h7).mono ?_
          rintro e w1 ⟨rfl, h8, h9⟩
          exact ⟨_, rfl, h8, h9, fun g hg => .inl hg⟩
end
end Go.Proofs.Ytlihhjcneedgnaa.Ln
