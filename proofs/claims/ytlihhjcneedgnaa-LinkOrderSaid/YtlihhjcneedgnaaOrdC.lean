/-
  LinkOrder's two ends and what is on its way, as plain facts; what each call answers there; a pair of cells.
  Conditions: what stands ahead of each.
-/
import Derived.Test.YtlihhjcneedgnaaLnkR
import Derived.Test.YtlihhjcneedgnaaShort
namespace Go.Proofs.Ytlihhjcneedgnaa.Lo
set_option linter.unusedVariables false
set_option linter.unusedSimpArgs false
open Go.RowKit Go.Proofs.Ytlihhjcneedgnaa.Ba Go.Proofs.Ytlihhjcneedgnaa.Mem Go.Proofs.Ytlihhjcneedgnaa.Ty Go.Proofs.Ytlihhjcneedgnaa.Tm Go.Proofs.Ytlihhjcneedgnaa.Tw Go.Proofs.Ytlihhjcneedgnaa.Ln
/-- Two cells: x at e, y at the other place. -/
def pr (e : Nat) (x y : Value) : Array Value := if e = 0 then #[x, y] else #[y, x]
section
variable {e o : Nat} {x y z : Value}
theorem pr_at (h : e + o = 1) : (pr e x y)[e]? = some x := by
  rcases (show e = 0 ∨ e = 1 by omega) with rfl | rfl <;> rfl
theorem pr_ot (h : e + o = 1) : (pr e x y)[o]? = some y := by
  rcases (show (e = 0 ∧ o = 1) ∨ (e = 1 ∧ o = 0) by omega) with ⟨rfl, rfl⟩ | ⟨rfl, rfl⟩ <;> rfl
theorem pr_set (h : e + o = 1) : (pr e x y).setIfInBounds e z = pr e z y := by
  rcases (show e = 0 ∨ e = 1 by omega) with rfl | rfl <;> rfl
theorem pr_seto (h : e + o = 1) : (pr e x y).setIfInBounds o z = pr e x z := by
  rcases (show (e = 0 ∧ o = 1) ∨ (e = 1 ∧ o = 0) by omega) with ⟨rfl, rfl⟩ | ⟨rfl, rfl⟩ <;> rfl
theorem pr_size : (pr e x y).size = 2 := by unfold pr; split <;> rfl
theorem pr_swap (h : e + o = 1) : pr e x y = pr o y x := by
  rcases (show (e = 0 ∧ o = 1) ∨ (e = 1 ∧ o = 0) by omega) with ⟨rfl, rfl⟩ | ⟨rfl, rfl⟩ <;> rfl
end
/-- An index into an array. -/
theorem exec_arr {P : Program} {o : Oper} {a : Act} {w : World} {b i n : Nat} {k : IntKind} {J : Int} (t e : TypeId) (x y : Operand) (ho : o.op = .indexAddr t x y) (hx : a.eval x = .pointer (some ⟨b, 0, none⟩)) (hy : a.eval y = .int k J) (hJ : J = i) (hlt : i < n)
    (ht : P.underlying t = some (.array n e)) (hs : (P.info? e).map (·.size) = some 1) : (execOp a.eval o).run P w = .ok (.value (.pointer (some ⟨b, i, none⟩))) w := by
  subst hJ
  obtain ⟨j, hi2, hs2⟩ : ∃ i, P.info? e = some i ∧ i.size = 1 := by
    cases hq : P.info? e with
    | none => simp [hq] at hs
    | some i => exact ⟨i, rfl, by simpa [hq] using hs⟩
  unfold execOp
  simp only [ho, hx, hy]
  simp [Instr.indexAt, asIntOf, Instr.sureAddr, run_underlying ht, sizeOf, typeInfo, hi2, hs2, hlt, Go.WideShapes.add_plain]
def pkL (p : PkV) : List Value := [.int .i64 p.se, .int .i64 p.ep, .int .i64 p.sq, .int .i64 p.ak, .bool p.ha, .int .i64 p.m.ki, .int .i64 p.m.a, .int .i64 p.m.b, .int .i64 p.m.c]
theorem pkL_len (p : PkV) : (pkL p).length = 9 := rfl
theorem pkL_one (p : PkV) : ∀ u ∈ pkL p, u.oneCell' = true := by
  intro u hu
  simp only [pkL, List.mem_cons, List.not_mem_nil, or_false] at hu
  rcases hu with rfl | rfl | rfl | rfl | rfl | rfl | rfl | rfl | rfl <;> rfl
theorem pks_one (ls : List PkV) : ∀ u ∈ rowsOf pkL ls, u.oneCell' = true := rowsOf_one' pkL_one ls
def cO : CfgV := ⟨0, 0, 0, 0, 0, 0, 0, 0, 0, 0, 0, 0, 0, 2, 9, 1073741824, 1073741824, 4⟩
def mO (j : Nat) : MsgV := ⟨1, (j : Int), 0, 0⟩
def mo (b s : Nat) : List MsgV := (List.range' b (s - b)).map mO
def kO (b : Nat) (st du : Int) (ak : Nat) (an : Bool) (he : Int) : LkV := ⟨cO, 3, 9, (b : Int), st, du, (ak : Int), an, he⟩
theorem mo_len (b s : Nat) : (mo b s).length = s - b := by simp [mo]
theorem mo_head {b s : Nat} (h : b < s) : ∃ l, mo b s = mO b :: l := by
  obtain ⟨d, hd⟩ : ∃ d, s - b = d + 1 := ⟨s - b - 1, by omega⟩
  exact ⟨(List.range' (b + 1) d).map mO, by simp [mo, hd, List.range'_succ]⟩
theorem mo_tail {b s : Nat} (h : b < s) : (mo b s).tail = mo (b + 1) s := by
  obtain ⟨d, hd⟩ : ∃ d, s - b = d + 1 := ⟨s - b - 1, by omega⟩
  have hd2 : s - (b + 1) = d := by omega
  simp [mo, hd, hd2, List.range'_succ]
theorem mo_snoc {b s : Nat} (h : b ≤ s) : mo b s ++ [mO s] = mo b (s + 1) := by
  have hd : s + 1 - b = (s - b) + 1 := by omega
  have hs : b + (s - b) = s := by omega
  simp [mo, hd, List.range'_concat, hs]
theorem nxO {b : Nat} (h : b < 65535) : Se.nx (b : Int) = ((b + 1 : Nat) : Int) := by unfold Se.nx; omega
/-- A packet on its way: b: the sender's first that waits; g: what it has got; s: what it has sent. -/
def PkI (p : PkV) (b g s : Nat) : Prop := p.se = 3 ∧ p.ep = 9 ∧ (0 ≤ p.sq ∧ p.sq ≤ (b : Int)) ∧ (0 ≤ p.ak ∧ p.ak ≤ (g : Int)) ∧ (p.ha = true → p.m = ⟨1, p.sq, 0, 0⟩ ∧ p.sq < (s : Int))
theorem PkI.mono {p : PkV} {b g s b' g' s' : Nat} (h : PkI p b g s) (hb : b ≤ b') (hg : g ≤ g') (hs : s ≤ s') : PkI p b' g' s' := by
  obtain ⟨h1, h2, h3, h4, h5⟩ := h
  exact ⟨h1, h2, by omega, by omega, fun k => ⟨(h5 k).1, by have := (h5 k).2; omega⟩⟩
def PsI (ps : List PkV) (b g s : Nat) : Prop := ∀ p ∈ ps, PkI p b g s
theorem PsI.mono {ps : List PkV} {b g s b' g' s' : Nat} (h : PsI ps b g s) (hb : b ≤ b') (hg : g ≤ g') (hs : s ≤ s') : PsI ps b' g' s' := fun p hp => (h p hp).mono hb hg hs
/-- What holds between moves, of end e (b s g) and the other (c t h): what waits, was sent, was got; ps on the way to e, qs to the other. -/
def OrI (i b s g c t h : Nat) (ps qs : List PkV) : Prop :=
  (b ≤ h ∧ h ≤ b + 1 ∧ h ≤ s) ∧ (c ≤ g ∧ g ≤ c + 1 ∧ g ≤ t) ∧ (s ≤ i ∧ t ≤ i ∧ ps.length ≤ i ∧ qs.length ≤ i) ∧ PsI ps c h t ∧ PsI qs b g s
theorem OrI.swap {i b s g c t h : Nat} {ps qs : List PkV} (H : OrI i b s g c t h ps qs) : OrI i c t h b s g qs ps := by
  obtain ⟨h1, h2, ⟨a1, a2, a3, a4⟩, h3, h4⟩ := H
  exact ⟨h2, h1, ⟨a2, a1, a4, a3⟩, h4, h3⟩
theorem OrI.wait {i b s g c t h : Nat} {ps qs : List PkV} (H : OrI i b s g c t h ps qs) : OrI (i + 1) b s g c t h ps qs := by
  obtain ⟨h1, h2, ⟨a1, a2, a3, a4⟩, h3, h4⟩ := H
  exact ⟨h1, h2, ⟨by omega, by omega, by omega, by omega⟩, h3, h4⟩
theorem OrI.sends {i b s g c t h : Nat} {ps qs : List PkV} (H : OrI i b s g c t h ps qs) : OrI (i + 1) b (s + 1) g c t h ps qs := by
  obtain ⟨h1, h2, ⟨a1, a2, a3, a4⟩, h3, h4⟩ := H
  exact ⟨by omega, h2, ⟨by omega, by omega, by omega, by omega⟩, h3, h4.mono (Nat.le_refl _) (Nat.le_refl _) (by omega)⟩
theorem OrI.polls {i b s g c t h : Nat} {ps qs : List PkV} (H : OrI i b s g c t h ps qs) {p : PkV} (hp : PkI p b g s) : OrI (i + 1) b s g c t h ps (qs ++ [p]) := by
  obtain ⟨h1, h2, ⟨a1, a2, a3, a4⟩, h3, h4⟩ := H
  refine ⟨h1, h2, ⟨by omega, by omega, by omega, by simp; omega⟩, h3, fun q hq => ?_⟩
  rcases List.mem_append.1 hq with hq | hq
  · exact h4 q hq
  · rw [List.mem_singleton.1 hq]; exact hp
theorem OrI.loses {i b s g c t h : Nat} {ps qs : List PkV} (H : OrI i b s g c t h ps qs) (k : Nat) : OrI i b s g c t h (ps.eraseIdx k) qs := by
  obtain ⟨h1, h2, ⟨a1, a2, a3, a4⟩, h3, h4⟩ := H
  exact ⟨h1, h2, ⟨a1, a2, Nat.le_trans (List.length_eraseIdx_le _ _) a3, a4⟩, fun q hq => h3 q (List.mem_of_mem_eraseIdx hq), h4⟩
section
variable {lo q : Nat} {S : List Nat} {w : World} {b s ak : Nat} {st du he : Int} {an : Bool}
theorem winO : winV cO = 4 := by decide
theorem sendY (h : LO lo q (kO b st du ak an he) (mo b s) S w) (hb : b ≤ s) (hs : s ≤ 1000) (h4 : s < b + 4) :
    Calls Try.prog 14 #[.pointer (some ⟨q, 0, none⟩), .agg #[.int .i64 1, .int .i64 (s : Int), .int .i64 0, .int .i64 0]] w fun e w' => ∃ S', e = .returned (.bool true) ∧ LO lo q (kO b st du ak an he) (mo b (s + 1)) S' w' ∧ Upd S w w' ∧ ∀ g ∈ S', g ∈ S ∨ w.heap.size ≤ g := by
  have hl := mo_len b s
  have e0 : ((mo b s).length : Int) < winV (kO b st du ak an he).c := by rw [hl, show winV (kO b st du ak an he).c = 4 from winO]; omega
  have h1 := sendT h (mO s) (by rw [hl]; omega)
  rw [if_pos e0, decide_eq_true e0, mo_snoc hb] at h1
  exact h1
theorem sendN (h : LO lo q (kO b st du ak an he) (mo b s) S w) (hb : b ≤ s) (hs : s ≤ 1000) (h4 : ¬ s < b + 4) :
    Calls Try.prog 14 #[.pointer (some ⟨q, 0, none⟩), .agg #[.int .i64 1, .int .i64 (s : Int), .int .i64 0, .int .i64 0]] w fun e w' => ∃ S', e = .returned (.bool false) ∧ LO lo q (kO b st du ak an he) (mo b s) S' w' ∧ Upd S w w' ∧ ∀ g ∈ S', g ∈ S ∨ w.heap.size ≤ g := by
  have hl := mo_len b s
  have e0 : ¬ ((mo b s).length : Int) < winV (kO b st du ak an he).c := by rw [hl, show winV (kO b st du ak an he).c = 4 from winO]; omega
  have h1 := sendT h (mO s) (by rw [hl]; omega)
  rw [if_neg e0, decide_eq_false e0] at h1
  exact h1
/-- What a poll answers, of a link so: a packet that may be on its way. -/
theorem pollO (h : LO lo q (kO b st du ak an he) (mo b s) S w) (i : Nat) (hs : s ≤ 1000) (h0 : 0 ≤ st) (h1 : st ≤ 1000000) :
    Calls Try.prog 15 #[.pointer (some ⟨q, 0, none⟩), .int .i64 (i : Int)] w fun e w' => ∃ (p : PkV) (r : Bool) (st' du' : Int) (an' : Bool) (S' : List Nat), e = .returned (.tuple #[.agg #[.int .i64 p.se, .int .i64 p.ep, .int .i64 p.sq, .int .i64 p.ak, .bool p.ha, .int .i64 p.m.ki, .int .i64 p.m.a, .int .i64 p.m.b, .int .i64 p.m.c], .bool r]) ∧
      LO lo q (kO b st' du' ak an' he) (mo b s) S' w' ∧ Upd S w w' ∧ (∀ g ∈ S', g ∈ S ∨ w.heap.size ≤ g) ∧ (0 ≤ st' ∧ st' ≤ st + 1) ∧ (r = true → PkI p b ak s) := by
  have hl := mo_len b s
  refine (pollT h i (by rw [hl]; omega) ⟨by show -1000000000 ≤ st; omega, by show st ≤ 1000000000; omega⟩).mono ?_
  rintro e w1 ⟨S', rfl, h2, h3, h4⟩
  refine ⟨pollP (kO b st du ak an he) (mo b s) i, pollB (kO b st du ak an he) (mo b s).length i, ?_⟩
  have hpk : pollB (kO b st du ak an he) (mo b s).length i = true → PkI (pollP (kO b st du ak an he) (mo b s) i) b ak s := by
    intro hr
    unfold pollP
    cases hd : dueB (kO b st du ak an he) (mo b s).length i with
    | true =>
      have hn : b < s := by
        unfold dueB at hd
        simp only [Bool.and_eq_true, decide_eq_true_eq] at hd
        rw [hl] at hd
        omega
      obtain ⟨l, hl'⟩ := mo_head hn
      rw [if_pos rfl, hl']
      exact ⟨rfl, rfl, ⟨by show (0 : Int) ≤ (b : Int); omega, Int.le_refl _⟩, ⟨by show (0 : Int) ≤ (ak : Int); omega, Int.le_refl _⟩, fun _ => ⟨rfl, by show (b : Int) < (s : Int); omega⟩⟩
    | false =>
      rw [if_neg (by decide)]
      unfold pollB at hr
      rw [hd, Bool.false_or] at hr
      rw [if_pos hr]
      exact ⟨rfl, rfl, ⟨by show (0 : Int) ≤ (b : Int); omega, Int.le_refl _⟩, ⟨by show (0 : Int) ≤ (ak : Int); omega, Int.le_refl _⟩, fun k => by cases k⟩
  by_cases hr : pollB (kO b st du ak an he) (mo b s).length i = true
  · rw [if_pos hr] at h2
    unfold pollK at h2
    by_cases hd : dueB (kO b st du ak an he) (mo b s).length i = true
    · rw [if_pos hd] at h2
      exact ⟨_, _, _, S', rfl, h2, h3, h4, ⟨by show 0 ≤ st + 1; omega, Int.le_refl _⟩, hpk⟩
    · rw [if_neg hd] at h2
      exact ⟨st, du, false, S', rfl, h2, h3, h4, ⟨h0, by omega⟩, hpk⟩
  · rw [if_neg hr] at h2
    exact ⟨st, du, an, S', rfl, h2, h3, h4, ⟨h0, by omega⟩, hpk⟩
/-- What Recv answers at an end that has got so many: the next message, or none. -/
theorem recvO (h : LO lo q (kO b st du ak an he) (mo b s) S w) (p : PkV) (i c h' t : Nat) (hs : s ≤ 1000) (hak : ak ≤ 1000) (hp : PkI p c h' t) (h1 : b ≤ h') (h2 : h' ≤ b + 1) (h3 : h' ≤ s) (h4 : c ≤ ak) (h0 : 0 ≤ st) :
    Calls Try.prog 16 #[.pointer (some ⟨q, 0, none⟩), .agg #[.int .i64 p.se, .int .i64 p.ep, .int .i64 p.sq, .int .i64 p.ak, .bool p.ha, .int .i64 p.m.ki, .int .i64 p.m.a, .int .i64 p.m.b, .int .i64 p.m.c], .int .i64 (i : Int)] w fun e w' =>
      ∃ (m : MsgV) (r : Bool) (b' g' : Nat) (st' du' : Int) (an' : Bool) (he' : Int) (S' : List Nat), e = .returned (.tuple #[.agg #[.int .i64 m.ki, .int .i64 m.a, .int .i64 m.b, .int .i64 m.c], .bool r]) ∧
      LO lo q (kO b' st' du' g' an' he') (mo b' s) S' w' ∧ Upd S w w' ∧ (∀ g ∈ S', g ∈ S ∨ w.heap.size ≤ g) ∧ (0 ≤ st' ∧ st' ≤ st) ∧ (b ≤ b' ∧ b' ≤ h') ∧ ((r = false ∧ g' = ak) ∨ (r = true ∧ g' = ak + 1 ∧ m.a = (ak : Int) ∧ (ak : Int) ≤ (c : Int) ∧ (ak : Int) < (t : Int))) := by
  have hl := mo_len b s
  obtain ⟨p1, p2, p3, p4, p5⟩ := hp
  refine (recvT h p i (by rw [hl]; omega)).mono ?_
  rintro e w1 ⟨S', rfl, h5, h6, h7⟩
  have hok : okB (kO b st du ak an he) p = true := by unfold okB kO; simp [p1, p2]
  have hnew : newB (kO b st du ak an he) p = false := by
    unfold newB
    refine decide_eq_false ?_
    show ¬ 0 < Se.ne (ak : Int) p.sq
    unfold Se.ne
    omega
  have hnx : Se.nx (b : Int) = ((b + 1 : Nat) : Int) := nxO (by omega)
  have hnxa : Se.nx (ak : Int) = ((ak + 1 : Nat) : Int) := nxO (by omega)
  refine ⟨recvM (kO b st du ak an he) p, takeB (kO b st du ak an he) p, ?_⟩
  have harr : ∃ (b' : Nat) (st' du' : Int), recvL (kO b st du ak an he) (mo b s) p = mo b' s ∧ (0 ≤ st' ∧ st' ≤ st) ∧ (b ≤ b' ∧ b' ≤ h') ∧ hearK (kO b st du ak an he) (mo b s).length p i = kO b' st' du' ak an (mx2 he (cl i)) := by
    unfold recvL hearK
    rw [hok, Bool.true_and]
    by_cases ha : arrB (kO b st du ak an he) (mo b s).length p = true
    · have ha' := ha
      unfold arrB at ha'
      simp only [Bool.and_eq_true, decide_eq_true_eq] at ha'
      have hq : p.ak = ((b + 1 : Nat) : Int) := ha'.2.trans hnx
      rw [if_pos ha, if_pos ha]
      refine ⟨b + 1, 0, 0, mo_tail (by rw [hl] at ha'; omega), ⟨Int.le_refl _, h0⟩, ⟨by omega, by omega⟩, ?_⟩
      show (⟨cO, 3, 9, Se.nx (b : Int), 0, 0, (ak : Int), an, mx2 he (cl i)⟩ : LkV) = _
      rw [hnx]
      rfl
    · rw [if_neg ha, if_neg ha]
      exact ⟨b, st, du, rfl, ⟨h0, Int.le_refl _⟩, ⟨Nat.le_refl _, h1⟩, rfl⟩
  obtain ⟨b', st', du', e1, e2, e3, e4⟩ := harr
  rw [e1] at h5
  have htk : takeB (kO b st du ak an he) p = (p.ha && decide (p.sq = (ak : Int))) := by
    unfold takeB
    rw [hok, hnew]
    simp
    rfl
  have hK : recvK (kO b st du ak an he) (mo b s).length p i = (if p.ha = true then (if p.sq = (ak : Int) then kO b' st' du' (ak + 1) true (mx2 he (cl i)) else kO b' st' du' ak true (mx2 he (cl i))) else kO b' st' du' ak an (mx2 he (cl i))) := by
    unfold recvK
    rw [hok, hnew, e4, if_pos rfl, Bool.not_false, Bool.and_true, show (kO b st du ak an he).ak = (ak : Int) from rfl, hnxa]
    rfl
  rw [hK] at h5
  cases hha : p.ha with
  | false =>
    rw [hha, if_neg (by decide)] at h5
    exact ⟨b', ak, st', du', an, _, S', rfl, h5, h6, h7, e2, e3, .inl ⟨by rw [htk, hha]; rfl, rfl⟩⟩
  | true =>
    rw [hha, if_pos rfl] at h5
    by_cases hsq : p.sq = (ak : Int)
    · rw [if_pos hsq] at h5
      have ht : takeB (kO b st du ak an he) p = true := by rw [htk, hha, decide_eq_true hsq]; rfl
      refine ⟨b', ak + 1, st', du', true, _, S', rfl, h5, h6, h7, e2, e3, .inr ⟨ht, rfl, ?_, by omega, by have := (p5 hha).2; omega⟩⟩
      unfold recvM
      rw [if_pos ht, (p5 hha).1]
      exact hsq
    · rw [if_neg hsq] at h5
      exact ⟨b', ak, st', du', true, _, S', rfl, h5, h6, h7, e2, e3, .inl ⟨by rw [htk, hha, decide_eq_false hsq]; rfl, rfl⟩⟩
end
/-- What Recv leaves. -/
theorem OrI.takes {i b s g c t h b' : Nat} {ps qs : List PkV} (H : OrI i b s g c t h ps qs) (hb : b ≤ b' ∧ b' ≤ h) : OrI (i + 1) b' s g c t h ps qs := by
  obtain ⟨h1, h2, ⟨a1, a2, a3, a4⟩, h3, h4⟩ := H
  exact ⟨by omega, h2, ⟨by omega, by omega, by omega, by omega⟩, h3, h4.mono hb.1 (Nat.le_refl _) (Nat.le_refl _)⟩
theorem OrI.gets {i b s g c t h b' : Nat} {ps qs : List PkV} (H : OrI i b s g c t h ps qs) (hb : b ≤ b' ∧ b' ≤ h) (hg : (g : Int) ≤ (c : Int)) (ht : (g : Int) < (t : Int)) : OrI (i + 1) b' s (g + 1) c t h ps qs := by
  obtain ⟨h1, h2, ⟨a1, a2, a3, a4⟩, h3, h4⟩ := H
  exact ⟨by omega, by omega, ⟨by omega, by omega, by omega, by omega⟩, h3, h4.mono hb.1 (by omega) (Nat.le_refl _)⟩
end Go.Proofs.Ytlihhjcneedgnaa.Lo
