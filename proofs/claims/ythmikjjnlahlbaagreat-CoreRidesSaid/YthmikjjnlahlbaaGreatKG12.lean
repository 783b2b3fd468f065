/-
  What is wanted by the last of these texts, part 12.
  No condition.
-/
import Derived.Test.YthmikjjnlahlbaaGreatKG11
namespace Go.Proofs.YthmikjjnlahlbaaGreat.Lc
set_option linter.unusedSectionVars false
set_option linter.unusedVariables false
set_option linter.unusedSimpArgs false
open Go.RowKit Go.Proofs.YthmikjjnlahlbaaGreat.Ba Go.Proofs.YthmikjjnlahlbaaGreat.Mem Go.Proofs.YthmikjjnlahlbaaGreat.En Go.Proofs.YthmikjjnlahlbaaGreat.Ty Go.Proofs.YthmikjjnlahlbaaGreat.Mo Go.Proofs.YthmikjjnlahlbaaGreat.St Go.Proofs.YthmikjjnlahlbaaGreat.Co
open Go.Proofs.YthmikjjnlahlbaaGreat.Ri (MsgV msgC)
open Go.Proofs.YthmikjjnlahlbaaGreat.Gr (loadR loadG hallR hallG pressR pressG curtR curtG faultR faultG GI doR fltX disW one fault_in)
open Go.Proofs.YthmikjjnlahlbaaGreat.Fl (leaE)
set_option maxRecDepth 100000
attribute [local irreducible] Go.Calls
def gdo (G : Gr.GrV) (o : KopV) : Gr.GrV := if 4 ≤ o.k ∧ o.k ≤ 8 then (doR G (o.k - 3) o.a o.b (o.b == 1)).1 else G
def doK (K : KV) (o : KopV) : KV := if o.k = 1 then ansK K o.q else if o.k = 2 then hearK K o.q.se o.m else if o.k = 3 then goneK K o.q.se else if o.k = 10 then obK K else { K with G := gdo K.G o }
def doE (K : KV) (o : KopV) : List EvV := if o.k = 1 then evs o.q.se [ansM K o.q] else if o.k = 2 then evs o.q.se (hearM K o.q.se o.m) else if o.k = 10 then obE K else []
theorem doR_w (G : Gr.GrV) (k a b : Int) (y : Bool) (hk : 1 ≤ k ∧ k ≤ 5) : (doR G k a b y).1.now = G.now ∧ (doR G k a b y).1.c = G.c ∧ ∀ z ∈ (doR G k a b y).1.waits, z.si = G.now ∨ ∃ u ∈ G.waits, z.si = u.si := by
  have id' : ∀ z ∈ G.waits, z.si = G.now ∨ ∃ u ∈ G.waits, z.si = u.si := fun z hz => .inr ⟨z, hz, rfl⟩
  have on : ∀ (f : CarV → CarV × Int), (one G a f).1.now = G.now ∧ (one G a f).1.c = G.c ∧ ∀ z ∈ (one G a f).1.waits, z.si = G.now ∨ ∃ u ∈ G.waits, z.si = u.si := fun f =>
    ⟨(Gr.one_w _ _).2.1, one_c _ _ _, by rw [(Gr.one_w _ _).1]; exact id'⟩
  unfold doR
  split
  · unfold Gr.hallR; split
    · split
      · refine ⟨rfl, rfl, fun z hz => ?_⟩
        rcases List.mem_append.1 hz with h | h
        · exact id' z h
        · rw [List.mem_singleton] at h; subst h; exact .inl rfl
      · exact ⟨rfl, rfl, id'⟩
    · exact ⟨rfl, rfl, id'⟩
  split
  · unfold Gr.pressR; split
    · exact on _
    · exact ⟨rfl, rfl, id'⟩
  split
  · exact on _
  split
  · exact on _
  split
  · unfold Gr.faultR; split
    · split
      · refine ⟨(on _).1, (on _).2.1, fun z hz => ?_⟩
        obtain ⟨u, hu, rfl⟩ := List.mem_map.1 hz
        refine .inr ⟨u, hu, ?_⟩
        unfold disW; split <;> rfl
      · exact ⟨rfl, rfl, id'⟩
    · exact on _
  omega
theorem gdo_w (G : Gr.GrV) (o : KopV) : (gdo G o).now = G.now ∧ (gdo G o).c = G.c ∧ ∀ z ∈ (gdo G o).waits, z.si = G.now ∨ ∃ u ∈ G.waits, z.si = u.si := by
  unfold gdo; split
  · exact doR_w _ _ _ _ _ (by omega)
  · exact ⟨rfl, rfl, fun z hz => .inr ⟨z, hz, rfl⟩⟩
section
variable {c : CfgV} {n T m : Nat} {K : KV}
theorem KI.gdo (h : KI c n T m K) (o : KopV) : KI c (n + 1) T m { K with G := gdo K.G o } := by
  obtain ⟨e1, e2, e3⟩ := gdo_w K.G o
  refine ⟨?_, fun z hz => ?_, by show 0 ≤ (Lc.gdo K.G o).now ∧ _; rw [e1]; exact h.now, h.lq, h.okq, h.ll, h.okl⟩
  · show GI c (n + 1) T (Lc.gdo K.G o)
    unfold Lc.gdo; split
    · exact h.g.do_ _ _ _ _
    · exact h.g.more (Nat.le_succ n)
  · rcases e3 z hz with e | ⟨u, hu, e⟩
    · rw [e]; exact h.now
    · rw [e]; exact h.s u hu
theorem KI.do_ (h : KI c n T m K) (o : KopV) : KI c (n + 1) T m (doK K o) := by
  have up : ∀ {K' : KV}, KI c n T m K' → KI c (n + 1) T m K' := fun h => h.more (Nat.le_succ n) (Nat.le_refl _) (Nat.le_refl _)
  unfold doK
  split
  · exact up (h.ans _)
  split
  · exact up (h.hear _ _)
  split
  · exact up (h.gone _)
  split
  · exact up (KI.ob h _)
  · exact KI.gdo h o
end
section
variable {lo q : Nat} {p : Pt} {K : KV} {S : List Nat} {w : World} {c : CfgV} {n T m : Nat}
/-- What `do` answers and leaves. -/
def DoP (lo q : Nat) (p : Pt) (K' : KV) (es : List EvV) (S : List Nat) (w : World) (e : Ending) (w' : World) : Prop :=
  ∃ x : List Nat × Nr, e = .returned (.slice x.2.2.1 es.length x.2.2.2) ∧ KW lo q p K' x.1 w' ∧ (rwO evE x.2.1 x.2.2.1 es.length x.2.2.2 es true).st w' ∧ Upd S w w' ∧ (∀ g ∈ x.1, g ∈ S ∨ w.heap.size ≤ g) ∧ ∀ g ∈ blkOf x.2.2.1, w.heap.size ≤ g ∧ g ∉ x.1
theorem own_rebase {α : Type} {E : Ek α} {lo lo' n c : Nat} {A : Option Addr} {ls : List α} {w : World} (h : E.At lo A n c ls w) (hb : ∀ g ∈ blkOf A, lo' ≤ g) : E.At lo' A n c ls w := by
  refine ⟨h.1, ?_⟩
  rcases h.2 with h2 | ⟨g, cap, cur, hv, hbg, rest⟩
  · exact .inl h2
  · have hv' := hv
    simp at hv'
    exact .inr ⟨g, cap, cur, hv, hb g (by rw [hv'.1]; simp [blkOf]), rest⟩
theorem toD {P : Program} {F : FuncId} {args : Array Value} {w1 : World} {n0 n : Nat} {es : List EvV} {S : List Nat} {Φ : List Nat → World → Prop} (h : Calls P F args w1 fun e w' => ∃ x : List Nat × Nr, e = .returned (.slice x.2.2.1 n x.2.2.2) ∧ Φ x.1 w' ∧ (rwO evE x.2.1 x.2.2.1 n x.2.2.2 es true).st w' ∧ Upd S w1 w' ∧ (∀ g ∈ x.1, g ∈ S ∨ w1.heap.size ≤ g) ∧ ∀ g ∈ blkOf x.2.2.1, w1.heap.size ≤ g ∧ g ∉ x.1) (h0 : n0 ≤ w1.heap.size) :
    Calls P F args w1 fun e w' => ∃ x : List Nat × Option Addr × Nat, e = .returned (.slice x.2.1 n x.2.2) ∧ Φ x.1 w' ∧ (rwO evE n0 x.2.1 n x.2.2 es true).st w' ∧ Upd S w1 w' ∧ (∀ g ∈ x.1, g ∈ S ∨ w1.heap.size ≤ g) ∧ ∀ g ∈ (rwO evE n0 x.2.1 n x.2.2 es true).F, w1.heap.size ≤ g ∧ g ∉ x.1 := by
  refine h.mono ?_
  rintro e w' ⟨⟨S', lo, A, c⟩, rfl, h1, h2, h3, h4, h5⟩
  exact ⟨(S', A, c), rfl, h1, own_rebase h2 (fun g hg => Nat.le_trans h0 (h5 g hg).1), h3, h4, h5⟩
theorem DoP.nil {w' : World} {K' : KV} {S' : List Nat} (h : KW lo q p K' S' w') (u : Upd S w w') (n : ∀ g ∈ S', g ∈ S ∨ w.heap.size ≤ g) : DoP lo q p K' [] S w (.returned (.slice none 0 0)) w' :=
  ⟨(S', w.heap.size, none, 0), rfl, h, Ek.nil _ _ _, u, n, by intro g hg; cases hg⟩
attribute [local irreducible] ansK ansM hearK hearM goneK obK obE doR Gr.hallR pressR loadR curtR faultR evs
end
end Go.Proofs.YthmikjjnlahlbaaGreat.Lc
namespace Go.Proofs.YthmikjjnlahlbaaGreat.Lc
set_option linter.unusedSectionVars false
set_option linter.unusedVariables false
set_option linter.unusedSimpArgs false
open Go.RowKit Go.Proofs.YthmikjjnlahlbaaGreat.Ba Go.Proofs.YthmikjjnlahlbaaGreat.Mem Go.Proofs.YthmikjjnlahlbaaGreat.En Go.Proofs.YthmikjjnlahlbaaGreat.Ty Go.Proofs.YthmikjjnlahlbaaGreat.Mo Go.Proofs.YthmikjjnlahlbaaGreat.St Go.Proofs.YthmikjjnlahlbaaGreat.Co
open Go.Proofs.YthmikjjnlahlbaaGreat.Ri (MsgV tickV hearV)
open Go.Proofs.YthmikjjnlahlbaaGreat.Qu (dropL atS btw firstA atF)
open Go.Proofs.YthmikjjnlahlbaaGreat.Le (hasL ofL setL setE endL zeroL atP isS isT isP)
open Go.Proofs.YthmikjjnlahlbaaGreat.Gr (loadR)
def key (l : LeaseV) : Int × Int × Int := (l.se, l.ca, l.fl)
def KR (a b : Int × Int × Int) : Prop := a.1 ≠ b.1 ∧ a.2.1 ≠ b.2.1
structure UQ (K : KV) : Prop where
  l : (K.L.map key).Pairwise KR
  q : (K.Q.map AskV.se).Pairwise (· ≠ ·)
theorem find_none {α : Type} {p : α → Bool} {ls : List α} (h : (ls.findIdx? p).isSome = false) : ∀ x ∈ ls, p x = false := by
  intro x hx
  have : ls.findIdx? p = none := by simpa using h
  exact List.findIdx?_eq_none_iff.1 this x hx
/-- The first of a kind taken out of a list where no two are of a kind. -/
theorem erase_filter {α : Type} (f : α → Int) (s : Int) : ∀ ls : List α, (ls.map f).Pairwise (· ≠ ·) → (match ls.findIdx? (fun a => f a == s) with | some k => ls.eraseIdx k | none => ls) = ls.filter (fun a => f a != s)
  | [], _ => rfl
  | a :: r, h => by
    rw [List.map_cons, List.pairwise_cons] at h
    have ih := erase_filter f s r h.2
    rw [List.findIdx?_cons]
    cases e : (f a == s) with
    | true =>
      have e1 : f a = s := by simpa using e
      have hr : r.filter (fun a => f a != s) = r := List.filter_eq_self.2 fun b hb => by
        have := h.1 (f b) (List.mem_map.2 ⟨b, hb, rfl⟩)
        simp only [bne_iff_ne, ne_eq]
        omega
      rw [List.filter_cons_of_neg (by simp [e1]), hr]; rfl
    | false =>
      rw [List.filter_cons_of_pos (by have : ¬ f a = s := by simpa using e
                                      simpa using this)]
      cases e2 : r.findIdx? (fun a => f a == s) with
      | none => rw [e2] at ih; simp only [] at ih; rw [← ih]; rfl
      | some k => rw [e2] at ih; simp only [] at ih; rw [← ih]; rfl
theorem key_se {ls : List LeaseV} (h : (ls.map key).Pairwise KR) : (ls.map LeaseV.se).Pairwise (· ≠ ·) := by
  rw [List.pairwise_map] at h ⊢
  exact h.imp fun h => h.1
theorem end_filter {ls : List LeaseV} (h : (ls.map key).Pairwise KR) (s : Int) : endL ls s = ls.filter (fun l => l.se != s) := erase_filter LeaseV.se s ls (key_se h)
theorem drop_filter {ls : List AskV} (h : (ls.map AskV.se).Pairwise (· ≠ ·)) (s : Int) : dropL ls s = ls.filter (fun l => l.se != s) := erase_filter AskV.se s ls h
theorem end_no {ls : List LeaseV} {s : Int} (h : ¬ hasL ls s = true) : endL ls s = ls := by
  unfold endL; unfold hasL at h
  cases e : atP ls (isS s) with
  | none => rfl
  | some k => rw [e] at h; exact absurd rfl h
theorem set_key (c : CfgV) (ls : List LeaseV) (x : LeaseV) : (setL c ls x).map key = ls.map key := by
  unfold setL; split
  · split
    · rename_i k hk
      obtain ⟨hl, h1, _⟩ := Le.atP_some hk
      have h2 := h1 hl
      unfold isT at h2
      simp only [Bool.and_eq_true, beq_iff_eq] at h2
      apply List.ext_getElem
      · simp
      · intro i _ h4
        have h4 : i < ls.length := by simpa using h4
        rw [List.getElem_map, List.getElem_map, List.getElem_set]
        split
        · rename_i e; subst e
          unfold key; rw [h2.1.1, h2.1.2, h2.2]
        · rfl
    · rfl
  · rfl
section
variable {K : KV}
theorem UQ.new (c : CfgV) : UQ (newK c) := ⟨by simp [newK], by simp [newK]⟩
theorem UQ.ans (h : UQ K) (a : AskV) : UQ (ansK K a) := by
  refine ⟨h.l, ?_⟩
  unfold ansK ansQ
  show ((if _ then _ else _ : List AskV).map AskV.se).Pairwise (· ≠ ·)
  split
  · split
    · exact h.q
    · unfold Qu.putL; split
      · rename_i he
        unfold Qu.putE at he
        split at he
        · cases he
        · rename_i hn
          rw [List.map_append, List.pairwise_append]
          refine ⟨h.q, by simp, fun x hx y hy => ?_⟩
          obtain ⟨b, hb, rfl⟩ := List.mem_map.1 hx
          have := find_none (p := Qu.isS a.se) (ls := K.Q) (by simpa [atS] using hn) b hb
          have hy : y = a.se := by simpa using hy
          subst hy
          simpa [Qu.isS] using this
      · exact h.q
  · exact h.q
theorem UQ.end_ (h : UQ K) (s : Int) : UQ (endK K s) := by
  unfold Co.endK; split
  · exact ⟨h.l.sublist ((end_sub _ _).map _), h.q⟩
  · exact h
theorem UQ.set (h : UQ K) (l : LeaseV) (o : Bool) : UQ (setK K l o) := by
  unfold setK; split
  · exact h.end_ _
  · exact ⟨by show ((setL _ _ _).map key).Pairwise KR; rw [set_key]; exact h.l, h.q⟩
theorem UQ.hear (h : UQ K) (s : Int) (x : MsgV) : UQ (hearK K s x) := by
  unfold hearK; split
  · exact h.set _ _
  · exact h
theorem UQ.gone (h : UQ K) (s : Int) : UQ (goneK K s) :=
  ⟨(h.end_ s).l, h.q.sublist ((drop_sub _ _).map _)⟩
theorem UQ.grp (h : UQ K) (G : Gr.GrV) : UQ { K with G := G } := ⟨h.l, h.q⟩
theorem UQ.fold (h : UQ K) (k : Nat) : UQ (foldK K k).1 := by
  have key : ∀ (ls : List LeaseV) (x : KV × List EvV), UQ x.1 → UQ (ls.foldl stepK x).1 := by
    intro ls
    induction ls with
    | nil => intro x h; exact h
    | cons l r ih => intro x h; rw [List.foldl_cons]; exact ih _ (h.set _ _)
  exact key _ _ (h.grp _)
theorem UQ.grant (h : UQ K) : UQ (grantK K) := by
  unfold grantK; split
  · exact h
  · rename_i a ha
    refine ⟨?_, h.q.sublist ((drop_sub _ _).map _)⟩
    show ((Le.putL _ _ _).map key).Pairwise KR
    unfold Le.putL; split
    · rename_i he
      unfold Le.putE at he
      split at he
      · split at he
        · cases he
        · rename_i hn
          rw [List.map_append, List.pairwise_append]
          refine ⟨h.l, by simp, fun x hx y hy => ?_⟩
          obtain ⟨b, hb, rfl⟩ := List.mem_map.1 hx
          have hy : y = Lc.key (grL K a) := by simpa using hy
          subst hy
          have := find_none (p := isP (grL K a)) (ls := K.L) (by simpa [atP] using hn) b hb
          unfold isP at this
          simp only [Bool.or_eq_false_iff, beq_eq_false_iff_ne] at this
          exact this
      · cases he
    · exact h.l
theorem UQ.tick (h : UQ K) : UQ (tickK K) := (h.fold _).grant
theorem UQ.obS {x : KV × List EvV} (h : UQ x.1) (l : LeaseV) : UQ (obStep x l).1 := by
  unfold obStep; split
  · exact (h.grp _).hear _ _
  · split
    · exact (h.grp _).hear _ _
    · exact h
theorem UQ.ob (h : UQ K) (k : Nat) : UQ (obF K k).1 := by
  have key : ∀ (ls : List LeaseV) (x : KV × List EvV), UQ x.1 → UQ (ls.foldl obStep x).1 := by
    intro ls
    induction ls with
    | nil => intro x h; exact h
    | cons l r ih => intro x h; rw [List.foldl_cons]; exact ih _ (UQ.obS h l)
  exact key _ _ h
theorem UQ.do_ (h : UQ K) (o : KopV) : UQ (doK K o) := by
  unfold doK
  split
  · exact h.ans _
  split
  · exact h.hear _ _
  split
  · exact h.gone _
  split
  · exact UQ.ob h _
  · exact h.grp _
end
end Go.Proofs.YthmikjjnlahlbaaGreat.Lc
namespace Go.Proofs.YthmikjjnlahlbaaGreat.Lc
set_option linter.unusedSectionVars false
set_option linter.unusedVariables false
set_option linter.unusedSimpArgs false
open Go.RowKit Go.Proofs.YthmikjjnlahlbaaGreat.Ba Go.Proofs.YthmikjjnlahlbaaGreat.Mem Go.Proofs.YthmikjjnlahlbaaGreat.En Go.Proofs.YthmikjjnlahlbaaGreat.Ty Go.Proofs.YthmikjjnlahlbaaGreat.Mo Go.Proofs.YthmikjjnlahlbaaGreat.St Go.Proofs.YthmikjjnlahlbaaGreat.Co
open Go.Proofs.YthmikjjnlahlbaaGreat.Ri (MsgV tickV hearV trV sp rn mayRe)
open Go.Proofs.YthmikjjnlahlbaaGreat.Qu (dropL atS btw firstA atF)
open Go.Proofs.YthmikjjnlahlbaaGreat.Le (hasL ofL setL setE endL zeroL atP isS isT isP goodB)
open Go.Proofs.YthmikjjnlahlbaaGreat.Tm (cl)
open Go.Proofs.YthmikjjnlahlbaaGreat.Gr (loadR)
/-- How long a lease may stand by its phase, without renewals. -/
def bp (c : CfgV) (ph : Int) : Int := if ph = 1 then trV c else if ph = 2 then trV c + sp c.ho else if ph = 3 then 2 * trV c + sp c.ho else 2 * trV c + 2 * sp c.ho
structure Bn (c : CfgV) (l : LeaseV) : Prop where
  re : 0 ≤ l.re ∧ l.re ≤ rn c.re
  un : l.un ≤ l.gr + bp c l.ph + sp c.ho * l.re
  gd : goodB c l = true
  gr : 0 ≤ l.gr ∧ l.gr ≤ 1000000
structure LI (c : CfgV) (now : Int) (l : LeaseV) : Prop extends Bn c l where
  lt : now < l.un
theorem good_ph {c : CfgV} {l : LeaseV} (h : goodB c l = true) : 1 ≤ l.ph ∧ l.ph ≤ 4 := by
  unfold goodB at h
  simp only [Bool.and_eq_true, decide_eq_true_eq] at h
  exact ⟨h.1.2, h.2⟩
theorem good_of {c : CfgV} {l x : LeaseV} (h : goodB c l = true) (h1 : x.se = l.se ∧ x.fl = l.fl ∧ x.fm = l.fm ∧ x.to = l.to ∧ x.ma = l.ma ∧ x.ca = l.ca) (h2 : 1 ≤ x.ph ∧ x.ph ≤ 4) : goodB c x = true := by
  unfold goodB Le.askOf at h ⊢
  obtain ⟨e1, e2, e3, e4, e5, e6⟩ := h1
  rw [e1, e2, e3, e4, e5, e6]
  simp only [Bool.and_eq_true, decide_eq_true_eq] at h ⊢
  exact ⟨⟨h.1.1, h2.1⟩, h2.2⟩
theorem cl_lt {a b : Int} (h : ¬ cl a ≤ cl b) (hb : 0 ≤ b ∧ b ≤ 1000000) : b < a := by
  unfold cl at h; (repeat' split at h) <;> omega
theorem cl_add {a b : Int} (ha : 0 ≤ a ∧ a ≤ 1000000) (hb : 0 ≤ b ∧ b ≤ 10000) : cl (cl a + cl b) = a + b := by
  rw [Tm.cl_id a (by omega) (by omega), Tm.cl_id b (by omega) (by omega), Tm.cl_id _ (by omega) (by omega)]
section
variable {c : CfgV} {l : LeaseV} {now : Int}
theorem rn_hi (n : Int) : rn n ≤ 1000 := by unfold rn; repeat' split <;> omega
theorem Bn.tick (h : Bn c l) (hn : 0 ≤ now ∧ now ≤ 1000000) (x : CarV) (ho : (tickV c l x now).2.2 = false) : LI c now (tickV c l x now).1 := by
  have hs := Ri.sp_lo c.ho
  have hs2 := Ri.sp_hi c.ho
  have hp := good_ph h.gd
  have hr := h.re
  have hu := h.un
  have ha := cl_add hn (b := sp c.ho) (by omega)
  unfold tickV at ho ⊢
  split at ho
  · cases ho
  rename_i hl
  rw [if_neg hl]
  have hlt : now < l.un := cl_lt (fun h => hl (.inr h)) hn
  split
  · rename_i h1
    refine ⟨⟨hr, ?_, good_of h.gd ⟨rfl, rfl, rfl, rfl, rfl, rfl⟩ (by show 1 ≤ (2 : Int) ∧ (2 : Int) ≤ 4; decide), h.gr⟩, by show now < cl _; rw [ha]; omega⟩
    show cl _ ≤ l.gr + bp c 2 + sp c.ho * l.re
    rw [ha]; rw [h1.1] at hu
    have e1 : bp c 1 = trV c := rfl
    have e2 : bp c 2 = trV c + sp c.ho := rfl
    omega
  · split
    · rename_i h1
      refine ⟨⟨hr, ?_, good_of h.gd ⟨rfl, rfl, rfl, rfl, rfl, rfl⟩ (by show 1 ≤ (4 : Int) ∧ (4 : Int) ≤ 4; decide), h.gr⟩, by show now < cl _; rw [ha]; omega⟩
      show cl _ ≤ l.gr + bp c 4 + sp c.ho * l.re
      rw [ha]; rw [h1.1] at hu
      have e1 : bp c 3 = 2 * trV c + sp c.ho := rfl
      have e2 : bp c 4 = 2 * trV c + 2 * sp c.ho := rfl
      omega
    · exact ⟨⟨hr, hu, good_of h.gd ⟨rfl, rfl, rfl, rfl, rfl, rfl⟩ hp, h.gr⟩, hlt⟩
theorem LI.hear (h : LI c now l) (hn : 0 ≤ now ∧ now ≤ 1000000) (x : CarV) (m : MsgV) : LI c now (hearV c l x now m).1 := by
  have hs := Ri.sp_lo c.ho
  have hs2 := Ri.sp_hi c.ho
  have ht := Ri.tr_lo c
  have ht2 := Ri.tr_hi c
  have hp := good_ph h.gd
  have hr := h.re
  have hu := h.un
  have hlt := h.lt
  have ha := cl_add hn (b := sp c.ho) (by omega)
  have hb := cl_add hn (b := trV c) (by omega)
  have same : LI c now ⟨l.se, l.fl, l.fm, l.to, l.ma, l.ca, l.ph, l.un, l.re, l.gr⟩ := h
  unfold hearV
  split
  · rename_i h1
    split
    · refine ⟨⟨hr, ?_, good_of h.gd ⟨rfl, rfl, rfl, rfl, rfl, rfl⟩ (by show 1 ≤ (3 : Int) ∧ (3 : Int) ≤ 4; decide), h.gr⟩, by show now < cl _; rw [hb]; omega⟩
      show cl _ ≤ l.gr + bp c 3 + sp c.ho * l.re
      rw [hb]; rw [h1.2] at hu
      have e1 : bp c 2 = trV c + sp c.ho := rfl
      have e2 : bp c 3 = 2 * trV c + sp c.ho := rfl
      omega
    · exact same
  · split
    · exact same
    · split
      · rename_i h1
        have hm := h1.2
        unfold mayRe at hm
        simp only [Bool.and_eq_true, decide_eq_true_eq] at hm
        have hx := rn_hi c.re
        have hw : IntKind.i64.wrap (l.re + 1) = l.re + 1 := Gr.wrG _ (by omega) (by omega)
        refine ⟨⟨?_, ?_, good_of h.gd ⟨rfl, rfl, rfl, rfl, rfl, rfl⟩ hp, h.gr⟩, by show now < cl _; rw [ha]; omega⟩
        · show 0 ≤ IntKind.i64.wrap (l.re + 1) ∧ IntKind.i64.wrap (l.re + 1) ≤ _
          rw [hw]; omega
        · show cl _ ≤ l.gr + bp c l.ph + sp c.ho * IntKind.i64.wrap (l.re + 1)
          rw [hw, ha, Int.mul_add, Int.mul_one]; omega
      · exact same
/-- What is in a table behind Set. -/
theorem set_all {ls : List LeaseV} {x : LeaseV} (hU : (ls.map key).Pairwise KR) (hg : goodB c x = true) : ∀ y ∈ setL c ls x, y = x ∨ (y ∈ ls ∧ key y ≠ key x) := by
  intro y hy
  unfold setL at hy
  rw [if_pos hg] at hy
  split at hy
  · rename_i k hat
    obtain ⟨hl, h1, _⟩ := Le.atP_some hat
    have h2 := h1 hl
    unfold isT at h2
    simp only [Bool.and_eq_true, beq_iff_eq] at h2
    obtain ⟨i, hi, rfl⟩ := List.getElem_of_mem hy
    rw [List.getElem_set]
    split
    · exact .inl rfl
    · rename_i hne
      have hi : i < ls.length := by simpa using hi
      refine .inr ⟨List.getElem_mem hi, fun e => ?_⟩
      have e : (ls[i]).se = x.se := congrArg Prod.fst e
      rw [List.pairwise_map, List.pairwise_iff_getElem] at hU
      rw [← h2.1.1] at e
      rcases Nat.lt_or_gt_of_ne hne with h | h
      · exact (hU k i hl hi h).1 e.symm
      · exact (hU i k hi hl h).1 e
  · rename_i hat
    refine .inr ⟨hy, fun e => ?_⟩
    have := List.findIdx?_eq_none_iff.1 hat y hy
    have e1 : y.se = x.se := congrArg Prod.fst e
    have e2 : y.ca = x.ca := congrArg (fun z => z.2.1) e
    have e3 : y.fl = x.fl := congrArg (fun z => z.2.2) e
    simp [isT, e1, e2, e3] at this
theorem tickV_key (x : CarV) : key (tickV c l x now).1 = key l := by
  unfold tickV; (repeat' split) <;> rfl
theorem hearV_key (x : CarV) (m : MsgV) : key (hearV c l x now m).1 = key l := by
  unfold hearV; (repeat' split) <;> rfl
end
section
variable {K : KV}
theorem end_now (K : KV) (s : Int) : (Co.endK K s).G.now = K.G.now := by unfold Co.endK; split; exact (Gr.give_w _).2; rfl
theorem set_now (K : KV) (l : LeaseV) (o : Bool) : (setK K l o).G.now = K.G.now := by
  unfold setK; split
  · exact end_now _ _
  · exact (Gr.aim_w _ _ _).2
theorem end_ne (h : UQ K) (s : Int) : ∀ y ∈ (Co.endK K s).L, y ∈ K.L ∧ y.se ≠ s := by
  intro y hy
  unfold Co.endK at hy
  split at hy
  · change y ∈ endL K.L s at hy
    rw [end_filter h.l] at hy
    have := List.mem_filter.1 hy
    exact ⟨this.1, by simpa using this.2⟩
  · rename_i hn
    refine ⟨hy, fun e => ?_⟩
    have := find_none (p := isS s) (ls := K.L) (by simpa [hasL, atP] using hn) y hy
    simp [isS, e] at this
/-- All its leases stand in time. -/
def EI (c : CfgV) (K : KV) : Prop := ∀ l ∈ K.L, LI c K.G.now l
section
variable {c : CfgV} {n T m : Nat}
theorem EI.sub {K' : KV} (h : EI c K) (hn : K'.G.now = K.G.now) (hs : ∀ y ∈ K'.L, y ∈ K.L) : EI c K' := fun l hl => by rw [hn]; exact h l (hs l hl)
theorem EI.set (hc : K.G.c = c) (hU : UQ K) (h : EI c K) {l : LeaseV} (hl : LI c K.G.now l) (o : Bool) : EI c (setK K l o) := by
  intro y hy
  rw [set_now]
  unfold setK at hy
  split at hy
  · exact h y (end_ne hU _ y hy).1
  · change y ∈ setL K.G.c K.L l at hy
    rw [hc] at hy
    rcases set_all hU.l hl.gd y hy with rfl | hy
    · exact hl
    · exact h y hy.1
theorem EI.hear (hc : K.G.c = c) (hU : UQ K) (hn : 0 ≤ K.G.now ∧ K.G.now ≤ 1000000) (h : EI c K) (s : Int) (x : MsgV) : EI c (hearK K s x) := by
  unfold hearK; split
  · rename_i hL
    refine EI.set hc hU h ?_ _
    unfold hearR
    rw [hc]
    exact (h _ (has_mem hL).1).hear hn _ _
  · exact h
theorem EI.fold {now : Int} (hn : 0 ≤ now ∧ now ≤ 1000000) : ∀ (rest : List LeaseV) (x : KV × List EvV), x.1.G.now = now → x.1.G.c = c → UQ x.1 → (∀ y ∈ rest, Bn c y) → (∀ y ∈ x.1.L, y ∈ rest ∨ LI c now y) → ∀ y ∈ (rest.foldl stepK x).1.L, LI c now y
  | [], x, _, _, _, _, h => fun y hy => (h y hy).resolve_left (by simp)
  | l :: r, x, h1, h2, h3, h4, h5 => by
    rw [List.foldl_cons]
    have hs : (stepK x l).1 = setK x.1 (stepR x.1 l).1 (stepR x.1 l).2.2 := rfl
    refine EI.fold hn r (stepK x l) (by rw [hs, set_now]; exact h1) (by rw [hs, setK_c]; exact h2) (by rw [hs]; exact h3.set _ _) (fun y hy => h4 y (List.mem_cons_of_mem _ hy)) ?_
    intro y hy
    rw [hs] at hy
    have hk : key (stepR x.1 l).1 = key l := by unfold stepR; exact tickV_key _
    cases ho : (stepR x.1 l).2.2 with
    | true =>
      rw [ho] at hy
      unfold setK at hy
      rw [if_pos rfl] at hy
      obtain ⟨hy1, hy2⟩ := end_ne h3 _ y hy
      rcases h5 y hy1 with h | h
      · rcases List.mem_cons.1 h with rfl | h
        · exact absurd (congrArg Prod.fst hk).symm hy2
        · exact .inl h
      · exact .inr h
    | false =>
      have hl : LI c now (stepR x.1 l).1 := by
        unfold stepR at ho ⊢
        rw [h1, h2] at ho ⊢
        exact (h4 l (List.mem_cons_self ..)).tick hn _ ho
      rw [ho] at hy
      unfold setK at hy
      rw [if_neg (by decide)] at hy
      change y ∈ setL x.1.G.c x.1.L _ at hy
      rw [h2] at hy
      rcases set_all h3.l hl.gd y hy with rfl | ⟨hy1, hy2⟩
      · exact .inr hl
      · rcases h5 y hy1 with h | h
        · rcases List.mem_cons.1 h with rfl | h
          · exact absurd hk.symm hy2
          · exact .inl h
        · exact .inr h
theorem EI.grant (hc : K.G.c = c) (hn : 0 ≤ K.G.now ∧ K.G.now ≤ 1000000) (h : EI c K) : EI c (grantK K) := by
  unfold grantK; split
  · exact h
  · rename_i a ha
    intro y hy
    have hnow : (grK K a).G.now = K.G.now := (Gr.take_w _ _).2
    rw [hnow]
    change y ∈ Le.putL _ _ _ at hy
    unfold Le.putL at hy
    split at hy
    · rename_i he
      rcases List.mem_append.1 hy with hy | hy
      · exact h y hy
      · rw [List.mem_singleton] at hy
        subst hy
        have ht := Ri.tr_lo c
        have ht2 := Ri.tr_hi c
        have e := cl_add hn (b := trV c) (by omega)
        have hg : goodB c (grL K a) = true := by
          unfold Le.putE at he
          split at he
          · rename_i hg; rw [hc] at hg; exact hg
          · cases he
        have hun : (grL K a).un = K.G.now + trV c := by show cl (cl K.G.now + cl (trV K.G.c)) = _; rw [hc, e]
        refine ⟨⟨?_, ?_, hg, hn⟩, by rw [hun]; omega⟩
        · show (0 : Int) ≤ 0 ∧ 0 ≤ rn c.re
          unfold rn; (repeat' split) <;> omega
        · rw [hun]
          show K.G.now + trV c ≤ K.G.now + trV c + sp c.ho * 0
          omega
    · exact h y hy
end
end
/-- What holds of a core at any time. -/
structure PI (c : CfgV) (n T : Nat) (K : KV) : Prop where
  k : KI c n T T K
  u : UQ K
  e : EI c K
  t : K.G.now ≤ T
section
variable {c : CfgV} {n T : Nat} {K : KV}
theorem PI.new (c : CfgV) : PI c 0 0 (newK c) := ⟨KI.new c, UQ.new c, (fun l hl => by cases hl), (by show (0 : Int) ≤ 0; omega)⟩
theorem PI.more {n' T' : Nat} (h : PI c n T K) (h1 : n ≤ n') (h2 : T ≤ T') : PI c n' T' K := ⟨h.k.more h1 h2 h2, h.u, h.e, by have := h.t; omega⟩
theorem hear_now (K : KV) (s : Int) (x : MsgV) : (hearK K s x).G.now = K.G.now := by unfold hearK; split; exact set_now _ _ _; rfl
theorem obS_pi {x : KV × List EvV} (hT : T ≤ 1000000) (h : PI c n T x.1) (l : LeaseV) : PI c n T (obStep x l).1 := by
  have ld : ∀ v, PI c n T (ldK x.1 l v) := fun v => ⟨KI.ld h.k l v, h.u.grp _, EI.sub h.e (Gr.load_w _ _).2 (fun _ hy => hy), by show (loadR x.1.G l.ca v).1.now ≤ T; rw [(Gr.load_w _ _).2]; exact h.t⟩
  have hr : ∀ v m, PI c n T (hearK (ldK x.1 l v) l.se m) := fun v m => ⟨(ld v).k.hear _ _, (ld v).u.hear _ _, EI.hear (ld v).k.g.1 (ld v).u ⟨(ld v).k.now.1, by have := (ld v).t; omega⟩ (ld v).e _ _, by rw [hear_now]; exact (ld v).t⟩
  unfold obStep; split
  · exact hr _ _
  · split
    · exact hr _ _
    · exact h
theorem PI.ob (hT : T ≤ 1000000) (h : PI c n T K) (k : Nat) : PI c n T (obF K k).1 := by
  have key : ∀ (ls : List LeaseV) (x : KV × List EvV), PI c n T x.1 → PI c n T (ls.foldl obStep x).1 := by
    intro ls
    induction ls with
    | nil => intro x h; exact h
    | cons l r ih => intro x h; rw [List.foldl_cons]; exact ih _ (obS_pi hT h l)
  exact key _ _ h
theorem PI.do_ (h : PI c n T K) (hT : T ≤ 1000000) (o : KopV) : PI c (n + 1) T (doK K o) := by
  have hk := KI.do_ h.k o
  have hu := h.u.do_ o
  have hn : 0 ≤ K.G.now ∧ K.G.now ≤ 1000000 := ⟨h.k.now.1, by have := h.t; omega⟩
  refine ⟨hk, hu, ?_, ?_⟩
  · unfold doK
    split
    · exact h.e
    split
    · exact EI.hear h.k.g.1 h.u hn h.e _ _
    split
    · exact EI.sub h.e (end_now K o.q.se) (fun y hy => (end_ne h.u _ y hy).1)
    split
    · exact (PI.ob hT h _).e
    · exact EI.sub h.e (gdo_w _ _).1 (fun _ hy => hy)
  · unfold doK
    split
    · exact h.t
    split
    · rw [hear_now]; exact h.t
    split
    · show (Co.endK K o.q.se).G.now ≤ T; rw [end_now]; exact h.t
    split
    · exact (PI.ob hT h _).t
    · show (gdo K.G o).now ≤ T; rw [(gdo_w _ _).1]; exact h.t
theorem fold_now (K : KV) (k : Nat) : (foldK K k).1.G.now = (tkK1 K).G.now := by
  have key : ∀ (ls : List LeaseV) (x : KV × List EvV), (ls.foldl stepK x).1.G.now = x.1.G.now := by
    intro ls
    induction ls with
    | nil => intro x; rfl
    | cons l r ih => intro x; rw [List.foldl_cons, ih]; exact set_now _ _ _
  exact key _ _
theorem grant_now (K : KV) : (grantK K).G.now = K.G.now := by unfold grantK; split; rfl; exact (Gr.take_w _ _).2
theorem tk1_now (K : KV) (h : 0 ≤ K.G.now ∧ K.G.now ≤ 1000000) : (tkK1 K).G.now = K.G.now + 1 := by
  show cl (cl K.G.now + cl 1) = _
  exact cl_add h (by decide)
theorem PI.tick (h : PI c n T K) (hT : T < 1000000) : PI c n (T + 1) (tickK K) := by
  have hn : 0 ≤ K.G.now ∧ K.G.now ≤ 1000000 := ⟨h.k.now.1, by have := h.t; omega⟩
  have h1 := tk1_now K hn
  have hf := fold_now K K.L.length
  have hn2 : 0 ≤ (tkK1 K).G.now ∧ (tkK1 K).G.now ≤ 1000000 := by rw [h1]; have := h.t; omega
  refine ⟨h.k.tick, h.u.tick, ?_, ?_⟩
  · refine EI.grant ((h.k.fold _).g.1) (by rw [hf]; exact hn2) ?_
    intro y hy
    rw [hf]
    have hL : K.L.take K.L.length = K.L := List.take_length
    unfold foldK at hy
    rw [hL] at hy
    exact EI.fold hn2 K.L (tkK1 K, []) rfl h.k.g.1 (h.u.grp _) (fun y hy => (h.e y hy).toBn) (fun y hy => .inl hy) y hy
  · show (grantK _).G.now ≤ _
    rw [grant_now, hf, h1]
    have := h.t
    omega
def boundV (c : CfgV) : Int := 2 * trV c + sp c.ho * (2 + rn c.re)
end
end Go.Proofs.YthmikjjnlahlbaaGreat.Lc
namespace Go.Proofs.YthmikjjnlahlbaaGreat.Lc
set_option linter.unusedSectionVars false
set_option linter.unusedVariables false
set_option linter.unusedSimpArgs false
open Go.RowKit Go.Proofs.YthmikjjnlahlbaaGreat.Ba Go.Proofs.YthmikjjnlahlbaaGreat.Mem Go.Proofs.YthmikjjnlahlbaaGreat.En Go.Proofs.YthmikjjnlahlbaaGreat.Ty Go.Proofs.YthmikjjnlahlbaaGreat.Mo Go.Proofs.YthmikjjnlahlbaaGreat.St Go.Proofs.YthmikjjnlahlbaaGreat.Co
open Go.Proofs.YthmikjjnlahlbaaGreat.Ri (MsgV tickV hearV trV sp rn mayRe opB aimF)
open Go.Proofs.YthmikjjnlahlbaaGreat.Qu (dropL atS btw firstA atF)
open Go.Proofs.YthmikjjnlahlbaaGreat.Le (hasL ofL setL setE endL zeroL atP isS isT isP goodB)
open Go.Proofs.YthmikjjnlahlbaaGreat.Fl (cn)
open Go.Proofs.YthmikjjnlahlbaaGreat.Gr (GrV loadR one giveR aimR takeR giveC tickG hasF)
open Go.Proofs.YthmikjjnlahlbaaGreat.Ct (tkV)
/-- What of a car a lease looks at. -/
structure SM (x y : CarV) : Prop where
  mo : y.mo = x.mo
  ta : y.ta = x.ta
  ho : y.ho = x.ho
  ds : y.ds = x.ds
  un : y.un = x.un
theorem SM.op {x y : CarV} (h : SM x y) (f : Int) : opB y f = opB x f := by unfold opB; rw [h.ds, h.un]
/-- The same cars, by what leases look at. -/
def SG (G G' : GrV) : Prop := G'.cars.length = G.cars.length ∧ ∀ (i : Nat) (x : CarV), G.cars[i]? = some x → ∃ y, G'.cars[i]? = some y ∧ SM x y
theorem SG.refl (G : GrV) : SG G G := ⟨rfl, fun i x h => ⟨x, h, rfl, rfl, rfl, rfl, rfl⟩⟩
theorem SG.one {G : GrV} (i : Int) (f : CarV → CarV × Int) (hf : ∀ x, SM x (f x).1) : SG G (one G i f).1 :=
  ⟨Gr.one_same.2.2.2, fun k x h => ⟨_, Gr.one_at h, by split; exact hf x; exact ⟨rfl, rfl, rfl, rfl, rfl⟩⟩⟩
theorem gdo_sg (G : GrV) (o : KopV) : SG G (gdo G o) := by
  unfold gdo; split
  · unfold Gr.doR
    split
    · unfold Gr.hallR; split
      · split <;> exact ⟨rfl, fun i x h => ⟨x, h, rfl, rfl, rfl, rfl, rfl⟩⟩
      · exact SG.refl _
    split
    · unfold Gr.pressR; split
      · exact SG.one _ _ (fun x => by show SM x (Gr.pressX _ x); unfold Gr.pressX; split <;> exact ⟨rfl, rfl, rfl, rfl, rfl⟩)
      · exact SG.refl _
    split
    · exact SG.one _ _ (fun x => ⟨rfl, rfl, rfl, rfl, rfl⟩)
    split
    · exact SG.one _ _ (fun x => ⟨rfl, rfl, rfl, rfl, rfl⟩)
    split
    · unfold Gr.faultR; split
      · split
        · have := SG.one (G := G) o.a (fun x => (Gr.fltX x, 0)) (fun x => ⟨rfl, rfl, rfl, rfl, rfl⟩)
          exact ⟨this.1, this.2⟩
        · exact SG.refl _
      · exact SG.one _ _ (fun x => ⟨rfl, rfl, rfl, rfl, rfl⟩)
    omega
  · exact SG.refl _
/-- How a lease's car stands; of those that are still to be looked at in a tick: unless it is broken. -/
structure HB (rest : List LeaseV) (x : CarV) (l : LeaseV) : Prop where
  mo : x.mo = 1
  ta : x.ta = aimF l
  ho : x.ho = true
  op : (l ∈ rest → x.br = false) → (l.ph = 2 ∨ l.ph = 4) → opB x (aimF l) = true
structure CI (rest : List LeaseV) (K : KV) : Prop where
  a : ∀ l ∈ K.L, ∃ x, K.G.cars[l.ca.toNat]? = some x ∧ HB rest x l
  b : ∀ (i : Nat) x, K.G.cars[i]? = some x → x.mo = 1 → ∃ l ∈ K.L, l.ca = (i : Int)
  m : ∃ (i : Nat) (x : CarV), K.G.cars[i]? = some x ∧ x.mo = 0
  q : ∀ a ∈ K.Q, ∀ l ∈ K.L, a.se ≠ l.se
  f : ∀ f, (cn K.L f : Int) ≤ btw K.G.c.qo 1 8
section
variable {K : KV} {rest : List LeaseV} {c : CfgV} {n T m : Nat}
theorem pair_of {α : Type} {R : α → α → Prop} (hs : ∀ a b, R a b → R b a) : ∀ {ls : List α}, ls.Pairwise R → ∀ a ∈ ls, ∀ b ∈ ls, a = b ∨ R a b
  | [], _, a, ha, _, _ => by cases ha
  | x :: r, h, a, ha, b, hb => by
    rw [List.pairwise_cons] at h
    rcases List.mem_cons.1 ha with e1 | e1
    · rcases List.mem_cons.1 hb with e2 | e2
      · exact .inl (e1.trans e2.symm)
      · exact .inr (e1 ▸ h.1 b e2)
    · rcases List.mem_cons.1 hb with e2 | e2
      · exact .inr (e2 ▸ hs _ _ (h.1 a e1))
      · exact pair_of hs h.2 a e1 b e2
theorem UQ.two (h : UQ K) {l y : LeaseV} (hl : l ∈ K.L) (hy : y ∈ K.L) : l = y ∨ (l.se ≠ y.se ∧ l.ca ≠ y.ca) := by
  have := h.l
  rw [List.pairwise_map] at this
  exact pair_of (R := fun a b => KR (key a) (key b)) (fun a b h => ⟨fun e => h.1 e.symm, fun e => h.2 e.symm⟩) this l hl y hy
theorem CI.new (c : CfgV) : CI [] (newK c) := by
  have hz : ∀ (i : Nat) x, (newK c).G.cars[i]? = some x → x.mo = 0 := fun i x h => by
    have := List.eq_of_mem_replicate (show x ∈ List.replicate (Gr.ncars c) Gr.zeroX from List.mem_of_getElem? h)
    rw [this]; rfl
  have hb := Gr.ncars_bd c
  refine ⟨fun l hl => (by cases hl), fun i x h h1 => (by rw [hz i x h] at h1; cases h1), ?_, fun a ha => (by cases ha), fun f => ?_⟩
  · obtain ⟨x, hx⟩ : ∃ x, (newK c).G.cars[0]? = some x := ⟨_, List.getElem?_eq_getElem (by show 0 < (List.replicate (Gr.ncars c) Gr.zeroX).length; rw [List.length_replicate]; omega)⟩
    exact ⟨0, x, hx, hz 0 x hx⟩
  · show ((0 : Nat) : Int) ≤ _
    unfold btw; (repeat' split) <;> omega
theorem CI.grp {G' : GrV} (h : CI [] K) (hs : SG K.G G') (hc : G'.c = K.G.c) : CI [] { K with G := G' } := by
  have back : ∀ (i : Nat) y, G'.cars[i]? = some y → ∃ x, K.G.cars[i]? = some x ∧ SM x y := fun i y hy => by
    have hi : i < K.G.cars.length := by rw [← hs.1]; exact (List.getElem?_eq_some_iff.1 hy).1
    obtain ⟨y', h1, h2⟩ := hs.2 i _ (List.getElem?_eq_getElem hi)
    rw [h1] at hy
    exact ⟨_, List.getElem?_eq_getElem hi, Option.some.inj hy ▸ h2⟩
  refine ⟨fun l hl => ?_, fun i y hy hm => ?_, ?_, h.q, fun f => by show _ ≤ btw G'.c.qo 1 8; rw [hc]; exact h.f f⟩
  · obtain ⟨x, hx, hb⟩ := h.a l hl
    obtain ⟨y, hy, hm⟩ := hs.2 _ x hx
    exact ⟨y, hy, hm.mo.trans hb.mo, hm.ta.trans hb.ta, hm.ho.trans hb.ho, fun _ hp => by rw [hm.op]; exact hb.op (fun h => by cases h) hp⟩
  · obtain ⟨x, hx, hm2⟩ := back i y hy
    exact h.b i x hx (hm2.mo ▸ hm)
  · obtain ⟨i, x, hx, h0⟩ := h.m
    obtain ⟨y, hy, hm⟩ := hs.2 i x hx
    exact ⟨i, y, hy, hm.mo.trans h0⟩
theorem cn_sub {ls ls' : List LeaseV} (h : ls'.Sublist ls) (f : Int) : cn ls' f ≤ cn ls f := h.countP_le
theorem CI.end_ (hi : ∀ l ∈ K.L, 0 ≤ l.ca) (hU : UQ K) (h : CI rest K) (s : Int) {r : List LeaseV} (hr : ∀ y ∈ K.L, y.se ≠ s → y ∈ rest → y ∈ r) : CI r (Co.endK K s) := by
  have ne := end_ne hU s
  unfold Co.endK at ne ⊢
  split
  · rename_i hL
    rw [if_pos hL] at ne
    obtain ⟨hm, hse⟩ := has_mem hL
    refine ⟨fun l hl => ?_, fun i y hy hmo => ?_, ?_, fun a ha l hl => h.q a ha l (ne l hl).1, fun f => ?_⟩
    · obtain ⟨h1, h2⟩ := ne l hl
      obtain ⟨x, hx, hb⟩ := h.a l h1
      have hne : ¬ ((l.ca.toNat : Nat) : Int) = (ofL K.L s).ca := by
        rcases hU.two h1 hm with e | e
        · exact absurd (e ▸ hse) h2
        · have := hi l h1; have := e.2; omega
      refine ⟨x, by have := Gr.one_at (i := (ofL K.L s).ca) (f := fun x => (Gr.givX K.G.c x, Gr.aimE x)) hx; rw [if_neg hne] at this; exact this, hb.mo, hb.ta, hb.ho, fun hw hp => hb.op (fun hin => hw (hr l h1 h2 hin)) hp⟩
    · have hlen : (giveR K.G (ofL K.L s).ca).1.cars.length = K.G.cars.length := Gr.one_same.2.2.2
      have hil : i < K.G.cars.length := by rw [← hlen]; exact (List.getElem?_eq_some_iff.1 hy).1
      have hx := List.getElem?_eq_getElem hil
      have hy2 := Gr.one_at (i := (ofL K.L s).ca) (f := fun x => (Gr.givX K.G.c x, Gr.aimE x)) hx
      have hy3 : (giveR K.G (ofL K.L s).ca).1.cars[i]? = _ := hy2
      have hy' : (giveR K.G (ofL K.L s).ca).1.cars[i]? = some y := hy
      rw [hy'] at hy3
      have e := Option.some.inj hy3
      by_cases hic : (i : Int) = (ofL K.L s).ca
      · rw [if_pos hic] at e
        exfalso
        rw [e] at hmo
        change (Gr.givX K.G.c K.G.cars[i]).mo = 1 at hmo
        unfold Gr.givX at hmo
        split at hmo
        · cases hmo
        · contradiction
      · rw [if_neg hic] at e
        obtain ⟨l, hl, hca⟩ := h.b i _ hx (e ▸ hmo)
        refine ⟨l, ?_, hca⟩
        show l ∈ endL K.L s
        rw [end_filter hU.l]
        refine List.mem_filter.2 ⟨hl, ?_⟩
        have : l.se ≠ s := fun e2 => by
          rcases hU.two hl hm with e3 | e3
          · exact hic (by rw [← hca, e3])
          · exact e3.1 (e2.trans hse.symm)
        simpa using this
    · obtain ⟨i, x, hx, h0⟩ := h.m
      refine ⟨i, _, Gr.one_at (i := (ofL K.L s).ca) (f := fun x => (Gr.givX K.G.c x, Gr.aimE x)) hx, ?_⟩
      split
      · show (Gr.givX K.G.c x).mo = 0
        unfold Gr.givX; split
        · rfl
        · exact h0
      · exact h0
    · show (cn (endL K.L s) f : Int) ≤ btw (giveR K.G _).1.c.qo 1 8
      rw [give_c]
      have := cn_sub (end_sub K.L s) f
      have := h.f f
      omega
  · rename_i hL
    rw [if_neg hL] at ne
    exact ⟨fun l hl => by
      obtain ⟨x, hx, hb⟩ := h.a l hl
      exact ⟨x, hx, hb.mo, hb.ta, hb.ho, fun hw hp => hb.op (fun hin => hw (hr l hl (ne l hl).2 hin)) hp⟩, h.b, h.m, h.q, h.f⟩
theorem cn_key {ls ls' : List LeaseV} (h : ls'.map key = ls.map key) (f : Int) : cn ls' f = cn ls f := by
  have e : ∀ zs : List LeaseV, cn zs f = (zs.map key).countP (fun k => k.2.2 == f) := fun zs => by
    unfold Fl.cn; rw [List.countP_map]; rfl
  rw [e, e, h]
/-- A lease that is told anew. -/
theorem CI.set (hi : ∀ l ∈ K.L, 0 ≤ l.ca) (hU : UQ K) (h : CI rest K) {l0 l : LeaseV} (h0 : l0 ∈ K.L) (hk : key l = key l0) (hg : goodB K.G.c l = true) {r : List LeaseV} (hr : ∀ y ∈ K.L, key y ≠ key l → y ∈ rest → y ∈ r)
    (hop : ∀ x, K.G.cars[l.ca.toNat]? = some x → HB rest x l0 → (l ∈ r → x.br = false) → (l.ph = 2 ∨ l.ph = 4) → opB x (aimF l) = true) : CI r (setK K l false) := by
  have hca : l.ca = l0.ca := congrArg (fun z => z.2.1) hk
  have hfr : hasF K.G.c (aimF l) = true := by
    have hm : Fl.mayB K.G.c (Le.askOf l) = true := by unfold goodB at hg; simp only [Bool.and_eq_true] at hg; exact hg.1.1.1.1
    have := may_fm hm
    unfold hasF aimF
    split
    · exact decide_eq_true this.1
    · exact decide_eq_true this.2
  have hat : ∀ (k : Nat) x, K.G.cars[k]? = some x → (aimR K.G l.ca (aimF l) true).1.cars[k]? = some (if (k : Int) = l.ca then Gr.aimX (aimF l) true x else x) := fun k x hx => by
    unfold aimR; rw [if_pos hfr]
    exact Gr.one_at hx
  have hlen : (aimR K.G l.ca (aimF l) true).1.cars.length = K.G.cars.length := by unfold aimR; rw [if_pos hfr]; exact Gr.one_same.2.2.2
  have ham : ∀ x, (Gr.aimX (aimF l) true x).mo = x.mo := fun x => by unfold Gr.aimX; split <;> rfl
  unfold setK
  rw [if_neg (by decide)]
  refine ⟨fun y hy => ?_, fun i y hy hmo => ?_, ?_, fun a ha y hy => ?_, fun f => ?_⟩
  · rcases set_all hU.l hg y hy with rfl | ⟨h1, h2⟩
    · obtain ⟨x, hx, hb⟩ := h.a l0 h0
      rw [← hca] at hx
      refine ⟨_, hat _ x hx, ?_⟩
      rw [if_pos (by have := hi l0 h0; omega)]
      have e : Gr.aimX (aimF y) true x = { x with ta := aimF y, ho := true } := by unfold Gr.aimX; rw [if_pos hb.mo]
      rw [e]
      exact ⟨hb.mo, rfl, rfl, fun hw hp => hop x hx hb hw hp⟩
    · obtain ⟨x, hx, hb⟩ := h.a y h1
      refine ⟨_, hat _ x hx, ?_⟩
      rw [if_neg (by
        rcases hU.two h1 h0 with e | e
        · exact absurd (e ▸ hk.symm) h2
        · have := hi y h1; have := e.2; omega)]
      exact ⟨hb.mo, hb.ta, hb.ho, fun hw hp => hb.op (fun hin => hw (hr y h1 h2 hin)) hp⟩
  · have hil : i < K.G.cars.length := by rw [← hlen]; exact (List.getElem?_eq_some_iff.1 hy).1
    have hx := List.getElem?_eq_getElem hil
    have hy2 := hat i _ hx
    have hy' : (aimR K.G l.ca (aimF l) true).1.cars[i]? = some y := hy
    rw [hy'] at hy2
    have e := Option.some.inj hy2
    have hm : (K.G.cars[i]).mo = 1 := by
      rw [e] at hmo
      split at hmo
      · rw [ham] at hmo; exact hmo
      · exact hmo
    obtain ⟨z, hz, hzc⟩ := h.b i _ hx hm
    have : key z ∈ (setL K.G.c K.L l).map key := by rw [set_key]; exact List.mem_map.2 ⟨z, hz, rfl⟩
    obtain ⟨z2, hz2, hk2⟩ := List.mem_map.1 this
    exact ⟨z2, hz2, by have : z2.ca = z.ca := congrArg (fun z => z.2.1) hk2; rw [this]; exact hzc⟩
  · obtain ⟨i, x, hx, hm0⟩ := h.m
    refine ⟨i, _, hat i x hx, ?_⟩
    split
    · rw [ham]; exact hm0
    · exact hm0
  · have : key y ∈ (setL K.G.c K.L l).map key := List.mem_map.2 ⟨y, hy, rfl⟩
    rw [set_key] at this
    obtain ⟨z, hz, hkz⟩ := List.mem_map.1 this
    have e : z.se = y.se := congrArg Prod.fst hkz
    rw [← e]; exact h.q a ha z hz
  · show (cn (setL K.G.c K.L l) f : Int) ≤ btw (aimR K.G _ _ _).1.c.qo 1 8
    rw [aim_c, cn_key (set_key _ _ _)]
    exact h.f f
end
end Go.Proofs.YthmikjjnlahlbaaGreat.Lc
namespace Go.Proofs.YthmikjjnlahlbaaGreat.Lc
set_option linter.unusedSectionVars false
set_option linter.unusedVariables false
set_option linter.unusedSimpArgs false
open Go.RowKit Go.Proofs.YthmikjjnlahlbaaGreat.Ba Go.Proofs.YthmikjjnlahlbaaGreat.Mem Go.Proofs.YthmikjjnlahlbaaGreat.En Go.Proofs.YthmikjjnlahlbaaGreat.Ty Go.Proofs.YthmikjjnlahlbaaGreat.Mo Go.Proofs.YthmikjjnlahlbaaGreat.St Go.Proofs.YthmikjjnlahlbaaGreat.Co
open Go.Proofs.YthmikjjnlahlbaaGreat.Ri (MsgV tickV hearV trV sp rn mayRe opB aimF)
open Go.Proofs.YthmikjjnlahlbaaGreat.Qu (dropL atS btw firstA atF)
open Go.Proofs.YthmikjjnlahlbaaGreat.Le (hasL ofL setL setE endL zeroL atP isS isT isP goodB)
open Go.Proofs.YthmikjjnlahlbaaGreat.Gr (GrV loadR one giveR aimR takeR giveC tickG hasF)
open Go.Proofs.YthmikjjnlahlbaaGreat.Ct (tkV)
section
variable {c : CfgV} {l : LeaseV} {now : Int}
theorem hearV_ph (x : CarV) (m : MsgV) (h : (hearV c l x now m).1.ph = 2 ∨ (hearV c l x now m).1.ph = 4) : (hearV c l x now m).1.ph = l.ph ∧ aimF (hearV c l x now m).1 = aimF l := by
  unfold hearV at h ⊢
  split
  · rename_i h1
    rw [if_pos h1] at h
    split
    · rename_i h2
      rw [if_pos h2] at h
      exfalso
      rcases h with h | h <;> cases h
    · exact ⟨rfl, rfl⟩
  · split
    · exact ⟨rfl, rfl⟩
    · split <;> exact ⟨rfl, rfl⟩
theorem tickV_op (x : CarV) (ho : (tickV c l x now).2.2 = false) : x.br = false ∧ ((tickV c l x now).1.ph = 2 ∨ (tickV c l x now).1.ph = 4 → ((l.ph = 2 ∨ l.ph = 4) ∧ aimF (tickV c l x now).1 = aimF l) ∨ opB x (aimF (tickV c l x now).1) = true) := by
  unfold tickV at ho ⊢
  split at ho
  · cases ho
  rename_i hl
  rw [if_neg hl]
  refine ⟨by cases hb : x.br with | true => exact absurd (.inl hb) hl | false => rfl, ?_⟩
  split
  · rename_i h1; exact fun _ => .inr h1.2
  · split
    · rename_i h1; exact fun _ => .inr h1.2
    · exact fun h => .inl ⟨h, rfl⟩
theorem good_ca (h : goodB c l = true) : 0 ≤ l.ca ∧ l.ca < 8 := by
  unfold goodB at h
  simp only [Bool.and_eq_true, decide_eq_true_eq] at h
  exact ⟨h.1.1.1.2, h.1.1.2⟩
theorem set_keep {ls : List LeaseV} {x y : LeaseV} (hy : y ∈ ls) (hk : key y ≠ key x) : y ∈ setL c ls x := by
  unfold setL; split
  · split
    · rename_i k hat
      obtain ⟨hl, h1, _⟩ := Le.atP_some hat
      have h2 := h1 hl
      unfold isT at h2
      simp only [Bool.and_eq_true, beq_iff_eq] at h2
      obtain ⟨i, hi, rfl⟩ := List.getElem_of_mem hy
      have : i ≠ k := fun e => hk (by subst e; unfold key; rw [h2.1.1, h2.1.2, h2.2])
      rw [List.mem_iff_getElem?]
      exact ⟨i, by rw [List.getElem?_set, if_neg (fun e => this e.symm)]; exact List.getElem?_eq_getElem hi⟩
    · exact hy
  · exact hy
end
section
variable {K : KV} {rest : List LeaseV} {c : CfgV} {n T m : Nat}
theorem end_keep (h : UQ K) {s : Int} {y : LeaseV} (hy : y ∈ K.L) (hs : y.se ≠ s) : y ∈ (Co.endK K s).L := by
  unfold Co.endK; split
  · show y ∈ endL K.L s
    rw [end_filter h.l]
    exact List.mem_filter.2 ⟨hy, by simpa using hs⟩
  · exact hy
theorem CI.ans (h : CI [] K) (a : AskV) : CI [] (ansK K a) := by
  refine ⟨h.a, h.b, h.m, ?_, h.f⟩
  intro b hb l hl
  change b ∈ ansQ K a at hb
  unfold ansQ at hb
  split at hb
  · split at hb
    · exact h.q b hb l hl
    · rename_i hn
      rcases put_mem hb with hb | rfl
      · exact h.q b hb l hl
      · have := find_none (p := isS b.se) (ls := K.L) (by simpa [hasL, atP] using hn) l hl
        intro e
        simp [isS, e] at this
  · exact h.q b hb l hl
theorem CI.hear (hP : PI c n T K) (hT : T ≤ 1000000) (h : CI [] K) (s : Int) (x : MsgV) : CI [] (hearK K s x) := by
  have hca : ∀ l ∈ K.L, 0 ≤ l.ca := fun l hl => (hP.k.okl l hl).1
  unfold hearK; split
  · rename_i hL
    obtain ⟨hm, hse⟩ := has_mem hL
    have hn : 0 ≤ K.G.now ∧ K.G.now ≤ 1000000 := ⟨hP.k.now.1, by have := hP.t; omega⟩
    have hLI := (hP.e _ hm).hear hn (carAt K (ofL K.L s)) x
    have hk : key (hearR K (ofL K.L s) x).1 = key (ofL K.L s) := by unfold hearR; exact hearV_key _ _
    cases ho : (hearR K (ofL K.L s) x).2.2 with
    | true =>
      unfold setK; rw [if_pos rfl]
      exact h.end_ hca hP.u _ (fun _ _ _ hin => by cases hin)
    | false =>
      refine h.set hca hP.u hm hk (by unfold hearR; rw [hP.k.g.1]; exact hLI.gd) (fun _ _ _ hin => by cases hin) ?_
      intro y hy hb _ hp
      unfold hearR at hp ⊢
      obtain ⟨e1, e2⟩ := hearV_ph _ _ hp
      rw [e2]
      exact hb.op (fun hin => by cases hin) (e1 ▸ hp)
  · exact h
theorem CI.gone (hP : PI c n T K) (h : CI [] K) (s : Int) : CI [] (goneK K s) := by
  have e := h.end_ (fun l hl => (hP.k.okl l hl).1) hP.u s (r := []) (fun _ _ _ hin => by cases hin)
  exact ⟨e.a, e.b, e.m, fun a ha l hl => h.q a ((drop_sub _ _).subset ha) l (end_ne hP.u s l hl).1, e.f⟩
theorem CI.obS {x : KV × List EvV} (hT : T ≤ 1000000) (hP : PI c n T x.1) (h : CI [] x.1) (l : LeaseV) : CI [] (obStep x l).1 := by
  have ld : ∀ v, CI [] (ldK x.1 l v) := fun v => h.grp (SG.one _ _ (fun x => ⟨rfl, rfl, rfl, rfl, rfl⟩)) (one_c _ _ _)
  have pd : ∀ v, PI c n T (ldK x.1 l v) := fun v => ⟨KI.ld hP.k l v, hP.u.grp _, EI.sub hP.e (Gr.load_w _ _).2 (fun _ hy => hy), by show (loadR x.1.G l.ca v).1.now ≤ T; rw [(Gr.load_w _ _).2]; exact hP.t⟩
  unfold obStep; split
  · exact (ld _).hear (pd _) hT _ _
  · split
    · exact (ld _).hear (pd _) hT _ _
    · exact h
theorem CI.ob (hT : T ≤ 1000000) (hP : PI c n T K) (h : CI [] K) (k : Nat) : CI [] (obF K k).1 := by
  have key : ∀ (ls : List LeaseV) (x : KV × List EvV), PI c n T x.1 → CI [] x.1 → CI [] (ls.foldl obStep x).1 := by
    intro ls
    induction ls with
    | nil => intro x _ h; exact h
    | cons l r ih => intro x hP h; rw [List.foldl_cons]; exact ih _ (obS_pi hT hP l) (CI.obS hT hP h l)
  exact key _ _ hP h
theorem CI.do_ (hT : T ≤ 1000000) (hP : PI c n T K) (h : CI [] K) (o : KopV) : CI [] (doK K o) := by
  unfold doK
  split
  · exact h.ans _
  split
  · exact h.hear hP hT _ _
  split
  · exact h.gone hP _
  split
  · exact CI.ob hT hP h _
  · exact h.grp (gdo_sg _ _) (gdo_w _ _).2.1
theorem car_of {x : CarV} {l : LeaseV} (h : K.G.cars[l.ca.toNat]? = some x) : carAt K l = x := by
  unfold carAt; rw [List.getD_eq_getElem?_getD, h]; rfl
theorem CI.fold {now : Int} (hn : 0 ≤ now ∧ now ≤ 1000000) : ∀ (rest : List LeaseV) (x : KV × List EvV), x.1.G.now = now → x.1.G.c = c → UQ x.1 → (∀ y ∈ rest, Bn c y) → (∀ y ∈ x.1.L, y ∈ rest ∨ LI c now y) → (rest.map key).Pairwise KR → (∀ y ∈ rest, y ∈ x.1.L) → CI rest x.1 → CI [] (rest.foldl stepK x).1
  | [], x, _, _, _, _, _, _, _, h => h
  | l :: r, x, h1, h2, h3, h4, h5, h6, h7, h => by
    rw [List.foldl_cons]
    rw [List.map_cons, List.pairwise_cons] at h6
    have hs : (stepK x l).1 = setK x.1 (stepR x.1 l).1 (stepR x.1 l).2.2 := rfl
    have hk : key (stepR x.1 l).1 = key l := by unfold stepR; exact tickV_key _
    have hse : (stepR x.1 l).1.se = l.se := congrArg Prod.fst hk
    have hlL := h7 l (List.mem_cons_self ..)
    have hca : ∀ y ∈ x.1.L, 0 ≤ y.ca := fun y hy => by
      rcases h5 y hy with e | e
      · exact (good_ca (h4 y e).gd).1
      · exact (good_ca e.gd).1
    obtain ⟨x0, hx0, hb0⟩ := h.a l hlL
    have hcar := car_of hx0
    have hne : ∀ y ∈ r, y.se ≠ l.se := fun y hy e => (h6.1 _ (List.mem_map.2 ⟨y, hy, rfl⟩)).1 e.symm
    have h5' : ∀ y ∈ (stepK x l).1.L, y ∈ r ∨ LI c now y := by
      intro y hy
      rw [hs] at hy
      cases ho : (stepR x.1 l).2.2 with
      | true =>
        rw [ho] at hy
        unfold setK at hy
        rw [if_pos rfl] at hy
        obtain ⟨hy1, hy2⟩ := end_ne h3 _ y hy
        rcases h5 y hy1 with h | h
        · rcases List.mem_cons.1 h with rfl | h
          · exact absurd hse.symm hy2
          · exact .inl h
        · exact .inr h
      | false =>
        have hl : LI c now (stepR x.1 l).1 := by
          unfold stepR at ho ⊢
          rw [h1, h2] at ho ⊢
          exact (h4 l (List.mem_cons_self ..)).tick hn _ ho
        rw [ho] at hy
        unfold setK at hy
        rw [if_neg (by decide)] at hy
        change y ∈ setL x.1.G.c x.1.L _ at hy
        rw [h2] at hy
        rcases set_all h3.l hl.gd y hy with rfl | ⟨hy1, hy2⟩
        · exact .inr hl
        · rcases h5 y hy1 with h | h
          · rcases List.mem_cons.1 h with rfl | h
            · exact absurd hk.symm hy2
            · exact .inl h
          · exact .inr h
    refine CI.fold hn r (stepK x l) (by rw [hs, set_now]; exact h1) (by rw [hs, setK_c]; exact h2) (by rw [hs]; exact h3.set _ _) (fun y hy => h4 y (List.mem_cons_of_mem _ hy)) h5' h6.2 ?_ ?_
    · intro y hy
      have hyL := h7 y (List.mem_cons_of_mem _ hy)
      rw [hs]
      unfold setK; split
      · exact end_keep h3 hyL (by rw [hse]; exact hne y hy)
      · exact set_keep hyL (fun e => hne y hy (by have : y.se = (stepR x.1 l).1.se := congrArg Prod.fst e; rw [this, hse]))
    · rw [hs]
      cases ho : (stepR x.1 l).2.2 with
      | true =>
        unfold setK; rw [if_pos rfl]
        exact h.end_ hca h3 _ (fun y _ hy2 hin => by
          rcases List.mem_cons.1 hin with rfl | hin
          · exact absurd hse.symm hy2
          · exact hin)
      | false =>
        have hgd : LI c now (stepR x.1 l).1 := by
          have ho' := ho
          unfold stepR at ho' ⊢
          rw [h1, h2] at ho' ⊢
          exact (h4 l (List.mem_cons_self ..)).tick hn _ ho'
        refine h.set hca h3 hlL hk (by rw [h2]; exact hgd.gd) (fun y _ hy2 hin => by
          rcases List.mem_cons.1 hin with rfl | hin
          · exact absurd hk.symm hy2
          · exact hin) ?_
        intro y hy hb _ hp
        have hcae : (stepR x.1 l).1.ca = l.ca := congrArg (fun z => z.2.1) hk
        rw [hcae, hx0] at hy
        have hy := Option.some.inj hy
        subst hy
        unfold stepR at ho hp ⊢
        rw [hcar] at ho hp ⊢
        obtain ⟨hbr, hop⟩ := tickV_op _ ho
        rcases hop hp with ⟨e1, e2⟩ | e
        · rw [e2]; exact hb.op (fun _ => hbr) e1
        · exact e
end
end Go.Proofs.YthmikjjnlahlbaaGreat.Lc
namespace Go.Proofs.YthmikjjnlahlbaaGreat.Lc
set_option linter.unusedSectionVars false
set_option linter.unusedVariables false
set_option linter.unusedSimpArgs false
open Go.RowKit Go.Proofs.YthmikjjnlahlbaaGreat.Ba Go.Proofs.YthmikjjnlahlbaaGreat.Mem Go.Proofs.YthmikjjnlahlbaaGreat.En Go.Proofs.YthmikjjnlahlbaaGreat.Ty Go.Proofs.YthmikjjnlahlbaaGreat.Mo Go.Proofs.YthmikjjnlahlbaaGreat.St Go.Proofs.YthmikjjnlahlbaaGreat.Co
open Go.Proofs.YthmikjjnlahlbaaGreat.Ri (opB aimF)
open Go.Proofs.YthmikjjnlahlbaaGreat.Qu (dropL atS btw firstA atF okF atI)
open Go.Proofs.YthmikjjnlahlbaaGreat.Le (atP isP goodB)
open Go.Proofs.YthmikjjnlahlbaaGreat.Fl (freeB)
open Go.Proofs.YthmikjjnlahlbaaGreat.Gr (GrV takeR tickG hasF idB)
open Go.Proofs.YthmikjjnlahlbaaGreat.Ct (tkV tkX tkR tkO tkK ldX ldR ldO ldK ldT)
theorem tkV_flags (c : CfgV) (y : CarV) : (tkV c y).mo = y.mo ∧ (tkV c y).ta = y.ta ∧ (tkV c y).ho = y.ho ∧ (tkV c y).br = y.br := by
  obtain ⟨_, _, _, e4, e5, e6, _, e8⟩ := Ct.tk_same c y
  exact ⟨e5, e6, e8, e4⟩
/-- An open door at its target stays open. -/
theorem tkV_stays (c : CfgV) (y : CarV) (hm : y.mo = 1) (hh : y.ho = true) (hb : y.br = false) (ho : opB y y.ta = true) : opB (tkV c y) y.ta = true := by
  unfold opB at ho
  simp only [Bool.and_eq_true, beq_iff_eq] at ho
  obtain ⟨⟨h1, h2⟩, h3⟩ := ho
  have ht : ldT y = true := by
    unfold ldT
    refine decide_eq_true ?_
    unfold lvN at h2
    rw [if_pos h1] at h2
    unfold lvB at h1
    have := of_decide_eq_true h1
    unfold tw
    rw [if_neg (by omega), if_neg (by omega)]
  have eX : tkX c y = y := by unfold tkX; rw [if_neg (by rw [hb]; decide), if_pos hm]; unfold ldX; rw [if_neg (by rw [h3]; exact fun h => absurd h.1 (by decide))]
  have eR : tkR y = 0 := by unfold tkR; rw [if_neg (by rw [hb]; decide), if_pos hm]; unfold ldR; rw [if_neg (by rw [h3]; exact fun h => absurd h.1 (by decide))]
  have eO : tkO y = false := by unfold tkO; rw [if_neg (by rw [hb]; decide), if_pos hm]; unfold ldO; rw [if_neg (by rw [h3]; decide), h3]; simp
  have eK : tkK c y = false := by unfold tkK; rw [if_neg (by rw [hb]; decide), if_pos hm]; unfold Ct.ldK; rw [ht, hh]; simp
  have e : tkV c y = Pl.stepV c y 0 false false := by unfold tkV; rw [eX, eR, eO, eK]
  have eds : (Pl.stepV c y 0 false false).ds = 2 := by
    show Pl.dS1 c y false false = 2
    unfold Pl.dS1 Pl.dS0 Pl.toldS
    rw [if_neg (by rw [hb]; decide), if_neg (by simp), if_neg (by simp), h3]
    unfold Do.tS
    rw [if_neg (by omega), if_neg (by omega), if_neg (by omega), if_neg (by omega)]
  have eun : (Pl.stepV c y 0 false false).un = y.un := by
    show Pl.un1 c y 0 false false = y.un
    unfold Pl.un1 Pl.goesB
    rw [if_neg (by rw [h3]; simp)]
  rw [e]
  unfold opB
  rw [eds, eun]
  simp [h1, h2]
section
variable {K : KV} {c : CfgV} {n T m : Nat}
theorem near_sm {x y : CarV} (h0 : Gr.Near x y) : SM x y ∧ y.br = x.br := by
  have h : y = { x with su := y.su, sd := y.sd } := h0
  have e1 := congrArg CarV.mo h
  have e2 := congrArg CarV.ta h
  have e3 := congrArg CarV.ho h
  have e4 := congrArg CarV.ds h
  have e5 := congrArg CarV.un h
  have e6 := congrArg CarV.br h
  exact ⟨⟨e1, e2, e3, e4, e5⟩, e6⟩
theorem CI.tk1 (h : CI [] K) : CI K.L (tkK1 K) := by
  have at' : ∀ (k : Nat) x, K.G.cars[k]? = some x → ∃ z, (tickG K.G).cars[k]? = some z ∧ z.mo = x.mo ∧ z.ta = x.ta ∧ z.ho = x.ho ∧ (z.br = false → x.mo = 1 → x.ho = true → opB x x.ta = true → opB z x.ta = true) := fun k x hx => by
    obtain ⟨y, _, hn, hz⟩ := Gr.tick_at hx
    obtain ⟨hs, hbr⟩ := near_sm hn
    obtain ⟨f1, f2, f3, f4⟩ := tkV_flags K.G.c y
    refine ⟨_, hz, f1.trans hs.mo, f2.trans hs.ta, f3.trans hs.ho, fun h1 h2 h3 h4 => ?_⟩
    have := tkV_stays K.G.c y (hs.mo.trans h2) (hs.ho.trans h3) (f4 ▸ h1) (by rw [hs.op, hs.ta]; exact h4)
    rw [hs.ta] at this; exact this
  have back : ∀ (i : Nat) z, (tickG K.G).cars[i]? = some z → ∃ x, K.G.cars[i]? = some x ∧ z.mo = x.mo := fun i z hz => by
    have hi : i < K.G.cars.length := by rw [← Gr.tick_len K.G]; exact (List.getElem?_eq_some_iff.1 hz).1
    obtain ⟨z', h1, h2, _⟩ := at' i _ (List.getElem?_eq_getElem hi)
    rw [h1] at hz
    exact ⟨_, List.getElem?_eq_getElem hi, Option.some.inj hz ▸ h2⟩
  refine ⟨fun l hl => ?_, fun i z hz hm => ?_, ?_, h.q, h.f⟩
  · obtain ⟨x, hx, hb⟩ := h.a l hl
    obtain ⟨z, hz, e1, e2, e3, e4⟩ := at' _ x hx
    refine ⟨z, hz, e1.trans hb.mo, e2.trans hb.ta, e3.trans hb.ho, fun hw hp => ?_⟩
    have := e4 (hw hl) hb.mo hb.ho (by rw [hb.ta]; exact hb.op (fun h => by cases h) hp)
    rw [hb.ta] at this; exact this
  · obtain ⟨x, hx, e⟩ := back i z hz
    exact h.b i x hx (e ▸ hm)
  · obtain ⟨i, x, hx, h0⟩ := h.m
    obtain ⟨z, hz, e, _⟩ := at' i x hx
    exact ⟨i, z, hz, e.trans h0⟩
theorem near_can (f : Int) (cs : List CarV) : ∀ k, 0 ≤ (nrL f cs k).1 → ∃ x, cs[(nrL f cs k).1.toNat]? = some x ∧ canB x = true
  | 0 => fun h => by exact absurd h (by show ¬ (0 : Int) ≤ -1; decide)
  | k + 1 => fun h => by
    unfold nrL at h ⊢
    split at h
    · exact near_can f cs k h
    · rename_i x hx
      split at h
      · rename_i hc
        rw [if_pos hc]
        exact ⟨x, by show cs[((k : Int)).toNat]? = _; rw [Int.toNat_natCast]; exact hx, hc.1⟩
      · rename_i hc
        rw [if_neg hc]
        exact near_can f cs k h
theorem one_p {α : Type} {p : α → Bool} : ∀ {ls : List α}, 1 ≤ ls.countP p → ∃ (i : Nat) (x : α), ls[i]? = some x ∧ p x = true := by
  intro ls h
  obtain ⟨x, hx, hp⟩ := List.countP_pos_iff.1 (show 0 < ls.countP p by omega)
  obtain ⟨i, hi⟩ := List.mem_iff_getElem?.1 hx
  exact ⟨i, x, hi, hp⟩
theorem two_p {α : Type} {p : α → Bool} : ∀ (ls : List α) (k : Nat), 2 ≤ ls.countP p → ∃ (i : Nat) (x : α), i ≠ k ∧ ls[i]? = some x ∧ p x = true
  | [], _, h => by simp at h
  | a :: r, 0, h => by
    rw [List.countP_cons] at h
    obtain ⟨i, x, h1, h2⟩ := one_p (ls := r) (p := p) (by split at h <;> omega)
    exact ⟨i + 1, x, by omega, h1, h2⟩
  | a :: r, k + 1, h => by
    rw [List.countP_cons] at h
    by_cases ha : p a = true
    · exact ⟨0, a, by omega, rfl, ha⟩
    · rw [if_neg ha] at h
      obtain ⟨i, x, h0, h1, h2⟩ := two_p r k h
      exact ⟨i + 1, x, by omega, h1, h2⟩
theorem full_mem (K : KV) {v : Int} (hv : 0 ≤ v) (hf : ¬ freeB K.G.c K.L v = true) : ∀ k : Nat, v < (k : Int) → v ∈ fullL K k
  | 0, h => by omega
  | k + 1, h => by
    unfold fullL
    by_cases e : v = (k : Int)
    · subst e; rw [if_neg hf]; simp
    · have := full_mem K hv hf k (by omega)
      split
      · exact this
      · exact List.mem_append_left _ this
theorem CI.grant (hU : UQ K) (hk : KI c n T m K) (h : CI [] K) : CI [] (grantK K) := by
  unfold grantK; split
  · exact h
  rename_i a ha
  unfold grA at ha
  split at ha
  · cases ha
  rename_i hpf
  by_cases hat : (atF K.Q (fullL K 8)).isSome = true
  case neg => rw [if_neg hat] at ha; cases ha
  rw [if_pos hat] at ha
  by_cases hnear : nearI K (firstA K.Q (fullL K 8)).fm < 0
  case pos => rw [if_pos hnear] at ha; cases ha
  rw [if_neg hnear] at ha
  have ha := Option.some.inj ha
  -- who it is
  obtain ⟨k, hatk⟩ := Option.isSome_iff_exists.1 hat
  obtain ⟨hkl, hk1, _⟩ := Qu.atF_some hatk
  have hfa : firstA K.Q (fullL K 8) = K.Q[k] := by unfold firstA; rw [hatk]; simp [List.getD, hkl]
  rw [hfa] at ha hnear
  have haQ : a ∈ K.Q := by rw [← ha]; exact List.getElem_mem hkl
  have hfree : (atI (fullL K 8) a.fl).isSome = false := by rw [← ha]; exact hk1 hkl
  rw [ha] at hnear
  have hmay := hk.okq a haQ
  have hc := hk.g.1
  -- its car
  obtain ⟨x0, hx0, hcan⟩ := near_can a.fm K.G.cars K.G.cars.length (by show 0 ≤ nearI K a.fm; omega)
  have hx0 : K.G.cars[(nearI K a.fm).toNat]? = some x0 := hx0
  have hid : idB x0 = true := by unfold canB at hcan; simp only [Bool.and_eq_true] at hcan; exact hcan.1.1
  have hmo0 : x0.mo = 0 := by unfold idB at hid; exact (of_decide_eq_true hid).1
  have hlt := (List.getElem?_eq_some_iff.1 hx0).1
  have hb8 := Gr.ncars_bd c
  have hlen := hk.len
  have hfm := (may_fm hmay).1
  have hhas : hasF K.G.c a.fm = true := by unfold hasF; rw [hc]; exact decide_eq_true hfm
  have hcat : ∀ (i : Nat) x, K.G.cars[i]? = some x → (takeR K.G (nearI K a.fm) a.fm).1.cars[i]? = some (if (i : Int) = nearI K a.fm then Gr.takeX a.fm x else x) := fun i x hx => by
    unfold takeR; rw [if_pos hhas]; exact Gr.one_at hx
  have hclen : (takeR K.G (nearI K a.fm) a.fm).1.cars.length = K.G.cars.length := by unfold takeR; rw [if_pos hhas]; exact Gr.one_same.2.2.2
  have hcar : ∀ l ∈ K.L, l.ca ≠ nearI K a.fm := fun l hl e => by
    obtain ⟨x, hx, hb⟩ := h.a l hl
    rw [e, hx0] at hx
    have := Option.some.inj hx
    have := hb.mo
    subst x
    omega
  have hse : ∀ l ∈ K.L, l.se ≠ a.se := fun l hl e => h.q a haQ l hl e.symm
  have hfl : 0 ≤ a.fl ∧ a.fl < 8 := by
    have := hmay
    unfold Fl.mayB Fl.belB at this
    simp only [Bool.and_eq_true, decide_eq_true_eq] at this
    have e : btw c.ft 1 8 ≤ 8 := by unfold btw; (repeat' split) <;> omega
    omega
  have hfr : freeB K.G.c K.L a.fl = true := by
    by_cases e : freeB K.G.c K.L a.fl = true
    · exact e
    · exfalso
      have hm := full_mem K hfl.1 e 8 (by omega)
      have := find_none hfree a.fl hm
      simp at this
  have hgood : goodB K.G.c (grL K a) = true := by
    unfold goodB
    rw [hc]
    show (Fl.mayB c a && decide (0 ≤ nearI K a.fm) && decide (nearI K a.fm < 8) && decide ((1 : Int) ≤ 1) && decide ((1 : Int) ≤ 4)) = true
    rw [hmay, decide_eq_true (show 0 ≤ nearI K a.fm by omega), decide_eq_true (show nearI K a.fm < 8 by omega)]
    rfl
  have hput : Le.putE K.G.c K.L (grL K a) = 0 := by
    unfold Le.putE
    rw [if_pos hgood, if_neg, if_pos (show freeB K.G.c K.L (grL K a).fl = true from hfr)]
    intro hs
    obtain ⟨j, hj⟩ := Option.isSome_iff_exists.1 hs
    obtain ⟨hjl, hj1, _⟩ := Le.atP_some hj
    have := hj1 hjl
    unfold isP at this
    simp only [Bool.or_eq_true, beq_iff_eq] at this
    rcases this with e | e
    · exact hse _ (List.getElem_mem hjl) e
    · exact hcar _ (List.getElem_mem hjl) e
  have hL : (grK K a).L = K.L ++ [grL K a] := by show Le.putL _ _ _ = _; unfold Le.putL; rw [if_pos hput]
  refine ⟨fun l hl => ?_, fun i y hy hmo => ?_, ?_, fun b hb l hl => ?_, fun f => ?_⟩
  · rw [hL] at hl
    rcases List.mem_append.1 hl with hl | hl
    · obtain ⟨x, hx, hb⟩ := h.a l hl
      refine ⟨_, hcat _ x hx, ?_⟩
      rw [if_neg (by have := hcar l hl; have := (hk.okl l hl).1; omega)]
      exact hb
    · rw [List.mem_singleton] at hl
      subst hl
      refine ⟨_, hcat _ x0 hx0, ?_⟩
      rw [if_pos (show ((grL K a).ca.toNat : Int) = nearI K a.fm by show ((nearI K a.fm).toNat : Int) = _; omega)]
      have e : Gr.takeX a.fm x0 = { x0 with mo := 1, ta := a.fm, ho := true } := by unfold Gr.takeX; rw [if_pos hid]
      rw [e]
      exact ⟨rfl, rfl, rfl, fun _ hp => by rcases hp with hp | hp <;> exact absurd (show (1 : Int) = _ from hp) (by decide)⟩
  · rw [hL]
    have hil : i < K.G.cars.length := by rw [← hclen]; exact (List.getElem?_eq_some_iff.1 hy).1
    have hx := List.getElem?_eq_getElem hil
    have hy2 := hcat i _ hx
    have hy' : (takeR K.G (nearI K a.fm) a.fm).1.cars[i]? = some y := hy
    rw [hy'] at hy2
    have e := Option.some.inj hy2
    by_cases hi : (i : Int) = nearI K a.fm
    · exact ⟨grL K a, by simp, hi.symm⟩
    · rw [if_neg hi] at e
      obtain ⟨l, hl, hlc⟩ := h.b i _ hx (e ▸ hmo)
      exact ⟨l, List.mem_append_left _ hl, hlc⟩
  · have h2 : 2 ≤ K.G.cars.countP nrmC := by
      unfold pfB at hpf
      simp only [Bool.or_eq_true, decide_eq_true_eq, not_or] at hpf
      omega
    obtain ⟨i, x, hne, hx, hp⟩ := two_p K.G.cars (nearI K a.fm).toNat h2
    refine ⟨i, _, hcat i x hx, ?_⟩
    rw [if_neg (by omega)]
    unfold nrmC at hp
    simp only [Bool.and_eq_true, beq_iff_eq] at hp
    exact hp.1
  · rw [hL] at hl
    have hb' : b ∈ dropL K.Q a.se := hb
    rw [drop_filter hU.q] at hb'
    obtain ⟨h1, h2⟩ := List.mem_filter.1 hb'
    rcases List.mem_append.1 hl with hl | hl
    · exact h.q b h1 l hl
    · rw [List.mem_singleton] at hl
      subst hl
      show b.se ≠ a.se
      simpa using h2
  · rw [hL]
    show _ ≤ btw (takeR K.G _ _).1.c.qo 1 8
    rw [take_c]
    have e : Fl.cn (K.L ++ [grL K a]) f = Fl.cn K.L f + if a.fl = f then 1 else 0 := by
      unfold Fl.cn
      rw [List.countP_append, List.countP_cons, List.countP_nil]
      simp only [Nat.zero_add]
      congr 1
      by_cases hf : a.fl = f
      · rw [if_pos hf, if_pos]; show (a.fl == f) = true; simpa using hf
      · rw [if_neg hf, if_neg]; show ¬ (a.fl == f) = true; simpa using hf
    rw [e]
    have := h.f f
    by_cases hf : a.fl = f
    · rw [if_pos hf]
      unfold freeB at hfr
      have := of_decide_eq_true hfr
      rw [hf] at this
      omega
    · rw [if_neg hf]; omega
theorem CI.tick (hP : PI c n T K) (hT : T < 1000000) (h : CI [] K) : CI [] (tickK K) := by
  have hn : 0 ≤ K.G.now ∧ K.G.now ≤ 1000000 := ⟨hP.k.now.1, by have := hP.t; omega⟩
  have h1 := tk1_now K hn
  have hn2 : 0 ≤ (tkK1 K).G.now ∧ (tkK1 K).G.now ≤ 1000000 := by rw [h1]; have := hP.t; omega
  refine CI.grant (hP.u.fold _) (hP.k.fold K.L.length) ?_
  unfold foldK
  rw [show K.L.take K.L.length = K.L from List.take_length]
  exact CI.fold hn2 K.L (tkK1 K, []) rfl hP.k.g.1 (hP.u.grp _) (fun y hy => (hP.e y hy).toBn) (fun y hy => .inl hy) hP.u.l (fun y hy => hy) h.tk1
end
end Go.Proofs.YthmikjjnlahlbaaGreat.Lc
namespace Go.Proofs.YthmikjjnlahlbaaGreat.Ct
set_option linter.unusedSectionVars false
set_option linter.unusedVariables false
set_option linter.unusedSimpArgs false
open Go.RowKit Go.Proofs.YthmikjjnlahlbaaGreat.Ba Go.Proofs.YthmikjjnlahlbaaGreat.Mem Go.Proofs.YthmikjjnlahlbaaGreat.Ty Go.Proofs.YthmikjjnlahlbaaGreat.Mo Go.Proofs.YthmikjjnlahlbaaGreat.St Go.Proofs.YthmikjjnlahlbaaGreat.Sc Go.Proofs.YthmikjjnlahlbaaGreat.Pl
open Go.Proofs.YthmikjjnlahlbaaGreat.Do
set_option maxRecDepth 100000
theorem ld_hold {x : CarV} {f : Int} (h1 : x.un = 4 * f) (h2 : x.ta = f) (h3 : x.ho = true) : ldX x = x ∧ ldR x = 0 ∧ ldO x = (if x.ds = 0 then true else decide (x.ds = 3)) ∧ ldK x = false := by
  have e : ldT x = true := by
    unfold ldT tw
    rw [h1, h2]
    simp
  refine ⟨by simp [ldX, e], by simp [ldR, e], by simp [ldO, e, h3], by simp [ldK, e, h3]⟩
theorem tk_lead {c : CfgV} {x : CarV} (h1 : x.br = false) (h2 : x.mo = 1) : tkV c x = stepV c (ldX x) (ldR x) (ldO x) (ldK x) := by
  unfold tkV tkX tkR tkO tkK
  simp [h1, h2]
/-- How many ticks a door takes still to open; to close. -/
def opN (a D : Int) : Int := if a < D then D - a else 1
def clN (a : Int) : Int := if 1 < a then a else 1
/-- How many ticks the car takes still. -/
def rem (c : CfgV) (x : CarV) : Int :=
  if fr x.un x.ta = 0 then (if x.ds = 2 then 0 else if x.ds = 0 then Do.hd c.dr else opN x.da (Do.hd c.dr))
  else fr x.un x.ta + Do.hd c.dr + (if x.ds = 0 then 0 else if x.ds = 3 then clN x.da else if x.ds = 2 then Do.hd c.dr else opN x.da (Do.hd c.dr) + Do.hd c.dr)
def GoI (c : CfgV) (x : CarV) : Prop := mayB c x = true ∧ (x.mo = 1 ∧ x.ho = true ∧ x.br = false ∧ x.bl = false)
theorem fr_zero (u f : Int) : fr u f = 0 ↔ u = 4 * f := by unfold fr; split <;> omega
theorem go_facts {c : CfgV} {x : CarV} (h : mayB c x = true) (hm : x.mo = 1) : (gd x.ds x.da c.dr = true) ∧ 0 ≤ x.un ∧ x.un ≤ 4 * (fl c.fl - 1) ∧ (x.ds = 0 ∨ lvB x.un = true) ∧ 0 ≤ x.ta ∧ x.ta < fl c.fl := by
  obtain ⟨hg, _, _, ht⟩ := (mayB_iff c x).1 h
  obtain ⟨g1, g2, g3, g4, g5⟩ := (goodB_iff c x).1 hg
  refine ⟨g1, g2, g3, g5, ?_⟩
  rcases ht with ht | ht
  · exact absurd hm ht
  · exact ht
theorem rem_lo {c : CfgV} {x : CarV} (h : mayB c x = true) (hm : x.mo = 1) : 0 ≤ rem c x ∧ rem c x ≤ fr x.un x.ta + 3 * Do.hd c.dr := by
  obtain ⟨g1, _⟩ := go_facts h hm
  have := hd_lo c.dr
  have hf := fr_lo x.un x.ta
  rw [gd_iff] at g1
  unfold rem opN clN
  (repeat' split) <;> omega
theorem rem_zero {c : CfgV} {x : CarV} (h : mayB c x = true) (hm : x.mo = 1) (hz : rem c x = 0) : x.un = 4 * x.ta ∧ x.ds = 2 := by
  obtain ⟨g1, _⟩ := go_facts h hm
  have h1 := hd_lo c.dr
  have hf := fr_lo x.un x.ta
  rw [gd_iff] at g1
  have key : fr x.un x.ta = 0 ∧ x.ds = 2 := by
    unfold rem opN clN at hz
    (repeat' split at hz) <;> omega
  exact ⟨(fr_zero _ _).1 key.1, key.2⟩
/-- What a leased car that holds, and that nothing blocks, is a tick later. -/
theorem go_step {c : CfgV} {x : CarV} (h : GoI c x) : ((tkV c x).ta = x.ta) ∧
    (fr x.un x.ta = 0 → (tkV c x).un = x.un ∧ (tkV c x).ds = tS (if x.ds = 0 ∨ x.ds = 3 then 1 else x.ds) x.da c.dr false ∧ (tkV c x).da = tA (if x.ds = 0 ∨ x.ds = 3 then 1 else x.ds) x.da c.dr false) ∧
    (0 < fr x.un x.ta → x.ds = 0 → fr (tkV c x).un x.ta = fr x.un x.ta - 1 ∧ (tkV c x).ds = 0) ∧
    (0 < fr x.un x.ta → x.ds ≠ 0 → (tkV c x).un = x.un ∧ (tkV c x).ds = tS (if x.ds = 2 then 3 else x.ds) x.da c.dr false ∧ (tkV c x).da = tA (if x.ds = 2 then 3 else x.ds) x.da c.dr false) := by
  obtain ⟨hm, h1, h2, h3, h4⟩ := h
  obtain ⟨g1, g2, g3, g4, g5, g6⟩ := go_facts hm h1
  have hv := tk_lead (c := c) h3 h1
  have h64 := fl_hi c.fl
  have hgd := (gd_iff _ _ _).1 g1
  refine ⟨by have := (tk_same c x).2.2.2.2.2.1; exact this, ?_, ?_, ?_⟩
  · intro hz
    have hu := (fr_zero _ _).1 hz
    obtain ⟨l1, l2, l3, l4⟩ := ld_hold hu rfl h2
    have hlv := (far_lv x.ta g5 (by omega)).1
    have hgo : goesB c x 0 (ldO x) false = false := by unfold goesB; simp
    have e0 : dS0 x (ldO x) false = if x.ds = 0 ∨ x.ds = 3 then 1 else x.ds := by
      unfold dS0 toldS
      rw [h3, hu, hlv, l3]
      by_cases d0 : x.ds = 0
      · simp [d0, oS]
      · by_cases d3 : x.ds = 3
        · simp [d3, oS]
        · simp [d0, d3]
    rw [hv, l1, l2, l4]
    refine ⟨?_, ?_, ?_⟩
    · show un1 c x 0 (ldO x) false = x.un
      unfold un1; rw [hgo]; simp
    · show tS (dS0 x (ldO x) false) x.da c.dr x.bl = _
      rw [e0, h4]
    · show tA (dS0 x (ldO x) false) x.da c.dr x.bl = _
      rw [e0, h4]
  · intro hz d0
    have hne : ¬ tw x.un x.ta = 0 := by have := tw_some x.un x.ta hz; omega
    have e : ldT x = false := decide_eq_false hne
    have l1 : ldX x = { x with ju := -1 } := by simp [ldX, e, d0]
    have l2 : ldR x = tw x.un x.ta := by simp [ldR, e, d0]
    have l3 : ldO x = false := by simp [ldO, e]
    have l4 : ldK x = false := by simp [ldK, d0]
    have hds : dS1 c { x with ju := -1 } false false = 0 := by
      unfold dS1 dS0 toldS
      simp [h3, d0, tS]
    have hgo : goesB c { x with ju := -1 } (tw x.un x.ta) false false = true := by
      unfold goesB
      rw [hds]
      have := tw_some x.un x.ta hz
      simp only [h3, d0, decide_eq_true_eq]
      exact ⟨trivial, trivial, trivial, this⟩
    rw [hv, l1, l2, l3, l4]
    refine ⟨?_, hds⟩
    show fr (un1 c { x with ju := -1 } (tw x.un x.ta) false false) x.ta = _
    unfold un1
    rw [hgo, if_pos rfl]
    show fr (mv x.un (tw x.un x.ta) c.fl) x.ta = _
    unfold mv tw
    unfold fr at hz ⊢
    (repeat' split) <;> (repeat' split at hz) <;> omega
  · intro hz d0
    have hne : ¬ tw x.un x.ta = 0 := by have := tw_some x.un x.ta hz; omega
    have e : ldT x = false := decide_eq_false hne
    have l1 : ldX x = x := by simp [ldX, d0]
    have l2 : ldR x = 0 := by simp [ldR, d0]
    have l3 : ldO x = false := by simp [ldO, e]
    have l4 : ldK x = decide (x.ds = 2) := by simp [ldK, e, h4]
    have hgo : goesB c x 0 false (decide (x.ds = 2)) = false := by unfold goesB; simp
    have e0 : dS0 x false (decide (x.ds = 2)) = if x.ds = 2 then 3 else x.ds := by
      unfold dS0 toldS
      rw [h3]
      by_cases d2 : x.ds = 2
      · simp [d2, cS]
      · simp [d2]
    rw [hv, l1, l2, l3, l4]
    refine ⟨?_, ?_, ?_⟩
    · show un1 c x 0 false (decide (x.ds = 2)) = x.un
      unfold un1; rw [hgo]; simp
    · show tS (dS0 x false (decide (x.ds = 2))) x.da c.dr x.bl = _
      rw [e0, h4]
    · show tA (dS0 x false (decide (x.ds = 2))) x.da c.dr x.bl = _
      rw [e0, h4]
theorem rem_next {c : CfgV} {x : CarV} (h : GoI c x) : rem c (tkV c x) + 1 ≤ rem c x ∨ (rem c x = 0 ∧ rem c (tkV c x) = 0) := by
  obtain ⟨s0, s1, s2, s3⟩ := go_step h
  obtain ⟨g1, -⟩ := go_facts h.1 h.2.1
  have hD := hd_lo c.dr
  have hf := fr_lo x.un x.ta
  rw [gd_iff] at g1
  rcases Int.lt_or_le 0 (fr x.un x.ta) with hz | hz
  · by_cases d0 : x.ds = 0
    · obtain ⟨a1, a2⟩ := s2 hz d0
      left
      unfold rem opN clN
      rw [s0, a1, a2]
      simp only [d0, if_true]
      (repeat' split) <;> omega
    · obtain ⟨a1, a2, a3⟩ := s3 hz d0
      left
      unfold rem
      rw [s0, a1, a2, a3]
      unfold tS tA opN clN
      rcases g1 with ⟨q1, q2⟩ | ⟨q1, q2⟩ | ⟨q1 | q1, q2, q3⟩
      · exact absurd q1 d0
      · rw [q1, q2]; simp; (repeat' split) <;> omega
      · rw [q1]; simp; (repeat' split) <;> omega
      · rw [q1]; simp; (repeat' split) <;> omega
  · have hz0 : fr x.un x.ta = 0 := by omega
    obtain ⟨a1, a2, a3⟩ := s1 hz0
    unfold rem
    rw [s0, a1, a2, a3, hz0]
    unfold tS tA opN
    rcases g1 with ⟨q1, q2⟩ | ⟨q1, q2⟩ | ⟨q1 | q1, q2, q3⟩
    · left; rw [q1, q2]; simp; (repeat' split) <;> omega
    · right; rw [q1, q2]; simp
    · left; rw [q1]; simp; (repeat' split) <;> omega
    · left; rw [q1]; simp; (repeat' split) <;> omega
theorem goI_next {c : CfgV} {x : CarV} (h : GoI c x) : GoI c (tkV c x) ∧ (tkV c x).ta = x.ta := by
  obtain ⟨hm, h1, h2, h3, h4⟩ := h
  obtain ⟨e1, e2, e3, e4, e5, e6, e7, e8⟩ := tk_same c x
  exact ⟨⟨tk_may c x hm, e5.trans h1, e8.trans h2, e4.trans h3, e7.trans h4⟩, e6⟩
end Go.Proofs.YthmikjjnlahlbaaGreat.Ct
namespace Go.Proofs.YthmikjjnlahlbaaGreat.Lc
set_option linter.unusedSectionVars false
set_option linter.unusedVariables false
set_option linter.unusedSimpArgs false
open Go.RowKit Go.Proofs.YthmikjjnlahlbaaGreat.Ba Go.Proofs.YthmikjjnlahlbaaGreat.Mem Go.Proofs.YthmikjjnlahlbaaGreat.En Go.Proofs.YthmikjjnlahlbaaGreat.Ty Go.Proofs.YthmikjjnlahlbaaGreat.Mo Go.Proofs.YthmikjjnlahlbaaGreat.St Go.Proofs.YthmikjjnlahlbaaGreat.Co
open Go.Proofs.YthmikjjnlahlbaaGreat.Ri (trV sp rn)
open Go.Proofs.YthmikjjnlahlbaaGreat.Qu (btw)
set_option maxRecDepth 100000
attribute [local irreducible] Go.Calls
theorem nearestT (n lo hi : Int) (w : World) : Calls Tryz.prog 87 #[.int .i64 n, .int .i64 lo, .int .i64 hi] w fun e w' => e = .returned (.int .i64 (btw n lo hi)) ∧ Since w w' := by
  refine ent tab_ok [.i .i64 n, .i .i64 lo, .i .i64 hi] Tryz.func87 Tryz.ntmps87 rfl rfl ?_
  repeat' ((conv => whnf); first | refine sgo ⟨tab_ok⟩ ?_ | refine br_not ?_ | refine br_t rfl ?_ | refine br_f rfl ?_ | refine br_t (by assumption) ?_ | refine br_f (by assumption) ?_ | refine br_t (decide_eq_true (by assumption)) ?_ | refine br_f (decide_eq_false (by assumption)) ?_ | refine br_t (beq_iff_eq.2 (by assumption)) ?_ | refine br_f (beq_eq_false_iff_ne.2 (by assumption)) ?_ | refine drA ⟨tab_ok⟩ [] ?_ | refine kpt ?_ | refine br_dec (fun h => ?_) (fun h => ?_) | refine br_eq (fun h => ?_) (fun h => ?_) | refine br_b (fun h => ?_) (fun h => ?_) | refine fin_s ?_ | refine fin_r ?_ ?_ | refine fin_e ?_ ?_)
  all_goals (refine congrArg (Value.int .i64) ?_; unfold btw; (repeat' split) <;> omega)
theorem spanT (n : Int) (w : World) : Calls Tryz.prog 88 #[.int .i64 n] w fun e w' => e = .returned (.int .i64 (sp n)) ∧ Since w w' := by
  refine ent tab_ok [.i .i64 n] Tryz.func88 Tryz.ntmps88 rfl rfl ?_
  repeat' ((conv => whnf); first | refine sgo ⟨tab_ok⟩ ?_ | refine br_not ?_ | refine br_t rfl ?_ | refine br_f rfl ?_ | refine br_t (by assumption) ?_ | refine br_f (by assumption) ?_ | refine br_t (decide_eq_true (by assumption)) ?_ | refine br_f (decide_eq_false (by assumption)) ?_ | refine br_t (beq_iff_eq.2 (by assumption)) ?_ | refine br_f (beq_eq_false_iff_ne.2 (by assumption)) ?_ | refine drA ⟨tab_ok⟩ [] ?_ | refine kpt ?_ | refine callS (f := 87) (.i .i64 (btw n 1 1000)) (nearestT n 1 1000) ?_ | refine fin_s ?_ | refine fin_r ?_ ?_ | refine fin_e ?_ ?_)
  all_goals rfl
theorem floorsT (n : Int) (w : World) : Calls Tryz.prog 90 #[.int .i64 n] w fun e w' => e = .returned (.int .i64 (fl n)) ∧ Since w w' := by
  refine ent tab_ok [.i .i64 n] Tryz.func90 Tryz.ntmps90 rfl rfl ?_
  repeat' ((conv => whnf); first | refine sgo ⟨tab_ok⟩ ?_ | refine br_not ?_ | refine br_t rfl ?_ | refine br_f rfl ?_ | refine br_t (by assumption) ?_ | refine br_f (by assumption) ?_ | refine br_t (decide_eq_true (by assumption)) ?_ | refine br_f (decide_eq_false (by assumption)) ?_ | refine br_t (beq_iff_eq.2 (by assumption)) ?_ | refine br_f (beq_eq_false_iff_ne.2 (by assumption)) ?_ | refine drA ⟨tab_ok⟩ [] ?_ | refine kpt ?_ | refine br_dec (fun h => ?_) (fun h => ?_) | refine br_eq (fun h => ?_) (fun h => ?_) | refine br_b (fun h => ?_) (fun h => ?_) | refine fin_s ?_ | refine fin_r ?_ ?_ | refine fin_e ?_ ?_)
  all_goals (refine congrArg (Value.int .i64) ?_; unfold fl; (repeat' split) <;> omega)
theorem quotaT (c : CfgV) (w : World) : Calls Tryz.prog 34 #[.agg #[.int .i64 c.ca, .int .i64 c.fl, .int .i64 c.ft, .int .i64 c.se, .int .i64 c.dr, .int .i64 c.dw, .int .i64 c.ho, .int .i64 c.re, .int .i64 c.yi, .int .i64 c.qu, .int .i64 c.qo, .int .i64 c.lo, .int .i64 c.sl, .int .i64 c.rt, .int .i64 c.cp, .int .i64 c.tr, .int .i64 c.de, .int .i64 c.wi]] w fun e w' => e = .returned (.int .i64 (btw c.qo 1 8)) ∧ Since w w' := by
  refine ent tab_ok [.a [.i .i64 c.ca, .i .i64 c.fl, .i .i64 c.ft, .i .i64 c.se, .i .i64 c.dr, .i .i64 c.dw, .i .i64 c.ho, .i .i64 c.re, .i .i64 c.yi, .i .i64 c.qu, .i .i64 c.qo, .i .i64 c.lo, .i .i64 c.sl, .i .i64 c.rt, .i .i64 c.cp, .i .i64 c.tr, .i .i64 c.de, .i .i64 c.wi]] Tryz.func34 Tryz.ntmps34 rfl rfl ?_
  repeat' ((conv => whnf); first | refine sgo ⟨tab_ok⟩ ?_ | refine br_not ?_ | refine br_t rfl ?_ | refine br_f rfl ?_ | refine br_t (by assumption) ?_ | refine br_f (by assumption) ?_ | refine br_t (decide_eq_true (by assumption)) ?_ | refine br_f (decide_eq_false (by assumption)) ?_ | refine br_t (beq_iff_eq.2 (by assumption)) ?_ | refine br_f (beq_eq_false_iff_ne.2 (by assumption)) ?_ | intro b | refine drA ⟨tab_ok⟩ [] ?_ | refine kpt ?_ | refine callS (f := 87) (.i .i64 (btw c.qo 1 8)) (nearestT c.qo 1 8) ?_ | refine fin_s ?_ | refine fin_r ?_ ?_ | refine fin_e ?_ ?_)
  all_goals rfl
theorem tripRT (c : CfgV) (w : World) : Calls Tryz.prog 40 #[.agg #[.int .i64 c.ca, .int .i64 c.fl, .int .i64 c.ft, .int .i64 c.se, .int .i64 c.dr, .int .i64 c.dw, .int .i64 c.ho, .int .i64 c.re, .int .i64 c.yi, .int .i64 c.qu, .int .i64 c.qo, .int .i64 c.lo, .int .i64 c.sl, .int .i64 c.rt, .int .i64 c.cp, .int .i64 c.tr, .int .i64 c.de, .int .i64 c.wi]] w fun e w' => e = .returned (.int .i64 (trV c)) ∧ Since w w' := by
  have h1 := fl_lo c.fl
  have h2 := fl_hi c.fl
  have h3 := Ri.sp_lo c.dr
  have h4 := Ri.sp_hi c.dr
  refine ent tab_ok [.a [.i .i64 c.ca, .i .i64 c.fl, .i .i64 c.ft, .i .i64 c.se, .i .i64 c.dr, .i .i64 c.dw, .i .i64 c.ho, .i .i64 c.re, .i .i64 c.yi, .i .i64 c.qu, .i .i64 c.qo, .i .i64 c.lo, .i .i64 c.sl, .i .i64 c.rt, .i .i64 c.cp, .i .i64 c.tr, .i .i64 c.de, .i .i64 c.wi]] Tryz.func40 Tryz.ntmps40 rfl rfl ?_
  repeat' ((conv => whnf); first | refine sgo ⟨tab_ok⟩ ?_ | refine br_not ?_ | refine br_t rfl ?_ | refine br_f rfl ?_ | refine br_t (by assumption) ?_ | refine br_f (by assumption) ?_ | refine br_t (decide_eq_true (by assumption)) ?_ | refine br_f (decide_eq_false (by assumption)) ?_ | refine br_t (beq_iff_eq.2 (by assumption)) ?_ | refine br_f (beq_eq_false_iff_ne.2 (by assumption)) ?_ | intro b | refine drA ⟨tab_ok⟩ [] ?_ | refine kpt ?_ | refine wr_i ?_ | refine callS (f := 88) (.i .i64 (sp c.dr)) (spanT c.dr) ?_ | refine callS (f := 90) (.i .i64 (fl c.fl)) (floorsT c.fl) ?_ | refine fin_s ?_ | refine fin_r ?_ ?_ | refine fin_e ?_ ?_)
  all_goals rfl
end Go.Proofs.YthmikjjnlahlbaaGreat.Lc
namespace Go.Proofs.YthmikjjnlahlbaaGreat.Lc
set_option linter.unusedSectionVars false
set_option linter.unusedVariables false
set_option linter.unusedSimpArgs false
open Go.RowKit Go.Proofs.YthmikjjnlahlbaaGreat.Ba Go.Proofs.YthmikjjnlahlbaaGreat.Mem Go.Proofs.YthmikjjnlahlbaaGreat.En Go.Proofs.YthmikjjnlahlbaaGreat.Ty Go.Proofs.YthmikjjnlahlbaaGreat.Mo Go.Proofs.YthmikjjnlahlbaaGreat.St Go.Proofs.YthmikjjnlahlbaaGreat.Co
open Go.Proofs.YthmikjjnlahlbaaGreat.Ri (MsgV tickV hearV trV sp opB aimF)
open Go.Proofs.YthmikjjnlahlbaaGreat.Qu (dropL atS btw firstA atF okF atI)
open Go.Proofs.YthmikjjnlahlbaaGreat.Le (atP isP goodB hasL ofL setL endL isS)
open Go.Proofs.YthmikjjnlahlbaaGreat.Fl (freeB mayB)
open Go.Proofs.YthmikjjnlahlbaaGreat.Gr (GrV takeR tickG hasF idB one loadR aimR giveR)
open Go.Proofs.YthmikjjnlahlbaaGreat.Ct (tkV GoI rem)
open Go.Proofs.YthmikjjnlahlbaaGreat.Ce (nr ms)
open Go.Proofs.YthmikjjnlahlbaaGreat.Tm (cl)
/-- Nothing is wrong with any car. -/
def Cln (G : GrV) : Prop := ∀ x ∈ G.cars, x.br = false ∧ x.bl = false
theorem Cln.one {G : GrV} (h : Cln G) (i : Int) (f : CarV → CarV × Int) (hf : ∀ x, (f x).1.br = x.br ∧ (f x).1.bl = x.bl) : Cln (one G i f).1 :=
  Gr.one_cars h (fun x _ hx => by rw [(hf x).1, (hf x).2]; exact hx)
theorem Cln.aim {G : GrV} (h : Cln G) (i f : Int) (y : Bool) : Cln (aimR G i f y).1 := by
  unfold aimR; split
  · exact h.one _ _ fun x => by show (Gr.aimX f y x).br = _ ∧ (Gr.aimX f y x).bl = _; unfold Gr.aimX; split <;> exact ⟨rfl, rfl⟩
  · exact h
theorem Cln.take {G : GrV} (h : Cln G) (i f : Int) : Cln (takeR G i f).1 := by
  unfold takeR; split
  · exact h.one _ _ fun x => by show (Gr.takeX f x).br = _ ∧ (Gr.takeX f x).bl = _; unfold Gr.takeX; split <;> exact ⟨rfl, rfl⟩
  · exact h
theorem Cln.load {G : GrV} (h : Cln G) (i v : Int) : Cln (loadR G i v).1 := h.one _ _ fun x => ⟨rfl, rfl⟩
theorem Cln.tick {G : GrV} (h : Cln G) : Cln (tickG G) := by
  intro z hz
  obtain ⟨k, hk⟩ := List.mem_iff_getElem?.1 hz
  have hl : k < G.cars.length := by rw [← Gr.tick_len G]; exact (List.getElem?_eq_some_iff.1 hk).1
  obtain ⟨y, _, hn, hy⟩ := Gr.tick_at (List.getElem?_eq_getElem hl)
  rw [hy] at hk
  have hz := Option.some.inj hk
  obtain ⟨_, _, _, e4, _, _, e7, _⟩ := Ct.tk_same G.c y
  have hx := h _ (List.getElem_mem hl)
  have hy1 : y.br = (G.cars[k]).br := by rw [hn]
  have hy2 : y.bl = (G.cars[k]).bl := by rw [hn]
  subst hz
  exact ⟨e4.trans (hy1.trans hx.1), e7.trans (hy2.trans hx.2)⟩
theorem hd_sp (n : Int) : Do.hd n = sp n := by unfold Do.hd sp; rfl
theorem tr_hd (c : CfgV) : trV c = 4 * (fl c.fl - 1) + 3 * Do.hd c.dr + 4 := by rw [hd_sp]; rfl
theorem rem_same {c : CfgV} {x y : CarV} (h1 : y.un = x.un) (h2 : y.ta = x.ta) (h3 : y.ds = x.ds) (h4 : y.da = x.da) : rem c y = rem c x := by unfold rem; rw [h1, h2, h3, h4]
theorem fr_hi {c : CfgV} {x : CarV} (h : Ct.mayB c x = true) (hm : x.mo = 1) : fr x.un x.ta ≤ 4 * (fl c.fl - 1) := by
  obtain ⟨_, h1, h2, _, h3, h4⟩ := Ct.go_facts h hm
  unfold fr; split <;> omega
theorem near_go {c : CfgV} {x y : CarV} (h : Gr.Near x y) (hx : GoI c x) : GoI c y ∧ rem c y = rem c x ∧ y.ta = x.ta := by
  have h0 : y = { x with su := y.su, sd := y.sd } := h
  refine ⟨?_, by rw [h0]; rfl, by rw [h0]⟩
  rw [h0]; exact hx
theorem set_one {c : CfgV} {l r : LeaseV} (hg : goodB c r = true) (hk : key r = key l) : setL c [l] r = [r] := by
  have hlen := set_len c [l] r
  obtain ⟨y, hy⟩ := List.length_eq_one_iff.1 (show (setL c [l] r).length = 1 by rw [hlen]; rfl)
  have := set_all (ls := [l]) (by simp) hg y (by rw [hy]; simp)
  rcases this with h | ⟨h1, h2⟩
  · rw [hy, h]
  · rw [List.mem_singleton] at h1; subst h1; exact absurd hk.symm h2
theorem grant_no {K : KV} (h : K.Q = []) : grantK K = K := by
  have : grA K = none := by
    unfold grA
    split
    · rfl
    · rw [h]; rfl
  unfold grantK; rw [this]
/-- A lease under way, alone, behind n ticks. -/
structure RI (c : CfgV) (a : AskV) (n : Nat) (l : LeaseV) (K : KV) : Prop where
  p : PI c 1 n K
  ci : CI [] K
  cl : Cln K.G
  q : K.Q = []
  ls : K.L = [l]
  ak : l.se = a.se ∧ l.fm = a.fm ∧ l.to = a.to ∧ l.ma = a.ma
  now : K.G.now = n
/-- It goes to where its robot waits, or is to go. -/
structure GI2 (c : CfgV) (l : LeaseV) (K : KV) : Prop where
  ph : l.ph = 1 ∨ l.ph = 3
  tm : ∀ x, K.G.cars[l.ca.toNat]? = some x → K.G.now + rem c x + 4 ≤ l.un
  un : l.un ≤ (if l.ph = 1 then trV c else 2 * trV c) + 1
section
variable {c : CfgV} {a : AskV} {n : Nat} {l : LeaseV} {K : KV}
theorem RI.lm (h : RI c a n l K) : l ∈ K.L := by rw [h.ls]; exact List.mem_singleton.2 rfl
/-- Its car. -/
theorem RI.car (h : RI c a n l K) : ∃ x, K.G.cars[l.ca.toNat]? = some x ∧ GoI c x ∧ x.ta = aimF l := by
  obtain ⟨x, hx, hb⟩ := h.ci.a l h.lm
  have hm := List.mem_of_getElem? hx
  exact ⟨x, hx, ⟨(h.p.k.g.2.2.1 x hm).1, hb.mo, hb.ho, h.cl x hm⟩, hb.ta⟩
theorem foldK_one (h : K.L = [l]) : foldK K K.L.length = (setK (tkK1 K) (stepR (tkK1 K) l).1 (stepR (tkK1 K) l).2.2, [] ++ evs (stepR (tkK1 K) l).1.se (stepR (tkK1 K) l).2.1.toList) := by
  unfold foldK
  rw [h]; rfl
theorem aim_car {G : GrV} {i f : Int} {y : Bool} {k : Nat} {z : CarV} (h : G.cars[k]? = some z) : ∃ z', (aimR G i f y).1.cars[k]? = some z' ∧ z'.un = z.un ∧ z'.ds = z.ds ∧ z'.da = z.da := by
  unfold aimR; split
  · refine ⟨_, Gr.one_at h, ?_⟩
    split
    · show (Gr.aimX f y z).un = _ ∧ (Gr.aimX f y z).ds = _ ∧ (Gr.aimX f y z).da = _
      unfold Gr.aimX; split <;> exact ⟨rfl, rfl, rfl⟩
    · exact ⟨rfl, rfl, rfl⟩
  · exact ⟨z, h, rfl, rfl, rfl⟩
theorem tick_ri (h : RI c a n l K) (g : GI2 c l K) (hn : n ≤ 100000) : ∃ r, RI c a (n + 1) r (tickK K) ∧ (GI2 c r (tickK K) ∨ (r.ph = 2 ∧ (n : Int) + 3 ≤ trV c) ∨ r.ph = 4) := by
  have hP := h.p.tick (by omega)
  have hC := CI.tick h.p (by omega) h.ci
  obtain ⟨x, hx, hgo, hta⟩ := h.car
  obtain ⟨y, _, hnr, hz⟩ := Gr.tick_at hx
  have hc := h.p.k.g.1
  rw [hc] at hz
  obtain ⟨hgy, hry, hty⟩ := near_go hnr hgo
  obtain ⟨hgz, htz⟩ := Ct.goI_next hgy
  have hnx := Ct.rem_next hgy
  have htm := g.tm x hx
  have hr0 := Ct.rem_lo hgy.1 hgy.2.1
  have hun := g.un
  have ht1 := Ri.tr_lo c
  have ht2 := Ri.tr_hi c
  have hnow := h.now
  have hnow1 : (tkK1 K).G.now = (n : Int) + 1 := by rw [tk1_now K (by omega), hnow]
  have hun2 : l.un ≤ 2 * trV c + 1 := by split at hun <;> omega
  have hcar : carAt (tkK1 K) l = tkV c y := car_of hz
  have hbr : (tkV c y).br = false := hgz.2.2.2.1
  have e1 : cl l.un = l.un := Tm.cl_id _ (by omega) (by omega)
  have e2 : cl ((n : Int) + 1) = (n : Int) + 1 := Tm.cl_id _ (by omega) (by omega)
  have hst : stepR (tkK1 K) l = tickV c l (tkV c y) ((n : Int) + 1) := by
    unfold stepR
    rw [hcar, hnow1, show (tkK1 K).G.c = c from hc]
  have hno : ¬ ((tkV c y).br = true ∨ cl l.un ≤ cl ((n : Int) + 1)) := by
    rw [e1, e2, hbr]
    rintro (h | h)
    · cases h
    · omega
  have ho : (tickV c l (tkV c y) ((n : Int) + 1)).2.2 = false := by
    unfold tickV; rw [if_neg hno]; (repeat' split) <;> rfl
  have hB : Bn c l := (h.p.e l h.lm).toBn
  have hgd := (hB.tick (now := (n : Int) + 1) (by omega) (tkV c y) ho).gd
  have hkey := tickV_key (c := c) (l := l) (now := (n : Int) + 1) (tkV c y)
  generalize hr : (tickV c l (tkV c y) ((n : Int) + 1)).1 = r at *
  have hK : tickK K = ⟨(aimR (tkK1 K).G r.ca (aimF r) true).1, [], [r]⟩ := by
    unfold tickK
    rw [foldK_one h.ls, hst, hr, ho]
    have e : setK (tkK1 K) r false = ⟨(aimR (tkK1 K).G r.ca (aimF r) true).1, [], [r]⟩ := by
      unfold setK
      rw [if_neg (by decide)]
      have : setL (tkK1 K).G.c (tkK1 K).L r = [r] := by
        rw [show (tkK1 K).L = [l] from h.ls, show (tkK1 K).G.c = c from hc]
        exact set_one hgd hkey
      rw [this, show (tkK1 K).Q = [] from h.q]
    show grantK (setK (tkK1 K) r false) = _
    rw [e]
    exact grant_no rfl
  have hsame : r.se = l.se ∧ r.fm = l.fm ∧ r.to = l.to ∧ r.ma = l.ma ∧ r.ca = l.ca := by
    rw [← hr]; unfold tickV; (repeat' split) <;> exact ⟨rfl, rfl, rfl, rfl, rfl⟩
  have hRI : RI c a (n + 1) r (tickK K) := by
    refine ⟨hP, hC, ?_, by rw [hK], by rw [hK], ?_, ?_⟩
    · rw [hK]; exact (Cln.tick h.cl).aim _ _ _
    · rw [hsame.1, hsame.2.1, hsame.2.2.1, hsame.2.2.2.1]; exact h.ak
    · have : (tickK K).G.now = (tkK1 K).G.now := by rw [hK]; exact (Gr.aim_w _ _ _).2
      rw [this, hnow1]; push_cast; rfl
  refine ⟨r, hRI, ?_⟩
  -- what became of it
  have hop : opB (tkV c y) (aimF l) = true ∨ (¬ opB (tkV c y) (aimF l) = true ∧ rem c (tkV c y) + 1 ≤ rem c y) := by
    by_cases hq : opB (tkV c y) (aimF l) = true
    · exact .inl hq
    · refine .inr ⟨hq, ?_⟩
      rcases hnx with h1 | ⟨h1, h2⟩
      · exact h1
      · exfalso
        obtain ⟨q1, q2⟩ := Ct.rem_zero hgz.1 hgz.2.1 h2
        apply hq
        have hfl := Ct.go_facts hgz.1 hgz.2.1
        have h64 := fl_hi c.fl
        have hlv := far_lv (tkV c y).ta (by omega) (by omega)
        unfold opB
        rw [q2, q1, htz, hty, hta] at *
        rw [hlv.1, hlv.2]; simp
  have hph := g.ph
  have haim : aimF l = if l.ph = 1 then l.fm else l.to := by
    unfold aimF
    rcases hph with e | e <;> rw [e] <;> rfl
  rcases hop with hq | ⟨hq, hlt⟩
  · right
    rcases hph with e | e
    · left
      rw [haim, if_pos e] at hq
      have : r.ph = 2 := by rw [← hr]; unfold tickV; rw [if_neg hno, if_pos ⟨e, hq⟩]
      rw [if_pos e] at hun
      exact ⟨this, by omega⟩
    · right
      rw [haim, if_neg (by omega)] at hq
      rw [← hr]; unfold tickV; rw [if_neg hno, if_neg (by omega), if_pos ⟨e, hq⟩]
  · left
    have hrl : r = l := by
      rw [← hr]; unfold tickV
      rw [if_neg hno, if_neg, if_neg]
      · rintro ⟨e, hq2⟩; apply hq; rw [haim, if_neg (by omega)]; exact hq2
      · rintro ⟨e, hq2⟩; apply hq; rw [haim, if_pos e]; exact hq2
    subst hrl
    refine ⟨hph, fun x' hx' => ?_, hun⟩
    obtain ⟨x2, hx2, hb2⟩ := hC.a r hRI.lm
    rw [hx'] at hx2
    have hx2 := Option.some.inj hx2
    subst hx2
    rw [hK] at hx'
    obtain ⟨z', hz', z1, z2, z3⟩ := aim_car (i := r.ca) (f := aimF r) (y := true) hz
    have hx' : (aimR (tkK1 K).G r.ca (aimF r) true).1.cars[r.ca.toNat]? = some x' := hx'
    have hz' : (aimR (tkK1 K).G r.ca (aimF r) true).1.cars[r.ca.toNat]? = some z' := hz'
    rw [hx'] at hz'
    have hz' := Option.some.inj hz'
    subst hz'
    have e : rem c x' = rem c (tkV c y) := rem_same z1 (by rw [hb2.ta, htz, hty, hta]) z2 z3
    have := hRI.now
    rw [e, this]; push_cast; omega
end
end Go.Proofs.YthmikjjnlahlbaaGreat.Lc
namespace Go.Proofs.YthmikjjnlahlbaaGreat.Lc
set_option linter.unusedSectionVars false
set_option linter.unusedVariables false
set_option linter.unusedSimpArgs false
open Go.RowKit Go.Proofs.YthmikjjnlahlbaaGreat.Ba Go.Proofs.YthmikjjnlahlbaaGreat.Mem Go.Proofs.YthmikjjnlahlbaaGreat.En Go.Proofs.YthmikjjnlahlbaaGreat.Ty Go.Proofs.YthmikjjnlahlbaaGreat.Mo Go.Proofs.YthmikjjnlahlbaaGreat.St Go.Proofs.YthmikjjnlahlbaaGreat.Co
open Go.Proofs.YthmikjjnlahlbaaGreat.Ri (MsgV tickV hearV trV sp opB aimF)
open Go.Proofs.YthmikjjnlahlbaaGreat.Qu (dropL atS btw firstA atF okF atI)
open Go.Proofs.YthmikjjnlahlbaaGreat.Le (atP isP goodB hasL ofL setL endL isS)
open Go.Proofs.YthmikjjnlahlbaaGreat.Fl (freeB mayB)
open Go.Proofs.YthmikjjnlahlbaaGreat.Gr (GrV takeR tickG hasF idB one loadR aimR giveR)
open Go.Proofs.YthmikjjnlahlbaaGreat.Ct (tkV GoI rem)
open Go.Proofs.YthmikjjnlahlbaaGreat.Ce (nr ms)
open Go.Proofs.YthmikjjnlahlbaaGreat.Tm (cl)
section
variable {c : CfgV} {a : AskV} {n : Nat} {l : LeaseV} {K : KV}
theorem has_one (l : LeaseV) : hasL [l] l.se = true ∧ ofL [l] l.se = l ∧ endL [l] l.se = [] := by
  have e : atP [l] (isS l.se) = some 0 := by simp [atP, isS, List.findIdx?_cons]
  refine ⟨by unfold hasL; rw [e]; rfl, by unfold ofL; rw [e]; rfl, by unfold endL; rw [e]; rfl⟩
theorem ob_one (h : K.L = [l]) : obF K K.L.length = obStep (K, []) l := by unfold obF; rw [h]; rfl
/-- On its way its robot does nothing. -/
theorem ob_go (h : RI c a n l K) (g : GI2 c l K) : obK K = K ∧ obE K = [] := by
  have e : obF K K.L.length = (K, []) := by
    rw [ob_one h.ls]; unfold obStep
    have := g.ph
    rw [if_neg (by omega), if_neg (by omega)]
  unfold obK obE; rw [e]; exact ⟨rfl, rfl⟩
theorem ld_car (h : RI c a n l K) (v : Int) : ∃ x, K.G.cars[l.ca.toNat]? = some x ∧ carAt (ldK K l v) l = { x with lo := v } := by
  obtain ⟨x, hx, _⟩ := h.car
  refine ⟨x, hx, car_of ?_⟩
  have hca := (h.p.k.okl l h.lm).1
  have := Gr.one_at (i := l.ca) (f := fun x => ({ x with lo := v }, 0)) hx
  rw [if_pos (by omega)] at this
  exact this
/-- It enters. -/
theorem ob_in (h : RI c a n l K) (hph : l.ph = 2) (hT : (n : Int) + 2 ≤ trV c) : ∃ r, RI c a n r (obK K) ∧ GI2 c r (obK K) ∧ obE K = [⟨a.se, ⟨10, 0, 0, 0⟩⟩] := by
  have ht2 := Ri.tr_hi c
  have hP : PI c 1 n (obF K K.L.length).1 := h.p.ob (by omega) _
  have hC : CI [] (obF K K.L.length).1 := CI.ob (by omega) h.p h.ci _
  obtain ⟨x, hx, hcar⟩ := ld_car h l.ma
  have hc := h.p.k.g.1
  have hnow := h.now
  have e0 : obF K K.L.length = (hearK (ldK K l l.ma) l.se ⟨9, 0, 0, 0⟩, evs l.se (hearM (ldK K l l.ma) l.se ⟨9, 0, 0, 0⟩)) := by
    rw [ob_one h.ls]; unfold obStep; rw [if_pos hph]; rfl
  have hL : (ldK K l l.ma).L = [l] := h.ls
  obtain ⟨q1, q2, q3⟩ := has_one l
  have hcc : (ldK K l l.ma).G.c = c := (ld_c K l l.ma).trans hc
  have hnn : (ldK K l l.ma).G.now = (n : Int) := by rw [← hnow]; exact (Gr.load_w _ _).2
  have ec : cl (cl (n : Int) + cl (trV c)) = (n : Int) + trV c := cl_add (by omega) (by have := Ri.tr_lo c; omega)
  have hr : hearR (ldK K l l.ma) l ⟨9, 0, 0, 0⟩ = (⟨l.se, l.fl, l.fm, l.to, l.ma, l.ca, 3, (n : Int) + trV c, l.re, l.gr⟩, some ⟨10, 0, 0, 0⟩, false) := by
    unfold hearR
    rw [hcar, hnn, hcc]
    unfold hearV
    rw [if_pos ⟨rfl, hph⟩, if_pos (Ce.nr_self _ _), ec]
  have hE : obE K = [⟨a.se, ⟨10, 0, 0, 0⟩⟩] := by
    unfold obE; rw [e0]
    unfold hearM
    rw [hL, if_pos q1, q2, hr, ← h.ak.1]; rfl
  have hB : Bn c l := (h.p.e l h.lm).toBn
  have hgd : goodB c ⟨l.se, l.fl, l.fm, l.to, l.ma, l.ca, 3, (n : Int) + trV c, l.re, l.gr⟩ = true := good_of hB.gd ⟨rfl, rfl, rfl, rfl, rfl, rfl⟩ (by show 1 ≤ (3 : Int) ∧ (3 : Int) ≤ 4; decide)
  have hK : obK K = ⟨(aimR (ldK K l l.ma).G l.ca l.to true).1, [], [⟨l.se, l.fl, l.fm, l.to, l.ma, l.ca, 3, (n : Int) + trV c, l.re, l.gr⟩]⟩ := by
    unfold obK; rw [e0]
    unfold hearK
    rw [hL, if_pos q1, q2, hr]
    show setK _ _ false = _
    unfold setK
    have e1 : setL c [l] ⟨l.se, l.fl, l.fm, l.to, l.ma, l.ca, 3, (n : Int) + trV c, l.re, l.gr⟩ = [⟨l.se, l.fl, l.fm, l.to, l.ma, l.ca, 3, (n : Int) + trV c, l.re, l.gr⟩] := set_one (l := l) hgd rfl
    rw [if_neg (by decide), hL, hcc, show (ldK K l l.ma).Q = [] from h.q]
    dsimp only
    rw [e1]; rfl
  generalize hrr : (⟨l.se, l.fl, l.fm, l.to, l.ma, l.ca, 3, (n : Int) + trV c, l.re, l.gr⟩ : LeaseV) = r at *
  have hp3 : r.ph = 3 := by rw [← hrr]
  have hun : r.un = (n : Int) + trV c := by rw [← hrr]
  have hRI : RI c a n r (obK K) := by
    refine ⟨hP, hC, ?_, by rw [hK], by rw [hK], by rw [← hrr]; exact h.ak, ?_⟩
    · rw [hK]; exact (h.cl.load _ _).aim _ _ _
    · rw [hK]; show (aimR _ _ _ _).1.now = _; rw [(Gr.aim_w _ _ _).2]; exact hnn
  refine ⟨r, hRI, ⟨.inr hp3, fun x' hx' => ?_, by rw [if_neg (by omega), hun]; omega⟩, hE⟩
  obtain ⟨x2, hx2, hgo2, _⟩ := hRI.car
  rw [hx'] at hx2
  have hx2 := Option.some.inj hx2
  subst hx2
  have h1 := Ct.rem_lo hgo2.1 hgo2.2.1
  have h2 := fr_hi hgo2.1 hgo2.2.1
  have h3 := tr_hd c
  rw [hRI.now, hun]; omega
/-- It leaves. -/
theorem ob_out (h : RI c a n l K) (hph : l.ph = 4) : (obK K).L = [] ∧ obE K = [⟨a.se, ⟨14, 0, 0, 0⟩⟩] := by
  have e0 : obF K K.L.length = (hearK (ldK K l 0) l.se ⟨13, 0, 0, 0⟩, evs l.se (hearM (ldK K l 0) l.se ⟨13, 0, 0, 0⟩)) := by
    rw [ob_one h.ls]; unfold obStep; rw [if_neg (by omega), if_pos hph]; rfl
  have hL : (ldK K l 0).L = [l] := h.ls
  obtain ⟨q1, q2, q3⟩ := has_one l
  have hr : hearR (ldK K l 0) l ⟨13, 0, 0, 0⟩ = (⟨l.se, l.fl, l.fm, l.to, l.ma, l.ca, l.ph, l.un, l.re, l.gr⟩, some ⟨14, 0, 0, 0⟩, true) := by
    unfold hearR hearV
    rw [if_neg (by omega), if_pos ⟨rfl, hph⟩]
  refine ⟨?_, ?_⟩
  · unfold obK; rw [e0]
    unfold hearK
    rw [hL, if_pos q1, q2, hr]
    show (setK _ _ true).L = []
    unfold setK
    rw [if_pos rfl]
    unfold Co.endK
    rw [hL, if_pos (show hasL [l] l.se = true from q1)]
    exact q3
  · unfold obE; rw [e0]
    unfold hearM
    rw [hL, if_pos q1, q2, hr, ← h.ak.1]; rfl
end
section
variable {c : CfgV} {a : AskV}
/-- A car that nobody has called stays so. -/
theorem tk_zero (c : CfgV) : tkV c Gr.zeroX = Gr.zeroX := by
  have h1 : Ct.nO Gr.zeroX = false := by decide +kernel
  have h2 : Ct.nW Gr.zeroX = 0 := by decide +kernel
  have hX : Ct.tkX c Gr.zeroX = Gr.zeroX := by
    unfold Ct.tkX
    rw [if_neg (by decide), if_neg (by decide), if_pos (show Gr.zeroX.ds = 0 from rfl)]
    unfold Ct.goX
    rw [if_neg (by decide), if_neg (by rw [h1]; decide), if_pos h2, h2]; rfl
  have hR : Ct.tkR Gr.zeroX = 0 := by
    unfold Ct.tkR
    rw [if_neg (by decide), if_neg (by decide), if_pos (show Gr.zeroX.ds = 0 from rfl)]
    unfold Ct.goR
    rw [if_neg (by decide), if_neg (by rw [h1]; decide), h2]
  have hO : Ct.tkO Gr.zeroX = false := by
    unfold Ct.tkO
    rw [if_neg (by decide), if_neg (by decide), if_pos (show Gr.zeroX.ds = 0 from rfl)]
    unfold Ct.goO
    rw [h1]; simp
  have hK : Ct.tkK c Gr.zeroX = false := by
    unfold Ct.tkK
    rw [if_neg (by decide), if_neg (by decide), if_pos (show Gr.zeroX.ds = 0 from rfl)]
  unfold tkV
  rw [hX, hR, hO, hK]
  have d0 : Pl.dS1 c Gr.zeroX false false = 0 := by
    unfold Pl.dS1 Pl.dS0 Pl.toldS
    rw [if_neg (by decide), if_neg (by decide), if_neg (by decide)]
    unfold Do.tS; simp [Gr.zeroX]
  have d1 : Pl.dA1 c Gr.zeroX false false = 0 := by
    unfold Pl.dA1 Pl.dS0 Pl.toldS
    rw [if_neg (by decide), if_neg (by decide), if_neg (by decide)]
    unfold Do.tA; simp [Gr.zeroX]
  have g0 : Pl.goesB c Gr.zeroX 0 false false = false := by unfold Pl.goesB; simp
  unfold Pl.stepV Pl.wy1 Pl.un1
  rw [d0, d1, g0]; rfl
/-- The core behind the robot's request. -/
def k0 (c : CfgV) (a : AskV) : KV := ⟨Gr.newG c, [a], []⟩
theorem ans_k0 (hm : mayB c a = true) (hq : 1 ≤ btw c.qu 0 64) : ansK (newK c) a = k0 c a := by
  have e : Co.ansQ (newK c) a = [a] := by
    unfold Co.ansQ
    rw [if_pos (show mayB (newK c).G.c a = true from hm), if_neg (show ¬ hasL (newK c).L a.se = true from fun h => by cases (show hasL ([] : List LeaseV) a.se = true from h))]
    unfold Qu.putL
    have : Qu.putE (room (newK c)) (newK c).Q a = 0 := by
      unfold Qu.putE
      rw [if_neg (show ¬ ((atS (newK c).Q a.se).isSome) = true from fun h => by cases (show ((atS ([] : List AskV) a.se).isSome) = true from h)), if_neg]
      show ¬ (btw c.qu 0 64 ≤ ((0 : Nat) : Int))
      omega
    rw [if_pos this]; rfl
  unfold ansK; rw [e]; rfl
theorem fold_k0 : (foldK (k0 c a) (k0 c a).L.length).1 = tkK1 (k0 c a) := rfl
theorem cars_k0 : ∀ z ∈ (tkK1 (k0 c a)).G.cars, z = Gr.zeroX := by
  intro z hz
  obtain ⟨k, hk⟩ := List.mem_iff_getElem?.1 hz
  have hl : k < (k0 c a).G.cars.length := by rw [← Gr.tick_len (k0 c a).G]; exact (List.getElem?_eq_some_iff.1 hk).1
  have hx := List.getElem?_eq_getElem hl
  have hx0 : (k0 c a).G.cars[k] = Gr.zeroX := List.eq_of_mem_replicate (show (k0 c a).G.cars[k] ∈ List.replicate (Gr.ncars c) Gr.zeroX from List.getElem_mem hl)
  have h0 := Gr.tk_on c (k0 c a).G.cars [] hx (k0 c a).G.cars.length
  rw [if_pos hl, hx0, tk_zero] at h0
  have h1 : (tkK1 (k0 c a)).G.cars[k]? = (Gr.tkN c (k0 c a).G.cars [] (k0 c a).G.cars.length).1[k]? := rfl
  rw [h1, h0] at hk
  exact (Option.some.inj hk).symm
theorem nr_pos {f : Int} {cs : List CarV} {x : CarV} (h0 : cs[0]? = some x) (hx : canB x = true) : ∀ k, 0 ≤ (nrL f cs (k + 1)).1
  | 0 => by
    unfold nrL
    rw [h0]
    simp only []
    rw [if_pos ⟨hx, .inl (by show (-1 : Int) < 0; decide)⟩]
    show (0 : Int) ≤ ((0 : Nat) : Int); decide
  | k + 1 => by
    have ih := nr_pos (f := f) h0 hx k
    rw [nrL]
    split
    · exact ih
    · split
      · show (0 : Int) ≤ ((k + 1 : Nat) : Int); omega
      · exact ih
theorem PI.k0 (hm : mayB c a = true) (hq : 1 ≤ btw c.qu 0 64) : PI c 1 0 (k0 c a) ∧ CI [] (k0 c a) := by
  rw [← ans_k0 hm hq]
  refine ⟨⟨((KI.new c).ans a).more (Nat.zero_le _) (Nat.le_refl _) (Nat.le_refl _), (UQ.new c).ans a, (fun l hl => by cases hl), (by show (0 : Int) ≤ 0; omega)⟩, CI.ans (CI.new c) a⟩
/-- The first tick: it is granted. -/
theorem tick_k0 (hm : mayB c a = true) (hq : 1 ≤ btw c.qu 0 64) (hca : 2 ≤ c.ca) : ∃ l, RI c a 1 l (tickK (k0 c a)) ∧ GI2 c l (tickK (k0 c a)) := by
  obtain ⟨hP0, hC0⟩ := PI.k0 hm hq
  have hP : PI c 1 1 (tickK (k0 c a)) := hP0.tick (by decide)
  have hC : CI [] (tickK (k0 c a)) := CI.tick hP0 (by decide) hC0
  have ht1 := Ri.tr_lo c
  have ht2 := Ri.tr_hi c
  have hlen : (tkK1 (k0 c a)).G.cars.length = Gr.ncars c := by rw [show (tkK1 (k0 c a)).G.cars.length = (k0 c a).G.cars.length from Gr.tick_len _]; simp [k0, Gr.newG]
  have hnc : 2 ≤ Gr.ncars c := by unfold Gr.ncars; (repeat' split) <;> omega
  have hnow : (tkK1 (k0 c a)).G.now = 1 := tk1_now (k0 c a) (by show (0 : Int) ≤ 0 ∧ (0 : Int) ≤ _; omega)
  have hcan : canB Gr.zeroX = true := by decide +kernel
  have hpf : pfB (tkK1 (k0 c a)) = false := by
    unfold pfB
    have w0 : (tkK1 (k0 c a)).G.waits = [] := by
      have := (Gr.tkN_sub c (k0 c a).G.cars [] (k0 c a).G.cars.length)
      exact List.sublist_nil.1 this
    have c2 : (tkK1 (k0 c a)).G.cars.countP nrmC = (tkK1 (k0 c a)).G.cars.length := by
      rw [List.countP_eq_length]
      intro z hz
      rw [cars_k0 z hz]; decide
    rw [w0, c2, hlen]
    simp; omega
  have hfull : ∀ k, fullL (tkK1 (k0 c a)) k = [] := by
    intro k
    induction k with
    | zero => rfl
    | succ k ih =>
      unfold fullL
      rw [if_pos, ih]
      unfold freeB
      refine decide_eq_true ?_
      show ((Fl.cn [] (k : Int) : Nat) : Int) < btw c.qo 1 8
      have : Fl.cn [] (k : Int) = 0 := rfl
      rw [this]; unfold btw; (repeat' split) <;> omega
  have hat : atF [a] [] = some 0 := by simp [atF, okF, atI, List.findIdx?_cons]
  have hf : firstA [a] [] = a := by unfold firstA; rw [hat]; rfl
  obtain ⟨m, hmm⟩ : ∃ m, (tkK1 (k0 c a)).G.cars.length = m + 1 := ⟨Gr.ncars c - 1, by omega⟩
  have hx0 : (tkK1 (k0 c a)).G.cars[0]? = some Gr.zeroX := by
    have h : (tkK1 (k0 c a)).G.cars[0]? = some ((tkK1 (k0 c a)).G.cars[0]'(by omega)) := List.getElem?_eq_getElem _
    rw [h, cars_k0 _ (List.getElem_mem _)]
  have hnear : 0 ≤ nearI (tkK1 (k0 c a)) a.fm := by
    unfold nearI; rw [hmm]; exact nr_pos hx0 hcan m
  have hgr : grA (tkK1 (k0 c a)) = some a := by
    unfold grA
    rw [if_neg (by rw [hpf]; decide), hfull, show (tkK1 (k0 c a)).Q = [a] from rfl, hf, if_pos (by rw [hat]; rfl), if_neg (by omega)]
  have hT : tickK (k0 c a) = grK (tkK1 (k0 c a)) a := by
    unfold tickK
    rw [fold_k0]
    unfold grantK; rw [hgr]
  obtain ⟨i, hi⟩ : ∃ i : Nat, nearI (tkK1 (k0 c a)) a.fm = (i : Int) := ⟨_, (Int.toNat_of_nonneg hnear).symm⟩
  have ec : cl (cl (1 : Int) + cl (trV c)) = 1 + trV c := cl_add (by omega) (by omega)
  generalize hl : grL (tkK1 (k0 c a)) a = l at *
  have hl1 : l.ph = 1 ∧ l.un = 1 + trV c ∧ l.ca = (i : Int) ∧ l.se = a.se ∧ l.fm = a.fm ∧ l.to = a.to ∧ l.ma = a.ma := by
    rw [← hl]
    refine ⟨rfl, ?_, hi, rfl, rfl, rfl, rfl⟩
    show cl (cl (tkK1 (k0 c a)).G.now + cl (trV c)) = _
    rw [hnow, ec]
  have hQ : (tickK (k0 c a)).Q = [] := by
    rw [hT]
    show dropL [a] a.se = []
    simp [dropL, atS, Qu.isS, List.findIdx?_cons]
  -- its lease is there: else no car would be leased
  obtain ⟨x0, hx0', hcan0⟩ := near_can a.fm (tkK1 (k0 c a)).G.cars (tkK1 (k0 c a)).G.cars.length (by show 0 ≤ nearI _ a.fm; exact hnear)
  have hx0' : (tkK1 (k0 c a)).G.cars[i]? = some x0 := by
    have : (nrL a.fm (tkK1 (k0 c a)).G.cars (tkK1 (k0 c a)).G.cars.length).1.toNat = i := by
      show (nearI (tkK1 (k0 c a)) a.fm).toNat = i; rw [hi]; simp
    rw [this] at hx0'; exact hx0'
  have hz : x0 = Gr.zeroX := cars_k0 x0 (List.mem_of_getElem? hx0')
  subst hz
  have hfm := (may_fm hm).1
  have hhas : hasF (tkK1 (k0 c a)).G.c a.fm = true := by unfold hasF; exact decide_eq_true hfm
  have hcat : (tickK (k0 c a)).G.cars[i]? = some (Gr.takeX a.fm Gr.zeroX) := by
    rw [hT]
    show (takeR (tkK1 (k0 c a)).G (nearI _ a.fm) a.fm).1.cars[i]? = _
    unfold takeR; rw [if_pos hhas]
    have := Gr.one_at (i := nearI (tkK1 (k0 c a)) a.fm) (f := fun x => (Gr.takeX a.fm x, Gr.takeE x)) hx0'
    rw [if_pos hi.symm] at this
    exact this
  have hidz : idB Gr.zeroX = true := by decide +kernel
  have htk : Gr.takeX a.fm Gr.zeroX = { Gr.zeroX with mo := 1, ta := a.fm, ho := true } := by unfold Gr.takeX; rw [if_pos hidz]
  have hL : (tickK (k0 c a)).L = [l] := by
    obtain ⟨l', hl', hc'⟩ := hC.b i _ hcat (by rw [htk])
    have e : (tickK (k0 c a)).L = Le.putL (tkK1 (k0 c a)).G.c [] l := by rw [hT]; show Le.putL _ _ (grL _ a) = _; rw [hl]; rfl
    rw [e] at hl' ⊢
    unfold Le.putL at hl' ⊢
    split at hl'
    · rename_i h0; rw [if_pos h0]; rfl
    · cases hl'
  refine ⟨l, ⟨hP, hC, ?_, hQ, hL, ⟨hl1.2.2.2.1, hl1.2.2.2.2.1, hl1.2.2.2.2.2.1, hl1.2.2.2.2.2.2⟩, ?_⟩, ⟨.inl hl1.1, fun x hx => ?_, by rw [if_pos hl1.1, hl1.2.1]; omega⟩⟩
  · rw [hT]
    refine Cln.take ?_ _ _
    intro z hz; rw [cars_k0 z hz]; exact ⟨rfl, rfl⟩
  · rw [hT]; show (takeR _ _ _).1.now = _; rw [(Gr.take_w _ _).2, hnow]; rfl
  · have hnw : (tickK (k0 c a)).G.now = 1 := by rw [hT]; show (takeR _ _ _).1.now = _; rw [(Gr.take_w _ _).2, hnow]
    rw [hl1.2.2.1, Int.toNat_natCast, hcat, htk] at hx
    have hx := Option.some.inj hx
    have h64 := fl_hi c.fl
    have hd1 := Do.hd_lo c.dr
    have h3 := tr_hd c
    have hfr : fr 0 a.fm ≤ 4 * (fl c.fl - 1) := by unfold fr; split <;> omega
    have hrem : rem c x ≤ fr 0 a.fm + Do.hd c.dr := by
      have := fr_lo 0 a.fm
      rw [← hx]
      unfold rem
      show (if fr 0 a.fm = 0 then (if (0 : Int) = 2 then 0 else if (0 : Int) = 0 then Do.hd c.dr else _) else fr 0 a.fm + Do.hd c.dr + (if (0 : Int) = 0 then 0 else _)) ≤ _
      split
      · rw [if_neg (by decide), if_pos rfl]; omega
      · rw [if_pos rfl]; omega
    rw [hnw, hl1.2.1]; omega
end
/-- Ahead of round n: nothing granted yet; or under way. -/
def JI (c : CfgV) (a : AskV) (n : Nat) (K : KV) : Prop := (n = 0 ∧ K = k0 c a) ∨ ∃ l, RI c a n l K ∧ GI2 c l K
section
variable {c : CfgV} {a : AskV} {n : Nat} {K : KV}
theorem JI.pi (hm : mayB c a = true) (hq : 1 ≤ btw c.qu 0 64) (h : JI c a n K) : PI c 1 n K := by
  rcases h with ⟨rfl, rfl⟩ | ⟨l, h, _⟩
  · exact (PI.k0 hm hq).1
  · exact h.p
/-- It is never late. -/
theorem JI.lt (h : JI c a n K) : (n : Int) ≤ 2 * trV c := by
  have ht1 := Ri.tr_lo c
  rcases h with ⟨rfl, rfl⟩ | ⟨l, h, g⟩
  · show ((0 : Nat) : Int) ≤ _; omega
  · obtain ⟨x, hx, hgo, _⟩ := h.car
    have h1 := g.tm x hx
    have h2 := (Ct.rem_lo hgo.1 hgo.2.1).1
    have h3 := g.un
    have h4 := h.now
    split at h3 <;> omega
theorem JI.next (hm : mayB c a = true) (hq : 1 ≤ btw c.qu 0 64) (hca : 2 ≤ c.ca) (h : JI c a n K) :
    (obE (tickK K) = [] ∧ JI c a (n + 1) (obK (tickK K))) ∨ (obE (tickK K) = [⟨a.se, ⟨10, 0, 0, 0⟩⟩] ∧ JI c a (n + 1) (obK (tickK K))) ∨ (obE (tickK K) = [⟨a.se, ⟨14, 0, 0, 0⟩⟩] ∧ (obK (tickK K)).L = []) := by
  have hlt := h.lt
  have ht2 := Ri.tr_hi c
  rcases h with ⟨rfl, rfl⟩ | ⟨l, h, g⟩
  · obtain ⟨l, h, g⟩ := tick_k0 hm hq hca
    obtain ⟨e1, e2⟩ := ob_go h g
    exact .inl ⟨e2, .inr ⟨l, by rw [e1]; exact h, by rw [e1]; exact g⟩⟩
  · obtain ⟨r, h1, h2 | ⟨h2, h3⟩ | h2⟩ := tick_ri h g (by omega)
    · obtain ⟨e1, e2⟩ := ob_go h1 h2
      exact .inl ⟨e2, .inr ⟨r, by rw [e1]; exact h1, by rw [e1]; exact h2⟩⟩
    · obtain ⟨r2, q1, q2, q3⟩ := ob_in h1 h2 (by push_cast; omega)
      exact .inr (.inl ⟨q3, .inr ⟨r2, q1, q2⟩⟩)
    · obtain ⟨q1, q2⟩ := ob_out h1 h2
      exact .inr (.inr ⟨q2, q1⟩)
end
end Go.Proofs.YthmikjjnlahlbaaGreat.Lc
