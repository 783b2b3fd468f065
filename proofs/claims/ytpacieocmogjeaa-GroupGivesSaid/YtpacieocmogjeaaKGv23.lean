/-
  What is wanted by the last of these texts, part 23.
  No condition.
-/
import Derived.Test.YtpacieocmogjeaaKGv19
import Derived.Test.YtpacieocmogjeaaProg
import Derived.Test.YtpacieocmogjeaaKGv0
import Derived.Test.YtpacieocmogjeaaKGv20
import Derived.Test.YtpacieocmogjeaaKGv22
namespace Go.Proofs.Ytpacieocmogjeaa.Gr
set_option linter.unusedVariables false
set_option linter.unusedSimpArgs false
open Go.RowKit Go.Proofs.Ytpacieocmogjeaa.Ba Go.Proofs.Ytpacieocmogjeaa.Mem Go.Proofs.Ytpacieocmogjeaa.Ty Go.Proofs.Ytpacieocmogjeaa.Mo Go.Proofs.Ytpacieocmogjeaa.St Go.Proofs.Ytpacieocmogjeaa.Pl Go.Proofs.Ytpacieocmogjeaa.Sc
open Go.Proofs.Ytpacieocmogjeaa.Ct (cfgA carA dwV bdX tkV tkF tkW tkS tkX goX goS goF goW svX ldX stX nW nO tk_same)
open Go.Proofs.Ytpacieocmogjeaa.Et (bl bl_inv)
/-- A car that takes calls; one that has a call among its stops. -/
def free (x : CarV) : Prop := x.mo = 0 ∧ x.br = false
def hasW (x : CarV) (a : WaitV) : Prop := atB x.su x.sd a.fl a.wy = true
def held (cs : List CarV) (a : WaitV) : Prop := a.ca = -1 ∨ ∃ (k : Nat) (x : CarV), a.ca = (k : Int) ∧ cs[k]? = some x ∧ free x ∧ hasW x a
def key (a : WaitV) : Int × Int := (a.fl, a.wy)
def GG (G : GrV) : Prop := (∀ a ∈ G.waits, held G.cars a) ∧ (G.waits.map key).Nodup
theorem held.mono {cs cs' : List CarV} {a : WaitV} (h : held cs a) (hk : ∀ (k : Nat) (x : CarV), a.ca = (k : Int) → cs[k]? = some x → free x → hasW x a → ∃ y, cs'[k]? = some y ∧ free y ∧ hasW y a) : held cs' a := by
  rcases h with h | ⟨k, x, h1, h2, h3, h4⟩
  · exact .inl h
  · obtain ⟨y, g1, g2, g3⟩ := hk k x h1 h2 h3 h4
    exact .inr ⟨k, y, h1, g1, g2, g3⟩
theorem mem_in {x g : Int} (h : mem x g = true) : (0 ≤ g ∧ g < 64) ∧ tb x g.toNat = true := by
  unfold mem at h
  simp only [Bool.and_eq_true, decide_eq_true_eq] at h
  exact h
theorem mem_of {x g : Int} (h0 : 0 ≤ g ∧ g < 64) (h : tb x g.toNat = true) : mem x g = true := by
  unfold mem; simp only [Bool.and_eq_true, decide_eq_true_eq]; exact ⟨h0, h⟩
theorem mem_an {x f g : Int} (hx : R x) (h : mem x g = true) (hne : g ≠ f) : mem (bits .andNot .u64 x (bit f)) g = true := by
  obtain ⟨h0, h1⟩ := mem_in h
  refine mem_of h0 ?_
  rw [an_tb hx (bit_R f), h1, bit_tb, decide_eq_false (by omega)]; rfl
theorem mem_or {x f g : Int} (hx : R x) (h : mem x g = true) : mem (bits .or .u64 x (bit f)) g = true := by
  obtain ⟨h0, h1⟩ := mem_in h
  refine mem_of h0 ?_
  rw [or_tb hx (bit_R f), h1]; rfl
theorem mem_own {x f : Int} (hx : R x) (h : 0 ≤ f ∧ f < 64) : mem (bits .or .u64 x (bit f)) f = true := by
  refine mem_of h ?_
  rw [or_tb hx (bit_R f), bit_tb, decide_eq_true (by omega)]; simp
theorem at_iff {u d f w : Int} : atB u d f w = true ↔ (w = 1 ∧ mem u f = true) ∨ (w = 2 ∧ mem d f = true) := by
  unfold atB; simp
theorem up_nn (x : Int) : ∀ k, 0 ≤ up x k
  | 0 => Int.le_refl _
  | k + 1 => by have := up_nn x k; unfold up; split <;> omega
theorem up_pos (x : Int) (i : Nat) (h : tb x i = true) : ∀ k, i < k → 1 ≤ up x k
  | 0, hk => by omega
  | k + 1, hk => by
    have h0 := up_nn x k
    unfold up
    by_cases e : i = k
    · subst e; rw [if_pos h]; omega
    · have := up_pos x i h k (by omega)
      split <;> omega
theorem cn_none {x f : Int} (hx : R x) (h : cn x = 0) : mem x f = false := by
  cases e : mem x f
  · rfl
  · obtain ⟨h0, h1⟩ := mem_in e
    have := up_pos x _ h1 64 (by omega)
    rw [up_cn x hx] at this
    omega
/-- One that is idle has no call. -/
theorem idle_no {x : CarV} {a : WaitV} (hr : R x.sp ∧ R x.su ∧ R x.sd) (hi : idB x = true) : ¬ hasW x a := by
  intro h
  have hi := (of_decide_eq_true (show decide _ = true from hi)).2.2.2.2.2
  have h1 := cn_lo x.sp; have h2 := cn_lo x.su; have h3 := cn_lo x.sd
  rcases at_iff.1 h with ⟨_, h⟩ | ⟨_, h⟩
  · rw [cn_none hr.2.1 (by omega)] at h; cases h
  · rw [cn_none hr.2.2 (by omega)] at h; cases h
theorem hall_more {x : CarV} {a b : WaitV} (hu : R x.su) (hd : R x.sd) (h : hasW x b) : hasW (hallX a x) b := by
  unfold hasW at h ⊢
  rw [at_iff] at h ⊢
  show (b.wy = 1 ∧ mem (haU x.su a.fl a.wy) b.fl = true) ∨ (b.wy = 2 ∧ mem (haD x.sd a.fl a.wy) b.fl = true)
  rcases h with ⟨h1, h2⟩ | ⟨h1, h2⟩
  · refine .inl ⟨h1, ?_⟩
    unfold haU; split
    · exact mem_or hu h2
    · exact h2
  · refine .inr ⟨h1, ?_⟩
    unfold haD; split
    · exact mem_or hd h2
    · exact h2
theorem hall_own {x : CarV} {a : WaitV} (hu : R x.su) (hd : R x.sd) (ha : okW a) : hasW (hallX a x) a := by
  unfold hasW
  rw [at_iff]
  show (a.wy = 1 ∧ mem (haU x.su a.fl a.wy) a.fl = true) ∨ (a.wy = 2 ∧ mem (haD x.sd a.fl a.wy) a.fl = true)
  obtain ⟨h1, h2, h3⟩ := ha
  rcases (show a.wy = 1 ∨ a.wy = 2 by omega) with h | h
  · refine .inl ⟨h, ?_⟩
    unfold haU; rw [if_pos h]; exact mem_own hu (by omega)
  · refine .inr ⟨h, ?_⟩
    unfold haD; rw [if_pos h]; exact mem_own hd (by omega)
/-- A tick leaves a free car its calls, but the one that it serves. -/
theorem tk_has {c : CfgV} {x : CarV} {a : WaitV} (hu : R x.su) (hd : R x.sd) (hf : free x) (h : hasW x a) (hs : tkS x = true → isW (tkF x) (tkW x) a = false) : hasW (tkV c x) a := by
  have key : hasW (tkX c x) a := by
    unfold hasW at h ⊢
    unfold tkX
    rw [hf.2, if_neg (by simp), if_neg (by rw [hf.1]; decide)]
    split
    · rename_i h0
      have eS : tkS x = goS x := by unfold tkS; rw [hf.2, if_neg (by simp), if_neg (by rw [hf.1]; decide), if_pos h0]
      have eF : tkF x = goF x := by unfold tkF; rw [hf.2, if_neg (by simp), if_neg (by rw [hf.1]; decide), if_pos h0]
      have eW : tkW x = goW x := by unfold tkW; rw [hf.2, if_neg (by simp), if_neg (by rw [hf.1]; decide), if_pos h0]
      rw [eS, eF, eW] at hs
      unfold goX
      split
      · exact h
      · rename_i hl
        have hl : lvB x.un = true := by simpa using hl
        split
        · rename_i hn
          have not : a.fl = lvN x.un → a.wy = nW x → False := fun e1 e2 => by
            have hg : goS x = true := by unfold goS; rw [hl, hn, ← e1, ← e2, h]; rfl
            have q := hs hg
            unfold goF goW at q
            rw [if_pos hg, if_pos hg] at q
            unfold isW at q
            simp [e1, e2] at q
          rw [at_iff] at h ⊢
          show (a.wy = 1 ∧ mem (clU x.su (lvN x.un) (nW x)) a.fl = true) ∨ (a.wy = 2 ∧ mem (clD x.sd (lvN x.un) (nW x)) a.fl = true)
          rcases h with ⟨h1, h2⟩ | ⟨h1, h2⟩
          · refine .inl ⟨h1, ?_⟩
            unfold clU; split
            · rename_i hw; exact mem_an hu h2 (fun e => not e (by omega))
            · exact h2
          · refine .inr ⟨h1, ?_⟩
            unfold clD; split
            · rename_i hw; exact mem_an hd h2 (fun e => not e (by omega))
            · exact h2
        · split
          · exact h
          · exact h
    · split
      · unfold stX; split <;> exact h
      · exact h
  exact key
theorem tk_free {c : CfgV} {x : CarV} : free (tkV c x) ↔ free x := by
  obtain ⟨_, _, _, e4, e5, _⟩ := tk_same c x
  show ((tkX c x).mo = 0 ∧ (tkX c x).br = false) ↔ _
  rw [e4, e5]; rfl
theorem Near.free {x y : CarV} (h : Near x y) : free y ↔ free x := by
  unfold Near at h
  rw [h]; rfl
/-- The best car is free; there is one, if one is free. -/
theorem bl_free {c : CfgV} {f cw : Int} {cs : Nat → CarV} {q : Nat} : ∀ n : Nat, (bl c f cw cs n).1 = (q : Int) → free (cs q)
  | 0, h => by change (-1 : Int) = _ at h; omega
  | n + 1, h => by
    unfold bl at h
    split at h
    · rename_i hc
      have e : n = q := by simp only [] at h; omega
      subst e; exact hc.1
    · exact bl_free n h
theorem bl_some {c : CfgV} {f cw : Int} {cs : Nat → CarV} {j : Nat} (hf : free (cs j)) : ∀ n : Nat, j < n → 0 ≤ (bl c f cw cs n).1
  | 0, h => by omega
  | n + 1, h => by
    unfold bl
    split
    · show 0 ≤ (n : Int); omega
    · rename_i hc
      by_cases e : j = n
      · subst e
        rcases Int.lt_or_le (bl c f cw cs j).1 0 with h2 | h2
        · exact absurd ⟨hf, .inl h2⟩ hc
        · exact h2
      · exact bl_some hf n (by omega)
section
variable {G : GrV} {i : Int} {f : CarV → CarV × Int}
theorem GG.one (h : GG G) (hf : ∀ x ∈ G.cars, ∀ a, free x → hasW x a → free (f x).1 ∧ hasW (f x).1 a) : GG (one G i f).1 := by
  have e := one_same (G := G) (i := i) (f := f)
  refine ⟨fun a ha => ?_, by rw [e.2.1]; exact h.2⟩
  rw [e.2.1] at ha
  refine (h.1 a ha).mono fun k x _ hx h1 h2 => ⟨_, one_at hx, ?_⟩
  split
  · exact hf x (List.mem_of_getElem? hx) a h1 h2
  · exact ⟨h1, h2⟩
end
theorem GG.do_ {c : CfgV} {n T : Nat} {G : GrV} (hi : GI c n T G) (h : GG G) (k a b : Int) (y : Bool) : GG (doR G k a b y).1 := by
  unfold doR
  split
  · unfold hallR
    split
    · split
      · rename_i hn
        refine ⟨fun z hz => ?_, ?_⟩
        · rcases List.mem_append.1 hz with hz | hz
          · exact h.1 z hz
          · rw [List.mem_singleton.1 hz]; exact .inl rfl
        · show ((G.waits ++ [(⟨a, b, -1, G.now⟩ : WaitV)]).map key).Nodup
          rw [List.map_append, List.nodup_append]
          refine ⟨h.2, by simp, fun p hp q hq e => ?_⟩
          obtain ⟨z, hz, rfl⟩ := List.mem_map.1 hp
          have e2 : q = (a, b) := by simpa [key] using hq
          obtain ⟨j, hj, rfl⟩ := List.mem_iff_getElem.1 hz
          have q2 := atP_none hn j hj
          rw [e2] at e
          unfold key at e
          injection e with e3 e4
          unfold isW at q2
          simp [e3, e4] at q2
      · exact h
    · exact h
  split
  · unfold pressR; split
    · refine h.one fun x _ z h1 h2 => ?_
      unfold pressX; split
      · exact ⟨h1, h2⟩
      · exact ⟨h1, h2⟩
    · exact h
  split
  · exact h.one fun x _ z h1 h2 => ⟨h1, h2⟩
  split
  · exact h.one fun x _ z h1 h2 => ⟨h1, h2⟩
  split
  · unfold faultR
    split
    · split
      · refine ⟨fun z hz => ?_, ?_⟩
        · obtain ⟨u, hu, rfl⟩ := List.mem_map.1 hz
          unfold disW
          by_cases e : u.ca = a
          · rw [if_pos e]; exact .inl rfl
          · rw [if_neg e]
            refine (h.1 u hu).mono fun j x e2 hx h1 h2 => ⟨x, ?_, h1, h2⟩
            have q := one_at (i := a) (f := fun x => (fltX x, 0)) hx
            rw [if_neg (by omega)] at q
            exact q
        · show ((G.waits.map (disW a)).map key).Nodup
          rw [List.map_map, show key ∘ disW a = key from funext fun u => by show key (disW a u) = key u; unfold disW; split <;> rfl]
          exact h.2
      · exact h
    · exact h.one fun x _ z h1 h2 => ⟨⟨h1.1, rfl⟩, h2⟩
  split
  · unfold takeR; split
    · refine h.one fun x hx z h1 h2 => ?_
      by_cases hb : idB x = true
      · exact absurd h2 (idle_no (hi.2.2.1 x hx).2.1 hb)
      · rw [if_neg hb]; exact ⟨h1, h2⟩
    · exact h
  split
  · unfold aimR; split
    · refine h.one fun x _ z h1 h2 => ?_
      rw [if_neg (by rw [h1.1]; decide)]; exact ⟨h1, h2⟩
    · exact h
  split
  · unfold giveR
    refine h.one fun x _ z h1 h2 => ?_
    rw [if_neg (by rw [h1.1]; decide)]; exact ⟨h1, h2⟩
  · exact h
/-- Each call has a car behind the assigning, if there is one. -/
theorem asg_held {c : CfgV} {T : Nat} {ws : List WaitV} {cs : List CarV} (hc : ∀ x ∈ cs, SafeX c T x) (hw : ∀ a ∈ ws, okW a) (hh : ∀ a ∈ ws, held cs a) :
    ∀ i, (∀ a ∈ (asgN c ws cs i).1, held (asgN c ws cs i).2 a) ∧ (asgN c ws cs i).1.map key = ws.map key ∧ (∀ a ∈ (asgN c ws cs i).1, okW a) ∧
      ∀ j a, j < i → (asgN c ws cs i).1[j]? = some a → (∃ x ∈ cs, free x) → a.ca ≠ -1
  | 0 => ⟨hh, rfl, hw, fun j a hj => by omega⟩
  | i + 1 => by
    obtain ⟨h1, h2, h3, h4⟩ := asg_held hc hw hh i
    have hs := asg_safe (ws := ws) hc i
    have hsome : (∃ x ∈ cs, free x) → ∃ k, k < (asgN c ws cs i).2.length ∧ free ((asgN c ws cs i).2.getD k zeroX) := by
      rintro ⟨x, hx, hf⟩
      obtain ⟨k, hk, rfl⟩ := List.mem_iff_getElem.1 hx
      obtain ⟨y, g1, g2⟩ := asg_at (c := c) (ws := ws) (List.getElem?_eq_getElem hk) i
      exact ⟨k, (List.getElem?_eq_some_iff.1 g1).1, by rw [List.getD_eq_getElem?_getD, g1]; exact g2.free.2 hf⟩
    show (∀ a ∈ (asgStep c (asgN c ws cs i) i).1, held (asgStep c (asgN c ws cs i) i).2 a) ∧ (asgStep c (asgN c ws cs i) i).1.map key = ws.map key ∧ (∀ a ∈ (asgStep c (asgN c ws cs i) i).1, okW a) ∧ ∀ j a, j < i + 1 → (asgStep c (asgN c ws cs i) i).1[j]? = some a → (∃ x ∈ cs, free x) → a.ca ≠ -1
    generalize asgN c ws cs i = p at *
    unfold asgStep
    split
    · rename_i hn
      refine ⟨h1, h2, h3, fun j a hj ha => ?_⟩
      by_cases e : j = i
      · subst e; rw [hn] at ha; cases ha
      · exact h4 j a (by omega) ha
    · rename_i a ha
      have hi := (List.getElem?_eq_some_iff.1 ha).1
      split
      · rename_i hca
        have hbest := bestI_at c p.2 a
        refine ⟨fun b hb => ?_, ?_, fun b hb => ?_, fun j b hj hb hsm => ?_⟩
        · have old : ∀ b, held p.2 b → held (giveC p.2 a (bestI c p.2 a)) b := fun b hb => hb.mono fun k x _ hx g1 g2 => ⟨_, giveC_at hx, by
            split
            · exact ⟨g1, hall_more (hs x (List.mem_of_getElem? hx)).2.1.2.1 (hs x (List.mem_of_getElem? hx)).2.1.2.2 g2⟩
            · exact ⟨g1, g2⟩⟩
          rcases List.mem_or_eq_of_mem_set hb with hb | rfl
          · exact old b (h1 b hb)
          · rcases hbest with e | ⟨q, hq, e⟩
            · exact .inl e
            · have hx : p.2[q]? = some p.2[q] := List.getElem?_eq_getElem hq
              have hf : free p.2[q] := by
                have := bl_free (c := c) (f := a.fl) (cw := a.wy) (cs := fun j => p.2.getD j zeroX) (q := q) p.2.length e
                simpa [List.getD_eq_getElem?_getD, hx] using this
              have hr := (hs _ (List.getElem_mem hq)).2.1
              refine .inr ⟨q, hallX a p.2[q], e, ?_, hf, hall_own hr.2.1 hr.2.2 (h3 a (List.mem_of_getElem? ha))⟩
              rw [giveC_at hx, if_pos e.symm]
        · rw [List.map_set, ← h2]
          show (p.1.map key).set i (key a) = _
          apply List.ext_getElem?
          intro j
          rw [List.getElem?_set]
          split
          · rename_i e; subst e
            have e2 : p.1[i] = a := (List.getElem?_eq_some_iff.1 ha).2
            simp [hi, e2]
          · rfl
        · rcases List.mem_or_eq_of_mem_set hb with hb | rfl
          · exact h3 b hb
          · exact h3 a (List.mem_of_getElem? ha)
        · rw [List.getElem?_set] at hb
          split at hb
          · have hb := (Option.some.inj hb).symm
            subst hb
            obtain ⟨k, hk, hf⟩ := hsome hsm
            have := bl_some (c := c) (f := a.fl) (cw := a.wy) (cs := fun j => p.2.getD j zeroX) hf p.2.length hk
            show bestI c p.2 a ≠ -1
            unfold bestI
            omega
          · exact h4 j b (by omega) hb hsm
      · rename_i hca
        refine ⟨h1, h2, h3, fun j b hj hb => ?_⟩
        by_cases e : j = i
        · subst e; rw [ha] at hb; have hb := Option.some.inj hb; subst hb; exact fun _ => hca
        · exact h4 j b (by omega) hb
theorem erase_key {ws : List WaitV} {k : Nat} {y b : WaitV} (hn : (ws.map key).Nodup) (hy : ws[k]? = some y) (hb : b ∈ ws.eraseIdx k) : key b ≠ key y := by
  obtain ⟨j, hj, rfl⟩ := List.mem_iff_getElem.1 hb
  rw [List.getElem_eraseIdx]
  obtain ⟨hk, rfl⟩ := List.getElem?_eq_some_iff.1 hy
  have hlen : (ws.eraseIdx k).length = ws.length - 1 := by rw [List.length_eraseIdx, if_pos hk]
  have inj : ∀ i1 i2 (h1 : i1 < ws.length) (h2 : i2 < ws.length), key ws[i1] = key ws[i2] → i1 = i2 := fun i1 i2 h1 h2 e => by
    have hp := List.pairwise_iff_getElem.1 hn
    rcases Nat.lt_trichotomy i1 i2 with h | h | h
    · exact absurd (by rw [List.getElem_map, List.getElem_map]; exact e) (hp i1 i2 (by simpa using h1) (by simpa using h2) h)
    · exact h
    · exact absurd (by rw [List.getElem_map, List.getElem_map]; exact e.symm) (hp i2 i1 (by simpa using h2) (by simpa using h1) h)
  split
  · intro e; have := inj _ _ _ _ e; omega
  · intro e; have := inj _ _ _ _ e; omega
theorem tk_held {c : CfgV} {T : Nat} {ws : List WaitV} {cs : List CarV} (hc : ∀ x ∈ cs, SafeX c T x) (hh : ∀ a ∈ ws, held cs a) (hn : (ws.map key).Nodup) :
    ∀ i, (∀ a ∈ (tkN c cs ws i).2.1, held (tkN c cs ws i).1 a) ∧ ((tkN c cs ws i).2.1.map key).Nodup
  | 0 => ⟨hh, hn⟩
  | i + 1 => by
    obtain ⟨h1, h2⟩ := tk_held hc hh hn i
    have hat := tk_at c cs ws i i (Nat.le_refl _)
    show (∀ a ∈ (tkStep c (tkN c cs ws i) i).2.1, held (tkStep c (tkN c cs ws i) i).1 a) ∧ ((tkStep c (tkN c cs ws i) i).2.1.map key).Nodup
    generalize tkN c cs ws i = p at *
    unfold tkStep
    split
    · exact ⟨h1, h2⟩
    · rename_i x hx
      have hi := (List.getElem?_eq_some_iff.1 hx).1
      have hr := (hc x (List.mem_of_getElem? (hat ▸ hx))).2.1
      have step : ∀ a, held p.1 a → (tkS x = true → isW (tkF x) (tkW x) a = false) → held (p.1.set i (tkV c x)) a := fun a ha hs => ha.mono fun k z _ hz g1 g2 => by
        rw [List.getElem?_set]
        by_cases e : i = k
        · subst e
          rw [hx] at hz
          have hz := Option.some.inj hz
          subst hz
          rw [if_pos rfl, if_pos hi]
          exact ⟨_, rfl, tk_free.2 g1, tk_has hr.2.1 hr.2.2 g1 g2 hs⟩
        · rw [if_neg e]; exact ⟨z, hz, g1, g2⟩
      split
      · rename_i hno
        refine ⟨fun a ha => step a (h1 a ha) fun hs => ?_, h2⟩
        rw [if_pos hs] at hno
        obtain ⟨j, hj, rfl⟩ := List.mem_iff_getElem.1 ha
        exact atP_none hno j hj
      · rename_i k hk
        have hs : tkS x = true := by
          cases e : tkS x
          · rw [e, if_neg (by simp)] at hk; cases hk
          · rfl
        rw [if_pos hs] at hk
        obtain ⟨k1, k2, _⟩ := atP_some hk
        refine ⟨fun a ha => step a (h1 a ((List.eraseIdx_sublist _ _).subset ha)) fun _ => ?_, ((List.eraseIdx_sublist _ _).map key).nodup h2⟩
        have q := erase_key h2 (List.getElem?_eq_getElem k1) ha
        have q2 := k2 k1
        unfold isW at q2 ⊢
        simp only [Bool.and_eq_true, beq_iff_eq] at q2
        unfold key at q
        cases e : (a.fl == tkF x && a.wy == tkW x)
        · rfl
        · simp only [Bool.and_eq_true, beq_iff_eq] at e
          exact absurd (by rw [e.1, e.2, q2.1, q2.2]) q
/-- What GroupGives asks, behind a tick. -/
theorem tick_gives {c : CfgV} {n T : Nat} {G : GrV} (hi : GI c n T G) (h : GG G) : GG (tickG G) ∧ ((∃ x ∈ (tickG G).cars, free x) → ∀ a ∈ (tickG G).waits, a.ca ≠ -1) := by
  have hc : ∀ x ∈ G.cars, SafeX G.c T x := by rw [hi.1]; exact hi.2.2.1
  obtain ⟨a1, a2, a3, a4⟩ := asg_held hc hi.2.2.2.1 h.1 G.waits.length
  have hs := asg_safe (ws := G.waits) hc G.waits.length
  refine ⟨tk_held hs a1 (by rw [a2]; exact h.2) G.cars.length, ?_⟩
  rintro ⟨x, hx, hf⟩ a ha
  have ha2 := (tkN_sub G.c (asgN G.c G.waits G.cars G.waits.length).2 (asgN G.c G.waits G.cars G.waits.length).1 G.cars.length).subset ha
  obtain ⟨j, hj, rfl⟩ := List.mem_iff_getElem.1 ha2
  refine a4 j _ (by rw [(asg_len G.c G.waits G.cars G.waits.length).1] at hj; exact hj) (List.getElem?_eq_getElem hj) ?_
  obtain ⟨k, hk, rfl⟩ := List.mem_iff_getElem.1 hx
  have hk2 : k < G.cars.length := by rw [← tick_len G]; exact hk
  obtain ⟨y, _, g2, g3⟩ := tick_at (List.getElem?_eq_getElem hk2)
  have e : (tickG G).cars[k] = tkV G.c y := Option.some.inj ((List.getElem?_eq_getElem hk).symm.trans g3)
  rw [e] at hf
  exact ⟨_, List.getElem_mem hk2, g2.free.1 (tk_free.1 hf)⟩
end Go.Proofs.Ytpacieocmogjeaa.Gr
namespace Go.Proofs.Ytpacieocmogjeaa.Gr
set_option linter.unusedVariables false
set_option linter.unusedSimpArgs false
open Go.RowKit Go.Proofs.Ytpacieocmogjeaa.Ba Go.Proofs.Ytpacieocmogjeaa.Mem Go.Proofs.Ytpacieocmogjeaa.Ty Go.Proofs.Ytpacieocmogjeaa.Mo Go.Proofs.Ytpacieocmogjeaa.St Go.Proofs.Ytpacieocmogjeaa.Sc Go.Proofs.Ytpacieocmogjeaa.Pl
open Go.Proofs.Ytpacieocmogjeaa.Ct (cfgA carA m1 dwV bdX tkV tkF tkW tkS tickT)
open Go.Proofs.Ytpacieocmogjeaa.Go16 (OpV opC)
set_option maxRecDepth 100000
attribute [local irreducible] Go.wpList
def cG : CfgV := ⟨2, 5, 0, 0, 2, 3, 0, 0, 0, 0, 0, 300, 0, 0, 0, 0, 0, 0⟩
def gA1 : GrV := (hallR (newG cG) 0 1).1
def gA2 : GrV := (hallR gA1 4 1).1
def gA3 : GrV := tickG gA2
theorem a1 : hallR (newG cG) 0 1 = (gA1, 0) := Prod.ext rfl (by decide +kernel)
theorem a2 : hallR gA1 4 1 = (gA2, 1) := Prod.ext rfl (by decide +kernel)
theorem a3 : (tickP gA2).2.2 = [⟨0, 1, 0, 0⟩] ∧ gA3.cars.length = 2 ∧ gA3.now = 1 ∧ gA3.waits.length = 0 ∧ gA1.waits.length = 1 ∧ gA2.waits.length = 1 := by decide +kernel
theorem gi2 : GI cG 2 0 gA2 := by
  have h1 := (GI.zero cG).do_ 1 0 1 false
  have h2 := h1.do_ 1 4 1 false
  exact h2
theorem gi_hyps {c : CfgV} {n T : Nat} {G : GrV} (h : GI c n T G) (hn : n ≤ 10000) (hT : T ≤ 1000000) : (G.cars.length ≤ 10000 ∧ G.waits.length ≤ 10000 ∧ 0 < G.cars.length ∧ G.cars.length ≤ 8) ∧ (∀ x ∈ G.cars, okT x) ∧ (∀ a ∈ G.waits, okW a) ∧ ∀ x ∈ G.cars, R x.sp ∧ R x.su ∧ R x.sd := by
  have hb := ncars_bd c
  have h2 := h.2.1
  have h5 := h.2.2.2.2
  exact ⟨by omega, fun x hx => (h.2.2.1 x hx).ok hT, h.2.2.2.1, fun x hx => (h.2.2.1 x hx).2.1⟩
theorem hallV (lo q : Nat) (G G2 : GrV) (S : List Nat) (f wy r : Int) (w : World) (hg : GO lo q G S w) (hl : G.waits.length ≤ 10000) (e : hallR G f wy = (G2, r)) : Calls Try.prog 24 #[.pointer (some ⟨q, 0, none⟩), .int .i64 f, .int .i64 wy] w fun e w' => e = .returned (.int .i64 r) ∧ ∃ S', GO lo q G2 S' w' ∧ Upd S w w' ∧ ∀ g ∈ S', g ∈ S ∨ w.heap.size ≤ g := by
  have h := hallG hg hl f wy
  rw [e] at h
  exact h
theorem tickS (lo q : Nat) (G : GrV) (S : List Nat) (c : CfgV) (n T : Nat) (w : World) (hg : GO lo q G S w) (hi : GI c n T G) (hn : n ≤ 10000) (hT : T ≤ 1000000) : Calls Try.prog 18 #[.pointer (some ⟨q, 0, none⟩)] w fun e w' => ∃ S' A3 c3, e = .returned (.slice A3 (tickP G).2.2.length c3) ∧ GO lo q (tickG G) S' w' ∧ w'.ownsRow w.heap.size 55 4 (.slice A3 (tickP G).2.2.length c3) (tickP G).2.2.length (rowsOf waitL (tickP G).2.2) ∧ Upd S w w' ∧ ∀ g ∈ S', g ∈ S ∨ w.heap.size ≤ g := by
  have h := gi_hyps hi hn hT
  exact tickT' lo q G S w hg h.1.1 h.1.2.1 h.2.1 h.2.2.1 h.1.2.2.1
set_option maxHeartbeats 4000000 in
theorem configG (w : World) : Calls Try.prog 23 #[] w fun e w' => e = .returned (.agg (cfgA cG)) ∧ Since w w' := by
 go_enter Try.func23, Try.ntmps23
 go_upto_region 1 with fail
 obtain ⟨w1, hw1⟩ : ∃ w1, w1 = (w.alloc (.cells #[.int .i64 0, .int .i64 0, .int .i64 0, .int .i64 0, .int .i64 0, .int .i64 0, .int .i64 0, .int .i64 0, .int .i64 0, .int .i64 0, .int .i64 0, .int .i64 0, .int .i64 0, .int .i64 0, .int .i64 0, .int .i64 0, .int .i64 0, .int .i64 0] 23)) := ⟨_, rfl⟩
 rw [← hw1]
 have HBC1 := Lib.hid (show Blk w1 (w.heap.size) 23 #[.int .i64 0, .int .i64 0, .int .i64 0, .int .i64 0, .int .i64 0, .int .i64 0, .int .i64 0, .int .i64 0, .int .i64 0, .int .i64 0, .int .i64 0, .int .i64 0, .int .i64 0, .int .i64 0, .int .i64 0, .int .i64 0, .int .i64 0, .int .i64 0] by rw [hw1]; exact Blk.at_ (by (try simp only [size_alloc])) _ _)
 have HS1 := Lib.hid (show Since w w1 by rw [hw1]; exact Since.alloc (Since.refl w) _)
 have hNE : w.heap.size ≤ w.heap.size := by omega
 have HNE := Lib.hid hNE
 clear hNE hw1
 have HNE3 := Lib.hid (show w.heap.size ≤ w.heap.size from HNE.out)
 clear HNE
 refine wp_region_lit ?_
 refine wpList_q (by rfl) (.agg (cfgA cG)) ?he ?_
 case he => kernel_rfl
 (try simp only [Act.put, sA, sB, sC])
 refine wpList_wp (by rfl) (fun K hK => ?_)
 refine wp_st_row 23 _ _ rfl (cfgA cG) rfl rfl (HasRow.of HBC1.out rfl) rfl (by simp [cfgA, carA, waitA, grpA, opA, Value.oneCell']) (by kernel_rfl) ?_
 intro w2 hw
 refine hK.out _ _ ?_
 clear hK K
 (try simp only [Act.put, sA, sB, sC])
 have HS2 := Lib.hid (show Since w w2 by rw [hw]; exact Since.setRow HS1.out (by have := HNE3.out; omega) _)
 have HBC2 := Lib.hid (show Blk w2 w.heap.size 23 (cfgA cG) by rw [hw]; exact Blk.row HBC1.out _)
 clear hw HS1 HBC1
 refine wpList_nil ?_
 (try go_wp2_with fail)
 exact bodyPost_ret (results_cell_row rfl _ _ w.heap.size 23 (cfgA cG) (0, 0) _ rfl HBC2.out Try.underlying23 rfl (by kernel_rfl)) rfl ⟨rfl, HS2.out⟩
theorem carsA (lo q : Nat) (S : List Nat) (w : World) (hg : GO lo q gA3 S w) : Calls Try.prog 17 #[.pointer (some ⟨q, 0, none⟩)] w fun e w' => ∃ A' c', e = .returned (.slice A' 2 c') ∧ Since w w' := by
  have h := carsT lo q gA3 S w hg (by rw [a3.2.1]; decide)
  rw [a3.2.1] at h
  exact h.mono (fun e w' ⟨A', c', h1, _, h2⟩ => ⟨A', c', h1, h2⟩)
theorem waitsA (lo q : Nat) (S : List Nat) (w : World) (hg : GO lo q gA3 S w) : Calls Try.prog 21 #[.pointer (some ⟨q, 0, none⟩)] w fun e w' => ∃ A' c', e = .returned (.slice A' 0 c') ∧ Since w w' := by
  have h := waitsT lo q gA3 S w hg (by rw [a3.2.2.2.1]; decide)
  rw [a3.2.2.2.1] at h
  exact h.mono (fun e w' ⟨A', c', h1, _, h2⟩ => ⟨A', c', h1, h2⟩)
theorem nowA (lo q : Nat) (S : List Nat) (w : World) (hg : GO lo q gA3 S w) : Calls Try.prog 25 #[.pointer (some ⟨q, 0, none⟩)] w fun e w' => e = .returned (.int .i64 1) ∧ w = w' := by
  have h := nowT lo q gA3 S w hg
  rw [a3.2.2.1] at h
  exact h
set_option maxHeartbeats 4000000 in
theorem ansG (w : World) : Calls Try.prog 20 #[] w fun e w' => e = .returned (.bool true) ∧ Since w w' := by
 have HA3 := Lib.hid a3
 go_enter Try.func20, Try.ntmps20
 go_upto_region 1 with fail
 have HS1 := Lib.hid (Since.refl w)
 refine wp_region_lit ?_
 refine wpList_wp (by rfl) (fun K hK => ?_)
 (try go_simp)
 refine (configG _).mono ?_
 rintro e w2 ⟨rfl, hb⟩
 (try go_wp2_with fail)
 refine hK.out _ _ ?_
 clear hK K
 (try simp only [Act.put, sA, sB, sC])
 have HS2 := Lib.hid (Since.trans HS1.out hb)
 clear HS1 
 clear hb
 refine wpList_wp (by rfl) (fun K hK => ?_)
 (try go_simp)
 refine (newT cG _).mono ?_
 rintro e w3 ⟨q1, S1, rfl, hobj, hb⟩
 (try go_wp2_with fail)
 refine hK.out _ _ ?_
 clear hK K
 (try simp only [Act.put, sA, sB, sC])
 have HGq := Lib.hid (hobj.base (Since.size HS2.out)); clear hobj
 have HS3 := Lib.hid (Since.trans HS2.out hb)
 clear HS2 
 clear hb
 refine tkL (.pointer (some ⟨q1, 0, none⟩)) (h := ?_)
 (try simp only [Act.put, sA, sB, sC])
 refine wpList_nil ?_
 go_upto_region 2 with fail
 refine wp_region_lit ?_
 refine tkL (.pointer (some ⟨q1, 0, none⟩)) (h := ?_)
 (try simp only [Act.put, sA, sB, sC])
 refine wpList_wp (by rfl) (fun K hK => ?_)
 (try go_simp)
 refine (hallV w.heap.size q1 (newG cG) gA1 S1 0 1 0 _ HGq.out (by decide) a1).mono ?_
 rintro e w4 ⟨rfl, Sq_1, hobj, hupd, hfar⟩
 (try go_wp2_with fail)
 refine hK.out _ _ ?_
 clear hK K
 (try simp only [Act.put, sA, sB, sC])
 have HS4 := Lib.hid (Since.upd HS3.out hupd (GO.low HGq.out))
 have HFq4 := Lib.hid hobj
 clear hupd hobj hfar HS3 HGq
 refine tkL (.pointer (some ⟨q1, 0, none⟩)) (h := ?_)
 (try simp only [Act.put, sA, sB, sC])
 refine wpList_wp (by rfl) (fun K hK => ?_)
 (try go_simp)
 refine (hallV w.heap.size q1 gA1 gA2 Sq_1 4 1 1 _ HFq4.out (by rw [HA3.out.2.2.2.2.1]; decide) a2).mono ?_
 rintro e w5 ⟨rfl, Sq_2, hobj, hupd, hfar⟩
 (try go_wp2_with fail)
 refine hK.out _ _ ?_
 clear hK K
 (try simp only [Act.put, sA, sB, sC])
 have HS5 := Lib.hid (Since.upd HS4.out hupd (GO.low HFq4.out))
 have HFq5 := Lib.hid hobj
 clear hupd hobj hfar HS4 HFq4
 refine tkL (.int .i64 0) (h := ?_)
 (try simp only [Act.put, sA, sB, sC])
 refine tkL (.int .i64 1) (h := ?_)
 (try simp only [Act.put, sA, sB, sC])
 refine wpList_nil ?_
 go_upto_region 3 with fail
 refine wp_region_lit ?_
 refine tkL (.pointer (some ⟨q1, 0, none⟩)) (h := ?_)
 (try simp only [Act.put, sA, sB, sC])
 refine wpList_wp (by rfl) (fun K hK => ?_)
 (try go_simp)
 refine (tickS w.heap.size q1 gA2 Sq_2 cG 2 0 _ HFq5.out gi2 (by decide) (by decide)).mono ?_
 rintro e w9 ⟨S9, A9, c9, rfl, hobj, hown, hupd, hfar⟩
 rw [HA3.out.1] at hown ⊢
 (try go_wp2_with fail)
 refine hK.out _ _ ?_
 clear hK K
 (try simp only [Act.put, sA, sB, sC])
 have HR9 := Lib.hid (own_base hown (Since.size HS5.out)); clear hown
 have HS9 := Lib.hid (Since.upd HS5.out hupd (GO.low HFq5.out))
 have HFq9 := Lib.hid hobj
 clear hupd hobj hfar HS5 HFq5
 obtain ⟨g9, hg9⟩ := own_addr HR9.out (by decide)
 subst hg9
 refine tkL (.slice (some ⟨g9, 0, none⟩) 1 c9) (h := ?_)
 (try simp only [Act.put, sA, sB, sC])
 refine wpList_nil ?_
 go_upto_region 4 with fail
 refine wp_region_lit ?_
 refine tkL (.int .i64 0) (h := ?_)
 (try simp only [Act.put, sA, sB, sC])
 refine wpList_q (by rfl) (.bool true) ?he ?_
 case he => (go_simp; (try with_reducible rfl))
 (try simp only [Act.put, sA, sB, sC])
 refine tkL (.bool true) (h := ?_)
 (try simp only [Act.put, sA, sB, sC])
 refine tkL (.int .i64 1) (h := ?_)
 (try simp only [Act.put, sA, sB, sC])
 refine wpList_q (by rfl) (.bool true) ?he ?_
 case he => (go_simp; (try with_reducible rfl))
 (try simp only [Act.put, sA, sB, sC])
 refine tkL (.bool true) (h := ?_)
 (try simp only [Act.put, sA, sB, sC])
 refine tkL (.bool true) (h := ?_)
 (try simp only [Act.put, sA, sB, sC])
 refine tkL (.slice (some ⟨g9, 0, none⟩) 1 c9) (h := ?_)
 (try simp only [Act.put, sA, sB, sC])
 refine tkL (.int .i64 1) (h := ?_)
 (try simp only [Act.put, sA, sB, sC])
 refine wpList_q (by rfl) (.bool true) ?he ?_
 case he => (go_simp; (try with_reducible rfl))
 (try simp only [Act.put, sA, sB, sC])
 refine tkL (.bool true) (h := ?_)
 (try simp only [Act.put, sA, sB, sC])
 refine tkL (.bool true) (h := ?_)
 (try simp only [Act.put, sA, sB, sC])
 refine tkL (.slice (some ⟨g9, 0, none⟩) 1 c9) (h := ?_)
 (try simp only [Act.put, sA, sB, sC])
 refine wpList_q (by rfl) (.pointer (some ⟨g9, 0, none⟩)) ?he ?_
 case he => exact exec_index (i := 0) (s := 4) 50 55 _ _ rfl rfl rfl rfl (by decide) Try.underlying50 (by kernel_rfl)
 (try simp only [Act.put, sA, sB, sC])
 refine tkL (.pointer (some ⟨g9, 0, none⟩)) (h := ?_)
 (try simp only [Act.put, sA, sB, sC])
 refine wpList_q (by rfl) (.agg #[.int .i64 0, .int .i64 1]) ?he ?_
 case he => exact exec_rng (l := [.int .i64 0, .int .i64 1]) 32 _ _ (fun j v hj => by have q := row_S (i := 0) (a := (⟨0, 1, 0, 0⟩ : WaitV)) waitL_len HR9.out rfl j v (by rcases j with _ | _ | j; exact hj; exact hj; simp at hj); simpa using q) rfl rfl Try.underlying32 rfl (by kernel_rfl)
 (try simp only [Act.put, sA, sB, sC])
 refine wpList_q (by rfl) (.agg #[.int .i64 0, .int .i64 1]) ?he ?_
 case he => kernel_rfl
 (try simp only [Act.put, sA, sB, sC])
 refine wpList_q (by rfl) (.bool true) ?he ?_
 case he => (go_simp; (try with_reducible rfl))
 (try simp only [Act.put, sA, sB, sC])
 refine tkL (.bool true) (h := ?_)
 (try simp only [Act.put, sA, sB, sC])
 refine tkL (.bool true) (h := ?_)
 (try simp only [Act.put, sA, sB, sC])
 refine tkL (.pointer (some ⟨q1, 0, none⟩)) (h := ?_)
 (try simp only [Act.put, sA, sB, sC])
 refine wpList_wp (by rfl) (fun K hK => ?_)
 (try go_simp)
 refine (carsA w.heap.size q1 S9 _ HFq9.out).mono ?_
 rintro e w6 ⟨Aa, ca, rfl, hb⟩
 (try go_wp2_with fail)
 refine hK.out _ _ ?_
 clear hK K
 (try simp only [Act.put, sA, sB, sC])
 have HS6 := Lib.hid (Since.trans HS9.out hb)
 have HFq6 := Lib.hid (GO.keep hb HFq9.out)
 have HFv6 := Lib.hid (keep_own hb HR9.out)
 clear HS9 HFq9 HR9
 clear hb
 refine tkL (.int .i64 2) (h := ?_)
 (try simp only [Act.put, sA, sB, sC])
 refine wpList_q (by rfl) (.bool true) ?he ?_
 case he => (go_simp; (try with_reducible rfl))
 (try simp only [Act.put, sA, sB, sC])
 refine tkL (.bool true) (h := ?_)
 (try simp only [Act.put, sA, sB, sC])
 refine tkL (.bool true) (h := ?_)
 (try simp only [Act.put, sA, sB, sC])
 refine tkL (.pointer (some ⟨q1, 0, none⟩)) (h := ?_)
 (try simp only [Act.put, sA, sB, sC])
 refine wpList_wp (by rfl) (fun K hK => ?_)
 (try go_simp)
 refine (nowA w.heap.size q1 S9 _ HFq6.out).mono ?_
 rintro e w' ⟨rfl, rfl⟩
 (try go_wp2_with fail)
 refine hK.out _ _ ?_
 clear hK K
 (try simp only [Act.put, sA, sB, sC])
 refine wpList_q (by rfl) (.bool true) ?he ?_
 case he => (go_simp; (try with_reducible rfl))
 (try simp only [Act.put, sA, sB, sC])
 refine tkL (.bool true) (h := ?_)
 (try simp only [Act.put, sA, sB, sC])
 refine tkL (.bool true) (h := ?_)
 (try simp only [Act.put, sA, sB, sC])
 refine tkL (.pointer (some ⟨q1, 0, none⟩)) (h := ?_)
 (try simp only [Act.put, sA, sB, sC])
 refine wpList_wp (by rfl) (fun K hK => ?_)
 (try go_simp)
 refine (waitsA w.heap.size q1 S9 _ HFq6.out).mono ?_
 rintro e w7 ⟨Ab, cb, rfl, hb⟩
 (try go_wp2_with fail)
 refine hK.out _ _ ?_
 clear hK K
 (try simp only [Act.put, sA, sB, sC])
 have HS7 := Lib.hid (Since.trans HS6.out hb)
 have HFq7 := Lib.hid (GO.keep hb HFq6.out)
 have HFv7 := Lib.hid (keep_own hb HFv6.out)
 clear HS6 HFq6 HFv6
 clear hb
 refine tkL (.int .i64 0) (h := ?_)
 (try simp only [Act.put, sA, sB, sC])
 refine wpList_q (by rfl) (.bool true) ?he ?_
 case he => (go_simp; (try with_reducible rfl))
 (try simp only [Act.put, sA, sB, sC])
 refine tkL (.bool true) (h := ?_)
 (try simp only [Act.put, sA, sB, sC])
 refine tkL (.bool true) (h := ?_)
 (try simp only [Act.put, sA, sB, sC])
 refine wpList_nil ?_
 (try go_wp2_with fail)
 go_ret
 exact ⟨rfl, HS7.out⟩
end Go.Proofs.Ytpacieocmogjeaa.Gr
