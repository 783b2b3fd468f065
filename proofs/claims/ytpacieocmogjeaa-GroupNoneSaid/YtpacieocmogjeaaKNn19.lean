/-
  Whatever comes in: GroupNone answers true.
  No condition.
-/
import Derived.Test.YtpacieocmogjeaaKNn16
import Derived.Test.YtpacieocmogjeaaProg
import Derived.Test.YtpacieocmogjeaaKNn0
import Derived.Test.YtpacieocmogjeaaKNn18
import Derived.Test.YtpacieocmogjeaaRows
import Derived.WalkKit
import Derived.ProofKit
import Derived.OpenShut
import Derived.Lib.Hide
import Derived.ShutString
import Derived.ChangeOld
import Derived.Below
import Derived.SizedLaws
namespace Go.Proofs.Ytpacieocmogjeaa.Gr
set_option linter.unusedVariables false
set_option linter.unusedSimpArgs false
open Go.RowKit Go.Proofs.Ytpacieocmogjeaa.Ba Go.Proofs.Ytpacieocmogjeaa.Mem Go.Proofs.Ytpacieocmogjeaa.Ty Go.Proofs.Ytpacieocmogjeaa.Mo Go.Proofs.Ytpacieocmogjeaa.St Go.Proofs.Ytpacieocmogjeaa.Pl Go.Proofs.Ytpacieocmogjeaa.Sc
open Go.Proofs.Ytpacieocmogjeaa.Ct (cfgA carA dwV bdX tkV tkF tkW tkS tkX goX goS goF goW svX ldX stX nW nO tk_same)
open Go.Proofs.Ytpacieocmogjeaa.Et (bl bl_inv)
/-- A car that takes calls; one that has a call among its stops. -/
def free (x : CarV) : Prop := x.mo = 0 ∧ x.br = false
def hasW (x : CarV) (a : WaitV) : Prop := atB x.su x.sd a.fl a.wy = true
def held (cs : List CarV) (a : WaitV) : Prop := a.ca = -1 ∨ ∃ (k : Nat) (x : CarV), a.ca = (k : Int) ∧ cs[k]? = some x ∧ free x ∧ hasW x a
def key (a : WaitV) : Int × Int := (a.fl, a.wy)
def GG (G : GrV) : Prop := (∀ a ∈ G.waits, held G.cars a) ∧ (G.waits.map key).Nodup
theorem held.mono {cs cs' : List CarV} {a : WaitV} (h : held cs a) (hk : ∀ (k : Nat) (x : CarV), a.ca = (k : Int) → cs[k]? = some x → free x → hasW x a → ∃ y, cs'[k]? = some y ∧ free y ∧ hasW y a) : held cs' a := by
  rcases h with h | ⟨k, x, h1, h2, h3, h4⟩
  · exact .inl h
  · obtain ⟨y, g1, g2, g3⟩ := hk k x h1 h2 h3 h4
    exact .inr ⟨k, y, h1, g1, g2, g3⟩
theorem mem_in {x g : Int} (h : mem x g = true) : (0 ≤ g ∧ g < 64) ∧ tb x g.toNat = true := by
  unfold mem at h
  simp only [Bool.and_eq_true, decide_eq_true_eq] at h
  exact h
theorem at_iff {u d f w : Int} : atB u d f w = true ↔ (w = 1 ∧ mem u f = true) ∨ (w = 2 ∧ mem d f = true) := by
  unfold atB; simp
theorem up_nn (x : Int) : ∀ k, 0 ≤ up x k
  | 0 => Int.le_refl _
  | k + 1 => by have := up_nn x k; unfold up; split <;> omega
theorem up_pos (x : Int) (i : Nat) (h : tb x i = true) : ∀ k, i < k → 1 ≤ up x k
  | 0, hk => by omega
  | k + 1, hk => by
    have h0 := up_nn x k
    unfold up
    by_cases e : i = k
    · subst e; rw [if_pos h]; omega
    · have := up_pos x i h k (by omega)
      split <;> omega
theorem cn_none {x f : Int} (hx : R x) (h : cn x = 0) : mem x f = false := by
  cases e : mem x f
  · rfl
  · obtain ⟨h0, h1⟩ := mem_in e
    have := up_pos x _ h1 64 (by omega)
    rw [up_cn x hx] at this
    omega
/-- One that is idle has no call. -/
theorem idle_no {x : CarV} {a : WaitV} (hr : R x.sp ∧ R x.su ∧ R x.sd) (hi : idB x = true) : ¬ hasW x a := by
  intro h
  have hi := (of_decide_eq_true (show decide _ = true from hi)).2.2.2.2.2
  have h1 := cn_lo x.sp; have h2 := cn_lo x.su; have h3 := cn_lo x.sd
  rcases at_iff.1 h with ⟨_, h⟩ | ⟨_, h⟩
  · rw [cn_none hr.2.1 (by omega)] at h; cases h
  · rw [cn_none hr.2.2 (by omega)] at h; cases h
theorem Near.free {x y : CarV} (h : Near x y) : free y ↔ free x := by
  unfold Near at h
  rw [h]; rfl
section
variable {G : GrV} {i : Int} {f : CarV → CarV × Int}
theorem GG.one (h : GG G) (hf : ∀ x ∈ G.cars, ∀ a, free x → hasW x a → free (f x).1 ∧ hasW (f x).1 a) : GG (one G i f).1 := by
  have e := one_same (G := G) (i := i) (f := f)
  refine ⟨fun a ha => ?_, by rw [e.2.1]; exact h.2⟩
  rw [e.2.1] at ha
  refine (h.1 a ha).mono fun k x _ hx h1 h2 => ⟨_, one_at hx, ?_⟩
  split
  · exact hf x (List.mem_of_getElem? hx) a h1 h2
  · exact ⟨h1, h2⟩
end
theorem GG.do_ {c : CfgV} {n T : Nat} {G : GrV} (hi : GI c n T G) (h : GG G) (k a b : Int) (y : Bool) : GG (doR G k a b y).1 := by
  unfold doR
  split
  · unfold hallR
    split
    · split
      · rename_i hn
        refine ⟨fun z hz => ?_, ?_⟩
        · rcases List.mem_append.1 hz with hz | hz
          · exact h.1 z hz
          · rw [List.mem_singleton.1 hz]; exact .inl rfl
        · show ((G.waits ++ [(⟨a, b, -1, G.now⟩ : WaitV)]).map key).Nodup
          rw [List.map_append, List.nodup_append]
          refine ⟨h.2, by simp, fun p hp q hq e => ?_⟩
          obtain ⟨z, hz, rfl⟩ := List.mem_map.1 hp
          have e2 : q = (a, b) := by simpa [key] using hq
          obtain ⟨j, hj, rfl⟩ := List.mem_iff_getElem.1 hz
          have q2 := atP_none hn j hj
          rw [e2] at e
          unfold key at e
          injection e with e3 e4
          unfold isW at q2
          simp [e3, e4] at q2
      · exact h
    · exact h
  split
  · unfold pressR; split
    · refine h.one fun x _ z h1 h2 => ?_
      unfold pressX; split
      · exact ⟨h1, h2⟩
      · exact ⟨h1, h2⟩
    · exact h
  split
  · exact h.one fun x _ z h1 h2 => ⟨h1, h2⟩
  split
  · exact h.one fun x _ z h1 h2 => ⟨h1, h2⟩
  split
  · unfold faultR
    split
    · split
      · refine ⟨fun z hz => ?_, ?_⟩
        · obtain ⟨u, hu, rfl⟩ := List.mem_map.1 hz
          unfold disW
          by_cases e : u.ca = a
          · rw [if_pos e]; exact .inl rfl
          · rw [if_neg e]
            refine (h.1 u hu).mono fun j x e2 hx h1 h2 => ⟨x, ?_, h1, h2⟩
            have q := one_at (i := a) (f := fun x => (fltX x, 0)) hx
            rw [if_neg (by omega)] at q
            exact q
        · show ((G.waits.map (disW a)).map key).Nodup
          rw [List.map_map, show key ∘ disW a = key from funext fun u => by show key (disW a u) = key u; unfold disW; split <;> rfl]
          exact h.2
      · exact h
    · exact h.one fun x _ z h1 h2 => ⟨⟨h1.1, rfl⟩, h2⟩
  split
  · unfold takeR; split
    · refine h.one fun x hx z h1 h2 => ?_
      by_cases hb : idB x = true
      · exact absurd h2 (idle_no (hi.2.2.1 x hx).2.1 hb)
      · rw [if_neg hb]; exact ⟨h1, h2⟩
    · exact h
  split
  · unfold aimR; split
    · refine h.one fun x _ z h1 h2 => ?_
      rw [if_neg (by rw [h1.1]; decide)]; exact ⟨h1, h2⟩
    · exact h
  split
  · unfold giveR
    refine h.one fun x _ z h1 h2 => ?_
    rw [if_neg (by rw [h1.1]; decide)]; exact ⟨h1, h2⟩
  · exact h
end Go.Proofs.Ytpacieocmogjeaa.Gr
namespace Go.Proofs.Ytpacieocmogjeaa.Gr
set_option linter.unusedVariables false
set_option linter.unusedSimpArgs false
open Go.RowKit Go.Proofs.Ytpacieocmogjeaa.Ba Go.Proofs.Ytpacieocmogjeaa.Mem Go.Proofs.Ytpacieocmogjeaa.Ty Go.Proofs.Ytpacieocmogjeaa.Mo Go.Proofs.Ytpacieocmogjeaa.St Go.Proofs.Ytpacieocmogjeaa.Sc Go.Proofs.Ytpacieocmogjeaa.Pl
open Go.Proofs.Ytpacieocmogjeaa.Ct (cfgA carA m1 dwV bdX tkV tkF tkW tkS tickT)
open Go.Proofs.Ytpacieocmogjeaa.Go16 (OpV opC)
set_option maxRecDepth 100000
attribute [local irreducible] Go.wpList
def cG : CfgV := ⟨2, 5, 0, 0, 2, 3, 0, 0, 0, 0, 0, 300, 0, 0, 0, 0, 0, 0⟩
def gA1 : GrV := (hallR (newG cG) 0 1).1
def gA2 : GrV := (hallR gA1 4 1).1
def gA3 : GrV := tickG gA2
theorem a1 : hallR (newG cG) 0 1 = (gA1, 0) := Prod.ext rfl (by decide +kernel)
theorem a2 : hallR gA1 4 1 = (gA2, 1) := Prod.ext rfl (by decide +kernel)
theorem a3 : (tickP gA2).2.2 = [⟨0, 1, 0, 0⟩] ∧ gA3.cars.length = 2 ∧ gA3.now = 1 ∧ gA3.waits.length = 0 ∧ gA1.waits.length = 1 ∧ gA2.waits.length = 1 := by decide +kernel
theorem gi2 : GI cG 2 0 gA2 := by
  have h1 := (GI.zero cG).do_ 1 0 1 false
  have h2 := h1.do_ 1 4 1 false
  exact h2
theorem gi_hyps {c : CfgV} {n T : Nat} {G : GrV} (h : GI c n T G) (hn : n ≤ 10000) (hT : T ≤ 1000000) : (G.cars.length ≤ 10000 ∧ G.waits.length ≤ 10000 ∧ 0 < G.cars.length ∧ G.cars.length ≤ 8) ∧ (∀ x ∈ G.cars, okT x) ∧ (∀ a ∈ G.waits, okW a) ∧ ∀ x ∈ G.cars, R x.sp ∧ R x.su ∧ R x.sd := by
  have hb := ncars_bd c
  have h2 := h.2.1
  have h5 := h.2.2.2.2
  exact ⟨by omega, fun x hx => (h.2.2.1 x hx).ok hT, h.2.2.2.1, fun x hx => (h.2.2.1 x hx).2.1⟩
theorem hallV (lo q : Nat) (G G2 : GrV) (S : List Nat) (f wy r : Int) (w : World) (hg : GO lo q G S w) (hl : G.waits.length ≤ 10000) (e : hallR G f wy = (G2, r)) : Calls Try.prog 24 #[.pointer (some ⟨q, 0, none⟩), .int .i64 f, .int .i64 wy] w fun e w' => e = .returned (.int .i64 r) ∧ ∃ S', GO lo q G2 S' w' ∧ Upd S w w' ∧ ∀ g ∈ S', g ∈ S ∨ w.heap.size ≤ g := by
  have h := hallG hg hl f wy
  rw [e] at h
  exact h
theorem tickS (lo q : Nat) (G : GrV) (S : List Nat) (c : CfgV) (n T : Nat) (w : World) (hg : GO lo q G S w) (hi : GI c n T G) (hn : n ≤ 10000) (hT : T ≤ 1000000) : Calls Try.prog 18 #[.pointer (some ⟨q, 0, none⟩)] w fun e w' => ∃ S' A3 c3, e = .returned (.slice A3 (tickP G).2.2.length c3) ∧ GO lo q (tickG G) S' w' ∧ w'.ownsRow w.heap.size 55 4 (.slice A3 (tickP G).2.2.length c3) (tickP G).2.2.length (rowsOf waitL (tickP G).2.2) ∧ Upd S w w' ∧ ∀ g ∈ S', g ∈ S ∨ w.heap.size ≤ g := by
  have h := gi_hyps hi hn hT
  exact tickT' lo q G S w hg h.1.1 h.1.2.1 h.2.1 h.2.2.1 h.1.2.2.1
set_option maxHeartbeats 4000000 in
theorem configG (w : World) : Calls Try.prog 23 #[] w fun e w' => e = .returned (.agg (cfgA cG)) ∧ Since w w' := by
 go_enter Try.func23, Try.ntmps23
 go_upto_region 1 with fail
 obtain ⟨w1, hw1⟩ : ∃ w1, w1 = (w.alloc (.cells #[.int .i64 0, .int .i64 0, .int .i64 0, .int .i64 0, .int .i64 0, .int .i64 0, .int .i64 0, .int .i64 0, .int .i64 0, .int .i64 0, .int .i64 0, .int .i64 0, .int .i64 0, .int .i64 0, .int .i64 0, .int .i64 0, .int .i64 0, .int .i64 0] 23)) := ⟨_, rfl⟩
 rw [← hw1]
 have HBC1 := Lib.hid (show Blk w1 (w.heap.size) 23 #[.int .i64 0, .int .i64 0, .int .i64 0, .int .i64 0, .int .i64 0, .int .i64 0, .int .i64 0, .int .i64 0, .int .i64 0, .int .i64 0, .int .i64 0, .int .i64 0, .int .i64 0, .int .i64 0, .int .i64 0, .int .i64 0, .int .i64 0, .int .i64 0] by rw [hw1]; exact Blk.at_ (by (try simp only [size_alloc])) _ _)
 have HS1 := Lib.hid (show Since w w1 by rw [hw1]; exact Since.alloc (Since.refl w) _)
 have hNE : w.heap.size ≤ w.heap.size := by omega
 have HNE := Lib.hid hNE
 clear hNE hw1
 have HNE3 := Lib.hid (show w.heap.size ≤ w.heap.size from HNE.out)
 clear HNE
 refine wp_region_lit ?_
 refine wpList_q (by rfl) (.agg (cfgA cG)) ?he ?_
 case he => kernel_rfl
 (try simp only [Act.put, sA, sB, sC])
 refine wpList_wp (by rfl) (fun K hK => ?_)
 refine wp_st_row 23 _ _ rfl (cfgA cG) rfl rfl (HasRow.of HBC1.out rfl) rfl (by simp [cfgA, carA, waitA, grpA, opA, Value.oneCell']) (by kernel_rfl) ?_
 intro w2 hw
 refine hK.out _ _ ?_
 clear hK K
 (try simp only [Act.put, sA, sB, sC])
 have HS2 := Lib.hid (show Since w w2 by rw [hw]; exact Since.setRow HS1.out (by have := HNE3.out; omega) _)
 have HBC2 := Lib.hid (show Blk w2 w.heap.size 23 (cfgA cG) by rw [hw]; exact Blk.row HBC1.out _)
 clear hw HS1 HBC1
 refine wpList_nil ?_
 (try go_wp2_with fail)
 exact bodyPost_ret (results_cell_row rfl _ _ w.heap.size 23 (cfgA cG) (0, 0) _ rfl HBC2.out Try.underlying23 rfl (by kernel_rfl)) rfl ⟨rfl, HS2.out⟩
theorem carsA (lo q : Nat) (S : List Nat) (w : World) (hg : GO lo q gA3 S w) : Calls Try.prog 17 #[.pointer (some ⟨q, 0, none⟩)] w fun e w' => ∃ A' c', e = .returned (.slice A' 2 c') ∧ Since w w' := by
  have h := carsT lo q gA3 S w hg (by rw [a3.2.1]; decide)
  rw [a3.2.1] at h
  exact h.mono (fun e w' ⟨A', c', h1, _, h2⟩ => ⟨A', c', h1, h2⟩)
theorem waitsA (lo q : Nat) (S : List Nat) (w : World) (hg : GO lo q gA3 S w) : Calls Try.prog 21 #[.pointer (some ⟨q, 0, none⟩)] w fun e w' => ∃ A' c', e = .returned (.slice A' 0 c') ∧ Since w w' := by
  have h := waitsT lo q gA3 S w hg (by rw [a3.2.2.2.1]; decide)
  rw [a3.2.2.2.1] at h
  exact h.mono (fun e w' ⟨A', c', h1, _, h2⟩ => ⟨A', c', h1, h2⟩)
theorem nowA (lo q : Nat) (S : List Nat) (w : World) (hg : GO lo q gA3 S w) : Calls Try.prog 25 #[.pointer (some ⟨q, 0, none⟩)] w fun e w' => e = .returned (.int .i64 1) ∧ w = w' := by
  have h := nowT lo q gA3 S w hg
  rw [a3.2.2.1] at h
  exact h
set_option maxHeartbeats 4000000 in
theorem ansG (w : World) : Calls Try.prog 20 #[] w fun e w' => e = .returned (.bool true) ∧ Since w w' := by
 have HA3 := Lib.hid a3
 go_enter Try.func20, Try.ntmps20
 go_upto_region 1 with fail
 have HS1 := Lib.hid (Since.refl w)
 refine wp_region_lit ?_
 refine wpList_wp (by rfl) (fun K hK => ?_)
 (try go_simp)
 refine (configG _).mono ?_
 rintro e w2 ⟨rfl, hb⟩
 (try go_wp2_with fail)
 refine hK.out _ _ ?_
 clear hK K
 (try simp only [Act.put, sA, sB, sC])
 have HS2 := Lib.hid (Since.trans HS1.out hb)
 clear HS1 
 clear hb
 refine wpList_wp (by rfl) (fun K hK => ?_)
 (try go_simp)
 refine (newT cG _).mono ?_
 rintro e w3 ⟨q1, S1, rfl, hobj, hb⟩
 (try go_wp2_with fail)
 refine hK.out _ _ ?_
 clear hK K
 (try simp only [Act.put, sA, sB, sC])
 have HGq := Lib.hid (hobj.base (Since.size HS2.out)); clear hobj
 have HS3 := Lib.hid (Since.trans HS2.out hb)
 clear HS2 
 clear hb
 refine tkL (.pointer (some ⟨q1, 0, none⟩)) (h := ?_)
 (try simp only [Act.put, sA, sB, sC])
 refine wpList_nil ?_
 go_upto_region 2 with fail
 refine wp_region_lit ?_
 refine tkL (.pointer (some ⟨q1, 0, none⟩)) (h := ?_)
 (try simp only [Act.put, sA, sB, sC])
 refine wpList_wp (by rfl) (fun K hK => ?_)
 (try go_simp)
 refine (hallV w.heap.size q1 (newG cG) gA1 S1 0 1 0 _ HGq.out (by decide) a1).mono ?_
 rintro e w4 ⟨rfl, Sq_1, hobj, hupd, hfar⟩
 (try go_wp2_with fail)
 refine hK.out _ _ ?_
 clear hK K
 (try simp only [Act.put, sA, sB, sC])
 have HS4 := Lib.hid (Since.upd HS3.out hupd (GO.low HGq.out))
 have HFq4 := Lib.hid hobj
 clear hupd hobj hfar HS3 HGq
 refine tkL (.pointer (some ⟨q1, 0, none⟩)) (h := ?_)
 (try simp only [Act.put, sA, sB, sC])
 refine wpList_wp (by rfl) (fun K hK => ?_)
 (try go_simp)
 refine (hallV w.heap.size q1 gA1 gA2 Sq_1 4 1 1 _ HFq4.out (by rw [HA3.out.2.2.2.2.1]; decide) a2).mono ?_
 rintro e w5 ⟨rfl, Sq_2, hobj, hupd, hfar⟩
 (try go_wp2_with fail)
 refine hK.out _ _ ?_
 clear hK K
 (try simp only [Act.put, sA, sB, sC])
 have HS5 := Lib.hid (Since.upd HS4.out hupd (GO.low HFq4.out))
 have HFq5 := Lib.hid hobj
 clear hupd hobj hfar HS4 HFq4
 refine tkL (.int .i64 0) (h := ?_)
 (try simp only [Act.put, sA, sB, sC])
 refine tkL (.int .i64 1) (h := ?_)
 (try simp only [Act.put, sA, sB, sC])
 refine wpList_nil ?_
 go_upto_region 3 with fail
 refine wp_region_lit ?_
 refine tkL (.pointer (some ⟨q1, 0, none⟩)) (h := ?_)
 (try simp only [Act.put, sA, sB, sC])
 refine wpList_wp (by rfl) (fun K hK => ?_)
 (try go_simp)
 refine (tickS w.heap.size q1 gA2 Sq_2 cG 2 0 _ HFq5.out gi2 (by decide) (by decide)).mono ?_
 rintro e w9 ⟨S9, A9, c9, rfl, hobj, hown, hupd, hfar⟩
 rw [HA3.out.1] at hown ⊢
 (try go_wp2_with fail)
 refine hK.out _ _ ?_
 clear hK K
 (try simp only [Act.put, sA, sB, sC])
 have HR9 := Lib.hid (own_base hown (Since.size HS5.out)); clear hown
 have HS9 := Lib.hid (Since.upd HS5.out hupd (GO.low HFq5.out))
 have HFq9 := Lib.hid hobj
 clear hupd hobj hfar HS5 HFq5
 obtain ⟨g9, hg9⟩ := own_addr HR9.out (by decide)
 subst hg9
 refine tkL (.slice (some ⟨g9, 0, none⟩) 1 c9) (h := ?_)
 (try simp only [Act.put, sA, sB, sC])
 refine wpList_nil ?_
 go_upto_region 4 with fail
 refine wp_region_lit ?_
 refine tkL (.int .i64 0) (h := ?_)
 (try simp only [Act.put, sA, sB, sC])
 refine wpList_q (by rfl) (.bool true) ?he ?_
 case he => (go_simp; (try with_reducible rfl))
 (try simp only [Act.put, sA, sB, sC])
 refine tkL (.bool true) (h := ?_)
 (try simp only [Act.put, sA, sB, sC])
 refine tkL (.int .i64 1) (h := ?_)
 (try simp only [Act.put, sA, sB, sC])
 refine wpList_q (by rfl) (.bool true) ?he ?_
 case he => (go_simp; (try with_reducible rfl))
 (try simp only [Act.put, sA, sB, sC])
 refine tkL (.bool true) (h := ?_)
 (try simp only [Act.put, sA, sB, sC])
 refine tkL (.bool true) (h := ?_)
 (try simp only [Act.put, sA, sB, sC])
 refine tkL (.slice (some ⟨g9, 0, none⟩) 1 c9) (h := ?_)
 (try simp only [Act.put, sA, sB, sC])
 refine tkL (.int .i64 1) (h := ?_)
 (try simp only [Act.put, sA, sB, sC])
 refine wpList_q (by rfl) (.bool true) ?he ?_
 case he => (go_simp; (try with_reducible rfl))
 (try simp only [Act.put, sA, sB, sC])
 refine tkL (.bool true) (h := ?_)
 (try simp only [Act.put, sA, sB, sC])
 refine tkL (.bool true) (h := ?_)
 (try simp only [Act.put, sA, sB, sC])
 refine tkL (.slice (some ⟨g9, 0, none⟩) 1 c9) (h := ?_)
 (try simp only [Act.put, sA, sB, sC])
 refine wpList_q (by rfl) (.pointer (some ⟨g9, 0, none⟩)) ?he ?_
 case he => exact exec_index (i := 0) (s := 4) 50 55 _ _ rfl rfl rfl rfl (by decide) Try.underlying50 (by kernel_rfl)
 (try simp only [Act.put, sA, sB, sC])
 refine tkL (.pointer (some ⟨g9, 0, none⟩)) (h := ?_)
 (try simp only [Act.put, sA, sB, sC])
 refine wpList_q (by rfl) (.agg #[.int .i64 0, .int .i64 1]) ?he ?_
 case he => exact exec_rng (l := [.int .i64 0, .int .i64 1]) 32 _ _ (fun j v hj => by have q := row_S (i := 0) (a := (⟨0, 1, 0, 0⟩ : WaitV)) waitL_len HR9.out rfl j v (by rcases j with _ | _ | j; exact hj; exact hj; simp at hj); simpa using q) rfl rfl Try.underlying32 rfl (by kernel_rfl)
 (try simp only [Act.put, sA, sB, sC])
 refine wpList_q (by rfl) (.agg #[.int .i64 0, .int .i64 1]) ?he ?_
 case he => kernel_rfl
 (try simp only [Act.put, sA, sB, sC])
 refine wpList_q (by rfl) (.bool true) ?he ?_
 case he => (go_simp; (try with_reducible rfl))
 (try simp only [Act.put, sA, sB, sC])
 refine tkL (.bool true) (h := ?_)
 (try simp only [Act.put, sA, sB, sC])
 refine tkL (.bool true) (h := ?_)
 (try simp only [Act.put, sA, sB, sC])
 refine tkL (.pointer (some ⟨q1, 0, none⟩)) (h := ?_)
 (try simp only [Act.put, sA, sB, sC])
 refine wpList_wp (by rfl) (fun K hK => ?_)
 (try go_simp)
 refine (carsA w.heap.size q1 S9 _ HFq9.out).mono ?_
 rintro e w6 ⟨Aa, ca, rfl, hb⟩
 (try go_wp2_with fail)
 refine hK.out _ _ ?_
 clear hK K
 (try simp only [Act.put, sA, sB, sC])
 have HS6 := Lib.hid (Since.trans HS9.out hb)
 have HFq6 := Lib.hid (GO.keep hb HFq9.out)
 have HFv6 := Lib.hid (keep_own hb HR9.out)
 clear HS9 HFq9 HR9
 clear hb
 refine tkL (.int .i64 2) (h := ?_)
 (try simp only [Act.put, sA, sB, sC])
 refine wpList_q (by rfl) (.bool true) ?he ?_
 case he => (go_simp; (try with_reducible rfl))
 (try simp only [Act.put, sA, sB, sC])
 refine tkL (.bool true) (h := ?_)
 (try simp only [Act.put, sA, sB, sC])
 refine tkL (.bool true) (h := ?_)
 (try simp only [Act.put, sA, sB, sC])
 refine tkL (.pointer (some ⟨q1, 0, none⟩)) (h := ?_)
 (try simp only [Act.put, sA, sB, sC])
 refine wpList_wp (by rfl) (fun K hK => ?_)
 (try go_simp)
 refine (nowA w.heap.size q1 S9 _ HFq6.out).mono ?_
 rintro e w' ⟨rfl, rfl⟩
 (try go_wp2_with fail)
 refine hK.out _ _ ?_
 clear hK K
 (try simp only [Act.put, sA, sB, sC])
 refine wpList_q (by rfl) (.bool true) ?he ?_
 case he => (go_simp; (try with_reducible rfl))
 (try simp only [Act.put, sA, sB, sC])
 refine tkL (.bool true) (h := ?_)
 (try simp only [Act.put, sA, sB, sC])
 refine tkL (.bool true) (h := ?_)
 (try simp only [Act.put, sA, sB, sC])
 refine tkL (.pointer (some ⟨q1, 0, none⟩)) (h := ?_)
 (try simp only [Act.put, sA, sB, sC])
 refine wpList_wp (by rfl) (fun K hK => ?_)
 (try go_simp)
 refine (waitsA w.heap.size q1 S9 _ HFq6.out).mono ?_
 rintro e w7 ⟨Ab, cb, rfl, hb⟩
 (try go_wp2_with fail)
 refine hK.out _ _ ?_
 clear hK K
 (try simp only [Act.put, sA, sB, sC])
 have HS7 := Lib.hid (Since.trans HS6.out hb)
 have HFq7 := Lib.hid (GO.keep hb HFq6.out)
 have HFv7 := Lib.hid (keep_own hb HFv6.out)
 clear HS6 HFq6 HFv6
 clear hb
 refine tkL (.int .i64 0) (h := ?_)
 (try simp only [Act.put, sA, sB, sC])
 refine wpList_q (by rfl) (.bool true) ?he ?_
 case he => (go_simp; (try with_reducible rfl))
 (try simp only [Act.put, sA, sB, sC])
 refine tkL (.bool true) (h := ?_)
 (try simp only [Act.put, sA, sB, sC])
 refine tkL (.bool true) (h := ?_)
 (try simp only [Act.put, sA, sB, sC])
 refine wpList_nil ?_
 (try go_wp2_with fail)
 go_ret
 exact ⟨rfl, HS7.out⟩
end Go.Proofs.Ytpacieocmogjeaa.Gr
namespace Go.Proofs.Ytpacieocmogjeaa.Gr
set_option linter.unusedVariables false
set_option linter.unusedSimpArgs false
open Go.RowKit Go.Proofs.Ytpacieocmogjeaa.Ba Go.Proofs.Ytpacieocmogjeaa.Mem Go.Proofs.Ytpacieocmogjeaa.Ty Go.Proofs.Ytpacieocmogjeaa.Mo Go.Proofs.Ytpacieocmogjeaa.St Go.Proofs.Ytpacieocmogjeaa.Sc Go.Proofs.Ytpacieocmogjeaa.Pl
open Go.Proofs.Ytpacieocmogjeaa.Ct (cfgA carA m1 dwV bdX tkV tkF tkW tkS tickT)
open Go.Proofs.Ytpacieocmogjeaa.Go16 (OpV opC OV)
set_option maxRecDepth 100000
attribute [local irreducible] Go.wpList
def wN : WaitV := ⟨3, 1, -1, 0⟩
def gN1 : GrV := { newG cG with waits := [wN] }
theorem n1 : hallR (newG cG) 3 1 = (gN1, 0) := by
  unfold hallR
  rw [if_pos (by decide +kernel), if_pos (by decide +kernel)]
  rfl
theorem n2 : gN1.cars.length = 2 ∧ gN1.waits.length = 1 := by decide +kernel
theorem n3 : gN1.cars[0]? = some zeroX := by kernel_rfl
theorem n4 : gN1.waits[0]? = some wN := rfl
theorem carsB (lo q : Nat) (S : List Nat) (w : World) (hg : GO lo q gN1 S w) : Calls Try.prog 17 #[.pointer (some ⟨q, 0, none⟩)] w fun e w' => ∃ A' c', e = .returned (.slice A' 2 c') ∧ w'.ownsRow w.heap.size 30 15 (.slice A' 2 c') 2 (rowsOf carL gN1.cars) ∧ Since w w' := by
  have h := carsT lo q gN1 S w hg (by rw [n2.1]; decide)
  unfold CarsAt at h
  rw [n2.1] at h
  exact h
theorem waitsB (lo q : Nat) (S : List Nat) (w : World) (hg : GO lo q gN1 S w) : Calls Try.prog 21 #[.pointer (some ⟨q, 0, none⟩)] w fun e w' => ∃ A' c', e = .returned (.slice A' 1 c') ∧ w'.ownsRow w.heap.size 55 4 (.slice A' 1 c') 1 (rowsOf waitL gN1.waits) ∧ Since w w' := by
  have h := waitsT lo q gN1 S w hg (by rw [n2.2]; decide)
  unfold WaitsAt at h
  rw [n2.2] at h
  exact h
set_option maxHeartbeats 4000000 in
theorem tickNil (w : World) : Calls Try.prog 18 #[.pointer none] w fun e w' => e = .returned (.slice none 0 0) ∧ Since w w' := by
 go_enter Try.func18, Try.ntmps18
 go_upto_region 1 with fail
 have HS1 := Lib.hid (Since.refl w)
 refine wp_region_lit ?_
 refine tkL (.pointer none) (h := ?_)
 (try simp only [Act.put, sA, sB, sC])
 refine tkL (.bool true) (h := ?_)
 (try simp only [Act.put, sA, sB, sC])
 refine wpList_nil ?_
 go_upto_region 2 with fail
 refine wp_region_lit ?_
 refine tkL (.slice none 0 0) (h := ?_)
 (try simp only [Act.put, sA, sB, sC])
 refine wpList_nil ?_
 (try go_wp2_with fail)
 go_ret
 exact ⟨rfl, HS1.out⟩
set_option maxHeartbeats 4000000 in
theorem noneG (o : OpV) (w : World) : Calls Try.prog 8 #[.agg (opA o)] w fun e w' => e = .returned (.bool true) ∧ Since w w' := by
 go_enter Try.func8, Try.ntmps8
 go_upto_region 1 with fail
 obtain ⟨w1, hw1⟩ : ∃ w1, w1 = (w.alloc (.cells (opA o) 46)) := ⟨_, rfl⟩
 rw [← hw1]
 have HBO1 := Lib.hid (show Blk w1 (w.heap.size) 46 (opA o) by rw [hw1]; exact Blk.at_ (by (try simp only [size_alloc])) _ _)
 have HS1 := Lib.hid (show Since w w1 by rw [hw1]; exact Since.alloc (Since.refl w) _)
 have hNE : w.heap.size ≤ w.heap.size := by omega
 have HNE := Lib.hid hNE
 clear hNE hw1
 have HNE3 := Lib.hid (show w.heap.size ≤ w.heap.size from HNE.out)
 clear HNE
 refine wp_region_lit ?_
 refine tkL (.pointer none) (h := ?_)
 (try simp only [Act.put, sA, sB, sC])
 refine wpList_nil ?_
 go_upto_region 2 with fail
 refine wp_ucut (ds := []) (fun fr wx => Fits fr 93 [(0, .agg (opA o)), (1, .pointer (some ⟨w.heap.size, 0, none⟩)), (2, .bool false), (3, .pointer none), (22, .bool false)] ∧ Hid (Since w wx ∧ Blk wx w.heap.size 46 (opA o))) ?rest1 ?first1
 case first1 =>
  intro J1 K1 hJ1 hK1
  by_cases hcs : 1 ≤ o.k
  rotate_left
  · have HK1 := Lib.hid hcs; clear hcs
    refine wp_region_lit ?_
    refine tkL (.pointer (some ⟨w.heap.size, 0, none⟩)) (h := ?_)
    (try simp only [Act.put, sA, sB, sC])
    refine wpList_q (by rfl) (.int .i64 o.k) ?he ?_
    case he => exact exec_cell 3 _ _ HBO1.out rfl rfl rfl Try.underlying3 rfl
    (try simp only [Act.put, sA, sB, sC])
    refine wpList_q (by rfl) (.bool false) ?he ?_
    case he => (have q0 := HK1.out; go_simp; (first | done | rfl | omega))
    (try simp only [Act.put, sA, sB, sC])
    refine tkL (.bool false) (h := ?_)
    (try simp only [Act.put, sA, sB, sC])
    refine wpList_no (by rfl) ?_
    (try simp only [Act.put, sA, sB, sC])
    refine wpList_no (by rfl) ?_
    (try simp only [Act.put, sA, sB, sC])
    refine wpList_no (by rfl) ?_
    (try simp only [Act.put, sA, sB, sC])
    refine tkL (.bool false) (h := ?_)
    (try simp only [Act.put, sA, sB, sC])
    refine tkL (.bool false) (h := ?_)
    (try simp only [Act.put, sA, sB, sC])
    refine wpList_no (by rfl) ?_
    (try simp only [Act.put, sA, sB, sC])
    refine wpList_no (by rfl) ?_
    (try simp only [Act.put, sA, sB, sC])
    refine wpList_no (by rfl) ?_
    (try simp only [Act.put, sA, sB, sC])
    refine wpList_no (by rfl) ?_
    (try simp only [Act.put, sA, sB, sC])
    refine tkL (.bool false) (h := ?_)
    (try simp only [Act.put, sA, sB, sC])
    refine wpList_nil ?_
    go_wp2_with fail
    refine Met.intro ?_
    exact hJ1 _ _ ⟨⟨rfl, rfl, rfl, rfl, rfl, rfl, trivial⟩, Lib.hid ⟨HS1.out, HBO1.out⟩⟩
  · have HK1 := Lib.hid hcs; clear hcs
    by_cases hcs : o.k ≤ 8
    rotate_left
    · have HK8 := Lib.hid hcs; clear hcs
      refine wp_region_lit ?_
      refine tkL (.pointer (some ⟨w.heap.size, 0, none⟩)) (h := ?_)
      (try simp only [Act.put, sA, sB, sC])
      refine wpList_q (by rfl) (.int .i64 o.k) ?he ?_
      case he => exact exec_cell 3 _ _ HBO1.out rfl rfl rfl Try.underlying3 rfl
      (try simp only [Act.put, sA, sB, sC])
      refine wpList_q (by rfl) (.bool true) ?he ?_
      case he => (have q0 := HK1.out; go_simp; (first | done | rfl | omega))
      (try simp only [Act.put, sA, sB, sC])
      refine tkL (.bool true) (h := ?_)
      (try simp only [Act.put, sA, sB, sC])
      refine tkL (.pointer (some ⟨w.heap.size, 0, none⟩)) (h := ?_)
      (try simp only [Act.put, sA, sB, sC])
      refine wpList_q (by rfl) (.int .i64 o.k) ?he ?_
      case he => exact exec_cell 3 _ _ HBO1.out rfl rfl rfl Try.underlying3 rfl
      (try simp only [Act.put, sA, sB, sC])
      refine wpList_q (by rfl) (.bool false) ?he ?_
      case he => (have q0 := HK8.out; go_simp; (first | done | rfl | omega))
      (try simp only [Act.put, sA, sB, sC])
      refine tkL (.bool false) (h := ?_)
      (try simp only [Act.put, sA, sB, sC])
      refine tkL (.bool false) (h := ?_)
      (try simp only [Act.put, sA, sB, sC])
      refine wpList_no (by rfl) ?_
      (try simp only [Act.put, sA, sB, sC])
      refine wpList_no (by rfl) ?_
      (try simp only [Act.put, sA, sB, sC])
      refine wpList_no (by rfl) ?_
      (try simp only [Act.put, sA, sB, sC])
      refine wpList_no (by rfl) ?_
      (try simp only [Act.put, sA, sB, sC])
      refine tkL (.bool false) (h := ?_)
      (try simp only [Act.put, sA, sB, sC])
      refine wpList_nil ?_
      go_wp2_with fail
      refine Met.intro ?_
      exact hJ1 _ _ ⟨⟨rfl, rfl, rfl, rfl, rfl, rfl, trivial⟩, Lib.hid ⟨HS1.out, HBO1.out⟩⟩
    · have HK8 := Lib.hid hcs; clear hcs
      refine wp_region_lit ?_
      refine tkL (.pointer (some ⟨w.heap.size, 0, none⟩)) (h := ?_)
      (try simp only [Act.put, sA, sB, sC])
      refine wpList_q (by rfl) (.int .i64 o.k) ?he ?_
      case he => exact exec_cell 3 _ _ HBO1.out rfl rfl rfl Try.underlying3 rfl
      (try simp only [Act.put, sA, sB, sC])
      refine wpList_q (by rfl) (.bool true) ?he ?_
      case he => (have q0 := HK1.out; go_simp; (first | done | rfl | omega))
      (try simp only [Act.put, sA, sB, sC])
      refine tkL (.bool true) (h := ?_)
      (try simp only [Act.put, sA, sB, sC])
      refine tkL (.pointer (some ⟨w.heap.size, 0, none⟩)) (h := ?_)
      (try simp only [Act.put, sA, sB, sC])
      refine wpList_q (by rfl) (.int .i64 o.k) ?he ?_
      case he => exact exec_cell 3 _ _ HBO1.out rfl rfl rfl Try.underlying3 rfl
      (try simp only [Act.put, sA, sB, sC])
      refine wpList_q (by rfl) (.bool true) ?he ?_
      case he => (have q0 := HK8.out; go_simp; (first | done | rfl | omega))
      (try simp only [Act.put, sA, sB, sC])
      refine tkL (.bool true) (h := ?_)
      (try simp only [Act.put, sA, sB, sC])
      refine tkL (.bool true) (h := ?_)
      (try simp only [Act.put, sA, sB, sC])
      refine tkL (.pointer none) (h := ?_)
      (try simp only [Act.put, sA, sB, sC])
      refine wpList_q (by rfl) (.agg (opA o)) ?he ?_
      case he => exact exec_load_row 46 _ _ HBO1.out rfl rfl Try.underlying46 rfl (by kernel_rfl)
      (try simp only [Act.put, sA, sB, sC])
      refine wpList_wp (by rfl) (fun K hK => ?_)
      (try go_simp)
      refine (doN o _ HK1.out HK8.out).mono ?_
      rintro e w2 ⟨rfl, hb⟩
      (try go_wp2_with fail)
      refine hK.out _ _ ?_
      clear hK K
      (try simp only [Act.put, sA, sB, sC])
      have HS2 := Lib.hid (Since.trans HS1.out hb)
      have HBO2 := Lib.hid (keep_blk hb HBO1.out)
      clear HS1 HBO1
      clear hb
      refine wpList_q (by rfl) (.bool false) ?he ?_
      case he => (go_simp; (try with_reducible rfl))
      (try simp only [Act.put, sA, sB, sC])
      refine tkL (.bool false) (h := ?_)
      (try simp only [Act.put, sA, sB, sC])
      refine wpList_nil ?_
      go_wp2_with fail
      refine Met.intro ?_
      exact hJ1 _ _ ⟨⟨rfl, rfl, rfl, rfl, rfl, rfl, trivial⟩, Lib.hid ⟨HS2.out, HBO2.out⟩⟩
 case rest1 =>
  intro fr wc hR
  clear HS1 HBO1
  obtain ⟨hF, HO⟩ := hR
  obtain ⟨g0, g1⟩ := HO.out
  clear HO
  have HS51 := Lib.hid g0
  have HBO51 := Lib.hid g1
  clear g0 g1
  obtain ⟨u, hu⟩ := hF.open_
  have hu2 := hu.trans (show _ = #[.agg (opA o), .pointer (some ⟨w.heap.size, 0, none⟩), .bool false, .pointer none, u 4, u 5, u 6, u 7, u 8, u 9, u 10, u 11, u 12, u 13, u 14, u 15, u 16, u 17, u 18, u 19, u 20, u 21, .bool false, u 23, u 24, u 25, u 26, u 27, u 28, u 29, u 30, u 31, u 32, u 33, u 34, u 35, u 36, u 37, u 38, u 39, u 40, u 41, u 42, u 43, u 44, u 45, u 46, u 47, u 48, u 49, u 50, u 51, u 52, u 53, u 54, u 55, u 56, u 57, u 58, u 59, u 60, u 61, u 62, u 63, u 64, u 65, u 66, u 67, u 68, u 69, u 70, u 71, u 72, u 73, u 74, u 75, u 76, u 77, u 78, u 79, u 80, u 81, u 82, u 83, u 84, u 85, u 86, u 87, u 88, u 89, u 90, u 91, u 92] by kernel_rfl)
  clear hu hF
  subst hu2
  go_upto_region 4 with fail
  refine wp_region_lit ?_
  refine wpList_wp (by rfl) (fun K hK => ?_)
  (try go_simp)
  refine (configG _).mono ?_
  rintro e w52 ⟨rfl, hb⟩
  (try go_wp2_with fail)
  refine hK.out _ _ ?_
  clear hK K
  (try simp only [Act.put, sA, sB, sC])
  have HS52 := Lib.hid (Since.trans HS51.out hb)
  have HBO52 := Lib.hid (keep_blk hb HBO51.out)
  clear HS51 HBO51
  clear hb
  refine wpList_wp (by rfl) (fun K hK => ?_)
  (try go_simp)
  refine (newT cG _).mono ?_
  rintro e w53 ⟨q1, S1, rfl, hobj, hb⟩
  (try go_wp2_with fail)
  refine hK.out _ _ ?_
  clear hK K
  (try simp only [Act.put, sA, sB, sC])
  have HINO := Lib.hid (show w.heap.size ∉ S1 from fun h => by have q1 := hobj.low _ h; have q2 := Blk.lt HBO52.out; omega)
  have HGq := Lib.hid (hobj.base (Since.size HS52.out)); clear hobj
  have HS53 := Lib.hid (Since.trans HS52.out hb)
  have HBO53 := Lib.hid (keep_blk hb HBO52.out)
  clear HS52 HBO52
  clear hb
  refine tkL (.pointer (some ⟨q1, 0, none⟩)) (h := ?_)
  (try simp only [Act.put, sA, sB, sC])
  refine wpList_nil ?_
  go_upto_region 5 with fail
  refine wp_region_lit ?_
  refine tkL (.pointer (some ⟨q1, 0, none⟩)) (h := ?_)
  (try simp only [Act.put, sA, sB, sC])
  refine wpList_wp (by rfl) (fun K hK => ?_)
  (try go_simp)
  refine (hallV w.heap.size q1 (newG cG) gN1 S1 3 1 0 _ HGq.out (by decide) n1).mono ?_
  rintro e w54 ⟨rfl, Sq_1, hobj, hupd, hfar⟩
  (try go_wp2_with fail)
  refine hK.out _ _ ?_
  clear hK K
  (try simp only [Act.put, sA, sB, sC])
  have HS54 := Lib.hid (Since.upd HS53.out hupd (GO.low HGq.out))
  have HBO54 := Lib.hid (Upd.blk hupd HBO53.out HINO.out)
  have HIO_q_54 := Lib.hid (nin_next hfar HINO.out (Blk.lt HBO53.out))
  have HFq54 := Lib.hid hobj
  clear hupd hobj hfar HS53 HBO53 HGq
  refine wpList_nil ?_
  go_upto_region 6 with fail
  refine wp_region_lit ?_
  refine tkL (.pointer (some ⟨q1, 0, none⟩)) (h := ?_)
  (try simp only [Act.put, sA, sB, sC])
  refine wpList_wp (by rfl) (fun K hK => ?_)
  (try go_simp)
  refine (carsB w.heap.size q1 Sq_1 _ HFq54.out).mono ?_
  rintro e w55 ⟨Aa, ca, rfl, hown, hb⟩
  (try go_wp2_with fail)
  refine hK.out _ _ ?_
  clear hK K
  (try simp only [Act.put, sA, sB, sC])
  have HDa := Lib.hid (show ∀ g ∈ blkOf Aa, g ∉ Sq_1 from fun g hg h => by have q1 := own_low hown g hg; have q2 := GO.lt HFq54.out g h; omega)
  have HRa := Lib.hid (own_base hown (Since.size HS54.out)); clear hown
  have HS55 := Lib.hid (Since.trans HS54.out hb)
  have HBO55 := Lib.hid (keep_blk hb HBO54.out)
  have HFq55 := Lib.hid (GO.keep hb HFq54.out)
  clear HS54 HBO54 HFq54
  clear hb
  refine tkL (.pointer (some ⟨q1, 0, none⟩)) (h := ?_)
  (try simp only [Act.put, sA, sB, sC])
  refine wpList_wp (by rfl) (fun K hK => ?_)
  (try go_simp)
  refine (waitsB w.heap.size q1 Sq_1 _ HFq55.out).mono ?_
  rintro e w56 ⟨Av, cv, rfl, hown, hb⟩
  (try go_wp2_with fail)
  refine hK.out _ _ ?_
  clear hK K
  (try simp only [Act.put, sA, sB, sC])
  have HDv := Lib.hid (show ∀ g ∈ blkOf Av, g ∉ Sq_1 from fun g hg h => by have q1 := own_low hown g hg; have q2 := GO.lt HFq55.out g h; omega)
  have HRv := Lib.hid (own_base hown (Since.size HS55.out)); clear hown
  have HS56 := Lib.hid (Since.trans HS55.out hb)
  have HBO56 := Lib.hid (keep_blk hb HBO55.out)
  have HFq56 := Lib.hid (GO.keep hb HFq55.out)
  have HFa56 := Lib.hid (keep_own hb HRa.out)
  clear HS55 HBO55 HFq55 HRa
  clear hb
  refine tkL (.slice Aa 2 ca) (h := ?_)
  (try simp only [Act.put, sA, sB, sC])
  refine tkL (.slice Av 1 cv) (h := ?_)
  (try simp only [Act.put, sA, sB, sC])
  refine wpList_nil ?_
  go_upto_region 7 with fail
  refine wp_region_lit ?_
  refine tkL (.slice Aa 2 ca) (h := ?_)
  (try simp only [Act.put, sA, sB, sC])
  refine tkL (.int .i64 2) (h := ?_)
  (try simp only [Act.put, sA, sB, sC])
  refine wpList_q (by rfl) (.bool false) ?he ?_
  case he => (go_simp; (try with_reducible rfl))
  (try simp only [Act.put, sA, sB, sC])
  refine tkL (.bool false) (h := ?_)
  (try simp only [Act.put, sA, sB, sC])
  refine tkL (.slice Av 1 cv) (h := ?_)
  (try simp only [Act.put, sA, sB, sC])
  refine tkL (.int .i64 1) (h := ?_)
  (try simp only [Act.put, sA, sB, sC])
  refine wpList_q (by rfl) (.bool false) ?he ?_
  case he => (go_simp; (try with_reducible rfl))
  (try simp only [Act.put, sA, sB, sC])
  refine tkL (.bool false) (h := ?_)
  (try simp only [Act.put, sA, sB, sC])
  refine wpList_nil ?_
  obtain ⟨ga, hga⟩ := own_addr HFa56.out (by decide)
  subst hga
  obtain ⟨gv, hgv⟩ := own_addr HRv.out (by decide)
  subst hgv
  have HIa := Lib.hid (show ga ∉ Sq_1 from HDa.out ga (by simp [blkOf])); have HIv := Lib.hid (show gv ∉ Sq_1 from HDv.out gv (by simp [blkOf]))
  have HGE1 := Lib.hid (own_low HFa56.out ga (by simp [blkOf])); have HGE2 := Lib.hid (own_low HRv.out gv (by simp [blkOf]))
  obtain ⟨P1, Z1, hP1, hE1, -⟩ := own_elS carL_len HFa56.out n3; obtain ⟨P2, Z2, hP2, hE2, -⟩ := own_elS waitL_len HRv.out n4
  have HP1 := Lib.hid (show P1.length = 0 from hP1); have HP2 := Lib.hid (show P2.length = 0 from hP2); have HE1 := Lib.hid (show Blk w56 ga 30 (el P1 (carA zeroX) Z1) from hE1); have HE2 := Lib.hid (show Blk w56 gv 55 (el P2 (waitA wN) Z2) from hE2); clear hP1 hP2 hE1 hE2 HFa56 HRv
  have HNE12 := Lib.hid (Blk.ne_ HE1.out HE2.out (by decide)); have HNO1 := Lib.hid (Blk.ne_ HBO56.out HE1.out (by decide)); have HNO2 := Lib.hid (Blk.ne_ HBO56.out HE2.out (by decide))
  go_upto_region 9 with fail
  refine wp_region_lit ?_
  refine tkL (.slice (some ⟨ga, 0, none⟩) 2 ca) (h := ?_)
  (try simp only [Act.put, sA, sB, sC])
  refine tkL (.slice (some ⟨gv, 0, none⟩) 1 cv) (h := ?_)
  (try simp only [Act.put, sA, sB, sC])
  refine wpList_q (by rfl) (.pointer (some ⟨ga, 0, none⟩)) ?he ?_
  case he => exact exec_index (i := 0) (s := 15) 37 30 _ _ rfl rfl rfl rfl (by decide) Try.underlying37 (by kernel_rfl)
  (try simp only [Act.put, sA, sB, sC])
  refine tkL (.pointer (some ⟨ga, 0 + 2, none⟩)) (h := ?_)
  (try simp only [Act.put, sA, sB, sC])
  refine wpList_wp (by rfl) (fun K hK => ?_)
  refine wp_st_cell 3 _ _ rfl (el P1 #[.int .i64 zeroX.ds, .int .i64 zeroX.da, .int .i64 77, .int .i64 zeroX.wy, .int .i64 zeroX.ti, .int .i64 zeroX.ju, .int .i64 zeroX.lo, .bool zeroX.bl, .bool zeroX.br, .int .i64 zeroX.mo, .int .i64 zeroX.ta, .bool zeroX.ho, .int .u64 zeroX.sp, .int .u64 zeroX.su, .int .u64 zeroX.sd] Z1) (.int .i64 77) rfl rfl HE1.out (el_lt (j := 2) HP1.out (by show 2 < 15; decide)) (el_set (j := 2) HP1.out (by show 2 < 15; decide) rfl) (by first | rfl | simp [Value.oneCell']) (by kernel_rfl) ?_
  intro w57 hw
  refine hK.out _ _ ?_
  clear hK K
  (try simp only [Act.put, sA, sB, sC])
  have HS57 := Lib.hid (show Since w w57 by rw [hw]; exact Since.setRow HS56.out HGE1.out _)
  have HBO57 := Lib.hid (show Blk w57 w.heap.size 46 (opA o) by rw [hw]; exact Blk.row_far HBO56.out HNO1.out _)
  have HBE157 := Lib.hid (show Blk w57 ga 30 (el P1 #[.int .i64 zeroX.ds, .int .i64 zeroX.da, .int .i64 77, .int .i64 zeroX.wy, .int .i64 zeroX.ti, .int .i64 zeroX.ju, .int .i64 zeroX.lo, .bool zeroX.bl, .bool zeroX.br, .int .i64 zeroX.mo, .int .i64 zeroX.ta, .bool zeroX.ho, .int .u64 zeroX.sp, .int .u64 zeroX.su, .int .u64 zeroX.sd] Z1) by rw [hw]; exact Blk.row HE1.out _)
  have HBE257 := Lib.hid (show Blk w57 gv 55 (el P2 (waitA wN) Z2) by rw [hw]; exact Blk.row_far HE2.out (Ne.symm HNE12.out) _)
  have HFq_57 := Lib.hid (show GO w.heap.size q1 gN1 Sq_1 w57 by rw [hw]; exact GO.row_far HFq56.out HIa.out _)
  clear hw HS56 HBO56 HE1 HE2 HFq56
  refine wpList_q (by rfl) (.pointer (some ⟨gv, 0, none⟩)) ?he ?_
  case he => exact exec_index (i := 0) (s := 4) 50 55 _ _ rfl rfl rfl rfl (by decide) Try.underlying50 (by kernel_rfl)
  (try simp only [Act.put, sA, sB, sC])
  refine tkL (.pointer (some ⟨gv, 0, none⟩)) (h := ?_)
  (try simp only [Act.put, sA, sB, sC])
  refine tkL (.pointer (some ⟨gv, 0, none⟩)) (h := ?_)
  (try simp only [Act.put, sA, sB, sC])
  refine wpList_wp (by rfl) (fun K hK => ?_)
  refine wp_st_cell 3 _ _ rfl (el P2 #[.int .i64 77, .int .i64 wN.wy, .int .i64 wN.ca, .int .i64 wN.si] Z2) (.int .i64 77) rfl rfl HBE257.out (el_lt (j := 0) HP2.out (by show 0 < 4; decide)) (el_set (j := 0) HP2.out (by show 0 < 4; decide) rfl) (by first | rfl | simp [Value.oneCell']) (by kernel_rfl) ?_
  intro w58 hw
  refine hK.out _ _ ?_
  clear hK K
  (try simp only [Act.put, sA, sB, sC])
  have HS58 := Lib.hid (show Since w w58 by rw [hw]; exact Since.setRow HS57.out HGE2.out _)
  have HBO58 := Lib.hid (show Blk w58 w.heap.size 46 (opA o) by rw [hw]; exact Blk.row_far HBO57.out HNO2.out _)
  have HBE158 := Lib.hid (show Blk w58 ga 30 (el P1 #[.int .i64 zeroX.ds, .int .i64 zeroX.da, .int .i64 77, .int .i64 zeroX.wy, .int .i64 zeroX.ti, .int .i64 zeroX.ju, .int .i64 zeroX.lo, .bool zeroX.bl, .bool zeroX.br, .int .i64 zeroX.mo, .int .i64 zeroX.ta, .bool zeroX.ho, .int .u64 zeroX.sp, .int .u64 zeroX.su, .int .u64 zeroX.sd] Z1) by rw [hw]; exact Blk.row_far HBE157.out HNE12.out _)
  have HBE258 := Lib.hid (show Blk w58 gv 55 (el P2 #[.int .i64 77, .int .i64 wN.wy, .int .i64 wN.ca, .int .i64 wN.si] Z2) by rw [hw]; exact Blk.row HBE257.out _)
  have HFq_58 := Lib.hid (show GO w.heap.size q1 gN1 Sq_1 w58 by rw [hw]; exact GO.row_far HFq_57.out HIv.out _)
  clear hw HS57 HBO57 HBE157 HBE257 HFq_57
  refine wpList_nil ?_
  go_upto_region 10 with fail
  refine wp_region_lit ?_
  refine tkL (.pointer (some ⟨q1, 0, none⟩)) (h := ?_)
  (try simp only [Act.put, sA, sB, sC])
  refine wpList_wp (by rfl) (fun K hK => ?_)
  (try go_simp)
  refine (carsB w.heap.size q1 Sq_1 _ HFq_58.out).mono ?_
  rintro e w59 ⟨Ab, cb, rfl, hown, hb⟩
  (try go_wp2_with fail)
  refine hK.out _ _ ?_
  clear hK K
  (try simp only [Act.put, sA, sB, sC])
  have HDb := Lib.hid (show ∀ g ∈ blkOf Ab, g ∉ Sq_1 from fun g hg h => by have q1 := own_low hown g hg; have q2 := GO.lt HFq_58.out g h; omega)
  have HRb := Lib.hid (own_base hown (Since.size HS58.out)); clear hown
  have HS59 := Lib.hid (Since.trans HS58.out hb)
  have HBO59 := Lib.hid (keep_blk hb HBO58.out)
  have HFq59 := Lib.hid (GO.keep hb HFq_58.out)
  clear HS58 HBO58 HFq_58
  clear hb
  refine tkL (.pointer (some ⟨q1, 0, none⟩)) (h := ?_)
  (try simp only [Act.put, sA, sB, sC])
  refine wpList_wp (by rfl) (fun K hK => ?_)
  (try go_simp)
  refine (waitsB w.heap.size q1 Sq_1 _ HFq59.out).mono ?_
  rintro e w60 ⟨Au, cu, rfl, hown, hb⟩
  (try go_wp2_with fail)
  refine hK.out _ _ ?_
  clear hK K
  (try simp only [Act.put, sA, sB, sC])
  have HDu := Lib.hid (show ∀ g ∈ blkOf Au, g ∉ Sq_1 from fun g hg h => by have q1 := own_low hown g hg; have q2 := GO.lt HFq59.out g h; omega)
  have HRu := Lib.hid (own_base hown (Since.size HS59.out)); clear hown
  have HS60 := Lib.hid (Since.trans HS59.out hb)
  have HBO60 := Lib.hid (keep_blk hb HBO59.out)
  have HFq60 := Lib.hid (GO.keep hb HFq59.out)
  have HFb60 := Lib.hid (keep_own hb HRb.out)
  clear HS59 HBO59 HFq59 HRb
  clear hb
  refine tkL (.slice Ab 2 cb) (h := ?_)
  (try simp only [Act.put, sA, sB, sC])
  refine tkL (.slice Au 1 cu) (h := ?_)
  (try simp only [Act.put, sA, sB, sC])
  refine wpList_nil ?_
  obtain ⟨gb, hgb⟩ := own_addr HFb60.out (by decide)
  subst hgb
  obtain ⟨gu, hgu⟩ := own_addr HRu.out (by decide)
  subst hgu
  go_upto_region 11 with fail
  refine wp_region_lit ?_
  refine wpList_wp (by rfl) (fun K hK => ?_)
  (try go_simp)
  refine (ansG _).mono ?_
  rintro e w61 ⟨rfl, hb⟩
  (try go_wp2_with fail)
  refine hK.out _ _ ?_
  clear hK K
  (try simp only [Act.put, sA, sB, sC])
  have HS61 := Lib.hid (Since.trans HS60.out hb)
  have HBO61 := Lib.hid (keep_blk hb HBO60.out)
  have HFq61 := Lib.hid (GO.keep hb HFq60.out)
  have HFb61 := Lib.hid (keep_own hb HFb60.out)
  have HFu61 := Lib.hid (keep_own hb HRu.out)
  clear HS60 HBO60 HFq60 HFb60 HRu
  clear hb
  refine tkL (.bool true) (h := ?_)
  (try simp only [Act.put, sA, sB, sC])
  refine tkL (.pointer none) (h := ?_)
  (try simp only [Act.put, sA, sB, sC])
  refine wpList_wp (by rfl) (fun K hK => ?_)
  (try go_simp)
  refine (tickNil _).mono ?_
  rintro e w62 ⟨rfl, hb⟩
  (try go_wp2_with fail)
  refine hK.out _ _ ?_
  clear hK K
  (try simp only [Act.put, sA, sB, sC])
  have HS62 := Lib.hid (Since.trans HS61.out hb)
  have HBO62 := Lib.hid (keep_blk hb HBO61.out)
  have HFq62 := Lib.hid (GO.keep hb HFq61.out)
  have HFb62 := Lib.hid (keep_own hb HFb61.out)
  have HFu62 := Lib.hid (keep_own hb HFu61.out)
  clear HS61 HBO61 HFq61 HFb61 HFu61
  clear hb
  refine tkL (.int .i64 0) (h := ?_)
  (try simp only [Act.put, sA, sB, sC])
  refine tkL (.pointer none) (h := ?_)
  (try simp only [Act.put, sA, sB, sC])
  refine wpList_wp (by rfl) (fun K hK => ?_)
  (try go_simp)
  refine (carsN _).mono ?_
  rintro e w63 ⟨rfl, hb⟩
  (try go_wp2_with fail)
  refine hK.out _ _ ?_
  clear hK K
  (try simp only [Act.put, sA, sB, sC])
  have HS63 := Lib.hid (Since.trans HS62.out hb)
  have HBO63 := Lib.hid (keep_blk hb HBO62.out)
  have HFq63 := Lib.hid (GO.keep hb HFq62.out)
  have HFb63 := Lib.hid (keep_own hb HFb62.out)
  have HFu63 := Lib.hid (keep_own hb HFu62.out)
  clear HS62 HBO62 HFq62 HFb62 HFu62
  clear hb
  refine tkL (.int .i64 0) (h := ?_)
  (try simp only [Act.put, sA, sB, sC])
  refine wpList_q (by rfl) (.int .i64 0) ?he ?_
  case he => (first | rfl | kernel_rfl | (go_simp; (try with_reducible rfl)))
  (try simp only [Act.put, sA, sB, sC])
  refine tkL (.pointer none) (h := ?_)
  (try simp only [Act.put, sA, sB, sC])
  refine wpList_wp (by rfl) (fun K hK => ?_)
  (try go_simp)
  refine (waitsN _).mono ?_
  rintro e w64 ⟨rfl, hb⟩
  (try go_wp2_with fail)
  refine hK.out _ _ ?_
  clear hK K
  (try simp only [Act.put, sA, sB, sC])
  have HS64 := Lib.hid (Since.trans HS63.out hb)
  have HBO64 := Lib.hid (keep_blk hb HBO63.out)
  have HFq64 := Lib.hid (GO.keep hb HFq63.out)
  have HFb64 := Lib.hid (keep_own hb HFb63.out)
  have HFu64 := Lib.hid (keep_own hb HFu63.out)
  clear HS63 HBO63 HFq63 HFb63 HFu63
  clear hb
  refine tkL (.int .i64 0) (h := ?_)
  (try simp only [Act.put, sA, sB, sC])
  refine wpList_q (by rfl) (.int .i64 0) ?he ?_
  case he => (first | rfl | kernel_rfl | (go_simp; (try with_reducible rfl)))
  (try simp only [Act.put, sA, sB, sC])
  refine tkL (.pointer none) (h := ?_)
  (try simp only [Act.put, sA, sB, sC])
  refine wpList_wp (by rfl) (fun K hK => ?_)
  (try go_simp)
  refine (nowN _).mono ?_
  rintro e w65 ⟨rfl, hb⟩
  (try go_wp2_with fail)
  refine hK.out _ _ ?_
  clear hK K
  (try simp only [Act.put, sA, sB, sC])
  have HS65 := Lib.hid (Since.trans HS64.out hb)
  have HBO65 := Lib.hid (keep_blk hb HBO64.out)
  have HFq65 := Lib.hid (GO.keep hb HFq64.out)
  have HFb65 := Lib.hid (keep_own hb HFb64.out)
  have HFu65 := Lib.hid (keep_own hb HFu64.out)
  clear HS64 HBO64 HFq64 HFb64 HFu64
  clear hb
  refine wpList_q (by rfl) (.int .i64 0) ?he ?_
  case he => (first | rfl | kernel_rfl | (go_simp; (try with_reducible rfl)))
  (try simp only [Act.put, sA, sB, sC])
  refine wpList_q (by rfl) (.bool true) ?he ?_
  case he => (go_simp; (try with_reducible rfl))
  (try simp only [Act.put, sA, sB, sC])
  refine tkL (.bool true) (h := ?_)
  (try simp only [Act.put, sA, sB, sC])
  refine tkL (.bool true) (h := ?_)
  (try simp only [Act.put, sA, sB, sC])
  refine tkL (.slice (some ⟨gb, 0, none⟩) 2 cb) (h := ?_)
  (try simp only [Act.put, sA, sB, sC])
  refine tkL (.int .i64 2) (h := ?_)
  (try simp only [Act.put, sA, sB, sC])
  refine wpList_q (by rfl) (.bool true) ?he ?_
  case he => (go_simp; (try with_reducible rfl))
  (try simp only [Act.put, sA, sB, sC])
  refine tkL (.bool true) (h := ?_)
  (try simp only [Act.put, sA, sB, sC])
  refine tkL (.bool true) (h := ?_)
  (try simp only [Act.put, sA, sB, sC])
  refine tkL (.slice (some ⟨gb, 0, none⟩) 2 cb) (h := ?_)
  (try simp only [Act.put, sA, sB, sC])
  refine wpList_q (by rfl) (.pointer (some ⟨gb, 0, none⟩)) ?he ?_
  case he => exact exec_index (i := 0) (s := 15) 37 30 _ _ rfl rfl rfl rfl (by decide) Try.underlying37 (by kernel_rfl)
  (try simp only [Act.put, sA, sB, sC])
  refine tkL (.pointer (some ⟨gb, 2, none⟩)) (h := ?_)
  (try simp only [Act.put, sA, sB, sC])
  refine wpList_q (by rfl) (.int .i64 0) ?he ?_
  case he => exact exec_at 3 _ _ (show _ = some (Value.int .i64 0) from row_S carL_len HFb65.out n3 2 _ rfl) rfl rfl Try.underlying3 rfl
  (try simp only [Act.put, sA, sB, sC])
  refine wpList_q (by rfl) (.bool true) ?he ?_
  case he => (go_simp; (try with_reducible rfl))
  (try simp only [Act.put, sA, sB, sC])
  refine tkL (.bool true) (h := ?_)
  (try simp only [Act.put, sA, sB, sC])
  refine tkL (.bool true) (h := ?_)
  (try simp only [Act.put, sA, sB, sC])
  refine tkL (.slice (some ⟨gu, 0, none⟩) 1 cu) (h := ?_)
  (try simp only [Act.put, sA, sB, sC])
  refine tkL (.int .i64 1) (h := ?_)
  (try simp only [Act.put, sA, sB, sC])
  refine wpList_q (by rfl) (.bool true) ?he ?_
  case he => (go_simp; (try with_reducible rfl))
  (try simp only [Act.put, sA, sB, sC])
  refine tkL (.bool true) (h := ?_)
  (try simp only [Act.put, sA, sB, sC])
  refine tkL (.bool true) (h := ?_)
  (try simp only [Act.put, sA, sB, sC])
  refine tkL (.slice (some ⟨gu, 0, none⟩) 1 cu) (h := ?_)
  (try simp only [Act.put, sA, sB, sC])
  refine wpList_q (by rfl) (.pointer (some ⟨gu, 0, none⟩)) ?he ?_
  case he => exact exec_index (i := 0) (s := 4) 50 55 _ _ rfl rfl rfl rfl (by decide) Try.underlying50 (by kernel_rfl)
  (try simp only [Act.put, sA, sB, sC])
  refine tkL (.pointer (some ⟨gu, 0, none⟩)) (h := ?_)
  (try simp only [Act.put, sA, sB, sC])
  refine tkL (.pointer (some ⟨gu, 0, none⟩)) (h := ?_)
  (try simp only [Act.put, sA, sB, sC])
  refine wpList_q (by rfl) (.int .i64 3) ?he ?_
  case he => exact exec_at 3 _ _ (show _ = some (Value.int .i64 3) from row_S waitL_len HFu65.out n4 0 _ rfl) rfl rfl Try.underlying3 rfl
  (try simp only [Act.put, sA, sB, sC])
  refine wpList_q (by rfl) (.bool true) ?he ?_
  case he => (go_simp; (try with_reducible rfl))
  (try simp only [Act.put, sA, sB, sC])
  refine tkL (.bool true) (h := ?_)
  (try simp only [Act.put, sA, sB, sC])
  refine tkL (.bool true) (h := ?_)
  (try simp only [Act.put, sA, sB, sC])
  refine wpList_nil ?_
  (try go_wp2_with fail)
  go_ret
  exact ⟨rfl, HS65.out⟩
end Go.Proofs.Ytpacieocmogjeaa.Gr
namespace Go.Proofs.Ytpacieocmogjeaa.groupNone
set_option linter.unusedVariables false
set_option linter.unusedSimpArgs false
open Go.Proofs.Ytpacieocmogjeaa Go.Proofs.Ytpacieocmogjeaa.Gr
open Go.ChangeShapes Go.WideShapes Go.ChangeAt Go.RowKit
open Go.ChangeMaps (open_string shut_string)
set_option linter.unusedVariables false

theorem own : ownKnob Try.prog.godebug = none := by kernel_rfl
theorem laidOut : laidOutB Try.prog = true := by kernel_rfl

set_option maxRecDepth 100000 in
theorem lifted (os : Os) (started : os.Started) (H : Type) (enc : TypeId × Value → H) :
    ReturnsInHanded {} Try.checked os 8 .any (Rows.groupNoneSpec.pre6 enc Try.prog Try.f8 Rows.groupNoneRow.domain false) (Rows.groupNoneSpec.post enc Try.prog Try.f8 false true false false) := by
  refine returnsInHanded_of_change (C := Try.checked) own started (by kernel_rfl) Try.func8
    (ChangeSpec.witness6 (enc := enc) (C := Try.checked) false ⟨#[], #[.agg #[.int .i64 0, .int .i64 0, .int .i64 0, .bool false]], []⟩ 8 (by kernel_rfl) (by kernel_rfl) (by kernel_rfl) (by kernel_rfl)) ?_
  intro W base args ds gs before hval0 hW hcnd _
  have hval : ∀ (j : Nat) t v, Try.f8.params[j]? = some t → args[j]? = some v → Value.okWide Try.prog W .any base t v := hval0
  have hW' := hW
  obtain ⟨p, q, hA0, hV, rfl, hfz, hnd⟩ := hW
  have hA : DataW.TrodAll enc Try.prog W 0 (fun _ => true) true Try.f8.params.toList args.toList ds p := hA0
  rw [Try.params8] at hA hval
  obtain ⟨v0, vs0, d0, ds0, p0, q0, hargs, rfl, rfl, h0, r0⟩ := trodAll_cons hA
  obtain ⟨rfl, rfl, rfl⟩ := trodAll_nil r0
  obtain rfl : args = #[v0] := by cases args; simp_all
  obtain ⟨rfl, rfl⟩ := trodVars_none hV
  have k0 := h0
  have lt0 : ∀ x ∈ p0, x.block < W.heap.size := by obtain ⟨m, hm⟩ := k0; exact DataW.trod_lt m _ _ _ hm
  obtain ⟨cs0, rfl, hsz0, hcc0⟩ := Opn.open_agg (ts := [3, 3, 3, 4]) Try.underlying46 (by kernel_rfl) (by kernel_rfl) (hval 0 46 v0 rfl rfl)
  obtain ⟨c0_0, hc0_0, ho0_0⟩ := hcc0 0 3 rfl
  obtain ⟨x0_0, rfl, w0_0⟩ := Opn.cell_int Try.underlying3 ho0_0
  obtain ⟨c0_1, hc0_1, ho0_1⟩ := hcc0 1 3 rfl
  obtain ⟨x0_1, rfl, w0_1⟩ := Opn.cell_int Try.underlying3 ho0_1
  obtain ⟨c0_2, hc0_2, ho0_2⟩ := hcc0 2 3 rfl
  obtain ⟨x0_2, rfl, w0_2⟩ := Opn.cell_int Try.underlying3 ho0_2
  obtain ⟨c0_3, hc0_3, ho0_3⟩ := hcc0 3 4 rfl
  obtain ⟨x0_3, rfl⟩ := Opn.cell_bool Try.underlying4 ho0_3
  obtain rfl : cs0 = #[.int .i64 x0_0, .int .i64 x0_1, .int .i64 x0_2, .bool x0_3] := Opn.arr_each (l := [.int .i64 x0_0, .int .i64 x0_1, .int .i64 x0_2, .bool x0_3]) hsz0 (by
    refine Opn.each_cons hc0_0 ?_
    refine Opn.each_cons hc0_1 ?_
    refine Opn.each_cons hc0_2 ?_
    refine Opn.each_cons hc0_3 ?_
    exact Opn.each_nil)
  clear hA0 hval0
  refine (Gr.noneG ⟨x0_0, x0_1, x0_2, x0_3⟩ W).mono fun e W' ⟨he, bel⟩ => ?_
  subst he
  exact ⟨_, rfl, _, _, _, [], _, [], hW', trodAll_mk1 (shut_bool Try.underlying4 _), (trodAll_cons_mk (Below.trod laidOut (by kernel_rfl) (of_decide_eq_true (by kernel_rfl)) k0 bel lt0) trodAll_mk0), rfl, Below.frame bel _, fun h => by cases h⟩

theorem over : Rows.groupNoneRow.holds Try.pinned (OpenSpec.ofChange Rows.groupNoneSpec) :=
  OpenClaim.holds_of_wide 8 Try.f8 rfl rfl rfl rfl rfl rfl rfl ⟨rfl, rfl, rfl, rfl, rfl⟩ rfl rfl rfl rfl rfl (by kernel_rfl) Try.func8 (by kernel_rfl)
    (of_decide_eq_true (by kernel_rfl)) (by unfold Func.isWrapper; first | (rw [if_pos (by decide +kernel)]; kernel_rfl) | (rw [if_neg (by decide +kernel)]; exact ⟨rfl, rfl⟩))
    (fun os started H enc _ => lifted os started H enc)

/-- THE STATEMENT -/
theorem proved : Rows.GroupNoneSaid := over
#print axioms proved
end Go.Proofs.Ytpacieocmogjeaa.groupNone
