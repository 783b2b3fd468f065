/-
  What is wanted by the last of these texts, part 12.
  No condition.
-/
import Derived.Test.YthmikjjnlahlbaaGreatKG11
import Derived.WalkKit
import Derived.ProofKit
import Derived.OpenShut
namespace Go.Proofs.YthmikjjnlahlbaaGreat.Lc
set_option linter.unusedSectionVars false
set_option linter.unusedVariables false
set_option linter.unusedSimpArgs false
open Go.RowKit Go.Proofs.YthmikjjnlahlbaaGreat.Ba Go.Proofs.YthmikjjnlahlbaaGreat.Mem Go.Proofs.YthmikjjnlahlbaaGreat.En Go.Proofs.YthmikjjnlahlbaaGreat.Ty Go.Proofs.YthmikjjnlahlbaaGreat.Mo Go.Proofs.YthmikjjnlahlbaaGreat.St Go.Proofs.YthmikjjnlahlbaaGreat.Co
open Go.Proofs.YthmikjjnlahlbaaGreat.Ri (MsgV msgC)
open Go.Proofs.YthmikjjnlahlbaaGreat.Gr (loadR loadG hallR hallG pressR pressG curtR curtG faultR faultG GI)
open Go.Proofs.YthmikjjnlahlbaaGreat.Fl (leaE)
set_option maxRecDepth 100000
attribute [local irreducible] Go.Calls
def ldK (K : KV) (l : LeaseV) (v : Int) : KV := { K with G := (loadR K.G l.ca v).1 }
def obStep (x : KV × List EvV) (l : LeaseV) : KV × List EvV :=
  if l.ph = 2 then (hearK (ldK x.1 l l.ma) l.se ⟨9, 0, 0, 0⟩, x.2 ++ evs l.se (hearM (ldK x.1 l l.ma) l.se ⟨9, 0, 0, 0⟩))
  else if l.ph = 4 then (hearK (ldK x.1 l 0) l.se ⟨13, 0, 0, 0⟩, x.2 ++ evs l.se (hearM (ldK x.1 l 0) l.se ⟨13, 0, 0, 0⟩)) else x
def obF (K : KV) (k : Nat) : KV × List EvV := (K.L.take k).foldl obStep (K, [])
def obK (K : KV) : KV := (obF K K.L.length).1
def obE (K : KV) : List EvV := (obF K K.L.length).2
theorem ob_next {K : KV} {k : Nat} {l : LeaseV} (h : K.L[k]? = some l) : obF K (k + 1) = obStep (obF K k) l := by
  obtain ⟨hk, rfl⟩ := List.getElem?_eq_some_iff.1 h
  unfold obF
  rw [List.take_succ_eq_append_getElem hk, List.foldl_append]; rfl
theorem hearM_len (K : KV) (s : Int) (m : MsgV) : (hearM K s m).length ≤ 1 := by
  unfold hearM; split
  · cases (hearR K (Le.ofL K.L s) m).2.1 <;> simp
  · simp
theorem obS_len (x : KV × List EvV) (l : LeaseV) : (obStep x l).2.length ≤ x.2.length + 1 := by
  unfold obStep; split
  · have := hearM_len (ldK x.1 l l.ma) l.se ⟨9, 0, 0, 0⟩
    simp [evs]; omega
  · split
    · have := hearM_len (ldK x.1 l 0) l.se ⟨13, 0, 0, 0⟩
      simp [evs]; omega
    · omega
theorem ob_len (K : KV) : ∀ k, (obF K k).2.length ≤ k := by
  intro k
  have key : ∀ (ls : List LeaseV) (x : KV × List EvV), (ls.foldl obStep x).2.length ≤ x.2.length + ls.length := by
    intro ls
    induction ls with
    | nil => intro x; simp
    | cons l r ih =>
      intro x
      rw [List.foldl_cons]
      have := ih (obStep x l); have := obS_len x l
      rw [List.length_cons]; omega
  have := key (K.L.take k) (K, [])
  rw [List.length_take] at this
  simp at this
  unfold obF; omega
theorem evs_len (s : Int) (ms : List MsgV) : (evs s ms).length = ms.length := by simp [evs]
section
variable {c : CfgV} {n T m : Nat} {K : KV}
theorem KI.ld (h : KI c n T m K) (l : LeaseV) (v : Int) : KI c n T m (ldK K l v) :=
  ⟨h.g.load _ _, by show ∀ a ∈ (loadR K.G l.ca v).1.waits, _; rw [(Gr.load_w _ _).1]; exact h.s, by show 0 ≤ (loadR K.G l.ca v).1.now ∧ (loadR K.G l.ca v).1.now ≤ _; rw [(Gr.load_w _ _).2]; exact h.now, h.lq, h.okq, h.ll, h.okl⟩
theorem KI.obS {x : KV × List EvV} (h : KI c n T m x.1) (l : LeaseV) : KI c n T m (obStep x l).1 := by
  unfold obStep; split
  · exact (KI.ld h l _).hear _ _
  · split
    · exact (KI.ld h l _).hear _ _
    · exact h
theorem KI.ob (h : KI c n T m K) (k : Nat) : KI c n T m (obF K k).1 := by
  have key : ∀ (ls : List LeaseV) (x : KV × List EvV), KI c n T m x.1 → KI c n T m (ls.foldl obStep x).1 := by
    intro ls
    induction ls with
    | nil => intro x h; exact h
    | cons l r ih => intro x h; rw [List.foldl_cons]; exact ih _ (KI.obS h l)
  exact key _ _ h
end
attribute [local irreducible] hearK hearM ldK evs
section
variable {lo q : Nat} {p : Pt} {K : KV} {S : List Nat} {w : World} {c : CfgV} {n T m : Nat}
theorem loadW (h : KW lo q p K S w) (l : LeaseV) (v : Int) : Calls Tryz.prog 59 #[.pointer (some ⟨p.g, 0, none⟩), .int .i64 l.ca, .int .i64 v] w fun e w' => ∃ S', e = .returned (.int .i64 (loadR K.G l.ca v).2) ∧ KW lo q p (ldK K l v) S' w' ∧ Upd S w w' ∧ ∀ g ∈ S', g ∈ S ∨ w.heap.size ≤ g := by
  unfold ldK
  exact KW.grp h (one_c _ _ _) (fun S1 hq => loadG hq l.ca v)
attribute [local irreducible] loadR
set_option maxHeartbeats 8000000 in
theorem obeysT (h : KW lo q p K S w) (hi : KI c n T m K) (hm : m ≤ 10000) :
    Calls Tryz.prog 41 #[.pointer (some ⟨q, 0, none⟩)] w fun e w' => ∃ x : List Nat × Nr, e = .returned (.slice x.2.2.1 (obE K).length x.2.2.2) ∧ KW lo q p (obK K) x.1 w' ∧ (rwO evE x.2.1 x.2.2.1 (obE K).length x.2.2.2 (obE K) true).st w' ∧ Upd S w w' ∧ (∀ g ∈ x.1, g ∈ S ∨ w.heap.size ≤ g) ∧ ∀ g ∈ blkOf x.2.2.1, w.heap.size ≤ g ∧ g ∉ x.1 := by
  have hll := hi.ll
  refine entH tab_ok (Hold.addObj (Hold.addObj (Hold.nil _ tab S _ w) (kO lo q p K S true) h (fun _ g hg => .inl hg) (by intro r hr; cases hr) (by intro A hA; cases hA)) (rwO evE w.heap.size none 0 0 [] true) (Ek.nil _ _ _) (by intro _ g hg; cases hg) (by intro r _ _ hg; cases hg) (by intro A hA _ g hg hg2; cases hg2)) [.v (.pointer (some ⟨q, 0, none⟩))] Tryz.func41 Tryz.ntmps41 rfl rfl ?_
  repeat' ((conv => whnf); first | refine sgo ⟨tab_ok⟩ ?_ | refine br_not ?_ | refine br_t rfl ?_ | refine br_f rfl ?_ | refine br_t (by assumption) ?_ | refine br_f (by assumption) ?_ | refine br_t (decide_eq_true (by assumption)) ?_ | refine br_f (decide_eq_false (by assumption)) ?_ | refine br_t (beq_iff_eq.2 (by assumption)) ?_ | refine br_f (beq_eq_false_iff_ne.2 (by assumption)) ?_ | intro b | refine drA ⟨tab_ok⟩ [] ?_ | refine kpt ?_ | refine callN (f := 30) (ι := NrP w.heap.size K.L.length) (fun x => .v (.slice x.1.2.1 K.L.length x.1.2.2)) (fun x => rwO leaE x.1.1 x.1.2.1 K.L.length x.1.2.2 K.L true) (fun w1 hH => toNp (leasesK (Hold.ob hH (A := kO lo q p K S true) 0 rfl) (by omega)) hH.upd.size) (fun ls => ?_) | refine fin_s ?_ | refine fin_r ?_ ?_ | refine fin_e ?_ ?_)
  conv => whnf
  obtain ⟨⟨l0, A0, c0⟩, hl0, hA0⟩ := ls
  have hA0 : 0 < K.L.length → ∃ g, A0 = some ⟨g, 0, none⟩ := hA0
  refine lp ⟨tab_ok⟩ (ι := {x : (Nat × List Nat × Nr) × (KV × List EvV) // x.1.1 ≤ K.L.length ∧ obF K x.1.1 = x.2}) (fun x => match x with | ⟨((k, Sk, (_, A3, c3)), (Kk, es)), _⟩ => ⟨[(0, .v (.pointer (some ⟨q, 0, none⟩))), (3, .v (.slice A3 es.length c3)), (4, .v (.slice A0 K.L.length c0)), (5, .i .i64 (k : Int))], [], [kO lo q p Kk Sk true, rwO evE w.heap.size A3 es.length c3 es true, rwO leaE l0 A0 K.L.length c0 K.L true]⟩) (fun x => K.L.length - x.1.1.1) ⟨((0, S, (0, none, 0)), (K, [])), Nat.zero_le _, rfl⟩ (wk ?_) ?_
  · repeat' (first | exact trivial | rfl | ((conv => whnf); refine And.intro ?_ ?_))
  rintro ⟨⟨⟨k, Sk, ⟨u0, A3, c3⟩⟩, ⟨Kk, es⟩⟩, hkl, hfo⟩
  have hkl : k ≤ K.L.length := hkl
  have hfo : obF K k = (Kk, es) := hfo
  have HK : KI c n T m Kk := by have := KI.ob hi k; rw [hfo] at this; exact this
  have hes : es.length ≤ k := by have := ob_len K k; rw [hfo] at this; exact this
  by_cases hlt : k < K.L.length
  · obtain ⟨l, hl⟩ : ∃ l, K.L[k]? = some l := ⟨_, List.getElem?_eq_getElem (by omega)⟩
    have hs := ob_next hl
    rw [hfo] at hs
    obtain ⟨g0, rfl⟩ := hA0 (by omega)
    by_cases h2 : l.ph = 2
    · have H1 : KI c n T m (ldK Kk l l.ma) := KI.ld HK l l.ma
      have hs2 : obF K (k + 1) = (hearK (ldK Kk l l.ma) l.se ⟨9, 0, 0, 0⟩, es ++ evs l.se (hearM (ldK Kk l l.ma) l.se ⟨9, 0, 0, 0⟩)) := by rw [hs]; unfold obStep; rw [if_pos h2]
      have hm1 := hearM_len (ldK Kk l l.ma) l.se ⟨9, 0, 0, 0⟩
      repeat' ((conv => whnf); first | refine sgo ⟨tab_ok⟩ ?_ | refine br_not ?_ | refine br_t rfl ?_ | refine br_f rfl ?_ | refine br_t (by assumption) ?_ | refine br_f (by assumption) ?_ | refine br_t (decide_eq_true (by assumption)) ?_ | refine br_f (decide_eq_false (by assumption)) ?_ | refine br_t (beq_iff_eq.2 (by assumption)) ?_ | refine br_f (beq_eq_false_iff_ne.2 (by assumption)) ?_ | intro b | refine br_t (decide_eq_true (by omega)) ?_ | refine br_f (decide_eq_false (by omega)) ?_ | refine wr_i ?_ | refine kpt ?_ | refine drA ⟨tab_ok⟩ [6, 12] ?_ | refine And.intro ?_ ?_ | refine br_t (beq_iff_eq.2 h2) ?_ | refine opiv ⟨tab_ok⟩ (by rfl) (by rfl) (by rfl) (by rfl) (by rfl) (by rfl) ⟨by omega, by omega⟩ ?_ | refine puiv ⟨tab_ok⟩ (by rfl) (by rfl) (by rfl) (by rfl) (by rfl) (by rfl) ⟨by omega, by omega⟩ ?_ | refine opfv ⟨tab_ok⟩ (by rfl) (by rfl) (by rfl) (by rfl) ?_ | refine pufv ⟨tab_ok⟩ (by rfl) (by rfl) (by rfl) (by rfl) ?_ | refine opxc (g := g0) (off := 0 + k * 10 + 6) (.i .i64 l.ph) (fun w hH => rng_sub (n := 1) (Ek.rng (Hold.ob hH (A := rwO leaE l0 (some ⟨g0, 0, none⟩) K.L.length c0 K.L true) 2 rfl) hl) rfl) ⟨tab_ok⟩ (by rfl) (by rfl) (by simp only [Go.WideShapes.add_plain]; rfl) ?_ | refine opxc (g := g0) (off := 0 + k * 10 + 5) (.i .i64 l.ca) (fun w hH => rng_sub (n := 1) (Ek.rng (Hold.ob hH (A := rwO leaE l0 (some ⟨g0, 0, none⟩) K.L.length c0 K.L true) 2 rfl) hl) rfl) ⟨tab_ok⟩ (by rfl) (by rfl) (by simp only [Go.WideShapes.add_plain]; rfl) ?_ | refine opxc (g := g0) (off := 0 + k * 10 + 4) (.i .i64 l.ma) (fun w hH => rng_sub (n := 1) (Ek.rng (Hold.ob hH (A := rwO leaE l0 (some ⟨g0, 0, none⟩) K.L.length c0 K.L true) 2 rfl) hl) rfl) ⟨tab_ok⟩ (by rfl) (by rfl) (by simp only [Go.WideShapes.add_plain]; rfl) ?_ | refine opxc (g := g0) (off := 0 + k * 10 + 0) (.i .i64 l.se) (fun w hH => rng_sub (n := 1) (Ek.rng (Hold.ob hH (A := rwO leaE l0 (some ⟨g0, 0, none⟩) K.L.length c0 K.L true) 2 rfl) hl) rfl) ⟨tab_ok⟩ (by rfl) (by rfl) (by simp only [Go.WideShapes.add_plain]; rfl) ?_ | refine callH (f := 31) (.v (.pointer (some ⟨p.g, 0, none⟩))) (fun w hH => groupK (Hold.ob hH (A := kO lo q p Kk Sk true) 0 rfl)) ?_ | refine callO (f := 59) (A := kO lo q p Kk Sk true) 0 (fun _ => .i .i64 (loadR Kk.G l.ca l.ma).2) (fun S' => kO lo q p (ldK Kk l l.ma) S' true) (fun w hH hA => loadW hA l l.ma) (fun S1 => ?_) | refine callON (f := 43) (A := kO lo q p (ldK Kk l l.ma) S1 true) 0 (ι := List Nat × Nr) (fun x => .v (.slice x.2.2.1 (hearM (ldK Kk l l.ma) l.se ⟨9, 0, 0, 0⟩).length x.2.2.2)) (fun x => kO lo q p (hearK (ldK Kk l l.ma) l.se ⟨9, 0, 0, 0⟩) x.1 true) (fun x => rwO evE x.2.1 x.2.2.1 (hearM (ldK Kk l l.ma) l.se ⟨9, 0, 0, 0⟩).length x.2.2.2 (evs l.se (hearM (ldK Kk l l.ma) l.se ⟨9, 0, 0, 0⟩)) true) (fun w1 hH hA => hearW hA (by rw [H1.len]; have := Gr.ncars_bd c; omega) (by have := H1.ll; omega) l.se ⟨9, 0, 0, 0⟩ (fun h => H1.inc (H1.okl _ (has_mem h).1))) (fun x => ?_) | refine opao 1 3 (e := 81) (lo := w.heap.size) (size := 5) (bytes := 40) (z := .agg #[.int .i64 0, .int .i64 0, .int .i64 0, .int .i64 0, .int .i64 0]) (A := rwO evE w.heap.size A3 es.length c3 es true) (E := rwO evE x.2.1 x.2.2.1 (hearM (ldK Kk l l.ma) l.se ⟨9, 0, 0, 0⟩).length x.2.2.2 (evs l.se (hearM (ldK Kk l l.ma) l.se ⟨9, 0, 0, 0⟩)) true) (vals := rowsOf evC es) (cells := rowsOf evC (evs l.se (hearM (ldK Kk l l.ma) l.se ⟨9, 0, 0, 0⟩))) (zs := rowsOf evC (es ++ evs l.se (hearM (ldK Kk l l.ma) l.se ⟨9, 0, 0, 0⟩))) (n2 := (es ++ evs l.se (hearM (ldK Kk l l.ma) l.se ⟨9, 0, 0, 0⟩)).length) (fun A' c' => rwO evE w.heap.size A' (es ++ evs l.se (hearM (ldK Kk l l.ma) l.se ⟨9, 0, 0, 0⟩)).length c' (es ++ evs l.se (hearM (ldK Kk l l.ma) l.se ⟨9, 0, 0, 0⟩)) true) (by rfl) (by rfl) (by rfl) (by rfl) (by rfl) rfl rfl (fun w h => h) (fun A' c' w h => h) (fun _ _ => rfl) (fun w h => Ek.reads h) Tryz.underlying51 (by kernel_rfl) rfl (by decide) (by decide) (rowsOf_one' evE.one _) (by omega) (fun w hH => hH.upd.size) (by rw [List.length_append, evs_len]) (by rw [rowsOf_append]) (fun A' c' => ?_) | refine back ⟨((k + 1, x.1, (0, A', c')), (hearK (ldK Kk l l.ma) l.se ⟨9, 0, 0, 0⟩, es ++ evs l.se (hearM (ldK Kk l l.ma) l.se ⟨9, 0, 0, 0⟩))), by show k + 1 ≤ _; omega, hs2⟩ (wkd ?_) ?_ | refine fin_s ?_ | refine fin_r ?_ ?_ | refine fin_e ?_ ?_)
      all_goals first | (show K.L.length - (k + 1) < K.L.length - k; omega) | skip
      all_goals (repeat' (first | exact trivial | rfl | ((conv => whnf); refine And.intro ?_ ?_)))
    · by_cases h4 : l.ph = 4
      · have H1 : KI c n T m (ldK Kk l 0) := KI.ld HK l 0
        have hs2 : obF K (k + 1) = (hearK (ldK Kk l 0) l.se ⟨13, 0, 0, 0⟩, es ++ evs l.se (hearM (ldK Kk l 0) l.se ⟨13, 0, 0, 0⟩)) := by rw [hs]; unfold obStep; rw [if_neg h2, if_pos h4]
        have hm1 := hearM_len (ldK Kk l 0) l.se ⟨13, 0, 0, 0⟩
        repeat' ((conv => whnf); first | refine sgo ⟨tab_ok⟩ ?_ | refine br_not ?_ | refine br_t rfl ?_ | refine br_f rfl ?_ | refine br_t (by assumption) ?_ | refine br_f (by assumption) ?_ | refine br_t (decide_eq_true (by assumption)) ?_ | refine br_f (decide_eq_false (by assumption)) ?_ | refine br_t (beq_iff_eq.2 (by assumption)) ?_ | refine br_f (beq_eq_false_iff_ne.2 (by assumption)) ?_ | intro b | refine br_t (decide_eq_true (by omega)) ?_ | refine br_f (decide_eq_false (by omega)) ?_ | refine wr_i ?_ | refine kpt ?_ | refine drA ⟨tab_ok⟩ [6] ?_ | refine And.intro ?_ ?_ | refine br_t (beq_iff_eq.2 h4) ?_ | refine br_f (beq_eq_false_iff_ne.2 h2) ?_ | refine opiv ⟨tab_ok⟩ (by rfl) (by rfl) (by rfl) (by rfl) (by rfl) (by rfl) ⟨by omega, by omega⟩ ?_ | refine puiv ⟨tab_ok⟩ (by rfl) (by rfl) (by rfl) (by rfl) (by rfl) (by rfl) ⟨by omega, by omega⟩ ?_ | refine opfv ⟨tab_ok⟩ (by rfl) (by rfl) (by rfl) (by rfl) ?_ | refine pufv ⟨tab_ok⟩ (by rfl) (by rfl) (by rfl) (by rfl) ?_ | refine opxc (g := g0) (off := 0 + k * 10 + 6) (.i .i64 l.ph) (fun w hH => rng_sub (n := 1) (Ek.rng (Hold.ob hH (A := rwO leaE l0 (some ⟨g0, 0, none⟩) K.L.length c0 K.L true) 2 rfl) hl) rfl) ⟨tab_ok⟩ (by rfl) (by rfl) (by simp only [Go.WideShapes.add_plain]; rfl) ?_ | refine opxc (g := g0) (off := 0 + k * 10 + 5) (.i .i64 l.ca) (fun w hH => rng_sub (n := 1) (Ek.rng (Hold.ob hH (A := rwO leaE l0 (some ⟨g0, 0, none⟩) K.L.length c0 K.L true) 2 rfl) hl) rfl) ⟨tab_ok⟩ (by rfl) (by rfl) (by simp only [Go.WideShapes.add_plain]; rfl) ?_ | refine opxc (g := g0) (off := 0 + k * 10 + 4) (.i .i64 l.ma) (fun w hH => rng_sub (n := 1) (Ek.rng (Hold.ob hH (A := rwO leaE l0 (some ⟨g0, 0, none⟩) K.L.length c0 K.L true) 2 rfl) hl) rfl) ⟨tab_ok⟩ (by rfl) (by rfl) (by simp only [Go.WideShapes.add_plain]; rfl) ?_ | refine opxc (g := g0) (off := 0 + k * 10 + 0) (.i .i64 l.se) (fun w hH => rng_sub (n := 1) (Ek.rng (Hold.ob hH (A := rwO leaE l0 (some ⟨g0, 0, none⟩) K.L.length c0 K.L true) 2 rfl) hl) rfl) ⟨tab_ok⟩ (by rfl) (by rfl) (by simp only [Go.WideShapes.add_plain]; rfl) ?_ | refine callH (f := 31) (.v (.pointer (some ⟨p.g, 0, none⟩))) (fun w hH => groupK (Hold.ob hH (A := kO lo q p Kk Sk true) 0 rfl)) ?_ | refine callO (f := 59) (A := kO lo q p Kk Sk true) 0 (fun _ => .i .i64 (loadR Kk.G l.ca 0).2) (fun S' => kO lo q p (ldK Kk l 0) S' true) (fun w hH hA => loadW hA l 0) (fun S1 => ?_) | refine callON (f := 43) (A := kO lo q p (ldK Kk l 0) S1 true) 0 (ι := List Nat × Nr) (fun x => .v (.slice x.2.2.1 (hearM (ldK Kk l 0) l.se ⟨13, 0, 0, 0⟩).length x.2.2.2)) (fun x => kO lo q p (hearK (ldK Kk l 0) l.se ⟨13, 0, 0, 0⟩) x.1 true) (fun x => rwO evE x.2.1 x.2.2.1 (hearM (ldK Kk l 0) l.se ⟨13, 0, 0, 0⟩).length x.2.2.2 (evs l.se (hearM (ldK Kk l 0) l.se ⟨13, 0, 0, 0⟩)) true) (fun w1 hH hA => hearW hA (by rw [H1.len]; have := Gr.ncars_bd c; omega) (by have := H1.ll; omega) l.se ⟨13, 0, 0, 0⟩ (fun h => H1.inc (H1.okl _ (has_mem h).1))) (fun x => ?_) | refine opao 1 3 (e := 81) (lo := w.heap.size) (size := 5) (bytes := 40) (z := .agg #[.int .i64 0, .int .i64 0, .int .i64 0, .int .i64 0, .int .i64 0]) (A := rwO evE w.heap.size A3 es.length c3 es true) (E := rwO evE x.2.1 x.2.2.1 (hearM (ldK Kk l 0) l.se ⟨13, 0, 0, 0⟩).length x.2.2.2 (evs l.se (hearM (ldK Kk l 0) l.se ⟨13, 0, 0, 0⟩)) true) (vals := rowsOf evC es) (cells := rowsOf evC (evs l.se (hearM (ldK Kk l 0) l.se ⟨13, 0, 0, 0⟩))) (zs := rowsOf evC (es ++ evs l.se (hearM (ldK Kk l 0) l.se ⟨13, 0, 0, 0⟩))) (n2 := (es ++ evs l.se (hearM (ldK Kk l 0) l.se ⟨13, 0, 0, 0⟩)).length) (fun A' c' => rwO evE w.heap.size A' (es ++ evs l.se (hearM (ldK Kk l 0) l.se ⟨13, 0, 0, 0⟩)).length c' (es ++ evs l.se (hearM (ldK Kk l 0) l.se ⟨13, 0, 0, 0⟩)) true) (by rfl) (by rfl) (by rfl) (by rfl) (by rfl) rfl rfl (fun w h => h) (fun A' c' w h => h) (fun _ _ => rfl) (fun w h => Ek.reads h) Tryz.underlying51 (by kernel_rfl) rfl (by decide) (by decide) (rowsOf_one' evE.one _) (by omega) (fun w hH => hH.upd.size) (by rw [List.length_append, evs_len]) (by rw [rowsOf_append]) (fun A' c' => ?_) | refine back ⟨((k + 1, x.1, (0, A', c')), (hearK (ldK Kk l 0) l.se ⟨13, 0, 0, 0⟩, es ++ evs l.se (hearM (ldK Kk l 0) l.se ⟨13, 0, 0, 0⟩))), by show k + 1 ≤ _; omega, hs2⟩ (wkd ?_) ?_ | refine fin_s ?_ | refine fin_r ?_ ?_ | refine fin_e ?_ ?_)
        all_goals first | (show K.L.length - (k + 1) < K.L.length - k; omega) | skip
        all_goals (repeat' (first | exact trivial | rfl | ((conv => whnf); refine And.intro ?_ ?_)))
      · have hs2 : obF K (k + 1) = (Kk, es) := by rw [hs]; unfold obStep; rw [if_neg h2, if_neg h4]
        repeat' ((conv => whnf); first | refine sgo ⟨tab_ok⟩ ?_ | refine br_not ?_ | refine br_t rfl ?_ | refine br_f rfl ?_ | refine br_t (by assumption) ?_ | refine br_f (by assumption) ?_ | refine br_t (decide_eq_true (by assumption)) ?_ | refine br_f (decide_eq_false (by assumption)) ?_ | refine br_t (beq_iff_eq.2 (by assumption)) ?_ | refine br_f (beq_eq_false_iff_ne.2 (by assumption)) ?_ | intro b | refine br_t (decide_eq_true (by omega)) ?_ | refine br_f (decide_eq_false (by omega)) ?_ | refine wr_i ?_ | refine kpt ?_ | refine br_f (beq_eq_false_iff_ne.2 h4) ?_ | refine br_f (beq_eq_false_iff_ne.2 h2) ?_ | refine opiv ⟨tab_ok⟩ (by rfl) (by rfl) (by rfl) (by rfl) (by rfl) (by rfl) ⟨by omega, by omega⟩ ?_ | refine puiv ⟨tab_ok⟩ (by rfl) (by rfl) (by rfl) (by rfl) (by rfl) (by rfl) ⟨by omega, by omega⟩ ?_ | refine opfv ⟨tab_ok⟩ (by rfl) (by rfl) (by rfl) (by rfl) ?_ | refine pufv ⟨tab_ok⟩ (by rfl) (by rfl) (by rfl) (by rfl) ?_ | refine opxc (g := g0) (off := 0 + k * 10 + 6) (.i .i64 l.ph) (fun w hH => rng_sub (n := 1) (Ek.rng (Hold.ob hH (A := rwO leaE l0 (some ⟨g0, 0, none⟩) K.L.length c0 K.L true) 2 rfl) hl) rfl) ⟨tab_ok⟩ (by rfl) (by rfl) (by simp only [Go.WideShapes.add_plain]; rfl) ?_ | refine opxc (g := g0) (off := 0 + k * 10 + 5) (.i .i64 l.ca) (fun w hH => rng_sub (n := 1) (Ek.rng (Hold.ob hH (A := rwO leaE l0 (some ⟨g0, 0, none⟩) K.L.length c0 K.L true) 2 rfl) hl) rfl) ⟨tab_ok⟩ (by rfl) (by rfl) (by simp only [Go.WideShapes.add_plain]; rfl) ?_ | refine opxc (g := g0) (off := 0 + k * 10 + 4) (.i .i64 l.ma) (fun w hH => rng_sub (n := 1) (Ek.rng (Hold.ob hH (A := rwO leaE l0 (some ⟨g0, 0, none⟩) K.L.length c0 K.L true) 2 rfl) hl) rfl) ⟨tab_ok⟩ (by rfl) (by rfl) (by simp only [Go.WideShapes.add_plain]; rfl) ?_ | refine opxc (g := g0) (off := 0 + k * 10 + 0) (.i .i64 l.se) (fun w hH => rng_sub (n := 1) (Ek.rng (Hold.ob hH (A := rwO leaE l0 (some ⟨g0, 0, none⟩) K.L.length c0 K.L true) 2 rfl) hl) rfl) ⟨tab_ok⟩ (by rfl) (by rfl) (by simp only [Go.WideShapes.add_plain]; rfl) ?_ | refine back ⟨((k + 1, Sk, (0, A3, c3)), (Kk, es)), by show k + 1 ≤ _; omega, hs2⟩ (wkd ?_) ?_ | refine fin_s ?_ | refine fin_r ?_ ?_ | refine fin_e ?_ ?_)
        all_goals first | (show K.L.length - (k + 1) < K.L.length - k; omega) | skip
        all_goals (repeat' (first | exact trivial | rfl | ((conv => whnf); refine And.intro ?_ ?_)))
  · obtain rfl : k = K.L.length := by omega
    have hE : obE K = es := by unfold obE; rw [hfo]
    have hKK : obK K = Kk := by unfold obK; rw [hfo]
    rw [hE, hKK]
    repeat' ((conv => whnf); first | refine sgo ⟨tab_ok⟩ ?_ | refine br_not ?_ | refine br_t rfl ?_ | refine br_f rfl ?_ | refine br_t (by assumption) ?_ | refine br_f (by assumption) ?_ | refine br_t (decide_eq_true (by assumption)) ?_ | refine br_f (decide_eq_false (by assumption)) ?_ | refine br_t (beq_iff_eq.2 (by assumption)) ?_ | refine br_f (beq_eq_false_iff_ne.2 (by assumption)) ?_ | intro b | refine drA ⟨tab_ok⟩ [] ?_ | refine kpt ?_ | refine br_t (decide_eq_true (by omega)) ?_ | refine br_f (decide_eq_false (by omega)) ?_ | refine fin fun w' hH => ?_ | refine fin_s ?_ | refine fin_r ?_ ?_ | refine fin_e ?_ ?_)
    have o0 := Hold.ob hH (A := kO lo q p Kk Sk true) 0 rfl
    have o1 := Hold.ob hH (A := rwO evE w.heap.size A3 es.length c3 es true) 1 rfl
    exact ⟨(Sk, (w.heap.size, A3, c3)), rfl, o0, o1, hH.upd, hH.own _ (List.mem_cons_self ..) rfl, fun g hg => ⟨own_low o1 g hg, fun hg2 => pair_at (R := DisR) (fun _ _ h => h.symm) hH.dis (i := 0) (j := 1) rfl rfl (by decide) (.inl rfl) g hg2 hg⟩⟩
end
end Go.Proofs.YthmikjjnlahlbaaGreat.Lc
namespace Go.Proofs.YthmikjjnlahlbaaGreat.Lc
set_option linter.unusedSectionVars false
set_option linter.unusedVariables false
set_option linter.unusedSimpArgs false
open Go.RowKit Go.Proofs.YthmikjjnlahlbaaGreat.Ba Go.Proofs.YthmikjjnlahlbaaGreat.Mem Go.Proofs.YthmikjjnlahlbaaGreat.En Go.Proofs.YthmikjjnlahlbaaGreat.Ty Go.Proofs.YthmikjjnlahlbaaGreat.Mo Go.Proofs.YthmikjjnlahlbaaGreat.St Go.Proofs.YthmikjjnlahlbaaGreat.Co
open Go.Proofs.YthmikjjnlahlbaaGreat.Ri (MsgV msgC)
open Go.Proofs.YthmikjjnlahlbaaGreat.Gr (loadR loadG hallR hallG pressR pressG curtR curtG faultR faultG GI doR fltX disW one fault_in)
open Go.Proofs.YthmikjjnlahlbaaGreat.Fl (leaE)
set_option maxRecDepth 100000
attribute [local irreducible] Go.Calls
def gdo (G : Gr.GrV) (o : KopV) : Gr.GrV := if 4 ≤ o.k ∧ o.k ≤ 8 then (doR G (o.k - 3) o.a o.b (o.b == 1)).1 else G
def doK (K : KV) (o : KopV) : KV := if o.k = 1 then ansK K o.q else if o.k = 2 then hearK K o.q.se o.m else if o.k = 3 then goneK K o.q.se else if o.k = 10 then obK K else { K with G := gdo K.G o }
def doE (K : KV) (o : KopV) : List EvV := if o.k = 1 then evs o.q.se [ansM K o.q] else if o.k = 2 then evs o.q.se (hearM K o.q.se o.m) else if o.k = 10 then obE K else []
theorem gdo_id {G : Gr.GrV} {o : KopV} (h : ¬ (4 ≤ o.k ∧ o.k ≤ 8)) : gdo G o = G := by unfold gdo; rw [if_neg h]
theorem doR_w (G : Gr.GrV) (k a b : Int) (y : Bool) (hk : 1 ≤ k ∧ k ≤ 5) : (doR G k a b y).1.now = G.now ∧ (doR G k a b y).1.c = G.c ∧ ∀ z ∈ (doR G k a b y).1.waits, z.si = G.now ∨ ∃ u ∈ G.waits, z.si = u.si := by
  have id' : ∀ z ∈ G.waits, z.si = G.now ∨ ∃ u ∈ G.waits, z.si = u.si := fun z hz => .inr ⟨z, hz, rfl⟩
  have on : ∀ (f : CarV → CarV × Int), (one G a f).1.now = G.now ∧ (one G a f).1.c = G.c ∧ ∀ z ∈ (one G a f).1.waits, z.si = G.now ∨ ∃ u ∈ G.waits, z.si = u.si := fun f =>
    ⟨(Gr.one_w _ _).2.1, one_c _ _ _, by rw [(Gr.one_w _ _).1]; exact id'⟩
  unfold doR
  split
  · unfold Gr.hallR; split
    · split
      · refine ⟨rfl, rfl, fun z hz => ?_⟩
        rcases List.mem_append.1 hz with h | h
        · exact id' z h
        · rw [List.mem_singleton] at h; subst h; exact .inl rfl
      · exact ⟨rfl, rfl, id'⟩
    · exact ⟨rfl, rfl, id'⟩
  split
  · unfold Gr.pressR; split
    · exact on _
    · exact ⟨rfl, rfl, id'⟩
  split
  · exact on _
  split
  · exact on _
  split
  · unfold Gr.faultR; split
    · split
      · refine ⟨(on _).1, (on _).2.1, fun z hz => ?_⟩
        obtain ⟨u, hu, rfl⟩ := List.mem_map.1 hz
        refine .inr ⟨u, hu, ?_⟩
        unfold disW; split <;> rfl
      · exact ⟨rfl, rfl, id'⟩
    · exact on _
  omega
theorem gdo_w (G : Gr.GrV) (o : KopV) : (gdo G o).now = G.now ∧ (gdo G o).c = G.c ∧ ∀ z ∈ (gdo G o).waits, z.si = G.now ∨ ∃ u ∈ G.waits, z.si = u.si := by
  unfold gdo; split
  · exact doR_w _ _ _ _ _ (by omega)
  · exact ⟨rfl, rfl, fun z hz => .inr ⟨z, hz, rfl⟩⟩
section
variable {c : CfgV} {n T m : Nat} {K : KV}
theorem KI.gdo (h : KI c n T m K) (o : KopV) : KI c (n + 1) T m { K with G := gdo K.G o } := by
  obtain ⟨e1, e2, e3⟩ := gdo_w K.G o
  refine ⟨?_, fun z hz => ?_, by show 0 ≤ (Lc.gdo K.G o).now ∧ _; rw [e1]; exact h.now, h.lq, h.okq, h.ll, h.okl⟩
  · show GI c (n + 1) T (Lc.gdo K.G o)
    unfold Lc.gdo; split
    · exact h.g.do_ _ _ _ _
    · exact h.g.more (Nat.le_succ n)
  · rcases e3 z hz with e | ⟨u, hu, e⟩
    · rw [e]; exact h.now
    · rw [e]; exact h.s u hu
theorem KI.do_ (h : KI c n T m K) (o : KopV) : KI c (n + 1) T m (doK K o) := by
  have up : ∀ {K' : KV}, KI c n T m K' → KI c (n + 1) T m K' := fun h => h.more (Nat.le_succ n) (Nat.le_refl _) (Nat.le_refl _)
  unfold doK
  split
  · exact up (h.ans _)
  split
  · exact up (h.hear _ _)
  split
  · exact up (h.gone _)
  split
  · exact up (KI.ob h _)
  · exact KI.gdo h o
end
section
variable {lo q : Nat} {p : Pt} {K : KV} {S : List Nat} {w : World} {c : CfgV} {n T m : Nat}
theorem hallW (h : KW lo q p K S w) (hl : K.G.waits.length ≤ 10000) (a b : Int) : Calls Tryz.prog 57 #[.pointer (some ⟨p.g, 0, none⟩), .int .i64 a, .int .i64 b] w fun e w' => ∃ S', e = .returned (.int .i64 (hallR K.G a b).2) ∧ KW lo q p { K with G := (doR K.G 1 a b (b == 1)).1 } S' w' ∧ Upd S w w' ∧ ∀ g ∈ S', g ∈ S ∨ w.heap.size ≤ g :=
  KW.grp h (doR_w K.G 1 a b (b == 1) (by decide)).2.1 (fun S1 hq => hallG hq hl a b)
theorem pressW (h : KW lo q p K S w) (a b : Int) : Calls Tryz.prog 58 #[.pointer (some ⟨p.g, 0, none⟩), .int .i64 a, .int .i64 b] w fun e w' => ∃ S', e = .returned (.int .i64 (pressR K.G a b).2) ∧ KW lo q p { K with G := (doR K.G 2 a b (b == 1)).1 } S' w' ∧ Upd S w w' ∧ ∀ g ∈ S', g ∈ S ∨ w.heap.size ≤ g :=
  KW.grp h (doR_w K.G 2 a b (b == 1) (by decide)).2.1 (fun S1 hq => pressG hq a b)
theorem loadW2 (h : KW lo q p K S w) (a b : Int) : Calls Tryz.prog 59 #[.pointer (some ⟨p.g, 0, none⟩), .int .i64 a, .int .i64 b] w fun e w' => ∃ S', e = .returned (.int .i64 (loadR K.G a b).2) ∧ KW lo q p { K with G := (doR K.G 3 a b (b == 1)).1 } S' w' ∧ Upd S w w' ∧ ∀ g ∈ S', g ∈ S ∨ w.heap.size ≤ g :=
  KW.grp h (doR_w K.G 3 a b (b == 1) (by decide)).2.1 (fun S1 hq => loadG hq a b)
theorem curtW (h : KW lo q p K S w) (a b : Int) : Calls Tryz.prog 60 #[.pointer (some ⟨p.g, 0, none⟩), .int .i64 a, .bool (b == 1)] w fun e w' => ∃ S', e = .returned (.int .i64 (curtR K.G a (b == 1)).2) ∧ KW lo q p { K with G := (doR K.G 4 a b (b == 1)).1 } S' w' ∧ Upd S w w' ∧ ∀ g ∈ S', g ∈ S ∨ w.heap.size ≤ g :=
  KW.grp h (doR_w K.G 4 a b (b == 1) (by decide)).2.1 (fun S1 hq => curtG hq a (b == 1))
theorem faultW (h : KW lo q p K S w) (hl : K.G.waits.length ≤ 1000000) (a b : Int) : Calls Tryz.prog 61 #[.pointer (some ⟨p.g, 0, none⟩), .int .i64 a, .bool (b == 1)] w fun e w' => ∃ S', e = .returned (.int .i64 (faultR K.G a (b == 1)).2) ∧ KW lo q p { K with G := (doR K.G 5 a b (b == 1)).1 } S' w' ∧ Upd S w w' ∧ ∀ g ∈ S', g ∈ S ∨ w.heap.size ≤ g :=
  KW.grp h (doR_w K.G 5 a b (b == 1) (by decide)).2.1 (fun S1 hq => faultG hq hl a (b == 1))
/-- What `do` answers and leaves. -/
def DoP (lo q : Nat) (p : Pt) (K' : KV) (es : List EvV) (S : List Nat) (w : World) (e : Ending) (w' : World) : Prop :=
  ∃ x : List Nat × Nr, e = .returned (.slice x.2.2.1 es.length x.2.2.2) ∧ KW lo q p K' x.1 w' ∧ (rwO evE x.2.1 x.2.2.1 es.length x.2.2.2 es true).st w' ∧ Upd S w w' ∧ (∀ g ∈ x.1, g ∈ S ∨ w.heap.size ≤ g) ∧ ∀ g ∈ blkOf x.2.2.1, w.heap.size ≤ g ∧ g ∉ x.1
theorem own_rebase {α : Type} {E : Ek α} {lo lo' n c : Nat} {A : Option Addr} {ls : List α} {w : World} (h : E.At lo A n c ls w) (hb : ∀ g ∈ blkOf A, lo' ≤ g) : E.At lo' A n c ls w := by
  refine ⟨h.1, ?_⟩
  rcases h.2 with h2 | ⟨g, cap, cur, hv, hbg, rest⟩
  · exact .inl h2
  · have hv' := hv
    simp at hv'
    exact .inr ⟨g, cap, cur, hv, hb g (by rw [hv'.1]; simp [blkOf]), rest⟩
theorem toD {P : Program} {F : FuncId} {args : Array Value} {w1 : World} {n0 n : Nat} {es : List EvV} {S : List Nat} {Φ : List Nat → World → Prop} (h : Calls P F args w1 fun e w' => ∃ x : List Nat × Nr, e = .returned (.slice x.2.2.1 n x.2.2.2) ∧ Φ x.1 w' ∧ (rwO evE x.2.1 x.2.2.1 n x.2.2.2 es true).st w' ∧ Upd S w1 w' ∧ (∀ g ∈ x.1, g ∈ S ∨ w1.heap.size ≤ g) ∧ ∀ g ∈ blkOf x.2.2.1, w1.heap.size ≤ g ∧ g ∉ x.1) (h0 : n0 ≤ w1.heap.size) :
    Calls P F args w1 fun e w' => ∃ x : List Nat × Option Addr × Nat, e = .returned (.slice x.2.1 n x.2.2) ∧ Φ x.1 w' ∧ (rwO evE n0 x.2.1 n x.2.2 es true).st w' ∧ Upd S w1 w' ∧ (∀ g ∈ x.1, g ∈ S ∨ w1.heap.size ≤ g) ∧ ∀ g ∈ (rwO evE n0 x.2.1 n x.2.2 es true).F, w1.heap.size ≤ g ∧ g ∉ x.1 := by
  refine h.mono ?_
  rintro e w' ⟨⟨S', lo, A, c⟩, rfl, h1, h2, h3, h4, h5⟩
  exact ⟨(S', A, c), rfl, h1, own_rebase h2 (fun g hg => Nat.le_trans h0 (h5 g hg).1), h3, h4, h5⟩
theorem DoP.nil {w' : World} {K' : KV} {S' : List Nat} (h : KW lo q p K' S' w') (u : Upd S w w') (n : ∀ g ∈ S', g ∈ S ∨ w.heap.size ≤ g) : DoP lo q p K' [] S w (.returned (.slice none 0 0)) w' :=
  ⟨(S', w.heap.size, none, 0), rfl, h, Ek.nil _ _ _, u, n, by intro g hg; cases hg⟩
theorem hold_do {nt : Nat} (h : KW lo q p K S w) : Hold ⟨Tryz.prog, tab, S, w, nt, []⟩ [] [kO lo q p K S true] w :=
  Hold.addObj (Hold.nil _ tab S _ w) (kO lo q p K S true) h (fun _ g hg => .inl hg) (by intro r hr; cases hr) (by intro A hA; cases hA)
attribute [local irreducible] ansK ansM hearK hearM goneK obK obE doR Gr.hallR pressR loadR curtR faultR evs
theorem doT1 (h : KW lo q p K S w) (hi : KI c n T m K) (hm : m ≤ 10000) (o : KopV) (h1 : o.k = 1) :
    Calls Tryz.prog 27 #[.pointer (some ⟨q, 0, none⟩), .agg (kopC o).toArray] w (DoP lo q p (ansK K o.q) (evs o.q.se [ansM K o.q]) S w) := by
  have hll := hi.ll
  have hlq := hi.lq
  have he1 : (evs o.q.se [ansM K o.q]).length = 1 := evs_len _ _
  refine entH tab_ok (hold_do h) [.v (.pointer (some ⟨q, 0, none⟩)), .a [.i .i64 o.k, .i .i64 o.a, .i .i64 o.b, .i .i64 o.q.se, .i .i64 o.q.fl, .i .i64 o.q.fm, .i .i64 o.q.to, .i .i64 o.q.ma, .i .i64 o.m.ki, .i .i64 o.m.a, .i .i64 o.m.b, .i .i64 o.m.c]] Tryz.func27 Tryz.ntmps27 rfl rfl ?_
  repeat' ((conv => whnf); first | refine sgo ⟨tab_ok⟩ ?_ | refine br_not ?_ | refine br_t rfl ?_ | refine br_f rfl ?_ | refine br_t (by assumption) ?_ | refine br_f (by assumption) ?_ | refine br_t (decide_eq_true (by assumption)) ?_ | refine br_f (decide_eq_false (by assumption)) ?_ | refine br_t (beq_iff_eq.2 (by assumption)) ?_ | refine br_f (beq_eq_false_iff_ne.2 (by assumption)) ?_ | intro b | refine drA ⟨tab_ok⟩ [] ?_ | refine kpt ?_ | refine callON (f := 39) (A := kO lo q p K S true) 0 (ι := List Nat × Option Addr × Nat) (fun x => .v (.slice x.2.1 1 x.2.2)) (fun x => kO lo q p (ansK K o.q) x.1 true) (fun x => rwO evE w.heap.size x.2.1 1 x.2.2 (evs o.q.se [ansM K o.q]) true) (fun w1 hH hA => toD (Φ := fun S' => KW lo q p (ansK K o.q) S') (Co.askK hA (by omega) (by omega) o.q) hH.upd.size) (fun x => ?_) | refine fin fun w' hH => ?_ | refine fin_s ?_ | refine fin_r ?_ ?_ | refine fin_e ?_ ?_)
  have o0 := Hold.ob hH (A := kO lo q p (ansK K o.q) x.1 true) 0 rfl
  have o1 := Hold.ob hH (A := rwO evE w.heap.size x.2.1 1 x.2.2 (evs o.q.se [ansM K o.q]) true) 1 rfl
  refine ⟨(x.1, (w.heap.size, x.2)), by rw [he1]; rfl, o0, by rw [he1]; exact o1, hH.upd, hH.own _ (List.mem_cons_self ..) rfl, fun g hg => ⟨own_low o1 g hg, fun hg2 => pair_at (R := DisR) (fun _ _ h => h.symm) hH.dis (i := 0) (j := 1) rfl rfl (by decide) (.inl rfl) g hg2 hg⟩⟩
theorem doT2 (h : KW lo q p K S w) (hi : KI c n T m K) (hn : n ≤ 10000) (hm : m ≤ 10000) (o : KopV) (h1 : ¬ o.k = 1) (h2 : o.k = 2) :
    Calls Tryz.prog 27 #[.pointer (some ⟨q, 0, none⟩), .agg (kopC o).toArray] w (DoP lo q p (hearK K o.q.se o.m) (evs o.q.se (hearM K o.q.se o.m)) S w) := by
  have hll := hi.ll
  have hlq := hi.lq
  have hw := hi.g.2.2.2.2
  refine entH tab_ok (hold_do h) [.v (.pointer (some ⟨q, 0, none⟩)), .a [.i .i64 o.k, .i .i64 o.a, .i .i64 o.b, .i .i64 o.q.se, .i .i64 o.q.fl, .i .i64 o.q.fm, .i .i64 o.q.to, .i .i64 o.q.ma, .i .i64 o.m.ki, .i .i64 o.m.a, .i .i64 o.m.b, .i .i64 o.m.c]] Tryz.func27 Tryz.ntmps27 rfl rfl ?_
  repeat' ((conv => whnf); first | refine sgo ⟨tab_ok⟩ ?_ | refine br_not ?_ | refine br_t rfl ?_ | refine br_f rfl ?_ | refine br_t (by assumption) ?_ | refine br_f (by assumption) ?_ | refine br_t (decide_eq_true (by assumption)) ?_ | refine br_f (decide_eq_false (by assumption)) ?_ | refine br_t (beq_iff_eq.2 (by assumption)) ?_ | refine br_f (beq_eq_false_iff_ne.2 (by assumption)) ?_ | intro b | refine drA ⟨tab_ok⟩ [] ?_ | refine kpt ?_ | refine callON (f := 43) (A := kO lo q p K S true) 0 (ι := List Nat × Option Addr × Nat) (fun x => .v (.slice x.2.1 ((evs o.q.se (hearM K o.q.se o.m)).length) x.2.2)) (fun x => kO lo q p (hearK K o.q.se o.m) x.1 true) (fun x => rwO evE w.heap.size x.2.1 ((evs o.q.se (hearM K o.q.se o.m)).length) x.2.2 (evs o.q.se (hearM K o.q.se o.m)) true) (fun w1 hH hA => toD (Φ := fun S' => KW lo q p (hearK K o.q.se o.m) S') (by have := hearW hA (by rw [hi.len]; have := Gr.ncars_bd c; omega) (by omega) o.q.se o.m (fun h => hi.inc (hi.okl _ (has_mem h).1)); rw [← evs_len o.q.se (hearM K o.q.se o.m)] at this; exact this) hH.upd.size) (fun x => ?_) | refine fin fun w' hH => ?_ | refine fin_s ?_ | refine fin_r ?_ ?_ | refine fin_e ?_ ?_)
  have o0 := Hold.ob hH (A := kO lo q p (hearK K o.q.se o.m) x.1 true) 0 rfl
  have o1 := Hold.ob hH (A := rwO evE w.heap.size x.2.1 ((evs o.q.se (hearM K o.q.se o.m)).length) x.2.2 (evs o.q.se (hearM K o.q.se o.m)) true) 1 rfl
  refine ⟨(x.1, (w.heap.size, x.2)), rfl, o0, o1, hH.upd, hH.own _ (List.mem_cons_self ..) rfl, fun g hg => ⟨own_low o1 g hg, fun hg2 => pair_at (R := DisR) (fun _ _ h => h.symm) hH.dis (i := 0) (j := 1) rfl rfl (by decide) (.inl rfl) g hg2 hg⟩⟩
theorem doT10 (h : KW lo q p K S w) (hi : KI c n T m K) (hn : n ≤ 10000) (hm : m ≤ 10000) (o : KopV) (h1 : ¬ o.k = 1) (h2 : ¬ o.k = 2) (h3 : ¬ o.k = 3) (h4 : ¬ o.k = 4) (h5 : ¬ o.k = 5) (h6 : ¬ o.k = 6) (h7 : ¬ o.k = 7) (h8 : ¬ o.k = 8) (h10 : o.k = 10) :
    Calls Tryz.prog 27 #[.pointer (some ⟨q, 0, none⟩), .agg (kopC o).toArray] w (DoP lo q p (obK K) (obE K) S w) := by
  have hll := hi.ll
  have hlq := hi.lq
  have hw := hi.g.2.2.2.2
  refine entH tab_ok (hold_do h) [.v (.pointer (some ⟨q, 0, none⟩)), .a [.i .i64 o.k, .i .i64 o.a, .i .i64 o.b, .i .i64 o.q.se, .i .i64 o.q.fl, .i .i64 o.q.fm, .i .i64 o.q.to, .i .i64 o.q.ma, .i .i64 o.m.ki, .i .i64 o.m.a, .i .i64 o.m.b, .i .i64 o.m.c]] Tryz.func27 Tryz.ntmps27 rfl rfl ?_
  repeat' ((conv => whnf); first | refine sgo ⟨tab_ok⟩ ?_ | refine br_not ?_ | refine br_t rfl ?_ | refine br_f rfl ?_ | refine br_t (by assumption) ?_ | refine br_f (by assumption) ?_ | refine br_t (decide_eq_true (by assumption)) ?_ | refine br_f (decide_eq_false (by assumption)) ?_ | refine br_t (beq_iff_eq.2 (by assumption)) ?_ | refine br_f (beq_eq_false_iff_ne.2 (by assumption)) ?_ | intro b | refine drA ⟨tab_ok⟩ [] ?_ | refine kpt ?_ | refine callON (f := 41) (A := kO lo q p K S true) 0 (ι := List Nat × Option Addr × Nat) (fun x => .v (.slice x.2.1 ((obE K).length) x.2.2)) (fun x => kO lo q p (obK K) x.1 true) (fun x => rwO evE w.heap.size x.2.1 ((obE K).length) x.2.2 (obE K) true) (fun w1 hH hA => toD (Φ := fun S' => KW lo q p (obK K) S') (obeysT hA hi hm) hH.upd.size) (fun x => ?_) | refine fin fun w' hH => ?_ | refine fin_s ?_ | refine fin_r ?_ ?_ | refine fin_e ?_ ?_)
  have o0 := Hold.ob hH (A := kO lo q p (obK K) x.1 true) 0 rfl
  have o1 := Hold.ob hH (A := rwO evE w.heap.size x.2.1 ((obE K).length) x.2.2 (obE K) true) 1 rfl
  refine ⟨(x.1, (w.heap.size, x.2)), rfl, o0, o1, hH.upd, hH.own _ (List.mem_cons_self ..) rfl, fun g hg => ⟨own_low o1 g hg, fun hg2 => pair_at (R := DisR) (fun _ _ h => h.symm) hH.dis (i := 0) (j := 1) rfl rfl (by decide) (.inl rfl) g hg2 hg⟩⟩
theorem doT3 (h : KW lo q p K S w) (hi : KI c n T m K) (hn : n ≤ 10000) (hm : m ≤ 10000) (o : KopV) (h1 : ¬ o.k = 1) (h2 : ¬ o.k = 2) (h3 : o.k = 3) :
    Calls Tryz.prog 27 #[.pointer (some ⟨q, 0, none⟩), .agg (kopC o).toArray] w (DoP lo q p (goneK K o.q.se) [] S w) := by
  have hll := hi.ll
  have hlq := hi.lq
  have hw := hi.g.2.2.2.2
  refine entH tab_ok (hold_do h) [.v (.pointer (some ⟨q, 0, none⟩)), .a [.i .i64 o.k, .i .i64 o.a, .i .i64 o.b, .i .i64 o.q.se, .i .i64 o.q.fl, .i .i64 o.q.fm, .i .i64 o.q.to, .i .i64 o.q.ma, .i .i64 o.m.ki, .i .i64 o.m.a, .i .i64 o.m.b, .i .i64 o.m.c]] Tryz.func27 Tryz.ntmps27 rfl rfl ?_
  repeat' ((conv => whnf); first | refine sgo ⟨tab_ok⟩ ?_ | refine br_not ?_ | refine br_t rfl ?_ | refine br_f rfl ?_ | refine br_t (by assumption) ?_ | refine br_f (by assumption) ?_ | refine br_t (decide_eq_true (by assumption)) ?_ | refine br_f (decide_eq_false (by assumption)) ?_ | refine br_t (beq_iff_eq.2 (by assumption)) ?_ | refine br_f (beq_eq_false_iff_ne.2 (by assumption)) ?_ | intro b | refine drA ⟨tab_ok⟩ [] ?_ | refine kpt ?_ | refine callH (f := 31) (.v (.pointer (some ⟨p.g, 0, none⟩))) (fun w hH => groupK (Hold.ob hH (A := kO lo q p K S true) 0 rfl)) ?_ | refine callO (f := 42) (A := kO lo q p K S true) 0 (fun _ => .t []) (fun S' => kO lo q p (goneK K o.q.se) S' true) (fun w hH hA => goneW hA (by omega) (by omega) o.q.se) (fun S1 => ?_) | refine fin fun w' hH => ?_ | refine fin_s ?_ | refine fin_r ?_ ?_ | refine fin_e ?_ ?_)
  exact DoP.nil (Hold.ob hH (A := kO lo q p (goneK K o.q.se) S1 true) 0 rfl) hH.upd (hH.own _ (List.mem_cons_self ..) rfl)
theorem doT4 (h : KW lo q p K S w) (hi : KI c n T m K) (hn : n ≤ 10000) (hm : m ≤ 10000) (o : KopV) (h1 : ¬ o.k = 1) (h2 : ¬ o.k = 2) (h3 : ¬ o.k = 3) (h4 : o.k = 4) :
    Calls Tryz.prog 27 #[.pointer (some ⟨q, 0, none⟩), .agg (kopC o).toArray] w (DoP lo q p ({ K with G := (doR K.G 1 o.a o.b (o.b == 1)).1 }) [] S w) := by
  have hll := hi.ll
  have hlq := hi.lq
  have hw := hi.g.2.2.2.2
  refine entH tab_ok (hold_do h) [.v (.pointer (some ⟨q, 0, none⟩)), .a [.i .i64 o.k, .i .i64 o.a, .i .i64 o.b, .i .i64 o.q.se, .i .i64 o.q.fl, .i .i64 o.q.fm, .i .i64 o.q.to, .i .i64 o.q.ma, .i .i64 o.m.ki, .i .i64 o.m.a, .i .i64 o.m.b, .i .i64 o.m.c]] Tryz.func27 Tryz.ntmps27 rfl rfl ?_
  repeat' ((conv => whnf); first | refine sgo ⟨tab_ok⟩ ?_ | refine br_not ?_ | refine br_t rfl ?_ | refine br_f rfl ?_ | refine br_t (by assumption) ?_ | refine br_f (by assumption) ?_ | refine br_t (decide_eq_true (by assumption)) ?_ | refine br_f (decide_eq_false (by assumption)) ?_ | refine br_t (beq_iff_eq.2 (by assumption)) ?_ | refine br_f (beq_eq_false_iff_ne.2 (by assumption)) ?_ | intro b | refine drA ⟨tab_ok⟩ [] ?_ | refine kpt ?_ | refine callH (f := 31) (.v (.pointer (some ⟨p.g, 0, none⟩))) (fun w hH => groupK (Hold.ob hH (A := kO lo q p K S true) 0 rfl)) ?_ | refine callO (f := 57) (A := kO lo q p K S true) 0 (fun _ => .i .i64 (Gr.hallR K.G o.a o.b).2) (fun S' => kO lo q p ({ K with G := (doR K.G 1 o.a o.b (o.b == 1)).1 }) S' true) (fun w hH hA => hallW hA (by omega) o.a o.b) (fun S1 => ?_) | refine fin fun w' hH => ?_ | refine fin_s ?_ | refine fin_r ?_ ?_ | refine fin_e ?_ ?_)
  exact DoP.nil (Hold.ob hH (A := kO lo q p ({ K with G := (doR K.G 1 o.a o.b (o.b == 1)).1 }) S1 true) 0 rfl) hH.upd (hH.own _ (List.mem_cons_self ..) rfl)
theorem doT5 (h : KW lo q p K S w) (hi : KI c n T m K) (hn : n ≤ 10000) (hm : m ≤ 10000) (o : KopV) (h1 : ¬ o.k = 1) (h2 : ¬ o.k = 2) (h3 : ¬ o.k = 3) (h4 : ¬ o.k = 4) (h5 : o.k = 5) :
    Calls Tryz.prog 27 #[.pointer (some ⟨q, 0, none⟩), .agg (kopC o).toArray] w (DoP lo q p ({ K with G := (doR K.G 2 o.a o.b (o.b == 1)).1 }) [] S w) := by
  have hll := hi.ll
  have hlq := hi.lq
  have hw := hi.g.2.2.2.2
  refine entH tab_ok (hold_do h) [.v (.pointer (some ⟨q, 0, none⟩)), .a [.i .i64 o.k, .i .i64 o.a, .i .i64 o.b, .i .i64 o.q.se, .i .i64 o.q.fl, .i .i64 o.q.fm, .i .i64 o.q.to, .i .i64 o.q.ma, .i .i64 o.m.ki, .i .i64 o.m.a, .i .i64 o.m.b, .i .i64 o.m.c]] Tryz.func27 Tryz.ntmps27 rfl rfl ?_
  repeat' ((conv => whnf); first | refine sgo ⟨tab_ok⟩ ?_ | refine br_not ?_ | refine br_t rfl ?_ | refine br_f rfl ?_ | refine br_t (by assumption) ?_ | refine br_f (by assumption) ?_ | refine br_t (decide_eq_true (by assumption)) ?_ | refine br_f (decide_eq_false (by assumption)) ?_ | refine br_t (beq_iff_eq.2 (by assumption)) ?_ | refine br_f (beq_eq_false_iff_ne.2 (by assumption)) ?_ | intro b | refine drA ⟨tab_ok⟩ [] ?_ | refine kpt ?_ | refine callH (f := 31) (.v (.pointer (some ⟨p.g, 0, none⟩))) (fun w hH => groupK (Hold.ob hH (A := kO lo q p K S true) 0 rfl)) ?_ | refine callO (f := 58) (A := kO lo q p K S true) 0 (fun _ => .i .i64 (Gr.pressR K.G o.a o.b).2) (fun S' => kO lo q p ({ K with G := (doR K.G 2 o.a o.b (o.b == 1)).1 }) S' true) (fun w hH hA => pressW hA o.a o.b) (fun S1 => ?_) | refine fin fun w' hH => ?_ | refine fin_s ?_ | refine fin_r ?_ ?_ | refine fin_e ?_ ?_)
  exact DoP.nil (Hold.ob hH (A := kO lo q p ({ K with G := (doR K.G 2 o.a o.b (o.b == 1)).1 }) S1 true) 0 rfl) hH.upd (hH.own _ (List.mem_cons_self ..) rfl)
theorem doT6 (h : KW lo q p K S w) (hi : KI c n T m K) (hn : n ≤ 10000) (hm : m ≤ 10000) (o : KopV) (h1 : ¬ o.k = 1) (h2 : ¬ o.k = 2) (h3 : ¬ o.k = 3) (h4 : ¬ o.k = 4) (h5 : ¬ o.k = 5) (h6 : o.k = 6) :
    Calls Tryz.prog 27 #[.pointer (some ⟨q, 0, none⟩), .agg (kopC o).toArray] w (DoP lo q p ({ K with G := (doR K.G 3 o.a o.b (o.b == 1)).1 }) [] S w) := by
  have hll := hi.ll
  have hlq := hi.lq
  have hw := hi.g.2.2.2.2
  refine entH tab_ok (hold_do h) [.v (.pointer (some ⟨q, 0, none⟩)), .a [.i .i64 o.k, .i .i64 o.a, .i .i64 o.b, .i .i64 o.q.se, .i .i64 o.q.fl, .i .i64 o.q.fm, .i .i64 o.q.to, .i .i64 o.q.ma, .i .i64 o.m.ki, .i .i64 o.m.a, .i .i64 o.m.b, .i .i64 o.m.c]] Tryz.func27 Tryz.ntmps27 rfl rfl ?_
  repeat' ((conv => whnf); first | refine sgo ⟨tab_ok⟩ ?_ | refine br_not ?_ | refine br_t rfl ?_ | refine br_f rfl ?_ | refine br_t (by assumption) ?_ | refine br_f (by assumption) ?_ | refine br_t (decide_eq_true (by assumption)) ?_ | refine br_f (decide_eq_false (by assumption)) ?_ | refine br_t (beq_iff_eq.2 (by assumption)) ?_ | refine br_f (beq_eq_false_iff_ne.2 (by assumption)) ?_ | intro b | refine drA ⟨tab_ok⟩ [] ?_ | refine kpt ?_ | refine callH (f := 31) (.v (.pointer (some ⟨p.g, 0, none⟩))) (fun w hH => groupK (Hold.ob hH (A := kO lo q p K S true) 0 rfl)) ?_ | refine callO (f := 59) (A := kO lo q p K S true) 0 (fun _ => .i .i64 (Gr.loadR K.G o.a o.b).2) (fun S' => kO lo q p ({ K with G := (doR K.G 3 o.a o.b (o.b == 1)).1 }) S' true) (fun w hH hA => loadW2 hA o.a o.b) (fun S1 => ?_) | refine fin fun w' hH => ?_ | refine fin_s ?_ | refine fin_r ?_ ?_ | refine fin_e ?_ ?_)
  exact DoP.nil (Hold.ob hH (A := kO lo q p ({ K with G := (doR K.G 3 o.a o.b (o.b == 1)).1 }) S1 true) 0 rfl) hH.upd (hH.own _ (List.mem_cons_self ..) rfl)
theorem doT7 (h : KW lo q p K S w) (hi : KI c n T m K) (hn : n ≤ 10000) (hm : m ≤ 10000) (o : KopV) (h1 : ¬ o.k = 1) (h2 : ¬ o.k = 2) (h3 : ¬ o.k = 3) (h4 : ¬ o.k = 4) (h5 : ¬ o.k = 5) (h6 : ¬ o.k = 6) (h7 : o.k = 7) :
    Calls Tryz.prog 27 #[.pointer (some ⟨q, 0, none⟩), .agg (kopC o).toArray] w (DoP lo q p ({ K with G := (doR K.G 4 o.a o.b (o.b == 1)).1 }) [] S w) := by
  have hll := hi.ll
  have hlq := hi.lq
  have hw := hi.g.2.2.2.2
  refine entH tab_ok (hold_do h) [.v (.pointer (some ⟨q, 0, none⟩)), .a [.i .i64 o.k, .i .i64 o.a, .i .i64 o.b, .i .i64 o.q.se, .i .i64 o.q.fl, .i .i64 o.q.fm, .i .i64 o.q.to, .i .i64 o.q.ma, .i .i64 o.m.ki, .i .i64 o.m.a, .i .i64 o.m.b, .i .i64 o.m.c]] Tryz.func27 Tryz.ntmps27 rfl rfl ?_
  repeat' ((conv => whnf); first | refine sgo ⟨tab_ok⟩ ?_ | refine br_not ?_ | refine br_t rfl ?_ | refine br_f rfl ?_ | refine br_t (by assumption) ?_ | refine br_f (by assumption) ?_ | refine br_t (decide_eq_true (by assumption)) ?_ | refine br_f (decide_eq_false (by assumption)) ?_ | refine br_t (beq_iff_eq.2 (by assumption)) ?_ | refine br_f (beq_eq_false_iff_ne.2 (by assumption)) ?_ | intro b | refine drA ⟨tab_ok⟩ [] ?_ | refine kpt ?_ | refine callH (f := 31) (.v (.pointer (some ⟨p.g, 0, none⟩))) (fun w hH => groupK (Hold.ob hH (A := kO lo q p K S true) 0 rfl)) ?_ | refine callO (f := 60) (A := kO lo q p K S true) 0 (fun _ => .i .i64 (Gr.curtR K.G o.a (o.b == 1)).2) (fun S' => kO lo q p ({ K with G := (doR K.G 4 o.a o.b (o.b == 1)).1 }) S' true) (fun w hH hA => curtW hA o.a o.b) (fun S1 => ?_) | refine fin fun w' hH => ?_ | refine fin_s ?_ | refine fin_r ?_ ?_ | refine fin_e ?_ ?_)
  exact DoP.nil (Hold.ob hH (A := kO lo q p ({ K with G := (doR K.G 4 o.a o.b (o.b == 1)).1 }) S1 true) 0 rfl) hH.upd (hH.own _ (List.mem_cons_self ..) rfl)
theorem doT8 (h : KW lo q p K S w) (hi : KI c n T m K) (hn : n ≤ 10000) (hm : m ≤ 10000) (o : KopV) (h1 : ¬ o.k = 1) (h2 : ¬ o.k = 2) (h3 : ¬ o.k = 3) (h4 : ¬ o.k = 4) (h5 : ¬ o.k = 5) (h6 : ¬ o.k = 6) (h7 : ¬ o.k = 7) (h8 : o.k = 8) :
    Calls Tryz.prog 27 #[.pointer (some ⟨q, 0, none⟩), .agg (kopC o).toArray] w (DoP lo q p ({ K with G := (doR K.G 5 o.a o.b (o.b == 1)).1 }) [] S w) := by
  have hll := hi.ll
  have hlq := hi.lq
  have hw := hi.g.2.2.2.2
  refine entH tab_ok (hold_do h) [.v (.pointer (some ⟨q, 0, none⟩)), .a [.i .i64 o.k, .i .i64 o.a, .i .i64 o.b, .i .i64 o.q.se, .i .i64 o.q.fl, .i .i64 o.q.fm, .i .i64 o.q.to, .i .i64 o.q.ma, .i .i64 o.m.ki, .i .i64 o.m.a, .i .i64 o.m.b, .i .i64 o.m.c]] Tryz.func27 Tryz.ntmps27 rfl rfl ?_
  repeat' ((conv => whnf); first | refine sgo ⟨tab_ok⟩ ?_ | refine br_not ?_ | refine br_t rfl ?_ | refine br_f rfl ?_ | refine br_t (by assumption) ?_ | refine br_f (by assumption) ?_ | refine br_t (decide_eq_true (by assumption)) ?_ | refine br_f (decide_eq_false (by assumption)) ?_ | refine br_t (beq_iff_eq.2 (by assumption)) ?_ | refine br_f (beq_eq_false_iff_ne.2 (by assumption)) ?_ | intro b | refine drA ⟨tab_ok⟩ [] ?_ | refine kpt ?_ | refine callH (f := 31) (.v (.pointer (some ⟨p.g, 0, none⟩))) (fun w hH => groupK (Hold.ob hH (A := kO lo q p K S true) 0 rfl)) ?_ | refine callO (f := 61) (A := kO lo q p K S true) 0 (fun _ => .i .i64 (Gr.faultR K.G o.a (o.b == 1)).2) (fun S' => kO lo q p ({ K with G := (doR K.G 5 o.a o.b (o.b == 1)).1 }) S' true) (fun w hH hA => faultW hA (by omega) o.a o.b) (fun S1 => ?_) | refine fin fun w' hH => ?_ | refine fin_s ?_ | refine fin_r ?_ ?_ | refine fin_e ?_ ?_)
  exact DoP.nil (Hold.ob hH (A := kO lo q p ({ K with G := (doR K.G 5 o.a o.b (o.b == 1)).1 }) S1 true) 0 rfl) hH.upd (hH.own _ (List.mem_cons_self ..) rfl)
theorem doT0 (h : KW lo q p K S w) (hi : KI c n T m K) (hn : n ≤ 10000) (hm : m ≤ 10000) (o : KopV) (h1 : ¬ o.k = 1) (h2 : ¬ o.k = 2) (h3 : ¬ o.k = 3) (h4 : ¬ o.k = 4) (h5 : ¬ o.k = 5) (h6 : ¬ o.k = 6) (h7 : ¬ o.k = 7) (h8 : ¬ o.k = 8) (h10 : ¬ o.k = 10) :
    Calls Tryz.prog 27 #[.pointer (some ⟨q, 0, none⟩), .agg (kopC o).toArray] w (DoP lo q p (K) [] S w) := by
  have hll := hi.ll
  have hlq := hi.lq
  have hw := hi.g.2.2.2.2
  refine entH tab_ok (hold_do h) [.v (.pointer (some ⟨q, 0, none⟩)), .a [.i .i64 o.k, .i .i64 o.a, .i .i64 o.b, .i .i64 o.q.se, .i .i64 o.q.fl, .i .i64 o.q.fm, .i .i64 o.q.to, .i .i64 o.q.ma, .i .i64 o.m.ki, .i .i64 o.m.a, .i .i64 o.m.b, .i .i64 o.m.c]] Tryz.func27 Tryz.ntmps27 rfl rfl ?_
  repeat' ((conv => whnf); first | refine sgo ⟨tab_ok⟩ ?_ | refine br_not ?_ | refine br_t rfl ?_ | refine br_f rfl ?_ | refine br_t (by assumption) ?_ | refine br_f (by assumption) ?_ | refine br_t (decide_eq_true (by assumption)) ?_ | refine br_f (decide_eq_false (by assumption)) ?_ | refine br_t (beq_iff_eq.2 (by assumption)) ?_ | refine br_f (beq_eq_false_iff_ne.2 (by assumption)) ?_ | intro b | refine drA ⟨tab_ok⟩ [] ?_ | refine kpt ?_ | refine fin fun w' hH => ?_ | refine fin_s ?_ | refine fin_r ?_ ?_ | refine fin_e ?_ ?_)
  exact DoP.nil (Hold.ob hH (A := kO lo q p K S true) 0 rfl) hH.upd (hH.own _ (List.mem_cons_self ..) rfl)
theorem doT (h : KW lo q p K S w) (hi : KI c n T m K) (hn : n ≤ 10000) (hm : m ≤ 10000) (o : KopV) :
    Calls Tryz.prog 27 #[.pointer (some ⟨q, 0, none⟩), .agg (kopC o).toArray] w (DoP lo q p (doK K o) (doE K o) S w) := by
  have gd : ∀ {j : Int}, o.k = j + 3 → 1 ≤ j → j ≤ 5 → gdo K.G o = (doR K.G j o.a o.b (o.b == 1)).1 := fun {j} e h1 h2 => by
    unfold gdo
    rw [if_pos (by omega), show o.k - 3 = j by omega]
  unfold doK doE
  by_cases h1 : o.k = 1
  · rw [if_pos h1, if_pos h1]; exact doT1 h hi hm o h1
  rw [if_neg h1, if_neg h1]
  by_cases h2 : o.k = 2
  · rw [if_pos h2, if_pos h2]; exact doT2 h hi hn hm o h1 h2
  rw [if_neg h2, if_neg h2]
  by_cases h3 : o.k = 3
  · rw [if_pos h3, if_neg (by omega)]; exact doT3 h hi hn hm o h1 h2 h3
  rw [if_neg h3]
  by_cases h10 : o.k = 10
  · rw [if_pos h10, if_pos h10]; exact doT10 h hi hn hm o h1 h2 h3 (by omega) (by omega) (by omega) (by omega) (by omega) h10
  rw [if_neg h10, if_neg h10]
  by_cases h4 : o.k = 4
  · rw [gd (j := 1) (by omega) (by decide) (by decide)]; exact doT4 h hi hn hm o h1 h2 h3 h4
  by_cases h5 : o.k = 5
  · rw [gd (j := 2) (by omega) (by decide) (by decide)]; exact doT5 h hi hn hm o h1 h2 h3 h4 h5
  by_cases h6 : o.k = 6
  · rw [gd (j := 3) (by omega) (by decide) (by decide)]; exact doT6 h hi hn hm o h1 h2 h3 h4 h5 h6
  by_cases h7 : o.k = 7
  · rw [gd (j := 4) (by omega) (by decide) (by decide)]; exact doT7 h hi hn hm o h1 h2 h3 h4 h5 h6 h7
  by_cases h8 : o.k = 8
  · rw [gd (j := 5) (by omega) (by decide) (by decide)]; exact doT8 h hi hn hm o h1 h2 h3 h4 h5 h6 h7 h8
  rw [gdo_id (by omega)]
  exact doT0 h hi hn hm o h1 h2 h3 h4 h5 h6 h7 h8 h10
end
end Go.Proofs.YthmikjjnlahlbaaGreat.Lc
namespace Go.Proofs.YthmikjjnlahlbaaGreat.Lc
set_option linter.unusedSectionVars false
set_option linter.unusedVariables false
set_option linter.unusedSimpArgs false
open Go.RowKit Go.Proofs.YthmikjjnlahlbaaGreat.Ba Go.Proofs.YthmikjjnlahlbaaGreat.Mem Go.Proofs.YthmikjjnlahlbaaGreat.En Go.Proofs.YthmikjjnlahlbaaGreat.Ty Go.Proofs.YthmikjjnlahlbaaGreat.Mo Go.Proofs.YthmikjjnlahlbaaGreat.St Go.Proofs.YthmikjjnlahlbaaGreat.Co
open Go.Proofs.YthmikjjnlahlbaaGreat.Ri (MsgV tickV hearV)
open Go.Proofs.YthmikjjnlahlbaaGreat.Qu (dropL atS btw firstA atF)
open Go.Proofs.YthmikjjnlahlbaaGreat.Le (hasL ofL setL setE endL zeroL atP isS isT isP)
open Go.Proofs.YthmikjjnlahlbaaGreat.Gr (loadR)
def key (l : LeaseV) : Int × Int × Int := (l.se, l.ca, l.fl)
def KR (a b : Int × Int × Int) : Prop := a.1 ≠ b.1 ∧ a.2.1 ≠ b.2.1
structure UQ (K : KV) : Prop where
  l : (K.L.map key).Pairwise KR
  q : (K.Q.map AskV.se).Pairwise (· ≠ ·)
theorem find_none {α : Type} {p : α → Bool} {ls : List α} (h : (ls.findIdx? p).isSome = false) : ∀ x ∈ ls, p x = false := by
  intro x hx
  have : ls.findIdx? p = none := by simpa using h
  exact List.findIdx?_eq_none_iff.1 this x hx
/-- The first of a kind taken out of a list where no two are of a kind. -/
theorem erase_filter {α : Type} (f : α → Int) (s : Int) : ∀ ls : List α, (ls.map f).Pairwise (· ≠ ·) → (match ls.findIdx? (fun a => f a == s) with | some k => ls.eraseIdx k | none => ls) = ls.filter (fun a => f a != s)
  | [], _ => rfl
  | a :: r, h => by
    rw [List.map_cons, List.pairwise_cons] at h
    have ih := erase_filter f s r h.2
    rw [List.findIdx?_cons]
    cases e : (f a == s) with
    | true =>
      have e1 : f a = s := by simpa using e
      have hr : r.filter (fun a => f a != s) = r := List.filter_eq_self.2 fun b hb => by
        have := h.1 (f b) (List.mem_map.2 ⟨b, hb, rfl⟩)
        simp only [bne_iff_ne, ne_eq]
        omega
      rw [List.filter_cons_of_neg (by simp [e1]), hr]; rfl
    | false =>
      rw [List.filter_cons_of_pos (by have : ¬ f a = s := by simpa using e
                                      simpa using this)]
      cases e2 : r.findIdx? (fun a => f a == s) with
      | none => rw [e2] at ih; simp only [] at ih; rw [← ih]; rfl
      | some k => rw [e2] at ih; simp only [] at ih; rw [← ih]; rfl
theorem key_se {ls : List LeaseV} (h : (ls.map key).Pairwise KR) : (ls.map LeaseV.se).Pairwise (· ≠ ·) := by
  rw [List.pairwise_map] at h ⊢
  exact h.imp fun h => h.1
theorem end_filter {ls : List LeaseV} (h : (ls.map key).Pairwise KR) (s : Int) : endL ls s = ls.filter (fun l => l.se != s) := erase_filter LeaseV.se s ls (key_se h)
theorem end_no {ls : List LeaseV} {s : Int} (h : ¬ hasL ls s = true) : endL ls s = ls := by
  unfold endL; unfold hasL at h
  cases e : atP ls (isS s) with
  | none => rfl
  | some k => rw [e] at h; exact absurd rfl h
theorem set_key (c : CfgV) (ls : List LeaseV) (x : LeaseV) : (setL c ls x).map key = ls.map key := by
  unfold setL; split
  · split
    · rename_i k hk
      obtain ⟨hl, h1, _⟩ := Le.atP_some hk
      have h2 := h1 hl
      unfold isT at h2
      simp only [Bool.and_eq_true, beq_iff_eq] at h2
      apply List.ext_getElem
      · simp
      · intro i _ h4
        have h4 : i < ls.length := by simpa using h4
        rw [List.getElem_map, List.getElem_map, List.getElem_set]
        split
        · rename_i e; subst e
          unfold key; rw [h2.1.1, h2.1.2, h2.2]
        · rfl
    · rfl
  · rfl
section
variable {K : KV}
theorem UQ.new (c : CfgV) : UQ (newK c) := ⟨by simp [newK], by simp [newK]⟩
theorem UQ.ans (h : UQ K) (a : AskV) : UQ (ansK K a) := by
  refine ⟨h.l, ?_⟩
  unfold ansK ansQ
  show ((if _ then _ else _ : List AskV).map AskV.se).Pairwise (· ≠ ·)
  split
  · split
    · exact h.q
    · unfold Qu.putL; split
      · rename_i he
        unfold Qu.putE at he
        split at he
        · cases he
        · rename_i hn
          rw [List.map_append, List.pairwise_append]
          refine ⟨h.q, by simp, fun x hx y hy => ?_⟩
          obtain ⟨b, hb, rfl⟩ := List.mem_map.1 hx
          have := find_none (p := Qu.isS a.se) (ls := K.Q) (by simpa [atS] using hn) b hb
          have hy : y = a.se := by simpa using hy
          subst hy
          simpa [Qu.isS] using this
      · exact h.q
  · exact h.q
theorem UQ.end_ (h : UQ K) (s : Int) : UQ (endK K s) := by
  unfold Co.endK; split
  · exact ⟨h.l.sublist ((end_sub _ _).map _), h.q⟩
  · exact h
theorem UQ.set (h : UQ K) (l : LeaseV) (o : Bool) : UQ (setK K l o) := by
  unfold setK; split
  · exact h.end_ _
  · exact ⟨by show ((setL _ _ _).map key).Pairwise KR; rw [set_key]; exact h.l, h.q⟩
theorem UQ.hear (h : UQ K) (s : Int) (x : MsgV) : UQ (hearK K s x) := by
  unfold hearK; split
  · exact h.set _ _
  · exact h
theorem UQ.gone (h : UQ K) (s : Int) : UQ (goneK K s) :=
  ⟨(h.end_ s).l, h.q.sublist ((drop_sub _ _).map _)⟩
theorem UQ.grp (h : UQ K) (G : Gr.GrV) : UQ { K with G := G } := ⟨h.l, h.q⟩
theorem UQ.fold (h : UQ K) (k : Nat) : UQ (foldK K k).1 := by
  have key : ∀ (ls : List LeaseV) (x : KV × List EvV), UQ x.1 → UQ (ls.foldl stepK x).1 := by
    intro ls
    induction ls with
    | nil => intro x h; exact h
    | cons l r ih => intro x h; rw [List.foldl_cons]; exact ih _ (h.set _ _)
  exact key _ _ (h.grp _)
theorem UQ.grant (h : UQ K) : UQ (grantK K) := by
  unfold grantK; split
  · exact h
  · rename_i a ha
    refine ⟨?_, h.q.sublist ((drop_sub _ _).map _)⟩
    show ((Le.putL _ _ _).map key).Pairwise KR
    unfold Le.putL; split
    · rename_i he
      unfold Le.putE at he
      split at he
      · split at he
        · cases he
        · rename_i hn
          rw [List.map_append, List.pairwise_append]
          refine ⟨h.l, by simp, fun x hx y hy => ?_⟩
          obtain ⟨b, hb, rfl⟩ := List.mem_map.1 hx
          have hy : y = Lc.key (grL K a) := by simpa using hy
          subst hy
          have := find_none (p := isP (grL K a)) (ls := K.L) (by simpa [atP] using hn) b hb
          unfold isP at this
          simp only [Bool.or_eq_false_iff, beq_eq_false_iff_ne] at this
          exact this
      · cases he
    · exact h.l
theorem UQ.tick (h : UQ K) : UQ (tickK K) := (h.fold _).grant
theorem UQ.obS {x : KV × List EvV} (h : UQ x.1) (l : LeaseV) : UQ (obStep x l).1 := by
  unfold obStep; split
  · exact (h.grp _).hear _ _
  · split
    · exact (h.grp _).hear _ _
    · exact h
theorem UQ.ob (h : UQ K) (k : Nat) : UQ (obF K k).1 := by
  have key : ∀ (ls : List LeaseV) (x : KV × List EvV), UQ x.1 → UQ (ls.foldl obStep x).1 := by
    intro ls
    induction ls with
    | nil => intro x h; exact h
    | cons l r ih => intro x h; rw [List.foldl_cons]; exact ih _ (UQ.obS h l)
  exact key _ _ h
theorem UQ.do_ (h : UQ K) (o : KopV) : UQ (doK K o) := by
  unfold doK
  split
  · exact h.ans _
  split
  · exact h.hear _ _
  split
  · exact h.gone _
  split
  · exact UQ.ob h _
  · exact h.grp _
end
end Go.Proofs.YthmikjjnlahlbaaGreat.Lc
namespace Go.Proofs.YthmikjjnlahlbaaGreat.Lc
set_option linter.unusedSectionVars false
set_option linter.unusedVariables false
set_option linter.unusedSimpArgs false
open Go.RowKit Go.Proofs.YthmikjjnlahlbaaGreat.Ba Go.Proofs.YthmikjjnlahlbaaGreat.Mem Go.Proofs.YthmikjjnlahlbaaGreat.En Go.Proofs.YthmikjjnlahlbaaGreat.Ty Go.Proofs.YthmikjjnlahlbaaGreat.Mo Go.Proofs.YthmikjjnlahlbaaGreat.St Go.Proofs.YthmikjjnlahlbaaGreat.Co
open Go.Proofs.YthmikjjnlahlbaaGreat.Ri (MsgV tickV hearV trV sp rn mayRe)
open Go.Proofs.YthmikjjnlahlbaaGreat.Qu (dropL atS btw firstA atF)
open Go.Proofs.YthmikjjnlahlbaaGreat.Le (hasL ofL setL setE endL zeroL atP isS isT isP goodB)
open Go.Proofs.YthmikjjnlahlbaaGreat.Tm (cl)
open Go.Proofs.YthmikjjnlahlbaaGreat.Gr (loadR)
/-- How long a lease may stand by its phase, without renewals. -/
def bp (c : CfgV) (ph : Int) : Int := if ph = 1 then trV c else if ph = 2 then trV c + sp c.ho else if ph = 3 then 2 * trV c + sp c.ho else 2 * trV c + 2 * sp c.ho
structure Bn (c : CfgV) (l : LeaseV) : Prop where
  re : 0 ≤ l.re ∧ l.re ≤ rn c.re
  un : l.un ≤ l.gr + bp c l.ph + sp c.ho * l.re
  gd : goodB c l = true
  gr : 0 ≤ l.gr ∧ l.gr ≤ 1000000
structure LI (c : CfgV) (now : Int) (l : LeaseV) : Prop extends Bn c l where
  lt : now < l.un
theorem good_ph {c : CfgV} {l : LeaseV} (h : goodB c l = true) : 1 ≤ l.ph ∧ l.ph ≤ 4 := by
  unfold goodB at h
  simp only [Bool.and_eq_true, decide_eq_true_eq] at h
  exact ⟨h.1.2, h.2⟩
theorem good_of {c : CfgV} {l x : LeaseV} (h : goodB c l = true) (h1 : x.se = l.se ∧ x.fl = l.fl ∧ x.fm = l.fm ∧ x.to = l.to ∧ x.ma = l.ma ∧ x.ca = l.ca) (h2 : 1 ≤ x.ph ∧ x.ph ≤ 4) : goodB c x = true := by
  unfold goodB Le.askOf at h ⊢
  obtain ⟨e1, e2, e3, e4, e5, e6⟩ := h1
  rw [e1, e2, e3, e4, e5, e6]
  simp only [Bool.and_eq_true, decide_eq_true_eq] at h ⊢
  exact ⟨⟨h.1.1, h2.1⟩, h2.2⟩
theorem cl_lt {a b : Int} (h : ¬ cl a ≤ cl b) (hb : 0 ≤ b ∧ b ≤ 1000000) : b < a := by
  unfold cl at h; (repeat' split at h) <;> omega
theorem cl_add {a b : Int} (ha : 0 ≤ a ∧ a ≤ 1000000) (hb : 0 ≤ b ∧ b ≤ 10000) : cl (cl a + cl b) = a + b := by
  rw [Tm.cl_id a (by omega) (by omega), Tm.cl_id b (by omega) (by omega), Tm.cl_id _ (by omega) (by omega)]
section
variable {c : CfgV} {l : LeaseV} {now : Int}
theorem rn_hi (n : Int) : rn n ≤ 1000 := by unfold rn; repeat' split <;> omega
theorem Bn.tick (h : Bn c l) (hn : 0 ≤ now ∧ now ≤ 1000000) (x : CarV) (ho : (tickV c l x now).2.2 = false) : LI c now (tickV c l x now).1 := by
  have hs := Ri.sp_lo c.ho
  have hs2 := Ri.sp_hi c.ho
  have hp := good_ph h.gd
  have hr := h.re
  have hu := h.un
  have ha := cl_add hn (b := sp c.ho) (by omega)
  unfold tickV at ho ⊢
  split at ho
  · cases ho
  rename_i hl
  rw [if_neg hl]
  have hlt : now < l.un := cl_lt (fun h => hl (.inr h)) hn
  split
  · rename_i h1
    refine ⟨⟨hr, ?_, good_of h.gd ⟨rfl, rfl, rfl, rfl, rfl, rfl⟩ (by show 1 ≤ (2 : Int) ∧ (2 : Int) ≤ 4; decide), h.gr⟩, by show now < cl _; rw [ha]; omega⟩
    show cl _ ≤ l.gr + bp c 2 + sp c.ho * l.re
    rw [ha]; rw [h1.1] at hu
    have e1 : bp c 1 = trV c := rfl
    have e2 : bp c 2 = trV c + sp c.ho := rfl
    omega
  · split
    · rename_i h1
      refine ⟨⟨hr, ?_, good_of h.gd ⟨rfl, rfl, rfl, rfl, rfl, rfl⟩ (by show 1 ≤ (4 : Int) ∧ (4 : Int) ≤ 4; decide), h.gr⟩, by show now < cl _; rw [ha]; omega⟩
      show cl _ ≤ l.gr + bp c 4 + sp c.ho * l.re
      rw [ha]; rw [h1.1] at hu
      have e1 : bp c 3 = 2 * trV c + sp c.ho := rfl
      have e2 : bp c 4 = 2 * trV c + 2 * sp c.ho := rfl
      omega
    · exact ⟨⟨hr, hu, good_of h.gd ⟨rfl, rfl, rfl, rfl, rfl, rfl⟩ hp, h.gr⟩, hlt⟩
theorem LI.hear (h : LI c now l) (hn : 0 ≤ now ∧ now ≤ 1000000) (x : CarV) (m : MsgV) : LI c now (hearV c l x now m).1 := by
  have hs := Ri.sp_lo c.ho
  have hs2 := Ri.sp_hi c.ho
  have ht := Ri.tr_lo c
  have ht2 := Ri.tr_hi c
  have hp := good_ph h.gd
  have hr := h.re
  have hu := h.un
  have hlt := h.lt
  have ha := cl_add hn (b := sp c.ho) (by omega)
  have hb := cl_add hn (b := trV c) (by omega)
  have same : LI c now ⟨l.se, l.fl, l.fm, l.to, l.ma, l.ca, l.ph, l.un, l.re, l.gr⟩ := h
  unfold hearV
  split
  · rename_i h1
    split
    · refine ⟨⟨hr, ?_, good_of h.gd ⟨rfl, rfl, rfl, rfl, rfl, rfl⟩ (by show 1 ≤ (3 : Int) ∧ (3 : Int) ≤ 4; decide), h.gr⟩, by show now < cl _; rw [hb]; omega⟩
      show cl _ ≤ l.gr + bp c 3 + sp c.ho * l.re
      rw [hb]; rw [h1.2] at hu
      have e1 : bp c 2 = trV c + sp c.ho := rfl
      have e2 : bp c 3 = 2 * trV c + sp c.ho := rfl
      omega
    · exact same
  · split
    · exact same
    · split
      · rename_i h1
        have hm := h1.2
        unfold mayRe at hm
        simp only [Bool.and_eq_true, decide_eq_true_eq] at hm
        have hx := rn_hi c.re
        have hw : IntKind.i64.wrap (l.re + 1) = l.re + 1 := Gr.wrG _ (by omega) (by omega)
        refine ⟨⟨?_, ?_, good_of h.gd ⟨rfl, rfl, rfl, rfl, rfl, rfl⟩ hp, h.gr⟩, by show now < cl _; rw [ha]; omega⟩
        · show 0 ≤ IntKind.i64.wrap (l.re + 1) ∧ IntKind.i64.wrap (l.re + 1) ≤ _
          rw [hw]; omega
        · show cl _ ≤ l.gr + bp c l.ph + sp c.ho * IntKind.i64.wrap (l.re + 1)
          rw [hw, ha, Int.mul_add, Int.mul_one]; omega
      · exact same
/-- What is in a table behind Set. -/
theorem set_all {ls : List LeaseV} {x : LeaseV} (hU : (ls.map key).Pairwise KR) (hg : goodB c x = true) : ∀ y ∈ setL c ls x, y = x ∨ (y ∈ ls ∧ key y ≠ key x) := by
  intro y hy
  unfold setL at hy
  rw [if_pos hg] at hy
  split at hy
  · rename_i k hat
    obtain ⟨hl, h1, _⟩ := Le.atP_some hat
    have h2 := h1 hl
    unfold isT at h2
    simp only [Bool.and_eq_true, beq_iff_eq] at h2
    obtain ⟨i, hi, rfl⟩ := List.getElem_of_mem hy
    rw [List.getElem_set]
    split
    · exact .inl rfl
    · rename_i hne
      have hi : i < ls.length := by simpa using hi
      refine .inr ⟨List.getElem_mem hi, fun e => ?_⟩
      have e : (ls[i]).se = x.se := congrArg Prod.fst e
      rw [List.pairwise_map, List.pairwise_iff_getElem] at hU
      rw [← h2.1.1] at e
      rcases Nat.lt_or_gt_of_ne hne with h | h
      · exact (hU k i hl hi h).1 e.symm
      · exact (hU i k hi hl h).1 e
  · rename_i hat
    refine .inr ⟨hy, fun e => ?_⟩
    have := List.findIdx?_eq_none_iff.1 hat y hy
    have e1 : y.se = x.se := congrArg Prod.fst e
    have e2 : y.ca = x.ca := congrArg (fun z => z.2.1) e
    have e3 : y.fl = x.fl := congrArg (fun z => z.2.2) e
    simp [isT, e1, e2, e3] at this
theorem tickV_key (x : CarV) : key (tickV c l x now).1 = key l := by
  unfold tickV; (repeat' split) <;> rfl
end
section
variable {K : KV}
theorem end_now (K : KV) (s : Int) : (Co.endK K s).G.now = K.G.now := by unfold Co.endK; split; exact (Gr.give_w _).2; rfl
theorem set_now (K : KV) (l : LeaseV) (o : Bool) : (setK K l o).G.now = K.G.now := by
  unfold setK; split
  · exact end_now _ _
  · exact (Gr.aim_w _ _ _).2
theorem end_ne (h : UQ K) (s : Int) : ∀ y ∈ (Co.endK K s).L, y ∈ K.L ∧ y.se ≠ s := by
  intro y hy
  unfold Co.endK at hy
  split at hy
  · change y ∈ endL K.L s at hy
    rw [end_filter h.l] at hy
    have := List.mem_filter.1 hy
    exact ⟨this.1, by simpa using this.2⟩
  · rename_i hn
    refine ⟨hy, fun e => ?_⟩
    have := find_none (p := isS s) (ls := K.L) (by simpa [hasL, atP] using hn) y hy
    simp [isS, e] at this
/-- All its leases stand in time. -/
def EI (c : CfgV) (K : KV) : Prop := ∀ l ∈ K.L, LI c K.G.now l
section
variable {c : CfgV} {n T m : Nat}
theorem EI.sub {K' : KV} (h : EI c K) (hn : K'.G.now = K.G.now) (hs : ∀ y ∈ K'.L, y ∈ K.L) : EI c K' := fun l hl => by rw [hn]; exact h l (hs l hl)
theorem EI.set (hc : K.G.c = c) (hU : UQ K) (h : EI c K) {l : LeaseV} (hl : LI c K.G.now l) (o : Bool) : EI c (setK K l o) := by
  intro y hy
  rw [set_now]
  unfold setK at hy
  split at hy
  · exact h y (end_ne hU _ y hy).1
  · change y ∈ setL K.G.c K.L l at hy
    rw [hc] at hy
    rcases set_all hU.l hl.gd y hy with rfl | hy
    · exact hl
    · exact h y hy.1
theorem EI.hear (hc : K.G.c = c) (hU : UQ K) (hn : 0 ≤ K.G.now ∧ K.G.now ≤ 1000000) (h : EI c K) (s : Int) (x : MsgV) : EI c (hearK K s x) := by
  unfold hearK; split
  · rename_i hL
    refine EI.set hc hU h ?_ _
    unfold hearR
    rw [hc]
    exact (h _ (has_mem hL).1).hear hn _ _
  · exact h
theorem EI.fold {now : Int} (hn : 0 ≤ now ∧ now ≤ 1000000) : ∀ (rest : List LeaseV) (x : KV × List EvV), x.1.G.now = now → x.1.G.c = c → UQ x.1 → (∀ y ∈ rest, Bn c y) → (∀ y ∈ x.1.L, y ∈ rest ∨ LI c now y) → ∀ y ∈ (rest.foldl stepK x).1.L, LI c now y
  | [], x, _, _, _, _, h => fun y hy => (h y hy).resolve_left (by simp)
  | l :: r, x, h1, h2, h3, h4, h5 => by
    rw [List.foldl_cons]
    have hs : (stepK x l).1 = setK x.1 (stepR x.1 l).1 (stepR x.1 l).2.2 := rfl
    refine EI.fold hn r (stepK x l) (by rw [hs, set_now]; exact h1) (by rw [hs, setK_c]; exact h2) (by rw [hs]; exact h3.set _ _) (fun y hy => h4 y (List.mem_cons_of_mem _ hy)) ?_
    intro y hy
    rw [hs] at hy
    have hk : key (stepR x.1 l).1 = key l := by unfold stepR; exact tickV_key _
    cases ho : (stepR x.1 l).2.2 with
    | true =>
      rw [ho] at hy
      unfold setK at hy
      rw [if_pos rfl] at hy
      obtain ⟨hy1, hy2⟩ := end_ne h3 _ y hy
      rcases h5 y hy1 with h | h
      · rcases List.mem_cons.1 h with rfl | h
        · exact absurd (congrArg Prod.fst hk).symm hy2
        · exact .inl h
      · exact .inr h
    | false =>
      have hl : LI c now (stepR x.1 l).1 := by
        unfold stepR at ho ⊢
        rw [h1, h2] at ho ⊢
        exact (h4 l (List.mem_cons_self ..)).tick hn _ ho
      rw [ho] at hy
      unfold setK at hy
      rw [if_neg (by decide)] at hy
      change y ∈ setL x.1.G.c x.1.L _ at hy
      rw [h2] at hy
      rcases set_all h3.l hl.gd y hy with rfl | ⟨hy1, hy2⟩
      · exact .inr hl
      · rcases h5 y hy1 with h | h
        · rcases List.mem_cons.1 h with rfl | h
          · exact absurd hk.symm hy2
          · exact .inl h
        · exact .inr h
theorem EI.grant (hc : K.G.c = c) (hn : 0 ≤ K.G.now ∧ K.G.now ≤ 1000000) (h : EI c K) : EI c (grantK K) := by
  unfold grantK; split
  · exact h
  · rename_i a ha
    intro y hy
    have hnow : (grK K a).G.now = K.G.now := (Gr.take_w _ _).2
    rw [hnow]
    change y ∈ Le.putL _ _ _ at hy
    unfold Le.putL at hy
    split at hy
    · rename_i he
      rcases List.mem_append.1 hy with hy | hy
      · exact h y hy
      · rw [List.mem_singleton] at hy
        subst hy
        have ht := Ri.tr_lo c
        have ht2 := Ri.tr_hi c
        have e := cl_add hn (b := trV c) (by omega)
        have hg : goodB c (grL K a) = true := by
          unfold Le.putE at he
          split at he
          · rename_i hg; rw [hc] at hg; exact hg
          · cases he
        have hun : (grL K a).un = K.G.now + trV c := by show cl (cl K.G.now + cl (trV K.G.c)) = _; rw [hc, e]
        refine ⟨⟨?_, ?_, hg, hn⟩, by rw [hun]; omega⟩
        · show (0 : Int) ≤ 0 ∧ 0 ≤ rn c.re
          unfold rn; (repeat' split) <;> omega
        · rw [hun]
          show K.G.now + trV c ≤ K.G.now + trV c + sp c.ho * 0
          omega
    · exact h y hy
end
end
/-- What holds of a core at any time. -/
structure PI (c : CfgV) (n T : Nat) (K : KV) : Prop where
  k : KI c n T T K
  u : UQ K
  e : EI c K
  t : K.G.now ≤ T
section
variable {c : CfgV} {n T : Nat} {K : KV}
theorem PI.new (c : CfgV) : PI c 0 0 (newK c) := ⟨KI.new c, UQ.new c, (fun l hl => by cases hl), (by show (0 : Int) ≤ 0; omega)⟩
theorem PI.more {n' T' : Nat} (h : PI c n T K) (h1 : n ≤ n') (h2 : T ≤ T') : PI c n' T' K := ⟨h.k.more h1 h2 h2, h.u, h.e, by have := h.t; omega⟩
theorem hear_now (K : KV) (s : Int) (x : MsgV) : (hearK K s x).G.now = K.G.now := by unfold hearK; split; exact set_now _ _ _; rfl
theorem obS_pi {x : KV × List EvV} (hT : T ≤ 1000000) (h : PI c n T x.1) (l : LeaseV) : PI c n T (obStep x l).1 := by
  have ld : ∀ v, PI c n T (ldK x.1 l v) := fun v => ⟨KI.ld h.k l v, h.u.grp _, EI.sub h.e (Gr.load_w _ _).2 (fun _ hy => hy), by show (loadR x.1.G l.ca v).1.now ≤ T; rw [(Gr.load_w _ _).2]; exact h.t⟩
  have hr : ∀ v m, PI c n T (hearK (ldK x.1 l v) l.se m) := fun v m => ⟨(ld v).k.hear _ _, (ld v).u.hear _ _, EI.hear (ld v).k.g.1 (ld v).u ⟨(ld v).k.now.1, by have := (ld v).t; omega⟩ (ld v).e _ _, by rw [hear_now]; exact (ld v).t⟩
  unfold obStep; split
  · exact hr _ _
  · split
    · exact hr _ _
    · exact h
theorem PI.ob (hT : T ≤ 1000000) (h : PI c n T K) (k : Nat) : PI c n T (obF K k).1 := by
  have key : ∀ (ls : List LeaseV) (x : KV × List EvV), PI c n T x.1 → PI c n T (ls.foldl obStep x).1 := by
    intro ls
    induction ls with
    | nil => intro x h; exact h
    | cons l r ih => intro x h; rw [List.foldl_cons]; exact ih _ (obS_pi hT h l)
  exact key _ _ h
theorem PI.do_ (h : PI c n T K) (hT : T ≤ 1000000) (o : KopV) : PI c (n + 1) T (doK K o) := by
  have hk := KI.do_ h.k o
  have hu := h.u.do_ o
  have hn : 0 ≤ K.G.now ∧ K.G.now ≤ 1000000 := ⟨h.k.now.1, by have := h.t; omega⟩
  refine ⟨hk, hu, ?_, ?_⟩
  · unfold doK
    split
    · exact h.e
    split
    · exact EI.hear h.k.g.1 h.u hn h.e _ _
    split
    · exact EI.sub h.e (end_now K o.q.se) (fun y hy => (end_ne h.u _ y hy).1)
    split
    · exact (PI.ob hT h _).e
    · exact EI.sub h.e (gdo_w _ _).1 (fun _ hy => hy)
  · unfold doK
    split
    · exact h.t
    split
    · rw [hear_now]; exact h.t
    split
    · show (Co.endK K o.q.se).G.now ≤ T; rw [end_now]; exact h.t
    split
    · exact (PI.ob hT h _).t
    · show (gdo K.G o).now ≤ T; rw [(gdo_w _ _).1]; exact h.t
theorem fold_now (K : KV) (k : Nat) : (foldK K k).1.G.now = (tkK1 K).G.now := by
  have key : ∀ (ls : List LeaseV) (x : KV × List EvV), (ls.foldl stepK x).1.G.now = x.1.G.now := by
    intro ls
    induction ls with
    | nil => intro x; rfl
    | cons l r ih => intro x; rw [List.foldl_cons, ih]; exact set_now _ _ _
  exact key _ _
theorem grant_now (K : KV) : (grantK K).G.now = K.G.now := by unfold grantK; split; rfl; exact (Gr.take_w _ _).2
theorem tk1_now (K : KV) (h : 0 ≤ K.G.now ∧ K.G.now ≤ 1000000) : (tkK1 K).G.now = K.G.now + 1 := by
  show cl (cl K.G.now + cl 1) = _
  exact cl_add h (by decide)
theorem PI.tick (h : PI c n T K) (hT : T < 1000000) : PI c n (T + 1) (tickK K) := by
  have hn : 0 ≤ K.G.now ∧ K.G.now ≤ 1000000 := ⟨h.k.now.1, by have := h.t; omega⟩
  have h1 := tk1_now K hn
  have hf := fold_now K K.L.length
  have hn2 : 0 ≤ (tkK1 K).G.now ∧ (tkK1 K).G.now ≤ 1000000 := by rw [h1]; have := h.t; omega
  refine ⟨h.k.tick, h.u.tick, ?_, ?_⟩
  · refine EI.grant ((h.k.fold _).g.1) (by rw [hf]; exact hn2) ?_
    intro y hy
    rw [hf]
    have hL : K.L.take K.L.length = K.L := List.take_length
    unfold foldK at hy
    rw [hL] at hy
    exact EI.fold hn2 K.L (tkK1 K, []) rfl h.k.g.1 (h.u.grp _) (fun y hy => (h.e y hy).toBn) (fun y hy => .inl hy) y hy
  · show (grantK _).G.now ≤ _
    rw [grant_now, hf, h1]
    have := h.t
    omega
def boundV (c : CfgV) : Int := 2 * trV c + sp c.ho * (2 + rn c.re)
theorem LI.bound {l : LeaseV} {now : Int} (h : LI c now l) : now - l.gr < boundV c := by
  have hp := good_ph h.gd
  have h1 := h.un
  have h2 := h.lt
  have hs := Ri.sp_lo c.ho
  have ht := Ri.tr_lo c
  have hb : bp c l.ph ≤ 2 * trV c + 2 * sp c.ho := by unfold bp; (repeat' split) <;> omega
  have hm : sp c.ho * l.re ≤ sp c.ho * rn c.re := Int.mul_le_mul_of_nonneg_left h.re.2 (by omega)
  unfold boundV
  rw [Int.mul_add]
  omega
end
end Go.Proofs.YthmikjjnlahlbaaGreat.Lc
namespace Go.Proofs.YthmikjjnlahlbaaGreat.Lc
set_option linter.unusedSectionVars false
set_option linter.unusedVariables false
set_option linter.unusedSimpArgs false
open Go.RowKit Go.Proofs.YthmikjjnlahlbaaGreat.Ba Go.Proofs.YthmikjjnlahlbaaGreat.Mem Go.Proofs.YthmikjjnlahlbaaGreat.En Go.Proofs.YthmikjjnlahlbaaGreat.Ty Go.Proofs.YthmikjjnlahlbaaGreat.Mo Go.Proofs.YthmikjjnlahlbaaGreat.St Go.Proofs.YthmikjjnlahlbaaGreat.Co
open Go.Proofs.YthmikjjnlahlbaaGreat.Ri (trV sp rn)
open Go.Proofs.YthmikjjnlahlbaaGreat.Qu (btw)
set_option maxRecDepth 100000
attribute [local irreducible] Go.Calls
theorem nearestT (n lo hi : Int) (w : World) : Calls Tryz.prog 87 #[.int .i64 n, .int .i64 lo, .int .i64 hi] w fun e w' => e = .returned (.int .i64 (btw n lo hi)) ∧ Since w w' := by
  refine ent tab_ok [.i .i64 n, .i .i64 lo, .i .i64 hi] Tryz.func87 Tryz.ntmps87 rfl rfl ?_
  repeat' ((conv => whnf); first | refine sgo ⟨tab_ok⟩ ?_ | refine br_not ?_ | refine br_t rfl ?_ | refine br_f rfl ?_ | refine br_t (by assumption) ?_ | refine br_f (by assumption) ?_ | refine br_t (decide_eq_true (by assumption)) ?_ | refine br_f (decide_eq_false (by assumption)) ?_ | refine br_t (beq_iff_eq.2 (by assumption)) ?_ | refine br_f (beq_eq_false_iff_ne.2 (by assumption)) ?_ | refine drA ⟨tab_ok⟩ [] ?_ | refine kpt ?_ | refine br_dec (fun h => ?_) (fun h => ?_) | refine br_eq (fun h => ?_) (fun h => ?_) | refine br_b (fun h => ?_) (fun h => ?_) | refine fin_s ?_ | refine fin_r ?_ ?_ | refine fin_e ?_ ?_)
  all_goals (refine congrArg (Value.int .i64) ?_; unfold btw; (repeat' split) <;> omega)
theorem spanT (n : Int) (w : World) : Calls Tryz.prog 88 #[.int .i64 n] w fun e w' => e = .returned (.int .i64 (sp n)) ∧ Since w w' := by
  refine ent tab_ok [.i .i64 n] Tryz.func88 Tryz.ntmps88 rfl rfl ?_
  repeat' ((conv => whnf); first | refine sgo ⟨tab_ok⟩ ?_ | refine br_not ?_ | refine br_t rfl ?_ | refine br_f rfl ?_ | refine br_t (by assumption) ?_ | refine br_f (by assumption) ?_ | refine br_t (decide_eq_true (by assumption)) ?_ | refine br_f (decide_eq_false (by assumption)) ?_ | refine br_t (beq_iff_eq.2 (by assumption)) ?_ | refine br_f (beq_eq_false_iff_ne.2 (by assumption)) ?_ | refine drA ⟨tab_ok⟩ [] ?_ | refine kpt ?_ | refine callS (f := 87) (.i .i64 (btw n 1 1000)) (nearestT n 1 1000) ?_ | refine fin_s ?_ | refine fin_r ?_ ?_ | refine fin_e ?_ ?_)
  all_goals rfl
theorem floorsT (n : Int) (w : World) : Calls Tryz.prog 90 #[.int .i64 n] w fun e w' => e = .returned (.int .i64 (fl n)) ∧ Since w w' := by
  refine ent tab_ok [.i .i64 n] Tryz.func90 Tryz.ntmps90 rfl rfl ?_
  repeat' ((conv => whnf); first | refine sgo ⟨tab_ok⟩ ?_ | refine br_not ?_ | refine br_t rfl ?_ | refine br_f rfl ?_ | refine br_t (by assumption) ?_ | refine br_f (by assumption) ?_ | refine br_t (decide_eq_true (by assumption)) ?_ | refine br_f (decide_eq_false (by assumption)) ?_ | refine br_t (beq_iff_eq.2 (by assumption)) ?_ | refine br_f (beq_eq_false_iff_ne.2 (by assumption)) ?_ | refine drA ⟨tab_ok⟩ [] ?_ | refine kpt ?_ | refine br_dec (fun h => ?_) (fun h => ?_) | refine br_eq (fun h => ?_) (fun h => ?_) | refine br_b (fun h => ?_) (fun h => ?_) | refine fin_s ?_ | refine fin_r ?_ ?_ | refine fin_e ?_ ?_)
  all_goals (refine congrArg (Value.int .i64) ?_; unfold fl; (repeat' split) <;> omega)
theorem renewT (c : CfgV) (w : World) : Calls Tryz.prog 89 #[.agg #[.int .i64 c.ca, .int .i64 c.fl, .int .i64 c.ft, .int .i64 c.se, .int .i64 c.dr, .int .i64 c.dw, .int .i64 c.ho, .int .i64 c.re, .int .i64 c.yi, .int .i64 c.qu, .int .i64 c.qo, .int .i64 c.lo, .int .i64 c.sl, .int .i64 c.rt, .int .i64 c.cp, .int .i64 c.tr, .int .i64 c.de, .int .i64 c.wi]] w fun e w' => e = .returned (.int .i64 (rn c.re)) ∧ Since w w' := by
  refine ent tab_ok [.a [.i .i64 c.ca, .i .i64 c.fl, .i .i64 c.ft, .i .i64 c.se, .i .i64 c.dr, .i .i64 c.dw, .i .i64 c.ho, .i .i64 c.re, .i .i64 c.yi, .i .i64 c.qu, .i .i64 c.qo, .i .i64 c.lo, .i .i64 c.sl, .i .i64 c.rt, .i .i64 c.cp, .i .i64 c.tr, .i .i64 c.de, .i .i64 c.wi]] Tryz.func89 Tryz.ntmps89 rfl rfl ?_
  repeat' ((conv => whnf); first | refine sgo ⟨tab_ok⟩ ?_ | refine br_not ?_ | refine br_t rfl ?_ | refine br_f rfl ?_ | refine br_t (by assumption) ?_ | refine br_f (by assumption) ?_ | refine br_t (decide_eq_true (by assumption)) ?_ | refine br_f (decide_eq_false (by assumption)) ?_ | refine br_t (beq_iff_eq.2 (by assumption)) ?_ | refine br_f (beq_eq_false_iff_ne.2 (by assumption)) ?_ | intro b | refine drA ⟨tab_ok⟩ [] ?_ | refine kpt ?_ | refine callS (f := 87) (.i .i64 (btw c.re 0 1000)) (nearestT c.re 0 1000) ?_ | refine fin_s ?_ | refine fin_r ?_ ?_ | refine fin_e ?_ ?_)
  all_goals rfl
theorem quotaT (c : CfgV) (w : World) : Calls Tryz.prog 34 #[.agg #[.int .i64 c.ca, .int .i64 c.fl, .int .i64 c.ft, .int .i64 c.se, .int .i64 c.dr, .int .i64 c.dw, .int .i64 c.ho, .int .i64 c.re, .int .i64 c.yi, .int .i64 c.qu, .int .i64 c.qo, .int .i64 c.lo, .int .i64 c.sl, .int .i64 c.rt, .int .i64 c.cp, .int .i64 c.tr, .int .i64 c.de, .int .i64 c.wi]] w fun e w' => e = .returned (.int .i64 (btw c.qo 1 8)) ∧ Since w w' := by
  refine ent tab_ok [.a [.i .i64 c.ca, .i .i64 c.fl, .i .i64 c.ft, .i .i64 c.se, .i .i64 c.dr, .i .i64 c.dw, .i .i64 c.ho, .i .i64 c.re, .i .i64 c.yi, .i .i64 c.qu, .i .i64 c.qo, .i .i64 c.lo, .i .i64 c.sl, .i .i64 c.rt, .i .i64 c.cp, .i .i64 c.tr, .i .i64 c.de, .i .i64 c.wi]] Tryz.func34 Tryz.ntmps34 rfl rfl ?_
  repeat' ((conv => whnf); first | refine sgo ⟨tab_ok⟩ ?_ | refine br_not ?_ | refine br_t rfl ?_ | refine br_f rfl ?_ | refine br_t (by assumption) ?_ | refine br_f (by assumption) ?_ | refine br_t (decide_eq_true (by assumption)) ?_ | refine br_f (decide_eq_false (by assumption)) ?_ | refine br_t (beq_iff_eq.2 (by assumption)) ?_ | refine br_f (beq_eq_false_iff_ne.2 (by assumption)) ?_ | intro b | refine drA ⟨tab_ok⟩ [] ?_ | refine kpt ?_ | refine callS (f := 87) (.i .i64 (btw c.qo 1 8)) (nearestT c.qo 1 8) ?_ | refine fin_s ?_ | refine fin_r ?_ ?_ | refine fin_e ?_ ?_)
  all_goals rfl
theorem tripRT (c : CfgV) (w : World) : Calls Tryz.prog 40 #[.agg #[.int .i64 c.ca, .int .i64 c.fl, .int .i64 c.ft, .int .i64 c.se, .int .i64 c.dr, .int .i64 c.dw, .int .i64 c.ho, .int .i64 c.re, .int .i64 c.yi, .int .i64 c.qu, .int .i64 c.qo, .int .i64 c.lo, .int .i64 c.sl, .int .i64 c.rt, .int .i64 c.cp, .int .i64 c.tr, .int .i64 c.de, .int .i64 c.wi]] w fun e w' => e = .returned (.int .i64 (trV c)) ∧ Since w w' := by
  have h1 := fl_lo c.fl
  have h2 := fl_hi c.fl
  have h3 := Ri.sp_lo c.dr
  have h4 := Ri.sp_hi c.dr
  refine ent tab_ok [.a [.i .i64 c.ca, .i .i64 c.fl, .i .i64 c.ft, .i .i64 c.se, .i .i64 c.dr, .i .i64 c.dw, .i .i64 c.ho, .i .i64 c.re, .i .i64 c.yi, .i .i64 c.qu, .i .i64 c.qo, .i .i64 c.lo, .i .i64 c.sl, .i .i64 c.rt, .i .i64 c.cp, .i .i64 c.tr, .i .i64 c.de, .i .i64 c.wi]] Tryz.func40 Tryz.ntmps40 rfl rfl ?_
  repeat' ((conv => whnf); first | refine sgo ⟨tab_ok⟩ ?_ | refine br_not ?_ | refine br_t rfl ?_ | refine br_f rfl ?_ | refine br_t (by assumption) ?_ | refine br_f (by assumption) ?_ | refine br_t (decide_eq_true (by assumption)) ?_ | refine br_f (decide_eq_false (by assumption)) ?_ | refine br_t (beq_iff_eq.2 (by assumption)) ?_ | refine br_f (beq_eq_false_iff_ne.2 (by assumption)) ?_ | intro b | refine drA ⟨tab_ok⟩ [] ?_ | refine kpt ?_ | refine wr_i ?_ | refine callS (f := 88) (.i .i64 (sp c.dr)) (spanT c.dr) ?_ | refine callS (f := 90) (.i .i64 (fl c.fl)) (floorsT c.fl) ?_ | refine fin_s ?_ | refine fin_r ?_ ?_ | refine fin_e ?_ ?_)
  all_goals rfl
theorem boundT (c : CfgV) (w : World) : Calls Tryz.prog 36 #[.agg #[.int .i64 c.ca, .int .i64 c.fl, .int .i64 c.ft, .int .i64 c.se, .int .i64 c.dr, .int .i64 c.dw, .int .i64 c.ho, .int .i64 c.re, .int .i64 c.yi, .int .i64 c.qu, .int .i64 c.qo, .int .i64 c.lo, .int .i64 c.sl, .int .i64 c.rt, .int .i64 c.cp, .int .i64 c.tr, .int .i64 c.de, .int .i64 c.wi]] w fun e w' => e = .returned (.int .i64 (boundV c)) ∧ Since w w' := by
  have h1 := Ri.tr_lo c
  have h2 := Ri.tr_hi c
  have h3 := Ri.sp_lo c.ho
  have h4 := Ri.sp_hi c.ho
  have h5 := rn_hi c.re
  have h6 : 0 ≤ rn c.re := by unfold rn; (repeat' split) <;> omega
  have h7 : 0 ≤ sp c.ho * (2 + rn c.re) := Int.mul_nonneg (by omega) (by omega)
  have h8 : sp c.ho * (2 + rn c.re) ≤ 1000 * 1002 := Int.mul_le_mul h4 (by omega) (by omega) (by decide)
  refine ent tab_ok [.a [.i .i64 c.ca, .i .i64 c.fl, .i .i64 c.ft, .i .i64 c.se, .i .i64 c.dr, .i .i64 c.dw, .i .i64 c.ho, .i .i64 c.re, .i .i64 c.yi, .i .i64 c.qu, .i .i64 c.qo, .i .i64 c.lo, .i .i64 c.sl, .i .i64 c.rt, .i .i64 c.cp, .i .i64 c.tr, .i .i64 c.de, .i .i64 c.wi]] Tryz.func36 Tryz.ntmps36 rfl rfl ?_
  repeat' ((conv => whnf); first | refine sgo ⟨tab_ok⟩ ?_ | refine br_not ?_ | refine br_t rfl ?_ | refine br_f rfl ?_ | refine br_t (by assumption) ?_ | refine br_f (by assumption) ?_ | refine br_t (decide_eq_true (by assumption)) ?_ | refine br_f (decide_eq_false (by assumption)) ?_ | refine br_t (beq_iff_eq.2 (by assumption)) ?_ | refine br_f (beq_eq_false_iff_ne.2 (by assumption)) ?_ | intro b | refine drA ⟨tab_ok⟩ [] ?_ | refine kpt ?_ | refine wr_i ?_ | refine callS (f := 40) (.i .i64 (trV c)) (tripRT c) ?_ | refine callS (f := 88) (.i .i64 (sp c.ho)) (spanT c.ho) ?_ | refine callS (f := 89) (.i .i64 (rn c.re)) (renewT c) ?_ | refine fin_s ?_ | refine fin_r ?_ ?_ | refine fin_e ?_ ?_)
  all_goals rfl
end Go.Proofs.YthmikjjnlahlbaaGreat.Lc
namespace Go.Proofs.YthmikjjnlahlbaaGreat.Lc
set_option linter.unusedSectionVars false
set_option linter.unusedVariables false
set_option linter.unusedSimpArgs false
open Go.RowKit Go.Proofs.YthmikjjnlahlbaaGreat.Ba Go.Proofs.YthmikjjnlahlbaaGreat.Mem Go.Proofs.YthmikjjnlahlbaaGreat.En Go.Proofs.YthmikjjnlahlbaaGreat.Ty Go.Proofs.YthmikjjnlahlbaaGreat.Mo Go.Proofs.YthmikjjnlahlbaaGreat.St Go.Proofs.YthmikjjnlahlbaaGreat.Co
open Go.Proofs.YthmikjjnlahlbaaGreat.Fl (leaE)
open Go.Proofs.YthmikjjnlahlbaaGreat.Gr (waitsO tickP)
set_option maxRecDepth 100000
attribute [local irreducible] Go.Calls doK doE tickK tickE newK tickP boundV
theorem nowW {lo q : Nat} {p : Pt} {K : KV} {S : List Nat} {w : World} (h : KW lo q p K S w) : Calls Tryz.prog 35 #[.pointer (some ⟨p.g, 0, none⟩)] w fun e w' => e = .returned (.int .i64 K.G.now) ∧ Since w w' := by
  obtain ⟨S0, hk, hb⟩ := h.rd
  exact hb.now
theorem hold_op {a : Option Addr} {len nt : Nat} {os : Nat → KopV} {w : World} (h : kopE.Rd a len os w) : Hold ⟨Tryz.prog, tab, [], w, nt, []⟩ [] [rdO kopE a len os] w :=
  Hold.addObj (Hold.nil _ tab [] _ w) (rdO kopE a len os) h (by intro k; cases k) (by intro r hr; cases hr) (by intro A hA; cases hA)
set_option maxHeartbeats 8000000 in
theorem endsF1 (c : CfgV) {a : Option Addr} {len cap : Nat} {os : Nat → KopV} {w : World} (h : kopE.Rd a len os w) (hlen : len ≤ 9223372036854775807) : Calls Tryz.prog 7 #[.agg #[.int .i64 c.ca, .int .i64 c.fl, .int .i64 c.ft, .int .i64 c.se, .int .i64 c.dr, .int .i64 c.dw, .int .i64 c.ho, .int .i64 c.re, .int .i64 c.yi, .int .i64 c.qu, .int .i64 c.qo, .int .i64 c.lo, .int .i64 c.sl, .int .i64 c.rt, .int .i64 c.cp, .int .i64 c.tr, .int .i64 c.de, .int .i64 c.wi], .slice a len cap] w fun e w' => e = .returned (.bool true) ∧ Since w w' := by
  obtain ⟨gb, off, hb⟩ := Ek.rd_addr h
  refine entH tab_ok (hold_op h) [.a [.i .i64 c.ca, .i .i64 c.fl, .i .i64 c.ft, .i .i64 c.se, .i .i64 c.dr, .i .i64 c.dw, .i .i64 c.ho, .i .i64 c.re, .i .i64 c.yi, .i .i64 c.qu, .i .i64 c.qo, .i .i64 c.lo, .i .i64 c.sl, .i .i64 c.rt, .i .i64 c.cp, .i .i64 c.tr, .i .i64 c.de, .i .i64 c.wi], .v (.slice a len cap)] Tryz.func7 Tryz.ntmps7 rfl rfl ?_
  repeat' ((conv => whnf); first | refine sgo ⟨tab_ok⟩ ?_ | refine br_not ?_ | refine br_t rfl ?_ | refine br_f rfl ?_ | refine br_t (by assumption) ?_ | refine br_f (by assumption) ?_ | refine br_t (decide_eq_true (by assumption)) ?_ | refine br_f (decide_eq_false (by assumption)) ?_ | refine br_t (beq_iff_eq.2 (by assumption)) ?_ | refine br_f (beq_eq_false_iff_ne.2 (by assumption)) ?_ | intro bc | refine drA ⟨tab_ok⟩ [] ?_ | refine kpt ?_ | refine callN (f := 20) (ι := {x : Nat × Nat × Pt × List Nat // w.heap.size ≤ x.1}) (fun x => .v (.pointer (some ⟨x.1.2.1, 0, none⟩))) (fun x => kO x.1.1 x.1.2.1 x.1.2.2.1 (newK c) x.1.2.2.2 true) (fun w1 hH => (newW c w1).mono (by rintro e w' ⟨q, p, S', rfl, h1, h2⟩; exact ⟨⟨(w1.heap.size, q, p, S'), hH.upd.size⟩, rfl, h1, h2, h1.low⟩)) (fun x => ?_) | refine fin_s ?_ | refine fin_r ?_ ?_ | refine fin_e ?_ ?_)
  conv => whnf
  obtain ⟨⟨lo, q, p, S0⟩, hlo⟩ := x
  refine lp ⟨tab_ok⟩ (ι := {x : (Nat × List Nat) × KV // (x.1.1 ≤ 60 ∧ x.1.1 ≤ len) ∧ PI c x.1.1 (50 * x.1.1) x.2}) (fun x => match x with | ⟨((k, Sk), K), _⟩ => ⟨[(1, .v (.slice a len cap)), (2, .p 0 0), (5, .v (.pointer (some ⟨q, 0, none⟩))), (6, .i .i64 (k : Int))], [⟨bc, 23, true, 0, [], [.i .i64 c.ca, .i .i64 c.fl, .i .i64 c.ft, .i .i64 c.se, .i .i64 c.dr, .i .i64 c.dw, .i .i64 c.ho, .i .i64 c.re, .i .i64 c.yi, .i .i64 c.qu, .i .i64 c.qo, .i .i64 c.lo, .i .i64 c.sl, .i .i64 c.rt, .i .i64 c.cp, .i .i64 c.tr, .i .i64 c.de, .i .i64 c.wi], [], true⟩], [rdO kopE a len os, kO lo q p K Sk true]⟩) (fun x => 60 - x.1.1.1) ⟨((0, S0), newK c), ⟨Nat.zero_le _, Nat.zero_le _⟩, PI.new c⟩ (wkd ?_) ?_
  · repeat' (first | exact trivial | rfl | ((conv => whnf); refine And.intro ?_ ?_))
  rintro ⟨⟨⟨k, Sk⟩, K⟩, ⟨hk60, hkl⟩, HP⟩
  have hk60 : k ≤ 60 := hk60
  have hkl : k ≤ len := hkl
  have HP : PI c k (50 * k) K := HP
  by_cases hlt : k < len
  · by_cases h6 : k < 60
    · have hb := hb (by omega)
      subst hb
      have HP2 : PI c (k + 1) (50 * k) (doK K (os k)) := HP.do_ (by omega) (os k)
      have hk1 : k + 1 ≤ 10000 := by omega
      repeat' ((conv => whnf); first | refine sgo ⟨tab_ok⟩ ?_ | refine br_not ?_ | refine br_t rfl ?_ | refine br_f rfl ?_ | refine br_t (by assumption) ?_ | refine br_f (by assumption) ?_ | refine br_t (decide_eq_true (by assumption)) ?_ | refine br_f (decide_eq_false (by assumption)) ?_ | refine br_t (beq_iff_eq.2 (by assumption)) ?_ | refine br_f (beq_eq_false_iff_ne.2 (by assumption)) ?_ | intro bo | refine drA ⟨tab_ok⟩ [] ?_ | refine kpt ?_ | refine br_t (decide_eq_true (by omega)) ?_ | refine br_f (decide_eq_false (by omega)) ?_ | refine opiv ⟨tab_ok⟩ (by rfl) (by rfl) (by rfl) (by rfl) (by rfl) (by rfl) ⟨by omega, by omega⟩ ?_ | refine puiv ⟨tab_ok⟩ (by rfl) (by rfl) (by rfl) (by rfl) (by rfl) (by rfl) ⟨by omega, by omega⟩ ?_ | refine opix (g := gb) (off := off + k * 12) [.i .i64 (os k).k, .i .i64 (os k).a, .i .i64 (os k).b, .i .i64 (os k).q.se, .i .i64 (os k).q.fl, .i .i64 (os k).q.fm, .i .i64 (os k).q.to, .i .i64 (os k).q.ma, .i .i64 (os k).m.ki, .i .i64 (os k).m.a, .i .i64 (os k).m.b, .i .i64 (os k).m.c] (fun w hH => Ek.rd_rng (Hold.ob hH (A := rdO kopE (some ⟨gb, off, none⟩) len os) 0 rfl) hlt) ⟨tab_ok⟩ (by rfl) (by rfl) (by simp only [Go.WideShapes.add_plain]; rfl) ?_ | refine callON (f := 27) (A := kO lo q p K Sk true) 1 (ι := List Nat × Option Addr × Nat) (fun x => .v (.slice x.2.1 (doE K (os k)).length x.2.2)) (fun x => kO lo q p (doK K (os k)) x.1 true) (fun x => rwO evE w.heap.size x.2.1 (doE K (os k)).length x.2.2 (doE K (os k)) true) (fun w1 hH hA => toD (Φ := fun S' => KW lo q p (doK K (os k)) S') (doT hA HP.k (by omega) (by omega) (os k)) hH.upd.size) (fun y => ?_) | refine fin_s ?_ | refine fin_r ?_ ?_ | refine fin_e ?_ ?_)
      conv => whnf
      obtain ⟨S2, A2, c2⟩ := y
      refine lp ⟨tab_ok⟩ (ι := {x : (Nat × List Nat) × KV // x.1.1 ≤ 50 ∧ PI c (k + 1) (50 * k + x.1.1) x.2}) (fun x => match x with | ⟨((n, Sn), Kn), _⟩ => ⟨[(1, .v (.slice (some ⟨gb, off, none⟩) len cap)), (2, .p 0 0), (5, .v (.pointer (some ⟨q, 0, none⟩))), (6, .i .i64 (k : Int)), (7, .p 1 0), (8, .i .i64 (n : Int))], [⟨bc, 23, true, 0, [], [.i .i64 c.ca, .i .i64 c.fl, .i .i64 c.ft, .i .i64 c.se, .i .i64 c.dr, .i .i64 c.dw, .i .i64 c.ho, .i .i64 c.re, .i .i64 c.yi, .i .i64 c.qu, .i .i64 c.qo, .i .i64 c.lo, .i .i64 c.sl, .i .i64 c.rt, .i .i64 c.cp, .i .i64 c.tr, .i .i64 c.de, .i .i64 c.wi], [], true⟩, ⟨bo, 50, true, 0, [], [.i .i64 (os k).k, .i .i64 (os k).a, .i .i64 (os k).b, .i .i64 (os k).q.se, .i .i64 (os k).q.fl, .i .i64 (os k).q.fm, .i .i64 (os k).q.to, .i .i64 (os k).q.ma, .i .i64 (os k).m.ki, .i .i64 (os k).m.a, .i .i64 (os k).m.b, .i .i64 (os k).m.c], [], true⟩], [rdO kopE (some ⟨gb, off, none⟩) len os, kO lo q p Kn Sn true]⟩) (fun x => 50 - x.1.1.1) ⟨((0, S2), doK K (os k)), Nat.zero_le _, HP2⟩ (wkd ?_) ?_
      · repeat' (first | exact trivial | rfl | ((conv => whnf); refine And.intro ?_ ?_))
      rintro ⟨⟨⟨n, Sn⟩, Kn⟩, hn50, HN⟩
      have hn50 : n ≤ 50 := hn50
      have HN : PI c (k + 1) (50 * k + n) Kn := HN
      have HX : PI c (k + 1) (50 * (k + 1)) Kn := HN.more (Nat.le_refl _) (by omega)
      by_cases h9 : (os k).k = 9
      · by_cases hna : (n : Int) < (os k).a
        · by_cases hn5 : n < 50
          · have HT : KT Kn := HN.k.kt (by omega) (by omega) (by omega)
            have HN2 := HN.tick (by omega)
            have hL := HN2.k.ll
            have hnow := HN2.t
            have hnow0 := HN2.k.now.1
            repeat' ((conv => whnf); first | refine sgo ⟨tab_ok⟩ ?_ | refine br_not ?_ | refine br_t rfl ?_ | refine br_f rfl ?_ | refine br_t (by assumption) ?_ | refine br_f (by assumption) ?_ | refine br_t (decide_eq_true (by assumption)) ?_ | refine br_f (decide_eq_false (by assumption)) ?_ | refine br_t (beq_iff_eq.2 (by assumption)) ?_ | refine br_f (beq_eq_false_iff_ne.2 (by assumption)) ?_ | intro b | refine drA ⟨tab_ok⟩ [] ?_ | refine kpt ?_ | refine br_t (decide_eq_true (by omega)) ?_ | refine br_f (decide_eq_false (by omega)) ?_ | refine wr_i ?_ | refine callO2N (f := 22) (A := kO lo q p Kn Sn true) 1 (ι := List Nat × Nr × Nr) (fun z => .t [.v (.slice z.2.1.2.1 (tickE Kn).length z.2.1.2.2), .v (.slice z.2.2.2.1 (tickP Kn.G).2.2.length z.2.2.2.2)]) (fun z => kO lo q p (tickK Kn) z.1 true) (fun z => rwO evE z.2.1.1 z.2.1.2.1 (tickE Kn).length z.2.1.2.2 (tickE Kn) true) (fun z => waitsO z.2.2.1 z.2.2.2.1 (tickP Kn.G).2.2.length z.2.2.2.2 (tickP Kn.G).2.2 true) (fun w1 hH hA => Co.tickW hA HT) (fun z => ?_) | refine callN (f := 30) (ι := NrP w.heap.size (tickK Kn).L.length) (fun x => .v (.slice x.1.2.1 (tickK Kn).L.length x.1.2.2)) (fun x => rwO leaE x.1.1 x.1.2.1 (tickK Kn).L.length x.1.2.2 (tickK Kn).L true) (fun w1 hH => toNp (leasesK (Hold.ob hH (A := kO lo q p (tickK Kn) z.1 true) 1 rfl) (by omega)) hH.upd.size) (fun u => ?_) | refine fin_s ?_ | refine fin_r ?_ ?_ | refine fin_e ?_ ?_)
            conv => whnf
            obtain ⟨⟨l0, A0, c0⟩, hl0, hA0⟩ := u
            obtain ⟨S4, e4, w4⟩ := z
            have hA0 : 0 < (tickK Kn).L.length → ∃ g, A0 = some ⟨g, 0, none⟩ := hA0
            refine lp ⟨tab_ok⟩ (ι := {j : Nat // j ≤ (tickK Kn).L.length}) (fun x => match x with | ⟨j, _⟩ => ⟨[(1, .v (.slice (some ⟨gb, off, none⟩) len cap)), (2, .p 0 0), (5, .v (.pointer (some ⟨q, 0, none⟩))), (6, .i .i64 (k : Int)), (7, .p 1 0), (8, .i .i64 (n : Int)), (9, .v (.slice A0 (tickK Kn).L.length c0)), (10, .i .i64 (j : Int))], [⟨bc, 23, true, 0, [], [.i .i64 c.ca, .i .i64 c.fl, .i .i64 c.ft, .i .i64 c.se, .i .i64 c.dr, .i .i64 c.dw, .i .i64 c.ho, .i .i64 c.re, .i .i64 c.yi, .i .i64 c.qu, .i .i64 c.qo, .i .i64 c.lo, .i .i64 c.sl, .i .i64 c.rt, .i .i64 c.cp, .i .i64 c.tr, .i .i64 c.de, .i .i64 c.wi], [], true⟩, ⟨bo, 50, true, 0, [], [.i .i64 (os k).k, .i .i64 (os k).a, .i .i64 (os k).b, .i .i64 (os k).q.se, .i .i64 (os k).q.fl, .i .i64 (os k).q.fm, .i .i64 (os k).q.to, .i .i64 (os k).q.ma, .i .i64 (os k).m.ki, .i .i64 (os k).m.a, .i .i64 (os k).m.b, .i .i64 (os k).m.c], [], true⟩], [rdO kopE (some ⟨gb, off, none⟩) len os, kO lo q p (tickK Kn) S4 true, rwO evE e4.1 e4.2.1 (tickE Kn).length e4.2.2 (tickE Kn) true, waitsO w4.1 w4.2.1 (tickP Kn.G).2.2.length w4.2.2 (tickP Kn.G).2.2 true, rwO leaE l0 A0 (tickK Kn).L.length c0 (tickK Kn).L true]⟩) (fun x => (tickK Kn).L.length - x.1) ⟨0, Nat.zero_le _⟩ (wkd ?_) ?_
            · repeat' (first | exact trivial | rfl | ((conv => whnf); refine And.intro ?_ ?_))
            rintro ⟨j, hjl⟩
            have hjl : j ≤ (tickK Kn).L.length := hjl
            by_cases hj : j < (tickK Kn).L.length
            · obtain ⟨l, hl⟩ : ∃ l, (tickK Kn).L[j]? = some l := ⟨_, List.getElem?_eq_getElem (by omega)⟩
              obtain ⟨gL, hgL⟩ := hA0 (by omega)
              subst hgL
              have HL := HN2.e l (List.mem_of_getElem? hl)
              have hbd := HL.bound
              have hgr := HL.gr
              repeat' ((conv => whnf); first | refine sgo ⟨tab_ok⟩ ?_ | refine br_not ?_ | refine br_t rfl ?_ | refine br_f rfl ?_ | refine br_t (by assumption) ?_ | refine br_f (by assumption) ?_ | refine br_t (decide_eq_true (by assumption)) ?_ | refine br_f (decide_eq_false (by assumption)) ?_ | refine br_t (beq_iff_eq.2 (by assumption)) ?_ | refine br_f (beq_eq_false_iff_ne.2 (by assumption)) ?_ | intro b | refine drA ⟨tab_ok⟩ [7] ?_ | refine And.intro ?_ ?_ | refine kpt ?_ | refine br_t (decide_eq_true (by omega)) ?_ | refine br_f (decide_eq_false (by omega)) ?_ | refine wr_i ?_ | refine opiv ⟨tab_ok⟩ (by rfl) (by rfl) (by rfl) (by rfl) (by rfl) (by rfl) ⟨by omega, by omega⟩ ?_ | refine puiv ⟨tab_ok⟩ (by rfl) (by rfl) (by rfl) (by rfl) (by rfl) (by rfl) ⟨by omega, by omega⟩ ?_ | refine opfv ⟨tab_ok⟩ (by rfl) (by rfl) (by rfl) (by rfl) ?_ | refine pufv ⟨tab_ok⟩ (by rfl) (by rfl) (by rfl) (by rfl) ?_ | refine opxc (g := gL) (off := 0 + j * 10 + 9) (.i .i64 l.gr) (fun w hH => rng_sub (n := 1) (Ek.rng (Hold.ob hH (A := rwO leaE l0 (some ⟨gL, 0, none⟩) (tickK Kn).L.length c0 (tickK Kn).L true) 4 rfl) hl) rfl) ⟨tab_ok⟩ (by rfl) (by rfl) (by simp only [Go.WideShapes.add_plain]; rfl) ?_ | refine callH (f := 31) (.v (.pointer (some ⟨p.g, 0, none⟩))) (fun w hH => groupK (Hold.ob hH (A := kO lo q p (tickK Kn) S4 true) 1 rfl)) ?_ | refine callH (f := 35) (.i .i64 (tickK Kn).G.now) (fun w hH => nowW (Hold.ob hH (A := kO lo q p (tickK Kn) S4 true) 1 rfl)) ?_ | refine callS (f := 36) (.i .i64 (boundV c)) (boundT c) ?_ | refine back ⟨j + 1, by show j + 1 ≤ _; omega⟩ (wkd ?_) ?_ | refine fin_s ?_ | refine fin_r ?_ ?_ | refine fin_e ?_ ?_)
              all_goals first | (show (tickK Kn).L.length - (j + 1) < (tickK Kn).L.length - j; omega) | skip
              all_goals (repeat' (first | exact trivial | rfl | ((conv => whnf); refine And.intro ?_ ?_)))
            · repeat' ((conv => whnf); first | refine sgo ⟨tab_ok⟩ ?_ | refine br_not ?_ | refine br_t rfl ?_ | refine br_f rfl ?_ | refine br_t (by assumption) ?_ | refine br_f (by assumption) ?_ | refine br_t (decide_eq_true (by assumption)) ?_ | refine br_f (decide_eq_false (by assumption)) ?_ | refine br_t (beq_iff_eq.2 (by assumption)) ?_ | refine br_f (beq_eq_false_iff_ne.2 (by assumption)) ?_ | intro b | refine drA ⟨tab_ok⟩ [] ?_ | refine kpt ?_ | refine br_t (decide_eq_true (by omega)) ?_ | refine br_f (decide_eq_false (by omega)) ?_ | refine wr_i ?_ | refine back ⟨((n + 1, S4), tickK Kn), by show n + 1 ≤ 50; omega, HN2⟩ (wkd ?_) ?_ | refine fin_s ?_ | refine fin_r ?_ ?_ | refine fin_e ?_ ?_)
              all_goals first | (show 50 - (n + 1) < 50 - n; omega) | skip
              all_goals (repeat' (first | exact trivial | rfl | ((conv => whnf); refine And.intro ?_ ?_)))
          · (repeat' ((conv => whnf); first | refine sgo ⟨tab_ok⟩ ?_ | refine br_not ?_ | refine br_t rfl ?_ | refine br_f rfl ?_ | refine br_t (by assumption) ?_ | refine br_f (by assumption) ?_ | refine br_t (decide_eq_true (by assumption)) ?_ | refine br_f (decide_eq_false (by assumption)) ?_ | refine br_t (beq_iff_eq.2 (by assumption)) ?_ | refine br_f (beq_eq_false_iff_ne.2 (by assumption)) ?_ | intro b | refine drA ⟨tab_ok⟩ [] ?_ | refine kpt ?_ | refine br_t (decide_eq_true (by omega)) ?_ | refine br_f (decide_eq_false (by omega)) ?_ | refine wr_i ?_ | refine br_f (beq_eq_false_iff_ne.2 h9) ?_ | refine back ⟨((k + 1, Sn), Kn), ⟨by show k + 1 ≤ 60; omega, by show k + 1 ≤ len; omega⟩, HX⟩ (wkd ?_) ?_ | refine fin_s ?_ | refine fin_r ?_ ?_ | refine fin_e ?_ ?_); all_goals (first | (show 60 - (k + 1) < 60 - k; omega) | skip); all_goals (repeat' (first | exact trivial | rfl | ((conv => whnf); refine And.intro ?_ ?_))))
        · (repeat' ((conv => whnf); first | refine sgo ⟨tab_ok⟩ ?_ | refine br_not ?_ | refine br_t rfl ?_ | refine br_f rfl ?_ | refine br_t (by assumption) ?_ | refine br_f (by assumption) ?_ | refine br_t (decide_eq_true (by assumption)) ?_ | refine br_f (decide_eq_false (by assumption)) ?_ | refine br_t (beq_iff_eq.2 (by assumption)) ?_ | refine br_f (beq_eq_false_iff_ne.2 (by assumption)) ?_ | intro b | refine drA ⟨tab_ok⟩ [] ?_ | refine kpt ?_ | refine br_t (decide_eq_true (by omega)) ?_ | refine br_f (decide_eq_false (by omega)) ?_ | refine wr_i ?_ | refine br_f (beq_eq_false_iff_ne.2 h9) ?_ | refine back ⟨((k + 1, Sn), Kn), ⟨by show k + 1 ≤ 60; omega, by show k + 1 ≤ len; omega⟩, HX⟩ (wkd ?_) ?_ | refine fin_s ?_ | refine fin_r ?_ ?_ | refine fin_e ?_ ?_); all_goals (first | (show 60 - (k + 1) < 60 - k; omega) | skip); all_goals (repeat' (first | exact trivial | rfl | ((conv => whnf); refine And.intro ?_ ?_))))
      · (repeat' ((conv => whnf); first | refine sgo ⟨tab_ok⟩ ?_ | refine br_not ?_ | refine br_t rfl ?_ | refine br_f rfl ?_ | refine br_t (by assumption) ?_ | refine br_f (by assumption) ?_ | refine br_t (decide_eq_true (by assumption)) ?_ | refine br_f (decide_eq_false (by assumption)) ?_ | refine br_t (beq_iff_eq.2 (by assumption)) ?_ | refine br_f (beq_eq_false_iff_ne.2 (by assumption)) ?_ | intro b | refine drA ⟨tab_ok⟩ [] ?_ | refine kpt ?_ | refine br_t (decide_eq_true (by omega)) ?_ | refine br_f (decide_eq_false (by omega)) ?_ | refine wr_i ?_ | refine br_f (beq_eq_false_iff_ne.2 h9) ?_ | refine back ⟨((k + 1, Sn), Kn), ⟨by show k + 1 ≤ 60; omega, by show k + 1 ≤ len; omega⟩, HX⟩ (wkd ?_) ?_ | refine fin_s ?_ | refine fin_r ?_ ?_ | refine fin_e ?_ ?_); all_goals (first | (show 60 - (k + 1) < 60 - k; omega) | skip); all_goals (repeat' (first | exact trivial | rfl | ((conv => whnf); refine And.intro ?_ ?_))))
    · repeat' ((conv => whnf); first | refine sgo ⟨tab_ok⟩ ?_ | refine br_not ?_ | refine br_t rfl ?_ | refine br_f rfl ?_ | refine br_t (by assumption) ?_ | refine br_f (by assumption) ?_ | refine br_t (decide_eq_true (by assumption)) ?_ | refine br_f (decide_eq_false (by assumption)) ?_ | refine br_t (beq_iff_eq.2 (by assumption)) ?_ | refine br_f (beq_eq_false_iff_ne.2 (by assumption)) ?_ | intro b | refine drA ⟨tab_ok⟩ [] ?_ | refine kpt ?_ | refine br_t (decide_eq_true (by omega)) ?_ | refine br_f (decide_eq_false (by omega)) ?_ | refine wr_i ?_ | refine callS (f := 29) (.b true) (ansT) ?_ | refine fin_s ?_ | refine fin_r ?_ ?_ | refine fin_e ?_ ?_)
      all_goals rfl
  · repeat' ((conv => whnf); first | refine sgo ⟨tab_ok⟩ ?_ | refine br_not ?_ | refine br_t rfl ?_ | refine br_f rfl ?_ | refine br_t (by assumption) ?_ | refine br_f (by assumption) ?_ | refine br_t (decide_eq_true (by assumption)) ?_ | refine br_f (decide_eq_false (by assumption)) ?_ | refine br_t (beq_iff_eq.2 (by assumption)) ?_ | refine br_f (beq_eq_false_iff_ne.2 (by assumption)) ?_ | intro b | refine drA ⟨tab_ok⟩ [] ?_ | refine kpt ?_ | refine br_t (decide_eq_true (by omega)) ?_ | refine br_f (decide_eq_false (by omega)) ?_ | refine wr_i ?_ | refine callS (f := 29) (.b true) (ansT) ?_ | refine fin_s ?_ | refine fin_r ?_ ?_ | refine fin_e ?_ ?_)
    all_goals rfl
theorem endsF {H : Type} {enc : TypeId × Value → H} {x : DataW H × List MemPlace} (c : CfgV) (a : Option Addr) (len cap : Nat) (w : World) (hx : ∃ m, DataW.trod enc Tryz.prog w 0 (fun _ => true) true m 40 (Value.cells (.slice a len cap)).toList = some x) :
    Calls Tryz.prog 7 #[.agg #[.int .i64 c.ca, .int .i64 c.fl, .int .i64 c.ft, .int .i64 c.se, .int .i64 c.dr, .int .i64 c.dw, .int .i64 c.ho, .int .i64 c.re, .int .i64 c.yi, .int .i64 c.qu, .int .i64 c.qo, .int .i64 c.lo, .int .i64 c.sl, .int .i64 c.rt, .int .i64 c.cp, .int .i64 c.tr, .int .i64 c.de, .int .i64 c.wi], .slice a len cap] w fun e w' => e = .returned (.bool true) ∧ Since w w' := by
  obtain ⟨m, hm⟩ := hx
  obtain ⟨os, ho, hl⟩ := kop_open hm
  exact endsF1 c ho hl
end Go.Proofs.YthmikjjnlahlbaaGreat.Lc
namespace Go.Proofs.YthmikjjnlahlbaaGreat.Opn
set_option linter.unusedSectionVars false
set_option linter.unusedVariables false
set_option linter.unusedSimpArgs false
open Go.RowKit
section
variable {P : Program} {W : World} {base : Nat}
/-- The cells of a struct that came in, each fit for its type. -/
theorem open_agg {t : TypeId} {v : Value} {ts : List TypeId} {fs} (hu : P.underlying t = some (.struct fs)) (hts : P.cellTypes P.depth t = some ts) (hn : P.cellsOf t = ts.length) (h : Value.okWide P W .any base t v) :
    ∃ cs : Array Value, v = .agg cs ∧ cs.size = ts.length ∧ ∀ (i : Nat) (u : TypeId), ts[i]? = some u → ∃ c, cs[i]? = some c ∧ Cell.okWide P W .any base u c := by
  unfold Value.okWide at h
  rw [hu] at h
  obtain ⟨cs, rfl, hsz, ts', hts', _, hc⟩ := h
  rw [hts] at hts'
  obtain rfl : ts = ts' := by injection hts'
  refine ⟨cs, rfl, by omega, fun i u hi => ?_⟩
  obtain ⟨hlt, _⟩ := List.getElem?_eq_some_iff.1 hi
  have hcs : cs[i]? = some (cs[i]'(by omega)) := Array.getElem?_eq_getElem (by omega)
  obtain ⟨u', hu', hok⟩ := hc i _ hcs
  rw [Nat.mod_eq_of_lt hlt, hi] at hu'
  obtain rfl : u = u' := by injection hu'
  exact ⟨_, hcs, hok⟩
theorem cell_int {u : TypeId} {k : IntKind} {c : Value} (hu : P.underlying u = some (.int k)) (h : Cell.okWide P W .any base u c) : ∃ x, c = .int k x ∧ (Lit.int k x).wf = true := by
  unfold Cell.okWide at h
  rw [hu] at h
  simp only at h
  unfold Cell.ok at h
  rw [hu] at h
  cases c with
  | int k' x =>
    simp only at h
    obtain ⟨rfl, hx⟩ := h
    exact ⟨x, rfl, by simpa [Lit.wf, IntKind.has] using hx⟩
  | _ => simp at h
/-- An array of known cells. -/
theorem arr_of {cs : Array Value} {l : List Value} (hn : cs.size = l.length) (h : ∀ (i : Nat) (c : Value), l[i]? = some c → cs[i]? = some c) : cs = l.toArray := by
  apply Array.ext_getElem?
  intro i
  rcases Nat.lt_or_ge i l.length with hi | hi
  · have e := List.getElem?_eq_getElem hi
    rw [h i _ e]
    simp [hi]
  · rw [Array.getElem?_eq_none (by omega)]
    simp [hi]
/-- Cells from a place on. -/
def Each (cs : Array Value) (i : Nat) (l : List Value) : Prop := ∀ (j : Nat) (c : Value), l[j]? = some c → cs[i + j]? = some c
theorem each_nil {cs : Array Value} {i : Nat} : Each cs i [] := fun _ _ h => by simp at h
theorem each_cons {cs : Array Value} {i : Nat} {c : Value} {l : List Value} (h : cs[i]? = some c) (k : Each cs (i + 1) l) : Each cs i (c :: l) := by
  intro j d hd
  cases j with
  | zero =>
    have : c = d := by simpa using hd
    subst this; exact h
  | succ j =>
    have e : i + (j + 1) = i + 1 + j := by omega
    rw [e]
    exact k j d (by simpa using hd)
theorem arr_each {cs : Array Value} {l : List Value} (hn : cs.size = l.length) (h : Each cs 0 l) : cs = l.toArray :=
  arr_of hn fun i c hi => by have := h i c hi; rwa [Nat.zero_add] at this
end
end Go.Proofs.YthmikjjnlahlbaaGreat.Opn
