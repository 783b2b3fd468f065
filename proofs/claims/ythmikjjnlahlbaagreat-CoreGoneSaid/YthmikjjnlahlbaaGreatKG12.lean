/-
  What is wanted by the last of these texts, part 12.
  No condition.
-/
import Derived.Test.YthmikjjnlahlbaaGreatKG11
namespace Go.Proofs.YthmikjjnlahlbaaGreat.Lc
set_option linter.unusedSectionVars false
set_option linter.unusedVariables false
set_option linter.unusedSimpArgs false
open Go.RowKit Go.Proofs.YthmikjjnlahlbaaGreat.Ba Go.Proofs.YthmikjjnlahlbaaGreat.Mem Go.Proofs.YthmikjjnlahlbaaGreat.En Go.Proofs.YthmikjjnlahlbaaGreat.Ty Go.Proofs.YthmikjjnlahlbaaGreat.Mo Go.Proofs.YthmikjjnlahlbaaGreat.St Go.Proofs.YthmikjjnlahlbaaGreat.Co
open Go.Proofs.YthmikjjnlahlbaaGreat.Ri (MsgV msgC)
open Go.Proofs.YthmikjjnlahlbaaGreat.Gr (loadR loadG hallR hallG pressR pressG curtR curtG faultR faultG GI)
open Go.Proofs.YthmikjjnlahlbaaGreat.Fl (leaE)
set_option maxRecDepth 100000
attribute [local irreducible] Go.Calls
def ldK (K : KV) (l : LeaseV) (v : Int) : KV := { K with G := (loadR K.G l.ca v).1 }
def obStep (x : KV × List EvV) (l : LeaseV) : KV × List EvV :=
  if l.ph = 2 then (hearK (ldK x.1 l l.ma) l.se ⟨9, 0, 0, 0⟩, x.2 ++ evs l.se (hearM (ldK x.1 l l.ma) l.se ⟨9, 0, 0, 0⟩))
  else if l.ph = 4 then (hearK (ldK x.1 l 0) l.se ⟨13, 0, 0, 0⟩, x.2 ++ evs l.se (hearM (ldK x.1 l 0) l.se ⟨13, 0, 0, 0⟩)) else x
def obF (K : KV) (k : Nat) : KV × List EvV := (K.L.take k).foldl obStep (K, [])
def obK (K : KV) : KV := (obF K K.L.length).1
def obE (K : KV) : List EvV := (obF K K.L.length).2
theorem ob_next {K : KV} {k : Nat} {l : LeaseV} (h : K.L[k]? = some l) : obF K (k + 1) = obStep (obF K k) l := by
  obtain ⟨hk, rfl⟩ := List.getElem?_eq_some_iff.1 h
  unfold obF
  rw [List.take_succ_eq_append_getElem hk, List.foldl_append]; rfl
theorem hearM_len (K : KV) (s : Int) (m : MsgV) : (hearM K s m).length ≤ 1 := by
  unfold hearM; split
  · cases (hearR K (Le.ofL K.L s) m).2.1 <;> simp
  · simp
theorem obS_len (x : KV × List EvV) (l : LeaseV) : (obStep x l).2.length ≤ x.2.length + 1 := by
  unfold obStep; split
  · have := hearM_len (ldK x.1 l l.ma) l.se ⟨9, 0, 0, 0⟩
    simp [evs]; omega
  · split
    · have := hearM_len (ldK x.1 l 0) l.se ⟨13, 0, 0, 0⟩
      simp [evs]; omega
    · omega
theorem ob_len (K : KV) : ∀ k, (obF K k).2.length ≤ k := by
  intro k
  have key : ∀ (ls : List LeaseV) (x : KV × List EvV), (ls.foldl obStep x).2.length ≤ x.2.length + ls.length := by
    intro ls
    induction ls with
    | nil => intro x; simp
    | cons l r ih =>
      intro x
      rw [List.foldl_cons]
      have := ih (obStep x l); have := obS_len x l
      rw [List.length_cons]; omega
  have := key (K.L.take k) (K, [])
  rw [List.length_take] at this
  simp at this
  unfold obF; omega
theorem evs_len (s : Int) (ms : List MsgV) : (evs s ms).length = ms.length := by simp [evs]
section
variable {c : CfgV} {n T m : Nat} {K : KV}
theorem KI.ld (h : KI c n T m K) (l : LeaseV) (v : Int) : KI c n T m (ldK K l v) :=
  ⟨h.g.load _ _, by show ∀ a ∈ (loadR K.G l.ca v).1.waits, _; rw [(Gr.load_w _ _).1]; exact h.s, by show 0 ≤ (loadR K.G l.ca v).1.now ∧ (loadR K.G l.ca v).1.now ≤ _; rw [(Gr.load_w _ _).2]; exact h.now, h.lq, h.okq, h.ll, h.okl⟩
theorem KI.obS {x : KV × List EvV} (h : KI c n T m x.1) (l : LeaseV) : KI c n T m (obStep x l).1 := by
  unfold obStep; split
  · exact (KI.ld h l _).hear _ _
  · split
    · exact (KI.ld h l _).hear _ _
    · exact h
theorem KI.ob (h : KI c n T m K) (k : Nat) : KI c n T m (obF K k).1 := by
  have key : ∀ (ls : List LeaseV) (x : KV × List EvV), KI c n T m x.1 → KI c n T m (ls.foldl obStep x).1 := by
    intro ls
    induction ls with
    | nil => intro x h; exact h
    | cons l r ih => intro x h; rw [List.foldl_cons]; exact ih _ (KI.obS h l)
  exact key _ _ h
end
attribute [local irreducible] hearK hearM ldK evs
section
variable {lo q : Nat} {p : Pt} {K : KV} {S : List Nat} {w : World} {c : CfgV} {n T m : Nat}
theorem loadW (h : KW lo q p K S w) (l : LeaseV) (v : Int) : Calls Tryz.prog 59 #[.pointer (some ⟨p.g, 0, none⟩), .int .i64 l.ca, .int .i64 v] w fun e w' => ∃ S', e = .returned (.int .i64 (loadR K.G l.ca v).2) ∧ KW lo q p (ldK K l v) S' w' ∧ Upd S w w' ∧ ∀ g ∈ S', g ∈ S ∨ w.heap.size ≤ g := by
  unfold ldK
  exact KW.grp h (one_c _ _ _) (fun S1 hq => loadG hq l.ca v)
attribute [local irreducible] loadR
set_option maxHeartbeats 8000000 in
theorem obeysT (h : KW lo q p K S w) (hi : KI c n T m K) (hm : m ≤ 10000) :
    Calls Tryz.prog 41 #[.pointer (some ⟨q, 0, none⟩)] w fun e w' => ∃ x : List Nat × Nr, e = .returned (.slice x.2.2.1 (obE K).length x.2.2.2) ∧ KW lo q p (obK K) x.1 w' ∧ (rwO evE x.2.1 x.2.2.1 (obE K).length x.2.2.2 (obE K) true).st w' ∧ Upd S w w' ∧ (∀ g ∈ x.1, g ∈ S ∨ w.heap.size ≤ g) ∧ ∀ g ∈ blkOf x.2.2.1, w.heap.size ≤ g ∧ g ∉ x.1 := by
  have hll := hi.ll
  refine entH tab_ok (Hold.addObj (Hold.addObj (Hold.nil _ tab S _ w) (kO lo q p K S true) h (fun _ g hg => .inl hg) (by intro r hr; cases hr) (by intro A hA; cases hA)) (rwO evE w.heap.size none 0 0 [] true) (Ek.nil _ _ _) (by intro _ g hg; cases hg) (by intro r _ _ hg; cases hg) (by intro A hA _ g hg hg2; cases hg2)) [.v (.pointer (some ⟨q, 0, none⟩))] Tryz.func41 Tryz.ntmps41 rfl rfl ?_
  repeat' ((conv => whnf); first | refine sgo ⟨tab_ok⟩ ?_ | refine br_not ?_ | refine br_t rfl ?_ | refine br_f rfl ?_ | refine br_t (by assumption) ?_ | refine br_f (by assumption) ?_ | refine br_t (decide_eq_true (by assumption)) ?_ | refine br_f (decide_eq_false (by assumption)) ?_ | refine br_t (beq_iff_eq.2 (by assumption)) ?_ | refine br_f (beq_eq_false_iff_ne.2 (by assumption)) ?_ | intro b | refine drA ⟨tab_ok⟩ [] ?_ | refine kpt ?_ | refine callN (f := 30) (ι := NrP w.heap.size K.L.length) (fun x => .v (.slice x.1.2.1 K.L.length x.1.2.2)) (fun x => rwO leaE x.1.1 x.1.2.1 K.L.length x.1.2.2 K.L true) (fun w1 hH => toNp (leasesK (Hold.ob hH (A := kO lo q p K S true) 0 rfl) (by omega)) hH.upd.size) (fun ls => ?_) | refine fin_s ?_ | refine fin_r ?_ ?_ | refine fin_e ?_ ?_)
  conv => whnf
  obtain ⟨⟨l0, A0, c0⟩, hl0, hA0⟩ := ls
  have hA0 : 0 < K.L.length → ∃ g, A0 = some ⟨g, 0, none⟩ := hA0
  refine lp ⟨tab_ok⟩ (ι := {x : (Nat × List Nat × Nr) × (KV × List EvV) // x.1.1 ≤ K.L.length ∧ obF K x.1.1 = x.2}) (fun x => match x with | ⟨((k, Sk, (_, A3, c3)), (Kk, es)), _⟩ => ⟨[(0, .v (.pointer (some ⟨q, 0, none⟩))), (3, .v (.slice A3 es.length c3)), (4, .v (.slice A0 K.L.length c0)), (5, .i .i64 (k : Int))], [], [kO lo q p Kk Sk true, rwO evE w.heap.size A3 es.length c3 es true, rwO leaE l0 A0 K.L.length c0 K.L true]⟩) (fun x => K.L.length - x.1.1.1) ⟨((0, S, (0, none, 0)), (K, [])), Nat.zero_le _, rfl⟩ (wk ?_) ?_
  · repeat' (first | exact trivial | rfl | ((conv => whnf); refine And.intro ?_ ?_))
  rintro ⟨⟨⟨k, Sk, ⟨u0, A3, c3⟩⟩, ⟨Kk, es⟩⟩, hkl, hfo⟩
  have hkl : k ≤ K.L.length := hkl
  have hfo : obF K k = (Kk, es) := hfo
  have HK : KI c n T m Kk := by have := KI.ob hi k; rw [hfo] at this; exact this
  have hes : es.length ≤ k := by have := ob_len K k; rw [hfo] at this; exact this
  by_cases hlt : k < K.L.length
  · obtain ⟨l, hl⟩ : ∃ l, K.L[k]? = some l := ⟨_, List.getElem?_eq_getElem (by omega)⟩
    have hs := ob_next hl
    rw [hfo] at hs
    obtain ⟨g0, rfl⟩ := hA0 (by omega)
    by_cases h2 : l.ph = 2
    · have H1 : KI c n T m (ldK Kk l l.ma) := KI.ld HK l l.ma
      have hs2 : obF K (k + 1) = (hearK (ldK Kk l l.ma) l.se ⟨9, 0, 0, 0⟩, es ++ evs l.se (hearM (ldK Kk l l.ma) l.se ⟨9, 0, 0, 0⟩)) := by rw [hs]; unfold obStep; rw [if_pos h2]
      have hm1 := hearM_len (ldK Kk l l.ma) l.se ⟨9, 0, 0, 0⟩
      repeat' ((conv => whnf); first | refine sgo ⟨tab_ok⟩ ?_ | refine br_not ?_ | refine br_t rfl ?_ | refine br_f rfl ?_ | refine br_t (by assumption) ?_ | refine br_f (by assumption) ?_ | refine br_t (decide_eq_true (by assumption)) ?_ | refine br_f (decide_eq_false (by assumption)) ?_ | refine br_t (beq_iff_eq.2 (by assumption)) ?_ | refine br_f (beq_eq_false_iff_ne.2 (by assumption)) ?_ | intro b | refine br_t (decide_eq_true (by omega)) ?_ | refine br_f (decide_eq_false (by omega)) ?_ | refine wr_i ?_ | refine kpt ?_ | refine drA ⟨tab_ok⟩ [6, 12] ?_ | refine And.intro ?_ ?_ | refine br_t (beq_iff_eq.2 h2) ?_ | refine opiv ⟨tab_ok⟩ (by rfl) (by rfl) (by rfl) (by rfl) (by rfl) (by rfl) ⟨by omega, by omega⟩ ?_ | refine puiv ⟨tab_ok⟩ (by rfl) (by rfl) (by rfl) (by rfl) (by rfl) (by rfl) ⟨by omega, by omega⟩ ?_ | refine opfv ⟨tab_ok⟩ (by rfl) (by rfl) (by rfl) (by rfl) ?_ | refine pufv ⟨tab_ok⟩ (by rfl) (by rfl) (by rfl) (by rfl) ?_ | refine opxc (g := g0) (off := 0 + k * 10 + 6) (.i .i64 l.ph) (fun w hH => rng_sub (n := 1) (Ek.rng (Hold.ob hH (A := rwO leaE l0 (some ⟨g0, 0, none⟩) K.L.length c0 K.L true) 2 rfl) hl) rfl) ⟨tab_ok⟩ (by rfl) (by rfl) (by simp only [Go.WideShapes.add_plain]; rfl) ?_ | refine opxc (g := g0) (off := 0 + k * 10 + 5) (.i .i64 l.ca) (fun w hH => rng_sub (n := 1) (Ek.rng (Hold.ob hH (A := rwO leaE l0 (some ⟨g0, 0, none⟩) K.L.length c0 K.L true) 2 rfl) hl) rfl) ⟨tab_ok⟩ (by rfl) (by rfl) (by simp only [Go.WideShapes.add_plain]; rfl) ?_ | refine opxc (g := g0) (off := 0 + k * 10 + 4) (.i .i64 l.ma) (fun w hH => rng_sub (n := 1) (Ek.rng (Hold.ob hH (A := rwO leaE l0 (some ⟨g0, 0, none⟩) K.L.length c0 K.L true) 2 rfl) hl) rfl) ⟨tab_ok⟩ (by rfl) (by rfl) (by simp only [Go.WideShapes.add_plain]; rfl) ?_ | refine opxc (g := g0) (off := 0 + k * 10 + 0) (.i .i64 l.se) (fun w hH => rng_sub (n := 1) (Ek.rng (Hold.ob hH (A := rwO leaE l0 (some ⟨g0, 0, none⟩) K.L.length c0 K.L true) 2 rfl) hl) rfl) ⟨tab_ok⟩ (by rfl) (by rfl) (by simp only [Go.WideShapes.add_plain]; rfl) ?_ | refine callH (f := 31) (.v (.pointer (some ⟨p.g, 0, none⟩))) (fun w hH => groupK (Hold.ob hH (A := kO lo q p Kk Sk true) 0 rfl)) ?_ | refine callO (f := 59) (A := kO lo q p Kk Sk true) 0 (fun _ => .i .i64 (loadR Kk.G l.ca l.ma).2) (fun S' => kO lo q p (ldK Kk l l.ma) S' true) (fun w hH hA => loadW hA l l.ma) (fun S1 => ?_) | refine callON (f := 43) (A := kO lo q p (ldK Kk l l.ma) S1 true) 0 (ι := List Nat × Nr) (fun x => .v (.slice x.2.2.1 (hearM (ldK Kk l l.ma) l.se ⟨9, 0, 0, 0⟩).length x.2.2.2)) (fun x => kO lo q p (hearK (ldK Kk l l.ma) l.se ⟨9, 0, 0, 0⟩) x.1 true) (fun x => rwO evE x.2.1 x.2.2.1 (hearM (ldK Kk l l.ma) l.se ⟨9, 0, 0, 0⟩).length x.2.2.2 (evs l.se (hearM (ldK Kk l l.ma) l.se ⟨9, 0, 0, 0⟩)) true) (fun w1 hH hA => hearW hA (by rw [H1.len]; have := Gr.ncars_bd c; omega) (by have := H1.ll; omega) l.se ⟨9, 0, 0, 0⟩ (fun h => H1.inc (H1.okl _ (has_mem h).1))) (fun x => ?_) | refine opao 1 3 (e := 81) (lo := w.heap.size) (size := 5) (bytes := 40) (z := .agg #[.int .i64 0, .int .i64 0, .int .i64 0, .int .i64 0, .int .i64 0]) (A := rwO evE w.heap.size A3 es.length c3 es true) (E := rwO evE x.2.1 x.2.2.1 (hearM (ldK Kk l l.ma) l.se ⟨9, 0, 0, 0⟩).length x.2.2.2 (evs l.se (hearM (ldK Kk l l.ma) l.se ⟨9, 0, 0, 0⟩)) true) (vals := rowsOf evC es) (cells := rowsOf evC (evs l.se (hearM (ldK Kk l l.ma) l.se ⟨9, 0, 0, 0⟩))) (zs := rowsOf evC (es ++ evs l.se (hearM (ldK Kk l l.ma) l.se ⟨9, 0, 0, 0⟩))) (n2 := (es ++ evs l.se (hearM (ldK Kk l l.ma) l.se ⟨9, 0, 0, 0⟩)).length) (fun A' c' => rwO evE w.heap.size A' (es ++ evs l.se (hearM (ldK Kk l l.ma) l.se ⟨9, 0, 0, 0⟩)).length c' (es ++ evs l.se (hearM (ldK Kk l l.ma) l.se ⟨9, 0, 0, 0⟩)) true) (by rfl) (by rfl) (by rfl) (by rfl) (by rfl) rfl rfl (fun w h => h) (fun A' c' w h => h) (fun _ _ => rfl) (fun w h => Ek.reads h) Tryz.underlying51 (by kernel_rfl) rfl (by decide) (by decide) (rowsOf_one' evE.one _) (by omega) (fun w hH => hH.upd.size) (by rw [List.length_append, evs_len]) (by rw [rowsOf_append]) (fun A' c' => ?_) | refine back ⟨((k + 1, x.1, (0, A', c')), (hearK (ldK Kk l l.ma) l.se ⟨9, 0, 0, 0⟩, es ++ evs l.se (hearM (ldK Kk l l.ma) l.se ⟨9, 0, 0, 0⟩))), by show k + 1 ≤ _; omega, hs2⟩ (wkd ?_) ?_ | refine fin_s ?_ | refine fin_r ?_ ?_ | refine fin_e ?_ ?_)
      all_goals first | (show K.L.length - (k + 1) < K.L.length - k; omega) | skip
      all_goals (repeat' (first | exact trivial | rfl | ((conv => whnf); refine And.intro ?_ ?_)))
    · by_cases h4 : l.ph = 4
      · have H1 : KI c n T m (ldK Kk l 0) := KI.ld HK l 0
        have hs2 : obF K (k + 1) = (hearK (ldK Kk l 0) l.se ⟨13, 0, 0, 0⟩, es ++ evs l.se (hearM (ldK Kk l 0) l.se ⟨13, 0, 0, 0⟩)) := by rw [hs]; unfold obStep; rw [if_neg h2, if_pos h4]
        have hm1 := hearM_len (ldK Kk l 0) l.se ⟨13, 0, 0, 0⟩
        repeat' ((conv => whnf); first | refine sgo ⟨tab_ok⟩ ?_ | refine br_not ?_ | refine br_t rfl ?_ | refine br_f rfl ?_ | refine br_t (by assumption) ?_ | refine br_f (by assumption) ?_ | refine br_t (decide_eq_true (by assumption)) ?_ | refine br_f (decide_eq_false (by assumption)) ?_ | refine br_t (beq_iff_eq.2 (by assumption)) ?_ | refine br_f (beq_eq_false_iff_ne.2 (by assumption)) ?_ | intro b | refine br_t (decide_eq_true (by omega)) ?_ | refine br_f (decide_eq_false (by omega)) ?_ | refine wr_i ?_ | refine kpt ?_ | refine drA ⟨tab_ok⟩ [6] ?_ | refine And.intro ?_ ?_ | refine br_t (beq_iff_eq.2 h4) ?_ | refine br_f (beq_eq_false_iff_ne.2 h2) ?_ | refine opiv ⟨tab_ok⟩ (by rfl) (by rfl) (by rfl) (by rfl) (by rfl) (by rfl) ⟨by omega, by omega⟩ ?_ | refine puiv ⟨tab_ok⟩ (by rfl) (by rfl) (by rfl) (by rfl) (by rfl) (by rfl) ⟨by omega, by omega⟩ ?_ | refine opfv ⟨tab_ok⟩ (by rfl) (by rfl) (by rfl) (by rfl) ?_ | refine pufv ⟨tab_ok⟩ (by rfl) (by rfl) (by rfl) (by rfl) ?_ | refine opxc (g := g0) (off := 0 + k * 10 + 6) (.i .i64 l.ph) (fun w hH => rng_sub (n := 1) (Ek.rng (Hold.ob hH (A := rwO leaE l0 (some ⟨g0, 0, none⟩) K.L.length c0 K.L true) 2 rfl) hl) rfl) ⟨tab_ok⟩ (by rfl) (by rfl) (by simp only [Go.WideShapes.add_plain]; rfl) ?_ | refine opxc (g := g0) (off := 0 + k * 10 + 5) (.i .i64 l.ca) (fun w hH => rng_sub (n := 1) (Ek.rng (Hold.ob hH (A := rwO leaE l0 (some ⟨g0, 0, none⟩) K.L.length c0 K.L true) 2 rfl) hl) rfl) ⟨tab_ok⟩ (by rfl) (by rfl) (by simp only [Go.WideShapes.add_plain]; rfl) ?_ | refine opxc (g := g0) (off := 0 + k * 10 + 4) (.i .i64 l.ma) (fun w hH => rng_sub (n := 1) (Ek.rng (Hold.ob hH (A := rwO leaE l0 (some ⟨g0, 0, none⟩) K.L.length c0 K.L true) 2 rfl) hl) rfl) ⟨tab_ok⟩ (by rfl) (by rfl) (by simp only [Go.WideShapes.add_plain]; rfl) ?_ | refine opxc (g := g0) (off := 0 + k * 10 + 0) (.i .i64 l.se) (fun w hH => rng_sub (n := 1) (Ek.rng (Hold.ob hH (A := rwO leaE l0 (some ⟨g0, 0, none⟩) K.L.length c0 K.L true) 2 rfl) hl) rfl) ⟨tab_ok⟩ (by rfl) (by rfl) (by simp only [Go.WideShapes.add_plain]; rfl) ?_ | refine callH (f := 31) (.v (.pointer (some ⟨p.g, 0, none⟩))) (fun w hH => groupK (Hold.ob hH (A := kO lo q p Kk Sk true) 0 rfl)) ?_ | refine callO (f := 59) (A := kO lo q p Kk Sk true) 0 (fun _ => .i .i64 (loadR Kk.G l.ca 0).2) (fun S' => kO lo q p (ldK Kk l 0) S' true) (fun w hH hA => loadW hA l 0) (fun S1 => ?_) | refine callON (f := 43) (A := kO lo q p (ldK Kk l 0) S1 true) 0 (ι := List Nat × Nr) (fun x => .v (.slice x.2.2.1 (hearM (ldK Kk l 0) l.se ⟨13, 0, 0, 0⟩).length x.2.2.2)) (fun x => kO lo q p (hearK (ldK Kk l 0) l.se ⟨13, 0, 0, 0⟩) x.1 true) (fun x => rwO evE x.2.1 x.2.2.1 (hearM (ldK Kk l 0) l.se ⟨13, 0, 0, 0⟩).length x.2.2.2 (evs l.se (hearM (ldK Kk l 0) l.se ⟨13, 0, 0, 0⟩)) true) (fun w1 hH hA => hearW hA (by rw [H1.len]; have := Gr.ncars_bd c; omega) (by have := H1.ll; omega) l.se ⟨13, 0, 0, 0⟩ (fun h => H1.inc (H1.okl _ (has_mem h).1))) (fun x => ?_) | refine opao 1 3 (e := 81) (lo := w.heap.size) (size := 5) (bytes := 40) (z := .agg #[.int .i64 0, .int .i64 0, .int .i64 0, .int .i64 0, .int .i64 0]) (A := rwO evE w.heap.size A3 es.length c3 es true) (E := rwO evE x.2.1 x.2.2.1 (hearM (ldK Kk l 0) l.se ⟨13, 0, 0, 0⟩).length x.2.2.2 (evs l.se (hearM (ldK Kk l 0) l.se ⟨13, 0, 0, 0⟩)) true) (vals := rowsOf evC es) (cells := rowsOf evC (evs l.se (hearM (ldK Kk l 0) l.se ⟨13, 0, 0, 0⟩))) (zs := rowsOf evC (es ++ evs l.se (hearM (ldK Kk l 0) l.se ⟨13, 0, 0, 0⟩))) (n2 := (es ++ evs l.se (hearM (ldK Kk l 0) l.se ⟨13, 0, 0, 0⟩)).length) (fun A' c' => rwO evE w.heap.size A' (es ++ evs l.se (hearM (ldK Kk l 0) l.se ⟨13, 0, 0, 0⟩)).length c' (es ++ evs l.se (hearM (ldK Kk l 0) l.se ⟨13, 0, 0, 0⟩)) true) (by rfl) (by rfl) (by rfl) (by rfl) (by rfl) rfl rfl (fun w h => h) (fun A' c' w h => h) (fun _ _ => rfl) (fun w h => Ek.reads h) Tryz.underlying51 (by kernel_rfl) rfl (by decide) (by decide) (rowsOf_one' evE.one _) (by omega) (fun w hH => hH.upd.size) (by rw [List.length_append, evs_len]) (by rw [rowsOf_append]) (fun A' c' => ?_) | refine back ⟨((k + 1, x.1, (0, A', c')), (hearK (ldK Kk l 0) l.se ⟨13, 0, 0, 0⟩, es ++ evs l.se (hearM (ldK Kk l 0) l.se ⟨13, 0, 0, 0⟩))), by show k + 1 ≤ _; omega, hs2⟩ (wkd ?_) ?_ | refine fin_s ?_ | refine fin_r ?_ ?_ | refine fin_e ?_ ?_)
        all_goals first | (show K.L.length - (k + 1) < K.L.length - k; omega) | skip
        all_goals (repeat' (first | exact trivial | rfl | ((conv => whnf); refine And.intro ?_ ?_)))
      · have hs2 : obF K (k + 1) = (Kk, es) := by rw [hs]; unfold obStep; rw [if_neg h2, if_neg h4]
        repeat' ((conv => whnf); first | refine sgo ⟨tab_ok⟩ ?_ | refine br_not ?_ | refine br_t rfl ?_ | refine br_f rfl ?_ | refine br_t (by assumption) ?_ | refine br_f (by assumption) ?_ | refine br_t (decide_eq_true (by assumption)) ?_ | refine br_f (decide_eq_false (by assumption)) ?_ | refine br_t (beq_iff_eq.2 (by assumption)) ?_ | refine br_f (beq_eq_false_iff_ne.2 (by assumption)) ?_ | intro b | refine br_t (decide_eq_true (by omega)) ?_ | refine br_f (decide_eq_false (by omega)) ?_ | refine wr_i ?_ | refine kpt ?_ | refine br_f (beq_eq_false_iff_ne.2 h4) ?_ | refine br_f (beq_eq_false_iff_ne.2 h2) ?_ | refine opiv ⟨tab_ok⟩ (by rfl) (by rfl) (by rfl) (by rfl) (by rfl) (by rfl) ⟨by omega, by omega⟩ ?_ | refine puiv ⟨tab_ok⟩ (by rfl) (by rfl) (by rfl) (by rfl) (by rfl) (by rfl) ⟨by omega, by omega⟩ ?_ | refine opfv ⟨tab_ok⟩ (by rfl) (by rfl) (by rfl) (by rfl) ?_ | refine pufv ⟨tab_ok⟩ (by rfl) (by rfl) (by rfl) (by rfl) ?_ | refine opxc (g := g0) (off := 0 + k * 10 + 6) (.i .i64 l.ph) (fun w hH => rng_sub (n := 1) (Ek.rng (Hold.ob hH (A := rwO leaE l0 (some ⟨g0, 0, none⟩) K.L.length c0 K.L true) 2 rfl) hl) rfl) ⟨tab_ok⟩ (by rfl) (by rfl) (by simp only [Go.WideShapes.add_plain]; rfl) ?_ | refine opxc (g := g0) (off := 0 + k * 10 + 5) (.i .i64 l.ca) (fun w hH => rng_sub (n := 1) (Ek.rng (Hold.ob hH (A := rwO leaE l0 (some ⟨g0, 0, none⟩) K.L.length c0 K.L true) 2 rfl) hl) rfl) ⟨tab_ok⟩ (by rfl) (by rfl) (by simp only [Go.WideShapes.add_plain]; rfl) ?_ | refine opxc (g := g0) (off := 0 + k * 10 + 4) (.i .i64 l.ma) (fun w hH => rng_sub (n := 1) (Ek.rng (Hold.ob hH (A := rwO leaE l0 (some ⟨g0, 0, none⟩) K.L.length c0 K.L true) 2 rfl) hl) rfl) ⟨tab_ok⟩ (by rfl) (by rfl) (by simp only [Go.WideShapes.add_plain]; rfl) ?_ | refine opxc (g := g0) (off := 0 + k * 10 + 0) (.i .i64 l.se) (fun w hH => rng_sub (n := 1) (Ek.rng (Hold.ob hH (A := rwO leaE l0 (some ⟨g0, 0, none⟩) K.L.length c0 K.L true) 2 rfl) hl) rfl) ⟨tab_ok⟩ (by rfl) (by rfl) (by simp only [Go.WideShapes.add_plain]; rfl) ?_ | refine back ⟨((k + 1, Sk, (0, A3, c3)), (Kk, es)), by show k + 1 ≤ _; omega, hs2⟩ (wkd ?_) ?_ | refine fin_s ?_ | refine fin_r ?_ ?_ | refine fin_e ?_ ?_)
        all_goals first | (show K.L.length - (k + 1) < K.L.length - k; omega) | skip
        all_goals (repeat' (first | exact trivial | rfl | ((conv => whnf); refine And.intro ?_ ?_)))
  · obtain rfl : k = K.L.length := by omega
    have hE : obE K = es := by unfold obE; rw [hfo]
    have hKK : obK K = Kk := by unfold obK; rw [hfo]
    rw [hE, hKK]
    repeat' ((conv => whnf); first | refine sgo ⟨tab_ok⟩ ?_ | refine br_not ?_ | refine br_t rfl ?_ | refine br_f rfl ?_ | refine br_t (by assumption) ?_ | refine br_f (by assumption) ?_ | refine br_t (decide_eq_true (by assumption)) ?_ | refine br_f (decide_eq_false (by assumption)) ?_ | refine br_t (beq_iff_eq.2 (by assumption)) ?_ | refine br_f (beq_eq_false_iff_ne.2 (by assumption)) ?_ | intro b | refine drA ⟨tab_ok⟩ [] ?_ | refine kpt ?_ | refine br_t (decide_eq_true (by omega)) ?_ | refine br_f (decide_eq_false (by omega)) ?_ | refine fin fun w' hH => ?_ | refine fin_s ?_ | refine fin_r ?_ ?_ | refine fin_e ?_ ?_)
    have o0 := Hold.ob hH (A := kO lo q p Kk Sk true) 0 rfl
    have o1 := Hold.ob hH (A := rwO evE w.heap.size A3 es.length c3 es true) 1 rfl
    exact ⟨(Sk, (w.heap.size, A3, c3)), rfl, o0, o1, hH.upd, hH.own _ (List.mem_cons_self ..) rfl, fun g hg => ⟨own_low o1 g hg, fun hg2 => pair_at (R := DisR) (fun _ _ h => h.symm) hH.dis (i := 0) (j := 1) rfl rfl (by decide) (.inl rfl) g hg2 hg⟩⟩
end
end Go.Proofs.YthmikjjnlahlbaaGreat.Lc
namespace Go.Proofs.YthmikjjnlahlbaaGreat.Lc
set_option linter.unusedSectionVars false
set_option linter.unusedVariables false
set_option linter.unusedSimpArgs false
open Go.RowKit Go.Proofs.YthmikjjnlahlbaaGreat.Ba Go.Proofs.YthmikjjnlahlbaaGreat.Mem Go.Proofs.YthmikjjnlahlbaaGreat.En Go.Proofs.YthmikjjnlahlbaaGreat.Ty Go.Proofs.YthmikjjnlahlbaaGreat.Mo Go.Proofs.YthmikjjnlahlbaaGreat.St Go.Proofs.YthmikjjnlahlbaaGreat.Co
open Go.Proofs.YthmikjjnlahlbaaGreat.Ri (MsgV msgC)
open Go.Proofs.YthmikjjnlahlbaaGreat.Gr (loadR loadG hallR hallG pressR pressG curtR curtG faultR faultG GI doR fltX disW one fault_in)
open Go.Proofs.YthmikjjnlahlbaaGreat.Fl (leaE)
set_option maxRecDepth 100000
attribute [local irreducible] Go.Calls
def gdo (G : Gr.GrV) (o : KopV) : Gr.GrV := if 4 ≤ o.k ∧ o.k ≤ 8 then (doR G (o.k - 3) o.a o.b (o.b == 1)).1 else G
def doK (K : KV) (o : KopV) : KV := if o.k = 1 then ansK K o.q else if o.k = 2 then hearK K o.q.se o.m else if o.k = 3 then goneK K o.q.se else if o.k = 10 then obK K else { K with G := gdo K.G o }
def doE (K : KV) (o : KopV) : List EvV := if o.k = 1 then evs o.q.se [ansM K o.q] else if o.k = 2 then evs o.q.se (hearM K o.q.se o.m) else if o.k = 10 then obE K else []
theorem gdo_id {G : Gr.GrV} {o : KopV} (h : ¬ (4 ≤ o.k ∧ o.k ≤ 8)) : gdo G o = G := by unfold gdo; rw [if_neg h]
theorem doR_w (G : Gr.GrV) (k a b : Int) (y : Bool) (hk : 1 ≤ k ∧ k ≤ 5) : (doR G k a b y).1.now = G.now ∧ (doR G k a b y).1.c = G.c ∧ ∀ z ∈ (doR G k a b y).1.waits, z.si = G.now ∨ ∃ u ∈ G.waits, z.si = u.si := by
  have id' : ∀ z ∈ G.waits, z.si = G.now ∨ ∃ u ∈ G.waits, z.si = u.si := fun z hz => .inr ⟨z, hz, rfl⟩
  have on : ∀ (f : CarV → CarV × Int), (one G a f).1.now = G.now ∧ (one G a f).1.c = G.c ∧ ∀ z ∈ (one G a f).1.waits, z.si = G.now ∨ ∃ u ∈ G.waits, z.si = u.si := fun f =>
    ⟨(Gr.one_w _ _).2.1, one_c _ _ _, by rw [(Gr.one_w _ _).1]; exact id'⟩
  unfold doR
  split
  · unfold Gr.hallR; split
    · split
      · refine ⟨rfl, rfl, fun z hz => ?_⟩
        rcases List.mem_append.1 hz with h | h
        · exact id' z h
        · rw [List.mem_singleton] at h; subst h; exact .inl rfl
      · exact ⟨rfl, rfl, id'⟩
    · exact ⟨rfl, rfl, id'⟩
  split
  · unfold Gr.pressR; split
    · exact on _
    · exact ⟨rfl, rfl, id'⟩
  split
  · exact on _
  split
  · exact on _
  split
  · unfold Gr.faultR; split
    · split
      · refine ⟨(on _).1, (on _).2.1, fun z hz => ?_⟩
        obtain ⟨u, hu, rfl⟩ := List.mem_map.1 hz
        refine .inr ⟨u, hu, ?_⟩
        unfold disW; split <;> rfl
      · exact ⟨rfl, rfl, id'⟩
    · exact on _
  omega
theorem gdo_w (G : Gr.GrV) (o : KopV) : (gdo G o).now = G.now ∧ (gdo G o).c = G.c ∧ ∀ z ∈ (gdo G o).waits, z.si = G.now ∨ ∃ u ∈ G.waits, z.si = u.si := by
  unfold gdo; split
  · exact doR_w _ _ _ _ _ (by omega)
  · exact ⟨rfl, rfl, fun z hz => .inr ⟨z, hz, rfl⟩⟩
section
variable {c : CfgV} {n T m : Nat} {K : KV}
theorem KI.gdo (h : KI c n T m K) (o : KopV) : KI c (n + 1) T m { K with G := gdo K.G o } := by
  obtain ⟨e1, e2, e3⟩ := gdo_w K.G o
  refine ⟨?_, fun z hz => ?_, by show 0 ≤ (Lc.gdo K.G o).now ∧ _; rw [e1]; exact h.now, h.lq, h.okq, h.ll, h.okl⟩
  · show GI c (n + 1) T (Lc.gdo K.G o)
    unfold Lc.gdo; split
    · exact h.g.do_ _ _ _ _
    · exact h.g.more (Nat.le_succ n)
  · rcases e3 z hz with e | ⟨u, hu, e⟩
    · rw [e]; exact h.now
    · rw [e]; exact h.s u hu
theorem KI.do_ (h : KI c n T m K) (o : KopV) : KI c (n + 1) T m (doK K o) := by
  have up : ∀ {K' : KV}, KI c n T m K' → KI c (n + 1) T m K' := fun h => h.more (Nat.le_succ n) (Nat.le_refl _) (Nat.le_refl _)
  unfold doK
  split
  · exact up (h.ans _)
  split
  · exact up (h.hear _ _)
  split
  · exact up (h.gone _)
  split
  · exact up (KI.ob h _)
  · exact KI.gdo h o
end
section
variable {lo q : Nat} {p : Pt} {K : KV} {S : List Nat} {w : World} {c : CfgV} {n T m : Nat}
theorem hallW (h : KW lo q p K S w) (hl : K.G.waits.length ≤ 10000) (a b : Int) : Calls Tryz.prog 57 #[.pointer (some ⟨p.g, 0, none⟩), .int .i64 a, .int .i64 b] w fun e w' => ∃ S', e = .returned (.int .i64 (hallR K.G a b).2) ∧ KW lo q p { K with G := (doR K.G 1 a b (b == 1)).1 } S' w' ∧ Upd S w w' ∧ ∀ g ∈ S', g ∈ S ∨ w.heap.size ≤ g :=
  KW.grp h (doR_w K.G 1 a b (b == 1) (by decide)).2.1 (fun S1 hq => hallG hq hl a b)
theorem pressW (h : KW lo q p K S w) (a b : Int) : Calls Tryz.prog 58 #[.pointer (some ⟨p.g, 0, none⟩), .int .i64 a, .int .i64 b] w fun e w' => ∃ S', e = .returned (.int .i64 (pressR K.G a b).2) ∧ KW lo q p { K with G := (doR K.G 2 a b (b == 1)).1 } S' w' ∧ Upd S w w' ∧ ∀ g ∈ S', g ∈ S ∨ w.heap.size ≤ g :=
  KW.grp h (doR_w K.G 2 a b (b == 1) (by decide)).2.1 (fun S1 hq => pressG hq a b)
theorem loadW2 (h : KW lo q p K S w) (a b : Int) : Calls Tryz.prog 59 #[.pointer (some ⟨p.g, 0, none⟩), .int .i64 a, .int .i64 b] w fun e w' => ∃ S', e = .returned (.int .i64 (loadR K.G a b).2) ∧ KW lo q p { K with G := (doR K.G 3 a b (b == 1)).1 } S' w' ∧ Upd S w w' ∧ ∀ g ∈ S', g ∈ S ∨ w.heap.size ≤ g :=
  KW.grp h (doR_w K.G 3 a b (b == 1) (by decide)).2.1 (fun S1 hq => loadG hq a b)
theorem curtW (h : KW lo q p K S w) (a b : Int) : Calls Tryz.prog 60 #[.pointer (some ⟨p.g, 0, none⟩), .int .i64 a, .bool (b == 1)] w fun e w' => ∃ S', e = .returned (.int .i64 (curtR K.G a (b == 1)).2) ∧ KW lo q p { K with G := (doR K.G 4 a b (b == 1)).1 } S' w' ∧ Upd S w w' ∧ ∀ g ∈ S', g ∈ S ∨ w.heap.size ≤ g :=
  KW.grp h (doR_w K.G 4 a b (b == 1) (by decide)).2.1 (fun S1 hq => curtG hq a (b == 1))
theorem faultW (h : KW lo q p K S w) (hl : K.G.waits.length ≤ 1000000) (a b : Int) : Calls Tryz.prog 61 #[.pointer (some ⟨p.g, 0, none⟩), .int .i64 a, .bool (b == 1)] w fun e w' => ∃ S', e = .returned (.int .i64 (faultR K.G a (b == 1)).2) ∧ KW lo q p { K with G := (doR K.G 5 a b (b == 1)).1 } S' w' ∧ Upd S w w' ∧ ∀ g ∈ S', g ∈ S ∨ w.heap.size ≤ g :=
  KW.grp h (doR_w K.G 5 a b (b == 1) (by decide)).2.1 (fun S1 hq => faultG hq hl a (b == 1))
/-- What `do` answers and leaves. -/
def DoP (lo q : Nat) (p : Pt) (K' : KV) (es : List EvV) (S : List Nat) (w : World) (e : Ending) (w' : World) : Prop :=
  ∃ x : List Nat × Nr, e = .returned (.slice x.2.2.1 es.length x.2.2.2) ∧ KW lo q p K' x.1 w' ∧ (rwO evE x.2.1 x.2.2.1 es.length x.2.2.2 es true).st w' ∧ Upd S w w' ∧ (∀ g ∈ x.1, g ∈ S ∨ w.heap.size ≤ g) ∧ ∀ g ∈ blkOf x.2.2.1, w.heap.size ≤ g ∧ g ∉ x.1
theorem own_rebase {α : Type} {E : Ek α} {lo lo' n c : Nat} {A : Option Addr} {ls : List α} {w : World} (h : E.At lo A n c ls w) (hb : ∀ g ∈ blkOf A, lo' ≤ g) : E.At lo' A n c ls w := by
  refine ⟨h.1, ?_⟩
  rcases h.2 with h2 | ⟨g, cap, cur, hv, hbg, rest⟩
  · exact .inl h2
  · have hv' := hv
    simp at hv'
    exact .inr ⟨g, cap, cur, hv, hb g (by rw [hv'.1]; simp [blkOf]), rest⟩
theorem toD {P : Program} {F : FuncId} {args : Array Value} {w1 : World} {n0 n : Nat} {es : List EvV} {S : List Nat} {Φ : List Nat → World → Prop} (h : Calls P F args w1 fun e w' => ∃ x : List Nat × Nr, e = .returned (.slice x.2.2.1 n x.2.2.2) ∧ Φ x.1 w' ∧ (rwO evE x.2.1 x.2.2.1 n x.2.2.2 es true).st w' ∧ Upd S w1 w' ∧ (∀ g ∈ x.1, g ∈ S ∨ w1.heap.size ≤ g) ∧ ∀ g ∈ blkOf x.2.2.1, w1.heap.size ≤ g ∧ g ∉ x.1) (h0 : n0 ≤ w1.heap.size) :
    Calls P F args w1 fun e w' => ∃ x : List Nat × Option Addr × Nat, e = .returned (.slice x.2.1 n x.2.2) ∧ Φ x.1 w' ∧ (rwO evE n0 x.2.1 n x.2.2 es true).st w' ∧ Upd S w1 w' ∧ (∀ g ∈ x.1, g ∈ S ∨ w1.heap.size ≤ g) ∧ ∀ g ∈ (rwO evE n0 x.2.1 n x.2.2 es true).F, w1.heap.size ≤ g ∧ g ∉ x.1 := by
  refine h.mono ?_
  rintro e w' ⟨⟨S', lo, A, c⟩, rfl, h1, h2, h3, h4, h5⟩
  exact ⟨(S', A, c), rfl, h1, own_rebase h2 (fun g hg => Nat.le_trans h0 (h5 g hg).1), h3, h4, h5⟩
theorem DoP.nil {w' : World} {K' : KV} {S' : List Nat} (h : KW lo q p K' S' w') (u : Upd S w w') (n : ∀ g ∈ S', g ∈ S ∨ w.heap.size ≤ g) : DoP lo q p K' [] S w (.returned (.slice none 0 0)) w' :=
  ⟨(S', w.heap.size, none, 0), rfl, h, Ek.nil _ _ _, u, n, by intro g hg; cases hg⟩
theorem hold_do {nt : Nat} (h : KW lo q p K S w) : Hold ⟨Tryz.prog, tab, S, w, nt, []⟩ [] [kO lo q p K S true] w :=
  Hold.addObj (Hold.nil _ tab S _ w) (kO lo q p K S true) h (fun _ g hg => .inl hg) (by intro r hr; cases hr) (by intro A hA; cases hA)
attribute [local irreducible] ansK ansM hearK hearM goneK obK obE doR Gr.hallR pressR loadR curtR faultR evs
theorem doT1 (h : KW lo q p K S w) (hi : KI c n T m K) (hm : m ≤ 10000) (o : KopV) (h1 : o.k = 1) :
    Calls Tryz.prog 27 #[.pointer (some ⟨q, 0, none⟩), .agg (kopC o).toArray] w (DoP lo q p (ansK K o.q) (evs o.q.se [ansM K o.q]) S w) := by
  have hll := hi.ll
  have hlq := hi.lq
  have he1 : (evs o.q.se [ansM K o.q]).length = 1 := evs_len _ _
  refine entH tab_ok (hold_do h) [.v (.pointer (some ⟨q, 0, none⟩)), .a [.i .i64 o.k, .i .i64 o.a, .i .i64 o.b, .i .i64 o.q.se, .i .i64 o.q.fl, .i .i64 o.q.fm, .i .i64 o.q.to, .i .i64 o.q.ma, .i .i64 o.m.ki, .i .i64 o.m.a, .i .i64 o.m.b, .i .i64 o.m.c]] Tryz.func27 Tryz.ntmps27 rfl rfl ?_
  repeat' ((conv => whnf); first | refine sgo ⟨tab_ok⟩ ?_ | refine br_not ?_ | refine br_t rfl ?_ | refine br_f rfl ?_ | refine br_t (by assumption) ?_ | refine br_f (by assumption) ?_ | refine br_t (decide_eq_true (by assumption)) ?_ | refine br_f (decide_eq_false (by assumption)) ?_ | refine br_t (beq_iff_eq.2 (by assumption)) ?_ | refine br_f (beq_eq_false_iff_ne.2 (by assumption)) ?_ | intro b | refine drA ⟨tab_ok⟩ [] ?_ | refine kpt ?_ | refine callON (f := 39) (A := kO lo q p K S true) 0 (ι := List Nat × Option Addr × Nat) (fun x => .v (.slice x.2.1 1 x.2.2)) (fun x => kO lo q p (ansK K o.q) x.1 true) (fun x => rwO evE w.heap.size x.2.1 1 x.2.2 (evs o.q.se [ansM K o.q]) true) (fun w1 hH hA => toD (Φ := fun S' => KW lo q p (ansK K o.q) S') (Co.askK hA (by omega) (by omega) o.q) hH.upd.size) (fun x => ?_) | refine fin fun w' hH => ?_ | refine fin_s ?_ | refine fin_r ?_ ?_ | refine fin_e ?_ ?_)
  have o0 := Hold.ob hH (A := kO lo q p (ansK K o.q) x.1 true) 0 rfl
  have o1 := Hold.ob hH (A := rwO evE w.heap.size x.2.1 1 x.2.2 (evs o.q.se [ansM K o.q]) true) 1 rfl
  refine ⟨(x.1, (w.heap.size, x.2)), by rw [he1]; rfl, o0, by rw [he1]; exact o1, hH.upd, hH.own _ (List.mem_cons_self ..) rfl, fun g hg => ⟨own_low o1 g hg, fun hg2 => pair_at (R := DisR) (fun _ _ h => h.symm) hH.dis (i := 0) (j := 1) rfl rfl (by decide) (.inl rfl) g hg2 hg⟩⟩
theorem doT2 (h : KW lo q p K S w) (hi : KI c n T m K) (hn : n ≤ 10000) (hm : m ≤ 10000) (o : KopV) (h1 : ¬ o.k = 1) (h2 : o.k = 2) :
    Calls Tryz.prog 27 #[.pointer (some ⟨q, 0, none⟩), .agg (kopC o).toArray] w (DoP lo q p (hearK K o.q.se o.m) (evs o.q.se (hearM K o.q.se o.m)) S w) := by
  have hll := hi.ll
  have hlq := hi.lq
  have hw := hi.g.2.2.2.2
  refine entH tab_ok (hold_do h) [.v (.pointer (some ⟨q, 0, none⟩)), .a [.i .i64 o.k, .i .i64 o.a, .i .i64 o.b, .i .i64 o.q.se, .i .i64 o.q.fl, .i .i64 o.q.fm, .i .i64 o.q.to, .i .i64 o.q.ma, .i .i64 o.m.ki, .i .i64 o.m.a, .i .i64 o.m.b, .i .i64 o.m.c]] Tryz.func27 Tryz.ntmps27 rfl rfl ?_
  repeat' ((conv => whnf); first | refine sgo ⟨tab_ok⟩ ?_ | refine br_not ?_ | refine br_t rfl ?_ | refine br_f rfl ?_ | refine br_t (by assumption) ?_ | refine br_f (by assumption) ?_ | refine br_t (decide_eq_true (by assumption)) ?_ | refine br_f (decide_eq_false (by assumption)) ?_ | refine br_t (beq_iff_eq.2 (by assumption)) ?_ | refine br_f (beq_eq_false_iff_ne.2 (by assumption)) ?_ | intro b | refine drA ⟨tab_ok⟩ [] ?_ | refine kpt ?_ | refine callON (f := 43) (A := kO lo q p K S true) 0 (ι := List Nat × Option Addr × Nat) (fun x => .v (.slice x.2.1 ((evs o.q.se (hearM K o.q.se o.m)).length) x.2.2)) (fun x => kO lo q p (hearK K o.q.se o.m) x.1 true) (fun x => rwO evE w.heap.size x.2.1 ((evs o.q.se (hearM K o.q.se o.m)).length) x.2.2 (evs o.q.se (hearM K o.q.se o.m)) true) (fun w1 hH hA => toD (Φ := fun S' => KW lo q p (hearK K o.q.se o.m) S') (by have := hearW hA (by rw [hi.len]; have := Gr.ncars_bd c; omega) (by omega) o.q.se o.m (fun h => hi.inc (hi.okl _ (has_mem h).1)); rw [← evs_len o.q.se (hearM K o.q.se o.m)] at this; exact this) hH.upd.size) (fun x => ?_) | refine fin fun w' hH => ?_ | refine fin_s ?_ | refine fin_r ?_ ?_ | refine fin_e ?_ ?_)
  have o0 := Hold.ob hH (A := kO lo q p (hearK K o.q.se o.m) x.1 true) 0 rfl
  have o1 := Hold.ob hH (A := rwO evE w.heap.size x.2.1 ((evs o.q.se (hearM K o.q.se o.m)).length) x.2.2 (evs o.q.se (hearM K o.q.se o.m)) true) 1 rfl
  refine ⟨(x.1, (w.heap.size, x.2)), rfl, o0, o1, hH.upd, hH.own _ (List.mem_cons_self ..) rfl, fun g hg => ⟨own_low o1 g hg, fun hg2 => pair_at (R := DisR) (fun _ _ h => h.symm) hH.dis (i := 0) (j := 1) rfl rfl (by decide) (.inl rfl) g hg2 hg⟩⟩
theorem doT10 (h : KW lo q p K S w) (hi : KI c n T m K) (hn : n ≤ 10000) (hm : m ≤ 10000) (o : KopV) (h1 : ¬ o.k = 1) (h2 : ¬ o.k = 2) (h3 : ¬ o.k = 3) (h4 : ¬ o.k = 4) (h5 : ¬ o.k = 5) (h6 : ¬ o.k = 6) (h7 : ¬ o.k = 7) (h8 : ¬ o.k = 8) (h10 : o.k = 10) :
    Calls Tryz.prog 27 #[.pointer (some ⟨q, 0, none⟩), .agg (kopC o).toArray] w (DoP lo q p (obK K) (obE K) S w) := by
  have hll := hi.ll
  have hlq := hi.lq
  have hw := hi.g.2.2.2.2
  refine entH tab_ok (hold_do h) [.v (.pointer (some ⟨q, 0, none⟩)), .a [.i .i64 o.k, .i .i64 o.a, .i .i64 o.b, .i .i64 o.q.se, .i .i64 o.q.fl, .i .i64 o.q.fm, .i .i64 o.q.to, .i .i64 o.q.ma, .i .i64 o.m.ki, .i .i64 o.m.a, .i .i64 o.m.b, .i .i64 o.m.c]] Tryz.func27 Tryz.ntmps27 rfl rfl ?_
  repeat' ((conv => whnf); first | refine sgo ⟨tab_ok⟩ ?_ | refine br_not ?_ | refine br_t rfl ?_ | refine br_f rfl ?_ | refine br_t (by assumption) ?_ | refine br_f (by assumption) ?_ | refine br_t (decide_eq_true (by assumption)) ?_ | refine br_f (decide_eq_false (by assumption)) ?_ | refine br_t (beq_iff_eq.2 (by assumption)) ?_ | refine br_f (beq_eq_false_iff_ne.2 (by assumption)) ?_ | intro b | refine drA ⟨tab_ok⟩ [] ?_ | refine kpt ?_ | refine callON (f := 41) (A := kO lo q p K S true) 0 (ι := List Nat × Option Addr × Nat) (fun x => .v (.slice x.2.1 ((obE K).length) x.2.2)) (fun x => kO lo q p (obK K) x.1 true) (fun x => rwO evE w.heap.size x.2.1 ((obE K).length) x.2.2 (obE K) true) (fun w1 hH hA => toD (Φ := fun S' => KW lo q p (obK K) S') (obeysT hA hi hm) hH.upd.size) (fun x => ?_) | refine fin fun w' hH => ?_ | refine fin_s ?_ | refine fin_r ?_ ?_ | refine fin_e ?_ ?_)
  have o0 := Hold.ob hH (A := kO lo q p (obK K) x.1 true) 0 rfl
  have o1 := Hold.ob hH (A := rwO evE w.heap.size x.2.1 ((obE K).length) x.2.2 (obE K) true) 1 rfl
  refine ⟨(x.1, (w.heap.size, x.2)), rfl, o0, o1, hH.upd, hH.own _ (List.mem_cons_self ..) rfl, fun g hg => ⟨own_low o1 g hg, fun hg2 => pair_at (R := DisR) (fun _ _ h => h.symm) hH.dis (i := 0) (j := 1) rfl rfl (by decide) (.inl rfl) g hg2 hg⟩⟩
theorem doT3 (h : KW lo q p K S w) (hi : KI c n T m K) (hn : n ≤ 10000) (hm : m ≤ 10000) (o : KopV) (h1 : ¬ o.k = 1) (h2 : ¬ o.k = 2) (h3 : o.k = 3) :
    Calls Tryz.prog 27 #[.pointer (some ⟨q, 0, none⟩), .agg (kopC o).toArray] w (DoP lo q p (goneK K o.q.se) [] S w) := by
  have hll := hi.ll
  have hlq := hi.lq
  have hw := hi.g.2.2.2.2
  refine entH tab_ok (hold_do h) [.v (.pointer (some ⟨q, 0, none⟩)), .a [.i .i64 o.k, .i .i64 o.a, .i .i64 o.b, .i .i64 o.q.se, .i .i64 o.q.fl, .i .i64 o.q.fm, .i .i64 o.q.to, .i .i64 o.q.ma, .i .i64 o.m.ki, .i .i64 o.m.a, .i .i64 o.m.b, .i .i64 o.m.c]] Tryz.func27 Tryz.ntmps27 rfl rfl ?_
  repeat' ((conv => whnf); first | refine sgo ⟨tab_ok⟩ ?_ | refine br_not ?_ | refine br_t rfl ?_ | refine br_f rfl ?_ | refine br_t (by assumption) ?_ | refine br_f (by assumption) ?_ | refine br_t (decide_eq_true (by assumption)) ?_ | refine br_f (decide_eq_false (by assumption)) ?_ | refine br_t (beq_iff_eq.2 (by assumption)) ?_ | refine br_f (beq_eq_false_iff_ne.2 (by assumption)) ?_ | intro b | refine drA ⟨tab_ok⟩ [] ?_ | refine kpt ?_ | refine callH (f := 31) (.v (.pointer (some ⟨p.g, 0, none⟩))) (fun w hH => groupK (Hold.ob hH (A := kO lo q p K S true) 0 rfl)) ?_ | refine callO (f := 42) (A := kO lo q p K S true) 0 (fun _ => .t []) (fun S' => kO lo q p (goneK K o.q.se) S' true) (fun w hH hA => goneW hA (by omega) (by omega) o.q.se) (fun S1 => ?_) | refine fin fun w' hH => ?_ | refine fin_s ?_ | refine fin_r ?_ ?_ | refine fin_e ?_ ?_)
  exact DoP.nil (Hold.ob hH (A := kO lo q p (goneK K o.q.se) S1 true) 0 rfl) hH.upd (hH.own _ (List.mem_cons_self ..) rfl)
theorem doT4 (h : KW lo q p K S w) (hi : KI c n T m K) (hn : n ≤ 10000) (hm : m ≤ 10000) (o : KopV) (h1 : ¬ o.k = 1) (h2 : ¬ o.k = 2) (h3 : ¬ o.k = 3) (h4 : o.k = 4) :
    Calls Tryz.prog 27 #[.pointer (some ⟨q, 0, none⟩), .agg (kopC o).toArray] w (DoP lo q p ({ K with G := (doR K.G 1 o.a o.b (o.b == 1)).1 }) [] S w) := by
  have hll := hi.ll
  have hlq := hi.lq
  have hw := hi.g.2.2.2.2
  refine entH tab_ok (hold_do h) [.v (.pointer (some ⟨q, 0, none⟩)), .a [.i .i64 o.k, .i .i64 o.a, .i .i64 o.b, .i .i64 o.q.se, .i .i64 o.q.fl, .i .i64 o.q.fm, .i .i64 o.q.to, .i .i64 o.q.ma, .i .i64 o.m.ki, .i .i64 o.m.a, .i .i64 o.m.b, .i .i64 o.m.c]] Tryz.func27 Tryz.ntmps27 rfl rfl ?_
  repeat' ((conv => whnf); first | refine sgo ⟨tab_ok⟩ ?_ | refine br_not ?_ | refine br_t rfl ?_ | refine br_f rfl ?_ | refine br_t (by assumption) ?_ | refine br_f (by assumption) ?_ | refine br_t (decide_eq_true (by assumption)) ?_ | refine br_f (decide_eq_false (by assumption)) ?_ | refine br_t (beq_iff_eq.2 (by assumption)) ?_ | refine br_f (beq_eq_false_iff_ne.2 (by assumption)) ?_ | intro b | refine drA ⟨tab_ok⟩ [] ?_ | refine kpt ?_ | refine callH (f := 31) (.v (.pointer (some ⟨p.g, 0, none⟩))) (fun w hH => groupK (Hold.ob hH (A := kO lo q p K S true) 0 rfl)) ?_ | refine callO (f := 57) (A := kO lo q p K S true) 0 (fun _ => .i .i64 (Gr.hallR K.G o.a o.b).2) (fun S' => kO lo q p ({ K with G := (doR K.G 1 o.a o.b (o.b == 1)).1 }) S' true) (fun w hH hA => hallW hA (by omega) o.a o.b) (fun S1 => ?_) | refine fin fun w' hH => ?_ | refine fin_s ?_ | refine fin_r ?_ ?_ | refine fin_e ?_ ?_)
  exact DoP.nil (Hold.ob hH (A := kO lo q p ({ K with G := (doR K.G 1 o.a o.b (o.b == 1)).1 }) S1 true) 0 rfl) hH.upd (hH.own _ (List.mem_cons_self ..) rfl)
theorem doT5 (h : KW lo q p K S w) (hi : KI c n T m K) (hn : n ≤ 10000) (hm : m ≤ 10000) (o : KopV) (h1 : ¬ o.k = 1) (h2 : ¬ o.k = 2) (h3 : ¬ o.k = 3) (h4 : ¬ o.k = 4) (h5 : o.k = 5) :
    Calls Tryz.prog 27 #[.pointer (some ⟨q, 0, none⟩), .agg (kopC o).toArray] w (DoP lo q p ({ K with G := (doR K.G 2 o.a o.b (o.b == 1)).1 }) [] S w) := by
  have hll := hi.ll
  have hlq := hi.lq
  have hw := hi.g.2.2.2.2
  refine entH tab_ok (hold_do h) [.v (.pointer (some ⟨q, 0, none⟩)), .a [.i .i64 o.k, .i .i64 o.a, .i .i64 o.b, .i .i64 o.q.se, .i .i64 o.q.fl, .i .i64 o.q.fm, .i .i64 o.q.to, .i .i64 o.q.ma, .i .i64 o.m.ki, .i .i64 o.m.a, .i .i64 o.m.b, .i .i64 o.m.c]] Tryz.func27 Tryz.ntmps27 rfl rfl ?_
  repeat' ((conv => whnf); first | refine sgo ⟨tab_ok⟩ ?_ | refine br_not ?_ | refine br_t rfl ?_ | refine br_f rfl ?_ | refine br_t (by assumption) ?_ | refine br_f (by assumption) ?_ | refine br_t (decide_eq_true (by assumption)) ?_ | refine br_f (decide_eq_false (by assumption)) ?_ | refine br_t (beq_iff_eq.2 (by assumption)) ?_ | refine br_f (beq_eq_false_iff_ne.2 (by assumption)) ?_ | intro b | refine drA ⟨tab_ok⟩ [] ?_ | refine kpt ?_ | refine callH (f := 31) (.v (.pointer (some ⟨p.g, 0, none⟩))) (fun w hH => groupK (Hold.ob hH (A := kO lo q p K S true) 0 rfl)) ?_ | refine callO (f := 58) (A := kO lo q p K S true) 0 (fun _ => .i .i64 (Gr.pressR K.G o.a o.b).2) (fun S' => kO lo q p ({ K with G := (doR K.G 2 o.a o.b (o.b == 1)).1 }) S' true) (fun w hH hA => pressW hA o.a o.b) (fun S1 => ?_) | refine fin fun w' hH => ?_ | refine fin_s ?_ | refine fin_r ?_ ?_ | refine fin_e ?_ ?_)
  exact DoP.nil (Hold.ob hH (A := kO lo q p ({ K with G := (doR K.G 2 o.a o.b (o.b == 1)).1 }) S1 true) 0 rfl) hH.upd (hH.own _ (List.mem_cons_self ..) rfl)
theorem doT6 (h : KW lo q p K S w) (hi : KI c n T m K) (hn : n ≤ 10000) (hm : m ≤ 10000) (o : KopV) (h1 : ¬ o.k = 1) (h2 : ¬ o.k = 2) (h3 : ¬ o.k = 3) (h4 : ¬ o.k = 4) (h5 : ¬ o.k = 5) (h6 : o.k = 6) :
    Calls Tryz.prog 27 #[.pointer (some ⟨q, 0, none⟩), .agg (kopC o).toArray] w (DoP lo q p ({ K with G := (doR K.G 3 o.a o.b (o.b == 1)).1 }) [] S w) := by
  have hll := hi.ll
  have hlq := hi.lq
  have hw := hi.g.2.2.2.2
  refine entH tab_ok (hold_do h) [.v (.pointer (some ⟨q, 0, none⟩)), .a [.i .i64 o.k, .i .i64 o.a, .i .i64 o.b, .i .i64 o.q.se, .i .i64 o.q.fl, .i .i64 o.q.fm, .i .i64 o.q.to, .i .i64 o.q.ma, .i .i64 o.m.ki, .i .i64 o.m.a, .i .i64 o.m.b, .i .i64 o.m.c]] Tryz.func27 Tryz.ntmps27 rfl rfl ?_
  repeat' ((conv => whnf); first | refine sgo ⟨tab_ok⟩ ?_ | refine br_not ?_ | refine br_t rfl ?_ | refine br_f rfl ?_ | refine br_t (by assumption) ?_ | refine br_f (by assumption) ?_ | refine br_t (decide_eq_true (by assumption)) ?_ | refine br_f (decide_eq_false (by assumption)) ?_ | refine br_t (beq_iff_eq.2 (by assumption)) ?_ | refine br_f (beq_eq_false_iff_ne.2 (by assumption)) ?_ | intro b | refine drA ⟨tab_ok⟩ [] ?_ | refine kpt ?_ | refine callH (f := 31) (.v (.pointer (some ⟨p.g, 0, none⟩))) (fun w hH => groupK (Hold.ob hH (A := kO lo q p K S true) 0 rfl)) ?_ | refine callO (f := 59) (A := kO lo q p K S true) 0 (fun _ => .i .i64 (Gr.loadR K.G o.a o.b).2) (fun S' => kO lo q p ({ K with G := (doR K.G 3 o.a o.b (o.b == 1)).1 }) S' true) (fun w hH hA => loadW2 hA o.a o.b) (fun S1 => ?_) | refine fin fun w' hH => ?_ | refine fin_s ?_ | refine fin_r ?_ ?_ | refine fin_e ?_ ?_)
  exact DoP.nil (Hold.ob hH (A := kO lo q p ({ K with G := (doR K.G 3 o.a o.b (o.b == 1)).1 }) S1 true) 0 rfl) hH.upd (hH.own _ (List.mem_cons_self ..) rfl)
theorem doT7 (h : KW lo q p K S w) (hi : KI c n T m K) (hn : n ≤ 10000) (hm : m ≤ 10000) (o : KopV) (h1 : ¬ o.k = 1) (h2 : ¬ o.k = 2) (h3 : ¬ o.k = 3) (h4 : ¬ o.k = 4) (h5 : ¬ o.k = 5) (h6 : ¬ o.k = 6) (h7 : o.k = 7) :
    Calls Tryz.prog 27 #[.pointer (some ⟨q, 0, none⟩), .agg (kopC o).toArray] w (DoP lo q p ({ K with G := (doR K.G 4 o.a o.b (o.b == 1)).1 }) [] S w) := by
  have hll := hi.ll
  have hlq := hi.lq
  have hw := hi.g.2.2.2.2
  refine entH tab_ok (hold_do h) [.v (.pointer (some ⟨q, 0, none⟩)), .a [.i .i64 o.k, .i .i64 o.a, .i .i64 o.b, .i .i64 o.q.se, .i .i64 o.q.fl, .i .i64 o.q.fm, .i .i64 o.q.to, .i .i64 o.q.ma, .i .i64 o.m.ki, .i .i64 o.m.a, .i .i64 o.m.b, .i .i64 o.m.c]] Tryz.func27 Tryz.ntmps27 rfl rfl ?_
  repeat' ((conv => whnf); first | refine sgo ⟨tab_ok⟩ ?_ | refine br_not ?_ | refine br_t rfl ?_ | refine br_f rfl ?_ | refine br_t (by assumption) ?_ | refine br_f (by assumption) ?_ | refine br_t (decide_eq_true (by assumption)) ?_ | refine br_f (decide_eq_false (by assumption)) ?_ | refine br_t (beq_iff_eq.2 (by assumption)) ?_ | refine br_f (beq_eq_false_iff_ne.2 (by assumption)) ?_ | intro b | refine drA ⟨tab_ok⟩ [] ?_ | refine kpt ?_ | refine callH (f := 31) (.v (.pointer (some ⟨p.g, 0, none⟩))) (fun w hH => groupK (Hold.ob hH (A := kO lo q p K S true) 0 rfl)) ?_ | refine callO (f := 60) (A := kO lo q p K S true) 0 (fun _ => .i .i64 (Gr.curtR K.G o.a (o.b == 1)).2) (fun S' => kO lo q p ({ K with G := (doR K.G 4 o.a o.b (o.b == 1)).1 }) S' true) (fun w hH hA => curtW hA o.a o.b) (fun S1 => ?_) | refine fin fun w' hH => ?_ | refine fin_s ?_ | refine fin_r ?_ ?_ | refine fin_e ?_ ?_)
  exact DoP.nil (Hold.ob hH (A := kO lo q p ({ K with G := (doR K.G 4 o.a o.b (o.b == 1)).1 }) S1 true) 0 rfl) hH.upd (hH.own _ (List.mem_cons_self ..) rfl)
theorem doT8 (h : KW lo q p K S w) (hi : KI c n T m K) (hn : n ≤ 10000) (hm : m ≤ 10000) (o : KopV) (h1 : ¬ o.k = 1) (h2 : ¬ o.k = 2) (h3 : ¬ o.k = 3) (h4 : ¬ o.k = 4) (h5 : ¬ o.k = 5) (h6 : ¬ o.k = 6) (h7 : ¬ o.k = 7) (h8 : o.k = 8) :
    Calls Tryz.prog 27 #[.pointer (some ⟨q, 0, none⟩), .agg (kopC o).toArray] w (DoP lo q p ({ K with G := (doR K.G 5 o.a o.b (o.b == 1)).1 }) [] S w) := by
  have hll := hi.ll
  have hlq := hi.lq
  have hw := hi.g.2.2.2.2
  refine entH tab_ok (hold_do h) [.v (.pointer (some ⟨q, 0, none⟩)), .a [.i .i64 o.k, .i .i64 o.a, .i .i64 o.b, .i .i64 o.q.se, .i .i64 o.q.fl, .i .i64 o.q.fm, .i .i64 o.q.to, .i .i64 o.q.ma, .i .i64 o.m.ki, .i .i64 o.m.a, .i .i64 o.m.b, .i .i64 o.m.c]] Tryz.func27 Tryz.ntmps27 rfl rfl ?_
  repeat' ((conv => whnf); first | refine sgo ⟨tab_ok⟩ ?_ | refine br_not ?_ | refine br_t rfl ?_ | refine br_f rfl ?_ | refine br_t (by assumption) ?_ | refine br_f (by assumption) ?_ | refine br_t (decide_eq_true (by assumption)) ?_ | refine br_f (decide_eq_false (by assumption)) ?_ | refine br_t (beq_iff_eq.2 (by assumption)) ?_ | refine br_f (beq_eq_false_iff_ne.2 (by assumption)) ?_ | intro b | refine drA ⟨tab_ok⟩ [] ?_ | refine kpt ?_ | refine callH (f := 31) (.v (.pointer (some ⟨p.g, 0, none⟩))) (fun w hH => groupK (Hold.ob hH (A := kO lo q p K S true) 0 rfl)) ?_ | refine callO (f := 61) (A := kO lo q p K S true) 0 (fun _ => .i .i64 (Gr.faultR K.G o.a (o.b == 1)).2) (fun S' => kO lo q p ({ K with G := (doR K.G 5 o.a o.b (o.b == 1)).1 }) S' true) (fun w hH hA => faultW hA (by omega) o.a o.b) (fun S1 => ?_) | refine fin fun w' hH => ?_ | refine fin_s ?_ | refine fin_r ?_ ?_ | refine fin_e ?_ ?_)
  exact DoP.nil (Hold.ob hH (A := kO lo q p ({ K with G := (doR K.G 5 o.a o.b (o.b == 1)).1 }) S1 true) 0 rfl) hH.upd (hH.own _ (List.mem_cons_self ..) rfl)
theorem doT0 (h : KW lo q p K S w) (hi : KI c n T m K) (hn : n ≤ 10000) (hm : m ≤ 10000) (o : KopV) (h1 : ¬ o.k = 1) (h2 : ¬ o.k = 2) (h3 : ¬ o.k = 3) (h4 : ¬ o.k = 4) (h5 : ¬ o.k = 5) (h6 : ¬ o.k = 6) (h7 : ¬ o.k = 7) (h8 : ¬ o.k = 8) (h10 : ¬ o.k = 10) :
    Calls Tryz.prog 27 #[.pointer (some ⟨q, 0, none⟩), .agg (kopC o).toArray] w (DoP lo q p (K) [] S w) := by
  have hll := hi.ll
  have hlq := hi.lq
  have hw := hi.g.2.2.2.2
  refine entH tab_ok (hold_do h) [.v (.pointer (some ⟨q, 0, none⟩)), .a [.i .i64 o.k, .i .i64 o.a, .i .i64 o.b, .i .i64 o.q.se, .i .i64 o.q.fl, .i .i64 o.q.fm, .i .i64 o.q.to, .i .i64 o.q.ma, .i .i64 o.m.ki, .i .i64 o.m.a, .i .i64 o.m.b, .i .i64 o.m.c]] Tryz.func27 Tryz.ntmps27 rfl rfl ?_
  repeat' ((conv => whnf); first | refine sgo ⟨tab_ok⟩ ?_ | refine br_not ?_ | refine br_t rfl ?_ | refine br_f rfl ?_ | refine br_t (by assumption) ?_ | refine br_f (by assumption) ?_ | refine br_t (decide_eq_true (by assumption)) ?_ | refine br_f (decide_eq_false (by assumption)) ?_ | refine br_t (beq_iff_eq.2 (by assumption)) ?_ | refine br_f (beq_eq_false_iff_ne.2 (by assumption)) ?_ | intro b | refine drA ⟨tab_ok⟩ [] ?_ | refine kpt ?_ | refine fin fun w' hH => ?_ | refine fin_s ?_ | refine fin_r ?_ ?_ | refine fin_e ?_ ?_)
  exact DoP.nil (Hold.ob hH (A := kO lo q p K S true) 0 rfl) hH.upd (hH.own _ (List.mem_cons_self ..) rfl)
theorem doT (h : KW lo q p K S w) (hi : KI c n T m K) (hn : n ≤ 10000) (hm : m ≤ 10000) (o : KopV) :
    Calls Tryz.prog 27 #[.pointer (some ⟨q, 0, none⟩), .agg (kopC o).toArray] w (DoP lo q p (doK K o) (doE K o) S w) := by
  have gd : ∀ {j : Int}, o.k = j + 3 → 1 ≤ j → j ≤ 5 → gdo K.G o = (doR K.G j o.a o.b (o.b == 1)).1 := fun {j} e h1 h2 => by
    unfold gdo
    rw [if_pos (by omega), show o.k - 3 = j by omega]
  unfold doK doE
  by_cases h1 : o.k = 1
  · rw [if_pos h1, if_pos h1]; exact doT1 h hi hm o h1
  rw [if_neg h1, if_neg h1]
  by_cases h2 : o.k = 2
  · rw [if_pos h2, if_pos h2]; exact doT2 h hi hn hm o h1 h2
  rw [if_neg h2, if_neg h2]
  by_cases h3 : o.k = 3
  · rw [if_pos h3, if_neg (by omega)]; exact doT3 h hi hn hm o h1 h2 h3
  rw [if_neg h3]
  by_cases h10 : o.k = 10
  · rw [if_pos h10, if_pos h10]; exact doT10 h hi hn hm o h1 h2 h3 (by omega) (by omega) (by omega) (by omega) (by omega) h10
  rw [if_neg h10, if_neg h10]
  by_cases h4 : o.k = 4
  · rw [gd (j := 1) (by omega) (by decide) (by decide)]; exact doT4 h hi hn hm o h1 h2 h3 h4
  by_cases h5 : o.k = 5
  · rw [gd (j := 2) (by omega) (by decide) (by decide)]; exact doT5 h hi hn hm o h1 h2 h3 h4 h5
  by_cases h6 : o.k = 6
  · rw [gd (j := 3) (by omega) (by decide) (by decide)]; exact doT6 h hi hn hm o h1 h2 h3 h4 h5 h6
  by_cases h7 : o.k = 7
  · rw [gd (j := 4) (by omega) (by decide) (by decide)]; exact doT7 h hi hn hm o h1 h2 h3 h4 h5 h6 h7
  by_cases h8 : o.k = 8
  · rw [gd (j := 5) (by omega) (by decide) (by decide)]; exact doT8 h hi hn hm o h1 h2 h3 h4 h5 h6 h7 h8
  rw [gdo_id (by omega)]
  exact doT0 h hi hn hm o h1 h2 h3 h4 h5 h6 h7 h8 h10
end
end Go.Proofs.YthmikjjnlahlbaaGreat.Lc
namespace Go.Proofs.YthmikjjnlahlbaaGreat.Lc
set_option linter.unusedSectionVars false
set_option linter.unusedVariables false
set_option linter.unusedSimpArgs false
open Go.RowKit Go.Proofs.YthmikjjnlahlbaaGreat.Ba Go.Proofs.YthmikjjnlahlbaaGreat.Mem Go.Proofs.YthmikjjnlahlbaaGreat.En Go.Proofs.YthmikjjnlahlbaaGreat.Ty Go.Proofs.YthmikjjnlahlbaaGreat.Mo Go.Proofs.YthmikjjnlahlbaaGreat.St Go.Proofs.YthmikjjnlahlbaaGreat.Co
open Go.Proofs.YthmikjjnlahlbaaGreat.Fl (leaE)
open Go.Proofs.YthmikjjnlahlbaaGreat.Qu (askE)
set_option maxRecDepth 100000
attribute [local irreducible] Go.Calls
theorem two_rows {α : Type} {E : Ek α} {la lb ca cb n nt : Nat} {A B : Option Addr} {xs ys : List α} {w : World} (ha : E.At la A n ca xs w) (hb : E.At lb B n cb ys w) : Hold ⟨Tryz.prog, tab, [], w, nt, []⟩ [] [rwO E la A n ca xs false, rwO E lb B n cb ys false] w :=
  Hold.addObj (Hold.addObj (Hold.nil _ tab [] _ w) (rwO E la A n ca xs false) ha (by intro k; cases k) (by intro r hr; cases hr) (by intro A hA; cases hA)) (rwO E lb B n cb ys false) hb (by intro k; cases k) (by intro r hr; cases hr) (by intro G hG k; rcases List.mem_append.1 hG with hG | hG; cases hG; rw [List.mem_singleton] at hG; subst hG; rcases k with k | k <;> cases k)
set_option maxHeartbeats 4000000 in
theorem sameL {la lb ca cb : Nat} {A B : Option Addr} {ls : List LeaseV} {w : World} (hl : ls.length ≤ 10000) (ha : leaE.At la A ls.length ca ls w) (hb : leaE.At lb B ls.length cb ls w) : Calls Tryz.prog 45 #[.slice A ls.length ca, .slice B ls.length cb] w fun e w' => e = .returned (.bool true) ∧ Since w w' := by
  obtain ⟨g, hg⟩ := Ek.addr ha
  obtain ⟨g2, hg2⟩ := Ek.addr hb
  refine entH tab_ok (two_rows ha hb) [.v (.slice A ls.length ca), .v (.slice B ls.length cb)] Tryz.func45 Tryz.ntmps45 rfl rfl ?_
  repeat' ((conv => whnf); first | refine sgo ⟨tab_ok⟩ ?_ | refine br_not ?_ | refine br_t rfl ?_ | refine br_f rfl ?_ | refine br_t (by assumption) ?_ | refine br_f (by assumption) ?_ | refine br_t (decide_eq_true (by assumption)) ?_ | refine br_f (decide_eq_false (by assumption)) ?_ | refine br_t (beq_iff_eq.2 (by assumption)) ?_ | refine br_f (beq_eq_false_iff_ne.2 (by assumption)) ?_ | intro b | refine drA ⟨tab_ok⟩ [] ?_ | refine kpt ?_ | refine br_t (beq_self_eq_true _) ?_ | refine fin_s ?_ | refine fin_r ?_ ?_ | refine fin_e ?_ ?_)
  conv => whnf
  refine lp ⟨tab_ok⟩ (ι := {k : Nat // k ≤ ls.length}) (fun x => match x with | ⟨k, _⟩ => ⟨[(0, .v (.slice A ls.length ca)), (1, .v (.slice B ls.length cb)), (5, .i .i64 (k : Int))], [], [rwO leaE la A ls.length ca ls false, rwO leaE lb B ls.length cb ls false]⟩) (fun k => ls.length - k.1) ⟨0, Nat.zero_le _⟩ (wk ?_) ?_
  · repeat' (first | exact trivial | rfl | ((conv => whnf); refine And.intro ?_ ?_))
  rintro ⟨k, hkl⟩
  by_cases hlt : k < ls.length
  · obtain ⟨x, hx⟩ : ∃ x, ls[k]? = some x := ⟨_, List.getElem?_eq_getElem (by omega)⟩
    have hg := hg (by omega)
    have hg2 := hg2 (by omega)
    subst hg hg2
    repeat' ((conv => whnf); first | refine sgo ⟨tab_ok⟩ ?_ | refine br_not ?_ | refine br_t rfl ?_ | refine br_f rfl ?_ | refine br_t (by assumption) ?_ | refine br_f (by assumption) ?_ | refine br_t (decide_eq_true (by assumption)) ?_ | refine br_f (decide_eq_false (by assumption)) ?_ | refine br_t (beq_iff_eq.2 (by assumption)) ?_ | refine br_f (beq_eq_false_iff_ne.2 (by assumption)) ?_ | intro b | refine br_t (decide_eq_true (by omega)) ?_ | refine br_f (decide_eq_false (by omega)) ?_ | refine wr_i ?_ | refine kpt ?_ | refine drA ⟨tab_ok⟩ [3, 7] ?_ | refine And.intro ?_ ?_ | refine opiv ⟨tab_ok⟩ (by rfl) (by rfl) (by rfl) (by rfl) (by rfl) (by rfl) ⟨by omega, by omega⟩ ?_ | refine puiv ⟨tab_ok⟩ (by rfl) (by rfl) (by rfl) (by rfl) (by rfl) (by rfl) ⟨by omega, by omega⟩ ?_ | refine opix (g := g) (off := 0 + k * 10) [.i .i64 x.se, .i .i64 x.fl, .i .i64 x.fm, .i .i64 x.to, .i .i64 x.ma, .i .i64 x.ca, .i .i64 x.ph, .i .i64 x.un, .i .i64 x.re, .i .i64 x.gr] (fun w hH => Ek.rng (Hold.ob hH (A := rwO leaE la (some ⟨g, 0, none⟩) ls.length ca ls false) 0 rfl) hx) ⟨tab_ok⟩ (by rfl) (by rfl) (by simp only [Go.WideShapes.add_plain]; rfl) ?_ | refine opix (g := g2) (off := 0 + k * 10) [.i .i64 x.se, .i .i64 x.fl, .i .i64 x.fm, .i .i64 x.to, .i .i64 x.ma, .i .i64 x.ca, .i .i64 x.ph, .i .i64 x.un, .i .i64 x.re, .i .i64 x.gr] (fun w hH => Ek.rng (Hold.ob hH (A := rwO leaE lb (some ⟨g2, 0, none⟩) ls.length cb ls false) 1 rfl) hx) ⟨tab_ok⟩ (by rfl) (by rfl) (by simp only [Go.WideShapes.add_plain]; rfl) ?_ | refine br_t (by simp only [beq_self_eq_true, Bool.and_self]) ?_ | refine back ⟨k + 1, by omega⟩ (wkd ?_) ?_ | refine fin_s ?_ | refine fin_r ?_ ?_ | refine fin_e ?_ ?_)
    all_goals first | (show ls.length - (k + 1) < ls.length - k; omega) | skip
    all_goals (repeat' (first | exact trivial | rfl | ((conv => whnf); refine And.intro ?_ ?_)))
  · repeat' ((conv => whnf); first | refine sgo ⟨tab_ok⟩ ?_ | refine br_not ?_ | refine br_t rfl ?_ | refine br_f rfl ?_ | refine br_t (by assumption) ?_ | refine br_f (by assumption) ?_ | refine br_t (decide_eq_true (by assumption)) ?_ | refine br_f (decide_eq_false (by assumption)) ?_ | refine br_t (beq_iff_eq.2 (by assumption)) ?_ | refine br_f (beq_eq_false_iff_ne.2 (by assumption)) ?_ | intro b | refine drA ⟨tab_ok⟩ [] ?_ | refine kpt ?_ | refine br_t (decide_eq_true (by omega)) ?_ | refine br_f (decide_eq_false (by omega)) ?_ | refine fin_s ?_ | refine fin_r ?_ ?_ | refine fin_e ?_ ?_)
    all_goals rfl
set_option maxHeartbeats 4000000 in
theorem sameA {la lb ca cb : Nat} {A B : Option Addr} {ls : List AskV} {w : World} (hl : ls.length ≤ 10000) (ha : askE.At la A ls.length ca ls w) (hb : askE.At lb B ls.length cb ls w) : Calls Tryz.prog 46 #[.slice A ls.length ca, .slice B ls.length cb] w fun e w' => e = .returned (.bool true) ∧ Since w w' := by
  obtain ⟨g, hg⟩ := Ek.addr ha
  obtain ⟨g2, hg2⟩ := Ek.addr hb
  refine entH tab_ok (two_rows ha hb) [.v (.slice A ls.length ca), .v (.slice B ls.length cb)] Tryz.func46 Tryz.ntmps46 rfl rfl ?_
  repeat' ((conv => whnf); first | refine sgo ⟨tab_ok⟩ ?_ | refine br_not ?_ | refine br_t rfl ?_ | refine br_f rfl ?_ | refine br_t (by assumption) ?_ | refine br_f (by assumption) ?_ | refine br_t (decide_eq_true (by assumption)) ?_ | refine br_f (decide_eq_false (by assumption)) ?_ | refine br_t (beq_iff_eq.2 (by assumption)) ?_ | refine br_f (beq_eq_false_iff_ne.2 (by assumption)) ?_ | intro b | refine drA ⟨tab_ok⟩ [] ?_ | refine kpt ?_ | refine br_t (beq_self_eq_true _) ?_ | refine fin_s ?_ | refine fin_r ?_ ?_ | refine fin_e ?_ ?_)
  conv => whnf
  refine lp ⟨tab_ok⟩ (ι := {k : Nat // k ≤ ls.length}) (fun x => match x with | ⟨k, _⟩ => ⟨[(0, .v (.slice A ls.length ca)), (1, .v (.slice B ls.length cb)), (5, .i .i64 (k : Int))], [], [rwO askE la A ls.length ca ls false, rwO askE lb B ls.length cb ls false]⟩) (fun k => ls.length - k.1) ⟨0, Nat.zero_le _⟩ (wk ?_) ?_
  · repeat' (first | exact trivial | rfl | ((conv => whnf); refine And.intro ?_ ?_))
  rintro ⟨k, hkl⟩
  by_cases hlt : k < ls.length
  · obtain ⟨x, hx⟩ : ∃ x, ls[k]? = some x := ⟨_, List.getElem?_eq_getElem (by omega)⟩
    have hg := hg (by omega)
    have hg2 := hg2 (by omega)
    subst hg hg2
    repeat' ((conv => whnf); first | refine sgo ⟨tab_ok⟩ ?_ | refine br_not ?_ | refine br_t rfl ?_ | refine br_f rfl ?_ | refine br_t (by assumption) ?_ | refine br_f (by assumption) ?_ | refine br_t (decide_eq_true (by assumption)) ?_ | refine br_f (decide_eq_false (by assumption)) ?_ | refine br_t (beq_iff_eq.2 (by assumption)) ?_ | refine br_f (beq_eq_false_iff_ne.2 (by assumption)) ?_ | intro b | refine br_t (decide_eq_true (by omega)) ?_ | refine br_f (decide_eq_false (by omega)) ?_ | refine wr_i ?_ | refine kpt ?_ | refine drA ⟨tab_ok⟩ [3, 7] ?_ | refine And.intro ?_ ?_ | refine opiv ⟨tab_ok⟩ (by rfl) (by rfl) (by rfl) (by rfl) (by rfl) (by rfl) ⟨by omega, by omega⟩ ?_ | refine puiv ⟨tab_ok⟩ (by rfl) (by rfl) (by rfl) (by rfl) (by rfl) (by rfl) ⟨by omega, by omega⟩ ?_ | refine opix (g := g) (off := 0 + k * 5) [.i .i64 x.se, .i .i64 x.fl, .i .i64 x.fm, .i .i64 x.to, .i .i64 x.ma] (fun w hH => Ek.rng (Hold.ob hH (A := rwO askE la (some ⟨g, 0, none⟩) ls.length ca ls false) 0 rfl) hx) ⟨tab_ok⟩ (by rfl) (by rfl) (by simp only [Go.WideShapes.add_plain]; rfl) ?_ | refine opix (g := g2) (off := 0 + k * 5) [.i .i64 x.se, .i .i64 x.fl, .i .i64 x.fm, .i .i64 x.to, .i .i64 x.ma] (fun w hH => Ek.rng (Hold.ob hH (A := rwO askE lb (some ⟨g2, 0, none⟩) ls.length cb ls false) 1 rfl) hx) ⟨tab_ok⟩ (by rfl) (by rfl) (by simp only [Go.WideShapes.add_plain]; rfl) ?_ | refine br_t (by simp only [beq_self_eq_true, Bool.and_self]) ?_ | refine back ⟨k + 1, by omega⟩ (wkd ?_) ?_ | refine fin_s ?_ | refine fin_r ?_ ?_ | refine fin_e ?_ ?_)
    all_goals first | (show ls.length - (k + 1) < ls.length - k; omega) | skip
    all_goals (repeat' (first | exact trivial | rfl | ((conv => whnf); refine And.intro ?_ ?_)))
  · repeat' ((conv => whnf); first | refine sgo ⟨tab_ok⟩ ?_ | refine br_not ?_ | refine br_t rfl ?_ | refine br_f rfl ?_ | refine br_t (by assumption) ?_ | refine br_f (by assumption) ?_ | refine br_t (decide_eq_true (by assumption)) ?_ | refine br_f (decide_eq_false (by assumption)) ?_ | refine br_t (beq_iff_eq.2 (by assumption)) ?_ | refine br_f (beq_eq_false_iff_ne.2 (by assumption)) ?_ | intro b | refine drA ⟨tab_ok⟩ [] ?_ | refine kpt ?_ | refine br_t (decide_eq_true (by omega)) ?_ | refine br_f (decide_eq_false (by omega)) ?_ | refine fin_s ?_ | refine fin_r ?_ ?_ | refine fin_e ?_ ?_)
    all_goals rfl
end Go.Proofs.YthmikjjnlahlbaaGreat.Lc
namespace Go.Proofs.YthmikjjnlahlbaaGreat.Lc
set_option linter.unusedSectionVars false
set_option linter.unusedVariables false
set_option linter.unusedSimpArgs false
open Go.RowKit Go.Proofs.YthmikjjnlahlbaaGreat.Ba Go.Proofs.YthmikjjnlahlbaaGreat.Mem Go.Proofs.YthmikjjnlahlbaaGreat.En Go.Proofs.YthmikjjnlahlbaaGreat.Ty Go.Proofs.YthmikjjnlahlbaaGreat.Mo Go.Proofs.YthmikjjnlahlbaaGreat.St Go.Proofs.YthmikjjnlahlbaaGreat.Co
open Go.Proofs.YthmikjjnlahlbaaGreat.Ri (MsgV tickV hearV)
open Go.Proofs.YthmikjjnlahlbaaGreat.Qu (dropL atS btw firstA atF)
open Go.Proofs.YthmikjjnlahlbaaGreat.Le (hasL ofL setL setE endL zeroL atP isS isT isP)
open Go.Proofs.YthmikjjnlahlbaaGreat.Gr (loadR)
def key (l : LeaseV) : Int × Int × Int := (l.se, l.ca, l.fl)
def KR (a b : Int × Int × Int) : Prop := a.1 ≠ b.1 ∧ a.2.1 ≠ b.2.1
structure UQ (K : KV) : Prop where
  l : (K.L.map key).Pairwise KR
  q : (K.Q.map AskV.se).Pairwise (· ≠ ·)
theorem find_none {α : Type} {p : α → Bool} {ls : List α} (h : (ls.findIdx? p).isSome = false) : ∀ x ∈ ls, p x = false := by
  intro x hx
  have : ls.findIdx? p = none := by simpa using h
  exact List.findIdx?_eq_none_iff.1 this x hx
/-- The first of a kind taken out of a list where no two are of a kind. -/
theorem erase_filter {α : Type} (f : α → Int) (s : Int) : ∀ ls : List α, (ls.map f).Pairwise (· ≠ ·) → (match ls.findIdx? (fun a => f a == s) with | some k => ls.eraseIdx k | none => ls) = ls.filter (fun a => f a != s)
  | [], _ => rfl
  | a :: r, h => by
    rw [List.map_cons, List.pairwise_cons] at h
    have ih := erase_filter f s r h.2
    rw [List.findIdx?_cons]
    cases e : (f a == s) with
    | true =>
      have e1 : f a = s := by simpa using e
      have hr : r.filter (fun a => f a != s) = r := List.filter_eq_self.2 fun b hb => by
        have := h.1 (f b) (List.mem_map.2 ⟨b, hb, rfl⟩)
        simp only [bne_iff_ne, ne_eq]
        omega
      rw [List.filter_cons_of_neg (by simp [e1]), hr]; rfl
    | false =>
      rw [List.filter_cons_of_pos (by have : ¬ f a = s := by simpa using e
                                      simpa using this)]
      cases e2 : r.findIdx? (fun a => f a == s) with
      | none => rw [e2] at ih; simp only [] at ih; rw [← ih]; rfl
      | some k => rw [e2] at ih; simp only [] at ih; rw [← ih]; rfl
theorem key_se {ls : List LeaseV} (h : (ls.map key).Pairwise KR) : (ls.map LeaseV.se).Pairwise (· ≠ ·) := by
  rw [List.pairwise_map] at h ⊢
  exact h.imp fun h => h.1
theorem end_filter {ls : List LeaseV} (h : (ls.map key).Pairwise KR) (s : Int) : endL ls s = ls.filter (fun l => l.se != s) := erase_filter LeaseV.se s ls (key_se h)
theorem drop_filter {ls : List AskV} (h : (ls.map AskV.se).Pairwise (· ≠ ·)) (s : Int) : dropL ls s = ls.filter (fun l => l.se != s) := erase_filter AskV.se s ls h
theorem end_no {ls : List LeaseV} {s : Int} (h : ¬ hasL ls s = true) : endL ls s = ls := by
  unfold endL; unfold hasL at h
  cases e : atP ls (isS s) with
  | none => rfl
  | some k => rw [e] at h; exact absurd rfl h
theorem set_key (c : CfgV) (ls : List LeaseV) (x : LeaseV) : (setL c ls x).map key = ls.map key := by
  unfold setL; split
  · split
    · rename_i k hk
      obtain ⟨hl, h1, _⟩ := Le.atP_some hk
      have h2 := h1 hl
      unfold isT at h2
      simp only [Bool.and_eq_true, beq_iff_eq] at h2
      apply List.ext_getElem
      · simp
      · intro i _ h4
        have h4 : i < ls.length := by simpa using h4
        rw [List.getElem_map, List.getElem_map, List.getElem_set]
        split
        · rename_i e; subst e
          unfold key; rw [h2.1.1, h2.1.2, h2.2]
        · rfl
    · rfl
  · rfl
section
variable {K : KV}
theorem UQ.new (c : CfgV) : UQ (newK c) := ⟨by simp [newK], by simp [newK]⟩
theorem UQ.ans (h : UQ K) (a : AskV) : UQ (ansK K a) := by
  refine ⟨h.l, ?_⟩
  unfold ansK ansQ
  show ((if _ then _ else _ : List AskV).map AskV.se).Pairwise (· ≠ ·)
  split
  · split
    · exact h.q
    · unfold Qu.putL; split
      · rename_i he
        unfold Qu.putE at he
        split at he
        · cases he
        · rename_i hn
          rw [List.map_append, List.pairwise_append]
          refine ⟨h.q, by simp, fun x hx y hy => ?_⟩
          obtain ⟨b, hb, rfl⟩ := List.mem_map.1 hx
          have := find_none (p := Qu.isS a.se) (ls := K.Q) (by simpa [atS] using hn) b hb
          have hy : y = a.se := by simpa using hy
          subst hy
          simpa [Qu.isS] using this
      · exact h.q
  · exact h.q
theorem UQ.end_ (h : UQ K) (s : Int) : UQ (endK K s) := by
  unfold Co.endK; split
  · exact ⟨h.l.sublist ((end_sub _ _).map _), h.q⟩
  · exact h
theorem UQ.set (h : UQ K) (l : LeaseV) (o : Bool) : UQ (setK K l o) := by
  unfold setK; split
  · exact h.end_ _
  · exact ⟨by show ((setL _ _ _).map key).Pairwise KR; rw [set_key]; exact h.l, h.q⟩
theorem UQ.hear (h : UQ K) (s : Int) (x : MsgV) : UQ (hearK K s x) := by
  unfold hearK; split
  · exact h.set _ _
  · exact h
theorem UQ.gone (h : UQ K) (s : Int) : UQ (goneK K s) :=
  ⟨(h.end_ s).l, h.q.sublist ((drop_sub _ _).map _)⟩
theorem UQ.grp (h : UQ K) (G : Gr.GrV) : UQ { K with G := G } := ⟨h.l, h.q⟩
theorem UQ.fold (h : UQ K) (k : Nat) : UQ (foldK K k).1 := by
  have key : ∀ (ls : List LeaseV) (x : KV × List EvV), UQ x.1 → UQ (ls.foldl stepK x).1 := by
    intro ls
    induction ls with
    | nil => intro x h; exact h
    | cons l r ih => intro x h; rw [List.foldl_cons]; exact ih _ (h.set _ _)
  exact key _ _ (h.grp _)
theorem UQ.grant (h : UQ K) : UQ (grantK K) := by
  unfold grantK; split
  · exact h
  · rename_i a ha
    refine ⟨?_, h.q.sublist ((drop_sub _ _).map _)⟩
    show ((Le.putL _ _ _).map key).Pairwise KR
    unfold Le.putL; split
    · rename_i he
      unfold Le.putE at he
      split at he
      · split at he
        · cases he
        · rename_i hn
          rw [List.map_append, List.pairwise_append]
          refine ⟨h.l, by simp, fun x hx y hy => ?_⟩
          obtain ⟨b, hb, rfl⟩ := List.mem_map.1 hx
          have hy : y = Lc.key (grL K a) := by simpa using hy
          subst hy
          have := find_none (p := isP (grL K a)) (ls := K.L) (by simpa [atP] using hn) b hb
          unfold isP at this
          simp only [Bool.or_eq_false_iff, beq_eq_false_iff_ne] at this
          exact this
      · cases he
    · exact h.l
theorem UQ.tick (h : UQ K) : UQ (tickK K) := (h.fold _).grant
theorem UQ.obS {x : KV × List EvV} (h : UQ x.1) (l : LeaseV) : UQ (obStep x l).1 := by
  unfold obStep; split
  · exact (h.grp _).hear _ _
  · split
    · exact (h.grp _).hear _ _
    · exact h
theorem UQ.ob (h : UQ K) (k : Nat) : UQ (obF K k).1 := by
  have key : ∀ (ls : List LeaseV) (x : KV × List EvV), UQ x.1 → UQ (ls.foldl obStep x).1 := by
    intro ls
    induction ls with
    | nil => intro x h; exact h
    | cons l r ih => intro x h; rw [List.foldl_cons]; exact ih _ (UQ.obS h l)
  exact key _ _ h
theorem UQ.do_ (h : UQ K) (o : KopV) : UQ (doK K o) := by
  unfold doK
  split
  · exact h.ans _
  split
  · exact h.hear _ _
  split
  · exact h.gone _
  split
  · exact UQ.ob h _
  · exact h.grp _
theorem gone_L (h : UQ K) (s : Int) : (goneK K s).L = K.L.filter (fun l => l.se != s) := by
  rw [← end_filter h.l s]
  show (endK K s).L = _
  unfold Co.endK; split
  · rfl
  · rename_i hn; exact (end_no hn).symm
theorem gone_Q (h : UQ K) (s : Int) : (goneK K s).Q = K.Q.filter (fun l => l.se != s) := drop_filter h.q s
end
end Go.Proofs.YthmikjjnlahlbaaGreat.Lc
