/-
  What is wanted by the last of these texts, part 12.
  No condition.
-/
import Derived.Test.YthmikjjnlahlbaaGreatKG11
namespace Go.Proofs.YthmikjjnlahlbaaGreat.Lc
set_option linter.unusedSectionVars false
set_option linter.unusedVariables false
set_option linter.unusedSimpArgs false
open Go.RowKit Go.Proofs.YthmikjjnlahlbaaGreat.Ba Go.Proofs.YthmikjjnlahlbaaGreat.Mem Go.Proofs.YthmikjjnlahlbaaGreat.En Go.Proofs.YthmikjjnlahlbaaGreat.Ty Go.Proofs.YthmikjjnlahlbaaGreat.Mo Go.Proofs.YthmikjjnlahlbaaGreat.St Go.Proofs.YthmikjjnlahlbaaGreat.Co
open Go.Proofs.YthmikjjnlahlbaaGreat.Ri (MsgV msgC)
open Go.Proofs.YthmikjjnlahlbaaGreat.Gr (loadR loadG hallR hallG pressR pressG curtR curtG faultR faultG GI)
open Go.Proofs.YthmikjjnlahlbaaGreat.Fl (leaE)
set_option maxRecDepth 100000
attribute [local irreducible] Go.Calls
def ldK (K : KV) (l : LeaseV) (v : Int) : KV := { K with G := (loadR K.G l.ca v).1 }
def obStep (x : KV × List EvV) (l : LeaseV) : KV × List EvV :=
  if l.ph = 2 then (hearK (ldK x.1 l l.ma) l.se ⟨9, 0, 0, 0⟩, x.2 ++ evs l.se (hearM (ldK x.1 l l.ma) l.se ⟨9, 0, 0, 0⟩))
  else if l.ph = 4 then (hearK (ldK x.1 l 0) l.se ⟨13, 0, 0, 0⟩, x.2 ++ evs l.se (hearM (ldK x.1 l 0) l.se ⟨13, 0, 0, 0⟩)) else x
def obF (K : KV) (k : Nat) : KV × List EvV := (K.L.take k).foldl obStep (K, [])
def obK (K : KV) : KV := (obF K K.L.length).1
def obE (K : KV) : List EvV := (obF K K.L.length).2
theorem ob_next {K : KV} {k : Nat} {l : LeaseV} (h : K.L[k]? = some l) : obF K (k + 1) = obStep (obF K k) l := by
  obtain ⟨hk, rfl⟩ := List.getElem?_eq_some_iff.1 h
  unfold obF
  rw [List.take_succ_eq_append_getElem hk, List.foldl_append]; rfl
theorem hearM_len (K : KV) (s : Int) (m : MsgV) : (hearM K s m).length ≤ 1 := by
  unfold hearM; split
  · cases (hearR K (Le.ofL K.L s) m).2.1 <;> simp
  · simp
theorem obS_len (x : KV × List EvV) (l : LeaseV) : (obStep x l).2.length ≤ x.2.length + 1 := by
  unfold obStep; split
  · have := hearM_len (ldK x.1 l l.ma) l.se ⟨9, 0, 0, 0⟩
    simp [evs]; omega
  · split
    · have := hearM_len (ldK x.1 l 0) l.se ⟨13, 0, 0, 0⟩
      simp [evs]; omega
    · omega
theorem ob_len (K : KV) : ∀ k, (obF K k).2.length ≤ k := by
  intro k
  have key : ∀ (ls : List LeaseV) (x : KV × List EvV), (ls.foldl obStep x).2.length ≤ x.2.length + ls.length := by
    intro ls
    induction ls with
    | nil => intro x; simp
    | cons l r ih =>
      intro x
      rw [List.foldl_cons]
      have := ih (obStep x l); have := obS_len x l
      rw [List.length_cons]; omega
  have := key (K.L.take k) (K, [])
  rw [List.length_take] at this
  simp at this
  unfold obF; omega
theorem evs_len (s : Int) (ms : List MsgV) : (evs s ms).length = ms.length := by simp [evs]
section
variable {c : CfgV} {n T m : Nat} {K : KV}
theorem KI.ld (h : KI c n T m K) (l : LeaseV) (v : Int) : KI c n T m (ldK K l v) :=
  ⟨h.g.load _ _, by show ∀ a ∈ (loadR K.G l.ca v).1.waits, _; rw [(Gr.load_w _ _).1]; exact h.s, by show 0 ≤ (loadR K.G l.ca v).1.now ∧ (loadR K.G l.ca v).1.now ≤ _; rw [(Gr.load_w _ _).2]; exact h.now, h.lq, h.okq, h.ll, h.okl⟩
theorem KI.obS {x : KV × List EvV} (h : KI c n T m x.1) (l : LeaseV) : KI c n T m (obStep x l).1 := by
  unfold obStep; split
  · exact (KI.ld h l _).hear _ _
  · split
    · exact (KI.ld h l _).hear _ _
    · exact h
theorem KI.ob (h : KI c n T m K) (k : Nat) : KI c n T m (obF K k).1 := by
  have key : ∀ (ls : List LeaseV) (x : KV × List EvV), KI c n T m x.1 → KI c n T m (ls.foldl obStep x).1 := by
    intro ls
    induction ls with
    | nil => intro x h; exact h
    | cons l r ih => intro x h; rw [List.foldl_cons]; exact ih _ (KI.obS h l)
  exact key _ _ h
end
attribute [local irreducible] hearK hearM ldK evs
section
variable {lo q : Nat} {p : Pt} {K : KV} {S : List Nat} {w : World} {c : CfgV} {n T m : Nat}
theorem loadW (h : KW lo q p K S w) (l : LeaseV) (v : Int) : Calls Tryz.prog 59 #[.pointer (some ⟨p.g, 0, none⟩), .int .i64 l.ca, .int .i64 v] w fun e w' => ∃ S', e = .returned (.int .i64 (loadR K.G l.ca v).2) ∧ KW lo q p (ldK K l v) S' w' ∧ Upd S w w' ∧ ∀ g ∈ S', g ∈ S ∨ w.heap.size ≤ g := by
  unfold ldK
  exact KW.grp h (one_c _ _ _) (fun S1 hq => loadG hq l.ca v)
attribute [local irreducible] loadR
set_option maxHeartbeats 8000000 in
theorem obeysT (h : KW lo q p K S w) (hi : KI c n T m K) (hm : m ≤ 10000) :
    Calls Tryz.prog 41 #[.pointer (some ⟨q, 0, none⟩)] w fun e w' => ∃ x : List Nat × Nr, e = .returned (.slice x.2.2.1 (obE K).length x.2.2.2) ∧ KW lo q p (obK K) x.1 w' ∧ (rwO evE x.2.1 x.2.2.1 (obE K).length x.2.2.2 (obE K) true).st w' ∧ Upd S w w' ∧ (∀ g ∈ x.1, g ∈ S ∨ w.heap.size ≤ g) ∧ ∀ g ∈ blkOf x.2.2.1, w.heap.size ≤ g ∧ g ∉ x.1 := by
  have hll := hi.ll
  refine entH tab_ok (Hold.addObj (Hold.addObj (Hold.nil _ tab S _ w) (kO lo q p K S true) h (fun _ g hg => .inl hg) (by intro r hr; cases hr) (by intro A hA; cases hA)) (rwO evE w.heap.size none 0 0 [] true) (Ek.nil _ _ _) (by intro _ g hg; cases hg) (by intro r _ _ hg; cases hg) (by intro A hA _ g hg hg2; cases hg2)) [.v (.pointer (some ⟨q, 0, none⟩))] Tryz.func41 Tryz.ntmps41 rfl rfl ?_
  repeat' ((conv => whnf); first | refine sgo ⟨tab_ok⟩ ?_ | refine br_not ?_ | refine br_t rfl ?_ | refine br_f rfl ?_ | refine br_t (by assumption) ?_ | refine br_f (by assumption) ?_ | refine br_t (decide_eq_true (by assumption)) ?_ | refine br_f (decide_eq_false (by assumption)) ?_ | refine br_t (beq_iff_eq.2 (by assumption)) ?_ | refine br_f (beq_eq_false_iff_ne.2 (by assumption)) ?_ | intro b | refine drA ⟨tab_ok⟩ [] ?_ | refine kpt ?_ | refine callN (f := 30) (ι := NrP w.heap.size K.L.length) (fun x => .v (.slice x.1.2.1 K.L.length x.1.2.2)) (fun x => rwO leaE x.1.1 x.1.2.1 K.L.length x.1.2.2 K.L true) (fun w1 hH => toNp (leasesK (Hold.ob hH (A := kO lo q p K S true) 0 rfl) (by omega)) hH.upd.size) (fun ls => ?_) | refine fin_s ?_ | refine fin_r ?_ ?_ | refine fin_e ?_ ?_)
  conv => whnf
  obtain ⟨⟨l0, A0, c0⟩, hl0, hA0⟩ := ls
  have hA0 : 0 < K.L.length → ∃ g, A0 = some ⟨g, 0, none⟩ := hA0
  refine lp ⟨tab_ok⟩ (ι := {x : (Nat × List Nat × Nr) × (KV × List EvV) // x.1.1 ≤ K.L.length ∧ obF K x.1.1 = x.2}) (fun x => match x with | ⟨((k, Sk, (_, A3, c3)), (Kk, es)), _⟩ => ⟨[(0, .v (.pointer (some ⟨q, 0, none⟩))), (3, .v (.slice A3 es.length c3)), (4, .v (.slice A0 K.L.length c0)), (5, .i .i64 (k : Int))], [], [kO lo q p Kk Sk true, rwO evE w.heap.size A3 es.length c3 es true, rwO leaE l0 A0 K.L.length c0 K.L true]⟩) (fun x => K.L.length - x.1.1.1) ⟨((0, S, (0, none, 0)), (K, [])), Nat.zero_le _, rfl⟩ (wk ?_) ?_
  · repeat' (first | exact trivial | rfl | ((conv => whnf); refine And.intro ?_ ?_))
  rintro ⟨⟨⟨k, Sk, ⟨u0, A3, c3⟩⟩, ⟨Kk, es⟩⟩, hkl, hfo⟩
  have hkl : k ≤ K.L.length := hkl
  have hfo : obF K k = (Kk, es) := hfo
  have HK : KI c n T m Kk := by have := KI.ob hi k; rw [hfo] at this; exact this
  have hes : es.length ≤ k := by have := ob_len K k; rw [hfo] at this; exact this
  by_cases hlt : k < K.L.length
  · obtain ⟨l, hl⟩ : ∃ l, K.L[k]? = some l := ⟨_, List.getElem?_eq_getElem (by omega)⟩
    have hs := ob_next hl
    rw [hfo] at hs
    obtain ⟨g0, rfl⟩ := hA0 (by omega)
    by_cases h2 : l.ph = 2
    · have H1 : KI c n T m (ldK Kk l l.ma) := KI.ld HK l l.ma
      have hs2 : obF K (k + 1) = (hearK (ldK Kk l l.ma) l.se ⟨9, 0, 0, 0⟩, es ++ evs l.se (hearM (ldK Kk l l.ma) l.se ⟨9, 0, 0, 0⟩)) := by rw [hs]; unfold obStep; rw [if_pos h2]
      have hm1 := hearM_len (ldK Kk l l.ma) l.se ⟨9, 0, 0, 0⟩
      repeat' ((conv => whnf); first | refine sgo ⟨tab_ok⟩ ?_ | refine br_not ?_ | refine br_t rfl ?_ | refine br_f rfl ?_ | refine br_t (by assumption) ?_ | refine br_f (by assumption) ?_ | refine br_t (decide_eq_true (by assumption)) ?_ | refine br_f (decide_eq_false (by assumption)) ?_ | refine br_t (beq_iff_eq.2 (by assumption)) ?_ | refine br_f (beq_eq_false_iff_ne.2 (by assumption)) ?_ | intro b | refine br_t (decide_eq_true (by omega)) ?_ | refine br_f (decide_eq_false (by omega)) ?_ | refine wr_i ?_ | refine kpt ?_ | refine drA ⟨tab_ok⟩ [6, 12] ?_ | refine And.intro ?_ ?_ | refine br_t (beq_iff_eq.2 h2) ?_ | refine opiv ⟨tab_ok⟩ (by rfl) (by rfl) (by rfl) (by rfl) (by rfl) (by rfl) ⟨by omega, by omega⟩ ?_ | refine puiv ⟨tab_ok⟩ (by rfl) (by rfl) (by rfl) (by rfl) (by rfl) (by rfl) ⟨by omega, by omega⟩ ?_ | refine opfv ⟨tab_ok⟩ (by rfl) (by rfl) (by rfl) (by rfl) ?_ | refine pufv ⟨tab_ok⟩ (by rfl) (by rfl) (by rfl) (by rfl) ?_ | refine opxc (g := g0) (off := 0 + k * 10 + 6) (.i .i64 l.ph) (fun w hH => rng_sub (n := 1) (Ek.rng (Hold.ob hH (A := rwO leaE l0 (some ⟨g0, 0, none⟩) K.L.length c0 K.L true) 2 rfl) hl) rfl) ⟨tab_ok⟩ (by rfl) (by rfl) (by simp only [Go.WideShapes.add_plain]; rfl) ?_ | refine opxc (g := g0) (off := 0 + k * 10 + 5) (.i .i64 l.ca) (fun w hH => rng_sub (n := 1) (Ek.rng (Hold.ob hH (A := rwO leaE l0 (some ⟨g0, 0, none⟩) K.L.length c0 K.L true) 2 rfl) hl) rfl) ⟨tab_ok⟩ (by rfl) (by rfl) (by simp only [Go.WideShapes.add_plain]; rfl) ?_ | refine opxc (g := g0) (off := 0 + k * 10 + 4) (.i .i64 l.ma) (fun w hH => rng_sub (n := 1) (Ek.rng (Hold.ob hH (A := rwO leaE l0 (some ⟨g0, 0, none⟩) K.L.length c0 K.L true) 2 rfl) hl) rfl) ⟨tab_ok⟩ (by rfl) (by rfl) (by simp only [Go.WideShapes.add_plain]; rfl) ?_ | refine opxc (g := g0) (off := 0 + k * 10 + 0) (.i .i64 l.se) (fun w hH => rng_sub (n := 1) (Ek.rng (Hold.ob hH (A := rwO leaE l0 (some ⟨g0, 0, none⟩) K.L.length c0 K.L true) 2 rfl) hl) rfl) ⟨tab_ok⟩ (by rfl) (by rfl) (by simp only [Go.WideShapes.add_plain]; rfl) ?_ | refine callH (f := 31) (.v (.pointer (some ⟨p.g, 0, none⟩))) (fun w hH => groupK (Hold.ob hH (A := kO lo q p Kk Sk true) 0 rfl)) ?_ | refine callO (f := 59) (A := kO lo q p Kk Sk true) 0 (fun _ => .i .i64 (loadR Kk.G l.ca l.ma).2) (fun S' => kO lo q p (ldK Kk l l.ma) S' true) (fun w hH hA => loadW hA l l.ma) (fun S1 => ?_) | refine callON (f := 43) (A := kO lo q p (ldK Kk l l.ma) S1 true) 0 (ι := List Nat × Nr) (fun x => .v (.slice x.2.2.1 (hearM (ldK Kk l l.ma) l.se ⟨9, 0, 0, 0⟩).length x.2.2.2)) (fun x => kO lo q p (hearK (ldK Kk l l.ma) l.se ⟨9, 0, 0, 0⟩) x.1 true) (fun x => rwO evE x.2.1 x.2.2.1 (hearM (ldK Kk l l.ma) l.se ⟨9, 0, 0, 0⟩).length x.2.2.2 (evs l.se (hearM (ldK Kk l l.ma) l.se ⟨9, 0, 0, 0⟩)) true) (fun w1 hH hA => hearW hA (by rw [H1.len]; have := Gr.ncars_bd c; omega) (by have := H1.ll; omega) l.se ⟨9, 0, 0, 0⟩ (fun h => H1.inc (H1.okl _ (has_mem h).1))) (fun x => ?_) | refine opao 1 3 (e := 81) (lo := w.heap.size) (size := 5) (bytes := 40) (z := .agg #[.int .i64 0, .int .i64 0, .int .i64 0, .int .i64 0, .int .i64 0]) (A := rwO evE w.heap.size A3 es.length c3 es true) (E := rwO evE x.2.1 x.2.2.1 (hearM (ldK Kk l l.ma) l.se ⟨9, 0, 0, 0⟩).length x.2.2.2 (evs l.se (hearM (ldK Kk l l.ma) l.se ⟨9, 0, 0, 0⟩)) true) (vals := rowsOf evC es) (cells := rowsOf evC (evs l.se (hearM (ldK Kk l l.ma) l.se ⟨9, 0, 0, 0⟩))) (zs := rowsOf evC (es ++ evs l.se (hearM (ldK Kk l l.ma) l.se ⟨9, 0, 0, 0⟩))) (n2 := (es ++ evs l.se (hearM (ldK Kk l l.ma) l.se ⟨9, 0, 0, 0⟩)).length) (fun A' c' => rwO evE w.heap.size A' (es ++ evs l.se (hearM (ldK Kk l l.ma) l.se ⟨9, 0, 0, 0⟩)).length c' (es ++ evs l.se (hearM (ldK Kk l l.ma) l.se ⟨9, 0, 0, 0⟩)) true) (by rfl) (by rfl) (by rfl) (by rfl) (by rfl) rfl rfl (fun w h => h) (fun A' c' w h => h) (fun _ _ => rfl) (fun w h => Ek.reads h) Tryz.underlying51 (by kernel_rfl) rfl (by decide) (by decide) (rowsOf_one' evE.one _) (by omega) (fun w hH => hH.upd.size) (by rw [List.length_append, evs_len]) (by rw [rowsOf_append]) (fun A' c' => ?_) | refine back ⟨((k + 1, x.1, (0, A', c')), (hearK (ldK Kk l l.ma) l.se ⟨9, 0, 0, 0⟩, es ++ evs l.se (hearM (ldK Kk l l.ma) l.se ⟨9, 0, 0, 0⟩))), by show k + 1 ≤ _; omega, hs2⟩ (wkd ?_) ?_ | refine fin_s ?_ | refine fin_r ?_ ?_ | refine fin_e ?_ ?_)
      all_goals first | (show K.L.length - (k + 1) < K.L.length - k; omega) | skip
      all_goals (repeat' (first | exact trivial | rfl | ((conv => whnf); refine And.intro ?_ ?_)))
    · by_cases h4 : l.ph = 4
      · have H1 : KI c n T m (ldK Kk l 0) := KI.ld HK l 0
        have hs2 : obF K (k + 1) = (hearK (ldK Kk l 0) l.se ⟨13, 0, 0, 0⟩, es ++ evs l.se (hearM (ldK Kk l 0) l.se ⟨13, 0, 0, 0⟩)) := by rw [hs]; unfold obStep; rw [if_neg h2, if_pos h4]
        have hm1 := hearM_len (ldK Kk l 0) l.se ⟨13, 0, 0, 0⟩
        repeat' ((conv => whnf); first | refine sgo ⟨tab_ok⟩ ?_ | refine br_not ?_ | refine br_t rfl ?_ | refine br_f rfl ?_ | refine br_t (by assumption) ?_ | refine br_f (by assumption) ?_ | refine br_t (decide_eq_true (by assumption)) ?_ | refine br_f (decide_eq_false (by assumption)) ?_ | refine br_t (beq_iff_eq.2 (by assumption)) ?_ | refine br_f (beq_eq_false_iff_ne.2 (by assumption)) ?_ | intro b | refine br_t (decide_eq_true (by omega)) ?_ | refine br_f (decide_eq_false (by omega)) ?_ | refine wr_i ?_ | refine kpt ?_ | refine drA ⟨tab_ok⟩ [6] ?_ | refine And.intro ?_ ?_ | refine br_t (beq_iff_eq.2 h4) ?_ | refine br_f (beq_eq_false_iff_ne.2 h2) ?_ | refine opiv ⟨tab_ok⟩ (by rfl) (by rfl) (by rfl) (by rfl) (by rfl) (by rfl) ⟨by omega, by omega⟩ ?_ | refine puiv ⟨tab_ok⟩ (by rfl) (by rfl) (by rfl) (by rfl) (by rfl) (by rfl) ⟨by omega, by omega⟩ ?_ | refine opfv ⟨tab_ok⟩ (by rfl) (by rfl) (by rfl) (by rfl) ?_ | refine pufv ⟨tab_ok⟩ (by rfl) (by rfl) (by rfl) (by rfl) ?_ | refine opxc (g := g0) (off := 0 + k * 10 + 6) (.i .i64 l.ph) (fun w hH => rng_sub (n := 1) (Ek.rng (Hold.ob hH (A := rwO leaE l0 (some ⟨g0, 0, none⟩) K.L.length c0 K.L true) 2 rfl) hl) rfl) ⟨tab_ok⟩ (by rfl) (by rfl) (by simp only [Go.WideShapes.add_plain]; rfl) ?_ | refine opxc (g := g0) (off := 0 + k * 10 + 5) (.i .i64 l.ca) (fun w hH => rng_sub (n := 1) (Ek.rng (Hold.ob hH (A := rwO leaE l0 (some ⟨g0, 0, none⟩) K.L.length c0 K.L true) 2 rfl) hl) rfl) ⟨tab_ok⟩ (by rfl) (by rfl) (by simp only [Go.WideShapes.add_plain]; rfl) ?_ | refine opxc (g := g0) (off := 0 + k * 10 + 4) (.i .i64 l.ma) (fun w hH => rng_sub (n := 1) (Ek.rng (Hold.ob hH (A := rwO leaE l0 (some ⟨g0, 0, none⟩) K.L.length c0 K.L true) 2 rfl) hl) rfl) ⟨tab_ok⟩ (by rfl) (by rfl) (by simp only [Go.WideShapes.add_plain]; rfl) ?_ | refine opxc (g := g0) (off := 0 + k * 10 + 0) (.i .i64 l.se) (fun w hH => rng_sub (n := 1) (Ek.rng (Hold.ob hH (A := rwO leaE l0 (some ⟨g0, 0, none⟩) K.L.length c0 K.L true) 2 rfl) hl) rfl) ⟨tab_ok⟩ (by rfl) (by rfl) (by simp only [Go.WideShapes.add_plain]; rfl) ?_ | refine callH (f := 31) (.v (.pointer (some ⟨p.g, 0, none⟩))) (fun w hH => groupK (Hold.ob hH (A := kO lo q p Kk Sk true) 0 rfl)) ?_ | refine callO (f := 59) (A := kO lo q p Kk Sk true) 0 (fun _ => .i .i64 (loadR Kk.G l.ca 0).2) (fun S' => kO lo q p (ldK Kk l 0) S' true) (fun w hH hA => loadW hA l 0) (fun S1 => ?_) | refine callON (f := 43) (A := kO lo q p (ldK Kk l 0) S1 true) 0 (ι := List Nat × Nr) (fun x => .v (.slice x.2.2.1 (hearM (ldK Kk l 0) l.se ⟨13, 0, 0, 0⟩).length x.2.2.2)) (fun x => kO lo q p (hearK (ldK Kk l 0) l.se ⟨13, 0, 0, 0⟩) x.1 true) (fun x => rwO evE x.2.1 x.2.2.1 (hearM (ldK Kk l 0) l.se ⟨13, 0, 0, 0⟩).length x.2.2.2 (evs l.se (hearM (ldK Kk l 0) l.se ⟨13, 0, 0, 0⟩)) true) (fun w1 hH hA => hearW hA (by rw [H1.len]; have := Gr.ncars_bd c; omega) (by have := H1.ll; omega) l.se ⟨13, 0, 0, 0⟩ (fun h => H1.inc (H1.okl _ (has_mem h).1))) (fun x => ?_) | refine opao 1 3 (e := 81) (lo := w.heap.size) (size := 5) (bytes := 40) (z := .agg #[.int .i64 0, .int .i64 0, .int .i64 0, .int .i64 0, .int .i64 0]) (A := rwO evE w.heap.size A3 es.length c3 es true) (E := rwO evE x.2.1 x.2.2.1 (hearM (ldK Kk l 0) l.se ⟨13, 0, 0, 0⟩).length x.2.2.2 (evs l.se (hearM (ldK Kk l 0) l.se ⟨13, 0, 0, 0⟩)) true) (vals := rowsOf evC es) (cells := rowsOf evC (evs l.se (hearM (ldK Kk l 0) l.se ⟨13, 0, 0, 0⟩))) (zs := rowsOf evC (es ++ evs l.se (hearM (ldK Kk l 0) l.se ⟨13, 0, 0, 0⟩))) (n2 := (es ++ evs l.se (hearM (ldK Kk l 0) l.se ⟨13, 0, 0, 0⟩)).length) (fun A' c' => rwO evE w.heap.size A' (es ++ evs l.se (hearM (ldK Kk l 0) l.se ⟨13, 0, 0, 0⟩)).length c' (es ++ evs l.se (hearM (ldK Kk l 0) l.se ⟨13, 0, 0, 0⟩)) true) (by rfl) (by rfl) (by rfl) (by rfl) (by rfl) rfl rfl (fun w h => h) (fun A' c' w h => h) (fun _ _ => rfl) (fun w h => Ek.reads h) Tryz.underlying51 (by kernel_rfl) rfl (by decide) (by decide) (rowsOf_one' evE.one _) (by omega) (fun w hH => hH.upd.size) (by rw [List.length_append, evs_len]) (by rw [rowsOf_append]) (fun A' c' => ?_) | refine back ⟨((k + 1, x.1, (0, A', c')), (hearK (ldK Kk l 0) l.se ⟨13, 0, 0, 0⟩, es ++ evs l.se (hearM (ldK Kk l 0) l.se ⟨13, 0, 0, 0⟩))), by show k + 1 ≤ _; omega, hs2⟩ (wkd ?_) ?_ | refine fin_s ?_ | refine fin_r ?_ ?_ | refine fin_e ?_ ?_)
        all_goals first | (show K.L.length - (k + 1) < K.L.length - k; omega) | skip
        all_goals (repeat' (first | exact trivial | rfl | ((conv => whnf); refine And.intro ?_ ?_)))
      · have hs2 : obF K (k + 1) = (Kk, es) := by rw [hs]; unfold obStep; rw [if_neg h2, if_neg h4]
        repeat' ((conv => whnf); first | refine sgo ⟨tab_ok⟩ ?_ | refine br_not ?_ | refine br_t rfl ?_ | refine br_f rfl ?_ | refine br_t (by assumption) ?_ | refine br_f (by assumption) ?_ | refine br_t (decide_eq_true (by assumption)) ?_ | refine br_f (decide_eq_false (by assumption)) ?_ | refine br_t (beq_iff_eq.2 (by assumption)) ?_ | refine br_f (beq_eq_false_iff_ne.2 (by assumption)) ?_ | intro b | refine br_t (decide_eq_true (by omega)) ?_ | refine br_f (decide_eq_false (by omega)) ?_ | refine wr_i ?_ | refine kpt ?_ | refine br_f (beq_eq_false_iff_ne.2 h4) ?_ | refine br_f (beq_eq_false_iff_ne.2 h2) ?_ | refine opiv ⟨tab_ok⟩ (by rfl) (by rfl) (by rfl) (by rfl) (by rfl) (by rfl) ⟨by omega, by omega⟩ ?_ | refine puiv ⟨tab_ok⟩ (by rfl) (by rfl) (by rfl) (by rfl) (by rfl) (by rfl) ⟨by omega, by omega⟩ ?_ | refine opfv ⟨tab_ok⟩ (by rfl) (by rfl) (by rfl) (by rfl) ?_ | refine pufv ⟨tab_ok⟩ (by rfl) (by rfl) (by rfl) (by rfl) ?_ | refine opxc (g := g0) (off := 0 + k * 10 + 6) (.i .i64 l.ph) (fun w hH => rng_sub (n := 1) (Ek.rng (Hold.ob hH (A := rwO leaE l0 (some ⟨g0, 0, none⟩) K.L.length c0 K.L true) 2 rfl) hl) rfl) ⟨tab_ok⟩ (by rfl) (by rfl) (by simp only [Go.WideShapes.add_plain]; rfl) ?_ | refine opxc (g := g0) (off := 0 + k * 10 + 5) (.i .i64 l.ca) (fun w hH => rng_sub (n := 1) (Ek.rng (Hold.ob hH (A := rwO leaE l0 (some ⟨g0, 0, none⟩) K.L.length c0 K.L true) 2 rfl) hl) rfl) ⟨tab_ok⟩ (by rfl) (by rfl) (by simp only [Go.WideShapes.add_plain]; rfl) ?_ | refine opxc (g := g0) (off := 0 + k * 10 + 4) (.i .i64 l.ma) (fun w hH => rng_sub (n := 1) (Ek.rng (Hold.ob hH (A := rwO leaE l0 (some ⟨g0, 0, none⟩) K.L.length c0 K.L true) 2 rfl) hl) rfl) ⟨tab_ok⟩ (by rfl) (by rfl) (by simp only [Go.WideShapes.add_plain]; rfl) ?_ | refine opxc (g := g0) (off := 0 + k * 10 + 0) (.i .i64 l.se) (fun w hH => rng_sub (n := 1) (Ek.rng (Hold.ob hH (A := rwO leaE l0 (some ⟨g0, 0, none⟩) K.L.length c0 K.L true) 2 rfl) hl) rfl) ⟨tab_ok⟩ (by rfl) (by rfl) (by simp only [Go.WideShapes.add_plain]; rfl) ?_ | refine back ⟨((k + 1, Sk, (0, A3, c3)), (Kk, es)), by show k + 1 ≤ _; omega, hs2⟩ (wkd ?_) ?_ | refine fin_s ?_ | refine fin_r ?_ ?_ | refine fin_e ?_ ?_)
        all_goals first | (show K.L.length - (k + 1) < K.L.length - k; omega) | skip
        all_goals (repeat' (first | exact trivial | rfl | ((conv => whnf); refine And.intro ?_ ?_)))
  · obtain rfl : k = K.L.length := by omega
    have hE : obE K = es := by unfold obE; rw [hfo]
    have hKK : obK K = Kk := by unfold obK; rw [hfo]
    rw [hE, hKK]
    repeat' ((conv => whnf); first | refine sgo ⟨tab_ok⟩ ?_ | refine br_not ?_ | refine br_t rfl ?_ | refine br_f rfl ?_ | refine br_t (by assumption) ?_ | refine br_f (by assumption) ?_ | refine br_t (decide_eq_true (by assumption)) ?_ | refine br_f (decide_eq_false (by assumption)) ?_ | refine br_t (beq_iff_eq.2 (by assumption)) ?_ | refine br_f (beq_eq_false_iff_ne.2 (by assumption)) ?_ | intro b | refine drA ⟨tab_ok⟩ [] ?_ | refine kpt ?_ | refine br_t (decide_eq_true (by omega)) ?_ | refine br_f (decide_eq_false (by omega)) ?_ | refine fin fun w' hH => ?_ | refine fin_s ?_ | refine fin_r ?_ ?_ | refine fin_e ?_ ?_)
    have o0 := Hold.ob hH (A := kO lo q p Kk Sk true) 0 rfl
    have o1 := Hold.ob hH (A := rwO evE w.heap.size A3 es.length c3 es true) 1 rfl
    exact ⟨(Sk, (w.heap.size, A3, c3)), rfl, o0, o1, hH.upd, hH.own _ (List.mem_cons_self ..) rfl, fun g hg => ⟨own_low o1 g hg, fun hg2 => pair_at (R := DisR) (fun _ _ h => h.symm) hH.dis (i := 0) (j := 1) rfl rfl (by decide) (.inl rfl) g hg2 hg⟩⟩
end
end Go.Proofs.YthmikjjnlahlbaaGreat.Lc
namespace Go.Proofs.YthmikjjnlahlbaaGreat.Lc
set_option linter.unusedSectionVars false
set_option linter.unusedVariables false
set_option linter.unusedSimpArgs false
open Go.RowKit Go.Proofs.YthmikjjnlahlbaaGreat.Ba Go.Proofs.YthmikjjnlahlbaaGreat.Mem Go.Proofs.YthmikjjnlahlbaaGreat.En Go.Proofs.YthmikjjnlahlbaaGreat.Ty Go.Proofs.YthmikjjnlahlbaaGreat.Mo Go.Proofs.YthmikjjnlahlbaaGreat.St Go.Proofs.YthmikjjnlahlbaaGreat.Co
open Go.Proofs.YthmikjjnlahlbaaGreat.Ri (MsgV msgC)
open Go.Proofs.YthmikjjnlahlbaaGreat.Gr (loadR loadG hallR hallG pressR pressG curtR curtG faultR faultG GI doR fltX disW one fault_in)
open Go.Proofs.YthmikjjnlahlbaaGreat.Fl (leaE)
set_option maxRecDepth 100000
attribute [local irreducible] Go.Calls
def gdo (G : Gr.GrV) (o : KopV) : Gr.GrV := if 4 ≤ o.k ∧ o.k ≤ 8 then (doR G (o.k - 3) o.a o.b (o.b == 1)).1 else G
def doK (K : KV) (o : KopV) : KV := if o.k = 1 then ansK K o.q else if o.k = 2 then hearK K o.q.se o.m else if o.k = 3 then goneK K o.q.se else if o.k = 10 then obK K else { K with G := gdo K.G o }
def doE (K : KV) (o : KopV) : List EvV := if o.k = 1 then evs o.q.se [ansM K o.q] else if o.k = 2 then evs o.q.se (hearM K o.q.se o.m) else if o.k = 10 then obE K else []
theorem gdo_id {G : Gr.GrV} {o : KopV} (h : ¬ (4 ≤ o.k ∧ o.k ≤ 8)) : gdo G o = G := by unfold gdo; rw [if_neg h]
theorem doR_w (G : Gr.GrV) (k a b : Int) (y : Bool) (hk : 1 ≤ k ∧ k ≤ 5) : (doR G k a b y).1.now = G.now ∧ (doR G k a b y).1.c = G.c ∧ ∀ z ∈ (doR G k a b y).1.waits, z.si = G.now ∨ ∃ u ∈ G.waits, z.si = u.si := by
  have id' : ∀ z ∈ G.waits, z.si = G.now ∨ ∃ u ∈ G.waits, z.si = u.si := fun z hz => .inr ⟨z, hz, rfl⟩
  have on : ∀ (f : CarV → CarV × Int), (one G a f).1.now = G.now ∧ (one G a f).1.c = G.c ∧ ∀ z ∈ (one G a f).1.waits, z.si = G.now ∨ ∃ u ∈ G.waits, z.si = u.si := fun f =>
    ⟨(Gr.one_w _ _).2.1, one_c _ _ _, by rw [(Gr.one_w _ _).1]; exact id'⟩
  unfold doR
  split
  · unfold Gr.hallR; split
    · split
      · refine ⟨rfl, rfl, fun z hz => ?_⟩
        rcases List.mem_append.1 hz with h | h
        · exact id' z h
        · rw [List.mem_singleton] at h; subst h; exact .inl rfl
      · exact ⟨rfl, rfl, id'⟩
    · exact ⟨rfl, rfl, id'⟩
  split
  · unfold Gr.pressR; split
    · exact on _
    · exact ⟨rfl, rfl, id'⟩
  split
  · exact on _
  split
  · exact on _
  split
  · unfold Gr.faultR; split
    · split
      · refine ⟨(on _).1, (on _).2.1, fun z hz => ?_⟩
        obtain ⟨u, hu, rfl⟩ := List.mem_map.1 hz
        refine .inr ⟨u, hu, ?_⟩
        unfold disW; split <;> rfl
      · exact ⟨rfl, rfl, id'⟩
    · exact on _
  omega
theorem gdo_w (G : Gr.GrV) (o : KopV) : (gdo G o).now = G.now ∧ (gdo G o).c = G.c ∧ ∀ z ∈ (gdo G o).waits, z.si = G.now ∨ ∃ u ∈ G.waits, z.si = u.si := by
  unfold gdo; split
  · exact doR_w _ _ _ _ _ (by omega)
  · exact ⟨rfl, rfl, fun z hz => .inr ⟨z, hz, rfl⟩⟩
section
variable {c : CfgV} {n T m : Nat} {K : KV}
theorem KI.gdo (h : KI c n T m K) (o : KopV) : KI c (n + 1) T m { K with G := gdo K.G o } := by
  obtain ⟨e1, e2, e3⟩ := gdo_w K.G o
  refine ⟨?_, fun z hz => ?_, by show 0 ≤ (Lc.gdo K.G o).now ∧ _; rw [e1]; exact h.now, h.lq, h.okq, h.ll, h.okl⟩
  · show GI c (n + 1) T (Lc.gdo K.G o)
    unfold Lc.gdo; split
    · exact h.g.do_ _ _ _ _
    · exact h.g.more (Nat.le_succ n)
  · rcases e3 z hz with e | ⟨u, hu, e⟩
    · rw [e]; exact h.now
    · rw [e]; exact h.s u hu
theorem KI.do_ (h : KI c n T m K) (o : KopV) : KI c (n + 1) T m (doK K o) := by
  have up : ∀ {K' : KV}, KI c n T m K' → KI c (n + 1) T m K' := fun h => h.more (Nat.le_succ n) (Nat.le_refl _) (Nat.le_refl _)
  unfold doK
  split
  · exact up (h.ans _)
  split
  · exact up (h.hear _ _)
  split
  · exact up (h.gone _)
  split
  · exact up (KI.ob h _)
  · exact KI.gdo h o
end
section
variable {lo q : Nat} {p : Pt} {K : KV} {S : List Nat} {w : World} {c : CfgV} {n T m : Nat}
theorem hallW (h : KW lo q p K S w) (hl : K.G.waits.length ≤ 10000) (a b : Int) : Calls Tryz.prog 57 #[.pointer (some ⟨p.g, 0, none⟩), .int .i64 a, .int .i64 b] w fun e w' => ∃ S', e = .returned (.int .i64 (hallR K.G a b).2) ∧ KW lo q p { K with G := (doR K.G 1 a b (b == 1)).1 } S' w' ∧ Upd S w w' ∧ ∀ g ∈ S', g ∈ S ∨ w.heap.size ≤ g :=
  KW.grp h (doR_w K.G 1 a b (b == 1) (by decide)).2.1 (fun S1 hq => hallG hq hl a b)
theorem pressW (h : KW lo q p K S w) (a b : Int) : Calls Tryz.prog 58 #[.pointer (some ⟨p.g, 0, none⟩), .int .i64 a, .int .i64 b] w fun e w' => ∃ S', e = .returned (.int .i64 (pressR K.G a b).2) ∧ KW lo q p { K with G := (doR K.G 2 a b (b == 1)).1 } S' w' ∧ Upd S w w' ∧ ∀ g ∈ S', g ∈ S ∨ w.heap.size ≤ g :=
  KW.grp h (doR_w K.G 2 a b (b == 1) (by decide)).2.1 (fun S1 hq => pressG hq a b)
theorem loadW2 (h : KW lo q p K S w) (a b : Int) : Calls Tryz.prog 59 #[.pointer (some ⟨p.g, 0, none⟩), .int .i64 a, .int .i64 b] w fun e w' => ∃ S', e = .returned (.int .i64 (loadR K.G a b).2) ∧ KW lo q p { K with G := (doR K.G 3 a b (b == 1)).1 } S' w' ∧ Upd S w w' ∧ ∀ g ∈ S', g ∈ S ∨ w.heap.size ≤ g :=
  KW.grp h (doR_w K.G 3 a b (b == 1) (by decide)).2.1 (fun S1 hq => loadG hq a b)
theorem curtW (h : KW lo q p K S w) (a b : Int) : Calls Tryz.prog 60 #[.pointer (some ⟨p.g, 0, none⟩), .int .i64 a, .bool (b == 1)] w fun e w' => ∃ S', e = .returned (.int .i64 (curtR K.G a (b == 1)).2) ∧ KW lo q p { K with G := (doR K.G 4 a b (b == 1)).1 } S' w' ∧ Upd S w w' ∧ ∀ g ∈ S', g ∈ S ∨ w.heap.size ≤ g :=
  KW.grp h (doR_w K.G 4 a b (b == 1) (by decide)).2.1 (fun S1 hq => curtG hq a (b == 1))
theorem faultW (h : KW lo q p K S w) (hl : K.G.waits.length ≤ 1000000) (a b : Int) : Calls Tryz.prog 61 #[.pointer (some ⟨p.g, 0, none⟩), .int .i64 a, .bool (b == 1)] w fun e w' => ∃ S', e = .returned (.int .i64 (faultR K.G a (b == 1)).2) ∧ KW lo q p { K with G := (doR K.G 5 a b (b == 1)).1 } S' w' ∧ Upd S w w' ∧ ∀ g ∈ S', g ∈ S ∨ w.heap.size ≤ g :=
  KW.grp h (doR_w K.G 5 a b (b == 1) (by decide)).2.1 (fun S1 hq => faultG hq hl a (b == 1))
/-- What `do` answers and leaves. -/
def DoP (lo q : Nat) (p : Pt) (K' : KV) (es : List EvV) (S : List Nat) (w : World) (e : Ending) (w' : World) : Prop :=
  ∃ x : List Nat × Nr, e = .returned (.slice x.2.2.1 es.length x.2.2.2) ∧ KW lo q p K' x.1 w' ∧ (rwO evE x.2.1 x.2.2.1 es.length x.2.2.2 es true).st w' ∧ Upd S w w' ∧ (∀ g ∈ x.1, g ∈ S ∨ w.heap.size ≤ g) ∧ ∀ g ∈ blkOf x.2.2.1, w.heap.size ≤ g ∧ g ∉ x.1
theorem own_rebase {α : Type} {E : Ek α} {lo lo' n c : Nat} {A : Option Addr} {ls : List α} {w : World} (h : E.At lo A n c ls w) (hb : ∀ g ∈ blkOf A, lo' ≤ g) : E.At lo' A n c ls w := by
  refine ⟨h.1, ?_⟩
  rcases h.2 with h2 | ⟨g, cap, cur, hv, hbg, rest⟩
  · exact .inl h2
  · have hv' := hv
    simp at hv'
    exact .inr ⟨g, cap, cur, hv, hb g (by rw [hv'.1]; simp [blkOf]), rest⟩
theorem toD {P : Program} {F : FuncId} {args : Array Value} {w1 : World} {n0 n : Nat} {es : List EvV} {S : List Nat} {Φ : List Nat → World → Prop} (h : Calls P F args w1 fun e w' => ∃ x : List Nat × Nr, e = .returned (.slice x.2.2.1 n x.2.2.2) ∧ Φ x.1 w' ∧ (rwO evE x.2.1 x.2.2.1 n x.2.2.2 es true).st w' ∧ Upd S w1 w' ∧ (∀ g ∈ x.1, g ∈ S ∨ w1.heap.size ≤ g) ∧ ∀ g ∈ blkOf x.2.2.1, w1.heap.size ≤ g ∧ g ∉ x.1) (h0 : n0 ≤ w1.heap.size) :
    Calls P F args w1 fun e w' => ∃ x : List Nat × Option Addr × Nat, e = .returned (.slice x.2.1 n x.2.2) ∧ Φ x.1 w' ∧ (rwO evE n0 x.2.1 n x.2.2 es true).st w' ∧ Upd S w1 w' ∧ (∀ g ∈ x.1, g ∈ S ∨ w1.heap.size ≤ g) ∧ ∀ g ∈ (rwO evE n0 x.2.1 n x.2.2 es true).F, w1.heap.size ≤ g ∧ g ∉ x.1 := by
  refine h.mono ?_
  rintro e w' ⟨⟨S', lo, A, c⟩, rfl, h1, h2, h3, h4, h5⟩
  exact ⟨(S', A, c), rfl, h1, own_rebase h2 (fun g hg => Nat.le_trans h0 (h5 g hg).1), h3, h4, h5⟩
theorem DoP.nil {w' : World} {K' : KV} {S' : List Nat} (h : KW lo q p K' S' w') (u : Upd S w w') (n : ∀ g ∈ S', g ∈ S ∨ w.heap.size ≤ g) : DoP lo q p K' [] S w (.returned (.slice none 0 0)) w' :=
  ⟨(S', w.heap.size, none, 0), rfl, h, Ek.nil _ _ _, u, n, by intro g hg; cases hg⟩
theorem hold_do {nt : Nat} (h : KW lo q p K S w) : Hold ⟨Tryz.prog, tab, S, w, nt, []⟩ [] [kO lo q p K S true] w :=
  Hold.addObj (Hold.nil _ tab S _ w) (kO lo q p K S true) h (fun _ g hg => .inl hg) (by intro r hr; cases hr) (by intro A hA; cases hA)
attribute [local irreducible] ansK ansM hearK hearM goneK obK obE doR Gr.hallR pressR loadR curtR faultR evs
theorem doT1 (h : KW lo q p K S w) (hi : KI c n T m K) (hm : m ≤ 10000) (o : KopV) (h1 : o.k = 1) :
    Calls Tryz.prog 27 #[.pointer (some ⟨q, 0, none⟩), .agg (kopC o).toArray] w (DoP lo q p (ansK K o.q) (evs o.q.se [ansM K o.q]) S w) := by
  have hll := hi.ll
  have hlq := hi.lq
  have he1 : (evs o.q.se [ansM K o.q]).length = 1 := evs_len _ _
  refine entH tab_ok (hold_do h) [.v (.pointer (some ⟨q, 0, none⟩)), .a [.i .i64 o.k, .i .i64 o.a, .i .i64 o.b, .i .i64 o.q.se, .i .i64 o.q.fl, .i .i64 o.q.fm, .i .i64 o.q.to, .i .i64 o.q.ma, .i .i64 o.m.ki, .i .i64 o.m.a, .i .i64 o.m.b, .i .i64 o.m.c]] Tryz.func27 Tryz.ntmps27 rfl rfl ?_
  repeat' ((conv => whnf); first | refine sgo ⟨tab_ok⟩ ?_ | refine br_not ?_ | refine br_t rfl ?_ | refine br_f rfl ?_ | refine br_t (by assumption) ?_ | refine br_f (by assumption) ?_ | refine br_t (decide_eq_true (by assumption)) ?_ | refine br_f (decide_eq_false (by assumption)) ?_ | refine br_t (beq_iff_eq.2 (by assumption)) ?_ | refine br_f (beq_eq_false_iff_ne.2 (by assumption)) ?_ | intro b | refine drA ⟨tab_ok⟩ [] ?_ | refine kpt ?_ | refine callON (f := 39) (A := kO lo q p K S true) 0 (ι := List Nat × Option Addr × Nat) (fun x => .v (.slice x.2.1 1 x.2.2)) (fun x => kO lo q p (ansK K o.q) x.1 true) (fun x => rwO evE w.heap.size x.2.1 1 x.2.2 (evs o.q.se [ansM K o.q]) true) (fun w1 hH hA => toD (Φ := fun S' => KW lo q p (ansK K o.q) S') (Co.askK hA (by omega) (by omega) o.q) hH.upd.size) (fun x => ?_) | refine fin fun w' hH => ?_ | refine fin_s ?_ | refine fin_r ?_ ?_ | refine fin_e ?_ ?_)
  have o0 := Hold.ob hH (A := kO lo q p (ansK K o.q) x.1 true) 0 rfl
  have o1 := Hold.ob hH (A := rwO evE w.heap.size x.2.1 1 x.2.2 (evs o.q.se [ansM K o.q]) true) 1 rfl
  refine ⟨(x.1, (w.heap.size, x.2)), by rw [he1]; rfl, o0, by rw [he1]; exact o1, hH.upd, hH.own _ (List.mem_cons_self ..) rfl, fun g hg => ⟨own_low o1 g hg, fun hg2 => pair_at (R := DisR) (fun _ _ h => h.symm) hH.dis (i := 0) (j := 1) rfl rfl (by decide) (.inl rfl) g hg2 hg⟩⟩
theorem doT2 (h : KW lo q p K S w) (hi : KI c n T m K) (hn : n ≤ 10000) (hm : m ≤ 10000) (o : KopV) (h1 : ¬ o.k = 1) (h2 : o.k = 2) :
    Calls Tryz.prog 27 #[.pointer (some ⟨q, 0, none⟩), .agg (kopC o).toArray] w (DoP lo q p (hearK K o.q.se o.m) (evs o.q.se (hearM K o.q.se o.m)) S w) := by
  have hll := hi.ll
  have hlq := hi.lq
  have hw := hi.g.2.2.2.2
  refine entH tab_ok (hold_do h) [.v (.pointer (some ⟨q, 0, none⟩)), .a [.i .i64 o.k, .i .i64 o.a, .i .i64 o.b, .i .i64 o.q.se, .i .i64 o.q.fl, .i .i64 o.q.fm, .i .i64 o.q.to, .i .i64 o.q.ma, .i .i64 o.m.ki, .i .i64 o.m.a, .i .i64 o.m.b, .i .i64 o.m.c]] Tryz.func27 Tryz.ntmps27 rfl rfl ?_
  repeat' ((conv => whnf); first | refine sgo ⟨tab_ok⟩ ?_ | refine br_not ?_ | refine br_t rfl ?_ | refine br_f rfl ?_ | refine br_t (by assumption) ?_ | refine br_f (by assumption) ?_ | refine br_t (decide_eq_true (by assumption)) ?_ | refine br_f (decide_eq_false (by assumption)) ?_ | refine br_t (beq_iff_eq.2 (by assumption)) ?_ | refine br_f (beq_eq_false_iff_ne.2 (by assumption)) ?_ | intro b | refine drA ⟨tab_ok⟩ [] ?_ | refine kpt ?_ | refine callON (f := 43) (A := kO lo q p K S true) 0 (ι := List Nat × Option Addr × Nat) (fun x => .v (.slice x.2.1 ((evs o.q.se (hearM K o.q.se o.m)).length) x.2.2)) (fun x => kO lo q p (hearK K o.q.se o.m) x.1 true) (fun x => rwO evE w.heap.size x.2.1 ((evs o.q.se (hearM K o.q.se o.m)).length) x.2.2 (evs o.q.se (hearM K o.q.se o.m)) true) (fun w1 hH hA => toD (Φ := fun S' => KW lo q p (hearK K o.q.se o.m) S') (by have := hearW hA (by rw [hi.len]; have := Gr.ncars_bd c; omega) (by omega) o.q.se o.m (fun h => hi.inc (hi.okl _ (has_mem h).1)); rw [← evs_len o.q.se (hearM K o.q.se o.m)] at this; exact this) hH.upd.size) (fun x => ?_) | refine fin fun w' hH => ?_ | refine fin_s ?_ | refine fin_r ?_ ?_ | refine fin_e ?_ ?_)
  have o0 := Hold.ob hH (A := kO lo q p (hearK K o.q.se o.m) x.1 true) 0 rfl
  have o1 := Hold.ob hH (A := rwO evE w.heap.size x.2.1 ((evs o.q.se (hearM K o.q.se o.m)).length) x.2.2 (evs o.q.se (hearM K o.q.se o.m)) true) 1 rfl
  refine ⟨(x.1, (w.heap.size, x.2)), rfl, o0, o1, hH.upd, hH.own _ (List.mem_cons_self ..) rfl, fun g hg => ⟨own_low o1 g hg, fun hg2 => pair_at (R := DisR) (fun _ _ h => h.symm) hH.dis (i := 0) (j := 1) rfl rfl (by decide) (.inl rfl) g hg2 hg⟩⟩
theorem doT10 (h : KW lo q p K S w) (hi : KI c n T m K) (hn : n ≤ 10000) (hm : m ≤ 10000) (o : KopV) (h1 : ¬ o.k = 1) (h2 : ¬ o.k = 2) (h3 : ¬ o.k = 3) (h4 : ¬ o.k = 4) (h5 : ¬ o.k = 5) (h6 : ¬ o.k = 6) (h7 : ¬ o.k = 7) (h8 : ¬ o.k = 8) (h10 : o.k = 10) :
    Calls Tryz.prog 27 #[.pointer (some ⟨q, 0, none⟩), .agg (kopC o).toArray] w (DoP lo q p (obK K) (obE K) S w) := by
  have hll := hi.ll
  have hlq := hi.lq
  have hw := hi.g.2.2.2.2
  refine entH tab_ok (hold_do h) [.v (.pointer (some ⟨q, 0, none⟩)), .a [.i .i64 o.k, .i .i64 o.a, .i .i64 o.b, .i .i64 o.q.se, .i .i64 o.q.fl, .i .i64 o.q.fm, .i .i64 o.q.to, .i .i64 o.q.ma, .i .i64 o.m.ki, .i .i64 o.m.a, .i .i64 o.m.b, .i .i64 o.m.c]] Tryz.func27 Tryz.ntmps27 rfl rfl ?_
  repeat' ((conv => whnf); first | refine sgo ⟨tab_ok⟩ ?_ | refine br_not ?_ | refine br_t rfl ?_ | refine br_f rfl ?_ | refine br_t (by assumption) ?_ | refine br_f (by assumption) ?_ | refine br_t (decide_eq_true (by assumption)) ?_ | refine br_f (decide_eq_false (by assumption)) ?_ | refine br_t (beq_iff_eq.2 (by assumption)) ?_ | refine br_f (beq_eq_false_iff_ne.2 (by assumption)) ?_ | intro b | refine drA ⟨tab_ok⟩ [] ?_ | refine kpt ?_ | refine callON (f := 41) (A := kO lo q p K S true) 0 (ι := List Nat × Option Addr × Nat) (fun x => .v (.slice x.2.1 ((obE K).length) x.2.2)) (fun x => kO lo q p (obK K) x.1 true) (fun x => rwO evE w.heap.size x.2.1 ((obE K).length) x.2.2 (obE K) true) (fun w1 hH hA => toD (Φ := fun S' => KW lo q p (obK K) S') (obeysT hA hi hm) hH.upd.size) (fun x => ?_) | refine fin fun w' hH => ?_ | refine fin_s ?_ | refine fin_r ?_ ?_ | refine fin_e ?_ ?_)
  have o0 := Hold.ob hH (A := kO lo q p (obK K) x.1 true) 0 rfl
  have o1 := Hold.ob hH (A := rwO evE w.heap.size x.2.1 ((obE K).length) x.2.2 (obE K) true) 1 rfl
  refine ⟨(x.1, (w.heap.size, x.2)), rfl, o0, o1, hH.upd, hH.own _ (List.mem_cons_self ..) rfl, fun g hg => ⟨own_low o1 g hg, fun hg2 => pair_at (R := DisR) (fun _ _ h => h.symm) hH.dis (i := 0) (j := 1) rfl rfl (by decide) (.inl rfl) g hg2 hg⟩⟩
theorem doT3 (h : KW lo q p K S w) (hi : KI c n T m K) (hn : n ≤ 10000) (hm : m ≤ 10000) (o : KopV) (h1 : ¬ o.k = 1) (h2 : ¬ o.k = 2) (h3 : o.k = 3) :
    Calls Tryz.prog 27 #[.pointer (some ⟨q, 0, none⟩), .agg (kopC o).toArray] w (DoP lo q p (goneK K o.q.se) [] S w) := by
  have hll := hi.ll
  have hlq := hi.lq
  have hw := hi.g.2.2.2.2
  refine entH tab_ok (hold_do h) [.v (.pointer (some ⟨q, 0, none⟩)), .a [.i .i64 o.k, .i .i64 o.a, .i .i64 o.b, .i .i64 o.q.se, .i .i64 o.q.fl, .i .i64 o.q.fm, .i .i64 o.q.to, .i .i64 o.q.ma, .i .i64 o.m.ki, .i .i64 o.m.a, .i .i64 o.m.b, .i .i64 o.m.c]] Tryz.func27 Tryz.ntmps27 rfl rfl ?_
  repeat' ((conv => whnf); first | refine sgo ⟨tab_ok⟩ ?_ | refine br_not ?_ | refine br_t rfl ?_ | refine br_f rfl ?_ | refine br_t (by assumption) ?_ | refine br_f (by assumption) ?_ | refine br_t (decide_eq_true (by assumption)) ?_ | refine br_f (decide_eq_false (by assumption)) ?_ | refine br_t (beq_iff_eq.2 (by assumption)) ?_ | refine br_f (beq_eq_false_iff_ne.2 (by assumption)) ?_ | intro b | refine drA ⟨tab_ok⟩ [] ?_ | refine kpt ?_ | refine callH (f := 31) (.v (.pointer (some ⟨p.g, 0, none⟩))) (fun w hH => groupK (Hold.ob hH (A := kO lo q p K S true) 0 rfl)) ?_ | refine callO (f := 42) (A := kO lo q p K S true) 0 (fun _ => .t []) (fun S' => kO lo q p (goneK K o.q.se) S' true) (fun w hH hA => goneW hA (by omega) (by omega) o.q.se) (fun S1 => ?_) | refine fin fun w' hH => ?_ | refine fin_s ?_ | refine fin_r ?_ ?_ | refine fin_e ?_ ?_)
  exact DoP.nil (Hold.ob hH (A := kO lo q p (goneK K o.q.se) S1 true) 0 rfl) hH.upd (hH.own _ (List.mem_cons_self ..) rfl)
theorem doT4 (h : KW lo q p K S w) (hi : KI c n T m K) (hn : n ≤ 10000) (hm : m ≤ 10000) (o : KopV) (h1 : ¬ o.k = 1) (h2 : ¬ o.k = 2) (h3 : ¬ o.k = 3) (h4 : o.k = 4) :
    Calls Tryz.prog 27 #[.pointer (some ⟨q, 0, none⟩), .agg (kopC o).toArray] w (DoP lo q p ({ K with G := (doR K.G 1 o.a o.b (o.b == 1)).1 }) [] S w) := by
  have hll := hi.ll
  have hlq := hi.lq
  have hw := hi.g.2.2.2.2
  refine entH tab_ok (hold_do h) [.v (.pointer (some ⟨q, 0, none⟩)), .a [.i .i64 o.k, .i .i64 o.a, .i .i64 o.b, .i .i64 o.q.se, .i .i64 o.q.fl, .i .i64 o.q.fm, .i .i64 o.q.to, .i .i64 o.q.ma, .i .i64 o.m.ki, .i .i64 o.m.a, .i .i64 o.m.b, .i .i64 o.m.c]] Tryz.func27 Tryz.ntmps27 rfl rfl ?_
  repeat' ((conv => whnf); first | refine sgo ⟨tab_ok⟩ ?_ | refine br_not ?_ | refine br_t rfl ?_ | refine br_f rfl ?_ | refine br_t (by assumption) ?_ | refine br_f (by assumption) ?_ | refine br_t (decide_eq_true (by assumption)) ?_ | refine br_f (decide_eq_false (by assumption)) ?_ | refine br_t (beq_iff_eq.2 (by assumption)) ?_ | refine br_f (beq_eq_false_iff_ne.2 (by assumption)) ?_ | intro b | refine drA ⟨tab_ok⟩ [] ?_ | refine kpt ?_ | refine callH (f := 31) (.v (.pointer (some ⟨p.g, 0, none⟩))) (fun w hH => groupK (Hold.ob hH (A := kO lo q p K S true) 0 rfl)) ?_ | refine callO (f := 57) (A := kO lo q p K S true) 0 (fun _ => .i .i64 (Gr.hallR K.G o.a o.b).2) (fun S' => kO lo q p ({ K with G := (doR K.G 1 o.a o.b (o.b == 1)).1 }) S' true) (fun w hH hA => hallW hA (by omega) o.a o.b) (fun S1 => ?_) | refine fin fun w' hH => ?_ | refine fin_s ?_ | refine fin_r ?_ ?_ | refine fin_e ?_ ?_)
  exact DoP.nil (Hold.ob hH (A := kO lo q p ({ K with G := (doR K.G 1 o.a o.b (o.b == 1)).1 }) S1 true) 0 rfl) hH.upd (hH.own _ (List.mem_cons_self ..) rfl)
theorem doT5 (h : KW lo q p K S w) (hi : KI c n T m K) (hn : n ≤ 10000) (hm : m ≤ 10000) (o : KopV) (h1 : ¬ o.k = 1) (h2 : ¬ o.k = 2) (h3 : ¬ o.k = 3) (h4 : ¬ o.k = 4) (h5 : o.k = 5) :
    Calls Tryz.prog 27 #[.pointer (some ⟨q, 0, none⟩), .agg (kopC o).toArray] w (DoP lo q p ({ K with G := (doR K.G 2 o.a o.b (o.b == 1)).1 }) [] S w) := by
  have hll := hi.ll
  have hlq := hi.lq
  have hw := hi.g.2.2.2.2
  refine entH tab_ok (hold_do h) [.v (.pointer (some ⟨q, 0, none⟩)), .a [.i .i64 o.k, .i .i64 o.a, .i .i64 o.b, .i .i64 o.q.se, .i .i64 o.q.fl, .i .i64 o.q.fm, .i .i64 o.q.to, .i .i64 o.q.ma, .i .i64 o.m.ki, .i .i64 o.m.a, .i .i64 o.m.b, .i .i64 o.m.c]] Tryz.func27 Tryz.ntmps27 rfl rfl ?_
  repeat' ((conv => whnf); first | refine sgo ⟨tab_ok⟩ ?_ | refine br_not ?_ | refine br_t rfl ?_ | refine br_f rfl ?_ | refine br_t (by assumption) ?_ | refine br_f (by assumption) ?_ | refine br_t (decide_eq_true (by assumption)) ?_ | refine br_f (decide_eq_false (by assumption)) ?_ | refine br_t (beq_iff_eq.2 (by assumption)) ?_ | refine br_f (beq_eq_false_iff_ne.2 (by assumption)) ?_ | intro b | refine drA ⟨tab_ok⟩ [] ?_ | refine kpt ?_ | refine callH (f := 31) (.v (.pointer (some ⟨p.g, 0, none⟩))) (fun w hH => groupK (Hold.ob hH (A := kO lo q p K S true) 0 rfl)) ?_ | refine callO (f := 58) (A := kO lo q p K S true) 0 (fun _ => .i .i64 (Gr.pressR K.G o.a o.b).2) (fun S' => kO lo q p ({ K with G := (doR K.G 2 o.a o.b (o.b == 1)).1 }) S' true) (fun w hH hA => pressW hA o.a o.b) (fun S1 => ?_) | refine fin fun w' hH => ?_ | refine fin_s ?_ | refine fin_r ?_ ?_ | refine fin_e ?_ ?_)
  exact DoP.nil (Hold.ob hH (A := kO lo q p ({ K with G := (doR K.G 2 o.a o.b (o.b == 1)).1 }) S1 true) 0 rfl) hH.upd (hH.own _ (List.mem_cons_self ..) rfl)
theorem doT6 (h : KW lo q p K S w) (hi : KI c n T m K) (hn : n ≤ 10000) (hm : m ≤ 10000) (o : KopV) (h1 : ¬ o.k = 1) (h2 : ¬ o.k = 2) (h3 : ¬ o.k = 3) (h4 : ¬ o.k = 4) (h5 : ¬ o.k = 5) (h6 : o.k = 6) :
    Calls Tryz.prog 27 #[.pointer (some ⟨q, 0, none⟩), .agg (kopC o).toArray] w (DoP lo q p ({ K with G := (doR K.G 3 o.a o.b (o.b == 1)).1 }) [] S w) := by
  have hll := hi.ll
  have hlq := hi.lq
  have hw := hi.g.2.2.2.2
  refine entH tab_ok (hold_do h) [.v (.pointer (some ⟨q, 0, none⟩)), .a [.i .i64 o.k, .i .i64 o.a, .i .i64 o.b, .i .i64 o.q.se, .i .i64 o.q.fl, .i .i64 o.q.fm, .i .i64 o.q.to, .i .i64 o.q.ma, .i .i64 o.m.ki, .i .i64 o.m.a, .i .i64 o.m.b, .i .i64 o.m.c]] Tryz.func27 Tryz.ntmps27 rfl rfl ?_
  repeat' ((conv => whnf); first | refine sgo ⟨tab_ok⟩ ?_ | refine br_not ?_ | refine br_t rfl ?_ | refine br_f rfl ?_ | refine br_t (by assumption) ?_ | refine br_f (by assumption) ?_ | refine br_t (decide_eq_true (by assumption)) ?_ | refine br_f (decide_eq_false (by assumption)) ?_ | refine br_t (beq_iff_eq.2 (by assumption)) ?_ | refine br_f (beq_eq_false_iff_ne.2 (by assumption)) ?_ | intro b | refine drA ⟨tab_ok⟩ [] ?_ | refine kpt ?_ | refine callH (f := 31) (.v (.pointer (some ⟨p.g, 0, none⟩))) (fun w hH => groupK (Hold.ob hH (A := kO lo q p K S true) 0 rfl)) ?_ | refine callO (f := 59) (A := kO lo q p K S true) 0 (fun _ => .i .i64 (Gr.loadR K.G o.a o.b).2) (fun S' => kO lo q p ({ K with G := (doR K.G 3 o.a o.b (o.b == 1)).1 }) S' true) (fun w hH hA => loadW2 hA o.a o.b) (fun S1 => ?_) | refine fin fun w' hH => ?_ | refine fin_s ?_ | refine fin_r ?_ ?_ | refine fin_e ?_ ?_)
  exact DoP.nil (Hold.ob hH (A := kO lo q p ({ K with G := (doR K.G 3 o.a o.b (o.b == 1)).1 }) S1 true) 0 rfl) hH.upd (hH.own _ (List.mem_cons_self ..) rfl)
theorem doT7 (h : KW lo q p K S w) (hi : KI c n T m K) (hn : n ≤ 10000) (hm : m ≤ 10000) (o : KopV) (h1 : ¬ o.k = 1) (h2 : ¬ o.k = 2) (h3 : ¬ o.k = 3) (h4 : ¬ o.k = 4) (h5 : ¬ o.k = 5) (h6 : ¬ o.k = 6) (h7 : o.k = 7) :
    Calls Tryz.prog 27 #[.pointer (some ⟨q, 0, none⟩), .agg (kopC o).toArray] w (DoP lo q p ({ K with G := (doR K.G 4 o.a o.b (o.b == 1)).1 }) [] S w) := by
  have hll := hi.ll
  have hlq := hi.lq
  have hw := hi.g.2.2.2.2
  refine entH tab_ok (hold_do h) [.v (.pointer (some ⟨q, 0, none⟩)), .a [.i .i64 o.k, .i .i64 o.a, .i .i64 o.b, .i .i64 o.q.se, .i .i64 o.q.fl, .i .i64 o.q.fm, .i .i64 o.q.to, .i .i64 o.q.ma, .i .i64 o.m.ki, .i .i64 o.m.a, .i .i64 o.m.b, .i .i64 o.m.c]] Tryz.func27 Tryz.ntmps27 rfl rfl ?_
  repeat' ((conv => whnf); first | refine sgo ⟨tab_ok⟩ ?_ | refine br_not ?_ | refine br_t rfl ?_ | refine br_f rfl ?_ | refine br_t (by assumption) ?_ | refine br_f (by assumption) ?_ | refine br_t (decide_eq_true (by assumption)) ?_ | refine br_f (decide_eq_false (by assumption)) ?_ | refine br_t (beq_iff_eq.2 (by assumption)) ?_ | refine br_f (beq_eq_false_iff_ne.2 (by assumption)) ?_ | intro b | refine drA ⟨tab_ok⟩ [] ?_ | refine kpt ?_ | refine callH (f := 31) (.v (.pointer (some ⟨p.g, 0, none⟩))) (fun w hH => groupK (Hold.ob hH (A := kO lo q p K S true) 0 rfl)) ?_ | refine callO (f := 60) (A := kO lo q p K S true) 0 (fun _ => .i .i64 (Gr.curtR K.G o.a (o.b == 1)).2) (fun S' => kO lo q p ({ K with G := (doR K.G 4 o.a o.b (o.b == 1)).1 }) S' true) (fun w hH hA => curtW hA o.a o.b) (fun S1 => ?_) | refine fin fun w' hH => ?_ | refine fin_s ?_ | refine fin_r ?_ ?_ | refine fin_e ?_ ?_)
  exact DoP.nil (Hold.ob hH (A := kO lo q p ({ K with G := (doR K.G 4 o.a o.b (o.b == 1)).1 }) S1 true) 0 rfl) hH.upd (hH.own _ (List.mem_cons_self ..) rfl)
theorem doT8 (h : KW lo q p K S w) (hi : KI c n T m K) (hn : n ≤ 10000) (hm : m ≤ 10000) (o : KopV) (h1 : ¬ o.k = 1) (h2 : ¬ o.k = 2) (h3 : ¬ o.k = 3) (h4 : ¬ o.k = 4) (h5 : ¬ o.k = 5) (h6 : ¬ o.k = 6) (h7 : ¬ o.k = 7) (h8 : o.k = 8) :
    Calls Tryz.prog 27 #[.pointer (some ⟨q, 0, none⟩), .agg (kopC o).toArray] w (DoP lo q p ({ K with G := (doR K.G 5 o.a o.b (o.b == 1)).1 }) [] S w) := by
  have hll := hi.ll
  have hlq := hi.lq
  have hw := hi.g.2.2.2.2
  refine entH tab_ok (hold_do h) [.v (.pointer (some ⟨q, 0, none⟩)), .a [.i .i64 o.k, .i .i64 o.a, .i .i64 o.b, .i .i64 o.q.se, .i .i64 o.q.fl, .i .i64 o.q.fm, .i .i64 o.q.to, .i .i64 o.q.ma, .i .i64 o.m.ki, .i .i64 o.m.a, .i .i64 o.m.b, .i .i64 o.m.c]] Tryz.func27 Tryz.ntmps27 rfl rfl ?_
  repeat' ((conv => whnf); first | refine sgo ⟨tab_ok⟩ ?_ | refine br_not ?_ | refine br_t rfl ?_ | refine br_f rfl ?_ | refine br_t (by assumption) ?_ | refine br_f (by assumption) ?_ | refine br_t (decide_eq_true (by assumption)) ?_ | refine br_f (decide_eq_false (by assumption)) ?_ | refine br_t (beq_iff_eq.2 (by assumption)) ?_ | refine br_f (beq_eq_false_iff_ne.2 (by assumption)) ?_ | intro b | refine drA ⟨tab_ok⟩ [] ?_ | refine kpt ?_ | refine callH (f := 31) (.v (.pointer (some ⟨p.g, 0, none⟩))) (fun w hH => groupK (Hold.ob hH (A := kO lo q p K S true) 0 rfl)) ?_ | refine callO (f := 61) (A := kO lo q p K S true) 0 (fun _ => .i .i64 (Gr.faultR K.G o.a (o.b == 1)).2) (fun S' => kO lo q p ({ K with G := (doR K.G 5 o.a o.b (o.b == 1)).1 }) S' true) (fun w hH hA => faultW hA (by omega) o.a o.b) (fun S1 => ?_) | refine fin fun w' hH => ?_ | refine fin_s ?_ | refine fin_r ?_ ?_ | refine fin_e ?_ ?_)
  exact DoP.nil (Hold.ob hH (A := kO lo q p ({ K with G := (doR K.G 5 o.a o.b (o.b == 1)).1 }) S1 true) 0 rfl) hH.upd (hH.own _ (List.mem_cons_self ..) rfl)
theorem doT0 (h : KW lo q p K S w) (hi : KI c n T m K) (hn : n ≤ 10000) (hm : m ≤ 10000) (o : KopV) (h1 : ¬ o.k = 1) (h2 : ¬ o.k = 2) (h3 : ¬ o.k = 3) (h4 : ¬ o.k = 4) (h5 : ¬ o.k = 5) (h6 : ¬ o.k = 6) (h7 : ¬ o.k = 7) (h8 : ¬ o.k = 8) (h10 : ¬ o.k = 10) :
    Calls Tryz.prog 27 #[.pointer (some ⟨q, 0, none⟩), .agg (kopC o).toArray] w (DoP lo q p (K) [] S w) := by
  have hll := hi.ll
  have hlq := hi.lq
  have hw := hi.g.2.2.2.2
  refine entH tab_ok (hold_do h) [.v (.pointer (some ⟨q, 0, none⟩)), .a [.i .i64 o.k, .i .i64 o.a, .i .i64 o.b, .i .i64 o.q.se, .i .i64 o.q.fl, .i .i64 o.q.fm, .i .i64 o.q.to, .i .i64 o.q.ma, .i .i64 o.m.ki, .i .i64 o.m.a, .i .i64 o.m.b, .i .i64 o.m.c]] Tryz.func27 Tryz.ntmps27 rfl rfl ?_
  repeat' ((conv => whnf); first | refine sgo ⟨tab_ok⟩ ?_ | refine br_not ?_ | refine br_t rfl ?_ | refine br_f rfl ?_ | refine br_t (by assumption) ?_ | refine br_f (by assumption) ?_ | refine br_t (decide_eq_true (by assumption)) ?_ | refine br_f (decide_eq_false (by assumption)) ?_ | refine br_t (beq_iff_eq.2 (by assumption)) ?_ | refine br_f (beq_eq_false_iff_ne.2 (by assumption)) ?_ | intro b | refine drA ⟨tab_ok⟩ [] ?_ | refine kpt ?_ | refine fin fun w' hH => ?_ | refine fin_s ?_ | refine fin_r ?_ ?_ | refine fin_e ?_ ?_)
  exact DoP.nil (Hold.ob hH (A := kO lo q p K S true) 0 rfl) hH.upd (hH.own _ (List.mem_cons_self ..) rfl)
theorem doT (h : KW lo q p K S w) (hi : KI c n T m K) (hn : n ≤ 10000) (hm : m ≤ 10000) (o : KopV) :
    Calls Tryz.prog 27 #[.pointer (some ⟨q, 0, none⟩), .agg (kopC o).toArray] w (DoP lo q p (doK K o) (doE K o) S w) := by
  have gd : ∀ {j : Int}, o.k = j + 3 → 1 ≤ j → j ≤ 5 → gdo K.G o = (doR K.G j o.a o.b (o.b == 1)).1 := fun {j} e h1 h2 => by
    unfold gdo
    rw [if_pos (by omega), show o.k - 3 = j by omega]
  unfold doK doE
  by_cases h1 : o.k = 1
  · rw [if_pos h1, if_pos h1]; exact doT1 h hi hm o h1
  rw [if_neg h1, if_neg h1]
  by_cases h2 : o.k = 2
  · rw [if_pos h2, if_pos h2]; exact doT2 h hi hn hm o h1 h2
  rw [if_neg h2, if_neg h2]
  by_cases h3 : o.k = 3
  · rw [if_pos h3, if_neg (by omega)]; exact doT3 h hi hn hm o h1 h2 h3
  rw [if_neg h3]
  by_cases h10 : o.k = 10
  · rw [if_pos h10, if_pos h10]; exact doT10 h hi hn hm o h1 h2 h3 (by omega) (by omega) (by omega) (by omega) (by omega) h10
  rw [if_neg h10, if_neg h10]
  by_cases h4 : o.k = 4
  · rw [gd (j := 1) (by omega) (by decide) (by decide)]; exact doT4 h hi hn hm o h1 h2 h3 h4
  by_cases h5 : o.k = 5
  · rw [gd (j := 2) (by omega) (by decide) (by decide)]; exact doT5 h hi hn hm o h1 h2 h3 h4 h5
  by_cases h6 : o.k = 6
  · rw [gd (j := 3) (by omega) (by decide) (by decide)]; exact doT6 h hi hn hm o h1 h2 h3 h4 h5 h6
  by_cases h7 : o.k = 7
  · rw [gd (j := 4) (by omega) (by decide) (by decide)]; exact doT7 h hi hn hm o h1 h2 h3 h4 h5 h6 h7
  by_cases h8 : o.k = 8
  · rw [gd (j := 5) (by omega) (by decide) (by decide)]; exact doT8 h hi hn hm o h1 h2 h3 h4 h5 h6 h7 h8
  rw [gdo_id (by omega)]
  exact doT0 h hi hn hm o h1 h2 h3 h4 h5 h6 h7 h8 h10
end
end Go.Proofs.YthmikjjnlahlbaaGreat.Lc
namespace Go.Proofs.YthmikjjnlahlbaaGreat.Lc
set_option linter.unusedSectionVars false
set_option linter.unusedVariables false
set_option linter.unusedSimpArgs false
open Go.RowKit Go.Proofs.YthmikjjnlahlbaaGreat.Ba Go.Proofs.YthmikjjnlahlbaaGreat.Mem Go.Proofs.YthmikjjnlahlbaaGreat.En Go.Proofs.YthmikjjnlahlbaaGreat.Ty Go.Proofs.YthmikjjnlahlbaaGreat.Mo Go.Proofs.YthmikjjnlahlbaaGreat.St Go.Proofs.YthmikjjnlahlbaaGreat.Co
open Go.Proofs.YthmikjjnlahlbaaGreat.Ri (MsgV tickV hearV)
open Go.Proofs.YthmikjjnlahlbaaGreat.Qu (dropL atS btw firstA atF)
open Go.Proofs.YthmikjjnlahlbaaGreat.Le (hasL ofL setL setE endL zeroL atP isS isT isP)
open Go.Proofs.YthmikjjnlahlbaaGreat.Gr (loadR)
def key (l : LeaseV) : Int × Int × Int := (l.se, l.ca, l.fl)
def KR (a b : Int × Int × Int) : Prop := a.1 ≠ b.1 ∧ a.2.1 ≠ b.2.1
structure UQ (K : KV) : Prop where
  l : (K.L.map key).Pairwise KR
  q : (K.Q.map AskV.se).Pairwise (· ≠ ·)
theorem find_none {α : Type} {p : α → Bool} {ls : List α} (h : (ls.findIdx? p).isSome = false) : ∀ x ∈ ls, p x = false := by
  intro x hx
  have : ls.findIdx? p = none := by simpa using h
  exact List.findIdx?_eq_none_iff.1 this x hx
/-- The first of a kind taken out of a list where no two are of a kind. -/
theorem erase_filter {α : Type} (f : α → Int) (s : Int) : ∀ ls : List α, (ls.map f).Pairwise (· ≠ ·) → (match ls.findIdx? (fun a => f a == s) with | some k => ls.eraseIdx k | none => ls) = ls.filter (fun a => f a != s)
  | [], _ => rfl
  | a :: r, h => by
    rw [List.map_cons, List.pairwise_cons] at h
    have ih := erase_filter f s r h.2
    rw [List.findIdx?_cons]
    cases e : (f a == s) with
    | true =>
      have e1 : f a = s := by simpa using e
      have hr : r.filter (fun a => f a != s) = r := List.filter_eq_self.2 fun b hb => by
        have := h.1 (f b) (List.mem_map.2 ⟨b, hb, rfl⟩)
        simp only [bne_iff_ne, ne_eq]
        omega
      rw [List.filter_cons_of_neg (by simp [e1]), hr]; rfl
    | false =>
      rw [List.filter_cons_of_pos (by have : ¬ f a = s := by simpa using e
                                      simpa using this)]
      cases e2 : r.findIdx? (fun a => f a == s) with
      | none => rw [e2] at ih; simp only [] at ih; rw [← ih]; rfl
      | some k => rw [e2] at ih; simp only [] at ih; rw [← ih]; rfl
theorem key_se {ls : List LeaseV} (h : (ls.map key).Pairwise KR) : (ls.map LeaseV.se).Pairwise (· ≠ ·) := by
  rw [List.pairwise_map] at h ⊢
  exact h.imp fun h => h.1
theorem end_filter {ls : List LeaseV} (h : (ls.map key).Pairwise KR) (s : Int) : endL ls s = ls.filter (fun l => l.se != s) := erase_filter LeaseV.se s ls (key_se h)
theorem drop_filter {ls : List AskV} (h : (ls.map AskV.se).Pairwise (· ≠ ·)) (s : Int) : dropL ls s = ls.filter (fun l => l.se != s) := erase_filter AskV.se s ls h
theorem end_no {ls : List LeaseV} {s : Int} (h : ¬ hasL ls s = true) : endL ls s = ls := by
  unfold endL; unfold hasL at h
  cases e : atP ls (isS s) with
  | none => rfl
  | some k => rw [e] at h; exact absurd rfl h
theorem set_key (c : CfgV) (ls : List LeaseV) (x : LeaseV) : (setL c ls x).map key = ls.map key := by
  unfold setL; split
  · split
    · rename_i k hk
      obtain ⟨hl, h1, _⟩ := Le.atP_some hk
      have h2 := h1 hl
      unfold isT at h2
      simp only [Bool.and_eq_true, beq_iff_eq] at h2
      apply List.ext_getElem
      · simp
      · intro i _ h4
        have h4 : i < ls.length := by simpa using h4
        rw [List.getElem_map, List.getElem_map, List.getElem_set]
        split
        · rename_i e; subst e
          unfold key; rw [h2.1.1, h2.1.2, h2.2]
        · rfl
    · rfl
  · rfl
section
variable {K : KV}
theorem UQ.new (c : CfgV) : UQ (newK c) := ⟨by simp [newK], by simp [newK]⟩
theorem UQ.ans (h : UQ K) (a : AskV) : UQ (ansK K a) := by
  refine ⟨h.l, ?_⟩
  unfold ansK ansQ
  show ((if _ then _ else _ : List AskV).map AskV.se).Pairwise (· ≠ ·)
  split
  · split
    · exact h.q
    · unfold Qu.putL; split
      · rename_i he
        unfold Qu.putE at he
        split at he
        · cases he
        · rename_i hn
          rw [List.map_append, List.pairwise_append]
          refine ⟨h.q, by simp, fun x hx y hy => ?_⟩
          obtain ⟨b, hb, rfl⟩ := List.mem_map.1 hx
          have := find_none (p := Qu.isS a.se) (ls := K.Q) (by simpa [atS] using hn) b hb
          have hy : y = a.se := by simpa using hy
          subst hy
          simpa [Qu.isS] using this
      · exact h.q
  · exact h.q
theorem UQ.end_ (h : UQ K) (s : Int) : UQ (endK K s) := by
  unfold Co.endK; split
  · exact ⟨h.l.sublist ((end_sub _ _).map _), h.q⟩
  · exact h
theorem UQ.set (h : UQ K) (l : LeaseV) (o : Bool) : UQ (setK K l o) := by
  unfold setK; split
  · exact h.end_ _
  · exact ⟨by show ((setL _ _ _).map key).Pairwise KR; rw [set_key]; exact h.l, h.q⟩
theorem UQ.hear (h : UQ K) (s : Int) (x : MsgV) : UQ (hearK K s x) := by
  unfold hearK; split
  · exact h.set _ _
  · exact h
theorem UQ.gone (h : UQ K) (s : Int) : UQ (goneK K s) :=
  ⟨(h.end_ s).l, h.q.sublist ((drop_sub _ _).map _)⟩
theorem UQ.grp (h : UQ K) (G : Gr.GrV) : UQ { K with G := G } := ⟨h.l, h.q⟩
theorem UQ.fold (h : UQ K) (k : Nat) : UQ (foldK K k).1 := by
  have key : ∀ (ls : List LeaseV) (x : KV × List EvV), UQ x.1 → UQ (ls.foldl stepK x).1 := by
    intro ls
    induction ls with
    | nil => intro x h; exact h
    | cons l r ih => intro x h; rw [List.foldl_cons]; exact ih _ (h.set _ _)
  exact key _ _ (h.grp _)
theorem UQ.grant (h : UQ K) : UQ (grantK K) := by
  unfold grantK; split
  · exact h
  · rename_i a ha
    refine ⟨?_, h.q.sublist ((drop_sub _ _).map _)⟩
    show ((Le.putL _ _ _).map key).Pairwise KR
    unfold Le.putL; split
    · rename_i he
      unfold Le.putE at he
      split at he
      · split at he
        · cases he
        · rename_i hn
          rw [List.map_append, List.pairwise_append]
          refine ⟨h.l, by simp, fun x hx y hy => ?_⟩
          obtain ⟨b, hb, rfl⟩ := List.mem_map.1 hx
          have hy : y = Lc.key (grL K a) := by simpa using hy
          subst hy
          have := find_none (p := isP (grL K a)) (ls := K.L) (by simpa [atP] using hn) b hb
          unfold isP at this
          simp only [Bool.or_eq_false_iff, beq_eq_false_iff_ne] at this
          exact this
      · cases he
    · exact h.l
theorem UQ.tick (h : UQ K) : UQ (tickK K) := (h.fold _).grant
theorem UQ.obS {x : KV × List EvV} (h : UQ x.1) (l : LeaseV) : UQ (obStep x l).1 := by
  unfold obStep; split
  · exact (h.grp _).hear _ _
  · split
    · exact (h.grp _).hear _ _
    · exact h
theorem UQ.ob (h : UQ K) (k : Nat) : UQ (obF K k).1 := by
  have key : ∀ (ls : List LeaseV) (x : KV × List EvV), UQ x.1 → UQ (ls.foldl obStep x).1 := by
    intro ls
    induction ls with
    | nil => intro x h; exact h
    | cons l r ih => intro x h; rw [List.foldl_cons]; exact ih _ (UQ.obS h l)
  exact key _ _ h
theorem UQ.do_ (h : UQ K) (o : KopV) : UQ (doK K o) := by
  unfold doK
  split
  · exact h.ans _
  split
  · exact h.hear _ _
  split
  · exact h.gone _
  split
  · exact UQ.ob h _
  · exact h.grp _
end
end Go.Proofs.YthmikjjnlahlbaaGreat.Lc
namespace Go.Proofs.YthmikjjnlahlbaaGreat.Lc
set_option linter.unusedSectionVars false
set_option linter.unusedVariables false
set_option linter.unusedSimpArgs false
open Go.RowKit Go.Proofs.YthmikjjnlahlbaaGreat.Ba Go.Proofs.YthmikjjnlahlbaaGreat.Mem Go.Proofs.YthmikjjnlahlbaaGreat.En Go.Proofs.YthmikjjnlahlbaaGreat.Ty Go.Proofs.YthmikjjnlahlbaaGreat.Mo Go.Proofs.YthmikjjnlahlbaaGreat.St Go.Proofs.YthmikjjnlahlbaaGreat.Co
open Go.Proofs.YthmikjjnlahlbaaGreat.Ri (MsgV tickV hearV trV sp rn mayRe)
open Go.Proofs.YthmikjjnlahlbaaGreat.Qu (dropL atS btw firstA atF)
open Go.Proofs.YthmikjjnlahlbaaGreat.Le (hasL ofL setL setE endL zeroL atP isS isT isP goodB)
open Go.Proofs.YthmikjjnlahlbaaGreat.Tm (cl)
open Go.Proofs.YthmikjjnlahlbaaGreat.Gr (loadR)
/-- How long a lease may stand by its phase, without renewals. -/
def bp (c : CfgV) (ph : Int) : Int := if ph = 1 then trV c else if ph = 2 then trV c + sp c.ho else if ph = 3 then 2 * trV c + sp c.ho else 2 * trV c + 2 * sp c.ho
structure Bn (c : CfgV) (l : LeaseV) : Prop where
  re : 0 ≤ l.re ∧ l.re ≤ rn c.re
  un : l.un ≤ l.gr + bp c l.ph + sp c.ho * l.re
  gd : goodB c l = true
  gr : 0 ≤ l.gr ∧ l.gr ≤ 1000000
structure LI (c : CfgV) (now : Int) (l : LeaseV) : Prop extends Bn c l where
  lt : now < l.un
theorem good_ph {c : CfgV} {l : LeaseV} (h : goodB c l = true) : 1 ≤ l.ph ∧ l.ph ≤ 4 := by
  unfold goodB at h
  simp only [Bool.and_eq_true, decide_eq_true_eq] at h
  exact ⟨h.1.2, h.2⟩
theorem good_of {c : CfgV} {l x : LeaseV} (h : goodB c l = true) (h1 : x.se = l.se ∧ x.fl = l.fl ∧ x.fm = l.fm ∧ x.to = l.to ∧ x.ma = l.ma ∧ x.ca = l.ca) (h2 : 1 ≤ x.ph ∧ x.ph ≤ 4) : goodB c x = true := by
  unfold goodB Le.askOf at h ⊢
  obtain ⟨e1, e2, e3, e4, e5, e6⟩ := h1
  rw [e1, e2, e3, e4, e5, e6]
  simp only [Bool.and_eq_true, decide_eq_true_eq] at h ⊢
  exact ⟨⟨h.1.1, h2.1⟩, h2.2⟩
theorem cl_lt {a b : Int} (h : ¬ cl a ≤ cl b) (hb : 0 ≤ b ∧ b ≤ 1000000) : b < a := by
  unfold cl at h; (repeat' split at h) <;> omega
theorem cl_add {a b : Int} (ha : 0 ≤ a ∧ a ≤ 1000000) (hb : 0 ≤ b ∧ b ≤ 10000) : cl (cl a + cl b) = a + b := by
  rw [Tm.cl_id a (by omega) (by omega), Tm.cl_id b (by omega) (by omega), Tm.cl_id _ (by omega) (by omega)]
section
variable {c : CfgV} {l : LeaseV} {now : Int}
theorem rn_hi (n : Int) : rn n ≤ 1000 := by unfold rn; repeat' split <;> omega
theorem Bn.tick (h : Bn c l) (hn : 0 ≤ now ∧ now ≤ 1000000) (x : CarV) (ho : (tickV c l x now).2.2 = false) : LI c now (tickV c l x now).1 := by
  have hs := Ri.sp_lo c.ho
  have hs2 := Ri.sp_hi c.ho
  have hp := good_ph h.gd
  have hr := h.re
  have hu := h.un
  have ha := cl_add hn (b := sp c.ho) (by omega)
  unfold tickV at ho ⊢
  split at ho
  · cases ho
  rename_i hl
  rw [if_neg hl]
  have hlt : now < l.un := cl_lt (fun h => hl (.inr h)) hn
  split
  · rename_i h1
    refine ⟨⟨hr, ?_, good_of h.gd ⟨rfl, rfl, rfl, rfl, rfl, rfl⟩ (by show 1 ≤ (2 : Int) ∧ (2 : Int) ≤ 4; decide), h.gr⟩, by show now < cl _; rw [ha]; omega⟩
    show cl _ ≤ l.gr + bp c 2 + sp c.ho * l.re
    rw [ha]; rw [h1.1] at hu
    have e1 : bp c 1 = trV c := rfl
    have e2 : bp c 2 = trV c + sp c.ho := rfl
    omega
  · split
    · rename_i h1
      refine ⟨⟨hr, ?_, good_of h.gd ⟨rfl, rfl, rfl, rfl, rfl, rfl⟩ (by show 1 ≤ (4 : Int) ∧ (4 : Int) ≤ 4; decide), h.gr⟩, by show now < cl _; rw [ha]; omega⟩
      show cl _ ≤ l.gr + bp c 4 + sp c.ho * l.re
      rw [ha]; rw [h1.1] at hu
      have e1 : bp c 3 = 2 * trV c + sp c.ho := rfl
      have e2 : bp c 4 = 2 * trV c + 2 * sp c.ho := rfl
      omega
    · exact ⟨⟨hr, hu, good_of h.gd ⟨rfl, rfl, rfl, rfl, rfl, rfl⟩ hp, h.gr⟩, hlt⟩
theorem LI.hear (h : LI c now l) (hn : 0 ≤ now ∧ now ≤ 1000000) (x : CarV) (m : MsgV) : LI c now (hearV c l x now m).1 := by
  have hs := Ri.sp_lo c.ho
  have hs2 := Ri.sp_hi c.ho
  have ht := Ri.tr_lo c
  have ht2 := Ri.tr_hi c
  have hp := good_ph h.gd
  have hr := h.re
  have hu := h.un
  have hlt := h.lt
  have ha := cl_add hn (b := sp c.ho) (by omega)
  have hb := cl_add hn (b := trV c) (by omega)
  have same : LI c now ⟨l.se, l.fl, l.fm, l.to, l.ma, l.ca, l.ph, l.un, l.re, l.gr⟩ := h
  unfold hearV
  split
  · rename_i h1
    split
    · refine ⟨⟨hr, ?_, good_of h.gd ⟨rfl, rfl, rfl, rfl, rfl, rfl⟩ (by show 1 ≤ (3 : Int) ∧ (3 : Int) ≤ 4; decide), h.gr⟩, by show now < cl _; rw [hb]; omega⟩
      show cl _ ≤ l.gr + bp c 3 + sp c.ho * l.re
      rw [hb]; rw [h1.2] at hu
      have e1 : bp c 2 = trV c + sp c.ho := rfl
      have e2 : bp c 3 = 2 * trV c + sp c.ho := rfl
      omega
    · exact same
  · split
    · exact same
    · split
      · rename_i h1
        have hm := h1.2
        unfold mayRe at hm
        simp only [Bool.and_eq_true, decide_eq_true_eq] at hm
        have hx := rn_hi c.re
        have hw : IntKind.i64.wrap (l.re + 1) = l.re + 1 := Gr.wrG _ (by omega) (by omega)
        refine ⟨⟨?_, ?_, good_of h.gd ⟨rfl, rfl, rfl, rfl, rfl, rfl⟩ hp, h.gr⟩, by show now < cl _; rw [ha]; omega⟩
        · show 0 ≤ IntKind.i64.wrap (l.re + 1) ∧ IntKind.i64.wrap (l.re + 1) ≤ _
          rw [hw]; omega
        · show cl _ ≤ l.gr + bp c l.ph + sp c.ho * IntKind.i64.wrap (l.re + 1)
          rw [hw, ha, Int.mul_add, Int.mul_one]; omega
      · exact same
/-- What is in a table behind Set. -/
theorem set_all {ls : List LeaseV} {x : LeaseV} (hU : (ls.map key).Pairwise KR) (hg : goodB c x = true) : ∀ y ∈ setL c ls x, y = x ∨ (y ∈ ls ∧ key y ≠ key x) := by
  intro y hy
  unfold setL at hy
  rw [if_pos hg] at hy
  split at hy
  · rename_i k hat
    obtain ⟨hl, h1, _⟩ := Le.atP_some hat
    have h2 := h1 hl
    unfold isT at h2
    simp only [Bool.and_eq_true, beq_iff_eq] at h2
    obtain ⟨i, hi, rfl⟩ := List.getElem_of_mem hy
    rw [List.getElem_set]
    split
    · exact .inl rfl
    · rename_i hne
      have hi : i < ls.length := by simpa using hi
      refine .inr ⟨List.getElem_mem hi, fun e => ?_⟩
      have e : (ls[i]).se = x.se := congrArg Prod.fst e
      rw [List.pairwise_map, List.pairwise_iff_getElem] at hU
      rw [← h2.1.1] at e
      rcases Nat.lt_or_gt_of_ne hne with h | h
      · exact (hU k i hl hi h).1 e.symm
      · exact (hU i k hi hl h).1 e
  · rename_i hat
    refine .inr ⟨hy, fun e => ?_⟩
    have := List.findIdx?_eq_none_iff.1 hat y hy
    have e1 : y.se = x.se := congrArg Prod.fst e
    have e2 : y.ca = x.ca := congrArg (fun z => z.2.1) e
    have e3 : y.fl = x.fl := congrArg (fun z => z.2.2) e
    simp [isT, e1, e2, e3] at this
theorem tickV_key (x : CarV) : key (tickV c l x now).1 = key l := by
  unfold tickV; (repeat' split) <;> rfl
theorem hearV_key (x : CarV) (m : MsgV) : key (hearV c l x now m).1 = key l := by
  unfold hearV; (repeat' split) <;> rfl
end
section
variable {K : KV}
theorem end_now (K : KV) (s : Int) : (Co.endK K s).G.now = K.G.now := by unfold Co.endK; split; exact (Gr.give_w _).2; rfl
theorem set_now (K : KV) (l : LeaseV) (o : Bool) : (setK K l o).G.now = K.G.now := by
  unfold setK; split
  · exact end_now _ _
  · exact (Gr.aim_w _ _ _).2
theorem end_ne (h : UQ K) (s : Int) : ∀ y ∈ (Co.endK K s).L, y ∈ K.L ∧ y.se ≠ s := by
  intro y hy
  unfold Co.endK at hy
  split at hy
  · change y ∈ endL K.L s at hy
    rw [end_filter h.l] at hy
    have := List.mem_filter.1 hy
    exact ⟨this.1, by simpa using this.2⟩
  · rename_i hn
    refine ⟨hy, fun e => ?_⟩
    have := find_none (p := isS s) (ls := K.L) (by simpa [hasL, atP] using hn) y hy
    simp [isS, e] at this
/-- All its leases stand in time. -/
def EI (c : CfgV) (K : KV) : Prop := ∀ l ∈ K.L, LI c K.G.now l
section
variable {c : CfgV} {n T m : Nat}
theorem EI.sub {K' : KV} (h : EI c K) (hn : K'.G.now = K.G.now) (hs : ∀ y ∈ K'.L, y ∈ K.L) : EI c K' := fun l hl => by rw [hn]; exact h l (hs l hl)
theorem EI.set (hc : K.G.c = c) (hU : UQ K) (h : EI c K) {l : LeaseV} (hl : LI c K.G.now l) (o : Bool) : EI c (setK K l o) := by
  intro y hy
  rw [set_now]
  unfold setK at hy
  split at hy
  · exact h y (end_ne hU _ y hy).1
  · change y ∈ setL K.G.c K.L l at hy
    rw [hc] at hy
    rcases set_all hU.l hl.gd y hy with rfl | hy
    · exact hl
    · exact h y hy.1
theorem EI.hear (hc : K.G.c = c) (hU : UQ K) (hn : 0 ≤ K.G.now ∧ K.G.now ≤ 1000000) (h : EI c K) (s : Int) (x : MsgV) : EI c (hearK K s x) := by
  unfold hearK; split
  · rename_i hL
    refine EI.set hc hU h ?_ _
    unfold hearR
    rw [hc]
    exact (h _ (has_mem hL).1).hear hn _ _
  · exact h
theorem EI.fold {now : Int} (hn : 0 ≤ now ∧ now ≤ 1000000) : ∀ (rest : List LeaseV) (x : KV × List EvV), x.1.G.now = now → x.1.G.c = c → UQ x.1 → (∀ y ∈ rest, Bn c y) → (∀ y ∈ x.1.L, y ∈ rest ∨ LI c now y) → ∀ y ∈ (rest.foldl stepK x).1.L, LI c now y
  | [], x, _, _, _, _, h => fun y hy => (h y hy).resolve_left (by simp)
  | l :: r, x, h1, h2, h3, h4, h5 => by
    rw [List.foldl_cons]
    have hs : (stepK x l).1 = setK x.1 (stepR x.1 l).1 (stepR x.1 l).2.2 := rfl
    refine EI.fold hn r (stepK x l) (by rw [hs, set_now]; exact h1) (by rw [hs, setK_c]; exact h2) (by rw [hs]; exact h3.set _ _) (fun y hy => h4 y (List.mem_cons_of_mem _ hy)) ?_
    intro y hy
    rw [hs] at hy
    have hk : key (stepR x.1 l).1 = key l := by unfold stepR; exact tickV_key _
    cases ho : (stepR x.1 l).2.2 with
    | true =>
      rw [ho] at hy
      unfold setK at hy
      rw [if_pos rfl] at hy
      obtain ⟨hy1, hy2⟩ := end_ne h3 _ y hy
      rcases h5 y hy1 with h | h
      · rcases List.mem_cons.1 h with rfl | h
        · exact absurd (congrArg Prod.fst hk).symm hy2
        · exact .inl h
      · exact .inr h
    | false =>
      have hl : LI c now (stepR x.1 l).1 := by
        unfold stepR at ho ⊢
        rw [h1, h2] at ho ⊢
        exact (h4 l (List.mem_cons_self ..)).tick hn _ ho
      rw [ho] at hy
      unfold setK at hy
      rw [if_neg (by decide)] at hy
      change y ∈ setL x.1.G.c x.1.L _ at hy
      rw [h2] at hy
      rcases set_all h3.l hl.gd y hy with rfl | ⟨hy1, hy2⟩
      · exact .inr hl
      · rcases h5 y hy1 with h | h
        · rcases List.mem_cons.1 h with rfl | h
          · exact absurd hk.symm hy2
          · exact .inl h
        · exact .inr h
theorem EI.grant (hc : K.G.c = c) (hn : 0 ≤ K.G.now ∧ K.G.now ≤ 1000000) (h : EI c K) : EI c (grantK K) := by
  unfold grantK; split
  · exact h
  · rename_i a ha
    intro y hy
    have hnow : (grK K a).G.now = K.G.now := (Gr.take_w _ _).2
    rw [hnow]
    change y ∈ Le.putL _ _ _ at hy
    unfold Le.putL at hy
    split at hy
    · rename_i he
      rcases List.mem_append.1 hy with hy | hy
      · exact h y hy
      · rw [List.mem_singleton] at hy
        subst hy
        have ht := Ri.tr_lo c
        have ht2 := Ri.tr_hi c
        have e := cl_add hn (b := trV c) (by omega)
        have hg : goodB c (grL K a) = true := by
          unfold Le.putE at he
          split at he
          · rename_i hg; rw [hc] at hg; exact hg
          · cases he
        have hun : (grL K a).un = K.G.now + trV c := by show cl (cl K.G.now + cl (trV K.G.c)) = _; rw [hc, e]
        refine ⟨⟨?_, ?_, hg, hn⟩, by rw [hun]; omega⟩
        · show (0 : Int) ≤ 0 ∧ 0 ≤ rn c.re
          unfold rn; (repeat' split) <;> omega
        · rw [hun]
          show K.G.now + trV c ≤ K.G.now + trV c + sp c.ho * 0
          omega
    · exact h y hy
end
end
/-- What holds of a core at any time. -/
structure PI (c : CfgV) (n T : Nat) (K : KV) : Prop where
  k : KI c n T T K
  u : UQ K
  e : EI c K
  t : K.G.now ≤ T
section
variable {c : CfgV} {n T : Nat} {K : KV}
theorem PI.new (c : CfgV) : PI c 0 0 (newK c) := ⟨KI.new c, UQ.new c, (fun l hl => by cases hl), (by show (0 : Int) ≤ 0; omega)⟩
theorem PI.more {n' T' : Nat} (h : PI c n T K) (h1 : n ≤ n') (h2 : T ≤ T') : PI c n' T' K := ⟨h.k.more h1 h2 h2, h.u, h.e, by have := h.t; omega⟩
theorem hear_now (K : KV) (s : Int) (x : MsgV) : (hearK K s x).G.now = K.G.now := by unfold hearK; split; exact set_now _ _ _; rfl
theorem obS_pi {x : KV × List EvV} (hT : T ≤ 1000000) (h : PI c n T x.1) (l : LeaseV) : PI c n T (obStep x l).1 := by
  have ld : ∀ v, PI c n T (ldK x.1 l v) := fun v => ⟨KI.ld h.k l v, h.u.grp _, EI.sub h.e (Gr.load_w _ _).2 (fun _ hy => hy), by show (loadR x.1.G l.ca v).1.now ≤ T; rw [(Gr.load_w _ _).2]; exact h.t⟩
  have hr : ∀ v m, PI c n T (hearK (ldK x.1 l v) l.se m) := fun v m => ⟨(ld v).k.hear _ _, (ld v).u.hear _ _, EI.hear (ld v).k.g.1 (ld v).u ⟨(ld v).k.now.1, by have := (ld v).t; omega⟩ (ld v).e _ _, by rw [hear_now]; exact (ld v).t⟩
  unfold obStep; split
  · exact hr _ _
  · split
    · exact hr _ _
    · exact h
theorem PI.ob (hT : T ≤ 1000000) (h : PI c n T K) (k : Nat) : PI c n T (obF K k).1 := by
  have key : ∀ (ls : List LeaseV) (x : KV × List EvV), PI c n T x.1 → PI c n T (ls.foldl obStep x).1 := by
    intro ls
    induction ls with
    | nil => intro x h; exact h
    | cons l r ih => intro x h; rw [List.foldl_cons]; exact ih _ (obS_pi hT h l)
  exact key _ _ h
theorem PI.do_ (h : PI c n T K) (hT : T ≤ 1000000) (o : KopV) : PI c (n + 1) T (doK K o) := by
  have hk := KI.do_ h.k o
  have hu := h.u.do_ o
  have hn : 0 ≤ K.G.now ∧ K.G.now ≤ 1000000 := ⟨h.k.now.1, by have := h.t; omega⟩
  refine ⟨hk, hu, ?_, ?_⟩
  · unfold doK
    split
    · exact h.e
    split
    · exact EI.hear h.k.g.1 h.u hn h.e _ _
    split
    · exact EI.sub h.e (end_now K o.q.se) (fun y hy => (end_ne h.u _ y hy).1)
    split
    · exact (PI.ob hT h _).e
    · exact EI.sub h.e (gdo_w _ _).1 (fun _ hy => hy)
  · unfold doK
    split
    · exact h.t
    split
    · rw [hear_now]; exact h.t
    split
    · show (Co.endK K o.q.se).G.now ≤ T; rw [end_now]; exact h.t
    split
    · exact (PI.ob hT h _).t
    · show (gdo K.G o).now ≤ T; rw [(gdo_w _ _).1]; exact h.t
theorem fold_now (K : KV) (k : Nat) : (foldK K k).1.G.now = (tkK1 K).G.now := by
  have key : ∀ (ls : List LeaseV) (x : KV × List EvV), (ls.foldl stepK x).1.G.now = x.1.G.now := by
    intro ls
    induction ls with
    | nil => intro x; rfl
    | cons l r ih => intro x; rw [List.foldl_cons, ih]; exact set_now _ _ _
  exact key _ _
theorem grant_now (K : KV) : (grantK K).G.now = K.G.now := by unfold grantK; split; rfl; exact (Gr.take_w _ _).2
theorem tk1_now (K : KV) (h : 0 ≤ K.G.now ∧ K.G.now ≤ 1000000) : (tkK1 K).G.now = K.G.now + 1 := by
  show cl (cl K.G.now + cl 1) = _
  exact cl_add h (by decide)
theorem PI.tick (h : PI c n T K) (hT : T < 1000000) : PI c n (T + 1) (tickK K) := by
  have hn : 0 ≤ K.G.now ∧ K.G.now ≤ 1000000 := ⟨h.k.now.1, by have := h.t; omega⟩
  have h1 := tk1_now K hn
  have hf := fold_now K K.L.length
  have hn2 : 0 ≤ (tkK1 K).G.now ∧ (tkK1 K).G.now ≤ 1000000 := by rw [h1]; have := h.t; omega
  refine ⟨h.k.tick, h.u.tick, ?_, ?_⟩
  · refine EI.grant ((h.k.fold _).g.1) (by rw [hf]; exact hn2) ?_
    intro y hy
    rw [hf]
    have hL : K.L.take K.L.length = K.L := List.take_length
    unfold foldK at hy
    rw [hL] at hy
    exact EI.fold hn2 K.L (tkK1 K, []) rfl h.k.g.1 (h.u.grp _) (fun y hy => (h.e y hy).toBn) (fun y hy => .inl hy) y hy
  · show (grantK _).G.now ≤ _
    rw [grant_now, hf, h1]
    have := h.t
    omega
def boundV (c : CfgV) : Int := 2 * trV c + sp c.ho * (2 + rn c.re)
end
end Go.Proofs.YthmikjjnlahlbaaGreat.Lc
namespace Go.Proofs.YthmikjjnlahlbaaGreat.Lc
set_option linter.unusedSectionVars false
set_option linter.unusedVariables false
set_option linter.unusedSimpArgs false
open Go.RowKit Go.Proofs.YthmikjjnlahlbaaGreat.Ba Go.Proofs.YthmikjjnlahlbaaGreat.Mem Go.Proofs.YthmikjjnlahlbaaGreat.En Go.Proofs.YthmikjjnlahlbaaGreat.Ty Go.Proofs.YthmikjjnlahlbaaGreat.Mo Go.Proofs.YthmikjjnlahlbaaGreat.St Go.Proofs.YthmikjjnlahlbaaGreat.Co
open Go.Proofs.YthmikjjnlahlbaaGreat.Ri (MsgV tickV hearV trV sp rn mayRe opB aimF)
open Go.Proofs.YthmikjjnlahlbaaGreat.Qu (dropL atS btw firstA atF)
open Go.Proofs.YthmikjjnlahlbaaGreat.Le (hasL ofL setL setE endL zeroL atP isS isT isP goodB)
open Go.Proofs.YthmikjjnlahlbaaGreat.Fl (cn)
open Go.Proofs.YthmikjjnlahlbaaGreat.Gr (GrV loadR one giveR aimR takeR giveC tickG hasF)
open Go.Proofs.YthmikjjnlahlbaaGreat.Ct (tkV)
/-- What of a car a lease looks at. -/
structure SM (x y : CarV) : Prop where
  mo : y.mo = x.mo
  ta : y.ta = x.ta
  ho : y.ho = x.ho
  ds : y.ds = x.ds
  un : y.un = x.un
theorem SM.op {x y : CarV} (h : SM x y) (f : Int) : opB y f = opB x f := by unfold opB; rw [h.ds, h.un]
/-- The same cars, by what leases look at. -/
def SG (G G' : GrV) : Prop := G'.cars.length = G.cars.length ∧ ∀ (i : Nat) (x : CarV), G.cars[i]? = some x → ∃ y, G'.cars[i]? = some y ∧ SM x y
theorem SG.refl (G : GrV) : SG G G := ⟨rfl, fun i x h => ⟨x, h, rfl, rfl, rfl, rfl, rfl⟩⟩
theorem SG.one {G : GrV} (i : Int) (f : CarV → CarV × Int) (hf : ∀ x, SM x (f x).1) : SG G (one G i f).1 :=
  ⟨Gr.one_same.2.2.2, fun k x h => ⟨_, Gr.one_at h, by split; exact hf x; exact ⟨rfl, rfl, rfl, rfl, rfl⟩⟩⟩
theorem gdo_sg (G : GrV) (o : KopV) : SG G (gdo G o) := by
  unfold gdo; split
  · unfold Gr.doR
    split
    · unfold Gr.hallR; split
      · split <;> exact ⟨rfl, fun i x h => ⟨x, h, rfl, rfl, rfl, rfl, rfl⟩⟩
      · exact SG.refl _
    split
    · unfold Gr.pressR; split
      · exact SG.one _ _ (fun x => by show SM x (Gr.pressX _ x); unfold Gr.pressX; split <;> exact ⟨rfl, rfl, rfl, rfl, rfl⟩)
      · exact SG.refl _
    split
    · exact SG.one _ _ (fun x => ⟨rfl, rfl, rfl, rfl, rfl⟩)
    split
    · exact SG.one _ _ (fun x => ⟨rfl, rfl, rfl, rfl, rfl⟩)
    split
    · unfold Gr.faultR; split
      · split
        · have := SG.one (G := G) o.a (fun x => (Gr.fltX x, 0)) (fun x => ⟨rfl, rfl, rfl, rfl, rfl⟩)
          exact ⟨this.1, this.2⟩
        · exact SG.refl _
      · exact SG.one _ _ (fun x => ⟨rfl, rfl, rfl, rfl, rfl⟩)
    omega
  · exact SG.refl _
/-- How a lease's car stands; of those that are still to be looked at in a tick: unless it is broken. -/
structure HB (rest : List LeaseV) (x : CarV) (l : LeaseV) : Prop where
  mo : x.mo = 1
  ta : x.ta = aimF l
  ho : x.ho = true
  op : (l ∈ rest → x.br = false) → (l.ph = 2 ∨ l.ph = 4) → opB x (aimF l) = true
structure CI (rest : List LeaseV) (K : KV) : Prop where
  a : ∀ l ∈ K.L, ∃ x, K.G.cars[l.ca.toNat]? = some x ∧ HB rest x l
  b : ∀ (i : Nat) x, K.G.cars[i]? = some x → x.mo = 1 → ∃ l ∈ K.L, l.ca = (i : Int)
  m : ∃ (i : Nat) (x : CarV), K.G.cars[i]? = some x ∧ x.mo = 0
  q : ∀ a ∈ K.Q, ∀ l ∈ K.L, a.se ≠ l.se
  f : ∀ f, (cn K.L f : Int) ≤ btw K.G.c.qo 1 8
section
variable {K : KV} {rest : List LeaseV} {c : CfgV} {n T m : Nat}
theorem pair_of {α : Type} {R : α → α → Prop} (hs : ∀ a b, R a b → R b a) : ∀ {ls : List α}, ls.Pairwise R → ∀ a ∈ ls, ∀ b ∈ ls, a = b ∨ R a b
  | [], _, a, ha, _, _ => by cases ha
  | x :: r, h, a, ha, b, hb => by
    rw [List.pairwise_cons] at h
    rcases List.mem_cons.1 ha with e1 | e1
    · rcases List.mem_cons.1 hb with e2 | e2
      · exact .inl (e1.trans e2.symm)
      · exact .inr (e1 ▸ h.1 b e2)
    · rcases List.mem_cons.1 hb with e2 | e2
      · exact .inr (e2 ▸ hs _ _ (h.1 a e1))
      · exact pair_of hs h.2 a e1 b e2
theorem UQ.two (h : UQ K) {l y : LeaseV} (hl : l ∈ K.L) (hy : y ∈ K.L) : l = y ∨ (l.se ≠ y.se ∧ l.ca ≠ y.ca) := by
  have := h.l
  rw [List.pairwise_map] at this
  exact pair_of (R := fun a b => KR (key a) (key b)) (fun a b h => ⟨fun e => h.1 e.symm, fun e => h.2 e.symm⟩) this l hl y hy
theorem CI.new (c : CfgV) : CI [] (newK c) := by
  have hz : ∀ (i : Nat) x, (newK c).G.cars[i]? = some x → x.mo = 0 := fun i x h => by
    have := List.eq_of_mem_replicate (show x ∈ List.replicate (Gr.ncars c) Gr.zeroX from List.mem_of_getElem? h)
    rw [this]; rfl
  have hb := Gr.ncars_bd c
  refine ⟨fun l hl => (by cases hl), fun i x h h1 => (by rw [hz i x h] at h1; cases h1), ?_, fun a ha => (by cases ha), fun f => ?_⟩
  · obtain ⟨x, hx⟩ : ∃ x, (newK c).G.cars[0]? = some x := ⟨_, List.getElem?_eq_getElem (by show 0 < (List.replicate (Gr.ncars c) Gr.zeroX).length; rw [List.length_replicate]; omega)⟩
    exact ⟨0, x, hx, hz 0 x hx⟩
  · show ((0 : Nat) : Int) ≤ _
    unfold btw; (repeat' split) <;> omega
theorem CI.grp {G' : GrV} (h : CI [] K) (hs : SG K.G G') (hc : G'.c = K.G.c) : CI [] { K with G := G' } := by
  have back : ∀ (i : Nat) y, G'.cars[i]? = some y → ∃ x, K.G.cars[i]? = some x ∧ SM x y := fun i y hy => by
    have hi : i < K.G.cars.length := by rw [← hs.1]; exact (List.getElem?_eq_some_iff.1 hy).1
    obtain ⟨y', h1, h2⟩ := hs.2 i _ (List.getElem?_eq_getElem hi)
    rw [h1] at hy
    exact ⟨_, List.getElem?_eq_getElem hi, Option.some.inj hy ▸ h2⟩
  refine ⟨fun l hl => ?_, fun i y hy hm => ?_, ?_, h.q, fun f => by show _ ≤ btw G'.c.qo 1 8; rw [hc]; exact h.f f⟩
  · obtain ⟨x, hx, hb⟩ := h.a l hl
    obtain ⟨y, hy, hm⟩ := hs.2 _ x hx
    exact ⟨y, hy, hm.mo.trans hb.mo, hm.ta.trans hb.ta, hm.ho.trans hb.ho, fun _ hp => by rw [hm.op]; exact hb.op (fun h => by cases h) hp⟩
  · obtain ⟨x, hx, hm2⟩ := back i y hy
    exact h.b i x hx (hm2.mo ▸ hm)
  · obtain ⟨i, x, hx, h0⟩ := h.m
    obtain ⟨y, hy, hm⟩ := hs.2 i x hx
    exact ⟨i, y, hy, hm.mo.trans h0⟩
theorem cn_sub {ls ls' : List LeaseV} (h : ls'.Sublist ls) (f : Int) : cn ls' f ≤ cn ls f := h.countP_le
theorem CI.end_ (hi : ∀ l ∈ K.L, 0 ≤ l.ca) (hU : UQ K) (h : CI rest K) (s : Int) {r : List LeaseV} (hr : ∀ y ∈ K.L, y.se ≠ s → y ∈ rest → y ∈ r) : CI r (Co.endK K s) := by
  have ne := end_ne hU s
  unfold Co.endK at ne ⊢
  split
  · rename_i hL
    rw [if_pos hL] at ne
    obtain ⟨hm, hse⟩ := has_mem hL
    refine ⟨fun l hl => ?_, fun i y hy hmo => ?_, ?_, fun a ha l hl => h.q a ha l (ne l hl).1, fun f => ?_⟩
    · obtain ⟨h1, h2⟩ := ne l hl
      obtain ⟨x, hx, hb⟩ := h.a l h1
      have hne : ¬ ((l.ca.toNat : Nat) : Int) = (ofL K.L s).ca := by
        rcases hU.two h1 hm with e | e
        · exact absurd (e ▸ hse) h2
        · have := hi l h1; have := e.2; omega
      refine ⟨x, by have := Gr.one_at (i := (ofL K.L s).ca) (f := fun x => (Gr.givX K.G.c x, Gr.aimE x)) hx; rw [if_neg hne] at this; exact this, hb.mo, hb.ta, hb.ho, fun hw hp => hb.op (fun hin => hw (hr l h1 h2 hin)) hp⟩
    · have hlen : (giveR K.G (ofL K.L s).ca).1.cars.length = K.G.cars.length := Gr.one_same.2.2.2
      have hil : i < K.G.cars.length := by rw [← hlen]; exact (List.getElem?_eq_some_iff.1 hy).1
      have hx := List.getElem?_eq_getElem hil
      have hy2 := Gr.one_at (i := (ofL K.L s).ca) (f := fun x => (Gr.givX K.G.c x, Gr.aimE x)) hx
      have hy3 : (giveR K.G (ofL K.L s).ca).1.cars[i]? = _ := hy2
      have hy' : (giveR K.G (ofL K.L s).ca).1.cars[i]? = some y := hy
      rw [hy'] at hy3
      have e := Option.some.inj hy3
      by_cases hic : (i : Int) = (ofL K.L s).ca
      · rw [if_pos hic] at e
        exfalso
        rw [e] at hmo
        change (Gr.givX K.G.c K.G.cars[i]).mo = 1 at hmo
        unfold Gr.givX at hmo
        split at hmo
        · cases hmo
        · contradiction
      · rw [if_neg hic] at e
        obtain ⟨l, hl, hca⟩ := h.b i _ hx (e ▸ hmo)
        refine ⟨l, ?_, hca⟩
        show l ∈ endL K.L s
        rw [end_filter hU.l]
        refine List.mem_filter.2 ⟨hl, ?_⟩
        have : l.se ≠ s := fun e2 => by
          rcases hU.two hl hm with e3 | e3
          · exact hic (by rw [← hca, e3])
          · exact e3.1 (e2.trans hse.symm)
        simpa using this
    · obtain ⟨i, x, hx, h0⟩ := h.m
      refine ⟨i, _, Gr.one_at (i := (ofL K.L s).ca) (f := fun x => (Gr.givX K.G.c x, Gr.aimE x)) hx, ?_⟩
      split
      · show (Gr.givX K.G.c x).mo = 0
        unfold Gr.givX; split
        · rfl
        · exact h0
      · exact h0
    · show (cn (endL K.L s) f : Int) ≤ btw (giveR K.G _).1.c.qo 1 8
      rw [give_c]
      have := cn_sub (end_sub K.L s) f
      have := h.f f
      omega
  · rename_i hL
    rw [if_neg hL] at ne
    exact ⟨fun l hl => by
      obtain ⟨x, hx, hb⟩ := h.a l hl
      exact ⟨x, hx, hb.mo, hb.ta, hb.ho, fun hw hp => hb.op (fun hin => hw (hr l hl (ne l hl).2 hin)) hp⟩, h.b, h.m, h.q, h.f⟩
theorem cn_key {ls ls' : List LeaseV} (h : ls'.map key = ls.map key) (f : Int) : cn ls' f = cn ls f := by
  have e : ∀ zs : List LeaseV, cn zs f = (zs.map key).countP (fun k => k.2.2 == f) := fun zs => by
    unfold Fl.cn; rw [List.countP_map]; rfl
  rw [e, e, h]
/-- A lease that is told anew. -/
theorem CI.set (hi : ∀ l ∈ K.L, 0 ≤ l.ca) (hU : UQ K) (h : CI rest K) {l0 l : LeaseV} (h0 : l0 ∈ K.L) (hk : key l = key l0) (hg : goodB K.G.c l = true) {r : List LeaseV} (hr : ∀ y ∈ K.L, key y ≠ key l → y ∈ rest → y ∈ r)
    (hop : ∀ x, K.G.cars[l.ca.toNat]? = some x → HB rest x l0 → (l ∈ r → x.br = false) → (l.ph = 2 ∨ l.ph = 4) → opB x (aimF l) = true) : CI r (setK K l false) := by
  have hca : l.ca = l0.ca := congrArg (fun z => z.2.1) hk
  have hfr : hasF K.G.c (aimF l) = true := by
    have hm : Fl.mayB K.G.c (Le.askOf l) = true := by unfold goodB at hg; simp only [Bool.and_eq_true] at hg; exact hg.1.1.1.1
    have := may_fm hm
    unfold hasF aimF
    split
    · exact decide_eq_true this.1
    · exact decide_eq_true this.2
  have hat : ∀ (k : Nat) x, K.G.cars[k]? = some x → (aimR K.G l.ca (aimF l) true).1.cars[k]? = some (if (k : Int) = l.ca then Gr.aimX (aimF l) true x else x) := fun k x hx => by
    unfold aimR; rw [if_pos hfr]
    exact Gr.one_at hx
  have hlen : (aimR K.G l.ca (aimF l) true).1.cars.length = K.G.cars.length := by unfold aimR; rw [if_pos hfr]; exact Gr.one_same.2.2.2
  have ham : ∀ x, (Gr.aimX (aimF l) true x).mo = x.mo := fun x => by unfold Gr.aimX; split <;> rfl
  unfold setK
  rw [if_neg (by decide)]
  refine ⟨fun y hy => ?_, fun i y hy hmo => ?_, ?_, fun a ha y hy => ?_, fun f => ?_⟩
  · rcases set_all hU.l hg y hy with rfl | ⟨h1, h2⟩
    · obtain ⟨x, hx, hb⟩ := h.a l0 h0
      rw [← hca] at hx
      refine ⟨_, hat _ x hx, ?_⟩
      rw [if_pos (by have := hi l0 h0; omega)]
      have e : Gr.aimX (aimF y) true x = { x with ta := aimF y, ho := true } := by unfold Gr.aimX; rw [if_pos hb.mo]
      rw [e]
      exact ⟨hb.mo, rfl, rfl, fun hw hp => hop x hx hb hw hp⟩
    · obtain ⟨x, hx, hb⟩ := h.a y h1
      refine ⟨_, hat _ x hx, ?_⟩
      rw [if_neg (by
        rcases hU.two h1 h0 with e | e
        · exact absurd (e ▸ hk.symm) h2
        · have := hi y h1; have := e.2; omega)]
      exact ⟨hb.mo, hb.ta, hb.ho, fun hw hp => hb.op (fun hin => hw (hr y h1 h2 hin)) hp⟩
  · have hil : i < K.G.cars.length := by rw [← hlen]; exact (List.getElem?_eq_some_iff.1 hy).1
    have hx := List.getElem?_eq_getElem hil
    have hy2 := hat i _ hx
    have hy' : (aimR K.G l.ca (aimF l) true).1.cars[i]? = some y := hy
    rw [hy'] at hy2
    have e := Option.some.inj hy2
    have hm : (K.G.cars[i]).mo = 1 := by
      rw [e] at hmo
      split at hmo
      · rw [ham] at hmo; exact hmo
      · exact hmo
    obtain ⟨z, hz, hzc⟩ := h.b i _ hx hm
    have : key z ∈ (setL K.G.c K.L l).map key := by rw [set_key]; exact List.mem_map.2 ⟨z, hz, rfl⟩
    obtain ⟨z2, hz2, hk2⟩ := List.mem_map.1 this
    exact ⟨z2, hz2, by have : z2.ca = z.ca := congrArg (fun z => z.2.1) hk2; rw [this]; exact hzc⟩
  · obtain ⟨i, x, hx, hm0⟩ := h.m
    refine ⟨i, _, hat i x hx, ?_⟩
    split
    · rw [ham]; exact hm0
    · exact hm0
  · have : key y ∈ (setL K.G.c K.L l).map key := List.mem_map.2 ⟨y, hy, rfl⟩
    rw [set_key] at this
    obtain ⟨z, hz, hkz⟩ := List.mem_map.1 this
    have e : z.se = y.se := congrArg Prod.fst hkz
    rw [← e]; exact h.q a ha z hz
  · show (cn (setL K.G.c K.L l) f : Int) ≤ btw (aimR K.G _ _ _).1.c.qo 1 8
    rw [aim_c, cn_key (set_key _ _ _)]
    exact h.f f
end
end Go.Proofs.YthmikjjnlahlbaaGreat.Lc
namespace Go.Proofs.YthmikjjnlahlbaaGreat.Lc
set_option linter.unusedSectionVars false
set_option linter.unusedVariables false
set_option linter.unusedSimpArgs false
open Go.RowKit Go.Proofs.YthmikjjnlahlbaaGreat.Ba Go.Proofs.YthmikjjnlahlbaaGreat.Mem Go.Proofs.YthmikjjnlahlbaaGreat.En Go.Proofs.YthmikjjnlahlbaaGreat.Ty Go.Proofs.YthmikjjnlahlbaaGreat.Mo Go.Proofs.YthmikjjnlahlbaaGreat.St Go.Proofs.YthmikjjnlahlbaaGreat.Co
open Go.Proofs.YthmikjjnlahlbaaGreat.Ri (MsgV tickV hearV trV sp rn mayRe opB aimF)
open Go.Proofs.YthmikjjnlahlbaaGreat.Qu (dropL atS btw firstA atF)
open Go.Proofs.YthmikjjnlahlbaaGreat.Le (hasL ofL setL setE endL zeroL atP isS isT isP goodB)
open Go.Proofs.YthmikjjnlahlbaaGreat.Gr (GrV loadR one giveR aimR takeR giveC tickG hasF)
open Go.Proofs.YthmikjjnlahlbaaGreat.Ct (tkV)
section
variable {c : CfgV} {l : LeaseV} {now : Int}
theorem hearV_ph (x : CarV) (m : MsgV) (h : (hearV c l x now m).1.ph = 2 ∨ (hearV c l x now m).1.ph = 4) : (hearV c l x now m).1.ph = l.ph ∧ aimF (hearV c l x now m).1 = aimF l := by
  unfold hearV at h ⊢
  split
  · rename_i h1
    rw [if_pos h1] at h
    split
    · rename_i h2
      rw [if_pos h2] at h
      exfalso
      rcases h with h | h <;> cases h
    · exact ⟨rfl, rfl⟩
  · split
    · exact ⟨rfl, rfl⟩
    · split <;> exact ⟨rfl, rfl⟩
theorem tickV_op (x : CarV) (ho : (tickV c l x now).2.2 = false) : x.br = false ∧ ((tickV c l x now).1.ph = 2 ∨ (tickV c l x now).1.ph = 4 → ((l.ph = 2 ∨ l.ph = 4) ∧ aimF (tickV c l x now).1 = aimF l) ∨ opB x (aimF (tickV c l x now).1) = true) := by
  unfold tickV at ho ⊢
  split at ho
  · cases ho
  rename_i hl
  rw [if_neg hl]
  refine ⟨by cases hb : x.br with | true => exact absurd (.inl hb) hl | false => rfl, ?_⟩
  split
  · rename_i h1; exact fun _ => .inr h1.2
  · split
    · rename_i h1; exact fun _ => .inr h1.2
    · exact fun h => .inl ⟨h, rfl⟩
theorem good_ca (h : goodB c l = true) : 0 ≤ l.ca ∧ l.ca < 8 := by
  unfold goodB at h
  simp only [Bool.and_eq_true, decide_eq_true_eq] at h
  exact ⟨h.1.1.1.2, h.1.1.2⟩
theorem set_keep {ls : List LeaseV} {x y : LeaseV} (hy : y ∈ ls) (hk : key y ≠ key x) : y ∈ setL c ls x := by
  unfold setL; split
  · split
    · rename_i k hat
      obtain ⟨hl, h1, _⟩ := Le.atP_some hat
      have h2 := h1 hl
      unfold isT at h2
      simp only [Bool.and_eq_true, beq_iff_eq] at h2
      obtain ⟨i, hi, rfl⟩ := List.getElem_of_mem hy
      have : i ≠ k := fun e => hk (by subst e; unfold key; rw [h2.1.1, h2.1.2, h2.2])
      rw [List.mem_iff_getElem?]
      exact ⟨i, by rw [List.getElem?_set, if_neg (fun e => this e.symm)]; exact List.getElem?_eq_getElem hi⟩
    · exact hy
  · exact hy
end
section
variable {K : KV} {rest : List LeaseV} {c : CfgV} {n T m : Nat}
theorem end_keep (h : UQ K) {s : Int} {y : LeaseV} (hy : y ∈ K.L) (hs : y.se ≠ s) : y ∈ (Co.endK K s).L := by
  unfold Co.endK; split
  · show y ∈ endL K.L s
    rw [end_filter h.l]
    exact List.mem_filter.2 ⟨hy, by simpa using hs⟩
  · exact hy
theorem CI.ans (h : CI [] K) (a : AskV) : CI [] (ansK K a) := by
  refine ⟨h.a, h.b, h.m, ?_, h.f⟩
  intro b hb l hl
  change b ∈ ansQ K a at hb
  unfold ansQ at hb
  split at hb
  · split at hb
    · exact h.q b hb l hl
    · rename_i hn
      rcases put_mem hb with hb | rfl
      · exact h.q b hb l hl
      · have := find_none (p := isS b.se) (ls := K.L) (by simpa [hasL, atP] using hn) l hl
        intro e
        simp [isS, e] at this
  · exact h.q b hb l hl
theorem CI.hear (hP : PI c n T K) (hT : T ≤ 1000000) (h : CI [] K) (s : Int) (x : MsgV) : CI [] (hearK K s x) := by
  have hca : ∀ l ∈ K.L, 0 ≤ l.ca := fun l hl => (hP.k.okl l hl).1
  unfold hearK; split
  · rename_i hL
    obtain ⟨hm, hse⟩ := has_mem hL
    have hn : 0 ≤ K.G.now ∧ K.G.now ≤ 1000000 := ⟨hP.k.now.1, by have := hP.t; omega⟩
    have hLI := (hP.e _ hm).hear hn (carAt K (ofL K.L s)) x
    have hk : key (hearR K (ofL K.L s) x).1 = key (ofL K.L s) := by unfold hearR; exact hearV_key _ _
    cases ho : (hearR K (ofL K.L s) x).2.2 with
    | true =>
      unfold setK; rw [if_pos rfl]
      exact h.end_ hca hP.u _ (fun _ _ _ hin => by cases hin)
    | false =>
      refine h.set hca hP.u hm hk (by unfold hearR; rw [hP.k.g.1]; exact hLI.gd) (fun _ _ _ hin => by cases hin) ?_
      intro y hy hb _ hp
      unfold hearR at hp ⊢
      obtain ⟨e1, e2⟩ := hearV_ph _ _ hp
      rw [e2]
      exact hb.op (fun hin => by cases hin) (e1 ▸ hp)
  · exact h
theorem CI.gone (hP : PI c n T K) (h : CI [] K) (s : Int) : CI [] (goneK K s) := by
  have e := h.end_ (fun l hl => (hP.k.okl l hl).1) hP.u s (r := []) (fun _ _ _ hin => by cases hin)
  exact ⟨e.a, e.b, e.m, fun a ha l hl => h.q a ((drop_sub _ _).subset ha) l (end_ne hP.u s l hl).1, e.f⟩
theorem CI.obS {x : KV × List EvV} (hT : T ≤ 1000000) (hP : PI c n T x.1) (h : CI [] x.1) (l : LeaseV) : CI [] (obStep x l).1 := by
  have ld : ∀ v, CI [] (ldK x.1 l v) := fun v => h.grp (SG.one _ _ (fun x => ⟨rfl, rfl, rfl, rfl, rfl⟩)) (one_c _ _ _)
  have pd : ∀ v, PI c n T (ldK x.1 l v) := fun v => ⟨KI.ld hP.k l v, hP.u.grp _, EI.sub hP.e (Gr.load_w _ _).2 (fun _ hy => hy), by show (loadR x.1.G l.ca v).1.now ≤ T; rw [(Gr.load_w _ _).2]; exact hP.t⟩
  unfold obStep; split
  · exact (ld _).hear (pd _) hT _ _
  · split
    · exact (ld _).hear (pd _) hT _ _
    · exact h
theorem CI.ob (hT : T ≤ 1000000) (hP : PI c n T K) (h : CI [] K) (k : Nat) : CI [] (obF K k).1 := by
  have key : ∀ (ls : List LeaseV) (x : KV × List EvV), PI c n T x.1 → CI [] x.1 → CI [] (ls.foldl obStep x).1 := by
    intro ls
    induction ls with
    | nil => intro x _ h; exact h
    | cons l r ih => intro x hP h; rw [List.foldl_cons]; exact ih _ (obS_pi hT hP l) (CI.obS hT hP h l)
  exact key _ _ hP h
theorem CI.do_ (hT : T ≤ 1000000) (hP : PI c n T K) (h : CI [] K) (o : KopV) : CI [] (doK K o) := by
  unfold doK
  split
  · exact h.ans _
  split
  · exact h.hear hP hT _ _
  split
  · exact h.gone hP _
  split
  · exact CI.ob hT hP h _
  · exact h.grp (gdo_sg _ _) (gdo_w _ _).2.1
theorem car_of {x : CarV} {l : LeaseV} (h : K.G.cars[l.ca.toNat]? = some x) : carAt K l = x := by
  unfold carAt; rw [List.getD_eq_getElem?_getD, h]; rfl
theorem CI.fold {now : Int} (hn : 0 ≤ now ∧ now ≤ 1000000) : ∀ (rest : List LeaseV) (x : KV × List EvV), x.1.G.now = now → x.1.G.c = c → UQ x.1 → (∀ y ∈ rest, Bn c y) → (∀ y ∈ x.1.L, y ∈ rest ∨ LI c now y) → (rest.map key).Pairwise KR → (∀ y ∈ rest, y ∈ x.1.L) → CI rest x.1 → CI [] (rest.foldl stepK x).1
  | [], x, _, _, _, _, _, _, _, h => h
  | l :: r, x, h1, h2, h3, h4, h5, h6, h7, h => by
    rw [List.foldl_cons]
    rw [List.map_cons, List.pairwise_cons] at h6
    have hs : (stepK x l).1 = setK x.1 (stepR x.1 l).1 (stepR x.1 l).2.2 := rfl
    have hk : key (stepR x.1 l).1 = key l := by unfold stepR; exact tickV_key _
    have hse : (stepR x.1 l).1.se = l.se := congrArg Prod.fst hk
    have hlL := h7 l (List.mem_cons_self ..)
    have hca : ∀ y ∈ x.1.L, 0 ≤ y.ca := fun y hy => by
      rcases h5 y hy with e | e
      · exact (good_ca (h4 y e).gd).1
      · exact (good_ca e.gd).1
    obtain ⟨x0, hx0, hb0⟩ := h.a l hlL
    have hcar := car_of hx0
    have hne : ∀ y ∈ r, y.se ≠ l.se := fun y hy e => (h6.1 _ (List.mem_map.2 ⟨y, hy, rfl⟩)).1 e.symm
    have h5' : ∀ y ∈ (stepK x l).1.L, y ∈ r ∨ LI c now y := by
      intro y hy
      rw [hs] at hy
      cases ho : (stepR x.1 l).2.2 with
      | true =>
        rw [ho] at hy
        unfold setK at hy
        rw [if_pos rfl] at hy
        obtain ⟨hy1, hy2⟩ := end_ne h3 _ y hy
        rcases h5 y hy1 with h | h
        · rcases List.mem_cons.1 h with rfl | h
          · exact absurd hse.symm hy2
          · exact .inl h
        · exact .inr h
      | false =>
        have hl : LI c now (stepR x.1 l).1 := by
          unfold stepR at ho ⊢
          rw [h1, h2] at ho ⊢
          exact (h4 l (List.mem_cons_self ..)).tick hn _ ho
        rw [ho] at hy
        unfold setK at hy
        rw [if_neg (by decide)] at hy
        change y ∈ setL x.1.G.c x.1.L _ at hy
        rw [h2] at hy
        rcases set_all h3.l hl.gd y hy with rfl | ⟨hy1, hy2⟩
        · exact .inr hl
        · rcases h5 y hy1 with h | h
          · rcases List.mem_cons.1 h with rfl | h
            · exact absurd hk.symm hy2
            · exact .inl h
          · exact .inr h
    refine CI.fold hn r (stepK x l) (by rw [hs, set_now]; exact h1) (by rw [hs, setK_c]; exact h2) (by rw [hs]; exact h3.set _ _) (fun y hy => h4 y (List.mem_cons_of_mem _ hy)) h5' h6.2 ?_ ?_
    · intro y hy
      have hyL := h7 y (List.mem_cons_of_mem _ hy)
      rw [hs]
      unfold setK; split
      · exact end_keep h3 hyL (by rw [hse]; exact hne y hy)
      · exact set_keep hyL (fun e => hne y hy (by have : y.se = (stepR x.1 l).1.se := congrArg Prod.fst e; rw [this, hse]))
    · rw [hs]
      cases ho : (stepR x.1 l).2.2 with
      | true =>
        unfold setK; rw [if_pos rfl]
        exact h.end_ hca h3 _ (fun y _ hy2 hin => by
          rcases List.mem_cons.1 hin with rfl | hin
          · exact absurd hse.symm hy2
          · exact hin)
      | false =>
        have hgd : LI c now (stepR x.1 l).1 := by
          have ho' := ho
          unfold stepR at ho' ⊢
          rw [h1, h2] at ho' ⊢
          exact (h4 l (List.mem_cons_self ..)).tick hn _ ho'
        refine h.set hca h3 hlL hk (by rw [h2]; exact hgd.gd) (fun y _ hy2 hin => by
          rcases List.mem_cons.1 hin with rfl | hin
          · exact absurd hk.symm hy2
          · exact hin) ?_
        intro y hy hb _ hp
        have hcae : (stepR x.1 l).1.ca = l.ca := congrArg (fun z => z.2.1) hk
        rw [hcae, hx0] at hy
        have hy := Option.some.inj hy
        subst hy
        unfold stepR at ho hp ⊢
        rw [hcar] at ho hp ⊢
        obtain ⟨hbr, hop⟩ := tickV_op _ ho
        rcases hop hp with ⟨e1, e2⟩ | e
        · rw [e2]; exact hb.op (fun _ => hbr) e1
        · exact e
end
end Go.Proofs.YthmikjjnlahlbaaGreat.Lc
namespace Go.Proofs.YthmikjjnlahlbaaGreat.Lc
set_option linter.unusedSectionVars false
set_option linter.unusedVariables false
set_option linter.unusedSimpArgs false
open Go.RowKit Go.Proofs.YthmikjjnlahlbaaGreat.Ba Go.Proofs.YthmikjjnlahlbaaGreat.Mem Go.Proofs.YthmikjjnlahlbaaGreat.En Go.Proofs.YthmikjjnlahlbaaGreat.Ty Go.Proofs.YthmikjjnlahlbaaGreat.Mo Go.Proofs.YthmikjjnlahlbaaGreat.St Go.Proofs.YthmikjjnlahlbaaGreat.Co
open Go.Proofs.YthmikjjnlahlbaaGreat.Ri (opB aimF)
open Go.Proofs.YthmikjjnlahlbaaGreat.Qu (dropL atS btw firstA atF okF atI)
open Go.Proofs.YthmikjjnlahlbaaGreat.Le (atP isP goodB)
open Go.Proofs.YthmikjjnlahlbaaGreat.Fl (freeB)
open Go.Proofs.YthmikjjnlahlbaaGreat.Gr (GrV takeR tickG hasF idB)
open Go.Proofs.YthmikjjnlahlbaaGreat.Ct (tkV tkX tkR tkO tkK ldX ldR ldO ldK ldT)
theorem tkV_flags (c : CfgV) (y : CarV) : (tkV c y).mo = y.mo ∧ (tkV c y).ta = y.ta ∧ (tkV c y).ho = y.ho ∧ (tkV c y).br = y.br := by
  obtain ⟨_, _, _, e4, e5, e6, _, e8⟩ := Ct.tk_same c y
  exact ⟨e5, e6, e8, e4⟩
/-- An open door at its target stays open. -/
theorem tkV_stays (c : CfgV) (y : CarV) (hm : y.mo = 1) (hh : y.ho = true) (hb : y.br = false) (ho : opB y y.ta = true) : opB (tkV c y) y.ta = true := by
  unfold opB at ho
  simp only [Bool.and_eq_true, beq_iff_eq] at ho
  obtain ⟨⟨h1, h2⟩, h3⟩ := ho
  have ht : ldT y = true := by
    unfold ldT
    refine decide_eq_true ?_
    unfold lvN at h2
    rw [if_pos h1] at h2
    unfold lvB at h1
    have := of_decide_eq_true h1
    unfold tw
    rw [if_neg (by omega), if_neg (by omega)]
  have eX : tkX c y = y := by unfold tkX; rw [if_neg (by rw [hb]; decide), if_pos hm]; unfold ldX; rw [if_neg (by rw [h3]; exact fun h => absurd h.1 (by decide))]
  have eR : tkR y = 0 := by unfold tkR; rw [if_neg (by rw [hb]; decide), if_pos hm]; unfold ldR; rw [if_neg (by rw [h3]; exact fun h => absurd h.1 (by decide))]
  have eO : tkO y = false := by unfold tkO; rw [if_neg (by rw [hb]; decide), if_pos hm]; unfold ldO; rw [if_neg (by rw [h3]; decide), h3]; simp
  have eK : tkK c y = false := by unfold tkK; rw [if_neg (by rw [hb]; decide), if_pos hm]; unfold Ct.ldK; rw [ht, hh]; simp
  have e : tkV c y = Pl.stepV c y 0 false false := by unfold tkV; rw [eX, eR, eO, eK]
  have eds : (Pl.stepV c y 0 false false).ds = 2 := by
    show Pl.dS1 c y false false = 2
    unfold Pl.dS1 Pl.dS0 Pl.toldS
    rw [if_neg (by rw [hb]; decide), if_neg (by simp), if_neg (by simp), h3]
    unfold Do.tS
    rw [if_neg (by omega), if_neg (by omega), if_neg (by omega), if_neg (by omega)]
  have eun : (Pl.stepV c y 0 false false).un = y.un := by
    show Pl.un1 c y 0 false false = y.un
    unfold Pl.un1 Pl.goesB
    rw [if_neg (by rw [h3]; simp)]
  rw [e]
  unfold opB
  rw [eds, eun]
  simp [h1, h2]
section
variable {K : KV} {c : CfgV} {n T m : Nat}
theorem near_sm {x y : CarV} (h0 : Gr.Near x y) : SM x y ∧ y.br = x.br := by
  have h : y = { x with su := y.su, sd := y.sd } := h0
  have e1 := congrArg CarV.mo h
  have e2 := congrArg CarV.ta h
  have e3 := congrArg CarV.ho h
  have e4 := congrArg CarV.ds h
  have e5 := congrArg CarV.un h
  have e6 := congrArg CarV.br h
  exact ⟨⟨e1, e2, e3, e4, e5⟩, e6⟩
theorem CI.tk1 (h : CI [] K) : CI K.L (tkK1 K) := by
  have at' : ∀ (k : Nat) x, K.G.cars[k]? = some x → ∃ z, (tickG K.G).cars[k]? = some z ∧ z.mo = x.mo ∧ z.ta = x.ta ∧ z.ho = x.ho ∧ (z.br = false → x.mo = 1 → x.ho = true → opB x x.ta = true → opB z x.ta = true) := fun k x hx => by
    obtain ⟨y, _, hn, hz⟩ := Gr.tick_at hx
    obtain ⟨hs, hbr⟩ := near_sm hn
    obtain ⟨f1, f2, f3, f4⟩ := tkV_flags K.G.c y
    refine ⟨_, hz, f1.trans hs.mo, f2.trans hs.ta, f3.trans hs.ho, fun h1 h2 h3 h4 => ?_⟩
    have := tkV_stays K.G.c y (hs.mo.trans h2) (hs.ho.trans h3) (f4 ▸ h1) (by rw [hs.op, hs.ta]; exact h4)
    rw [hs.ta] at this; exact this
  have back : ∀ (i : Nat) z, (tickG K.G).cars[i]? = some z → ∃ x, K.G.cars[i]? = some x ∧ z.mo = x.mo := fun i z hz => by
    have hi : i < K.G.cars.length := by rw [← Gr.tick_len K.G]; exact (List.getElem?_eq_some_iff.1 hz).1
    obtain ⟨z', h1, h2, _⟩ := at' i _ (List.getElem?_eq_getElem hi)
    rw [h1] at hz
    exact ⟨_, List.getElem?_eq_getElem hi, Option.some.inj hz ▸ h2⟩
  refine ⟨fun l hl => ?_, fun i z hz hm => ?_, ?_, h.q, h.f⟩
  · obtain ⟨x, hx, hb⟩ := h.a l hl
    obtain ⟨z, hz, e1, e2, e3, e4⟩ := at' _ x hx
    refine ⟨z, hz, e1.trans hb.mo, e2.trans hb.ta, e3.trans hb.ho, fun hw hp => ?_⟩
    have := e4 (hw hl) hb.mo hb.ho (by rw [hb.ta]; exact hb.op (fun h => by cases h) hp)
    rw [hb.ta] at this; exact this
  · obtain ⟨x, hx, e⟩ := back i z hz
    exact h.b i x hx (e ▸ hm)
  · obtain ⟨i, x, hx, h0⟩ := h.m
    obtain ⟨z, hz, e, _⟩ := at' i x hx
    exact ⟨i, z, hz, e.trans h0⟩
theorem near_can (f : Int) (cs : List CarV) : ∀ k, 0 ≤ (nrL f cs k).1 → ∃ x, cs[(nrL f cs k).1.toNat]? = some x ∧ canB x = true
  | 0 => fun h => by exact absurd h (by show ¬ (0 : Int) ≤ -1; decide)
  | k + 1 => fun h => by
    unfold nrL at h ⊢
    split at h
    · exact near_can f cs k h
    · rename_i x hx
      split at h
      · rename_i hc
        rw [if_pos hc]
        exact ⟨x, by show cs[((k : Int)).toNat]? = _; rw [Int.toNat_natCast]; exact hx, hc.1⟩
      · rename_i hc
        rw [if_neg hc]
        exact near_can f cs k h
theorem one_p {α : Type} {p : α → Bool} : ∀ {ls : List α}, 1 ≤ ls.countP p → ∃ (i : Nat) (x : α), ls[i]? = some x ∧ p x = true := by
  intro ls h
  obtain ⟨x, hx, hp⟩ := List.countP_pos_iff.1 (show 0 < ls.countP p by omega)
  obtain ⟨i, hi⟩ := List.mem_iff_getElem?.1 hx
  exact ⟨i, x, hi, hp⟩
theorem two_p {α : Type} {p : α → Bool} : ∀ (ls : List α) (k : Nat), 2 ≤ ls.countP p → ∃ (i : Nat) (x : α), i ≠ k ∧ ls[i]? = some x ∧ p x = true
  | [], _, h => by simp at h
  | a :: r, 0, h => by
    rw [List.countP_cons] at h
    obtain ⟨i, x, h1, h2⟩ := one_p (ls := r) (p := p) (by split at h <;> omega)
    exact ⟨i + 1, x, by omega, h1, h2⟩
  | a :: r, k + 1, h => by
    rw [List.countP_cons] at h
    by_cases ha : p a = true
    · exact ⟨0, a, by omega, rfl, ha⟩
    · rw [if_neg ha] at h
      obtain ⟨i, x, h0, h1, h2⟩ := two_p r k h
      exact ⟨i + 1, x, by omega, h1, h2⟩
theorem full_mem (K : KV) {v : Int} (hv : 0 ≤ v) (hf : ¬ freeB K.G.c K.L v = true) : ∀ k : Nat, v < (k : Int) → v ∈ fullL K k
  | 0, h => by omega
  | k + 1, h => by
    unfold fullL
    by_cases e : v = (k : Int)
    · subst e; rw [if_neg hf]; simp
    · have := full_mem K hv hf k (by omega)
      split
      · exact this
      · exact List.mem_append_left _ this
theorem CI.grant (hU : UQ K) (hk : KI c n T m K) (h : CI [] K) : CI [] (grantK K) := by
  unfold grantK; split
  · exact h
  rename_i a ha
  unfold grA at ha
  split at ha
  · cases ha
  rename_i hpf
  by_cases hat : (atF K.Q (fullL K 8)).isSome = true
  case neg => rw [if_neg hat] at ha; cases ha
  rw [if_pos hat] at ha
  by_cases hnear : nearI K (firstA K.Q (fullL K 8)).fm < 0
  case pos => rw [if_pos hnear] at ha; cases ha
  rw [if_neg hnear] at ha
  have ha := Option.some.inj ha
  -- who it is
  obtain ⟨k, hatk⟩ := Option.isSome_iff_exists.1 hat
  obtain ⟨hkl, hk1, _⟩ := Qu.atF_some hatk
  have hfa : firstA K.Q (fullL K 8) = K.Q[k] := by unfold firstA; rw [hatk]; simp [List.getD, hkl]
  rw [hfa] at ha hnear
  have haQ : a ∈ K.Q := by rw [← ha]; exact List.getElem_mem hkl
  have hfree : (atI (fullL K 8) a.fl).isSome = false := by rw [← ha]; exact hk1 hkl
  rw [ha] at hnear
  have hmay := hk.okq a haQ
  have hc := hk.g.1
  -- its car
  obtain ⟨x0, hx0, hcan⟩ := near_can a.fm K.G.cars K.G.cars.length (by show 0 ≤ nearI K a.fm; omega)
  have hx0 : K.G.cars[(nearI K a.fm).toNat]? = some x0 := hx0
  have hid : idB x0 = true := by unfold canB at hcan; simp only [Bool.and_eq_true] at hcan; exact hcan.1.1
  have hmo0 : x0.mo = 0 := by unfold idB at hid; exact (of_decide_eq_true hid).1
  have hlt := (List.getElem?_eq_some_iff.1 hx0).1
  have hb8 := Gr.ncars_bd c
  have hlen := hk.len
  have hfm := (may_fm hmay).1
  have hhas : hasF K.G.c a.fm = true := by unfold hasF; rw [hc]; exact decide_eq_true hfm
  have hcat : ∀ (i : Nat) x, K.G.cars[i]? = some x → (takeR K.G (nearI K a.fm) a.fm).1.cars[i]? = some (if (i : Int) = nearI K a.fm then Gr.takeX a.fm x else x) := fun i x hx => by
    unfold takeR; rw [if_pos hhas]; exact Gr.one_at hx
  have hclen : (takeR K.G (nearI K a.fm) a.fm).1.cars.length = K.G.cars.length := by unfold takeR; rw [if_pos hhas]; exact Gr.one_same.2.2.2
  have hcar : ∀ l ∈ K.L, l.ca ≠ nearI K a.fm := fun l hl e => by
    obtain ⟨x, hx, hb⟩ := h.a l hl
    rw [e, hx0] at hx
    have := Option.some.inj hx
    have := hb.mo
    subst x
    omega
  have hse : ∀ l ∈ K.L, l.se ≠ a.se := fun l hl e => h.q a haQ l hl e.symm
  have hfl : 0 ≤ a.fl ∧ a.fl < 8 := by
    have := hmay
    unfold Fl.mayB Fl.belB at this
    simp only [Bool.and_eq_true, decide_eq_true_eq] at this
    have e : btw c.ft 1 8 ≤ 8 := by unfold btw; (repeat' split) <;> omega
    omega
  have hfr : freeB K.G.c K.L a.fl = true := by
    by_cases e : freeB K.G.c K.L a.fl = true
    · exact e
    · exfalso
      have hm := full_mem K hfl.1 e 8 (by omega)
      have := find_none hfree a.fl hm
      simp at this
  have hgood : goodB K.G.c (grL K a) = true := by
    unfold goodB
    rw [hc]
    show (Fl.mayB c a && decide (0 ≤ nearI K a.fm) && decide (nearI K a.fm < 8) && decide ((1 : Int) ≤ 1) && decide ((1 : Int) ≤ 4)) = true
    rw [hmay, decide_eq_true (show 0 ≤ nearI K a.fm by omega), decide_eq_true (show nearI K a.fm < 8 by omega)]
    rfl
  have hput : Le.putE K.G.c K.L (grL K a) = 0 := by
    unfold Le.putE
    rw [if_pos hgood, if_neg, if_pos (show freeB K.G.c K.L (grL K a).fl = true from hfr)]
    intro hs
    obtain ⟨j, hj⟩ := Option.isSome_iff_exists.1 hs
    obtain ⟨hjl, hj1, _⟩ := Le.atP_some hj
    have := hj1 hjl
    unfold isP at this
    simp only [Bool.or_eq_true, beq_iff_eq] at this
    rcases this with e | e
    · exact hse _ (List.getElem_mem hjl) e
    · exact hcar _ (List.getElem_mem hjl) e
  have hL : (grK K a).L = K.L ++ [grL K a] := by show Le.putL _ _ _ = _; unfold Le.putL; rw [if_pos hput]
  refine ⟨fun l hl => ?_, fun i y hy hmo => ?_, ?_, fun b hb l hl => ?_, fun f => ?_⟩
  · rw [hL] at hl
    rcases List.mem_append.1 hl with hl | hl
    · obtain ⟨x, hx, hb⟩ := h.a l hl
      refine ⟨_, hcat _ x hx, ?_⟩
      rw [if_neg (by have := hcar l hl; have := (hk.okl l hl).1; omega)]
      exact hb
    · rw [List.mem_singleton] at hl
      subst hl
      refine ⟨_, hcat _ x0 hx0, ?_⟩
      rw [if_pos (show ((grL K a).ca.toNat : Int) = nearI K a.fm by show ((nearI K a.fm).toNat : Int) = _; omega)]
      have e : Gr.takeX a.fm x0 = { x0 with mo := 1, ta := a.fm, ho := true } := by unfold Gr.takeX; rw [if_pos hid]
      rw [e]
      exact ⟨rfl, rfl, rfl, fun _ hp => by rcases hp with hp | hp <;> exact absurd (show (1 : Int) = _ from hp) (by decide)⟩
  · rw [hL]
    have hil : i < K.G.cars.length := by rw [← hclen]; exact (List.getElem?_eq_some_iff.1 hy).1
    have hx := List.getElem?_eq_getElem hil
    have hy2 := hcat i _ hx
    have hy' : (takeR K.G (nearI K a.fm) a.fm).1.cars[i]? = some y := hy
    rw [hy'] at hy2
    have e := Option.some.inj hy2
    by_cases hi : (i : Int) = nearI K a.fm
    · exact ⟨grL K a, by simp, hi.symm⟩
    · rw [if_neg hi] at e
      obtain ⟨l, hl, hlc⟩ := h.b i _ hx (e ▸ hmo)
      exact ⟨l, List.mem_append_left _ hl, hlc⟩
  · have h2 : 2 ≤ K.G.cars.countP nrmC := by
      unfold pfB at hpf
      simp only [Bool.or_eq_true, decide_eq_true_eq, not_or] at hpf
      omega
    obtain ⟨i, x, hne, hx, hp⟩ := two_p K.G.cars (nearI K a.fm).toNat h2
    refine ⟨i, _, hcat i x hx, ?_⟩
    rw [if_neg (by omega)]
    unfold nrmC at hp
    simp only [Bool.and_eq_true, beq_iff_eq] at hp
    exact hp.1
  · rw [hL] at hl
    have hb' : b ∈ dropL K.Q a.se := hb
    rw [drop_filter hU.q] at hb'
    obtain ⟨h1, h2⟩ := List.mem_filter.1 hb'
    rcases List.mem_append.1 hl with hl | hl
    · exact h.q b h1 l hl
    · rw [List.mem_singleton] at hl
      subst hl
      show b.se ≠ a.se
      simpa using h2
  · rw [hL]
    show _ ≤ btw (takeR K.G _ _).1.c.qo 1 8
    rw [take_c]
    have e : Fl.cn (K.L ++ [grL K a]) f = Fl.cn K.L f + if a.fl = f then 1 else 0 := by
      unfold Fl.cn
      rw [List.countP_append, List.countP_cons, List.countP_nil]
      simp only [Nat.zero_add]
      congr 1
      by_cases hf : a.fl = f
      · rw [if_pos hf, if_pos]; show (a.fl == f) = true; simpa using hf
      · rw [if_neg hf, if_neg]; show ¬ (a.fl == f) = true; simpa using hf
    rw [e]
    have := h.f f
    by_cases hf : a.fl = f
    · rw [if_pos hf]
      unfold freeB at hfr
      have := of_decide_eq_true hfr
      rw [hf] at this
      omega
    · rw [if_neg hf]; omega
theorem CI.tick (hP : PI c n T K) (hT : T < 1000000) (h : CI [] K) : CI [] (tickK K) := by
  have hn : 0 ≤ K.G.now ∧ K.G.now ≤ 1000000 := ⟨hP.k.now.1, by have := hP.t; omega⟩
  have h1 := tk1_now K hn
  have hn2 : 0 ≤ (tkK1 K).G.now ∧ (tkK1 K).G.now ≤ 1000000 := by rw [h1]; have := hP.t; omega
  refine CI.grant (hP.u.fold _) (hP.k.fold K.L.length) ?_
  unfold foldK
  rw [show K.L.take K.L.length = K.L from List.take_length]
  exact CI.fold hn2 K.L (tkK1 K, []) rfl hP.k.g.1 (hP.u.grp _) (fun y hy => (hP.e y hy).toBn) (fun y hy => .inl hy) hP.u.l (fun y hy => hy) h.tk1
end
end Go.Proofs.YthmikjjnlahlbaaGreat.Lc
