/-
  What is wanted by the last of these texts, part 4.
  No condition.
-/
import Derived.Test.YthmikjjnlahlbaaGreatKG3
import Derived.Great.BuildSlice
import Derived.Great.FillDense
import Derived.Test.YthmikjjnlahlbaaGreatProg
import Derived.Test.YthmikjjnlahlbaaGreatKG1
namespace Go.Proofs.YthmikjjnlahlbaaGreat.En
set_option linter.unusedSectionVars false
set_option linter.unusedVariables false
set_option linter.unusedSimpArgs false
open Go.RowKit Go.Proofs.YthmikjjnlahlbaaGreat.Ba Go.Proofs.YthmikjjnlahlbaaGreat.Mem
section
variable {X : Cx} {m m' : List Row} {ob : List Asr} {w w' : World} {s : St} {a : Act}
theorem run_load_row {t : TypeId} {d : TypeDesc} {g i : Nat} {cs : Array Value} {l : List Value} {tt : TypeId} {P : Program} (hB : Blk w g tt cs) (hl : (cs.toList.drop i).take l.length = l) (hu : P.underlying t = some d) (hd : d.isRow = true) (hi : (P.info? t).map (·.size) = some l.length) :
    (loadVar t ⟨g, i, none⟩).run P w = .ok (.agg l.toArray) w := run_loadVar_mid w g i t l d (range_of hB hl rfl) hu hd hi
theorem run_load_cell {t : TypeId} {d : TypeDesc} {g i : Nat} {cs : Array Value} {v : Value} {tt : TypeId} {P : Program} (hB : Blk w g tt cs) (hv : cs[i]? = some v) (hu : P.underlying t = some d) (hd : d.isRow = false) :
    (loadVar t ⟨g, i, none⟩).run P w = .ok v w := by
  have hc : w.cell? ⟨g, i, none⟩ = some v := (Blk.cell hB i).trans hv
  have hagg : (isAgg t).run P w = .ok false w := by cases d <;> simp_all [isAgg, run_underlying hu, TypeDesc.isRow]
  simp [loadVar, Sem.run_bind, hagg, hc]
/-- How a result is read. -/
def resRun (P : Program) (tm : Array Value) (w : World) (r : ResultVar) (v : Value) : Prop :=
  match r with
  | .tmp t => tm.getD t undef = v
  | .cell p t => (do loadVar t (← asAddr (tm.getD p undef))).run P w = .ok v w
theorem res1_of (hX : X.Ok) (hR : Rel X s a w) {r : ResultVar} {K : SV → Prop} (h : res1 X.tab s r K) : ∃ v, okV s.m.length v = true ∧ resRun X.P a.tmps w r (den s.m v) ∧ K v := by
  cases r with
  | tmp t =>
    obtain ⟨v, hv, hK⟩ := lk_of h
    obtain ⟨h1, h2⟩ := hR.fr t v hv
    exact ⟨v, h1, by simp [resRun, h2], hK⟩
  | cell p t =>
    obtain ⟨v, hv, h⟩ := lk_of h
    obtain ⟨h1, h2⟩ := hR.fr p v hv
    cases v with
    | p j q =>
      obtain ⟨r, hr, h⟩ := nthR_of h
      cases hl : r.live with
      | false => simp only [hl] at h
      | true =>
        simp only [hl] at h
        obtain ⟨y, hy, h⟩ := tyK_of h
        obtain ⟨d, i, T⟩ := (hX.tab _ _ hy).out
        obtain ⟨w1, w2, w3⟩ := hR.h.wf j r hr hl
        have hB := hR.h.row j r hr hl
        have hx : (a.tmps.getD p undef) = .pointer (some ⟨r.g, r.off + q, none⟩) := by simp [h2, den, hr]
        cases hrow : y.row with
        | true =>
          simp only [hrow] at h
          obtain ⟨hlen, h⟩ := tkN_of h
          have hl2 : ((denL s.m r.cs).toArray.toList.drop q).take y.size = denL s.m ((r.cs.drop q).take y.size) := by rw [denL_drop, denL_take]
          have hn : (denL s.m ((r.cs.drop q).take y.size)).length = y.size := by rw [denL_len, List.length_take, List.length_drop]; omega
          refine ⟨.a ((r.cs.drop q).take y.size), okL_sub w1 (fun v hv => List.mem_of_mem_drop (List.mem_of_mem_take hv)), ?_, h⟩
          have := run_load_row (P := X.P) (t := t) hB (i := r.off + q) (l := denL s.m ((r.cs.drop q).take y.size)) (by rw [hn]; exact el_part w2 hl2 (by simp [denL_len]; omega)) T.un (by rw [T.row, hrow]) (by rw [T.inf, hn]; simp [T.size])
          simp only [resRun, hx, asAddr, Sem.run_bind, Sem.run_pure, Result.andThen_ok, this, den]
        | false =>
          simp only [hrow] at h
          obtain ⟨v, hv, h⟩ := nth_of h
          refine ⟨v, okL_at w1 hv, ?_, h⟩
          have hg : (denL s.m r.cs).toArray[q]? = some (den s.m v) := by rw [List.getElem?_toArray, denL_get, hv]; rfl
          have := run_load_cell (P := X.P) (t := t) hB (i := r.off + q) (el_at w2 hg) T.un (by rw [T.row, hrow])
          simp only [resRun, hx, asAddr, Sem.run_bind, Sem.run_pure, Result.andThen_ok, this]
    | _ => exact h.elim
theorem resL_of (hX : X.Ok) (hR : Rel X s a w) : ∀ {rs : List ResultVar} {K : List SV → Prop}, resL X.tab s rs K → ∃ vs, okL s.m.length vs = true ∧ rs.length = vs.length ∧ (∀ (k : Nat) (r : ResultVar) (v : SV), rs[k]? = some r → vs[k]? = some v → resRun X.P a.tmps w r (den s.m v)) ∧ K vs
  | [], K, h => ⟨[], rfl, rfl, fun k r v h => by simp at h, h⟩
  | r :: rs, K, h => by
    obtain ⟨v, h1, h2, h⟩ := res1_of hX hR h
    obtain ⟨vs, k1, k2, k3, h⟩ := resL_of hX hR h
    refine ⟨v :: vs, by simp [okL, h1, k1], by simp [k2], fun k r' v' hr hv => ?_, h⟩
    cases k with
    | zero => simp at hr hv; subst hr hv; exact h2
    | succ k => exact k3 k r' v' (by simpa using hr) (by simpa using hv)
theorem results_of {P : Program} {fn : Func} {tm : Array Value} {vs : List SV} (hlen : fn.results.toList.length = vs.length) (h : ∀ (k : Nat) (r : ResultVar) (v : SV), fn.results.toList[k]? = some r → vs[k]? = some v → resRun P tm w r (den m v)) :
    (results fn tm).run P w = .ok (match vs with | [v] => den m v | vs => .tuple (denL m vs).toArray) w := by
  unfold results
  rw [Array.mapM_eq_mapM_toList, Sem.run_bind, Sem.run_map]
  rw [mapM_run (r := denL m vs) (by rw [denL_len]; exact hlen) (fun k r v hr hv => by
    rw [denL_get] at hv
    cases hq : vs[k]? with
    | none => rw [hq] at hv; cases hv
    | some u =>
      rw [hq] at hv; cases hv
      have := h k r u hr hq
      cases r with
      | tmp t => simp only [resRun] at this; simp only [Sem.run_pure, this]
      | cell p t => exact this)]
  match vs with
  | [] => rfl
  | [v] => rfl
  | _ :: _ :: _ => simp [denL]
theorem fin_of (hX : X.Ok) (hds : X.ds = []) {fn : Func} {R : Ending → World → Prop} (e : Exit) (a : Act) (w : World) (h : Qof X (finK X fn R) e a w) : bodyPost X.P fn R e a w := by
  have key : ∀ s, Rel X s a w → (resL X.tab s fn.results.toList fun vs => match vs with
      | [v] => Fin X R v s
      | vs => Fin X R (.t vs) s) → a.defers = [] ∧ ∃ v, (results fn a.tmps).run X.P w = .ok v w ∧ R (.returned v) w := fun s hR h => by
    obtain ⟨vs, h1, h2, h3, h⟩ := resL_of hX hR h
    refine ⟨hR.ds.trans hds, _, results_of h2 h3, ?_⟩
    match vs with
    | [] => replace h := h.out; exact h w hR.h
    | [v] => replace h := h.out; exact h w hR.h
    | _ :: _ :: _ => replace h := h.out; exact h w hR.h
  cases e with
  | normal => obtain ⟨s, hR, h⟩ := h; exact key s hR h
  | ret => obtain ⟨s, hR, h⟩ := h; exact key s hR h
  | exit id => obtain ⟨s, hR, h⟩ := h; exact h.elim
  | _ => exact h.elim
theorem numb_lk : ∀ {vs : List SV} {k j : Nat} {v : SV}, lkO j (numb k vs) = some v → k ≤ j ∧ vs[j - k]? = some v
  | [], _, _, _, h => by cases h
  | u :: r, k, j, v, h => by
    simp only [numb, lkO] at h
    cases hb : Nat.beq k j with
    | true => rw [hb] at h; have := Nat.eq_of_beq_eq_true hb; subst this; cases h; simp
    | false =>
      rw [hb] at h
      obtain ⟨h1, h2⟩ := numb_lk (vs := r) h
      refine ⟨by omega, ?_⟩
      have : j - k = (j - (k + 1)) + 1 := by omega
      rw [this]; simpa using h2
theorem numbK_of : ∀ {vs : List SV} {k : Nat} {K : List (Nat × SV) → Prop}, numbK k vs K → K (numb k vs)
  | [], _, _, h => h
  | v :: r, k, K, h => numbK_of (vs := r) h
/-- A function is entered. -/
theorem enter (hX : X.Ok) {f : FuncId} {fn : Func} {c : Code} {args : Array Value} {w : World} {R : Ending → World → Prop} (vs : List SV) (m : List Row) (ob : List Asr)
    (hf : X.P.funcs[f]? = some fn) (hH : Hold X m ob w) (hargs : (denL m vs).toArray = args) (h : run X c ⟨numb 0 vs, m, ob⟩ (finK X fn R))
    (hb : fn.body = some c) (hn : Nat.beq fn.ntmps X.n = true := by kernel_rfl) (hd : X.ds = [] := by rfl) (hok : (okL m.length vs && Nat.ble vs.length X.n) = true := by kernel_rfl) : Calls X.P f args w R := by
  simp only [Bool.and_eq_true] at hok
  have hn := Nat.eq_of_beq_eq_true hn
  have hle := Nat.le_of_ble_eq_true hok.2
  refine calls_of_wp hf hb ?_
  have h1 := run_of hX h
  replace h1 := h1.out
  refine Code.wp_mono (fin_of hX hd) (h1 _ _ ⟨hd.symm, ?_, fun k v hv => ?_, hH⟩)
  · subst hargs; simp [denL_len, hn]; omega
  · obtain ⟨_, h2⟩ := numb_lk hv
    simp only [Nat.sub_zero] at h2
    refine ⟨okL_at hok.1 h2, ?_⟩
    subst hargs
    have hlt : k < (denL m vs).toArray.size := by simp [denL_len]; exact (List.getElem?_eq_some_iff.1 h2).1
    rw [Array.getElem?_append_left hlt, List.getElem?_toArray, denL_get, h2]; rfl
/-- At the start: nothing known. -/
theorem Hold.nil (P : Program) (tab : Tab) (S : List Nat) (n : Nat) (w : World) : Hold ⟨P, tab, S, w, n, []⟩ [] [] w :=
  ⟨Upd.refl S w, (by intro j r h; simp at h), (by intro j r h; simp at h), (by intro i j r q h; simp at h), (by intro A h; cases h), (by intro A h; cases h), (by intro A h; cases h), List.Pairwise.nil⟩
theorem br_t {t : Bool} {A B : Prop} (e : t = true) (h : A) : Br t A B := by refine ⟨?_⟩; exact ⟨fun _ => h, (by intro k; rw [e] at k; cases k)⟩
theorem br_f {t : Bool} {A B : Prop} (e : t = false) (h : B) : Br t A B := by refine ⟨?_⟩; exact ⟨(by intro k; rw [e] at k; cases k), fun _ => h⟩
theorem br_b {t : Bool} {A B : Prop} (h : t = true → A) (k : t = false → B) : Br t A B := by refine ⟨?_⟩; exact ⟨h, k⟩
theorem br_not {t : Bool} {A B : Prop} (h : Br t B A) : Br (!t) A B := br_b (fun e => h.out.2 (by simpa using e)) (fun e => h.out.1 (by simpa using e))
theorem br_dec {p : Prop} [Decidable p] {A B : Prop} (h : p → A) (k : ¬ p → B) : Br (decide p) A B := br_b (fun e => h (of_decide_eq_true e)) (fun e => k (of_decide_eq_false e))
theorem br_eq {x y : Int} {A B : Prop} (h : x = y → A) (k : x ≠ y → B) : Br (x == y) A B := br_b (fun e => h (by simpa using e)) (fun e => k (by simpa using e))
theorem br_ne {x y : Int} {A B : Prop} (h : x ≠ y → A) (k : x = y → B) : Br (x != y) A B := br_b (fun e => h (by simpa using e)) (fun e => k (by simpa using e))
theorem wr {k : IntKind} {x z : Int} {K : Int → Prop} (e : k.wrap x = z) (h : K z) : Wr k x K := by refine ⟨?_⟩; rw [e]; exact h
theorem wr_i {x : Int} {K : Int → Prop} (h : K x) (h0 : -9223372036854775808 ≤ x ∧ x ≤ 9223372036854775807 := by omega) : Wr .i64 x K := wr (wr64 x h0.1 h0.2) h
theorem wr_q {x y : Int} {K : Int → Prop} (h : K (x / y)) (hh : (0 ≤ x ∧ x ≤ 9223372036854775807) ∧ 0 < y := by omega) : Wr .i64 (x.tdiv y) K := by
  have h1 : x.tdiv y = x / y := Int.tdiv_eq_ediv_of_nonneg hh.1.1
  refine wr (z := x / y) ?_ h
  rw [h1]
  have h2 : 0 ≤ x / y := Int.ediv_nonneg hh.1.1 (by omega)
  have h3 : x / y ≤ x := Int.ediv_le_self _ hh.1.1
  exact wr64 _ (by omega) (by omega)
theorem cd {p A : Prop} (h : p) (k : A) : Cd p A := by refine ⟨?_⟩; exact ⟨h, k⟩
theorem kpt {keep : List Nat} {m0 m : List Row} {A : Prop} (h : A) (e : keep.map (fun j => m0[j]?) = keep.map (fun j => m[j]?) := by rfl) : Kpt keep m0 m A := by refine ⟨?_⟩; exact ⟨e, h⟩
def entChk (P : Program) (f : FuncId) : Bool := match P.funcs[f]? with
  | some fn => fn.body.isSome && !(fn.name == "runtime.NumGoroutine")
  | none => false
theorem entC {P : Program} {f : FuncId} (h : entChk P f = true) : ∀ args w, (callFunc f args).run P w = .ok (.enter f args) w := by
  unfold entChk at h
  cases hf : P.funcs[f]? with
  | none => simp [hf] at h
  | some fn =>
    simp only [hf, Bool.and_eq_true, Bool.not_eq_true'] at h
    obtain ⟨c, hc⟩ := Option.isSome_iff_exists.1 h.1
    exact enters_of hf h.2 hc
/-- A call that leaves memory as it is, but for new blocks. -/
theorem callS {f : FuncId} {vs : List SV} {K : SV → St → Prop} (v : SV) (hc : ∀ w, Calls X.P f (denL s.m vs).toArray w fun e w' => e = .returned (den s.m v) ∧ Since w w') (h : K v s)
    (he : entChk X.P f = true := by kernel_rfl) (hv : okV s.m.length v = true := by rfl) : CallVC X f vs s K := by
  refine ⟨?_⟩
  refine ⟨entC he, fun w hH => (hc w).mono ?_⟩
  rintro e w' ⟨rfl, hs⟩
  exact ⟨v, s.m, s.ob, rfl, hv, Ext.refl _, hH.since hs, h⟩
theorem rowA_nil {r : Row} (hp : r.pre = []) (hs : r.suf = []) : rowA m r = (denL m r.cs).toArray := by simp [rowA, el, hp, hs]
/-- A call that is handed a known block, and changes it. -/
theorem callR {f : FuncId} {vs : List SV} {K : SV → St → Prop} (j : Nat) {r : Row} (v : SV) (cs : List SV)
    (hc : ∀ w, Blk w r.g r.t (denL s.m r.cs).toArray → Calls X.P f (denL s.m vs).toArray w fun e w' => e = .returned (den s.m v) ∧ Blk w' r.g r.t (denL s.m cs).toArray ∧ Upd [r.g] w w')
    (h : setR j (fun r K => K ⟨r.g, r.t, r.live, r.off, r.pre, cs, r.suf, r.rw⟩) s.m fun m => K v ⟨s.fr, m, s.ob⟩)
    (hr : s.m[j]? = some r := by rfl) (hl : (r.live && r.rw && r.pre.isEmpty && r.suf.isEmpty) = true := by rfl) (he : entChk X.P f = true := by kernel_rfl) (hv : (okV s.m.length v && okL s.m.length cs) = true := by rfl) : CallVC X f vs s K := by
  simp only [Bool.and_eq_true, List.isEmpty_iff] at hl hv
  obtain ⟨⟨⟨h1, hrw⟩, h2⟩, h3⟩ := hl
  obtain ⟨r', hr', h⟩ := setR_of h
  rw [hr] at hr'; cases hr'
  have hE := Ext.set hr cs
  refine ⟨entC he, fun w hH => (hc w (by have := hH.row j r hr h1; rwa [rowA_nil h2 h3] at this)).mono ?_⟩
  rintro e w' ⟨rfl, hb, hu⟩
  refine ⟨v, _, s.ob, by rw [den_ext hE _ hv.1], by rw [List.length_set]; exact hv.1, hE, ?_, h⟩
  obtain ⟨w1, w2, w3⟩ := hH.wf j r hr h1
  refine ⟨hH.upd.comp hu (fun g hg => by rw [List.mem_singleton] at hg; subst hg; exact w3 hrw), fun i q hi hq => ?_, fun i q hi hq => ?_, fun i k q q' hi hk hq hq' hne => ?_, fun A hA => A.up hu (fun g hg hgr => hH.far A hA j r hr h1 (by rw [List.mem_singleton] at hgr; exact hgr ▸ hg)) (hH.obj A hA), fun A hA i q hi hq => ?_, hH.own, hH.dis⟩
  · rcases getElem?_set_or hi with ⟨rfl, rfl⟩ | ⟨hne, hi⟩
    · rw [rowA_ext hE hv.2, rowA_nil (r := ⟨r.g, r.t, r.live, r.off, r.pre, cs, r.suf, r.rw⟩) h2 h3]; exact hb
    · rw [rowA_ext hE (hH.wf i q hi hq).1]
      exact hu.blk (hH.row i q hi hq) (fun hm => hH.ne i j q r hi hr hq h1 (Ne.symm hne) (List.mem_singleton.1 hm))
  · rw [List.length_set]
    rcases getElem?_set_or hi with ⟨rfl, rfl⟩ | ⟨hne, hi⟩
    · exact ⟨hv.2, w2, w3⟩
    · exact hH.wf i q hi hq
  · rcases getElem?_set_or hi with ⟨rfl, rfl⟩ | ⟨hn1, hi⟩ <;> rcases getElem?_set_or hk with ⟨rfl, rfl⟩ | ⟨hn2, hk⟩
    · exact absurd rfl hne
    · exact hH.ne j k r q' hr hk h1 hq' hne
    · exact hH.ne i j q r hi hr hq h1 hne
    · exact hH.ne i k q q' hi hk hq hq' hne
  · rcases getElem?_set_or hi with ⟨rfl, rfl⟩ | ⟨hne, hi⟩
    · exact hH.far A hA j r hr h1
    · exact hH.far A hA i q hi hq
theorem fin {R : Ending → World → Prop} {v : SV} (h : ∀ w, Hold X s.m s.ob w → R (.returned (den s.m v)) w) : Fin X R v s := by refine ⟨?_⟩; exact h
/-- A function that changes nothing but new blocks. -/
theorem fin_s {v : SV} {V : Value} {P : Program} {T : Tab} {w : World} {n : Nat} {ds : List Deferred} (h : den s.m v = V) : Fin ⟨P, T, [], w, n, ds⟩ (fun e w' => e = .returned V ∧ Since w w') v s :=
  fin fun w' hH => ⟨by rw [h], hH.upd.since⟩
theorem Hold.out (h : Hold X m ob w) (hS : X.S = []) : Since X.w0 w := (hS ▸ h.upd).since
/-- A function is entered, with nothing known of memory. -/
theorem ent {P : Program} {T : Tab} (hT : TabOk P T) {f : FuncId} {fn : Func} {c : Code} {n : Nat} {args : Array Value} {w : World} {R : Ending → World → Prop} (vs : List SV)
    (hf : P.funcs[f]? = some fn) (hn : fn.ntmps = n) (hb : fn.body = some c) (hargs : (denL [] vs).toArray = args) (h : numbK 0 vs fun fr => run ⟨P, T, [], w, n, []⟩ c ⟨fr, [], []⟩ (finK ⟨P, T, [], w, n, []⟩ fn R))
    (hok : (okL 0 vs && Nat.ble vs.length n) = true := by kernel_rfl) : Calls P f args w R :=
  enter (X := ⟨P, T, [], w, n, []⟩) ⟨hT⟩ vs [] [] hf (Hold.nil P T [] n w) hargs (c := c) (numbK_of h) hb (by rw [hn]; simp) rfl hok
/-- A function is entered, with one block known that it may change. -/
theorem entR {P : Program} {T : Tab} (hT : TabOk P T) {f : FuncId} {fn : Func} {c : Code} {n : Nat} {args : Array Value} {w : World} {R : Ending → World → Prop} {q : Nat} {t : TypeId} {cells : Array Value} (hB : Blk w q t cells) (cs vs : List SV)
    (hcs : (denL [⟨q, t, true, 0, [], cs, [], true⟩] cs).toArray = cells)
    (hf : P.funcs[f]? = some fn) (hn : fn.ntmps = n) (hb : fn.body = some c) (hargs : (denL [⟨q, t, true, 0, [], cs, [], true⟩] vs).toArray = args)
    (h : numbK 0 vs fun fr => run ⟨P, T, [q], w, n, []⟩ c ⟨fr, [⟨q, t, true, 0, [], cs, [], true⟩], []⟩ (finK ⟨P, T, [q], w, n, []⟩ fn R))
    (hok : (okL 1 vs && Nat.ble vs.length n) = true := by kernel_rfl) (hk : okL 1 cs = true := by rfl) : Calls P f args w R := by
  refine enter (X := ⟨P, T, [q], w, n, []⟩) ⟨hT⟩ vs [⟨q, t, true, 0, [], cs, [], true⟩] [] hf ?_ hargs (c := c) (numbK_of h) hb (by rw [hn]; simp) rfl hok
  have one : ∀ (j : Nat) (r : Row), ([⟨q, t, true, 0, [], cs, [], true⟩] : List Row)[j]? = some r → j = 0 ∧ r = ⟨q, t, true, 0, [], cs, [], true⟩ := fun j r h => by
    cases j with
    | zero => simp at h; exact ⟨rfl, h.symm⟩
    | succ j => simp at h
  refine ⟨Upd.refl _ w, fun j r hj hl => ?_, fun j r hj hl => ?_, fun i j r r' hi hj _ _ hne => ?_, (by intro A h; cases h), (by intro A h; cases h), (by intro A h; cases h), List.Pairwise.nil⟩
  · obtain ⟨rfl, rfl⟩ := one j r hj
    rw [rowA_nil rfl rfl]
    subst hcs; exact hB
  · obtain ⟨rfl, rfl⟩ := one j r hj
    exact ⟨hk, rfl, fun _ => .inl (by simp)⟩
  · exact absurd ((one i r hi).1.trans (one j r' hj).1.symm) hne
/-- Such a one ends. -/
theorem fin_r {v : SV} {V : Value} {P : Program} {T : Tab} {w : World} {n q : Nat} {t : TypeId} {cells : Array Value} {cs : List SV} {rest : List Row} {fr : List (Nat × SV)} {ob : List Asr} (h : den (⟨q, t, true, 0, [], cs, [], true⟩ :: rest) v = V) (hc : (denL (⟨q, t, true, 0, [], cs, [], true⟩ :: rest) cs).toArray = cells) :
    Fin ⟨P, T, [q], w, n, []⟩ (fun e w' => e = .returned V ∧ Blk w' q t cells ∧ Upd [q] w w') v ⟨fr, ⟨q, t, true, 0, [], cs, [], true⟩ :: rest, ob⟩ :=
  fin fun w' hH => ⟨by rw [← h], by have := hH.row 0 _ rfl rfl; rw [rowA_nil rfl rfl] at this; subst hc; exact this, hH.upd⟩
end
end Go.Proofs.YthmikjjnlahlbaaGreat.En
namespace Go.Proofs.YthmikjjnlahlbaaGreat.En
set_option linter.unusedSectionVars false
set_option linter.unusedVariables false
set_option linter.unusedSimpArgs false
open Go.RowKit Go.Proofs.YthmikjjnlahlbaaGreat.Ba Go.Proofs.YthmikjjnlahlbaaGreat.Mem
/-- What holds of one state holds of the other. -/
structure Wk (X : Cx) (s s' : St) : Prop where
  out : ∀ (a : Act) (w : World), Rel X s a w → Rel X s' a w
structure Back (X : Cx) {ι : Type} (I : ι → St) (μ : ι → Nat) (x : ι) (s : St) : Prop where
  out : ∃ y, μ y < μ x ∧ Wk X s (I y)
def lpK (X : Cx) {ι : Type} (I : ι → St) (μ : ι → Nat) (x : ι) (K : Exit → St → Prop) (e : Exit) (s : St) : Prop :=
  match e with
  | .normal => Back X I μ x s
  | e => K e s
def frW (s : St) (m' : List Row) : List (Nat × SV) → Prop
  | [] => True
  | (k, v') :: r => (match lkO k s.fr with | some v => den s.m v = den m' v' ∧ okV m'.length v' = true | none => False) ∧ frW s m' r
def setO : Nat → Asr → List Asr → (List Asr → Prop) → Prop
  | _, _, [], _ => False
  | 0, B, _ :: r, K => K (B :: r)
  | i + 1, B, A :: r, K => setO i B r fun l => K (A :: l)
def appO : List Asr → Asr → (List Asr → Prop) → Prop
  | [], B, K => K [B]
  | A :: r, B, K => appO r B fun l => K (A :: l)
section
variable {X : Cx} {m m' : List Row} {ob : List Asr} {w w' : World} {s : St} {a : Act}
theorem Wk.of_rows {s s' : St} (hm : s'.m = s.m.take s'.m.length) (hok : ∀ (j : Nat) (r : Row), s'.m[j]? = some r → r.live = true → okL s'.m.length r.cs = true) (hob : s'.ob = s.ob) (hfr : frW s s'.m s'.fr) : Wk X s s' := by
  have hlen : s'.m.length ≤ s.m.length := by rw [hm, List.length_take]; omega
  have hE : Ext s'.m s.m := fun j r h => ⟨r, by
    rw [hm] at h
    have hj := (List.getElem?_eq_some_iff.1 h).1
    rw [List.length_take] at hj
    rwa [List.getElem?_take_of_lt (by omega)] at h, rfl, rfl⟩
  refine ⟨fun a w hR => ⟨hR.ds, hR.sz, ?_, ?_⟩⟩
  · have key : ∀ l : List (Nat × SV), frW s s'.m l → FrOk s'.m a.tmps l := fun l => by
      induction l with
      | nil => intro _ k v hv; cases hv
      | cons q r ih =>
        obtain ⟨k0, v0⟩ := q
        intro h k v hv
        obtain ⟨h1, h2⟩ := h
        simp only [lkO] at hv
        cases hb : Nat.beq k0 k with
        | false => rw [hb] at hv; exact ih h2 k v hv
        | true =>
          rw [hb] at hv; cases hv
          have := Nat.eq_of_beq_eq_true hb
          subst this
          cases hl : lkO k0 s.fr with
          | none => rw [hl] at h1; exact h1.elim
          | some u =>
            rw [hl] at h1
            obtain ⟨_, h4⟩ := hR.fr k0 u hl
            exact ⟨h1.2, by rw [h4, h1.1]⟩
    exact key _ hfr
  · have hrow : ∀ (j : Nat) (r : Row), s'.m[j]? = some r → s.m[j]? = some r := fun j r h => by
      rw [hm] at h
      have hj := (List.getElem?_eq_some_iff.1 h).1
      rw [List.length_take] at hj
      rwa [List.getElem?_take_of_lt (by omega)] at h
    have H := hR.h
    refine ⟨H.upd, fun j r hj hl => ?_, fun j r hj hl => ?_, fun i j r q hi hj hr hq hne => H.ne i j r q (hrow i r hi) (hrow j q hj) hr hq hne, ?_, ?_, ?_, ?_⟩
    · have := H.row j r (hrow j r hj) hl
      rwa [rowA_ext hE (hok j r hj hl)] at this
    · obtain ⟨w1, w2, w3⟩ := H.wf j r (hrow j r hj) hl
      exact ⟨hok j r hj hl, w2, w3⟩
    · rw [hob]; exact H.obj
    · rw [hob]; exact fun A hA j r hj hl => H.far A hA j r (hrow j r hj) hl
    · rw [hob]; exact H.own
    · rw [hob]; exact H.dis
/-- The same with what is asked as one truth that Lean reckons. -/
def rowsOk (n : Nat) : List Row → Bool
  | [] => true
  | r :: m => okL n r.cs && rowsOk n m
theorem rowsOk_of {n : Nat} : ∀ {l : List Row}, rowsOk n l = true → ∀ (j : Nat) (r : Row), l[j]? = some r → okL n r.cs = true
  | [], _, j, r, h => by simp at h
  | x :: l, h, 0, r, hr => by simp at hr; subst hr; unfold rowsOk at h; simp only [Bool.and_eq_true] at h; exact h.1
  | x :: l, h, j + 1, r, hr => by unfold rowsOk at h; simp only [Bool.and_eq_true] at h; exact rowsOk_of h.2 j r (by simpa using hr)
theorem wk {s s' : St} (hfr : frW s s'.m s'.fr) (hm : s'.m = s.m.take s'.m.length := by rfl) (hok : rowsOk s'.m.length s'.m = true := by rfl) (hob : s'.ob = s.ob := by rfl) : Wk X s s' :=
  Wk.of_rows hm (fun j r h _ => rowsOk_of hok j r h) hob hfr
/-- A loop. -/
theorem lp (hX : X.Ok) {ι : Type} (I : ι → St) (μ : ι → Nat) (x0 : ι) {c : Code} {K : Exit → St → Prop} (h0 : Wk X s (I x0)) (hr : ∀ x, run X c (I x) (lpK X I μ x K)) : Sm X (.loop c) s K := by
  classical
  refine ⟨fun a w hR => ?_⟩
  let p : Act → World → Nat → Prop := fun a w n => ∃ x, Rel X (I x) a w ∧ μ x = n
  have least : ∀ n, ∀ {a : Act} {w : World}, p a w n → ∃ m, p a w m ∧ ∀ k, p a w k → m ≤ k := by
    intro n
    induction n using Nat.strongRecOn with
    | _ n ih =>
      intro a w hn
      by_cases h : ∃ k, k < n ∧ p a w k
      · obtain ⟨k, hk, hp⟩ := h; exact ih k hk hp
      · exact ⟨n, hn, fun k hk => Nat.le_of_not_lt fun hl => h ⟨k, hl, hk⟩⟩
  refine wp_loop (fun a w => ∃ n, p a w n) (fun a w => if h : ∃ m, p a w m ∧ ∀ k, p a w k → m ≤ k then h.choose else 0) ⟨_, x0, h0.out a w hR, rfl⟩ ?_
  rintro a w ⟨n1, hp1⟩
  have hm := least n1 hp1
  obtain ⟨⟨x, hx, hxn⟩, hmin⟩ := hm.choose_spec
  have hs := (run_of hX (hr x)).out a w hx
  refine Code.wp_mono (fun e a' w' hq => ?_) hs
  cases e with
  | normal =>
    obtain ⟨s', r', hb⟩ := hq
    obtain ⟨y, hlt, hw⟩ := hb.out
    have hy := hw.out a' w' r'
    refine ⟨⟨μ y, y, hy, rfl⟩, ?_⟩
    have hm' := least (μ y) (show p a' w' (μ y) from ⟨y, hy, rfl⟩)
    rw [dif_pos hm', dif_pos hm]
    have h1 := hm'.choose_spec.2 (μ y) ⟨y, hy, rfl⟩
    omega
  | exit id => exact hq
  | ret => exact hq
  | _ => exact hq.elim
theorem back {ι : Type} {I : ι → St} {μ : ι → Nat} {x : ι} (y : ι) (h : Wk X s (I y)) (hm : μ y < μ x := by omega) : Back X I μ x s := ⟨⟨y, hm, h⟩⟩
theorem setO_of {B : Asr} : ∀ {i : Nat} {l : List Asr} {K : List Asr → Prop}, setO i B l K → K (l.set i B)
  | 0, [], _, h => False.elim h
  | _ + 1, [], _, h => False.elim h
  | 0, _ :: _, _, h => h
  | i + 1, A :: r, K, h => by have := setO_of (l := r) h; simpa using this
theorem appO_of {B : Asr} : ∀ {l : List Asr} {K : List Asr → Prop}, appO l B K → K (l ++ [B])
  | [], _, h => h
  | A :: r, K, h => by have := appO_of (l := r) h; simpa using this
/-- A call that only reads, with all that holds at hand. -/
theorem callH {f : FuncId} {vs : List SV} {K : SV → St → Prop} (v : SV) (hc : ∀ w, Hold X s.m s.ob w → Calls X.P f (denL s.m vs).toArray w fun e w' => e = .returned (den s.m v) ∧ Since w w') (h : K v s)
    (he : entChk X.P f = true := by kernel_rfl) (hv : okV s.m.length v = true := by rfl) : CallVC X f vs s K := by
  refine ⟨entC he, fun w hH => (hc w hH).mono ?_⟩
  rintro e w' ⟨rfl, hs⟩
  exact ⟨v, s.m, s.ob, rfl, hv, Ext.refl _, hH.since hs, h⟩
theorem mem_set_or {α : Type} {l : List α} {i : Nat} {x y : α} (h : y ∈ l.set i x) : y = x ∨ ∃ j, j ≠ i ∧ l[j]? = some y := by
  obtain ⟨j, hj⟩ := List.mem_iff_getElem?.1 h
  rcases getElem?_set_or hj with ⟨_, rfl⟩ | ⟨hne, hj⟩
  · exact .inl rfl
  · exact .inr ⟨j, fun e => hne e.symm, hj⟩
theorem pair_at {R : Asr → Asr → Prop} (hR : ∀ A B, R A B → R B A) {l : List Asr} (h : l.Pairwise R) {i j : Nat} {A B : Asr} (hi : l[i]? = some A) (hj : l[j]? = some B) (hne : i ≠ j) : R A B := by
  obtain ⟨h1, rfl⟩ := List.getElem?_eq_some_iff.1 hi
  obtain ⟨h2, rfl⟩ := List.getElem?_eq_some_iff.1 hj
  rcases Nat.lt_or_gt_of_ne hne with hlt | hlt
  · exact List.pairwise_iff_getElem.1 h i j h1 h2 hlt
  · exact hR _ _ (List.pairwise_iff_getElem.1 h j i h2 h1 hlt)
def DisR (A B : Asr) : Prop := A.rw = true ∨ B.rw = true → ∀ g ∈ A.F, g ∉ B.F
theorem DisR.symm {A B : Asr} (h : DisR A B) : DisR B A := fun k g hg hg' => h k.symm g hg' hg
theorem pair_of {l : List Asr} (h : ∀ (i j : Nat) (A B : Asr), i ≠ j → l[i]? = some A → l[j]? = some B → DisR A B) : l.Pairwise fun A B => A.rw = true ∨ B.rw = true → ∀ g ∈ A.F, g ∉ B.F := by
  rw [List.pairwise_iff_getElem]
  intro i j hi hj hlt
  exact h i j _ _ (by omega) (List.getElem?_eq_getElem hi) (List.getElem?_eq_getElem hj)
/-- An object is changed. -/
theorem Hold.obj_set (h : Hold X m ob w) {i : Nat} {A B : Asr} (hA : ob[i]? = some A) (hrw : A.rw = true) (hB : B.st w') (hu : Upd A.F w w') (hF : ∀ g ∈ B.F, g ∈ A.F ∨ w.heap.size ≤ g) : Hold X m (ob.set i B) w' := by
  have hmem : A ∈ ob := List.mem_of_getElem? hA
  have hdis : ∀ (j : Nat) (C : Asr), ob[j]? = some C → j ≠ i → ∀ g ∈ C.F, g ∉ A.F := fun j C hC hne => pair_at (R := DisR) (fun _ _ h => h.symm) h.dis hC hA hne (.inr hrw)
  refine ⟨h.upd.comp hu (h.own A hmem hrw), fun j r hj hl => hu.blk (h.row j r hj hl) (h.far A hmem j r hj hl), h.wf, h.ne, fun C hC => ?_, fun C hC j r hj hl => ?_, fun C hC hr g hg => ?_, pair_of fun j k C D hne hC hD => ?_⟩
  · rcases mem_set_or hC with rfl | ⟨j, hne, hC⟩
    · exact hB
    · exact C.up hu (hdis j C hC hne) (h.obj C (List.mem_of_getElem? hC))
  · rcases mem_set_or hC with rfl | ⟨k, hne, hC⟩
    · intro hg
      rcases hF _ hg with h1 | h1
      · exact h.far A hmem j r hj hl h1
      · have := (h.row j r hj hl).lt; omega
    · exact h.far C (List.mem_of_getElem? hC) j r hj hl
  · rcases mem_set_or hC with rfl | ⟨k, hne, hC⟩
    · rcases hF _ hg with h1 | h1
      · exact h.own A hmem hrw g h1
      · exact .inr (Nat.le_trans h.upd.size h1)
    · exact h.own C (List.mem_of_getElem? hC) hr g hg
  · have far : ∀ (j : Nat) (C : Asr), ob[j]? = some C → j ≠ i → ∀ g ∈ C.F, g ∉ B.F := fun j C hC hne g hg hgB => by
      rcases hF g hgB with h1 | h1
      · exact hdis j C hC hne g hg h1
      · have := C.lt (h.obj C (List.mem_of_getElem? hC)) g hg; omega
    rcases getElem?_set_or hC with ⟨rfl, rfl⟩ | ⟨n1, hC2⟩ <;> rcases getElem?_set_or hD with ⟨rfl, rfl⟩ | ⟨n2, hD2⟩
    · exact absurd rfl hne
    · exact fun _ g hg hgD => far k D hD2 (Ne.symm hne) g hgD hg
    · exact fun _ => far j C hC2 hne
    · exact pair_at (R := DisR) (fun _ _ h => h.symm) h.dis hC2 hD2 hne
/-- A call that changes an object. -/
theorem callO {ι : Type} {f : FuncId} {vs : List SV} {K : SV → St → Prop} (i : Nat) {A : Asr} (v : ι → SV) (B : ι → Asr)
    (hc : ∀ w, Hold X s.m s.ob w → A.st w → Calls X.P f (denL s.m vs).toArray w fun e w' => ∃ x, e = .returned (den s.m (v x)) ∧ (B x).st w' ∧ Upd A.F w w' ∧ ∀ g ∈ (B x).F, g ∈ A.F ∨ w.heap.size ≤ g)
    (h : ∀ x, setO i (B x) s.ob fun ob => K (v x) ⟨s.fr, s.m, ob⟩) (hA : s.ob[i]? = some A := by rfl) (hrw : A.rw = true := by rfl)
    (he : entChk X.P f = true := by kernel_rfl) (hv : ∀ x, okV s.m.length (v x) = true := by intro x; rfl) : CallVC X f vs s K := by
  refine ⟨entC he, fun w hH => (hc w hH (hH.obj A (List.mem_of_getElem? hA))).mono ?_⟩
  rintro e w' ⟨x, rfl, h1, h2, h3⟩
  exact ⟨v x, s.m, s.ob.set i (B x), rfl, hv x, Ext.refl _, hH.obj_set hA hrw h1 h2 h3, setO_of (h x)⟩
/-- A new object. -/
theorem Hold.obj_new (h : Hold X m ob w) {B : Asr} (hB : B.st w') (hu : Since w w') (hF : ∀ g ∈ B.F, w.heap.size ≤ g) : Hold X m (ob ++ [B]) w' := by
  have h2 := h.since hu
  refine ⟨h2.upd, h2.row, h2.wf, h2.ne, fun C hC => ?_, fun C hC j r hj hl => ?_, fun C hC hr g hg => ?_, ?_⟩
  · rcases List.mem_append.1 hC with hC | hC
    · exact h2.obj C hC
    · rw [List.mem_singleton] at hC; subst hC; exact hB
  · rcases List.mem_append.1 hC with hC | hC
    · exact h2.far C hC j r hj hl
    · rw [List.mem_singleton] at hC; subst hC
      intro hg
      have := (h.row j r hj hl).lt; have := hF _ hg; omega
  · rcases List.mem_append.1 hC with hC | hC
    · exact h2.own C hC hr g hg
    · rw [List.mem_singleton] at hC; subst hC
      exact .inr (Nat.le_trans h.upd.size (hF _ hg))
  · rw [List.pairwise_append]
    refine ⟨h.dis, List.pairwise_singleton _ _, fun C hC D hD _ g hg hgD => ?_⟩
    rw [List.mem_singleton] at hD; subst hD
    have := C.lt (h.obj C hC) g hg; have := hF _ hgD; omega
theorem callN {ι : Type} {f : FuncId} {vs : List SV} {K : SV → St → Prop} (v : ι → SV) (B : ι → Asr)
    (hc : ∀ w, Hold X s.m s.ob w → Calls X.P f (denL s.m vs).toArray w fun e w' => ∃ x, e = .returned (den s.m (v x)) ∧ (B x).st w' ∧ Since w w' ∧ ∀ g ∈ (B x).F, w.heap.size ≤ g)
    (h : ∀ x, appO s.ob (B x) fun ob => K (v x) ⟨s.fr, s.m, ob⟩)
    (he : entChk X.P f = true := by kernel_rfl) (hv : ∀ x, okV s.m.length (v x) = true := by intro x; rfl) : CallVC X f vs s K := by
  refine ⟨entC he, fun w hH => (hc w hH).mono ?_⟩
  rintro e w' ⟨x, rfl, h1, h2, h3⟩
  exact ⟨v x, s.m, s.ob ++ [B x], rfl, hv x, Ext.refl _, hH.obj_new h1 h2 h3, appO_of (h x)⟩
/-- A block is known besides; so is an object. -/
theorem Hold.addRow (h : Hold X m ob w) (r : Row) (hB : Blk w r.g r.t (rowA (m ++ [r]) r)) (hS : r.rw = true → r.g ∈ X.S ∨ X.w0.heap.size ≤ r.g) (hne : ∀ q ∈ m, q.live = true → q.g ≠ r.g) (hfar : ∀ A ∈ ob, r.g ∉ A.F)
    (hok : okL (m.length + 1) r.cs = true := by rfl) (hoff : r.pre.length = r.off := by rfl) : Hold X (m ++ [r]) ob w := by
  have hE := Ext.app m [r]
  have hlen : (m ++ [r]).length = m.length + 1 := by simp
  refine ⟨h.upd, fun j q hj hl => ?_, fun j q hj hl => ?_, fun i j q q' hi hj hq hq' hn => ?_, h.obj, fun A hA j q hj hl => ?_, h.own, h.dis⟩
  · rcases getElem?_snoc hj with hj | ⟨_, rfl⟩
    · rw [rowA_ext hE (h.wf j q hj hl).1]; exact h.row j q hj hl
    · exact hB
  · rcases getElem?_snoc hj with hj | ⟨_, rfl⟩
    · obtain ⟨w1, w2, w3⟩ := h.wf j q hj hl
      exact ⟨okL_mono (by rw [hlen]; omega) _ w1, w2, w3⟩
    · exact ⟨by rw [hlen]; exact hok, hoff, hS⟩
  · rcases getElem?_snoc hi with hi2 | ⟨rfl, rfl⟩ <;> rcases getElem?_snoc hj with hj2 | ⟨rfl, rfl⟩
    · exact h.ne i j q q' hi2 hj2 hq hq' hn
    · exact hne q (List.mem_of_getElem? hi2) hq
    · exact (hne q' (List.mem_of_getElem? hj2) hq').symm
    · exact absurd rfl hn
  · rcases getElem?_snoc hj with hj | ⟨_, rfl⟩
    · exact h.far A hA j q hj hl
    · exact hfar A hA
theorem Hold.addObj (h : Hold X m ob w) (B : Asr) (hB : B.st w) (hown : B.rw = true → ∀ g ∈ B.F, g ∈ X.S ∨ X.w0.heap.size ≤ g) (hfar : ∀ r ∈ m, r.live = true → r.g ∉ B.F) (hdis : ∀ A ∈ ob, DisR A B) : Hold X m (ob ++ [B]) w := by
  refine ⟨h.upd, h.row, h.wf, h.ne, fun C hC => ?_, fun C hC j r hj hl => ?_, fun C hC hr g hg => ?_, ?_⟩
  · rcases List.mem_append.1 hC with hC | hC
    · exact h.obj C hC
    · rw [List.mem_singleton] at hC; subst hC; exact hB
  · rcases List.mem_append.1 hC with hC | hC
    · exact h.far C hC j r hj hl
    · rw [List.mem_singleton] at hC; subst hC; exact hfar r (List.mem_of_getElem? hj) hl
  · rcases List.mem_append.1 hC with hC | hC
    · exact h.own C hC hr g hg
    · rw [List.mem_singleton] at hC; subst hC; exact hown hr g hg
  · rw [List.pairwise_append]
    refine ⟨h.dis, List.pairwise_singleton _ _, fun C hC D hD => ?_⟩
    rw [List.mem_singleton] at hD; subst hD
    exact hdis C hC
/-- A function is entered, whatever is known. -/
theorem entH {P : Program} {T : Tab} (hT : TabOk P T) {f : FuncId} {fn : Func} {c : Code} {n : Nat} {args : Array Value} {w : World} {R : Ending → World → Prop} {S : List Nat} {m : List Row} {ob : List Asr} (hH : Hold ⟨P, T, S, w, n, []⟩ m ob w) (vs : List SV)
    (hf : P.funcs[f]? = some fn) (hn : fn.ntmps = n) (hb : fn.body = some c) (hargs : (denL m vs).toArray = args)
    (h : numbK 0 vs fun fr => run ⟨P, T, S, w, n, []⟩ c ⟨fr, m, ob⟩ (finK ⟨P, T, S, w, n, []⟩ fn R))
    (hok : (okL m.length vs && Nat.ble vs.length n) = true := by rfl) : Calls P f args w R :=
  enter (X := ⟨P, T, S, w, n, []⟩) ⟨hT⟩ vs m ob hf hH hargs (c := c) (numbK_of h) hb (by rw [hn]; simp) rfl hok
/-- What an operand is. -/
def evO (x : Operand) (fr : List (Nat × SV)) : Option SV :=
  match x with
  | .tmp t => lkO t fr
  | .const (.int k n) => some (.i k n)
  | .const (.bool b) => some (.b b)
  | .const c => some (.v c)
  | _ => none
theorem evO_of {x : Operand} {fr : List (Nat × SV)} {v : SV} (hf : FrOk m a.tmps fr) (h : evO x fr = some v) : okV m.length v = true ∧ a.eval x = den m v := by
  unfold evO at h
  split at h
  · rename_i t
    obtain ⟨h1, h2⟩ := hf t v h
    exact ⟨h1, by simp [Act.eval, h2]⟩
  · cases h; exact ⟨rfl, rfl⟩
  · cases h; exact ⟨rfl, rfl⟩
  · cases h; exact ⟨rfl, rfl⟩
  · cases h
/-- An operation that yields, with all that holds at hand. -/
theorem opq {o : Oper} {K : St → Prop} (v : SV) (he : ∀ (a : Act) (w : World), FrOk s.m a.tmps s.fr → Hold X s.m s.ob w → (execOp a.eval o).run X.P w = .ok (.value (den s.m v)) w) (h : put X.n o.dst v s K) (hv : okV s.m.length v = true := by rfl) : OpVC X o s K := ⟨fun a w Q hR => by
  obtain ⟨s', r1, r2, r3, r4⟩ := put_of hR.ds hR.sz hR.fr hR.h hv h
  exact wp_q _ (he a w hR.fr hR.h) ⟨s', r1, by rw [r2]; exact Ext.refl _, r4⟩⟩
/-- A struct is loaded out of a row that is told as an object. -/
theorem opld {o : Oper} {K : St → Prop} {t : TypeId} {x : Operand} {g off : Nat} (cs : List SV) (hr : ∀ w, Hold X s.m s.ob w → w.rangeAt g off (denL s.m cs)) (h : put X.n o.dst (.a cs) s K) (hX : X.Ok)
    (ho : o.op = .load t x := by rfl) (hx : evO x s.fr = some (.v (.pointer (some ⟨g, off, none⟩))) := by rfl) (hn : (match tyO t X.tab with | some y => y.row && Nat.beq y.size cs.length | none => false) = true := by rfl) (hv : okV s.m.length (.a cs) = true := by rfl) : OpVC X o s K :=
  opq (.a cs) (fun a w hf hH => by
    cases hy : tyO t X.tab with
    | none => simp [hy] at hn
    | some y =>
      simp only [hy, Bool.and_eq_true] at hn
      obtain ⟨d, i, T⟩ := (hX.tab _ _ hy).out
      have he := (evO_of hf hx).2
      have hl := run_loadVar_mid (P := X.P) w g off t (denL s.m cs) d (hr w hH) T.un (by rw [T.row, hn.1]) (by rw [T.inf]; simp [T.size, denL_len, Nat.eq_of_beq_eq_true hn.2])
      unfold execOp
      simp only [ho, he, den, Instr.loadAt, Instr.sureAddr, Sem.run_bind, Sem.run_pure, Result.andThen_ok, hl]) h hv
/-- The same at an element of a row, whose place was reckoned. -/
theorem opix {o : Oper} {K : St → Prop} {t : TypeId} {x : Operand} {g off : Nat} {ad : Addr} (cs : List SV) (hr : ∀ w, Hold X s.m s.ob w → w.rangeAt g off (denL s.m cs)) (hX : X.Ok) (ho : o.op = .load t x) (hx : evO x s.fr = some (.v (.pointer (some ad)))) (had : ad = ⟨g, off, none⟩) (h : put X.n o.dst (.a cs) s K)
    (hn : (match tyO t X.tab with | some y => y.row && Nat.beq y.size cs.length | none => false) = true := by rfl) (hv : okV s.m.length (.a cs) = true := by rfl) : OpVC X o s K := by
  subst had
  exact opld cs hr h hX ho hx hn hv
/-- It ends, with one block known by a part that it may change. -/
theorem fin_e {v : SV} {V : Value} {P : Program} {T : Tab} {w : World} {n g off : Nat} {t : TypeId} {pre suf : List Value} {cells : Array Value} {cs : List SV} {rest : List Row} {fr : List (Nat × SV)} {ob : List Asr} (h : den (⟨g, t, true, off, pre, cs, suf, true⟩ :: rest) v = V) (hc : (denL (⟨g, t, true, off, pre, cs, suf, true⟩ :: rest) cs).toArray = cells) :
    Fin ⟨P, T, [g], w, n, []⟩ (fun e w' => e = .returned V ∧ Blk w' g t (el pre cells suf) ∧ Upd [g] w w') v ⟨fr, ⟨g, t, true, off, pre, cs, suf, true⟩ :: rest, ob⟩ :=
  fin fun w' hH => ⟨by rw [← h], by have := hH.row 0 _ rfl rfl; unfold rowA at this; subst hc; exact this, hH.upd⟩
/-- A part of a block that may change. -/
theorem hold_e0 {P : Program} {T : Tab} {w : World} {n g off : Nat} {t : TypeId} {pre suf : List Value} {cells : Array Value} (cs : List SV) (hb : Blk w g t (el pre cells suf)) (hp : pre.length = off)
    (hcs : (denL [] cs).toArray = cells) (hok : okL 0 cs = true := by rfl) : Hold ⟨P, T, [g], w, n, []⟩ [⟨g, t, true, off, pre, cs, suf, true⟩] [] w :=
  Hold.addRow (m := []) (Hold.nil P T [g] n w) ⟨g, t, true, off, pre, cs, suf, true⟩ (by show Blk w g t (el pre (denL _ cs).toArray suf); rw [denL0 hok, hcs]; exact hb) (fun _ => .inl (by simp)) (by intro q hq; cases hq) (by intro A hA; cases hA) (okL_mono (Nat.zero_le _) _ hok) hp
/-- A part of a block that may change, and a box of one value that may not. -/
theorem hold_e1 {P : Program} {T : Tab} {w : World} {n g off cp : Nat} {t tc : TypeId} {pre suf : List Value} {cells : Array Value} {v : Value} (cs : List SV) (c : SV) (hb : Blk w g t (el pre cells suf)) (hp : pre.length = off) (hcp : Blk w cp tc #[v]) (hne : t ≠ tc)
    (hcs : (denL [] cs).toArray = cells) (hc : den [] c = v) (hok : okL 0 (c :: cs) = true := by rfl) : Hold ⟨P, T, [g], w, n, []⟩ [⟨g, t, true, off, pre, cs, suf, true⟩, ⟨cp, tc, true, 0, [], [c], [], false⟩] [] w := by
  simp only [okL, Bool.and_eq_true] at hok
  have e : ∀ m : List Row, denL m cs = denL [] cs := fun m => denL0 hok.2
  refine Hold.addRow (m := [⟨g, t, true, off, pre, cs, suf, true⟩]) (Hold.addRow (m := []) (Hold.nil P T [g] n w) ⟨g, t, true, off, pre, cs, suf, true⟩ (by show Blk w g t (el pre (denL _ cs).toArray suf); rw [e, hcs]; exact hb) (fun _ => .inl (by simp)) (by intro q hq; cases hq) (by intro A hA; cases hA) (okL_mono (Nat.zero_le _) _ hok.2) hp) ⟨cp, tc, true, 0, [], [c], [], false⟩ (by rw [rowA_nil rfl rfl]; show Blk w cp tc #[den _ c]; rw [den0 hok.1, hc]; exact hcp) (by intro h; cases h) (fun q hq _ => ?_) (by intro A hA; cases hA) (okL_mono (Nat.zero_le _) _ (by simp [okL, hok.1])) rfl
  rw [List.mem_singleton] at hq; subst hq
  exact Blk.ne_ hb hcp hne
/-- The same with two boxes. -/
theorem hold_e2 {P : Program} {T : Tab} {w : World} {n g off cp cq : Nat} {t tc td : TypeId} {pre suf : List Value} {cells : Array Value} {v u : Value} (cs : List SV) (c d : SV) (hb : Blk w g t (el pre cells suf)) (hp : pre.length = off) (hcp : Blk w cp tc #[v]) (hcq : Blk w cq td #[u]) (hne : t ≠ tc) (hne' : t ≠ td) (hnd : tc ≠ td)
    (hcs : (denL [] cs).toArray = cells) (hc : den [] c = v) (hd : den [] d = u) (hok : okL 0 (c :: cs) = true := by rfl) (hok' : okV 0 d = true := by rfl) : Hold ⟨P, T, [g], w, n, []⟩ [⟨g, t, true, off, pre, cs, suf, true⟩, ⟨cp, tc, true, 0, [], [c], [], false⟩, ⟨cq, td, true, 0, [], [d], [], false⟩] [] w := by
  refine Hold.addRow (hold_e1 cs c hb hp hcp hne hcs hc hok) ⟨cq, td, true, 0, [], [d], [], false⟩ (by rw [rowA_nil rfl rfl]; show Blk w cq td #[den _ d]; rw [den0 hok', hd]; exact hcq) (by intro h; cases h) ?_ (by intro A hA; cases hA) (by simp only [okL, okV_mono (Nat.zero_le _) _ hok', Bool.and_true]) rfl
  intro q hq _
  simp only [List.mem_cons, List.not_mem_nil, or_false] at hq
  rcases hq with rfl | rfl
  · exact Blk.ne_ hb hcq hne'
  · exact Blk.ne_ hcp hcq hnd
/-- Calls of a function that is only known to be one. -/
theorem callHF {f : FuncId} {vs : List SV} {K : SV → St → Prop} (hcf : ∀ args w, (callFunc f args).run X.P w = .ok (.enter f args) w) (v : SV) (hc : ∀ w, Hold X s.m s.ob w → Calls X.P f (denL s.m vs).toArray w fun e w' => e = .returned (den s.m v) ∧ Since w w') (h : K v s)
    (hv : okV s.m.length v = true := by rfl) : CallVC X f vs s K := by
  refine ⟨hcf, fun w hH => (hc w hH).mono ?_⟩
  rintro e w' ⟨rfl, hs⟩
  exact ⟨v, s.m, s.ob, rfl, hv, Ext.refl _, hH.since hs, h⟩
theorem callOF {f : FuncId} {vs : List SV} {K : SV → St → Prop} (hcf : ∀ args w, (callFunc f args).run X.P w = .ok (.enter f args) w) (i : Nat) {A : Asr} (v : SV) (B : Asr)
    (hc : ∀ w, Hold X s.m s.ob w → A.st w → Calls X.P f (denL s.m vs).toArray w fun e w' => e = .returned (den s.m v) ∧ B.st w' ∧ Upd A.F w w' ∧ ∀ g ∈ B.F, g ∈ A.F ∨ w.heap.size ≤ g)
    (h : setO i B s.ob fun ob => K v ⟨s.fr, s.m, ob⟩) (hA : s.ob[i]? = some A := by rfl) (hrw : A.rw = true := by rfl) (hv : okV s.m.length v = true := by rfl) : CallVC X f vs s K := by
  refine ⟨hcf, fun w hH => (hc w hH (hH.obj A (List.mem_of_getElem? hA))).mono ?_⟩
  rintro e w' ⟨rfl, h1, h2, h3⟩
  exact ⟨v, s.m, s.ob.set i B, rfl, hv, Ext.refl _, hH.obj_set hA hrw h1 h2 h3, setO_of h⟩
/-- One block known, that is only read. -/
theorem hold_q {P : Program} {T : Tab} {S : List Nat} {w : World} {n q : Nat} {t : TypeId} {cells : Array Value} (cs : List SV) (hq : Blk w q t cells) (hc : (denL [] cs).toArray = cells := by rfl) (hok : okL 0 cs = true := by rfl) : Hold ⟨P, T, S, w, n, []⟩ [⟨q, t, true, 0, [], cs, [], false⟩] [] w :=
  Hold.addRow (m := []) (Hold.nil P T S n w) ⟨q, t, true, 0, [], cs, [], false⟩ (by rw [rowA_nil rfl rfl]; show Blk w q t (denL _ cs).toArray; rw [denL0 hok, hc]; exact hq) (by intro h; cases h) (by intro q hq; cases hq) (by intro A hA; cases hA) (okL_mono (Nat.zero_le _) _ hok) rfl
/-- A call whose answer lies in a new block. -/
theorem callB {f : FuncId} {vs : List SV} {K : SV → St → Prop} {t : TypeId} (cs : List SV) (v : Nat → SV)
    (hc : ∀ w, Calls X.P f (denL s.m vs).toArray w fun e w' => ∃ b, e = .returned (den (s.m ++ [⟨b, t, true, 0, [], cs, [], true⟩]) (v s.m.length)) ∧ w.heap.size ≤ b ∧ Blk w' b t (denL s.m cs).toArray ∧ Since w w')
    (h : nw s t cs fun j s' => K (v j) s') (he : entChk X.P f = true := by kernel_rfl) (hok : okL s.m.length cs = true := by rfl) (hv : okV (s.m.length + 1) (v s.m.length) = true := by rfl) : CallVC X f vs s K := by
  refine ⟨entC he, fun w hH => (hc w).mono ?_⟩
  rintro e w' ⟨b, rfl, hb, hB, hs⟩
  have h2 := hH.since hs
  refine ⟨v s.m.length, s.m ++ [⟨b, t, true, 0, [], cs, [], true⟩], s.ob, rfl, by rw [List.length_append]; exact hv, Ext.app _ _, ?_, nw_of h b⟩
  refine Hold.addRow h2 ⟨b, t, true, 0, [], cs, [], true⟩ (by rw [rowA_nil rfl rfl, denL_ext (Ext.app _ _) _ hok]; exact hB) (fun _ => .inr (Nat.le_trans hH.upd.size hb)) ?_ ?_ (okL_mono (Nat.le_succ _) _ hok) rfl
  · intro q hq hl hqb
    obtain ⟨j, hj⟩ := List.mem_iff_getElem?.1 hq
    have := (hH.row j q hj hl).lt
    show False
    have e : q.g = b := hqb
    omega
  · intro A hA hg
    have := A.lt (hH.obj A hA) b hg
    omega
/-- A slice written out: its elements lie in a new block. -/
theorem opbs {o : Oper} {K : St → Prop} {t e : TypeId} {n : Nat} {parts : Array (Nat × Operand)} (cs : List SV) {ie : TypeInfo} {z : Value} (ho : o.op = .buildSlice t n parts) (hu : X.P.underlying t = some (.slice e)) (hie : X.P.info? e = some ie) (hz : ie.zero = some z) (hsmall : ¬ n * ie.size > 2 ^ 24) (hpos : ¬ n * ie.size = 0)
    (hf : ∀ a : Act, FrOk s.m a.tmps s.fr → Instr.fill (fun i => some (i * ie.size, ie.size)) ((Array.range (n * ie.size)).map (z.cells[· % z.cells.size]!)) (parts.map fun (i, x) => (i, a.eval x)).toList = some (denL s.m cs).toArray)
    (h : nw s e cs fun j s' => put X.n o.dst (.s j 0 n n) s' K) (hc : okL s.m.length cs = true := by rfl) : OpVC X o s K := ⟨fun a w Q hR => by
  have h1 := nw_of h w.heap.size
  have hH := hR.h.new (t := e) hc
  have hE := Ext.app s.m [⟨w.heap.size, e, true, 0, [], cs, [], true⟩]
  have hg : (s.m ++ [(⟨w.heap.size, e, true, 0, [], cs, [], true⟩ : Row)])[s.m.length]? = some ⟨w.heap.size, e, true, 0, [], cs, [], true⟩ := by simp
  obtain ⟨s', r1, r2, r3, r4⟩ := put_of (a := a) (s := { s with m := s.m ++ [⟨w.heap.size, e, true, 0, [], cs, [], true⟩] }) (v := .s s.m.length 0 n n) hR.ds hR.sz (hR.fr.ext hE) hH (by simp [okV]) h1
  refine wp_buildSlice t e n parts ho _ ie z hu hie hz hsmall hpos (hf a hR.fr) ⟨s', ?_, by rw [r2]; exact hE, r4⟩
  have : den (s.m ++ [⟨w.heap.size, e, true, 0, [], cs, [], true⟩]) (.s s.m.length 0 n n) = .slice (some ⟨w.heap.size, 0, none⟩) n n := by simp only [den, hg]
  rw [← this]; exact r1⟩
/-- The same for one structure. -/
theorem opb1 (hX : X.Ok) {o : Oper} {K : St → Prop} {t e : TypeId} {x : Operand} (vs : List SV) (ho : o.op = .buildSlice t 1 #[(0, x)]) (hx : evO x s.fr = some (.a vs))
    (h : nw s e vs fun j s' => put X.n o.dst (.s j 0 1 1) s' K)
    (ht : (match tyO t X.tab with | some y => y.sl && Nat.beq y.el e | none => false) = true := by rfl) (hn : (match tyO e X.tab with | some y => Nat.beq y.size vs.length && Nat.ble 1 y.size && Nat.ble y.size 16777216 | none => false) = true := by rfl) (hc : okL s.m.length vs = true := by rfl) : OpVC X o s K := by
  cases hy : tyO t X.tab with
  | none => simp [hy] at ht
  | some y =>
    cases hz : tyO e X.tab with
    | none => simp [hz] at hn
    | some z =>
      simp only [hy, hz, Bool.and_eq_true] at ht hn
      obtain ⟨d, i, T⟩ := (hX.tab _ _ hy).out
      obtain ⟨d', i', T'⟩ := (hX.tab _ _ hz).out
      have hel := Nat.eq_of_beq_eq_true ht.2
      have hsz := Nat.eq_of_beq_eq_true hn.1.1
      have h1 := Nat.le_of_ble_eq_true hn.1.2
      have h2 := Nat.le_of_ble_eq_true hn.2
      have hu : X.P.underlying t = some (.slice e) := by rw [T.un, T.sl ht.1, hel]
      refine opbs vs ho hu T'.inf T'.zero (by rw [T'.size]; omega) (by rw [T'.size]; omega) (fun a hf => ?_) h hc
      have he := (evO_of hf hx).2
      have hl : (denL s.m vs).length = i'.size := by rw [denL_len, T'.size, hsz]
      have := Go.Great.fill_whole (s := i'.size) (by rw [T'.size]; omega) [.agg (denL s.m vs).toArray] ((Array.range (1 * i'.size)).map ((zeroV z).cells[· % (zeroV z).cells.size]!)) (by intro v hv; rw [List.mem_singleton] at hv; subst hv; simp [Value.cells, hl]) (by simp)
      simpa [he, den, Value.cells] using this
/-- Where an element of a slice lies. -/
theorem ix_run (hX : X.Ok) {o : Oper} {t : TypeId} {x ix : Operand} {y e : Ty} {ad : Addr} {n c : Nat} {k : IntKind} {I : Int} {m : List Row} {fr : List (Nat × SV)} (ho : o.op = .indexAddr t x ix) (hx : evO x fr = some (.v (.slice (some ad) n c))) (hi : evO ix fr = some (.i k I)) (hI : 0 ≤ I ∧ I < n) (hy : tyO t X.tab = some y) (hs : y.sl = true) (he : tyO y.el X.tab = some e) (a : Act) (hf : FrOk m a.tmps fr) (w : World) :
    (execOp a.eval o).run X.P w = .ok (.value (.pointer (some (ad.add (I.toNat * e.size))))) w := by
  obtain ⟨d, inf, T⟩ := (hX.tab _ _ hy).out
  have hd := T.sl hs
  subst hd
  obtain ⟨d2, inf2, T2⟩ := (hX.tab _ _ he).out
  have hsz : (sizeOf y.el).run X.P = fun w => .ok e.size w := by funext w; simp [sizeOf, typeInfo, T2.inf, T2.size]
  have h2 := (evO_of hf hx).2
  have k2 := (evO_of hf hi).2
  unfold execOp
  simp only [ho, h2, k2, den, Instr.indexAt, asIntOf, Sem.run_bind, Sem.run_pure, Result.andThen_ok, run_underlying T.un, hsz, if_pos hI, Option.map_some]
/-- An element's address as it is; as a block that is known by that part. -/
theorem opiv (hX : X.Ok) {o : Oper} {K : St → Prop} {t : TypeId} {x ix : Operand} {y e : Ty} {ad : Addr} {n c : Nat} {k : IntKind} {I : Int} (ho : o.op = .indexAddr t x ix) (hx : evO x s.fr = some (.v (.slice (some ad) n c))) (hi : evO ix s.fr = some (.i k I)) (hy : tyO t X.tab = some y) (hs : y.sl = true) (he : tyO y.el X.tab = some e)
    (hI : 0 ≤ I ∧ I < n) (h : put X.n o.dst (.v (.pointer (some (ad.add (I.toNat * e.size))))) s K) : OpVC X o s K :=
  opq (.v (.pointer (some (ad.add (I.toNat * e.size))))) (fun a w hf _ => ix_run hX ho hx hi hI hy hs he a hf w) h rfl
theorem puiv (hX : X.Ok) {o : Oper} {K : SV → Prop} {t : TypeId} {x ix : Operand} {y e : Ty} {ad : Addr} {n c : Nat} {k : IntKind} {I : Int} (ho : o.op = .indexAddr t x ix) (hx : evO x s.fr = some (.v (.slice (some ad) n c))) (hi : evO ix s.fr = some (.i k I)) (hy : tyO t X.tab = some y) (hs : y.sl = true) (he : tyO y.el X.tab = some e)
    (hI : 0 ≤ I ∧ I < n) (h : K (.v (.pointer (some (ad.add (I.toNat * e.size)))))) : PuVC X o s K := ⟨⟨.v (.pointer (some (ad.add (I.toNat * e.size)))), rfl, fun a hf w => ix_run hX ho hx hi hI hy hs he a hf w, h⟩⟩
theorem opir (hX : X.Ok) (j : Nat) {r : Row} {o : Oper} {K : St → Prop} {t : TypeId} {x ix : Operand} {y e : Ty} {n c : Nat} {k : IntKind} {I : Int} (hr : s.m[j]? = some r) (ho : o.op = .indexAddr t x ix) (hx : evO x s.fr = some (.v (.slice (some ⟨r.g, 0, none⟩) n c))) (hi : evO ix s.fr = some (.i k I)) (hy : tyO t X.tab = some y) (hs : y.sl = true) (he : tyO y.el X.tab = some e)
    (hI : (0 ≤ I ∧ I < n) ∧ r.off = I.toNat * e.size) (h : put X.n o.dst (.p j 0) s K) : OpVC X o s K :=
  opq (.p j 0) (fun a w hf _ => by
    rw [ix_run hX ho hx hi hI.1 hy hs he a hf w]
    simp only [den, hr, hI.2, Go.WideShapes.add_plain, Nat.add_zero, Nat.zero_add]) h (by simp [okV, Nat.blt_eq, (List.getElem?_eq_some_iff.1 hr).1])
theorem puir (hX : X.Ok) (j : Nat) {r : Row} {o : Oper} {K : SV → Prop} {t : TypeId} {x ix : Operand} {y e : Ty} {n c : Nat} {k : IntKind} {I : Int} (hr : s.m[j]? = some r) (ho : o.op = .indexAddr t x ix) (hx : evO x s.fr = some (.v (.slice (some ⟨r.g, 0, none⟩) n c))) (hi : evO ix s.fr = some (.i k I)) (hy : tyO t X.tab = some y) (hs : y.sl = true) (he : tyO y.el X.tab = some e)
    (hI : (0 ≤ I ∧ I < n) ∧ r.off = I.toNat * e.size) (h : K (.p j 0)) : PuVC X o s K := ⟨⟨.p j 0, by simp [okV, Nat.blt_eq, (List.getElem?_eq_some_iff.1 hr).1], fun a hf w => by
    rw [ix_run hX ho hx hi hI.1 hy hs he a hf w]
    simp only [den, hr, hI.2, Go.WideShapes.add_plain, Nat.add_zero, Nat.zero_add], h⟩⟩
/-- A loop whose round is told as a whole. -/
theorem lpS (hX : X.Ok) {ι : Type} (I : ι → St) (μ : ι → Nat) (x0 : ι) {c : Code} {K : Exit → St → Prop} (h0 : Wk X s (I x0)) (hr : ∀ x, Sm X c (I x) (lpK X I μ x K)) : Sm X (.loop c) s K := by
  refine ⟨fun a w hR => ?_⟩
  let p : Act → World → Nat → Prop := fun a w n => ∃ x, Rel X (I x) a w ∧ μ x = n
  have least : ∀ n, ∀ {a : Act} {w : World}, p a w n → ∃ m, p a w m ∧ ∀ k, p a w k → m ≤ k := by
    intro n
    induction n using Nat.strongRecOn with
    | _ n ih =>
      intro a w hn
      by_cases h : ∃ k, k < n ∧ p a w k
      · obtain ⟨k, hk, hp⟩ := h; exact ih k hk hp
      · exact ⟨n, hn, fun k hk => Nat.le_of_not_lt fun hl => h ⟨k, hl, hk⟩⟩
  classical
  refine wp_loop (fun a w => ∃ n, p a w n) (fun a w => if h : ∃ m, p a w m ∧ ∀ k, p a w k → m ≤ k then h.choose else 0) ⟨_, x0, h0.out a w hR, rfl⟩ ?_
  rintro a w ⟨n1, hp1⟩
  have hm := least n1 hp1
  obtain ⟨⟨x, hx, hxn⟩, hmin⟩ := hm.choose_spec
  have hs := (hr x).out a w hx
  refine Code.wp_mono (fun e a' w' hq => ?_) hs
  cases e with
  | normal =>
    obtain ⟨s', r', hb⟩ := hq
    obtain ⟨y, hlt, hw⟩ := hb.out
    have hy := hw.out a' w' r'
    refine ⟨⟨μ y, y, hy, rfl⟩, ?_⟩
    have hm' := least (μ y) (show p a' w' (μ y) from ⟨y, hy, rfl⟩)
    rw [dif_pos hm', dif_pos hm]
    have h1 := hm'.choose_spec.2 (μ y) ⟨y, hy, rfl⟩
    omega
  | exit id => exact hq
  | ret => exact hq
  | _ => exact hq.elim
theorem sm_run (hX : X.Ok) {c : Code} {K : Exit → St → Prop} (h : run X c s K) : Sm X c s K := ⟨fun a w hR => (run_of hX h).out a w hR⟩
/-- A part of an object is known by itself. -/
theorem Hold.open_ (h : Hold X m ob w) {i : Nat} {A : Asr} (hA : ob[i]? = some A) (hrw : A.rw = true) (row : Row) (hg : row.g ∈ A.F) (hB : Blk w row.g row.t (rowA (m ++ [row]) row)) (hok : okL (m.length + 1) row.cs = true) (hoff : row.pre.length = row.off) : Hold X (m ++ [row]) (ob.eraseIdx i) w := by
  have hmem := List.mem_of_getElem? hA
  have h2 : Hold X m (ob.eraseIdx i) w := ⟨h.upd, h.row, h.wf, h.ne, fun B hb => h.obj B (List.mem_of_mem_eraseIdx hb), fun B hb => h.far B (List.mem_of_mem_eraseIdx hb), fun B hb => h.own B (List.mem_of_mem_eraseIdx hb), List.Pairwise.sublist (List.eraseIdx_sublist ..) h.dis⟩
  refine Hold.addRow h2 row hB (fun _ => h.own A hmem hrw _ hg) (fun q hq hl e => ?_) (fun B hb hgB => ?_) hok hoff
  · obtain ⟨j, hj⟩ := List.mem_iff_getElem?.1 hq
    exact h.far A hmem j q hj hl (e ▸ hg)
  · obtain ⟨j, hne, hj⟩ := List.mem_eraseIdx_iff_getElem?.1 hb
    exact pair_at (R := DisR) (fun _ _ h => h.symm) h.dis hA hj (fun e => hne e.symm) (.inl hrw) _ hg hgB
theorem sm_open (hX : X.Ok) {c : Code} {K : Exit → St → Prop} {π : Type} (i : Nat) {A : Asr} (row : π → Row) (hA : s.ob[i]? = some A) (hrw : A.rw = true) (hst : ∀ w, A.st w → ∃ p, (row p).g ∈ A.F ∧ (row p).pre.length = (row p).off ∧ Blk w (row p).g (row p).t (rowA [] (row p)))
    (hok : ∀ p, okL 0 (row p).cs = true) (h : ∀ p, run X c ⟨s.fr, s.m ++ [row p], s.ob.eraseIdx i⟩ K) : Sm X c s K := ⟨fun a w hR => by
  obtain ⟨p, h1, h2, h3⟩ := hst w (hR.h.obj A (List.mem_of_getElem? hA))
  have hE := Ext.app s.m [row p]
  have hd : rowA (s.m ++ [row p]) (row p) = rowA [] (row p) := by unfold rowA; rw [denL0 (hok p)]
  exact (run_of hX (h p)).out a w ⟨hR.ds, hR.sz, hR.fr.ext hE, hR.h.open_ hA hrw (row p) h1 (by rw [hd]; exact h3) (okL_mono (Nat.zero_le _) _ (hok p)) h2⟩⟩
/-- It is put back into its object. -/
theorem wk_close {s s' : St} (j : Nat) {row : Row} (A : Asr) (i : Nat) (hfr : frW s s'.m s'.fr) (hst : ∀ w, Blk w row.g row.t (rowA s.m row) → A.st w) (hj : s.m[j]? = some row) (hl : (row.live && row.rw && Nat.ble s'.m.length j) = true) (hF : A.F = [row.g]) (hm : s'.m = s.m.take s'.m.length) (hok : rowsOk s'.m.length s'.m = true) (hob : s'.ob = s.ob.take i ++ A :: s.ob.drop i) : Wk X s s' := by
  simp only [Bool.and_eq_true] at hl
  obtain ⟨⟨hl, hrw⟩, hn⟩ := hl
  have hn := Nat.le_of_ble_eq_true hn
  refine ⟨fun a w hR => ?_⟩
  have h1 := (Wk.of_rows (X := X) (s := s) (s' := ⟨s'.fr, s'.m, s.ob⟩) hm (fun j r h _ => rowsOk_of hok j r h) rfl hfr).out a w hR
  have H := h1.h
  have hkeep : ∀ (k : Nat) (r : Row), s'.m[k]? = some r → s.m[k]? = some r ∧ k < s'.m.length := fun k r h => by
    have hk := (List.getElem?_eq_some_iff.1 h).1
    refine ⟨?_, hk⟩
    rw [hm] at h
    rwa [List.getElem?_take_of_lt hk] at h
  have hfarR : ∀ B ∈ s.ob, row.g ∉ B.F := fun B hB => hR.h.far B hB j row hj hl
  have hmem : ∀ {B : Asr}, B ∈ s'.ob → B = A ∨ B ∈ s.ob := fun {B} hB => by
    rw [hob] at hB
    rcases List.mem_append.1 hB with h | h
    · exact .inr (List.mem_of_mem_take h)
    · rcases List.mem_cons.1 h with h | h
      · exact .inl h
      · exact .inr (List.mem_of_mem_drop h)
  have hAB : ∀ B ∈ s.ob, DisR A B := fun B hB _ g hg hgB => by
    rw [hF, List.mem_singleton] at hg; subst hg; exact hfarR B hB hgB
  refine ⟨h1.ds, h1.sz, h1.fr, ⟨H.upd, H.row, H.wf, H.ne, fun B hB => ?_, fun B hB k r hk hlr => ?_, fun B hB hr g hg => ?_, ?_⟩⟩
  · rcases hmem hB with rfl | hB
    · exact hst w (hR.h.row j row hj hl)
    · exact H.obj B hB
  · rcases hmem hB with rfl | hB
    · intro hg
      rw [hF, List.mem_singleton] at hg
      obtain ⟨hk1, hk2⟩ := hkeep k r hk
      exact hR.h.ne k j r row hk1 hj hlr hl (by omega) hg
    · exact H.far B hB k r hk hlr
  · rcases hmem hB with rfl | hB
    · rw [hF, List.mem_singleton] at hg; subst hg
      exact (hR.h.wf j row hj hl).2.2 hrw
    · exact H.own B hB hr g hg
  · rw [hob]
    have hp : s.ob.Pairwise DisR := H.dis
    have h3 : (s.ob.take i ++ s.ob.drop i).Pairwise DisR := by rw [List.take_append_drop]; exact hp
    rw [List.pairwise_append] at h3
    obtain ⟨p1, p2, p3⟩ := h3
    show (s.ob.take i ++ A :: s.ob.drop i).Pairwise DisR
    rw [List.pairwise_append, List.pairwise_cons]
    refine ⟨p1, ⟨fun B hB => hAB B (List.mem_of_mem_drop hB), p2⟩, fun B hB C hC => ?_⟩
    rcases List.mem_cons.1 hC with rfl | hC
    · exact (hAB B (List.mem_of_mem_take hB)).symm
    · exact p3 B hB C hC
/-- A row grows by what lies in a known block. -/
theorem opap (i j : Nat) {A : Asr} {r : Row} {o : Oper} {K : St → Prop} {xs ys : Operand} {t e : TypeId} {lo size n c0 m c n2 bytes : Nat} {A0 : Option Addr} {z : Value} {vals cells zs : List Value} (B : Option Addr → Nat → Asr)
    (ho : o.op = .call { callee := .builtin .append, args := #[xs, ys], argTypes := #[t, t] }) (hxs : evO xs s.fr = some (.v (.slice A0 n c0))) (hys : evO ys s.fr = some (.s j 0 m c))
    (hA : s.ob[i]? = some A) (hrw : A.rw = true) (hF : A.F = blkOf A0) (hst : ∀ w, A.st w → w.ownsRow lo e size (.slice A0 n c0) n vals) (hB : ∀ A' c' w, w.ownsRow lo e size (.slice A' n2 c') n2 zs → (B A' c').st w) (hBF : ∀ A' c', (B A' c').F = blkOf A')
    (hr : s.m[j]? = some r) (hl : (r.live && Nat.beq r.off 0 && r.pre.isEmpty && r.suf.isEmpty) = true) (hc : denL s.m r.cs = cells) (hms : cells.length = m * size)
    (ht : X.P.underlying t = some (.slice e)) (hinf : (X.P.info? e).map (fun i => (i.zero, i.size, i.bytes)) = some (some z, size, bytes)) (hzs : z.cells.size = size) (hsz : 0 < size) (hby : bytes ≤ 1000) (h1 : ∀ u ∈ cells, u.oneCell' = true)
    (hnm : n + m ≤ 1000000) (hbase : ∀ w, Hold X s.m s.ob w → lo ≤ w.heap.size) (hn2 : n + m = n2) (hzs2 : vals ++ cells = zs)
    (h : ∀ A' c', setO i (B A' c') s.ob fun ob => put X.n o.dst (.v (.slice A' n2 c')) ⟨s.fr, s.m, ob⟩ K) : OpVC X o s K := ⟨fun a w Q hR => by
  simp only [Bool.and_eq_true, List.isEmpty_iff] at hl
  obtain ⟨⟨⟨l1, l2⟩, l3⟩, l4⟩ := hl
  have l2 := Nat.eq_of_beq_eq_true l2
  have hb := hR.h.row j r hr l1
  rw [rowA_nil l3 l4, hc] at hb
  have ev2 : a.eval ys = .slice (some ⟨r.g, 0, none⟩) m c := by rw [(evO_of hR.fr hys).2]; simp [den, hr, l2]
  refine wp_append_row xs ys t ho lo e z size bytes ht hinf hzs hsz hby A0 n c0 vals (by rw [(evO_of hR.fr hxs).2]; rfl) (hst w (hR.h.obj A (List.mem_of_getElem? hA))) _ (some ⟨r.g, 0, none⟩) m c cells ev2 (reads_blk (cs := cells) hb hms) h1 hnm (hbase w hR.h) n2 zs hn2 hzs2 ?_
  intro A' c' w' hown hupd hfar
  have hH := hR.h.obj_set hA hrw (hB A' c' w' hown) (by rw [hF]; exact hupd) (by rw [hF, hBF]; exact hfar)
  obtain ⟨s', r1, r2, r3, r4⟩ := put_of (a := a) (s := ⟨s.fr, s.m, s.ob.set i (B A' c')⟩) (v := .v (.slice A' n2 c')) hR.ds hR.sz hR.fr hH rfl (setO_of (h A' c'))
  exact ⟨s', r1, by rw [r2]; exact Ext.refl _, r4⟩⟩
end
end Go.Proofs.YthmikjjnlahlbaaGreat.En
namespace Go.Proofs.YthmikjjnlahlbaaGreat.En
set_option linter.unusedSectionVars false
open Go.RowKit
set_option maxRecDepth 100000
def tab : Tab := [
 (2, ⟨false, 1, [(.i .i64 0)], [], false, 0, some .i64, [], false⟩),
 (3, ⟨false, 1, [(.i .i64 0)], [], false, 0, some .i64, [], false⟩),
 (4, ⟨false, 1, [(.b false)], [], false, 0, none, [false], false⟩),
 (5, ⟨false, 1, [(.i .u8 0)], [], false, 0, some .u8, [], false⟩),
 (6, ⟨false, 1, [(.i .u8 0)], [], false, 0, some .u8, [], false⟩),
 (7, ⟨true, 4, [(.i .i64 0), (.i .i64 0), (.b false), (.i .u8 0)], [(0, 1, false), (1, 1, false), (2, 1, false), (3, 1, false)], false, 0, none, [true, true, false, true], false⟩),
 (8, ⟨true, 4, [(.i .i64 0), (.i .i64 0), (.b false), (.i .u8 0)], [(0, 1, false), (1, 1, false), (2, 1, false), (3, 1, false)], false, 0, none, [true, true, false, true], false⟩),
 (9, ⟨false, 1, [(.v (.string ByteArray.empty))], [], false, 0, none, [], false⟩),
 (10, ⟨false, 1, [(.v (.string ByteArray.empty))], [], false, 0, none, [], false⟩),
 (11, ⟨false, 1, [(.v (.string ByteArray.empty))], [], false, 0, none, [], false⟩),
 (12, ⟨false, 1, [(.i .u64 0)], [], false, 0, some .u64, [], false⟩),
 (13, ⟨true, 2, [(.v (.string ByteArray.empty)), (.i .u64 0)], [(0, 1, false), (1, 1, false)], false, 0, none, [], false⟩),
 (14, ⟨true, 2, [(.v (.string ByteArray.empty)), (.i .u64 0)], [(0, 1, false), (1, 1, false)], false, 0, none, [], false⟩),
 (15, ⟨false, 1, [(.v (.pointer none))], [], false, 0, none, [], true⟩),
 (16, ⟨false, 1, [(.v (.pointer none))], [], false, 0, none, [], true⟩),
 (17, ⟨false, 1, [(.v (.pointer none))], [], false, 0, none, [], true⟩),
 (18, ⟨true, 1, [(.v (.pointer none))], [(0, 1, false)], false, 0, none, [], false⟩),
 (19, ⟨true, 1, [(.v (.pointer none))], [(0, 1, false)], false, 0, none, [], false⟩),
 (21, ⟨false, 1, [(.i .i32 0)], [], false, 0, some .i32, [], false⟩),
 (22, ⟨true, 18, [(.i .i64 0), (.i .i64 0), (.i .i64 0), (.i .i64 0), (.i .i64 0), (.i .i64 0), (.i .i64 0), (.i .i64 0), (.i .i64 0), (.i .i64 0), (.i .i64 0), (.i .i64 0), (.i .i64 0), (.i .i64 0), (.i .i64 0), (.i .i64 0), (.i .i64 0), (.i .i64 0)], [(0, 1, false), (1, 1, false), (2, 1, false), (3, 1, false), (4, 1, false), (5, 1, false), (6, 1, false), (7, 1, false), (8, 1, false), (9, 1, false), (10, 1, false), (11, 1, false), (12, 1, false), (13, 1, false), (14, 1, false), (15, 1, false), (16, 1, false), (17, 1, false)], false, 0, none, [true, true, true, true, true, true, true, true, true, true, true, true, true, true, true, true, true, true], false⟩),
 (23, ⟨true, 18, [(.i .i64 0), (.i .i64 0), (.i .i64 0), (.i .i64 0), (.i .i64 0), (.i .i64 0), (.i .i64 0), (.i .i64 0), (.i .i64 0), (.i .i64 0), (.i .i64 0), (.i .i64 0), (.i .i64 0), (.i .i64 0), (.i .i64 0), (.i .i64 0), (.i .i64 0), (.i .i64 0)], [(0, 1, false), (1, 1, false), (2, 1, false), (3, 1, false), (4, 1, false), (5, 1, false), (6, 1, false), (7, 1, false), (8, 1, false), (9, 1, false), (10, 1, false), (11, 1, false), (12, 1, false), (13, 1, false), (14, 1, false), (15, 1, false), (16, 1, false), (17, 1, false)], false, 0, none, [true, true, true, true, true, true, true, true, true, true, true, true, true, true, true, true, true, true], false⟩),
 (24, ⟨false, 1, [(.v (.slice none 0 0))], [], true, 30, none, [], false⟩),
 (25, ⟨false, 1, [(.v (.pointer none))], [], false, 0, none, [], true⟩),
 (27, ⟨false, 1, [(.v (.pointer none))], [], false, 0, none, [], true⟩),
 (29, ⟨true, 4, [(.i .i64 0), (.i .i64 0), (.i .i64 0), (.b false)], [(0, 1, false), (1, 1, false), (2, 1, false), (3, 1, false)], false, 0, none, [true, true, true, false], false⟩),
 (30, ⟨true, 4, [(.i .i64 0), (.i .i64 0), (.i .i64 0), (.b false)], [(0, 1, false), (1, 1, false), (2, 1, false), (3, 1, false)], false, 0, none, [true, true, true, false], false⟩),
 (32, ⟨false, 1, [(.v (.slice none 0 0))], [], true, 99, none, [], false⟩),
 (35, ⟨false, 1, [(.i .i64 0)], [], false, 0, some .i64, [], false⟩),
 (40, ⟨false, 1, [(.v (.slice none 0 0))], [], true, 50, none, [], false⟩),
 (41, ⟨false, 1, [(.v (.pointer none))], [], false, 0, none, [], true⟩),
 (43, ⟨false, 1, [(.v (.pointer none))], [], false, 0, none, [], true⟩),
 (45, ⟨true, 5, [(.i .i64 0), (.i .i64 0), (.i .i64 0), (.i .i64 0), (.i .i64 0)], [(0, 1, false), (1, 1, false), (2, 1, false), (3, 1, false), (4, 1, false)], false, 0, none, [true, true, true, true, true], false⟩),
 (46, ⟨true, 5, [(.i .i64 0), (.i .i64 0), (.i .i64 0), (.i .i64 0), (.i .i64 0)], [(0, 1, false), (1, 1, false), (2, 1, false), (3, 1, false), (4, 1, false)], false, 0, none, [true, true, true, true, true], false⟩),
 (47, ⟨true, 4, [(.i .i64 0), (.i .i64 0), (.i .i64 0), (.i .i64 0)], [(0, 1, false), (1, 1, false), (2, 1, false), (3, 1, false)], false, 0, none, [true, true, true, true], false⟩),
 (48, ⟨true, 4, [(.i .i64 0), (.i .i64 0), (.i .i64 0), (.i .i64 0)], [(0, 1, false), (1, 1, false), (2, 1, false), (3, 1, false)], false, 0, none, [true, true, true, true], false⟩),
 (49, ⟨true, 12, [(.i .i64 0), (.i .i64 0), (.i .i64 0), (.i .i64 0), (.i .i64 0), (.i .i64 0), (.i .i64 0), (.i .i64 0), (.i .i64 0), (.i .i64 0), (.i .i64 0), (.i .i64 0)], [(0, 1, false), (1, 1, false), (2, 1, false), (3, 5, true), (8, 4, true)], false, 0, none, [true, true, true, true, true, true, true, true, true, true, true, true], false⟩),
 (50, ⟨true, 12, [(.i .i64 0), (.i .i64 0), (.i .i64 0), (.i .i64 0), (.i .i64 0), (.i .i64 0), (.i .i64 0), (.i .i64 0), (.i .i64 0), (.i .i64 0), (.i .i64 0), (.i .i64 0)], [(0, 1, false), (1, 1, false), (2, 1, false), (3, 5, true), (8, 4, true)], false, 0, none, [true, true, true, true, true, true, true, true, true, true, true, true], false⟩),
 (51, ⟨false, 1, [(.v (.slice none 0 0))], [], true, 81, none, [], false⟩),
 (59, ⟨false, 1, [(.v (.slice none 0 0))], [], true, 65, none, [], false⟩),
 (61, ⟨false, 1, [(.v (.slice none 0 0))], [], true, 72, none, [], false⟩),
 (64, ⟨true, 10, [(.i .i64 0), (.i .i64 0), (.i .i64 0), (.i .i64 0), (.i .i64 0), (.i .i64 0), (.i .i64 0), (.i .i64 0), (.i .i64 0), (.i .i64 0)], [(0, 5, true), (5, 1, false), (6, 1, false), (7, 1, false), (8, 1, false), (9, 1, false)], false, 0, none, [true, true, true, true, true, true, true, true, true, true], false⟩),
 (65, ⟨true, 10, [(.i .i64 0), (.i .i64 0), (.i .i64 0), (.i .i64 0), (.i .i64 0), (.i .i64 0), (.i .i64 0), (.i .i64 0), (.i .i64 0), (.i .i64 0)], [(0, 5, true), (5, 1, false), (6, 1, false), (7, 1, false), (8, 1, false), (9, 1, false)], false, 0, none, [true, true, true, true, true, true, true, true, true, true], false⟩),
 (66, ⟨true, 2, [(.i .i64 0), (.i .i64 0)], [(0, 1, false), (1, 1, false)], false, 0, none, [true, true], false⟩),
 (67, ⟨true, 2, [(.i .i64 0), (.i .i64 0)], [(0, 1, false), (1, 1, false)], false, 0, none, [true, true], false⟩),
 (68, ⟨false, 1, [(.i .u64 0)], [], false, 0, some .u64, [], false⟩),
 (69, ⟨true, 3, [(.i .u64 0), (.i .u64 0), (.i .u64 0)], [(0, 1, false), (1, 1, false), (2, 1, false)], false, 0, none, [true, true, true], false⟩),
 (70, ⟨true, 3, [(.i .u64 0), (.i .u64 0), (.i .u64 0)], [(0, 1, false), (1, 1, false), (2, 1, false)], false, 0, none, [true, true, true], false⟩),
 (71, ⟨true, 15, [(.i .i64 0), (.i .i64 0), (.i .i64 0), (.i .i64 0), (.i .i64 0), (.i .i64 0), (.i .i64 0), (.b false), (.b false), (.i .i64 0), (.i .i64 0), (.b false), (.i .u64 0), (.i .u64 0), (.i .u64 0)], [(0, 2, true), (2, 1, false), (3, 1, false), (4, 1, false), (5, 1, false), (6, 1, false), (7, 1, false), (8, 1, false), (9, 1, false), (10, 1, false), (11, 1, false), (12, 3, true)], false, 0, none, [true, true, true, true, true, true, true, false, false, true, true, false, true, true, true], false⟩),
 (72, ⟨true, 15, [(.i .i64 0), (.i .i64 0), (.i .i64 0), (.i .i64 0), (.i .i64 0), (.i .i64 0), (.i .i64 0), (.b false), (.b false), (.i .i64 0), (.i .i64 0), (.b false), (.i .u64 0), (.i .u64 0), (.i .u64 0)], [(0, 2, true), (2, 1, false), (3, 1, false), (4, 1, false), (5, 1, false), (6, 1, false), (7, 1, false), (8, 1, false), (9, 1, false), (10, 1, false), (11, 1, false), (12, 3, true)], false, 0, none, [true, true, true, true, true, true, true, false, false, true, true, false, true, true, true], false⟩),
 (80, ⟨true, 5, [(.i .i64 0), (.i .i64 0), (.i .i64 0), (.i .i64 0), (.i .i64 0)], [(0, 1, false), (1, 4, true)], false, 0, none, [true, true, true, true, true], false⟩),
 (81, ⟨true, 5, [(.i .i64 0), (.i .i64 0), (.i .i64 0), (.i .i64 0), (.i .i64 0)], [(0, 1, false), (1, 4, true)], false, 0, none, [true, true, true, true, true], false⟩),
 (84, ⟨false, 1, [(.v (.slice none 0 0))], [], true, 46, none, [], false⟩),
 (92, ⟨true, 21, [(.i .i64 0), (.i .i64 0), (.i .i64 0), (.i .i64 0), (.i .i64 0), (.i .i64 0), (.i .i64 0), (.i .i64 0), (.i .i64 0), (.i .i64 0), (.i .i64 0), (.i .i64 0), (.i .i64 0), (.i .i64 0), (.i .i64 0), (.i .i64 0), (.i .i64 0), (.i .i64 0), (.v (.slice none 0 0)), (.v (.slice none 0 0)), (.i .i64 0)], [(0, 18, true), (18, 1, false), (19, 1, false), (20, 1, false)], false, 0, none, [], false⟩),
 (93, ⟨true, 21, [(.i .i64 0), (.i .i64 0), (.i .i64 0), (.i .i64 0), (.i .i64 0), (.i .i64 0), (.i .i64 0), (.i .i64 0), (.i .i64 0), (.i .i64 0), (.i .i64 0), (.i .i64 0), (.i .i64 0), (.i .i64 0), (.i .i64 0), (.i .i64 0), (.i .i64 0), (.i .i64 0), (.v (.slice none 0 0)), (.v (.slice none 0 0)), (.i .i64 0)], [(0, 18, true), (18, 1, false), (19, 1, false), (20, 1, false)], false, 0, none, [], false⟩),
 (94, ⟨true, 21, [(.i .i64 0), (.i .i64 0), (.i .i64 0), (.i .i64 0), (.i .i64 0), (.i .i64 0), (.i .i64 0), (.i .i64 0), (.i .i64 0), (.i .i64 0), (.i .i64 0), (.i .i64 0), (.i .i64 0), (.i .i64 0), (.i .i64 0), (.i .i64 0), (.i .i64 0), (.i .i64 0), (.v (.slice none 0 0)), (.v (.slice none 0 0)), (.i .i64 0)], [(0, 18, true), (18, 1, false), (19, 1, false), (20, 1, false)], false, 0, none, [], false⟩),
 (95, ⟨true, 21, [(.i .i64 0), (.i .i64 0), (.i .i64 0), (.i .i64 0), (.i .i64 0), (.i .i64 0), (.i .i64 0), (.i .i64 0), (.i .i64 0), (.i .i64 0), (.i .i64 0), (.i .i64 0), (.i .i64 0), (.i .i64 0), (.i .i64 0), (.i .i64 0), (.i .i64 0), (.i .i64 0), (.v (.slice none 0 0)), (.v (.slice none 0 0)), (.i .i64 0)], [(0, 18, true), (18, 1, false), (19, 1, false), (20, 1, false)], false, 0, none, [], false⟩),
 (96, ⟨true, 2, [(.i .i64 0), (.i .i64 0)], [(0, 1, false), (1, 1, false)], false, 0, none, [true, true], false⟩),
 (97, ⟨true, 2, [(.i .i64 0), (.i .i64 0)], [(0, 1, false), (1, 1, false)], false, 0, none, [true, true], false⟩),
 (98, ⟨true, 4, [(.i .i64 0), (.i .i64 0), (.i .i64 0), (.i .i64 0)], [(0, 2, true), (2, 1, false), (3, 1, false)], false, 0, none, [true, true, true, true], false⟩),
 (99, ⟨true, 4, [(.i .i64 0), (.i .i64 0), (.i .i64 0), (.i .i64 0)], [(0, 2, true), (2, 1, false), (3, 1, false)], false, 0, none, [true, true, true, true], false⟩),
 (110, ⟨false, 1, [(.v (.pointer none))], [], false, 0, none, [], true⟩),
 (112, ⟨false, 1, [(.v (.pointer none))], [], false, 0, none, [], true⟩),
 (114, ⟨true, 21, [(.i .i64 0), (.i .i64 0), (.i .i64 0), (.i .i64 0), (.i .i64 0), (.i .i64 0), (.i .i64 0), (.i .i64 0), (.i .i64 0), (.i .i64 0), (.i .i64 0), (.i .i64 0), (.i .i64 0), (.i .i64 0), (.i .i64 0), (.i .i64 0), (.i .i64 0), (.i .i64 0), (.v (.pointer none)), (.v (.pointer none)), (.v (.pointer none))], [(0, 18, true), (18, 1, false), (19, 1, false), (20, 1, false)], false, 0, none, [], false⟩),
 (115, ⟨true, 21, [(.i .i64 0), (.i .i64 0), (.i .i64 0), (.i .i64 0), (.i .i64 0), (.i .i64 0), (.i .i64 0), (.i .i64 0), (.i .i64 0), (.i .i64 0), (.i .i64 0), (.i .i64 0), (.i .i64 0), (.i .i64 0), (.i .i64 0), (.i .i64 0), (.i .i64 0), (.i .i64 0), (.v (.pointer none)), (.v (.pointer none)), (.v (.pointer none))], [(0, 18, true), (18, 1, false), (19, 1, false), (20, 1, false)], false, 0, none, [], false⟩),
 (116, ⟨true, 22, [(.i .i64 0), (.i .i64 0), (.i .i64 0), (.i .i64 0), (.i .i64 0), (.i .i64 0), (.i .i64 0), (.i .i64 0), (.i .i64 0), (.i .i64 0), (.i .i64 0), (.i .i64 0), (.i .i64 0), (.i .i64 0), (.i .i64 0), (.i .i64 0), (.i .i64 0), (.i .i64 0), (.v (.pointer none)), (.v (.slice none 0 0)), (.v (.slice none 0 0)), (.v (.slice none 0 0))], [(0, 18, true), (18, 1, false), (19, 1, false), (20, 1, false), (21, 1, false)], false, 0, none, [], false⟩),
 (117, ⟨true, 22, [(.i .i64 0), (.i .i64 0), (.i .i64 0), (.i .i64 0), (.i .i64 0), (.i .i64 0), (.i .i64 0), (.i .i64 0), (.i .i64 0), (.i .i64 0), (.i .i64 0), (.i .i64 0), (.i .i64 0), (.i .i64 0), (.i .i64 0), (.i .i64 0), (.i .i64 0), (.i .i64 0), (.v (.pointer none)), (.v (.slice none 0 0)), (.v (.slice none 0 0)), (.v (.slice none 0 0))], [(0, 18, true), (18, 1, false), (19, 1, false), (20, 1, false), (21, 1, false)], false, 0, none, [], false⟩),
 (118, ⟨false, 1, [(.v (.slice none 0 0))], [], true, 48, none, [], false⟩),
 (132, ⟨false, 1, [(.i .u64 0)], [], false, 0, some .u64, [], false⟩),
 (135, ⟨false, 1, [(.v (.pointer none))], [], false, 0, none, [], true⟩),
 (138, ⟨false, 1, [(.v (.pointer none))], [], false, 0, none, [], true⟩),
 (141, ⟨true, 3, [(.i .i64 0), (.b false), (.b false)], [(0, 1, false), (1, 1, false), (2, 1, false)], false, 0, none, [true, false, false], false⟩),
 (142, ⟨true, 3, [(.i .i64 0), (.b false), (.b false)], [(0, 1, false), (1, 1, false), (2, 1, false)], false, 0, none, [true, false, false], false⟩),
 (143, ⟨true, 18, [(.i .i64 0), (.i .i64 0), (.i .i64 0), (.i .i64 0), (.i .i64 0), (.i .i64 0), (.i .i64 0), (.b false), (.b false), (.i .i64 0), (.i .i64 0), (.b false), (.i .u64 0), (.i .u64 0), (.i .u64 0), (.i .i64 0), (.b false), (.b false)], [(0, 15, true), (15, 3, true)], false, 0, none, [true, true, true, true, true, true, true, false, false, true, true, false, true, true, true, true, false, false], false⟩),
 (144, ⟨true, 18, [(.i .i64 0), (.i .i64 0), (.i .i64 0), (.i .i64 0), (.i .i64 0), (.i .i64 0), (.i .i64 0), (.b false), (.b false), (.i .i64 0), (.i .i64 0), (.b false), (.i .u64 0), (.i .u64 0), (.i .u64 0), (.i .i64 0), (.b false), (.b false)], [(0, 15, true), (15, 3, true)], false, 0, none, [true, true, true, true, true, true, true, false, false, true, true, false, true, true, true, true, false, false], false⟩),
 (162, ⟨true, 2, [(.i .i64 0), (.v (.slice none 0 0))], [(0, 1, false), (1, 1, false)], false, 0, none, [], false⟩),
 (163, ⟨true, 2, [(.i .i64 0), (.v (.slice none 0 0))], [(0, 1, false), (1, 1, false)], false, 0, none, [], false⟩),
 (164, ⟨true, 19, [(.i .i64 0), (.i .i64 0), (.i .i64 0), (.i .i64 0), (.i .i64 0), (.i .i64 0), (.i .i64 0), (.i .i64 0), (.i .i64 0), (.i .i64 0), (.i .i64 0), (.i .i64 0), (.i .i64 0), (.i .i64 0), (.i .i64 0), (.i .i64 0), (.i .i64 0), (.i .i64 0), (.v (.slice none 0 0))], [(0, 18, true), (18, 1, false)], false, 0, none, [], false⟩),
 (165, ⟨true, 19, [(.i .i64 0), (.i .i64 0), (.i .i64 0), (.i .i64 0), (.i .i64 0), (.i .i64 0), (.i .i64 0), (.i .i64 0), (.i .i64 0), (.i .i64 0), (.i .i64 0), (.i .i64 0), (.i .i64 0), (.i .i64 0), (.i .i64 0), (.i .i64 0), (.i .i64 0), (.i .i64 0), (.v (.slice none 0 0))], [(0, 18, true), (18, 1, false)], false, 0, none, [], false⟩),
 (174, ⟨false, 1, [(.v (.slice none 0 0))], [], true, 3, none, [], false⟩),
 (181, ⟨false, 1, [(.i .u32 0)], [], false, 0, some .u32, [], false⟩),
 (186, ⟨false, 1, [(.v (.pointer none))], [], false, 0, none, [], true⟩),
 (201, ⟨true, 4, [(.i .u64 0), (.i .u64 0), (.i .u64 0), (.i .i64 0)], [(0, 3, true), (3, 1, false)], false, 0, none, [true, true, true, true], false⟩),
 (202, ⟨true, 4, [(.i .u64 0), (.i .u64 0), (.i .u64 0), (.i .i64 0)], [(0, 3, true), (3, 1, false)], false, 0, none, [true, true, true, true], false⟩),
 (212, ⟨true, 4, [(.v (.pointer none)), (.v (.pointer none)), (.v (.pointer none)), (.v (.string ByteArray.empty))], [(0, 1, false), (1, 1, false), (2, 1, false), (3, 1, false)], false, 0, none, [], false⟩),
 (213, ⟨true, 4, [(.v (.pointer none)), (.v (.pointer none)), (.v (.pointer none)), (.v (.string ByteArray.empty))], [(0, 1, false), (1, 1, false), (2, 1, false), (3, 1, false)], false, 0, none, [], false⟩),
 (217, ⟨false, 1, [(.i .u8 0)], [], false, 0, some .u8, [], false⟩),
 (218, ⟨false, 1, [(.i .u8 0)], [], false, 0, some .u8, [], false⟩),
 (220, ⟨false, 1, [(.v (.pointer none))], [], false, 0, none, [], true⟩),
 (221, ⟨false, 1, [(.i .i32 0)], [], false, 0, some .i32, [], false⟩),
 (222, ⟨false, 1, [(.i .i32 0)], [], false, 0, some .i32, [], false⟩),
 (225, ⟨false, 1, [(.v (.pointer none))], [], false, 0, none, [], false⟩)]
theorem tab_ok : TabOk Tryz.prog tab := by
  unfold tab
  repeat (refine TabOk.cons ⟨by kernel_rfl, by kernel_rfl⟩ ?_)
  exact TabOk.nil
end Go.Proofs.YthmikjjnlahlbaaGreat.En
namespace Go.Proofs.YthmikjjnlahlbaaGreat.Ce
set_option linter.unusedSectionVars false
set_option linter.unusedVariables false
set_option linter.unusedSimpArgs false
def ms (n : Int) : Int := if n < 0 then 0 else if 10000 < n then 10000 else n
theorem ms_lo (n : Int) : 0 ≤ ms n := by unfold ms; repeat' split <;> omega
theorem ms_hi (n : Int) : ms n ≤ 10000 := by unfold ms; repeat' split <;> omega
def ab (n : Int) : Int := if n < 0 then -n else n
def nr (a b c : Int) : Bool := decide (ab (ms a - ms b) ≤ ms c)
def ov (a b : Int) : Bool := decide (ms b < ms a)
theorem nr_self (a c : Int) : nr a a c = true := by unfold nr ab; have := ms_lo c; simp; omega
end Go.Proofs.YthmikjjnlahlbaaGreat.Ce
namespace Go.Proofs.YthmikjjnlahlbaaGreat.Do
set_option linter.unusedSectionVars false
set_option linter.unusedVariables false
set_option linter.unusedSimpArgs false
/-- A timer's ticks. -/
def hd (t : Int) : Int := if t < 1 then 1 else if 1000 < t then 1000 else t
theorem hd_lo (t : Int) : 1 ≤ hd t := by unfold hd; repeat' split <;> omega
theorem hd_hi (t : Int) : hd t ≤ 1000 := by unfold hd; repeat' split <;> omega
def gd (s a t : Int) : Bool := decide ((s = 0 ∧ a = 0) ∨ (s = 2 ∧ a = hd t) ∨ ((s = 1 ∨ s = 3) ∧ 0 ≤ a ∧ a ≤ hd t))
theorem gd_iff (s a t : Int) : gd s a t = true ↔ ((s = 0 ∧ a = 0) ∨ (s = 2 ∧ a = hd t) ∨ ((s = 1 ∨ s = 3) ∧ 0 ≤ a ∧ a ≤ hd t)) := by unfold gd; simp
theorem gd_bd (s a t : Int) (h : gd s a t = true) : 0 ≤ s ∧ s ≤ 3 ∧ 0 ≤ a ∧ a ≤ 1000 := by
  have := hd_lo t; have := hd_hi t; rw [gd_iff] at h; omega
/-- Told to open; told to close. -/
def oS (s : Int) : Int := if s = 0 ∨ s = 3 then 1 else s
def cS (s : Int) : Int := if s = 1 ∨ s = 2 then 3 else s
/-- A tick: the state; the place. -/
def tS (s a t : Int) (b : Bool) : Int := if s = 3 ∧ b = true then 1 else if s = 3 ∧ a ≤ 1 then 0 else if s = 3 then 3 else if s = 1 ∧ hd t ≤ a + 1 then 2 else s
def tA (s a t : Int) (b : Bool) : Int := if s = 3 ∧ b = true then a else if s = 3 ∧ a ≤ 1 then 0 else if s = 3 then a - 1 else if s = 1 ∧ hd t ≤ a + 1 then hd t else if s = 1 then a + 1 else a
/-- Opening, closing, by one. -/
def pS (s a t : Int) : Int := if t ≤ a + 1 then 2 else s
def pA (a t : Int) : Int := if t ≤ a + 1 then t else a + 1
def qS (s a : Int) : Int := if a ≤ 1 then 0 else s
def qA (a : Int) : Int := if a ≤ 1 then 0 else a - 1
theorem gd_open (s a t : Int) (h : gd s a t = true) : gd (oS s) a t = true := by
  rw [gd_iff] at *; unfold oS; have := hd_lo t; split <;> omega
theorem gd_close (s a t : Int) (h : gd s a t = true) : gd (cS s) a t = true := by
  rw [gd_iff] at *; unfold cS; have := hd_lo t; split <;> omega
theorem gd_tick (s a t : Int) (b : Bool) (h : gd s a t = true) : gd (tS s a t b) (tA s a t b) t = true := by
  rw [gd_iff] at *; unfold tS tA; have := hd_lo t; have := hd_hi t
  cases b <;> simp <;> (repeat' split) <;> omega
end Go.Proofs.YthmikjjnlahlbaaGreat.Do
namespace Go.Proofs.YthmikjjnlahlbaaGreat.Ce
set_option linter.unusedSectionVars false
set_option linter.unusedVariables false
set_option linter.unusedSimpArgs false
open Go.RowKit Go.Proofs.YthmikjjnlahlbaaGreat.Ba Go.Proofs.YthmikjjnlahlbaaGreat.En
set_option maxRecDepth 100000
theorem massT (n : Int) (w : World) : Calls Tryz.prog 207 #[.int .i64 n] w fun e w' => e = .returned (.int .i64 (ms n)) ∧ Since w w' := by
  refine ent tab_ok [.i .i64 n] Tryz.func207 Tryz.ntmps207 rfl rfl ?_
  repeat' ((conv => whnf); first | refine sgo ⟨tab_ok⟩ ?_ | refine br_not ?_ | refine br_t rfl ?_ | refine br_f rfl ?_ | refine br_t (by assumption) ?_ | refine br_f (by assumption) ?_ | refine br_t (decide_eq_true (by assumption)) ?_ | refine br_f (decide_eq_false (by assumption)) ?_ | refine br_t (beq_iff_eq.2 (by assumption)) ?_ | refine br_f (beq_eq_false_iff_ne.2 (by assumption)) ?_ | refine fin_s ?_ | refine fin_r ?_ ?_ | refine fin_e ?_ ?_)
  exact congrArg (Value.int .i64) (by unfold ms; repeat' split <;> omega)
theorem overT (a b : Int) (w : World) : Calls Tryz.prog 177 #[.int .i64 a, .int .i64 b] w fun e w' => e = .returned (.bool (ov a b)) ∧ Since w w' := by
  refine ent tab_ok [.i .i64 a, .i .i64 b] Tryz.func177 Tryz.ntmps177 rfl rfl ?_
  repeat' ((conv => whnf); first | refine sgo ⟨tab_ok⟩ ?_ | refine br_not ?_ | refine br_t rfl ?_ | refine br_f rfl ?_ | refine br_t (by assumption) ?_ | refine br_f (by assumption) ?_ | refine br_t (decide_eq_true (by assumption)) ?_ | refine br_f (decide_eq_false (by assumption)) ?_ | refine br_t (beq_iff_eq.2 (by assumption)) ?_ | refine br_f (beq_eq_false_iff_ne.2 (by assumption)) ?_ | refine callS (f := 207) (.i .i64 _) (massT _) ?_ | refine fin_s ?_ | refine fin_r ?_ ?_ | refine fin_e ?_ ?_)
  exact rfl
theorem nearT (a b c : Int) (w : World) : Calls Tryz.prog 210 #[.int .i64 a, .int .i64 b, .int .i64 c] w fun e w' => e = .returned (.bool (nr a b c)) ∧ Since w w' := by
  have h1 := ms_lo a
  have h2 := ms_hi a
  have h3 := ms_lo b
  have h4 := ms_hi b
  refine ent tab_ok [.i .i64 a, .i .i64 b, .i .i64 c] Tryz.func210 Tryz.ntmps210 rfl rfl ?_
  repeat' ((conv => whnf); first | refine sgo ⟨tab_ok⟩ ?_ | refine br_not ?_ | refine br_t rfl ?_ | refine br_f rfl ?_ | refine br_t (by assumption) ?_ | refine br_f (by assumption) ?_ | refine br_t (decide_eq_true (by assumption)) ?_ | refine br_f (decide_eq_false (by assumption)) ?_ | refine br_t (beq_iff_eq.2 (by assumption)) ?_ | refine br_f (beq_eq_false_iff_ne.2 (by assumption)) ?_ | refine wr_i ?_ | refine callS (f := 207) (.i .i64 _) (massT _) ?_ | refine fin_s ?_ | refine fin_r ?_ ?_ | refine fin_e ?_ ?_)
  exact congrArg Value.bool (by unfold nr ab; congr 1; rw [eq_iff_iff]; repeat' split <;> omega)
end Go.Proofs.YthmikjjnlahlbaaGreat.Ce
namespace Go.Proofs.YthmikjjnlahlbaaGreat.Do
set_option linter.unusedSectionVars false
set_option linter.unusedVariables false
set_option linter.unusedSimpArgs false
open Go.RowKit Go.Proofs.YthmikjjnlahlbaaGreat.Ba Go.Proofs.YthmikjjnlahlbaaGreat.En
set_option maxRecDepth 100000
theorem ret2 {a b c d : Int} (h : a = c) (k : b = d) : Value.agg #[.int .i64 a, .int .i64 b] = (.agg #[.int .i64 c, .int .i64 d]) := by rw [h, k]
theorem heldT (n : Int) (w : World) : Calls Tryz.prog 221 #[.int .i64 n] w fun e w' => e = .returned (.int .i64 (hd n)) ∧ Since w w' := by
  refine ent tab_ok [.i .i64 n] Tryz.func221 Tryz.ntmps221 rfl rfl ?_
  repeat' ((conv => whnf); first | refine sgo ⟨tab_ok⟩ ?_ | refine br_not ?_ | refine br_t rfl ?_ | refine br_f rfl ?_ | refine br_t (by assumption) ?_ | refine br_f (by assumption) ?_ | refine br_t (decide_eq_true (by assumption)) ?_ | refine br_f (decide_eq_false (by assumption)) ?_ | refine br_t (beq_iff_eq.2 (by assumption)) ?_ | refine br_f (beq_eq_false_iff_ne.2 (by assumption)) ?_ | refine fin_s ?_ | refine fin_r ?_ ?_ | refine fin_e ?_ ?_)
  exact congrArg (Value.int .i64) (by unfold hd; repeat' split <;> omega)
theorem openD (s a : Int) (w : World) : Calls Tryz.prog 218 #[.agg #[.int .i64 s, .int .i64 a]] w fun e w' => e = .returned (.agg #[.int .i64 (oS s), .int .i64 a]) ∧ Since w w' := by
  refine ent tab_ok [.a [.i .i64 s, .i .i64 a]] Tryz.func218 Tryz.ntmps218 rfl rfl ?_
  repeat' ((conv => whnf); first | refine sgo ⟨tab_ok⟩ ?_ | refine br_not ?_ | refine br_t rfl ?_ | refine br_f rfl ?_ | refine br_t (by assumption) ?_ | refine br_f (by assumption) ?_ | refine br_t (decide_eq_true (by assumption)) ?_ | refine br_f (decide_eq_false (by assumption)) ?_ | refine br_t (beq_iff_eq.2 (by assumption)) ?_ | refine br_f (beq_eq_false_iff_ne.2 (by assumption)) ?_ | refine br_dec (fun h => ?_) (fun h => ?_) | refine br_eq (fun h => ?_) (fun h => ?_) | refine br_b (fun h => ?_) (fun h => ?_) | intro b | refine drA ⟨tab_ok⟩ [] ?_ | refine fin_s ?_ | refine fin_r ?_ ?_ | refine fin_e ?_ ?_)
  all_goals exact ret2 (by unfold oS; repeat' split <;> omega) rfl
theorem closeD (s a : Int) (w : World) : Calls Tryz.prog 219 #[.agg #[.int .i64 s, .int .i64 a]] w fun e w' => e = .returned (.agg #[.int .i64 (cS s), .int .i64 a]) ∧ Since w w' := by
  refine ent tab_ok [.a [.i .i64 s, .i .i64 a]] Tryz.func219 Tryz.ntmps219 rfl rfl ?_
  repeat' ((conv => whnf); first | refine sgo ⟨tab_ok⟩ ?_ | refine br_not ?_ | refine br_t rfl ?_ | refine br_f rfl ?_ | refine br_t (by assumption) ?_ | refine br_f (by assumption) ?_ | refine br_t (decide_eq_true (by assumption)) ?_ | refine br_f (decide_eq_false (by assumption)) ?_ | refine br_t (beq_iff_eq.2 (by assumption)) ?_ | refine br_f (beq_eq_false_iff_ne.2 (by assumption)) ?_ | refine br_dec (fun h => ?_) (fun h => ?_) | refine br_eq (fun h => ?_) (fun h => ?_) | refine br_b (fun h => ?_) (fun h => ?_) | intro b | refine drA ⟨tab_ok⟩ [] ?_ | refine fin_s ?_ | refine fin_r ?_ ?_ | refine fin_e ?_ ?_)
  all_goals exact ret2 (by unfold cS; repeat' split <;> omega) rfl
theorem openedD (s a t : Int) (ha : 0 ≤ a) (ha2 : a ≤ 1000) (ht : 1 ≤ t) (w : World) : Calls Tryz.prog 220 #[.agg #[.int .i64 s, .int .i64 a], .int .i64 t] w fun e w' => e = .returned (.agg #[.int .i64 (pS s a t), .int .i64 (pA a t)]) ∧ Since w w' := by
  refine ent tab_ok [.a [.i .i64 s, .i .i64 a], .i .i64 t] Tryz.func220 Tryz.ntmps220 rfl rfl ?_
  repeat' ((conv => whnf); first | refine sgo ⟨tab_ok⟩ ?_ | refine br_not ?_ | refine br_t rfl ?_ | refine br_f rfl ?_ | refine br_t (by assumption) ?_ | refine br_f (by assumption) ?_ | refine br_t (decide_eq_true (by assumption)) ?_ | refine br_f (decide_eq_false (by assumption)) ?_ | refine br_t (beq_iff_eq.2 (by assumption)) ?_ | refine br_f (beq_eq_false_iff_ne.2 (by assumption)) ?_ | refine wr_i ?_ | refine br_dec (fun h => ?_) (fun h => ?_) | refine br_eq (fun h => ?_) (fun h => ?_) | refine br_b (fun h => ?_) (fun h => ?_) | intro b | refine drA ⟨tab_ok⟩ [] ?_ | refine fin_s ?_ | refine fin_r ?_ ?_ | refine fin_e ?_ ?_)
  all_goals exact ret2 (by unfold pS; repeat' split at * <;> omega) (by unfold pA; repeat' split at * <;> omega)
theorem closedD (s a : Int) (ha : 0 ≤ a) (ha2 : a ≤ 1000) (w : World) : Calls Tryz.prog 222 #[.agg #[.int .i64 s, .int .i64 a]] w fun e w' => e = .returned (.agg #[.int .i64 (qS s a), .int .i64 (qA a)]) ∧ Since w w' := by
  refine ent tab_ok [.a [.i .i64 s, .i .i64 a]] Tryz.func222 Tryz.ntmps222 rfl rfl ?_
  repeat' ((conv => whnf); first | refine sgo ⟨tab_ok⟩ ?_ | refine br_not ?_ | refine br_t rfl ?_ | refine br_f rfl ?_ | refine br_t (by assumption) ?_ | refine br_f (by assumption) ?_ | refine br_t (decide_eq_true (by assumption)) ?_ | refine br_f (decide_eq_false (by assumption)) ?_ | refine br_t (beq_iff_eq.2 (by assumption)) ?_ | refine br_f (beq_eq_false_iff_ne.2 (by assumption)) ?_ | refine wr_i ?_ | refine br_dec (fun h => ?_) (fun h => ?_) | refine br_eq (fun h => ?_) (fun h => ?_) | refine br_b (fun h => ?_) (fun h => ?_) | intro b | refine drA ⟨tab_ok⟩ [] ?_ | refine fin_s ?_ | refine fin_r ?_ ?_ | refine fin_e ?_ ?_)
  all_goals exact ret2 (by unfold qS; repeat' split at * <;> omega) (by unfold qA; repeat' split at * <;> omega)
theorem tickD (s a t : Int) (b : Bool) (ha : 0 ≤ a) (ha2 : a ≤ 1000) (w : World) : Calls Tryz.prog 181 #[.agg #[.int .i64 s, .int .i64 a], .int .i64 t, .bool b] w fun e w' => e = .returned (.agg #[.int .i64 (tS s a t b), .int .i64 (tA s a t b)]) ∧ Since w w' := by
  have h1 := hd_lo t
  have h2 := hd_hi t
  refine ent tab_ok [.a [.i .i64 s, .i .i64 a], .i .i64 t, .b b] Tryz.func181 Tryz.ntmps181 rfl rfl ?_
  repeat' ((conv => whnf); first | refine sgo ⟨tab_ok⟩ ?_ | refine br_not ?_ | refine br_t rfl ?_ | refine br_f rfl ?_ | refine br_t (by assumption) ?_ | refine br_f (by assumption) ?_ | refine br_t (decide_eq_true (by assumption)) ?_ | refine br_f (decide_eq_false (by assumption)) ?_ | refine br_t (beq_iff_eq.2 (by assumption)) ?_ | refine br_f (beq_eq_false_iff_ne.2 (by assumption)) ?_ | refine wr_i ?_ | refine br_dec (fun h => ?_) (fun h => ?_) | refine br_eq (fun h => ?_) (fun h => ?_) | refine br_b (fun h => ?_) (fun h => ?_) | intro b | refine drA ⟨tab_ok⟩ [] ?_ | refine kpt ?_ | refine callS (f := 221) (.i .i64 _) (heldT _) ?_ | refine callS (f := 218) (.a [.i .i64 _, .i .i64 _]) (openD _ _) ?_ | refine callS (f := 220) (.a [.i .i64 _, .i .i64 _]) (openedD _ _ _ ha ha2 h1) ?_ | refine callS (f := 222) (.a [.i .i64 _, .i .i64 _]) (closedD _ _ ha ha2) ?_ | refine fin_s ?_ | refine fin_r ?_ ?_ | refine fin_e ?_ ?_)
  all_goals refine ret2 ?_ ?_
  all_goals subst_vars
  all_goals first
    | (simp [tS, tA, pS, pA, qS, qA, oS]; done)
    | (simp [tS, tA, pS, pA, qS, qA, oS, *]; done)
    | (unfold tS tA; simp [*]; done)
end Go.Proofs.YthmikjjnlahlbaaGreat.Do
namespace Go.Proofs.YthmikjjnlahlbaaGreat.Mo
set_option linter.unusedSectionVars false
set_option linter.unusedVariables false
set_option linter.unusedSimpArgs false
def fl (n : Int) : Int := if n < 2 then 2 else if 64 < n then 64 else n
theorem fl_lo (n : Int) : 2 ≤ fl n := by unfold fl; repeat' split <;> omega
theorem fl_hi (n : Int) : fl n ≤ 64 := by unfold fl; repeat' split <;> omega
def lvB (u : Int) : Bool := decide (0 ≤ u ∧ u ≤ 252 ∧ u % 4 = 0)
def lvN (u : Int) : Int := if lvB u = true then u / 4 else 0
theorem lvB_iff (u : Int) : lvB u = true ↔ (0 ≤ u ∧ u ≤ 252 ∧ u % 4 = 0) := by unfold lvB; simp
def mv (u w f : Int) : Int := if w = 1 ∧ u < 4 * (fl f - 1) then u + 1 else if w = 2 ∧ 0 < u then u - 1 else u
def tw (u f : Int) : Int := if u < 4 * f then 1 else if 4 * f < u then 2 else 0
def fr (u f : Int) : Int := if u - 4 * f < 0 then 4 * f - u else u - 4 * f
theorem fr_lo (u f : Int) : 0 ≤ fr u f := by unfold fr; split <;> omega
theorem mv_in (u w f : Int) (h0 : 0 ≤ u) (h1 : u ≤ 4 * (fl f - 1)) : 0 ≤ mv u w f ∧ mv u w f ≤ 4 * (fl f - 1) := by unfold mv; have := fl_lo f; repeat' split <;> omega
/-- One unit nearer. -/
theorem tw_some (x f : Int) (h : 0 < fr x f) : tw x f = 1 ∨ tw x f = 2 := by unfold tw; unfold fr at h; repeat' split <;> omega
theorem far_lv (f : Int) (f0 : 0 ≤ f) (f1 : f ≤ 63) : lvB (4 * f) = true ∧ lvN (4 * f) = f := by
  have h : lvB (4 * f) = true := by rw [lvB_iff]; omega
  refine ⟨h, ?_⟩
  unfold lvN; rw [if_pos h]; omega
end Go.Proofs.YthmikjjnlahlbaaGreat.Mo
namespace Go.Proofs.YthmikjjnlahlbaaGreat.Mo
set_option linter.unusedSectionVars false
set_option linter.unusedVariables false
set_option linter.unusedSimpArgs false
open Go.RowKit Go.Proofs.YthmikjjnlahlbaaGreat.Ba Go.Proofs.YthmikjjnlahlbaaGreat.En
set_option maxRecDepth 100000
theorem floorsT (n : Int) (w : World) : Calls Tryz.prog 190 #[.int .i64 n] w fun e w' => e = .returned (.int .i64 (fl n)) ∧ Since w w' := by
  refine ent tab_ok [.i .i64 n] Tryz.func190 Tryz.ntmps190 rfl rfl ?_
  repeat' ((conv => whnf); first | refine sgo ⟨tab_ok⟩ ?_ | refine br_not ?_ | refine br_t rfl ?_ | refine br_f rfl ?_ | refine br_t (by assumption) ?_ | refine br_f (by assumption) ?_ | refine br_t (decide_eq_true (by assumption)) ?_ | refine br_f (decide_eq_false (by assumption)) ?_ | refine br_t (beq_iff_eq.2 (by assumption)) ?_ | refine br_f (beq_eq_false_iff_ne.2 (by assumption)) ?_ | refine br_dec (fun h => ?_) (fun h => ?_) | refine br_eq (fun h => ?_) (fun h => ?_) | refine br_b (fun h => ?_) (fun h => ?_) | refine fin_s ?_ | refine fin_r ?_ ?_ | refine fin_e ?_ ?_)
  all_goals exact congrArg (Value.int .i64) (by unfold fl; repeat' split <;> omega)
theorem placeT (n : Int) (h0 : -1099511627776 ≤ n) (h1 : n ≤ 1099511627776) (w : World) : Calls Tryz.prog 192 #[.int .i64 n] w fun e w' => e = .returned (.int .i64 (4 * n)) ∧ Since w w' := by
  refine ent tab_ok [.i .i64 n] Tryz.func192 Tryz.ntmps192 rfl rfl ?_
  repeat' ((conv => whnf); first | refine sgo ⟨tab_ok⟩ ?_ | refine br_not ?_ | refine br_t rfl ?_ | refine br_f rfl ?_ | refine br_t (by assumption) ?_ | refine br_f (by assumption) ?_ | refine br_t (decide_eq_true (by assumption)) ?_ | refine br_f (decide_eq_false (by assumption)) ?_ | refine br_t (beq_iff_eq.2 (by assumption)) ?_ | refine br_f (beq_eq_false_iff_ne.2 (by assumption)) ?_ | refine wr_i ?_ | refine fin_s ?_ | refine fin_r ?_ ?_ | refine fin_e ?_ ?_)
  exact rfl
theorem ret_lv {a : Int} {b : Bool} {u : Int} (h : b = lvB u) (k : a = lvN u) : Value.tuple #[.int .i64 a, .bool b] = .tuple #[.int .i64 (lvN u), .bool (lvB u)] := by rw [h, k]
theorem lv_no {u : Int} (h : u < 0 ∨ 252 < u ∨ u.tmod 4 ≠ 0) : false = lvB u ∧ 0 = lvN u := by
  have : lvB u = false := by
    rw [← Bool.not_eq_true, lvB_iff]
    rintro ⟨h1, h2, h3⟩
    rw [Int.tmod_eq_emod_of_nonneg h1] at h
    omega
  exact ⟨this.symm, by simp [lvN, this]⟩
theorem lv_yes {u : Int} (h0 : 0 ≤ u) (h1 : u ≤ 252) (h : u.tmod 4 = 0) : true = lvB u ∧ u / 4 = lvN u := by
  rw [Int.tmod_eq_emod_of_nonneg h0] at h
  have : lvB u = true := by rw [lvB_iff]; omega
  exact ⟨this.symm, by simp [lvN, this]⟩
theorem levelT (u : Int) (w : World) : Calls Tryz.prog 131 #[.int .i64 u] w fun e w' => e = .returned (.tuple #[.int .i64 (lvN u), .bool (lvB u)]) ∧ Since w w' := by
  refine ent tab_ok [.i .i64 u] Tryz.func131 Tryz.ntmps131 rfl rfl ?_
  repeat' ((conv => whnf); first | refine sgo ⟨tab_ok⟩ ?_ | refine br_not ?_ | refine br_t rfl ?_ | refine br_f rfl ?_ | refine br_t (by assumption) ?_ | refine br_f (by assumption) ?_ | refine br_t (decide_eq_true (by assumption)) ?_ | refine br_f (decide_eq_false (by assumption)) ?_ | refine br_t (beq_iff_eq.2 (by assumption)) ?_ | refine br_f (beq_eq_false_iff_ne.2 (by assumption)) ?_ | refine cd (by first | decide | omega) ?_ | refine wr_i ?_ | refine wr_q ?_ | refine br_dec (fun h => ?_) (fun h => ?_) | refine br_eq (fun h => ?_) (fun h => ?_) | refine br_b (fun h => ?_) (fun h => ?_) | refine callS (f := 192) (.i .i64 _) (placeT _ (by omega) (by omega)) ?_ | refine fin_s ?_ | refine fin_r ?_ ?_ | refine fin_e ?_ ?_)
  all_goals refine ret_lv ?_ ?_
  all_goals first
    | exact (lv_no (by omega)).1
    | exact (lv_no (by omega)).2
    | exact (lv_no (.inr (.inr (by assumption)))).1
    | exact (lv_no (.inr (.inr (by assumption)))).2
    | exact (lv_yes (by omega) (by omega) (by assumption)).1
    | exact (lv_yes (by omega) (by omega) (by assumption)).2
theorem moveT (u v f : Int) (h : -9223372036854775808 ≤ u ∧ u ≤ 9223372036854775807) (w : World) : Calls Tryz.prog 182 #[.int .i64 u, .int .i64 v, .int .i64 f] w fun e w' => e = .returned (.int .i64 (mv u v f)) ∧ Since w w' := by
  have h1 := fl_lo f
  have h2 := fl_hi f
  refine ent tab_ok [.i .i64 u, .i .i64 v, .i .i64 f] Tryz.func182 Tryz.ntmps182 rfl rfl ?_
  repeat' ((conv => whnf); first | refine sgo ⟨tab_ok⟩ ?_ | refine br_not ?_ | refine br_t rfl ?_ | refine br_f rfl ?_ | refine br_t (by assumption) ?_ | refine br_f (by assumption) ?_ | refine br_t (decide_eq_true (by assumption)) ?_ | refine br_f (decide_eq_false (by assumption)) ?_ | refine br_t (beq_iff_eq.2 (by assumption)) ?_ | refine br_f (beq_eq_false_iff_ne.2 (by assumption)) ?_ | refine wr_i ?_ | refine br_t (decide_eq_true (by omega)) ?_ | refine br_f (decide_eq_false (by omega)) ?_ | refine br_dec (fun h => ?_) (fun h => ?_) | refine br_eq (fun h => ?_) (fun h => ?_) | refine br_b (fun h => ?_) (fun h => ?_) | refine callS (f := 192) (.i .i64 _) (placeT _ (by omega) (by omega)) ?_ | refine callS (f := 190) (.i .i64 _) (floorsT _) ?_ | refine fin_s ?_ | refine fin_r ?_ ?_ | refine fin_e ?_ ?_)
  all_goals exact congrArg (Value.int .i64) (by unfold mv; repeat' split <;> omega)
theorem towardT (u f : Int) (h : -1099511627776 ≤ f ∧ f ≤ 1099511627776) (w : World) : Calls Tryz.prog 173 #[.int .i64 u, .int .i64 f] w fun e w' => e = .returned (.int .i64 (tw u f)) ∧ Since w w' := by
  refine ent tab_ok [.i .i64 u, .i .i64 f] Tryz.func173 Tryz.ntmps173 rfl rfl ?_
  repeat' ((conv => whnf); first | refine sgo ⟨tab_ok⟩ ?_ | refine br_not ?_ | refine br_t rfl ?_ | refine br_f rfl ?_ | refine br_t (by assumption) ?_ | refine br_f (by assumption) ?_ | refine br_t (decide_eq_true (by assumption)) ?_ | refine br_f (decide_eq_false (by assumption)) ?_ | refine br_t (beq_iff_eq.2 (by assumption)) ?_ | refine br_f (beq_eq_false_iff_ne.2 (by assumption)) ?_ | refine wr_i ?_ | refine br_t (decide_eq_true (by omega)) ?_ | refine br_f (decide_eq_false (by omega)) ?_ | refine br_dec (fun h => ?_) (fun h => ?_) | refine br_eq (fun h => ?_) (fun h => ?_) | refine br_b (fun h => ?_) (fun h => ?_) | refine callS (f := 192) (.i .i64 _) (placeT _ (by omega) (by omega)) ?_ | refine fin_s ?_ | refine fin_r ?_ ?_ | refine fin_e ?_ ?_)
  all_goals exact congrArg (Value.int .i64) (by unfold tw; repeat' split <;> omega)
theorem farT (u f : Int) (h : -1099511627776 ≤ u ∧ u ≤ 1099511627776) (h' : -1099511627776 ≤ f ∧ f ≤ 1099511627776) (w : World) : Calls Tryz.prog 203 #[.int .i64 u, .int .i64 f] w fun e w' => e = .returned (.int .i64 (fr u f)) ∧ Since w w' := by
  refine ent tab_ok [.i .i64 u, .i .i64 f] Tryz.func203 Tryz.ntmps203 rfl rfl ?_
  repeat' ((conv => whnf); first | refine sgo ⟨tab_ok⟩ ?_ | refine br_not ?_ | refine br_t rfl ?_ | refine br_f rfl ?_ | refine br_t (by assumption) ?_ | refine br_f (by assumption) ?_ | refine br_t (decide_eq_true (by assumption)) ?_ | refine br_f (decide_eq_false (by assumption)) ?_ | refine br_t (beq_iff_eq.2 (by assumption)) ?_ | refine br_f (beq_eq_false_iff_ne.2 (by assumption)) ?_ | refine wr_i ?_ | refine br_t (decide_eq_true (by omega)) ?_ | refine br_f (decide_eq_false (by omega)) ?_ | refine br_dec (fun h => ?_) (fun h => ?_) | refine br_eq (fun h => ?_) (fun h => ?_) | refine br_b (fun h => ?_) (fun h => ?_) | refine callS (f := 192) (.i .i64 _) (placeT _ (by omega) (by omega)) ?_ | refine fin_s ?_ | refine fin_r ?_ ?_ | refine fin_e ?_ ?_)
  all_goals exact congrArg (Value.int .i64) (by unfold fr; repeat' split <;> omega)
end Go.Proofs.YthmikjjnlahlbaaGreat.Mo
namespace Go.Proofs.YthmikjjnlahlbaaGreat.Pl
set_option linter.unusedSectionVars false
set_option linter.unusedVariables false
set_option linter.unusedSimpArgs false
open Go.Proofs.YthmikjjnlahlbaaGreat.Do Go.Proofs.YthmikjjnlahlbaaGreat.Mo Go.Proofs.YthmikjjnlahlbaaGreat.Ty
def newC : CarV := ⟨0, 0, 0, 0, 0, -1, 0, false, false, 0, 0, false, 0, 0, 0⟩
/-- The door's state, as it is told. -/
def toldS (ds un : Int) (o k : Bool) : Int := if o = true ∧ lvB un = true then oS ds else if k = true then cS ds else ds
/-- The door's state ahead of its tick; behind it; its place. -/
def dS0 (x : CarV) (o k : Bool) : Int := if x.br = true then x.ds else toldS x.ds x.un o k
def dS1 (c : CfgV) (x : CarV) (o k : Bool) : Int := tS (dS0 x o k) x.da c.dr x.bl
def dA1 (c : CfgV) (x : CarV) (o k : Bool) : Int := tA (dS0 x o k) x.da c.dr x.bl
/-- Does it move? -/
def goesB (c : CfgV) (x : CarV) (r : Int) (o k : Bool) : Bool := decide (x.br = false ∧ x.ds = 0 ∧ dS1 c x o k = 0 ∧ (r = 1 ∨ r = 2))
def wy1 (c : CfgV) (x : CarV) (r : Int) (o k : Bool) : Int := if goesB c x r o k = true then r else x.wy
def un1 (c : CfgV) (x : CarV) (r : Int) (o k : Bool) : Int := if goesB c x r o k = true then mv x.un r c.fl else x.un
def stepV (c : CfgV) (x : CarV) (r : Int) (o k : Bool) : CarV := { x with ds := dS1 c x o k, da := dA1 c x o k, wy := wy1 c x r o k, un := un1 c x r o k }
def goodB (c : CfgV) (x : CarV) : Bool := decide (gd x.ds x.da c.dr = true ∧ 0 ≤ x.un ∧ x.un ≤ 4 * (fl c.fl - 1) ∧ (x.wy = 0 ∨ x.wy = 1 ∨ x.wy = 2) ∧ (x.ds = 0 ∨ lvB x.un = true))
theorem goodB_iff (c : CfgV) (x : CarV) : goodB c x = true ↔ (gd x.ds x.da c.dr = true ∧ 0 ≤ x.un ∧ x.un ≤ 4 * (fl c.fl - 1) ∧ (x.wy = 0 ∨ x.wy = 1 ∨ x.wy = 2) ∧ (x.ds = 0 ∨ lvB x.un = true)) := by unfold goodB; simp
theorem gd_told (ds da t un : Int) (o k : Bool) (h : gd ds da t = true) : gd (toldS ds un o k) da t = true := by
  unfold toldS
  split
  · exact gd_open _ _ _ h
  · split
    · exact gd_close _ _ _ h
    · exact h
theorem gd_0 (x : CarV) (t : Int) (o k : Bool) (h : gd x.ds x.da t = true) : gd (dS0 x o k) x.da t = true := by
  unfold dS0; split
  · exact h
  · exact gd_told _ _ _ _ _ _ h
/-- From a closed door, told to open away from a floor, it stays closed. -/
theorem stays_shut (c : CfgV) (x : CarV) (o k : Bool) (h : gd x.ds x.da c.dr = true) (h0 : x.ds = 0) (hl : lvB x.un = false) : dS1 c x o k = 0 := by
  have : dS0 x o k = 0 := by
    unfold dS0 toldS cS
    rw [hl, h0]; simp
  unfold dS1; rw [this]; unfold tS; simp
theorem good_step (c : CfgV) (x : CarV) (r : Int) (o k : Bool) (h : goodB c x = true) : goodB c (stepV c x r o k) = true := by
  rw [goodB_iff] at h ⊢
  obtain ⟨h1, h2, h3, h4, h5⟩ := h
  have g1 : gd (dS1 c x o k) (dA1 c x o k) c.dr = true := gd_tick _ _ _ _ (gd_0 x _ o k h1)
  refine ⟨g1, ?_, ?_, ?_, ?_⟩
  · show 0 ≤ un1 c x r o k
    unfold un1; split
    · exact (mv_in _ _ _ h2 h3).1
    · exact h2
  · show un1 c x r o k ≤ _
    unfold un1; split
    · exact (mv_in _ _ _ h2 h3).2
    · exact h3
  · show wy1 c x r o k = 0 ∨ wy1 c x r o k = 1 ∨ wy1 c x r o k = 2
    unfold wy1; split
    · rename_i hg; unfold goesB at hg; simp at hg; omega
    · exact h4
  · show dS1 c x o k = 0 ∨ lvB (un1 c x r o k) = true
    by_cases hg : goesB c x r o k = true
    · left; unfold goesB at hg; simp at hg; exact hg.2.2.1
    · have e : un1 c x r o k = x.un := by unfold un1; rw [if_neg hg]
      rw [e]
      rcases h5 with h5 | h5
      · by_cases hl : lvB x.un = true
        · exact .inr hl
        · exact .inl (stays_shut c x o k h1 h5 (by simpa using hl))
      · exact .inr h5
theorem good_bd (c : CfgV) (x : CarV) (h : goodB c x = true) : 0 ≤ x.da ∧ x.da ≤ 1000 ∧ 0 ≤ x.un ∧ x.un ≤ 252 := by
  rw [goodB_iff] at h
  have := gd_bd _ _ _ h.1
  have := fl_hi c.fl
  omega
end Go.Proofs.YthmikjjnlahlbaaGreat.Pl
