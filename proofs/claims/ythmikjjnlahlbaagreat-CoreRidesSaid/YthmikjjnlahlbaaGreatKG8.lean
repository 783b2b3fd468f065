/-
  What is wanted by the last of these texts, part 8.
  No condition.
-/
import Derived.Test.YthmikjjnlahlbaaGreatKG7
import Derived.WalkKit
import Derived.Test.YthmikjjnlahlbaaGreatKG6
import Derived.Test.YthmikjjnlahlbaaGreatKG2
namespace Go.Proofs.YthmikjjnlahlbaaGreat.Qu
set_option linter.unusedSectionVars false
set_option linter.unusedVariables false
set_option linter.unusedSimpArgs false
open Go.RowKit Go.Proofs.YthmikjjnlahlbaaGreat.Ba Go.Proofs.YthmikjjnlahlbaaGreat.Mem Go.Proofs.YthmikjjnlahlbaaGreat.En Go.Proofs.YthmikjjnlahlbaaGreat.Ty
set_option maxRecDepth 100000
attribute [local irreducible] Go.Calls
def askE : Ek AskV := ⟨46, 5, askC, askC_len, askC_one⟩
def intE : Ek Int := ⟨3, 1, fun z => [.int .i64 z], fun _ => rfl, fun a u hu => by rw [List.mem_singleton] at hu; subst hu; rfl⟩
/-- A queue, as an object. -/
def qO (lo q : Nat) (room : Int) (ls : List AskV) (S : List Nat) (rw : Bool) : Asr := ⟨S, rw, QO lo q room ls S, fun k h hs => hs.upd k h, fun h => h.lt⟩
def oM (y : Option Nat) : Int := match y with | some k => (k : Int) | none => 0
def oQ (y : Option Nat) : Int := match y with | some k => (k : Int) | none => -1
theorem QO.base {lo lo' q : Nat} {room : Int} {ls : List AskV} {S : List Nat} {w : World} (h : QO lo q room ls S w) (hb : lo' ≤ lo) : QO lo' q room ls S w := by
  obtain ⟨h0, A, c, rfl, B, O⟩ := h
  exact ⟨by omega, A, c, rfl, B, own_base O hb⟩
theorem hold_qu {lo q n : Nat} {room : Int} {ls : List AskV} {S : List Nat} {w : World} (hg : QO lo q room ls S w) : ∃ A c, lo ≤ q ∧ S = q :: blkOf A ∧ Hold ⟨Tryz.prog, tab, S, w, n, []⟩ [⟨q, 163, true, 0, [], [.i .i64 room, .v (.slice A ls.length c)], [], true⟩] [rwO askE lo A ls.length c ls true] w := by
  obtain ⟨h0, A, c, rfl, B, O⟩ := hg
  have hq : q ∉ blkOf A := own_ne_ty O B (by decide)
  exact ⟨A, c, h0, rfl, Hold.addObj (Hold.addRow (m := []) (Hold.nil _ tab _ n w) ⟨q, 163, true, 0, [], [.i .i64 room, .v (.slice A ls.length c)], [], true⟩ B (fun _ => .inl (by simp)) (by intro q hq; cases hq) (by intro A hA; cases hA)) (rwO askE lo A ls.length c ls true) O (fun _ g hg => .inl (List.mem_cons_of_mem _ hg)) (by intro r hr _; simp only [List.nil_append, List.mem_singleton] at hr; subst hr; exact hq) (by intro A hA; cases hA)⟩
theorem hold_qr {q lo c n : Nat} {room : Int} {ls : List AskV} {A : Option Addr} {w : World} (hq : Blk w q 163 #[.int .i64 room, .slice A ls.length c]) (ho : askE.At lo A ls.length c ls w) : Hold ⟨Tryz.prog, tab, [], w, n, []⟩ [⟨q, 163, true, 0, [], [.i .i64 room, .v (.slice A ls.length c)], [], false⟩] [rwO askE lo A ls.length c ls false] w :=
  Hold.addObj (hold_q (S := []) [.i .i64 room, .v (.slice A ls.length c)] hq) (rwO askE lo A ls.length c ls false) ho (by intro k; cases k) (by intro r hr _; rw [List.mem_singleton] at hr; subst hr; exact own_ne_ty ho hq (by decide)) (by intro A hA; cases hA)
theorem fin_qu {lo q n n1 c1 : Nat} {room : Int} {A1 : Option Addr} {S : List Nat} {w : World} {V : Value} {v : SV} {fr : List (Nat × SV)} {ls : List AskV} {rest : List Row} {obr : List Asr} {st : St}
    (hst : st = ⟨fr, ⟨q, 163, true, 0, [], [.i .i64 room, .v (.slice A1 n1 c1)], [], true⟩ :: rest, rwO askE lo A1 n1 c1 ls true :: obr⟩) (hv : ∀ m, den m v = V) (h0 : lo ≤ q) (h1 : n1 = ls.length) :
    Fin ⟨Tryz.prog, tab, S, w, n, []⟩ (fun e w' => e = .returned V ∧ ∃ S', QO lo q room ls S' w' ∧ Upd S w w' ∧ ∀ g ∈ S', g ∈ S ∨ w.heap.size ≤ g) v st := by
  subst hst h1
  refine fin fun w' hH => ?_
  have oc : rwO askE lo A1 ls.length c1 ls true ∈ rwO askE lo A1 ls.length c1 ls true :: obr := List.mem_cons_self ..
  refine ⟨by rw [hv], _, ⟨h0, A1, c1, rfl, ?_, hH.obj _ oc⟩, hH.upd, fun g hg => ?_⟩
  · have := hH.row 0 _ rfl rfl
    rw [rowA_nil rfl rfl] at this
    exact this
  · rcases List.mem_cons.1 hg with rfl | hg
    · exact (hH.wf 0 _ rfl rfl).2.2 rfl
    · exact hH.own _ oc rfl g hg
theorem newT (room : Int) (w : World) : Calls Tryz.prog 72 #[.int .i64 room] w fun e w' => ∃ q, e = .returned (.pointer (some ⟨q, 0, none⟩)) ∧ QO w.heap.size q (btw room 0 64) [] [q] w' ∧ Since w w' := by
  refine ent tab_ok [.i .i64 room] Tryz.func72 Tryz.ntmps72 rfl rfl ?_
  repeat' ((conv => whnf); first | refine sgo ⟨tab_ok⟩ ?_ | refine br_not ?_ | refine br_t rfl ?_ | refine br_f rfl ?_ | refine br_t (by assumption) ?_ | refine br_f (by assumption) ?_ | refine br_t (decide_eq_true (by assumption)) ?_ | refine br_f (decide_eq_false (by assumption)) ?_ | refine br_t (beq_iff_eq.2 (by assumption)) ?_ | refine br_f (beq_eq_false_iff_ne.2 (by assumption)) ?_ | intro b | refine drA ⟨tab_ok⟩ [] ?_ | refine kpt ?_ | refine br_dec (fun h => ?_) (fun h => ?_) | refine br_eq (fun h => ?_) (fun h => ?_) | refine br_b (fun h => ?_) (fun h => ?_) | refine fin_s ?_ | refine fin_r ?_ ?_ | refine fin_e ?_ ?_)
  all_goals (conv => whnf)
  refine fin fun w' hH => ⟨_, rfl, ⟨?_, none, 0, rfl, ?_, World.ownsRow_nil _ _ _ _⟩, hH.upd.since⟩
  · rcases (hH.wf 0 _ rfl rfl).2.2 rfl with h | h
    · cases h
    · exact h
  · have q := hH.row 0 _ rfl rfl
    rw [rowA_nil rfl rfl] at q
    rw [show btw room 0 64 = (if 64 < (if room < 0 then 0 else room) then 64 else (if room < 0 then 0 else room)) by unfold btw; repeat' split <;> omega]
    exact q
theorem aheadT {q lo c : Nat} {room : Int} {ls : List AskV} {A : Option Addr} (s : Int) (w : World) (hq : Blk w q 163 #[.int .i64 room, .slice A ls.length c]) (ho : askE.At lo A ls.length c ls w) (hl : ls.length ≤ 1000000) :
    Calls Tryz.prog 161 #[.pointer (some ⟨q, 0, none⟩), .int .i64 s] w fun e w' => e = .returned (.tuple #[.int .i64 (oM (atS ls s)), .bool (atS ls s).isSome]) ∧ Since w w' := by
  obtain ⟨g, hA⟩ := Ek.addr ho
  refine entH tab_ok (hold_qr hq ho) [.p 0 0, .i .i64 s] Tryz.func161 Tryz.ntmps161 rfl rfl ?_
  repeat' ((conv => whnf); first | refine sgo ⟨tab_ok⟩ ?_ | refine br_not ?_ | refine br_t rfl ?_ | refine br_f rfl ?_ | refine br_t (by assumption) ?_ | refine br_f (by assumption) ?_ | refine br_t (decide_eq_true (by assumption)) ?_ | refine br_f (decide_eq_false (by assumption)) ?_ | refine br_t (beq_iff_eq.2 (by assumption)) ?_ | refine br_f (beq_eq_false_iff_ne.2 (by assumption)) ?_ | intro b | refine drA ⟨tab_ok⟩ [] ?_ | refine kpt ?_ | refine br_dec (fun h => ?_) (fun h => ?_) | refine br_eq (fun h => ?_) (fun h => ?_) | refine br_b (fun h => ?_) (fun h => ?_) | refine fin_s ?_ | refine fin_r ?_ ?_ | refine fin_e ?_ ?_)
  conv => whnf
  refine lp ⟨tab_ok⟩ (ι := {k : Nat // k ≤ ls.length ∧ ∀ j, j < k → ∀ hj : j < ls.length, isS s ls[j] = false}) (fun x => match x with | ⟨k, _⟩ => ⟨[(0, .p 0 0), (1, .i .i64 s), (13, .v (.slice A ls.length c)), (14, .i .i64 ls.length), (15, .i .i64 (k : Int))], [⟨q, 163, true, 0, [], [.i .i64 room, .v (.slice A ls.length c)], [], false⟩], [rwO askE lo A ls.length c ls false]⟩) (fun x => ls.length - x.1) ⟨0, Nat.zero_le _, fun j hj => by omega⟩ (wk ?_) ?_
  · repeat' (first | exact trivial | rfl | ((conv => whnf); refine And.intro ?_ ?_))
  rintro ⟨k, hk, hno⟩
  by_cases hlt : k < ls.length
  · obtain ⟨x, hx⟩ : ∃ x, ls[k]? = some x := ⟨_, List.getElem?_eq_getElem (by omega)⟩
    obtain ⟨hkl, hxe⟩ := List.getElem?_eq_some_iff.1 hx
    obtain rfl := hA (by omega)
    by_cases hpx : x.se = s
    · repeat' ((conv => whnf); first | refine sgo ⟨tab_ok⟩ ?_ | refine br_not ?_ | refine br_t rfl ?_ | refine br_f rfl ?_ | refine br_t (by assumption) ?_ | refine br_f (by assumption) ?_ | refine br_t (decide_eq_true (by assumption)) ?_ | refine br_f (decide_eq_false (by assumption)) ?_ | refine br_t (beq_iff_eq.2 (by assumption)) ?_ | refine br_f (beq_eq_false_iff_ne.2 (by assumption)) ?_ | intro b2 | refine drA ⟨tab_ok⟩ [] ?_ | refine kpt ?_ | refine br_t (decide_eq_true (by omega)) ?_ | refine br_f (decide_eq_false (by omega)) ?_ | refine wr_i ?_ | refine br_t (beq_iff_eq.2 hpx) ?_ | refine opiv ⟨tab_ok⟩ (by rfl) (by rfl) (by rfl) (by rfl) (by rfl) (by rfl) ⟨by omega, by omega⟩ ?_ | refine opix (g := g) (off := 0 + k * 5) [.i .i64 x.se, .i .i64 x.fl, .i .i64 x.fm, .i .i64 x.to, .i .i64 x.ma] (fun w hH => Ek.rng (hH.obj (rwO askE lo (some ⟨g, 0, none⟩) ls.length c ls false) (List.mem_singleton.2 rfl)) hx) ⟨tab_ok⟩ (by rfl) (by rfl) (by show Addr.add ⟨g, 0, none⟩ (k * 5) = _; rw [Go.WideShapes.add_plain]) ?_ | refine fin_s ?_ | refine fin_r ?_ ?_ | refine fin_e ?_ ?_)
      have e : atS ls s = some k := List.findIdx?_eq_some_iff_getElem.2 ⟨hkl, by rw [hxe]; simp [isS, hpx], fun j hj => by simpa using hno j hj (by omega)⟩
      rw [e]; rfl
    · have hpf : isS s x = false := by simp [isS, hpx]
      repeat' ((conv => whnf); first | refine sgo ⟨tab_ok⟩ ?_ | refine br_not ?_ | refine br_t rfl ?_ | refine br_f rfl ?_ | refine br_t (by assumption) ?_ | refine br_f (by assumption) ?_ | refine br_t (decide_eq_true (by assumption)) ?_ | refine br_f (decide_eq_false (by assumption)) ?_ | refine br_t (beq_iff_eq.2 (by assumption)) ?_ | refine br_f (beq_eq_false_iff_ne.2 (by assumption)) ?_ | intro b2 | refine drA ⟨tab_ok⟩ [] ?_ | refine kpt ?_ | refine br_t (decide_eq_true (by omega)) ?_ | refine br_f (decide_eq_false (by omega)) ?_ | refine wr_i ?_ | refine br_f (beq_eq_false_iff_ne.2 hpx) ?_ | refine opiv ⟨tab_ok⟩ (by rfl) (by rfl) (by rfl) (by rfl) (by rfl) (by rfl) ⟨by omega, by omega⟩ ?_ | refine opix (g := g) (off := 0 + k * 5) [.i .i64 x.se, .i .i64 x.fl, .i .i64 x.fm, .i .i64 x.to, .i .i64 x.ma] (fun w hH => Ek.rng (hH.obj (rwO askE lo (some ⟨g, 0, none⟩) ls.length c ls false) (List.mem_singleton.2 rfl)) hx) ⟨tab_ok⟩ (by rfl) (by rfl) (by show Addr.add ⟨g, 0, none⟩ (k * 5) = _; rw [Go.WideShapes.add_plain]) ?_ | refine back ⟨k + 1, by omega, fun j hj hjl => (Nat.lt_succ_iff_lt_or_eq.1 hj).elim (fun h => hno j h hjl) (fun h => by subst h; rw [hxe]; exact hpf)⟩ (wk ?_) ?_ | refine fin_s ?_ | refine fin_r ?_ ?_ | refine fin_e ?_ ?_)
      all_goals first | (show ls.length - (k + 1) < ls.length - k; omega) | skip
      all_goals (repeat' (first | exact trivial | rfl | ((conv => whnf); refine And.intro ?_ ?_)))
  · repeat' ((conv => whnf); first | refine sgo ⟨tab_ok⟩ ?_ | refine br_not ?_ | refine br_t rfl ?_ | refine br_f rfl ?_ | refine br_t (by assumption) ?_ | refine br_f (by assumption) ?_ | refine br_t (decide_eq_true (by assumption)) ?_ | refine br_f (decide_eq_false (by assumption)) ?_ | refine br_t (beq_iff_eq.2 (by assumption)) ?_ | refine br_f (beq_eq_false_iff_ne.2 (by assumption)) ?_ | intro b2 | refine drA ⟨tab_ok⟩ [] ?_ | refine kpt ?_ | refine br_t (decide_eq_true (by omega)) ?_ | refine br_f (decide_eq_false (by omega)) ?_ | refine wr_i ?_ | refine fin_s ?_ | refine fin_r ?_ ?_ | refine fin_e ?_ ?_)
    obtain rfl : k = ls.length := by omega
    have e : atS ls s = none := List.findIdx?_eq_none_iff.2 fun x hx => by
      obtain ⟨j, hj, rfl⟩ := List.mem_iff_getElem.1 hx
      exact hno j (by omega) hj
    rw [e]; rfl
theorem listT {q lo c : Nat} {room : Int} {ls : List AskV} {A : Option Addr} (w : World) (hq : Blk w q 163 #[.int .i64 room, .slice A ls.length c]) (ho : askE.At lo A ls.length c ls w) (hl : ls.length ≤ 1000000) :
    Calls Tryz.prog 97 #[.pointer (some ⟨q, 0, none⟩)] w fun e w' => ∃ A' c', e = .returned (.slice A' ls.length c') ∧ askE.At w.heap.size A' ls.length c' ls w' ∧ Since w w' := by
  refine entH tab_ok (hold_qr hq ho) [.p 0 0] Tryz.func97 Tryz.ntmps97 rfl rfl ?_
  repeat' ((conv => whnf); first | refine sgo ⟨tab_ok⟩ ?_ | refine br_not ?_ | refine br_t rfl ?_ | refine br_f rfl ?_ | refine br_t (by assumption) ?_ | refine br_f (by assumption) ?_ | refine br_t (decide_eq_true (by assumption)) ?_ | refine br_f (decide_eq_false (by assumption)) ?_ | refine br_t (beq_iff_eq.2 (by assumption)) ?_ | refine br_f (beq_eq_false_iff_ne.2 (by assumption)) ?_ | intro b | refine drA ⟨tab_ok⟩ [] ?_ | refine kpt ?_ | refine callN (f := 168) (ι := {x : Nat × Option Addr × Nat // w.heap.size ≤ x.1}) (fun x => .v (.slice x.1.2.1 ls.length x.1.2.2)) (fun x => rwO askE x.1.1 x.1.2.1 ls.length x.1.2.2 ls true) (fun w1 hH => (CA.cloneT lo A c ls w1 (hH.obj (rwO askE lo A ls.length c ls false) (List.mem_singleton.2 rfl)) hl).mono (by rintro e w' ⟨A', c', rfl, hO, hs⟩; exact ⟨⟨(w1.heap.size, A', c'), hH.upd.size⟩, rfl, hO, hs, own_low hO⟩)) (fun x => ?_) | refine fin fun w' hH => ⟨_, _, rfl, own_base (hH.obj (rwO askE _ _ _ _ _ true) (List.mem_cons_of_mem _ (List.mem_cons_self ..))) x.2, hH.upd.since⟩ | refine fin_s ?_ | refine fin_r ?_ ?_ | refine fin_e ?_ ?_)
attribute [local irreducible] atS oM
theorem putQ {lo q : Nat} {room : Int} {ls : List AskV} {S : List Nat} {w : World} (hg : QO lo q room ls S w) (hl : ls.length ≤ 10000) (a : AskV) :
    Calls Tryz.prog 160 #[.pointer (some ⟨q, 0, none⟩), .agg #[.int .i64 a.se, .int .i64 a.fl, .int .i64 a.fm, .int .i64 a.to, .int .i64 a.ma]] w fun e w' => e = .returned (.int .i64 (putE room ls a)) ∧ ∃ S', QO lo q room (putL room ls a) S' w' ∧ Upd S w w' ∧ ∀ g ∈ S', g ∈ S ∨ w.heap.size ≤ g := by
  obtain ⟨A, c, h0, hS, hH⟩ := hold_qu (n := _) hg
  unfold putL putE
  cases hf : (atS ls a.se).isSome with
  | true =>
    refine entH tab_ok (hH) [.p 0 0, .a [.i .i64 a.se, .i .i64 a.fl, .i .i64 a.fm, .i .i64 a.to, .i .i64 a.ma]] Tryz.func160 Tryz.ntmps160 rfl rfl ?_
    repeat' ((conv => whnf); first | refine sgo ⟨tab_ok⟩ ?_ | refine br_not ?_ | refine br_t rfl ?_ | refine br_f rfl ?_ | refine br_t (by assumption) ?_ | refine br_f (by assumption) ?_ | refine br_t (decide_eq_true (by assumption)) ?_ | refine br_f (decide_eq_false (by assumption)) ?_ | refine br_t (beq_iff_eq.2 (by assumption)) ?_ | refine br_f (beq_eq_false_iff_ne.2 (by assumption)) ?_ | intro b | refine drA ⟨tab_ok⟩ [] ?_ | refine kpt ?_ | refine callH (f := 161) (.t [.i .i64 (oM (atS ls a.se)), .b true]) (fun w hH => by have := aheadT a.se w (hH.row 0 _ rfl rfl) (hH.obj (rwO askE lo A _ c ls true) (List.mem_cons_self ..)) (by omega); rw [hf] at this; exact this) ?_ | refine fin_qu (by rfl) (by intro m; rfl) h0 (by rfl) | refine fin_s ?_ | refine fin_r ?_ ?_ | refine fin_e ?_ ?_)
  | false =>
    by_cases hr : room ≤ (ls.length : Int)
    · simp only [Bool.false_eq_true, if_false, hr, if_true]
      refine entH tab_ok (hH) [.p 0 0, .a [.i .i64 a.se, .i .i64 a.fl, .i .i64 a.fm, .i .i64 a.to, .i .i64 a.ma]] Tryz.func160 Tryz.ntmps160 rfl rfl ?_
      repeat' ((conv => whnf); first | refine sgo ⟨tab_ok⟩ ?_ | refine br_not ?_ | refine br_t rfl ?_ | refine br_f rfl ?_ | refine br_t (by assumption) ?_ | refine br_f (by assumption) ?_ | refine br_t (decide_eq_true (by assumption)) ?_ | refine br_f (decide_eq_false (by assumption)) ?_ | refine br_t (beq_iff_eq.2 (by assumption)) ?_ | refine br_f (beq_eq_false_iff_ne.2 (by assumption)) ?_ | intro b | refine drA ⟨tab_ok⟩ [] ?_ | refine kpt ?_ | refine br_t (decide_eq_true (by omega)) ?_ | refine br_f (decide_eq_false (by omega)) ?_ | refine callH (f := 161) (.t [.i .i64 (oM (atS ls a.se)), .b false]) (fun w hH => by have := aheadT a.se w (hH.row 0 _ rfl rfl) (hH.obj (rwO askE lo A _ c ls true) (List.mem_cons_self ..)) (by omega); rw [hf] at this; exact this) ?_ | refine fin_qu (by rfl) (by intro m; rfl) h0 (by rfl) | refine fin_s ?_ | refine fin_r ?_ ?_ | refine fin_e ?_ ?_)
    · simp only [Bool.false_eq_true, if_false, hr, if_true]
      refine entH tab_ok (hH) [.p 0 0, .a [.i .i64 a.se, .i .i64 a.fl, .i .i64 a.fm, .i .i64 a.to, .i .i64 a.ma]] Tryz.func160 Tryz.ntmps160 rfl rfl ?_
      repeat' ((conv => whnf); first | refine sgo ⟨tab_ok⟩ ?_ | refine br_not ?_ | refine br_t rfl ?_ | refine br_f rfl ?_ | refine br_t (by assumption) ?_ | refine br_f (by assumption) ?_ | refine br_t (decide_eq_true (by assumption)) ?_ | refine br_f (decide_eq_false (by assumption)) ?_ | refine br_t (beq_iff_eq.2 (by assumption)) ?_ | refine br_f (beq_eq_false_iff_ne.2 (by assumption)) ?_ | intro b | refine drA ⟨tab_ok⟩ [] ?_ | refine kpt ?_ | refine br_t (decide_eq_true (by omega)) ?_ | refine br_f (decide_eq_false (by omega)) ?_ | refine callH (f := 161) (.t [.i .i64 (oM (atS ls a.se)), .b false]) (fun w hH => by have := aheadT a.se w (hH.row 0 _ rfl rfl) (hH.obj (rwO askE lo A _ c ls true) (List.mem_cons_self ..)) (by omega); rw [hf] at this; exact this) ?_ | refine opb1 (e := 46) ⟨tab_ok⟩ [.i .i64 a.se, .i .i64 a.fl, .i .i64 a.fm, .i .i64 a.to, .i .i64 a.ma] (by rfl) (by rfl) ?_ | refine opap 0 2 (e := 46) (lo := lo) (size := 5) (bytes := 40) (z := .agg #[.int .i64 0, .int .i64 0, .int .i64 0, .int .i64 0, .int .i64 0]) (A := rwO askE lo A ls.length c ls true) (vals := rowsOf askC ls) (cells := askC a) (zs := rowsOf askC (ls ++ [a])) (n2 := ls.length + 1) (fun A' c' => rwO askE lo A' (ls.length + 1) c' (ls ++ [a]) true) (by rfl) (by rfl) (by rfl) (by rfl) rfl rfl (fun w h => h) (fun A' c' w h => h) (fun _ _ => rfl) (by rfl) (by rfl) (by rfl) (by rfl) Tryz.underlying84 (by kernel_rfl) rfl (by decide) (by decide) (askC_one _) (by omega) (fun w hH => by have h : q < w.heap.size := (hH.row 0 _ rfl rfl).lt; omega) rfl (by rw [rowsOf_append, rowsOf_one]) (fun A' c' => ?_) | refine fin_qu (by rfl) (by intro m; rfl) h0 (by simp) | refine fin_s ?_ | refine fin_r ?_ ?_ | refine fin_e ?_ ?_)
theorem dropQ {lo q : Nat} {room : Int} {ls : List AskV} {S : List Nat} {w : World} (hg : QO lo q room ls S w) (hl : ls.length ≤ 10000) (s : Int) :
    Calls Tryz.prog 94 #[.pointer (some ⟨q, 0, none⟩), .int .i64 s] w fun e w' => e = .returned (.bool (atS ls s).isSome) ∧ ∃ S', QO lo q room (dropL ls s) S' w' ∧ Upd S w w' ∧ ∀ g ∈ S', g ∈ S ∨ w.heap.size ≤ g := by
  obtain ⟨A, c, h0, hS, hH⟩ := hold_qu (n := _) hg
  unfold dropL
  cases hf : atS ls s with
  | none =>
    refine entH tab_ok (hH) [.p 0 0, .i .i64 s] Tryz.func94 Tryz.ntmps94 rfl rfl ?_
    repeat' ((conv => whnf); first | refine sgo ⟨tab_ok⟩ ?_ | refine br_not ?_ | refine br_t rfl ?_ | refine br_f rfl ?_ | refine br_t (by assumption) ?_ | refine br_f (by assumption) ?_ | refine br_t (decide_eq_true (by assumption)) ?_ | refine br_f (decide_eq_false (by assumption)) ?_ | refine br_t (beq_iff_eq.2 (by assumption)) ?_ | refine br_f (beq_eq_false_iff_ne.2 (by assumption)) ?_ | intro b | refine drA ⟨tab_ok⟩ [] ?_ | refine kpt ?_ | refine callH (f := 161) (.t [.i .i64 (oM none), .b false]) (fun w hH => by have := aheadT s w (hH.row 0 _ rfl rfl) (hH.obj (rwO askE lo A _ c ls true) (List.mem_cons_self ..)) (by omega); rw [hf] at this; exact this) ?_ | refine fin_qu (by rfl) (by intro m; rfl) h0 (by rfl) | refine fin_s ?_ | refine fin_r ?_ ?_ | refine fin_e ?_ ?_)
  | some k =>
    obtain ⟨hk, _, _⟩ := atS_some hf
    obtain ⟨m, hm⟩ : ∃ m, ls.length = m + 1 := ⟨ls.length - 1, by omega⟩
    have hO := hH.obj (rwO askE lo A ls.length c ls true) (List.mem_cons_self ..)
    obtain ⟨g, rfl⟩ := own_addr hO (by omega)
    have hc : ls.length ≤ c := by
      rcases hO.2 with ⟨hv, _⟩ | ⟨_, _, _, hv, _, _, hc, _⟩
      · simp at hv
      · simp at hv; omega
    have hle : (ls.eraseIdx k).length = m := by rw [List.length_eraseIdx_of_lt hk]; omega
    rw [hm] at hH hc
    have hki : oM (some k) = (k : Int) := by unfold oM; rfl
    refine entH tab_ok (hH) [.p 0 0, .i .i64 s] Tryz.func94 Tryz.ntmps94 rfl rfl ?_
    repeat' ((conv => whnf); first | refine sgo ⟨tab_ok⟩ ?_ | refine br_not ?_ | refine br_t rfl ?_ | refine br_f rfl ?_ | refine br_t (by assumption) ?_ | refine br_f (by assumption) ?_ | refine br_t (decide_eq_true (by assumption)) ?_ | refine br_f (decide_eq_false (by assumption)) ?_ | refine br_t (beq_iff_eq.2 (by assumption)) ?_ | refine br_f (beq_eq_false_iff_ne.2 (by assumption)) ?_ | intro b | refine drA ⟨tab_ok⟩ [] ?_ | refine kpt ?_ | refine wr_i ?_ | refine callH (f := 161) (.t [.i .i64 (k : Int), .b true]) (fun w hH => by have := aheadT (A := some ⟨g, 0, none⟩) (ls := ls) s w (by rw [hm]; exact hH.row 0 _ rfl rfl) (by rw [hm]; exact hH.obj (rwO askE lo (some ⟨g, 0, none⟩) (m + 1) c ls true) (List.mem_cons_self ..)) (by omega); rw [hf, hki] at this; exact this) ?_ | refine callO (f := 163) (A := rwO askE lo (some ⟨g, 0, none⟩) (m + 1) c ls true) 0 (fun _ : Unit => .v (.slice (some ⟨g, 0, none⟩) m c)) (fun _ => rwO askE lo (some ⟨g, 0, none⟩) m c (ls.eraseIdx k) true) (fun w hH hA => (CA.deleteT lo g m c k ls w hA hm (by omega) hc (by omega)).mono (by rintro e w' ⟨rfl, h1, h2⟩; exact ⟨(), rfl, h1, h2, fun _ h => .inl h⟩)) (fun _ => ?_) | refine fin_qu (ls := ls.eraseIdx k) (by rfl) (by intro m; rfl) h0 (by omega) | refine fin_s ?_ | refine fin_r ?_ ?_ | refine fin_e ?_ ?_)
theorem indexI {lo n c : Nat} {A : Option Addr} {zs : List Int} (v : Int) (w : World) (ho : intE.At lo A n c zs w) (hn : zs.length = n) (hl : n ≤ 1000000) :
    Calls Tryz.prog 225 #[.slice A n c, .int .i64 v] w fun e w' => e = .returned (.int .i64 (oQ (atI zs v))) ∧ Since w w' := by
  obtain ⟨g, hA⟩ := Ek.addr ho
  refine entH tab_ok (Hold.addObj (Hold.nil _ tab [] _ w) (rwO intE lo A n c zs false) ho (by intro k; cases k) (by intro r hr; cases hr) (by intro A hA; cases hA)) [.v (.slice A n c), .i .i64 v] Tryz.func225 Tryz.ntmps225 rfl rfl ?_
  repeat' ((conv => whnf); first | refine sgo ⟨tab_ok⟩ ?_ | refine br_not ?_ | refine br_t rfl ?_ | refine br_f rfl ?_ | refine br_t (by assumption) ?_ | refine br_f (by assumption) ?_ | refine br_t (decide_eq_true (by assumption)) ?_ | refine br_f (decide_eq_false (by assumption)) ?_ | refine br_t (beq_iff_eq.2 (by assumption)) ?_ | refine br_f (beq_eq_false_iff_ne.2 (by assumption)) ?_ | intro b | refine drA ⟨tab_ok⟩ [] ?_ | refine kpt ?_ | refine br_dec (fun h => ?_) (fun h => ?_) | refine br_eq (fun h => ?_) (fun h => ?_) | refine br_b (fun h => ?_) (fun h => ?_) | refine fin_s ?_ | refine fin_r ?_ ?_ | refine fin_e ?_ ?_)
  conv => whnf
  refine lp ⟨tab_ok⟩ (ι := {k : Nat // k ≤ n ∧ ∀ j, j < k → ∀ hj : j < zs.length, zs[j] ≠ v}) (fun x => match x with | ⟨k, _⟩ => ⟨[(0, .v (.slice A n c)), (1, .i .i64 v), (7, .i .i64 n), (8, .i .i64 (k : Int))], [], [rwO intE lo A n c zs false]⟩) (fun x => n - x.1) ⟨0, Nat.zero_le _, fun j hj => by omega⟩ (wk ?_) ?_
  · repeat' (first | exact trivial | rfl | ((conv => whnf); refine And.intro ?_ ?_))
  rintro ⟨k, hk, hno⟩
  by_cases hlt : k < n
  · obtain ⟨x, hx⟩ : ∃ x, zs[k]? = some x := ⟨_, List.getElem?_eq_getElem (by omega)⟩
    obtain ⟨hkl, hxe⟩ := List.getElem?_eq_some_iff.1 hx
    obtain rfl := hA (by omega)
    by_cases hpx : x = v
    · repeat' ((conv => whnf); first | refine sgo ⟨tab_ok⟩ ?_ | refine br_not ?_ | refine br_t rfl ?_ | refine br_f rfl ?_ | refine br_t (by assumption) ?_ | refine br_f (by assumption) ?_ | refine br_t (decide_eq_true (by assumption)) ?_ | refine br_f (decide_eq_false (by assumption)) ?_ | refine br_t (beq_iff_eq.2 (by assumption)) ?_ | refine br_f (beq_eq_false_iff_ne.2 (by assumption)) ?_ | intro b2 | refine drA ⟨tab_ok⟩ [] ?_ | refine kpt ?_ | refine br_t (decide_eq_true (by omega)) ?_ | refine br_f (decide_eq_false (by omega)) ?_ | refine wr_i ?_ | refine br_t (beq_iff_eq.2 hpx.symm) ?_ | refine opiv ⟨tab_ok⟩ (by rfl) (by rfl) (by rfl) (by rfl) (by rfl) (by rfl) ⟨by omega, by omega⟩ ?_ | refine opxc (g := g) (off := 0 + k * 1) (.i .i64 x) (fun w hH => Ek.rng (hH.obj (rwO intE lo (some ⟨g, 0, none⟩) n c zs false) (List.mem_singleton.2 rfl)) hx) ⟨tab_ok⟩ (by rfl) (by rfl) (by show Addr.add ⟨g, 0, none⟩ (k * 1) = _; rw [Go.WideShapes.add_plain]) ?_ | refine fin_s ?_ | refine fin_r ?_ ?_ | refine fin_e ?_ ?_)
      have e : atI zs v = some k := List.findIdx?_eq_some_iff_getElem.2 ⟨hkl, by rw [hxe]; simp [hpx], fun j hj => by simpa using hno j hj (by omega)⟩
      rw [e]; rfl
    · repeat' ((conv => whnf); first | refine sgo ⟨tab_ok⟩ ?_ | refine br_not ?_ | refine br_t rfl ?_ | refine br_f rfl ?_ | refine br_t (by assumption) ?_ | refine br_f (by assumption) ?_ | refine br_t (decide_eq_true (by assumption)) ?_ | refine br_f (decide_eq_false (by assumption)) ?_ | refine br_t (beq_iff_eq.2 (by assumption)) ?_ | refine br_f (beq_eq_false_iff_ne.2 (by assumption)) ?_ | intro b2 | refine drA ⟨tab_ok⟩ [] ?_ | refine kpt ?_ | refine br_t (decide_eq_true (by omega)) ?_ | refine br_f (decide_eq_false (by omega)) ?_ | refine wr_i ?_ | refine br_f (beq_eq_false_iff_ne.2 (Ne.symm hpx)) ?_ | refine opiv ⟨tab_ok⟩ (by rfl) (by rfl) (by rfl) (by rfl) (by rfl) (by rfl) ⟨by omega, by omega⟩ ?_ | refine opxc (g := g) (off := 0 + k * 1) (.i .i64 x) (fun w hH => Ek.rng (hH.obj (rwO intE lo (some ⟨g, 0, none⟩) n c zs false) (List.mem_singleton.2 rfl)) hx) ⟨tab_ok⟩ (by rfl) (by rfl) (by show Addr.add ⟨g, 0, none⟩ (k * 1) = _; rw [Go.WideShapes.add_plain]) ?_ | refine back ⟨k + 1, by omega, fun j hj hjl => (Nat.lt_succ_iff_lt_or_eq.1 hj).elim (fun h => hno j h hjl) (fun h => by subst h; rw [hxe]; exact hpx)⟩ (wk ?_) ?_ | refine fin_s ?_ | refine fin_r ?_ ?_ | refine fin_e ?_ ?_)
      all_goals first | (show n - (k + 1) < n - k; omega) | skip
      all_goals (repeat' (first | exact trivial | rfl | ((conv => whnf); refine And.intro ?_ ?_)))
  · repeat' ((conv => whnf); first | refine sgo ⟨tab_ok⟩ ?_ | refine br_not ?_ | refine br_t rfl ?_ | refine br_f rfl ?_ | refine br_t (by assumption) ?_ | refine br_f (by assumption) ?_ | refine br_t (decide_eq_true (by assumption)) ?_ | refine br_f (decide_eq_false (by assumption)) ?_ | refine br_t (beq_iff_eq.2 (by assumption)) ?_ | refine br_f (beq_eq_false_iff_ne.2 (by assumption)) ?_ | intro b2 | refine drA ⟨tab_ok⟩ [] ?_ | refine kpt ?_ | refine br_t (decide_eq_true (by omega)) ?_ | refine br_f (decide_eq_false (by omega)) ?_ | refine wr_i ?_ | refine fin_s ?_ | refine fin_r ?_ ?_ | refine fin_e ?_ ?_)
    obtain rfl : k = n := by omega
    have e : atI zs v = none := List.findIdx?_eq_none_iff.2 fun x hx => by
      obtain ⟨j, hj, rfl⟩ := List.mem_iff_getElem.1 hx
      simpa using hno j (by omega) hj
    rw [e]; rfl
theorem oQ_ge (y : Option Nat) : decide (oQ y ≥ 0) = y.isSome := by
  cases y with
  | none => rfl
  | some k => simp [oQ]
attribute [local irreducible] oQ atI
theorem containsI {lo n c : Nat} {A : Option Addr} {zs : List Int} (v : Int) (w : World) (ho : intE.At lo A n c zs w) (hn : zs.length = n) (hl : n ≤ 1000000) :
    Calls Tryz.prog 201 #[.slice A n c, .int .i64 v] w fun e w' => e = .returned (.bool (atI zs v).isSome) ∧ Since w w' := by
  refine entH tab_ok (Hold.addObj (Hold.nil _ tab [] _ w) (rwO intE lo A n c zs false) ho (by intro k; cases k) (by intro r hr; cases hr) (by intro A hA; cases hA)) [.v (.slice A n c), .i .i64 v] Tryz.func201 Tryz.ntmps201 rfl rfl ?_
  repeat' ((conv => whnf); first | refine sgo ⟨tab_ok⟩ ?_ | refine br_not ?_ | refine br_t rfl ?_ | refine br_f rfl ?_ | refine br_t (by assumption) ?_ | refine br_f (by assumption) ?_ | refine br_t (decide_eq_true (by assumption)) ?_ | refine br_f (decide_eq_false (by assumption)) ?_ | refine br_t (beq_iff_eq.2 (by assumption)) ?_ | refine br_f (beq_eq_false_iff_ne.2 (by assumption)) ?_ | intro b | refine drA ⟨tab_ok⟩ [] ?_ | refine kpt ?_ | refine br_dec (fun h => ?_) (fun h => ?_) | refine br_eq (fun h => ?_) (fun h => ?_) | refine br_b (fun h => ?_) (fun h => ?_) | refine callH (f := 225) (.i .i64 (oQ (atI zs v))) (fun w hH => indexI v w (hH.obj (rwO intE lo A n c zs false) (List.mem_singleton.2 rfl)) hn hl) ?_ | refine fin_s ?_ | refine fin_r ?_ ?_ | refine fin_e ?_ ?_)
  all_goals (simp only [den]; rw [oQ_ge])
/-- The first that waits and is of none of these fleets; else nobody. -/
def zA : AskV := ⟨0, 0, 0, 0, 0⟩
def firstA (ls : List AskV) (zs : List Int) : AskV := match atF ls zs with | some k => ls.getD k zA | none => zA
theorem firstT {q lo c lo2 n2 c2 : Nat} {room : Int} {ls : List AskV} {A A2 : Option Addr} {zs : List Int} (w : World) (hq : Blk w q 163 #[.int .i64 room, .slice A ls.length c]) (ho : askE.At lo A ls.length c ls w) (hl : ls.length ≤ 1000000) (hz : intE.At lo2 A2 n2 c2 zs w) (hn : zs.length = n2) (hl2 : n2 ≤ 1000000) :
    Calls Tryz.prog 144 #[.pointer (some ⟨q, 0, none⟩), .slice A2 n2 c2] w fun e w' => e = .returned (.tuple #[.agg #[.int .i64 (firstA ls zs).se, .int .i64 (firstA ls zs).fl, .int .i64 (firstA ls zs).fm, .int .i64 (firstA ls zs).to, .int .i64 (firstA ls zs).ma], .bool (atF ls zs).isSome]) ∧ Since w w' := by
  obtain ⟨g, hA⟩ := Ek.addr ho
  refine entH tab_ok (Hold.addObj (hold_qr hq ho) (rwO intE lo2 A2 n2 c2 zs false) hz (by intro k; cases k) (by intro r hr _; rw [List.mem_singleton] at hr; subst hr; exact own_ne_ty hz hq (by decide)) (by intro A hA k; simp only [List.mem_singleton] at hA; subst hA; rcases k with k | k <;> cases k)) [.p 0 0, .v (.slice A2 n2 c2)] Tryz.func144 Tryz.ntmps144 rfl rfl ?_
  repeat' ((conv => whnf); first | refine sgo ⟨tab_ok⟩ ?_ | refine br_not ?_ | refine br_t rfl ?_ | refine br_f rfl ?_ | refine br_t (by assumption) ?_ | refine br_f (by assumption) ?_ | refine br_t (decide_eq_true (by assumption)) ?_ | refine br_f (decide_eq_false (by assumption)) ?_ | refine br_t (beq_iff_eq.2 (by assumption)) ?_ | refine br_f (beq_eq_false_iff_ne.2 (by assumption)) ?_ | intro b | refine drA ⟨tab_ok⟩ [] ?_ | refine kpt ?_ | refine br_dec (fun h => ?_) (fun h => ?_) | refine br_eq (fun h => ?_) (fun h => ?_) | refine br_b (fun h => ?_) (fun h => ?_) | refine fin_s ?_ | refine fin_r ?_ ?_ | refine fin_e ?_ ?_)
  conv => whnf
  refine lp ⟨tab_ok⟩ (ι := {k : Nat // k ≤ ls.length ∧ ∀ j, j < k → ∀ hj : j < ls.length, okF zs ls[j] = false}) (fun x => match x with | ⟨k, _⟩ => ⟨[(0, .p 0 0), (1, .v (.slice A2 n2 c2)), (4, .p 1 0), (14, .v (.slice A ls.length c)), (15, .i .i64 ls.length), (16, .i .i64 (k : Int))], [⟨q, 163, true, 0, [], [.i .i64 room, .v (.slice A ls.length c)], [], false⟩, ⟨b, 46, true, 0, [], [.i .i64 0, .i .i64 0, .i .i64 0, .i .i64 0, .i .i64 0], [], true⟩], [rwO askE lo A ls.length c ls false, rwO intE lo2 A2 n2 c2 zs false]⟩) (fun x => ls.length - x.1) ⟨0, Nat.zero_le _, fun j hj => by omega⟩ (wk ?_) ?_
  · repeat' (first | exact trivial | rfl | ((conv => whnf); refine And.intro ?_ ?_))
  rintro ⟨k, hk, hno⟩
  by_cases hlt : k < ls.length
  · obtain ⟨x, hx⟩ : ∃ x, ls[k]? = some x := ⟨_, List.getElem?_eq_getElem (by omega)⟩
    obtain ⟨hkl, hxe⟩ := List.getElem?_eq_some_iff.1 hx
    obtain rfl := hA (by omega)
    cases hpx : (atI zs x.fl).isSome with
    | false =>
      repeat' ((conv => whnf); first | refine sgo ⟨tab_ok⟩ ?_ | refine br_not ?_ | refine br_t rfl ?_ | refine br_f rfl ?_ | refine br_t (by assumption) ?_ | refine br_f (by assumption) ?_ | refine br_t (decide_eq_true (by assumption)) ?_ | refine br_f (decide_eq_false (by assumption)) ?_ | refine br_t (beq_iff_eq.2 (by assumption)) ?_ | refine br_f (beq_eq_false_iff_ne.2 (by assumption)) ?_ | intro b2 | refine drA ⟨tab_ok⟩ [] ?_ | refine kpt ?_ | refine br_t (decide_eq_true (by omega)) ?_ | refine br_f (decide_eq_false (by omega)) ?_ | refine wr_i ?_ | refine opiv ⟨tab_ok⟩ (by rfl) (by rfl) (by rfl) (by rfl) (by rfl) (by rfl) ⟨by omega, by omega⟩ ?_ | refine opix (g := g) (off := 0 + k * 5) [.i .i64 x.se, .i .i64 x.fl, .i .i64 x.fm, .i .i64 x.to, .i .i64 x.ma] (fun w hH => Ek.rng (hH.obj (rwO askE lo (some ⟨g, 0, none⟩) ls.length c ls false) (List.mem_cons_self ..)) hx) ⟨tab_ok⟩ (by rfl) (by rfl) (by show Addr.add ⟨g, 0, none⟩ (k * 5) = _; rw [Go.WideShapes.add_plain]) ?_ | refine callH (f := 201) (.b false) (fun w hH => by have := containsI x.fl w (hH.obj (rwO intE lo2 A2 n2 c2 zs false) (List.mem_cons_of_mem _ (List.mem_cons_self ..))) hn hl2; rw [hpx] at this; exact this) ?_ | refine fin_s ?_ | refine fin_r ?_ ?_ | refine fin_e ?_ ?_)
      have e : atF ls zs = some k := List.findIdx?_eq_some_iff_getElem.2 ⟨hkl, by rw [hxe]; simp [okF, hpx], fun j hj => by simpa using hno j hj (by omega)⟩
      have e2 : firstA ls zs = x := by unfold firstA; rw [e]; simp [List.getD, hx]
      rw [e, e2]; rfl
    | true =>
      repeat' ((conv => whnf); first | refine sgo ⟨tab_ok⟩ ?_ | refine br_not ?_ | refine br_t rfl ?_ | refine br_f rfl ?_ | refine br_t (by assumption) ?_ | refine br_f (by assumption) ?_ | refine br_t (decide_eq_true (by assumption)) ?_ | refine br_f (decide_eq_false (by assumption)) ?_ | refine br_t (beq_iff_eq.2 (by assumption)) ?_ | refine br_f (beq_eq_false_iff_ne.2 (by assumption)) ?_ | intro b2 | refine drA ⟨tab_ok⟩ [] ?_ | refine kpt ?_ | refine br_t (decide_eq_true (by omega)) ?_ | refine br_f (decide_eq_false (by omega)) ?_ | refine wr_i ?_ | refine opiv ⟨tab_ok⟩ (by rfl) (by rfl) (by rfl) (by rfl) (by rfl) (by rfl) ⟨by omega, by omega⟩ ?_ | refine opix (g := g) (off := 0 + k * 5) [.i .i64 x.se, .i .i64 x.fl, .i .i64 x.fm, .i .i64 x.to, .i .i64 x.ma] (fun w hH => Ek.rng (hH.obj (rwO askE lo (some ⟨g, 0, none⟩) ls.length c ls false) (List.mem_cons_self ..)) hx) ⟨tab_ok⟩ (by rfl) (by rfl) (by show Addr.add ⟨g, 0, none⟩ (k * 5) = _; rw [Go.WideShapes.add_plain]) ?_ | refine callH (f := 201) (.b true) (fun w hH => by have := containsI x.fl w (hH.obj (rwO intE lo2 A2 n2 c2 zs false) (List.mem_cons_of_mem _ (List.mem_cons_self ..))) hn hl2; rw [hpx] at this; exact this) ?_ | refine back ⟨k + 1, by omega, fun j hj hjl => (Nat.lt_succ_iff_lt_or_eq.1 hj).elim (fun h => hno j h hjl) (fun h => by subst h; rw [hxe]; simp [okF, hpx])⟩ (wk ?_) ?_ | refine fin_s ?_ | refine fin_r ?_ ?_ | refine fin_e ?_ ?_)
      all_goals first | (show ls.length - (k + 1) < ls.length - k; omega) | skip
      all_goals (repeat' (first | exact trivial | rfl | ((conv => whnf); refine And.intro ?_ ?_)))
  · repeat' ((conv => whnf); first | refine sgo ⟨tab_ok⟩ ?_ | refine br_not ?_ | refine br_t rfl ?_ | refine br_f rfl ?_ | refine br_t (by assumption) ?_ | refine br_f (by assumption) ?_ | refine br_t (decide_eq_true (by assumption)) ?_ | refine br_f (decide_eq_false (by assumption)) ?_ | refine br_t (beq_iff_eq.2 (by assumption)) ?_ | refine br_f (beq_eq_false_iff_ne.2 (by assumption)) ?_ | intro b2 | refine drA ⟨tab_ok⟩ [] ?_ | refine kpt ?_ | refine br_t (decide_eq_true (by omega)) ?_ | refine br_f (decide_eq_false (by omega)) ?_ | refine wr_i ?_ | refine fin_s ?_ | refine fin_r ?_ ?_ | refine fin_e ?_ ?_)
    obtain rfl : k = ls.length := by omega
    have e : atF ls zs = none := List.findIdx?_eq_none_iff.2 fun x hx => by
      obtain ⟨j, hj, rfl⟩ := List.mem_iff_getElem.1 hx
      exact hno j (by omega) hj
    have e2 : firstA ls zs = zA := by unfold firstA; rw [e]
    rw [e, e2]; rfl
end Go.Proofs.YthmikjjnlahlbaaGreat.Qu
namespace Go.Proofs.YthmikjjnlahlbaaGreat.Tm
set_option linter.unusedSectionVars false
set_option linter.unusedVariables false
set_option linter.unusedSimpArgs false

/-- n, held between 0 and top. -/
def cl (n : Int) : Int := if n < 0 then 0 else if 1099511627776 < n then 1099511627776 else n

theorem cl_lo (n : Int) : 0 ≤ cl n := by unfold cl; repeat' split <;> omega
theorem cl_hi (n : Int) : cl n ≤ 1099511627776 := by unfold cl; repeat' split <;> omega
theorem cl_id (n : Int) (h0 : 0 ≤ n) (h1 : n ≤ 1099511627776) : cl n = n := by unfold cl; repeat' split <;> omega
/-- How often a pause is doubled: never below 0 times; past 100 it makes no difference. -/
def tr (t : Int) (m : Nat) : Nat := min t.toNat m

end Go.Proofs.YthmikjjnlahlbaaGreat.Tm
namespace Go.Proofs.YthmikjjnlahlbaaGreat.Tw
set_option linter.unusedSectionVars false
set_option linter.unusedVariables false
set_option linter.unusedSimpArgs false
open Go.RowKit Go.Proofs.YthmikjjnlahlbaaGreat.Ba Go.Proofs.YthmikjjnlahlbaaGreat.En Go.Proofs.YthmikjjnlahlbaaGreat.Tm
set_option maxRecDepth 100000
attribute [local irreducible] Go.Calls
theorem clT (n : Int) (w : World) : Calls Tryz.prog 99 #[.int .i64 n] w fun e w' => e = .returned (.int .i64 (cl n)) ∧ Since w w' := by
  refine ent tab_ok [.i .i64 n] Tryz.func99 Tryz.ntmps99 rfl rfl ?_
  repeat' ((conv => whnf); first | refine sgo ⟨tab_ok⟩ ?_ | refine br_not ?_ | refine br_t rfl ?_ | refine br_f rfl ?_ | refine br_t (by assumption) ?_ | refine br_f (by assumption) ?_ | refine br_t (decide_eq_true (by assumption)) ?_ | refine br_f (decide_eq_false (by assumption)) ?_ | refine br_t (beq_iff_eq.2 (by assumption)) ?_ | refine br_f (beq_eq_false_iff_ne.2 (by assumption)) ?_ | refine drA ⟨tab_ok⟩ [] ?_ | refine kpt ?_ | refine fin_s ?_ | refine fin_r ?_ ?_ | refine fin_e ?_ ?_)
  exact congrArg (Value.int .i64) (by unfold cl; repeat' split <;> omega)
theorem addT (a b : Int) (w : World) : Calls Tryz.prog 49 #[.int .i64 a, .int .i64 b] w fun e w' => e = .returned (.int .i64 (cl (cl a + cl b))) ∧ Since w w' := by
  have h1 := cl_lo a
  have h2 := cl_hi a
  have h3 := cl_lo b
  have h4 := cl_hi b
  refine ent tab_ok [.i .i64 a, .i .i64 b] Tryz.func49 Tryz.ntmps49 rfl rfl ?_
  repeat' ((conv => whnf); first | refine sgo ⟨tab_ok⟩ ?_ | refine br_not ?_ | refine br_t rfl ?_ | refine br_f rfl ?_ | refine br_t (by assumption) ?_ | refine br_f (by assumption) ?_ | refine br_t (decide_eq_true (by assumption)) ?_ | refine br_f (decide_eq_false (by assumption)) ?_ | refine br_t (beq_iff_eq.2 (by assumption)) ?_ | refine br_f (beq_eq_false_iff_ne.2 (by assumption)) ?_ | refine drA ⟨tab_ok⟩ [] ?_ | refine kpt ?_ | refine wr_i ?_ | refine callS (f := 99) (.i .i64 (cl _)) (clT _) ?_ | refine fin_s ?_ | refine fin_r ?_ ?_ | refine fin_e ?_ ?_)
  all_goals rfl
theorem lateT (a b : Int) (w : World) : Calls Tryz.prog 137 #[.int .i64 a, .int .i64 b] w fun e w' => e = .returned (.bool (decide (cl b ≤ cl a))) ∧ Since w w' := by
  refine ent tab_ok [.i .i64 a, .i .i64 b] Tryz.func137 Tryz.ntmps137 rfl rfl ?_
  repeat' ((conv => whnf); first | refine sgo ⟨tab_ok⟩ ?_ | refine br_not ?_ | refine br_t rfl ?_ | refine br_f rfl ?_ | refine br_t (by assumption) ?_ | refine br_f (by assumption) ?_ | refine br_t (decide_eq_true (by assumption)) ?_ | refine br_f (decide_eq_false (by assumption)) ?_ | refine br_t (beq_iff_eq.2 (by assumption)) ?_ | refine br_f (beq_eq_false_iff_ne.2 (by assumption)) ?_ | refine drA ⟨tab_ok⟩ [] ?_ | refine kpt ?_ | refine callS (f := 99) (.i .i64 (cl _)) (clT _) ?_ | refine fin_s ?_ | refine fin_r ?_ ?_ | refine fin_e ?_ ?_)
  all_goals rfl
end Go.Proofs.YthmikjjnlahlbaaGreat.Tw
namespace Go.Proofs.YthmikjjnlahlbaaGreat.Ri
set_option linter.unusedSectionVars false
set_option linter.unusedVariables false
set_option linter.unusedSimpArgs false
open Go.RowKit Go.Proofs.YthmikjjnlahlbaaGreat.Ba Go.Proofs.YthmikjjnlahlbaaGreat.Mo Go.Proofs.YthmikjjnlahlbaaGreat.Ty Go.Proofs.YthmikjjnlahlbaaGreat.Mem Go.Proofs.YthmikjjnlahlbaaGreat.Tm Go.Proofs.YthmikjjnlahlbaaGreat.Tw Go.Proofs.YthmikjjnlahlbaaGreat.En
open Go.Proofs.YthmikjjnlahlbaaGreat.Ce (ms ms_lo ms_hi massT nearT nr)
set_option maxRecDepth 100000
/-- A timer's ticks. -/
def sp (n : Int) : Int := if n < 1 then 1 else if 1000 < n then 1000 else n
theorem sp_lo (n : Int) : 1 ≤ sp n := by unfold sp; repeat' split <;> omega
theorem sp_hi (n : Int) : sp n ≤ 1000 := by unfold sp; repeat' split <;> omega
def rn (n : Int) : Int := if n < 0 then 0 else if 1000 < n then 1000 else n
def trV (c : CfgV) : Int := 4 * (fl c.fl - 1) + 3 * sp c.dr + 4
theorem tr_lo (c : CfgV) : 11 ≤ trV c := by have := fl_lo c.fl; have := sp_lo c.dr; unfold trV; omega
theorem tr_hi (c : CfgV) : trV c ≤ 4000 := by have := fl_hi c.fl; have := sp_hi c.dr; unfold trV; omega
/-- A message's fields. -/
structure MsgV where
  ki : Int
  a : Int
  b : Int
  c : Int
def msgC (m : MsgV) : Array Value := #[.int .i64 m.ki, .int .i64 m.a, .int .i64 m.b, .int .i64 m.c]
/-- What is said: nothing, or one message in a block that is newer than w0's. -/
def Ms (w0 w : World) (v : Value) (o : Option MsgV) : Prop :=
  match o with
  | none => v = .slice none 0 0
  | some m => ∃ b, v = .slice (some ⟨b, 0, none⟩) 1 1 ∧ w0.heap.size ≤ b ∧ Blk w b 48 (msgC m)
theorem Ms.keep {w0 w w' : World} {v : Value} {o : Option MsgV} (k : Since w w') (h : Ms w0 w v o) : Ms w0 w' v o := by
  cases o with
  | none => exact h
  | some m =>
    obtain ⟨b, e, hb, B⟩ := h
    exact ⟨b, e, hb, keep_blk k B⟩
/-- Is a car open at a floor? -/
def opB (x : CarV) (f : Int) : Bool := lvB x.un && (lvN x.un == f) && (x.ds == 2)
/-- What a step of a lease answers: the lease, what is said, is it over; nothing that was there has changed. -/
def Said (w : World) (r : LeaseV × Option MsgV × Bool) (e : Ending) (w' : World) : Prop := ∃ v, e = .returned (.tuple #[.agg #[.int .i64 r.1.se, .int .i64 r.1.fl, .int .i64 r.1.fm, .int .i64 r.1.to, .int .i64 r.1.ma, .int .i64 r.1.ca, .int .i64 r.1.ph, .int .i64 r.1.un, .int .i64 r.1.re, .int .i64 r.1.gr], v, .bool r.2.2]) ∧ Ms w w' v r.2.1 ∧ Since w w'
theorem sayT (k a : Int) (w : World) : Calls Tryz.prog 138 #[.int .i64 k, .int .i64 a] w fun e w' => ∃ b, e = .returned (.slice (some ⟨b, 0, none⟩) 1 1) ∧ w.heap.size ≤ b ∧ Blk w' b 48 #[.int .i64 k, .int .i64 a, .int .i64 0, .int .i64 0] ∧ Since w w' := by
  go_enter Tryz.func138, Tryz.ntmps138
  go_wp2
  go_ret
  exact ⟨_, rfl, Nat.le_refl _, Blk.new _ _ _, (by repeat (first | exact Since.refl _ | assumption | refine Since.setCell ?_ (by first | (simp; done) | (simp; omega)) _ | refine Since.drew ?_ | refine Since.drewN ?_ _ | refine Since.alloc ?_ _ | refine Since.trans ?_ (by assumption) | refine Since.trans ?_ (Hid.out (by assumption))))⟩
theorem said_s {n : Nat} {w : World} {st : St} {j b : Nat} {r : LeaseV × Option MsgV × Bool} {a1 a2 a3 a4 a5 a6 a7 a8 a9 a10 k a : Int} {ov : Bool} (hr : r = (⟨a1, a2, a3, a4, a5, a6, a7, a8, a9, a10⟩, some ⟨k, a, 0, 0⟩, ov)) (hj : st.m[j]? = some ⟨b, 48, true, 0, [], [.i .i64 k, .i .i64 a, .i .i64 0, .i .i64 0], [], true⟩) :
    Fin ⟨Tryz.prog, tab, [], w, n, []⟩ (Said w r) (.t [.a [.i .i64 a1, .i .i64 a2, .i .i64 a3, .i .i64 a4, .i .i64 a5, .i .i64 a6, .i .i64 a7, .i .i64 a8, .i .i64 a9, .i .i64 a10], .s j 0 1 1, .b ov]) st := by
  subst hr
  refine fin fun w' hH => ⟨.slice (some ⟨b, 0, none⟩) 1 1, ?_, ⟨b, rfl, ?_, hH.row j _ hj rfl⟩, hH.upd.since⟩
  · simp [den, denL, hj]
  · rcases (hH.wf j _ hj rfl).2.2 rfl with h | h
    · cases h
    · exact h
theorem said_n {n : Nat} {w : World} {st : St} {r : LeaseV × Option MsgV × Bool} {a1 a2 a3 a4 a5 a6 a7 a8 a9 a10 : Int} {ov : Bool} (hr : r = (⟨a1, a2, a3, a4, a5, a6, a7, a8, a9, a10⟩, none, ov)) :
    Fin ⟨Tryz.prog, tab, [], w, n, []⟩ (Said w r) (.t [.a [.i .i64 a1, .i .i64 a2, .i .i64 a3, .i .i64 a4, .i .i64 a5, .i .i64 a6, .i .i64 a7, .i .i64 a8, .i .i64 a9, .i .i64 a10], .v (.slice none 0 0), .b ov]) st := by
  subst hr
  exact fin fun w' hH => ⟨.slice none 0 0, rfl, rfl, hH.upd.since⟩
attribute [local irreducible] Go.Calls lvB nr ms
theorem spanT (n : Int) (w : World) : Calls Tryz.prog 193 #[.int .i64 n] w fun e w' => e = .returned (.int .i64 (sp n)) ∧ Since w w' := by
  refine ent tab_ok [.i .i64 n] Tryz.func193 Tryz.ntmps193 rfl rfl ?_
  repeat' ((conv => whnf); first | refine sgo ⟨tab_ok⟩ ?_ | refine br_not ?_ | refine br_t rfl ?_ | refine br_f rfl ?_ | refine br_t (by assumption) ?_ | refine br_f (by assumption) ?_ | refine br_t (decide_eq_true (by assumption)) ?_ | refine br_f (decide_eq_false (by assumption)) ?_ | refine br_t (beq_iff_eq.2 (by assumption)) ?_ | refine br_f (beq_eq_false_iff_ne.2 (by assumption)) ?_ | refine drA ⟨tab_ok⟩ [] ?_ | refine kpt ?_ | refine fin_s ?_ | refine fin_r ?_ ?_ | refine fin_e ?_ ?_)
  exact congrArg (Value.int .i64) (by unfold sp; repeat' split <;> omega)
theorem tripT (c : CfgV) (w : World) : Calls Tryz.prog 148 #[.agg #[.int .i64 c.ca, .int .i64 c.fl, .int .i64 c.ft, .int .i64 c.se, .int .i64 c.dr, .int .i64 c.dw, .int .i64 c.ho, .int .i64 c.re, .int .i64 c.yi, .int .i64 c.qu, .int .i64 c.qo, .int .i64 c.lo, .int .i64 c.sl, .int .i64 c.rt, .int .i64 c.cp, .int .i64 c.tr, .int .i64 c.de, .int .i64 c.wi]] w fun e w' => e = .returned (.int .i64 (trV c)) ∧ Since w w' := by
  have f1 := fl_lo c.fl
  have f2 := fl_hi c.fl
  have f3 := sp_lo c.dr
  have f4 := sp_hi c.dr
  refine ent tab_ok [.a [.i .i64 c.ca, .i .i64 c.fl, .i .i64 c.ft, .i .i64 c.se, .i .i64 c.dr, .i .i64 c.dw, .i .i64 c.ho, .i .i64 c.re, .i .i64 c.yi, .i .i64 c.qu, .i .i64 c.qo, .i .i64 c.lo, .i .i64 c.sl, .i .i64 c.rt, .i .i64 c.cp, .i .i64 c.tr, .i .i64 c.de, .i .i64 c.wi]] Tryz.func148 Tryz.ntmps148 rfl rfl ?_
  repeat' ((conv => whnf); first | refine sgo ⟨tab_ok⟩ ?_ | refine br_not ?_ | refine br_t rfl ?_ | refine br_f rfl ?_ | refine br_t (by assumption) ?_ | refine br_f (by assumption) ?_ | refine br_t (decide_eq_true (by assumption)) ?_ | refine br_f (decide_eq_false (by assumption)) ?_ | refine br_t (beq_iff_eq.2 (by assumption)) ?_ | refine br_f (beq_eq_false_iff_ne.2 (by assumption)) ?_ | intro b | refine drA ⟨tab_ok⟩ [] ?_ | refine kpt ?_ | refine wr_i ?_ | refine callS (f := 190) (.i .i64 (fl _)) (floorsT _) ?_ | refine callS (f := 193) (.i .i64 (sp _)) (spanT _) ?_ | refine fin_s ?_ | refine fin_r ?_ ?_ | refine fin_e ?_ ?_)
  all_goals rfl
theorem openT (x : CarV) (f : Int) (w : World) : Calls Tryz.prog 139 #[.agg #[.int .i64 x.ds, .int .i64 x.da, .int .i64 x.un, .int .i64 x.wy, .int .i64 x.ti, .int .i64 x.ju, .int .i64 x.lo, .bool x.bl, .bool x.br, .int .i64 x.mo, .int .i64 x.ta, .bool x.ho, .int .u64 x.sp, .int .u64 x.su, .int .u64 x.sd], .int .i64 f] w fun e w' => e = .returned (.bool (opB x f)) ∧ Since w w' := by
  refine ent tab_ok [.a [.i .i64 x.ds, .i .i64 x.da, .i .i64 x.un, .i .i64 x.wy, .i .i64 x.ti, .i .i64 x.ju, .i .i64 x.lo, .b x.bl, .b x.br, .i .i64 x.mo, .i .i64 x.ta, .b x.ho, .i .u64 x.sp, .i .u64 x.su, .i .u64 x.sd], .i .i64 f] Tryz.func139 Tryz.ntmps139 rfl rfl ?_
  repeat' ((conv => whnf); first | refine sgo ⟨tab_ok⟩ ?_ | refine br_not ?_ | refine br_t rfl ?_ | refine br_f rfl ?_ | refine br_t (by assumption) ?_ | refine br_f (by assumption) ?_ | refine br_t (decide_eq_true (by assumption)) ?_ | refine br_f (decide_eq_false (by assumption)) ?_ | refine br_t (beq_iff_eq.2 (by assumption)) ?_ | refine br_f (beq_eq_false_iff_ne.2 (by assumption)) ?_ | intro b | refine drA ⟨tab_ok⟩ [] ?_ | refine kpt ?_ | refine br_dec (fun h => ?_) (fun h => ?_) | refine br_eq (fun h => ?_) (fun h => ?_) | refine br_b (fun h => ?_) (fun h => ?_) | refine callS (f := 131) (.t [.i .i64 (lvN _), .b (lvB _)]) (levelT _) ?_ | refine fin_s ?_ | refine fin_r ?_ ?_ | refine fin_e ?_ ?_)
  all_goals (unfold opB; simp [den, *])
theorem heldT (c : CfgV) (now : Int) (w : World) : Calls Tryz.prog 140 #[.agg #[.int .i64 c.ca, .int .i64 c.fl, .int .i64 c.ft, .int .i64 c.se, .int .i64 c.dr, .int .i64 c.dw, .int .i64 c.ho, .int .i64 c.re, .int .i64 c.yi, .int .i64 c.qu, .int .i64 c.qo, .int .i64 c.lo, .int .i64 c.sl, .int .i64 c.rt, .int .i64 c.cp, .int .i64 c.tr, .int .i64 c.de, .int .i64 c.wi], .int .i64 now] w fun e w' => e = .returned (.int .i64 (cl (cl now + cl (sp c.ho)))) ∧ Since w w' := by
  refine ent tab_ok [.a [.i .i64 c.ca, .i .i64 c.fl, .i .i64 c.ft, .i .i64 c.se, .i .i64 c.dr, .i .i64 c.dw, .i .i64 c.ho, .i .i64 c.re, .i .i64 c.yi, .i .i64 c.qu, .i .i64 c.qo, .i .i64 c.lo, .i .i64 c.sl, .i .i64 c.rt, .i .i64 c.cp, .i .i64 c.tr, .i .i64 c.de, .i .i64 c.wi], .i .i64 now] Tryz.func140 Tryz.ntmps140 rfl rfl ?_
  repeat' ((conv => whnf); first | refine sgo ⟨tab_ok⟩ ?_ | refine br_not ?_ | refine br_t rfl ?_ | refine br_f rfl ?_ | refine br_t (by assumption) ?_ | refine br_f (by assumption) ?_ | refine br_t (decide_eq_true (by assumption)) ?_ | refine br_f (decide_eq_false (by assumption)) ?_ | refine br_t (beq_iff_eq.2 (by assumption)) ?_ | refine br_f (beq_eq_false_iff_ne.2 (by assumption)) ?_ | intro b | refine drA ⟨tab_ok⟩ [] ?_ | refine kpt ?_ | refine br_dec (fun h => ?_) (fun h => ?_) | refine br_eq (fun h => ?_) (fun h => ?_) | refine br_b (fun h => ?_) (fun h => ?_) | refine callS (f := 193) (.i .i64 (sp _)) (spanT _) ?_ | refine callS (f := 49) (.i .i64 (cl (cl _ + cl _))) (addT _ _) ?_ | refine fin_s ?_ | refine fin_r ?_ ?_ | refine fin_e ?_ ?_)
  all_goals rfl
attribute [local irreducible] trV opB cl sp
def entV (c : CfgV) (l : LeaseV) (x : CarV) (now : Int) : LeaseV × Option MsgV × Bool :=
  if nr x.lo l.ma c.sl = true then (⟨l.se, l.fl, l.fm, l.to, l.ma, l.ca, 3, cl (cl now + cl (trV c)), l.re, l.gr⟩, some ⟨10, 0, 0, 0⟩, false) else (⟨l.se, l.fl, l.fm, l.to, l.ma, l.ca, l.ph, l.un, l.re, l.gr⟩, some ⟨11, ms x.lo, 0, 0⟩, false)
theorem entT (c : CfgV) (l : LeaseV) (x : CarV) (now : Int) (w : World) : Calls Tryz.prog 166 #[.agg #[.int .i64 c.ca, .int .i64 c.fl, .int .i64 c.ft, .int .i64 c.se, .int .i64 c.dr, .int .i64 c.dw, .int .i64 c.ho, .int .i64 c.re, .int .i64 c.yi, .int .i64 c.qu, .int .i64 c.qo, .int .i64 c.lo, .int .i64 c.sl, .int .i64 c.rt, .int .i64 c.cp, .int .i64 c.tr, .int .i64 c.de, .int .i64 c.wi], .agg #[.int .i64 l.se, .int .i64 l.fl, .int .i64 l.fm, .int .i64 l.to, .int .i64 l.ma, .int .i64 l.ca, .int .i64 l.ph, .int .i64 l.un, .int .i64 l.re, .int .i64 l.gr], .agg #[.int .i64 x.ds, .int .i64 x.da, .int .i64 x.un, .int .i64 x.wy, .int .i64 x.ti, .int .i64 x.ju, .int .i64 x.lo, .bool x.bl, .bool x.br, .int .i64 x.mo, .int .i64 x.ta, .bool x.ho, .int .u64 x.sp, .int .u64 x.su, .int .u64 x.sd], .int .i64 now] w (Said w (entV c l x now)) := by
  cases hn : nr x.lo l.ma c.sl
  all_goals
    refine ent tab_ok [.a [.i .i64 c.ca, .i .i64 c.fl, .i .i64 c.ft, .i .i64 c.se, .i .i64 c.dr, .i .i64 c.dw, .i .i64 c.ho, .i .i64 c.re, .i .i64 c.yi, .i .i64 c.qu, .i .i64 c.qo, .i .i64 c.lo, .i .i64 c.sl, .i .i64 c.rt, .i .i64 c.cp, .i .i64 c.tr, .i .i64 c.de, .i .i64 c.wi], .a [.i .i64 l.se, .i .i64 l.fl, .i .i64 l.fm, .i .i64 l.to, .i .i64 l.ma, .i .i64 l.ca, .i .i64 l.ph, .i .i64 l.un, .i .i64 l.re, .i .i64 l.gr], .a [.i .i64 x.ds, .i .i64 x.da, .i .i64 x.un, .i .i64 x.wy, .i .i64 x.ti, .i .i64 x.ju, .i .i64 x.lo, .b x.bl, .b x.br, .i .i64 x.mo, .i .i64 x.ta, .b x.ho, .i .u64 x.sp, .i .u64 x.su, .i .u64 x.sd], .i .i64 now] Tryz.func166 Tryz.ntmps166 rfl rfl ?_
    repeat' ((conv => whnf); first | refine sgo ⟨tab_ok⟩ ?_ | refine br_not ?_ | refine br_t rfl ?_ | refine br_f rfl ?_ | refine br_t (by assumption) ?_ | refine br_f (by assumption) ?_ | refine br_t (decide_eq_true (by assumption)) ?_ | refine br_f (decide_eq_false (by assumption)) ?_ | refine br_t (beq_iff_eq.2 (by assumption)) ?_ | refine br_f (beq_eq_false_iff_ne.2 (by assumption)) ?_ | intro b | refine drA ⟨tab_ok⟩ [] ?_ | refine kpt ?_ | refine br_dec (fun h => ?_) (fun h => ?_) | refine br_eq (fun h => ?_) (fun h => ?_) | refine br_b (fun h => ?_) (fun h => ?_) | refine callS (f := 210) (.b (nr _ _ _)) (nearT _ _ _) ?_ | refine callS (f := 207) (.i .i64 (ms _)) (massT _) ?_ | refine callS (f := 148) (.i .i64 (trV c)) (tripT c) ?_ | refine callS (f := 49) (.i .i64 (cl (cl _ + cl _))) (addT _ _) ?_ | refine callB (f := 138) (t := 48) [.i .i64 _, .i .i64 _, .i .i64 0, .i .i64 0] (fun j => .s j 0 1 1) (fun w => (sayT _ _ w).mono (by rintro e w' ⟨b, rfl, h1, h2, h3⟩; exact ⟨b, rfl, h1, h2, h3⟩)) ?_ | refine said_s (b := _) ?_ (by rfl) | refine said_n ?_ | refine fin_s ?_ | refine fin_r ?_ ?_ | refine fin_e ?_ ?_)
  all_goals (simp [entV, hn])
def mayRe (c : CfgV) (l : LeaseV) : Bool := ((l.ph == 2) || (l.ph == 4)) && decide (l.re < rn c.re)
theorem rnE (r : Int) : (if 1000 < (if r < 0 then 0 else r) then 1000 else (if r < 0 then 0 else r)) = rn r := by unfold rn; repeat' split <;> omega
theorem mayReT (c : CfgV) (l : LeaseV) (w : World) : Calls Tryz.prog 167 #[.agg #[.int .i64 c.ca, .int .i64 c.fl, .int .i64 c.ft, .int .i64 c.se, .int .i64 c.dr, .int .i64 c.dw, .int .i64 c.ho, .int .i64 c.re, .int .i64 c.yi, .int .i64 c.qu, .int .i64 c.qo, .int .i64 c.lo, .int .i64 c.sl, .int .i64 c.rt, .int .i64 c.cp, .int .i64 c.tr, .int .i64 c.de, .int .i64 c.wi], .agg #[.int .i64 l.se, .int .i64 l.fl, .int .i64 l.fm, .int .i64 l.to, .int .i64 l.ma, .int .i64 l.ca, .int .i64 l.ph, .int .i64 l.un, .int .i64 l.re, .int .i64 l.gr]] w fun e w' => e = .returned (.bool (mayRe c l)) ∧ Since w w' := by
  refine ent tab_ok [.a [.i .i64 c.ca, .i .i64 c.fl, .i .i64 c.ft, .i .i64 c.se, .i .i64 c.dr, .i .i64 c.dw, .i .i64 c.ho, .i .i64 c.re, .i .i64 c.yi, .i .i64 c.qu, .i .i64 c.qo, .i .i64 c.lo, .i .i64 c.sl, .i .i64 c.rt, .i .i64 c.cp, .i .i64 c.tr, .i .i64 c.de, .i .i64 c.wi], .a [.i .i64 l.se, .i .i64 l.fl, .i .i64 l.fm, .i .i64 l.to, .i .i64 l.ma, .i .i64 l.ca, .i .i64 l.ph, .i .i64 l.un, .i .i64 l.re, .i .i64 l.gr]] Tryz.func167 Tryz.ntmps167 rfl rfl ?_
  repeat' ((conv => whnf); first | refine sgo ⟨tab_ok⟩ ?_ | refine br_not ?_ | refine br_t rfl ?_ | refine br_f rfl ?_ | refine br_t (by assumption) ?_ | refine br_f (by assumption) ?_ | refine br_t (decide_eq_true (by assumption)) ?_ | refine br_f (decide_eq_false (by assumption)) ?_ | refine br_t (beq_iff_eq.2 (by assumption)) ?_ | refine br_f (beq_eq_false_iff_ne.2 (by assumption)) ?_ | intro b | refine drA ⟨tab_ok⟩ [] ?_ | refine kpt ?_ | refine br_dec (fun h => ?_) (fun h => ?_) | refine br_eq (fun h => ?_) (fun h => ?_) | refine br_b (fun h => ?_) (fun h => ?_) | refine fin_s ?_ | refine fin_r ?_ ?_ | refine fin_e ?_ ?_)
  all_goals (unfold mayRe; simp [den, *])
  all_goals rw [rnE]
def tickV (c : CfgV) (l : LeaseV) (x : CarV) (now : Int) : LeaseV × Option MsgV × Bool :=
  if x.br = true ∨ cl l.un ≤ cl now then ((⟨l.se, l.fl, l.fm, l.to, l.ma, l.ca, l.ph, l.un, l.re, l.gr⟩ : LeaseV), some ⟨16, l.ph, 0, 0⟩, true)
  else if l.ph = 1 ∧ opB x l.fm = true then ((⟨l.se, l.fl, l.fm, l.to, l.ma, l.ca, 2, cl (cl now + cl (sp c.ho)), l.re, l.gr⟩ : LeaseV), some ⟨8, l.fm, 0, 0⟩, false)
  else if l.ph = 3 ∧ opB x l.to = true then ((⟨l.se, l.fl, l.fm, l.to, l.ma, l.ca, 4, cl (cl now + cl (sp c.ho)), l.re, l.gr⟩ : LeaseV), some ⟨12, l.to, 0, 0⟩, false)
  else ((⟨l.se, l.fl, l.fm, l.to, l.ma, l.ca, l.ph, l.un, l.re, l.gr⟩ : LeaseV), none, false)
theorem tickT (c : CfgV) (l : LeaseV) (x : CarV) (now : Int) (w : World) : Calls Tryz.prog 75 #[.agg #[.int .i64 c.ca, .int .i64 c.fl, .int .i64 c.ft, .int .i64 c.se, .int .i64 c.dr, .int .i64 c.dw, .int .i64 c.ho, .int .i64 c.re, .int .i64 c.yi, .int .i64 c.qu, .int .i64 c.qo, .int .i64 c.lo, .int .i64 c.sl, .int .i64 c.rt, .int .i64 c.cp, .int .i64 c.tr, .int .i64 c.de, .int .i64 c.wi], .agg #[.int .i64 l.se, .int .i64 l.fl, .int .i64 l.fm, .int .i64 l.to, .int .i64 l.ma, .int .i64 l.ca, .int .i64 l.ph, .int .i64 l.un, .int .i64 l.re, .int .i64 l.gr], .agg #[.int .i64 x.ds, .int .i64 x.da, .int .i64 x.un, .int .i64 x.wy, .int .i64 x.ti, .int .i64 x.ju, .int .i64 x.lo, .bool x.bl, .bool x.br, .int .i64 x.mo, .int .i64 x.ta, .bool x.ho, .int .u64 x.sp, .int .u64 x.su, .int .u64 x.sd], .int .i64 now] w (Said w (tickV c l x now)) := by
  refine ent tab_ok [.a [.i .i64 c.ca, .i .i64 c.fl, .i .i64 c.ft, .i .i64 c.se, .i .i64 c.dr, .i .i64 c.dw, .i .i64 c.ho, .i .i64 c.re, .i .i64 c.yi, .i .i64 c.qu, .i .i64 c.qo, .i .i64 c.lo, .i .i64 c.sl, .i .i64 c.rt, .i .i64 c.cp, .i .i64 c.tr, .i .i64 c.de, .i .i64 c.wi], .a [.i .i64 l.se, .i .i64 l.fl, .i .i64 l.fm, .i .i64 l.to, .i .i64 l.ma, .i .i64 l.ca, .i .i64 l.ph, .i .i64 l.un, .i .i64 l.re, .i .i64 l.gr], .a [.i .i64 x.ds, .i .i64 x.da, .i .i64 x.un, .i .i64 x.wy, .i .i64 x.ti, .i .i64 x.ju, .i .i64 x.lo, .b x.bl, .b x.br, .i .i64 x.mo, .i .i64 x.ta, .b x.ho, .i .u64 x.sp, .i .u64 x.su, .i .u64 x.sd], .i .i64 now] Tryz.func75 Tryz.ntmps75 rfl rfl ?_
  repeat' ((conv => whnf); first | refine sgo ⟨tab_ok⟩ ?_ | refine br_not ?_ | refine br_t rfl ?_ | refine br_f rfl ?_ | refine br_t (by assumption) ?_ | refine br_f (by assumption) ?_ | refine br_t (decide_eq_true (by assumption)) ?_ | refine br_f (decide_eq_false (by assumption)) ?_ | refine br_t (beq_iff_eq.2 (by assumption)) ?_ | refine br_f (beq_eq_false_iff_ne.2 (by assumption)) ?_ | intro b | refine drA ⟨tab_ok⟩ [] ?_ | refine kpt ?_ | refine br_dec (fun h => ?_) (fun h => ?_) | refine br_eq (fun h => ?_) (fun h => ?_) | refine br_b (fun h => ?_) (fun h => ?_) | refine callS (f := 137) (.b (decide (cl l.un ≤ cl now))) (lateT _ _) ?_ | refine callS (f := 139) (.b (opB x _)) (openT x _) ?_ | refine callS (f := 140) (.i .i64 (cl (cl now + cl (sp c.ho)))) (heldT c now) ?_ | refine callB (f := 138) (t := 48) [.i .i64 _, .i .i64 _, .i .i64 0, .i .i64 0] (fun j => .s j 0 1 1) (fun w => (sayT _ _ w).mono (by rintro e w' ⟨b, rfl, h1, h2, h3⟩; exact ⟨b, rfl, h1, h2, h3⟩)) ?_ | refine said_s (b := _) ?_ (by rfl) | refine said_n ?_ | refine fin_s ?_ | refine fin_r ?_ ?_ | refine fin_e ?_ ?_)
  all_goals first | (simp [tickV, *]; done) | (exfalso; omega)
attribute [local irreducible] mayRe
def hearV (c : CfgV) (l : LeaseV) (x : CarV) (now : Int) (m : MsgV) : LeaseV × Option MsgV × Bool :=
  if m.ki = 9 ∧ l.ph = 2 then (if nr x.lo l.ma c.sl = true then ((⟨l.se, l.fl, l.fm, l.to, l.ma, l.ca, 3, cl (cl now + cl (trV c)), l.re, l.gr⟩ : LeaseV), some ⟨10, 0, 0, 0⟩, false) else ((⟨l.se, l.fl, l.fm, l.to, l.ma, l.ca, l.ph, l.un, l.re, l.gr⟩ : LeaseV), some ⟨11, ms x.lo, 0, 0⟩, false))
  else if m.ki = 13 ∧ l.ph = 4 then ((⟨l.se, l.fl, l.fm, l.to, l.ma, l.ca, l.ph, l.un, l.re, l.gr⟩ : LeaseV), some ⟨14, 0, 0, 0⟩, true)
  else if m.ki = 15 ∧ mayRe c l = true then ((⟨l.se, l.fl, l.fm, l.to, l.ma, l.ca, l.ph, cl (cl now + cl (sp c.ho)), IntKind.i64.wrap (l.re + 1), l.gr⟩ : LeaseV), some ⟨4, l.ca, 0, 0⟩, false)
  else ((⟨l.se, l.fl, l.fm, l.to, l.ma, l.ca, l.ph, l.un, l.re, l.gr⟩ : LeaseV), some ⟨7, l.ph, 0, 0⟩, false)
theorem hearT (c : CfgV) (l : LeaseV) (x : CarV) (now : Int) (m : MsgV) (w : World) : Calls Tryz.prog 96 #[.agg #[.int .i64 c.ca, .int .i64 c.fl, .int .i64 c.ft, .int .i64 c.se, .int .i64 c.dr, .int .i64 c.dw, .int .i64 c.ho, .int .i64 c.re, .int .i64 c.yi, .int .i64 c.qu, .int .i64 c.qo, .int .i64 c.lo, .int .i64 c.sl, .int .i64 c.rt, .int .i64 c.cp, .int .i64 c.tr, .int .i64 c.de, .int .i64 c.wi], .agg #[.int .i64 l.se, .int .i64 l.fl, .int .i64 l.fm, .int .i64 l.to, .int .i64 l.ma, .int .i64 l.ca, .int .i64 l.ph, .int .i64 l.un, .int .i64 l.re, .int .i64 l.gr], .agg #[.int .i64 x.ds, .int .i64 x.da, .int .i64 x.un, .int .i64 x.wy, .int .i64 x.ti, .int .i64 x.ju, .int .i64 x.lo, .bool x.bl, .bool x.br, .int .i64 x.mo, .int .i64 x.ta, .bool x.ho, .int .u64 x.sp, .int .u64 x.su, .int .u64 x.sd], .int .i64 now, .agg (msgC m)] w (Said w (hearV c l x now m)) := by
  by_cases he : m.ki = 9 ∧ l.ph = 2
  · rw [show hearV c l x now m = entV c l x now by unfold hearV entV; rw [if_pos he]]
    obtain ⟨h9, h2⟩ := he
    cases hn : nr x.lo l.ma c.sl with
    | true =>
      have e0 : entV c l x now = (⟨l.se, l.fl, l.fm, l.to, l.ma, l.ca, 3, (cl (cl now + cl (trV c))), l.re, l.gr⟩, some ⟨10, 0, 0, 0⟩, false) := by unfold entV; rw [if_pos hn]
      rw [e0]
      refine ent tab_ok [.a [.i .i64 c.ca, .i .i64 c.fl, .i .i64 c.ft, .i .i64 c.se, .i .i64 c.dr, .i .i64 c.dw, .i .i64 c.ho, .i .i64 c.re, .i .i64 c.yi, .i .i64 c.qu, .i .i64 c.qo, .i .i64 c.lo, .i .i64 c.sl, .i .i64 c.rt, .i .i64 c.cp, .i .i64 c.tr, .i .i64 c.de, .i .i64 c.wi], .a [.i .i64 l.se, .i .i64 l.fl, .i .i64 l.fm, .i .i64 l.to, .i .i64 l.ma, .i .i64 l.ca, .i .i64 l.ph, .i .i64 l.un, .i .i64 l.re, .i .i64 l.gr], .a [.i .i64 x.ds, .i .i64 x.da, .i .i64 x.un, .i .i64 x.wy, .i .i64 x.ti, .i .i64 x.ju, .i .i64 x.lo, .b x.bl, .b x.br, .i .i64 x.mo, .i .i64 x.ta, .b x.ho, .i .u64 x.sp, .i .u64 x.su, .i .u64 x.sd], .i .i64 now, .a [.i .i64 m.ki, .i .i64 m.a, .i .i64 m.b, .i .i64 m.c]] Tryz.func96 Tryz.ntmps96 rfl rfl ?_
      repeat' ((conv => whnf); first | refine sgo ⟨tab_ok⟩ ?_ | refine br_not ?_ | refine br_t rfl ?_ | refine br_f rfl ?_ | refine br_t (by assumption) ?_ | refine br_f (by assumption) ?_ | refine br_t (decide_eq_true (by assumption)) ?_ | refine br_f (decide_eq_false (by assumption)) ?_ | refine br_t (beq_iff_eq.2 (by assumption)) ?_ | refine br_f (beq_eq_false_iff_ne.2 (by assumption)) ?_ | intro b | refine drA ⟨tab_ok⟩ [] ?_ | refine kpt ?_ | refine br_t (decide_eq_true (by omega)) ?_ | refine br_f (decide_eq_false (by omega)) ?_ | refine br_f (beq_eq_false_iff_ne.2 (by omega)) ?_ | refine br_dec (fun h => ?_) (fun h => ?_) | refine br_eq (fun h => ?_) (fun h => ?_) | refine br_b (fun h => ?_) (fun h => ?_) | refine callB (f := 166) (t := 48) [.i .i64 10, .i .i64 0, .i .i64 0, .i .i64 0] (fun j => .t [.a [.i .i64 l.se, .i .i64 l.fl, .i .i64 l.fm, .i .i64 l.to, .i .i64 l.ma, .i .i64 l.ca, .i .i64 3, .i .i64 (cl (cl now + cl (trV c))), .i .i64 l.re, .i .i64 l.gr], .s j 0 1 1, .b false]) (fun w => (entT c l x now w).mono (by rintro e w' ⟨v, rfl, hv, hs⟩; rw [e0] at hv ⊢; obtain ⟨b, rfl, h1, h2⟩ := hv; exact ⟨b, by simp [den, denL], h1, h2, hs⟩)) ?_ | refine said_s (b := _) ?_ (by rfl) | refine said_n ?_ | refine fin_s ?_ | refine fin_r ?_ ?_ | refine fin_e ?_ ?_)
      all_goals rfl
    | false =>
      have e0 : entV c l x now = (⟨l.se, l.fl, l.fm, l.to, l.ma, l.ca, l.ph, l.un, l.re, l.gr⟩, some ⟨11, ms x.lo, 0, 0⟩, false) := by unfold entV; rw [if_neg (by simp [hn])]
      rw [e0]
      refine ent tab_ok [.a [.i .i64 c.ca, .i .i64 c.fl, .i .i64 c.ft, .i .i64 c.se, .i .i64 c.dr, .i .i64 c.dw, .i .i64 c.ho, .i .i64 c.re, .i .i64 c.yi, .i .i64 c.qu, .i .i64 c.qo, .i .i64 c.lo, .i .i64 c.sl, .i .i64 c.rt, .i .i64 c.cp, .i .i64 c.tr, .i .i64 c.de, .i .i64 c.wi], .a [.i .i64 l.se, .i .i64 l.fl, .i .i64 l.fm, .i .i64 l.to, .i .i64 l.ma, .i .i64 l.ca, .i .i64 l.ph, .i .i64 l.un, .i .i64 l.re, .i .i64 l.gr], .a [.i .i64 x.ds, .i .i64 x.da, .i .i64 x.un, .i .i64 x.wy, .i .i64 x.ti, .i .i64 x.ju, .i .i64 x.lo, .b x.bl, .b x.br, .i .i64 x.mo, .i .i64 x.ta, .b x.ho, .i .u64 x.sp, .i .u64 x.su, .i .u64 x.sd], .i .i64 now, .a [.i .i64 m.ki, .i .i64 m.a, .i .i64 m.b, .i .i64 m.c]] Tryz.func96 Tryz.ntmps96 rfl rfl ?_
      repeat' ((conv => whnf); first | refine sgo ⟨tab_ok⟩ ?_ | refine br_not ?_ | refine br_t rfl ?_ | refine br_f rfl ?_ | refine br_t (by assumption) ?_ | refine br_f (by assumption) ?_ | refine br_t (decide_eq_true (by assumption)) ?_ | refine br_f (decide_eq_false (by assumption)) ?_ | refine br_t (beq_iff_eq.2 (by assumption)) ?_ | refine br_f (beq_eq_false_iff_ne.2 (by assumption)) ?_ | intro b | refine drA ⟨tab_ok⟩ [] ?_ | refine kpt ?_ | refine br_t (decide_eq_true (by omega)) ?_ | refine br_f (decide_eq_false (by omega)) ?_ | refine br_f (beq_eq_false_iff_ne.2 (by omega)) ?_ | refine br_dec (fun h => ?_) (fun h => ?_) | refine br_eq (fun h => ?_) (fun h => ?_) | refine br_b (fun h => ?_) (fun h => ?_) | refine callB (f := 166) (t := 48) [.i .i64 11, .i .i64 (ms x.lo), .i .i64 0, .i .i64 0] (fun j => .t [.a [.i .i64 l.se, .i .i64 l.fl, .i .i64 l.fm, .i .i64 l.to, .i .i64 l.ma, .i .i64 l.ca, .i .i64 l.ph, .i .i64 l.un, .i .i64 l.re, .i .i64 l.gr], .s j 0 1 1, .b false]) (fun w => (entT c l x now w).mono (by rintro e w' ⟨v, rfl, hv, hs⟩; rw [e0] at hv ⊢; obtain ⟨b, rfl, h1, h2⟩ := hv; exact ⟨b, by simp [den, denL], h1, h2, hs⟩)) ?_ | refine said_s (b := _) ?_ (by rfl) | refine said_n ?_ | refine fin_s ?_ | refine fin_r ?_ ?_ | refine fin_e ?_ ?_)
      all_goals rfl
  · refine ent tab_ok [.a [.i .i64 c.ca, .i .i64 c.fl, .i .i64 c.ft, .i .i64 c.se, .i .i64 c.dr, .i .i64 c.dw, .i .i64 c.ho, .i .i64 c.re, .i .i64 c.yi, .i .i64 c.qu, .i .i64 c.qo, .i .i64 c.lo, .i .i64 c.sl, .i .i64 c.rt, .i .i64 c.cp, .i .i64 c.tr, .i .i64 c.de, .i .i64 c.wi], .a [.i .i64 l.se, .i .i64 l.fl, .i .i64 l.fm, .i .i64 l.to, .i .i64 l.ma, .i .i64 l.ca, .i .i64 l.ph, .i .i64 l.un, .i .i64 l.re, .i .i64 l.gr], .a [.i .i64 x.ds, .i .i64 x.da, .i .i64 x.un, .i .i64 x.wy, .i .i64 x.ti, .i .i64 x.ju, .i .i64 x.lo, .b x.bl, .b x.br, .i .i64 x.mo, .i .i64 x.ta, .b x.ho, .i .u64 x.sp, .i .u64 x.su, .i .u64 x.sd], .i .i64 now, .a [.i .i64 m.ki, .i .i64 m.a, .i .i64 m.b, .i .i64 m.c]] Tryz.func96 Tryz.ntmps96 rfl rfl ?_
    repeat' ((conv => whnf); first | refine sgo ⟨tab_ok⟩ ?_ | refine br_not ?_ | refine br_t rfl ?_ | refine br_f rfl ?_ | refine br_t (by assumption) ?_ | refine br_f (by assumption) ?_ | refine br_t (decide_eq_true (by assumption)) ?_ | refine br_f (decide_eq_false (by assumption)) ?_ | refine br_t (beq_iff_eq.2 (by assumption)) ?_ | refine br_f (beq_eq_false_iff_ne.2 (by assumption)) ?_ | intro b | refine drA ⟨tab_ok⟩ [] ?_ | refine kpt ?_ | refine br_t (decide_eq_true (by omega)) ?_ | refine br_f (decide_eq_false (by omega)) ?_ | refine br_f (beq_eq_false_iff_ne.2 (by omega)) ?_ | refine br_dec (fun h => ?_) (fun h => ?_) | refine br_eq (fun h => ?_) (fun h => ?_) | refine br_b (fun h => ?_) (fun h => ?_) | refine Wr.mk ?_ | refine callS (f := 167) (.b (mayRe c l)) (mayReT c l) ?_ | refine callS (f := 140) (.i .i64 (cl (cl now + cl (sp c.ho)))) (heldT c now) ?_ | refine callB (f := 138) (t := 48) [.i .i64 _, .i .i64 _, .i .i64 0, .i .i64 0] (fun j => .s j 0 1 1) (fun w => (sayT _ _ w).mono (by rintro e w' ⟨b, rfl, h1, h2, h3⟩; exact ⟨b, rfl, h1, h2, h3⟩)) ?_ | refine said_s (b := _) ?_ (by rfl) | refine said_n ?_ | refine fin_s ?_ | refine fin_r ?_ ?_ | refine fin_e ?_ ?_)
    all_goals first | (simp [hearV, *]; done) | (exfalso; omega) | (exfalso; apply he; constructor <;> assumption) | (have h2 : ¬ l.ph = 2 := (by omega); simp [hearV, *]; done)
def aimF (l : LeaseV) : Int := if l.ph ≤ 2 then l.fm else l.to
theorem aimT (l : LeaseV) (w : World) : Calls Tryz.prog 142 #[.agg #[.int .i64 l.se, .int .i64 l.fl, .int .i64 l.fm, .int .i64 l.to, .int .i64 l.ma, .int .i64 l.ca, .int .i64 l.ph, .int .i64 l.un, .int .i64 l.re, .int .i64 l.gr]] w fun e w' => e = .returned (.tuple #[.int .i64 (aimF l), .bool true]) ∧ Since w w' := by
  refine ent tab_ok [.a [.i .i64 l.se, .i .i64 l.fl, .i .i64 l.fm, .i .i64 l.to, .i .i64 l.ma, .i .i64 l.ca, .i .i64 l.ph, .i .i64 l.un, .i .i64 l.re, .i .i64 l.gr]] Tryz.func142 Tryz.ntmps142 rfl rfl ?_
  repeat' ((conv => whnf); first | refine sgo ⟨tab_ok⟩ ?_ | refine br_not ?_ | refine br_t rfl ?_ | refine br_f rfl ?_ | refine br_t (by assumption) ?_ | refine br_f (by assumption) ?_ | refine br_t (decide_eq_true (by assumption)) ?_ | refine br_f (decide_eq_false (by assumption)) ?_ | refine br_t (beq_iff_eq.2 (by assumption)) ?_ | refine br_f (beq_eq_false_iff_ne.2 (by assumption)) ?_ | intro b | refine drA ⟨tab_ok⟩ [] ?_ | refine kpt ?_ | refine br_dec (fun h => ?_) (fun h => ?_) | refine br_eq (fun h => ?_) (fun h => ?_) | refine br_b (fun h => ?_) (fun h => ?_) | refine fin_s ?_ | refine fin_r ?_ ?_ | refine fin_e ?_ ?_)
  all_goals (unfold aimF; simp [den, denL, *])
end Go.Proofs.YthmikjjnlahlbaaGreat.Ri
namespace Go.Proofs.YthmikjjnlahlbaaGreat.Fl
set_option linter.unusedSectionVars false
set_option linter.unusedVariables false
set_option linter.unusedSimpArgs false
open Go.RowKit Go.Proofs.YthmikjjnlahlbaaGreat.Ba Go.Proofs.YthmikjjnlahlbaaGreat.Mem Go.Proofs.YthmikjjnlahlbaaGreat.En Go.Proofs.YthmikjjnlahlbaaGreat.Ty Go.Proofs.YthmikjjnlahlbaaGreat.Mo
open Go.Proofs.YthmikjjnlahlbaaGreat.Qu (leaC leaC_len leaC_one leas_one btw)
open Go.Proofs.YthmikjjnlahlbaaGreat.Ce (ms massT)
set_option maxRecDepth 100000
attribute [local irreducible] Go.Calls
def leaE : Ek LeaseV := ⟨65, 10, leaC, leaC_len, leaC_one⟩
def belB (n m : Int) : Bool := decide (0 ≤ n) && decide (n < m)
def mayB (c : CfgV) (a : AskV) : Bool := belB a.se (btw c.se 1 64) && belB a.fl (btw c.ft 1 8) && belB a.fm (fl c.fl) && belB a.to (fl c.fl) && (a.fm != a.to) && decide (1 ≤ a.ma) && decide (a.ma ≤ ms c.lo)
theorem belT (n m : Int) (w : World) : Calls Tryz.prog 205 #[.int .i64 n, .int .i64 m] w fun e w' => e = .returned (.bool (belB n m)) ∧ Since w w' := by
  refine ent tab_ok [.i .i64 n, .i .i64 m] Tryz.func205 Tryz.ntmps205 rfl rfl ?_
  repeat' ((conv => whnf); first | refine sgo ⟨tab_ok⟩ ?_ | refine br_not ?_ | refine br_t rfl ?_ | refine br_f rfl ?_ | refine br_t (by assumption) ?_ | refine br_f (by assumption) ?_ | refine br_t (decide_eq_true (by assumption)) ?_ | refine br_f (decide_eq_false (by assumption)) ?_ | refine br_t (beq_iff_eq.2 (by assumption)) ?_ | refine br_f (beq_eq_false_iff_ne.2 (by assumption)) ?_ | refine drA ⟨tab_ok⟩ [] ?_ | refine kpt ?_ | refine br_dec (fun h => ?_) (fun h => ?_) | refine br_eq (fun h => ?_) (fun h => ?_) | refine br_b (fun h => ?_) (fun h => ?_) | refine fin_s ?_ | refine fin_r ?_ ?_ | refine fin_e ?_ ?_)
  all_goals (unfold belB; simp [den, *])
theorem btwT (n lo hi : Int) (h : lo ≤ hi) (w : World) : Calls Tryz.prog 206 #[.int .i64 n, .int .i64 lo, .int .i64 hi] w fun e w' => e = .returned (.int .i64 (btw n lo hi)) ∧ Since w w' := by
  refine ent tab_ok [.i .i64 n, .i .i64 lo, .i .i64 hi] Tryz.func206 Tryz.ntmps206 rfl rfl ?_
  repeat' ((conv => whnf); first | refine sgo ⟨tab_ok⟩ ?_ | refine br_not ?_ | refine br_t rfl ?_ | refine br_f rfl ?_ | refine br_t (by assumption) ?_ | refine br_f (by assumption) ?_ | refine br_t (decide_eq_true (by assumption)) ?_ | refine br_f (decide_eq_false (by assumption)) ?_ | refine br_t (beq_iff_eq.2 (by assumption)) ?_ | refine br_f (beq_eq_false_iff_ne.2 (by assumption)) ?_ | refine drA ⟨tab_ok⟩ [] ?_ | refine kpt ?_ | refine fin_s ?_ | refine fin_r ?_ ?_ | refine fin_e ?_ ?_)
  exact congrArg (Value.int .i64) (by unfold btw; repeat' split <;> omega)
theorem quotaT (c : CfgV) (w : World) : Calls Tryz.prog 227 #[.agg #[.int .i64 c.ca, .int .i64 c.fl, .int .i64 c.ft, .int .i64 c.se, .int .i64 c.dr, .int .i64 c.dw, .int .i64 c.ho, .int .i64 c.re, .int .i64 c.yi, .int .i64 c.qu, .int .i64 c.qo, .int .i64 c.lo, .int .i64 c.sl, .int .i64 c.rt, .int .i64 c.cp, .int .i64 c.tr, .int .i64 c.de, .int .i64 c.wi]] w fun e w' => e = .returned (.int .i64 (btw c.qo 1 8)) ∧ Since w w' := by
  refine ent tab_ok [.a [.i .i64 c.ca, .i .i64 c.fl, .i .i64 c.ft, .i .i64 c.se, .i .i64 c.dr, .i .i64 c.dw, .i .i64 c.ho, .i .i64 c.re, .i .i64 c.yi, .i .i64 c.qu, .i .i64 c.qo, .i .i64 c.lo, .i .i64 c.sl, .i .i64 c.rt, .i .i64 c.cp, .i .i64 c.tr, .i .i64 c.de, .i .i64 c.wi]] Tryz.func227 Tryz.ntmps227 rfl rfl ?_
  repeat' ((conv => whnf); first | refine sgo ⟨tab_ok⟩ ?_ | refine br_not ?_ | refine br_t rfl ?_ | refine br_f rfl ?_ | refine br_t (by assumption) ?_ | refine br_f (by assumption) ?_ | refine br_t (decide_eq_true (by assumption)) ?_ | refine br_f (decide_eq_false (by assumption)) ?_ | refine br_t (beq_iff_eq.2 (by assumption)) ?_ | refine br_f (beq_eq_false_iff_ne.2 (by assumption)) ?_ | intro b | refine drA ⟨tab_ok⟩ [] ?_ | refine kpt ?_ | refine callS (f := 206) (.i .i64 (btw _ _ _)) (btwT _ _ _ (by decide)) ?_ | refine fin_s ?_ | refine fin_r ?_ ?_ | refine fin_e ?_ ?_)
  all_goals rfl
attribute [local irreducible] belB btw ms
set_option maxHeartbeats 4000000 in
theorem mayT (c : CfgV) (a : AskV) (w : World) : Calls Tryz.prog 159 #[.agg #[.int .i64 c.ca, .int .i64 c.fl, .int .i64 c.ft, .int .i64 c.se, .int .i64 c.dr, .int .i64 c.dw, .int .i64 c.ho, .int .i64 c.re, .int .i64 c.yi, .int .i64 c.qu, .int .i64 c.qo, .int .i64 c.lo, .int .i64 c.sl, .int .i64 c.rt, .int .i64 c.cp, .int .i64 c.tr, .int .i64 c.de, .int .i64 c.wi], .agg #[.int .i64 a.se, .int .i64 a.fl, .int .i64 a.fm, .int .i64 a.to, .int .i64 a.ma]] w fun e w' => e = .returned (.bool (mayB c a)) ∧ Since w w' := by
  refine ent tab_ok [.a [.i .i64 c.ca, .i .i64 c.fl, .i .i64 c.ft, .i .i64 c.se, .i .i64 c.dr, .i .i64 c.dw, .i .i64 c.ho, .i .i64 c.re, .i .i64 c.yi, .i .i64 c.qu, .i .i64 c.qo, .i .i64 c.lo, .i .i64 c.sl, .i .i64 c.rt, .i .i64 c.cp, .i .i64 c.tr, .i .i64 c.de, .i .i64 c.wi], .a [.i .i64 a.se, .i .i64 a.fl, .i .i64 a.fm, .i .i64 a.to, .i .i64 a.ma]] Tryz.func159 Tryz.ntmps159 rfl rfl ?_
  repeat' ((conv => whnf); first | refine sgo ⟨tab_ok⟩ ?_ | refine br_not ?_ | refine br_t rfl ?_ | refine br_f rfl ?_ | refine br_t (by assumption) ?_ | refine br_f (by assumption) ?_ | refine br_t (decide_eq_true (by assumption)) ?_ | refine br_f (decide_eq_false (by assumption)) ?_ | refine br_t (beq_iff_eq.2 (by assumption)) ?_ | refine br_f (beq_eq_false_iff_ne.2 (by assumption)) ?_ | intro b | refine drA ⟨tab_ok⟩ [] ?_ | refine kpt ?_ | refine br_dec (fun h => ?_) (fun h => ?_) | refine br_eq (fun h => ?_) (fun h => ?_) | refine br_b (fun h => ?_) (fun h => ?_) | refine br_ne (fun h => ?_) (fun h => ?_) | refine callS (f := 190) (.i .i64 (fl _)) (floorsT _) ?_ | refine callS (f := 206) (.i .i64 (btw _ _ _)) (btwT _ _ _ (by decide)) ?_ | refine callS (f := 205) (.b (belB _ _)) (belT _ _) ?_ | refine callS (f := 207) (.i .i64 (ms _)) (massT _) ?_ | refine fin_s ?_ | refine fin_r ?_ ?_ | refine fin_e ?_ ?_)
  all_goals (unfold mayB; simp [den, *])
/-- How many leases a fleet has. -/
def cn (ls : List LeaseV) (f : Int) : Nat := ls.countP fun l => l.fl == f
theorem cn_take {ls : List LeaseV} {f : Int} {k : Nat} {x : LeaseV} (hx : ls[k]? = some x) : cn (ls.take (k + 1)) f = cn (ls.take k) f + if x.fl = f then 1 else 0 := by
  obtain ⟨hk, rfl⟩ := List.getElem?_eq_some_iff.1 hx
  unfold cn
  rw [List.take_succ_eq_append_getElem hk, List.countP_append]
  simp [List.countP_cons]
theorem cn_le (ls : List LeaseV) (f : Int) : cn ls f ≤ ls.length := List.countP_le_length
theorem countT {lo n c : Nat} {A : Option Addr} {ls : List LeaseV} (f : Int) (w : World) (ho : leaE.At lo A n c ls w) (hn : ls.length = n) (hl : n ≤ 1000000) :
    Calls Tryz.prog 226 #[.slice A n c, .int .i64 f] w fun e w' => e = .returned (.int .i64 (cn ls f)) ∧ Since w w' := by
  obtain ⟨g, hA⟩ := Ek.addr ho
  refine entH tab_ok (Hold.addObj (Hold.nil _ tab [] _ w) (rwO leaE lo A n c ls false) ho (by intro k; cases k) (by intro r hr; cases hr) (by intro A hA; cases hA)) [.v (.slice A n c), .i .i64 f] Tryz.func226 Tryz.ntmps226 rfl rfl ?_
  repeat' ((conv => whnf); first | refine sgo ⟨tab_ok⟩ ?_ | refine br_not ?_ | refine br_t rfl ?_ | refine br_f rfl ?_ | refine br_t (by assumption) ?_ | refine br_f (by assumption) ?_ | refine br_t (decide_eq_true (by assumption)) ?_ | refine br_f (decide_eq_false (by assumption)) ?_ | refine br_t (beq_iff_eq.2 (by assumption)) ?_ | refine br_f (beq_eq_false_iff_ne.2 (by assumption)) ?_ | intro b | refine drA ⟨tab_ok⟩ [] ?_ | refine kpt ?_ | refine br_dec (fun h => ?_) (fun h => ?_) | refine br_eq (fun h => ?_) (fun h => ?_) | refine br_b (fun h => ?_) (fun h => ?_) | refine fin_s ?_ | refine fin_r ?_ ?_ | refine fin_e ?_ ?_)
  conv => whnf
  refine lp ⟨tab_ok⟩ (ι := {k : Nat // k ≤ n}) (fun x => match x with | ⟨k, _⟩ => ⟨[(0, .v (.slice A n c)), (1, .i .i64 f), (5, .i .i64 (cn (ls.take k) f : Nat)), (8, .v (.slice A n c)), (9, .i .i64 n), (10, .i .i64 (k : Int))], [], [rwO leaE lo A n c ls false]⟩) (fun x => n - x.1) ⟨0, Nat.zero_le _⟩ (wk ?_) ?_
  · repeat' (first | exact trivial | rfl | ((conv => whnf); refine And.intro ?_ ?_))
  rintro ⟨k, hk⟩
  have hck : cn (ls.take k) f ≤ n := by have := cn_le (ls.take k) f; rw [List.length_take] at this; omega
  by_cases hlt : k < n
  · obtain ⟨x, hx⟩ : ∃ x, ls[k]? = some x := ⟨_, List.getElem?_eq_getElem (by omega)⟩
    obtain rfl := hA (by omega)
    have hc := cn_take (f := f) hx
    by_cases hpx : x.fl = f
    · rw [if_pos hpx] at hc
      repeat' ((conv => whnf); first | refine sgo ⟨tab_ok⟩ ?_ | refine br_not ?_ | refine br_t rfl ?_ | refine br_f rfl ?_ | refine br_t (by assumption) ?_ | refine br_f (by assumption) ?_ | refine br_t (decide_eq_true (by assumption)) ?_ | refine br_f (decide_eq_false (by assumption)) ?_ | refine br_t (beq_iff_eq.2 (by assumption)) ?_ | refine br_f (beq_eq_false_iff_ne.2 (by assumption)) ?_ | intro b2 | refine drA ⟨tab_ok⟩ [] ?_ | refine kpt ?_ | refine br_t (decide_eq_true (by omega)) ?_ | refine br_f (decide_eq_false (by omega)) ?_ | refine wr_i ?_ | refine br_t (beq_iff_eq.2 hpx) ?_ | refine opiv ⟨tab_ok⟩ (by rfl) (by rfl) (by rfl) (by rfl) (by rfl) (by rfl) ⟨by omega, by omega⟩ ?_ | refine opix (g := g) (off := 0 + k * 10) [.i .i64 x.se, .i .i64 x.fl, .i .i64 x.fm, .i .i64 x.to, .i .i64 x.ma, .i .i64 x.ca, .i .i64 x.ph, .i .i64 x.un, .i .i64 x.re, .i .i64 x.gr] (fun w hH => Ek.rng (hH.obj (rwO leaE lo (some ⟨g, 0, none⟩) n c ls false) (List.mem_singleton.2 rfl)) hx) ⟨tab_ok⟩ (by rfl) (by rfl) (by show Addr.add ⟨g, 0, none⟩ (k * 10) = _; rw [Go.WideShapes.add_plain]) ?_ | refine back ⟨k + 1, by omega⟩ (wk ?_) ?_ | refine fin_s ?_ | refine fin_r ?_ ?_ | refine fin_e ?_ ?_)
      all_goals first | (show n - (k + 1) < n - k; omega) | skip
      all_goals (repeat' (first | exact trivial | rfl | ((conv => whnf); refine And.intro ?_ ?_)))
      all_goals (simp only [den]; rw [hc]; rfl)
    · rw [if_neg hpx] at hc
      repeat' ((conv => whnf); first | refine sgo ⟨tab_ok⟩ ?_ | refine br_not ?_ | refine br_t rfl ?_ | refine br_f rfl ?_ | refine br_t (by assumption) ?_ | refine br_f (by assumption) ?_ | refine br_t (decide_eq_true (by assumption)) ?_ | refine br_f (decide_eq_false (by assumption)) ?_ | refine br_t (beq_iff_eq.2 (by assumption)) ?_ | refine br_f (beq_eq_false_iff_ne.2 (by assumption)) ?_ | intro b2 | refine drA ⟨tab_ok⟩ [] ?_ | refine kpt ?_ | refine br_t (decide_eq_true (by omega)) ?_ | refine br_f (decide_eq_false (by omega)) ?_ | refine wr_i ?_ | refine br_f (beq_eq_false_iff_ne.2 hpx) ?_ | refine opiv ⟨tab_ok⟩ (by rfl) (by rfl) (by rfl) (by rfl) (by rfl) (by rfl) ⟨by omega, by omega⟩ ?_ | refine opix (g := g) (off := 0 + k * 10) [.i .i64 x.se, .i .i64 x.fl, .i .i64 x.fm, .i .i64 x.to, .i .i64 x.ma, .i .i64 x.ca, .i .i64 x.ph, .i .i64 x.un, .i .i64 x.re, .i .i64 x.gr] (fun w hH => Ek.rng (hH.obj (rwO leaE lo (some ⟨g, 0, none⟩) n c ls false) (List.mem_singleton.2 rfl)) hx) ⟨tab_ok⟩ (by rfl) (by rfl) (by show Addr.add ⟨g, 0, none⟩ (k * 10) = _; rw [Go.WideShapes.add_plain]) ?_ | refine back ⟨k + 1, by omega⟩ (wk ?_) ?_ | refine fin_s ?_ | refine fin_r ?_ ?_ | refine fin_e ?_ ?_)
      all_goals first | (show n - (k + 1) < n - k; omega) | skip
      all_goals (repeat' (first | exact trivial | rfl | ((conv => whnf); refine And.intro ?_ ?_)))
      all_goals (simp only [den]; rw [hc]; rfl)
  · repeat' ((conv => whnf); first | refine sgo ⟨tab_ok⟩ ?_ | refine br_not ?_ | refine br_t rfl ?_ | refine br_f rfl ?_ | refine br_t (by assumption) ?_ | refine br_f (by assumption) ?_ | refine br_t (decide_eq_true (by assumption)) ?_ | refine br_f (decide_eq_false (by assumption)) ?_ | refine br_t (beq_iff_eq.2 (by assumption)) ?_ | refine br_f (beq_eq_false_iff_ne.2 (by assumption)) ?_ | intro b2 | refine drA ⟨tab_ok⟩ [] ?_ | refine kpt ?_ | refine br_t (decide_eq_true (by omega)) ?_ | refine br_f (decide_eq_false (by omega)) ?_ | refine wr_i ?_ | refine fin_s ?_ | refine fin_r ?_ ?_ | refine fin_e ?_ ?_)
    obtain rfl : k = n := by omega
    rw [List.take_of_length_le (by omega)]; rfl
attribute [local irreducible] cn
def freeB (c : CfgV) (ls : List LeaseV) (f : Int) : Bool := decide ((cn ls f : Int) < btw c.qo 1 8)
theorem freeT {lo n cap : Nat} {A : Option Addr} {ls : List LeaseV} (c : CfgV) (f : Int) (w : World) (ho : leaE.At lo A n cap ls w) (hn : ls.length = n) (hl : n ≤ 1000000) :
    Calls Tryz.prog 202 #[.agg #[.int .i64 c.ca, .int .i64 c.fl, .int .i64 c.ft, .int .i64 c.se, .int .i64 c.dr, .int .i64 c.dw, .int .i64 c.ho, .int .i64 c.re, .int .i64 c.yi, .int .i64 c.qu, .int .i64 c.qo, .int .i64 c.lo, .int .i64 c.sl, .int .i64 c.rt, .int .i64 c.cp, .int .i64 c.tr, .int .i64 c.de, .int .i64 c.wi], .slice A n cap, .int .i64 f] w fun e w' => e = .returned (.bool (freeB c ls f)) ∧ Since w w' := by
  refine entH tab_ok (Hold.addObj (Hold.nil _ tab [] _ w) (rwO leaE lo A n cap ls false) ho (by intro k; cases k) (by intro r hr; cases hr) (by intro A hA; cases hA)) [.a [.i .i64 c.ca, .i .i64 c.fl, .i .i64 c.ft, .i .i64 c.se, .i .i64 c.dr, .i .i64 c.dw, .i .i64 c.ho, .i .i64 c.re, .i .i64 c.yi, .i .i64 c.qu, .i .i64 c.qo, .i .i64 c.lo, .i .i64 c.sl, .i .i64 c.rt, .i .i64 c.cp, .i .i64 c.tr, .i .i64 c.de, .i .i64 c.wi], .v (.slice A n cap), .i .i64 f] Tryz.func202 Tryz.ntmps202 rfl rfl ?_
  repeat' ((conv => whnf); first | refine sgo ⟨tab_ok⟩ ?_ | refine br_not ?_ | refine br_t rfl ?_ | refine br_f rfl ?_ | refine br_t (by assumption) ?_ | refine br_f (by assumption) ?_ | refine br_t (decide_eq_true (by assumption)) ?_ | refine br_f (decide_eq_false (by assumption)) ?_ | refine br_t (beq_iff_eq.2 (by assumption)) ?_ | refine br_f (beq_eq_false_iff_ne.2 (by assumption)) ?_ | intro b | refine drA ⟨tab_ok⟩ [] ?_ | refine kpt ?_ | refine br_dec (fun h => ?_) (fun h => ?_) | refine br_eq (fun h => ?_) (fun h => ?_) | refine br_b (fun h => ?_) (fun h => ?_) | refine callS (f := 227) (.i .i64 (btw _ _ _)) (quotaT c) ?_ | refine callH (f := 226) (.i .i64 (cn ls f : Nat)) (fun w hH => countT f w (hH.obj (rwO leaE lo A n cap ls false) (List.mem_singleton.2 rfl)) hn hl) ?_ | refine fin_s ?_ | refine fin_r ?_ ?_ | refine fin_e ?_ ?_)
  all_goals rfl
end Go.Proofs.YthmikjjnlahlbaaGreat.Fl
