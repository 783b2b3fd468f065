/-
  Wanted: part 6.
  No condition.
-/
import Derived.Test.YtpiiblkiddcgcaaGreatPG5
import Derived.WalkKit
import Derived.Test.YtpiiblkiddcgcaaGreatPG0
import Derived.Test.YtpiiblkiddcgcaaGreatPG4
set_option linter.all false
namespace Go.Proofs.YtpiiblkiddcgcaaGreat
namespace Gr
open Go.RowKit Ba Mem En Mo Go.Proofs.YtpiiblkiddcgcaaGreat.Ty Go.Proofs.YtpiiblkiddcgcaaGreat.St
open Ct (cfgA carA)
open Et (carsO)
set_option maxRecDepth 100000
attribute [local irreducible] Go.Calls
def upto {α : Type} (f : α → α) (ws : List α) (i : Nat) : List α := (ws.take i).map f ++ ws.drop i
section
variable {α : Type} {f : α → α} {ws : List α} {i : Nat}
theorem upto_len : (upto f ws i).length = ws.length := by simp [upto]; omega
theorem upto_zero : upto f ws 0 = ws := by simp [upto]
theorem upto_end : upto f ws ws.length = ws.map f := by simp [upto]
theorem upto_at (hi : i < ws.length) (h2 : i < (upto f ws i).length) : (upto f ws i)[i] = ws[i] := by
 have : (upto f ws i)[i]? = some ws[i] := by
  unfold upto
  rw [List.getElem?_append_right (by simp; omega)]
  simp [Nat.min_eq_left (Nat.le_of_lt hi), hi]
 rw [List.getElem?_eq_getElem h2] at this
 exact Option.some.inj this
theorem upto_set (hi : i < ws.length) : (upto f ws i).set i (f ws[i]) = upto f ws (i + 1) := by
 unfold upto
 rw [List.set_append_right _ _ (by simp; omega)]
 simp only [List.length_map, List.length_take, Nat.min_eq_left (Nat.le_of_lt hi), Nat.sub_self]
 rw [List.drop_eq_getElem_cons hi, List.set_cons_zero, List.take_succ_eq_append_getElem hi, List.map_append, List.append_assoc]
 rfl
theorem upto_same (hi : i < ws.length) (h : f ws[i] = ws[i]) : upto f ws (i + 1) = upto f ws i := by
 rw [← upto_set hi, h]
 apply List.ext_getElem?
 intro j
 rw [List.getElem?_set]
 split
 ·rename_i hj
  subst hj
  have h2 : i < (upto f ws i).length := by rw [upto_len]; exact hi
  rw [if_pos h2, List.getElem?_eq_getElem h2, upto_at hi h2]
 ·rfl
end
def disW (car : Int) (a : WaitV) : WaitV := if a.ca = car then { a with ca := -1 } else a
set_option maxHeartbeats 4000000 in
abbrev wPS (lo g n c k : Nat) (ls : List WaitV) := {x : List Value × List Value // x.1.length = 0 + k * 4 ∧ ∀ y w', Blk w' g 76 (el x.1 (waitA y) x.2) → WaitsAt lo (some ⟨g, 0, none⟩) n c (ls.set k y) w'}
theorem wait_open {lo g n c k : Nat} {ls : List WaitV} {w : World} {x : WaitV} (h : WaitsAt lo (some ⟨g, 0, none⟩) n c ls w) (hx : ls[k]? = some x) : ∃ p : wPS lo g n c k ls, g ∈ blkOf (some ⟨g, 0, none⟩) ∧ p.1.1.length = 0 + k * 4 ∧ Blk w g 76 (el p.1.1 (waitA x) p.1.2) := by
 obtain ⟨hi, rfl⟩ := List.getElem?_eq_some_iff.1 hx
 obtain ⟨P, S, hP, hB, hb⟩ := own_el waitL_len h hi
 exact ⟨⟨(P, S), hP, fun y w' hB' => hb y w' hB'⟩, by simp [blkOf], hP, hB⟩
theorem disownT (lo q : Nat) (G : GrV) (v1 : Value) (A2 : Option Addr) (c2 : Nat) (car : Int) (w : World) (hq : Blk w q 70 (grpA G v1 (.slice A2 G.waits.length c2))) (ho : WaitsAt lo A2 G.waits.length c2 G.waits w) (hl : G.waits.length ≤ 1000000) : Calls Tryz.prog 104 #[.pointer (some ⟨q, 0, none⟩), .int .i64 car] w fun e w' => e = .returned (.tuple #[]) ∧ WaitsAt lo A2 G.waits.length c2 (G.waits.map (disW car)) w' ∧ Upd (blkOf A2) w w' := by
 obtain ⟨g, hA⟩ : ∃ g, 0 < G.waits.length → A2 = some ⟨g, 0, none⟩ := by
  rcases own_at ho with ⟨_, h0, _⟩ | ⟨g, _, h1, _⟩
  ·exact ⟨0, fun k => by omega⟩
  ·exact ⟨g, fun _ => h1⟩
 refine entH tab_ok (Hold.addObj (hold_q (S := blkOf A2) [.i .i64 G.c.ca, .i .i64 G.c.fl, .i .i64 G.c.ft, .i .i64 G.c.se, .i .i64 G.c.dr, .i .i64 G.c.dw, .i .i64 G.c.ho, .i .i64 G.c.re, .i .i64 G.c.yi, .i .i64 G.c.qu, .i .i64 G.c.qo, .i .i64 G.c.lo, .i .i64 G.c.sl, .i .i64 G.c.rt, .i .i64 G.c.cp, .i .i64 G.c.tr, .i .i64 G.c.de, .i .i64 G.c.wi, .v v1, .v (.slice A2 G.waits.length c2), .i .i64 G.now] hq) (waitsO lo A2 G.waits.length c2 G.waits true) ho (fun _ g hg => .inl hg) (by intro r hr _; rw [List.mem_singleton] at hr; subst hr; exact own_ne_ty ho hq (by decide)) (by intro A hA; cases hA)) [.p 0 0, .i .i64 car] Tryz.func104 Tryz.ntmps104 rfl rfl ?_
 repeat' (first | refine gs_ ?_ | ((conv => whnf); first | intro b | refine b3_ (fun h => ?_) (fun h => ?_) | refine fin_s ?_))
 conv => whnf
 refine lpS ⟨tab_ok⟩ (ι := {k : Nat // k ≤ G.waits.length}) (fun x => match x with | ⟨k, _⟩ => ⟨[(0, .p 0 0), (1, .i .i64 car), (9, .i .i64 G.waits.length), (10, .i .i64 (k : Int))], [⟨q, 70, true, 0, [], [.i .i64 G.c.ca, .i .i64 G.c.fl, .i .i64 G.c.ft, .i .i64 G.c.se, .i .i64 G.c.dr, .i .i64 G.c.dw, .i .i64 G.c.ho, .i .i64 G.c.re, .i .i64 G.c.yi, .i .i64 G.c.qu, .i .i64 G.c.qo, .i .i64 G.c.lo, .i .i64 G.c.sl, .i .i64 G.c.rt, .i .i64 G.c.cp, .i .i64 G.c.tr, .i .i64 G.c.de, .i .i64 G.c.wi, .v v1, .v (.slice A2 G.waits.length c2), .i .i64 G.now], [], false⟩], [waitsO lo A2 G.waits.length c2 (upto (disW car) G.waits k) true]⟩) (fun x => G.waits.length - x.1) ⟨0, Nat.zero_le _⟩ (wk ?_ (by rfl) (by rfl) (by show [waitsO lo A2 _ c2 (upto (disW car) G.waits 0) true] = [waitsO lo A2 _ c2 G.waits true]; rw [upto_zero])) ?_
 ·repeat' (first | exact trivial | rfl | ((conv => whnf); refine And.intro ?_ ?_))
 rintro ⟨k, hk⟩
 by_cases hlt : k < G.waits.length
 ·obtain rfl := hA (by omega)
  have hlen : (upto (disW car) G.waits k).length = G.waits.length := upto_len
  have hx : (upto (disW car) G.waits k)[k]? = some G.waits[k] := by rw [List.getElem?_eq_getElem (by omega), upto_at hlt]
  refine sm_open ⟨tab_ok⟩ (π := wPS lo g G.waits.length c2 k (upto (disW car) G.waits k)) 0 (fun p => ⟨g, 76, true, 0 + k * 4, p.1.1, [.i .i64 G.waits[k].fl, .i .i64 G.waits[k].wy, .i .i64 G.waits[k].ca, .i .i64 G.waits[k].si], p.1.2, true⟩) (by rfl) (by rfl) (fun w hw => wait_open hw hx) (fun p => rfl) (fun p => ?_)
  repeat' (first | refine gs_ ?_ | ((conv => whnf); first | intro b | refine bto ?_ | refine bfo ?_ | refine wr_i ?_ | refine b3_ (fun h => ?_) (fun h => ?_) | refine opir ⟨tab_ok⟩ 1 (by rfl) (by rfl) (by rfl) (by rfl) (by rfl) (by rfl) (by rfl) ⟨⟨by omega, by omega⟩, by show 0 + k * 4 = _; simp⟩ ?_ | refine back ⟨k + 1, by omega⟩ (wk_close 1 (waitsO lo (some ⟨g, 0, none⟩) G.waits.length c2 (upto (disW car) G.waits (k + 1)) true) 0 ?_ (fun w' hB => ?_) (by rfl) (by rfl) (by rfl) (by rfl) (by rfl) (by rfl)) ?_ | refine fin_s ?_))
  all_goals first | (show G.waits.length - (k + 1) < G.waits.length - k; omega) | skip
  all_goals first
   | (show WaitsAt _ _ _ _ _ _; rw [← upto_set hlt]; refine p.2.2 _ _ ?_; unfold disW; first | (rw [if_pos (by assumption)]; exact hB) | (rw [if_neg (by assumption)]; exact hB))
   | (repeat' (first | exact trivial | rfl | ((conv => whnf); refine And.intro ?_ ?_)))
 ·refine sm_run ⟨tab_ok⟩ ?_
  repeat' (first | refine gs_ ?_ | ((conv => whnf); first | intro b | refine bto ?_ | refine bfo ?_ | refine wr_i ?_ | refine b3_ (fun h => ?_) (fun h => ?_) | refine fin fun w' hH => ⟨rfl, ?_, hH.upd⟩ | refine fin_s ?_))
  obtain rfl : k = G.waits.length := by omega
  have := hH.obj (waitsO lo A2 G.waits.length c2 (upto (disW car) G.waits G.waits.length) true) (List.mem_singleton.2 rfl)
  rw [upto_end] at this
  exact this
end Gr
namespace Gr
open Go.RowKit Ba Mem En Mo Go.Proofs.YtpiiblkiddcgcaaGreat.Ty Go.Proofs.YtpiiblkiddcgcaaGreat.St
open Ct (cfgA carA)
open Et (carsO)
set_option maxRecDepth 100000
attribute [local irreducible] Go.Calls
def fltY (y : Bool) (x : CarV) : CarV := if y = true then { x with br := true, sp := 0, su := 0, sd := 0 } else { x with br := false }
def fltW (y : Bool) (i : Int) (ws : List WaitV) : List WaitV := if y = true then ws.map (disW i) else ws
theorem fltW_len {y : Bool} {i : Int} {ws : List WaitV} : (fltW y i ws).length = ws.length := by unfold fltW; split <;> simp
theorem fault1T (g off : Nat) (P S : List Value) (x : CarV) (cp cq cr q : Nat) (v : Int) (y : Bool) (lo : Nat) (G : GrV) (v1 : Value) (A2 : Option Addr) (c2 : Nat) (w : World) (hb : Blk w g 67 (el P (carA x) S)) (hp : P.length = off) (hcp : Blk w cp 4 #[.bool y]) (hcq : Blk w cq 25 #[.pointer (some ⟨q, 0, none⟩)]) (hcr : Blk w cr 3 #[.int .i64 v]) (hq : Blk w q 70 (grpA G v1 (.slice A2 G.waits.length c2))) (ho : WaitsAt lo A2 G.waits.length c2 G.waits w) (hl : G.waits.length ≤ 1000000) :
  Calls Tryz.prog 103 #[.pointer (some ⟨g, off, none⟩), .pointer (some ⟨cp, 0, none⟩), .pointer (some ⟨cq, 0, none⟩), .pointer (some ⟨cr, 0, none⟩)] w fun e w' => e = .returned (.int .i64 0) ∧ Blk w' g 67 (el P (carA (fltY y x)) S) ∧ WaitsAt lo A2 G.waits.length c2 (fltW y v G.waits) w' ∧ Upd (g :: blkOf A2) w w' := by
 have h0 := fun n : Nat => Hold.addRow (m := []) (Hold.nil Tryz.prog tab (g :: blkOf A2) n w) ⟨g, 67, true, off, P, (sCar x), S, true⟩ hb (fun _ => .inl (by simp)) (by intro q hq; cases hq) (by intro A hA; cases hA) rfl hp
 have h1 := fun n : Nat => Hold.addRow (h0 n) ⟨q, 70, true, 0, [], [.i .i64 G.c.ca, .i .i64 G.c.fl, .i .i64 G.c.ft, .i .i64 G.c.se, .i .i64 G.c.dr, .i .i64 G.c.dw, .i .i64 G.c.ho, .i .i64 G.c.re, .i .i64 G.c.yi, .i .i64 G.c.qu, .i .i64 G.c.qo, .i .i64 G.c.lo, .i .i64 G.c.sl, .i .i64 G.c.rt, .i .i64 G.c.cp, .i .i64 G.c.tr, .i .i64 G.c.de, .i .i64 G.c.wi, .v v1, .v (.slice A2 G.waits.length c2), .i .i64 G.now], [], false⟩ hq (by intro h; cases h) (by intro r hr _; simp only [List.nil_append, List.mem_singleton] at hr; subst hr; exact Blk.ne_ hb hq (by decide)) (by intro A hA; cases hA)
 have h2 := fun n : Nat => Hold.addRow (h1 n) ⟨cp, 4, true, 0, [], [.b y], [], false⟩ hcp (by intro h; cases h) (by intro r hr _; simp only [List.nil_append, List.mem_append, List.mem_singleton] at hr; rcases hr with rfl | rfl <;> exact Blk.ne_ (by assumption) hcp (by decide)) (by intro A hA; cases hA)
 have h3 := fun n : Nat => Hold.addRow (h2 n) ⟨cq, 25, true, 0, [], [.p 1 0], [], false⟩ hcq (by intro h; cases h) (by intro r hr _; simp only [List.nil_append, List.mem_append, List.mem_singleton] at hr; rcases hr with (rfl | rfl) | rfl <;> exact Blk.ne_ (by assumption) hcq (by decide)) (by intro A hA; cases hA)
 have h4 := fun n : Nat => Hold.addRow (h3 n) ⟨cr, 3, true, 0, [], [.i .i64 v], [], false⟩ hcr (by intro h; cases h) (by intro r hr _; simp only [List.nil_append, List.mem_append, List.mem_singleton] at hr; rcases hr with ((rfl | rfl) | rfl) | rfl <;> exact Blk.ne_ (by assumption) hcr (by decide)) (by intro A hA; cases hA)
 have h5 := fun n : Nat => Hold.addObj (h4 n) (waitsO lo A2 G.waits.length c2 G.waits true) ho (fun _ g hg => .inl (List.mem_cons_of_mem _ hg)) (by intro r hr _; simp only [List.nil_append, List.mem_append, List.mem_singleton] at hr; rcases hr with (((rfl | rfl) | rfl) | rfl) | rfl <;> exact own_ne_ty ho (by assumption) (by decide)) (by intro A hA; cases hA)
 refine entH tab_ok (h5 _) [.p 0 0, .p 2 0, .p 3 0, .p 4 0] Tryz.func103 Tryz.ntmps103 rfl rfl ?_
 repeat' (first | refine gs_ ?_ | ((conv => whnf); first | intro b | refine b3_ (fun h => ?_) (fun h => ?_) | refine callO (f := 104) (A := waitsO lo A2 G.waits.length c2 G.waits true) 0 (fun _ : Unit => .t []) (fun _ => waitsO lo A2 G.waits.length c2 (G.waits.map (disW v)) true) (fun w hH hA => (disownT lo q G v1 A2 c2 v w (hH.row 1 _ rfl rfl) hA hl).mono (by rintro e w' ⟨rfl, h1, h2⟩; exact ⟨(), rfl, h1, h2, fun _ h => .inl h⟩)) (fun _ => ?_) | refine fin fun w' hH => ⟨rfl, ?_, ?_, hH.upd⟩ | refine fin_s ?_))
 all_goals first
  | (show Blk _ _ _ (el P (carA (fltY y x)) S); subst y; have := hH.row 0 _ rfl rfl; exact this)
  | (show WaitsAt _ _ _ _ _ _; subst y; have := hH.obj _ (List.mem_singleton.2 rfl); exact this)
  | trace_state
def pairO (A B : Asr) : Asr := ⟨A.F ++ B.F, A.rw && B.rw, fun w => A.st w ∧ B.st w, fun k h hs => ⟨A.up k (fun g hg => h g (List.mem_append.2 (.inl hg))) hs.1, B.up k (fun g hg => h g (List.mem_append.2 (.inr hg))) hs.2⟩, fun h g hg => (List.mem_append.1 hg).elim (A.lt h.1 g) (B.lt h.2 g)⟩
theorem hold_pair {X : Cx} {m : List Row} {A B : Asr} {w : World} (h : Hold X m [A, B] w) (hA : A.rw = true) (hB : B.rw = true) : Hold X m [pairO A B] w := by
 have a1 : A ∈ [A, B] := List.mem_cons_self ..
 have b1 : B ∈ [A, B] := List.mem_cons_of_mem _ (List.mem_cons_self ..)
 refine ⟨h.upd, h.row, h.wf, h.ne, fun C hC => ?_, fun C hC j r hj hl hg => ?_, fun C hC _ g hg => ?_, List.pairwise_singleton _ _⟩
 ·rw [List.mem_singleton] at hC; subst hC; exact ⟨h.obj A a1, h.obj B b1⟩
 ·rw [List.mem_singleton] at hC; subst hC
  exact (List.mem_append.1 hg).elim (h.far A a1 j r hj hl) (h.far B b1 j r hj hl)
 ·rw [List.mem_singleton] at hC; subst hC
  exact (List.mem_append.1 hg).elim (h.own A a1 hA g) (h.own B b1 hB g)
def fltX (x : CarV) : CarV := { x with br := true, sp := 0, su := 0, sd := 0 }
def faultR (G : GrV) (i : Int) (y : Bool) : GrV × Int :=
 if y = true then (if 0 ≤ i ∧ i.toNat < G.cars.length then ({ (one G i (fun x => (fltX x, 0))).1 with waits := G.waits.map (disW i) }, 0) else (G, 1)) else one G i (fun x => ({ x with br := false }, 0))
theorem fault_in {G : GrV} {k : Nat} {y : Bool} (hk : k < G.cars.length) : faultR G (k : Int) y = ({ G.car k (fltY y G.cars[k]) with waits := fltW y k G.waits }, 0) := by
 unfold faultR
 cases y
 ·rw [if_neg (by decide), one_in hk]; rfl
 ·rw [if_pos rfl, if_pos ⟨by omega, by simpa using hk⟩, one_in hk]; rfl
theorem fault_out {G : GrV} {i : Int} {y : Bool} (h : i < 0 ∨ (G.cars.length : Int) ≤ i) : faultR G i y = (G, 1) := by
 unfold faultR
 cases y
 ·rw [if_neg (by decide), one_out h]
 ·rw [if_pos rfl, if_neg (by omega)]
theorem faultG {lo q : Nat} {G : GrV} {S : List Nat} {w : World} (hg : GO lo q G S w) (hl : G.waits.length ≤ 1000000) (i : Int) (y : Bool) : Calls Tryz.prog 40 #[.pointer (some ⟨q, 0, none⟩), .int .i64 i, .bool y] w fun e w' => e = .returned (.int .i64 (faultR G i y).2) ∧ ∃ S', GO lo q (faultR G i y).1 S' w' ∧ Upd S w w' ∧ ∀ g ∈ S', g ∈ S ∨ w.heap.size ≤ g := by
 obtain ⟨A1, c1, A2, c2, h0, hS, hH⟩ := hold_go (n := _) hg
 by_cases hi : i < 0 ∨ (G.cars.length : Int) ≤ i
 ·rw [fault_out hi]
  refine entH tab_ok (hH) [.p 0 0, .i .i64 i, .b y] Tryz.func40 Tryz.ntmps40 rfl rfl ?_
  repeat' (first | refine gs_ ?_ | ((conv => whnf); first | intro b | refine b3_ (fun h => ?_) (fun h => ?_) | refine callH (f := 77) (.i .i64 1) (fun w hH => change0 q G A1 _ c1 _ i _ w (hH.row 0 _ rfl rfl) hi) ?_ | refine fin_go (by rfl) (by intro m; rfl) h0 hS (by rfl) (by rfl) (by rfl) (by rfl) (by intro m; rfl) | refine fin_s ?_))
 ·obtain ⟨k, rfl⟩ : ∃ k : Nat, i = (k : Int) := ⟨i.toNat, by omega⟩
  have hk : k < G.cars.length := by omega
  rw [fault_in hk]
  obtain ⟨g, rfl⟩ := own_addr (hH.obj (carsO lo A1 _ c1 _ true) (List.mem_cons_self ..)) (by omega)
  have hgA : g ∉ blkOf A2 := by
   intro h
   have d := (List.pairwise_cons.1 hH.dis).1 (waitsO lo A2 G.waits.length c2 G.waits true) (List.mem_singleton.2 rfl) (.inl rfl) g (by simp [carsO, blkOf])
   exact d h
  refine entH tab_ok (hold_pair hH rfl rfl) [.p 0 0, .i .i64 (k : Int), .b y] Tryz.func40 Tryz.ntmps40 rfl rfl ?_
  repeat' (first | refine gs_ ?_ | ((conv => whnf); first | intro b | refine b3_ (fun h => ?_) (fun h => ?_) | refine callO (f := 77) 0 (A := pairO (carsO lo (some ⟨g, 0, none⟩) G.cars.length c1 G.cars true) (waitsO lo A2 G.waits.length c2 G.waits true)) (fun _ : Unit => .i .i64 0) (fun _ => pairO (carsO lo (some ⟨g, 0, none⟩) G.cars.length c1 (G.cars.set k (fltY y G.cars[k])) true) (waitsO lo A2 G.waits.length c2 (fltW y k G.waits) true)) (fun w hH hA => ?_) (fun _ => ?_) | refine fin_s ?_))
  ·have ob1 : pairO (carsO lo (some ⟨g, 0, none⟩) G.cars.length c1 G.cars true) (waitsO lo A2 G.waits.length c2 G.waits true) ∈ [pairO (carsO lo (some ⟨g, 0, none⟩) G.cars.length c1 G.cars true) (waitsO lo A2 G.waits.length c2 G.waits true)] := List.mem_singleton.2 rfl
   refine (change3 q g G _ c1 _ _ k _ _ _ _ 0 (pairO (carsO lo (some ⟨g, 0, none⟩) G.cars.length c1 G.cars true) (waitsO lo A2 G.waits.length c2 G.waits true)) (pairO (carsO lo (some ⟨g, 0, none⟩) G.cars.length c1 (G.cars.set k (fltY y G.cars[k])) true) (waitsO lo A2 G.waits.length c2 (fltW y k G.waits) true)) w (hH.row 0 _ rfl rfl) hA (hH.far _ ob1 0 _ rfl rfl) rfl hk rfl rfl (entC (by kernel_rfl)) (fun w1 hu hO => ?_)).mono (fun e w' h => ⟨(), h⟩)
   obtain ⟨P, S1, hP, hB, hback⟩ := own_el carL_len hO.1 hk
   refine (fault1T g _ P S1 G.cars[k] _ _ _ q k y lo G _ A2 c2 w1 hB hP (hu.blk (hH.row 3 _ rfl rfl) (hH.far _ ob1 3 _ rfl rfl)) (hu.blk (hH.row 1 _ rfl rfl) (hH.far _ ob1 1 _ rfl rfl)) (hu.blk (hH.row 2 _ rfl rfl) (hH.far _ ob1 2 _ rfl rfl)) (hu.blk (hH.row 0 _ rfl rfl) (hH.far _ ob1 0 _ rfl rfl)) hO.2 hl).mono ?_
   rintro e w' ⟨rfl, h1, h2, h3⟩
   exact ⟨rfl, ⟨hback _ w' h1, h2⟩, h3, fun _ h => .inl h⟩
  ·conv => whnf
   refine fin fun w' hH => ?_
   have ob := hH.obj _ (List.mem_singleton.2 rfl)
   have rw0 := hH.row 0 _ rfl rfl
   refine ⟨rfl, S, ⟨h0, some ⟨g, 0, none⟩, c1, A2, c2, hS, ?_, ?_, ?_⟩, hH.upd, fun _ h => .inl h⟩
   ·have e1 : (G.cars.set k (fltY y G.cars[k])).length = G.cars.length := List.length_set
    show Blk w' q _ (grpA _ (.slice _ (G.cars.set k (fltY y G.cars[k])).length c1) (.slice A2 (fltW y k G.waits).length c2))
    rw [e1, fltW_len]; exact rw0
   ·have := ob.1
    simpa [CarsAt, carsO, pairO, GrV.car, List.length_set] using this
   ·have := ob.2
    show WaitsAt lo A2 (fltW y k G.waits).length c2 (fltW y k G.waits) w'
    rw [fltW_len]; exact this
end Gr
namespace Gr
open Go.RowKit Ba Mem En Mo Go.Proofs.YtpiiblkiddcgcaaGreat.Ty Go.Proofs.YtpiiblkiddcgcaaGreat.St
open Ct (cfgA carA)
open Et (carsO)
set_option maxRecDepth 100000
theorem fin_gn {lo q n n1 n2 c1 c2 : Nat} {G : GrV} {A1 A2 : Option Addr} {S : List Nat} {w : World} {V : Value} {v : SV} {fr : List (Nat × SV)} {cs : List SV} {ls : List CarV} {ws : List WaitV} {rest : List Row} {obr : List Asr} {st : St}
  (hst : st = ⟨fr, ⟨q, 70, true, 0, [], cs, [], true⟩ :: rest, carsO lo A1 n1 c1 ls true :: waitsO lo A2 n2 c2 ws true :: obr⟩)
  (hv : ∀ m, den m v = V) (h0 : lo ≤ q) (h1 : n1 = G.cars.length) (h2 : n2 = G.waits.length) (h3 : ls = G.cars) (h4 : ws = G.waits) (hcs : ∀ m, (denL m cs).toArray = grpA G (.slice A1 n1 c1) (.slice A2 n2 c2)) :
  Fin ⟨Tryz.prog, tab, S, w, n, []⟩ (fun e w' => e = .returned V ∧ ∃ S', GO lo q G S' w' ∧ Upd S w w' ∧ ∀ g ∈ S', g ∈ S ∨ w.heap.size ≤ g) v st := by
 subst hst h1 h2 h3 h4
 refine fin fun w' hH => ?_
 have oc : carsO lo A1 G.cars.length c1 G.cars true ∈ carsO lo A1 G.cars.length c1 G.cars true :: waitsO lo A2 G.waits.length c2 G.waits true :: obr := List.mem_cons_self ..
 have ow : waitsO lo A2 G.waits.length c2 G.waits true ∈ carsO lo A1 G.cars.length c1 G.cars true :: waitsO lo A2 G.waits.length c2 G.waits true :: obr := List.mem_cons_of_mem _ (List.mem_cons_self ..)
 refine ⟨by rw [hv], _, ⟨h0, A1, c1, A2, c2, rfl, ?_, hH.obj _ oc, hH.obj _ ow⟩, hH.upd, fun g hg => ?_⟩
 ·have := hH.row 0 _ rfl rfl
  rw [rowA_nil rfl rfl] at this
  rw [← hcs]; exact this
 ·rcases List.mem_cons.1 hg with rfl | hg
  ·exact (hH.wf 0 _ rfl rfl).2.2 rfl
  ·exact (List.mem_append.1 hg).elim (hH.own _ oc rfl g) (hH.own _ ow rfl g)
attribute [local irreducible] Go.Calls hasC atP oI
def hallR (G : GrV) (f wy : Int) : GrV × Int := if hasC G.c f wy = true then (if atP G.waits (isW f wy) = none then ({ G with waits := G.waits ++ [⟨f, wy, -1, G.now⟩] }, 0) else (G, 0)) else (G, 1)
theorem oI_some (k : Nat) : oI (some k) = (k : Int) := by unfold oI; rfl
theorem oI_none : oI none = -1 := by unfold oI; rfl
theorem hallG {lo q : Nat} {G : GrV} {S : List Nat} {w : World} (hg : GO lo q G S w) (hl : G.waits.length ≤ 10000) (f wy : Int) : Calls Tryz.prog 36 #[.pointer (some ⟨q, 0, none⟩), .int .i64 f, .int .i64 wy] w fun e w' => e = .returned (.int .i64 (hallR G f wy).2) ∧ ∃ S', GO lo q (hallR G f wy).1 S' w' ∧ Upd S w w' ∧ ∀ g ∈ S', g ∈ S ∨ w.heap.size ≤ g := by
 obtain ⟨A1, c1, A2, c2, h0, hS, hH⟩ := hold_go (n := _) hg
 unfold hallR
 cases hC : hasC G.c f wy with
 | false =>
  rw [if_neg (by decide)]
  refine entH tab_ok (hH) [.p 0 0, .i .i64 f, .i .i64 wy] Tryz.func36 Tryz.ntmps36 rfl rfl ?_
  repeat' (first | refine gs_ ?_ | ((conv => whnf); first | intro b | refine callH (f := 97) (.b (hasC G.c f wy)) (fun w hH => hasCT q G _ _ f wy w (hH.row 0 _ rfl rfl)) ?_ | refine fin_gn (by rfl) (by intro m; rfl) h0 (by rfl) (by rfl) (by rfl) (by rfl) (by intro m; rfl) | refine fin_s ?_))
 | true =>
  rw [if_pos rfl]
  cases hP : atP G.waits (isW f wy) with
  | some k =>
   rw [if_neg (by intro h; cases h)]
   have ho : oI (atP G.waits (isW f wy)) = (k : Int) := by rw [hP, oI_some]
   refine entH tab_ok (hH) [.p 0 0, .i .i64 f, .i .i64 wy] Tryz.func36 Tryz.ntmps36 rfl rfl ?_
   repeat' (first | refine gs_ ?_ | ((conv => whnf); first | intro b | refine bto ?_ | refine bfo ?_ | refine callH (f := 97) (.b (hasC G.c f wy)) (fun w hH => hasCT q G _ _ f wy w (hH.row 0 _ rfl rfl)) ?_ | refine callH (f := 29) (.i .i64 (oI (atP G.waits (isW f wy)))) (fun w hH => findT lo q G _ A2 c2 f wy w (hH.row 0 _ rfl rfl) (hH.obj (waitsO lo A2 _ c2 G.waits true) (List.mem_cons_of_mem _ (List.mem_cons_self ..))) (by omega)) ?_ | refine fin_gn (by rfl) (by intro m; rfl) h0 (by rfl) (by rfl) (by rfl) (by rfl) (by intro m; rfl) | refine fin_s ?_))
  | none =>
   rw [if_pos rfl]
   have ho : oI (atP G.waits (isW f wy)) = -1 := by rw [hP, oI_none]
   refine entH tab_ok (hH) [.p 0 0, .i .i64 f, .i .i64 wy] Tryz.func36 Tryz.ntmps36 rfl rfl ?_
   repeat' (first | refine gs_ ?_ | ((conv => whnf); first | intro b | refine bto ?_ | refine bfo ?_ | refine callH (f := 97) (.b (hasC G.c f wy)) (fun w hH => hasCT q G _ _ f wy w (hH.row 0 _ rfl rfl)) ?_ | refine callH (f := 29) (.i .i64 (oI (atP G.waits (isW f wy)))) (fun w hH => findT lo q G _ A2 c2 f wy w (hH.row 0 _ rfl rfl) (hH.obj (waitsO lo A2 _ c2 G.waits true) (List.mem_cons_of_mem _ (List.mem_cons_self ..))) (by omega)) ?_ | refine opb1 (e := 76) ⟨tab_ok⟩ [.i .i64 f, .i .i64 wy, .i .i64 (-1), .i .i64 G.now] (by rfl) (by rfl) ?_ | refine opap 1 2 (e := 76) (lo := lo) (size := 4) (bytes := 32) (z := .agg #[.int .i64 0, .int .i64 0, .int .i64 0, .int .i64 0]) (A := waitsO lo A2 G.waits.length c2 G.waits true) (vals := rowsOf waitL G.waits) (cells := waitL (⟨f, wy, -1, G.now⟩ : WaitV)) (zs := rowsOf waitL (G.waits ++ [(⟨f, wy, -1, G.now⟩ : WaitV)])) (n2 := G.waits.length + 1) (fun A' c' => waitsO lo A' (G.waits.length + 1) c' (G.waits ++ [(⟨f, wy, -1, G.now⟩ : WaitV)]) true) (by rfl) (by rfl) (by rfl) (by rfl) rfl rfl (fun w h => h) (fun A' c' w h => h) (fun _ _ => rfl) (by rfl) (by rfl) (by rfl) (by rfl) Tryz.underlying32 (by kernel_rfl) rfl (by decide) (by decide) (waitL_one _) (by omega) (fun w hH => by have h : q < w.heap.size := (hH.row 0 _ rfl rfl).lt; omega) rfl (by rw [rowsOf_append, rowsOf_one]) (fun A' c' => ?_) | refine fin_gn (by rfl) (by intro m; rfl) h0 (by rfl) (by simp) (by rfl) (by rfl) (by intro m; simp [denL, den, grpA]) | refine fin_s ?_))
end Gr
namespace Gr
open Go.RowKit Ba Mem En Mo Go.Proofs.YtpiiblkiddcgcaaGreat.Ty Go.Proofs.YtpiiblkiddcgcaaGreat.St
open Ct (cfgA carA)
open Et (carsO)
set_option maxRecDepth 100000
attribute [local irreducible] Go.Calls
def hallX (a : WaitV) (x : CarV) : CarV := { x with su := haU x.su a.fl a.wy, sd := haD x.sd a.fl a.wy }
theorem assign1T (g off gw ow cp : Nat) (P S P2 S2 : List Value) (x : CarV) (a : WaitV) (w : World) (hb : Blk w g 67 (el P (carA x) S)) (hp : P.length = off) (hw : Blk w gw 76 (el P2 (waitA a) S2)) (hp2 : P2.length = ow) (hc : Blk w cp 123 #[.pointer (some ⟨gw, ow, none⟩)]) : Calls Tryz.prog 78 #[.pointer (some ⟨g, off, none⟩), .pointer (some ⟨cp, 0, none⟩)] w fun e w' => e = .returned (.int .i64 0) ∧ Blk w' g 67 (el P (carA (hallX a x)) S) ∧ Upd [g] w w' := by
 refine entH tab_ok (Hold.addRow (Hold.addRow (hold_e0 (sCar x) hb hp rfl) ⟨gw, 76, true, ow, P2, [.i .i64 a.fl, .i .i64 a.wy, .i .i64 a.ca, .i .i64 a.si], S2, false⟩ hw (by intro h; cases h) (by intro r hr _; rw [List.mem_singleton] at hr; subst hr; exact Blk.ne_ hb hw (by decide)) (by intro A hA; cases hA) (by rfl) hp2) ⟨cp, 123, true, 0, [], [.p 1 0], [], false⟩ hc (by intro h; cases h) (by intro r hr _; simp only [List.mem_append, List.mem_singleton] at hr; rcases hr with rfl | rfl <;> exact Blk.ne_ (by assumption) hc (by decide)) (by intro A hA; cases hA)) [.p 0 0, .p 2 0] Tryz.func78 Tryz.ntmps78 rfl rfl ?_
 repeat' (first | refine gs_ ?_ | ((conv => whnf); first | intro b | refine b3_ (fun h => ?_) (fun h => ?_) | refine callS (f := 79) (.a [.i .u64 _, .i .u64 _, .i .u64 _]) (hallT _ _ _ _ _) ?_ | refine fin_s ?_ | refine fin_r ?_ ?_ | refine fin_e ?_ ?_))
 all_goals rfl
end Gr
namespace Tm
def cl (n : Int) : Int := if n < 0 then 0 else if 1099511627776 < n then 1099511627776 else n
theorem cl_lo (n : Int) : 0 ≤ cl n := by unfold cl; repeat' split <;> omega
theorem cl_hi (n : Int) : cl n ≤ 1099511627776 := by unfold cl; repeat' split <;> omega
end Tm
namespace Tw
open Go.RowKit Ba En Tm
set_option maxRecDepth 100000
attribute [local irreducible] Go.Calls
theorem clT (n : Int) (w : World) : Calls Tryz.prog 75 #[.int .i64 n] w fun e w' => e = .returned (.int .i64 (cl n)) ∧ Since w w' := by
 refine ent tab_ok [.i .i64 n] Tryz.func75 Tryz.ntmps75 rfl rfl ?_
 repeat' (first | refine gs_ ?_ | ((conv => whnf); first | refine fin_s ?_))
 exact congrArg (Value.int .i64) (by unfold cl; repeat' split <;> omega)
theorem addT (a b : Int) (w : World) : Calls Tryz.prog 26 #[.int .i64 a, .int .i64 b] w fun e w' => e = .returned (.int .i64 (cl (cl a + cl b))) ∧ Since w w' := by
 have h1 := cl_lo a
 have h2 := cl_hi a
 have h3 := cl_lo b
 have h4 := cl_hi b
 refine ent tab_ok [.i .i64 a, .i .i64 b] Tryz.func26 Tryz.ntmps26 rfl rfl ?_
 repeat' (first | refine gs_ ?_ | ((conv => whnf); first | refine wr_i ?_ | refine callS (f := 75) (.i .i64 (cl _)) (clT _) ?_ | refine fin_s ?_))
 all_goals rfl
end Tw
namespace Ri
open Go.RowKit Ba Mo Go.Proofs.YtpiiblkiddcgcaaGreat.Ty Mem Tm Tw En
open Ce (ms massT)
set_option maxRecDepth 100000
def sp (n : Int) : Int := if n < 1 then 1 else if 1000 < n then 1000 else n
attribute [local irreducible] Go.Calls lvB ms
attribute [local irreducible] cl sp
end Ri
namespace Gr
open Go.RowKit Ba Mem Go.Proofs.YtpiiblkiddcgcaaGreat.Ty Mo Go.Proofs.YtpiiblkiddcgcaaGreat.St
open Ct (cfgA carA bdX tkV tkF tkW tkS tickT)
open Et (blL)
def okT (x : CarV) : Prop := bdX x ∧ (R x.sp ∧ R x.su ∧ R x.sd) ∧ (x.mo = 1 → -1099511627776 ≤ x.ta ∧ x.ta ≤ 1099511627776) ∧ (-1000000000 ≤ x.ti ∧ x.ti ≤ 1000000000) ∧ (0 ≤ x.un ∧ x.un ≤ 252) ∧ (0 ≤ x.wy ∧ x.wy ≤ 2)
def okW (a : WaitV) : Prop := (0 ≤ a.fl ∧ a.fl ≤ 63) ∧ 1 ≤ a.wy ∧ a.wy ≤ 2
theorem hallX_ok {a : WaitV} {x : CarV} (h : okT x) : okT (hallX a x) := by
 obtain ⟨h1, ⟨h2, h3, h4⟩, h5, h6, h7, h8⟩ := h
 refine ⟨h1, ⟨h2, ?_, ?_⟩, h5, h6, h7, h8⟩
 ·show R (haU x.su a.fl a.wy)
  unfold haU; split
  ·exact or_R h3 (bit_R _)
  ·exact h3
 ·show R (haD x.sd a.fl a.wy)
  unfold haD; split
  ·exact or_R h4 (bit_R _)
  ·exact h4
def bestI (c : CfgV) (cs : List CarV) (a : WaitV) : Int := (blL c a.fl a.wy cs cs.length).1
def giveC (cs : List CarV) (a : WaitV) (b : Int) : List CarV := if 0 ≤ b then cs.modify b.toNat (hallX a) else cs
def asgStep (c : CfgV) (p : List WaitV × List CarV) (i : Nat) : List WaitV × List CarV :=
 match p.1[i]? with
 | none => p
 | some a => if a.ca = -1 then (p.1.set i { a with ca := bestI c p.2 a }, giveC p.2 a (bestI c p.2 a)) else p
def asgN (c : CfgV) (ws : List WaitV) (cs : List CarV) : Nat → List WaitV × List CarV
 | 0 => (ws, cs)
 | i + 1 => asgStep c (asgN c ws cs i) i
theorem giveC_len (cs : List CarV) (a : WaitV) (b : Int) : (giveC cs a b).length = cs.length := by unfold giveC; split <;> simp
theorem step_len (c : CfgV) (p : List WaitV × List CarV) (i : Nat) : (asgStep c p i).1.length = p.1.length ∧ (asgStep c p i).2.length = p.2.length := by
 unfold asgStep
 split
 ·exact ⟨rfl, rfl⟩
 ·split
  ·exact ⟨by simp, giveC_len _ _ _⟩
  ·exact ⟨rfl, rfl⟩
theorem asg_len (c : CfgV) (ws : List WaitV) (cs : List CarV) : ∀ i, (asgN c ws cs i).1.length = ws.length ∧ (asgN c ws cs i).2.length = cs.length
 | 0 => ⟨rfl, rfl⟩
 | i + 1 => by
  have h := asg_len c ws cs i
  have h2 := step_len c (asgN c ws cs i) i
  exact ⟨h2.1.trans h.1, h2.2.trans h.2⟩
theorem giveC_ok {cs : List CarV} {a : WaitV} {b : Int} (h : ∀ x ∈ cs, okT x) : ∀ x ∈ giveC cs a b, okT x := by
 intro x hx
 unfold giveC at hx
 split at hx
 ·obtain ⟨i, hi, rfl⟩ := List.mem_iff_getElem.1 hx
  rw [List.getElem_modify]
  split
  ·exact hallX_ok (h _ (List.getElem_mem _))
  ·exact h _ (List.getElem_mem _)
 ·exact h x hx
theorem step_ok {c : CfgV} {p : List WaitV × List CarV} {i : Nat} (hw : ∀ a ∈ p.1, okW a) (hc : ∀ x ∈ p.2, okT x) : (∀ a ∈ (asgStep c p i).1, okW a) ∧ ∀ x ∈ (asgStep c p i).2, okT x := by
 unfold asgStep
 split
 ·exact ⟨hw, hc⟩
 ·rename_i a ha
  split
  ·refine ⟨fun y hy => ?_, giveC_ok hc⟩
   rcases List.mem_or_eq_of_mem_set hy with h | h
   ·exact hw y h
   ·rw [h]; exact hw a (List.mem_of_getElem? ha)
  ·exact ⟨hw, hc⟩
theorem asg_ok {c : CfgV} {ws : List WaitV} {cs : List CarV} (hw : ∀ a ∈ ws, okW a) (hc : ∀ x ∈ cs, okT x) : ∀ i, (∀ a ∈ (asgN c ws cs i).1, okW a) ∧ ∀ x ∈ (asgN c ws cs i).2, okT x
 | 0 => ⟨hw, hc⟩
 | i + 1 => step_ok (asg_ok hw hc i).1 (asg_ok hw hc i).2
def tkStep (c : CfgV) (p : List CarV × List WaitV × List WaitV) (i : Nat) : List CarV × List WaitV × List WaitV :=
 match p.1[i]? with
 | none => p
 | some x => match (if tkS x = true then atP p.2.1 (isW (tkF x) (tkW x)) else none) with
  | none => (p.1.set i (tkV c x), p.2)
  | some k => (p.1.set i (tkV c x), p.2.1.eraseIdx k, p.2.2 ++ (p.2.1[k]?).toList)
def tkN (c : CfgV) (cs : List CarV) (ws : List WaitV) : Nat → List CarV × List WaitV × List WaitV
 | 0 => (cs, ws, [])
 | i + 1 => tkStep c (tkN c cs ws i) i
theorem tkS_len (c : CfgV) (p : List CarV × List WaitV × List WaitV) (i : Nat) : (tkStep c p i).1.length = p.1.length := by
 unfold tkStep
 split
 ·rfl
 ·split <;> simp
theorem tkS_at (c : CfgV) (p : List CarV × List WaitV × List WaitV) (i j : Nat) (h : i ≠ j) : (tkStep c p i).1[j]? = p.1[j]? := by
 unfold tkStep
 split
 ·rfl
 ·split <;> simp [List.getElem?_set, h]
theorem tk_len (c : CfgV) (cs : List CarV) (ws : List WaitV) : ∀ i, (tkN c cs ws i).1.length = cs.length
 | 0 => rfl
 | i + 1 => (tkS_len c _ i).trans (tk_len c cs ws i)
theorem tk_at (c : CfgV) (cs : List CarV) (ws : List WaitV) : ∀ i j, i ≤ j → (tkN c cs ws i).1[j]? = cs[j]?
 | 0, _, _ => rfl
 | i + 1, j, h => (tkS_at c _ i j (by omega)).trans (tk_at c cs ws i j (by omega))
theorem tkS_wl (c : CfgV) (p : List CarV × List WaitV × List WaitV) (i : Nat) : (tkStep c p i).2.1.length ≤ p.2.1.length ∧ (tkStep c p i).2.2.length ≤ p.2.2.length + 1 := by
 unfold tkStep
 split
 ·exact ⟨Nat.le_refl _, Nat.le_succ _⟩
 ·split
  ·exact ⟨Nat.le_refl _, Nat.le_succ _⟩
  ·rename_i k hk
   refine ⟨List.length_eraseIdx_le _ _, ?_⟩
   have : (p.2.1[k]?).toList.length ≤ 1 := by cases p.2.1[k]? <;> simp
   simp only [List.length_append]
   omega
theorem tk_wl (c : CfgV) (cs : List CarV) (ws : List WaitV) : ∀ i, (tkN c cs ws i).2.1.length ≤ ws.length ∧ (tkN c cs ws i).2.2.length ≤ i
 | 0 => ⟨Nat.le_refl _, Nat.le_refl _⟩
 | i + 1 => by
  have h := tk_wl c cs ws i
  have h2 := tkS_wl c (tkN c cs ws i) i
  exact ⟨Nat.le_trans h2.1 h.1, Nat.le_trans h2.2 (by omega)⟩
def tickP (G : GrV) : List CarV × List WaitV × List WaitV := tkN G.c (asgN G.c G.waits G.cars G.waits.length).2 (asgN G.c G.waits G.cars G.waits.length).1 G.cars.length
def tickG (G : GrV) : GrV := ⟨G.c, (tickP G).1, (tickP G).2.1, Tm.cl (Tm.cl G.now + Tm.cl 1)⟩
theorem bl_rng (c : CfgV) (f cw : Int) (ls : List CarV) : ∀ k, -1 ≤ (blL c f cw ls k).1 ∧ (blL c f cw ls k).1 < (k : Int) ∧ (blL c f cw ls k).1 < (ls.length : Int)
 | 0 => by unfold blL; omega
 | k + 1 => by
  have h := bl_rng c f cw ls k
  unfold blL
  split
  ·omega
  ·rename_i x hx
   have := (List.getElem?_eq_some_iff.1 hx).1
   split
   ·show -1 ≤ (k : Int) ∧ (k : Int) < ((k + 1 : Nat) : Int) ∧ (k : Int) < (ls.length : Int)
    omega
   ·omega
end Gr
namespace Gr
open Go.RowKit Ba Mem En Mo Go.Proofs.YtpiiblkiddcgcaaGreat.Ty Go.Proofs.YtpiiblkiddcgcaaGreat.St
open Ct (cfgA carA)
open Et (carsO blL bestT inL)
set_option maxRecDepth 100000
attribute [local irreducible] Go.Calls
theorem bestI_eq {c : CfgV} {cs : List CarV} {a : WaitV} {n : Nat} (h : cs.length = n) : bestI c cs a = (blL c a.fl a.wy cs n).1 := by subst h; rfl
theorem bestI_rng (c : CfgV) (cs : List CarV) (a : WaitV) : -1 ≤ bestI c cs a ∧ bestI c cs a < (cs.length : Int) := ⟨(bl_rng c a.fl a.wy cs cs.length).1, (bl_rng c a.fl a.wy cs cs.length).2.2⟩
attribute [local irreducible] bestI
theorem mod_set {α : Type} {l : List α} {i : Nat} {x : α} (f : α → α) (h : l[i]? = some x) : l.modify i f = l.set i (f x) := by
 apply List.ext_getElem?
 intro j
 rw [List.getElem?_modify, List.getElem?_set]
 by_cases hj : i = j
 ·subst hj
  obtain ⟨h1, h2⟩ := List.getElem?_eq_some_iff.1 h
  subst h2
  simp [h1]
 ·simp [hj]
theorem set_same {α : Type} {l : List α} {k : Nat} {a : α} (h : l[k]? = some a) : l.set k a = l := by
 obtain ⟨h1, h2⟩ := List.getElem?_eq_some_iff.1 h
 subst h2
 exact List.set_getElem_self h1
theorem inL_of {x : CarV} (h : okT x) : inL x := ⟨h.2.2.2.2.1, h.2.1⟩
theorem assignT (lo q : Nat) (G : GrV) (A1 A2 : Option Addr) (c1 c2 : Nat) (w : World) (hq : Blk w q 70 (grpA G (.slice A1 G.cars.length c1) (.slice A2 G.waits.length c2))) (hO : (carsO lo A1 G.cars.length c1 G.cars true).st w ∧ (waitsO lo A2 G.waits.length c2 G.waits true).st w) (hd : ∀ g ∈ blkOf A1, g ∉ blkOf A2) (hl1 : G.cars.length ≤ 10000) (hl2 : G.waits.length ≤ 10000) (hk1 : ∀ x ∈ G.cars, okT x) (hk2 : ∀ a ∈ G.waits, okW a) :
  Calls Tryz.prog 27 #[.pointer (some ⟨q, 0, none⟩)] w fun e w' => e = .returned (.tuple #[]) ∧ CarsAt lo A1 G.cars.length c1 (asgN G.c G.waits G.cars G.waits.length).2 w' ∧ WaitsAt lo A2 G.waits.length c2 (asgN G.c G.waits G.cars G.waits.length).1 w' ∧ Upd (blkOf A1 ++ blkOf A2) w w' := by
 obtain ⟨g, hA⟩ : ∃ g, 0 < G.waits.length → A2 = some ⟨g, 0, none⟩ := by
  rcases own_at hO.2 with ⟨_, h0, _⟩ | ⟨g, _, h1, _⟩
  ·exact ⟨0, fun k => by omega⟩
  ·exact ⟨g, fun _ => h1⟩
 have ho := fun k => asg_ok (c := G.c) hk2 hk1 k
 have hn := fun k => asg_len G.c G.waits G.cars k
 refine entH tab_ok (Hold.addObj (Hold.addObj (hold_q (S := blkOf A1 ++ blkOf A2) [.i .i64 G.c.ca, .i .i64 G.c.fl, .i .i64 G.c.ft, .i .i64 G.c.se, .i .i64 G.c.dr, .i .i64 G.c.dw, .i .i64 G.c.ho, .i .i64 G.c.re, .i .i64 G.c.yi, .i .i64 G.c.qu, .i .i64 G.c.qo, .i .i64 G.c.lo, .i .i64 G.c.sl, .i .i64 G.c.rt, .i .i64 G.c.cp, .i .i64 G.c.tr, .i .i64 G.c.de, .i .i64 G.c.wi, .v (.slice A1 G.cars.length c1), .v (.slice A2 G.waits.length c2), .i .i64 G.now] hq) (carsO lo A1 G.cars.length c1 G.cars true) hO.1 (fun _ g hg => .inl (List.mem_append.2 (.inl hg))) (by intro r hr _; rw [List.mem_singleton] at hr; subst hr; exact own_ne_ty hO.1 hq (by decide)) (by intro A hA; cases hA)) (waitsO lo A2 G.waits.length c2 G.waits true) hO.2 (fun _ g hg => .inl (List.mem_append.2 (.inr hg))) (by intro r hr _; rw [List.mem_singleton] at hr; subst hr; exact own_ne_ty hO.2 hq (by decide)) (by intro A hA; simp only [List.nil_append, List.mem_singleton] at hA; subst hA; exact fun _ g hg => hd g hg)) [.p 0 0] Tryz.func27 Tryz.ntmps27 rfl rfl ?_
 repeat' (first | refine gs_ ?_ | ((conv => whnf); first | intro b | refine b3_ (fun h => ?_) (fun h => ?_) | refine fin_s ?_))
 conv => whnf
 refine lpS ⟨tab_ok⟩ (ι := {k : Nat // k ≤ G.waits.length}) (fun x => match x with | ⟨k, _⟩ => ⟨[(0, .p 0 0), (8, .i .i64 G.waits.length), (9, .i .i64 (k : Int))], [⟨q, 70, true, 0, [], [.i .i64 G.c.ca, .i .i64 G.c.fl, .i .i64 G.c.ft, .i .i64 G.c.se, .i .i64 G.c.dr, .i .i64 G.c.dw, .i .i64 G.c.ho, .i .i64 G.c.re, .i .i64 G.c.yi, .i .i64 G.c.qu, .i .i64 G.c.qo, .i .i64 G.c.lo, .i .i64 G.c.sl, .i .i64 G.c.rt, .i .i64 G.c.cp, .i .i64 G.c.tr, .i .i64 G.c.de, .i .i64 G.c.wi, .v (.slice A1 G.cars.length c1), .v (.slice A2 G.waits.length c2), .i .i64 G.now], [], false⟩], [carsO lo A1 G.cars.length c1 (asgN G.c G.waits G.cars k).2 true, waitsO lo A2 G.waits.length c2 (asgN G.c G.waits G.cars k).1 true]⟩) (fun x => G.waits.length - x.1) ⟨0, Nat.zero_le _⟩ (wk ?_) ?_
 ·repeat' (first | exact trivial | rfl | ((conv => whnf); refine And.intro ?_ ?_))
 rintro ⟨k, hk⟩
 by_cases hlt : k < G.waits.length
 ·obtain rfl := hA (by omega)
  obtain ⟨a, ha⟩ : ∃ a, (asgN G.c G.waits G.cars k).1[k]? = some a := ⟨_, List.getElem?_eq_getElem (by rw [(hn k).1]; exact hlt)⟩
  have hka := (ho k).1 a (List.mem_of_getElem? ha)
  have hs : asgN G.c G.waits G.cars (k + 1) = asgStep G.c (asgN G.c G.waits G.cars k) k := rfl
  refine sm_open ⟨tab_ok⟩ (π := wPS lo g G.waits.length c2 k (asgN G.c G.waits G.cars k).1) 1 (fun p => ⟨g, 76, true, 0 + k * 4, p.1.1, [.i .i64 a.fl, .i .i64 a.wy, .i .i64 a.ca, .i .i64 a.si], p.1.2, true⟩) (by rfl) (by rfl) (fun w hw => wait_open hw ha) (fun p => rfl) (fun p => ?_)
  by_cases hca : a.ca = -1
  ·have hb := bestI_rng G.c (asgN G.c G.waits G.cars k).2 a
   rw [(hn k).2] at hb
   by_cases hb0 : 0 ≤ bestI G.c (asgN G.c G.waits G.cars k).2 a
   ·obtain ⟨kk, hkk⟩ : ∃ kk : Nat, bestI G.c (asgN G.c G.waits G.cars k).2 a = (kk : Int) := ⟨_, (Int.toNat_of_nonneg hb0).symm⟩
    have hkl : kk < (asgN G.c G.waits G.cars k).2.length := by rw [(hn k).2]; omega
    obtain ⟨g1, rfl⟩ := own_addr hO.1 (by omega)
    have he : asgN G.c G.waits G.cars (k + 1) = ((asgN G.c G.waits G.cars k).1.set k { a with ca := bestI G.c (asgN G.c G.waits G.cars k).2 a }, (asgN G.c G.waits G.cars k).2.set kk (hallX a (asgN G.c G.waits G.cars k).2[kk])) := by
     rw [hs]; unfold asgStep; rw [ha]; simp only [hca, if_true]; unfold giveC; rw [if_pos hb0, hkk]
     rw [show (asgN G.c G.waits G.cars k).2.modify ((kk : Int).toNat) (hallX a) = (asgN G.c G.waits G.cars k).2.set kk (hallX a (asgN G.c G.waits G.cars k).2[kk]) by rw [Int.toNat_natCast]; exact mod_set _ (List.getElem?_eq_getElem hkl)]
    repeat' (first | refine gs_ ?_ | ((conv => whnf); first | intro b | refine bto ?_ | refine bfo ?_ | refine wr_i ?_ | refine b3_ (fun h => ?_) (fun h => ?_) | refine opir ⟨tab_ok⟩ 1 (by rfl) (by rfl) (by rfl) (by rfl) (by rfl) (by rfl) (by rfl) ⟨⟨by omega, by omega⟩, by show 0 + k * 4 = _; simp⟩ ?_ | refine callH (f := 76) (.i .i64 (bestI G.c (asgN G.c G.waits G.cars k).2 a)) (fun w hH => by have := bestT G.c a.fl a.wy lo _ _ c1 _ w (hH.obj (carsO lo _ _ c1 (asgN G.c G.waits G.cars k).2 true) (List.mem_cons_self ..)) (hn k).2 (by omega) hka.1 (fun x hx => inL_of ((ho k).2 x hx)); rw [← bestI_eq (hn k).2] at this; exact this) ?_ | refine callO (f := 77) 0 (fun _ : Unit => .i .i64 0) (fun _ => carsO lo (some ⟨g1, 0, none⟩) G.cars.length c1 ((asgN G.c G.waits G.cars k).2.set kk (hallX a (asgN G.c G.waits G.cars k).2[kk])) true) (fun w hH hA => chg1 (hH.row 0 _ rfl rfl) hA (hH.far _ (List.mem_cons_self ..) 0 _ rfl rfl) hkk hkl (hn k).2 (by kernel_rfl) (fun w1 P S hu hP hB => assign1T g1 _ g (0 + k * 4) _ P S p.1.1 p.1.2 _ { a with ca := bestI G.c (asgN G.c G.waits G.cars k).2 a } w1 hB hP (hu.blk (hH.row 1 _ rfl rfl) (hH.far _ (List.mem_cons_self ..) 1 _ rfl rfl)) p.2.1 (hu.blk (hH.row 2 _ rfl rfl) (hH.far _ (List.mem_cons_self ..) 2 _ rfl rfl)))) (fun _ => ?_) | refine back ⟨k + 1, by omega⟩ (wk_close 1 (waitsO lo (some ⟨g, 0, none⟩) G.waits.length c2 (asgN G.c G.waits G.cars (k + 1)).1 true) 1 ?_ (fun w' hB => ?_) (by rfl) (by rfl) (by rfl) (by rfl) (by rfl) (by show [carsO lo _ G.cars.length c1 (asgN G.c G.waits G.cars (k + 1)).2 true, _] = _; rw [he]; rfl)) ?_ | refine fin_s ?_))
    all_goals first | (show G.waits.length - (k + 1) < G.waits.length - k; omega) | skip
    all_goals first
     | (show WaitsAt _ _ _ _ _ _; rw [he]; exact p.2.2 _ _ hB)
     | (repeat' (first | exact trivial | rfl | ((conv => whnf); refine And.intro ?_ ?_)))
   ·have he : asgN G.c G.waits G.cars (k + 1) = ((asgN G.c G.waits G.cars k).1.set k { a with ca := bestI G.c (asgN G.c G.waits G.cars k).2 a }, (asgN G.c G.waits G.cars k).2) := by
     rw [hs]; unfold asgStep; rw [ha]; simp only [hca, if_true]; unfold giveC; rw [if_neg hb0]
    repeat' (first | refine gs_ ?_ | ((conv => whnf); first | intro b | refine bto ?_ | refine bfo ?_ | refine wr_i ?_ | refine b3_ (fun h => ?_) (fun h => ?_) | refine opir ⟨tab_ok⟩ 1 (by rfl) (by rfl) (by rfl) (by rfl) (by rfl) (by rfl) (by rfl) ⟨⟨by omega, by omega⟩, by show 0 + k * 4 = _; simp⟩ ?_ | refine callH (f := 76) (.i .i64 (bestI G.c (asgN G.c G.waits G.cars k).2 a)) (fun w hH => by have := bestT G.c a.fl a.wy lo _ _ c1 _ w (hH.obj (carsO lo _ _ c1 (asgN G.c G.waits G.cars k).2 true) (List.mem_cons_self ..)) (hn k).2 (by omega) hka.1 (fun x hx => inL_of ((ho k).2 x hx)); rw [← bestI_eq (hn k).2] at this; exact this) ?_ | refine callH (f := 77) (.i .i64 1) (fun w hH => change0 q G A1 _ c1 _ _ _ w (hH.row 0 _ rfl rfl) (.inl (by omega))) ?_ | refine back ⟨k + 1, by omega⟩ (wk_close 1 (waitsO lo (some ⟨g, 0, none⟩) G.waits.length c2 (asgN G.c G.waits G.cars (k + 1)).1 true) 1 ?_ (fun w' hB => ?_) (by rfl) (by rfl) (by rfl) (by rfl) (by rfl) (by show [carsO lo _ G.cars.length c1 (asgN G.c G.waits G.cars (k + 1)).2 true, _] = _; rw [he]; rfl)) ?_ | refine fin_s ?_))
    all_goals first | (show G.waits.length - (k + 1) < G.waits.length - k; omega) | skip
    all_goals first
     | (show WaitsAt _ _ _ _ _ _; rw [he]; exact p.2.2 _ _ hB)
     | (repeat' (first | exact trivial | rfl | ((conv => whnf); refine And.intro ?_ ?_)))
  ·have he : asgN G.c G.waits G.cars (k + 1) = asgN G.c G.waits G.cars k := by
    rw [hs]; unfold asgStep; rw [ha]; simp only [hca, if_false]
   repeat' (first | refine gs_ ?_ | ((conv => whnf); first | intro b | refine bto ?_ | refine bfo ?_ | refine wr_i ?_ | refine opir ⟨tab_ok⟩ 1 (by rfl) (by rfl) (by rfl) (by rfl) (by rfl) (by rfl) (by rfl) ⟨⟨by omega, by omega⟩, by show 0 + k * 4 = _; simp⟩ ?_ | refine back ⟨k + 1, by omega⟩ (wk_close 1 (waitsO lo (some ⟨g, 0, none⟩) G.waits.length c2 (asgN G.c G.waits G.cars (k + 1)).1 true) 1 ?_ (fun w' hB => ?_) (by rfl) (by rfl) (by rfl) (by rfl) (by rfl) (by show [carsO lo _ G.cars.length c1 (asgN G.c G.waits G.cars (k + 1)).2 true, _] = _; rw [he]; rfl)) ?_ | refine fin_s ?_))
   all_goals first | (show G.waits.length - (k + 1) < G.waits.length - k; omega) | skip
   all_goals first
    | (show WaitsAt _ _ _ _ _ _; rw [he]; have q0 := p.2.2 a _ hB; rwa [set_same ha] at q0)
    | (repeat' (first | exact trivial | rfl | ((conv => whnf); refine And.intro ?_ ?_)))
 ·refine sm_run ⟨tab_ok⟩ ?_
  repeat' (first | refine gs_ ?_ | ((conv => whnf); first | intro b | refine bto ?_ | refine bfo ?_ | refine wr_i ?_ | refine b3_ (fun h => ?_) (fun h => ?_) | refine fin fun w' hH => ⟨rfl, ?_, ?_, hH.upd⟩ | refine fin_s ?_))
  all_goals obtain rfl : k = G.waits.length := by omega
  ·exact hH.obj _ (List.mem_cons_self ..)
  ·exact hH.obj (waitsO lo A2 G.waits.length c2 _ true) (List.mem_cons_of_mem _ (List.mem_cons_self ..))
end Gr
namespace En
open Go.RowKit Ba Mem
open Gr (pairO)
section
variable {X : Cx} {m : List Row} {ob : List Asr} {w w' : World} {s : St}
theorem sm_hold {c : Code} {K : Exit → St → Prop} (m' : List Row) (ob' : List Asr) (hm : m' = s.m) (h : ∀ w, Hold X s.m s.ob w → Hold X m' ob' w) (k : Sm X c ⟨s.fr, m', ob'⟩ K) : Sm X c s K := ⟨fun a w hR => by
 subst hm
 exact k.out a w ⟨hR.ds, hR.sz, hR.fr, h w hR.h⟩⟩
theorem Hold.unpair {A B : Asr} {post : List Asr} (h : Hold X m (pairO A B :: post) w) (hA : A.rw = true) (hB : B.rw = true) (hd : A.st w → B.st w → ∀ g ∈ A.F, g ∉ B.F) : Hold X m (A :: B :: post) w := by
 have ho := h.obj (pairO A B) (List.mem_cons_self ..)
 have hp := List.pairwise_cons.1 h.dis
 have hrw : (pairO A B).rw = true := by show (A.rw && B.rw) = true; rw [hA, hB]; rfl
 have d0 := hd ho.1 ho.2
 refine ⟨h.upd, h.row, h.wf, h.ne, fun C hC => ?_, fun C hC j r hj hl hg => ?_, fun C hC hr g hg => ?_, ?_⟩
 ·rcases List.mem_cons.1 hC with rfl | hC
  ·exact ho.1
  rcases List.mem_cons.1 hC with rfl | hC
  ·exact ho.2
  ·exact h.obj C (List.mem_cons_of_mem _ hC)
 ·rcases List.mem_cons.1 hC with rfl | hC
  ·exact h.far _ (List.mem_cons_self ..) j r hj hl (List.mem_append.2 (.inl hg))
  rcases List.mem_cons.1 hC with rfl | hC
  ·exact h.far _ (List.mem_cons_self ..) j r hj hl (List.mem_append.2 (.inr hg))
  ·exact h.far C (List.mem_cons_of_mem _ hC) j r hj hl hg
 ·rcases List.mem_cons.1 hC with rfl | hC
  ·exact h.own _ (List.mem_cons_self ..) hrw g (List.mem_append.2 (.inl hg))
  rcases List.mem_cons.1 hC with rfl | hC
  ·exact h.own _ (List.mem_cons_self ..) hrw g (List.mem_append.2 (.inr hg))
  ·exact h.own C (List.mem_cons_of_mem _ hC) hr g hg
 ·rw [List.pairwise_cons, List.pairwise_cons]
  refine ⟨fun C hC => ?_, fun C hC => fun _ g hg => hp.1 C hC (.inl hrw) g (List.mem_append.2 (.inr hg)), hp.2⟩
  rcases List.mem_cons.1 hC with rfl | hC
  ·exact fun _ => d0
  ·exact fun _ g hg => hp.1 C hC (.inl hrw) g (List.mem_append.2 (.inl hg))
theorem Hold.pair {A B : Asr} {post : List Asr} (h : Hold X m (A :: B :: post) w) (hA : A.rw = true) (hB : B.rw = true) : Hold X m (pairO A B :: post) w := by
 have a1 : A ∈ A :: B :: post := List.mem_cons_self ..
 have b1 : B ∈ A :: B :: post := List.mem_cons_of_mem _ (List.mem_cons_self ..)
 have c1 : ∀ C ∈ post, C ∈ A :: B :: post := fun C hC => List.mem_cons_of_mem _ (List.mem_cons_of_mem _ hC)
 have hp := List.pairwise_cons.1 h.dis
 have hq := List.pairwise_cons.1 hp.2
 refine ⟨h.upd, h.row, h.wf, h.ne, fun C hC => ?_, fun C hC j r hj hl hg => ?_, fun C hC hr g hg => ?_, ?_⟩
 ·rcases List.mem_cons.1 hC with rfl | hC
  ·exact ⟨h.obj A a1, h.obj B b1⟩
  ·exact h.obj C (c1 C hC)
 ·rcases List.mem_cons.1 hC with rfl | hC
  ·exact (List.mem_append.1 hg).elim (h.far A a1 j r hj hl) (h.far B b1 j r hj hl)
  ·exact h.far C (c1 C hC) j r hj hl hg
 ·rcases List.mem_cons.1 hC with rfl | hC
  ·exact (List.mem_append.1 hg).elim (h.own A a1 hA g) (h.own B b1 hB g)
  ·exact h.own C (c1 C hC) hr g hg
 ·rw [List.pairwise_cons]
  refine ⟨fun C hC _ g hg => ?_, hq.2⟩
  rcases List.mem_append.1 hg with hg | hg
  ·exact hp.1 C (List.mem_cons_of_mem _ hC) (.inl hA) g hg
  ·exact hq.1 C hC (.inl hB) g hg
theorem callON {ι : Type} {f : FuncId} {vs : List SV} {K : SV → St → Prop} (i : Nat) {A : Asr} (v : ι → SV) (B C : ι → Asr)
  (hc : ∀ w, Hold X s.m s.ob w → A.st w → Calls X.P f (denL s.m vs).toArray w fun e w' => ∃ x, e = .returned (den s.m (v x)) ∧ (B x).st w' ∧ (C x).st w' ∧ Upd A.F w w' ∧ (∀ g ∈ (B x).F, g ∈ A.F ∨ w.heap.size ≤ g) ∧ ∀ g ∈ (C x).F, w.heap.size ≤ g ∧ g ∉ (B x).F)
  (h : ∀ x, setO i (B x) s.ob fun ob => appO ob (C x) fun ob => K (v x) ⟨s.fr, s.m, ob⟩) (hA : s.ob[i]? = some A := by rfl) (hrw : A.rw = true := by rfl)
  (he : entChk X.P f = true := by kernel_rfl) (hv : ∀ x, okV s.m.length (v x) = true := by intro x; rfl) : CallVC X f vs s K := by
 refine ⟨entC he, fun w hH => (hc w hH (hH.obj A (List.mem_of_getElem? hA))).mono ?_⟩
 rintro e w' ⟨x, rfl, h1, h2, h3, h4, h5⟩
 refine ⟨v x, s.m, s.ob.set i (B x) ++ [C x], rfl, hv x, Ext.refl _, ?_, appO_of (setO_of (h x))⟩
 refine Hold.addObj (hH.obj_set hA hrw h1 h3 h4) (C x) h2 (fun _ g hg => .inr (Nat.le_trans hH.upd.size (h5 g hg).1)) (fun r hr hl hg => ?_) (fun D hD _ g hg hgC => ?_)
 ·obtain ⟨j, hj⟩ := List.mem_iff_getElem?.1 hr
  have := (hH.row j r hj hl).lt; have := (h5 _ hg).1; omega
 ·rcases mem_set_or hD with rfl | ⟨j, hne, hD⟩
  ·exact (h5 g hgC).2 hg
  ·have := D.lt (hH.obj D (List.mem_of_getElem? hD)) g hg; have := (h5 g hgC).1; omega
theorem opao (i k : Nat) {A E : Asr} {o : Oper} {K : St → Prop} {xs ys : Operand} {t e : TypeId} {lo size n c0 m c n2 bytes : Nat} {A0 A1 : Option Addr} {z : Value} {vals cells zs : List Value} (B : Option Addr → Nat → Asr)
  (ho : o.op = .call { callee := .builtin .append, args := #[xs, ys], argTypes := #[t, t] }) (hxs : evO xs s.fr = some (.v (.slice A0 n c0))) (hys : evO ys s.fr = some (.v (.slice A1 m c)))
  (hA : s.ob[i]? = some A) (hE : s.ob[k]? = some E) (hrw : A.rw = true) (hF : A.F = blkOf A0) (hst : ∀ w, A.st w → w.ownsRow lo e size (.slice A0 n c0) n vals) (hB : ∀ A' c' w, w.ownsRow lo e size (.slice A' n2 c') n2 zs → (B A' c').st w) (hBF : ∀ A' c', (B A' c').F = blkOf A')
  (hr : ∀ w, E.st w → Reads w w.heap.size size A1 m cells)
  (ht : X.P.underlying t = some (.slice e)) (hinf : (X.P.info? e).map (fun i => (i.zero, i.size, i.bytes)) = some (some z, size, bytes)) (hzs : z.cells.size = size) (hsz : 0 < size) (hby : bytes ≤ 1000) (h1 : ∀ u ∈ cells, u.oneCell' = true)
  (hnm : n + m ≤ 1000000) (hbase : ∀ w, Hold X s.m s.ob w → lo ≤ w.heap.size) (hn2 : n + m = n2) (hzs2 : vals ++ cells = zs)
  (h : ∀ A' c', setO i (B A' c') s.ob fun ob => put X.n o.dst (.v (.slice A' n2 c')) ⟨s.fr, s.m, ob⟩ K) : OpVC X o s K := ⟨fun a w Q hR => by
 refine wp_append_row xs ys t ho lo e z size bytes ht hinf hzs hsz hby A0 n c0 vals (by rw [(evO_of hR.fr hxs).2]; rfl) (hst w (hR.h.obj A (List.mem_of_getElem? hA))) _ A1 m c cells (by rw [(evO_of hR.fr hys).2]; rfl) (hr w (hR.h.obj E (List.mem_of_getElem? hE))) h1 hnm (hbase w hR.h) n2 zs hn2 hzs2 ?_
 intro A' c' w' hown hupd hfar
 have hH := hR.h.obj_set hA hrw (hB A' c' w' hown) (by rw [hF]; exact hupd) (by rw [hF, hBF]; exact hfar)
 obtain ⟨s', r1, r2, r3, r4⟩ := put_of (a := a) (s := ⟨s.fr, s.m, s.ob.set i (B A' c')⟩) (v := .v (.slice A' n2 c')) hR.ds hR.sz hR.fr hH rfl (setO_of (h A' c'))
 exact ⟨s', r1, by rw [r2]; exact Ext.refl _, r4⟩⟩
theorem opxc {o : Oper} {K : St → Prop} {t : TypeId} {x : Operand} {g off : Nat} {ad : Addr} (v : SV) (hr : ∀ w, Hold X s.m s.ob w → w.rangeAt g off [den s.m v]) (hX : X.Ok) (ho : o.op = .load t x) (hx : evO x s.fr = some (.v (.pointer (some ad)))) (had : ad = ⟨g, off, none⟩) (h : put X.n o.dst v s K)
  (hn : (match tyO t X.tab with | some y => !y.row | none => false) = true := by rfl) (hv : okV s.m.length v = true := by rfl) : OpVC X o s K := by
 subst had
 refine opq v (fun a w hf hH => ?_) h hv
 cases hy : tyO t X.tab with
 | none => simp [hy] at hn
 | some y =>
  simp only [hy, Bool.not_eq_true'] at hn
  obtain ⟨d, i, T⟩ := (hX.tab _ _ hy).out
  have he := (evO_of hf hx).2
  have hc : w.cell? ⟨g, off, none⟩ = some (den s.m v) := hr w hH 0 _ rfl
  have hrow := T.row
  rw [hn] at hrow
  have hagg : (isAgg t).run X.P w = .ok false w := by
   unfold isAgg
   rw [Sem.run_bind, run_underlying T.un w]
   cases d <;> simp_all [TypeDesc.isRow]
  unfold execOp
  simp only [ho, he, den, Instr.loadAt, Instr.sureAddr, Sem.run_bind, Sem.run_pure, Result.andThen_ok]
  simp [loadVar, Sem.run_bind, hagg, hc]
end
structure Ek (α : Type) where
 t : TypeId
 k : Nat
 c : α → List Value
 len : ∀ a, (c a).length = k
 one : ∀ a, ∀ u ∈ c a, u.oneCell' = true
def Ek.At {α : Type} (E : Ek α) (lo : Nat) (A : Option Addr) (n c : Nat) (ls : List α) (w : World) : Prop := w.ownsRow lo E.t E.k (.slice A n c) n (rowsOf E.c ls)
def rwO {α : Type} (E : Ek α) (lo : Nat) (A : Option Addr) (n c : Nat) (ls : List α) (rw : Bool) : Asr := ⟨blkOf A, rw, E.At lo A n c ls, fun k h hs => k.own hs h, fun h => own_lt h⟩
section
variable {α : Type} {E : Ek α} {lo g n c k : Nat} {A : Option Addr} {ls : List α} {w : World} {x : α}
end
theorem opst {α : Type} {s : St} {X : Cx} (hX : X.Ok) (i kk : Nat) (E : Ek α) (v : α) (vs : List SV) {lo g n c : Nat} {ls : List α} {o : Oper} {K : St → Prop} {ty : TypeId} {x y : Operand} {ad : Addr} (ho : o.op = .store ty x y) (hx : evO x s.fr = some (.v (.pointer (some ad)))) (had : ad = ⟨g, kk * E.k, none⟩) (hy : evO y s.fr = some (.a vs)) (hvs : denL s.m vs = E.c v) (hA : s.ob[i]? = some (rwO E lo (some ⟨g, 0, none⟩) n c ls true)) (hi : kk < ls.length)
  (hk0 : 0 < E.k) (hn : (match tyO ty X.tab with | some z => Nat.beq z.size E.k | none => false) = true) (h : setO i (rwO E lo (some ⟨g, 0, none⟩) n c (ls.set kk v) true) s.ob fun ob => put X.n o.dst (.v undef) ⟨s.fr, s.m, ob⟩ K) : OpVC X o s K := ⟨fun a w Q hR => by
 subst had
 cases hz : tyO ty X.tab with
 | none => simp [hz] at hn
 | some z =>
  simp only [hz] at hn
  obtain ⟨d, inf, T⟩ := (hX.tab _ _ hz).out
  have hst := hR.h.obj _ (List.mem_of_getElem? hA)
  refine wp_set_row ty x y ho E.len hk0 E.one (show w.ownsRow lo E.t E.k (.slice (some ⟨g, 0, none⟩) n c) n (rowsOf E.c ls) from hst) hi v (by rw [(evO_of hR.fr hx).2]; rfl) (by rw [(evO_of hR.fr hy).2]; simp only [den, hvs]) (by rw [T.inf]; simp [T.size, Nat.eq_of_beq_eq_true hn]) (fun w' hown hu => ?_)
  have hH := hR.h.obj_set (B := rwO E lo (some ⟨g, 0, none⟩) n c (ls.set kk v) true) hA rfl hown (by simpa [rwO, blkOf] using hu) (fun g hg => .inl hg)
  obtain ⟨s', r1, r2, r3, r4⟩ := put_of (a := a) (s := ⟨s.fr, s.m, s.ob.set i (rwO E lo (some ⟨g, 0, none⟩) n c (ls.set kk v) true)⟩) (v := .v undef) hR.ds hR.sz hR.fr hH rfl (setO_of h)
  exact ⟨s', r1, by rw [r2]; exact Ext.refl _, r4⟩⟩
end En
namespace Gr
open Go.RowKit Ba Mem En Mo Go.Proofs.YtpiiblkiddcgcaaGreat.Ty Go.Proofs.YtpiiblkiddcgcaaGreat.St
open Ct (cfgA carA tkV tkF tkW tkS tickT)
open Et (carsO inL)
open Tm (cl)
open Tw (addT)
set_option maxRecDepth 100000
attribute [local irreducible] Go.Calls
abbrev cPS (lo g n c k : Nat) (ls : List CarV) := {x : List Value × List Value // x.1.length = 0 + k * 15 ∧ ∀ y w', Blk w' g 67 (el x.1 (carA y) x.2) → CarsAt lo (some ⟨g, 0, none⟩) n c (ls.set k y) w'}
theorem car_open {lo g n c k : Nat} {ls : List CarV} {w : World} {x : CarV} (h : CarsAt lo (some ⟨g, 0, none⟩) n c ls w) (hx : ls[k]? = some x) : ∃ p : cPS lo g n c k ls, g ∈ blkOf (some ⟨g, 0, none⟩) ∧ p.1.1.length = 0 + k * 15 ∧ Blk w g 67 (el p.1.1 (carA x) p.1.2) := by
 obtain ⟨hi, rfl⟩ := List.getElem?_eq_some_iff.1 hx
 obtain ⟨P, S, hP, hB, hb⟩ := own_el carL_len h hi
 exact ⟨⟨(P, S), hP, fun y w' hB' => hb y w' hB'⟩, by simp [blkOf], hP, hB⟩
theorem waits_cap {lo g n c : Nat} {ls : List WaitV} {w : World} (h : WaitsAt lo (some ⟨g, 0, none⟩) n c ls w) : n ≤ c := by
 rcases h.2 with ⟨hv, _⟩ | ⟨_, _, _, hv, _, _, hc, _⟩
 ·simp at hv
 ·simp at hv; omega
theorem tk_okc {c : CfgV} {cs : List CarV} {ws : List WaitV} {k : Nat} {x : CarV} (h : ∀ x ∈ cs, okT x) (hx : (tkN c cs ws k).1[k]? = some x) : okT x := by
 rw [tk_at c cs ws k k (Nat.le_refl _)] at hx
 exact h x (List.mem_of_getElem? hx)
attribute [local irreducible] atP oI tkS tkV tkF tkW bestI
def nowV (n : Int) : Int := cl (cl n + cl 1)
attribute [local irreducible] cl
def GrV.adv (G : GrV) : GrV := ⟨G.c, G.cars, G.waits, nowV G.now⟩
set_option maxHeartbeats 4000000 in
theorem tickGT {lo q : Nat} {G : GrV} {S : List Nat} {w : World} (hg : GO lo q G S w) (hl1 : G.cars.length ≤ 10000) (hl2 : G.waits.length ≤ 10000) (hk1 : ∀ x ∈ G.cars, okT x) (hk2 : ∀ a ∈ G.waits, okW a) :
  Calls Tryz.prog 8 #[.pointer (some ⟨q, 0, none⟩)] w fun e w' => ∃ A' c', e = .returned (.slice A' (tickP G).2.2.length c') ∧ WaitsAt w.heap.size A' (tickP G).2.2.length c' (tickP G).2.2 w' ∧ GO lo q (tickG G) S w' ∧ Upd S w w' := by
 obtain ⟨A1, c1, A2, c2, h0, hS, hH⟩ := hold_go (n := _) hg
 have hd : ∀ w1, CarsAt lo A1 G.cars.length c1 (asgN G.c G.waits G.cars G.waits.length).2 w1 → WaitsAt lo A2 G.waits.length c2 (asgN G.c G.waits G.cars G.waits.length).1 w1 → ∀ g ∈ blkOf A1, g ∉ blkOf A2 := fun w1 O1 O2 g hg hg2 => by
  rcases own_at O1 with ⟨h, _⟩ | ⟨g1, cur, h, _, B1, _⟩
  ·subst h; cases hg
  ·subst h
   have : g = g1 := by simpa [blkOf] using hg
   subst this
   exact own_ne_ty O2 B1 (by decide) hg2
 have hd0 : ∀ w1, CarsAt lo A1 G.cars.length c1 G.cars w1 → WaitsAt lo A2 G.waits.length c2 G.waits w1 → ∀ g ∈ blkOf A1, g ∉ blkOf A2 := fun w1 O1 O2 g hg hg2 => by
  rcases own_at O1 with ⟨h, _⟩ | ⟨g1, cur, h, _, B1, _⟩
  ·subst h; cases hg
  ·subst h
   have : g = g1 := by simpa [blkOf] using hg
   subst this
   exact own_ne_ty O2 B1 (by decide) hg2
 have hkc := (asg_ok (c := G.c) hk2 hk1 G.waits.length).2
 obtain ⟨hn1, hn2⟩ := asg_len G.c G.waits G.cars G.waits.length
 refine entH tab_ok (Hold.addObj (hold_pair hH rfl rfl) (waitsO w.heap.size none 0 0 [] true) (World.ownsRow_nil _ _ _ _) (by intro _ g hg; cases hg) (by intro r _ _ hg; cases hg) (by intro A hA _ g hg hg2; cases hg2)) [.p 0 0] Tryz.func8 Tryz.ntmps8 rfl rfl ?_
 repeat' (first | refine gs_ ?_ | ((conv => whnf); first | intro b | refine callS (f := 26) (.i .i64 (nowV _)) (addT _ 1) ?_ | refine callO (f := 27) 0 (A := pairO (carsO lo A1 G.cars.length c1 G.cars true) (waitsO lo A2 G.waits.length c2 G.waits true)) (fun _ : Unit => .t []) (fun _ => pairO (carsO lo A1 G.cars.length c1 (asgN G.c G.waits G.cars G.waits.length).2 true) (waitsO lo A2 G.waits.length c2 (asgN G.c G.waits G.cars G.waits.length).1 true)) (fun w hH hA => (assignT lo q { G with now := nowV G.now } A1 A2 c1 c2 w (hH.row 0 _ rfl rfl) hA (hd0 _ hA.1 hA.2) hl1 hl2 hk1 hk2).mono (by rintro e w' ⟨rfl, h1, h2, h3⟩; exact ⟨(), rfl, ⟨h1, h2⟩, h3, fun _ h => .inl h⟩)) (fun _ => ?_) | refine fin_s ?_))
 conv => whnf
 generalize hcs : (asgN G.c G.waits G.cars G.waits.length).2 = cs at *
 generalize hws : (asgN G.c G.waits G.cars G.waits.length).1 = ws at *
 have hpl : ∀ k, (tkN G.c cs ws k).1.length = G.cars.length := fun k => by rw [tk_len, hn2]
 have hwl : ∀ k, (tkN G.c cs ws k).2.1.length ≤ G.waits.length ∧ (tkN G.c cs ws k).2.2.length ≤ k := fun k => by have := tk_wl G.c cs ws k; omega
 refine sm_hold _ [carsO lo A1 G.cars.length c1 cs true, waitsO lo A2 G.waits.length c2 ws true, waitsO w.heap.size none 0 0 [] true] (by rfl) (fun w1 hH => Hold.unpair hH rfl rfl (hd w1)) ?_
 refine lpS ⟨tab_ok⟩ (ι := {x : (Nat × Option Addr × Nat) × (List CarV × List WaitV × List WaitV) // x.1.1 ≤ G.cars.length ∧ tkN G.c cs ws x.1.1 = x.2}) (fun x => match x with | ⟨((k, A3, c3), (tc, tw, ts)), _⟩ => ⟨[(0, .p 0 0), (3, .v (.slice A3 ts.length c3)), (25, .i .i64 G.cars.length), (26, .i .i64 (k : Int))], [⟨q, 70, true, 0, [], [.i .i64 G.adv.c.ca, .i .i64 G.adv.c.fl, .i .i64 G.adv.c.ft, .i .i64 G.adv.c.se, .i .i64 G.adv.c.dr, .i .i64 G.adv.c.dw, .i .i64 G.adv.c.ho, .i .i64 G.adv.c.re, .i .i64 G.adv.c.yi, .i .i64 G.adv.c.qu, .i .i64 G.adv.c.qo, .i .i64 G.adv.c.lo, .i .i64 G.adv.c.sl, .i .i64 G.adv.c.rt, .i .i64 G.adv.c.cp, .i .i64 G.adv.c.tr, .i .i64 G.adv.c.de, .i .i64 G.adv.c.wi, .v (.slice A1 G.cars.length c1), .v (.slice A2 tw.length c2), .i .i64 G.adv.now], [], true⟩], [carsO lo A1 G.cars.length c1 tc true, waitsO lo A2 tw.length c2 tw true, waitsO w.heap.size A3 ts.length c3 ts true]⟩) (fun x => G.cars.length - x.1.1.1) ⟨((0, none, 0), (cs, ws, [])), Nat.zero_le _, rfl⟩ (wk ?_ (congrArg (fun z => goM q G.adv A1 G.cars.length c1 A2 z c2) hn1) (by rfl) (congrArg (fun z => [carsO lo A1 G.cars.length c1 cs true, waitsO lo A2 z c2 ws true, waitsO w.heap.size none 0 0 [] true]) hn1)) ?_
 ·repeat' (first | exact trivial | rfl | ((conv => whnf); refine And.intro ?_ ?_))
 rintro ⟨⟨⟨k, A3, c3⟩, ⟨tc, tw, ts⟩⟩, hk, hT⟩
 have hk : k ≤ G.cars.length := hk
 have hT : tkN G.c cs ws k = (tc, tw, ts) := hT
 have l1 : tc.length = G.cars.length := by have := hpl k; rw [hT] at this; exact this
 have l2 : tw.length ≤ G.waits.length ∧ ts.length ≤ k := by have := hwl k; rw [hT] at this; exact this
 by_cases hlt : k < G.cars.length
 ·obtain ⟨g, rfl⟩ := own_addr (hH.obj (carsO lo A1 _ c1 _ true) (List.mem_cons_self ..)) (by omega)
  obtain ⟨x, hx⟩ : ∃ x, tc[k]? = some x := ⟨_, List.getElem?_eq_getElem (by omega)⟩
  have hkx : okT x := tk_okc (ws := ws) (c := G.c) (k := k) hkc (by rw [hT]; exact hx)
  have hs : tkN G.c cs ws (k + 1) = tkStep G.c (tc, tw, ts) k := by rw [← hT]; rfl
  refine sm_open ⟨tab_ok⟩ (π := cPS lo g G.cars.length c1 k tc) 0 (fun p => ⟨g, 67, true, 0 + k * 15, p.1.1, (sCar x), p.1.2, true⟩) (by rfl) (by rfl) (fun w hw => car_open hw hx) (fun p => rfl) (fun p => ?_)
  by_cases hin : tkS x = true ∧ (atP tw (isW (tkF x) (tkW x))).isSome = true
  ·obtain ⟨hSv, hat⟩ := hin
   obtain ⟨kk, hkk⟩ := Option.isSome_iff_exists.1 hat
   obtain ⟨hkl, _, _⟩ := atP_some hkk
   obtain ⟨a, ha⟩ : ∃ a, tw[kk]? = some a := ⟨_, List.getElem?_eq_getElem hkl⟩
   have ho : oI (atP tw (isW (tkF x) (tkW x))) = (kk : Int) := by rw [hkk, oI_some]
   have he : tkN G.c cs ws (k + 1) = (tc.set k (tkV G.c x), tw.eraseIdx kk, ts ++ [a]) := by rw [hs]; unfold tkStep; simp only [hx, hSv, if_true, hkk, ha, Option.toList]
   have hm : tw.length = (tw.eraseIdx kk).length + 1 := by rw [List.length_eraseIdx_of_lt hkl]; omega
   obtain ⟨g2, rfl⟩ := own_addr (hH.obj (waitsO lo A2 _ c2 _ true) (List.mem_cons_of_mem _ (List.mem_cons_self ..))) (by omega)
   repeat' (first | refine gs_ ?_ | ((conv => whnf); first | intro b | refine bto ?_ | refine bfo ?_ | refine wr_i ?_ | refine And.intro ?_ ?_ | refine puir ⟨tab_ok⟩ 1 (by rfl) (by rfl) (by rfl) (by rfl) (by rfl) (by rfl) (by rfl) ⟨⟨by omega, by omega⟩, by show 0 + k * 15 = _; simp⟩ ?_ | refine opir ⟨tab_ok⟩ 1 (by rfl) (by rfl) (by rfl) (by rfl) (by rfl) (by rfl) (by rfl) ⟨⟨by omega, by omega⟩, by show 0 + k * 15 = _; simp⟩ ?_ | refine callS (f := 28) (.t [.a [.i .i64 (tkV G.c x).ds, .i .i64 (tkV G.c x).da, .i .i64 (tkV G.c x).un, .i .i64 (tkV G.c x).wy, .i .i64 (tkV G.c x).ti, .i .i64 (tkV G.c x).ju, .i .i64 (tkV G.c x).lo, .b (tkV G.c x).bl, .b (tkV G.c x).br, .i .i64 (tkV G.c x).mo, .i .i64 (tkV G.c x).ta, .b (tkV G.c x).ho, .i .u64 (tkV G.c x).sp, .i .u64 (tkV G.c x).su, .i .u64 (tkV G.c x).sd], .a [.i .i64 (tkF x), .i .i64 (tkW x)], .b (tkS x)]) (fun w => tickT G.c x w hkx.1 hkx.2.1.1 hkx.2.1.2.1 hkx.2.1.2.2 hkx.2.2.1 hkx.2.2.2.1.1 hkx.2.2.2.1.2) ?_ | refine callH (f := 29) (.i .i64 (kk : Int)) (fun w hH => by have := findT lo q { G.adv with waits := tw } (.slice (some ⟨g, 0, none⟩) G.cars.length c1) (some ⟨g2, 0, none⟩) c2 (tkF x) (tkW x) w (hH.row 0 _ rfl rfl) (hH.obj (waitsO lo (some ⟨g2, 0, none⟩) _ c2 tw true) (List.mem_cons_self ..)) (by show tw.length ≤ _; omega); change Calls _ _ _ _ (fun e w' => e = .returned (.int .i64 (oI (atP tw (isW (tkF x) (tkW x))))) ∧ Since w w') at this; rw [ho] at this; exact this) ?_ | refine br_t hSv ?_ | refine opiv ⟨tab_ok⟩ (by rfl) (by rfl) (by rfl) (by rfl) (by rfl) (by rfl) ⟨by omega, by omega⟩ ?_ | refine opix (g := g2) (off := 0 + kk * 4) [.i .i64 a.fl, .i .i64 a.wy, .i .i64 a.ca, .i .i64 a.si] (fun w hH => wait_at (hH.obj (waitsO lo (some ⟨g2, 0, none⟩) tw.length c2 tw true) (List.mem_cons_self ..)) ha) ⟨tab_ok⟩ (by rfl) (by rfl) (by show Addr.add ⟨g2, 0, none⟩ (kk * 4) = _; rw [Go.WideShapes.add_plain]) ?_ | refine opb1 (e := 76) ⟨tab_ok⟩ [.i .i64 a.fl, .i .i64 a.wy, .i .i64 a.ca, .i .i64 a.si] (by rfl) (by rfl) ?_ | refine opap 1 4 (e := 76) (lo := w.heap.size) (size := 4) (bytes := 32) (z := .agg #[.int .i64 0, .int .i64 0, .int .i64 0, .int .i64 0]) (A := waitsO w.heap.size A3 ts.length c3 ts true) (vals := rowsOf waitL ts) (cells := waitL a) (zs := rowsOf waitL (ts ++ [a])) (n2 := (ts ++ [a]).length) (fun A' c' => waitsO w.heap.size A' (ts ++ [a]).length c' (ts ++ [a]) true) (by rfl) (by rfl) (by rfl) (by rfl) rfl rfl (fun w h => h) (fun A' c' w h => h) (fun _ _ => rfl) (by rfl) (by rfl) (by rfl) (by rfl) Tryz.underlying32 (by kernel_rfl) rfl (by decide) (by decide) (waitL_one _) (by omega) (fun w hH => hH.upd.size) (by simp) (by rw [rowsOf_append, rowsOf_one]) (fun A' c' => ?_) | refine callO (f := 30) (A := waitsO lo (some ⟨g2, 0, none⟩) tw.length c2 tw true) 0 (fun _ : Unit => .v (.slice (some ⟨g2, 0, none⟩) (tw.eraseIdx kk).length c2)) (fun _ => waitsO lo (some ⟨g2, 0, none⟩) (tw.eraseIdx kk).length c2 (tw.eraseIdx kk) true) (fun w hH hA => by have hcap := waits_cap hA; have := C2.deleteT lo g2 (tw.eraseIdx kk).length c2 kk tw w (by rw [← hm]; exact hA) hm (by omega) (by omega) (by omega); rw [← hm] at this; exact this.mono (by rintro e w' ⟨rfl, h1, h2⟩; exact ⟨(), rfl, h1, h2, fun _ h => .inl h⟩)) (fun _ => ?_) | refine back ⟨((k + 1, A', c'), (tc.set k (tkV G.c x), tw.eraseIdx kk, ts ++ [a])), by show k + 1 ≤ _; omega, he⟩ (wk_close 1 (carsO lo (some ⟨g, 0, none⟩) G.cars.length c1 (tc.set k (tkV G.c x)) true) 0 ?_ (fun w' hB => p.2.2 _ _ hB) (by rfl) (by rfl) (by rfl) (by rfl) (by rfl) (by rfl)) ?_ | refine br_b (fun h => ?_) (fun h => ?_) | refine fin_s ?_))
   all_goals first | (show G.cars.length - (k + 1) < G.cars.length - k; omega) | skip
   all_goals (repeat' (first | exact trivial | rfl | ((conv => whnf); refine And.intro ?_ ?_)))
  ·have he : tkN G.c cs ws (k + 1) = (tc.set k (tkV G.c x), tw, ts) := by
    rw [hs]; unfold tkStep; simp only [hx]
    cases hSv : tkS x with
    | false => rfl
    | true =>
     have : atP tw (isW (tkF x) (tkW x)) = none := by
      cases h : atP tw (isW (tkF x) (tkW x)) with
      | none => rfl
      | some j => exact absurd ⟨hSv, by rw [h]; rfl⟩ hin
     simp only [if_true, this]
   have hno : tkS x = true → ¬ oI (atP tw (isW (tkF x) (tkW x))) ≥ 0 := fun h => by
    cases h2 : atP tw (isW (tkF x) (tkW x)) with
    | none => rw [oI_none]; decide
    | some j => exact absurd ⟨h, by rw [h2]; rfl⟩ hin
   repeat' (first | refine gs_ ?_ | ((conv => whnf); first | intro b | refine bto ?_ | refine bfo ?_ | refine wr_i ?_ | refine And.intro ?_ ?_ | refine puir ⟨tab_ok⟩ 1 (by rfl) (by rfl) (by rfl) (by rfl) (by rfl) (by rfl) (by rfl) ⟨⟨by omega, by omega⟩, by show 0 + k * 15 = _; simp⟩ ?_ | refine opir ⟨tab_ok⟩ 1 (by rfl) (by rfl) (by rfl) (by rfl) (by rfl) (by rfl) (by rfl) ⟨⟨by omega, by omega⟩, by show 0 + k * 15 = _; simp⟩ ?_ | refine callS (f := 28) (.t [.a [.i .i64 (tkV G.c x).ds, .i .i64 (tkV G.c x).da, .i .i64 (tkV G.c x).un, .i .i64 (tkV G.c x).wy, .i .i64 (tkV G.c x).ti, .i .i64 (tkV G.c x).ju, .i .i64 (tkV G.c x).lo, .b (tkV G.c x).bl, .b (tkV G.c x).br, .i .i64 (tkV G.c x).mo, .i .i64 (tkV G.c x).ta, .b (tkV G.c x).ho, .i .u64 (tkV G.c x).sp, .i .u64 (tkV G.c x).su, .i .u64 (tkV G.c x).sd], .a [.i .i64 (tkF x), .i .i64 (tkW x)], .b (tkS x)]) (fun w => tickT G.c x w hkx.1 hkx.2.1.1 hkx.2.1.2.1 hkx.2.1.2.2 hkx.2.2.1 hkx.2.2.2.1.1 hkx.2.2.2.1.2) ?_ | refine callH (f := 29) (.i .i64 (oI (atP tw (isW (tkF x) (tkW x))))) (fun w hH => findT lo q { G.adv with waits := tw } _ A2 c2 (tkF x) (tkW x) w (hH.row 0 _ rfl rfl) (hH.obj (waitsO lo A2 _ c2 tw true) (List.mem_cons_self ..)) (by show tw.length ≤ _; omega)) ?_ | refine br_f (decide_eq_false (hno (by assumption))) ?_ | refine back ⟨((k + 1, A3, c3), (tc.set k (tkV G.c x), tw, ts)), by show k + 1 ≤ _; omega, he⟩ (wk_close 1 (carsO lo (some ⟨g, 0, none⟩) G.cars.length c1 (tc.set k (tkV G.c x)) true) 0 ?_ (fun w' hB => p.2.2 _ _ hB) (by rfl) (by rfl) (by rfl) (by rfl) (by rfl) (by rfl)) ?_ | refine br_b (fun h => ?_) (fun h => ?_) | refine fin_s ?_))
   all_goals first | (show G.cars.length - (k + 1) < G.cars.length - k; omega) | skip
   all_goals (repeat' (first | exact trivial | rfl | ((conv => whnf); refine And.intro ?_ ?_)))
 ·obtain rfl : k = G.cars.length := by omega
  have hTP : tickP G = (tc, tw, ts) := by unfold tickP; rw [hcs, hws]; exact hT
  refine sm_run ⟨tab_ok⟩ ?_
  repeat' (first | refine gs_ ?_ | ((conv => whnf); first | intro b | refine bto ?_ | refine bfo ?_ | refine wr_i ?_ | refine fin fun w' hH => ?_ | refine fin_s ?_))
  rw [hTP]
  refine ⟨A3, c3, rfl, hH.obj (waitsO w.heap.size A3 ts.length c3 ts true) (List.mem_cons_of_mem _ (List.mem_cons_of_mem _ (List.mem_cons_self ..))), ⟨h0, A1, c1, A2, c2, hS, ?_, ?_, ?_⟩, hH.upd⟩
  ·have := hH.row 0 _ rfl rfl
   rw [rowA_nil rfl rfl] at this
   show Blk w' q _ (grpA (tickG G) (.slice A1 (tickP G).1.length c1) (.slice A2 (tickP G).2.1.length c2))
   rw [hTP]
   show Blk w' q _ (grpA (tickG G) (.slice A1 tc.length c1) _)
   rw [l1]
   exact this
  ·have := hH.obj _ (List.mem_cons_self ..)
   show CarsAt lo A1 (tickP G).1.length c1 (tickP G).1 w'
   rw [hTP]
   show CarsAt lo A1 tc.length c1 tc w'
   rw [l1]
   exact this
  ·have := hH.obj (waitsO lo A2 tw.length c2 tw true) (List.mem_cons_of_mem _ (List.mem_cons_self ..))
   show WaitsAt lo A2 (tickP G).2.1.length c2 (tickP G).2.1 w'
   rw [hTP]
   exact this
end Gr
namespace En
open Go.RowKit Ba Mem
theorem fv_run {X : Cx} (hX : X.Ok) {m : List Row} {fr : List (Nat × SV)} {o : Oper} {t : TypeId} {x : Operand} {k : Nat} {ad : Addr} {y : Ty} {q : Nat × Nat × Bool} (ho : o.op = .fieldAddr t x k) (hx : evO x fr = some (.v (.pointer (some ad)))) (hy : tyO t X.tab = some y) (hq : y.flds[k]? = some q) (a : Act) (hf : FrOk m a.tmps fr) (w : World) :
  (execOp a.eval o).run X.P w = .ok (.value (.pointer (some (ad.add q.1)))) w := by
 obtain ⟨d, i, T⟩ := (hX.tab _ _ hy).out
 obtain ⟨fs, rfl, hfc⟩ := T.st k q hq
 obtain ⟨f, i2, d2, f1, f2, f3, f4, f5, f6, f7, f8⟩ := (fld_of hfc).2 k q hq
 have f1' : fs[k]? = some f := by simpa using f1
 have h2 := (evO_of hf hx).2
 unfold execOp
 simp only [ho, h2, den, Instr.fieldAt, Instr.sureAddr, Sem.run_bind, run_underlying T.un, Result.andThen_ok, Sem.run_pure, f1', fieldPlace, sizeOf, typeInfo]
 simp only [run_program, f3, Result.andThen_ok, Sem.run_pure, f5, if_neg f6, f2]
theorem opfv {X : Cx} {s : St} (hX : X.Ok) {o : Oper} {K : St → Prop} {t : TypeId} {x : Operand} {k : Nat} {ad : Addr} {y : Ty} {q : Nat × Nat × Bool} (ho : o.op = .fieldAddr t x k) (hx : evO x s.fr = some (.v (.pointer (some ad)))) (hy : tyO t X.tab = some y) (hq : y.flds[k]? = some q) (h : put X.n o.dst (.v (.pointer (some (ad.add q.1)))) s K) : OpVC X o s K :=
 opq (.v (.pointer (some (ad.add q.1)))) (fun a w hf _ => fv_run hX ho hx hy hq a hf w) h rfl
theorem pufv {X : Cx} {s : St} (hX : X.Ok) {o : Oper} {K : SV → Prop} {t : TypeId} {x : Operand} {k : Nat} {ad : Addr} {y : Ty} {q : Nat × Nat × Bool} (ho : o.op = .fieldAddr t x k) (hx : evO x s.fr = some (.v (.pointer (some ad)))) (hy : tyO t X.tab = some y) (hq : y.flds[k]? = some q) (h : K (.v (.pointer (some (ad.add q.1))))) : PuVC X o s K :=
 ⟨⟨.v (.pointer (some (ad.add q.1))), rfl, fun a hf w => fv_run hX ho hx hy hq a hf w, h⟩⟩
theorem rng_sub {w : World} {g off i n : Nat} {cs l : List Value} (h : w.rangeAt g off cs) (hl : (cs.drop i).take n = l) : w.rangeAt g (off + i) l := fun j v hj => by
 subst hl
 have hjn : j < n := by
  have := (List.getElem?_eq_some_iff.1 hj).1
  rw [List.length_take] at this; omega
 rw [List.getElem?_take, if_pos hjn, List.getElem?_drop] at hj
 have := h (i + j) v hj
 rw [show off + i + j = off + (i + j) by omega]; exact this
theorem wkd {X : Cx} {s s' : St} (hfr : frW s s'.m s'.fr) (hm : s'.m = s.m.take s'.m.length := by rfl) (hok : rowsOk s'.m.length s'.m = true := by rfl) (hob : s'.ob = s.ob.take s'.ob.length := by rfl) : Wk X s s' := by
 refine ⟨fun a w hR => ?_⟩
 have h1 := (wk (X := X) (s := s) (s' := ⟨s'.fr, s'.m, s.ob⟩) hfr hm hok rfl).out a w hR
 have hs : ∀ B ∈ s'.ob, B ∈ s.ob := fun B hB => by rw [hob] at hB; exact List.mem_of_mem_take hB
 have H := h1.h
 exact ⟨h1.ds, h1.sz, h1.fr, H.upd, H.row, H.wf, H.ne, fun B hB => H.obj B (hs B hB), fun B hB => H.far B (hs B hB), fun B hB => H.own B (hs B hB), by rw [hob]; exact List.Pairwise.sublist (List.take_sublist _ _) H.dis⟩
section
variable {X : Cx} {s : St} {o : Oper} {t : TypeId}
theorem run_b0 {P : Program} (w : World) (t e : TypeId) (ie : TypeInfo) (hu : P.underlying t = some (.slice e)) (hie : P.info? e = some ie) : (Instr.buildSlice t 0 #[]).run P w = .ok (.slice (some ⟨w.heap.size, 0, none⟩) 0 0) (w.alloc (.cells #[] e)) := by
 have e : (Array.map (fun _ : Nat => (default : Value)) (Array.range 0)) = #[] := by simp
 simp [Instr.buildSlice, run_underlying hu, sizeOf, typeInfo, hie, Instr.fill, newRow, e]
theorem opb0 {K : St → Prop} {α : Type} (E : Ek α) (ho : o.op = .buildSlice t 0 #[]) (hu : X.P.underlying t = some (.slice E.t)) (hie : (X.P.info? E.t).isSome = true)
  (h : ∀ g : Nat, appO s.ob (rwO E X.w0.heap.size (some ⟨g, 0, none⟩) 0 0 [] true) fun ob => put X.n o.dst (.v (.slice (some ⟨g, 0, none⟩) 0 0)) ⟨s.fr, s.m, ob⟩ K) : OpVC X o s K := ⟨fun a w Q hR => by
 obtain ⟨ie, hie⟩ := Option.isSome_iff_exists.1 hie
 have hst : (rwO E X.w0.heap.size (some ⟨w.heap.size, 0, none⟩) 0 0 [] true).st (w.alloc (.cells #[] E.t)) :=
  ⟨by simp [rowsOf], .inr ⟨w.heap.size, 0, #[], rfl, hR.h.upd.size, Blk.new _ _ _, Nat.le_refl _, by unfold maxLen; omega, by simp, by simp [rowsOf]⟩⟩
 have hH := hR.h.obj_new (B := rwO E X.w0.heap.size (some ⟨w.heap.size, 0, none⟩) 0 0 [] true) hst ((Since.refl w).alloc _) (by intro g hg; simp only [rwO, blkOf, List.mem_singleton] at hg; omega)
 obtain ⟨s', r1, r2, r3, r4⟩ := put_of (a := a) (s := ⟨s.fr, s.m, s.ob ++ [rwO E X.w0.heap.size (some ⟨w.heap.size, 0, none⟩) 0 0 [] true]⟩) (v := .v (.slice (some ⟨w.heap.size, 0, none⟩) 0 0)) hR.ds hR.sz hR.fr hH rfl (appO_of (h w.heap.size))
 unfold Oper.wp execOp
 simp only [ho, Array.map_empty, Sem.run_bind, run_b0 w t E.t ie hu hie, Result.andThen_ok]
 exact ⟨s', r1, by rw [r2]; exact Ext.refl _, r4⟩⟩
end
section
variable {X : Cx} {m : List Row} {ob : List Asr} {w w' : World} {s : St}
theorem Hold.perm {ob' : List Asr} (h : Hold X m ob w) (p : ob.Perm ob') : Hold X m ob' w :=
 ⟨h.upd, h.row, h.wf, h.ne, fun A hA => h.obj A (p.symm.subset hA), fun A hA => h.far A (p.symm.subset hA), fun A hA => h.own A (p.symm.subset hA), h.dis.perm p fun {x y} hxy => DisR.symm (A := x) (B := y) hxy⟩
theorem call_hold {f : FuncId} {vs : List SV} {K : SV → St → Prop} (m' : List Row) (ob' : List Asr) (hE : Ext s.m m') (hH : ∀ w, Hold X s.m s.ob w → Hold X m' ob' w) (hv : denL m' vs = denL s.m vs) (h : CallVC X f vs ⟨s.fr, m', ob'⟩ K) : CallVC X f vs s K := by
 refine ⟨h.out.1, fun w hh => ?_⟩
 have := h.out.2 w (hH w hh)
 rw [show denL (St.m ⟨s.fr, m', ob'⟩) vs = denL s.m vs from hv] at this
 refine this.mono ?_
 rintro e w' ⟨v, m2, ob2, h1, h2, h3, h4, h5⟩
 exact ⟨v, m2, ob2, h1, h2, hE.trans h3, h4, h5⟩
end
section
variable {X : Cx} {s : St} {o : Oper}
end
section
variable {X : Cx} {s : St}
theorem sm_know {c : Code} {K : Exit → St → Prop} {p : Prop} (h : ∀ w, Hold X s.m s.ob w → p) (k : p → Sm X c s K) : Sm X c s K := ⟨fun a w hR => (k (h w hR.h)).out a w hR⟩
theorem op_know {o : Oper} {K : St → Prop} {p : Prop} (h : ∀ w, Hold X s.m s.ob w → p) (k : p → OpVC X o s K) : OpVC X o s K := ⟨fun a w Q hR => (k (h w hR.h)).out a w Q hR⟩
end
theorem Hold.sub {X : Cx} {m : List Row} {ob ob' : List Asr} {w : World} (h : Hold X m ob w) (p : ob'.Sublist ob) : Hold X m ob' w :=
 ⟨h.upd, h.row, h.wf, h.ne, fun A hA => h.obj A (p.subset hA), fun A hA => h.far A (p.subset hA), fun A hA => h.own A (p.subset hA), h.dis.sublist p⟩
theorem wkh {X : Cx} {s s' : St} (ob' : List Asr) (hH : ∀ w, Hold X s.m s.ob w → Hold X s.m ob' w) (h : Wk X ⟨s.fr, s.m, ob'⟩ s') : Wk X s s' := ⟨fun a w hR => h.out a w ⟨hR.ds, hR.sz, hR.fr, hH w hR.h⟩⟩
theorem sm_meet {X : Cx} {s : St} {ι : Type} (I : ι → St) {c : Code} {K : Exit → St → Prop} (h : Sm X c s (mtK X I K)) (hr : ∀ x, K .normal (I x)) : Sm X c s K := ⟨fun a w hR => Code.wp_mono (fun e a' w' hq => by
 cases e with
 | normal =>
  obtain ⟨s', r', hb⟩ := hq
  obtain ⟨y, hw⟩ := hb.out
  exact ⟨I y, hw.out a' w' r', hr y⟩
 | exit id => exact hq
 | ret => exact hq
 | _ => exact hq.elim) (h.out a w hR)⟩
theorem hob {X : Cx} {m : List Row} {ob : List Asr} {w : World} (h : Hold X m ob w) {A : Asr} (i : Nat) (hA : ob[i]? = some A) : A.st w := h.obj A (List.mem_of_getElem? hA)
end En
namespace En
open Go.RowKit Ba Mem
section
variable {X : Cx} {s : St} {o : Oper}
theorem op_open {K : St → Prop} {π : Type} (i : Nat) {A : Asr} (row : π → Row) (hA : s.ob[i]? = some A) (hrw : A.rw = true) (hst : ∀ w, A.st w → ∃ p, (row p).g ∈ A.F ∧ (row p).pre.length = (row p).off ∧ Blk w (row p).g (row p).t (rowA [] (row p)))
  (hok : ∀ p, okL 0 (row p).cs = true) (h : ∀ p, OpVC X o ⟨s.fr, s.m ++ [row p], s.ob.eraseIdx i⟩ K) : OpVC X o s K := ⟨fun a w Q hR => by
 obtain ⟨p, h1, h2, h3⟩ := hst w (hR.h.obj A (List.mem_of_getElem? hA))
 have hE := Ext.app s.m [row p]
 have hd : rowA (s.m ++ [row p]) (row p) = rowA [] (row p) := by unfold rowA; rw [denL0 (hok p)]
 refine Oper.wp_mono (fun a' w' ⟨s', r1, r2, r3⟩ => ⟨s', r1, hE.trans r2, r3⟩) ((h p).out a w Q ⟨hR.ds, hR.sz, hR.fr.ext hE, hR.h.open_ hA hrw (row p) h1 (by rw [hd]; exact h3) (okL_mono (Nat.zero_le _) _ (hok p)) h2⟩)⟩
theorem cell_k {w : World} {g off k : Nat} {cs : List Value} {v : Value} (h : w.rangeAt g off cs) (hk : cs[k]? = some v) : w.rangeAt g (off + k) [v] := fun j u hj => by
 cases j with
 | zero => cases hj; exact h k v hk
 | succ j => simp at hj
end
end En
namespace Rg
open Go.RowKit Ba Mem En Mo Go.Proofs.YtpiiblkiddcgcaaGreat.Ty Go.Proofs.YtpiiblkiddcgcaaGreat.St Gr
open Ct (cfgA carA)
open Et (carsO)
set_option maxRecDepth 100000
attribute [local irreducible] Go.Calls
structure RP where
 A1 : Option Addr
 c1 : Nat
 A2 : Option Addr
 c2 : Nat
def RO (lo q : Nat) (G : GrV) (P : RP) (w : World) : Prop :=
 lo ≤ q ∧ Blk w q 72 (grpA G (.slice P.A1 G.cars.length P.c1) (.slice P.A2 G.waits.length P.c2)) ∧ CarsAt lo P.A1 G.cars.length P.c1 G.cars w ∧ WaitsAt lo P.A2 G.waits.length P.c2 G.waits w
def FP (q : Nat) (P : RP) : List Nat := q :: (blkOf P.A1 ++ blkOf P.A2)
section
variable {w w' : World} {lo q b : Nat} {G : GrV} {P : RP} {T : List Nat}
theorem RO.upd (k : Upd T w w') (h : RO lo q G P w) (hT : ∀ g ∈ FP q P, g ∉ T) : RO lo q G P w' :=
 ⟨h.1, k.blk h.2.1 (hT _ (by simp [FP])), k.own h.2.2.1 (fun g hg => hT g (by simp [FP, hg])), k.own h.2.2.2 (fun g hg => hT g (by simp [FP, hg]))⟩
theorem RO.low (h : RO lo q G P w) : ∀ g ∈ FP q P, lo ≤ g := by
 intro g hg
 rcases List.mem_cons.1 hg with rfl | hg
 ·exact h.1
 ·exact (List.mem_append.1 hg).elim (own_low h.2.2.1 g) (own_low h.2.2.2 g)
theorem RO.lt (h : RO lo q G P w) : ∀ g ∈ FP q P, g < w.heap.size := by
 intro g hg
 rcases List.mem_cons.1 hg with rfl | hg
 ·exact h.2.1.lt
 ·exact (List.mem_append.1 hg).elim (own_lt h.2.2.1 g) (own_lt h.2.2.2 g)
end
def rgO (lo q : Nat) (G : GrV) (P : RP) (rw : Bool) : Asr := ⟨FP q P, rw, RO lo q G P, fun k h hs => hs.upd k h, fun h => h.lt⟩
abbrev roM (q : Nat) (G : GrV) (A1 : Option Addr) (n1 c1 : Nat) (A2 : Option Addr) (n2 c2 : Nat) : List Row := [⟨q, 72, true, 0, [], [.i .i64 G.c.ca, .i .i64 G.c.fl, .i .i64 G.c.ft, .i .i64 G.c.se, .i .i64 G.c.dr, .i .i64 G.c.dw, .i .i64 G.c.ho, .i .i64 G.c.re, .i .i64 G.c.yi, .i .i64 G.c.qu, .i .i64 G.c.qo, .i .i64 G.c.lo, .i .i64 G.c.sl, .i .i64 G.c.rt, .i .i64 G.c.cp, .i .i64 G.c.tr, .i .i64 G.c.de, .i .i64 G.c.wi, .v (.slice A1 n1 c1), .v (.slice A2 n2 c2), .i .i64 G.now], [], true⟩]
theorem hold_ro {lo q n : Nat} {G : GrV} {P : RP} {w : World} (hg : RO lo q G P w) : Hold ⟨Tryz.prog, tab, FP q P, w, n, []⟩ (roM q G P.A1 G.cars.length P.c1 P.A2 G.waits.length P.c2) [carsO lo P.A1 G.cars.length P.c1 G.cars true, waitsO lo P.A2 G.waits.length P.c2 G.waits true] w := by
 obtain ⟨A1, c1, A2, c2⟩ := P
 obtain ⟨h0, B, O1, O2⟩ := hg
 have hq1 : q ∉ blkOf A1 := own_ne_ty O1 B (by decide)
 have hq2 : q ∉ blkOf A2 := own_ne_ty O2 B (by decide)
 refine Hold.addObj (Hold.addObj (Hold.addRow (m := []) (Hold.nil _ tab _ n w) ⟨q, 72, true, 0, [], [.i .i64 G.c.ca, .i .i64 G.c.fl, .i .i64 G.c.ft, .i .i64 G.c.se, .i .i64 G.c.dr, .i .i64 G.c.dw, .i .i64 G.c.ho, .i .i64 G.c.re, .i .i64 G.c.yi, .i .i64 G.c.qu, .i .i64 G.c.qo, .i .i64 G.c.lo, .i .i64 G.c.sl, .i .i64 G.c.rt, .i .i64 G.c.cp, .i .i64 G.c.tr, .i .i64 G.c.de, .i .i64 G.c.wi, .v (.slice A1 G.cars.length c1), .v (.slice A2 G.waits.length c2), .i .i64 G.now], [], true⟩ B (fun _ => .inl (by simp [FP])) (by intro q hq; cases hq) (by intro A hA; cases hA)) (carsO lo A1 G.cars.length c1 G.cars true) O1 (fun _ g hg => .inl (List.mem_cons_of_mem _ (List.mem_append.2 (.inl hg)))) (by intro r hr _; simp only [List.nil_append, List.mem_singleton] at hr; subst hr; exact hq1) (by intro A hA; cases hA))
  (waitsO lo A2 G.waits.length c2 G.waits true) O2 (fun _ g hg => .inl (List.mem_cons_of_mem _ (List.mem_append.2 (.inr hg)))) (by intro r hr _; simp only [List.nil_append, List.mem_singleton] at hr; subst hr; exact hq2) ?_
 intro A hA
 simp only [List.nil_append, List.mem_singleton] at hA
 subst hA
 intro _ g hg hg2
 rcases own_at O1 with ⟨h, _⟩ | ⟨g1, cur, h, _, B1, _⟩
 ·have h : A1 = none := h
  subst h; cases hg
 ·have h : A1 = some ⟨g1, 0, none⟩ := h
  subst h
  have : g = g1 := by simpa [blkOf, carsO] using hg
  subst this
  exact own_ne_ty O2 B1 (by decide) hg2
def RX (lo q : Nat) (P : RP) (w : World) (v : Value) (G : GrV) (e : Ending) (w' : World) : Prop := ∃ P' : RP, e = .returned v ∧ RO lo q G P' w' ∧ Upd (FP q P) w w' ∧ ∀ g ∈ FP q P', g ∈ FP q P ∨ w.heap.size ≤ g
theorem RX.parts {lo q : Nat} {P : RP} {w w' : World} {v : Value} {G : GrV} {e : Ending} (h : RX lo q P w v G e w') : ∃ x : RP, e = .returned v ∧ Blk w' q 72 (grpA G (.slice x.A1 G.cars.length x.c1) (.slice x.A2 G.waits.length x.c2)) ∧ (pairO (carsO lo x.A1 G.cars.length x.c1 G.cars true) (waitsO lo x.A2 G.waits.length x.c2 G.waits true)).st w' ∧ Upd (q :: (pairO (carsO lo P.A1 0 0 [] true) (waitsO lo P.A2 0 0 [] true)).F) w w' ∧ ∀ g ∈ (pairO (carsO lo x.A1 G.cars.length x.c1 G.cars true) (waitsO lo x.A2 G.waits.length x.c2 G.waits true)).F, g ∈ (pairO (carsO lo P.A1 0 0 [] true) (waitsO lo P.A2 0 0 [] true)).F ∨ w.heap.size ≤ g := by
 obtain ⟨x, h1, ⟨h2, h3, h4, h5⟩, h6, h7⟩ := h
 refine ⟨x, h1, h3, ⟨h4, h5⟩, h6, fun g hg => ?_⟩
 rcases h7 g (List.mem_cons_of_mem _ hg) with h | h
 ·rcases List.mem_cons.1 h with rfl | h
  ·rcases List.mem_append.1 hg with hg | hg
   ·exact absurd hg (own_ne_ty h4 h3 (by decide))
   ·exact absurd hg (own_ne_ty h5 h3 (by decide))
  ·exact .inl h
 ·exact .inr h
theorem fin_ro {lo q n n1 n2 c1 c2 lo1 lo2 : Nat} (i j : Nat) {G : GrV} {A1 A2 : Option Addr} {P : RP} {w : World} {V : Value} {v : SV} {cs : List SV} {ls : List CarV} {ws : List WaitV} {st : St}
  (hr : st.m[0]? = some ⟨q, 72, true, 0, [], cs, [], true⟩) (hi : st.ob[i]? = some (carsO lo1 A1 n1 c1 ls true)) (hj : st.ob[j]? = some (waitsO lo2 A2 n2 c2 ws true))
  (hv : den st.m v = V) (h0 : lo ≤ q) (hl1 : lo ≤ lo1) (hl2 : lo ≤ lo2) (h1 : n1 = G.cars.length) (h2 : n2 = G.waits.length) (h3 : ls = G.cars) (h4 : ws = G.waits) (hcs : (denL st.m cs).toArray = grpA G (.slice A1 n1 c1) (.slice A2 n2 c2)) :
  Fin ⟨Tryz.prog, tab, FP q P, w, n, []⟩ (RX lo q P w V G) v st := by
 subst h1 h2 h3 h4
 refine fin fun w' hH => ?_
 have oc := List.mem_of_getElem? hi
 have ow := List.mem_of_getElem? hj
 refine ⟨⟨A1, c1, A2, c2⟩, by rw [hv], ⟨h0, ?_, own_base (hH.obj _ oc) hl1, own_base (hH.obj _ ow) hl2⟩, hH.upd, fun g hg => ?_⟩
 ·have := hH.row 0 _ hr rfl
  rw [rowA_nil rfl rfl] at this
  rw [← hcs]; exact this
 ·rcases List.mem_cons.1 hg with rfl | hg
  ·exact (hH.wf 0 _ hr rfl).2.2 rfl
  ·exact (List.mem_append.1 hg).elim (hH.own _ oc rfl g) (hH.own _ ow rfl g)
theorem fin_rc {lo q n n1 n2 c1 c2 lo1 lo2 g x : Nat} (k j : Nat) {G : GrV} {A2 : Option Addr} {P : RP} {w : World} {V : Value} {v : SV} {cs ce : List SV} {ls : List CarV} {ws : List WaitV} {st : St} {y : CarV} (p : cPS lo1 g n1 c1 x ls)
  (hr : st.m[0]? = some ⟨q, 72, true, 0, [], cs, [], true⟩) (hk : st.m[k]? = some ⟨g, 67, true, 0 + x * 15, p.1.1, ce, p.1.2, true⟩) (hj : st.ob[j]? = some (waitsO lo2 A2 n2 c2 ws true))
  (hv : den st.m v = V) (h0 : lo ≤ q) (hl1 : lo ≤ lo1) (hl2 : lo ≤ lo2) (h1 : n1 = G.cars.length) (h2 : n2 = G.waits.length) (h3 : ls.set x y = G.cars) (h4 : ws = G.waits) (hcs : (denL st.m cs).toArray = grpA G (.slice (some ⟨g, 0, none⟩) n1 c1) (.slice A2 n2 c2)) (hce : (denL st.m ce).toArray = carA y) :
  Fin ⟨Tryz.prog, tab, FP q P, w, n, []⟩ (RX lo q P w V G) v st := by
 subst h1 h2 h4
 refine fin fun w' hH => ?_
 have ow := List.mem_of_getElem? hj
 have hb : CarsAt lo1 (some ⟨g, 0, none⟩) G.cars.length c1 G.cars w' := by
  have hw := hH.row k _ hk rfl
  have q0 := p.2.2 y w' (by rw [← hce]; exact hw)
  rw [h3] at q0; exact q0
 refine ⟨⟨some ⟨g, 0, none⟩, c1, A2, c2⟩, by rw [hv], ⟨h0, ?_, own_base hb hl1, own_base (hH.obj _ ow) hl2⟩, hH.upd, fun b hg => ?_⟩
 ·have := hH.row 0 _ hr rfl
  rw [rowA_nil rfl rfl] at this
  rw [← hcs]; exact this
 ·rcases List.mem_cons.1 hg with rfl | hg
  ·exact (hH.wf 0 _ hr rfl).2.2 rfl
  ·rcases List.mem_append.1 hg with hg | hg
   ·have e : b = g := by simpa [blkOf] using hg
    rw [e]; exact (hH.wf k _ hk rfl).2.2 rfl
   ·exact hH.own _ ow rfl b hg
def waitE : Ek WaitV := ⟨76, 4, waitL, waitL_len, waitL_one⟩
def carE : Ek CarV := ⟨67, 15, carL, carL_len, carL_one⟩
end Rg
namespace Sc
open Go.RowKit Ba Go.Proofs.YtpiiblkiddcgcaaGreat.St
set_option maxRecDepth 100000
theorem otR (way : Int) (h : way = 1 ∨ way = 2) (w : World) : Calls Tryz.prog 169 #[.int .i64 way] w fun e w' => e = .returned (.int .i64 (ot way)) ∧ w = w' := by
 rcases h with rfl | rfl
 all_goals
  go_enter Tryz.func169, Tryz.ntmps169
  go_wp2
  go_ret
  exact ⟨rfl, rfl⟩
set_option maxHeartbeats 2000000 in
theorem nextR0 (p u d f j : Int) (hp : R p) (hu : R u) (hd : R d) (w : World) : Calls Tryz.prog 91 #[.agg #[.int .u64 p, .int .u64 u, .int .u64 d], .int .i64 f, .int .i64 0, .int .i64 j] w fun e w' => e = .returned (.tuple #[.int .i64 (nxW p u d f 0 j), .bool (nxO p u d f 0 j)]) ∧ Since w w' := by
 by_cases hf : f = j
 ·subst hf
  have HW := Lib.hid (show nxW p u d f 0 f = stW p u d f f from if_pos rfl)
  have HO := Lib.hid (show nxO p u d f 0 f = svB p u d f f from if_pos rfl)
  go_enter Tryz.func91, Tryz.ntmps91
  go_wp2_with (first | (go_at_call 167; refine (anyR _ _ _ _ hp hu hd _).mono ?_; rintro e w1 ⟨rfl, hb1⟩; have hq1 : w.heap.size < w1.heap.size := (by have := hb1.size; (try simp at this); omega); obtain ⟨hc1, hf1⟩ := hb1.cf) | (go_at_call 168; refine (aheadR _ _ _ _ _ hp hu hd _).mono ?_; rintro e w1 ⟨rfl, hb1⟩; have hq1 : w.heap.size < w1.heap.size := (by have := hb1.size; (try simp at this); omega); obtain ⟨hc1, hf1⟩ := hb1.cf) | (go_at_call 92; refine (hallR _ _ _ _ _ hu hd _).mono ?_; rintro e w1 ⟨rfl, hb1⟩; have hq1 : w.heap.size < w1.heap.size := (by have := hb1.size; (try simp at this); omega); obtain ⟨hc1, hf1⟩ := hb1.cf))
  all_goals
   go_ret2
   exact ⟨ret_wo (by rw [HW.out]; unfold stW svB fst2; first | (simp [*]; done) | (simp_all; done)) (by rw [HO.out]; unfold svB; first | (simp [*]; done) | (simp_all; done)), sn_⟩
 ·have e1 : (f == j) = false := by simpa using hf
  have e2 : (f != j) = true := by simpa using hf
  have HW := Lib.hid (show nxW p u d f 0 j = stW p u d f j from if_pos rfl)
  have HO := Lib.hid (show nxO p u d f 0 j = svB p u d f j from if_pos rfl)
  go_enter Tryz.func91, Tryz.ntmps91
  go_wp2_with (first | (go_at_call 167; refine (anyR _ _ _ _ hp hu hd _).mono ?_; rintro e w1 ⟨rfl, hb1⟩; have hq1 : w.heap.size < w1.heap.size := (by have := hb1.size; (try simp at this); omega); obtain ⟨hc1, hf1⟩ := hb1.cf) | (go_at_call 168; refine (aheadR _ _ _ _ _ hp hu hd _).mono ?_; rintro e w1 ⟨rfl, hb1⟩; have hq1 : w.heap.size < w1.heap.size := (by have := hb1.size; (try simp at this); omega); obtain ⟨hc1, hf1⟩ := hb1.cf) | (go_at_call 92; refine (hallR _ _ _ _ _ hu hd _).mono ?_; rintro e w1 ⟨rfl, hb1⟩; have hq1 : w.heap.size < w1.heap.size := (by have := hb1.size; (try simp at this); omega); obtain ⟨hc1, hf1⟩ := hb1.cf))
  all_goals
   go_ret2
   exact ⟨ret_wo (by rw [HW.out]; unfold stW svB fst2; first | (simp [*]; done) | (simp_all; done)) (by rw [HO.out]; unfold svB; first | (simp [*]; done) | (simp_all; done)), sn_⟩
theorem sv_way (p u d f j way : Int) (h : way = 1 ∨ way = 2) : svB p u d f j = (heB p u d f && (!(f == j) || (!ahB (al p u d) f way && !ahB (al p u d) f (ot way)))) := by
 rcases h with rfl | rfl
 ·rfl
 ·unfold svB
  show _ = (heB p u d f && (!(f == j) || (!ahB (al p u d) f 2 && !ahB (al p u d) f 1)))
  rw [Bool.and_comm (!ahB (al p u d) f 1)]
set_option maxHeartbeats 4000000 in
theorem nextRe (p u d f way : Int) (hw : way = 1 ∨ way = 2) (hp : R p) (hu : R u) (hd : R d) (w : World) : Calls Tryz.prog 91 #[.agg #[.int .u64 p, .int .u64 u, .int .u64 d], .int .i64 f, .int .i64 way, .int .i64 f] w fun e w' => e = .returned (.tuple #[.int .i64 (nxW p u d f way f), .bool (nxO p u d f way f)]) ∧ Since w w' := by
 have HWW := Lib.hid hw
 have hz : (way == 0) = false := by rcases hw with rfl | rfl <;> rfl
 have HW := Lib.hid (show nxW p u d f way f = onW p u d f way f from if_neg (by simpa using hz))
 have HO := Lib.hid (show nxO p u d f way f = onO p u d f way f from if_neg (by simpa using hz))
 have HSV := Lib.hid (sv_way p u d f f way hw)
 have HP := Lib.hid (show heB p 0 0 f = mem p f by unfold heB; rw [al_mem hp R.zero R.zero]; simp [mem, tb])
 clear hw
 go_enter Tryz.func91, Tryz.ntmps91
 go_wp2_with fail
 refine (anyR _ _ _ _ hp hu hd _).mono ?_
 rintro e w1 ⟨rfl, hb1⟩
 have hq1 : w.heap.size < w1.heap.size := by have := hb1.size; simp at this; omega
 have g0 : w1.cell? ⟨w.heap.size, 0, none⟩ = some (.int .u64 p) := new_alloc hb1 rfl
 have g1 : w1.cell? ⟨w.heap.size, 1, none⟩ = some (.int .u64 u) := new_alloc hb1 rfl
 have g2 : w1.cell? ⟨w.heap.size, 2, none⟩ = some (.int .u64 d) := new_alloc hb1 rfl
 go_wp2_with fail
 have hrK : ∀ W W' : World, Since W W' → (Since (w1) W ∧ W.cell? ⟨w.heap.size, 0, none⟩ = some (.int .u64 p) ∧ W.cell? ⟨w.heap.size, 1, none⟩ = some (.int .u64 u) ∧ W.cell? ⟨w.heap.size, 2, none⟩ = some (.int .u64 d)) → (Since (w1) W' ∧ W'.cell? ⟨w.heap.size, 0, none⟩ = some (.int .u64 p) ∧ W'.cell? ⟨w.heap.size, 1, none⟩ = some (.int .u64 u) ∧ W'.cell? ⟨w.heap.size, 2, none⟩ = some (.int .u64 d)) := fun W W' k ⟨h, h0, h1, h2⟩ => ⟨h.trans k, keep_cell k h0, keep_cell k h1, keep_cell k h2⟩
 have hrS : (fun W : World => Since (w1) W ∧ W.cell? ⟨w.heap.size, 0, none⟩ = some (.int .u64 p) ∧ W.cell? ⟨w.heap.size, 1, none⟩ = some (.int .u64 u) ∧ W.cell? ⟨w.heap.size, 2, none⟩ = some (.int .u64 d)) (w1) := ⟨Since.refl _, by first | assumption | (simp; done), by first | assumption | (simp; done), by first | assumption | (simp; done)⟩
 have hrD : (fun W : World => Since (w1) W ∧ W.cell? ⟨w.heap.size, 0, none⟩ = some (.int .u64 p) ∧ W.cell? ⟨w.heap.size, 1, none⟩ = some (.int .u64 u) ∧ W.cell? ⟨w.heap.size, 2, none⟩ = some (.int .u64 d)) (World.drew (w1)) := ⟨(Since.refl _).drew, hrS.2⟩
 have HRK := Lib.hid hrK
 have HRD := Lib.hid hrD
 clear hrK hrS hrD
 go_region_held3 (fun W => Since (w1) W ∧ W.cell? ⟨w.heap.size, 0, none⟩ = some (.int .u64 p) ∧ W.cell? ⟨w.heap.size, 1, none⟩ = some (.int .u64 u) ∧ W.cell? ⟨w.heap.size, 2, none⟩ = some (.int .u64 d)) (first | exact HRD.out | (apply HRK.out; assumption; assumption)) (first | (go_at_call 168; refine (aheadR _ _ _ _ _ hp hu hd _).mono ?_; rintro e w2 ⟨rfl, hb2⟩) | (go_at_call 169; refine (otR _ HWW.out _).mono ?_; rintro e w' ⟨rfl, rfl⟩))
 rename_i hq
 obtain ⟨hs2, hc2_0_0, hc2_0_1, hc2_0_2⟩ := hq
 clear HRK HRD
 have hl2_0 : w.heap.size < w2.heap.size := World.block_lt_of_cell? _ _ hc2_0_0
 have HS2 := Lib.hid hs2
 clear hs2
 go_wp2_with (first | (go_at_call 92; refine (hallR _ _ _ _ _ hu hd _).mono ?_; rintro e w3 ⟨rfl, hb3⟩; have hq3 : w.heap.size < w3.heap.size := (by have := hb3.size; omega); obtain ⟨hc3, hf3⟩ := hb3.cf) | (go_at_call 170; refine (hasR _ _ hp _).mono ?_; rintro e w' ⟨rfl, rfl⟩) | (go_at_call 169; refine (otR _ HWW.out _).mono ?_; rintro e w' ⟨rfl, rfl⟩))
 any_goals
  go_ret2
  exact ⟨ret_wo (by rw [HW.out]; unfold onW; rw [HSV.out, HP.out]; unfold fst2; first | (simp [*]; done) | (simp_all; done)) (by rw [HO.out]; unfold onO; rw [HSV.out, HP.out]; first | (simp [*]; done) | (simp_all; done)), sn_⟩
 all_goals
  have g3 := keep_cell hb3 hc2_0_0
  have g4 := keep_cell hb3 hc2_0_1
  have g5 := keep_cell hb3 hc2_0_2
  clear hc3 hf3
  have hrK : ∀ W W' : World, Since W W' → (Since (w3) W ∧ W.cell? ⟨w.heap.size, 0, none⟩ = some (.int .u64 p) ∧ W.cell? ⟨w.heap.size, 1, none⟩ = some (.int .u64 u) ∧ W.cell? ⟨w.heap.size, 2, none⟩ = some (.int .u64 d)) → (Since (w3) W' ∧ W'.cell? ⟨w.heap.size, 0, none⟩ = some (.int .u64 p) ∧ W'.cell? ⟨w.heap.size, 1, none⟩ = some (.int .u64 u) ∧ W'.cell? ⟨w.heap.size, 2, none⟩ = some (.int .u64 d)) := fun W W' k ⟨h, h0, h1, h2⟩ => ⟨h.trans k, keep_cell k h0, keep_cell k h1, keep_cell k h2⟩
  have hrS : (fun W : World => Since (w3) W ∧ W.cell? ⟨w.heap.size, 0, none⟩ = some (.int .u64 p) ∧ W.cell? ⟨w.heap.size, 1, none⟩ = some (.int .u64 u) ∧ W.cell? ⟨w.heap.size, 2, none⟩ = some (.int .u64 d)) (w3) := ⟨Since.refl _, by first | assumption | (simp; done), by first | assumption | (simp; done), by first | assumption | (simp; done)⟩
  have hrD : (fun W : World => Since (w3) W ∧ W.cell? ⟨w.heap.size, 0, none⟩ = some (.int .u64 p) ∧ W.cell? ⟨w.heap.size, 1, none⟩ = some (.int .u64 u) ∧ W.cell? ⟨w.heap.size, 2, none⟩ = some (.int .u64 d)) (World.drew (w3)) := ⟨(Since.refl _).drew, hrS.2⟩
  have HRK := Lib.hid hrK
  have HRD := Lib.hid hrD
  clear hrK hrS hrD
  go_region_held3 (fun W => Since (w3) W ∧ W.cell? ⟨w.heap.size, 0, none⟩ = some (.int .u64 p) ∧ W.cell? ⟨w.heap.size, 1, none⟩ = some (.int .u64 u) ∧ W.cell? ⟨w.heap.size, 2, none⟩ = some (.int .u64 d)) (first | exact HRD.out | (apply HRK.out; assumption; assumption)) (first | (go_at_call 92; refine (hallR _ _ _ _ _ hu hd _).mono ?_; rintro e w4 ⟨rfl, hb4⟩) | (go_at_call 169; refine (otR _ HWW.out _).mono ?_; rintro e w' ⟨rfl, rfl⟩))
  rename_i hq
  obtain ⟨hs4, hc4_0_0, hc4_0_1, hc4_0_2⟩ := hq
  clear HRK HRD
  have hl4_0 : w.heap.size < w4.heap.size := World.block_lt_of_cell? _ _ hc4_0_0
  have HS4 := Lib.hid hs4
  clear hs4
  go_wp2_with (first | (go_at_call 169; refine (otR _ HWW.out _).mono ?_; rintro e w' ⟨rfl, rfl⟩))
  all_goals
   go_ret2
   exact ⟨ret_wo (by rw [HW.out]; unfold onW; rw [HSV.out, HP.out]; unfold fst2; first | (simp [*]; done) | (simp_all; done)) (by rw [HO.out]; unfold onO; rw [HSV.out, HP.out]; first | (simp [*]; done) | (simp_all; done)), sn_⟩
set_option maxHeartbeats 4000000 in
theorem nextRn (p u d f way j : Int) (hf : f ≠ j) (hw : way = 1 ∨ way = 2) (hp : R p) (hu : R u) (hd : R d) (w : World) : Calls Tryz.prog 91 #[.agg #[.int .u64 p, .int .u64 u, .int .u64 d], .int .i64 f, .int .i64 way, .int .i64 j] w fun e w' => e = .returned (.tuple #[.int .i64 (nxW p u d f way j), .bool (nxO p u d f way j)]) ∧ Since w w' := by
 have HWW := Lib.hid hw
 have hz : (way == 0) = false := by rcases hw with rfl | rfl <;> rfl
 have e1 : (f == j) = false := by simpa using hf
 have e2 : (f != j) = true := by simpa using hf
 have HW := Lib.hid (show nxW p u d f way j = onW p u d f way j from if_neg (by simpa using hz))
 have HO := Lib.hid (show nxO p u d f way j = onO p u d f way j from if_neg (by simpa using hz))
 have HSV := Lib.hid (sv_way p u d f j way hw)
 have HP := Lib.hid (show heB p 0 0 f = mem p f by unfold heB; rw [al_mem hp R.zero R.zero]; simp [mem, tb])
 clear hw
 go_enter Tryz.func91, Tryz.ntmps91
 go_wp2_with fail
 refine (anyR _ _ _ _ hp hu hd _).mono ?_
 rintro e w1 ⟨rfl, hb1⟩
 have hq1 : w.heap.size < w1.heap.size := by have := hb1.size; simp at this; omega
 have g0 : w1.cell? ⟨w.heap.size, 0, none⟩ = some (.int .u64 p) := new_alloc hb1 rfl
 have g1 : w1.cell? ⟨w.heap.size, 1, none⟩ = some (.int .u64 u) := new_alloc hb1 rfl
 have g2 : w1.cell? ⟨w.heap.size, 2, none⟩ = some (.int .u64 d) := new_alloc hb1 rfl
 go_wp2_with fail
 have hrK : ∀ W W' : World, Since W W' → (Since (w1) W ∧ W.cell? ⟨w.heap.size, 0, none⟩ = some (.int .u64 p) ∧ W.cell? ⟨w.heap.size, 1, none⟩ = some (.int .u64 u) ∧ W.cell? ⟨w.heap.size, 2, none⟩ = some (.int .u64 d)) → (Since (w1) W' ∧ W'.cell? ⟨w.heap.size, 0, none⟩ = some (.int .u64 p) ∧ W'.cell? ⟨w.heap.size, 1, none⟩ = some (.int .u64 u) ∧ W'.cell? ⟨w.heap.size, 2, none⟩ = some (.int .u64 d)) := fun W W' k ⟨h, h0, h1, h2⟩ => ⟨h.trans k, keep_cell k h0, keep_cell k h1, keep_cell k h2⟩
 have hrS : (fun W : World => Since (w1) W ∧ W.cell? ⟨w.heap.size, 0, none⟩ = some (.int .u64 p) ∧ W.cell? ⟨w.heap.size, 1, none⟩ = some (.int .u64 u) ∧ W.cell? ⟨w.heap.size, 2, none⟩ = some (.int .u64 d)) (w1) := ⟨Since.refl _, by first | assumption | (simp; done), by first | assumption | (simp; done), by first | assumption | (simp; done)⟩
 have hrD : (fun W : World => Since (w1) W ∧ W.cell? ⟨w.heap.size, 0, none⟩ = some (.int .u64 p) ∧ W.cell? ⟨w.heap.size, 1, none⟩ = some (.int .u64 u) ∧ W.cell? ⟨w.heap.size, 2, none⟩ = some (.int .u64 d)) (World.drew (w1)) := ⟨(Since.refl _).drew, hrS.2⟩
 have HRK := Lib.hid hrK
 have HRD := Lib.hid hrD
 clear hrK hrS hrD
 go_region_held3 (fun W => Since (w1) W ∧ W.cell? ⟨w.heap.size, 0, none⟩ = some (.int .u64 p) ∧ W.cell? ⟨w.heap.size, 1, none⟩ = some (.int .u64 u) ∧ W.cell? ⟨w.heap.size, 2, none⟩ = some (.int .u64 d)) (first | exact HRD.out | (apply HRK.out; assumption; assumption)) (first | (go_at_call 168; refine (aheadR _ _ _ _ _ hp hu hd _).mono ?_; rintro e w2 ⟨rfl, hb2⟩) | (go_at_call 169; refine (otR _ HWW.out _).mono ?_; rintro e w' ⟨rfl, rfl⟩))
 rename_i hq
 obtain ⟨hs2, hc2_0_0, hc2_0_1, hc2_0_2⟩ := hq
 clear HRK HRD
 have hl2_0 : w.heap.size < w2.heap.size := World.block_lt_of_cell? _ _ hc2_0_0
 have HS2 := Lib.hid hs2
 clear hs2
 go_wp2_with (first | (go_at_call 92; refine (hallR _ _ _ _ _ hu hd _).mono ?_; rintro e w3 ⟨rfl, hb3⟩; have hq3 : w.heap.size < w3.heap.size := (by have := hb3.size; omega); obtain ⟨hc3, hf3⟩ := hb3.cf) | (go_at_call 170; refine (hasR _ _ hp _).mono ?_; rintro e w' ⟨rfl, rfl⟩) | (go_at_call 169; refine (otR _ HWW.out _).mono ?_; rintro e w' ⟨rfl, rfl⟩))
 any_goals
  go_ret2
  exact ⟨ret_wo (by rw [HW.out]; unfold onW; rw [HSV.out, HP.out]; unfold fst2; first | (simp [*]; done) | (simp_all; done)) (by rw [HO.out]; unfold onO; rw [HSV.out, HP.out]; first | (simp [*]; done) | (simp_all; done)), sn_⟩
 all_goals
  have g3 := keep_cell hb3 hc2_0_0
  have g4 := keep_cell hb3 hc2_0_1
  have g5 := keep_cell hb3 hc2_0_2
  clear hc3 hf3
  have hrK : ∀ W W' : World, Since W W' → (Since (w3) W ∧ W.cell? ⟨w.heap.size, 0, none⟩ = some (.int .u64 p) ∧ W.cell? ⟨w.heap.size, 1, none⟩ = some (.int .u64 u) ∧ W.cell? ⟨w.heap.size, 2, none⟩ = some (.int .u64 d)) → (Since (w3) W' ∧ W'.cell? ⟨w.heap.size, 0, none⟩ = some (.int .u64 p) ∧ W'.cell? ⟨w.heap.size, 1, none⟩ = some (.int .u64 u) ∧ W'.cell? ⟨w.heap.size, 2, none⟩ = some (.int .u64 d)) := fun W W' k ⟨h, h0, h1, h2⟩ => ⟨h.trans k, keep_cell k h0, keep_cell k h1, keep_cell k h2⟩
  have hrS : (fun W : World => Since (w3) W ∧ W.cell? ⟨w.heap.size, 0, none⟩ = some (.int .u64 p) ∧ W.cell? ⟨w.heap.size, 1, none⟩ = some (.int .u64 u) ∧ W.cell? ⟨w.heap.size, 2, none⟩ = some (.int .u64 d)) (w3) := ⟨Since.refl _, by first | assumption | (simp; done), by first | assumption | (simp; done), by first | assumption | (simp; done)⟩
  have hrD : (fun W : World => Since (w3) W ∧ W.cell? ⟨w.heap.size, 0, none⟩ = some (.int .u64 p) ∧ W.cell? ⟨w.heap.size, 1, none⟩ = some (.int .u64 u) ∧ W.cell? ⟨w.heap.size, 2, none⟩ = some (.int .u64 d)) (World.drew (w3)) := ⟨(Since.refl _).drew, hrS.2⟩
  have HRK := Lib.hid hrK
  have HRD := Lib.hid hrD
  clear hrK hrS hrD
  go_region_held3 (fun W => Since (w3) W ∧ W.cell? ⟨w.heap.size, 0, none⟩ = some (.int .u64 p) ∧ W.cell? ⟨w.heap.size, 1, none⟩ = some (.int .u64 u) ∧ W.cell? ⟨w.heap.size, 2, none⟩ = some (.int .u64 d)) (first | exact HRD.out | (apply HRK.out; assumption; assumption)) (first | (go_at_call 92; refine (hallR _ _ _ _ _ hu hd _).mono ?_; rintro e w4 ⟨rfl, hb4⟩) | (go_at_call 169; refine (otR _ HWW.out _).mono ?_; rintro e w' ⟨rfl, rfl⟩))
  rename_i hq
  obtain ⟨hs4, hc4_0_0, hc4_0_1, hc4_0_2⟩ := hq
  clear HRK HRD
  have hl4_0 : w.heap.size < w4.heap.size := World.block_lt_of_cell? _ _ hc4_0_0
  have HS4 := Lib.hid hs4
  clear hs4
  go_wp2_with (first | (go_at_call 169; refine (otR _ HWW.out _).mono ?_; rintro e w' ⟨rfl, rfl⟩))
  all_goals
   go_ret2
   exact ⟨ret_wo (by rw [HW.out]; unfold onW; rw [HSV.out, HP.out]; unfold fst2; first | (simp [*]; done) | (simp_all; done)) (by rw [HO.out]; unfold onO; rw [HSV.out, HP.out]; first | (simp [*]; done) | (simp_all; done)), sn_⟩
theorem nextR (p u d f way j : Int) (hw : way = 0 ∨ way = 1 ∨ way = 2) (hp : R p) (hu : R u) (hd : R d) (w : World) : Calls Tryz.prog 91 #[.agg #[.int .u64 p, .int .u64 u, .int .u64 d], .int .i64 f, .int .i64 way, .int .i64 j] w fun e w' => e = .returned (.tuple #[.int .i64 (nxW p u d f way j), .bool (nxO p u d f way j)]) ∧ Since w w' := by
 rcases hw with rfl | hw
 ·exact nextR0 p u d f j hp hu hd w
 ·by_cases hf : f = j
  ·subst hf; exact nextRe p u d f way hw hp hu hd w
  ·exact nextRn p u d f way j hf hw hp hu hd w
end Sc
namespace Sc
open Go.Proofs.YtpiiblkiddcgcaaGreat.St
end Sc
namespace Ct
open Go.RowKit Ba Mem Go.Proofs.YtpiiblkiddcgcaaGreat.Ty Do Mo Go.Proofs.YtpiiblkiddcgcaaGreat.St Sc Pl
def mayB (c : CfgV) (x : CarV) : Bool := goodB c x && decide ((x.mo = 0 ∨ x.mo = 1) ∧ (lvB x.un = true ∨ ¬ x.wy = 0) ∧ (¬ x.mo = 1 ∨ (0 ≤ x.ta ∧ x.ta < fl c.fl)))
theorem mayB_iff (c : CfgV) (x : CarV) : mayB c x = true ↔ (goodB c x = true ∧ (x.mo = 0 ∨ x.mo = 1) ∧ (lvB x.un = true ∨ ¬ x.wy = 0) ∧ (¬ x.mo = 1 ∨ (0 ≤ x.ta ∧ x.ta < fl c.fl))) := by unfold mayB; simp
theorem step_un (c : CfgV) (x : CarV) (r : Int) (o k : Bool) : ((stepV c x r o k).un = x.un ∧ (stepV c x r o k).wy = x.wy) ∨ (x.br = false ∧ x.ds = 0 ∧ (stepV c x r o k).ds = 0 ∧ (r = 1 ∨ r = 2) ∧ (stepV c x r o k).wy = r) := by
 show (un1 c x r o k = x.un ∧ wy1 c x r o k = x.wy) ∨ (x.br = false ∧ x.ds = 0 ∧ dS1 c x o k = 0 ∧ (r = 1 ∨ r = 2) ∧ wy1 c x r o k = r)
 unfold un1 wy1
 by_cases g : goesB c x r o k = true
 ·rw [if_pos g, if_pos g]
  have g' := of_decide_eq_true (show decide _ = true from g)
  exact .inr ⟨g'.1, g'.2.1, g'.2.2.1, g'.2.2.2, rfl⟩
 ·rw [if_neg g, if_neg g]
  exact .inl ⟨rfl, rfl⟩
theorem st_in (p u d f j : Int) : stW p u d f j = 0 ∨ stW p u d f j = 1 ∨ stW p u d f j = 2 := by
 unfold stW fst2; (repeat' split) <;> omega
theorem nx_in {p u d f way j : Int} (h : way = 0 ∨ way = 1 ∨ way = 2) : nxW p u d f way j = 0 ∨ nxW p u d f way j = 1 ∨ nxW p u d f way j = 2 := by
 unfold nxW
 split
 ·exact st_in _ _ _ _ _
 ·unfold onW ot
  try unfold stW
  try unfold fst2
  (repeat' split) <;> omega
theorem dw_in (n : Int) : 1 ≤ dwV n ∧ dwV n ≤ 1000 := by unfold dwV m1; (repeat' split) <;> omega
theorem tk_same (c : CfgV) (x : CarV) : (tkX c x).ds = x.ds ∧ (tkX c x).da = x.da ∧ (tkX c x).un = x.un ∧ (tkX c x).br = x.br ∧ (tkX c x).mo = x.mo ∧ (tkX c x).ta = x.ta ∧ (tkX c x).bl = x.bl ∧ (tkX c x).ho = x.ho := by
 unfold tkX ldX goX stX svX
 (repeat' split) <;> exact ⟨rfl, rfl, rfl, rfl, rfl, rfl, rfl, rfl⟩
theorem tk_wy (c : CfgV) (x : CarV) (h : x.wy = 0 ∨ x.wy = 1 ∨ x.wy = 2) : ((tkX c x).wy = 0 ∨ (tkX c x).wy = 1 ∨ (tkX c x).wy = 2) ∧ (lvB x.un = false → x.ds = 0 ∨ (tkX c x).wy = x.wy) ∧ (lvB x.un = false → (tkX c x).wy = x.wy) := by
 have hn := nx_in (p := x.sp) (u := x.su) (d := x.sd) (f := lvN x.un) (j := x.ju) h
 refine ⟨?_, ?_, ?_⟩
 ·unfold tkX ldX goX stX svX nW
  (repeat' split) <;> first | exact h | exact hn
 ·intro hl
  unfold tkX ldX goX stX svX
  rw [hl]
  simp only [if_true]
  (repeat' split) <;> first | exact .inr rfl
 ·intro hl
  unfold tkX ldX goX stX svX
  rw [hl]
  simp only [if_true]
  (repeat' split) <;> rfl
theorem tk_ti (c : CfgV) (x : CarV) (n : Int) (h0 : -n ≤ x.ti) (hn : 0 ≤ n) (h1 : x.ti ≤ 2000) : -(n + 1) ≤ (tkX c x).ti ∧ (tkX c x).ti ≤ 2000 := by
 have hd := dw_in c.dw
 unfold tkX ldX goX stX svX
 (repeat' split) <;> (first | omega | (simp only []; omega) | (dsimp only; omega))
theorem tk_R (c : CfgV) (x : CarV) (hp : R x.sp) (hu : R x.su) (hd : R x.sd) : R (tkX c x).sp ∧ R (tkX c x).su ∧ R (tkX c x).sd := by
 have cU : ∀ f w, R (clU x.su f w) := fun f w => by unfold clU; split; exact an_R hu (bit_R f); exact hu
 have cD : ∀ f w, R (clD x.sd f w) := fun f w => by unfold clD; split; exact an_R hd (bit_R f); exact hd
 unfold tkX ldX goX stX svX
 (repeat' split) <;> first | exact ⟨hp, hu, hd⟩ | exact ⟨an_R hp (bit_R _), cU _ _, cD _ _⟩
theorem tk_may (c : CfgV) (x : CarV) (h : mayB c x = true) : mayB c (tkV c x) = true := by
 rw [mayB_iff] at h
 obtain ⟨hg, hm, hl, ht⟩ := h
 obtain ⟨e1, e2, e3, e4, e5, e6, e7, e8⟩ := tk_same c x
 have hg0 := (goodB_iff c x).1 hg
 have hw := tk_wy c x hg0.2.2.2.1
 have hgX : goodB c (tkX c x) = true := by
  rw [goodB_iff, e1, e2, e3]
  exact ⟨hg0.1, hg0.2.1, hg0.2.2.1, hw.1, hg0.2.2.2.2⟩
 have hgs := good_step c (tkX c x) (tkR x) (tkO x) (tkK c x) hgX
 rw [mayB_iff]
 refine ⟨hgs, ?_, ?_, ?_⟩
 ·show (tkX c x).mo = 0 ∨ (tkX c x).mo = 1
  rw [e5]; exact hm
 ·rcases step_un c (tkX c x) (tkR x) (tkO x) (tkK c x) with ⟨h1, h2⟩ | ⟨_, _, _, h4, h5⟩
  ·cases hq : lvB x.un with
   | true => left; show lvB (stepV c _ _ _ _).un = true; rw [h1, e3]; exact hq
   | false =>
    right
    show ¬ (stepV c _ _ _ _).wy = 0
    rw [h2, hw.2.2 hq]
    rcases hl with h | h
    ·rw [hq] at h; exact absurd h (by decide)
    ·exact h
  ·right; show ¬ (stepV c _ _ _ _).wy = 0; rw [h5]; omega
 ·show ¬ (tkX c x).mo = 1 ∨ (0 ≤ (tkX c x).ta ∧ (tkX c x).ta < fl c.fl)
  rw [e5, e6]; exact ht
theorem may_ta {c : CfgV} {x : CarV} (h : mayB c x = true) (hm : x.mo = 1) : -1099511627776 ≤ x.ta ∧ x.ta ≤ 1099511627776 := by
 have h1 := ((mayB_iff c x).1 h).2.2.2
 have := fl_hi c.fl
 omega
theorem may_bd {c : CfgV} {x : CarV} (h : mayB c x = true) : bdX x ∧ 0 ≤ x.un ∧ x.un ≤ 252 := by
 have hb := good_bd c x ((mayB_iff c x).1 h).1
 exact ⟨⟨⟨hb.1, hb.2.1⟩, by omega, by omega⟩, hb.2.2.1, hb.2.2.2⟩
end Ct
end Go.Proofs.YtpiiblkiddcgcaaGreat
