/-
  What is wanted by the last of these texts, part 21.
  No condition.
-/
import Derived.Test.YtpacieocmogjeaaProg
import Derived.Test.YtpacieocmogjeaaKGv0
import Derived.Test.YtpacieocmogjeaaKGv14
import Derived.Test.YtpacieocmogjeaaKGv16
namespace Go.Proofs.Ytpacieocmogjeaa.Gr
set_option linter.unusedVariables false
set_option linter.unusedSimpArgs false
open Go.RowKit Go.Proofs.Ytpacieocmogjeaa.Ba Go.Proofs.Ytpacieocmogjeaa.Mem Go.Proofs.Ytpacieocmogjeaa.Ty Go.Proofs.Ytpacieocmogjeaa.Mo Go.Proofs.Ytpacieocmogjeaa.St Go.Proofs.Ytpacieocmogjeaa.Sc Go.Proofs.Ytpacieocmogjeaa.Pl
open Go.Proofs.Ytpacieocmogjeaa.Ct (cfgA carA m1 dwV bdX tkV tkF tkW tkS tickT)
open Go.Proofs.Ytpacieocmogjeaa.Et (bl bl_inv inH bestT)
open Go.Proofs.Ytpacieocmogjeaa.Cs (CV fitC)
set_option maxRecDepth 100000
attribute [local irreducible] Go.wpList
theorem own_elS {α : Type} {enc : α → List Value} {k : Nat} (hk : ∀ a, (enc a).length = k) {w : World} {lo g n c i : Nat} {e : TypeId} {ls : List α} {a : α}
    (h : w.ownsRow lo e k (.slice (some ⟨g, 0, none⟩) n c) n (rowsOf enc ls)) (hi : ls[i]? = some a) :
    ∃ P S : List Value, P.length = i * k ∧ Blk w g e (el P (enc a).toArray S) ∧ ∀ a' w', Blk w' g e (el P (enc a').toArray S) → w'.ownsRow lo e k (.slice (some ⟨g, 0, none⟩) n c) n (rowsOf enc (ls.set i a')) := by
  obtain ⟨h1, h2⟩ := List.getElem?_eq_some_iff.1 hi
  obtain ⟨P, S, hP, hB, hb⟩ := own_el hk h h1
  exact ⟨P, S, by rw [hP, Nat.zero_add], by rw [← h2]; exact hB, hb⟩
theorem row_S {α : Type} {enc : α → List Value} {k : Nat} (hk : ∀ a, (enc a).length = k) {w : World} {lo g n c i : Nat} {e : TypeId} {ls : List α} {a : α}
    (h : w.ownsRow lo e k (.slice (some ⟨g, 0, none⟩) n c) n (rowsOf enc ls)) (hi : ls[i]? = some a) : ∀ j v, (enc a)[j]? = some v → w.cell? ⟨g, i * k + j, none⟩ = some v := by
  obtain ⟨h1, h2⟩ := List.getElem?_eq_some_iff.1 hi
  rw [← h2]
  exact own_rng h (rowsOf_at hk h1)
theorem mod_set {α : Type} {l : List α} {i : Nat} {x : α} (f : α → α) (h : l[i]? = some x) : l.modify i f = l.set i (f x) := by
  apply List.ext_getElem?
  intro j
  rw [List.getElem?_modify, List.getElem?_set]
  by_cases hj : i = j
  · subst hj
    obtain ⟨h1, h2⟩ := List.getElem?_eq_some_iff.1 h
    subst h2
    simp [h1]
  · simp [hj]
theorem bestV (c : CfgV) (a : WaitV) (A : Option Addr) (n cap : Nat) (cs : List CarV) (w : World) (hn : n = cs.length) (h : CV w A n (fun j => cs.getD j zeroX)) (hl : n ≤ 10000) (hc : ∀ x ∈ cs, okT x) (ha : okW a) :
    Calls Try.prog 13 #[.agg (cfgA c), .slice A n cap, .agg #[.int .i64 a.fl, .int .i64 a.wy]] w fun e w' => e = .returned (.int .i64 (bestI c cs a)) ∧ Since w w' := by
  subst hn
  exact bestT c a.fl a.wy A _ cap _ w h (by omega) (fun i hi => fit_of (getD_ok hc i hi).2.1) (fun i hi => inH_of (getD_ok hc i hi) ha)
theorem changeL' (q : Nat) (G : GrV) (A : Option Addr) (n c1 : Nat) (v2 : Value) (i : Int) (F : Value) (w : World) (hq : Blk w q 67 (grpA G (.slice A n c1) v2)) (hi : i = -1) : Calls Try.prog 57 #[.pointer (some ⟨q, 0, none⟩), .int .i64 i, F] w fun e w' => e = .returned (.int .i64 1) ∧ w = w' := changeL q G A n c1 v2 i F w hq (by omega)
theorem change1' (q g : Nat) (G : GrV) (n c1 : Nat) (v2 : Value) (i : Nat) (J : Int) (hJ : J = (i : Int)) (F : FuncId) (p0 : Value) (r : Int) (Φ : World → Prop) (w : World) (hq : Blk w q 67 (grpA G (.slice (some ⟨g, 0, none⟩) n c1) v2)) (hi : i < n) (hcf : ∀ (args : Array Value) (w1 : World), (callFunc F args).run Try.prog w1 = .ok (.enter F args) w1)
    (hf : Calls Try.prog F #[.pointer (some ⟨g, i * 15, none⟩), p0] w fun e w' => e = .returned (.int .i64 r) ∧ Φ w') : Calls Try.prog 57 #[.pointer (some ⟨q, 0, none⟩), .int .i64 J, .func (.func F) #[] #[p0]] w fun e w' => e = .returned (.int .i64 r) ∧ Φ w' := by subst hJ; exact change1 q g G n c1 v2 i F p0 r Φ w hq hi hcf hf
set_option maxHeartbeats 4000000 in
theorem assign1T (g off gw ow cp : Nat) (P S P2 S2 : List Value) (x : CarV) (a : WaitV) (w : World) (hb : Blk w g 30 (el P (carA x) S)) (hp : P.length = off) (hw : Blk w gw 55 (el P2 (waitA a) S2)) (hp2 : P2.length = ow) (hc : Blk w cp 92 #[.pointer (some ⟨gw, ow, none⟩)]) : Calls Try.prog 70 #[.pointer (some ⟨g, off, none⟩), .pointer (some ⟨cp, 0, none⟩)] w fun e w' => e = .returned (.int .i64 0) ∧ Blk w' g 30 (el P (carA (hallX a x)) S) ∧ Upd [g] w w' := by
 have HB := Lib.hid hb
 clear hb
 have HP := Lib.hid hp
 clear hp
 have HW := Lib.hid hw
 clear hw
 have HP2 := Lib.hid hp2
 clear hp2
 have HC := Lib.hid hc
 clear hc
 have HNW := Lib.hid (Blk.ne_ HW.out HB.out (by decide)); have HNC := Lib.hid (Blk.ne_ HC.out HB.out (by decide))
 go_enter Try.func70, Try.ntmps70
 go_upto_region 1 with fail
 have HSU := Lib.hid (Upd.refl [g] w)
 have HKS : Hid (KeepS (fun W : World => Upd [g] w W ∧ HasRow W g 30 (P.length + 15 + S.length) ∧ Blk W gw 55 (el P2 (waitA a) S2) ∧ Blk W cp 92 #[.pointer (some ⟨gw, ow, none⟩)]) w) := Lib.hid ⟨fun W W' k ⟨h, h0, h1, h2⟩ => ⟨h.trans k, HasRow.keep k h0, keep_blk k h1, keep_blk k h2⟩, ⟨HSU.out, HasRow.of HB.out el_size, HW.out, HC.out⟩⟩
 have HRK := Lib.hid HKS.out.1
 have HPE := Lib.hid (show Blk (World.drew w) g 30 (el P (carA x) S) from HB.out)
 refine wp_held HKS.out (by kernel_rfl) (fun hHeld => ?_)
 refine tkQ 0 (.pointer (some ⟨g, off, none⟩)) hHeld (h := ?_)
 (try simp only [Act.put, sA, sB, sC])
 refine tkQ 1 (.pointer (some ⟨g, off, none⟩)) hHeld (h := ?_)
 (try simp only [Act.put, sA, sB, sC])
 refine tkQ 2 (.pointer (some ⟨g, off, none⟩)) hHeld (h := ?_)
 (try simp only [Act.put, sA, sB, sC])
 refine tkQ 3 (.pointer (some ⟨g, off + 12, none⟩)) hHeld (h := ?_)
 (try simp only [Act.put, sA, sB, sC])
 refine tkQ 5 (.pointer (some ⟨gw, ow, none⟩)) hHeld (he := by intro w hSw; exact exec_cell 92 _ _ hSw.2.2.2 rfl rfl rfl Try.underlying92 rfl) (h := ?_)
 (try simp only [Act.put, sA, sB, sC])
 refine tkQ 6 (.pointer (some ⟨gw, ow, none⟩)) hHeld (h := ?_)
 (try simp only [Act.put, sA, sB, sC])
 refine tkQ 7 (.pointer (some ⟨gw, ow, none⟩)) hHeld (h := ?_)
 (try simp only [Act.put, sA, sB, sC])
 refine tkQ 8 (.pointer (some ⟨gw, ow, none⟩)) hHeld (h := ?_)
 (try simp only [Act.put, sA, sB, sC])
 refine tkQ 9 (.int .i64 a.fl) hHeld (he := by intro w hSw; exact exec_cell 3 _ _ hSw.2.2.1 (el_at (j := 0) HP2.out rfl) rfl rfl Try.underlying3 rfl) (h := ?_)
 (try simp only [Act.put, sA, sB, sC])
 refine tkQ 10 (.pointer (some ⟨gw, ow, none⟩)) hHeld (he := by intro w hSw; exact exec_cell 92 _ _ hSw.2.2.2 rfl rfl rfl Try.underlying92 rfl) (h := ?_)
 (try simp only [Act.put, sA, sB, sC])
 refine tkQ 11 (.pointer (some ⟨gw, ow, none⟩)) hHeld (h := ?_)
 (try simp only [Act.put, sA, sB, sC])
 refine tkQ 12 (.pointer (some ⟨gw, ow, none⟩)) hHeld (h := ?_)
 (try simp only [Act.put, sA, sB, sC])
 refine tkQ 13 (.pointer (some ⟨gw, ow + 1, none⟩)) hHeld (h := ?_)
 (try simp only [Act.put, sA, sB, sC])
 refine tkQ 14 (.int .i64 a.wy) hHeld (he := by intro w hSw; exact exec_cell 3 _ _ hSw.2.2.1 (el_at (j := 1) HP2.out rfl) rfl rfl Try.underlying3 rfl) (h := ?_)
 (try simp only [Act.put, sA, sB, sC])
 refine wpAnyH_ready (rs := [4]) (by kernel_rfl) (by simp) ?_
 refine AllReadyH.cons (o := ?o1__4) ?h1__4 (fun K hK => ?_) AllReadyH.nil
 case h1__4 => (first | (simp only [gA, gB, gC]; done) | (simp only [gA, gB, gC]; exact rfl))
 rw [if_pos (by rfl)]
 refine wp_q (.agg #[.int .u64 x.sp, .int .u64 x.su, .int .u64 x.sd]) ?e1__4 ?_
 case e1__4 => exact exec_part (n := 3) 28 _ _ HPE.out (el_part (j := 12) HP.out rfl (by show 12 + 3 ≤ 15; decide)) rfl rfl rfl Try.underlying28 rfl (by kernel_rfl)
 refine hK.out _ _ hHeld (fun hHeld2 => ?_)
 clear hK K hHeld2
 (try simp only [Act.put, sA, sB, sC])
 refine wpAnyH_ready (rs := [15]) (by kernel_rfl) (by simp) ?_
 refine AllReadyH.cons (o := ?o1__15) ?h1__15 (fun K hK => ?_) AllReadyH.nil
 case h1__15 => (first | (simp only [gA, gB, gC]; done) | (simp only [gA, gB, gC]; exact rfl))
 (try go_simp)
 refine (hallT x.sp x.su x.sd a.fl a.wy _).mono ?_
 rintro e w2 ⟨rfl, hb⟩
 (try go_wp2_with fail)
 refine hK.out _ _ (by (apply HRK.out; exact hb; exact hHeld)) (fun hHeld2 => ?_)
 have HPEk := Lib.hid (keep_blk hb HPE.out)
 clear HPE
 clear hK K hHeld hb
 have hHeld := hHeld2
 clear hHeld2
 (try simp only [Act.put, sA, sB, sC])
 refine tkQ 16 (.pointer (some ⟨g, off, none⟩)) hHeld (h := ?_)
 (try simp only [Act.put, sA, sB, sC])
 refine tkQ 17 (.pointer (some ⟨g, off + 12, none⟩)) hHeld (h := ?_)
 (try simp only [Act.put, sA, sB, sC])
 refine wpAnyH_ready (rs := [18]) (by kernel_rfl) (by simp) ?_
 refine AllReadyH.cons (o := ?o1__18) ?h1__18 (fun K hK => ?_) AllReadyH.nil
 case h1__18 => (first | (simp only [gA, gB, gC]; done) | (simp only [gA, gB, gC]; exact rfl))
 rw [if_pos (by rfl)]
 refine wp_st_part 28 _ _ rfl (el P #[.int .i64 x.ds, .int .i64 x.da, .int .i64 x.un, .int .i64 x.wy, .int .i64 x.ti, .int .i64 x.ju, .int .i64 x.lo, .bool x.bl, .bool x.br, .int .i64 x.mo, .int .i64 x.ta, .bool x.ho, .int .u64 x.sp, .int .u64 (haU x.su a.fl a.wy), .int .u64 (haD x.sd a.fl a.wy)] S) (#[.int .u64 x.sp, .int .u64 (haU x.su a.fl a.wy), .int .u64 (haD x.sd a.fl a.wy)]) rfl rfl HPEk.out (el_le (j := 12) HP.out (by show 12 + 3 ≤ 15; decide)) (el_put (j := 12) HP.out (by show 12 + 3 ≤ 15; decide) rfl) (by simp [cfgA, carA, waitA, grpA, Value.oneCell']) (by kernel_rfl) ?_
 clear HPEk
 intro w3 hw
 have HRE := Lib.hid (show Blk w3 g 30 (el P #[.int .i64 x.ds, .int .i64 x.da, .int .i64 x.un, .int .i64 x.wy, .int .i64 x.ti, .int .i64 x.ju, .int .i64 x.lo, .bool x.bl, .bool x.br, .int .i64 x.mo, .int .i64 x.ta, .bool x.ho, .int .u64 x.sp, .int .u64 (haU x.su a.fl a.wy), .int .u64 (haD x.sd a.fl a.wy)] S) by obtain ⟨old, Bo, _⟩ := hHeld.2.1; rw [hw]; exact Blk.row Bo _)
 have hHeld3 := HKS.out.at_ w3 ⟨by rw [hw]; exact Upd.setRow hHeld.1 (.inl (by simp)) _, HasRow.of HRE.out el_size, by rw [hw]; exact Blk.row_far (hHeld.2.2.1) HNW.out _, by rw [hw]; exact Blk.row_far (hHeld.2.2.2) HNC.out _⟩
 refine hK.out _ _ hHeld3 (fun hHeld2 => ?_)
 clear hK K hHeld hHeld3 hw
 have hHeld := hHeld2
 clear hHeld2
 (try simp only [Act.put, sA, sB, sC])
 refine wpAnyH_done (by kernel_rfl) ?_ _
 have HSd1 := Lib.hid hHeld.1
 have HBEd1 := Lib.hid HRE.out
 clear HRE
 have HBWd1 := Lib.hid (hHeld.2.2.1)
 have HBCd1 := Lib.hid (hHeld.2.2.2)
 clear hHeld HRK HKS HSU HB HW HC
 go_upto_region 2 with fail
 refine wp_region_lit ?_
 refine tkL (.int .i64 0) (h := ?_)
 (try simp only [Act.put, sA, sB, sC])
 refine wpList_nil ?_
 (try go_wp2_with fail)
 go_ret
 exact ⟨rfl, HBEd1.out, HSd1.out⟩
set_option maxHeartbeats 4000000 in
theorem assignT (lo q : Nat) (G : GrV) (A1 A2 : Option Addr) (c1 c2 : Nat) (w : World) (hq : Blk w q 67 (grpA G (.slice A1 G.cars.length c1) (.slice A2 G.waits.length c2))) (ho1 : CarsAt lo A1 G.cars.length c1 G.cars w) (ho2 : WaitsAt lo A2 G.waits.length c2 G.waits w) (hl1 : G.cars.length ≤ 10000) (hl2 : G.waits.length ≤ 10000) (hk1 : ∀ x ∈ G.cars, okT x) (hk2 : ∀ a ∈ G.waits, okW a) : Calls Try.prog 45 #[.pointer (some ⟨q, 0, none⟩)] w fun e w' => e = .returned (.tuple #[]) ∧ CarsAt lo A1 G.cars.length c1 (asgN G.c G.waits G.cars G.waits.length).2 w' ∧ WaitsAt lo A2 G.waits.length c2 (asgN G.c G.waits G.cars G.waits.length).1 w' ∧ Upd (blkOf A1 ++ blkOf A2) w w' := by
 have HQ := Lib.hid hq
 clear hq
 have HO1 := Lib.hid ho1
 clear ho1
 have HO2 := Lib.hid ho2
 clear ho2
 have HL1 := Lib.hid hl1
 clear hl1
 have HL2 := Lib.hid hl2
 clear hl2
 have HK1 := Lib.hid hk1
 clear hk1
 have HK2 := Lib.hid hk2
 clear hk2
 have HIQ1 := Lib.hid (own_ne_ty HO1.out HQ.out (by decide)); have HIQ2 := Lib.hid (own_ne_ty HO2.out HQ.out (by decide))
 go_enter Try.func45, Try.ntmps45
 have HSU := Lib.hid (Upd.refl (blkOf A1 ++ blkOf A2) w)
 go_upto_region 0 with fail
 refine wp_region_lit ?_
 refine tkL (.pointer (some ⟨q, 0, none⟩)) (h := ?_)
 (try simp only [Act.put, sA, sB, sC])
 refine tkL (.pointer (some ⟨q, 0, none⟩)) (h := ?_)
 (try simp only [Act.put, sA, sB, sC])
 refine tkL (.pointer (some ⟨q, 19, none⟩)) (h := ?_)
 (try simp only [Act.put, sA, sB, sC])
 refine wpList_q (by rfl) (.slice A2 G.waits.length c2) ?he ?_
 case he => exact exec_cell 50 _ _ HQ.out rfl rfl rfl Try.underlying50 rfl
 (try simp only [Act.put, sA, sB, sC])
 refine tkL (.int .i64 (G.waits.length : Int)) (h := ?_)
 (try simp only [Act.put, sA, sB, sC])
 refine tkL (.int .i64 0) (h := ?_)
 (try simp only [Act.put, sA, sB, sC])
 refine wpList_nil ?_
 go_wp2_with fail
 refine wp_uloop (ds := []) (fun n fr wr => ∃ (i : Nat) (W : List WaitV) (C : List CarV), i ≤ G.waits.length ∧ asgN G.c G.waits G.cars i = (W, C) ∧ (G.waits.length - i) = n ∧ Fits fr 47 [(0, .pointer (some ⟨q, 0, none⟩)), (8, .int .i64 (G.waits.length : Int)), (9, .int .i64 (i : Int))] ∧ Hid (Upd (blkOf A1 ++ blkOf A2) w wr ∧ Blk wr q 67 (grpA G (.slice A1 G.cars.length c1) (.slice A2 G.waits.length c2)) ∧ (wr).ownsRow lo 30 15 (.slice A1 G.cars.length c1) G.cars.length (rowsOf carL C) ∧ (wr).ownsRow lo 55 4 (.slice A2 G.waits.length c2) G.waits.length (rowsOf waitL W))) (G.waits.length - 0) ?start1 ?round1
 case start1 => exact ⟨0, G.waits, G.cars, (by omega), rfl, rfl, ⟨rfl, rfl, rfl, rfl, trivial⟩, Lib.hid ⟨HSU.out, HQ.out, HO1.out, HO2.out⟩⟩
 case round1 =>
  intro n fr wr hR J1 K1 hJ1 hK1
  clear HSU HQ HO1 HO2
  obtain ⟨i, W, C, hi, heq, hn, hF, HO⟩ := hR
  have HM := Lib.hid hn; clear hn
  obtain ⟨g0, g1, g2, g3⟩ := HO.out
  clear HO
  have HS51 := Lib.hid g0
  have HBQ51 := Lib.hid g1
  have HFc51 := Lib.hid g2
  have HFw51 := Lib.hid g3
  clear g0 g1 g2 g3
  obtain ⟨u, hu⟩ := hF.open_
  have hu2 := hu.trans (show _ = #[.pointer (some ⟨q, 0, none⟩), u 1, u 2, u 3, u 4, u 5, u 6, u 7, .int .i64 (G.waits.length : Int), .int .i64 (i : Int), u 10, u 11, u 12, u 13, u 14, u 15, u 16, u 17, u 18, u 19, u 20, u 21, u 22, u 23, u 24, u 25, u 26, u 27, u 28, u 29, u 30, u 31, u 32, u 33, u 34, u 35, u 36, u 37, u 38, u 39, u 40, u 41, u 42, u 43, u 44, u 45, u 46] by kernel_rfl)
  clear hu hF
  subst hu2
  have HII := Lib.hid hi; have HEQ := Lib.hid heq; clear hi heq
  have HLW := Lib.hid (show W.length = G.waits.length by have q := (asg_len G.c G.waits G.cars i).1; rw [HEQ.out] at q; exact q); have HLC := Lib.hid (show C.length = G.cars.length by have q := (asg_len G.c G.waits G.cars i).2; rw [HEQ.out] at q; exact q)
  have HKW := Lib.hid (show ∀ a ∈ W, okW a by have q := (asg_ok (c := G.c) HK2.out HK1.out i).1; rw [HEQ.out] at q; exact q); have HKC := Lib.hid (show ∀ x ∈ C, okT x by have q := (asg_ok (c := G.c) HK2.out HK1.out i).2; rw [HEQ.out] at q; exact q)
  by_cases hcs : i < G.waits.length
  rotate_left
  · have HLT := Lib.hid hcs; clear hcs
    go_upto_region 1 with fail
    refine wp_region_lit ?_
    refine wpList_q (by rfl) (.bool false) ?he ?_
    case he => (have q0 := HLT.out; go_simp; (first | done | rfl | omega))
    (try simp only [Act.put, sA, sB, sC])
    refine wpList_nil ?_
    (try go_wp2_with fail)
    first | go_end0 | refine bodyPost_ret (results_none rfl _ _ _) rfl ?_
    have e : i = G.waits.length := by have := HII.out; have := HLT.out; omega
    subst e
    exact ⟨rfl, by rw [HEQ.out]; exact HFc51.out, by rw [HEQ.out]; exact HFw51.out, HS51.out⟩
  · have HLT := Lib.hid hcs; clear hcs
    go_upto_region 1 with fail
    refine wp_region_lit ?_
    refine wpList_q (by rfl) (.bool true) ?he ?_
    case he => (have q0 := HLT.out; go_simp; (first | done | rfl | omega))
    (try simp only [Act.put, sA, sB, sC])
    refine wpList_nil ?_
    go_upto_region 2 with fail
    refine wp_region_lit ?_
    refine tkL (.int .i64 (i : Int)) (h := ?_)
    (try simp only [Act.put, sA, sB, sC])
    refine tkL (.int .i64 (i : Int)) (h := ?_)
    (try simp only [Act.put, sA, sB, sC])
    refine wpList_nil ?_
    obtain ⟨a, ha⟩ : ∃ a, W[i]? = some a := ⟨_, List.getElem?_eq_getElem (by rw [HLW.out]; exact HLT.out)⟩
    have HA := Lib.hid ha; have HKA := Lib.hid (HKW.out a (List.mem_of_getElem? ha)); clear ha
    obtain ⟨gw, hgw⟩ := own_addr HFw51.out (by have := HLT.out; omega)
    subst hgw
    obtain ⟨P2, S2, hp2, hw2, hback⟩ := own_elS waitL_len HFw51.out HA.out
    have HP2 := Lib.hid hp2; have HW2 := Lib.hid (show Blk wr gw 55 (el P2 (waitA a) S2) from hw2); have HBKW := Lib.hid hback; clear hp2 hw2 hback
    have HNQW := Lib.hid (Blk.ne_ HBQ51.out HW2.out (by decide)); have HIWC := Lib.hid (own_ne_ty HFc51.out HW2.out (by decide))
    go_upto_region 3 with fail
    refine wp_region_lit ?_
    refine tkL (.pointer (some ⟨q, 0, none⟩)) (h := ?_)
    (try simp only [Act.put, sA, sB, sC])
    refine tkL (.pointer (some ⟨q, 0, none⟩)) (h := ?_)
    (try simp only [Act.put, sA, sB, sC])
    refine tkL (.pointer (some ⟨q, 19, none⟩)) (h := ?_)
    (try simp only [Act.put, sA, sB, sC])
    refine wpList_q (by rfl) (.slice (some ⟨gw, 0, none⟩) G.waits.length c2) ?he ?_
    case he => exact exec_cell 50 _ _ HBQ51.out rfl rfl rfl Try.underlying50 rfl
    (try simp only [Act.put, sA, sB, sC])
    refine tkL (.int .i64 (i : Int)) (h := ?_)
    (try simp only [Act.put, sA, sB, sC])
    refine wpList_q (by rfl) (.pointer (some ⟨gw, i * 4, none⟩)) ?he ?_
    case he => (rw [show i * 4 = 0 + i * 4 by omega]; exact exec_index (i := i) (s := 4) 50 55 _ _ rfl rfl rfl rfl HLT.out Try.underlying50 (by kernel_rfl))
    (try simp only [Act.put, sA, sB, sC])
    refine wpList_wp (by rfl) (fun K hK => ?_)
    refine wp_new (fun b => .pointer (some ⟨b, 0, none⟩)) 92 #[.pointer none] (by rintro b rfl; first | rfl | kernel_rfl) ?_
    intro bn3 w52 hge hB hb
    refine hK.out _ _ ?_
    clear hK K
    (try simp only [Act.put, sA, sB, sC])
    have HNn3Q := Lib.hid (show bn3 ≠ q by have := Blk.lt HBQ51.out; omega)
    have HNn3W := Lib.hid (show bn3 ≠ gw by have := Blk.lt HW2.out; omega)
    have HGn3 := Lib.hid (show w.heap.size ≤ bn3 by have := Upd.size HS51.out; omega)
    have HIn3_c := Lib.hid (own_far HFc51.out hge)
    have HIn3_w := Lib.hid (own_far HFw51.out hge)
    have HS52 := Lib.hid (Upd.trans HS51.out hb)
    have HBQ52 := Lib.hid (keep_blk hb HBQ51.out)
    have HBW52 := Lib.hid (keep_blk hb HW2.out)
    have HFc52 := Lib.hid (keep_own hb HFc51.out)
    have HFw52 := Lib.hid (keep_own hb HFw51.out)
    clear HS51 HBQ51 HW2 HFc51 HFw51
    clear hb hge
    have HBn352 := Lib.hid hB
    clear hB
    refine wpList_wp (by rfl) (fun K hK => ?_)
    refine wp_st_cell 92 _ _ rfl #[.pointer (some ⟨gw, i * 4, none⟩)] (.pointer (some ⟨gw, i * 4, none⟩)) rfl rfl HBn352.out (by show 0 < 1; decide) rfl (by first | rfl | simp [Value.oneCell']) (by kernel_rfl) ?_
    intro w53 hw
    refine hK.out _ _ ?_
    clear hK K
    (try simp only [Act.put, sA, sB, sC])
    have HS53 := Lib.hid (show Upd (blkOf A1 ++ blkOf (some ⟨gw, 0, none⟩)) w w53 by rw [hw]; exact Upd.setRow HS52.out (Or.inr HGn3.out) _)
    have HBQ53 := Lib.hid (show Blk w53 q 67 (grpA G (.slice A1 G.cars.length c1) (.slice (some ⟨gw, 0, none⟩) G.waits.length c2)) by rw [hw]; exact Blk.row_far HBQ52.out (Ne.symm HNn3Q.out) _)
    have HBW53 := Lib.hid (show Blk w53 gw 55 (el P2 (waitA a) S2) by rw [hw]; exact Blk.row_far HBW52.out (Ne.symm HNn3W.out) _)
    have HBn353 := Lib.hid (show Blk w53 bn3 92 #[.pointer (some ⟨gw, i * 4, none⟩)] by rw [hw]; exact Blk.row HBn352.out _)
    have HFc_53 := Lib.hid (show (w53).ownsRow lo 30 15 (.slice A1 G.cars.length c1) G.cars.length (rowsOf carL C) by rw [hw]; exact own_row_far HFc52.out HIn3_c.out _)
    have HFw_53 := Lib.hid (show (w53).ownsRow lo 55 4 (.slice (some ⟨gw, 0, none⟩) G.waits.length c2) G.waits.length (rowsOf waitL W) by rw [hw]; exact own_row_far HFw52.out HIn3_w.out _)
    clear hw HS52 HBQ52 HBW52 HBn352 HFc52 HFw52
    refine wpList_nil ?_
    by_cases hcs : a.ca = -1
    rotate_left
    · have HCA := Lib.hid hcs; clear hcs
      go_upto_region 4 with fail
      refine wp_region_lit ?_
      refine wpList_q (by rfl) (.pointer (some ⟨gw, i * 4, none⟩)) ?he ?_
      case he => exact exec_cell 92 _ _ HBn353.out rfl rfl rfl Try.underlying92 rfl
      (try simp only [Act.put, sA, sB, sC])
      refine tkL (.pointer (some ⟨gw, i * 4, none⟩)) (h := ?_)
      (try simp only [Act.put, sA, sB, sC])
      refine tkL (.pointer (some ⟨gw, i * 4 + 2, none⟩)) (h := ?_)
      (try simp only [Act.put, sA, sB, sC])
      refine wpList_q (by rfl) (.int .i64 a.ca) ?he ?_
      case he => exact exec_cell 3 _ _ HBW53.out (el_at (j := 2) HP2.out rfl) rfl rfl Try.underlying3 rfl
      (try simp only [Act.put, sA, sB, sC])
      refine wpList_q (by rfl) (.bool true) ?he ?_
      case he => (have q0 := HCA.out; go_simp; (first | done | rfl | omega))
      (try simp only [Act.put, sA, sB, sC])
      refine wpList_nil ?_
      go_upto_region 7 with fail
      refine wp_region_lit ?_
      refine wpList_q (by rfl) (.int .i64 ((i : Int) + 1)) ?he ?_
      case he => (go_simp; (first | done | (refine wrG _ ?_ ?_ <;> (have q0 := HLT.out; have q1 := HL2.out; omega)) | (have q0 := HLT.out; have q1 := HL2.out; omega) | (have q0 := HLT.out; have q1 := HL2.out; split <;> omega) | (have q0 := HLT.out; have q1 := HL2.out; intro hh; omega)))
      (try simp only [Act.put, sA, sB, sC])
      refine tkL (.int .i64 ((i : Int) + 1)) (h := ?_)
      (try simp only [Act.put, sA, sB, sC])
      refine wpList_nil ?_
      go_wp2_with fail
      refine Met.intro ?_
      refine hJ1 _ _ _ ?less53 ⟨(i + 1), W, C, (by have := HLT.out; omega), (by show asgStep G.c (asgN G.c G.waits G.cars i) i = _; rw [HEQ.out]; unfold asgStep; rw [show (W, C).1[i]? = some a from HA.out]; exact if_neg HCA.out), rfl, ⟨rfl, rfl, rfl, rfl, trivial⟩, Lib.hid ⟨HS53.out, HBQ53.out, HFc_53.out, HFw_53.out⟩⟩
      case less53 => exact (by have := HM.out; have := HLT.out; omega)
    · have HCA := Lib.hid hcs; clear hcs
      go_upto_region 4 with fail
      refine wp_region_lit ?_
      refine wpList_q (by rfl) (.pointer (some ⟨gw, i * 4, none⟩)) ?he ?_
      case he => exact exec_cell 92 _ _ HBn353.out rfl rfl rfl Try.underlying92 rfl
      (try simp only [Act.put, sA, sB, sC])
      refine tkL (.pointer (some ⟨gw, i * 4, none⟩)) (h := ?_)
      (try simp only [Act.put, sA, sB, sC])
      refine tkL (.pointer (some ⟨gw, i * 4 + 2, none⟩)) (h := ?_)
      (try simp only [Act.put, sA, sB, sC])
      refine wpList_q (by rfl) (.int .i64 a.ca) ?he ?_
      case he => exact exec_cell 3 _ _ HBW53.out (el_at (j := 2) HP2.out rfl) rfl rfl Try.underlying3 rfl
      (try simp only [Act.put, sA, sB, sC])
      refine wpList_q (by rfl) (.bool false) ?he ?_
      case he => (have q0 := HCA.out; go_simp; (first | done | rfl | omega))
      (try simp only [Act.put, sA, sB, sC])
      refine wpList_nil ?_
      clear HFw_53
      go_upto_region 5 with fail
      have HKS : Hid (KeepS (fun W : World => Upd (blkOf A1 ++ blkOf (some ⟨gw, 0, none⟩)) w W ∧ Blk W q 67 (grpA G (.slice A1 G.cars.length c1) (.slice (some ⟨gw, 0, none⟩) G.waits.length c2)) ∧ HasRow W gw 55 (P2.length + 4 + S2.length) ∧ Blk W bn3 92 #[.pointer (some ⟨gw, i * 4, none⟩)] ∧ (W).ownsRow lo 30 15 (.slice A1 G.cars.length c1) G.cars.length (rowsOf carL C)) w53) := Lib.hid ⟨fun W W' k ⟨h, h0, h1, h2, h3⟩ => ⟨h.trans k, keep_blk k h0, HasRow.keep k h1, keep_blk k h2, keep_own k h3⟩, ⟨HS53.out, HBQ53.out, HasRow.of HBW53.out el_size, HBn353.out, HFc_53.out⟩⟩
      have HRK := Lib.hid HKS.out.1
      have HPW := Lib.hid (show Blk (World.drew w53) gw 55 (el P2 (waitA a) S2) from HBW53.out)
      refine wp_held HKS.out (by kernel_rfl) (fun hHeld => ?_)
      refine tkQ 0 (.pointer (some ⟨gw, i * 4, none⟩)) hHeld (he := by intro w hSw; exact exec_cell 92 _ _ hSw.2.2.2.1 rfl rfl rfl Try.underlying92 rfl) (h := ?_)
      (try simp only [Act.put, sA, sB, sC])
      refine tkQ 1 (.pointer (some ⟨q, 0, none⟩)) hHeld (h := ?_)
      (try simp only [Act.put, sA, sB, sC])
      refine tkQ 2 (.pointer (some ⟨q, 0, none⟩)) hHeld (h := ?_)
      (try simp only [Act.put, sA, sB, sC])
      refine tkQ 3 (.pointer (some ⟨q, 0, none⟩)) hHeld (h := ?_)
      (try simp only [Act.put, sA, sB, sC])
      refine tkQ 4 (.agg (cfgA G.c)) hHeld (he := by intro w hSw; exact exec_part (n := 18) 23 _ _ hSw.2.1 rfl rfl rfl rfl Try.underlying23 rfl (by kernel_rfl)) (h := ?_)
      (try simp only [Act.put, sA, sB, sC])
      refine tkQ 5 (.pointer (some ⟨q, 0, none⟩)) hHeld (h := ?_)
      (try simp only [Act.put, sA, sB, sC])
      refine tkQ 6 (.pointer (some ⟨q, 0, none⟩)) hHeld (h := ?_)
      (try simp only [Act.put, sA, sB, sC])
      refine tkQ 7 (.pointer (some ⟨q, 18, none⟩)) hHeld (h := ?_)
      (try simp only [Act.put, sA, sB, sC])
      refine tkQ 8 (.slice A1 G.cars.length c1) hHeld (he := by intro w hSw; exact exec_cell 37 _ _ hSw.2.1 rfl rfl rfl Try.underlying37 rfl) (h := ?_)
      (try simp only [Act.put, sA, sB, sC])
      refine tkQ 9 (.pointer (some ⟨gw, i * 4, none⟩)) hHeld (he := by intro w hSw; exact exec_cell 92 _ _ hSw.2.2.2.1 rfl rfl rfl Try.underlying92 rfl) (h := ?_)
      (try simp only [Act.put, sA, sB, sC])
      refine tkQ 10 (.pointer (some ⟨gw, i * 4, none⟩)) hHeld (h := ?_)
      (try simp only [Act.put, sA, sB, sC])
      refine tkQ 11 (.pointer (some ⟨gw, i * 4, none⟩)) hHeld (h := ?_)
      (try simp only [Act.put, sA, sB, sC])
      refine wpAnyH_ready (rs := [12]) (by kernel_rfl) (by simp) ?_
      refine AllReadyH.cons (o := ?o5__12) ?h5__12 (fun K hK => ?_) AllReadyH.nil
      case h5__12 => (first | (simp only [gA, gB, gC]; done) | (simp only [gA, gB, gC]; exact rfl))
      rw [if_pos (by rfl)]
      refine wp_q (.agg #[.int .i64 a.fl, .int .i64 a.wy]) ?e5__12 ?_
      case e5__12 => exact exec_part (n := 2) 32 _ _ HPW.out (el_part (j := 0) HP2.out rfl (by show 0 + 2 ≤ 4; decide)) rfl rfl rfl Try.underlying32 rfl (by kernel_rfl)
      refine hK.out _ _ hHeld (fun hHeld2 => ?_)
      clear hK K hHeld2
      (try simp only [Act.put, sA, sB, sC])
      refine wpAnyH_ready (rs := [13]) (by kernel_rfl) (by simp) ?_
      refine AllReadyH.cons (o := ?o5__13) ?h5__13 (fun K hK => ?_) AllReadyH.nil
      case h5__13 => (first | (simp only [gA, gB, gC]; done) | (simp only [gA, gB, gC]; exact rfl))
      (try go_simp)
      refine (bestV G.c a A1 G.cars.length c1 C _ HLC.out.symm (cv_own (hHeld.2.2.2.2) HLC.out.symm) HL1.out HKC.out HKA.out).mono ?_
      rintro e w54 ⟨rfl, hb⟩
      (try go_wp2_with fail)
      refine hK.out _ _ (by (apply HRK.out; exact hb; exact hHeld)) (fun hHeld2 => ?_)
      have HPWk := Lib.hid (keep_blk hb HPW.out)
      clear HPW
      clear hK K hHeld hb
      have hHeld := hHeld2
      clear hHeld2
      (try simp only [Act.put, sA, sB, sC])
      refine tkQ 14 (.pointer (some ⟨gw, i * 4, none⟩)) hHeld (h := ?_)
      (try simp only [Act.put, sA, sB, sC])
      refine tkQ 15 (.pointer (some ⟨gw, i * 4 + 2, none⟩)) hHeld (h := ?_)
      (try simp only [Act.put, sA, sB, sC])
      refine wpAnyH_ready (rs := [16]) (by kernel_rfl) (by simp) ?_
      refine AllReadyH.cons (o := ?o5__16) ?h5__16 (fun K hK => ?_) AllReadyH.nil
      case h5__16 => (first | (simp only [gA, gB, gC]; done) | (simp only [gA, gB, gC]; exact rfl))
      rw [if_pos (by rfl)]
      refine wp_st_cell 3 _ _ rfl (el P2 #[.int .i64 a.fl, .int .i64 a.wy, .int .i64 (bestI G.c C a), .int .i64 a.si] S2) (.int .i64 (bestI G.c C a)) rfl rfl HPWk.out (el_lt (j := 2) HP2.out (by show 2 < 4; decide)) (el_set (j := 2) HP2.out (by show 2 < 4; decide) rfl) (by first | rfl | simp [Value.oneCell']) (by kernel_rfl) ?_
      clear HPWk
      intro w55 hw
      have HRW := Lib.hid (show Blk w55 gw 55 (el P2 #[.int .i64 a.fl, .int .i64 a.wy, .int .i64 (bestI G.c C a), .int .i64 a.si] S2) by obtain ⟨old, Bo, _⟩ := hHeld.2.2.1; rw [hw]; exact Blk.row Bo _)
      have hHeld3 := HKS.out.at_ w55 ⟨by rw [hw]; exact Upd.setRow hHeld.1 (.inl (by simp [blkOf])) _, by rw [hw]; exact Blk.row_far (hHeld.2.1) HNQW.out _, HasRow.of HRW.out el_size, by rw [hw]; exact Blk.row_far (hHeld.2.2.2.1) HNn3W.out _, by rw [hw]; exact own_row_far (hHeld.2.2.2.2) HIWC.out _⟩
      refine hK.out _ _ hHeld3 (fun hHeld2 => ?_)
      clear hK K hHeld hHeld3 hw
      have hHeld := hHeld2
      clear hHeld2
      (try simp only [Act.put, sA, sB, sC])
      refine wpAnyH_done (by kernel_rfl) ?_ _
      have HSd5 := Lib.hid hHeld.1
      have HBQd5 := Lib.hid (hHeld.2.1)
      have HBWd5 := Lib.hid HRW.out
      clear HRW
      have HBn3d5 := Lib.hid (hHeld.2.2.2.1)
      have HFcd5 := Lib.hid (hHeld.2.2.2.2)
      clear hHeld HRK HKS HS53 HBQ53 HBW53 HBn353 HFc_53
      rcases bestI_at G.c C a with hb | ⟨k, hk, hb⟩
      · have HBB := Lib.hid hb; clear hb
        go_upto_region 6 with fail
        refine wp_region_lit ?_
        refine tkL (.pointer (some ⟨q, 0, none⟩)) (h := ?_)
        (try simp only [Act.put, sA, sB, sC])
        refine wpList_q (by rfl) (.pointer (some ⟨gw, i * 4, none⟩)) ?he ?_
        case he => exact exec_cell 92 _ _ HBn3d5.out rfl rfl rfl Try.underlying92 rfl
        (try simp only [Act.put, sA, sB, sC])
        refine tkL (.pointer (some ⟨gw, i * 4, none⟩)) (h := ?_)
        (try simp only [Act.put, sA, sB, sC])
        refine tkL (.pointer (some ⟨gw, i * 4 + 2, none⟩)) (h := ?_)
        (try simp only [Act.put, sA, sB, sC])
        refine wpList_q (by rfl) (.int .i64 (bestI G.c C a)) ?he ?_
        case he => exact exec_cell 3 _ _ HBWd5.out (el_at (j := 2) HP2.out rfl) rfl rfl Try.underlying3 rfl
        (try simp only [Act.put, sA, sB, sC])
        refine wpList_q (by rfl) (.func (.func 70) #[] #[.pointer (some ⟨bn3, 0, none⟩)]) ?he ?_
        case he => (first | rfl | (go_simp; (try rfl)))
        (try simp only [Act.put, sA, sB, sC])
        refine wpList_wp (by rfl) (fun K hK => ?_)
        (try go_simp)
        refine (changeL' q G A1 G.cars.length c1 (.slice (some ⟨gw, 0, none⟩) G.waits.length c2) (bestI G.c C a) _ _ HBQd5.out HBB.out).mono ?_
        rintro e w' ⟨rfl, rfl⟩
        (try go_wp2_with fail)
        refine hK.out _ _ ?_
        clear hK K
        (try simp only [Act.put, sA, sB, sC])
        refine wpList_nil ?_
        go_upto_region 7 with fail
        refine wp_region_lit ?_
        refine wpList_q (by rfl) (.int .i64 ((i : Int) + 1)) ?he ?_
        case he => (go_simp; (first | done | (refine wrG _ ?_ ?_ <;> (have q0 := HLT.out; have q1 := HL2.out; omega)) | (have q0 := HLT.out; have q1 := HL2.out; omega) | (have q0 := HLT.out; have q1 := HL2.out; split <;> omega) | (have q0 := HLT.out; have q1 := HL2.out; intro hh; omega)))
        (try simp only [Act.put, sA, sB, sC])
        refine tkL (.int .i64 ((i : Int) + 1)) (h := ?_)
        (try simp only [Act.put, sA, sB, sC])
        refine wpList_nil ?_
        go_wp2_with fail
        refine Met.intro ?_
        refine hJ1 _ _ _ ?less55 ⟨(i + 1), (W.set i { a with ca := bestI G.c C a }), (giveC C a (bestI G.c C a)), (by have := HLT.out; omega), (by show asgStep G.c (asgN G.c G.waits G.cars i) i = _; rw [HEQ.out]; unfold asgStep; rw [show (W, C).1[i]? = some a from HA.out]; exact if_pos HCA.out), rfl, ⟨rfl, rfl, rfl, rfl, trivial⟩, Lib.hid ⟨HSd5.out, HBQd5.out, (by rw [show giveC C a (bestI G.c C a) = C by rw [HBB.out]; rfl]; exact HFcd5.out), (HBKW.out { a with ca := bestI G.c C a } w55 HBWd5.out)⟩⟩
        case less55 => exact (by have := HM.out; have := HLT.out; omega)
      · have HBB := Lib.hid hb; have HKK := Lib.hid hk; clear hb hk
        obtain ⟨x, hx⟩ : ∃ x, C[k]? = some x := ⟨_, List.getElem?_eq_getElem HKK.out⟩
        have HX := Lib.hid hx; clear hx
        obtain ⟨g, hg⟩ := own_addr HFcd5.out (by have := HKK.out; have := HLC.out; omega)
        subst hg
        obtain ⟨P, S, hP, hE, hback⟩ := own_elS carL_len HFcd5.out HX.out
        have HPC := Lib.hid hP; have HE := Lib.hid (show Blk w55 g 30 (el P (carA x) S) from hE); have HBKC := Lib.hid hback; clear hP hE hback
        have HNQG := Lib.hid (Blk.ne_ HBQd5.out HE.out (by decide)); have HNWG := Lib.hid (Blk.ne_ HBWd5.out HE.out (by decide))
        clear HFcd5
        go_upto_region 6 with fail
        refine wp_region_lit ?_
        refine tkL (.pointer (some ⟨q, 0, none⟩)) (h := ?_)
        (try simp only [Act.put, sA, sB, sC])
        refine wpList_q (by rfl) (.pointer (some ⟨gw, i * 4, none⟩)) ?he ?_
        case he => exact exec_cell 92 _ _ HBn3d5.out rfl rfl rfl Try.underlying92 rfl
        (try simp only [Act.put, sA, sB, sC])
        refine tkL (.pointer (some ⟨gw, i * 4, none⟩)) (h := ?_)
        (try simp only [Act.put, sA, sB, sC])
        refine tkL (.pointer (some ⟨gw, i * 4 + 2, none⟩)) (h := ?_)
        (try simp only [Act.put, sA, sB, sC])
        refine wpList_q (by rfl) (.int .i64 (bestI G.c C a)) ?he ?_
        case he => exact exec_cell 3 _ _ HBWd5.out (el_at (j := 2) HP2.out rfl) rfl rfl Try.underlying3 rfl
        (try simp only [Act.put, sA, sB, sC])
        refine wpList_q (by rfl) (.func (.func 70) #[] #[.pointer (some ⟨bn3, 0, none⟩)]) ?he ?_
        case he => (first | rfl | (go_simp; (try rfl)))
        (try simp only [Act.put, sA, sB, sC])
        refine wpList_wp (by rfl) (fun K hK => ?_)
        (try go_simp)
        refine (change1' q g G G.cars.length c1 (.slice (some ⟨gw, 0, none⟩) G.waits.length c2) k (bestI G.c C a) HBB.out 70 (.pointer (some ⟨bn3, 0, none⟩)) 0 _ _ HBQd5.out (by have := HKK.out; have := HLC.out; omega) (fun args w1 => enterF Try.func70 (by kernel_rfl) rfl args w1) (assign1T g (k * 15) gw (i * 4) bn3 P S P2 S2 x { a with ca := bestI G.c C a } _ HE.out HPC.out HBWd5.out HP2.out HBn3d5.out)).mono ?_
        rintro e w9 ⟨rfl, hB, hU⟩
        (try go_wp2_with fail)
        refine hK.out _ _ ?_
        clear hK K
        (try simp only [Act.put, sA, sB, sC])
        have HS9 := Lib.hid (Upd.comp HSd5.out hU (fun x h => .inl (by simp [blkOf] at h ⊢; exact .inl h))); have HQ9 := Lib.hid (hU.blk HBQd5.out (fun h => HNQG.out (List.mem_singleton.1 h))); have HW9 := Lib.hid (hU.blk HBWd5.out (fun h => HNWG.out (List.mem_singleton.1 h))); have HE9 := Lib.hid hB; clear hB hU
        refine wpList_nil ?_
        go_upto_region 7 with fail
        refine wp_region_lit ?_
        refine wpList_q (by rfl) (.int .i64 ((i : Int) + 1)) ?he ?_
        case he => (go_simp; (first | done | (refine wrG _ ?_ ?_ <;> (have q0 := HLT.out; have q1 := HL2.out; omega)) | (have q0 := HLT.out; have q1 := HL2.out; omega) | (have q0 := HLT.out; have q1 := HL2.out; split <;> omega) | (have q0 := HLT.out; have q1 := HL2.out; intro hh; omega)))
        (try simp only [Act.put, sA, sB, sC])
        refine tkL (.int .i64 ((i : Int) + 1)) (h := ?_)
        (try simp only [Act.put, sA, sB, sC])
        refine wpList_nil ?_
        go_wp2_with fail
        refine Met.intro ?_
        refine hJ1 _ _ _ ?less55 ⟨(i + 1), (W.set i { a with ca := bestI G.c C a }), (giveC C a (bestI G.c C a)), (by have := HLT.out; omega), (by show asgStep G.c (asgN G.c G.waits G.cars i) i = _; rw [HEQ.out]; unfold asgStep; rw [show (W, C).1[i]? = some a from HA.out]; exact if_pos HCA.out), rfl, ⟨rfl, rfl, rfl, rfl, trivial⟩, Lib.hid ⟨HS9.out, HQ9.out, (by rw [show giveC C a (bestI G.c C a) = C.set k (hallX a x) by unfold giveC; rw [if_pos (by rw [HBB.out]; omega), HBB.out]; exact mod_set _ HX.out]; exact HBKC.out (hallX a x) w9 HE9.out), (HBKW.out { a with ca := bestI G.c C a } w9 HW9.out)⟩⟩
        case less55 => exact (by have := HM.out; have := HLT.out; omega)
end Go.Proofs.Ytpacieocmogjeaa.Gr
