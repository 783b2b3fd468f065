/-
  What is wanted by the last of these texts, part 22.
  No condition.
-/
import Derived.Test.YtpacieocmogjeaaProg
import Derived.Test.YtpacieocmogjeaaKGv0
import Derived.Test.YtpacieocmogjeaaKGv21
import Derived.Test.YtpacieocmogjeaaKGv18
namespace Go.Proofs.Ytpacieocmogjeaa.Gr
set_option linter.unusedVariables false
set_option linter.unusedSimpArgs false
open Go.RowKit Go.Proofs.Ytpacieocmogjeaa.Ba Go.Proofs.Ytpacieocmogjeaa.Mem Go.Proofs.Ytpacieocmogjeaa.Ty Go.Proofs.Ytpacieocmogjeaa.Mo Go.Proofs.Ytpacieocmogjeaa.St Go.Proofs.Ytpacieocmogjeaa.Sc Go.Proofs.Ytpacieocmogjeaa.Pl
open Go.Proofs.Ytpacieocmogjeaa.Ct (cfgA carA m1 dwV bdX tkV tkF tkW tkS tickT)
open Go.Proofs.Ytpacieocmogjeaa.Tm (cl)
set_option maxRecDepth 100000
attribute [local irreducible] Go.wpList
theorem tickV (c : CfgV) (x : CarV) (w : World) (h : okT x) : Calls Try.prog 46 #[.agg (cfgA c), .agg (carA x)] w fun e w' => e = .returned (.tuple #[.agg (carA (tkV c x)), .agg #[.int .i64 (tkF x), .int .i64 (tkW x)], .bool (tkS x)]) ∧ Since w w' :=
  tickT c x w h.1 h.2.1.1 h.2.1.2.1 h.2.1.2.2 h.2.2.1 h.2.2.2.1.1 h.2.2.2.1.2
theorem tickY (c : CfgV) (x y : CarV) (w : World) (h : okT x) (hy : y = tkV c x) : Calls Try.prog 46 #[.agg (cfgA c), .agg (carA x)] w fun e w' => e = .returned (.tuple #[.agg (carA y), .agg #[.int .i64 (tkF x), .int .i64 (tkW x)], .bool (tkS x)]) ∧ Since w w' := by
  subst hy; exact tickV c x w h
theorem putCar (x y : CarV) : putAt (carA x) 0 (carA y).toList = carA y := by kernel_rfl
theorem del_W (lo g n c k : Nat) (ls : List WaitV) (w : World) (hO : w.ownsRow lo 55 4 (.slice (some ⟨g, 0, none⟩) n c) n (rowsOf waitL ls)) (hl : n = ls.length) (hk : k < n) (hm : n ≤ 1000000) :
    Calls Try.prog 48 #[.slice (some ⟨g, 0, none⟩) n c, .int .i64 (k : Int), .int .i64 ((k : Int) + 1)] w fun e w' => e = .returned (.slice (some ⟨g, 0, none⟩) (ls.eraseIdx k).length c) ∧ w'.ownsRow lo 55 4 (.slice (some ⟨g, 0, none⟩) (ls.eraseIdx k).length c) (ls.eraseIdx k).length (rowsOf waitL (ls.eraseIdx k)) ∧ Upd [g] w w' := by
  obtain ⟨m, rfl⟩ : ∃ m, n = m + 1 := ⟨n - 1, by omega⟩
  have e : (ls.eraseIdx k).length = m := by rw [List.length_eraseIdx, if_pos (by omega)]; omega
  rw [e]
  exact C2.deleteT lo g m c k ls w hO hl.symm (by omega) (own_cap2 hO) hm
set_option maxHeartbeats 4000000 in
theorem tickT' (lo q : Nat) (G : GrV) (S : List Nat) (w : World) (hg : GO lo q G S w) (hl1 : G.cars.length ≤ 10000) (hl2 : G.waits.length ≤ 10000) (hk1 : ∀ x ∈ G.cars, okT x) (hk2 : ∀ a ∈ G.waits, okW a) (h1 : 0 < G.cars.length) : Calls Try.prog 18 #[.pointer (some ⟨q, 0, none⟩)] w fun e w' => ∃ S' A3 c3, e = .returned (.slice A3 (tickP G).2.2.length c3) ∧ GO lo q (tickG G) S' w' ∧ w'.ownsRow w.heap.size 55 4 (.slice A3 (tickP G).2.2.length c3) (tickP G).2.2.length (rowsOf waitL (tickP G).2.2) ∧ Upd S w w' ∧ ∀ g ∈ S', g ∈ S ∨ w.heap.size ≤ g := by
 obtain ⟨h0, A1, c1, A2, c2, rfl, B, O1, O2⟩ := hg
 obtain ⟨g1, rfl⟩ := own_addr O1 h1
 have H0 := Lib.hid h0; have HQL := Lib.hid B.lt; have HQ := Lib.hid B; have HO1 := Lib.hid O1; have HO2 := Lib.hid O2; have HIQ1 := Lib.hid (own_ne_ty O1 B (by decide)); have HIQ2 := Lib.hid (own_ne_ty O2 B (by decide)); have HLT1 := Lib.hid (own_lt O1); have HLT2 := Lib.hid (own_lt O2)
 have HD12 := Lib.hid (show ∀ g ∈ blkOf (some ⟨g1, 0, none⟩), g ∉ blkOf A2 from fun g h1 h2 => by rcases own_at O1 with ⟨h3, _⟩ | ⟨g3, cur, h3, _, B1, _⟩; cases h3; injection h3 with h3; injection h3 with h3; subst h3; exact own_ne_ty O2 B1 (by decide) (by simp [blkOf] at h1; exact h1 ▸ h2))
 clear B O1 O2 h0
 have HL1 := Lib.hid hl1
 clear hl1
 have HL2 := Lib.hid hl2
 clear hl2
 have HK1 := Lib.hid hk1
 clear hk1
 have HK2 := Lib.hid hk2
 clear hk2
 have H1 := Lib.hid h1
 clear h1
 go_enter Try.func18, Try.ntmps18
 have HSU := Lib.hid (Upd.refl (q :: (blkOf (some ⟨g1, 0, none⟩) ++ blkOf A2)) w)
 go_upto_region 1 with fail
 refine wp_region_lit ?_
 refine tkL (.pointer (some ⟨q, 0, none⟩)) (h := ?_)
 (try simp only [Act.put, sA, sB, sC])
 refine tkL (.bool false) (h := ?_)
 (try simp only [Act.put, sA, sB, sC])
 refine wpList_nil ?_
 go_upto_region 3 with fail
 refine wp_region_lit ?_
 refine tkL (.pointer (some ⟨q, 0, none⟩)) (h := ?_)
 (try simp only [Act.put, sA, sB, sC])
 refine tkL (.pointer (some ⟨q, 0, none⟩)) (h := ?_)
 (try simp only [Act.put, sA, sB, sC])
 refine tkL (.pointer (some ⟨q, 0, none⟩)) (h := ?_)
 (try simp only [Act.put, sA, sB, sC])
 refine tkL (.pointer (some ⟨q, 20, none⟩)) (h := ?_)
 (try simp only [Act.put, sA, sB, sC])
 refine wpList_q (by rfl) (.int .i64 G.now) ?he ?_
 case he => exact exec_cell 3 _ _ HQ.out rfl rfl rfl Try.underlying3 rfl
 (try simp only [Act.put, sA, sB, sC])
 refine wpList_wp (by rfl) (fun K hK => ?_)
 (try go_simp)
 refine (Go.Proofs.Ytpacieocmogjeaa.Tw.addT _ _ _).mono ?_
 rintro e w' ⟨rfl, rfl⟩
 (try go_wp2_with fail)
 refine hK.out _ _ ?_
 clear hK K
 (try simp only [Act.put, sA, sB, sC])
 refine tkL (.pointer (some ⟨q, 0, none⟩)) (h := ?_)
 (try simp only [Act.put, sA, sB, sC])
 refine tkL (.pointer (some ⟨q, 20, none⟩)) (h := ?_)
 (try simp only [Act.put, sA, sB, sC])
 refine wpList_wp (by rfl) (fun K hK => ?_)
 refine wp_st_cell 3 _ _ rfl #[.int .i64 G.c.ca, .int .i64 G.c.fl, .int .i64 G.c.ft, .int .i64 G.c.se, .int .i64 G.c.dr, .int .i64 G.c.dw, .int .i64 G.c.ho, .int .i64 G.c.re, .int .i64 G.c.yi, .int .i64 G.c.qu, .int .i64 G.c.qo, .int .i64 G.c.lo, .int .i64 G.c.sl, .int .i64 G.c.rt, .int .i64 G.c.cp, .int .i64 G.c.tr, .int .i64 G.c.de, .int .i64 G.c.wi, .slice (some ⟨g1, 0, none⟩) G.cars.length c1, .slice A2 G.waits.length c2, .int .i64 (cl (cl G.now + cl 1))] (.int .i64 (cl (cl G.now + cl 1))) rfl rfl HQ.out (by show 20 < 21; decide) rfl (by first | rfl | simp [Value.oneCell']) (by kernel_rfl) ?_
 intro w2 hw
 refine hK.out _ _ ?_
 clear hK K
 (try simp only [Act.put, sA, sB, sC])
 have HS2 := Lib.hid (show Upd (q :: (blkOf (some ⟨g1, 0, none⟩) ++ blkOf A2)) w w2 by rw [hw]; exact Upd.setRow HSU.out (.inl (by simp)) _)
 have HBQ2 := Lib.hid (show Blk w2 q 67 #[.int .i64 G.c.ca, .int .i64 G.c.fl, .int .i64 G.c.ft, .int .i64 G.c.se, .int .i64 G.c.dr, .int .i64 G.c.dw, .int .i64 G.c.ho, .int .i64 G.c.re, .int .i64 G.c.yi, .int .i64 G.c.qu, .int .i64 G.c.qo, .int .i64 G.c.lo, .int .i64 G.c.sl, .int .i64 G.c.rt, .int .i64 G.c.cp, .int .i64 G.c.tr, .int .i64 G.c.de, .int .i64 G.c.wi, .slice (some ⟨g1, 0, none⟩) G.cars.length c1, .slice A2 G.waits.length c2, .int .i64 (cl (cl G.now + cl 1))] by rw [hw]; exact Blk.row HQ.out _)
 have HFc_2 := Lib.hid (show (w2).ownsRow lo 30 15 (.slice (some ⟨g1, 0, none⟩) G.cars.length c1) G.cars.length (rowsOf carL G.cars) by rw [hw]; exact own_row_far HO1.out HIQ1.out _)
 have HFw_2 := Lib.hid (show (w2).ownsRow lo 55 4 (.slice A2 G.waits.length c2) G.waits.length (rowsOf waitL G.waits) by rw [hw]; exact own_row_far HO2.out HIQ2.out _)
 clear hw HSU HQ HO1 HO2
 refine wpList_nil ?_
 go_upto_region 4 with fail
 refine wp_region_lit ?_
 refine tkL (.pointer (some ⟨q, 0, none⟩)) (h := ?_)
 (try simp only [Act.put, sA, sB, sC])
 refine wpList_wp (by rfl) (fun K hK => ?_)
 (try go_simp)
 refine (assignT lo q ⟨G.c, G.cars, G.waits, (cl (cl G.now + cl 1))⟩ (some ⟨g1, 0, none⟩) A2 c1 c2 _ HBQ2.out HFc_2.out HFw_2.out HL1.out HL2.out HK1.out HK2.out).mono ?_
 rintro e w9 ⟨rfl, hC, hW, hU⟩
 (try go_wp2_with fail)
 refine hK.out _ _ ?_
 clear hK K
 (try simp only [Act.put, sA, sB, sC])
 have HS9 := Lib.hid (Upd.comp HS2.out hU (fun x h => .inl (List.mem_cons_of_mem _ h))); have HQ9 := Lib.hid (hU.blk HBQ2.out (fun h => by rcases List.mem_append.1 h with h | h; exact HIQ1.out h; exact HIQ2.out h)); have HC9 := Lib.hid hC; have HW9 := Lib.hid hW; clear hC hW hU
 refine wpList_nil ?_
 go_upto_region 5 with fail
 refine wp_region_lit ?_
 refine tkL (.slice none 0 0) (h := ?_)
 (try simp only [Act.put, sA, sB, sC])
 refine wpList_nil ?_
 go_upto_region 6 with fail
 refine wp_region_lit ?_
 refine tkL (.pointer (some ⟨q, 0, none⟩)) (h := ?_)
 (try simp only [Act.put, sA, sB, sC])
 refine tkL (.pointer (some ⟨q, 0, none⟩)) (h := ?_)
 (try simp only [Act.put, sA, sB, sC])
 refine tkL (.pointer (some ⟨q, 18, none⟩)) (h := ?_)
 (try simp only [Act.put, sA, sB, sC])
 refine wpList_q (by rfl) (.slice (some ⟨g1, 0, none⟩) G.cars.length c1) ?he ?_
 case he => exact exec_cell 37 _ _ HQ9.out rfl rfl rfl Try.underlying37 rfl
 (try simp only [Act.put, sA, sB, sC])
 refine tkL (.int .i64 (G.cars.length : Int)) (h := ?_)
 (try simp only [Act.put, sA, sB, sC])
 refine tkL (.int .i64 0) (h := ?_)
 (try simp only [Act.put, sA, sB, sC])
 refine wpList_nil ?_
 go_wp2_with fail
 have HLW0 := Lib.hid ((asg_len G.c G.waits G.cars G.waits.length).1); have HLC0 := Lib.hid ((asg_len G.c G.waits G.cars G.waits.length).2); have HOC := Lib.hid ((asg_ok (c := G.c) HK2.out HK1.out G.waits.length).2)
 have HQ10 := Lib.hid (show Blk w9 q 67 #[.int .i64 G.c.ca, .int .i64 G.c.fl, .int .i64 G.c.ft, .int .i64 G.c.se, .int .i64 G.c.dr, .int .i64 G.c.dw, .int .i64 G.c.ho, .int .i64 G.c.re, .int .i64 G.c.yi, .int .i64 G.c.qu, .int .i64 G.c.qo, .int .i64 G.c.lo, .int .i64 G.c.sl, .int .i64 G.c.rt, .int .i64 G.c.cp, .int .i64 G.c.tr, .int .i64 G.c.de, .int .i64 G.c.wi, .slice (some ⟨g1, 0, none⟩) G.cars.length c1, .slice A2 (asgN G.c G.waits G.cars G.waits.length).1.length c2, .int .i64 (cl (cl G.now + cl 1))] by rw [HLW0.out]; exact HQ9.out)
 have HW10 := Lib.hid (show w9.ownsRow lo 55 4 (.slice A2 (asgN G.c G.waits G.cars G.waits.length).1.length c2) (asgN G.c G.waits G.cars G.waits.length).1.length (rowsOf waitL (asgN G.c G.waits G.cars G.waits.length).1) by have q := HW9.out; unfold WaitsAt at q; rw [HLW0.out]; exact q)
 have HV10 := Lib.hid (show w9.ownsRow w.heap.size 55 4 (.slice none ([] : List WaitV).length 0) ([] : List WaitV).length (rowsOf waitL []) from World.ownsRow_nil _ _ _ _)
 refine wp_uloop (ds := []) (fun n fr wr => ∃ (i : Nat) (Cl : List CarV) (Wl Vl : List WaitV) (A3 : Option Addr) (c3 : Nat), i ≤ G.cars.length ∧ tkN G.c (asgN G.c G.waits G.cars G.waits.length).2 (asgN G.c G.waits G.cars G.waits.length).1 i = (Cl, Wl, Vl) ∧ (G.cars.length - i) = n ∧ Fits fr 83 [(0, .pointer (some ⟨q, 0, none⟩)), (2, .slice none 0 0), (3, .slice A3 Vl.length c3), (25, .int .i64 (G.cars.length : Int)), (26, .int .i64 (i : Int))] ∧ Hid (Upd (q :: (blkOf (some ⟨g1, 0, none⟩) ++ blkOf A2)) w wr ∧ Blk wr q 67 #[.int .i64 G.c.ca, .int .i64 G.c.fl, .int .i64 G.c.ft, .int .i64 G.c.se, .int .i64 G.c.dr, .int .i64 G.c.dw, .int .i64 G.c.ho, .int .i64 G.c.re, .int .i64 G.c.yi, .int .i64 G.c.qu, .int .i64 G.c.qo, .int .i64 G.c.lo, .int .i64 G.c.sl, .int .i64 G.c.rt, .int .i64 G.c.cp, .int .i64 G.c.tr, .int .i64 G.c.de, .int .i64 G.c.wi, .slice (some ⟨g1, 0, none⟩) G.cars.length c1, .slice A2 Wl.length c2, .int .i64 (cl (cl G.now + cl 1))] ∧ (wr).ownsRow lo 30 15 (.slice (some ⟨g1, 0, none⟩) G.cars.length c1) G.cars.length (rowsOf carL Cl) ∧ (wr).ownsRow lo 55 4 (.slice A2 Wl.length c2) Wl.length (rowsOf waitL Wl) ∧ (wr).ownsRow w.heap.size 55 4 (.slice A3 Vl.length c3) Vl.length (rowsOf waitL Vl))) (G.cars.length - 0) ?start2 ?round2
 case start2 => exact ⟨0, ((asgN G.c G.waits G.cars G.waits.length).2), ((asgN G.c G.waits G.cars G.waits.length).1), [], none, 0, (by omega), rfl, rfl, ⟨rfl, rfl, rfl, rfl, rfl, rfl, trivial⟩, Lib.hid ⟨HS9.out, HQ10.out, HC9.out, HW10.out, HV10.out⟩⟩
 case round2 =>
  intro n fr wr hR J1 K1 hJ1 hK1
  clear HS9 HQ10 HC9 HW10 HV10
  obtain ⟨i, Cl, Wl, Vl, A3, c3, hi, heq, hn, hF, HO⟩ := hR
  have HM := Lib.hid hn; clear hn
  obtain ⟨g0, g1, g2, g3, g4⟩ := HO.out
  clear HO
  have HS52 := Lib.hid g0
  have HBQ52 := Lib.hid g1
  have HFc52 := Lib.hid g2
  have HFw52 := Lib.hid g3
  have HFv52 := Lib.hid g4
  clear g0 g1 g2 g3 g4
  obtain ⟨u, hu⟩ := hF.open_
  have hu2 := hu.trans (show _ = #[.pointer (some ⟨q, 0, none⟩), u 1, .slice none 0 0, .slice A3 Vl.length c3, u 4, u 5, u 6, u 7, u 8, u 9, u 10, u 11, u 12, u 13, u 14, u 15, u 16, u 17, u 18, u 19, u 20, u 21, u 22, u 23, u 24, .int .i64 (G.cars.length : Int), .int .i64 (i : Int), u 27, u 28, u 29, u 30, u 31, u 32, u 33, u 34, u 35, u 36, u 37, u 38, u 39, u 40, u 41, u 42, u 43, u 44, u 45, u 46, u 47, u 48, u 49, u 50, u 51, u 52, u 53, u 54, u 55, u 56, u 57, u 58, u 59, u 60, u 61, u 62, u 63, u 64, u 65, u 66, u 67, u 68, u 69, u 70, u 71, u 72, u 73, u 74, u 75, u 76, u 77, u 78, u 79, u 80, u 81, u 82] by kernel_rfl)
  clear hu hF
  subst hu2
  have HII := Lib.hid hi; have HEQ := Lib.hid heq; clear hi heq
  have HLC := Lib.hid (show Cl.length = G.cars.length by have q := tk_len G.c (asgN G.c G.waits G.cars G.waits.length).2 (asgN G.c G.waits G.cars G.waits.length).1 i; rw [HEQ.out] at q; exact q.trans HLC0.out); have HLW := Lib.hid (show Wl.length ≤ 10000 ∧ Vl.length ≤ 10000 by have q := tk_wl G.c (asgN G.c G.waits G.cars G.waits.length).2 (asgN G.c G.waits G.cars G.waits.length).1 i; rw [HEQ.out] at q; have := HL2.out; have := HLW0.out; have := HL1.out; have := HII.out; simp only at q; omega)
  have HDWV := Lib.hid (show ∀ g ∈ blkOf A2, g ∉ blkOf A3 from fun g hg h => by have q1 := HLT2.out g hg; have q2 := own_low HFv52.out g h; omega)
  have HDCV := Lib.hid (show ∀ g ∈ blkOf (some ⟨g1, 0, none⟩), g ∉ blkOf A3 from fun g hg h => by have q1 := HLT1.out g hg; have q2 := own_low HFv52.out g h; omega)
  have HIQV := Lib.hid (own_ne_ty HFv52.out HBQ52.out (by decide))
  by_cases hcs : i < G.cars.length
  rotate_left
  · have HLT := Lib.hid hcs; clear hcs
    go_upto_region 7 with fail
    refine wp_region_lit ?_
    refine wpList_q (by rfl) (.bool false) ?he ?_
    case he => (have q0 := HLT.out; go_simp; (first | done | rfl | omega))
    (try simp only [Act.put, sA, sB, sC])
    refine wpList_nil ?_
    go_upto_region 16 with fail
    refine wp_region_lit ?_
    refine tkL (.slice A3 Vl.length c3) (h := ?_)
    (try simp only [Act.put, sA, sB, sC])
    refine tkL (.slice A3 Vl.length c3) (h := ?_)
    (try simp only [Act.put, sA, sB, sC])
    refine wpList_nil ?_
    (try go_wp2_with fail)
    go_ret
    have e : i = G.cars.length := by have := HII.out; have := HLT.out; omega
    subst e
    have e2 : tickP G = (Cl, Wl, Vl) := HEQ.out
    exact ⟨(q :: (blkOf (some ⟨g1, 0, none⟩) ++ blkOf A2)), A3, c3, by rw [e2]; rfl, ⟨H0.out, (some ⟨g1, 0, none⟩), c1, A2, c2, rfl, by unfold tickG; rw [e2]; have q := HBQ52.out; rw [← HLC.out] at q; exact q, by unfold tickG CarsAt; rw [e2]; have q := HFc52.out; rw [← HLC.out] at q; exact q, by unfold tickG WaitsAt; rw [e2]; exact HFw52.out⟩, by rw [e2]; exact HFv52.out, HS52.out, fun _ h => .inl h⟩
  · have HLT := Lib.hid hcs; clear hcs
    go_upto_region 7 with fail
    refine wp_region_lit ?_
    refine wpList_q (by rfl) (.bool true) ?he ?_
    case he => (have q0 := HLT.out; go_simp; (first | done | rfl | omega))
    (try simp only [Act.put, sA, sB, sC])
    refine wpList_nil ?_
    go_upto_region 8 with fail
    refine wp_region_lit ?_
    refine tkL (.int .i64 (i : Int)) (h := ?_)
    (try simp only [Act.put, sA, sB, sC])
    refine tkL (.int .i64 (i : Int)) (h := ?_)
    (try simp only [Act.put, sA, sB, sC])
    refine wpList_nil ?_
    obtain ⟨x, hx⟩ : ∃ x, Cl[i]? = some x := ⟨_, List.getElem?_eq_getElem (by rw [HLC.out]; exact HLT.out)⟩
    have HX := Lib.hid hx; clear hx
    have HOX := Lib.hid (show okT x from HOC.out x (List.mem_of_getElem? (by have q := tk_at G.c (asgN G.c G.waits G.cars G.waits.length).2 (asgN G.c G.waits G.cars G.waits.length).1 i i (Nat.le_refl _); rw [HEQ.out] at q; exact q.symm.trans HX.out)))
    obtain ⟨y, hy⟩ : ∃ y, y = tkV G.c x := ⟨_, rfl⟩
    have HY2 := Lib.hid hy; clear hy
    go_upto_region 9 with fail
    refine wp_ucut (ds := []) (fun fr wx => ∃ b5 b6 : Nat, Fits fr 83 [(0, .pointer (some ⟨q, 0, none⟩)), (2, .slice none 0 0), (3, .slice A3 Vl.length c3), (4, .int .i64 (i : Int)), (5, .pointer (some ⟨b5, 0, none⟩)), (6, .pointer (some ⟨b6, 0, none⟩)), (7, .bool (tkS x)), (25, .int .i64 (G.cars.length : Int)), (26, .int .i64 (i : Int))] ∧ Hid (w.heap.size ≤ b5 ∧ w.heap.size ≤ b6 ∧ Upd (q :: (blkOf (some ⟨g1, 0, none⟩) ++ blkOf A2)) w wx ∧ Blk wx q 67 #[.int .i64 G.c.ca, .int .i64 G.c.fl, .int .i64 G.c.ft, .int .i64 G.c.se, .int .i64 G.c.dr, .int .i64 G.c.dw, .int .i64 G.c.ho, .int .i64 G.c.re, .int .i64 G.c.yi, .int .i64 G.c.qu, .int .i64 G.c.qo, .int .i64 G.c.lo, .int .i64 G.c.sl, .int .i64 G.c.rt, .int .i64 G.c.cp, .int .i64 G.c.tr, .int .i64 G.c.de, .int .i64 G.c.wi, .slice (some ⟨g1, 0, none⟩) G.cars.length c1, .slice A2 Wl.length c2, .int .i64 (cl (cl G.now + cl 1))] ∧ Blk wx b5 30 (carA y) ∧ Blk wx b6 32 #[.int .i64 (tkF x), .int .i64 (tkW x)] ∧ (wx).ownsRow lo 30 15 (.slice (some ⟨g1, 0, none⟩) G.cars.length c1) G.cars.length (rowsOf carL Cl) ∧ (wx).ownsRow lo 55 4 (.slice A2 Wl.length c2) Wl.length (rowsOf waitL Wl) ∧ (wx).ownsRow w.heap.size 55 4 (.slice A3 Vl.length c3) Vl.length (rowsOf waitL Vl))) ?rest2 ?first2
    case first2 =>
     intro J2 K2 hJ2 hK2
     have HKS : Hid (KeepS (fun W : World => Upd (q :: (blkOf (some ⟨g1, 0, none⟩) ++ blkOf A2)) w W ∧ Blk W q 67 #[.int .i64 G.c.ca, .int .i64 G.c.fl, .int .i64 G.c.ft, .int .i64 G.c.se, .int .i64 G.c.dr, .int .i64 G.c.dw, .int .i64 G.c.ho, .int .i64 G.c.re, .int .i64 G.c.yi, .int .i64 G.c.qu, .int .i64 G.c.qo, .int .i64 G.c.lo, .int .i64 G.c.sl, .int .i64 G.c.rt, .int .i64 G.c.cp, .int .i64 G.c.tr, .int .i64 G.c.de, .int .i64 G.c.wi, .slice (some ⟨g1, 0, none⟩) G.cars.length c1, .slice A2 Wl.length c2, .int .i64 (cl (cl G.now + cl 1))] ∧ (W).ownsRow lo 30 15 (.slice (some ⟨g1, 0, none⟩) G.cars.length c1) G.cars.length (rowsOf carL Cl) ∧ (W).ownsRow lo 55 4 (.slice A2 Wl.length c2) Wl.length (rowsOf waitL Wl) ∧ (W).ownsRow w.heap.size 55 4 (.slice A3 Vl.length c3) Vl.length (rowsOf waitL Vl)) wr) := Lib.hid ⟨fun W W' k ⟨h, h0, h1, h2, h3⟩ => ⟨h.trans k, keep_blk k h0, keep_own k h1, keep_own k h2, keep_own k h3⟩, ⟨HS52.out, HBQ52.out, HFc52.out, HFw52.out, HFv52.out⟩⟩
     have HRK := Lib.hid HKS.out.1
     refine wp_held HKS.out (by kernel_rfl) (fun hHeld => ?_)
     refine tkQ 0 (.pointer (some ⟨q, 0, none⟩)) hHeld (h := ?_)
     (try simp only [Act.put, sA, sB, sC])
     refine tkQ 1 (.pointer (some ⟨q, 0, none⟩)) hHeld (h := ?_)
     (try simp only [Act.put, sA, sB, sC])
     refine tkQ 2 (.pointer (some ⟨q, 0, none⟩)) hHeld (h := ?_)
     (try simp only [Act.put, sA, sB, sC])
     refine tkQ 3 (.agg (cfgA G.c)) hHeld (he := by intro w hSw; exact exec_part (n := 18) 23 _ _ hSw.2.1 rfl rfl rfl rfl Try.underlying23 rfl (by kernel_rfl)) (h := ?_)
     (try simp only [Act.put, sA, sB, sC])
     refine tkQ 4 (.pointer (some ⟨q, 0, none⟩)) hHeld (h := ?_)
     (try simp only [Act.put, sA, sB, sC])
     refine tkQ 5 (.pointer (some ⟨q, 0, none⟩)) hHeld (h := ?_)
     (try simp only [Act.put, sA, sB, sC])
     refine tkQ 6 (.pointer (some ⟨q, 18, none⟩)) hHeld (h := ?_)
     (try simp only [Act.put, sA, sB, sC])
     refine tkQ 7 (.slice (some ⟨g1, 0, none⟩) G.cars.length c1) hHeld (he := by intro w hSw; exact exec_cell 37 _ _ hSw.2.1 rfl rfl rfl Try.underlying37 rfl) (h := ?_)
     (try simp only [Act.put, sA, sB, sC])
     refine tkQ 8 (.int .i64 (i : Int)) hHeld (h := ?_)
     (try simp only [Act.put, sA, sB, sC])
     refine tkQ 9 (.pointer (some ⟨g1, i * 15, none⟩)) hHeld (he := by intro w hSw; (rw [show i * 15 = 0 + i * 15 by omega]; exact exec_index (i := i) (s := 15) 37 30 _ _ rfl rfl rfl rfl HLT.out Try.underlying37 (by kernel_rfl))) (h := ?_)
     (try simp only [Act.put, sA, sB, sC])
     refine tkQ 10 (.agg (carA x)) hHeld (he := by intro w hSw; exact exec_rng (l := carL x) 30 _ _ (row_S carL_len hSw.2.2.1 HX.out) rfl rfl Try.underlying30 rfl (by kernel_rfl)) (h := ?_)
     (try simp only [Act.put, sA, sB, sC])
     refine wpAnyH_ready (rs := [11, 16, 17]) (by kernel_rfl) (by simp) ?_
     refine AllReadyH.cons (o := ?o9__11b) ?h9__11b (fun K hK => ?g9__11b) (AllReadyH.cons (o := ?o9__16b) ?h9__16b (fun K hK => ?g9__16b) (AllReadyH.cons (o := ?o9__17b) ?h9__17b (fun K hK => ?g9__17b) AllReadyH.nil))
     case h9__11b => (first | (simp only [gA, gB, gC]; done) | (simp only [gA, gB, gC]; exact rfl))
     case h9__16b => (first | (simp only [gA, gB, gC]; done) | (simp only [gA, gB, gC]; exact rfl))
     case h9__17b => (first | (simp only [gA, gB, gC]; done) | (simp only [gA, gB, gC]; exact rfl))
     case g9__11b =>
      (try go_simp)
      refine (tickY G.c x y _ HOX.out HY2.out).mono ?_
      rintro e w53 ⟨rfl, hb⟩
      (try go_wp2_with fail)
      refine hK.out _ _ (by (apply HRK.out; exact hb; exact hHeld)) (fun hHeld2 => ?_)
      clear hK K hHeld hb
      have hHeld := hHeld2
      clear hHeld2
      (try simp only [Act.put, sA, sB, sC])
      refine tkQ 12 (.tuple #[.agg (carA y), .agg #[.int .i64 (tkF x), .int .i64 (tkW x)], .bool (tkS x)]) hHeld (h := ?_)
      (try simp only [Act.put, sA, sB, sC])
      refine tkQ 13 (.agg (carA y)) hHeld (h := ?_)
      (try simp only [Act.put, sA, sB, sC])
      refine tkQ 14 (.agg #[.int .i64 (tkF x), .int .i64 (tkW x)]) hHeld (h := ?_)
      (try simp only [Act.put, sA, sB, sC])
      refine tkQ 15 (.bool (tkS x)) hHeld (h := ?_)
      (try simp only [Act.put, sA, sB, sC])
      refine wpAnyH_ready (rs := [16, 17]) (by kernel_rfl) (by simp) ?_
      refine AllReadyH.cons (o := ?o9_b11_16b) ?h9_b11_16b (fun K hK => ?g9_b11_16b) (AllReadyH.cons (o := ?o9_b11_17b) ?h9_b11_17b (fun K hK => ?g9_b11_17b) AllReadyH.nil)
      case h9_b11_16b => (first | (simp only [gA, gB, gC]; done) | (simp only [gA, gB, gC]; exact rfl))
      case h9_b11_17b => (first | (simp only [gA, gB, gC]; done) | (simp only [gA, gB, gC]; exact rfl))
      case g9_b11_16b =>
       rw [if_pos (by rfl)]
       refine wp_new (fun b => .pointer (some ⟨b, 0, none⟩)) 30 #[.int .i64 0, .int .i64 0, .int .i64 0, .int .i64 0, .int .i64 0, .int .i64 0, .int .i64 0, .bool false, .bool false, .int .i64 0, .int .i64 0, .bool false, .int .u64 0, .int .u64 0, .int .u64 0] (by rintro b rfl; first | rfl | kernel_rfl) ?_
       intro bn5 w54 hge hB hb
       refine hK.out _ _ (by (apply HRK.out; exact hb; exact hHeld)) (fun hHeld2 => ?_)
       have HIn5_c := Lib.hid (own_far (hHeld.2.2.1) hge)
       have HIn5_w := Lib.hid (own_far (hHeld.2.2.2.1) hge)
       have HIn5_v := Lib.hid (own_far (hHeld.2.2.2.2) hge)
       have HNn5Q := Lib.hid (show bn5 ≠ q by have := Blk.lt (hHeld.2.1); (try simp at this); (try simp at hge); omega)
       have HGn5 := Lib.hid (show w.heap.size ≤ bn5 by have := Upd.size hHeld.1; (try simp at this); (try simp at hge); omega)
       have HXn5 := Lib.hid hB
       clear hB
       clear hge
       clear hK K hHeld hb
       have hHeld := hHeld2
       clear hHeld2
       (try simp only [Act.put, sA, sB, sC])
       refine wpAnyH_ready (rs := [17]) (by kernel_rfl) (by simp) ?_
       refine AllReadyH.cons (o := ?o9_b11b16_17) ?h9_b11b16_17 (fun K hK => ?_) AllReadyH.nil
       case h9_b11b16_17 => (first | (simp only [gA, gB, gC]; done) | (simp only [gA, gB, gC]; exact rfl))
       rw [if_pos (by rfl)]
       refine wp_new (fun b => .pointer (some ⟨b, 0, none⟩)) 32 #[.int .i64 0, .int .i64 0] (by rintro b rfl; first | rfl | kernel_rfl) ?_
       intro bn6 w55 hge hB hb
       refine hK.out _ _ (by (apply HRK.out; exact hb; exact hHeld)) (fun hHeld2 => ?_)
       have HIn6_c := Lib.hid (own_far (hHeld.2.2.1) hge)
       have HIn6_w := Lib.hid (own_far (hHeld.2.2.2.1) hge)
       have HIn6_v := Lib.hid (own_far (hHeld.2.2.2.2) hge)
       have HNn6n5 := Lib.hid (show bn6 ≠ bn5 by have := Blk.lt HXn5.out; omega)
       have HXn52 := Lib.hid (keep_blk hb HXn5.out)
       clear HXn5
       have HNn6Q := Lib.hid (show bn6 ≠ q by have := Blk.lt (hHeld.2.1); (try simp at this); (try simp at hge); omega)
       have HGn6 := Lib.hid (show w.heap.size ≤ bn6 by have := Upd.size hHeld.1; (try simp at this); (try simp at hge); omega)
       have HXn6 := Lib.hid hB
       clear hB
       clear hge
       clear hK K hHeld hb
       have hHeld := hHeld2
       clear hHeld2
       (try simp only [Act.put, sA, sB, sC])
       refine wpAnyH_ready (rs := [18]) (by kernel_rfl) (by simp) ?_
       refine AllReadyH.cons (o := ?o9_b11b16_18) ?h9_b11b16_18 (fun K hK => ?_) AllReadyH.nil
       case h9_b11b16_18 => (first | (simp only [gA, gB, gC]; done) | (simp only [gA, gB, gC]; exact rfl))
       rw [if_pos (by rfl)]
       refine wp_st_row 30 _ _ rfl (carA y) rfl rfl (HasRow.of HXn52.out rfl) rfl (by simp [cfgA, carA, waitA, grpA, Value.oneCell']) (by kernel_rfl) ?_
       intro w56 hw
       have HXn522 := Lib.hid (show Blk w56 bn5 30 (carA y) by rw [hw]; exact Blk.row HXn52.out _)
       have HXn62 := Lib.hid (show Blk w56 bn6 32 #[.int .i64 0, .int .i64 0] by rw [hw]; exact Blk.row_far HXn6.out HNn6n5.out _)
       clear HXn6
       have hHeld3 := HKS.out.at_ w56 ⟨by rw [hw]; exact Upd.setRow hHeld.1 (Or.inr HGn5.out) _, by rw [hw]; exact Blk.row_far (hHeld.2.1) (Ne.symm HNn5Q.out) _, by rw [hw]; exact own_row_far (hHeld.2.2.1) HIn5_c.out _, by rw [hw]; exact own_row_far (hHeld.2.2.2.1) HIn5_w.out _, by rw [hw]; exact own_row_far (hHeld.2.2.2.2) HIn5_v.out _⟩
       refine hK.out _ _ hHeld3 (fun hHeld2 => ?_)
       clear HXn52 hK K hHeld hHeld3 hw
       have hHeld := hHeld2
       clear hHeld2
       (try simp only [Act.put, sA, sB, sC])
       refine wpAnyH_ready (rs := [19]) (by kernel_rfl) (by simp) ?_
       refine AllReadyH.cons (o := ?o9_b11b16_19) ?h9_b11b16_19 (fun K hK => ?_) AllReadyH.nil
       case h9_b11b16_19 => (first | (simp only [gA, gB, gC]; done) | (simp only [gA, gB, gC]; exact rfl))
       rw [if_pos (by rfl)]
       refine wp_st_row 32 _ _ rfl #[.int .i64 (tkF x), .int .i64 (tkW x)] rfl rfl (HasRow.of HXn62.out rfl) rfl (by simp [cfgA, carA, waitA, grpA, Value.oneCell']) (by kernel_rfl) ?_
       intro w57 hw
       have HXn622 := Lib.hid (show Blk w57 bn6 32 #[.int .i64 (tkF x), .int .i64 (tkW x)] by rw [hw]; exact Blk.row HXn62.out _)
       have HXn5222 := Lib.hid (show Blk w57 bn5 30 (carA y) by rw [hw]; exact Blk.row_far HXn522.out (Ne.symm HNn6n5.out) _)
       clear HXn522
       have hHeld3 := HKS.out.at_ w57 ⟨by rw [hw]; exact Upd.setRow hHeld.1 (Or.inr HGn6.out) _, by rw [hw]; exact Blk.row_far (hHeld.2.1) (Ne.symm HNn6Q.out) _, by rw [hw]; exact own_row_far (hHeld.2.2.1) HIn6_c.out _, by rw [hw]; exact own_row_far (hHeld.2.2.2.1) HIn6_w.out _, by rw [hw]; exact own_row_far (hHeld.2.2.2.2) HIn6_v.out _⟩
       refine hK.out _ _ hHeld3 (fun hHeld2 => ?_)
       clear HXn62 hK K hHeld hHeld3 hw
       have hHeld := hHeld2
       clear hHeld2
       (try simp only [Act.put, sA, sB, sC])
       refine tkQ 20 (.bool (tkS x)) hHeld (h := ?_)
       (try simp only [Act.put, sA, sB, sC])
       refine wpAnyH_done (by kernel_rfl) ?_ _
       have HSd9 := Lib.hid hHeld.1
       have HBQd9 := Lib.hid (hHeld.2.1)
       have HFcd9 := Lib.hid (hHeld.2.2.1)
       have HFwd9 := Lib.hid (hHeld.2.2.2.1)
       have HFvd9 := Lib.hid (hHeld.2.2.2.2)
       clear hHeld HRK HKS HS52 HBQ52 HFc52 HFw52 HFv52
       go_wp2_with fail
       refine Met.intro ?_
       exact hJ2 _ _ ⟨bn5, bn6, ⟨rfl, rfl, rfl, rfl, rfl, rfl, rfl, rfl, rfl, rfl, trivial⟩, Lib.hid ⟨HGn5.out, HGn6.out, HSd9.out, HBQd9.out, HXn5222.out, HXn622.out, HFcd9.out, HFwd9.out, HFvd9.out⟩⟩
      case g9_b11_17b =>
       rw [if_pos (by rfl)]
       refine wp_new (fun b => .pointer (some ⟨b, 0, none⟩)) 32 #[.int .i64 0, .int .i64 0] (by rintro b rfl; first | rfl | kernel_rfl) ?_
       intro bn6 w54 hge hB hb
       refine hK.out _ _ (by (apply HRK.out; exact hb; exact hHeld)) (fun hHeld2 => ?_)
       have HIn6_c := Lib.hid (own_far (hHeld.2.2.1) hge)
       have HIn6_w := Lib.hid (own_far (hHeld.2.2.2.1) hge)
       have HIn6_v := Lib.hid (own_far (hHeld.2.2.2.2) hge)
       have HNn6Q := Lib.hid (show bn6 ≠ q by have := Blk.lt (hHeld.2.1); (try simp at this); (try simp at hge); omega)
       have HGn6 := Lib.hid (show w.heap.size ≤ bn6 by have := Upd.size hHeld.1; (try simp at this); (try simp at hge); omega)
       have HXn6 := Lib.hid hB
       clear hB
       clear hge
       clear hK K hHeld hb
       have hHeld := hHeld2
       clear hHeld2
       (try simp only [Act.put, sA, sB, sC])
       refine wpAnyH_ready (rs := [16]) (by kernel_rfl) (by simp) ?_
       refine AllReadyH.cons (o := ?o9_b11b17_16) ?h9_b11b17_16 (fun K hK => ?_) AllReadyH.nil
       case h9_b11b17_16 => (first | (simp only [gA, gB, gC]; done) | (simp only [gA, gB, gC]; exact rfl))
       rw [if_pos (by rfl)]
       refine wp_new (fun b => .pointer (some ⟨b, 0, none⟩)) 30 #[.int .i64 0, .int .i64 0, .int .i64 0, .int .i64 0, .int .i64 0, .int .i64 0, .int .i64 0, .bool false, .bool false, .int .i64 0, .int .i64 0, .bool false, .int .u64 0, .int .u64 0, .int .u64 0] (by rintro b rfl; first | rfl | kernel_rfl) ?_
       intro bn5 w55 hge hB hb
       refine hK.out _ _ (by (apply HRK.out; exact hb; exact hHeld)) (fun hHeld2 => ?_)
       have HIn5_c := Lib.hid (own_far (hHeld.2.2.1) hge)
       have HIn5_w := Lib.hid (own_far (hHeld.2.2.2.1) hge)
       have HIn5_v := Lib.hid (own_far (hHeld.2.2.2.2) hge)
       have HNn5n6 := Lib.hid (show bn5 ≠ bn6 by have := Blk.lt HXn6.out; omega)
       have HXn62 := Lib.hid (keep_blk hb HXn6.out)
       clear HXn6
       have HNn5Q := Lib.hid (show bn5 ≠ q by have := Blk.lt (hHeld.2.1); (try simp at this); (try simp at hge); omega)
       have HGn5 := Lib.hid (show w.heap.size ≤ bn5 by have := Upd.size hHeld.1; (try simp at this); (try simp at hge); omega)
       have HXn5 := Lib.hid hB
       clear hB
       clear hge
       clear hK K hHeld hb
       have hHeld := hHeld2
       clear hHeld2
       (try simp only [Act.put, sA, sB, sC])
       refine wpAnyH_ready (rs := [18]) (by kernel_rfl) (by simp) ?_
       refine AllReadyH.cons (o := ?o9_b11b17_18) ?h9_b11b17_18 (fun K hK => ?_) AllReadyH.nil
       case h9_b11b17_18 => (first | (simp only [gA, gB, gC]; done) | (simp only [gA, gB, gC]; exact rfl))
       rw [if_pos (by rfl)]
       refine wp_st_row 30 _ _ rfl (carA y) rfl rfl (HasRow.of HXn5.out rfl) rfl (by simp [cfgA, carA, waitA, grpA, Value.oneCell']) (by kernel_rfl) ?_
       intro w56 hw
       have HXn52 := Lib.hid (show Blk w56 bn5 30 (carA y) by rw [hw]; exact Blk.row HXn5.out _)
       have HXn622 := Lib.hid (show Blk w56 bn6 32 #[.int .i64 0, .int .i64 0] by rw [hw]; exact Blk.row_far HXn62.out (Ne.symm HNn5n6.out) _)
       clear HXn62
       have hHeld3 := HKS.out.at_ w56 ⟨by rw [hw]; exact Upd.setRow hHeld.1 (Or.inr HGn5.out) _, by rw [hw]; exact Blk.row_far (hHeld.2.1) (Ne.symm HNn5Q.out) _, by rw [hw]; exact own_row_far (hHeld.2.2.1) HIn5_c.out _, by rw [hw]; exact own_row_far (hHeld.2.2.2.1) HIn5_w.out _, by rw [hw]; exact own_row_far (hHeld.2.2.2.2) HIn5_v.out _⟩
       refine hK.out _ _ hHeld3 (fun hHeld2 => ?_)
       clear HXn5 hK K hHeld hHeld3 hw
       have hHeld := hHeld2
       clear hHeld2
       (try simp only [Act.put, sA, sB, sC])
       refine wpAnyH_ready (rs := [19]) (by kernel_rfl) (by simp) ?_
       refine AllReadyH.cons (o := ?o9_b11b17_19) ?h9_b11b17_19 (fun K hK => ?_) AllReadyH.nil
       case h9_b11b17_19 => (first | (simp only [gA, gB, gC]; done) | (simp only [gA, gB, gC]; exact rfl))
       rw [if_pos (by rfl)]
       refine wp_st_row 32 _ _ rfl #[.int .i64 (tkF x), .int .i64 (tkW x)] rfl rfl (HasRow.of HXn622.out rfl) rfl (by simp [cfgA, carA, waitA, grpA, Value.oneCell']) (by kernel_rfl) ?_
       intro w57 hw
       have HXn6222 := Lib.hid (show Blk w57 bn6 32 #[.int .i64 (tkF x), .int .i64 (tkW x)] by rw [hw]; exact Blk.row HXn622.out _)
       have HXn522 := Lib.hid (show Blk w57 bn5 30 (carA y) by rw [hw]; exact Blk.row_far HXn52.out HNn5n6.out _)
       clear HXn52
       have hHeld3 := HKS.out.at_ w57 ⟨by rw [hw]; exact Upd.setRow hHeld.1 (Or.inr HGn6.out) _, by rw [hw]; exact Blk.row_far (hHeld.2.1) (Ne.symm HNn6Q.out) _, by rw [hw]; exact own_row_far (hHeld.2.2.1) HIn6_c.out _, by rw [hw]; exact own_row_far (hHeld.2.2.2.1) HIn6_w.out _, by rw [hw]; exact own_row_far (hHeld.2.2.2.2) HIn6_v.out _⟩
       refine hK.out _ _ hHeld3 (fun hHeld2 => ?_)
       clear HXn622 hK K hHeld hHeld3 hw
       have hHeld := hHeld2
       clear hHeld2
       (try simp only [Act.put, sA, sB, sC])
       refine tkQ 20 (.bool (tkS x)) hHeld (h := ?_)
       (try simp only [Act.put, sA, sB, sC])
       refine wpAnyH_done (by kernel_rfl) ?_ _
       have HSd9v2 := Lib.hid hHeld.1
       have HBQd9v2 := Lib.hid (hHeld.2.1)
       have HFcd9v2 := Lib.hid (hHeld.2.2.1)
       have HFwd9v2 := Lib.hid (hHeld.2.2.2.1)
       have HFvd9v2 := Lib.hid (hHeld.2.2.2.2)
       clear hHeld HRK HKS HS52 HBQ52 HFc52 HFw52 HFv52
       go_wp2_with fail
       refine Met.intro ?_
       exact hJ2 _ _ ⟨bn5, bn6, ⟨rfl, rfl, rfl, rfl, rfl, rfl, rfl, rfl, rfl, rfl, trivial⟩, Lib.hid ⟨HGn5.out, HGn6.out, HSd9v2.out, HBQd9v2.out, HXn522.out, HXn6222.out, HFcd9v2.out, HFwd9v2.out, HFvd9v2.out⟩⟩
     case g9__16b =>
      rw [if_pos (by rfl)]
      refine wp_new (fun b => .pointer (some ⟨b, 0, none⟩)) 30 #[.int .i64 0, .int .i64 0, .int .i64 0, .int .i64 0, .int .i64 0, .int .i64 0, .int .i64 0, .bool false, .bool false, .int .i64 0, .int .i64 0, .bool false, .int .u64 0, .int .u64 0, .int .u64 0] (by rintro b rfl; first | rfl | kernel_rfl) ?_
      intro bn5 w53 hge hB hb
      refine hK.out _ _ (by (apply HRK.out; exact hb; exact hHeld)) (fun hHeld2 => ?_)
      have HIn5_c := Lib.hid (own_far (hHeld.2.2.1) hge)
      have HIn5_w := Lib.hid (own_far (hHeld.2.2.2.1) hge)
      have HIn5_v := Lib.hid (own_far (hHeld.2.2.2.2) hge)
      have HNn5Q := Lib.hid (show bn5 ≠ q by have := Blk.lt (hHeld.2.1); (try simp at this); (try simp at hge); omega)
      have HGn5 := Lib.hid (show w.heap.size ≤ bn5 by have := Upd.size hHeld.1; (try simp at this); (try simp at hge); omega)
      have HXn5 := Lib.hid hB
      clear hB
      clear hge
      clear hK K hHeld hb
      have hHeld := hHeld2
      clear hHeld2
      (try simp only [Act.put, sA, sB, sC])
      refine wpAnyH_ready (rs := [11, 17]) (by kernel_rfl) (by simp) ?_
      refine AllReadyH.cons (o := ?o9_b16_11b) ?h9_b16_11b (fun K hK => ?g9_b16_11b) (AllReadyH.cons (o := ?o9_b16_17b) ?h9_b16_17b (fun K hK => ?g9_b16_17b) AllReadyH.nil)
      case h9_b16_11b => (first | (simp only [gA, gB, gC]; done) | (simp only [gA, gB, gC]; exact rfl))
      case h9_b16_17b => (first | (simp only [gA, gB, gC]; done) | (simp only [gA, gB, gC]; exact rfl))
      case g9_b16_11b =>
       (try go_simp)
       refine (tickY G.c x y _ HOX.out HY2.out).mono ?_
       rintro e w54 ⟨rfl, hb⟩
       (try go_wp2_with fail)
       refine hK.out _ _ (by (apply HRK.out; exact hb; exact hHeld)) (fun hHeld2 => ?_)
       have HXn52 := Lib.hid (keep_blk hb HXn5.out)
       clear HXn5
       clear hK K hHeld hb
       have hHeld := hHeld2
       clear hHeld2
       (try simp only [Act.put, sA, sB, sC])
       refine tkQ 12 (.tuple #[.agg (carA y), .agg #[.int .i64 (tkF x), .int .i64 (tkW x)], .bool (tkS x)]) hHeld (h := ?_)
       (try simp only [Act.put, sA, sB, sC])
       refine tkQ 13 (.agg (carA y)) hHeld (h := ?_)
       (try simp only [Act.put, sA, sB, sC])
       refine tkQ 14 (.agg #[.int .i64 (tkF x), .int .i64 (tkW x)]) hHeld (h := ?_)
       (try simp only [Act.put, sA, sB, sC])
       refine tkQ 15 (.bool (tkS x)) hHeld (h := ?_)
       (try simp only [Act.put, sA, sB, sC])
       refine wpAnyH_ready (rs := [17]) (by kernel_rfl) (by simp) ?_
       refine AllReadyH.cons (o := ?o9_b16b11_17) ?h9_b16b11_17 (fun K hK => ?_) AllReadyH.nil
       case h9_b16b11_17 => (first | (simp only [gA, gB, gC]; done) | (simp only [gA, gB, gC]; exact rfl))
       rw [if_pos (by rfl)]
       refine wp_new (fun b => .pointer (some ⟨b, 0, none⟩)) 32 #[.int .i64 0, .int .i64 0] (by rintro b rfl; first | rfl | kernel_rfl) ?_
       intro bn6 w55 hge hB hb
       refine hK.out _ _ (by (apply HRK.out; exact hb; exact hHeld)) (fun hHeld2 => ?_)
       have HIn6_c := Lib.hid (own_far (hHeld.2.2.1) hge)
       have HIn6_w := Lib.hid (own_far (hHeld.2.2.2.1) hge)
       have HIn6_v := Lib.hid (own_far (hHeld.2.2.2.2) hge)
       have HNn6n5 := Lib.hid (show bn6 ≠ bn5 by have := Blk.lt HXn52.out; omega)
       have HXn522 := Lib.hid (keep_blk hb HXn52.out)
       clear HXn52
       have HNn6Q := Lib.hid (show bn6 ≠ q by have := Blk.lt (hHeld.2.1); (try simp at this); (try simp at hge); omega)
       have HGn6 := Lib.hid (show w.heap.size ≤ bn6 by have := Upd.size hHeld.1; (try simp at this); (try simp at hge); omega)
       have HXn6 := Lib.hid hB
       clear hB
       clear hge
       clear hK K hHeld hb
       have hHeld := hHeld2
       clear hHeld2
       (try simp only [Act.put, sA, sB, sC])
       refine wpAnyH_ready (rs := [18]) (by kernel_rfl) (by simp) ?_
       refine AllReadyH.cons (o := ?o9_b16b11_18) ?h9_b16b11_18 (fun K hK => ?_) AllReadyH.nil
       case h9_b16b11_18 => (first | (simp only [gA, gB, gC]; done) | (simp only [gA, gB, gC]; exact rfl))
       rw [if_pos (by rfl)]
       refine wp_st_row 30 _ _ rfl (carA y) rfl rfl (HasRow.of HXn522.out rfl) rfl (by simp [cfgA, carA, waitA, grpA, Value.oneCell']) (by kernel_rfl) ?_
       intro w56 hw
       have HXn5222 := Lib.hid (show Blk w56 bn5 30 (carA y) by rw [hw]; exact Blk.row HXn522.out _)
       have HXn62 := Lib.hid (show Blk w56 bn6 32 #[.int .i64 0, .int .i64 0] by rw [hw]; exact Blk.row_far HXn6.out HNn6n5.out _)
       clear HXn6
       have hHeld3 := HKS.out.at_ w56 ⟨by rw [hw]; exact Upd.setRow hHeld.1 (Or.inr HGn5.out) _, by rw [hw]; exact Blk.row_far (hHeld.2.1) (Ne.symm HNn5Q.out) _, by rw [hw]; exact own_row_far (hHeld.2.2.1) HIn5_c.out _, by rw [hw]; exact own_row_far (hHeld.2.2.2.1) HIn5_w.out _, by rw [hw]; exact own_row_far (hHeld.2.2.2.2) HIn5_v.out _⟩
       refine hK.out _ _ hHeld3 (fun hHeld2 => ?_)
       clear HXn522 hK K hHeld hHeld3 hw
       have hHeld := hHeld2
       clear hHeld2
       (try simp only [Act.put, sA, sB, sC])
       refine wpAnyH_ready (rs := [19]) (by kernel_rfl) (by simp) ?_
       refine AllReadyH.cons (o := ?o9_b16b11_19) ?h9_b16b11_19 (fun K hK => ?_) AllReadyH.nil
       case h9_b16b11_19 => (first | (simp only [gA, gB, gC]; done) | (simp only [gA, gB, gC]; exact rfl))
       rw [if_pos (by rfl)]
       refine wp_st_row 32 _ _ rfl #[.int .i64 (tkF x), .int .i64 (tkW x)] rfl rfl (HasRow.of HXn62.out rfl) rfl (by simp [cfgA, carA, waitA, grpA, Value.oneCell']) (by kernel_rfl) ?_
       intro w57 hw
       have HXn622 := Lib.hid (show Blk w57 bn6 32 #[.int .i64 (tkF x), .int .i64 (tkW x)] by rw [hw]; exact Blk.row HXn62.out _)
       have HXn52222 := Lib.hid (show Blk w57 bn5 30 (carA y) by rw [hw]; exact Blk.row_far HXn5222.out (Ne.symm HNn6n5.out) _)
       clear HXn5222
       have hHeld3 := HKS.out.at_ w57 ⟨by rw [hw]; exact Upd.setRow hHeld.1 (Or.inr HGn6.out) _, by rw [hw]; exact Blk.row_far (hHeld.2.1) (Ne.symm HNn6Q.out) _, by rw [hw]; exact own_row_far (hHeld.2.2.1) HIn6_c.out _, by rw [hw]; exact own_row_far (hHeld.2.2.2.1) HIn6_w.out _, by rw [hw]; exact own_row_far (hHeld.2.2.2.2) HIn6_v.out _⟩
       refine hK.out _ _ hHeld3 (fun hHeld2 => ?_)
       clear HXn62 hK K hHeld hHeld3 hw
       have hHeld := hHeld2
       clear hHeld2
       (try simp only [Act.put, sA, sB, sC])
       refine tkQ 20 (.bool (tkS x)) hHeld (h := ?_)
       (try simp only [Act.put, sA, sB, sC])
       refine wpAnyH_done (by kernel_rfl) ?_ _
       have HSd9v3 := Lib.hid hHeld.1
       have HBQd9v3 := Lib.hid (hHeld.2.1)
       have HFcd9v3 := Lib.hid (hHeld.2.2.1)
       have HFwd9v3 := Lib.hid (hHeld.2.2.2.1)
       have HFvd9v3 := Lib.hid (hHeld.2.2.2.2)
       clear hHeld HRK HKS HS52 HBQ52 HFc52 HFw52 HFv52
       go_wp2_with fail
       refine Met.intro ?_
       exact hJ2 _ _ ⟨bn5, bn6, ⟨rfl, rfl, rfl, rfl, rfl, rfl, rfl, rfl, rfl, rfl, trivial⟩, Lib.hid ⟨HGn5.out, HGn6.out, HSd9v3.out, HBQd9v3.out, HXn52222.out, HXn622.out, HFcd9v3.out, HFwd9v3.out, HFvd9v3.out⟩⟩
      case g9_b16_17b =>
       rw [if_pos (by rfl)]
       refine wp_new (fun b => .pointer (some ⟨b, 0, none⟩)) 32 #[.int .i64 0, .int .i64 0] (by rintro b rfl; first | rfl | kernel_rfl) ?_
       intro bn6 w54 hge hB hb
       refine hK.out _ _ (by (apply HRK.out; exact hb; exact hHeld)) (fun hHeld2 => ?_)
       have HIn6_c := Lib.hid (own_far (hHeld.2.2.1) hge)
       have HIn6_w := Lib.hid (own_far (hHeld.2.2.2.1) hge)
       have HIn6_v := Lib.hid (own_far (hHeld.2.2.2.2) hge)
       have HNn6n5 := Lib.hid (show bn6 ≠ bn5 by have := Blk.lt HXn5.out; omega)
       have HXn52 := Lib.hid (keep_blk hb HXn5.out)
       clear HXn5
       have HNn6Q := Lib.hid (show bn6 ≠ q by have := Blk.lt (hHeld.2.1); (try simp at this); (try simp at hge); omega)
       have HGn6 := Lib.hid (show w.heap.size ≤ bn6 by have := Upd.size hHeld.1; (try simp at this); (try simp at hge); omega)
       have HXn6 := Lib.hid hB
       clear hB
       clear hge
       clear hK K hHeld hb
       have hHeld := hHeld2
       clear hHeld2
       (try simp only [Act.put, sA, sB, sC])
       refine wpAnyH_ready (rs := [11]) (by kernel_rfl) (by simp) ?_
       refine AllReadyH.cons (o := ?o9_b16b17_11) ?h9_b16b17_11 (fun K hK => ?_) AllReadyH.nil
       case h9_b16b17_11 => (first | (simp only [gA, gB, gC]; done) | (simp only [gA, gB, gC]; exact rfl))
       (try go_simp)
       refine (tickY G.c x y _ HOX.out HY2.out).mono ?_
       rintro e w55 ⟨rfl, hb⟩
       (try go_wp2_with fail)
       refine hK.out _ _ (by (apply HRK.out; exact hb; exact hHeld)) (fun hHeld2 => ?_)
       have HXn522 := Lib.hid (keep_blk hb HXn52.out)
       clear HXn52
       have HXn62 := Lib.hid (keep_blk hb HXn6.out)
       clear HXn6
       clear hK K hHeld hb
       have hHeld := hHeld2
       clear hHeld2
       (try simp only [Act.put, sA, sB, sC])
       refine tkQ 12 (.tuple #[.agg (carA y), .agg #[.int .i64 (tkF x), .int .i64 (tkW x)], .bool (tkS x)]) hHeld (h := ?_)
       (try simp only [Act.put, sA, sB, sC])
       refine tkQ 13 (.agg (carA y)) hHeld (h := ?_)
       (try simp only [Act.put, sA, sB, sC])
       refine tkQ 14 (.agg #[.int .i64 (tkF x), .int .i64 (tkW x)]) hHeld (h := ?_)
       (try simp only [Act.put, sA, sB, sC])
       refine tkQ 15 (.bool (tkS x)) hHeld (h := ?_)
       (try simp only [Act.put, sA, sB, sC])
       refine wpAnyH_ready (rs := [18]) (by kernel_rfl) (by simp) ?_
       refine AllReadyH.cons (o := ?o9_b16b17_18) ?h9_b16b17_18 (fun K hK => ?_) AllReadyH.nil
       case h9_b16b17_18 => (first | (simp only [gA, gB, gC]; done) | (simp only [gA, gB, gC]; exact rfl))
       rw [if_pos (by rfl)]
       refine wp_st_row 30 _ _ rfl (carA y) rfl rfl (HasRow.of HXn522.out rfl) rfl (by simp [cfgA, carA, waitA, grpA, Value.oneCell']) (by kernel_rfl) ?_
       intro w56 hw
       have HXn5222 := Lib.hid (show Blk w56 bn5 30 (carA y) by rw [hw]; exact Blk.row HXn522.out _)
       have HXn622 := Lib.hid (show Blk w56 bn6 32 #[.int .i64 0, .int .i64 0] by rw [hw]; exact Blk.row_far HXn62.out HNn6n5.out _)
       clear HXn62
       have hHeld3 := HKS.out.at_ w56 ⟨by rw [hw]; exact Upd.setRow hHeld.1 (Or.inr HGn5.out) _, by rw [hw]; exact Blk.row_far (hHeld.2.1) (Ne.symm HNn5Q.out) _, by rw [hw]; exact own_row_far (hHeld.2.2.1) HIn5_c.out _, by rw [hw]; exact own_row_far (hHeld.2.2.2.1) HIn5_w.out _, by rw [hw]; exact own_row_far (hHeld.2.2.2.2) HIn5_v.out _⟩
       refine hK.out _ _ hHeld3 (fun hHeld2 => ?_)
       clear HXn522 hK K hHeld hHeld3 hw
       have hHeld := hHeld2
       clear hHeld2
       (try simp only [Act.put, sA, sB, sC])
       refine wpAnyH_ready (rs := [19]) (by kernel_rfl) (by simp) ?_
       refine AllReadyH.cons (o := ?o9_b16b17_19) ?h9_b16b17_19 (fun K hK => ?_) AllReadyH.nil
       case h9_b16b17_19 => (first | (simp only [gA, gB, gC]; done) | (simp only [gA, gB, gC]; exact rfl))
       rw [if_pos (by rfl)]
       refine wp_st_row 32 _ _ rfl #[.int .i64 (tkF x), .int .i64 (tkW x)] rfl rfl (HasRow.of HXn622.out rfl) rfl (by simp [cfgA, carA, waitA, grpA, Value.oneCell']) (by kernel_rfl) ?_
       intro w57 hw
       have HXn6222 := Lib.hid (show Blk w57 bn6 32 #[.int .i64 (tkF x), .int .i64 (tkW x)] by rw [hw]; exact Blk.row HXn622.out _)
       have HXn52222 := Lib.hid (show Blk w57 bn5 30 (carA y) by rw [hw]; exact Blk.row_far HXn5222.out (Ne.symm HNn6n5.out) _)
       clear HXn5222
       have hHeld3 := HKS.out.at_ w57 ⟨by rw [hw]; exact Upd.setRow hHeld.1 (Or.inr HGn6.out) _, by rw [hw]; exact Blk.row_far (hHeld.2.1) (Ne.symm HNn6Q.out) _, by rw [hw]; exact own_row_far (hHeld.2.2.1) HIn6_c.out _, by rw [hw]; exact own_row_far (hHeld.2.2.2.1) HIn6_w.out _, by rw [hw]; exact own_row_far (hHeld.2.2.2.2) HIn6_v.out _⟩
       refine hK.out _ _ hHeld3 (fun hHeld2 => ?_)
       clear HXn622 hK K hHeld hHeld3 hw
       have hHeld := hHeld2
       clear hHeld2
       (try simp only [Act.put, sA, sB, sC])
       refine tkQ 20 (.bool (tkS x)) hHeld (h := ?_)
       (try simp only [Act.put, sA, sB, sC])
       refine wpAnyH_done (by kernel_rfl) ?_ _
       have HSd9v4 := Lib.hid hHeld.1
       have HBQd9v4 := Lib.hid (hHeld.2.1)
       have HFcd9v4 := Lib.hid (hHeld.2.2.1)
       have HFwd9v4 := Lib.hid (hHeld.2.2.2.1)
       have HFvd9v4 := Lib.hid (hHeld.2.2.2.2)
       clear hHeld HRK HKS HS52 HBQ52 HFc52 HFw52 HFv52
       go_wp2_with fail
       refine Met.intro ?_
       exact hJ2 _ _ ⟨bn5, bn6, ⟨rfl, rfl, rfl, rfl, rfl, rfl, rfl, rfl, rfl, rfl, trivial⟩, Lib.hid ⟨HGn5.out, HGn6.out, HSd9v4.out, HBQd9v4.out, HXn52222.out, HXn6222.out, HFcd9v4.out, HFwd9v4.out, HFvd9v4.out⟩⟩
     case g9__17b =>
      rw [if_pos (by rfl)]
      refine wp_new (fun b => .pointer (some ⟨b, 0, none⟩)) 32 #[.int .i64 0, .int .i64 0] (by rintro b rfl; first | rfl | kernel_rfl) ?_
      intro bn6 w53 hge hB hb
      refine hK.out _ _ (by (apply HRK.out; exact hb; exact hHeld)) (fun hHeld2 => ?_)
      have HIn6_c := Lib.hid (own_far (hHeld.2.2.1) hge)
      have HIn6_w := Lib.hid (own_far (hHeld.2.2.2.1) hge)
      have HIn6_v := Lib.hid (own_far (hHeld.2.2.2.2) hge)
      have HNn6Q := Lib.hid (show bn6 ≠ q by have := Blk.lt (hHeld.2.1); (try simp at this); (try simp at hge); omega)
      have HGn6 := Lib.hid (show w.heap.size ≤ bn6 by have := Upd.size hHeld.1; (try simp at this); (try simp at hge); omega)
      have HXn6 := Lib.hid hB
      clear hB
      clear hge
      clear hK K hHeld hb
      have hHeld := hHeld2
      clear hHeld2
      (try simp only [Act.put, sA, sB, sC])
      refine wpAnyH_ready (rs := [11, 16]) (by kernel_rfl) (by simp) ?_
      refine AllReadyH.cons (o := ?o9_b17_11b) ?h9_b17_11b (fun K hK => ?g9_b17_11b) (AllReadyH.cons (o := ?o9_b17_16b) ?h9_b17_16b (fun K hK => ?g9_b17_16b) AllReadyH.nil)
      case h9_b17_11b => (first | (simp only [gA, gB, gC]; done) | (simp only [gA, gB, gC]; exact rfl))
      case h9_b17_16b => (first | (simp only [gA, gB, gC]; done) | (simp only [gA, gB, gC]; exact rfl))
      case g9_b17_11b =>
       (try go_simp)
       refine (tickY G.c x y _ HOX.out HY2.out).mono ?_
       rintro e w54 ⟨rfl, hb⟩
       (try go_wp2_with fail)
       refine hK.out _ _ (by (apply HRK.out; exact hb; exact hHeld)) (fun hHeld2 => ?_)
       have HXn62 := Lib.hid (keep_blk hb HXn6.out)
       clear HXn6
       clear hK K hHeld hb
       have hHeld := hHeld2
       clear hHeld2
       (try simp only [Act.put, sA, sB, sC])
       refine tkQ 12 (.tuple #[.agg (carA y), .agg #[.int .i64 (tkF x), .int .i64 (tkW x)], .bool (tkS x)]) hHeld (h := ?_)
       (try simp only [Act.put, sA, sB, sC])
       refine tkQ 13 (.agg (carA y)) hHeld (h := ?_)
       (try simp only [Act.put, sA, sB, sC])
       refine tkQ 14 (.agg #[.int .i64 (tkF x), .int .i64 (tkW x)]) hHeld (h := ?_)
       (try simp only [Act.put, sA, sB, sC])
       refine tkQ 15 (.bool (tkS x)) hHeld (h := ?_)
       (try simp only [Act.put, sA, sB, sC])
       refine wpAnyH_ready (rs := [16]) (by kernel_rfl) (by simp) ?_
       refine AllReadyH.cons (o := ?o9_b17b11_16) ?h9_b17b11_16 (fun K hK => ?_) AllReadyH.nil
       case h9_b17b11_16 => (first | (simp only [gA, gB, gC]; done) | (simp only [gA, gB, gC]; exact rfl))
       rw [if_pos (by rfl)]
       refine wp_new (fun b => .pointer (some ⟨b, 0, none⟩)) 30 #[.int .i64 0, .int .i64 0, .int .i64 0, .int .i64 0, .int .i64 0, .int .i64 0, .int .i64 0, .bool false, .bool false, .int .i64 0, .int .i64 0, .bool false, .int .u64 0, .int .u64 0, .int .u64 0] (by rintro b rfl; first | rfl | kernel_rfl) ?_
       intro bn5 w55 hge hB hb
       refine hK.out _ _ (by (apply HRK.out; exact hb; exact hHeld)) (fun hHeld2 => ?_)
       have HIn5_c := Lib.hid (own_far (hHeld.2.2.1) hge)
       have HIn5_w := Lib.hid (own_far (hHeld.2.2.2.1) hge)
       have HIn5_v := Lib.hid (own_far (hHeld.2.2.2.2) hge)
       have HNn5n6 := Lib.hid (show bn5 ≠ bn6 by have := Blk.lt HXn62.out; omega)
       have HXn622 := Lib.hid (keep_blk hb HXn62.out)
       clear HXn62
       have HNn5Q := Lib.hid (show bn5 ≠ q by have := Blk.lt (hHeld.2.1); (try simp at this); (try simp at hge); omega)
       have HGn5 := Lib.hid (show w.heap.size ≤ bn5 by have := Upd.size hHeld.1; (try simp at this); (try simp at hge); omega)
       have HXn5 := Lib.hid hB
       clear hB
       clear hge
       clear hK K hHeld hb
       have hHeld := hHeld2
       clear hHeld2
       (try simp only [Act.put, sA, sB, sC])
       refine wpAnyH_ready (rs := [18]) (by kernel_rfl) (by simp) ?_
       refine AllReadyH.cons (o := ?o9_b17b11_18) ?h9_b17b11_18 (fun K hK => ?_) AllReadyH.nil
       case h9_b17b11_18 => (first | (simp only [gA, gB, gC]; done) | (simp only [gA, gB, gC]; exact rfl))
       rw [if_pos (by rfl)]
       refine wp_st_row 30 _ _ rfl (carA y) rfl rfl (HasRow.of HXn5.out rfl) rfl (by simp [cfgA, carA, waitA, grpA, Value.oneCell']) (by kernel_rfl) ?_
       intro w56 hw
       have HXn52 := Lib.hid (show Blk w56 bn5 30 (carA y) by rw [hw]; exact Blk.row HXn5.out _)
       have HXn6222 := Lib.hid (show Blk w56 bn6 32 #[.int .i64 0, .int .i64 0] by rw [hw]; exact Blk.row_far HXn622.out (Ne.symm HNn5n6.out) _)
       clear HXn622
       have hHeld3 := HKS.out.at_ w56 ⟨by rw [hw]; exact Upd.setRow hHeld.1 (Or.inr HGn5.out) _, by rw [hw]; exact Blk.row_far (hHeld.2.1) (Ne.symm HNn5Q.out) _, by rw [hw]; exact own_row_far (hHeld.2.2.1) HIn5_c.out _, by rw [hw]; exact own_row_far (hHeld.2.2.2.1) HIn5_w.out _, by rw [hw]; exact own_row_far (hHeld.2.2.2.2) HIn5_v.out _⟩
       refine hK.out _ _ hHeld3 (fun hHeld2 => ?_)
       clear HXn5 hK K hHeld hHeld3 hw
       have hHeld := hHeld2
       clear hHeld2
       (try simp only [Act.put, sA, sB, sC])
       refine wpAnyH_ready (rs := [19]) (by kernel_rfl) (by simp) ?_
       refine AllReadyH.cons (o := ?o9_b17b11_19) ?h9_b17b11_19 (fun K hK => ?_) AllReadyH.nil
       case h9_b17b11_19 => (first | (simp only [gA, gB, gC]; done) | (simp only [gA, gB, gC]; exact rfl))
       rw [if_pos (by rfl)]
       refine wp_st_row 32 _ _ rfl #[.int .i64 (tkF x), .int .i64 (tkW x)] rfl rfl (HasRow.of HXn6222.out rfl) rfl (by simp [cfgA, carA, waitA, grpA, Value.oneCell']) (by kernel_rfl) ?_
       intro w57 hw
       have HXn62222 := Lib.hid (show Blk w57 bn6 32 #[.int .i64 (tkF x), .int .i64 (tkW x)] by rw [hw]; exact Blk.row HXn6222.out _)
       have HXn522 := Lib.hid (show Blk w57 bn5 30 (carA y) by rw [hw]; exact Blk.row_far HXn52.out HNn5n6.out _)
       clear HXn52
       have hHeld3 := HKS.out.at_ w57 ⟨by rw [hw]; exact Upd.setRow hHeld.1 (Or.inr HGn6.out) _, by rw [hw]; exact Blk.row_far (hHeld.2.1) (Ne.symm HNn6Q.out) _, by rw [hw]; exact own_row_far (hHeld.2.2.1) HIn6_c.out _, by rw [hw]; exact own_row_far (hHeld.2.2.2.1) HIn6_w.out _, by rw [hw]; exact own_row_far (hHeld.2.2.2.2) HIn6_v.out _⟩
       refine hK.out _ _ hHeld3 (fun hHeld2 => ?_)
       clear HXn6222 hK K hHeld hHeld3 hw
       have hHeld := hHeld2
       clear hHeld2
       (try simp only [Act.put, sA, sB, sC])
       refine tkQ 20 (.bool (tkS x)) hHeld (h := ?_)
       (try simp only [Act.put, sA, sB, sC])
       refine wpAnyH_done (by kernel_rfl) ?_ _
       have HSd9v5 := Lib.hid hHeld.1
       have HBQd9v5 := Lib.hid (hHeld.2.1)
       have HFcd9v5 := Lib.hid (hHeld.2.2.1)
       have HFwd9v5 := Lib.hid (hHeld.2.2.2.1)
       have HFvd9v5 := Lib.hid (hHeld.2.2.2.2)
       clear hHeld HRK HKS HS52 HBQ52 HFc52 HFw52 HFv52
       go_wp2_with fail
       refine Met.intro ?_
       exact hJ2 _ _ ⟨bn5, bn6, ⟨rfl, rfl, rfl, rfl, rfl, rfl, rfl, rfl, rfl, rfl, trivial⟩, Lib.hid ⟨HGn5.out, HGn6.out, HSd9v5.out, HBQd9v5.out, HXn522.out, HXn62222.out, HFcd9v5.out, HFwd9v5.out, HFvd9v5.out⟩⟩
      case g9_b17_16b =>
       rw [if_pos (by rfl)]
       refine wp_new (fun b => .pointer (some ⟨b, 0, none⟩)) 30 #[.int .i64 0, .int .i64 0, .int .i64 0, .int .i64 0, .int .i64 0, .int .i64 0, .int .i64 0, .bool false, .bool false, .int .i64 0, .int .i64 0, .bool false, .int .u64 0, .int .u64 0, .int .u64 0] (by rintro b rfl; first | rfl | kernel_rfl) ?_
       intro bn5 w54 hge hB hb
       refine hK.out _ _ (by (apply HRK.out; exact hb; exact hHeld)) (fun hHeld2 => ?_)
       have HIn5_c := Lib.hid (own_far (hHeld.2.2.1) hge)
       have HIn5_w := Lib.hid (own_far (hHeld.2.2.2.1) hge)
       have HIn5_v := Lib.hid (own_far (hHeld.2.2.2.2) hge)
       have HNn5n6 := Lib.hid (show bn5 ≠ bn6 by have := Blk.lt HXn6.out; omega)
       have HXn62 := Lib.hid (keep_blk hb HXn6.out)
       clear HXn6
       have HNn5Q := Lib.hid (show bn5 ≠ q by have := Blk.lt (hHeld.2.1); (try simp at this); (try simp at hge); omega)
       have HGn5 := Lib.hid (show w.heap.size ≤ bn5 by have := Upd.size hHeld.1; (try simp at this); (try simp at hge); omega)
       have HXn5 := Lib.hid hB
       clear hB
       clear hge
       clear hK K hHeld hb
       have hHeld := hHeld2
       clear hHeld2
       (try simp only [Act.put, sA, sB, sC])
       refine wpAnyH_ready (rs := [11]) (by kernel_rfl) (by simp) ?_
       refine AllReadyH.cons (o := ?o9_b17b16_11) ?h9_b17b16_11 (fun K hK => ?_) AllReadyH.nil
       case h9_b17b16_11 => (first | (simp only [gA, gB, gC]; done) | (simp only [gA, gB, gC]; exact rfl))
       (try go_simp)
       refine (tickY G.c x y _ HOX.out HY2.out).mono ?_
       rintro e w55 ⟨rfl, hb⟩
       (try go_wp2_with fail)
       refine hK.out _ _ (by (apply HRK.out; exact hb; exact hHeld)) (fun hHeld2 => ?_)
       have HXn622 := Lib.hid (keep_blk hb HXn62.out)
       clear HXn62
       have HXn52 := Lib.hid (keep_blk hb HXn5.out)
       clear HXn5
       clear hK K hHeld hb
       have hHeld := hHeld2
       clear hHeld2
       (try simp only [Act.put, sA, sB, sC])
       refine tkQ 12 (.tuple #[.agg (carA y), .agg #[.int .i64 (tkF x), .int .i64 (tkW x)], .bool (tkS x)]) hHeld (h := ?_)
       (try simp only [Act.put, sA, sB, sC])
       refine tkQ 13 (.agg (carA y)) hHeld (h := ?_)
       (try simp only [Act.put, sA, sB, sC])
       refine tkQ 14 (.agg #[.int .i64 (tkF x), .int .i64 (tkW x)]) hHeld (h := ?_)
       (try simp only [Act.put, sA, sB, sC])
       refine tkQ 15 (.bool (tkS x)) hHeld (h := ?_)
       (try simp only [Act.put, sA, sB, sC])
       refine wpAnyH_ready (rs := [18]) (by kernel_rfl) (by simp) ?_
       refine AllReadyH.cons (o := ?o9_b17b16_18) ?h9_b17b16_18 (fun K hK => ?_) AllReadyH.nil
       case h9_b17b16_18 => (first | (simp only [gA, gB, gC]; done) | (simp only [gA, gB, gC]; exact rfl))
       rw [if_pos (by rfl)]
       refine wp_st_row 30 _ _ rfl (carA y) rfl rfl (HasRow.of HXn52.out rfl) rfl (by simp [cfgA, carA, waitA, grpA, Value.oneCell']) (by kernel_rfl) ?_
       intro w56 hw
       have HXn522 := Lib.hid (show Blk w56 bn5 30 (carA y) by rw [hw]; exact Blk.row HXn52.out _)
       have HXn6222 := Lib.hid (show Blk w56 bn6 32 #[.int .i64 0, .int .i64 0] by rw [hw]; exact Blk.row_far HXn622.out (Ne.symm HNn5n6.out) _)
       clear HXn622
       have hHeld3 := HKS.out.at_ w56 ⟨by rw [hw]; exact Upd.setRow hHeld.1 (Or.inr HGn5.out) _, by rw [hw]; exact Blk.row_far (hHeld.2.1) (Ne.symm HNn5Q.out) _, by rw [hw]; exact own_row_far (hHeld.2.2.1) HIn5_c.out _, by rw [hw]; exact own_row_far (hHeld.2.2.2.1) HIn5_w.out _, by rw [hw]; exact own_row_far (hHeld.2.2.2.2) HIn5_v.out _⟩
       refine hK.out _ _ hHeld3 (fun hHeld2 => ?_)
       clear HXn52 hK K hHeld hHeld3 hw
       have hHeld := hHeld2
       clear hHeld2
       (try simp only [Act.put, sA, sB, sC])
       refine wpAnyH_ready (rs := [19]) (by kernel_rfl) (by simp) ?_
       refine AllReadyH.cons (o := ?o9_b17b16_19) ?h9_b17b16_19 (fun K hK => ?_) AllReadyH.nil
       case h9_b17b16_19 => (first | (simp only [gA, gB, gC]; done) | (simp only [gA, gB, gC]; exact rfl))
       rw [if_pos (by rfl)]
       refine wp_st_row 32 _ _ rfl #[.int .i64 (tkF x), .int .i64 (tkW x)] rfl rfl (HasRow.of HXn6222.out rfl) rfl (by simp [cfgA, carA, waitA, grpA, Value.oneCell']) (by kernel_rfl) ?_
       intro w57 hw
       have HXn62222 := Lib.hid (show Blk w57 bn6 32 #[.int .i64 (tkF x), .int .i64 (tkW x)] by rw [hw]; exact Blk.row HXn6222.out _)
       have HXn5222 := Lib.hid (show Blk w57 bn5 30 (carA y) by rw [hw]; exact Blk.row_far HXn522.out HNn5n6.out _)
       clear HXn522
       have hHeld3 := HKS.out.at_ w57 ⟨by rw [hw]; exact Upd.setRow hHeld.1 (Or.inr HGn6.out) _, by rw [hw]; exact Blk.row_far (hHeld.2.1) (Ne.symm HNn6Q.out) _, by rw [hw]; exact own_row_far (hHeld.2.2.1) HIn6_c.out _, by rw [hw]; exact own_row_far (hHeld.2.2.2.1) HIn6_w.out _, by rw [hw]; exact own_row_far (hHeld.2.2.2.2) HIn6_v.out _⟩
       refine hK.out _ _ hHeld3 (fun hHeld2 => ?_)
       clear HXn6222 hK K hHeld hHeld3 hw
       have hHeld := hHeld2
       clear hHeld2
       (try simp only [Act.put, sA, sB, sC])
       refine tkQ 20 (.bool (tkS x)) hHeld (h := ?_)
       (try simp only [Act.put, sA, sB, sC])
       refine wpAnyH_done (by kernel_rfl) ?_ _
       have HSd9v6 := Lib.hid hHeld.1
       have HBQd9v6 := Lib.hid (hHeld.2.1)
       have HFcd9v6 := Lib.hid (hHeld.2.2.1)
       have HFwd9v6 := Lib.hid (hHeld.2.2.2.1)
       have HFvd9v6 := Lib.hid (hHeld.2.2.2.2)
       clear hHeld HRK HKS HS52 HBQ52 HFc52 HFw52 HFv52
       go_wp2_with fail
       refine Met.intro ?_
       exact hJ2 _ _ ⟨bn5, bn6, ⟨rfl, rfl, rfl, rfl, rfl, rfl, rfl, rfl, rfl, rfl, trivial⟩, Lib.hid ⟨HGn5.out, HGn6.out, HSd9v6.out, HBQd9v6.out, HXn5222.out, HXn62222.out, HFcd9v6.out, HFwd9v6.out, HFvd9v6.out⟩⟩
    case rest2 =>
     intro fr wc hR
     clear HS52 HBQ52 HFc52 HFw52 HFv52
     obtain ⟨b5, b6, hF, HO⟩ := hR
     obtain ⟨e0, e1, g0, g1, g2, g3, g4, g5, g6⟩ := HO.out
     clear HO
     have HG5 := Lib.hid e0
     have HG6 := Lib.hid e1
     have HS102 := Lib.hid g0
     have HBQ102 := Lib.hid g1
     have HBn5102 := Lib.hid g2
     have HBn6102 := Lib.hid g3
     have HFc102 := Lib.hid g4
     have HFw102 := Lib.hid g5
     have HFv102 := Lib.hid g6
     clear e0 e1 g0 g1 g2 g3 g4 g5 g6
     obtain ⟨u, hu⟩ := hF.open_
     have hu2 := hu.trans (show _ = #[.pointer (some ⟨q, 0, none⟩), u 1, .slice none 0 0, .slice A3 Vl.length c3, .int .i64 (i : Int), .pointer (some ⟨b5, 0, none⟩), .pointer (some ⟨b6, 0, none⟩), .bool (tkS x), u 8, u 9, u 10, u 11, u 12, u 13, u 14, u 15, u 16, u 17, u 18, u 19, u 20, u 21, u 22, u 23, u 24, .int .i64 (G.cars.length : Int), .int .i64 (i : Int), u 27, u 28, u 29, u 30, u 31, u 32, u 33, u 34, u 35, u 36, u 37, u 38, u 39, u 40, u 41, u 42, u 43, u 44, u 45, u 46, u 47, u 48, u 49, u 50, u 51, u 52, u 53, u 54, u 55, u 56, u 57, u 58, u 59, u 60, u 61, u 62, u 63, u 64, u 65, u 66, u 67, u 68, u 69, u 70, u 71, u 72, u 73, u 74, u 75, u 76, u 77, u 78, u 79, u 80, u 81, u 82] by kernel_rfl)
     clear hu hF
     subst hu2
     have HN5Q := Lib.hid (Blk.ne_ HBn5102.out HBQ102.out (by decide))
     have HI5C := Lib.hid (show b5 ∉ blkOf (some ⟨g1, 0, none⟩) from fun h => by have q1 := HLT1.out _ h; have q2 := HG5.out; omega)
     obtain ⟨P, S0, hP, hE, hback⟩ := own_elS carL_len HFc102.out HX.out
     have HP := Lib.hid hP; have HE := Lib.hid (show Blk wc g1 30 (el P (carA x) S0) from hE); have HBKC := Lib.hid hback; clear hP hE hback
     have HNQG := Lib.hid (Blk.ne_ HBQ102.out HE.out (by decide)); have HN6G := Lib.hid (Blk.ne_ HBn6102.out HE.out (by decide)); have HN5G := Lib.hid (show b5 ≠ g1 from fun h => HI5C.out (by rw [h]; simp [blkOf])); have HIGW := Lib.hid (own_ne_ty HFw102.out HE.out (by decide)); have HIGV := Lib.hid (own_ne_ty HFv102.out HE.out (by decide))
     clear HFc102
     go_upto_region 10 with fail
     have HKS : Hid (KeepS (fun W : World => Upd (q :: (blkOf (some ⟨g1, 0, none⟩) ++ blkOf A2)) w W ∧ Blk W q 67 #[.int .i64 G.c.ca, .int .i64 G.c.fl, .int .i64 G.c.ft, .int .i64 G.c.se, .int .i64 G.c.dr, .int .i64 G.c.dw, .int .i64 G.c.ho, .int .i64 G.c.re, .int .i64 G.c.yi, .int .i64 G.c.qu, .int .i64 G.c.qo, .int .i64 G.c.lo, .int .i64 G.c.sl, .int .i64 G.c.rt, .int .i64 G.c.cp, .int .i64 G.c.tr, .int .i64 G.c.de, .int .i64 G.c.wi, .slice (some ⟨g1, 0, none⟩) G.cars.length c1, .slice A2 Wl.length c2, .int .i64 (cl (cl G.now + cl 1))] ∧ Blk W b5 30 (carA y) ∧ Blk W b6 32 #[.int .i64 (tkF x), .int .i64 (tkW x)] ∧ HasRow W g1 30 (P.length + 15 + S0.length) ∧ (W).ownsRow lo 55 4 (.slice A2 Wl.length c2) Wl.length (rowsOf waitL Wl) ∧ (W).ownsRow w.heap.size 55 4 (.slice A3 Vl.length c3) Vl.length (rowsOf waitL Vl)) wc) := Lib.hid ⟨fun W W' k ⟨h, h0, h1, h2, h3, h4, h5⟩ => ⟨h.trans k, keep_blk k h0, keep_blk k h1, keep_blk k h2, HasRow.keep k h3, keep_own k h4, keep_own k h5⟩, ⟨HS102.out, HBQ102.out, HBn5102.out, HBn6102.out, HasRow.of HE.out el_size, HFw102.out, HFv102.out⟩⟩
     have HRK := Lib.hid HKS.out.1
     have HPE := Lib.hid (show Blk (World.drew wc) g1 30 (el P (carA x) S0) from HE.out)
     refine wp_held HKS.out (by kernel_rfl) (fun hHeld => ?_)
     refine tkQ 0 (.pointer (some ⟨q, 0, none⟩)) hHeld (h := ?_)
     (try simp only [Act.put, sA, sB, sC])
     refine tkQ 1 (.pointer (some ⟨q, 0, none⟩)) hHeld (h := ?_)
     (try simp only [Act.put, sA, sB, sC])
     refine tkQ 2 (.pointer (some ⟨q, 18, none⟩)) hHeld (h := ?_)
     (try simp only [Act.put, sA, sB, sC])
     refine tkQ 3 (.slice (some ⟨g1, 0, none⟩) G.cars.length c1) hHeld (he := by intro w hSw; exact exec_cell 37 _ _ hSw.2.1 rfl rfl rfl Try.underlying37 rfl) (h := ?_)
     (try simp only [Act.put, sA, sB, sC])
     refine tkQ 4 (.int .i64 (i : Int)) hHeld (h := ?_)
     (try simp only [Act.put, sA, sB, sC])
     refine tkQ 5 (.agg (carA y)) hHeld (he := by intro w hSw; exact exec_load_row 30 _ _ hSw.2.2.1 rfl rfl Try.underlying30 rfl (by kernel_rfl)) (h := ?_)
     (try simp only [Act.put, sA, sB, sC])
     refine tkQ 6 (.pointer (some ⟨g1, i * 15, none⟩)) hHeld (he := by intro w hSw; (rw [show i * 15 = 0 + i * 15 by omega]; exact exec_index (i := i) (s := 15) 37 30 _ _ rfl rfl rfl rfl HLT.out Try.underlying37 (by kernel_rfl))) (h := ?_)
     (try simp only [Act.put, sA, sB, sC])
     refine wpAnyH_ready (rs := [7]) (by kernel_rfl) (by simp) ?_
     refine AllReadyH.cons (o := ?o10__7) ?h10__7 (fun K hK => ?_) AllReadyH.nil
     case h10__7 => (first | (simp only [gA, gB, gC]; done) | (simp only [gA, gB, gC]; exact rfl))
     rw [if_pos (by rfl)]
     refine wp_st_part 30 _ _ rfl (el P (carA y) S0) ((carA y)) rfl rfl HPE.out (el_le (j := 0) HP.out (by show 0 + 15 ≤ 15; decide)) (el_put (j := 0) HP.out (by show 0 + 15 ≤ 15; decide) (putCar _ _)) (by simp [cfgA, carA, waitA, grpA, Value.oneCell']) (by kernel_rfl) ?_
     clear HPE
     intro w103 hw
     have HRE := Lib.hid (show Blk w103 g1 30 (el P (carA y) S0) by obtain ⟨old, Bo, _⟩ := hHeld.2.2.2.2.1; rw [hw]; exact Blk.row Bo _)
     have hHeld3 := HKS.out.at_ w103 ⟨by rw [hw]; exact Upd.setRow hHeld.1 (.inl (by simp [blkOf])) _, by rw [hw]; exact Blk.row_far (hHeld.2.1) HNQG.out _, by rw [hw]; exact Blk.row_far (hHeld.2.2.1) HN5G.out _, by rw [hw]; exact Blk.row_far (hHeld.2.2.2.1) HN6G.out _, HasRow.of HRE.out el_size, by rw [hw]; exact own_row_far (hHeld.2.2.2.2.2.1) HIGW.out _, by rw [hw]; exact own_row_far (hHeld.2.2.2.2.2.2) HIGV.out _⟩
     refine hK.out _ _ hHeld3 (fun hHeld2 => ?_)
     clear hK K hHeld hHeld3 hw
     have hHeld := hHeld2
     clear hHeld2
     (try simp only [Act.put, sA, sB, sC])
     refine wpAnyH_done (by kernel_rfl) ?_ _
     have HSd10 := Lib.hid hHeld.1
     have HBQd10 := Lib.hid (hHeld.2.1)
     have HBn5d10 := Lib.hid (hHeld.2.2.1)
     have HBn6d10 := Lib.hid (hHeld.2.2.2.1)
     have HBEd10 := Lib.hid HRE.out
     clear HRE
     have HFwd10 := Lib.hid (hHeld.2.2.2.2.2.1)
     have HFvd10 := Lib.hid (hHeld.2.2.2.2.2.2)
     clear hHeld HRK HKS HS102 HBQ102 HBn5102 HBn6102 HE HFw102 HFv102
     have HC11 := Lib.hid (HBKC.out y _ HBEd10.out); clear HBEd10
     have HFY := Lib.hid (rfl : atP Wl (isW (tkF x) (tkW x)) = atP Wl (isW (tkF x) (tkW x)))
     cases hsv : tkS x with
     | false =>
      have HSV := Lib.hid hsv; have HAT := Lib.hid (rfl : atP Wl (isW (tkF x) (tkW x)) = atP Wl (isW (tkF x) (tkW x))); clear hsv
      go_upto_region 11 with fail
      refine wp_region_lit ?_
      refine tkL (.pointer (some ⟨q, 0, none⟩)) (h := ?_)
      (try simp only [Act.put, sA, sB, sC])
      refine wpList_q (by rfl) (.agg #[.int .i64 (tkF x), .int .i64 (tkW x)]) ?he ?_
      case he => exact exec_load_row 32 _ _ HBn6d10.out rfl rfl Try.underlying32 rfl (by kernel_rfl)
      (try simp only [Act.put, sA, sB, sC])
      refine wpList_wp (by rfl) (fun K hK => ?_)
      (try go_simp)
      refine (findV lo q ⟨G.c, [], Wl, (cl (cl G.now + cl 1))⟩ _ A2 c2 (tkF x) (tkW x) (atP Wl (isW (tkF x) (tkW x))) _ HBQd10.out HFwd10.out HLW.out.1 HAT.out).mono ?_
      rintro e w104 ⟨rfl, hb⟩
      (try go_wp2_with fail)
      refine hK.out _ _ ?_
      clear hK K
      (try simp only [Act.put, sA, sB, sC])
      have HS104 := Lib.hid (Upd.trans HSd10.out hb)
      have HBQ104 := Lib.hid (keep_blk hb HBQd10.out)
      have HBn5104 := Lib.hid (keep_blk hb HBn5d10.out)
      have HBn6104 := Lib.hid (keep_blk hb HBn6d10.out)
      have HFc104 := Lib.hid (keep_own hb HC11.out)
      have HFw104 := Lib.hid (keep_own hb HFwd10.out)
      have HFv104 := Lib.hid (keep_own hb HFvd10.out)
      clear HSd10 HBQd10 HBn5d10 HBn6d10 HC11 HFwd10 HFvd10
      clear hb
      refine tkL (.int .i64 (oI (atP Wl (isW (tkF x) (tkW x))))) (h := ?_)
      (try simp only [Act.put, sA, sB, sC])
      refine wpList_nil ?_
      go_upto_region 12 with fail
      refine wp_region_lit ?_
      refine wpList_q (by rfl) (.bool false) ?he ?_
      case he => (have q := HSV.out; go_simp; (first | done | exact q | (simp [q]; done)))
      (try simp only [Act.put, sA, sB, sC])
      refine tkL (.bool false) (h := ?_)
      (try simp only [Act.put, sA, sB, sC])
      refine wpList_no (by rfl) ?_
      (try simp only [Act.put, sA, sB, sC])
      refine wpList_no (by rfl) ?_
      (try simp only [Act.put, sA, sB, sC])
      refine tkL (.bool false) (h := ?_)
      (try simp only [Act.put, sA, sB, sC])
      refine wpList_nil ?_
      go_upto_region 15 with fail
      refine wp_region_lit ?_
      refine wpList_q (by rfl) (.int .i64 ((i : Int) + 1)) ?he ?_
      case he => (go_simp; (first | done | (refine wrG _ ?_ ?_ <;> (have q0 := HLT.out; have q1 := HL1.out; omega)) | (have q0 := HLT.out; have q1 := HL1.out; omega) | (have q0 := HLT.out; have q1 := HL1.out; split <;> omega) | (have q0 := HLT.out; have q1 := HL1.out; intro hh; omega)))
      (try simp only [Act.put, sA, sB, sC])
      refine tkL (.int .i64 ((i : Int) + 1)) (h := ?_)
      (try simp only [Act.put, sA, sB, sC])
      refine wpList_nil ?_
      go_wp2_with fail
      refine Met.intro ?_
      refine hJ1 _ _ _ ?less104 ⟨(i + 1), (Cl.set i y), Wl, Vl, A3, c3, (by have := HLT.out; omega), (by show tkStep G.c (tkN G.c (asgN G.c G.waits G.cars G.waits.length).2 (asgN G.c G.waits G.cars G.waits.length).1 i) i = _; rw [HY2.out, HEQ.out]; unfold tkStep; rw [show (Cl, Wl, Vl).1[i]? = some x from HX.out]; simp only []; rw [show (if tkS x = true then atP Wl (isW (tkF x) (tkW x)) else none) = none from if_neg (by rw [HSV.out]; decide)]), rfl, ⟨rfl, rfl, rfl, rfl, rfl, rfl, trivial⟩, Lib.hid ⟨HS104.out, HBQ104.out, HFc104.out, HFw104.out, HFv104.out⟩⟩
      case less104 => exact (by have := HM.out; have := HLT.out; omega)
     | true =>
      have HSV := Lib.hid hsv; clear hsv
      cases hat : atP Wl (isW (tkF x) (tkW x)) with
      | none =>
       have HAT := Lib.hid hat; clear hat
       go_upto_region 11 with fail
       refine wp_region_lit ?_
       refine tkL (.pointer (some ⟨q, 0, none⟩)) (h := ?_)
       (try simp only [Act.put, sA, sB, sC])
       refine wpList_q (by rfl) (.agg #[.int .i64 (tkF x), .int .i64 (tkW x)]) ?he ?_
       case he => exact exec_load_row 32 _ _ HBn6d10.out rfl rfl Try.underlying32 rfl (by kernel_rfl)
       (try simp only [Act.put, sA, sB, sC])
       refine wpList_wp (by rfl) (fun K hK => ?_)
       (try go_simp)
       refine (findV lo q ⟨G.c, [], Wl, (cl (cl G.now + cl 1))⟩ _ A2 c2 (tkF x) (tkW x) none _ HBQd10.out HFwd10.out HLW.out.1 HAT.out).mono ?_
       rintro e w104 ⟨rfl, hb⟩
       (try go_wp2_with fail)
       refine hK.out _ _ ?_
       clear hK K
       (try simp only [Act.put, sA, sB, sC])
       have HS104 := Lib.hid (Upd.trans HSd10.out hb)
       have HBQ104 := Lib.hid (keep_blk hb HBQd10.out)
       have HBn5104 := Lib.hid (keep_blk hb HBn5d10.out)
       have HBn6104 := Lib.hid (keep_blk hb HBn6d10.out)
       have HFc104 := Lib.hid (keep_own hb HC11.out)
       have HFw104 := Lib.hid (keep_own hb HFwd10.out)
       have HFv104 := Lib.hid (keep_own hb HFvd10.out)
       clear HSd10 HBQd10 HBn5d10 HBn6d10 HC11 HFwd10 HFvd10
       clear hb
       refine tkL (.int .i64 (oI none)) (h := ?_)
       (try simp only [Act.put, sA, sB, sC])
       refine wpList_nil ?_
       go_upto_region 12 with fail
       refine wp_region_lit ?_
       refine wpList_q (by rfl) (.bool true) ?he ?_
       case he => (have q := HSV.out; go_simp; (first | done | exact q | (simp [q]; done)))
       (try simp only [Act.put, sA, sB, sC])
       refine tkL (.bool true) (h := ?_)
       (try simp only [Act.put, sA, sB, sC])
       refine tkL (.int .i64 (oI none)) (h := ?_)
       (try simp only [Act.put, sA, sB, sC])
       refine wpList_q (by rfl) (.bool false) ?he ?_
       case he => (have q : ¬ (0 ≤ oI none) := (by decide); go_simp; (first | done | exact q | omega))
       (try simp only [Act.put, sA, sB, sC])
       refine tkL (.bool false) (h := ?_)
       (try simp only [Act.put, sA, sB, sC])
       refine wpList_nil ?_
       go_upto_region 15 with fail
       refine wp_region_lit ?_
       refine wpList_q (by rfl) (.int .i64 ((i : Int) + 1)) ?he ?_
       case he => (go_simp; (first | done | (refine wrG _ ?_ ?_ <;> (have q0 := HLT.out; have q1 := HL1.out; omega)) | (have q0 := HLT.out; have q1 := HL1.out; omega) | (have q0 := HLT.out; have q1 := HL1.out; split <;> omega) | (have q0 := HLT.out; have q1 := HL1.out; intro hh; omega)))
       (try simp only [Act.put, sA, sB, sC])
       refine tkL (.int .i64 ((i : Int) + 1)) (h := ?_)
       (try simp only [Act.put, sA, sB, sC])
       refine wpList_nil ?_
       go_wp2_with fail
       refine Met.intro ?_
       refine hJ1 _ _ _ ?less104 ⟨(i + 1), (Cl.set i y), Wl, Vl, A3, c3, (by have := HLT.out; omega), (by show tkStep G.c (tkN G.c (asgN G.c G.waits G.cars G.waits.length).2 (asgN G.c G.waits G.cars G.waits.length).1 i) i = _; rw [HY2.out, HEQ.out]; unfold tkStep; rw [show (Cl, Wl, Vl).1[i]? = some x from HX.out]; simp only []; rw [show (if tkS x = true then atP Wl (isW (tkF x) (tkW x)) else none) = none from (if_pos HSV.out).trans HAT.out]), rfl, ⟨rfl, rfl, rfl, rfl, rfl, rfl, trivial⟩, Lib.hid ⟨HS104.out, HBQ104.out, HFc104.out, HFw104.out, HFv104.out⟩⟩
       case less104 => exact (by have := HM.out; have := HLT.out; omega)
      | some k =>
       have HAT := Lib.hid hat; clear hat
       go_upto_region 11 with fail
       refine wp_region_lit ?_
       refine tkL (.pointer (some ⟨q, 0, none⟩)) (h := ?_)
       (try simp only [Act.put, sA, sB, sC])
       refine wpList_q (by rfl) (.agg #[.int .i64 (tkF x), .int .i64 (tkW x)]) ?he ?_
       case he => exact exec_load_row 32 _ _ HBn6d10.out rfl rfl Try.underlying32 rfl (by kernel_rfl)
       (try simp only [Act.put, sA, sB, sC])
       refine wpList_wp (by rfl) (fun K hK => ?_)
       (try go_simp)
       refine (findV lo q ⟨G.c, [], Wl, (cl (cl G.now + cl 1))⟩ _ A2 c2 (tkF x) (tkW x) (some k) _ HBQd10.out HFwd10.out HLW.out.1 HAT.out).mono ?_
       rintro e w104 ⟨rfl, hb⟩
       (try go_wp2_with fail)
       refine hK.out _ _ ?_
       clear hK K
       (try simp only [Act.put, sA, sB, sC])
       have HS104 := Lib.hid (Upd.trans HSd10.out hb)
       have HBQ104 := Lib.hid (keep_blk hb HBQd10.out)
       have HBn5104 := Lib.hid (keep_blk hb HBn5d10.out)
       have HBn6104 := Lib.hid (keep_blk hb HBn6d10.out)
       have HFc104 := Lib.hid (keep_own hb HC11.out)
       have HFw104 := Lib.hid (keep_own hb HFwd10.out)
       have HFv104 := Lib.hid (keep_own hb HFvd10.out)
       clear HSd10 HBQd10 HBn5d10 HBn6d10 HC11 HFwd10 HFvd10
       clear hb
       refine tkL (.int .i64 (oI (some k))) (h := ?_)
       (try simp only [Act.put, sA, sB, sC])
       refine wpList_nil ?_
       go_upto_region 12 with fail
       refine wp_region_lit ?_
       refine wpList_q (by rfl) (.bool true) ?he ?_
       case he => (have q := HSV.out; go_simp; (first | done | exact q | (simp [q]; done)))
       (try simp only [Act.put, sA, sB, sC])
       refine tkL (.bool true) (h := ?_)
       (try simp only [Act.put, sA, sB, sC])
       refine tkL (.int .i64 (oI (some k))) (h := ?_)
       (try simp only [Act.put, sA, sB, sC])
       refine wpList_q (by rfl) (.bool true) ?he ?_
       case he => (have q : 0 ≤ oI (some k) := (by show (0 : Int) ≤ (k : Int); omega); go_simp; (first | done | exact q | omega))
       (try simp only [Act.put, sA, sB, sC])
       refine tkL (.bool true) (h := ?_)
       (try simp only [Act.put, sA, sB, sC])
       refine wpList_nil ?_
       obtain ⟨hk1, _, _⟩ := atP_some HAT.out
       have HKK := Lib.hid hk1; clear hk1
       obtain ⟨yw, hy⟩ : ∃ yw, Wl[k]? = some yw := ⟨_, List.getElem?_eq_getElem HKK.out⟩
       have HY := Lib.hid hy; clear hy
       obtain ⟨g2, hg2⟩ := own_addr HFw104.out (by have := HKK.out; omega)
       subst hg2
       have HLOWV := Lib.hid (own_low HFv104.out)
       go_upto_region 13 with fail
       refine wp_region_lit ?_
       refine tkL (.slice A3 Vl.length c3) (h := ?_)
       (try simp only [Act.put, sA, sB, sC])
       refine tkL (.pointer (some ⟨q, 0, none⟩)) (h := ?_)
       (try simp only [Act.put, sA, sB, sC])
       refine tkL (.pointer (some ⟨q, 0, none⟩)) (h := ?_)
       (try simp only [Act.put, sA, sB, sC])
       refine tkL (.pointer (some ⟨q, 19, none⟩)) (h := ?_)
       (try simp only [Act.put, sA, sB, sC])
       refine wpList_q (by rfl) (.slice (some ⟨g2, 0, none⟩) Wl.length c2) ?he ?_
       case he => exact exec_cell 50 _ _ HBQ104.out rfl rfl rfl Try.underlying50 rfl
       (try simp only [Act.put, sA, sB, sC])
       refine tkL (.int .i64 (oI (some k))) (h := ?_)
       (try simp only [Act.put, sA, sB, sC])
       refine wpList_q (by rfl) (.pointer (some ⟨g2, (0 + k * 4), none⟩)) ?he ?_
       case he => exact exec_index (i := k) (s := 4) 50 55 _ _ rfl rfl rfl rfl HKK.out Try.underlying50 (by kernel_rfl)
       (try simp only [Act.put, sA, sB, sC])
       refine wpList_q (by rfl) (.agg #[.int .i64 yw.fl, .int .i64 yw.wy, .int .i64 yw.ca, .int .i64 yw.si]) ?he ?_
       case he => exact exec_rng (l := waitL yw) 55 _ _ (by have q := row_S waitL_len HFw104.out HY.out; simpa only [Nat.zero_add] using q) rfl rfl Try.underlying55 rfl (by kernel_rfl)
       (try simp only [Act.put, sA, sB, sC])
       refine wpList_wp (by rfl) (fun K hK => ?_)
       refine wp_new (fun b => .slice (some ⟨b, 0, none⟩) 1 1) 55 #[.int .i64 yw.fl, .int .i64 yw.wy, .int .i64 yw.ca, .int .i64 yw.si] (by rintro b rfl; first | rfl | kernel_rfl) ?_
       intro bn68 w105 hge hB hb
       refine hK.out _ _ ?_
       clear hK K
       (try simp only [Act.put, sA, sB, sC])
       have HNn68Q := Lib.hid (show bn68 ≠ q by have := Blk.lt HBQ104.out; omega)
       have HNn68n5 := Lib.hid (show bn68 ≠ b5 by have := Blk.lt HBn5104.out; omega)
       have HNn68n6 := Lib.hid (show bn68 ≠ b6 by have := Blk.lt HBn6104.out; omega)
       have HGn68 := Lib.hid (show w.heap.size ≤ bn68 by have := Upd.size HS104.out; omega)
       have HIn68_c := Lib.hid (own_far HFc104.out hge)
       have HIn68_w := Lib.hid (own_far HFw104.out hge)
       have HIn68_v := Lib.hid (own_far HFv104.out hge)
       have HS105 := Lib.hid (Upd.trans HS104.out hb)
       have HBQ105 := Lib.hid (keep_blk hb HBQ104.out)
       have HBn5105 := Lib.hid (keep_blk hb HBn5104.out)
       have HBn6105 := Lib.hid (keep_blk hb HBn6104.out)
       have HFc105 := Lib.hid (keep_own hb HFc104.out)
       have HFw105 := Lib.hid (keep_own hb HFw104.out)
       have HFv105 := Lib.hid (keep_own hb HFv104.out)
       clear HS104 HBQ104 HBn5104 HBn6104 HFc104 HFw104 HFv104
       clear hb hge
       have HBn68105 := Lib.hid hB
       clear hB
       refine wpList_wp (by rfl) (fun K hK => ?_)
       refine wp_append_row (.tmp 60) (.tmp 68) 50 rfl w.heap.size 55 (Value.agg #[.int .i64 0, .int .i64 0, .int .i64 0, .int .i64 0]) 4 32 Try.underlying50 (by kernel_rfl) rfl (by decide) (by decide) A3 Vl.length c3 (rowsOf waitL Vl) rfl HFv105.out _ (some ⟨bn68, 0, none⟩) 1 1 (waitL yw) rfl (reads_blk (cs := waitL yw) HBn68105.out rfl) (waitL_one yw) (by have := HLW.out; omega) (Upd.size HS105.out) ((Vl ++ [yw]).length) (rowsOf waitL (Vl ++ [yw])) (by simp) (by rw [rowsOf_append, rowsOf_one]) ?_
       intro A_1 c_1 w106 hown hupd hfar
       refine hK.out _ _ ?_
       clear hK K
       (try simp only [Act.put, sA, sB, sC])
       have HS106 := Lib.hid (Upd.comp HS105.out hupd (fun x h => .inr (HLOWV.out x h)))
       have HBQ106 := Lib.hid (Upd.blk hupd HBQ105.out HIQV.out)
       have HIQ_v_106 := Lib.hid (nin_next hfar HIQV.out (Blk.lt HBQ105.out))
       have HBn68106 := Lib.hid (Upd.blk hupd HBn68105.out HIn68_v.out)
       have HIn68_v_106 := Lib.hid (nin_next hfar HIn68_v.out (Blk.lt HBn68105.out))
       have HFc106 := Lib.hid (Upd.own hupd HFc105.out HDCV.out)
       have HDDc_v_106 := Lib.hid (dis_next hfar HDCV.out (own_lt HFc105.out))
       have HFw106 := Lib.hid (Upd.own hupd HFw105.out HDWV.out)
       have HDDw_v_106 := Lib.hid (dis_next hfar HDWV.out (own_lt HFw105.out))
       have HFv106 := Lib.hid hown
       clear hupd hown hfar HS105 HBQ105 HBn5105 HBn6105 HBn68105 HFc105 HFw105 HFv105
       refine tkL (.slice A_1 ((Vl ++ [yw]).length) c_1) (h := ?_)
       (try simp only [Act.put, sA, sB, sC])
       refine wpList_nil ?_
       go_upto_region 14 with fail
       refine wp_region_lit ?_
       refine tkL (.pointer (some ⟨q, 0, none⟩)) (h := ?_)
       (try simp only [Act.put, sA, sB, sC])
       refine tkL (.pointer (some ⟨q, 0, none⟩)) (h := ?_)
       (try simp only [Act.put, sA, sB, sC])
       refine tkL (.pointer (some ⟨q, 0, none⟩)) (h := ?_)
       (try simp only [Act.put, sA, sB, sC])
       refine tkL (.pointer (some ⟨q, 19, none⟩)) (h := ?_)
       (try simp only [Act.put, sA, sB, sC])
       refine wpList_q (by rfl) (.slice (some ⟨g2, 0, none⟩) Wl.length c2) ?he ?_
       case he => exact exec_cell 50 _ _ HBQ106.out rfl rfl rfl Try.underlying50 rfl
       (try simp only [Act.put, sA, sB, sC])
       refine tkL (.int .i64 (oI (some k))) (h := ?_)
       (try simp only [Act.put, sA, sB, sC])
       refine tkL (.int .i64 (oI (some k))) (h := ?_)
       (try simp only [Act.put, sA, sB, sC])
       refine wpList_q (by rfl) (.int .i64 ((k : Int) + 1)) ?he ?_
       case he => (have q := HKK.out; have q2 := HLW.out; (try rw [show oI (some k) = (k : Int) from rfl]); go_simp; (first | done | (refine wrG _ ?_ ?_ <;> omega) | omega))
       (try simp only [Act.put, sA, sB, sC])
       refine wpList_wp (by rfl) (fun K hK => ?_)
       (try go_simp)
       refine (del_W lo g2 Wl.length c2 k Wl _ HFw106.out rfl HKK.out (by have := HLW.out; omega)).mono ?_
       rintro e w8 ⟨rfl, hW, hU⟩
       (try go_wp2_with fail)
       refine hK.out _ _ ?_
       clear hK K
       (try simp only [Act.put, sA, sB, sC])
       have HS8 := Lib.hid (Upd.comp HS106.out hU (fun x h => .inl (by simp [blkOf] at h ⊢; simp [h]))); have HQ8 := Lib.hid (hU.blk HBQ106.out (fun h => HIQ2.out (by simpa [blkOf] using h))); have HW8 := Lib.hid hW
       have HV8 := Lib.hid (hU.own HFv106.out (fun g hg h => (fun g hg h => HDDw_v_106.out g h hg) g hg (by simpa [blkOf] using h))); have HC8 := Lib.hid (hU.own HFc106.out (fun g hg h => HD12.out g hg (by simpa [blkOf] using h))); clear hW hU
       refine tkL (.pointer (some ⟨q, 0, none⟩)) (h := ?_)
       (try simp only [Act.put, sA, sB, sC])
       refine tkL (.pointer (some ⟨q, 19, none⟩)) (h := ?_)
       (try simp only [Act.put, sA, sB, sC])
       refine wpList_wp (by rfl) (fun K hK => ?_)
       refine wp_st_cell 50 _ _ rfl #[.int .i64 G.c.ca, .int .i64 G.c.fl, .int .i64 G.c.ft, .int .i64 G.c.se, .int .i64 G.c.dr, .int .i64 G.c.dw, .int .i64 G.c.ho, .int .i64 G.c.re, .int .i64 G.c.yi, .int .i64 G.c.qu, .int .i64 G.c.qo, .int .i64 G.c.lo, .int .i64 G.c.sl, .int .i64 G.c.rt, .int .i64 G.c.cp, .int .i64 G.c.tr, .int .i64 G.c.de, .int .i64 G.c.wi, .slice (some ⟨g1, 0, none⟩) G.cars.length c1, .slice (some ⟨g2, 0, none⟩) (Wl.eraseIdx k).length c2, .int .i64 (cl (cl G.now + cl 1))] (.slice (some ⟨g2, 0, none⟩) (Wl.eraseIdx k).length c2) rfl rfl HQ8.out (by show 19 < 21; decide) rfl (by first | rfl | simp [Value.oneCell']) (by kernel_rfl) ?_
       intro w107 hw
       refine hK.out _ _ ?_
       clear hK K
       (try simp only [Act.put, sA, sB, sC])
       have HS107 := Lib.hid (show Upd (q :: (blkOf (some ⟨g1, 0, none⟩) ++ blkOf (some ⟨g2, 0, none⟩))) w w107 by rw [hw]; exact Upd.setRow HS8.out (.inl (by simp)) _)
       have HBQ107 := Lib.hid (show Blk w107 q 67 #[.int .i64 G.c.ca, .int .i64 G.c.fl, .int .i64 G.c.ft, .int .i64 G.c.se, .int .i64 G.c.dr, .int .i64 G.c.dw, .int .i64 G.c.ho, .int .i64 G.c.re, .int .i64 G.c.yi, .int .i64 G.c.qu, .int .i64 G.c.qo, .int .i64 G.c.lo, .int .i64 G.c.sl, .int .i64 G.c.rt, .int .i64 G.c.cp, .int .i64 G.c.tr, .int .i64 G.c.de, .int .i64 G.c.wi, .slice (some ⟨g1, 0, none⟩) G.cars.length c1, .slice (some ⟨g2, 0, none⟩) (Wl.eraseIdx k).length c2, .int .i64 (cl (cl G.now + cl 1))] by rw [hw]; exact Blk.row HQ8.out _)
       have HFc_107 := Lib.hid (show (w107).ownsRow lo 30 15 (.slice (some ⟨g1, 0, none⟩) G.cars.length c1) G.cars.length (rowsOf carL (Cl.set i y)) by rw [hw]; exact own_row_far HC8.out HIQ1.out _)
       have HFw_107 := Lib.hid (show (w107).ownsRow lo 55 4 (.slice (some ⟨g2, 0, none⟩) ((Wl.eraseIdx k).length) c2) ((Wl.eraseIdx k).length) (rowsOf waitL (Wl.eraseIdx k)) by rw [hw]; exact own_row_far HW8.out HIQ2.out _)
       have HFv_107 := Lib.hid (show (w107).ownsRow w.heap.size 55 4 (.slice A_1 ((Vl ++ [yw]).length) c_1) ((Vl ++ [yw]).length) (rowsOf waitL (Vl ++ [yw])) by rw [hw]; exact own_row_far HV8.out HIQ_v_106.out _)
       clear hw HS8 HQ8 HC8 HW8 HV8
       refine wpList_nil ?_
       go_upto_region 15 with fail
       refine wp_region_lit ?_
       refine wpList_q (by rfl) (.int .i64 ((i : Int) + 1)) ?he ?_
       case he => (go_simp; (first | done | (refine wrG _ ?_ ?_ <;> (have q0 := HLT.out; have q1 := HL1.out; omega)) | (have q0 := HLT.out; have q1 := HL1.out; omega) | (have q0 := HLT.out; have q1 := HL1.out; split <;> omega) | (have q0 := HLT.out; have q1 := HL1.out; intro hh; omega)))
       (try simp only [Act.put, sA, sB, sC])
       refine tkL (.int .i64 ((i : Int) + 1)) (h := ?_)
       (try simp only [Act.put, sA, sB, sC])
       refine wpList_nil ?_
       go_wp2_with fail
       refine Met.intro ?_
       refine hJ1 _ _ _ ?less107 ⟨(i + 1), (Cl.set i y), (Wl.eraseIdx k), (Vl ++ [yw]), A_1, c_1, (by have := HLT.out; omega), (by show tkStep G.c (tkN G.c (asgN G.c G.waits G.cars G.waits.length).2 (asgN G.c G.waits G.cars G.waits.length).1 i) i = _; rw [HY2.out, HEQ.out]; unfold tkStep; rw [show (Cl, Wl, Vl).1[i]? = some x from HX.out]; simp only []; rw [show (if tkS x = true then atP Wl (isW (tkF x) (tkW x)) else none) = some k from (if_pos HSV.out).trans HAT.out]; simp only []; rw [show Wl[k]? = some yw from HY.out]; rfl), rfl, ⟨rfl, rfl, rfl, (by rw [show (Vl ++ [yw]).length = Vl.length + 1 by simp]; rfl), rfl, rfl, trivial⟩, Lib.hid ⟨HS107.out, HBQ107.out, HFc_107.out, HFw_107.out, HFv_107.out⟩⟩
       case less107 => exact (by have := HM.out; have := HLT.out; omega)
end Go.Proofs.Ytpacieocmogjeaa.Gr
