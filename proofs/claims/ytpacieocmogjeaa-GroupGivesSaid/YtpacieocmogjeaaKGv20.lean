/-
  What is wanted by the last of these texts, part 20.
  No condition.
-/
import Derived.Test.YtpacieocmogjeaaProg
import Derived.Test.YtpacieocmogjeaaKGv0
import Derived.Test.YtpacieocmogjeaaKGv19
namespace Go.Proofs.Ytpacieocmogjeaa.Gr
set_option linter.unusedVariables false
set_option linter.unusedSimpArgs false
open Go.RowKit Go.Proofs.Ytpacieocmogjeaa.Ba Go.Proofs.Ytpacieocmogjeaa.Mem Go.Proofs.Ytpacieocmogjeaa.Ty Go.Proofs.Ytpacieocmogjeaa.Mo Go.Proofs.Ytpacieocmogjeaa.St Go.Proofs.Ytpacieocmogjeaa.Sc Go.Proofs.Ytpacieocmogjeaa.Pl
open Go.Proofs.Ytpacieocmogjeaa.Ct (cfgA carA m1 dwV bdX tkV tkF tkW tkS tickT)
open Go.Proofs.Ytpacieocmogjeaa.Go16 (OpV opC)
set_option maxRecDepth 100000
attribute [local irreducible] Go.wpList
def opA (o : OpV) : Array Value := #[.int .i64 o.k, .int .i64 o.a, .int .i64 o.b, .bool o.y]
set_option maxHeartbeats 4000000 in
theorem do0 (o : OpV) (lo q : Nat) (G : GrV) (S : List Nat) (w : World) (hg : GO lo q G S w) (hl : G.waits.length ≤ 10000) (hr : ∀ x ∈ G.cars, R x.sp ∧ R x.su ∧ R x.sd) (hk1 : ¬ o.k = 1) (hk2 : ¬ o.k = 2) (hk3 : ¬ o.k = 3) (hk4 : ¬ o.k = 4) (hk5 : ¬ o.k = 5) (hk6 : ¬ o.k = 6) (hk7 : ¬ o.k = 7) (hk8 : ¬ o.k = 8) : Calls Try.prog 16 #[.pointer (some ⟨q, 0, none⟩), .agg (opA o)] w fun e w' => e = .returned (.int .i64 (((G, (0 : Int)) : GrV × Int)).2) ∧ ∃ S', GO lo q (((G, (0 : Int)) : GrV × Int)).1 S' w' ∧ Upd S w w' ∧ ∀ g ∈ S', g ∈ S ∨ w.heap.size ≤ g := by
 have HL := Lib.hid hl
 clear hl
 have HR := Lib.hid hr
 clear hr
 have HK1 := Lib.hid hk1
 clear hk1
 have HK2 := Lib.hid hk2
 clear hk2
 have HK3 := Lib.hid hk3
 clear hk3
 have HK4 := Lib.hid hk4
 clear hk4
 have HK5 := Lib.hid hk5
 clear hk5
 have HK6 := Lib.hid hk6
 clear hk6
 have HK7 := Lib.hid hk7
 clear hk7
 have HK8 := Lib.hid hk8
 clear hk8
 go_enter Try.func16, Try.ntmps16
 go_upto_region 1 with fail
 obtain ⟨w1, hw1⟩ : ∃ w1, w1 = (w.alloc (.cells (opA o) 46)) := ⟨_, rfl⟩
 rw [← hw1]
 have HBO1 := Lib.hid (show Blk w1 (w.heap.size) 46 (opA o) by rw [hw1]; exact Blk.at_ (by (try simp only [size_alloc])) _ _)
 have HS1 := Lib.hid (show Since w w1 by rw [hw1]; exact Since.alloc (Since.refl w) _)
 have hNE : w.heap.size ≤ w.heap.size := by omega
 have HNE := Lib.hid hNE
 clear hNE hw1
 have HNE3 := Lib.hid (show w.heap.size ≤ w.heap.size from HNE.out)
 clear HNE
 have HSU := Lib.hid (Upd.of_since (S := S) HS1.out); have HG1 := Lib.hid (hg.keep HS1.out)
 refine wp_region_lit ?_
 refine tkL (.pointer (some ⟨w.heap.size, 0, none⟩)) (h := ?_)
 (try simp only [Act.put, sA, sB, sC])
 refine wpList_q (by rfl) (.int .i64 o.k) ?he ?_
 case he => exact exec_cell 3 _ _ HBO1.out rfl rfl rfl Try.underlying3 rfl
 (try simp only [Act.put, sA, sB, sC])
 refine wpList_nil ?_
 go_upto_region 2 with fail
 refine wp_region_lit ?_
 refine wpList_q (by rfl) (.bool false) ?he ?_
 case he => (have q := HK1.out; go_simp; (first | done | exact q | (simp [q]; done)))
 (try simp only [Act.put, sA, sB, sC])
 refine tkL (.bool false) (h := ?_)
 (try simp only [Act.put, sA, sB, sC])
 refine wpList_nil ?_
 go_upto_region 4 with fail
 refine wp_region_lit ?_
 refine wpList_q (by rfl) (.bool false) ?he ?_
 case he => (have q := HK2.out; go_simp; (first | done | exact q | (simp [q]; done)))
 (try simp only [Act.put, sA, sB, sC])
 refine tkL (.bool false) (h := ?_)
 (try simp only [Act.put, sA, sB, sC])
 refine wpList_nil ?_
 go_upto_region 6 with fail
 refine wp_region_lit ?_
 refine wpList_q (by rfl) (.bool false) ?he ?_
 case he => (have q := HK3.out; go_simp; (first | done | exact q | (simp [q]; done)))
 (try simp only [Act.put, sA, sB, sC])
 refine tkL (.bool false) (h := ?_)
 (try simp only [Act.put, sA, sB, sC])
 refine wpList_nil ?_
 go_upto_region 8 with fail
 refine wp_region_lit ?_
 refine wpList_q (by rfl) (.bool false) ?he ?_
 case he => (have q := HK4.out; go_simp; (first | done | exact q | (simp [q]; done)))
 (try simp only [Act.put, sA, sB, sC])
 refine tkL (.bool false) (h := ?_)
 (try simp only [Act.put, sA, sB, sC])
 refine wpList_nil ?_
 go_upto_region 10 with fail
 refine wp_region_lit ?_
 refine wpList_q (by rfl) (.bool false) ?he ?_
 case he => (have q := HK5.out; go_simp; (first | done | exact q | (simp [q]; done)))
 (try simp only [Act.put, sA, sB, sC])
 refine tkL (.bool false) (h := ?_)
 (try simp only [Act.put, sA, sB, sC])
 refine wpList_nil ?_
 go_upto_region 12 with fail
 refine wp_region_lit ?_
 refine wpList_q (by rfl) (.bool false) ?he ?_
 case he => (have q := HK6.out; go_simp; (first | done | exact q | (simp [q]; done)))
 (try simp only [Act.put, sA, sB, sC])
 refine tkL (.bool false) (h := ?_)
 (try simp only [Act.put, sA, sB, sC])
 refine wpList_nil ?_
 go_upto_region 14 with fail
 refine wp_region_lit ?_
 refine wpList_q (by rfl) (.bool false) ?he ?_
 case he => (have q := HK7.out; go_simp; (first | done | exact q | (simp [q]; done)))
 (try simp only [Act.put, sA, sB, sC])
 refine tkL (.bool false) (h := ?_)
 (try simp only [Act.put, sA, sB, sC])
 refine wpList_nil ?_
 go_upto_region 16 with fail
 refine wp_region_lit ?_
 refine wpList_q (by rfl) (.bool false) ?he ?_
 case he => (have q := HK8.out; go_simp; (first | done | exact q | (simp [q]; done)))
 (try simp only [Act.put, sA, sB, sC])
 refine tkL (.bool false) (h := ?_)
 (try simp only [Act.put, sA, sB, sC])
 refine wpList_nil ?_
 go_upto_region 18 with fail
 refine wp_region_lit ?_
 refine tkL (.int .i64 0) (h := ?_)
 (try simp only [Act.put, sA, sB, sC])
 refine wpList_nil ?_
 (try go_wp2_with fail)
 go_ret
 exact ⟨rfl, S, HG1.out, HSU.out, fun _ h => .inl h⟩
set_option maxHeartbeats 4000000 in
theorem do1 (o : OpV) (lo q : Nat) (G : GrV) (S : List Nat) (w : World) (hg : GO lo q G S w) (hl : G.waits.length ≤ 10000) (hr : ∀ x ∈ G.cars, R x.sp ∧ R x.su ∧ R x.sd) (hk : o.k = 1) : Calls Try.prog 16 #[.pointer (some ⟨q, 0, none⟩), .agg (opA o)] w fun e w' => e = .returned (.int .i64 (hallR G o.a o.b).2) ∧ ∃ S', GO lo q (hallR G o.a o.b).1 S' w' ∧ Upd S w w' ∧ ∀ g ∈ S', g ∈ S ∨ w.heap.size ≤ g := by
 have HL := Lib.hid hl
 clear hl
 have HR := Lib.hid hr
 clear hr
 have HK := Lib.hid hk
 clear hk
 go_enter Try.func16, Try.ntmps16
 go_upto_region 1 with fail
 obtain ⟨w1, hw1⟩ : ∃ w1, w1 = (w.alloc (.cells (opA o) 46)) := ⟨_, rfl⟩
 rw [← hw1]
 have HBO1 := Lib.hid (show Blk w1 (w.heap.size) 46 (opA o) by rw [hw1]; exact Blk.at_ (by (try simp only [size_alloc])) _ _)
 have HS1 := Lib.hid (show Since w w1 by rw [hw1]; exact Since.alloc (Since.refl w) _)
 have hNE : w.heap.size ≤ w.heap.size := by omega
 have HNE := Lib.hid hNE
 clear hNE hw1
 have HNE3 := Lib.hid (show w.heap.size ≤ w.heap.size from HNE.out)
 clear HNE
 have HSU := Lib.hid (Upd.of_since (S := S) HS1.out); have HG1 := Lib.hid (hg.keep HS1.out)
 refine wp_region_lit ?_
 refine tkL (.pointer (some ⟨w.heap.size, 0, none⟩)) (h := ?_)
 (try simp only [Act.put, sA, sB, sC])
 refine wpList_q (by rfl) (.int .i64 o.k) ?he ?_
 case he => exact exec_cell 3 _ _ HBO1.out rfl rfl rfl Try.underlying3 rfl
 (try simp only [Act.put, sA, sB, sC])
 refine wpList_nil ?_
 go_upto_region 2 with fail
 refine wp_region_lit ?_
 refine wpList_q (by rfl) (.bool true) ?he ?_
 case he => (have q := HK.out; go_simp; (first | done | exact q | (simp [q]; done)))
 (try simp only [Act.put, sA, sB, sC])
 refine tkL (.bool true) (h := ?_)
 (try simp only [Act.put, sA, sB, sC])
 refine wpList_nil ?_
 go_upto_region 3 with fail
 refine wp_region_lit ?_
 refine tkL (.pointer (some ⟨q, 0, none⟩)) (h := ?_)
 (try simp only [Act.put, sA, sB, sC])
 refine tkL (.pointer (some ⟨w.heap.size, 1, none⟩)) (h := ?_)
 (try simp only [Act.put, sA, sB, sC])
 refine wpList_q (by rfl) (.int .i64 o.a) ?he ?_
 case he => exact exec_cell 3 _ _ HBO1.out rfl rfl rfl Try.underlying3 rfl
 (try simp only [Act.put, sA, sB, sC])
 refine tkL (.pointer (some ⟨w.heap.size, 2, none⟩)) (h := ?_)
 (try simp only [Act.put, sA, sB, sC])
 refine wpList_q (by rfl) (.int .i64 o.b) ?he ?_
 case he => exact exec_cell 3 _ _ HBO1.out rfl rfl rfl Try.underlying3 rfl
 (try simp only [Act.put, sA, sB, sC])
 refine wpList_wp (by rfl) (fun K hK => ?_)
 (try go_simp)
 refine (hallG HG1.out HL.out o.a o.b).mono ?_
 rintro e w9 ⟨rfl, S9, hO, hU, hF⟩
 (try go_wp2_with fail)
 refine hK.out _ _ ?_
 clear hK K
 (try simp only [Act.put, sA, sB, sC])
 have HS9 := Lib.hid (Upd.comp HSU.out hU (fun x h => .inl h)); have HO9 := Lib.hid hO; have HF9 := Lib.hid (fun g hg => (hF g hg).imp_right (Nat.le_trans HS1.out.size)); clear hO hU hF
 refine tkL (.int .i64 ((hallR G o.a o.b).2)) (h := ?_)
 (try simp only [Act.put, sA, sB, sC])
 refine wpList_nil ?_
 (try go_wp2_with fail)
 go_ret
 exact ⟨rfl, S9, HO9.out, HS9.out, HF9.out⟩
set_option maxHeartbeats 4000000 in
theorem do2 (o : OpV) (lo q : Nat) (G : GrV) (S : List Nat) (w : World) (hg : GO lo q G S w) (hl : G.waits.length ≤ 10000) (hr : ∀ x ∈ G.cars, R x.sp ∧ R x.su ∧ R x.sd) (hk : o.k = 2) : Calls Try.prog 16 #[.pointer (some ⟨q, 0, none⟩), .agg (opA o)] w fun e w' => e = .returned (.int .i64 (pressR G o.a o.b).2) ∧ ∃ S', GO lo q (pressR G o.a o.b).1 S' w' ∧ Upd S w w' ∧ ∀ g ∈ S', g ∈ S ∨ w.heap.size ≤ g := by
 have HL := Lib.hid hl
 clear hl
 have HR := Lib.hid hr
 clear hr
 have HK := Lib.hid hk
 clear hk
 go_enter Try.func16, Try.ntmps16
 go_upto_region 1 with fail
 obtain ⟨w1, hw1⟩ : ∃ w1, w1 = (w.alloc (.cells (opA o) 46)) := ⟨_, rfl⟩
 rw [← hw1]
 have HBO1 := Lib.hid (show Blk w1 (w.heap.size) 46 (opA o) by rw [hw1]; exact Blk.at_ (by (try simp only [size_alloc])) _ _)
 have HS1 := Lib.hid (show Since w w1 by rw [hw1]; exact Since.alloc (Since.refl w) _)
 have hNE : w.heap.size ≤ w.heap.size := by omega
 have HNE := Lib.hid hNE
 clear hNE hw1
 have HNE3 := Lib.hid (show w.heap.size ≤ w.heap.size from HNE.out)
 clear HNE
 have HSU := Lib.hid (Upd.of_since (S := S) HS1.out); have HG1 := Lib.hid (hg.keep HS1.out)
 refine wp_region_lit ?_
 refine tkL (.pointer (some ⟨w.heap.size, 0, none⟩)) (h := ?_)
 (try simp only [Act.put, sA, sB, sC])
 refine wpList_q (by rfl) (.int .i64 o.k) ?he ?_
 case he => exact exec_cell 3 _ _ HBO1.out rfl rfl rfl Try.underlying3 rfl
 (try simp only [Act.put, sA, sB, sC])
 refine wpList_nil ?_
 go_upto_region 2 with fail
 refine wp_region_lit ?_
 refine wpList_q (by rfl) (.bool false) ?he ?_
 case he => (have q := HK.out; go_simp; (first | done | exact q | (simp [q]; done)))
 (try simp only [Act.put, sA, sB, sC])
 refine tkL (.bool false) (h := ?_)
 (try simp only [Act.put, sA, sB, sC])
 refine wpList_nil ?_
 go_upto_region 4 with fail
 refine wp_region_lit ?_
 refine wpList_q (by rfl) (.bool true) ?he ?_
 case he => (have q := HK.out; go_simp; (first | done | exact q | (simp [q]; done)))
 (try simp only [Act.put, sA, sB, sC])
 refine tkL (.bool true) (h := ?_)
 (try simp only [Act.put, sA, sB, sC])
 refine wpList_nil ?_
 go_upto_region 5 with fail
 refine wp_region_lit ?_
 refine tkL (.pointer (some ⟨q, 0, none⟩)) (h := ?_)
 (try simp only [Act.put, sA, sB, sC])
 refine tkL (.pointer (some ⟨w.heap.size, 1, none⟩)) (h := ?_)
 (try simp only [Act.put, sA, sB, sC])
 refine wpList_q (by rfl) (.int .i64 o.a) ?he ?_
 case he => exact exec_cell 3 _ _ HBO1.out rfl rfl rfl Try.underlying3 rfl
 (try simp only [Act.put, sA, sB, sC])
 refine tkL (.pointer (some ⟨w.heap.size, 2, none⟩)) (h := ?_)
 (try simp only [Act.put, sA, sB, sC])
 refine wpList_q (by rfl) (.int .i64 o.b) ?he ?_
 case he => exact exec_cell 3 _ _ HBO1.out rfl rfl rfl Try.underlying3 rfl
 (try simp only [Act.put, sA, sB, sC])
 refine wpList_wp (by rfl) (fun K hK => ?_)
 (try go_simp)
 refine (pressG HG1.out o.a o.b).mono ?_
 rintro e w9 ⟨rfl, S9, hO, hU, hF⟩
 (try go_wp2_with fail)
 refine hK.out _ _ ?_
 clear hK K
 (try simp only [Act.put, sA, sB, sC])
 have HS9 := Lib.hid (Upd.comp HSU.out hU (fun x h => .inl h)); have HO9 := Lib.hid hO; have HF9 := Lib.hid (fun g hg => (hF g hg).imp_right (Nat.le_trans HS1.out.size)); clear hO hU hF
 refine tkL (.int .i64 ((pressR G o.a o.b).2)) (h := ?_)
 (try simp only [Act.put, sA, sB, sC])
 refine wpList_nil ?_
 (try go_wp2_with fail)
 go_ret
 exact ⟨rfl, S9, HO9.out, HS9.out, HF9.out⟩
set_option maxHeartbeats 4000000 in
theorem do3 (o : OpV) (lo q : Nat) (G : GrV) (S : List Nat) (w : World) (hg : GO lo q G S w) (hl : G.waits.length ≤ 10000) (hr : ∀ x ∈ G.cars, R x.sp ∧ R x.su ∧ R x.sd) (hk : o.k = 3) : Calls Try.prog 16 #[.pointer (some ⟨q, 0, none⟩), .agg (opA o)] w fun e w' => e = .returned (.int .i64 (loadR G o.a o.b).2) ∧ ∃ S', GO lo q (loadR G o.a o.b).1 S' w' ∧ Upd S w w' ∧ ∀ g ∈ S', g ∈ S ∨ w.heap.size ≤ g := by
 have HL := Lib.hid hl
 clear hl
 have HR := Lib.hid hr
 clear hr
 have HK := Lib.hid hk
 clear hk
 go_enter Try.func16, Try.ntmps16
 go_upto_region 1 with fail
 obtain ⟨w1, hw1⟩ : ∃ w1, w1 = (w.alloc (.cells (opA o) 46)) := ⟨_, rfl⟩
 rw [← hw1]
 have HBO1 := Lib.hid (show Blk w1 (w.heap.size) 46 (opA o) by rw [hw1]; exact Blk.at_ (by (try simp only [size_alloc])) _ _)
 have HS1 := Lib.hid (show Since w w1 by rw [hw1]; exact Since.alloc (Since.refl w) _)
 have hNE : w.heap.size ≤ w.heap.size := by omega
 have HNE := Lib.hid hNE
 clear hNE hw1
 have HNE3 := Lib.hid (show w.heap.size ≤ w.heap.size from HNE.out)
 clear HNE
 have HSU := Lib.hid (Upd.of_since (S := S) HS1.out); have HG1 := Lib.hid (hg.keep HS1.out)
 refine wp_region_lit ?_
 refine tkL (.pointer (some ⟨w.heap.size, 0, none⟩)) (h := ?_)
 (try simp only [Act.put, sA, sB, sC])
 refine wpList_q (by rfl) (.int .i64 o.k) ?he ?_
 case he => exact exec_cell 3 _ _ HBO1.out rfl rfl rfl Try.underlying3 rfl
 (try simp only [Act.put, sA, sB, sC])
 refine wpList_nil ?_
 go_upto_region 2 with fail
 refine wp_region_lit ?_
 refine wpList_q (by rfl) (.bool false) ?he ?_
 case he => (have q := HK.out; go_simp; (first | done | exact q | (simp [q]; done)))
 (try simp only [Act.put, sA, sB, sC])
 refine tkL (.bool false) (h := ?_)
 (try simp only [Act.put, sA, sB, sC])
 refine wpList_nil ?_
 go_upto_region 4 with fail
 refine wp_region_lit ?_
 refine wpList_q (by rfl) (.bool false) ?he ?_
 case he => (have q := HK.out; go_simp; (first | done | exact q | (simp [q]; done)))
 (try simp only [Act.put, sA, sB, sC])
 refine tkL (.bool false) (h := ?_)
 (try simp only [Act.put, sA, sB, sC])
 refine wpList_nil ?_
 go_upto_region 6 with fail
 refine wp_region_lit ?_
 refine wpList_q (by rfl) (.bool true) ?he ?_
 case he => (have q := HK.out; go_simp; (first | done | exact q | (simp [q]; done)))
 (try simp only [Act.put, sA, sB, sC])
 refine tkL (.bool true) (h := ?_)
 (try simp only [Act.put, sA, sB, sC])
 refine wpList_nil ?_
 go_upto_region 7 with fail
 refine wp_region_lit ?_
 refine tkL (.pointer (some ⟨q, 0, none⟩)) (h := ?_)
 (try simp only [Act.put, sA, sB, sC])
 refine tkL (.pointer (some ⟨w.heap.size, 1, none⟩)) (h := ?_)
 (try simp only [Act.put, sA, sB, sC])
 refine wpList_q (by rfl) (.int .i64 o.a) ?he ?_
 case he => exact exec_cell 3 _ _ HBO1.out rfl rfl rfl Try.underlying3 rfl
 (try simp only [Act.put, sA, sB, sC])
 refine tkL (.pointer (some ⟨w.heap.size, 2, none⟩)) (h := ?_)
 (try simp only [Act.put, sA, sB, sC])
 refine wpList_q (by rfl) (.int .i64 o.b) ?he ?_
 case he => exact exec_cell 3 _ _ HBO1.out rfl rfl rfl Try.underlying3 rfl
 (try simp only [Act.put, sA, sB, sC])
 refine wpList_wp (by rfl) (fun K hK => ?_)
 (try go_simp)
 refine (loadG HG1.out o.a o.b).mono ?_
 rintro e w9 ⟨rfl, S9, hO, hU, hF⟩
 (try go_wp2_with fail)
 refine hK.out _ _ ?_
 clear hK K
 (try simp only [Act.put, sA, sB, sC])
 have HS9 := Lib.hid (Upd.comp HSU.out hU (fun x h => .inl h)); have HO9 := Lib.hid hO; have HF9 := Lib.hid (fun g hg => (hF g hg).imp_right (Nat.le_trans HS1.out.size)); clear hO hU hF
 refine tkL (.int .i64 ((loadR G o.a o.b).2)) (h := ?_)
 (try simp only [Act.put, sA, sB, sC])
 refine wpList_nil ?_
 (try go_wp2_with fail)
 go_ret
 exact ⟨rfl, S9, HO9.out, HS9.out, HF9.out⟩
set_option maxHeartbeats 4000000 in
theorem do4 (o : OpV) (lo q : Nat) (G : GrV) (S : List Nat) (w : World) (hg : GO lo q G S w) (hl : G.waits.length ≤ 10000) (hr : ∀ x ∈ G.cars, R x.sp ∧ R x.su ∧ R x.sd) (hk : o.k = 4) : Calls Try.prog 16 #[.pointer (some ⟨q, 0, none⟩), .agg (opA o)] w fun e w' => e = .returned (.int .i64 (curtR G o.a o.y).2) ∧ ∃ S', GO lo q (curtR G o.a o.y).1 S' w' ∧ Upd S w w' ∧ ∀ g ∈ S', g ∈ S ∨ w.heap.size ≤ g := by
 have HL := Lib.hid hl
 clear hl
 have HR := Lib.hid hr
 clear hr
 have HK := Lib.hid hk
 clear hk
 go_enter Try.func16, Try.ntmps16
 go_upto_region 1 with fail
 obtain ⟨w1, hw1⟩ : ∃ w1, w1 = (w.alloc (.cells (opA o) 46)) := ⟨_, rfl⟩
 rw [← hw1]
 have HBO1 := Lib.hid (show Blk w1 (w.heap.size) 46 (opA o) by rw [hw1]; exact Blk.at_ (by (try simp only [size_alloc])) _ _)
 have HS1 := Lib.hid (show Since w w1 by rw [hw1]; exact Since.alloc (Since.refl w) _)
 have hNE : w.heap.size ≤ w.heap.size := by omega
 have HNE := Lib.hid hNE
 clear hNE hw1
 have HNE3 := Lib.hid (show w.heap.size ≤ w.heap.size from HNE.out)
 clear HNE
 have HSU := Lib.hid (Upd.of_since (S := S) HS1.out); have HG1 := Lib.hid (hg.keep HS1.out)
 refine wp_region_lit ?_
 refine tkL (.pointer (some ⟨w.heap.size, 0, none⟩)) (h := ?_)
 (try simp only [Act.put, sA, sB, sC])
 refine wpList_q (by rfl) (.int .i64 o.k) ?he ?_
 case he => exact exec_cell 3 _ _ HBO1.out rfl rfl rfl Try.underlying3 rfl
 (try simp only [Act.put, sA, sB, sC])
 refine wpList_nil ?_
 go_upto_region 2 with fail
 refine wp_region_lit ?_
 refine wpList_q (by rfl) (.bool false) ?he ?_
 case he => (have q := HK.out; go_simp; (first | done | exact q | (simp [q]; done)))
 (try simp only [Act.put, sA, sB, sC])
 refine tkL (.bool false) (h := ?_)
 (try simp only [Act.put, sA, sB, sC])
 refine wpList_nil ?_
 go_upto_region 4 with fail
 refine wp_region_lit ?_
 refine wpList_q (by rfl) (.bool false) ?he ?_
 case he => (have q := HK.out; go_simp; (first | done | exact q | (simp [q]; done)))
 (try simp only [Act.put, sA, sB, sC])
 refine tkL (.bool false) (h := ?_)
 (try simp only [Act.put, sA, sB, sC])
 refine wpList_nil ?_
 go_upto_region 6 with fail
 refine wp_region_lit ?_
 refine wpList_q (by rfl) (.bool false) ?he ?_
 case he => (have q := HK.out; go_simp; (first | done | exact q | (simp [q]; done)))
 (try simp only [Act.put, sA, sB, sC])
 refine tkL (.bool false) (h := ?_)
 (try simp only [Act.put, sA, sB, sC])
 refine wpList_nil ?_
 go_upto_region 8 with fail
 refine wp_region_lit ?_
 refine wpList_q (by rfl) (.bool true) ?he ?_
 case he => (have q := HK.out; go_simp; (first | done | exact q | (simp [q]; done)))
 (try simp only [Act.put, sA, sB, sC])
 refine tkL (.bool true) (h := ?_)
 (try simp only [Act.put, sA, sB, sC])
 refine wpList_nil ?_
 go_upto_region 9 with fail
 refine wp_region_lit ?_
 refine tkL (.pointer (some ⟨q, 0, none⟩)) (h := ?_)
 (try simp only [Act.put, sA, sB, sC])
 refine tkL (.pointer (some ⟨w.heap.size, 1, none⟩)) (h := ?_)
 (try simp only [Act.put, sA, sB, sC])
 refine wpList_q (by rfl) (.int .i64 o.a) ?he ?_
 case he => exact exec_cell 3 _ _ HBO1.out rfl rfl rfl Try.underlying3 rfl
 (try simp only [Act.put, sA, sB, sC])
 refine tkL (.pointer (some ⟨w.heap.size, 3, none⟩)) (h := ?_)
 (try simp only [Act.put, sA, sB, sC])
 refine wpList_q (by rfl) (.bool o.y) ?he ?_
 case he => exact exec_cell 4 _ _ HBO1.out rfl rfl rfl Try.underlying4 rfl
 (try simp only [Act.put, sA, sB, sC])
 refine wpList_wp (by rfl) (fun K hK => ?_)
 (try go_simp)
 refine (curtG HG1.out o.a o.y).mono ?_
 rintro e w9 ⟨rfl, S9, hO, hU, hF⟩
 (try go_wp2_with fail)
 refine hK.out _ _ ?_
 clear hK K
 (try simp only [Act.put, sA, sB, sC])
 have HS9 := Lib.hid (Upd.comp HSU.out hU (fun x h => .inl h)); have HO9 := Lib.hid hO; have HF9 := Lib.hid (fun g hg => (hF g hg).imp_right (Nat.le_trans HS1.out.size)); clear hO hU hF
 refine tkL (.int .i64 ((curtR G o.a o.y).2)) (h := ?_)
 (try simp only [Act.put, sA, sB, sC])
 refine wpList_nil ?_
 (try go_wp2_with fail)
 go_ret
 exact ⟨rfl, S9, HO9.out, HS9.out, HF9.out⟩
set_option maxHeartbeats 4000000 in
theorem do5 (o : OpV) (lo q : Nat) (G : GrV) (S : List Nat) (w : World) (hg : GO lo q G S w) (hl : G.waits.length ≤ 10000) (hr : ∀ x ∈ G.cars, R x.sp ∧ R x.su ∧ R x.sd) (hk : o.k = 5) : Calls Try.prog 16 #[.pointer (some ⟨q, 0, none⟩), .agg (opA o)] w fun e w' => e = .returned (.int .i64 (faultR G o.a o.y).2) ∧ ∃ S', GO lo q (faultR G o.a o.y).1 S' w' ∧ Upd S w w' ∧ ∀ g ∈ S', g ∈ S ∨ w.heap.size ≤ g := by
 have HL := Lib.hid hl
 clear hl
 have HR := Lib.hid hr
 clear hr
 have HK := Lib.hid hk
 clear hk
 go_enter Try.func16, Try.ntmps16
 go_upto_region 1 with fail
 obtain ⟨w1, hw1⟩ : ∃ w1, w1 = (w.alloc (.cells (opA o) 46)) := ⟨_, rfl⟩
 rw [← hw1]
 have HBO1 := Lib.hid (show Blk w1 (w.heap.size) 46 (opA o) by rw [hw1]; exact Blk.at_ (by (try simp only [size_alloc])) _ _)
 have HS1 := Lib.hid (show Since w w1 by rw [hw1]; exact Since.alloc (Since.refl w) _)
 have hNE : w.heap.size ≤ w.heap.size := by omega
 have HNE := Lib.hid hNE
 clear hNE hw1
 have HNE3 := Lib.hid (show w.heap.size ≤ w.heap.size from HNE.out)
 clear HNE
 have HSU := Lib.hid (Upd.of_since (S := S) HS1.out); have HG1 := Lib.hid (hg.keep HS1.out)
 refine wp_region_lit ?_
 refine tkL (.pointer (some ⟨w.heap.size, 0, none⟩)) (h := ?_)
 (try simp only [Act.put, sA, sB, sC])
 refine wpList_q (by rfl) (.int .i64 o.k) ?he ?_
 case he => exact exec_cell 3 _ _ HBO1.out rfl rfl rfl Try.underlying3 rfl
 (try simp only [Act.put, sA, sB, sC])
 refine wpList_nil ?_
 go_upto_region 2 with fail
 refine wp_region_lit ?_
 refine wpList_q (by rfl) (.bool false) ?he ?_
 case he => (have q := HK.out; go_simp; (first | done | exact q | (simp [q]; done)))
 (try simp only [Act.put, sA, sB, sC])
 refine tkL (.bool false) (h := ?_)
 (try simp only [Act.put, sA, sB, sC])
 refine wpList_nil ?_
 go_upto_region 4 with fail
 refine wp_region_lit ?_
 refine wpList_q (by rfl) (.bool false) ?he ?_
 case he => (have q := HK.out; go_simp; (first | done | exact q | (simp [q]; done)))
 (try simp only [Act.put, sA, sB, sC])
 refine tkL (.bool false) (h := ?_)
 (try simp only [Act.put, sA, sB, sC])
 refine wpList_nil ?_
 go_upto_region 6 with fail
 refine wp_region_lit ?_
 refine wpList_q (by rfl) (.bool false) ?he ?_
 case he => (have q := HK.out; go_simp; (first | done | exact q | (simp [q]; done)))
 (try simp only [Act.put, sA, sB, sC])
 refine tkL (.bool false) (h := ?_)
 (try simp only [Act.put, sA, sB, sC])
 refine wpList_nil ?_
 go_upto_region 8 with fail
 refine wp_region_lit ?_
 refine wpList_q (by rfl) (.bool false) ?he ?_
 case he => (have q := HK.out; go_simp; (first | done | exact q | (simp [q]; done)))
 (try simp only [Act.put, sA, sB, sC])
 refine tkL (.bool false) (h := ?_)
 (try simp only [Act.put, sA, sB, sC])
 refine wpList_nil ?_
 go_upto_region 10 with fail
 refine wp_region_lit ?_
 refine wpList_q (by rfl) (.bool true) ?he ?_
 case he => (have q := HK.out; go_simp; (first | done | exact q | (simp [q]; done)))
 (try simp only [Act.put, sA, sB, sC])
 refine tkL (.bool true) (h := ?_)
 (try simp only [Act.put, sA, sB, sC])
 refine wpList_nil ?_
 go_upto_region 11 with fail
 refine wp_region_lit ?_
 refine tkL (.pointer (some ⟨q, 0, none⟩)) (h := ?_)
 (try simp only [Act.put, sA, sB, sC])
 refine tkL (.pointer (some ⟨w.heap.size, 1, none⟩)) (h := ?_)
 (try simp only [Act.put, sA, sB, sC])
 refine wpList_q (by rfl) (.int .i64 o.a) ?he ?_
 case he => exact exec_cell 3 _ _ HBO1.out rfl rfl rfl Try.underlying3 rfl
 (try simp only [Act.put, sA, sB, sC])
 refine tkL (.pointer (some ⟨w.heap.size, 3, none⟩)) (h := ?_)
 (try simp only [Act.put, sA, sB, sC])
 refine wpList_q (by rfl) (.bool o.y) ?he ?_
 case he => exact exec_cell 4 _ _ HBO1.out rfl rfl rfl Try.underlying4 rfl
 (try simp only [Act.put, sA, sB, sC])
 refine wpList_wp (by rfl) (fun K hK => ?_)
 (try go_simp)
 refine (faultG HG1.out HL.out o.a o.y).mono ?_
 rintro e w9 ⟨rfl, S9, hO, hU, hF⟩
 (try go_wp2_with fail)
 refine hK.out _ _ ?_
 clear hK K
 (try simp only [Act.put, sA, sB, sC])
 have HS9 := Lib.hid (Upd.comp HSU.out hU (fun x h => .inl h)); have HO9 := Lib.hid hO; have HF9 := Lib.hid (fun g hg => (hF g hg).imp_right (Nat.le_trans HS1.out.size)); clear hO hU hF
 refine tkL (.int .i64 ((faultR G o.a o.y).2)) (h := ?_)
 (try simp only [Act.put, sA, sB, sC])
 refine wpList_nil ?_
 (try go_wp2_with fail)
 go_ret
 exact ⟨rfl, S9, HO9.out, HS9.out, HF9.out⟩
set_option maxHeartbeats 4000000 in
theorem do6 (o : OpV) (lo q : Nat) (G : GrV) (S : List Nat) (w : World) (hg : GO lo q G S w) (hl : G.waits.length ≤ 10000) (hr : ∀ x ∈ G.cars, R x.sp ∧ R x.su ∧ R x.sd) (hk : o.k = 6) : Calls Try.prog 16 #[.pointer (some ⟨q, 0, none⟩), .agg (opA o)] w fun e w' => e = .returned (.int .i64 (takeR G o.a o.b).2) ∧ ∃ S', GO lo q (takeR G o.a o.b).1 S' w' ∧ Upd S w w' ∧ ∀ g ∈ S', g ∈ S ∨ w.heap.size ≤ g := by
 have HL := Lib.hid hl
 clear hl
 have HR := Lib.hid hr
 clear hr
 have HK := Lib.hid hk
 clear hk
 go_enter Try.func16, Try.ntmps16
 go_upto_region 1 with fail
 obtain ⟨w1, hw1⟩ : ∃ w1, w1 = (w.alloc (.cells (opA o) 46)) := ⟨_, rfl⟩
 rw [← hw1]
 have HBO1 := Lib.hid (show Blk w1 (w.heap.size) 46 (opA o) by rw [hw1]; exact Blk.at_ (by (try simp only [size_alloc])) _ _)
 have HS1 := Lib.hid (show Since w w1 by rw [hw1]; exact Since.alloc (Since.refl w) _)
 have hNE : w.heap.size ≤ w.heap.size := by omega
 have HNE := Lib.hid hNE
 clear hNE hw1
 have HNE3 := Lib.hid (show w.heap.size ≤ w.heap.size from HNE.out)
 clear HNE
 have HSU := Lib.hid (Upd.of_since (S := S) HS1.out); have HG1 := Lib.hid (hg.keep HS1.out)
 refine wp_region_lit ?_
 refine tkL (.pointer (some ⟨w.heap.size, 0, none⟩)) (h := ?_)
 (try simp only [Act.put, sA, sB, sC])
 refine wpList_q (by rfl) (.int .i64 o.k) ?he ?_
 case he => exact exec_cell 3 _ _ HBO1.out rfl rfl rfl Try.underlying3 rfl
 (try simp only [Act.put, sA, sB, sC])
 refine wpList_nil ?_
 go_upto_region 2 with fail
 refine wp_region_lit ?_
 refine wpList_q (by rfl) (.bool false) ?he ?_
 case he => (have q := HK.out; go_simp; (first | done | exact q | (simp [q]; done)))
 (try simp only [Act.put, sA, sB, sC])
 refine tkL (.bool false) (h := ?_)
 (try simp only [Act.put, sA, sB, sC])
 refine wpList_nil ?_
 go_upto_region 4 with fail
 refine wp_region_lit ?_
 refine wpList_q (by rfl) (.bool false) ?he ?_
 case he => (have q := HK.out; go_simp; (first | done | exact q | (simp [q]; done)))
 (try simp only [Act.put, sA, sB, sC])
 refine tkL (.bool false) (h := ?_)
 (try simp only [Act.put, sA, sB, sC])
 refine wpList_nil ?_
 go_upto_region 6 with fail
 refine wp_region_lit ?_
 refine wpList_q (by rfl) (.bool false) ?he ?_
 case he => (have q := HK.out; go_simp; (first | done | exact q | (simp [q]; done)))
 (try simp only [Act.put, sA, sB, sC])
 refine tkL (.bool false) (h := ?_)
 (try simp only [Act.put, sA, sB, sC])
 refine wpList_nil ?_
 go_upto_region 8 with fail
 refine wp_region_lit ?_
 refine wpList_q (by rfl) (.bool false) ?he ?_
 case he => (have q := HK.out; go_simp; (first | done | exact q | (simp [q]; done)))
 (try simp only [Act.put, sA, sB, sC])
 refine tkL (.bool false) (h := ?_)
 (try simp only [Act.put, sA, sB, sC])
 refine wpList_nil ?_
 go_upto_region 10 with fail
 refine wp_region_lit ?_
 refine wpList_q (by rfl) (.bool false) ?he ?_
 case he => (have q := HK.out; go_simp; (first | done | exact q | (simp [q]; done)))
 (try simp only [Act.put, sA, sB, sC])
 refine tkL (.bool false) (h := ?_)
 (try simp only [Act.put, sA, sB, sC])
 refine wpList_nil ?_
 go_upto_region 12 with fail
 refine wp_region_lit ?_
 refine wpList_q (by rfl) (.bool true) ?he ?_
 case he => (have q := HK.out; go_simp; (first | done | exact q | (simp [q]; done)))
 (try simp only [Act.put, sA, sB, sC])
 refine tkL (.bool true) (h := ?_)
 (try simp only [Act.put, sA, sB, sC])
 refine wpList_nil ?_
 go_upto_region 13 with fail
 refine wp_region_lit ?_
 refine tkL (.pointer (some ⟨q, 0, none⟩)) (h := ?_)
 (try simp only [Act.put, sA, sB, sC])
 refine tkL (.pointer (some ⟨w.heap.size, 1, none⟩)) (h := ?_)
 (try simp only [Act.put, sA, sB, sC])
 refine wpList_q (by rfl) (.int .i64 o.a) ?he ?_
 case he => exact exec_cell 3 _ _ HBO1.out rfl rfl rfl Try.underlying3 rfl
 (try simp only [Act.put, sA, sB, sC])
 refine tkL (.pointer (some ⟨w.heap.size, 2, none⟩)) (h := ?_)
 (try simp only [Act.put, sA, sB, sC])
 refine wpList_q (by rfl) (.int .i64 o.b) ?he ?_
 case he => exact exec_cell 3 _ _ HBO1.out rfl rfl rfl Try.underlying3 rfl
 (try simp only [Act.put, sA, sB, sC])
 refine wpList_wp (by rfl) (fun K hK => ?_)
 (try go_simp)
 refine (takeG HG1.out HR.out o.a o.b).mono ?_
 rintro e w9 ⟨rfl, S9, hO, hU, hF⟩
 (try go_wp2_with fail)
 refine hK.out _ _ ?_
 clear hK K
 (try simp only [Act.put, sA, sB, sC])
 have HS9 := Lib.hid (Upd.comp HSU.out hU (fun x h => .inl h)); have HO9 := Lib.hid hO; have HF9 := Lib.hid (fun g hg => (hF g hg).imp_right (Nat.le_trans HS1.out.size)); clear hO hU hF
 refine tkL (.int .i64 ((takeR G o.a o.b).2)) (h := ?_)
 (try simp only [Act.put, sA, sB, sC])
 refine wpList_nil ?_
 (try go_wp2_with fail)
 go_ret
 exact ⟨rfl, S9, HO9.out, HS9.out, HF9.out⟩
set_option maxHeartbeats 4000000 in
theorem do7 (o : OpV) (lo q : Nat) (G : GrV) (S : List Nat) (w : World) (hg : GO lo q G S w) (hl : G.waits.length ≤ 10000) (hr : ∀ x ∈ G.cars, R x.sp ∧ R x.su ∧ R x.sd) (hk : o.k = 7) : Calls Try.prog 16 #[.pointer (some ⟨q, 0, none⟩), .agg (opA o)] w fun e w' => e = .returned (.int .i64 (aimR G o.a o.b o.y).2) ∧ ∃ S', GO lo q (aimR G o.a o.b o.y).1 S' w' ∧ Upd S w w' ∧ ∀ g ∈ S', g ∈ S ∨ w.heap.size ≤ g := by
 have HL := Lib.hid hl
 clear hl
 have HR := Lib.hid hr
 clear hr
 have HK := Lib.hid hk
 clear hk
 go_enter Try.func16, Try.ntmps16
 go_upto_region 1 with fail
 obtain ⟨w1, hw1⟩ : ∃ w1, w1 = (w.alloc (.cells (opA o) 46)) := ⟨_, rfl⟩
 rw [← hw1]
 have HBO1 := Lib.hid (show Blk w1 (w.heap.size) 46 (opA o) by rw [hw1]; exact Blk.at_ (by (try simp only [size_alloc])) _ _)
 have HS1 := Lib.hid (show Since w w1 by rw [hw1]; exact Since.alloc (Since.refl w) _)
 have hNE : w.heap.size ≤ w.heap.size := by omega
 have HNE := Lib.hid hNE
 clear hNE hw1
 have HNE3 := Lib.hid (show w.heap.size ≤ w.heap.size from HNE.out)
 clear HNE
 have HSU := Lib.hid (Upd.of_since (S := S) HS1.out); have HG1 := Lib.hid (hg.keep HS1.out)
 refine wp_region_lit ?_
 refine tkL (.pointer (some ⟨w.heap.size, 0, none⟩)) (h := ?_)
 (try simp only [Act.put, sA, sB, sC])
 refine wpList_q (by rfl) (.int .i64 o.k) ?he ?_
 case he => exact exec_cell 3 _ _ HBO1.out rfl rfl rfl Try.underlying3 rfl
 (try simp only [Act.put, sA, sB, sC])
 refine wpList_nil ?_
 go_upto_region 2 with fail
 refine wp_region_lit ?_
 refine wpList_q (by rfl) (.bool false) ?he ?_
 case he => (have q := HK.out; go_simp; (first | done | exact q | (simp [q]; done)))
 (try simp only [Act.put, sA, sB, sC])
 refine tkL (.bool false) (h := ?_)
 (try simp only [Act.put, sA, sB, sC])
 refine wpList_nil ?_
 go_upto_region 4 with fail
 refine wp_region_lit ?_
 refine wpList_q (by rfl) (.bool false) ?he ?_
 case he => (have q := HK.out; go_simp; (first | done | exact q | (simp [q]; done)))
 (try simp only [Act.put, sA, sB, sC])
 refine tkL (.bool false) (h := ?_)
 (try simp only [Act.put, sA, sB, sC])
 refine wpList_nil ?_
 go_upto_region 6 with fail
 refine wp_region_lit ?_
 refine wpList_q (by rfl) (.bool false) ?he ?_
 case he => (have q := HK.out; go_simp; (first | done | exact q | (simp [q]; done)))
 (try simp only [Act.put, sA, sB, sC])
 refine tkL (.bool false) (h := ?_)
 (try simp only [Act.put, sA, sB, sC])
 refine wpList_nil ?_
 go_upto_region 8 with fail
 refine wp_region_lit ?_
 refine wpList_q (by rfl) (.bool false) ?he ?_
 case he => (have q := HK.out; go_simp; (first | done | exact q | (simp [q]; done)))
 (try simp only [Act.put, sA, sB, sC])
 refine tkL (.bool false) (h := ?_)
 (try simp only [Act.put, sA, sB, sC])
 refine wpList_nil ?_
 go_upto_region 10 with fail
 refine wp_region_lit ?_
 refine wpList_q (by rfl) (.bool false) ?he ?_
 case he => (have q := HK.out; go_simp; (first | done | exact q | (simp [q]; done)))
 (try simp only [Act.put, sA, sB, sC])
 refine tkL (.bool false) (h := ?_)
 (try simp only [Act.put, sA, sB, sC])
 refine wpList_nil ?_
 go_upto_region 12 with fail
 refine wp_region_lit ?_
 refine wpList_q (by rfl) (.bool false) ?he ?_
 case he => (have q := HK.out; go_simp; (first | done | exact q | (simp [q]; done)))
 (try simp only [Act.put, sA, sB, sC])
 refine tkL (.bool false) (h := ?_)
 (try simp only [Act.put, sA, sB, sC])
 refine wpList_nil ?_
 go_upto_region 14 with fail
 refine wp_region_lit ?_
 refine wpList_q (by rfl) (.bool true) ?he ?_
 case he => (have q := HK.out; go_simp; (first | done | exact q | (simp [q]; done)))
 (try simp only [Act.put, sA, sB, sC])
 refine tkL (.bool true) (h := ?_)
 (try simp only [Act.put, sA, sB, sC])
 refine wpList_nil ?_
 go_upto_region 15 with fail
 refine wp_region_lit ?_
 refine tkL (.pointer (some ⟨q, 0, none⟩)) (h := ?_)
 (try simp only [Act.put, sA, sB, sC])
 refine tkL (.pointer (some ⟨w.heap.size, 1, none⟩)) (h := ?_)
 (try simp only [Act.put, sA, sB, sC])
 refine wpList_q (by rfl) (.int .i64 o.a) ?he ?_
 case he => exact exec_cell 3 _ _ HBO1.out rfl rfl rfl Try.underlying3 rfl
 (try simp only [Act.put, sA, sB, sC])
 refine tkL (.pointer (some ⟨w.heap.size, 2, none⟩)) (h := ?_)
 (try simp only [Act.put, sA, sB, sC])
 refine wpList_q (by rfl) (.int .i64 o.b) ?he ?_
 case he => exact exec_cell 3 _ _ HBO1.out rfl rfl rfl Try.underlying3 rfl
 (try simp only [Act.put, sA, sB, sC])
 refine tkL (.pointer (some ⟨w.heap.size, 3, none⟩)) (h := ?_)
 (try simp only [Act.put, sA, sB, sC])
 refine wpList_q (by rfl) (.bool o.y) ?he ?_
 case he => exact exec_cell 4 _ _ HBO1.out rfl rfl rfl Try.underlying4 rfl
 (try simp only [Act.put, sA, sB, sC])
 refine wpList_wp (by rfl) (fun K hK => ?_)
 (try go_simp)
 refine (aimG HG1.out o.a o.b o.y).mono ?_
 rintro e w9 ⟨rfl, S9, hO, hU, hF⟩
 (try go_wp2_with fail)
 refine hK.out _ _ ?_
 clear hK K
 (try simp only [Act.put, sA, sB, sC])
 have HS9 := Lib.hid (Upd.comp HSU.out hU (fun x h => .inl h)); have HO9 := Lib.hid hO; have HF9 := Lib.hid (fun g hg => (hF g hg).imp_right (Nat.le_trans HS1.out.size)); clear hO hU hF
 refine tkL (.int .i64 ((aimR G o.a o.b o.y).2)) (h := ?_)
 (try simp only [Act.put, sA, sB, sC])
 refine wpList_nil ?_
 (try go_wp2_with fail)
 go_ret
 exact ⟨rfl, S9, HO9.out, HS9.out, HF9.out⟩
set_option maxHeartbeats 4000000 in
theorem do8 (o : OpV) (lo q : Nat) (G : GrV) (S : List Nat) (w : World) (hg : GO lo q G S w) (hl : G.waits.length ≤ 10000) (hr : ∀ x ∈ G.cars, R x.sp ∧ R x.su ∧ R x.sd) (hk : o.k = 8) : Calls Try.prog 16 #[.pointer (some ⟨q, 0, none⟩), .agg (opA o)] w fun e w' => e = .returned (.int .i64 (giveR G o.a).2) ∧ ∃ S', GO lo q (giveR G o.a).1 S' w' ∧ Upd S w w' ∧ ∀ g ∈ S', g ∈ S ∨ w.heap.size ≤ g := by
 have HL := Lib.hid hl
 clear hl
 have HR := Lib.hid hr
 clear hr
 have HK := Lib.hid hk
 clear hk
 go_enter Try.func16, Try.ntmps16
 go_upto_region 1 with fail
 obtain ⟨w1, hw1⟩ : ∃ w1, w1 = (w.alloc (.cells (opA o) 46)) := ⟨_, rfl⟩
 rw [← hw1]
 have HBO1 := Lib.hid (show Blk w1 (w.heap.size) 46 (opA o) by rw [hw1]; exact Blk.at_ (by (try simp only [size_alloc])) _ _)
 have HS1 := Lib.hid (show Since w w1 by rw [hw1]; exact Since.alloc (Since.refl w) _)
 have hNE : w.heap.size ≤ w.heap.size := by omega
 have HNE := Lib.hid hNE
 clear hNE hw1
 have HNE3 := Lib.hid (show w.heap.size ≤ w.heap.size from HNE.out)
 clear HNE
 have HSU := Lib.hid (Upd.of_since (S := S) HS1.out); have HG1 := Lib.hid (hg.keep HS1.out)
 refine wp_region_lit ?_
 refine tkL (.pointer (some ⟨w.heap.size, 0, none⟩)) (h := ?_)
 (try simp only [Act.put, sA, sB, sC])
 refine wpList_q (by rfl) (.int .i64 o.k) ?he ?_
 case he => exact exec_cell 3 _ _ HBO1.out rfl rfl rfl Try.underlying3 rfl
 (try simp only [Act.put, sA, sB, sC])
 refine wpList_nil ?_
 go_upto_region 2 with fail
 refine wp_region_lit ?_
 refine wpList_q (by rfl) (.bool false) ?he ?_
 case he => (have q := HK.out; go_simp; (first | done | exact q | (simp [q]; done)))
 (try simp only [Act.put, sA, sB, sC])
 refine tkL (.bool false) (h := ?_)
 (try simp only [Act.put, sA, sB, sC])
 refine wpList_nil ?_
 go_upto_region 4 with fail
 refine wp_region_lit ?_
 refine wpList_q (by rfl) (.bool false) ?he ?_
 case he => (have q := HK.out; go_simp; (first | done | exact q | (simp [q]; done)))
 (try simp only [Act.put, sA, sB, sC])
 refine tkL (.bool false) (h := ?_)
 (try simp only [Act.put, sA, sB, sC])
 refine wpList_nil ?_
 go_upto_region 6 with fail
 refine wp_region_lit ?_
 refine wpList_q (by rfl) (.bool false) ?he ?_
 case he => (have q := HK.out; go_simp; (first | done | exact q | (simp [q]; done)))
 (try simp only [Act.put, sA, sB, sC])
 refine tkL (.bool false) (h := ?_)
 (try simp only [Act.put, sA, sB, sC])
 refine wpList_nil ?_
 go_upto_region 8 with fail
 refine wp_region_lit ?_
 refine wpList_q (by rfl) (.bool false) ?he ?_
 case he => (have q := HK.out; go_simp; (first | done | exact q | (simp [q]; done)))
 (try simp only [Act.put, sA, sB, sC])
 refine tkL (.bool false) (h := ?_)
 (try simp only [Act.put, sA, sB, sC])
 refine wpList_nil ?_
 go_upto_region 10 with fail
 refine wp_region_lit ?_
 refine wpList_q (by rfl) (.bool false) ?he ?_
 case he => (have q := HK.out; go_simp; (first | done | exact q | (simp [q]; done)))
 (try simp only [Act.put, sA, sB, sC])
 refine tkL (.bool false) (h := ?_)
 (try simp only [Act.put, sA, sB, sC])
 refine wpList_nil ?_
 go_upto_region 12 with fail
 refine wp_region_lit ?_
 refine wpList_q (by rfl) (.bool false) ?he ?_
 case he => (have q := HK.out; go_simp; (first | done | exact q | (simp [q]; done)))
 (try simp only [Act.put, sA, sB, sC])
 refine tkL (.bool false) (h := ?_)
 (try simp only [Act.put, sA, sB, sC])
 refine wpList_nil ?_
 go_upto_region 14 with fail
 refine wp_region_lit ?_
 refine wpList_q (by rfl) (.bool false) ?he ?_
 case he => (have q := HK.out; go_simp; (first | done | exact q | (simp [q]; done)))
 (try simp only [Act.put, sA, sB, sC])
 refine tkL (.bool false) (h := ?_)
 (try simp only [Act.put, sA, sB, sC])
 refine wpList_nil ?_
 go_upto_region 16 with fail
 refine wp_region_lit ?_
 refine wpList_q (by rfl) (.bool true) ?he ?_
 case he => (have q := HK.out; go_simp; (first | done | exact q | (simp [q]; done)))
 (try simp only [Act.put, sA, sB, sC])
 refine tkL (.bool true) (h := ?_)
 (try simp only [Act.put, sA, sB, sC])
 refine wpList_nil ?_
 go_upto_region 17 with fail
 refine wp_region_lit ?_
 refine tkL (.pointer (some ⟨q, 0, none⟩)) (h := ?_)
 (try simp only [Act.put, sA, sB, sC])
 refine tkL (.pointer (some ⟨w.heap.size, 1, none⟩)) (h := ?_)
 (try simp only [Act.put, sA, sB, sC])
 refine wpList_q (by rfl) (.int .i64 o.a) ?he ?_
 case he => exact exec_cell 3 _ _ HBO1.out rfl rfl rfl Try.underlying3 rfl
 (try simp only [Act.put, sA, sB, sC])
 refine wpList_wp (by rfl) (fun K hK => ?_)
 (try go_simp)
 refine (giveG HG1.out o.a).mono ?_
 rintro e w9 ⟨rfl, S9, hO, hU, hF⟩
 (try go_wp2_with fail)
 refine hK.out _ _ ?_
 clear hK K
 (try simp only [Act.put, sA, sB, sC])
 have HS9 := Lib.hid (Upd.comp HSU.out hU (fun x h => .inl h)); have HO9 := Lib.hid hO; have HF9 := Lib.hid (fun g hg => (hF g hg).imp_right (Nat.le_trans HS1.out.size)); clear hO hU hF
 refine tkL (.int .i64 ((giveR G o.a).2)) (h := ?_)
 (try simp only [Act.put, sA, sB, sC])
 refine wpList_nil ?_
 (try go_wp2_with fail)
 go_ret
 exact ⟨rfl, S9, HO9.out, HS9.out, HF9.out⟩
theorem doG (o : OpV) (lo q : Nat) (G : GrV) (S : List Nat) (w : World) (hg : GO lo q G S w) (hl : G.waits.length ≤ 10000) (hr : ∀ x ∈ G.cars, R x.sp ∧ R x.su ∧ R x.sd) : Calls Try.prog 16 #[.pointer (some ⟨q, 0, none⟩), .agg (opA o)] w fun e w' => e = .returned (.int .i64 (doR G o.k o.a o.b o.y).2) ∧ ∃ S', GO lo q (doR G o.k o.a o.b o.y).1 S' w' ∧ Upd S w w' ∧ ∀ g ∈ S', g ∈ S ∨ w.heap.size ≤ g := by
  unfold doR
  by_cases h1 : o.k = 1
  · rw [if_pos h1]; exact do1 o lo q G S w hg hl hr h1
  rw [if_neg h1]
  by_cases h2 : o.k = 2
  · rw [if_pos h2]; exact do2 o lo q G S w hg hl hr h2
  rw [if_neg h2]
  by_cases h3 : o.k = 3
  · rw [if_pos h3]; exact do3 o lo q G S w hg hl hr h3
  rw [if_neg h3]
  by_cases h4 : o.k = 4
  · rw [if_pos h4]; exact do4 o lo q G S w hg hl hr h4
  rw [if_neg h4]
  by_cases h5 : o.k = 5
  · rw [if_pos h5]; exact do5 o lo q G S w hg hl hr h5
  rw [if_neg h5]
  by_cases h6 : o.k = 6
  · rw [if_pos h6]; exact do6 o lo q G S w hg hl hr h6
  rw [if_neg h6]
  by_cases h7 : o.k = 7
  · rw [if_pos h7]; exact do7 o lo q G S w hg hl hr h7
  rw [if_neg h7]
  by_cases h8 : o.k = 8
  · rw [if_pos h8]; exact do8 o lo q G S w hg hl hr h8
  rw [if_neg h8]
  exact do0 o lo q G S w hg hl hr h1 h2 h3 h4 h5 h6 h7 h8
end Go.Proofs.Ytpacieocmogjeaa.Gr
