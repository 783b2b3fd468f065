/-
  Wanted: part 8.
  No condition.
-/
import Derived.Test.YtpiiblkiddcgcaaGreatPK7
import Derived.Test.YtpiiblkiddcgcaaGreatPK6
import Derived.Test.YtpiiblkiddcgcaaGreatPK4
import Derived.Test.YtpiiblkiddcgcaaGreatPK5
set_option linter.all false
namespace Go.Proofs.YtpiiblkiddcgcaaGreat
namespace Co
open Go.RowKit Ba Mem En Go.Proofs.YtpiiblkiddcgcaaGreat.Ty Mo
open Gr (GrV GO CarsAt WaitsAt carL waitL WaitV pairO newG okT okW aimR giveR aimG giveG one)
open Qu (QO askE intE askC btw putE putL dropL atS oM)
open Le (TO hasL ofL setL setE endL zeroL)
open Fl (leaE mayB mayT)
open Ri (MsgV msgC Said tickV hearV Ms aimF aimT)
open Et (carsO car_at)
set_option maxRecDepth 100000
attribute [local irreducible] Go.Calls mayB hasL ofL putE atS oM
theorem one_c (G:GrV) (i:Int) (f:CarV→CarV×Int):(one G i f).1.c=G.c:=by unfold one; split <;> rfl
theorem give_c (G:GrV) (i:Int):(giveR G i).1.c=G.c:=one_c _ _ _
theorem aim_c (G:GrV) (i f:Int) (y:Bool):(aimR G i f y).1.c=G.c:=by unfold aimR; split; exact one_c _ _ _; rfl
attribute [local irreducible] giveR aimR endL setL setE aimF
def endK (K:KV) (s:Int):KV:=if hasL K.L s=true then ⟨(giveR K.G (ofL K.L s).ca).1,K.Q,endL K.L s⟩ else K
def setK (K:KV) (l:LeaseV) (o:Bool):KV:=if o=true then endK K l.se else ⟨(aimR K.G l.ca (aimF l) true).1,K.Q,setL K.G.c K.L l⟩
def goneK (K:KV) (s:Int):KV:={ endK K s with Q:=dropL K.Q s }
theorem end_no {ls:List LeaseV} {s:Int} (h:hasL ls s=false):endL ls s=ls:=by
 unfold hasL at h; unfold endL
 split
 ·rename_i k hk; rw [hk] at h; cases h
 ·rfl
theorem endK_Q (K:KV) (s:Int):(endK K s).Q=K.Q:=by unfold endK; split <;> rfl
theorem endK_c (K:KV) (s:Int):(endK K s).G.c=K.G.c:=by unfold endK; split; exact give_c _ _; rfl
theorem setK_c (K:KV) (l:LeaseV) (o:Bool):(setK K l o).G.c=K.G.c:=by unfold setK; split; exact endK_c _ _; exact aim_c _ _ _ _
section
variable {q lo:Nat} {p:Pt} {K:KV} {S:List Nat} {w:World}
theorem endT (hk:Blk w q 94 (coreA K.G.c p)) (hb:BD lo p K S w) (h2:K.L.length≤10000) (s:Int) :
  Calls Tryz.prog 120 #[.pointer (some ⟨q,0,none⟩),.int .i64 s] w fun e w'=>e=.returned (.tuple #[])∧∃ S',BD lo p (endK K s) S' w'∧Upd S w w'∧∀ g∈S',g∈S∨w.heap.size≤g:=by
 unfold endK
 cases hL:hasL K.L s with
 | false =>
  rw [if_neg (by decide)]
  refine entH tab_ok (hold_k hk hb) [.p 0 0,.i .i64 s] Tryz.func120 Tryz.ntmps120 rfl rfl ?_
  repeat' (first | refine gs_ ?_|((conv=>whnf); first | intro b | refine callO (f:=175) (A:=bdO lo p K S true) 0 (fun _=>.t [.a [.i .i64 (ofL K.L s).se,.i .i64 (ofL K.L s).fl,.i .i64 (ofL K.L s).fm,.i .i64 (ofL K.L s).to,.i .i64 (ofL K.L s).ma,.i .i64 (ofL K.L s).ca,.i .i64 (ofL K.L s).ph,.i .i64 (ofL K.L s).un,.i .i64 (ofL K.L s).re,.i .i64 (ofL K.L s).gr],.b false]) (fun S'=>bdO lo p K S' true) (fun w hH hA=>by have:=BD.tab hA (fun S1 hq=>Le.endT hq h2 s); rw [hL,end_no hL] at this; exact this) (fun S'=>?_)|refine fin_k (by rfl) (by intro m; rfl)|refine fin_s ?_))
 | true =>
  rw [if_pos rfl]
  refine entH tab_ok (hold_k hk hb) [.p 0 0,.i .i64 s] Tryz.func120 Tryz.ntmps120 rfl rfl ?_
  repeat' (first | refine gs_ ?_|((conv=>whnf); first | intro b | refine callO (f:=175) (A:=bdO lo p K S true) 0 (fun _=>.t [.a [.i .i64 (ofL K.L s).se,.i .i64 (ofL K.L s).fl,.i .i64 (ofL K.L s).fm,.i .i64 (ofL K.L s).to,.i .i64 (ofL K.L s).ma,.i .i64 (ofL K.L s).ca,.i .i64 (ofL K.L s).ph,.i .i64 (ofL K.L s).un,.i .i64 (ofL K.L s).re,.i .i64 (ofL K.L s).gr],.b true]) (fun S'=>bdO lo p { K with L:=endL K.L s } S' true) (fun w hH hA=>by have:=BD.tab hA (fun S1 hq=>Le.endT hq h2 s); rw [hL] at this; exact this) (fun S'=>?_)|refine callO (f:=43) (A:=bdO lo p { K with L:=endL K.L s } S' true) 0 (fun _=>.i .i64 (giveR K.G (ofL K.L s).ca).2) (fun S'=>bdO lo p ⟨(giveR K.G (ofL K.L s).ca).1,K.Q,endL K.L s⟩ S' true) (fun w hH hA=>BD.grp hA (give_c _ _) (fun S1 hq=>giveG hq (ofL K.L s).ca)) (fun S''=>?_)|refine fin_k (by rfl) (by intro m; rfl)|refine fin_s ?_))
attribute [local irreducible] endK
theorem settleT (hk:Blk w q 94 (coreA K.G.c p)) (hb:BD lo p K S w) (h2:K.L.length≤10000) (l:LeaseV) (o:Bool) :
  Calls Tryz.prog 55 #[.pointer (some ⟨q,0,none⟩),.agg #[.int .i64 l.se,.int .i64 l.fl,.int .i64 l.fm,.int .i64 l.to,.int .i64 l.ma,.int .i64 l.ca,.int .i64 l.ph,.int .i64 l.un,.int .i64 l.re,.int .i64 l.gr],.bool o] w fun e w'=>e=.returned (.tuple #[])∧∃ S',BD lo p (setK K l o) S' w'∧Upd S w w'∧∀ g∈S',g∈S∨w.heap.size≤g:=by
 unfold setK
 cases o with
 | true =>
  rw [if_pos rfl]
  refine entH tab_ok (hold_k hk hb) [.p 0 0,.a [.i .i64 l.se,.i .i64 l.fl,.i .i64 l.fm,.i .i64 l.to,.i .i64 l.ma,.i .i64 l.ca,.i .i64 l.ph,.i .i64 l.un,.i .i64 l.re,.i .i64 l.gr],.b true] Tryz.func55 Tryz.ntmps55 rfl rfl ?_
  repeat' (first | refine gs_ ?_|((conv=>whnf); first | intro b | refine callO (f:=120) (A:=bdO lo p K S true) 0 (fun _=>.t []) (fun S'=>bdO lo p (endK K l.se) S' true) (fun w hH hA=>(endT (hH.row 0 _ rfl rfl) hA h2 l.se).mono (by rintro e w' ⟨rfl,S',h⟩; exact ⟨S',rfl,h⟩)) (fun S'=>?_)|refine fin_k (by rfl) (by intro m; rfl)|refine fin_s ?_))
 | false =>
  rw [if_neg (by decide)]
  refine entH tab_ok (hold_k hk hb) [.p 0 0,.a [.i .i64 l.se,.i .i64 l.fl,.i .i64 l.fm,.i .i64 l.to,.i .i64 l.ma,.i .i64 l.ca,.i .i64 l.ph,.i .i64 l.un,.i .i64 l.re,.i .i64 l.gr],.b false] Tryz.func55 Tryz.ntmps55 rfl rfl ?_
  repeat' (first | refine gs_ ?_|((conv=>whnf); first | intro b | refine callO (f:=121) (A:=bdO lo p K S true) 0 (fun _=>.i .i64 (setE K.G.c K.L l)) (fun S'=>bdO lo p { K with L:=setL K.G.c K.L l } S' true) (fun w hH hA=>BD.tab hA (fun S1 hq=>Le.setT hq h2 l)) (fun S'=>?_)|refine callS (f:=122) (.t [.i .i64 (aimF l),.b true]) (aimT l) ?_|refine callO (f:=42) (A:=bdO lo p { K with L:=setL K.G.c K.L l } S' true) 0 (fun _=>.i .i64 (aimR K.G l.ca (aimF l) true).2) (fun S'=>bdO lo p ⟨(aimR K.G l.ca (aimF l) true).1,K.Q,setL K.G.c K.L l⟩ S' true) (fun w hH hA=>BD.grp hA (aim_c _ _ _ _) (fun S1 hq=>aimG hq l.ca (aimF l) true)) (fun S''=>?_)|refine fin_k (by rfl) (by intro m; rfl)|refine fin_s ?_))
theorem goneT (hk:Blk w q 94 (coreA K.G.c p)) (hb:BD lo p K S w) (h1:K.Q.length≤1000) (h2:K.L.length≤10000) (s:Int) :
  Calls Tryz.prog 68 #[.pointer (some ⟨q,0,none⟩),.int .i64 s] w fun e w'=>e=.returned (.tuple #[])∧∃ S',BD lo p (goneK K s) S' w'∧Upd S w w'∧∀ g∈S',g∈S∨w.heap.size≤g:=by
 have hq1:(endK K s).Q.length≤10000:=by rw [endK_Q]; omega
 refine entH tab_ok (hold_k hk hb) [.p 0 0,.i .i64 s] Tryz.func68 Tryz.ntmps68 rfl rfl ?_
 repeat' (first | refine gs_ ?_|((conv=>whnf); first | intro b | refine callO (f:=120) (A:=bdO lo p K S true) 0 (fun _=>.t []) (fun S'=>bdO lo p (endK K s) S' true) (fun w hH hA=>(endT (hH.row 0 _ rfl rfl) hA h2 s).mono (by rintro e w' ⟨rfl,S',h⟩; exact ⟨S',rfl,h⟩)) (fun S'=>?_)|refine callO (f:=127) (A:=bdO lo p (endK K s) S' true) 0 (fun _=>.b (atS (endK K s).Q s).isSome) (fun S'=>bdO lo p { endK K s with Q:=dropL (endK K s).Q s } S' true) (fun w hH hA=>BD.que hA (fun S1 hq=>Qu.dropQ hq hq1 s)) (fun S''=>?_)|refine fin_s ?_))
 conv=>whnf
 refine fin_k (by unfold goneK; rw [endK_Q]) (by intro m; rfl)
theorem saidN {F:FuncId} {args:Array Value} {w1:World} {n0:Nat} {r:LeaseV×Option MsgV×Bool} (h:Calls Tryz.prog F args w1 (Said w1 r)) (h0:n0≤w1.heap.size) :
  Calls Tryz.prog F args w1 fun e w'=>∃ x:NrA n0,e=.returned (.tuple #[.agg #[.int .i64 r.1.se,.int .i64 r.1.fl,.int .i64 r.1.fm,.int .i64 r.1.to,.int .i64 r.1.ma,.int .i64 r.1.ca,.int .i64 r.1.ph,.int .i64 r.1.un,.int .i64 r.1.re,.int .i64 r.1.gr],.slice x.1.2.1 r.2.1.toList.length x.1.2.2,.bool r.2.2])∧(rwO msgE x.1.1 x.1.2.1 r.2.1.toList.length x.1.2.2 r.2.1.toList true).st w'∧Since w1 w'∧∀ g∈(rwO msgE x.1.1 x.1.2.1 r.2.1.toList.length x.1.2.2 r.2.1.toList true).F,w1.heap.size≤g:=by
 refine h.mono ?_
 rintro e w' ⟨v,rfl,hm,hs⟩
 obtain ⟨l,o,b⟩:=r
 cases o with
 | none =>
  have hm:v=.slice none 0 0:=hm
  subst hm
  exact ⟨⟨(w1.heap.size,none,0),h0⟩,rfl,Ek.nil _ _ _,hs,by intro g hg; cases hg⟩
 | some m =>
  obtain ⟨b1,rfl,hb1,B⟩:=hm
  have hO:msgE.At w1.heap.size (some ⟨b1,0,none⟩) 1 1 [m] w':=Ek.of_blk B hb1 (by decide)
  exact ⟨⟨(w1.heap.size,some ⟨b1,0,none⟩,1),h0⟩,rfl,hO,hs,own_low hO⟩
def carAt (K:KV) (l:LeaseV):CarV:=K.G.cars.getD l.ca.toNat Gr.zeroX
def inC (K:KV) (l:LeaseV):Prop:=0≤l.ca∧l.ca < (K.G.cars.length:Int)
theorem inC.at_ {K:KV} {l:LeaseV} (h:inC K l):K.G.cars[l.ca.toNat]?=some (carAt K l):=by
 have:l.ca.toNat < K.G.cars.length:=by unfold inC at h; omega
 simp [carAt,List.getD,this]
def hearR (K:KV) (l:LeaseV) (m:MsgV):LeaseV×Option MsgV×Bool:=hearV K.G.c l (carAt K l) K.G.now m
def hearK (K:KV) (s:Int) (m:MsgV):KV:=if hasL K.L s=true then setK K (hearR K (ofL K.L s) m).1 (hearR K (ofL K.L s) m).2.2 else K
def hearM (K:KV) (s:Int) (m:MsgV):List MsgV:=if hasL K.L s=true then (hearR K (ofL K.L s) m).2.1.toList else [⟨7,0,0,0⟩]
attribute [local irreducible] setK hearR
set_option maxHeartbeats 2000000 in
theorem hearT (hk:Blk w q 94 (coreA K.G.c p)) (hb:BD lo p K S w) (h0:K.G.cars.length≤10000) (h2:K.L.length≤10000) (s:Int) (m:MsgV) (hin:hasL K.L s=true→inC K (ofL K.L s)) :
  Calls Tryz.prog 67 #[.pointer (some ⟨q,0,none⟩),.int .i64 s,.agg (msgC m)] w fun e w'=>∃ (S':List Nat) (x:Nr),e=.returned (.slice x.2.1 (hearM K s m).length x.2.2)∧BD lo p (hearK K s m) S' w'∧(rwO evE x.1 x.2.1 (hearM K s m).length x.2.2 (evs s (hearM K s m)) true).st w'∧Upd S w w'∧(∀ g∈S',g∈S∨w.heap.size≤g)∧∀ g∈blkOf x.2.1,w.heap.size≤g∧g∉S':=by
 unfold hearK hearM
 cases hL:hasL K.L s with
 | false =>
  rw [if_neg (by decide),if_neg (by decide)]
  refine entH tab_ok (hold_k hk hb) [.p 0 0,.i .i64 s,.a [.i .i64 m.ki,.i .i64 m.a,.i .i64 m.b,.i .i64 m.c]] Tryz.func67 Tryz.ntmps67 rfl rfl ?_
  repeat' (first | refine gs_ ?_|((conv=>whnf); first | intro b | refine callH (f:=143) (.t [.a [.i .i64 (ofL K.L s).se,.i .i64 (ofL K.L s).fl,.i .i64 (ofL K.L s).fm,.i .i64 (ofL K.L s).to,.i .i64 (ofL K.L s).ma,.i .i64 (ofL K.L s).ca,.i .i64 (ofL K.L s).ph,.i .i64 (ofL K.L s).un,.i .i64 (ofL K.L s).re,.i .i64 (ofL K.L s).gr],.b false]) (fun w hH=>by have:=(hH.obj (bdO lo p K S true) (List.mem_singleton.2 rfl)).of h2 s; rw [hL] at this; exact this) ?_|refine opb1 (e:=48) ⟨tab_ok⟩ [.i .i64 7,.i .i64 0,.i .i64 0,.i .i64 0] (by rfl) (by rfl) ?_|refine callN (f:=56) (ι:=NrA w.heap.size) (fun x=>.v (.slice x.1.2.1 1 x.1.2.2)) (fun x=>rwO evE x.1.1 x.1.2.1 1 x.1.2.2 (evs s [⟨7,0,0,0⟩]) true) (fun w1 hH=>toN (eventsT (lo:=0) (ms:=[⟨7,0,0,0⟩]) s w1 (Ek.of_blk (hH.row 3 _ rfl rfl) (Nat.zero_le _) (by decide)) rfl (by decide)) hH.upd.size) (fun x=>?_)|refine fin_ke (k:=0) (by rfl) (by rfl) (by rfl) x.2 | refine fin_s ?_))
 | true =>
  rw [if_pos rfl,if_pos rfl]
  have hi:=hin hL
  obtain ⟨k,hka⟩:∃ k:Nat,(ofL K.L s).ca=(k:Int):=⟨_,(Int.toNat_of_nonneg hi.1).symm⟩
  have hx:=hi.at_
  rw [hka] at hx
  have hx:K.G.cars[k]?=some (carAt K (ofL K.L s)):=by simpa using hx
  obtain ⟨hkl,_⟩:=List.getElem?_eq_some_iff.1 hx
  generalize hl:ofL K.L s=l at *
  generalize hxx:carAt K l=x at *
  have hr:hearR K l m=hearV K.G.c l x K.G.now m:=by unfold hearR; rw [hxx]
  refine entH tab_ok (hold_k hk hb) [.p 0 0,.i .i64 s,.a [.i .i64 m.ki,.i .i64 m.a,.i .i64 m.b,.i .i64 m.c]] Tryz.func67 Tryz.ntmps67 rfl rfl ?_
  repeat' (first | refine gq_ ?_|((conv=>whnf); first | intro b | refine drA ⟨tab_ok⟩ [13] ?_|refine And.intro ?_ ?_|refine callH (f:=143) (.t [.a [.i .i64 l.se,.i .i64 l.fl,.i .i64 l.fm,.i .i64 l.to,.i .i64 l.ma,.i .i64 l.ca,.i .i64 l.ph,.i .i64 l.un,.i .i64 l.re,.i .i64 l.gr],.b true]) (fun w hH=>by have:=(Hold.ob hH (A:=bdO lo p K S true) 0 rfl).of h2 s; rw [hL,hl] at this; exact this) ?_|refine callN (f:=33) (ι:=NgA w.heap.size) (fun x=>.v (.slice (some ⟨x.1.2.1,0,none⟩) K.G.cars.length x.1.2.2)) (fun x=>carsO x.1.1 (some ⟨x.1.2.1,0,none⟩) K.G.cars.length x.1.2.2 K.G.cars true) (fun w1 hH=>toNCg (by omega) ((Hold.ob hH (A:=bdO lo p K S true) 0 rfl).cars h0) hH.upd.size) (fun cs=>?_)|refine puiv ⟨tab_ok⟩ (by rfl) (by rfl) (by rfl) (by rfl) (by rfl) (by rfl) ⟨by omega,by omega⟩ ?_|refine opix (g:=cs.1.2.1) (off:=0+k*15) (sCar x) (fun w hH=>car_at (Hold.ob hH (A:=carsO cs.1.1 (some ⟨cs.1.2.1,0,none⟩) K.G.cars.length cs.1.2.2 K.G.cars true) 1 rfl) hx) ⟨tab_ok⟩ (by rfl) (by rfl) (by show Addr.add ⟨_,0,none⟩ (l.ca.toNat*15)=_; rw [hka,Int.toNat_natCast,Go.WideShapes.add_plain]) ?_|refine callH (f:=34) (.i .i64 K.G.now) (fun w hH=>(Hold.ob hH (A:=bdO lo p K S true) 0 rfl).now) ?_|refine callN (f:=144) (ι:=NrA w.heap.size) (fun x=>.t [.a [.i .i64 (hearR K l m).1.se,.i .i64 (hearR K l m).1.fl,.i .i64 (hearR K l m).1.fm,.i .i64 (hearR K l m).1.to,.i .i64 (hearR K l m).1.ma,.i .i64 (hearR K l m).1.ca,.i .i64 (hearR K l m).1.ph,.i .i64 (hearR K l m).1.un,.i .i64 (hearR K l m).1.re,.i .i64 (hearR K l m).1.gr],.v (.slice x.1.2.1 (hearR K l m).2.1.toList.length x.1.2.2),.b (hearR K l m).2.2]) (fun x=>rwO msgE x.1.1 x.1.2.1 (hearR K l m).2.1.toList.length x.1.2.2 (hearR K l m).2.1.toList true) (fun w1 hH=>saidN (by rw [hr]; exact Ri.hearT K.G.c l x K.G.now m w1) hH.upd.size) (fun ms=>?_)|refine callO (f:=55) (A:=bdO lo p K S true) 0 (fun _=>.t []) (fun S'=>bdO lo p (setK K (hearR K l m).1 (hearR K l m).2.2) S' true) (fun w hH hA=>(settleT (hH.row 0 _ rfl rfl) hA h2 _ _).mono (by rintro e w' ⟨rfl,S',h⟩; exact ⟨S',rfl,h⟩)) (fun S'=>?_)|refine callN (f:=56) (ι:=NrA w.heap.size) (fun x=>.v (.slice x.1.2.1 (hearR K l m).2.1.toList.length x.1.2.2)) (fun x=>rwO evE x.1.1 x.1.2.1 (hearR K l m).2.1.toList.length x.1.2.2 (evs s (hearR K l m).2.1.toList) true) (fun w1 hH=>toN (eventsT s w1 (Hold.ob hH (A:=rwO msgE ms.1.1 ms.1.2.1 (hearR K l m).2.1.toList.length ms.1.2.2 (hearR K l m).2.1.toList true) 2 rfl) rfl (by have:(hearR K l m).2.1.toList.length≤1:=(by cases (hearR K l m).2.1 <;> simp); omega)) hH.upd.size) (fun es=>?_)|refine fin_ke (k:=2) (by rfl) (by rfl) (by rfl) es.2 | refine fin_s ?_))
end
end Co
namespace Co
open Go.RowKit Ba Mem En Go.Proofs.YtpiiblkiddcgcaaGreat.Ty Mo Go.Proofs.YtpiiblkiddcgcaaGreat.St
open Gr (GrV GO CarsAt WaitsAt carL waitL waitA WaitV pairO newG okT okW idB idlT waitsO wait_at)
open Qu (QO askE intE askC btw putE putL dropL atS oM)
open Le (TO hasL ofL setL setE endL zeroL)
open Fl (leaE mayB mayT freeB freeT)
open Ri (MsgV msgC sp spanT sp_lo sp_hi)
open Et (carsO car_at fr_bd)
set_option maxRecDepth 100000
attribute [local irreducible] Go.Calls
theorem cp_take {α:Type} {ls:List α} {p:α→Bool} {k:Nat} {x:α} (hx:ls[k]?=some x):(ls.take (k+1)).countP p=(ls.take k).countP p+if p x=true then 1 else 0:=by
 obtain ⟨hk,rfl⟩:=List.getElem?_eq_some_iff.1 hx
 rw [List.take_succ_eq_append_getElem hk,List.countP_append]
 simp [List.countP_cons]
theorem cp_le {α:Type} (ls:List α) (p:α→Bool) (k:Nat):(ls.take k).countP p≤k:=by
 have:=List.countP_le_length (p:=p) (l:=ls.take k)
 rw [List.length_take] at this; omega
theorem countW {lo n c:Nat} {A:Option Addr} {ls:List WaitV} (F:FuncId) (c1 c2:Value) (p:WaitV→Bool) (w:World) (ho:WaitsAt lo A n c ls w) (hn:ls.length=n) (hl:n≤1000000) (hp:∀ l∈ls,∀ w1:World,Since w w1→Calls Tryz.prog F #[.agg (waitA l),c1,c2] w1 fun e w2=>e=.returned (.bool (p l))∧Since w1 w2) (hcf:∀ (args:Array Value) (w1:World),(callFunc F args).run Tryz.prog w1=.ok (.enter F args) w1) :
  Calls Tryz.prog 179 #[.slice A n c,.func (.func F) #[] #[c1,c2]] w fun e w'=>e=.returned (.int .i64 (ls.countP p:Nat))∧Since w w':=by
 obtain ⟨g,hA⟩:∃ g,0 < n→A=some ⟨g,0,none⟩:=by
  rcases own_at ho with ⟨_,h0,_⟩ | ⟨g,_,h1,_⟩
  ·exact ⟨0,fun k=>by omega⟩
  ·exact ⟨g,fun _=>h1⟩
 refine entH tab_ok (Hold.addObj (Hold.nil _ tab [] _ w) (waitsO lo A n c ls false) ho (by intro k; cases k) (by intro r hr; cases hr) (by intro A hA; cases hA)) [.v (.slice A n c),.f F [.v c1,.v c2]] Tryz.func179 Tryz.ntmps179 rfl rfl ?_
 repeat' (first | refine gs_ ?_|((conv=>whnf); first | intro b | refine b3_ (fun h=>?_) (fun h=>?_)|refine fin_s ?_))
 conv=>whnf
 refine lp ⟨tab_ok⟩ (ι:={k:Nat // k≤n}) (fun x=>match x with | ⟨k,_⟩=>⟨[(1,.f F [.v c1,.v c2]),(5,.i .i64 ((ls.take k).countP p:Nat)),(8,.v (.slice A n c)),(9,.i .i64 n),(10,.i .i64 (k:Int))],[],[waitsO lo A n c ls false]⟩) (fun x=>n - x.1) ⟨0,Nat.zero_le _⟩ (wk ?_) ?_
 ·repeat' (first | exact trivial | rfl | ((conv=>whnf); refine And.intro ?_ ?_))
 rintro ⟨k,hk⟩
 have hck:=cp_le ls p k
 by_cases hlt:k < n
 ·obtain ⟨x,hx⟩:∃ x,ls[k]?=some x:=⟨_,List.getElem?_eq_getElem (by omega)⟩
  obtain rfl:=hA (by omega)
  have hc:=cp_take (p:=p) hx
  have hmem:=List.mem_of_getElem? hx
  cases hpx:p x with
  | true =>
   rw [if_pos hpx] at hc
   repeat' (first | refine gs_ ?_|((conv=>whnf); first | intro b2 | refine bto ?_|refine bfo ?_|refine wr_i ?_|refine opiv ⟨tab_ok⟩ (by rfl) (by rfl) (by rfl) (by rfl) (by rfl) (by rfl) ⟨by omega,by omega⟩ ?_|refine opix (g:=g) (off:=0+k*4) [.i .i64 x.fl,.i .i64 x.wy,.i .i64 x.ca,.i .i64 x.si] (fun w hH=>wait_at (hH.obj (waitsO lo (some ⟨g,0,none⟩) n c ls false) (List.mem_singleton.2 rfl)) hx) ⟨tab_ok⟩ (by rfl) (by rfl) (by show Addr.add ⟨g,0,none⟩ (k*4)=_; rw [Go.WideShapes.add_plain]) ?_|refine callHF hcf (.b true) (fun w hH=>by have:=hp x hmem w (hH.out rfl); rw [hpx] at this; exact this) ?_|refine back ⟨k+1,by omega⟩ (wk ?_) ?_|refine fin_s ?_))
   all_goals first | (show n - (k+1) < n - k; omega)|skip
   all_goals (repeat' (first | exact trivial | rfl | ((conv=>whnf); refine And.intro ?_ ?_)))
   all_goals (simp only [den]; rw [hc]; rfl)
  | false =>
   rw [if_neg (by rw [hpx]; decide)] at hc
   repeat' (first | refine gs_ ?_|((conv=>whnf); first | intro b2 | refine bto ?_|refine bfo ?_|refine wr_i ?_|refine opiv ⟨tab_ok⟩ (by rfl) (by rfl) (by rfl) (by rfl) (by rfl) (by rfl) ⟨by omega,by omega⟩ ?_|refine opix (g:=g) (off:=0+k*4) [.i .i64 x.fl,.i .i64 x.wy,.i .i64 x.ca,.i .i64 x.si] (fun w hH=>wait_at (hH.obj (waitsO lo (some ⟨g,0,none⟩) n c ls false) (List.mem_singleton.2 rfl)) hx) ⟨tab_ok⟩ (by rfl) (by rfl) (by show Addr.add ⟨g,0,none⟩ (k*4)=_; rw [Go.WideShapes.add_plain]) ?_|refine callHF hcf (.b false) (fun w hH=>by have:=hp x hmem w (hH.out rfl); rw [hpx] at this; exact this) ?_|refine back ⟨k+1,by omega⟩ (wk ?_) ?_|refine fin_s ?_))
   all_goals first | (show n - (k+1) < n - k; omega)|skip
   all_goals (repeat' (first | exact trivial | rfl | ((conv=>whnf); refine And.intro ?_ ?_)))
   all_goals (simp only [den]; rw [hc]; rfl)
 ·repeat' (first | refine gs_ ?_|((conv=>whnf); first | intro b2 | refine bto ?_|refine bfo ?_|refine wr_i ?_|refine fin_s ?_))
  obtain rfl:k=n:=by omega
  rw [List.take_of_length_le (by omega)]; rfl
theorem countC {lo n c:Nat} {A:Option Addr} {ls:List CarV} (F:FuncId) (p:CarV→Bool) (w:World) (ho:CarsAt lo A n c ls w) (hn:ls.length=n) (hl:n≤1000000) (hp:∀ (l:CarV) (w1:World),Calls Tryz.prog F #[.agg #[.int .i64 l.ds,.int .i64 l.da,.int .i64 l.un,.int .i64 l.wy,.int .i64 l.ti,.int .i64 l.ju,.int .i64 l.lo,.bool l.bl,.bool l.br,.int .i64 l.mo,.int .i64 l.ta,.bool l.ho,.int .u64 l.sp,.int .u64 l.su,.int .u64 l.sd]] w1 fun e w2=>e=.returned (.bool (p l))∧Since w1 w2) (hcf:∀ (args:Array Value) (w1:World),(callFunc F args).run Tryz.prog w1=.ok (.enter F args) w1) :
  Calls Tryz.prog 181 #[.slice A n c,.func (.func F) #[] #[]] w fun e w'=>e=.returned (.int .i64 (ls.countP p:Nat))∧Since w w':=by
 obtain ⟨g,hA⟩:∃ g,0 < n→A=some ⟨g,0,none⟩:=by
  rcases own_at ho with ⟨_,h0,_⟩ | ⟨g,_,h1,_⟩
  ·exact ⟨0,fun k=>by omega⟩
  ·exact ⟨g,fun _=>h1⟩
 refine entH tab_ok (Hold.addObj (Hold.nil _ tab [] _ w) (carsO lo A n c ls false) ho (by intro k; cases k) (by intro r hr; cases hr) (by intro A hA; cases hA)) [.v (.slice A n c),.f F []] Tryz.func181 Tryz.ntmps181 rfl rfl ?_
 repeat' (first | refine gs_ ?_|((conv=>whnf); first | intro b | refine b3_ (fun h=>?_) (fun h=>?_)|refine fin_s ?_))
 conv=>whnf
 refine lp ⟨tab_ok⟩ (ι:={k:Nat // k≤n}) (fun x=>match x with | ⟨k,_⟩=>⟨[(1,.f F []),(5,.i .i64 ((ls.take k).countP p:Nat)),(8,.v (.slice A n c)),(9,.i .i64 n),(10,.i .i64 (k:Int))],[],[carsO lo A n c ls false]⟩) (fun x=>n - x.1) ⟨0,Nat.zero_le _⟩ (wk ?_) ?_
 ·repeat' (first | exact trivial | rfl | ((conv=>whnf); refine And.intro ?_ ?_))
 rintro ⟨k,hk⟩
 have hck:=cp_le ls p k
 by_cases hlt:k < n
 ·obtain ⟨x,hx⟩:∃ x,ls[k]?=some x:=⟨_,List.getElem?_eq_getElem (by omega)⟩
  obtain rfl:=hA (by omega)
  have hc:=cp_take (p:=p) hx
  cases hpx:p x with
  | true =>
   rw [if_pos hpx] at hc
   repeat' (first | refine gs_ ?_|((conv=>whnf); first | intro b2 | refine bto ?_|refine bfo ?_|refine wr_i ?_|refine opiv ⟨tab_ok⟩ (by rfl) (by rfl) (by rfl) (by rfl) (by rfl) (by rfl) ⟨by omega,by omega⟩ ?_|refine opix (g:=g) (off:=0+k*15) (sCar x) (fun w hH=>car_at (hH.obj (carsO lo (some ⟨g,0,none⟩) n c ls false) (List.mem_singleton.2 rfl)) hx) ⟨tab_ok⟩ (by rfl) (by rfl) (by show Addr.add ⟨g,0,none⟩ (k*15)=_; rw [Go.WideShapes.add_plain]) ?_|refine callHF hcf (.b true) (fun w hH=>by have:=hp x w; rw [hpx] at this; exact this) ?_|refine back ⟨k+1,by omega⟩ (wk ?_) ?_|refine fin_s ?_))
   all_goals first | (show n - (k+1) < n - k; omega)|skip
   all_goals (repeat' (first | exact trivial | rfl | ((conv=>whnf); refine And.intro ?_ ?_)))
   all_goals (simp only [den]; rw [hc]; rfl)
  | false =>
   rw [if_neg (by rw [hpx]; decide)] at hc
   repeat' (first | refine gs_ ?_|((conv=>whnf); first | intro b2 | refine bto ?_|refine bfo ?_|refine wr_i ?_|refine opiv ⟨tab_ok⟩ (by rfl) (by rfl) (by rfl) (by rfl) (by rfl) (by rfl) ⟨by omega,by omega⟩ ?_|refine opix (g:=g) (off:=0+k*15) (sCar x) (fun w hH=>car_at (hH.obj (carsO lo (some ⟨g,0,none⟩) n c ls false) (List.mem_singleton.2 rfl)) hx) ⟨tab_ok⟩ (by rfl) (by rfl) (by show Addr.add ⟨g,0,none⟩ (k*15)=_; rw [Go.WideShapes.add_plain]) ?_|refine callHF hcf (.b false) (fun w hH=>by have:=hp x w; rw [hpx] at this; exact this) ?_|refine back ⟨k+1,by omega⟩ (wk ?_) ?_|refine fin_s ?_))
   all_goals first | (show n - (k+1) < n - k; omega)|skip
   all_goals (repeat' (first | exact trivial | rfl | ((conv=>whnf); refine And.intro ?_ ?_)))
   all_goals (simp only [den]; rw [hc]; rfl)
 ·repeat' (first | refine gs_ ?_|((conv=>whnf); first | intro b2 | refine bto ?_|refine bfo ?_|refine wr_i ?_|refine fin_s ?_))
  obtain rfl:k=n:=by omega
  rw [List.take_of_length_le (by omega)]; rfl
def oldW (K:KV) (a:WaitV):Bool:=decide (K.G.now - a.si > sp K.G.c.yi)
def nrmC (x:CarV):Bool:=x.mo == 0 && !x.br
def pfB (K:KV):Bool:=decide ((K.G.waits.countP (oldW K):Int) > 0) || decide ((K.G.cars.countP nrmC:Int) < 2)
def okS (K:KV) (a:WaitV):Prop:=0≤a.si∧a.si≤1099511627776
def okN (K:KV):Prop:=0≤K.G.now∧K.G.now≤1099511627776
theorem pf1T (K:KV) (a:WaitV) (cp cq:Nat) (w:World) (h1:Blk w cp 3 #[.int .i64 K.G.now]) (h2:Blk w cq 3 #[.int .i64 (sp K.G.c.yi)]) (hne:cp≠cq) (ha:okS K a) (hn:okN K):Calls Tryz.prog 180 #[.agg (waitA a),.pointer (some ⟨cp,0,none⟩),.pointer (some ⟨cq,0,none⟩)] w fun e w'=>e=.returned (.bool (oldW K a))∧Since w w':=by
 obtain ⟨a1,a2⟩:=ha
 obtain ⟨n1,n2⟩:=hn
 refine entH tab_ok (Hold.addRow (hold_q (S:=[]) [.i .i64 K.G.now] h1) ⟨cq,3,true,0,[],[.i .i64 (sp K.G.c.yi)],[],false⟩ h2 (by intro h; cases h) (by intro r hr _; rw [List.mem_singleton] at hr; subst hr; exact hne) (by intro A hA; cases hA)) [.a [.i .i64 a.fl,.i .i64 a.wy,.i .i64 a.ca,.i .i64 a.si],.p 0 0,.p 1 0] Tryz.func180 Tryz.ntmps180 rfl rfl ?_
 repeat' (first | refine gs_ ?_|((conv=>whnf); first | intro b | refine wr_i ?_|refine fin_s ?_))
 all_goals rfl
theorem pf2T (x:CarV) (w:World):Calls Tryz.prog 182 #[.agg #[.int .i64 x.ds,.int .i64 x.da,.int .i64 x.un,.int .i64 x.wy,.int .i64 x.ti,.int .i64 x.ju,.int .i64 x.lo,.bool x.bl,.bool x.br,.int .i64 x.mo,.int .i64 x.ta,.bool x.ho,.int .u64 x.sp,.int .u64 x.su,.int .u64 x.sd]] w fun e w'=>e=.returned (.bool (nrmC x))∧Since w w':=by
 refine ent tab_ok [.a (sCar x)] Tryz.func182 Tryz.ntmps182 rfl rfl ?_
 repeat' (first | refine gs_ ?_|((conv=>whnf); first | intro b | refine b3_ (fun h=>?_) (fun h=>?_)|refine fin_s ?_))
 all_goals (unfold nrmC; simp [den, *])
attribute [local irreducible] oldW nrmC sp
section
variable {q lo:Nat} {p:Pt} {K:KV} {S:List Nat} {w:World}
theorem hold_kr {n:Nat} (hk:Blk w q 94 (coreA K.G.c p)) (hb:BD lo p K S w):Hold ⟨Tryz.prog,tab,[],w,n,[]⟩ [⟨q,94,true,0,[],coreS K.G.c p,[],false⟩] [bdO lo p K S false] w :=
 Hold.addObj (hold_q (S:=[]) (coreS K.G.c p) hk) (bdO lo p K S false) hb (by intro k; cases k) (by intro r hr _; rw [List.mem_singleton] at hr; subst hr; exact hb.far hk) (by intro A hA; cases hA)
set_option maxHeartbeats 1000000 in
theorem peopleT (hk:Blk w q 94 (coreA K.G.c p)) (hb:BD lo p K S w) (h0:K.G.cars.length≤10000) (h1:K.G.waits.length≤10000) (hs:∀ a∈K.G.waits,okS K a) (hn:okN K) :
  Calls Tryz.prog 123 #[.pointer (some ⟨q,0,none⟩)] w fun e w'=>e=.returned (.bool (pfB K))∧Since w w':=by
 refine entH tab_ok (hold_kr hk hb) [.p 0 0] Tryz.func123 Tryz.ntmps123 rfl rfl ?_
 repeat' (first | refine gs_ ?_|((conv=>whnf); first | intro b | refine b3_ (fun h=>?_) (fun h=>?_)|refine And.intro ?_ ?_|refine callH (f:=34) (.i .i64 K.G.now) (fun w hH=>(Hold.ob hH (A:=bdO lo p K S false) 0 rfl).now) ?_|refine callS (f:=174) (.i .i64 (sp K.G.c.yi)) (spanT _) ?_|refine callN (f:=35) (ι:=NrA w.heap.size) (fun x=>.v (.slice x.1.2.1 K.G.waits.length x.1.2.2)) (fun x=>waitsO x.1.1 x.1.2.1 K.G.waits.length x.1.2.2 K.G.waits true) (fun w1 hH=>toNW ((Hold.ob hH (A:=bdO lo p K S false) 0 rfl).waits h1) hH.upd.size) (fun ws=>?_)|refine callH (f:=179) (.i .i64 (K.G.waits.countP (oldW K):Nat)) (fun w hH=>countW 180 _ _ (oldW K) w (Hold.ob hH (A:=waitsO ws.1.1 ws.1.2.1 K.G.waits.length ws.1.2.2 K.G.waits true) 1 rfl) rfl (by omega) (fun a ha w1 hs1=>pf1T K a _ _ w1 (keep_blk hs1 (hH.row 1 _ rfl rfl)) (keep_blk hs1 (hH.row 2 _ rfl rfl)) (hH.ne 1 2 _ _ rfl rfl rfl rfl (by decide)) (hs a ha) hn) (entC (by kernel_rfl))) ?_|refine callH (f:=179) (.i .i64 (K.G.waits.countP (oldW K):Nat)) (fun w hH=>countW 180 _ _ (oldW K) w (Hold.ob hH (A:=waitsO ws.1.1 ws.1.2.1 K.G.waits.length ws.1.2.2 K.G.waits true) 1 rfl) rfl (by omega) (fun a ha w1 hs1=>pf1T K a _ _ w1 (keep_blk hs1 (hH.row 2 _ rfl rfl)) (keep_blk hs1 (hH.row 1 _ rfl rfl)) (hH.ne 2 1 _ _ rfl rfl rfl rfl (by decide)) (hs a ha) hn) (entC (by kernel_rfl))) ?_|refine callN (f:=33) (ι:=NrA w.heap.size) (fun x=>.v (.slice x.1.2.1 K.G.cars.length x.1.2.2)) (fun x=>carsO x.1.1 x.1.2.1 K.G.cars.length x.1.2.2 K.G.cars true) (fun w1 hH=>toNC ((Hold.ob hH (A:=bdO lo p K S false) 0 rfl).cars h0) hH.upd.size) (fun cs=>?_)|refine callH (f:=181) (.i .i64 (K.G.cars.countP nrmC:Nat)) (fun w hH=>countC 182 nrmC w (Hold.ob hH (A:=carsO cs.1.1 cs.1.2.1 K.G.cars.length cs.1.2.2 K.G.cars true) 2 rfl) rfl (by omega) (fun x w1=>pf2T x w1) (entC (by kernel_rfl))) ?_|refine fin_s ?_))
 all_goals (simp only [den,pfB,h,decide_true,decide_false,Bool.true_or,Bool.false_or])
theorem opbi {X:Cx} {s:St} (hX:X.Ok) {o:Oper} {K:St→Prop} {t e:TypeId} {x:Operand} (v:SV) (ho:o.op=.buildSlice t 1 #[(0,x)]) (hx:evO x s.fr=some v)
  (h:nw s e [v] fun j s'=>put X.n o.dst (.s j 0 1 1) s' K)
  (ht:(match tyO t X.tab with | some y=>y.sl && Nat.beq y.el e | none=>false)=true:=by rfl) (hn:(match tyO e X.tab with | some y=>Nat.beq y.size 1 && !y.row | none=>false)=true:=by rfl) (h1:∀ m,(den m v).cells=#[den m v]:=by intro m; rfl) (hc:okL s.m.length [v]=true:=by rfl):OpVC X o s K:=by
 cases hy:tyO t X.tab with
 | none=>simp [hy] at ht
 | some y =>
  cases hz:tyO e X.tab with
  | none=>simp [hz] at hn
  | some z =>
   simp only [hy,hz,Bool.and_eq_true] at ht hn
   obtain ⟨d,i,T⟩:=(hX.tab _ _ hy).out
   obtain ⟨d',i',T'⟩:=(hX.tab _ _ hz).out
   have hel:=Nat.eq_of_beq_eq_true ht.2
   have hsz:=Nat.eq_of_beq_eq_true hn.1
   have hu:X.P.underlying t=some (.slice e):=by rw [T.un,T.sl ht.1,hel]
   refine opbs [v] ho hu T'.inf T'.zero (by rw [T'.size]; omega) (by rw [T'.size]; omega) (fun a hf=>?_) h hc
   have he:=(evO_of hf hx).2
   have:=Go.Great.fill_whole (s:=i'.size) (by rw [T'.size]; omega) [den s.m v] ((Array.range (1*i'.size)).map ((zeroV z).cells[· % (zeroV z).cells.size]!)) (by intro u hu; rw [List.mem_singleton] at hu; subst hu; rw [h1,T'.size,hsz]; rfl) (by simp)
   simpa [he,denL,h1] using this
def fullL (K:KV):Nat→List Int
 | 0=>[]
 | k+1=>if freeB K.G.c K.L (k:Int)=true then fullL K k else fullL K k++[(k:Int)]
theorem full_len (K:KV):∀ k,(fullL K k).length≤k
 | 0=>Nat.le_refl _
 | k+1=>by
  have:=full_len K k
  unfold fullL; split
  ·omega
  ·simp; omega
attribute [local irreducible] freeB
set_option maxHeartbeats 1000000 in
theorem fullT (hk:Blk w q 94 (coreA K.G.c p)) (hb:BD lo p K S w) (h1:K.L.length≤10000) :
  Calls Tryz.prog 125 #[.pointer (some ⟨q,0,none⟩)] w fun e w'=>∃ A' c',e=.returned (.slice A' (fullL K 8).length c')∧intE.At w.heap.size A' (fullL K 8).length c' (fullL K 8) w'∧Since w w':=by
 refine entH tab_ok (Hold.addObj (hold_kr hk hb) (rwO intE w.heap.size none 0 0 [] true) (Ek.nil _ _ _) (by intro _ g hg; cases hg) (by intro r _ _ hg; cases hg) (by intro A hA _ g hg hg2; cases hg2)) [.p 0 0] Tryz.func125 Tryz.ntmps125 rfl rfl ?_
 repeat' (first | refine gs_ ?_|((conv=>whnf); first | intro b | refine b3_ (fun h=>?_) (fun h=>?_)|refine callN (f:=53) (ι:=NrA w.heap.size) (fun x=>.v (.slice x.1.2.1 K.L.length x.1.2.2)) (fun x=>rwO leaE x.1.1 x.1.2.1 K.L.length x.1.2.2 K.L true) (fun w1 hH=>toN ((Hold.ob hH (A:=bdO lo p K S false) 0 rfl).leases h1) hH.upd.size) (fun ls=>?_)|refine fin_s ?_))
 conv=>whnf
 refine lp ⟨tab_ok⟩ (ι:={x:(Nat×Option Addr×Nat)×List Int // x.1.1≤8∧fullL K x.1.1=x.2}) (fun x=>match x with | ⟨((k,A3,c3),zs),_⟩=>⟨[(0,.p 0 0),(3,.v (.slice A3 zs.length c3)),(4,.v (.slice ls.1.2.1 K.L.length ls.1.2.2)),(11,.i .i64 (k:Int))],[⟨q,94,true,0,[],coreS K.G.c p,[],false⟩],[bdO lo p K S false,rwO intE w.heap.size A3 zs.length c3 zs true,rwO leaE ls.1.1 ls.1.2.1 K.L.length ls.1.2.2 K.L true]⟩) (fun x=>8 - x.1.1.1) ⟨((0,none,0),[]),Nat.zero_le _,rfl⟩ (wk ?_) ?_
 ·repeat' (first | exact trivial | rfl | ((conv=>whnf); refine And.intro ?_ ?_))
 rintro ⟨⟨⟨k,A3,c3⟩,zs⟩,hk8,hz⟩
 have hk8:k≤8:=hk8
 have hz:fullL K k=zs:=hz
 have hzl:zs.length≤k:=by rw [← hz]; exact full_len K k
 by_cases hlt:k < 8
 ·cases hf:freeB K.G.c K.L (k:Int) with
  | true =>
   have hz2:fullL K (k+1)=zs:=by unfold fullL; rw [if_pos hf,hz]
   repeat' (first | refine gs_ ?_|((conv=>whnf); first | intro b | refine bto ?_|refine bfo ?_|refine wr_i ?_|refine callH (f:=184) (.b true) (fun w hH=>by have:=freeT K.G.c (k:Int) w (Hold.ob hH (A:=rwO leaE ls.1.1 ls.1.2.1 K.L.length ls.1.2.2 K.L true) 2 rfl) rfl (by omega); rw [hf] at this; exact this) ?_|refine back ⟨((k+1,A3,c3),zs),by show k+1≤_; omega,hz2⟩ (wk ?_) ?_|refine fin_s ?_))
   all_goals first | (show 8 - (k+1) < 8 - k; omega)|skip
   all_goals (repeat' (first | exact trivial | rfl | ((conv=>whnf); refine And.intro ?_ ?_)))
  | false =>
   have hz2:fullL K (k+1)=zs++[(k:Int)]:=by unfold fullL; rw [if_neg (by rw [hf]; decide),hz]
   repeat' (first | refine gs_ ?_|((conv=>whnf); first | intro b | refine bto ?_|refine bfo ?_|refine wr_i ?_|refine callH (f:=184) (.b false) (fun w hH=>by have:=freeT K.G.c (k:Int) w (Hold.ob hH (A:=rwO leaE ls.1.1 ls.1.2.1 K.L.length ls.1.2.2 K.L true) 2 rfl) rfl (by omega); rw [hf] at this; exact this) ?_|refine opbi (e:=3) ⟨tab_ok⟩ (.i .i64 (k:Int)) (by rfl) (by rfl) ?_|refine opap 1 1 (e:=3) (lo:=w.heap.size) (size:=1) (bytes:=8) (z:=.int .i64 0) (A:=rwO intE w.heap.size A3 zs.length c3 zs true) (vals:=rowsOf intE.c zs) (cells:=intE.c (k:Int)) (zs:=rowsOf intE.c (zs++[(k:Int)])) (n2:=(zs++[(k:Int)]).length) (fun A' c'=>rwO intE w.heap.size A' (zs++[(k:Int)]).length c' (zs++[(k:Int)]) true) (by rfl) (by rfl) (by rfl) (by rfl) rfl rfl (fun w h=>h) (fun A' c' w h=>h) (fun _ _=>rfl) (by rfl) (by rfl) (by rfl) (by rfl) Tryz.underlying164 (by kernel_rfl) rfl (by decide) (by decide) (intE.one _) (by omega) (fun w hH=>hH.upd.size) (by simp) (by rw [rowsOf_append,rowsOf_one]) (fun A' c'=>?_)|refine back ⟨((k+1,A',c'),zs++[(k:Int)]),by show k+1≤_; omega,hz2⟩ (wk ?_) ?_|refine fin_s ?_))
   all_goals first | (show 8 - (k+1) < 8 - k; omega)|skip
   all_goals (repeat' (first | exact trivial | rfl | ((conv=>whnf); refine And.intro ?_ ?_)))
 ·obtain rfl:k=8:=by omega
  repeat' (first | refine gs_ ?_|((conv=>whnf); first | intro b | refine bto ?_|refine bfo ?_|refine wr_i ?_|refine fin fun w' hH=>?_|refine fin_s ?_))
  have hO:=Hold.ob hH (A:=rwO intE w.heap.size A3 zs.length c3 zs true) 1 rfl
  rw [hz]
  exact ⟨A3,c3,rfl,hO,hH.upd.since⟩
def canB (x:CarV):Bool:=idB x && !x.bl && !decide (x.lo > 0)
def nrL (f:Int) (ls:List CarV):Nat→Int×Int
 | 0=>(-1,0)
 | k+1=>match ls[k]? with
  | none=>nrL f ls k
  | some x=>if canB x=true∧((nrL f ls k).1 < 0∨fr x.un f < (nrL f ls k).2) then ((k:Int),fr x.un f) else nrL f ls k
def nearI (K:KV) (f:Int):Int:=(nrL f K.G.cars K.G.cars.length).1
attribute [local irreducible] idB fr
set_option maxHeartbeats 2000000 in
theorem nearT (hk:Blk w q 94 (coreA K.G.c p)) (hb:BD lo p K S w) (h1:K.G.cars.length≤10000) (h2:0 < K.G.cars.length) (f:Int) (hf:0≤f∧f≤63) (hok:∀ x∈K.G.cars,okT x) :
  Calls Tryz.prog 126 #[.pointer (some ⟨q,0,none⟩),.int .i64 f] w fun e w'=>e=.returned (.int .i64 (nearI K f))∧Since w w':=by
 refine entH tab_ok (hold_kr hk hb) [.p 0 0,.i .i64 f] Tryz.func126 Tryz.ntmps126 rfl rfl ?_
 repeat' (first | refine gs_ ?_|((conv=>whnf); first | intro b | refine b3_ (fun h=>?_) (fun h=>?_)|refine callN (f:=33) (ι:=NgA w.heap.size) (fun x=>.v (.slice (some ⟨x.1.2.1,0,none⟩) K.G.cars.length x.1.2.2)) (fun x=>carsO x.1.1 (some ⟨x.1.2.1,0,none⟩) K.G.cars.length x.1.2.2 K.G.cars true) (fun w1 hH=>toNCg h2 ((Hold.ob hH (A:=bdO lo p K S false) 0 rfl).cars h1) hH.upd.size) (fun cs=>?_)|refine fin_s ?_))
 conv=>whnf
 refine lp ⟨tab_ok⟩ (ι:={k:Nat // k≤K.G.cars.length}) (fun x=>match x with | ⟨k,_⟩=>⟨[(1,.i .i64 f),(5,.i .i64 (nrL f K.G.cars k).1),(6,.i .i64 (nrL f K.G.cars k).2),(14,.v (.slice (some ⟨cs.1.2.1,0,none⟩) K.G.cars.length cs.1.2.2)),(15,.i .i64 K.G.cars.length),(16,.i .i64 (k:Int))],[],[bdO lo p K S false,carsO cs.1.1 (some ⟨cs.1.2.1,0,none⟩) K.G.cars.length cs.1.2.2 K.G.cars true]⟩) (fun x=>K.G.cars.length - x.1) ⟨0,Nat.zero_le _⟩ (wk ?_) ?_
 ·repeat' (first | exact trivial | rfl | ((conv=>whnf); refine And.intro ?_ ?_))
 rintro ⟨k,hk9⟩
 by_cases hlt:k < K.G.cars.length
 ·obtain ⟨x,hx⟩:∃ x,K.G.cars[k]?=some x:=⟨_,List.getElem?_eq_getElem (by omega)⟩
  have hkx:=hok x (List.mem_of_getElem? hx)
  have hr:=hkx.2.1
  have hu:=hkx.2.2.2.2.1
  repeat' (first | refine gs_ ?_|((conv=>whnf); first | intro b2 | refine bto ?_|refine bfo ?_|refine wr_i ?_|refine opiv ⟨tab_ok⟩ (by rfl) (by rfl) (by rfl) (by rfl) (by rfl) (by rfl) ⟨by omega,by omega⟩ ?_|refine opix (g:=cs.1.2.1) (off:=0+k*15) (sCar x) (fun w hH=>car_at (Hold.ob hH (A:=carsO cs.1.1 (some ⟨cs.1.2.1,0,none⟩) K.G.cars.length cs.1.2.2 K.G.cars true) 1 rfl) hx) ⟨tab_ok⟩ (by rfl) (by rfl) (by show Addr.add ⟨_,0,none⟩ (k*15)=_; rw [Go.WideShapes.add_plain]) ?_|refine callS (f:=106) (.b (idB x)) (fun w=>idlT x w hr.1 hr.2.1 hr.2.2) ?_|refine callS (f:=185) (.i .i64 (fr x.un f)) (farT _ _ (by omega) (by omega)) ?_|refine back ⟨k+1,by omega⟩ (wk ?_) ?_|refine b3_ (fun h=>?_) (fun h=>?_)|refine fin_s ?_))
  all_goals first | (show K.G.cars.length - (k+1) < K.G.cars.length - k; omega)|skip
  all_goals (repeat' (first | exact trivial | rfl | ((conv=>whnf); refine And.intro ?_ ?_)))
  all_goals (simp only [den,nrL,hx,canB])
  all_goals (simp [*]; done)
 ·repeat' (first | refine gs_ ?_|((conv=>whnf); first | intro b2 | refine bto ?_|refine bfo ?_|refine wr_i ?_|refine fin_s ?_))
  obtain rfl:k=K.G.cars.length:=by omega
  rfl
end
end Co
namespace Co
open Go.RowKit Ba Mem En Go.Proofs.YtpiiblkiddcgcaaGreat.Ty Mo Go.Proofs.YtpiiblkiddcgcaaGreat.St
open Gr (GrV GO CarsAt WaitsAt carL waitL waitA WaitV pairO newG okT okW waitsO wait_at takeR takeG)
open Qu (QO askE intE askC btw putE putL dropL atS oM firstA atF)
open Le (TO hasL ofL setL setE endL zeroL)
open Fl (leaE mayB mayT freeB freeT)
open Ri (MsgV msgC trV tripT)
open Et (carsO car_at)
open Tm (cl)
open Tw (addT)
set_option maxRecDepth 100000
attribute [local irreducible] Go.Calls
structure KH (K:KV):Prop where
 okc:∀ x∈K.G.cars,okT x
 okw:∀ a∈K.G.waits,okW a
 oks:∀ a∈K.G.waits,okS K a
 now:okN K
 c0:0 < K.G.cars.length
 c1:K.G.cars.length≤8
 lw:K.G.waits.length≤10000
 lq:K.Q.length≤1000
 okq:∀ a∈K.Q,0≤a.fm∧a.fm≤63
 ll:K.L.length≤10000
 okl:∀ l∈K.L,inC K l
theorem take_c (G:GrV) (i f:Int):(takeR G i f).1.c=G.c:=by unfold takeR; split; exact one_c _ _ _; rfl
def grL (K:KV) (a:AskV):LeaseV:=⟨a.se,a.fl,a.fm,a.to,a.ma,nearI K a.fm,1,cl (cl K.G.now+cl (trV K.G.c)),0,K.G.now⟩
def grA (K:KV):Option AskV:=if pfB K=true then none else if (atF K.Q (fullL K 8)).isSome=true then (if nearI K (firstA K.Q (fullL K 8)).fm < 0 then none else some (firstA K.Q (fullL K 8))) else none
def grK (K:KV) (a:AskV):KV:=⟨(takeR K.G (nearI K a.fm) a.fm).1,dropL K.Q a.se,Le.putL K.G.c K.L (grL K a)⟩
def grantK (K:KV):KV:=match grA K with | none=>K | some a=>grK K a
def grantE (K:KV):List EvV:=match grA K with | none=>[]|some a=>[⟨a.se,⟨4,nearI K a.fm,0,0⟩⟩]
attribute [local irreducible] pfB fullL atF firstA nearI takeR dropL Le.putL trV cl
theorem fin_k0 {lo n:Nat} {p:Pt} {K:KV} {S S1:List Nat} {w:World} {fr:List (Nat×SV)} {m:List Row} {obr:List Asr} {st:St} (hst:st=⟨fr,m,bdO lo p K S1 true::obr⟩) :
  Fin ⟨Tryz.prog,tab,S,w,n,[]⟩ (fun e w'=>∃ (S':List Nat) (x:Nr),e=.returned (.slice x.2.1 0 x.2.2)∧BD lo p K S' w'∧(rwO evE x.1 x.2.1 0 x.2.2 [] true).st w'∧Upd S w w'∧(∀ g∈S',g∈S∨w.heap.size≤g)∧∀ g∈blkOf x.2.1,w.heap.size≤g∧g∉S') (.v (.slice none 0 0)) st:=by
 subst hst
 exact fin fun w' hH=>⟨S1,(0,none,0),rfl,hH.obj _ (List.mem_cons_self ..),Ek.nil _ _ _,hH.upd,hH.own _ (List.mem_cons_self ..) rfl,by intro g hg; cases hg⟩
section
variable {q lo:Nat} {p:Pt} {K:KV} {S:List Nat} {w:World}
theorem first_mem {ls:List AskV} {zs:List Int} (h:(atF ls zs).isSome=true):firstA ls zs∈ls:=by
 cases hk:atF ls zs with
 | none=>rw [hk] at h; cases h
 | some k =>
  obtain ⟨hl,_⟩:=Qu.atF_some hk
  have:firstA ls zs=ls[k]:=by unfold firstA; rw [hk]; simp [List.getD,hl]
  rw [this]; exact List.getElem_mem hl
set_option maxHeartbeats 4000000 in
theorem grantT (hk:Blk w q 94 (coreA K.G.c p)) (hb:BD lo p K S w) (H:KH K) :
  Calls Tryz.prog 57 #[.pointer (some ⟨q,0,none⟩)] w fun e w'=>∃ (S':List Nat) (x:Nr),e=.returned (.slice x.2.1 (grantE K).length x.2.2)∧BD lo p (grantK K) S' w'∧(rwO evE x.1 x.2.1 (grantE K).length x.2.2 (grantE K) true).st w'∧Upd S w w'∧(∀ g∈S',g∈S∨w.heap.size≤g)∧∀ g∈blkOf x.2.1,w.heap.size≤g∧g∉S':=by
 have hrg:∀ x∈K.G.cars,R x.sp∧R x.su∧R x.sd:=fun x hx=>(H.okc x hx).2.1
 cases hp:pfB K with
 | true =>
  have e1:grA K=none:=by unfold grA; rw [if_pos hp]
  rw [show grantK K=K by unfold grantK; rw [e1],show grantE K=[] by unfold grantE; rw [e1]]
  refine entH tab_ok (hold_k hk hb) [.p 0 0] Tryz.func57 Tryz.ntmps57 rfl rfl ?_
  repeat' (first | refine gs_ ?_|((conv=>whnf); first | intro b | refine callH (f:=123) (.b true) (fun w hH=>by have:=peopleT (hH.row 0 _ rfl rfl) (Hold.ob hH (A:=bdO lo p K S true) 0 rfl) (by have:=H.c1; omega) H.lw H.oks H.now; rw [hp] at this; exact this) ?_|refine fin_k0 (by rfl)|refine fin_s ?_))
 | false =>
  cases hf:(atF K.Q (fullL K 8)).isSome with
  | false =>
   have e1:grA K=none:=by unfold grA; rw [if_neg (by rw [hp]; decide),if_neg (by rw [hf]; decide)]
   rw [show grantK K=K by unfold grantK; rw [e1],show grantE K=[] by unfold grantE; rw [e1]]
   refine entH tab_ok (hold_k hk hb) [.p 0 0] Tryz.func57 Tryz.ntmps57 rfl rfl ?_
   repeat' (first | refine gs_ ?_|((conv=>whnf); first | intro b | refine And.intro ?_ ?_|refine callH (f:=123) (.b false) (fun w hH=>by have:=peopleT (hH.row 0 _ rfl rfl) (Hold.ob hH (A:=bdO lo p K S true) 0 rfl) (by have:=H.c1; omega) H.lw H.oks H.now; rw [hp] at this; exact this) ?_|refine callN (f:=125) (ι:=NrA w.heap.size) (fun x=>.v (.slice x.1.2.1 (fullL K 8).length x.1.2.2)) (fun x=>rwO intE x.1.1 x.1.2.1 (fullL K 8).length x.1.2.2 (fullL K 8) true) (fun w1 hH=>toN (fullT (hH.row 0 _ rfl rfl) (Hold.ob hH (A:=bdO lo p K S true) 0 rfl) H.ll) hH.upd.size) (fun zs=>?_)|refine callH (f:=124) (.t [.a [.i .i64 (firstA K.Q (fullL K 8)).se,.i .i64 (firstA K.Q (fullL K 8)).fl,.i .i64 (firstA K.Q (fullL K 8)).fm,.i .i64 (firstA K.Q (fullL K 8)).to,.i .i64 (firstA K.Q (fullL K 8)).ma],.b false]) (fun w hH=>by have:=(Hold.ob hH (A:=bdO lo p K S true) 0 rfl).first (by have:=H.lq; omega) (Hold.ob hH (A:=rwO intE zs.1.1 zs.1.2.1 (fullL K 8).length zs.1.2.2 (fullL K 8) true) 1 rfl) rfl (by have:=full_len K 8; omega); rw [hf] at this; exact this) ?_|refine fin_k0 (by rfl)|refine fin_s ?_))
  | true =>
   have hmem:=first_mem hf
   generalize ha:firstA K.Q (fullL K 8)=a at *
   have hfm:=H.okq a hmem
   by_cases hn:nearI K a.fm < 0
   ·have e1:grA K=none:=by unfold grA; rw [if_neg (by rw [hp]; decide),if_pos hf,ha,if_pos hn]
    rw [show grantK K=K by unfold grantK; rw [e1],show grantE K=[] by unfold grantE; rw [e1]]
    refine entH tab_ok (hold_k hk hb) [.p 0 0] Tryz.func57 Tryz.ntmps57 rfl rfl ?_
    repeat' (first | refine gs_ ?_|((conv=>whnf); first | intro b | refine bto ?_|refine bfo ?_|refine And.intro ?_ ?_|refine callH (f:=123) (.b false) (fun w hH=>by have:=peopleT (hH.row 0 _ rfl rfl) (Hold.ob hH (A:=bdO lo p K S true) 0 rfl) (by have:=H.c1; omega) H.lw H.oks H.now; rw [hp] at this; exact this) ?_|refine callN (f:=125) (ι:=NrA w.heap.size) (fun x=>.v (.slice x.1.2.1 (fullL K 8).length x.1.2.2)) (fun x=>rwO intE x.1.1 x.1.2.1 (fullL K 8).length x.1.2.2 (fullL K 8) true) (fun w1 hH=>toN (fullT (hH.row 0 _ rfl rfl) (Hold.ob hH (A:=bdO lo p K S true) 0 rfl) H.ll) hH.upd.size) (fun zs=>?_)|refine callH (f:=124) (.t [.a [.i .i64 a.se,.i .i64 a.fl,.i .i64 a.fm,.i .i64 a.to,.i .i64 a.ma],.b true]) (fun w hH=>by have:=(Hold.ob hH (A:=bdO lo p K S true) 0 rfl).first (by have:=H.lq; omega) (Hold.ob hH (A:=rwO intE zs.1.1 zs.1.2.1 (fullL K 8).length zs.1.2.2 (fullL K 8) true) 1 rfl) rfl (by have:=full_len K 8; omega); rw [hf,ha] at this; exact this) ?_|refine callH (f:=126) (.i .i64 (nearI K a.fm)) (fun w hH=>nearT (hH.row 0 _ rfl rfl) (Hold.ob hH (A:=bdO lo p K S true) 0 rfl) (by have:=H.c1; omega) H.c0 a.fm hfm H.okc) ?_|refine fin_k0 (by rfl)|refine fin_s ?_))
   ·have e1:grA K=some a:=by unfold grA; rw [if_neg (by rw [hp]; decide),if_pos hf,ha,if_neg hn]
    rw [show grantK K=grK K a by unfold grantK; rw [e1],show grantE K=[⟨a.se,⟨4,nearI K a.fm,0,0⟩⟩] by unfold grantE; rw [e1]]
    unfold grK
    refine entH tab_ok (hold_k hk hb) [.p 0 0] Tryz.func57 Tryz.ntmps57 rfl rfl ?_
    repeat' (first | refine gs_ ?_|((conv=>whnf); first | intro b | refine bto ?_|refine bfo ?_|refine And.intro ?_ ?_|refine callH (f:=123) (.b false) (fun w hH=>by have:=peopleT (hH.row 0 _ rfl rfl) (Hold.ob hH (A:=bdO lo p K S true) 0 rfl) (by have:=H.c1; omega) H.lw H.oks H.now; rw [hp] at this; exact this) ?_|refine callN (f:=125) (ι:=NrA w.heap.size) (fun x=>.v (.slice x.1.2.1 (fullL K 8).length x.1.2.2)) (fun x=>rwO intE x.1.1 x.1.2.1 (fullL K 8).length x.1.2.2 (fullL K 8) true) (fun w1 hH=>toN (fullT (hH.row 0 _ rfl rfl) (Hold.ob hH (A:=bdO lo p K S true) 0 rfl) H.ll) hH.upd.size) (fun zs=>?_)|refine callH (f:=124) (.t [.a [.i .i64 a.se,.i .i64 a.fl,.i .i64 a.fm,.i .i64 a.to,.i .i64 a.ma],.b true]) (fun w hH=>by have:=(Hold.ob hH (A:=bdO lo p K S true) 0 rfl).first (by have:=H.lq; omega) (Hold.ob hH (A:=rwO intE zs.1.1 zs.1.2.1 (fullL K 8).length zs.1.2.2 (fullL K 8) true) 1 rfl) rfl (by have:=full_len K 8; omega); rw [hf,ha] at this; exact this) ?_|refine callH (f:=126) (.i .i64 (nearI K a.fm)) (fun w hH=>nearT (hH.row 0 _ rfl rfl) (Hold.ob hH (A:=bdO lo p K S true) 0 rfl) (by have:=H.c1; omega) H.c0 a.fm hfm H.okc) ?_|refine callH (f:=34) (.i .i64 K.G.now) (fun w hH=>(Hold.ob hH (A:=bdO lo p K S true) 0 rfl).now) ?_|refine callO (f:=41) (A:=bdO lo p K S true) 0 (fun _=>.i .i64 (takeR K.G (nearI K a.fm) a.fm).2) (fun S'=>bdO lo p ⟨(takeR K.G (nearI K a.fm) a.fm).1,K.Q,K.L⟩ S' true) (fun w hH hA=>BD.grp hA (take_c _ _ _) (fun S1 hq=>takeG hq hrg (nearI K a.fm) a.fm)) (fun S1=>?_)|refine callO (f:=127) (A:=bdO lo p ⟨(takeR K.G (nearI K a.fm) a.fm).1,K.Q,K.L⟩ S1 true) 0 (fun _=>.b (atS K.Q a.se).isSome) (fun S'=>bdO lo p ⟨(takeR K.G (nearI K a.fm) a.fm).1,dropL K.Q a.se,K.L⟩ S' true) (fun w hH hA=>BD.que hA (fun S1 hq=>Qu.dropQ hq (by have:=H.lq; show K.Q.length≤_; omega) a.se)) (fun S2=>?_)|refine callS (f:=129) (.i .i64 (trV K.G.c)) (tripT K.G.c) ?_|refine callS (f:=26) (.i .i64 (cl (cl _+cl _))) (addT _ _) ?_|refine callO (f:=128) (A:=bdO lo p ⟨(takeR K.G (nearI K a.fm) a.fm).1,dropL K.Q a.se,K.L⟩ S2 true) 0 (fun _=>.i .i64 (Le.putE K.G.c K.L (grL K a))) (fun S'=>bdO lo p ⟨(takeR K.G (nearI K a.fm) a.fm).1,dropL K.Q a.se,Le.putL K.G.c K.L (grL K a)⟩ S' true) (fun w hH hA=>by have:=BD.tab hA (fun S1 hq=>Le.putT hq H.ll (grL K a)); simp only [take_c] at this; exact this) (fun S3=>?_)|refine opb1 (e:=48) ⟨tab_ok⟩ [.i .i64 4,.i .i64 (nearI K a.fm),.i .i64 0,.i .i64 0] (by rfl) (by rfl) ?_|refine callN (f:=56) (ι:=NrA w.heap.size) (fun x=>.v (.slice x.1.2.1 1 x.1.2.2)) (fun x=>rwO evE x.1.1 x.1.2.1 1 x.1.2.2 (evs a.se [⟨4,nearI K a.fm,0,0⟩]) true) (fun w1 hH=>toN (eventsT (lo:=0) (ms:=[⟨4,nearI K a.fm,0,0⟩]) a.se w1 (Ek.of_blk (hH.row 2 _ rfl rfl) (Nat.zero_le _) (by decide)) rfl (by decide)) hH.upd.size) (fun es=>?_)|refine fin_ke (k:=1) (by rfl) (by rfl) (by rfl) es.2 | refine fin_s ?_))
end
end Co
namespace En
open Go.RowKit Ba Mem
theorem fv_run {X:Cx} (hX:X.Ok) {m:List Row} {fr:List (Nat×SV)} {o:Oper} {t:TypeId} {x:Operand} {k:Nat} {ad:Addr} {y:Ty} {q:Nat×Nat×Bool} (ho:o.op=.fieldAddr t x k) (hx:evO x fr=some (.v (.pointer (some ad)))) (hy:tyO t X.tab=some y) (hq:y.flds[k]?=some q) (a:Act) (hf:FrOk m a.tmps fr) (w:World) :
  (execOp a.eval o).run X.P w=.ok (.value (.pointer (some (ad.add q.1)))) w:=by
 obtain ⟨d,i,T⟩:=(hX.tab _ _ hy).out
 obtain ⟨fs,rfl,hfc⟩:=T.st k q hq
 obtain ⟨f,i2,d2,f1,f2,f3,f4,f5,f6,f7,f8⟩:=(fld_of hfc).2 k q hq
 have f1':fs[k]?=some f:=by simpa using f1
 have h2:=(evO_of hf hx).2
 unfold execOp
 simp only [ho,h2,den,Instr.fieldAt,Instr.sureAddr,Sem.run_bind,run_underlying T.un,Result.andThen_ok,Sem.run_pure,f1',fieldPlace,sizeOf,typeInfo]
 simp only [run_program,f3,Result.andThen_ok,Sem.run_pure,f5,if_neg f6,f2]
theorem opfv {X:Cx} {s:St} (hX:X.Ok) {o:Oper} {K:St→Prop} {t:TypeId} {x:Operand} {k:Nat} {ad:Addr} {y:Ty} {q:Nat×Nat×Bool} (ho:o.op=.fieldAddr t x k) (hx:evO x s.fr=some (.v (.pointer (some ad)))) (hy:tyO t X.tab=some y) (hq:y.flds[k]?=some q) (h:put X.n o.dst (.v (.pointer (some (ad.add q.1)))) s K):OpVC X o s K :=
 opq (.v (.pointer (some (ad.add q.1)))) (fun a w hf _=>fv_run hX ho hx hy hq a hf w) h rfl
theorem pufv {X:Cx} {s:St} (hX:X.Ok) {o:Oper} {K:SV→Prop} {t:TypeId} {x:Operand} {k:Nat} {ad:Addr} {y:Ty} {q:Nat×Nat×Bool} (ho:o.op=.fieldAddr t x k) (hx:evO x s.fr=some (.v (.pointer (some ad)))) (hy:tyO t X.tab=some y) (hq:y.flds[k]?=some q) (h:K (.v (.pointer (some (ad.add q.1))))):PuVC X o s K :=
 ⟨⟨.v (.pointer (some (ad.add q.1))),rfl,fun a hf w=>fv_run hX ho hx hy hq a hf w,h⟩⟩
theorem rng_sub {w:World} {g off i n:Nat} {cs l:List Value} (h:w.rangeAt g off cs) (hl:(cs.drop i).take n=l):w.rangeAt g (off+i) l:=fun j v hj=>by
 subst hl
 have hjn:j < n:=by
  have:=(List.getElem?_eq_some_iff.1 hj).1
  rw [List.length_take] at this; omega
 rw [List.getElem?_take,if_pos hjn,List.getElem?_drop] at hj
 have:=h (i+j) v hj
 rw [show off+i+j=off+(i+j) by omega]; exact this
theorem wkd {X:Cx} {s s':St} (hfr:frW s s'.m s'.fr) (hm:s'.m=s.m.take s'.m.length:=by rfl) (hok:rowsOk s'.m.length s'.m=true:=by rfl) (hob:s'.ob=s.ob.take s'.ob.length:=by rfl):Wk X s s':=by
 refine ⟨fun a w hR=>?_⟩
 have h1:=(wk (X:=X) (s:=s) (s':=⟨s'.fr,s'.m,s.ob⟩) hfr hm hok rfl).out a w hR
 have hs:∀ B∈s'.ob,B∈s.ob:=fun B hB=>by rw [hob] at hB; exact List.mem_of_mem_take hB
 have H:=h1.h
 exact ⟨h1.ds,h1.sz,h1.fr,H.upd,H.row,H.wf,H.ne,fun B hB=>H.obj B (hs B hB),fun B hB=>H.far B (hs B hB),fun B hB=>H.own B (hs B hB),by rw [hob]; exact List.Pairwise.sublist (List.take_sublist _ _) H.dis⟩
section
variable {X:Cx} {s:St} {o:Oper} {t:TypeId}
theorem run_b0 {P:Program} (w:World) (t e:TypeId) (ie:TypeInfo) (hu:P.underlying t=some (.slice e)) (hie:P.info? e=some ie):(Instr.buildSlice t 0 #[]).run P w=.ok (.slice (some ⟨w.heap.size,0,none⟩) 0 0) (w.alloc (.cells #[] e)):=by
 have e:(Array.map (fun _:Nat=>(default:Value)) (Array.range 0))=#[]:=by simp
 simp [Instr.buildSlice,run_underlying hu,sizeOf,typeInfo,hie,Instr.fill,newRow,e]
theorem opb0 {K:St→Prop} {α:Type} (E:Ek α) (ho:o.op=.buildSlice t 0 #[]) (hu:X.P.underlying t=some (.slice E.t)) (hie:(X.P.info? E.t).isSome=true)
  (h:∀ g:Nat,appO s.ob (rwO E X.w0.heap.size (some ⟨g,0,none⟩) 0 0 [] true) fun ob=>put X.n o.dst (.v (.slice (some ⟨g,0,none⟩) 0 0)) ⟨s.fr,s.m,ob⟩ K):OpVC X o s K:=⟨fun a w Q hR=>by
 obtain ⟨ie,hie⟩:=Option.isSome_iff_exists.1 hie
 have hst:(rwO E X.w0.heap.size (some ⟨w.heap.size,0,none⟩) 0 0 [] true).st (w.alloc (.cells #[] E.t)) :=
  ⟨by simp [rowsOf],.inr ⟨w.heap.size,0,#[],rfl,hR.h.upd.size,Blk.new _ _ _,Nat.le_refl _,by unfold maxLen; omega,by simp,by simp [rowsOf]⟩⟩
 have hH:=hR.h.obj_new (B:=rwO E X.w0.heap.size (some ⟨w.heap.size,0,none⟩) 0 0 [] true) hst ((Since.refl w).alloc _) (by intro g hg; simp only [rwO,blkOf,List.mem_singleton] at hg; omega)
 obtain ⟨s',r1,r2,r3,r4⟩:=put_of (a:=a) (s:=⟨s.fr,s.m,s.ob++[rwO E X.w0.heap.size (some ⟨w.heap.size,0,none⟩) 0 0 [] true]⟩) (v:=.v (.slice (some ⟨w.heap.size,0,none⟩) 0 0)) hR.ds hR.sz hR.fr hH rfl (appO_of (h w.heap.size))
 unfold Oper.wp execOp
 simp only [ho,Array.map_empty,Sem.run_bind,run_b0 w t E.t ie hu hie,Result.andThen_ok]
 exact ⟨s',r1,by rw [r2]; exact Ext.refl _,r4⟩⟩
end
section
variable {X:Cx} {m:List Row} {ob:List Asr} {w w':World} {s:St}
theorem Hold.perm {ob':List Asr} (h:Hold X m ob w) (p:ob.Perm ob'):Hold X m ob' w :=
 ⟨h.upd,h.row,h.wf,h.ne,fun A hA=>h.obj A (p.symm.subset hA),fun A hA=>h.far A (p.symm.subset hA),fun A hA=>h.own A (p.symm.subset hA),h.dis.perm p fun {x y} hxy=>DisR.symm (A:=x) (B:=y) hxy⟩
theorem call_hold {f:FuncId} {vs:List SV} {K:SV→St→Prop} (m':List Row) (ob':List Asr) (hE:Ext s.m m') (hH:∀ w,Hold X s.m s.ob w→Hold X m' ob' w) (hv:denL m' vs=denL s.m vs) (h:CallVC X f vs ⟨s.fr,m',ob'⟩ K):CallVC X f vs s K:=by
 refine ⟨h.out.1,fun w hh=>?_⟩
 have:=h.out.2 w (hH w hh)
 rw [show denL (St.m ⟨s.fr,m',ob'⟩) vs=denL s.m vs from hv] at this
 refine this.mono ?_
 rintro e w' ⟨v,m2,ob2,h1,h2,h3,h4,h5⟩
 exact ⟨v,m2,ob2,h1,h2,hE.trans h3,h4,h5⟩
end
section
variable {X:Cx} {s:St} {o:Oper}
end
section
variable {X:Cx} {s:St}
theorem sm_know {c:Code} {K:Exit→St→Prop} {p:Prop} (h:∀ w,Hold X s.m s.ob w→p) (k:p→Sm X c s K):Sm X c s K:=⟨fun a w hR=>(k (h w hR.h)).out a w hR⟩
theorem op_know {o:Oper} {K:St→Prop} {p:Prop} (h:∀ w,Hold X s.m s.ob w→p) (k:p→OpVC X o s K):OpVC X o s K:=⟨fun a w Q hR=>(k (h w hR.h)).out a w Q hR⟩
end
theorem Hold.sub {X:Cx} {m:List Row} {ob ob':List Asr} {w:World} (h:Hold X m ob w) (p:ob'.Sublist ob):Hold X m ob' w :=
 ⟨h.upd,h.row,h.wf,h.ne,fun A hA=>h.obj A (p.subset hA),fun A hA=>h.far A (p.subset hA),fun A hA=>h.own A (p.subset hA),h.dis.sublist p⟩
theorem wkh {X:Cx} {s s':St} (ob':List Asr) (hH:∀ w,Hold X s.m s.ob w→Hold X s.m ob' w) (h:Wk X ⟨s.fr,s.m,ob'⟩ s'):Wk X s s':=⟨fun a w hR=>h.out a w ⟨hR.ds,hR.sz,hR.fr,hH w hR.h⟩⟩
theorem sm_meet {X:Cx} {s:St} {ι:Type} (I:ι→St) {c:Code} {K:Exit→St→Prop} (h:Sm X c s (mtK X I K)) (hr:∀ x,K .normal (I x)):Sm X c s K:=⟨fun a w hR=>Code.wp_mono (fun e a' w' hq=>by
 cases e with
 | normal =>
  obtain ⟨s',r',hb⟩:=hq
  obtain ⟨y,hw⟩:=hb.out
  exact ⟨I y,hw.out a' w' r',hr y⟩
 | exit id=>exact hq
 | ret=>exact hq
 | _=>exact hq.elim) (h.out a w hR)⟩
theorem hob {X:Cx} {m:List Row} {ob:List Asr} {w:World} (h:Hold X m ob w) {A:Asr} (i:Nat) (hA:ob[i]?=some A):A.st w:=h.obj A (List.mem_of_getElem? hA)
end En
namespace Co
open Go.RowKit Ba Mem En Go.Proofs.YtpiiblkiddcgcaaGreat.Ty Mo Go.Proofs.YtpiiblkiddcgcaaGreat.St
open Gr (GrV GO CarsAt WaitsAt carL waitL waitA WaitV pairO newG okT okW waitsO wait_at tickG tickP tickGT)
open Qu (QO askE intE askC)
open Le (TO)
open Fl (leaE)
open Ri (MsgV msgC tickV)
open Et (carsO car_at)
set_option maxRecDepth 100000
attribute [local irreducible] Go.Calls
abbrev NrP (n0 n:Nat):={x:Nr // n0≤x.1∧(0 < n→∃ g,x.2.1=some ⟨g,0,none⟩)}
theorem toNp {P:Program} {F:FuncId} {args:Array Value} {w1:World} {n0 n:Nat} {α:Type} {E:Ek α} {ls:List α} (h:Calls P F args w1 fun e w'=>∃ A' c',e=.returned (.slice A' n c')∧E.At w1.heap.size A' n c' ls w'∧Since w1 w') (h0:n0≤w1.heap.size) :
  Calls P F args w1 fun e w'=>∃ x:NrP n0 n,e=.returned (.slice x.1.2.1 n x.1.2.2)∧(rwO E x.1.1 x.1.2.1 n x.1.2.2 ls true).st w'∧Since w1 w'∧∀ g∈(rwO E x.1.1 x.1.2.1 n x.1.2.2 ls true).F,w1.heap.size≤g:=by
 refine h.mono ?_
 rintro e w' ⟨A',c',rfl,hO,hs⟩
 exact ⟨⟨(w1.heap.size,A',c'),h0,fun hn=>own_addr hO hn⟩,rfl,hO,hs,own_low hO⟩
def stepR (K:KV) (l:LeaseV):LeaseV×Option MsgV×Bool:=tickV K.G.c l (carAt K l) K.G.now
def stepK (x:KV×List EvV) (l:LeaseV):KV×List EvV:=(setK x.1 (stepR x.1 l).1 (stepR x.1 l).2.2,x.2++evs (stepR x.1 l).1.se (stepR x.1 l).2.1.toList)
def tkK1 (K:KV):KV:={ K with G:=tickG K.G }
def foldK (K:KV) (k:Nat):KV×List EvV:=(K.L.take k).foldl stepK (tkK1 K,[])
theorem fold_step {K:KV} {k:Nat} {l:LeaseV} (h:K.L[k]?=some l):foldK K (k+1)=stepK (foldK K k) l:=by
 obtain ⟨hk,rfl⟩:=List.getElem?_eq_some_iff.1 h
 unfold foldK
 rw [List.take_succ_eq_append_getElem hk,List.foldl_append]; rfl
def tickK (K:KV):KV:=grantK (foldK K K.L.length).1
def tickE (K:KV):List EvV:=(foldK K K.L.length).2++grantE (foldK K K.L.length).1
theorem step_c (x:KV×List EvV) (l:LeaseV):(stepK x l).1.G.c=x.1.G.c:=setK_c _ _ _
theorem fold_c (K:KV) (ls:List LeaseV):∀ x:KV×List EvV,(ls.foldl stepK x).1.G.c=x.1.G.c:=by
 induction ls with
 | nil=>intro x; rfl
 | cons l r ih=>intro x; rw [List.foldl_cons,ih,step_c]
theorem tkK1_c (K:KV):(tkK1 K).G.c=K.G.c:=rfl
theorem foldK_c (K:KV) (k:Nat):(foldK K k).1.G.c=K.G.c:=fold_c K _ _
section
variable {q lo:Nat} {p:Pt} {K:KV} {S:List Nat} {w:World}
theorem BD.tick (h:BD lo p K S w) (H:KH K) {n0:Nat} (h0:n0≤w.heap.size):Calls Tryz.prog 8 #[.pointer (some ⟨p.g,0,none⟩)] w fun e w'=>∃ x:List Nat×NrA n0,e=.returned (.slice x.2.1.2.1 (tickP K.G).2.2.length x.2.1.2.2)∧(bdO lo p (tkK1 K) x.1 true).st w'∧(waitsO x.2.1.1 x.2.1.2.1 (tickP K.G).2.2.length x.2.1.2.2 (tickP K.G).2.2 true).st w'∧Upd S w w'∧(∀ g∈x.1,g∈S∨w.heap.size≤g)∧∀ g∈blkOf x.2.1.2.1,w.heap.size≤g∧g∉x.1:=by
 obtain ⟨S1,S2,S3,rfl,h1,h2,h3,d1,d2,d3⟩:=h
 refine (tickGT h1 (by have:=H.c1; omega) H.lw H.okc H.okw).mono ?_
 rintro e w' ⟨A',c',rfl,g1,g2,g3⟩
 have hlt:∀ g∈S1++(S2++S3),g < w.heap.size:=fun g hg=>by
  rcases List.mem_append.1 hg with hg | hg
  ·exact h1.lt g hg
  rcases List.mem_append.1 hg with hg | hg
  ·exact h2.lt g hg
  ·exact h3.lt g hg
 refine ⟨(S1++(S2++S3),⟨(w.heap.size,A',c'),h0⟩),rfl,⟨S1,S2,S3,rfl,g2, ?_, ?_,d1,d2,d3⟩,g1,g3.mono (fun k hk _=>List.mem_append.2 (.inl hk)),fun g hg=>.inl hg,fun g hg=>⟨own_low g1 g hg,fun hm=>?_⟩⟩
 ·exact h2.upd g3 (fun g hg hg1=>d1 g hg1 hg)
 ·exact h3.upd g3 (fun g hg hg1=>d2 g hg1 hg)
 ·have:=hlt g hm; have:=own_low g1 g hg; omega
theorem grantE_len (K:KV):(grantE K).length≤1:=by unfold grantE; split <;> simp
attribute [local irreducible] stepR setK grantK grantE tickG tickP evs
set_option maxHeartbeats 8000000 in
theorem tickT (hk:Blk w q 94 (coreA K.G.c p)) (hb:BD lo p K S w) (H:KH K) (HF:∀ k,k≤K.L.length→KH (foldK K k).1) (hin:∀ k,∀ l∈K.L,k≤K.L.length→inC (foldK K k).1 l) (hev:∀ k,k≤K.L.length→(foldK K k).2.length≤k) :
  Calls Tryz.prog 16 #[.pointer (some ⟨q,0,none⟩)] w fun e w'=>∃ (S':List Nat) (x y:Nr),e=.returned (.tuple #[.slice x.2.1 (tickE K).length x.2.2,.slice y.2.1 (tickP K.G).2.2.length y.2.2])∧BD lo p (tickK K) S' w'∧(rwO evE x.1 x.2.1 (tickE K).length x.2.2 (tickE K) true).st w'∧(waitsO y.1 y.2.1 (tickP K.G).2.2.length y.2.2 (tickP K.G).2.2 true).st w'∧Upd S w w'∧(∀ g∈S',g∈S∨w.heap.size≤g)∧(∀ g∈blkOf x.2.1,w.heap.size≤g∧g∉S')∧∀ g∈blkOf y.2.1,w.heap.size≤g∧g∉S':=by
 refine entH tab_ok (Hold.addObj (hold_k hk hb) (rwO evE w.heap.size none 0 0 [] true) (Ek.nil _ _ _) (by intro _ g hg; cases hg) (by intro r _ _ hg; cases hg) (by intro A hA _ g hg hg2; cases hg2)) [.p 0 0] Tryz.func16 Tryz.ntmps16 rfl rfl ?_
 repeat' (first | refine gs_ ?_|((conv=>whnf); first | intro b | refine callON (f:=8) (A:=bdO lo p K S true) 0 (ι:=List Nat×NrA w.heap.size) (fun x=>.v (.slice x.2.1.2.1 (tickP K.G).2.2.length x.2.1.2.2)) (fun x=>bdO lo p (tkK1 K) x.1 true) (fun x=>waitsO x.2.1.1 x.2.1.2.1 (tickP K.G).2.2.length x.2.1.2.2 (tickP K.G).2.2 true) (fun w1 hH hA=>BD.tick hA H hH.upd.size) (fun sv=>?_)|refine callN (f:=53) (ι:=NrP w.heap.size K.L.length) (fun x=>.v (.slice x.1.2.1 K.L.length x.1.2.2)) (fun x=>rwO leaE x.1.1 x.1.2.1 K.L.length x.1.2.2 K.L true) (fun w1 hH=>toNp ((Hold.ob hH (A:=bdO lo p (tkK1 K) sv.1 true) 0 rfl).leases H.ll) hH.upd.size) (fun ls=>?_)|refine fin_s ?_))
 conv=>whnf
 obtain ⟨S0,sv⟩:=sv
 obtain ⟨⟨l0,A0,c0⟩,hl0,hA0⟩:=ls
 have hl0:w.heap.size≤l0:=hl0
 have hA0:0 < K.L.length→∃ g,A0=some ⟨g,0,none⟩:=hA0
 refine lp ⟨tab_ok⟩ (ι:={x:(Nat×List Nat×Nr)×(KV×List EvV) // x.1.1≤K.L.length∧foldK K x.1.1=x.2∧x.2.1.G.c=K.G.c}) (fun x=>match x with | ⟨((k,Sk,(_,A3,c3)),(Kk,es)),_⟩=>⟨[(0,.p 0 0),(4,.v (.slice sv.1.2.1 (tickP K.G).2.2.length sv.1.2.2)),(5,.v (.slice A3 es.length c3)),(22,.v (.slice A0 K.L.length c0)),(23,.i .i64 K.L.length),(24,.i .i64 (k:Int))],[⟨q,94,true,0,[],coreS K.G.c p,[],false⟩],[bdO lo p Kk Sk true,rwO evE w.heap.size A3 es.length c3 es true,waitsO sv.1.1 sv.1.2.1 (tickP K.G).2.2.length sv.1.2.2 (tickP K.G).2.2 true,rwO leaE l0 A0 K.L.length c0 K.L true]⟩) (fun x=>K.L.length - x.1.1.1) ⟨((0,S0,(0,none,0)),(tkK1 K,[])),Nat.zero_le _,rfl,tkK1_c K⟩ (wk ?_) ?_
 ·repeat' (first | exact trivial | rfl | ((conv=>whnf); refine And.intro ?_ ?_))
 rintro ⟨⟨⟨k,Sk,⟨u0,A3,c3⟩⟩,⟨Kk,es⟩⟩,hkl,hfo,hcc⟩
 have hkl:k≤K.L.length:=hkl
 have hfo:foldK K k=(Kk,es):=hfo
 have hcc:Kk.G.c=K.G.c:=hcc
 have HK:KH Kk:=by have:=HF k hkl; rw [hfo] at this; exact this
 have hes:es.length≤k:=by have:=hev k hkl; rw [hfo] at this; exact this
 by_cases hlt:k < K.L.length
 ·obtain ⟨l,hl⟩:∃ l,K.L[k]?=some l:=⟨_,List.getElem?_eq_getElem (by omega)⟩
  have hs:=fold_step hl
  rw [hfo] at hs
  have hi:inC Kk l:=by have:=hin k l (List.mem_of_getElem? hl) hkl; rw [hfo] at this; exact this
  obtain ⟨j,hj⟩:∃ j:Nat,l.ca=(j:Int):=⟨_,(Int.toNat_of_nonneg hi.1).symm⟩
  have hx:=hi.at_
  rw [hj] at hx
  have hx:Kk.G.cars[j]?=some (carAt Kk l):=by simpa using hx
  obtain ⟨hjl,_⟩:=List.getElem?_eq_some_iff.1 hx
  generalize hxx:carAt Kk l=x at *
  have hr:stepR Kk l=tickV K.G.c l x Kk.G.now:=by unfold stepR; rw [hxx,hcc]
  generalize hR:stepR Kk l=r at *
  have hs2:foldK K (k+1)=(setK Kk r.1 r.2.2,es++evs r.1.se r.2.1.toList):=by rw [hs]; unfold stepK; rw [hR]
  have hc2:(setK Kk r.1 r.2.2).G.c=K.G.c:=by rw [setK_c,hcc]
  have hr1:r.2.1.toList.length≤1:=by cases r.2.1 <;> simp
  have hel:(evs r.1.se r.2.1.toList).length=r.2.1.toList.length:=by unfold evs; simp
  have hcar:=HK.c1
  have hll:=H.ll
  obtain ⟨g0,rfl⟩:=hA0 (by omega)
  repeat' (first | refine gq_ ?_|((conv=>whnf); first | intro b | refine drA ⟨tab_ok⟩ [13] ?_|refine bto ?_|refine bfo ?_|refine wr_i ?_|refine And.intro ?_ ?_|refine opiv ⟨tab_ok⟩ (by rfl) (by rfl) (by rfl) (by rfl) (by rfl) (by rfl) ⟨by omega,by omega⟩ ?_|refine opix (g:=g0) (off:=0+k*10) [.i .i64 l.se,.i .i64 l.fl,.i .i64 l.fm,.i .i64 l.to,.i .i64 l.ma,.i .i64 l.ca,.i .i64 l.ph,.i .i64 l.un,.i .i64 l.re,.i .i64 l.gr] (fun w hH=>Ek.rng (Hold.ob hH (A:=rwO leaE l0 (some ⟨g0,0,none⟩) K.L.length c0 K.L true) 3 rfl) hl) ⟨tab_ok⟩ (by rfl) (by rfl) (by show Addr.add ⟨g0,0,none⟩ (k*10)=_; rw [Go.WideShapes.add_plain]) ?_|refine callN (f:=33) (ι:=NgA w.heap.size) (fun x=>.v (.slice (some ⟨x.1.2.1,0,none⟩) Kk.G.cars.length x.1.2.2)) (fun x=>carsO x.1.1 (some ⟨x.1.2.1,0,none⟩) Kk.G.cars.length x.1.2.2 Kk.G.cars true) (fun w1 hH=>toNCg (by omega) ((Hold.ob hH (A:=bdO lo p Kk Sk true) 0 rfl).cars (by omega)) hH.upd.size) (fun cs=>?_)|refine puiv ⟨tab_ok⟩ (by rfl) (by rfl) (by rfl) (by rfl) (by rfl) (by rfl) ⟨by omega,by omega⟩ ?_|refine opix (g:=cs.1.2.1) (off:=0+j*15) (sCar x) (fun w hH=>car_at (Hold.ob hH (A:=carsO cs.1.1 (some ⟨cs.1.2.1,0,none⟩) Kk.G.cars.length cs.1.2.2 Kk.G.cars true) 4 rfl) hx) ⟨tab_ok⟩ (by rfl) (by rfl) (by show Addr.add ⟨_,0,none⟩ (l.ca.toNat*15)=_; rw [hj,Int.toNat_natCast,Go.WideShapes.add_plain]) ?_|refine callH (f:=34) (.i .i64 Kk.G.now) (fun w hH=>(Hold.ob hH (A:=bdO lo p Kk Sk true) 0 rfl).now) ?_|refine callN (f:=54) (ι:=NrA w.heap.size) (fun x=>.t [.a [.i .i64 r.1.se,.i .i64 r.1.fl,.i .i64 r.1.fm,.i .i64 r.1.to,.i .i64 r.1.ma,.i .i64 r.1.ca,.i .i64 r.1.ph,.i .i64 r.1.un,.i .i64 r.1.re,.i .i64 r.1.gr],.v (.slice x.1.2.1 r.2.1.toList.length x.1.2.2),.b r.2.2]) (fun x=>rwO msgE x.1.1 x.1.2.1 r.2.1.toList.length x.1.2.2 r.2.1.toList true) (fun w1 hH=>saidN (by rw [hr]; exact Ri.tickT K.G.c l x Kk.G.now w1) hH.upd.size) (fun ms=>?_)|refine callO (f:=55) (A:=bdO lo p Kk Sk true) 0 (fun _=>.t []) (fun S'=>bdO lo p (setK Kk r.1 r.2.2) S' true) (fun w hH hA=>(settleT (by rw [hcc]; exact hH.row 0 _ rfl rfl) hA HK.ll _ _).mono (by rintro e w' ⟨rfl,S',h⟩; exact ⟨S',rfl,h⟩)) (fun S'=>?_)|refine callN (f:=56) (ι:=NrA w.heap.size) (fun x=>.v (.slice x.1.2.1 r.2.1.toList.length x.1.2.2)) (fun x=>rwO evE x.1.1 x.1.2.1 r.2.1.toList.length x.1.2.2 (evs r.1.se r.2.1.toList) true) (fun w1 hH=>toN (eventsT r.1.se w1 (Hold.ob hH (A:=rwO msgE ms.1.1 ms.1.2.1 r.2.1.toList.length ms.1.2.2 r.2.1.toList true) 5 rfl) rfl (by omega)) hH.upd.size) (fun ev=>?_)|refine opao 1 6 (e:=110) (lo:=w.heap.size) (size:=5) (bytes:=40) (z:=.agg #[.int .i64 0,.int .i64 0,.int .i64 0,.int .i64 0,.int .i64 0]) (A:=rwO evE w.heap.size A3 es.length c3 es true) (E:=rwO evE ev.1.1 ev.1.2.1 r.2.1.toList.length ev.1.2.2 (evs r.1.se r.2.1.toList) true) (vals:=rowsOf evC es) (cells:=rowsOf evC (evs r.1.se r.2.1.toList)) (zs:=rowsOf evC (es++evs r.1.se r.2.1.toList)) (n2:=(es++evs r.1.se r.2.1.toList).length) (fun A' c'=>rwO evE w.heap.size A' (es++evs r.1.se r.2.1.toList).length c' (es++evs r.1.se r.2.1.toList) true) (by rfl) (by rfl) (by rfl) (by rfl) (by rfl) rfl rfl (fun w h=>h) (fun A' c' w h=>h) (fun _ _=>rfl) (fun w h=>Ek.reads h) Tryz.underlying51 (by kernel_rfl) rfl (by decide) (by decide) (rowsOf_one' evE.one _) (by omega) (fun w hH=>hH.upd.size) (by rw [List.length_append,hel]) (by rw [rowsOf_append]) (fun A' c'=>?_)|refine back ⟨((k+1,S',(0,A',c')),(setK Kk r.1 r.2.2,es++evs r.1.se r.2.1.toList)),by show k+1≤_; omega,hs2,hc2⟩ (wkd ?_) ?_|refine fin_s ?_))
  all_goals first | (show K.L.length - (k+1) < K.L.length - k; omega)|skip
  all_goals (repeat' (first | exact trivial | rfl | ((conv=>whnf); refine And.intro ?_ ?_)))
 ·obtain rfl:k=K.L.length:=by omega
  have hll:=H.ll
  have hE:tickE K=es++grantE Kk:=by unfold tickE; rw [hfo]
  have hKK:tickK K=grantK Kk:=by unfold tickK; rw [hfo]
  have hg1:(grantE Kk).length≤1:=grantE_len Kk
  rw [hE,hKK]
  repeat' (first | refine gs_ ?_|((conv=>whnf); first | intro b | refine bto ?_|refine bfo ?_|refine callON (f:=57) (A:=bdO lo p Kk Sk true) 0 (ι:=List Nat×Nr) (fun x=>.v (.slice x.2.2.1 (grantE Kk).length x.2.2.2)) (fun x=>bdO lo p (grantK Kk) x.1 true) (fun x=>rwO evE x.2.1 x.2.2.1 (grantE Kk).length x.2.2.2 (grantE Kk) true) (fun w1 hH hA=>(grantT (by rw [hcc]; exact hH.row 0 _ rfl rfl) hA HK).mono (by rintro e w' ⟨S',x,h⟩; exact ⟨(S',x),h⟩)) (fun gr=>?_)|refine opao 1 4 (e:=110) (lo:=w.heap.size) (size:=5) (bytes:=40) (z:=.agg #[.int .i64 0,.int .i64 0,.int .i64 0,.int .i64 0,.int .i64 0]) (A:=rwO evE w.heap.size A3 es.length c3 es true) (E:=rwO evE gr.2.1 gr.2.2.1 (grantE Kk).length gr.2.2.2 (grantE Kk) true) (vals:=rowsOf evC es) (cells:=rowsOf evC (grantE Kk)) (zs:=rowsOf evC (es++grantE Kk)) (n2:=(es++grantE Kk).length) (fun A' c'=>rwO evE w.heap.size A' (es++grantE Kk).length c' (es++grantE Kk) true) (by rfl) (by rfl) (by rfl) (by rfl) (by rfl) rfl rfl (fun w h=>h) (fun A' c' w h=>h) (fun _ _=>rfl) (fun w h=>Ek.reads h) Tryz.underlying51 (by kernel_rfl) rfl (by decide) (by decide) (rowsOf_one' evE.one _) (by omega) (fun w hH=>hH.upd.size) (by rw [List.length_append]) (by rw [rowsOf_append]) (fun A' c'=>?_)|refine fin fun w' hH=>?_|refine fin_s ?_))
  have o0:=Hold.ob hH (A:=bdO lo p (grantK Kk) gr.1 true) 0 rfl
  have o1:=Hold.ob hH (A:=rwO evE w.heap.size A' (es++grantE Kk).length c' (es++grantE Kk) true) 1 rfl
  have o2:=Hold.ob hH (A:=waitsO sv.1.1 sv.1.2.1 (tickP K.G).2.2.length sv.1.2.2 (tickP K.G).2.2 true) 2 rfl
  refine ⟨gr.1,(w.heap.size,A',c'),(sv.1.1,sv.1.2.1,sv.1.2.2),rfl,o0,o1,o2,hH.upd,hH.own _ (List.mem_cons_self ..) rfl,fun g hg=>⟨own_low o1 g hg,fun hg2=>?_⟩,fun g hg=>⟨Nat.le_trans sv.2 (own_low o2 g hg),fun hg2=>?_⟩⟩
  ·exact pair_at (R:=DisR) (fun _ _ h=>h.symm) hH.dis (i:=0) (j:=1) rfl rfl (by decide) (.inl rfl) g hg2 hg
  ·exact pair_at (R:=DisR) (fun _ _ h=>h.symm) hH.dis (i:=0) (j:=2) rfl rfl (by decide) (.inl rfl) g hg2 hg
end
end Co
namespace En
open Go.RowKit Ba Mem
theorem callO2N {X:Cx} {s:St} {ι:Type} {f:FuncId} {vs:List SV} {K:SV→St→Prop} (i:Nat) {A:Asr} (v:ι→SV) (B C D:ι→Asr)
  (hc:∀ w,Hold X s.m s.ob w→A.st w→Calls X.P f (denL s.m vs).toArray w fun e w'=>∃ x,e=.returned (den s.m (v x))∧(B x).st w'∧(C x).st w'∧(D x).st w'∧Upd A.F w w'∧(∀ g∈(B x).F,g∈A.F∨w.heap.size≤g)∧(∀ g∈(C x).F,w.heap.size≤g∧g∉(B x).F)∧(∀ g∈(D x).F,w.heap.size≤g∧g∉(B x).F)∧∀ g∈(C x).F,g∉(D x).F)
  (h:∀ x,setO i (B x) s.ob fun ob=>appO ob (C x) fun ob=>appO ob (D x) fun ob=>K (v x) ⟨s.fr,s.m,ob⟩) (hA:s.ob[i]?=some A:=by rfl) (hrw:A.rw=true:=by rfl)
  (he:entChk X.P f=true:=by kernel_rfl) (hv:∀ x,okV s.m.length (v x)=true:=by intro x; rfl):CallVC X f vs s K:=by
 refine ⟨entC he,fun w hH=>(hc w hH (hH.obj A (List.mem_of_getElem? hA))).mono ?_⟩
 rintro e w' ⟨x,rfl,h1,h2,h6,h3,h4,h5,h7,h8⟩
 have far:∀ (E:Asr),(∀ g∈E.F,w.heap.size≤g∧g∉(B x).F)→∀ G∈s.ob.set i (B x),DisR G E:=fun E hE G hG _ g hg hgE=>by
  rcases mem_set_or hG with rfl | ⟨j,hne,hG⟩
  ·exact (hE g hgE).2 hg
  ·have:=G.lt (hH.obj G (List.mem_of_getElem? hG)) g hg; have:=(hE g hgE).1; omega
 have row:∀ (E:Asr),(∀ g∈E.F,w.heap.size≤g∧g∉(B x).F)→∀ r∈s.m,r.live=true→r.g∉E.F:=fun E hE r hr hl hg=>by
  obtain ⟨j,hj⟩:=List.mem_iff_getElem?.1 hr
  have:=(hH.row j r hj hl).lt; have:=(hE _ hg).1; omega
 refine ⟨v x,s.m,s.ob.set i (B x)++[C x]++[D x],rfl,hv x,Ext.refl _, ?_,appO_of (appO_of (setO_of (h x)))⟩
 refine Hold.addObj (Hold.addObj (hH.obj_set hA hrw h1 h3 h4) (C x) h2 (fun _ g hg=>.inr (Nat.le_trans hH.upd.size (h5 g hg).1)) (row _ h5) (far _ h5)) (D x) h6 (fun _ g hg=>.inr (Nat.le_trans hH.upd.size (h7 g hg).1)) (row _ h7) (fun G hG=>?_)
 rcases List.mem_append.1 hG with hG | hG
 ·exact far _ h7 G hG
 ·rw [List.mem_singleton] at hG; subst hG
  exact fun _=>h8
end En
namespace Co
open Go.RowKit Ba Mem En Go.Proofs.YtpiiblkiddcgcaaGreat.Ty Mo Go.Proofs.YtpiiblkiddcgcaaGreat.St
open Gr (GrV GO CarsAt WaitsAt newG okT okW waitsO tickP)
open Qu (QO askE qO)
open Le (TO tO)
open Fl (leaE)
open Ri (MsgV msgC)
open Et (carsO)
set_option maxRecDepth 100000
attribute [local irreducible] Go.Calls
def KW (lo q:Nat) (p:Pt) (K:KV) (S:List Nat) (w:World):Prop:=lo≤q∧∃ S0,S=q::S0∧Blk w q 94 (coreA K.G.c p)∧BD lo p K S0 w
section
variable {lo q:Nat} {p:Pt} {K:KV} {S T:List Nat} {w w':World}
theorem KW.upd (k:Upd T w w') (h:KW lo q p K S w) (hT:∀ g∈S,g∉T):KW lo q p K S w':=by
 obtain ⟨h0,S0,rfl,B,D⟩:=h
 exact ⟨h0,S0,rfl,k.blk B (hT _ (by simp)),D.upd k (fun g hg=>hT g (by simp [hg]))⟩
theorem KW.lt (h:KW lo q p K S w):∀ g∈S,g < w.heap.size:=by
 obtain ⟨h0,S0,rfl,B,D⟩:=h
 intro g hg
 rcases List.mem_cons.1 hg with rfl | hg
 ·exact B.lt
 ·exact D.lt g hg
theorem KW.low (h:KW lo q p K S w):∀ g∈S,lo≤g:=by
 obtain ⟨h0,S0,rfl,B,D⟩:=h
 intro g hg
 rcases List.mem_cons.1 hg with rfl | hg
 ·exact h0
 ·exact D.low g hg
end
def kO (lo q:Nat) (p:Pt) (K:KV) (S:List Nat) (rw:Bool):Asr:=⟨S,rw,KW lo q p K S,fun k h hs=>hs.upd k h,fun h=>h.lt⟩
section
variable {P:Program} {F:FuncId} {args:Array Value} {lo q:Nat} {p:Pt} {K K':KV} {S:List Nat} {w:World} {V:Value}
theorem KW.run (h:KW lo q p K S w) (hcc:K'.G.c=K.G.c) (hc:∀ S0,Blk w q 94 (coreA K.G.c p)→BD lo p K S0 w→Calls P F args w fun e w'=>e=.returned V∧∃ S',BD lo p K' S' w'∧Upd S0 w w'∧∀ g∈S',g∈S0∨w.heap.size≤g) :
  Calls P F args w fun e w'=>∃ S',e=.returned V∧KW lo q p K' S' w'∧Upd S w w'∧∀ g∈S',g∈S∨w.heap.size≤g:=by
 obtain ⟨h0,S0,rfl,B,D⟩:=h
 refine (hc S0 B D).mono ?_
 rintro e w' ⟨rfl,S',d,u,n⟩
 refine ⟨q::S',rfl,⟨h0,S',rfl,by rw [hcc]; exact u.blk B (D.far B),d⟩,u.mono (fun k hk _=>List.mem_cons_of_mem _ hk),fun g hg=>?_⟩
 rcases List.mem_cons.1 hg with rfl | hg
 ·exact .inl (List.mem_cons_self ..)
 ·exact (n g hg).imp (List.mem_cons_of_mem _) id
theorem KW.runE {n:Nat} {es:List EvV} (h:KW lo q p K S w) (hcc:K'.G.c=K.G.c) (hc:∀ S0,Blk w q 94 (coreA K.G.c p)→BD lo p K S0 w→Calls P F args w fun e w'=>∃ (S':List Nat) (x:Nr),e=.returned (.slice x.2.1 n x.2.2)∧BD lo p K' S' w'∧(rwO evE x.1 x.2.1 n x.2.2 es true).st w'∧Upd S0 w w'∧(∀ g∈S',g∈S0∨w.heap.size≤g)∧∀ g∈blkOf x.2.1,w.heap.size≤g∧g∉S') :
  Calls P F args w fun e w'=>∃ x:List Nat×Nr,e=.returned (.slice x.2.2.1 n x.2.2.2)∧KW lo q p K' x.1 w'∧(rwO evE x.2.1 x.2.2.1 n x.2.2.2 es true).st w'∧Upd S w w'∧(∀ g∈x.1,g∈S∨w.heap.size≤g)∧∀ g∈blkOf x.2.2.1,w.heap.size≤g∧g∉x.1:=by
 obtain ⟨h0,S0,rfl,B,D⟩:=h
 refine (hc S0 B D).mono ?_
 rintro e w' ⟨S',x,rfl,d,o,u,n,m⟩
 refine ⟨(q::S',x),rfl,⟨h0,S',rfl,by rw [hcc]; exact u.blk B (D.far B),d⟩,o,u.mono (fun k hk _=>List.mem_cons_of_mem _ hk),fun g hg=>?_,fun g hg=>⟨(m g hg).1,fun hm=>?_⟩⟩
 ·rcases List.mem_cons.1 hg with rfl | hg
  ·exact .inl (List.mem_cons_self ..)
  ·exact (n g hg).imp (List.mem_cons_of_mem _) id
 ·rcases List.mem_cons.1 hm with rfl | hm
  ·have:=(m g hg).1; have:=B.lt; omega
  ·exact (m g hg).2 hm
theorem KW.rd (h:KW lo q p K S w):∃ S0,Blk w q 94 (coreA K.G.c p)∧BD lo p K S0 w:=by
 obtain ⟨h0,S0,rfl,B,D⟩:=h
 exact ⟨S0,B,D⟩
theorem KW.grp (h:KW lo q p K S w) {G':GrV} (hcc:G'.c=K.G.c) (hc:∀ S1,GO lo p.g K.G S1 w→Calls P F args w fun e w'=>e=.returned V∧∃ S',GO lo p.g G' S' w'∧Upd S1 w w'∧∀ g∈S',g∈S1∨w.heap.size≤g) :
  Calls P F args w fun e w'=>∃ S',e=.returned V∧KW lo q p { K with G:=G' } S' w'∧Upd S w w'∧∀ g∈S',g∈S∨w.heap.size≤g :=
 h.run hcc (fun S0 B D=>(BD.grp D hcc hc).mono (by rintro e w' ⟨S',rfl,x⟩; exact ⟨rfl,S',x⟩))
end
section
variable {lo q:Nat} {p:Pt} {K:KV} {S:List Nat} {w:World}
theorem groupK (h:KW lo q p K S w):Calls Tryz.prog 61 #[.pointer (some ⟨q,0,none⟩)] w fun e w'=>e=.returned (.pointer (some ⟨p.g,0,none⟩))∧Since w w':=by
 obtain ⟨S0,hk,hb⟩:=h.rd
 refine entH tab_ok (hold_kr hk hb) [.p 0 0] Tryz.func61 Tryz.ntmps61 rfl rfl ?_
 repeat' (first | refine gs_ ?_|((conv=>whnf); first | intro b | refine fin_s ?_))
 all_goals rfl
theorem leasesK (h:KW lo q p K S w) (hl:K.L.length≤10000):Calls Tryz.prog 63 #[.pointer (some ⟨q,0,none⟩)] w fun e w'=>∃ A' c',e=.returned (.slice A' K.L.length c')∧leaE.At w.heap.size A' K.L.length c' K.L w'∧Since w w':=by
 obtain ⟨S0,hk,hb⟩:=h.rd
 refine entH tab_ok (hold_kr hk hb) [.p 0 0] Tryz.func63 Tryz.ntmps63 rfl rfl ?_
 repeat' (first | refine gs_ ?_|((conv=>whnf); first | intro b | refine callN (f:=53) (ι:=NrA w.heap.size) (fun x=>.v (.slice x.1.2.1 K.L.length x.1.2.2)) (fun x=>rwO leaE x.1.1 x.1.2.1 K.L.length x.1.2.2 K.L true) (fun w1 hH=>toN ((Hold.ob hH (A:=bdO lo p K S0 false) 0 rfl).leases hl) hH.upd.size) (fun x=>?_)|refine fin fun w' hH=>⟨_,_,rfl,own_base (Hold.ob hH (A:=rwO leaE x.1.1 x.1.2.1 K.L.length x.1.2.2 K.L true) 1 rfl) x.2,hH.upd.since⟩|refine fin_s ?_))
theorem queueK (h:KW lo q p K S w) (hl:K.Q.length≤10000):Calls Tryz.prog 65 #[.pointer (some ⟨q,0,none⟩)] w fun e w'=>∃ A' c',e=.returned (.slice A' K.Q.length c')∧askE.At w.heap.size A' K.Q.length c' K.Q w'∧Since w w':=by
 obtain ⟨S0,hk,hb⟩:=h.rd
 refine entH tab_ok (hold_kr hk hb) [.p 0 0] Tryz.func65 Tryz.ntmps65 rfl rfl ?_
 repeat' (first | refine gs_ ?_|((conv=>whnf); first | intro b | refine callN (f:=141) (ι:=NrA w.heap.size) (fun x=>.v (.slice x.1.2.1 K.Q.length x.1.2.2)) (fun x=>rwO askE x.1.1 x.1.2.1 K.Q.length x.1.2.2 K.Q true) (fun w1 hH=>toN ((Hold.ob hH (A:=bdO lo p K S0 false) 0 rfl).asks hl) hH.upd.size) (fun x=>?_)|refine fin fun w' hH=>⟨_,_,rfl,own_base (Hold.ob hH (A:=rwO askE x.1.1 x.1.2.1 K.Q.length x.1.2.2 K.Q true) 1 rfl) x.2,hH.upd.since⟩|refine fin_s ?_))
theorem askK (h:KW lo q p K S w) (h1:K.Q.length≤1000) (h2:K.L.length≤10000) (a:AskV) :
  Calls Tryz.prog 66 #[.pointer (some ⟨q,0,none⟩),.agg #[.int .i64 a.se,.int .i64 a.fl,.int .i64 a.fm,.int .i64 a.to,.int .i64 a.ma]] w fun e w'=>∃ x:List Nat×Nr,e=.returned (.slice x.2.2.1 1 x.2.2.2)∧KW lo q p (ansK K a) x.1 w'∧(rwO evE x.2.1 x.2.2.1 1 x.2.2.2 (evs a.se [ansM K a]) true).st w'∧Upd S w w'∧(∀ g∈x.1,g∈S∨w.heap.size≤g)∧∀ g∈blkOf x.2.2.1,w.heap.size≤g∧g∉x.1 :=
 h.runE rfl (fun S0 B D=>askT B D h1 h2 a)
theorem hearK_c (K:KV) (s:Int) (m:MsgV):(hearK K s m).G.c=K.G.c:=by unfold hearK; split; exact setK_c _ _ _; rfl
theorem hearW (h:KW lo q p K S w) (h0:K.G.cars.length≤10000) (h2:K.L.length≤10000) (s:Int) (m:MsgV) (hin:Le.hasL K.L s=true→inC K (Le.ofL K.L s)) :
  Calls Tryz.prog 67 #[.pointer (some ⟨q,0,none⟩),.int .i64 s,.agg (msgC m)] w fun e w'=>∃ x:List Nat×Nr,e=.returned (.slice x.2.2.1 (hearM K s m).length x.2.2.2)∧KW lo q p (hearK K s m) x.1 w'∧(rwO evE x.2.1 x.2.2.1 (hearM K s m).length x.2.2.2 (evs s (hearM K s m)) true).st w'∧Upd S w w'∧(∀ g∈x.1,g∈S∨w.heap.size≤g)∧∀ g∈blkOf x.2.2.1,w.heap.size≤g∧g∉x.1 :=
 h.runE (hearK_c _ _ _) (fun S0 B D=>hearT B D h0 h2 s m hin)
theorem goneK_c (K:KV) (s:Int):(goneK K s).G.c=K.G.c:=endK_c K s
theorem goneW (h:KW lo q p K S w) (h1:K.Q.length≤1000) (h2:K.L.length≤10000) (s:Int) :
  Calls Tryz.prog 68 #[.pointer (some ⟨q,0,none⟩),.int .i64 s] w fun e w'=>∃ S',e=.returned (.tuple #[])∧KW lo q p (goneK K s) S' w'∧Upd S w w'∧∀ g∈S',g∈S∨w.heap.size≤g :=
 h.run (goneK_c _ _) (fun S0 B D=>goneT B D h1 h2 s)
theorem grantK_c (K:KV):(grantK K).G.c=K.G.c:=by unfold grantK; split; rfl; exact take_c _ _ _
theorem tickK_c (K:KV):(tickK K).G.c=K.G.c:=by unfold tickK; rw [grantK_c,foldK_c]
structure KT (K:KV):Prop where
 h:KH K
 hf:∀ k,k≤K.L.length→KH (foldK K k).1
 hin:∀ k,∀ l∈K.L,k≤K.L.length→inC (foldK K k).1 l
 hev:∀ k,k≤K.L.length→(foldK K k).2.length≤k
theorem tickW (h:KW lo q p K S w) (H:KT K) :
  Calls Tryz.prog 16 #[.pointer (some ⟨q,0,none⟩)] w fun e w'=>∃ x:List Nat×Nr×Nr,e=.returned (.tuple #[.slice x.2.1.2.1 (tickE K).length x.2.1.2.2,.slice x.2.2.2.1 (tickP K.G).2.2.length x.2.2.2.2])∧KW lo q p (tickK K) x.1 w'∧(rwO evE x.2.1.1 x.2.1.2.1 (tickE K).length x.2.1.2.2 (tickE K) true).st w'∧(waitsO x.2.2.1 x.2.2.2.1 (tickP K.G).2.2.length x.2.2.2.2 (tickP K.G).2.2 true).st w'∧Upd S w w'∧(∀ g∈x.1,g∈S∨w.heap.size≤g)∧(∀ g∈blkOf x.2.1.2.1,w.heap.size≤g∧g∉x.1)∧(∀ g∈blkOf x.2.2.2.1,w.heap.size≤g∧g∉x.1)∧∀ g∈blkOf x.2.1.2.1,g∉blkOf x.2.2.2.1:=by
 obtain ⟨h0,S0,rfl,B,D⟩:=h
 refine (Co.tickT B D H.h H.hf H.hin H.hev).mono ?_
 rintro e w' ⟨S',x,y,rfl,d,o,o2,u,n,m,m2⟩
 have far:∀ g,w.heap.size≤g→g∉S'→g∉q::S':=fun g hg hs hm=>by
  rcases List.mem_cons.1 hm with rfl | hm
  ·have:=B.lt; omega
  ·exact hs hm
 refine ⟨(q::S',x,y),rfl,⟨h0,S',rfl,by rw [tickK_c]; exact u.blk B (D.far B),d⟩,o,o2,u.mono (fun k hk _=>List.mem_cons_of_mem _ hk),fun g hg=>?_,fun g hg=>⟨(m g hg).1,far g (m g hg).1 (m g hg).2⟩,fun g hg=>⟨(m2 g hg).1,far g (m2 g hg).1 (m2 g hg).2⟩,fun g hg hg2=>?_⟩
 ·rcases List.mem_cons.1 hg with rfl | hg
  ·exact .inl (List.mem_cons_self ..)
  ·exact (n g hg).imp (List.mem_cons_of_mem _) id
 ·rcases own_at o with ⟨hn,_⟩ | ⟨g1,cur,hn,_,B1,_⟩
  ·rw [hn] at hg; cases hg
  ·have:g=g1:=by rw [hn] at hg; simpa [blkOf] using hg
   subst this
   exact own_ne_ty o2 B1 (by decide) hg2
theorem newW (c:CfgV) (w:World):Calls Tryz.prog 14 #[(aCfg c)] w fun e w'=>∃ q p S',e=.returned (.pointer (some ⟨q,0,none⟩))∧KW w.heap.size q p (newK c) S' w'∧Since w w':=by
 refine ent tab_ok [.a (sCfg c)] Tryz.func14 Tryz.ntmps14 rfl rfl ?_
 repeat' (first | refine gs_ ?_|((conv=>whnf); first | intro b | refine callN (f:=5) (ι:={x:Nat×Nat×List Nat // w.heap.size≤x.1}) (fun x=>.v (.pointer (some ⟨x.1.2.1,0,none⟩))) (fun x=>⟨x.1.2.2,true,GO x.1.1 x.1.2.1 (newG c) x.1.2.2,fun k h hs=>hs.upd k h,fun h=>h.lt⟩) (fun w1 hH=>(Gr.newT c w1).mono (by rintro e w' ⟨q,S',rfl,h1,h2⟩; exact ⟨⟨(w1.heap.size,q,S'),hH.upd.size⟩,rfl,h1,h2,h1.low⟩)) (fun x=>?_)|refine callN (f:=51) (ι:={x:Nat×Nat // w.heap.size≤x.1}) (fun x=>.v (.pointer (some ⟨x.1.2,0,none⟩))) (fun x=>qO x.1.1 x.1.2 (Qu.btw c.qu 0 64) [] [x.1.2] true) (fun w1 hH=>(Qu.newT c.qu w1).mono (by rintro e w' ⟨q,rfl,h1,h2⟩; exact ⟨⟨(w1.heap.size,q),hH.upd.size⟩,rfl,h1,h2,h1.low⟩)) (fun y=>?_)|refine callN (f:=52) (ι:={x:Nat×Nat // w.heap.size≤x.1}) (fun x=>.v (.pointer (some ⟨x.1.2,0,none⟩))) (fun x=>tO x.1.1 x.1.2 c [] [x.1.2] true) (fun w1 hH=>(Le.newT c w1).mono (by rintro e w' ⟨q,rfl,h1,h2⟩; exact ⟨⟨(w1.heap.size,q),hH.upd.size⟩,rfl,h1,h2,h1.low⟩)) (fun z=>?_)|refine fin fun w' hH=>?_|refine fin_s ?_))
 have o0:=Hold.ob hH (A:=⟨x.1.2.2,true,GO x.1.1 x.1.2.1 (newG c) x.1.2.2,fun k h hs=>hs.upd k h,fun h=>h.lt⟩) 0 rfl
 have o1:=Hold.ob hH (A:=qO y.1.1 y.1.2 (Qu.btw c.qu 0 64) [] [y.1.2] true) 1 rfl
 have o2:=Hold.ob hH (A:=tO z.1.1 z.1.2 c [] [z.1.2] true) 2 rfl
 have d01:=pair_at (R:=DisR) (fun _ _ h=>h.symm) hH.dis (i:=0) (j:=1) rfl rfl (by decide) (.inl rfl)
 have d02:=pair_at (R:=DisR) (fun _ _ h=>h.symm) hH.dis (i:=0) (j:=2) rfl rfl (by decide) (.inl rfl)
 have d12:=pair_at (R:=DisR) (fun _ _ h=>h.symm) hH.dis (i:=1) (j:=2) rfl rfl (by decide) (.inl rfl)
 refine ⟨_,⟨x.1.2.1,y.1.2,z.1.2⟩,_,rfl,⟨?_,_,rfl, ?_,⟨x.1.2.2,[y.1.2],[z.1.2],rfl,GO.base o0 x.2,QO.base o1 y.2,TO.base o2 z.2,d01,d02,d12⟩⟩,hH.upd.since⟩
 ·rcases (hH.wf 1 _ rfl rfl).2.2 rfl with h | h
  ·cases h
  ·exact h
 ·have q:=hH.row 1 _ rfl rfl
  rw [rowA_nil rfl rfl] at q
  exact q
end
end Co
namespace Sc
open Go.RowKit Ba Go.Proofs.YtpiiblkiddcgcaaGreat.St
set_option maxRecDepth 100000
theorem otR (way:Int) (h:way=1∨way=2) (w:World):Calls Tryz.prog 169 #[.int .i64 way] w fun e w'=>e=.returned (.int .i64 (ot way))∧w=w':=by
 rcases h with rfl | rfl
 all_goals
  go_enter Tryz.func169,Tryz.ntmps169
  go_wp2
  go_ret
  exact ⟨rfl,rfl⟩
set_option maxHeartbeats 2000000 in
theorem nextR0 (p u d f j:Int) (hp:R p) (hu:R u) (hd:R d) (w:World):Calls Tryz.prog 91 #[.agg #[.int .u64 p,.int .u64 u,.int .u64 d],.int .i64 f,.int .i64 0,.int .i64 j] w fun e w'=>e=.returned (.tuple #[.int .i64 (nxW p u d f 0 j),.bool (nxO p u d f 0 j)])∧Since w w':=by
 by_cases hf:f=j
 ·subst hf
  have HW:=Lib.hid (show nxW p u d f 0 f=stW p u d f f from if_pos rfl)
  have HO:=Lib.hid (show nxO p u d f 0 f=svB p u d f f from if_pos rfl)
  go_enter Tryz.func91,Tryz.ntmps91
  go_wp2_with (first | (go_at_call 167; refine (anyR _ _ _ _ hp hu hd _).mono ?_; rintro e w1 ⟨rfl,hb1⟩; have hq1:w.heap.size < w1.heap.size:=(by have:=hb1.size; (try simp at this); omega); obtain ⟨hc1,hf1⟩:=hb1.cf)|(go_at_call 168; refine (aheadR _ _ _ _ _ hp hu hd _).mono ?_; rintro e w1 ⟨rfl,hb1⟩; have hq1:w.heap.size < w1.heap.size:=(by have:=hb1.size; (try simp at this); omega); obtain ⟨hc1,hf1⟩:=hb1.cf)|(go_at_call 92; refine (hallR _ _ _ _ _ hu hd _).mono ?_; rintro e w1 ⟨rfl,hb1⟩; have hq1:w.heap.size < w1.heap.size:=(by have:=hb1.size; (try simp at this); omega); obtain ⟨hc1,hf1⟩:=hb1.cf))
  all_goals
   go_ret2
   exact ⟨ret_wo (by rw [HW.out]; unfold stW svB fst2; first | (simp [*]; done)|(simp_all; done)) (by rw [HO.out]; unfold svB; first | (simp [*]; done)|(simp_all; done)),sn_⟩
 ·have e1:(f == j)=false:=by simpa using hf
  have e2:(f != j)=true:=by simpa using hf
  have HW:=Lib.hid (show nxW p u d f 0 j=stW p u d f j from if_pos rfl)
  have HO:=Lib.hid (show nxO p u d f 0 j=svB p u d f j from if_pos rfl)
  go_enter Tryz.func91,Tryz.ntmps91
  go_wp2_with (first | (go_at_call 167; refine (anyR _ _ _ _ hp hu hd _).mono ?_; rintro e w1 ⟨rfl,hb1⟩; have hq1:w.heap.size < w1.heap.size:=(by have:=hb1.size; (try simp at this); omega); obtain ⟨hc1,hf1⟩:=hb1.cf)|(go_at_call 168; refine (aheadR _ _ _ _ _ hp hu hd _).mono ?_; rintro e w1 ⟨rfl,hb1⟩; have hq1:w.heap.size < w1.heap.size:=(by have:=hb1.size; (try simp at this); omega); obtain ⟨hc1,hf1⟩:=hb1.cf)|(go_at_call 92; refine (hallR _ _ _ _ _ hu hd _).mono ?_; rintro e w1 ⟨rfl,hb1⟩; have hq1:w.heap.size < w1.heap.size:=(by have:=hb1.size; (try simp at this); omega); obtain ⟨hc1,hf1⟩:=hb1.cf))
  all_goals
   go_ret2
   exact ⟨ret_wo (by rw [HW.out]; unfold stW svB fst2; first | (simp [*]; done)|(simp_all; done)) (by rw [HO.out]; unfold svB; first | (simp [*]; done)|(simp_all; done)),sn_⟩
theorem sv_way (p u d f j way:Int) (h:way=1∨way=2):svB p u d f j=(heB p u d f && (!(f == j) || (!ahB (al p u d) f way && !ahB (al p u d) f (ot way)))):=by
 rcases h with rfl | rfl
 ·rfl
 ·unfold svB
  show _=(heB p u d f && (!(f == j) || (!ahB (al p u d) f 2 && !ahB (al p u d) f 1)))
  rw [Bool.and_comm (!ahB (al p u d) f 1)]
set_option maxHeartbeats 4000000 in
theorem nextRe (p u d f way:Int) (hw:way=1∨way=2) (hp:R p) (hu:R u) (hd:R d) (w:World):Calls Tryz.prog 91 #[.agg #[.int .u64 p,.int .u64 u,.int .u64 d],.int .i64 f,.int .i64 way,.int .i64 f] w fun e w'=>e=.returned (.tuple #[.int .i64 (nxW p u d f way f),.bool (nxO p u d f way f)])∧Since w w':=by
 have HWW:=Lib.hid hw
 have hz:(way == 0)=false:=by rcases hw with rfl | rfl <;> rfl
 have HW:=Lib.hid (show nxW p u d f way f=onW p u d f way f from if_neg (by simpa using hz))
 have HO:=Lib.hid (show nxO p u d f way f=onO p u d f way f from if_neg (by simpa using hz))
 have HSV:=Lib.hid (sv_way p u d f f way hw)
 have HP:=Lib.hid (show heB p 0 0 f=mem p f by unfold heB; rw [al_mem hp R.zero R.zero]; simp [mem,tb])
 clear hw
 go_enter Tryz.func91,Tryz.ntmps91
 go_wp2_with fail
 refine (anyR _ _ _ _ hp hu hd _).mono ?_
 rintro e w1 ⟨rfl,hb1⟩
 have hq1:w.heap.size < w1.heap.size:=by have:=hb1.size; simp at this; omega
 have g0:w1.cell? ⟨w.heap.size,0,none⟩=some (.int .u64 p):=new_alloc hb1 rfl
 have g1:w1.cell? ⟨w.heap.size,1,none⟩=some (.int .u64 u):=new_alloc hb1 rfl
 have g2:w1.cell? ⟨w.heap.size,2,none⟩=some (.int .u64 d):=new_alloc hb1 rfl
 go_wp2_with fail
 have hrK:∀ W W':World,Since W W'→(Since (w1) W∧W.cell? ⟨w.heap.size,0,none⟩=some (.int .u64 p)∧W.cell? ⟨w.heap.size,1,none⟩=some (.int .u64 u)∧W.cell? ⟨w.heap.size,2,none⟩=some (.int .u64 d))→(Since (w1) W'∧W'.cell? ⟨w.heap.size,0,none⟩=some (.int .u64 p)∧W'.cell? ⟨w.heap.size,1,none⟩=some (.int .u64 u)∧W'.cell? ⟨w.heap.size,2,none⟩=some (.int .u64 d)):=fun W W' k ⟨h,h0,h1,h2⟩=>⟨h.trans k,keep_cell k h0,keep_cell k h1,keep_cell k h2⟩
 have hrS:(fun W:World=>Since (w1) W∧W.cell? ⟨w.heap.size,0,none⟩=some (.int .u64 p)∧W.cell? ⟨w.heap.size,1,none⟩=some (.int .u64 u)∧W.cell? ⟨w.heap.size,2,none⟩=some (.int .u64 d)) (w1):=⟨Since.refl _,by first | assumption | (simp; done),by first | assumption | (simp; done),by first | assumption | (simp; done)⟩
 have hrD:(fun W:World=>Since (w1) W∧W.cell? ⟨w.heap.size,0,none⟩=some (.int .u64 p)∧W.cell? ⟨w.heap.size,1,none⟩=some (.int .u64 u)∧W.cell? ⟨w.heap.size,2,none⟩=some (.int .u64 d)) (World.drew (w1)):=⟨(Since.refl _).drew,hrS.2⟩
 have HRK:=Lib.hid hrK
 have HRD:=Lib.hid hrD
 clear hrK hrS hrD
 go_region_held3 (fun W=>Since (w1) W∧W.cell? ⟨w.heap.size,0,none⟩=some (.int .u64 p)∧W.cell? ⟨w.heap.size,1,none⟩=some (.int .u64 u)∧W.cell? ⟨w.heap.size,2,none⟩=some (.int .u64 d)) (first | exact HRD.out | (apply HRK.out; assumption; assumption)) (first | (go_at_call 168; refine (aheadR _ _ _ _ _ hp hu hd _).mono ?_; rintro e w2 ⟨rfl,hb2⟩)|(go_at_call 169; refine (otR _ HWW.out _).mono ?_; rintro e w' ⟨rfl,rfl⟩))
 rename_i hq
 obtain ⟨hs2,hc2_0_0,hc2_0_1,hc2_0_2⟩:=hq
 clear HRK HRD
 have hl2_0:w.heap.size < w2.heap.size:=World.block_lt_of_cell? _ _ hc2_0_0
 have HS2:=Lib.hid hs2
 clear hs2
 go_wp2_with (first | (go_at_call 92; refine (hallR _ _ _ _ _ hu hd _).mono ?_; rintro e w3 ⟨rfl,hb3⟩; have hq3:w.heap.size < w3.heap.size:=(by have:=hb3.size; omega); obtain ⟨hc3,hf3⟩:=hb3.cf)|(go_at_call 170; refine (hasR _ _ hp _).mono ?_; rintro e w' ⟨rfl,rfl⟩)|(go_at_call 169; refine (otR _ HWW.out _).mono ?_; rintro e w' ⟨rfl,rfl⟩))
 any_goals
  go_ret2
  exact ⟨ret_wo (by rw [HW.out]; unfold onW; rw [HSV.out,HP.out]; unfold fst2; first | (simp [*]; done)|(simp_all; done)) (by rw [HO.out]; unfold onO; rw [HSV.out,HP.out]; first | (simp [*]; done)|(simp_all; done)),sn_⟩
 all_goals
  have g3:=keep_cell hb3 hc2_0_0
  have g4:=keep_cell hb3 hc2_0_1
  have g5:=keep_cell hb3 hc2_0_2
  clear hc3 hf3
  have hrK:∀ W W':World,Since W W'→(Since (w3) W∧W.cell? ⟨w.heap.size,0,none⟩=some (.int .u64 p)∧W.cell? ⟨w.heap.size,1,none⟩=some (.int .u64 u)∧W.cell? ⟨w.heap.size,2,none⟩=some (.int .u64 d))→(Since (w3) W'∧W'.cell? ⟨w.heap.size,0,none⟩=some (.int .u64 p)∧W'.cell? ⟨w.heap.size,1,none⟩=some (.int .u64 u)∧W'.cell? ⟨w.heap.size,2,none⟩=some (.int .u64 d)):=fun W W' k ⟨h,h0,h1,h2⟩=>⟨h.trans k,keep_cell k h0,keep_cell k h1,keep_cell k h2⟩
  have hrS:(fun W:World=>Since (w3) W∧W.cell? ⟨w.heap.size,0,none⟩=some (.int .u64 p)∧W.cell? ⟨w.heap.size,1,none⟩=some (.int .u64 u)∧W.cell? ⟨w.heap.size,2,none⟩=some (.int .u64 d)) (w3):=⟨Since.refl _,by first | assumption | (simp; done),by first | assumption | (simp; done),by first | assumption | (simp; done)⟩
  have hrD:(fun W:World=>Since (w3) W∧W.cell? ⟨w.heap.size,0,none⟩=some (.int .u64 p)∧W.cell? ⟨w.heap.size,1,none⟩=some (.int .u64 u)∧W.cell? ⟨w.heap.size,2,none⟩=some (.int .u64 d)) (World.drew (w3)):=⟨(Since.refl _).drew,hrS.2⟩
  have HRK:=Lib.hid hrK
  have HRD:=Lib.hid hrD
  clear hrK hrS hrD
  go_region_held3 (fun W=>Since (w3) W∧W.cell? ⟨w.heap.size,0,none⟩=some (.int .u64 p)∧W.cell? ⟨w.heap.size,1,none⟩=some (.int .u64 u)∧W.cell? ⟨w.heap.size,2,none⟩=some (.int .u64 d)) (first | exact HRD.out | (apply HRK.out; assumption; assumption)) (first | (go_at_call 92; refine (hallR _ _ _ _ _ hu hd _).mono ?_; rintro e w4 ⟨rfl,hb4⟩)|(go_at_call 169; refine (otR _ HWW.out _).mono ?_; rintro e w' ⟨rfl,rfl⟩))
  rename_i hq
  obtain ⟨hs4,hc4_0_0,hc4_0_1,hc4_0_2⟩:=hq
  clear HRK HRD
  have hl4_0:w.heap.size < w4.heap.size:=World.block_lt_of_cell? _ _ hc4_0_0
  have HS4:=Lib.hid hs4
  clear hs4
  go_wp2_with (first | (go_at_call 169; refine (otR _ HWW.out _).mono ?_; rintro e w' ⟨rfl,rfl⟩))
  all_goals
   go_ret2
   exact ⟨ret_wo (by rw [HW.out]; unfold onW; rw [HSV.out,HP.out]; unfold fst2; first | (simp [*]; done)|(simp_all; done)) (by rw [HO.out]; unfold onO; rw [HSV.out,HP.out]; first | (simp [*]; done)|(simp_all; done)),sn_⟩
set_option maxHeartbeats 4000000 in
theorem nextRn (p u d f way j:Int) (hf:f≠j) (hw:way=1∨way=2) (hp:R p) (hu:R u) (hd:R d) (w:World):Calls Tryz.prog 91 #[.agg #[.int .u64 p,.int .u64 u,.int .u64 d],.int .i64 f,.int .i64 way,.int .i64 j] w fun e w'=>e=.returned (.tuple #[.int .i64 (nxW p u d f way j),.bool (nxO p u d f way j)])∧Since w w':=by
 have HWW:=Lib.hid hw
 have hz:(way == 0)=false:=by rcases hw with rfl | rfl <;> rfl
 have e1:(f == j)=false:=by simpa using hf
 have e2:(f != j)=true:=by simpa using hf
 have HW:=Lib.hid (show nxW p u d f way j=onW p u d f way j from if_neg (by simpa using hz))
 have HO:=Lib.hid (show nxO p u d f way j=onO p u d f way j from if_neg (by simpa using hz))
 have HSV:=Lib.hid (sv_way p u d f j way hw)
 have HP:=Lib.hid (show heB p 0 0 f=mem p f by unfold heB; rw [al_mem hp R.zero R.zero]; simp [mem,tb])
 clear hw
 go_enter Tryz.func91,Tryz.ntmps91
 go_wp2_with fail
 refine (anyR _ _ _ _ hp hu hd _).mono ?_
 rintro e w1 ⟨rfl,hb1⟩
 have hq1:w.heap.size < w1.heap.size:=by have:=hb1.size; simp at this; omega
 have g0:w1.cell? ⟨w.heap.size,0,none⟩=some (.int .u64 p):=new_alloc hb1 rfl
 have g1:w1.cell? ⟨w.heap.size,1,none⟩=some (.int .u64 u):=new_alloc hb1 rfl
 have g2:w1.cell? ⟨w.heap.size,2,none⟩=some (.int .u64 d):=new_alloc hb1 rfl
 go_wp2_with fail
 have hrK:∀ W W':World,Since W W'→(Since (w1) W∧W.cell? ⟨w.heap.size,0,none⟩=some (.int .u64 p)∧W.cell? ⟨w.heap.size,1,none⟩=some (.int .u64 u)∧W.cell? ⟨w.heap.size,2,none⟩=some (.int .u64 d))→(Since (w1) W'∧W'.cell? ⟨w.heap.size,0,none⟩=some (.int .u64 p)∧W'.cell? ⟨w.heap.size,1,none⟩=some (.int .u64 u)∧W'.cell? ⟨w.heap.size,2,none⟩=some (.int .u64 d)):=fun W W' k ⟨h,h0,h1,h2⟩=>⟨h.trans k,keep_cell k h0,keep_cell k h1,keep_cell k h2⟩
 have hrS:(fun W:World=>Since (w1) W∧W.cell? ⟨w.heap.size,0,none⟩=some (.int .u64 p)∧W.cell? ⟨w.heap.size,1,none⟩=some (.int .u64 u)∧W.cell? ⟨w.heap.size,2,none⟩=some (.int .u64 d)) (w1):=⟨Since.refl _,by first | assumption | (simp; done),by first | assumption | (simp; done),by first | assumption | (simp; done)⟩
 have hrD:(fun W:World=>Since (w1) W∧W.cell? ⟨w.heap.size,0,none⟩=some (.int .u64 p)∧W.cell? ⟨w.heap.size,1,none⟩=some (.int .u64 u)∧W.cell? ⟨w.heap.size,2,none⟩=some (.int .u64 d)) (World.drew (w1)):=⟨(Since.refl _).drew,hrS.2⟩
 have HRK:=Lib.hid hrK
 have HRD:=Lib.hid hrD
 clear hrK hrS hrD
 go_region_held3 (fun W=>Since (w1) W∧W.cell? ⟨w.heap.size,0,none⟩=some (.int .u64 p)∧W.cell? ⟨w.heap.size,1,none⟩=some (.int .u64 u)∧W.cell? ⟨w.heap.size,2,none⟩=some (.int .u64 d)) (first | exact HRD.out | (apply HRK.out; assumption; assumption)) (first | (go_at_call 168; refine (aheadR _ _ _ _ _ hp hu hd _).mono ?_; rintro e w2 ⟨rfl,hb2⟩)|(go_at_call 169; refine (otR _ HWW.out _).mono ?_; rintro e w' ⟨rfl,rfl⟩))
 rename_i hq
 obtain ⟨hs2,hc2_0_0,hc2_0_1,hc2_0_2⟩:=hq
 clear HRK HRD
 have hl2_0:w.heap.size < w2.heap.size:=World.block_lt_of_cell? _ _ hc2_0_0
 have HS2:=Lib.hid hs2
 clear hs2
 go_wp2_with (first | (go_at_call 92; refine (hallR _ _ _ _ _ hu hd _).mono ?_; rintro e w3 ⟨rfl,hb3⟩; have hq3:w.heap.size < w3.heap.size:=(by have:=hb3.size; omega); obtain ⟨hc3,hf3⟩:=hb3.cf)|(go_at_call 170; refine (hasR _ _ hp _).mono ?_; rintro e w' ⟨rfl,rfl⟩)|(go_at_call 169; refine (otR _ HWW.out _).mono ?_; rintro e w' ⟨rfl,rfl⟩))
 any_goals
  go_ret2
  exact ⟨ret_wo (by rw [HW.out]; unfold onW; rw [HSV.out,HP.out]; unfold fst2; first | (simp [*]; done)|(simp_all; done)) (by rw [HO.out]; unfold onO; rw [HSV.out,HP.out]; first | (simp [*]; done)|(simp_all; done)),sn_⟩
 all_goals
  have g3:=keep_cell hb3 hc2_0_0
  have g4:=keep_cell hb3 hc2_0_1
  have g5:=keep_cell hb3 hc2_0_2
  clear hc3 hf3
  have hrK:∀ W W':World,Since W W'→(Since (w3) W∧W.cell? ⟨w.heap.size,0,none⟩=some (.int .u64 p)∧W.cell? ⟨w.heap.size,1,none⟩=some (.int .u64 u)∧W.cell? ⟨w.heap.size,2,none⟩=some (.int .u64 d))→(Since (w3) W'∧W'.cell? ⟨w.heap.size,0,none⟩=some (.int .u64 p)∧W'.cell? ⟨w.heap.size,1,none⟩=some (.int .u64 u)∧W'.cell? ⟨w.heap.size,2,none⟩=some (.int .u64 d)):=fun W W' k ⟨h,h0,h1,h2⟩=>⟨h.trans k,keep_cell k h0,keep_cell k h1,keep_cell k h2⟩
  have hrS:(fun W:World=>Since (w3) W∧W.cell? ⟨w.heap.size,0,none⟩=some (.int .u64 p)∧W.cell? ⟨w.heap.size,1,none⟩=some (.int .u64 u)∧W.cell? ⟨w.heap.size,2,none⟩=some (.int .u64 d)) (w3):=⟨Since.refl _,by first | assumption | (simp; done),by first | assumption | (simp; done),by first | assumption | (simp; done)⟩
  have hrD:(fun W:World=>Since (w3) W∧W.cell? ⟨w.heap.size,0,none⟩=some (.int .u64 p)∧W.cell? ⟨w.heap.size,1,none⟩=some (.int .u64 u)∧W.cell? ⟨w.heap.size,2,none⟩=some (.int .u64 d)) (World.drew (w3)):=⟨(Since.refl _).drew,hrS.2⟩
  have HRK:=Lib.hid hrK
  have HRD:=Lib.hid hrD
  clear hrK hrS hrD
  go_region_held3 (fun W=>Since (w3) W∧W.cell? ⟨w.heap.size,0,none⟩=some (.int .u64 p)∧W.cell? ⟨w.heap.size,1,none⟩=some (.int .u64 u)∧W.cell? ⟨w.heap.size,2,none⟩=some (.int .u64 d)) (first | exact HRD.out | (apply HRK.out; assumption; assumption)) (first | (go_at_call 92; refine (hallR _ _ _ _ _ hu hd _).mono ?_; rintro e w4 ⟨rfl,hb4⟩)|(go_at_call 169; refine (otR _ HWW.out _).mono ?_; rintro e w' ⟨rfl,rfl⟩))
  rename_i hq
  obtain ⟨hs4,hc4_0_0,hc4_0_1,hc4_0_2⟩:=hq
  clear HRK HRD
  have hl4_0:w.heap.size < w4.heap.size:=World.block_lt_of_cell? _ _ hc4_0_0
  have HS4:=Lib.hid hs4
  clear hs4
  go_wp2_with (first | (go_at_call 169; refine (otR _ HWW.out _).mono ?_; rintro e w' ⟨rfl,rfl⟩))
  all_goals
   go_ret2
   exact ⟨ret_wo (by rw [HW.out]; unfold onW; rw [HSV.out,HP.out]; unfold fst2; first | (simp [*]; done)|(simp_all; done)) (by rw [HO.out]; unfold onO; rw [HSV.out,HP.out]; first | (simp [*]; done)|(simp_all; done)),sn_⟩
theorem nextR (p u d f way j:Int) (hw:way=0∨way=1∨way=2) (hp:R p) (hu:R u) (hd:R d) (w:World):Calls Tryz.prog 91 #[.agg #[.int .u64 p,.int .u64 u,.int .u64 d],.int .i64 f,.int .i64 way,.int .i64 j] w fun e w'=>e=.returned (.tuple #[.int .i64 (nxW p u d f way j),.bool (nxO p u d f way j)])∧Since w w':=by
 rcases hw with rfl | hw
 ·exact nextR0 p u d f j hp hu hd w
 ·by_cases hf:f=j
  ·subst hf; exact nextRe p u d f way hw hp hu hd w
  ·exact nextRn p u d f way j hf hw hp hu hd w
end Sc
namespace Sc
open Go.Proofs.YtpiiblkiddcgcaaGreat.St
end Sc
namespace Ct
open Go.RowKit Ba Mem Go.Proofs.YtpiiblkiddcgcaaGreat.Ty Do Mo Go.Proofs.YtpiiblkiddcgcaaGreat.St Sc Pl
def mayB (c:CfgV) (x:CarV):Bool:=goodB c x && decide ((x.mo=0∨x.mo=1)∧(lvB x.un=true∨¬ x.wy=0)∧(¬ x.mo=1∨(0≤x.ta∧x.ta < fl c.fl)))
theorem mayB_iff (c:CfgV) (x:CarV):mayB c x=true↔(goodB c x=true∧(x.mo=0∨x.mo=1)∧(lvB x.un=true∨¬ x.wy=0)∧(¬ x.mo=1∨(0≤x.ta∧x.ta < fl c.fl))):=by unfold mayB; simp
theorem step_un (c:CfgV) (x:CarV) (r:Int) (o k:Bool):((stepV c x r o k).un=x.un∧(stepV c x r o k).wy=x.wy)∨(x.br=false∧x.ds=0∧(stepV c x r o k).ds=0∧(r=1∨r=2)∧(stepV c x r o k).wy=r):=by
 show (un1 c x r o k=x.un∧wy1 c x r o k=x.wy)∨(x.br=false∧x.ds=0∧dS1 c x o k=0∧(r=1∨r=2)∧wy1 c x r o k=r)
 unfold un1 wy1
 by_cases g:goesB c x r o k=true
 ·rw [if_pos g,if_pos g]
  have g':=of_decide_eq_true (show decide _=true from g)
  exact .inr ⟨g'.1,g'.2.1,g'.2.2.1,g'.2.2.2,rfl⟩
 ·rw [if_neg g,if_neg g]
  exact .inl ⟨rfl,rfl⟩
theorem st_in (p u d f j:Int):stW p u d f j=0∨stW p u d f j=1∨stW p u d f j=2:=by
 unfold stW fst2; (repeat' split) <;> omega
theorem nx_in {p u d f way j:Int} (h:way=0∨way=1∨way=2):nxW p u d f way j=0∨nxW p u d f way j=1∨nxW p u d f way j=2:=by
 unfold nxW
 split
 ·exact st_in _ _ _ _ _
 ·unfold onW ot
  try unfold stW
  try unfold fst2
  (repeat' split) <;> omega
theorem dw_in (n:Int):1≤dwV n∧dwV n≤1000:=by unfold dwV m1; (repeat' split) <;> omega
theorem tk_same (c:CfgV) (x:CarV):(tkX c x).ds=x.ds∧(tkX c x).da=x.da∧(tkX c x).un=x.un∧(tkX c x).br=x.br∧(tkX c x).mo=x.mo∧(tkX c x).ta=x.ta∧(tkX c x).bl=x.bl∧(tkX c x).ho=x.ho:=by
 unfold tkX ldX goX stX svX
 (repeat' split) <;> exact ⟨rfl,rfl,rfl,rfl,rfl,rfl,rfl,rfl⟩
theorem tk_wy (c:CfgV) (x:CarV) (h:x.wy=0∨x.wy=1∨x.wy=2):((tkX c x).wy=0∨(tkX c x).wy=1∨(tkX c x).wy=2)∧(lvB x.un=false→x.ds=0∨(tkX c x).wy=x.wy)∧(lvB x.un=false→(tkX c x).wy=x.wy):=by
 have hn:=nx_in (p:=x.sp) (u:=x.su) (d:=x.sd) (f:=lvN x.un) (j:=x.ju) h
 refine ⟨?_, ?_, ?_⟩
 ·unfold tkX ldX goX stX svX nW
  (repeat' split) <;> first | exact h | exact hn
 ·intro hl
  unfold tkX ldX goX stX svX
  rw [hl]
  simp only [if_true]
  (repeat' split) <;> first | exact .inr rfl
 ·intro hl
  unfold tkX ldX goX stX svX
  rw [hl]
  simp only [if_true]
  (repeat' split) <;> rfl
theorem tk_ti (c:CfgV) (x:CarV) (n:Int) (h0 : -n≤x.ti) (hn:0≤n) (h1:x.ti≤2000) : -(n+1)≤(tkX c x).ti∧(tkX c x).ti≤2000:=by
 have hd:=dw_in c.dw
 unfold tkX ldX goX stX svX
 (repeat' split) <;> (first | omega | (simp only []; omega)|(dsimp only; omega))
theorem tk_R (c:CfgV) (x:CarV) (hp:R x.sp) (hu:R x.su) (hd:R x.sd):R (tkX c x).sp∧R (tkX c x).su∧R (tkX c x).sd:=by
 have cU:∀ f w,R (clU x.su f w):=fun f w=>by unfold clU; split; exact an_R hu (bit_R f); exact hu
 have cD:∀ f w,R (clD x.sd f w):=fun f w=>by unfold clD; split; exact an_R hd (bit_R f); exact hd
 unfold tkX ldX goX stX svX
 (repeat' split) <;> first | exact ⟨hp,hu,hd⟩|exact ⟨an_R hp (bit_R _),cU _ _,cD _ _⟩
theorem tk_may (c:CfgV) (x:CarV) (h:mayB c x=true):mayB c (tkV c x)=true:=by
 rw [mayB_iff] at h
 obtain ⟨hg,hm,hl,ht⟩:=h
 obtain ⟨e1,e2,e3,e4,e5,e6,e7,e8⟩:=tk_same c x
 have hg0:=(goodB_iff c x).1 hg
 have hw:=tk_wy c x hg0.2.2.2.1
 have hgX:goodB c (tkX c x)=true:=by
  rw [goodB_iff,e1,e2,e3]
  exact ⟨hg0.1,hg0.2.1,hg0.2.2.1,hw.1,hg0.2.2.2.2⟩
 have hgs:=good_step c (tkX c x) (tkR x) (tkO x) (tkK c x) hgX
 rw [mayB_iff]
 refine ⟨hgs, ?_, ?_, ?_⟩
 ·show (tkX c x).mo=0∨(tkX c x).mo=1
  rw [e5]; exact hm
 ·rcases step_un c (tkX c x) (tkR x) (tkO x) (tkK c x) with ⟨h1,h2⟩ | ⟨_,_,_,h4,h5⟩
  ·cases hq:lvB x.un with
   | true=>left; show lvB (stepV c _ _ _ _).un=true; rw [h1,e3]; exact hq
   | false =>
    right
    show ¬ (stepV c _ _ _ _).wy=0
    rw [h2,hw.2.2 hq]
    rcases hl with h | h
    ·rw [hq] at h; exact absurd h (by decide)
    ·exact h
  ·right; show ¬ (stepV c _ _ _ _).wy=0; rw [h5]; omega
 ·show ¬ (tkX c x).mo=1∨(0≤(tkX c x).ta∧(tkX c x).ta < fl c.fl)
  rw [e5,e6]; exact ht
theorem may_ta {c:CfgV} {x:CarV} (h:mayB c x=true) (hm:x.mo=1) : -1099511627776≤x.ta∧x.ta≤1099511627776:=by
 have h1:=((mayB_iff c x).1 h).2.2.2
 have:=fl_hi c.fl
 omega
theorem may_bd {c:CfgV} {x:CarV} (h:mayB c x=true):bdX x∧0≤x.un∧x.un≤252:=by
 have hb:=good_bd c x ((mayB_iff c x).1 h).1
 exact ⟨⟨⟨hb.1,hb.2.1⟩,by omega,by omega⟩,hb.2.2.1,hb.2.2.2⟩
end Ct
end Go.Proofs.YtpiiblkiddcgcaaGreat
