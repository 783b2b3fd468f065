/-
  Wanted: part 12.
  No condition.
-/
import Derived.Defers
import Derived.Test.YtepfmfalebmcnaaGreatDoorProg
import Derived.Test.YtepfmfalebmcnaaGreatDoorQH0
import Derived.Test.YtepfmfalebmcnaaGreatDoorQH11
import Derived.Test.YtepfmfalebmcnaaGreatDoorQH6
import Derived.Test.YtepfmfalebmcnaaGreatDoorQH8
import Derived.Test.YtepfmfalebmcnaaGreatDoorQH10
import Derived.Test.YtepfmfalebmcnaaGreatDoorRows
import Derived.Test.YtepfmfalebmcnaaGreatDoorQH1
import Derived.Deep.Slices
import Derived.Test.YtepfmfalebmcnaaGreatDoorQH9
set_option linter.all false
namespace Go.Proofs.YtepfmfalebmcnaaGreatDoor
namespace En
open Go.RowKit Ba Mem
section
variable {X:Cx} {s:St} {o:Oper} {t:TypeId}
theorem opsh (hX:X.Ok) {K:St→Prop} {y y2:Ty} {x a1:Operand} {A:Option Addr} {len cap:Nat} (h1:Nat) {k1:IntKind} {H:Int} (ho:o.op=.slice t x none (some a1) none) (hx:evO x s.fr=some (.v (.slice A len cap))) (h3:evO a1 s.fr=some (.i k1 H)) (hy:tyO t X.tab=some y) (hs:y.sl=true) (he:tyO y.el X.tab=some y2)
  (hb:H=h1∧h1≤cap) (h:put X.n o.dst (.v (.slice A h1 cap)) s K):OpVC X o s K :=
 opq (.v (.slice A h1 cap)) (fun a w hf _=>by
  obtain ⟨d,i,T⟩:=(hX.tab _ _ hy).out
  obtain ⟨d',i',T'⟩:=(hX.tab _ _ he).out
  refine exec_slice (s:=y2.size) t y.el x none (some a1) none ho (by rw [(evO_of hf hx).2]; rfl) (by rw [T.un,T.sl hs]) (by rw [T'.inf]; simp [T'.size]) (by
   have e2:=(evO_of hf h3).2
   simp only [Option.map,e2,den]
   exact sb_h w k1 hb.1 hb.2) ?_ (Nat.sub_zero _) (Nat.sub_zero _)
  split
  ·rfl
  ·cases A with
   | none=>rfl
   | some a=>simp [Addr.add]) h rfl
end
end En
namespace Fq
open Go.RowKit Ba Mem Cm Fm
open En (tab tab_ok SV St Asr Row Cx den denL Hold ent entH sgo br_not br_t br_f br_dec br_b fin_s fin_r fin_e kpt drA wr_i opiv opxc opsh callS callH callN hold_q)
open Go.Proofs.YtepfmfalebmcnaaGreatDoor.Byt (BV isB cells)
set_option maxRecDepth 100000
attribute [local irreducible] Go.wpList
def SO (lo s N:Nat) (xs:List Int) (S:List Nat) (w:World):Prop :=
 lo≤s∧∃ A n c tk zs,S=s::blkOf A∧Blk w s 93 #[.slice A n c,.int .i64 ((tk:Nat):Int)]∧w.ownsRow lo 5 1 (.slice A n c) n (cells zs)∧(∀ z∈zs,isB z)∧tk≤n∧zs.drop tk=xs∧n≤N
section
variable {w w':World} {lo s b N:Nat} {xs:List Int} {S T:List Nat}
theorem SO.upd (k:Upd T w w') (h:SO lo s N xs S w) (hT:∀ g∈S,g∉T):SO lo s N xs S w':=by
 obtain ⟨h0,A,n,c,tk,zs,rfl,B,O,r⟩:=h
 exact ⟨h0,A,n,c,tk,zs,rfl,k.blk B (hT _ (by simp)),k.own O (fun g hg=>hT g (by simp [hg])),r⟩
theorem SO.low (h:SO lo s N xs S w):∀ g∈S,lo≤g:=by
 obtain ⟨h0,A,n,c,tk,zs,rfl,B,O,r⟩:=h
 intro g hg
 rcases List.mem_cons.1 hg with rfl | hg
 ·exact h0
 ·exact own_low O g hg
theorem SO.lt (h:SO lo s N xs S w):∀ g∈S,g < w.heap.size:=by
 obtain ⟨h0,A,n,c,tk,zs,rfl,B,O,r⟩:=h
 intro g hg
 rcases List.mem_cons.1 hg with rfl | hg
 ·exact B.lt
 ·exact own_lt O g hg
theorem SO.far (h:SO lo s N xs S w) (hb:w.heap.size≤b):b∉S:=fun hm=>by have:=h.lt b hm; omega
theorem SO.more {N':Nat} (h:SO lo s N xs S w) (hb:N≤N'):SO lo s N' xs S w:=by
 obtain ⟨h0,A,n,c,tk,zs,rfl,B,O,r1,r2,r3,r4⟩:=h
 exact ⟨h0,A,n,c,tk,zs,rfl,B,O,r1,r2,r3,by omega⟩
theorem SO.new (h:Blk w s 93 #[.slice none 0 0,.int .i64 0]) (hs:lo≤s):SO lo s 0 [] [s] w :=
 ⟨hs,none,0,0,0,[],rfl,h,World.ownsRow_nil _ _ _ _,by simp,Nat.le_refl _,rfl,Nat.le_refl _⟩
end
theorem bv_drop {w:World} {A:Option Addr} {n k c:Nat} {zs:List Int} (h:BV w A n zs) (hk:k≤n) (hc:n≤c):BV w (cutA c k A 1) (n - k) (zs.drop k):=by
 obtain ⟨h1,h2,h3,h4⟩:=h
 refine ⟨by rw [List.length_drop]; omega,by omega,fun z hz=>h3 z (List.mem_of_mem_drop hz), ?_⟩
 rcases Nat.lt_or_ge k n with hlt | hge
 ·rcases h4 with h4 | ⟨b,off,rfl,hb,hcell⟩
  ·omega
  ·refine .inr ⟨b,off+k, ?_,hb,fun j hj=>?_⟩
   ·unfold cutA
    rw [if_neg (by omega)]
    simp [Go.WideShapes.add_plain]
   ·rw [Nat.add_assoc,hcell (k+j) (by omega)]
    simp [List.getD]
 ·exact .inl (by omega)
theorem cutA_some {c k off g:Nat} (h:k < c):cutA c k (some ⟨g,off,none⟩) 1=some ⟨g,off+k,none⟩:=by
 unfold cutA
 rw [if_neg (by omega)]
 simp [Go.WideShapes.add_plain]
theorem bv_at {w:World} {g off n:Nat} {zs:List Int} (h:BV w (some ⟨g,off,none⟩) n zs) (j:Nat) (hj:j < n) {v:Int} (hv:zs.getD j 0=v):w.cell? ⟨g,off+j,none⟩=some (.int .u8 v):=by
 obtain ⟨b,o,e,_,hc⟩:=h.addr (by omega)
 simp only [Option.some.injEq,Addr.mk.injEq,and_true] at e
 obtain ⟨rfl,rfl⟩:=e
 rw [hc j hj,hv]
theorem getD_isB {zs:List Int} (h:∀ z∈zs,isB z) (j:Nat):isB (zs.getD j 0):=by
 by_cases hj:j < zs.length
 ·rw [show zs.getD j 0=zs[j] by simp [List.getD,hj]]; exact h _ (List.getElem_mem hj)
 ·rw [show zs.getD j 0=0 by simp [List.getD,hj]]; unfold isB; omega
theorem seal_isB {zs:List Int} (h:∀ z∈zs,isB z):∀ z∈zs++be4 (crcN zs),isB z:=by
 intro z hz
 rcases List.mem_append.1 hz with h1 | h1
 ·exact h z h1
 ·exact be4_isB _ z h1
def byO (g off n:Nat) (zs:List Int):Asr:=⟨[g],false,fun w=>BV w (some ⟨g,off,none⟩) n zs∧0 < n,fun u hd h=>by
 obtain ⟨⟨h1,h2,h3,h4⟩,h5⟩:=h
 rcases h4 with h4 | ⟨b,o,e,hlt,hc⟩
 ·omega
 ·simp only [Option.some.injEq,Addr.mk.injEq,and_true] at e
  obtain ⟨rfl,rfl⟩:=e
  refine ⟨⟨h1,h2,h3,.inr ⟨_,_,rfl,Nat.lt_of_lt_of_le hlt u.size,fun j hj=>?_⟩⟩,h5⟩
  have hq:=u.block _ hlt (hd _ (List.mem_singleton.2 rfl))
  have hc:=hc j hj
  unfold World.cell? at hc ⊢
  rw [hq]; exact hc,fun h x hx=>by
 obtain ⟨⟨h1,h2,h3,h4⟩,h5⟩:=h
 rcases h4 with h4 | ⟨b,o,e,hlt,hc⟩
 ·omega
 ·simp only [Option.some.injEq,Addr.mk.injEq,and_true] at e
  obtain ⟨rfl,rfl⟩:=e
  rw [List.mem_singleton.1 hx]; exact hlt⟩
def owO (lo:Nat) (A:Option Addr) (n c:Nat) (zs:List Int):Asr:=⟨blkOf A,true,fun w=>w.ownsRow lo 5 1 (.slice A n c) n (cells zs),fun k hd hs=>k.own hs hd,fun h=>own_lt h⟩
theorem bv_rng {w:World} {g off n:Nat} {zs:List Int} (h:BV w (some ⟨g,off,none⟩) n zs) (j:Nat) (hj:j < n) {v:Int} (hv:zs.getD j 0=v):w.rangeAt g (off+j) [.int .u8 v]:=fun i u hi=>by
 cases i with
 | zero=>simp at hi; subst hi; simpa using bv_at h j hj hv
 | succ i=>simp at hi
section
variable {g off n c k:Nat} {x:Int} {r:List Int} {w:World}
theorem first_n (hb:BV w (some ⟨g,off,none⟩) n (x::r)):0 < n:=by have:=hb.1; simp at this; omega
theorem firstF1 (g off n c:Nat) (x:Int) (r:List Int) (w:World) (hb:BV w (some ⟨g,off,none⟩) n (x::r)) (hc:n≤c) (hn:n≤1000000) (h1:x≠165):Calls Tryz.prog 134 #[.slice (some ⟨g,off,none⟩) n c] w fun e w'=>e=.returned (.tuple #[.slice none 0 0,.bool true])∧Since w w':=by
 have hn0:=first_n hb
 refine entH tab_ok (Hold.addObj (Hold.nil _ tab [] _ w) (byO g off n (x::r)) ⟨hb,hn0⟩ (by intro k; cases k) (by intro r hr; cases hr) (by intro A hA; cases hA)) [.v (.slice (some ⟨g,off,none⟩) n c)] Tryz.func134 Tryz.ntmps134 rfl rfl ?_
 repeat' (first | refine gq_ ?_|((conv=>whnf); first | refine bto ?_|refine bfo ?_|refine br_t (bne_iff_ne.2 h1) ?_|refine iv_ ?_|refine opxc (g:=g) (off:=off+0) (.i .u8 x) (fun w hH=>bv_rng (Co.Hold.ob hH (A:=byO g off n (x::r)) 0 rfl).1 0 hn0 rfl) ⟨tab_ok⟩ (by rfl) (by rfl) (by simp only [Go.WideShapes.add_plain]; rfl) ?_|refine fin_s ?_))
 all_goals rfl
theorem firstF2 (g off n c:Nat) (x:Int) (r:List Int) (w:World) (hb:BV w (some ⟨g,off,none⟩) n (x::r)) (hc:n≤c) (hn:n≤1000000) (h1:x=165) (h2:n < 2):Calls Tryz.prog 134 #[.slice (some ⟨g,off,none⟩) n c] w fun e w'=>e=.returned (.tuple #[.slice none 0 0,.bool false])∧Since w w':=by
 have hn0:=first_n hb
 refine entH tab_ok (Hold.addObj (Hold.nil _ tab [] _ w) (byO g off n (x::r)) ⟨hb,hn0⟩ (by intro k; cases k) (by intro r hr; cases hr) (by intro A hA; cases hA)) [.v (.slice (some ⟨g,off,none⟩) n c)] Tryz.func134 Tryz.ntmps134 rfl rfl ?_
 repeat' (first | refine gq_ ?_|((conv=>whnf); first | refine bto ?_|refine bfo ?_|refine br_f (bnf h1) ?_|refine iv_ ?_|refine opxc (g:=g) (off:=off+0) (.i .u8 x) (fun w hH=>bv_rng (Co.Hold.ob hH (A:=byO g off n (x::r)) 0 rfl).1 0 hn0 rfl) ⟨tab_ok⟩ (by rfl) (by rfl) (by simp only [Go.WideShapes.add_plain]; rfl) ?_|refine fin_s ?_))
 all_goals rfl
theorem firstF3 (g off n c:Nat) (x:Int) (r:List Int) (w:World) (hb:BV w (some ⟨g,off,none⟩) n (x::r)) (hc:n≤c) (hn:n≤1000000) (h1:x=165) (h2:¬ n < 2) (h3:okN (r.getD 0 0)=false):Calls Tryz.prog 134 #[.slice (some ⟨g,off,none⟩) n c] w fun e w'=>e=.returned (.tuple #[.slice none 0 0,.bool true])∧Since w w':=by
 have hn0:=first_n hb
 have hz:0≤r.getD 0 0∧r.getD 0 0 < 256:=getD_isB (fun z hz=>hb.2.2.1 z (List.mem_cons_of_mem _ hz)) 0
 refine entH tab_ok (Hold.addObj (Hold.nil _ tab [] _ w) (byO g off n (x::r)) ⟨hb,hn0⟩ (by intro k; cases k) (by intro r hr; cases hr) (by intro A hA; cases hA)) [.v (.slice (some ⟨g,off,none⟩) n c)] Tryz.func134 Tryz.ntmps134 rfl rfl ?_
 repeat' (first | refine gq_ ?_|((conv=>whnf); first | refine bto ?_|refine bfo ?_|refine wr_i ?_|refine br_f (bnf h1) ?_|refine iv_ ?_|refine opxc (g:=g) (off:=off+0) (.i .u8 x) (fun w hH=>bv_rng (Co.Hold.ob hH (A:=byO g off n (x::r)) 0 rfl).1 0 hn0 rfl) ⟨tab_ok⟩ (by rfl) (by rfl) (by simp only [Go.WideShapes.add_plain]; rfl) ?_|refine opxc (g:=g) (off:=off+1) (.i .u8 (r.getD 0 0)) (fun w hH=>bv_rng (Co.Hold.ob hH (A:=byO g off n (x::r)) 0 rfl).1 1 (by omega) (by simp [List.getD])) ⟨tab_ok⟩ (by rfl) (by rfl) (by simp only [Go.WideShapes.add_plain]; rfl) ?_|refine callS (f:=193) (.b false) (fun w=>countedV _ _ w h3) ?_|refine fin_s ?_))
 all_goals rfl
theorem firstF4 (g off n c k:Nat) (x:Int) (r:List Int) (w:World) (hb:BV w (some ⟨g,off,none⟩) n (x::r)) (hc:n≤c) (hn:n≤1000000) (h1:x=165) (h2:¬ n < 2) (h3:okN (k:Int)=true) (hk:r.getD 0 0=(k:Int)) (h4:n < k+6):Calls Tryz.prog 134 #[.slice (some ⟨g,off,none⟩) n c] w fun e w'=>e=.returned (.tuple #[.slice none 0 0,.bool false])∧Since w w':=by
 have hn0:=first_n hb
 have hk6:1≤k∧k≤64:=by have:=of_decide_eq_true h3; omega
 have hB:=hb.2.2.1
 refine entH tab_ok (Hold.addObj (Hold.nil _ tab [] _ w) (byO g off n (x::r)) ⟨hb,hn0⟩ (by intro k; cases k) (by intro r hr; cases hr) (by intro A hA; cases hA)) [.v (.slice (some ⟨g,off,none⟩) n c)] Tryz.func134 Tryz.ntmps134 rfl rfl ?_
 repeat' (first | refine gq_ ?_|((conv=>whnf); first | refine bto ?_|refine bfo ?_|refine wr_i ?_|refine br_f (bnf h1) ?_|refine iv_ ?_|refine opxc (g:=g) (off:=off+0) (.i .u8 x) (fun w hH=>bv_rng (Co.Hold.ob hH (A:=byO g off n (x::r)) 0 rfl).1 0 hn0 rfl) ⟨tab_ok⟩ (by rfl) (by rfl) (by simp only [Go.WideShapes.add_plain]; rfl) ?_|refine opxc (g:=g) (off:=off+1) (.i .u8 (k:Int)) (fun w hH=>bv_rng (Co.Hold.ob hH (A:=byO g off n (x::r)) 0 rfl).1 1 (by omega) (by rw [← hk]; simp [List.getD])) ⟨tab_ok⟩ (by rfl) (by rfl) (by simp only [Go.WideShapes.add_plain]; rfl) ?_|refine callS (f:=193) (.b true) (fun w=>countedV _ _ w h3) ?_|refine fin_s ?_))
 all_goals rfl
theorem firstF5 (g off n c k:Nat) (x:Int) (r:List Int) (w:World) (hb:BV w (some ⟨g,off,none⟩) n (x::r)) (hc:n≤c) (hn:n≤1000000) (h1:x=165) (h2:¬ n < 2) (h3:okN (k:Int)=true) (hk:r.getD 0 0=(k:Int)) (h4:¬ n < k+6) (h5:(x::r).take (k+2)++be4 (crcN ((x::r).take (k+2)))≠(x::r).take (k+6)):Calls Tryz.prog 134 #[.slice (some ⟨g,off,none⟩) n c] w fun e w'=>e=.returned (.tuple #[.slice none 0 0,.bool true])∧Since w w':=by
 have hn0:=first_n hb
 have hk6:1≤k∧k≤64:=by have:=of_decide_eq_true h3; omega
 have hB:=hb.2.2.1
 refine entH tab_ok (Hold.addObj (Hold.nil _ tab [] _ w) (byO g off n (x::r)) ⟨hb,hn0⟩ (by intro k; cases k) (by intro r hr; cases hr) (by intro A hA; cases hA)) [.v (.slice (some ⟨g,off,none⟩) n c)] Tryz.func134 Tryz.ntmps134 rfl rfl ?_
 repeat' (first | refine gq_ ?_|((conv=>whnf); first | refine bto ?_|refine bfo ?_|refine wr_i ?_|refine br_f (bnf h1) ?_|refine iv_ ?_|refine opxc (g:=g) (off:=off+0) (.i .u8 x) (fun w hH=>bv_rng (Co.Hold.ob hH (A:=byO g off n (x::r)) 0 rfl).1 0 hn0 rfl) ⟨tab_ok⟩ (by rfl) (by rfl) (by simp only [Go.WideShapes.add_plain]; rfl) ?_|refine opxc (g:=g) (off:=off+1) (.i .u8 (k:Int)) (fun w hH=>bv_rng (Co.Hold.ob hH (A:=byO g off n (x::r)) 0 rfl).1 1 (by omega) (by rw [← hk]; simp [List.getD])) ⟨tab_ok⟩ (by rfl) (by rfl) (by simp only [Go.WideShapes.add_plain]; rfl) ?_|refine callS (f:=193) (.b true) (fun w=>countedV _ _ w h3) ?_|refine drA (id:=11) ⟨tab_ok⟩ [6] ?_|refine And.intro ?_ ?_|refine opsh ⟨tab_ok⟩ (k+2) (by rfl) (by rfl) (by rfl) (by rfl) (by rfl) (by rfl) ⟨by omega,by omega⟩ ?_|refine opsh ⟨tab_ok⟩ (k+6) (by rfl) (by rfl) (by rfl) (by rfl) (by rfl) (by rfl) ⟨by omega,by omega⟩ ?_|refine callN (f:=194) (ι:=Option Addr×Nat) (fun y=>.v (.slice y.1 (k+2+4) y.2)) (fun y=>owO w.heap.size y.1 (k+2+4) y.2 ((x::r).take (k+2)++be4 (crcN ((x::r).take (k+2))))) (fun w1 hH=>(sealedT ⟨g,off,none⟩ (k+2) c ((x::r).take (k+2)) w1 ((Co.Hold.ob hH (A:=byO g off n (x::r)) 0 rfl).1.cut (by omega)) (by omega) (by omega) (by omega)).mono (by rintro e w' ⟨A',c',rfl,q1,q2⟩; exact ⟨(A',c'),rfl,own_base q1 hH.upd.size,q2,own_low q1⟩)) (fun y=>?_)|refine callH (f:=195) (.b false) (fun w1 hH=>equalNo y.1 (k+2+4) y.2 (some ⟨g,off,none⟩) (k+6) c _ _ w1 (Byt.BV.of_own (Co.Hold.ob hH (A:=owO w.heap.size y.1 (k+2+4) y.2 ((x::r).take (k+2)++be4 (crcN ((x::r).take (k+2))))) 1 rfl) (seal_isB (fun z hz=>hB z (List.mem_of_mem_take hz)))) ((Co.Hold.ob hH (A:=byO g off n (x::r)) 0 rfl).1.cut (by omega)) h5) ?_|refine fin_s ?_))
 all_goals rfl
theorem firstF6 (g off n c k:Nat) (x:Int) (r:List Int) (w:World) (hb:BV w (some ⟨g,off,none⟩) n (x::r)) (hc:n≤c) (hn:n≤1000000) (h1:x=165) (h2:¬ n < 2) (h3:okN (k:Int)=true) (hk:r.getD 0 0=(k:Int)) (h4:¬ n < k+6) (h5:(x::r).take (k+2)++be4 (crcN ((x::r).take (k+2)))=(x::r).take (k+6)):Calls Tryz.prog 134 #[.slice (some ⟨g,off,none⟩) n c] w fun e w'=>e=.returned (.tuple #[.slice (some ⟨g,off,none⟩) (k+2) c,.bool true])∧Since w w':=by
 have hn0:=first_n hb
 have hk6:1≤k∧k≤64:=by have:=of_decide_eq_true h3; omega
 have hB:=hb.2.2.1
 refine entH tab_ok (Hold.addObj (Hold.nil _ tab [] _ w) (byO g off n (x::r)) ⟨hb,hn0⟩ (by intro k; cases k) (by intro r hr; cases hr) (by intro A hA; cases hA)) [.v (.slice (some ⟨g,off,none⟩) n c)] Tryz.func134 Tryz.ntmps134 rfl rfl ?_
 repeat' (first | refine gq_ ?_|((conv=>whnf); first | refine bto ?_|refine bfo ?_|refine wr_i ?_|refine br_f (bnf h1) ?_|refine iv_ ?_|refine opxc (g:=g) (off:=off+0) (.i .u8 x) (fun w hH=>bv_rng (Co.Hold.ob hH (A:=byO g off n (x::r)) 0 rfl).1 0 hn0 rfl) ⟨tab_ok⟩ (by rfl) (by rfl) (by simp only [Go.WideShapes.add_plain]; rfl) ?_|refine opxc (g:=g) (off:=off+1) (.i .u8 (k:Int)) (fun w hH=>bv_rng (Co.Hold.ob hH (A:=byO g off n (x::r)) 0 rfl).1 1 (by omega) (by rw [← hk]; simp [List.getD])) ⟨tab_ok⟩ (by rfl) (by rfl) (by simp only [Go.WideShapes.add_plain]; rfl) ?_|refine callS (f:=193) (.b true) (fun w=>countedV _ _ w h3) ?_|refine drA (id:=11) ⟨tab_ok⟩ [6] ?_|refine And.intro ?_ ?_|refine opsh ⟨tab_ok⟩ (k+2) (by rfl) (by rfl) (by rfl) (by rfl) (by rfl) (by rfl) ⟨by omega,by omega⟩ ?_|refine opsh ⟨tab_ok⟩ (k+6) (by rfl) (by rfl) (by rfl) (by rfl) (by rfl) (by rfl) ⟨by omega,by omega⟩ ?_|refine callN (f:=194) (ι:=Option Addr×Nat) (fun y=>.v (.slice y.1 (k+2+4) y.2)) (fun y=>owO w.heap.size y.1 (k+2+4) y.2 ((x::r).take (k+2)++be4 (crcN ((x::r).take (k+2))))) (fun w1 hH=>(sealedT ⟨g,off,none⟩ (k+2) c ((x::r).take (k+2)) w1 ((Co.Hold.ob hH (A:=byO g off n (x::r)) 0 rfl).1.cut (by omega)) (by omega) (by omega) (by omega)).mono (by rintro e w' ⟨A',c',rfl,q1,q2⟩; exact ⟨(A',c'),rfl,own_base q1 hH.upd.size,q2,own_low q1⟩)) (fun y=>?_)|refine callH (f:=195) (.b true) (fun w1 hH=>equalYes y.1 (k+2+4) y.2 (some ⟨g,off,none⟩) (k+6) c _ _ w1 (Byt.BV.of_own (Co.Hold.ob hH (A:=owO w.heap.size y.1 (k+2+4) y.2 ((x::r).take (k+2)++be4 (crcN ((x::r).take (k+2))))) 1 rfl) (seal_isB (fun z hz=>hB z (List.mem_of_mem_take hz)))) ((Co.Hold.ob hH (A:=byO g off n (x::r)) 0 rfl).1.cut (by omega)) h5) ?_|refine fin_s ?_))
 all_goals rfl
end
theorem heldA (s:Nat) (A:Option Addr) (n c tk:Nat) (w:World) (hb:Blk w s 93 #[.slice A n c,.int .i64 ((tk:Nat):Int)]) (ht:tk≤n) (hn:n≤1000000):Calls Tryz.prog 133 #[.pointer (some ⟨s,0,none⟩)] w fun e w'=>e=.returned (.int .i64 ((n:Int) - (tk:Int)))∧Since w w':=by
 refine entH tab_ok (hold_q (S:=[]) [.v (.slice A n c),.i .i64 ((tk:Nat):Int)] hb) [.p 0 0] Tryz.func133 Tryz.ntmps133 rfl rfl ?_
 repeat' (first | refine gs_ ?_|((conv=>whnf); first | refine wr_i ?_|refine fin_s ?_))
 all_goals rfl
set_option maxHeartbeats 4000000 in
theorem feedA (lo s:Nat) (A:Option Addr) (n c tk:Nat) (zs:List Int) (A2:Option Addr) (m c2:Nat) (ys:List Int) (w:World) (hq:Blk w s 93 #[.slice A n c,.int .i64 ((tk:Nat):Int)]) (ho:w.ownsRow lo 5 1 (.slice A n c) n (cells zs)) (hb:BV w A2 m ys) (hn:n+m≤1000000) (h0:lo≤s):Calls Tryz.prog 98 #[.pointer (some ⟨s,0,none⟩),.slice A2 m c2] w fun e w'=>e=.returned (.tuple #[])∧∃ A' c',Blk w' s 93 #[.slice A' (n+m) c',.int .i64 ((tk:Nat):Int)]∧w'.ownsRow lo 5 1 (.slice A' (n+m) c') (n+m) (cells (zs++ys))∧Upd (s::blkOf A) w w'∧∀ g∈blkOf A',g∈blkOf A∨w.heap.size≤g:=by
 have HBQ:=Lib.hid hq
 clear hq
 have HOW:=Lib.hid ho
 clear ho
 have HB:=Lib.hid hb
 clear hb
 have HN:=Lib.hid hn
 clear hn
 have H0:=Lib.hid h0
 clear h0
 go_enter Tryz.func98,Tryz.ntmps98
 have HS1:=Lib.hid (Upd.refl (s::blkOf A) w)
 have HIQ:=Lib.hid (own_ne_ty HOW.out HBQ.out (by decide))
 have HLO:=Lib.hid (show lo≤w.heap.size by have:=Blk.lt HBQ.out; have:=H0.out; omega)
 go_upto_region 0 with fail
 refine wp_region_lit ?_
 refine tkL (.pointer (some ⟨s,0,none⟩)) (h:=?_)
 try simp only[Act.put,sA,sB,sC]
 refine tkL (.bool false) (h:=?_)
 try simp only[Act.put,sA,sB,sC]
 refine wpList_nil ?_
 go_upto_region 1 with fail
 refine wp_region_lit ?_
 refine tkL (.pointer (some ⟨s,0,none⟩)) (h:=?_)
 try simp only[Act.put,sA,sB,sC]
 refine tkL (.pointer (some ⟨s,0,none⟩)) (h:=?_)
 try simp only[Act.put,sA,sB,sC]
 refine tkL (.pointer (some ⟨s,0,none⟩)) (h:=?_)
 try simp only[Act.put,sA,sB,sC]
 refine tkL (.pointer (some ⟨s,0,none⟩)) (h:=?_)
 try simp only[Act.put,sA,sB,sC]
 refine wpList_q (by rfl) (.slice A n c) ?he ?_
 case he=>exact exec_cell 29 _ _ HBQ.out rfl rfl rfl Tryz.underlying29 rfl
 try simp only[Act.put,sA,sB,sC]
 refine tkL (.slice A2 m c2) (h:=?_)
 try simp only[Act.put,sA,sB,sC]
 refine wpList_wp (by rfl) (fun K hK=>?_)
 refine wp_append_row (.tmp 10) (.tmp 11) 29 rfl lo 5 (Value.int .u8 0) 1 1 Tryz.underlying29 (by kernel_rfl) rfl (by decide) (by decide) A n c (cells zs) rfl HOW.out _ A2 m c2 (cells ys) rfl (bv_reads HB.out) (Byt.cells_one ys) HN.out HLO.out (n+m) (cells (zs++ys)) rfl (cells_app _ _) ?_
 intro A_1 c_1 w2 hown hupd hfar
 refine hK.out _ _ ?_
 clear hK K
 try simp only[Act.put,sA,sB,sC]
 have HFAR:=Lib.hid hfar
 have HS2:=Lib.hid (Upd.comp HS1.out hupd (fun x h=>.inl (List.mem_cons_of_mem _ h)))
 have HBQ2:=Lib.hid (Upd.blk hupd HBQ.out HIQ.out)
 have HIQ_r_2:=Lib.hid (nin_next hfar HIQ.out (Blk.lt HBQ.out))
 have HFr2:=Lib.hid hown
 clear hupd hown hfar HS1 HBQ HOW
 refine tkL (.pointer (some ⟨s,0,none⟩)) (h:=?_)
 try simp only[Act.put,sA,sB,sC]
 refine tkL (.pointer (some ⟨s,0,none⟩)) (h:=?_)
 try simp only[Act.put,sA,sB,sC]
 refine wpList_wp (by rfl) (fun K hK=>?_)
 refine wp_st_cell 29 _ _ rfl #[.slice A_1 (n+m) c_1,.int .i64 ((tk:Nat):Int)] (.slice A_1 (n+m) c_1) rfl rfl HBQ2.out (by show 0 < 2; decide) rfl (by first | rfl | simp [Value.oneCell']) (by kernel_rfl) ?_
 intro w3 hw
 refine hK.out _ _ ?_
 clear hK K
 try simp only[Act.put,sA,sB,sC]
 have HS3:=Lib.hid (show Upd (s::blkOf A) w w3 by rw [hw]; exact Upd.setRow HS2.out (.inl (by simp)) _)
 have HBQ3:=Lib.hid (show Blk w3 s 93 #[.slice A_1 (n+m) c_1,.int .i64 ((tk:Nat):Int)] by rw [hw]; exact Blk.row HBQ2.out _)
 have HFr_3:=Lib.hid (show (w3).ownsRow lo 5 1 (.slice A_1 (n+m) c_1) (n+m) (cells (zs++ys)) by rw [hw]; exact own_row_far HFr2.out HIQ_r_2.out _)
 clear hw HS2 HBQ2 HFr2
 refine wpList_nil ?_
 (try go_wp2_with fail)
 first | go_end0 | refine bodyPost_ret (results_none rfl _ _ _) rfl ?_
 exact ⟨rfl,A_1,c_1,HBQ3.out,HFr_3.out,HS3.out,HFAR.out⟩
theorem feedT (lo s N:Nat) (xs:List Int) (S:List Nat) (A2:Option Addr) (m c2:Nat) (ys:List Int) (w:World) (h:SO lo s N xs S w) (hb:BV w A2 m ys) (hN:N+m≤1000000) :
  Calls Tryz.prog 98 #[.pointer (some ⟨s,0,none⟩),.slice A2 m c2] w fun e w'=>∃ S',e=.returned (.tuple #[])∧SO lo s (N+m) (xs++ys) S' w'∧Upd S w w'∧∀ g∈S',g∈S∨w.heap.size≤g:=by
 obtain ⟨h0,A,n,c,tk,zs,rfl,B,O,r1,r2,r3,r4⟩:=h
 have hl:zs.length=n:=by have:=O.1; simpa [cells] using this
 refine (feedA lo s A n c tk zs A2 m c2 ys w B O hb (by omega) h0).mono ?_
 rintro e w1 ⟨rfl,A',c',B',O',hu,hfar⟩
 refine ⟨s::blkOf A',rfl,⟨h0,A',n+m,c',tk,zs++ys,rfl,B',O', ?_,by omega, ?_,by omega⟩,hu,fun g hg=>?_⟩
 ·intro z hz
  rcases List.mem_append.1 hz with h1 | h1
  ·exact r1 z h1
  ·exact hb.2.2.1 z h1
 ·rw [List.drop_append_of_le_length (by omega),r3]
 ·rcases List.mem_cons.1 hg with rfl | hg
  ·exact .inl (by simp)
  ·rcases hfar g hg with h1 | h1
   ·exact .inl (List.mem_cons_of_mem _ h1)
   ·exact .inr h1
end Fq
namespace En
open Go.RowKit Ba Mem
section
variable {X:Cx} {s:St} {o:Oper} {t:TypeId}
theorem opst_ (hX:X.Ok) {K:St→Prop} {y y2:Ty} {x a1:Operand} {A:Option Addr} {len cap:Nat} (l:Nat) {k1:IntKind} {L:Int} (ho:o.op=.slice t x (some a1) none none) (hx:evO x s.fr=some (.v (.slice A len cap))) (h3:evO a1 s.fr=some (.i k1 L)) (hy:tyO t X.tab=some y) (hs:y.sl=true) (he:tyO y.el X.tab=some y2)
  (hb:L=l∧l≤len) (h:put X.n o.dst (.v (.slice (cutA cap l A y2.size) (len - l) (cap - l))) s K):OpVC X o s K :=
 opq (.v (.slice (cutA cap l A y2.size) (len - l) (cap - l))) (fun a w hf _=>by
  obtain ⟨d,i,T⟩:=(hX.tab _ _ hy).out
  obtain ⟨d',i',T'⟩:=(hX.tab _ _ he).out
  exact exec_slice (s:=y2.size) t y.el x (some a1) none none ho (by rw [(evO_of hf hx).2]; rfl) (by rw [T.un,T.sl hs]) (by rw [T'.inf]; simp [T'.size]) (by
   have e2:=(evO_of hf h3).2
   simp only [Option.map,e2,den]
   exact sb_l w k1 hb.1 hb.2) rfl rfl rfl) h rfl
end
theorem entD {P:Program} {T:Tab} (hT:TabOk P T) {f:FuncId} {fn:Func} {c:Code} {n:Nat} {args:Array Value} {u:FrameMode} {w:World} {R:Ending→World→Prop} {S:List Nat} {m:List Row} {ob:List Asr} (hH:Hold ⟨P,T,S,w,n,[]⟩ m ob w) (vs:List SV)
  (hf:P.funcs[f]?=some fn) (hn:fn.ntmps=n) (hb:fn.body=some c) (hargs:(denL m vs).toArray=args)
  (h:numbK 0 vs fun fr=>run ⟨P,T,S,w,n,[]⟩ c ⟨fr,m,ob⟩ (finK ⟨P,T,S,w,n,[]⟩ fn R))
  (hok:(okL m.length vs && Nat.ble vs.length n)=true:=by rfl):CallsD P f args u w fun e u' w'=>u'=u∧R e w':=by
 have hX:(⟨P,T,S,w,n,[]⟩:Cx).Ok:=⟨hT⟩
 simp only [Bool.and_eq_true] at hok
 have hle:=Nat.le_of_ble_eq_true hok.2
 refine callsD_of_wp hf hb ?_
 have h1:=run_of hX (numbK_of h)
 replace h1:=h1.out
 refine Code.wp_mono (fin_of hX rfl) (h1 _ _ ⟨rfl, ?_,fun k v hv=>?_,hH⟩)
 ·subst hargs; simp [denL_len,hn]; omega
 ·obtain ⟨_,h2⟩:=numb_lk hv
  simp only [Nat.sub_zero] at h2
  refine ⟨okL_at hok.1 h2, ?_⟩
  subst hargs
  have hlt:k < (denL m vs).toArray.size:=by simp [denL_len]; exact (List.getElem?_eq_some_iff.1 h2).1
  rw [Array.getElem?_append_left hlt,List.getElem?_toArray,denL_get,h2]; rfl
end En
namespace Fq
open Go.RowKit Ba Mem Cm Fm
open En (tab tab_ok SV St Asr Row Cx den denL Hold sgo br_not br_t br_f br_dec br_b fin fin_s fin_r fin_e kpt drA wr_i opst_ callH callN entD rowA_nil)
open Go.Proofs.YtepfmfalebmcnaaGreatDoor.Byt (BV isB cells)
set_option maxRecDepth 100000
attribute [local irreducible] Go.wpList
theorem forgetNo (lo s:Nat) (A:Option Addr) (n c tk:Nat) (zs:List Int) (u:FrameMode) (w:World) (hq:Blk w s 93 #[.slice A n c,.int .i64 ((tk:Nat):Int)]) (ho:w.ownsRow lo 5 1 (.slice A n c) n (cells zs)) (hb:∀ z∈zs,isB z) (ht:tk≤n) (hn:n≤1000000) (h0:lo≤s) (hg:¬ n < tk+tk):CallsD Tryz.prog 132 #[.pointer (some ⟨s,0,none⟩)] u w fun e u' w'=>u'=u∧(e=.returned (.tuple #[])∧∃ S',SO lo s n (zs.drop tk) S' w'∧Upd (s::blkOf A) w w'∧∀ g∈S',g∈s::blkOf A∨w.heap.size≤g):=by
 refine entD tab_ok (Hold.addObj (Hold.addRow (m:=[]) (Hold.nil _ tab (s::blkOf A) _ w) ⟨s,93,true,0,[],[.v (.slice A n c),.i .i64 ((tk:Nat):Int)],[],true⟩ hq (fun _=>.inl (List.mem_cons_self ..)) (by intro q hq; cases hq) (by intro A hA; cases hA)) (owO lo A n c zs) ho (fun _ g hg=>.inl (List.mem_cons_of_mem _ hg)) (by intro r hr _ hm; simp only [List.nil_append,List.mem_singleton] at hr; subst hr; exact own_ne_ty ho hq (by decide) hm) (by intro A hA; cases hA)) [.p 0 0] Tryz.func132 Tryz.ntmps132 rfl rfl ?_
 repeat' (first | refine gs_ ?_|((conv=>whnf); first | refine bto ?_|refine bfo ?_|refine callH (f:=133) (.i .i64 ((n:Int) - (tk:Int))) (fun w1 hH=>(by have hr:=hH.row 0 _ rfl rfl; rw [rowA_nil rfl rfl] at hr; exact heldA s A n c tk w1 hr ht hn)) ?_|refine fin fun w' hH=>?_|refine fin_s ?_))
 have hr:=hH.row 0 _ rfl rfl
 rw [rowA_nil rfl rfl] at hr
 exact ⟨rfl,s::blkOf A,⟨h0,A,n,c,tk,zs,rfl,hr,Co.Hold.ob hH (A:=owO lo A n c zs) 0 rfl,hb,ht,rfl,Nat.le_refl _⟩,hH.upd,fun g hg=>.inl hg⟩
theorem forgetYes (lo s:Nat) (A:Option Addr) (n c tk:Nat) (zs:List Int) (u:FrameMode) (w:World) (hq:Blk w s 93 #[.slice A n c,.int .i64 ((tk:Nat):Int)]) (ho:w.ownsRow lo 5 1 (.slice A n c) n (cells zs)) (hb:∀ z∈zs,isB z) (ht:tk≤n) (hn:n≤1000000) (h0:lo≤s) (hg:n < tk+tk):CallsD Tryz.prog 132 #[.pointer (some ⟨s,0,none⟩)] u w fun e u' w'=>u'=u∧(e=.returned (.tuple #[])∧∃ S',SO lo s n (zs.drop tk) S' w'∧Upd (s::blkOf A) w w'∧∀ g∈S',g∈s::blkOf A∨w.heap.size≤g):=by
 have hslt:=Blk.lt hq
 refine entD tab_ok (Hold.addObj (Hold.addRow (m:=[]) (Hold.nil _ tab (s::blkOf A) _ w) ⟨s,93,true,0,[],[.v (.slice A n c),.i .i64 ((tk:Nat):Int)],[],true⟩ hq (fun _=>.inl (List.mem_cons_self ..)) (by intro q hq; cases hq) (by intro A hA; cases hA)) (owO lo A n c zs) ho (fun _ g hg=>.inl (List.mem_cons_of_mem _ hg)) (by intro r hr _ hm; simp only [List.nil_append,List.mem_singleton] at hr; subst hr; exact own_ne_ty ho hq (by decide) hm) (by intro A hA; cases hA)) [.p 0 0] Tryz.func132 Tryz.ntmps132 rfl rfl ?_
 repeat' (first | refine gq_ ?_|((conv=>whnf); first | refine drA (id:=1) ⟨tab_ok⟩ [9] ?_|refine drA ⟨tab_ok⟩ [] ?_|refine bto ?_|refine bfo ?_|refine callH (f:=133) (.i .i64 ((n:Int) - (tk:Int))) (fun w1 hH=>(by have hr:=hH.row 0 _ rfl rfl; rw [rowA_nil rfl rfl] at hr; exact heldA s A n c tk w1 hr ht hn)) ?_|refine opst_ ⟨tab_ok⟩ tk (by rfl) (by rfl) (by rfl) (by rfl) (by rfl) (by rfl) ⟨rfl,ht⟩ ?_|refine callN (f:=135) (ι:=Option Addr×Nat) (fun y=>.v (.slice y.1 (n - tk) y.2)) (fun y=>owO w.heap.size y.1 (n - tk) y.2 (zs.drop tk)) (fun w1 hH=>(cloneB (cutA c tk A 1) (n - tk) (c - tk) (zs.drop tk) w1 (bv_drop (Byt.BV.of_own (Co.Hold.ob hH (A:=owO lo A n c zs) 0 rfl) hb) ht (own_cap2 ho)) (by omega)).mono (by rintro e w' ⟨A',c',rfl,q1,q2⟩; exact ⟨(A',c'),rfl,own_base q1 hH.upd.size,q2,own_low q1⟩)) (fun y=>?_)|refine fin fun w' hH=>?_|refine fin_s ?_))
 have hr:=hH.row 0 _ rfl rfl
 rw [rowA_nil rfl rfl] at hr
 refine ⟨rfl,s::blkOf y.1,⟨h0,y.1,n - tk,y.2,0,zs.drop tk,rfl,hr,own_base (Co.Hold.ob hH (A:=owO w.heap.size y.1 (n - tk) y.2 (zs.drop tk)) 1 rfl) (by omega),fun z hz=>hb z (List.mem_of_mem_drop hz),Nat.zero_le _,rfl,Nat.sub_le _ _⟩,hH.upd,fun g hg=>?_⟩
 rcases List.mem_cons.1 hg with rfl | hg
 ·exact .inl (List.mem_cons_self ..)
 ·exact .inr (own_low (Co.Hold.ob hH (A:=owO w.heap.size y.1 (n - tk) y.2 (zs.drop tk)) 1 rfl) g hg)
theorem forgetD (lo s:Nat) (A:Option Addr) (n c tk:Nat) (zs:List Int) (u:FrameMode) (w:World) (hq:Blk w s 93 #[.slice A n c,.int .i64 ((tk:Nat):Int)]) (ho:w.ownsRow lo 5 1 (.slice A n c) n (cells zs)) (hb:∀ z∈zs,isB z) (ht:tk≤n) (hn:n≤1000000) (h0:lo≤s) :
  CallsD Tryz.prog 132 #[.pointer (some ⟨s,0,none⟩)] u w fun e u' w'=>u'=u∧(e=.returned (.tuple #[])∧∃ S',SO lo s n (zs.drop tk) S' w'∧Upd (s::blkOf A) w w'∧∀ g∈S',g∈s::blkOf A∨w.heap.size≤g):=by
 by_cases hg:n < tk+tk
 ·exact forgetYes lo s A n c tk zs u w hq ho hb ht hn h0 hg
 ·exact forgetNo lo s A n c tk zs u w hq ho hb ht hn h0 hg
theorem hd_take {r:List Int} {k:Nat} (hk:r.getD 0 0=(k:Int)) (h1:1≤k) (h64:k≤64) (hl:k+5≤r.length):(165::r).take (k+2)=hd (r.tail.take k):=by
 cases r with
 | nil=>simp at hl
 | cons y t =>
  have hy:y=(k:Int):=by simpa [List.getD] using hk
  subst hy
  have hlen:(t.take k).length=k:=by simp at hl; rw [List.length_take]; omega
  show 165::((k:Int)::t).take (k+1)=hd (t.take k)
  unfold hd
  rw [hlen,List.take_succ_cons]
  congr 2
  omega
theorem nx1 {x:Int} {r:List Int} (h:x≠165):nextF (x::r)=nextF r:=by rw [nextF,if_pos h]
theorem nx2 {r:List Int} (h:r=[]):nextF (165::r)=(none,165::r):=by rw [nextF,if_neg (by simp),if_pos h]
theorem nx3 {r:List Int} (h:r≠[]) (hk:okN (r.getD 0 0)=false):nextF (165::r)=nextF r:=by
 have hk2:=of_decide_eq_false hk
 rw [nextF,if_neg (by simp),if_neg h,if_pos (by omega)]
theorem nx4 {r:List Int} {k:Nat} (h:r≠[]) (hk:r.getD 0 0=(k:Int)) (hok:okN (k:Int)=true) (hl:r.length+1 < k+6):nextF (165::r)=(none,165::r):=by
 have hk2:=of_decide_eq_true hok
 rw [nextF,if_neg (by simp),if_neg h,if_neg (by rw [hk]; omega),if_pos (by rw [hk,Int.toNat_natCast]; omega)]
theorem nx5 {r:List Int} {k:Nat} (h:r≠[]) (hk:r.getD 0 0=(k:Int)) (hok:okN (k:Int)=true) (hl:¬ r.length+1 < k+6) (hne:(165::r).take (k+2)++be4 (crcN ((165::r).take (k+2)))≠(165::r).take (k+6)):nextF (165::r)=nextF r:=by
 have hk2:=of_decide_eq_true hok
 rw [hd_take hk (by omega) (by omega) (by omega)] at hne
 rw [nextF,if_neg (by simp),if_neg h,if_neg (by rw [hk]; omega),if_neg (by rw [hk,Int.toNat_natCast]; omega),if_neg (by rw [hk,Int.toNat_natCast]; exact fun e=>hne e.symm)]
theorem nx6 {r:List Int} {k:Nat} (h:r≠[]) (hk:r.getD 0 0=(k:Int)) (hok:okN (k:Int)=true) (hl:¬ r.length+1 < k+6) (he:(165::r).take (k+2)++be4 (crcN ((165::r).take (k+2)))=(165::r).take (k+6)):nextF (165::r)=(some (((165::r).take (k+2)).drop 2),(165::r).drop (k+6)):=by
 have hk2:=of_decide_eq_true hok
 have e0:=hd_take hk (by omega) (by omega) (by omega)
 have e2:((165::r).take (k+2)).drop 2=r.tail.take k:=by rw [e0]; rfl
 rw [e2]
 rw [e0] at he
 rw [nextF,if_neg (by simp),if_neg h,if_neg (by rw [hk]; omega),if_neg (by rw [hk,Int.toNat_natCast]; omega),if_pos (by rw [hk,Int.toNat_natCast]; exact he.symm),hk,Int.toNat_natCast]
def NX (lo s N:Nat) (S:List Nat) (w:World) (y:Option (List Int)×List Int) (e:Ending) (w':World):Prop :=
 ∃ S',SO lo s N y.2 S' w'∧Upd S w w'∧(∀ g∈S',g∈S∨w.heap.size≤g) ∧
  match y.1 with
  | none=>e=.returned (.tuple #[.slice none 0 0,.bool false])
  | some p=>∃ A c,e=.returned (.tuple #[.slice A p.length c,.bool true])∧w'.ownsRow w.heap.size 5 1 (.slice A p.length c) p.length (cells p)∧∀ g∈S',g∉blkOf A
end Fq
namespace En
open Go.RowKit Ba Mem
theorem opnl {X:Cx} {s:St} {o:Oper} {K:St→Prop} {t t2:TypeId} {k:Tmp} {v:SV} (b:Bool) (hr:∀ w,(do eqGuard BinOp.eql t (.tmp k) (.const (.slice none 0 0)) (den s.m v) (.slice none 0 0); binOp BinOp.eql t (den s.m v) (.slice none 0 0):Sem Value).run X.P w=.ok (.bool b) w) (ho:o.op=.binOp .eql t (.tmp k) (.const (.slice none 0 0)) t2) (hx:evO (.tmp k) s.fr=some v) (h:put X.n o.dst (.b b) s K):OpVC X o s K :=
 opq (.b b) (fun a w hf _=>by
  have e1:=(evO_of hf hx).2
  have:=hr w
  have e2:a.eval (.const (.slice none 0 0))=.slice none 0 0:=rfl
  unfold execOp
  simp only [ho,e1,e2]
  rw [Sem.run_bind,this]
  rfl) h rfl
theorem fin_ofD {X:Cx} (hX:X.Ok) {fn:Func} {R:Ending→World→Prop} {Q:Exit→Act→World→Prop} (hT:∀ r∈fn.results.toList,∃ t,r=.tmp t)
  (hq:∀ e a w v,(e=.normal∨e=.ret)→a.defers=X.ds→(∀ w',(results fn a.tmps).run X.P w'=.ok v w')→R (.returned v) w→Q e a w) (e:Exit) (a:Act) (w:World) (h:Qof X (finK X fn R) e a w):Q e a w:=by
 have key:∀ s,Rel X s a w→(resL X.tab s fn.results.toList fun vs=>match vs with
   | [v]=>Fin X R v s
   | vs=>Fin X R (.t vs) s)→a.defers=X.ds∧∃ v,(∀ w',(results fn a.tmps).run X.P w'=.ok v w')∧R (.returned v) w:=fun s hR h=>by
  obtain ⟨vs,h1,h2,h3,h⟩:=resL_of hX hR h
  have h4:∀ w':World,∀ (k:Nat) (r:ResultVar) (v:SV),fn.results.toList[k]?=some r→vs[k]?=some v→resRun X.P a.tmps w' r (den s.m v):=fun w' k r v hr hv=>by
   obtain ⟨t,rfl⟩:=hT r (List.mem_of_getElem? hr)
   exact h3 k _ v hr hv
  match vs,h2,h4,h with
  | [],h2,h4,h=>replace h:=h.out; exact ⟨hR.ds,.tuple (denL s.m []).toArray,fun w'=>results_of h2 (h4 w'),h w hR.h⟩
  | [v],h2,h4,h=>replace h:=h.out; exact ⟨hR.ds,den s.m v,fun w'=>results_of h2 (h4 w'),h w hR.h⟩
  | v::u::r,h2,h4,h=>replace h:=h.out; exact ⟨hR.ds,.tuple (denL s.m (v::u::r)).toArray,fun w'=>results_of h2 (h4 w'),h w hR.h⟩
 cases e with
 | normal=>obtain ⟨s,hR,h⟩:=h; obtain ⟨h1,v,h2,h3⟩:=key s hR h; exact hq _ _ _ v (.inl rfl) h1 h2 h3
 | ret=>obtain ⟨s,hR,h⟩:=h; obtain ⟨h1,v,h2,h3⟩:=key s hR h; exact hq _ _ _ v (.inr rfl) h1 h2 h3
 | exit id=>obtain ⟨s,hR,h⟩:=h; exact h.elim
 | _=>exact h.elim
end En
namespace Fq
open Go.RowKit Ba Mem Cm Fm
open En (tab tab_ok SV St Asr Row Cx Rel Qof finK run run_of den denL Hold FrOk ent entH sgo opnl br_not br_t br_f br_dec br_b fin fin_s fin_r fin_e kpt drA wr_i cd opst_ opsh opq callH callN fin_ofD rowA rowA_nil lp back wk frW)
open Go.Proofs.YtepfmfalebmcnaaGreatDoor.Byt (BV isB cells)
set_option maxRecDepth 100000
attribute [local irreducible] Go.wpList
theorem first_ways {g off n c:Nat} {x:Int} {r:List Int} (hl:(x::r).length=n) (hz:∀ z∈x::r,isB z) (hc:n≤c) (hn:n≤1000000) :
  ((∀ w,BV w (some ⟨g,off,none⟩) n (x::r)→Calls Tryz.prog 134 #[.slice (some ⟨g,off,none⟩) n c] w fun e w'=>e=.returned (.tuple #[.slice none 0 0,.bool false])∧Since w w')∧nextF (x::r)=(none,x::r)) ∨
  ((∀ w,BV w (some ⟨g,off,none⟩) n (x::r)→Calls Tryz.prog 134 #[.slice (some ⟨g,off,none⟩) n c] w fun e w'=>e=.returned (.tuple #[.slice none 0 0,.bool true])∧Since w w')∧nextF (x::r)=nextF r) ∨
  ∃ k:Nat,k+6≤n∧(∀ w,BV w (some ⟨g,off,none⟩) n (x::r)→Calls Tryz.prog 134 #[.slice (some ⟨g,off,none⟩) n c] w fun e w'=>e=.returned (.tuple #[.slice (some ⟨g,off,none⟩) (k+2) c,.bool true])∧Since w w')∧nextF (x::r)=(some (((x::r).take (k+2)).drop 2),(x::r).drop (k+6)):=by
 simp only [List.length_cons] at hl
 by_cases h1:x=165
 rotate_left
 ·exact .inr (.inl ⟨fun w hb=>firstF1 g off n c x r w hb hc hn h1,nx1 h1⟩)
 subst h1
 by_cases h2:n < 2
 ·exact .inl ⟨fun w hb=>firstF2 g off n c 165 r w hb hc hn rfl h2,nx2 (List.eq_nil_of_length_eq_zero (by omega))⟩
 have hr:r≠[]:=fun e=>by rw [e] at hl; simp at hl; omega
 cases h3:okN (r.getD 0 0) with
 | false=>exact .inr (.inl ⟨fun w hb=>firstF3 g off n c 165 r w hb hc hn rfl h2 h3,nx3 hr h3⟩)
 | true =>
  have hk0:=getD_isB (zs:=r) (fun z hz'=>hz z (List.mem_cons_of_mem _ hz')) 0
  obtain ⟨k,hk⟩:∃ k:Nat,r.getD 0 0=(k:Int):=⟨(r.getD 0 0).toNat,by unfold isB at hk0; omega⟩
  have h3k:okN (k:Int)=true:=by rw [← hk]; exact h3
  by_cases h4:n < k+6
  ·exact .inl ⟨fun w hb=>firstF4 g off n c k 165 r w hb hc hn rfl h2 h3k hk h4,nx4 hr hk h3k (by omega)⟩
  by_cases h5:((165:Int)::r).take (k+2)++be4 (crcN ((165::r).take (k+2)))=(165::r).take (k+6)
  ·exact .inr (.inr ⟨k,by omega,fun w hb=>firstF6 g off n c k 165 r w hb hc hn rfl h2 h3k hk h4 h5,nx6 hr hk h3k (by omega) h5⟩)
  ·exact .inr (.inl ⟨fun w hb=>firstF5 g off n c k 165 r w hb hc hn rfl h2 h3k hk h4 h5,nx5 hr hk h3k (by omega) h5⟩)
def NR (lo s:Nat) (A:Option Addr) (n c:Nat) (zs:List Int) (w:World) (y:Option (List Int)×List Int) (e:Ending) (w':World):Prop :=
 ∃ tk:Nat,tk≤n∧y.2=zs.drop tk∧Blk w' s 93 #[.slice A n c,.int .i64 ((tk:Nat):Int)]∧w'.ownsRow lo 5 1 (.slice A n c) n (cells zs)∧Upd (s::blkOf A) w w' ∧
  match y.1 with
  | none=>e=.returned (.tuple #[.slice none 0 0,.bool false])
  | some p=>∃ A1 c1,e=.returned (.tuple #[.slice A1 p.length c1,.bool true])∧w'.ownsRow w.heap.size 5 1 (.slice A1 p.length c1) p.length (cells p)∧∀ g∈blkOf A1,g∉s::blkOf A
structure Nx0 (s:Nat) (A:Option Addr) (n c lo:Nat) (zs xs:List Int) (st:St):Prop where
 out:∃ (fr:List (Nat×SV)) (tk:Nat),tk≤n∧nextF xs=(none,zs.drop tk)∧st=⟨fr,[⟨s,93,true,0,[],[.v (.slice A n c),.i .i64 ((tk:Nat):Int)],[],true⟩],[owO lo A n c zs]⟩
theorem NR.nx {lo s n c:Nat} {A:Option Addr} {zs xs:List Int} {w w':World} {a:Act} {v:Value} (hb:∀ z∈zs,isB z) (hn:n≤1000000) (h0:lo≤s) (hd:a.defers=[⟨.fn (.func 132) #[],#[.pointer (some ⟨s,0,none⟩)]⟩])
  (hr:∀ w',(results Tryz.f99 a.tmps).run Tryz.prog w'=.ok v w') (h:NR lo s A n c zs w (nextF xs) (.returned v) w'):Leaves Tryz.prog Tryz.f99 a.tmps (NX lo s n (s::blkOf A) w (nextF xs)) a.defers .returning w':=by
 obtain ⟨tk,h1,h2,h3,h4,h5,h6⟩:=h
 rw [hd]
 refine leaves_cons (f:=132) (args:=#[.pointer (some ⟨s,0,none⟩)]) (by simp) (by simp [go_sem]) ?_
 refine (forgetD lo s A n c tk zs .returning w' h3 h4 hb h1 hn h0).mono ?_
 rintro e u' wz ⟨rfl,rfl,S',hSO,hU,hfar⟩
 refine ⟨v,hr _,S',by rw [h2]; exact hSO,Upd.comp h5 hU (fun g h=>.inl h),fun g hg=>(hfar g hg).imp id (fun h=>Nat.le_trans h5.size h), ?_⟩
 match y:(nextF xs).1,h6 with
 | none,h6=>exact h6
 | some p,⟨A1,c1,e1,e2,e3⟩ =>
  refine ⟨A1,c1,e1,hU.own e2 e3,fun g hg hg1=>?_⟩
  rcases hfar g hg with h | h
  ·exact e3 g hg1 h
  ·have:=own_lt e2 g hg1; omega
theorem NR.none_ {lo s n c tk:Nat} {A:Option Addr} {zs:List Int} {w w':World} {y:Option (List Int)×List Int} (e1:y=(none,zs.drop tk)) (h1:tk≤n) (h3:Blk w' s 93 #[.slice A n c,.int .i64 ((tk:Nat):Int)]) (h4:w'.ownsRow lo 5 1 (.slice A n c) n (cells zs)) (h5:Upd (s::blkOf A) w w'):NR lo s A n c zs w y (.returned (.tuple #[.slice none 0 0,.bool false])) w':=by
 subst e1; exact ⟨tk,h1,rfl,h3,h4,h5,rfl⟩
theorem NR.some_ {lo s n c tk m c1:Nat} {A A1:Option Addr} {zs p:List Int} {w w':World} {y:Option (List Int)×List Int} (e1:y=(some p,zs.drop tk)) (hm:p.length=m) (h1:tk≤n) (h3:Blk w' s 93 #[.slice A n c,.int .i64 ((tk:Nat):Int)]) (h4:w'.ownsRow lo 5 1 (.slice A n c) n (cells zs)) (h5:Upd (s::blkOf A) w w') (h6:w'.ownsRow w.heap.size 5 1 (.slice A1 m c1) m (cells p)) (h7:∀ g∈blkOf A1,g∉s::blkOf A):NR lo s A n c zs w y (.returned (.tuple #[.slice A1 m c1,.bool true])) w':=by
 subst e1 hm; exact ⟨tk,h1,rfl,h3,h4,h5,A1,c1,rfl,h6,h7⟩
theorem two_tmp:∀ r∈Tryz.f99.results.toList,∃ t,r=ResultVar.tmp t:=by
 intro r hr
 have:Tryz.f99.results.toList=[.tmp 2,.tmp 3]:=by kernel_rfl
 rw [this] at hr
 simp only [List.mem_cons,List.not_mem_nil,or_false] at hr
 rcases hr with rfl | rfl <;> exact ⟨_,rfl⟩
set_option maxHeartbeats 4000000 in
theorem nextA (lo s:Nat) (A:Option Addr) (n c tk0:Nat) (zs xs:List Int) (w:World) (hq:Blk w s 93 #[.slice A n c,.int .i64 ((tk0:Nat):Int)]) (ho:w.ownsRow lo 5 1 (.slice A n c) n (cells zs)) (hb:∀ z∈zs,isB z) (ht:tk0≤n) (hn:n≤1000000) (h0:lo≤s) (hx:zs.drop tk0=xs):Calls Tryz.prog 99 #[.pointer (some ⟨s,0,none⟩)] w (NX lo s n (s::blkOf A) w (nextF xs)):=by
 have hiq:=own_ne_ty ho hq (by decide)
 have hcp:=own_cap2 ho
 have hzl:zs.length=n:=by have:=ho.1; simpa [cells] using this
 have hX:(⟨Tryz.prog,tab,s::blkOf A,w,49,[⟨.fn (.func 132) #[],#[.pointer (some ⟨s,0,none⟩)]⟩]⟩:Cx).Ok:=⟨tab_ok⟩
 go_enter_defers Tryz.func99,Tryz.ntmps99
 go_upto_region 1 with fail
 refine wp_region_lit ?_
 refine tkL (.pointer (some ⟨s,0,none⟩)) (h:=?_)
 try simp only[Act.put,sA,sB,sC]
 refine tkL (.bool false) (h:=?_)
 try simp only[Act.put,sA,sB,sC]
 refine wpList_nil ?_
 go_upto_region 3 with fail
 go_wp2_with fail
 rename_i K hK
 refine Code.wp_mono (fun e a' w' hq'=>?_) ((lp (X:=⟨Tryz.prog,tab,s::blkOf A,w,49,[⟨.fn (.func 132) #[],#[.pointer (some ⟨s,0,none⟩)]⟩]⟩) (K:=fun e st=>match e with | .exit 0=>Nx0 s A n c lo zs xs st | .ret=>finK ⟨Tryz.prog,tab,s::blkOf A,w,49,[⟨.fn (.func 132) #[],#[.pointer (some ⟨s,0,none⟩)]⟩]⟩ Tryz.f99 (NR lo s A n c zs w (nextF xs)) .ret st | _=>False) (s:=⟨[(0,.p 0 0)],[⟨s,93,true,0,[],[.v (.slice A n c),.i .i64 ((tk0:Nat):Int)],[],true⟩],[owO lo A n c zs]⟩) hX (ι:={tk:Nat // tk≤n∧nextF (zs.drop tk)=nextF xs}) (fun v=>match v with | ⟨tk,_⟩=>⟨[(0,.p 0 0)],[⟨s,93,true,0,[],[.v (.slice A n c),.i .i64 ((tk:Nat):Int)],[],true⟩],[owO lo A n c zs]⟩) (fun v=>n - v.1) ⟨tk0,ht,by rw [hx]⟩ (wk ?_) ?_).out _ _ ⟨rfl,rfl, ?_, ?_⟩)
 ·match e,hq' with
  | .exit 0,hq' =>
   obtain ⟨st,hR,hN⟩:=hq'
   obtain ⟨fr,tk,h1,h2,rfl⟩:=Nx0.out hN
   refine hK _ _ (Code.wp_mono (fin_ofD hX two_tmp (fun e a w v he hd hr hv=>?_)) ((run_of (K:=finK ⟨Tryz.prog,tab,s::blkOf A,w,49,[⟨.fn (.func 132) #[],#[.pointer (some ⟨s,0,none⟩)]⟩]⟩ Tryz.f99 (NR lo s A n c zs w (nextF xs))) hX ?_).out _ _ hR))
   ·rcases he with rfl | rfl <;> exact NR.nx hb hn h0 hd hr hv
   ·repeat' (first | refine gs_ ?_|((conv=>whnf); first | refine bto ?_|refine bfo ?_|refine fin fun w' hH=>?_|refine fin_s ?_))
    have hr:=hH.row 0 _ rfl rfl
    rw [rowA_nil rfl rfl] at hr
    exact NR.none_ h2 h1 hr (Co.Hold.ob hH (A:=owO lo A n c zs) 0 rfl) hH.upd
  | .ret,hq' =>
   obtain ⟨st,hR,hN⟩:=hq'
   have:bodyPostD Tryz.prog Tryz.f99 (NX lo s n (s::blkOf A) w (nextF xs)) .ret a' w':=fin_ofD (R:=NR lo s A n c zs w (nextF xs)) hX two_tmp (fun e a w v he hd hr hv=>by rcases he with rfl | rfl <;> exact NR.nx hb hn h0 hd hr hv) .ret a' w' ⟨st,hR,hN⟩
   exact this
  | .normal,hq'=>obtain ⟨st,hR,hN⟩:=hq'; exact hN.elim
  | .exit (k+1),hq'=>obtain ⟨st,hR,hN⟩:=hq'; exact hN.elim
 ·repeat' (first | exact trivial | rfl | ((conv=>whnf); refine And.intro ?_ ?_))
 ·rintro ⟨tk,htk,hnx⟩
  have htk:tk≤n:=htk
  have hnx:nextF (zs.drop tk)=nextF xs:=hnx
  by_cases hlt:tk < n
  rotate_left
  ·repeat' (first | refine gs_ ?_|((conv=>whnf); first | refine bto ?_|refine bfo ?_|refine wr_i ?_|refine callH (f:=133) (.i .i64 ((n:Int) - (tk:Int))) (fun w1 hH=>(by have hr:=hH.row 0 _ rfl rfl; rw [rowA_nil rfl rfl] at hr; exact heldA s A n c tk w1 hr htk hn)) ?_|refine Nx0.mk ⟨_,tk,htk, ?_,rfl⟩|refine fin_s ?_))
   have e:zs.drop tk=[]:=List.drop_eq_nil_of_le (by omega)
   rw [← hnx,e]; rfl
  ·obtain ⟨gb,hgb⟩:=own_addr ho (by omega)
   subst hgb
   obtain ⟨x,r,hxr⟩:∃ x r,zs.drop tk=x::r:=⟨_,_,List.drop_eq_getElem_cons (by omega)⟩
   have hcut:cutA c tk (some ⟨gb,0,none⟩) 1=some ⟨gb,tk,none⟩:=by rw [cutA_some (by omega),Nat.zero_add]
   have hl:(x::r).length=n - tk:=by rw [← hxr,List.length_drop]; omega
   have hzb:∀ z∈x::r,isB z:=fun z hz=>hb z (List.mem_of_mem_drop (by rw [hxr]; exact hz))
   have hdr:zs.drop (tk+1)=r:=by rw [← List.drop_drop,hxr]; rfl
   have bvw:∀ w1:World,w1.ownsRow lo 5 1 (.slice (some ⟨gb,0,none⟩) n c) n (cells zs)→BV w1 (some ⟨gb,tk,none⟩) (n - tk) (x::r):=fun w1 h=>by
    have q:=bv_drop (Byt.BV.of_own h hb) htk (own_cap2 h)
    rw [hcut,hxr] at q; exact q
   rcases first_ways (g:=gb) (off:=tk) (n:=n - tk) (c:=c - tk) hl hzb (by omega) (by omega) with ⟨hf,hx1⟩ | ⟨hf,hx1⟩ | ⟨k,hk,hf,hx1⟩
   ·repeat' (first | refine gq_ ?_|((conv=>whnf); first | refine drA (id:=5) ⟨tab_ok⟩ [8] ?_|refine bto ?_|refine bfo ?_|refine wr_i ?_|refine callH (f:=133) (.i .i64 ((n:Int) - (tk:Int))) (fun w1 hH=>(by have hr:=hH.row 0 _ rfl rfl; rw [rowA_nil rfl rfl] at hr; exact heldA s (some ⟨gb,0,none⟩) n c tk w1 hr htk hn)) ?_|refine opst_ ⟨tab_ok⟩ tk (by rfl) (by rfl) (by rfl) (by rfl) (by rfl) (by rfl) ⟨rfl,by omega⟩ ?_|refine opnl true (fun w=>by kernel_rfl) (by rfl) (by rfl) ?_|refine callH (f:=134) (.t [.v (.slice none 0 0),.b false]) (fun w1 hH=>(by have:=hf w1 (bvw w1 (Co.Hold.ob hH (A:=owO lo (some ⟨gb,0,none⟩) n c zs) 0 rfl)); rw [← hcut] at this; exact this)) ?_|refine fin fun w' hH=>?_|refine fin_s ?_))
    have hr:=hH.row 0 _ rfl rfl
    rw [rowA_nil rfl rfl] at hr
    exact NR.none_ (by rw [← hnx,hxr,hx1]) htk hr (Co.Hold.ob hH (A:=owO lo (some ⟨gb,0,none⟩) n c zs) 0 rfl) hH.upd
   ·repeat' (first | refine gq_ ?_|((conv=>whnf); first | refine drA (id:=5) ⟨tab_ok⟩ [8] ?_|refine bto ?_|refine bfo ?_|refine wr_i ?_|refine callH (f:=133) (.i .i64 ((n:Int) - (tk:Int))) (fun w1 hH=>(by have hr:=hH.row 0 _ rfl rfl; rw [rowA_nil rfl rfl] at hr; exact heldA s (some ⟨gb,0,none⟩) n c tk w1 hr htk hn)) ?_|refine opst_ ⟨tab_ok⟩ tk (by rfl) (by rfl) (by rfl) (by rfl) (by rfl) (by rfl) ⟨rfl,by omega⟩ ?_|refine opnl true (fun w=>by kernel_rfl) (by rfl) (by rfl) ?_|refine callH (f:=134) (.t [.v (.slice none 0 0),.b true]) (fun w1 hH=>(by have:=hf w1 (bvw w1 (Co.Hold.ob hH (A:=owO lo (some ⟨gb,0,none⟩) n c zs) 0 rfl)); rw [← hcut] at this; exact this)) ?_|refine back ⟨tk+1,by omega,by rw [hdr,← hnx,hxr,hx1]⟩ (wk ?_) ?_|refine fin_s ?_))
    all_goals first | (show n - (tk+1) < n - tk; omega)|skip
    all_goals (repeat' (first | exact trivial | rfl | ((conv=>whnf); refine And.intro ?_ ?_)))
   ·obtain ⟨pz,hpz⟩:∃ pz,pz=((x::r).take (k+2)).drop 2:=⟨_,rfl⟩
    have hpl:pz.length=k+2 - 2:=by rw [hpz,List.length_drop,List.length_take]; omega
    have ht6:(tk:Int)+(((k+2:Nat):Int)+4)=((tk+(k+6):Nat):Int):=by push_cast; omega
    repeat' (first | refine gq_ ?_|((conv=>whnf); first | refine drA (id:=5) ⟨tab_ok⟩ [8] ?_|refine drA ⟨tab_ok⟩ [] ?_|refine bto ?_|refine bfo ?_|refine wr_i ?_|refine callH (f:=133) (.i .i64 ((n:Int) - (tk:Int))) (fun w1 hH=>(by have hr:=hH.row 0 _ rfl rfl; rw [rowA_nil rfl rfl] at hr; exact heldA s (some ⟨gb,0,none⟩) n c tk w1 hr htk hn)) ?_|refine opst_ ⟨tab_ok⟩ tk (by rfl) (by rfl) (by rfl) (by rfl) (by rfl) (by rfl) ⟨rfl,by omega⟩ ?_|refine opnl false (fun w=>by kernel_rfl) (by rfl) (by rfl) ?_|refine callH (f:=134) (.t [.v (.slice (some ⟨gb,tk,none⟩) (k+2) (c - tk)),.b true]) (fun w1 hH=>(by have:=hf w1 (bvw w1 (Co.Hold.ob hH (A:=owO lo (some ⟨gb,0,none⟩) n c zs) 0 rfl)); rw [← hcut] at this ⊢; exact this)) ?_|refine opst_ ⟨tab_ok⟩ 2 (by rfl) (by rfl) (by rfl) (by rfl) (by rfl) (by rfl) ⟨rfl,by omega⟩ ?_|refine callN (f:=135) (ι:=Option Addr×Nat) (fun y=>.v (.slice y.1 (k+2 - 2) y.2)) (fun y=>owO w.heap.size y.1 (k+2 - 2) y.2 pz) (fun w1 hH=>(cloneB (cutA (c - tk) 2 (some ⟨gb,tk,none⟩) 1) (k+2 - 2) (c - tk - 2) pz w1 (by rw [hpz]; exact bv_drop ((bvw w1 (Co.Hold.ob hH (A:=owO lo (some ⟨gb,0,none⟩) n c zs) 0 rfl)).cut (by omega)) (by omega) (by omega)) (by omega)).mono (by rintro e w' ⟨A',c',rfl,h1,h2⟩; exact ⟨(A',c'),rfl,own_base h1 hH.upd.size,h2,fun g hg=>own_low h1 g hg⟩)) (fun y=>?_)|refine fin fun w' hH=>?_|refine fin_s ?_))
    have hr:=hH.row 0 _ rfl rfl
    rw [rowA_nil rfl rfl] at hr
    have hr2:Blk w' s 93 #[.slice (some ⟨gb,0,none⟩) n c,.int .i64 ((tk+(k+6):Nat):Int)]:=by rw [← ht6]; exact hr
    have hy:=Co.Hold.ob hH (A:=owO w.heap.size y.1 (k+2 - 2) y.2 pz) 1 rfl
    refine NR.some_ (p:=pz) (by rw [← hnx,hxr,hx1,hpz,← hxr,List.drop_drop]) hpl (by omega) hr2 (Co.Hold.ob hH (A:=owO lo (some ⟨gb,0,none⟩) n c zs) 0 rfl) hH.upd hy (fun g hg hm=>?_)
    have h7:=own_low hy g hg
    rcases List.mem_cons.1 hm with rfl | hm
    ·have:=Blk.lt hq; omega
    ·have:=own_lt ho g hm; omega
 ·intro k v hv
  cases k with
  | zero=>cases hv; exact ⟨rfl,rfl⟩
  | succ k=>exact absurd (show (none:Option SV)=some v from hv) (by simp)
 ·have hH:=Hold.addObj (Hold.addRow (m:=[]) (Hold.nil Tryz.prog tab (s::blkOf A) 49 w) ⟨s,93,true,0,[],[.v (.slice A n c),.i .i64 ((tk0:Nat):Int)],[],true⟩ hq (fun _=>.inl (List.mem_cons_self ..)) (by intro q hq; cases hq) (by intro A hA; cases hA)) (owO lo A n c zs) ho (fun _ g hg=>.inl (List.mem_cons_of_mem _ hg)) (by intro r hr _ hm; simp only [List.nil_append,List.mem_singleton] at hr; subst hr; exact hiq hm) (by intro A hA; cases hA)
  exact ⟨hH.upd,hH.row,hH.wf,hH.ne,hH.obj,hH.far,hH.own,hH.dis⟩
theorem nextT (lo s N:Nat) (xs:List Int) (S:List Nat) (w:World) (h:SO lo s N xs S w) (hN:N≤1000000):Calls Tryz.prog 99 #[.pointer (some ⟨s,0,none⟩)] w (NX lo s N S w (nextF xs)):=by
 obtain ⟨h0,A,n,c,tk,zs,rfl,B,O,r1,r2,r3,r4⟩:=h
 refine (nextA lo s A n c tk zs xs w B O r1 r2 (by omega) h0 r3).mono ?_
 rintro e w1 ⟨S',a,b⟩
 exact ⟨S',a.more r4,b⟩
end Fq
namespace Gw
open Go.RowKit Ba Mem En Go.Proofs.YtepfmfalebmcnaaGreatDoor.Ty
open Mg (PktV mayB bytesOf pktC)
open Fm (frm)
open Ln (PkV pkC)
open Co (Hold.ob)
set_option maxRecDepth 100000
attribute [local irreducible] Go.Calls
def frV (p:PktV):List Int:=if mayB p=true then frm (bytesOf p) else []
theorem bytes_len (p:PktV):(bytesOf p).length=8∨(bytesOf p).length=21:=by
 unfold bytesOf; split
 ·exact .inr rfl
 ·exact .inl rfl
theorem framedT (p:PktV) (w:World):Calls Tryz.prog 97 #[.agg (pktC p)] w fun e w'=>∃ x:Option Addr×Nat,e=.returned (.slice x.1 (frV p).length x.2)∧byteE.At w.heap.size x.1 (frV p).length x.2 (frV p) w'∧Since w w':=by
 cases hm:mayB p with
 | false =>
  have hf:frV p=[]:=by unfold frV; rw [hm]; rfl
  rw [hf]
  refine ent tab_ok [.a [.i .i64 p.se,.i .i64 p.ep,.i .i64 p.sq,.i .i64 p.ak,.b p.has,.i .i64 p.ki,.i .i64 p.a,.i .i64 p.b,.i .i64 p.c]] Tryz.func97 Tryz.ntmps97 rfl rfl ?_
  repeat' (first | refine gs_ ?_|((conv=>whnf); first | intro b | refine callH (f:=130) (.t [.v (.slice none 0 0),.b false]) (fun w hH=>Mg.putN p hm w) ?_|refine callH (f:=131) (.t [.v (.slice none 0 0),.b false]) (fun w hH=>Fq.putNo none 0 0 [] w (Byt.BV.nil _ _) rfl) ?_|refine fin fun w' hH=>⟨(none,0),rfl,Ek.nil _ _ _,hH.upd.since⟩|refine fin_s ?_))
 | true =>
  have hf:frV p=frm (bytesOf p):=by unfold frV; rw [if_pos hm]
  have hl:(frV p).length=(bytesOf p).length+6:=by rw [hf,Fm.frm_length]
  have hok:Fq.okN ((bytesOf p).length:Int)=true:=by rcases bytes_len p with h | h <;> rw [h] <;> rfl
  rw [hl,hf]
  refine ent tab_ok [.a [.i .i64 p.se,.i .i64 p.ep,.i .i64 p.sq,.i .i64 p.ak,.b p.has,.i .i64 p.ki,.i .i64 p.a,.i .i64 p.b,.i .i64 p.c]] Tryz.func97 Tryz.ntmps97 rfl rfl ?_
  repeat' (first | refine gs_ ?_|((conv=>whnf); first | intro b | refine callN (f:=130) (ι:=Option Addr×Nat) (fun x=>.t [.v (.slice x.1 (bytesOf p).length x.2),.b true]) (fun x=>rwO byteE w.heap.size x.1 (bytesOf p).length x.2 (bytesOf p) true) (fun w1 hH=>(Mg.putT p hm w1).mono (by rintro e w' ⟨A,c,rfl,h1,h2⟩; exact ⟨(A,c),rfl,Ek.base h1 hH.upd.size,h2,Ek.lows h1⟩)) (fun x=>?_)|refine callN (f:=131) (ι:=Option Addr×Nat) (fun y=>.t [.v (.slice y.1 ((bytesOf p).length+6) y.2),.b true]) (fun y=>rwO byteE w.heap.size y.1 ((bytesOf p).length+6) y.2 (frm (bytesOf p)) true) (fun w1 hH=>(Fq.putOk x.1 _ x.2 (bytesOf p) w1 (Byt.BV.of_own (byte_own.1 (Hold.ob hH (A:=rwO byteE w.heap.size x.1 (bytesOf p).length x.2 (bytesOf p) true) 0 rfl)) (Mg.bytes_isB p)) hok).mono (by rintro e w' ⟨A,c,rfl,h1,h2⟩; exact ⟨(A,c),rfl,Ek.base (byte_own.2 h1) hH.upd.size,h2,Ek.lows (byte_own.2 h1)⟩)) (fun y=>?_)|refine fin fun w' hH=>⟨y,rfl,Hold.ob hH (A:=rwO byteE w.heap.size y.1 ((bytesOf p).length+6) y.2 (frm (bytesOf p)) true) 1 rfl,hH.upd.since⟩|refine fin_s ?_))
structure OutD where
 s:Int
 A:Option Addr
 c:Nat
 zs:List Int
def outE:Ek OutD:=⟨64,2,fun o=>[.int .i64 o.s,.slice o.A o.zs.length o.c],fun _=>rfl,fun a u hu=>by
 simp only [List.mem_cons,List.mem_nil_iff,or_false] at hu
 rcases hu with rfl | rfl <;> rfl⟩
def datF (os:List OutD):List Nat:=os.flatMap fun o=>blkOf o.A
def DatAt (lo:Nat) (os:List OutD) (w:World):Prop:=∀ o∈os,byteE.At lo o.A o.zs.length o.c o.zs w
theorem dat_mem {os:List OutD} {g:Nat}:g∈datF os↔∃ o∈os,g∈blkOf o.A:=by simp [datF,List.mem_flatMap]
def daO (lo:Nat) (os:List OutD) (rw:Bool):Asr:=⟨datF os,rw,DatAt lo os,fun u hd h o ho=>u.own (h o ho) (fun g hg=>hd g (dat_mem.2 ⟨o,ho,hg⟩)),fun h g hg=>by
 obtain ⟨o,ho,hg⟩:=dat_mem.1 hg
 exact own_lt (h o ho) g hg⟩
theorem frameO {lo:Nat} {os:List OutD} {w:World} (h:DatAt lo os w) (hlo:lo≤w.heap.size) (i:Int) (p:PktV):Calls Tryz.prog 97 #[.agg (pktC p)] w fun e w'=>∃ x:Option Addr×Nat,e=.returned (.slice x.1 (frV p).length x.2)∧DatAt lo (os++[⟨i,x.1,x.2,frV p⟩]) w'∧Upd (datF os) w w'∧∀ g∈datF (os++[⟨i,x.1,x.2,frV p⟩]),g∈datF os∨w.heap.size≤g :=
 (framedT p w).mono (by
  rintro e w' ⟨x,rfl,h1,h2⟩
  refine ⟨x,rfl,fun o ho=>?_,Upd.of_since h2,fun g hg=>?_⟩
  ·rcases List.mem_append.1 ho with ho | ho
   ·exact keep_own h2 (h o ho)
   ·rw [List.mem_singleton] at ho; subst ho; exact Ek.base h1 hlo
  ·obtain ⟨o,ho,hg⟩:=dat_mem.1 hg
   rcases List.mem_append.1 ho with ho | ho
   ·exact .inl (dat_mem.2 ⟨o,ho,hg⟩)
   ·rw [List.mem_singleton] at ho; subst ho; exact .inr (Ek.lows h1 g hg))
end Gw
namespace Al
open Go.RowKit Ba Mem Go.Proofs.YtepfmfalebmcnaaGreatDoor.Ty
def askC (l:AskV):List Value:=[.int .i64 l.se,.int .i64 l.fl,.int .i64 l.fm,.int .i64 l.to,.int .i64 l.ma]
instance:Inhabited AskV:=⟨⟨0,0,0,0,0⟩⟩
set_option maxRecDepth 100000
section
variable {H:Type} {enc:TypeId×Value→H} {w:World} {base:Nat} {spare:Nat→Bool} {held:Bool}
end
end Al
namespace En
open Go.RowKit Ba Mem
def Ek.Rd {α:Type} (E:Ek α) (a:Option Addr) (n:Nat) (ls:Nat→α) (w:World):Prop :=
 n=0∨∃ b off,a=some ⟨b,off,none⟩∧b < w.heap.size∧∀ i,i < n→∀ j v,(E.c (ls i))[j]?=some v→w.cell? ⟨b,off+i*E.k+j,none⟩=some v
theorem upd_cell {T:List Nat} {w w':World} {b i:Nat} {v:Value} (k:Upd T w w') (hb:b < w.heap.size) (hT:b∉T) (h:w.cell? ⟨b,i,none⟩=some v):w'.cell? ⟨b,i,none⟩=some v:=by
 have:=k.block b hb hT
 unfold World.cell? at h ⊢
 rw [this]; exact h
def rdF (a:Option Addr) (n:Nat):List Nat:=match n with | 0=>[] | _+1=>blkOf a
def rdO {α:Type} (E:Ek α) (a:Option Addr) (n:Nat) (ls:Nat→α):Asr:=⟨rdF a n,false,E.Rd a n ls,fun k h hs=>by
 rcases hs with rfl | ⟨b,off,rfl,hb,hc⟩
 ·exact .inl rfl
 ·cases n with
  | zero=>exact .inl rfl
  | succ n=>exact .inr ⟨b,off,rfl,Nat.lt_of_lt_of_le hb k.size,fun i hi j v hj=>upd_cell k hb (h b (by simp [rdF,blkOf])) (hc i hi j v hj)⟩,fun h g hg=>by
 cases n with
 | zero=>cases hg
 | succ n =>
  rcases h with h | ⟨b,off,rfl,hb,hc⟩
  ·cases h
  ·have:g=b:=by simpa [rdF,blkOf] using hg
   omega⟩
theorem Ek.rd_addr {α:Type} {E:Ek α} {a:Option Addr} {n:Nat} {ls:Nat→α} {w:World} (h:E.Rd a n ls w):∃ b off,0 < n→a=some ⟨b,off,none⟩:=by
 rcases h with rfl | ⟨b,off,rfl,_⟩
 ·exact ⟨0,0,fun h=>by omega⟩
 ·exact ⟨b,off,fun _=>rfl⟩
theorem Ek.rd_rng {α:Type} {E:Ek α} {b off n k:Nat} {ls:Nat→α} {w:World} (h:E.Rd (some ⟨b,off,none⟩) n ls w) (hk:k < n):w.rangeAt b (off+k*E.k) (E.c (ls k)):=fun j v hj=>by
 rcases h with rfl | ⟨b',off',e,_,hc⟩
 ·omega
 ·cases e; exact hc k hk j v hj
end En
namespace Lc
open Go.RowKit Ba Mem En Go.Proofs.YtepfmfalebmcnaaGreatDoor.Ty
open Ri (MsgV)
structure KopV where
 k:Int
 a:Int
 b:Int
 q:AskV
 m:MsgV
instance:Inhabited KopV:=⟨⟨0,0,0,⟨0,0,0,0,0⟩,⟨0,0,0,0⟩⟩⟩
set_option maxRecDepth 100000
section
variable {H:Type} {enc:TypeId×Value→H} {w:World} {base:Nat} {spare:Nat→Bool} {held:Bool}
end
end Lc
namespace Lc
open Go.RowKit Ba Mem En Go.Proofs.YtepfmfalebmcnaaGreatDoor.Ty Mo Go.Proofs.YtepfmfalebmcnaaGreatDoor.St Co
open Ri (MsgV msgC)
open Gr (loadR loadG hallR hallG pressR pressG curtR curtG faultR faultG GI)
open Fl (leaE)
set_option maxRecDepth 100000
attribute [local irreducible] Go.Calls
def ldK (K:KV) (l:LeaseV) (v:Int):KV:={ K with G:=(loadR K.G l.ca v).1 }
def obStep (x:KV×List EvV) (l:LeaseV):KV×List EvV :=
 if l.ph=2 then (hearK (ldK x.1 l l.ma) l.se ⟨9,0,0,0⟩,x.2++evs l.se (hearM (ldK x.1 l l.ma) l.se ⟨9,0,0,0⟩))
 else if l.ph=4 then (hearK (ldK x.1 l 0) l.se ⟨13,0,0,0⟩,x.2++evs l.se (hearM (ldK x.1 l 0) l.se ⟨13,0,0,0⟩)) else x
def obF (K:KV) (k:Nat):KV×List EvV:=(K.L.take k).foldl obStep (K,[])
def obK (K:KV):KV:=(obF K K.L.length).1
theorem hearM_len (K:KV) (s:Int) (m:MsgV):(hearM K s m).length≤1:=by
 unfold hearM; split
 ·cases (hearR K (Le.ofL K.L s) m).2.1 <;> simp
 ·simp
theorem evs_len (s:Int) (ms:List MsgV):(evs s ms).length=ms.length:=by simp [evs]
section
variable {c:CfgV} {n T m:Nat} {K:KV}
theorem KI.ld (h:KI c n T m K) (l:LeaseV) (v:Int):KI c n T m (ldK K l v) :=
 ⟨h.g.load _ _,by show ∀ a∈(loadR K.G l.ca v).1.waits,_; rw [(Gr.load_w _ _).1]; exact h.s,by show 0≤(loadR K.G l.ca v).1.now∧(loadR K.G l.ca v).1.now≤_; rw [(Gr.load_w _ _).2]; exact h.now,h.lq,h.okq,h.ll,h.okl⟩
theorem KI.obS {x:KV×List EvV} (h:KI c n T m x.1) (l:LeaseV):KI c n T m (obStep x l).1:=by
 unfold obStep; split
 ·exact (KI.ld h l _).hear _ _
 ·split
  ·exact (KI.ld h l _).hear _ _
  ·exact h
theorem KI.ob (h:KI c n T m K) (k:Nat):KI c n T m (obF K k).1:=by
 have key:∀ (ls:List LeaseV) (x:KV×List EvV),KI c n T m x.1→KI c n T m (ls.foldl obStep x).1:=by
  intro ls
  induction ls with
  | nil=>intro x h; exact h
  | cons l r ih=>intro x h; rw [List.foldl_cons]; exact ih _ (KI.obS h l)
 exact key _ _ h
end
attribute [local irreducible] hearK hearM ldK evs
section
variable {lo q:Nat} {p:Pt} {K:KV} {S:List Nat} {w:World} {c:CfgV} {n T m:Nat}
attribute [local irreducible] loadR
end
end Lc
namespace Lc
open Go.RowKit Ba Mem En Go.Proofs.YtepfmfalebmcnaaGreatDoor.Ty Mo Go.Proofs.YtepfmfalebmcnaaGreatDoor.St Co
open Ri (MsgV msgC)
open Gr (loadR loadG hallR hallG pressR pressG curtR curtG faultR faultG GI doR fltX disW one fault_in)
open Fl (leaE)
set_option maxRecDepth 100000
attribute [local irreducible] Go.Calls
def gdo (G:Gr.GrV) (o:KopV):Gr.GrV:=if 4≤o.k∧o.k≤8 then (doR G (o.k - 3) o.a o.b (o.b == 1)).1 else G
def doK (K:KV) (o:KopV):KV:=if o.k=1 then ansK K o.q else if o.k=2 then hearK K o.q.se o.m else if o.k=3 then goneK K o.q.se else if o.k=10 then obK K else { K with G:=gdo K.G o }
theorem doR_w (G:Gr.GrV) (k a b:Int) (y:Bool) (hk:1≤k∧k≤5):(doR G k a b y).1.now=G.now∧(doR G k a b y).1.c=G.c∧∀ z∈(doR G k a b y).1.waits,z.si=G.now∨∃ u∈G.waits,z.si=u.si:=by
 have id':∀ z∈G.waits,z.si=G.now∨∃ u∈G.waits,z.si=u.si:=fun z hz=>.inr ⟨z,hz,rfl⟩
 have on:∀ (f:CarV→CarV×Int),(one G a f).1.now=G.now∧(one G a f).1.c=G.c∧∀ z∈(one G a f).1.waits,z.si=G.now∨∃ u∈G.waits,z.si=u.si:=fun f =>
  ⟨(Gr.one_w _ _).2.1,one_c _ _ _,by rw [(Gr.one_w _ _).1]; exact id'⟩
 unfold doR
 split
 ·unfold Gr.hallR; split
  ·split
   ·refine ⟨rfl,rfl,fun z hz=>?_⟩
    rcases List.mem_append.1 hz with h | h
    ·exact id' z h
    ·rw [List.mem_singleton] at h; subst h; exact .inl rfl
   ·exact ⟨rfl,rfl,id'⟩
  ·exact ⟨rfl,rfl,id'⟩
 split
 ·unfold Gr.pressR; split
  ·exact on _
  ·exact ⟨rfl,rfl,id'⟩
 split
 ·exact on _
 split
 ·exact on _
 split
 ·unfold Gr.faultR; split
  ·split
   ·refine ⟨(on _).1,(on _).2.1,fun z hz=>?_⟩
    obtain ⟨u,hu,rfl⟩:=List.mem_map.1 hz
    refine .inr ⟨u,hu, ?_⟩
    unfold disW; split <;> rfl
   ·exact ⟨rfl,rfl,id'⟩
  ·exact on _
 omega
theorem gdo_w (G:Gr.GrV) (o:KopV):(gdo G o).now=G.now∧(gdo G o).c=G.c∧∀ z∈(gdo G o).waits,z.si=G.now∨∃ u∈G.waits,z.si=u.si:=by
 unfold gdo; split
 ·exact doR_w _ _ _ _ _ (by omega)
 ·exact ⟨rfl,rfl,fun z hz=>.inr ⟨z,hz,rfl⟩⟩
section
variable {c:CfgV} {n T m:Nat} {K:KV}
theorem KI.gdo (h:KI c n T m K) (o:KopV):KI c (n+1) T m { K with G:=gdo K.G o }:=by
 obtain ⟨e1,e2,e3⟩:=gdo_w K.G o
 refine ⟨?_,fun z hz=>?_,by show 0≤(Lc.gdo K.G o).now∧_; rw [e1]; exact h.now,h.lq,h.okq,h.ll,h.okl⟩
 ·show GI c (n+1) T (Lc.gdo K.G o)
  unfold Lc.gdo; split
  ·exact h.g.do_ _ _ _ _
  ·exact h.g.more (Nat.le_succ n)
 ·rcases e3 z hz with e | ⟨u,hu,e⟩
  ·rw [e]; exact h.now
  ·rw [e]; exact h.s u hu
theorem KI.do_ (h:KI c n T m K) (o:KopV):KI c (n+1) T m (doK K o):=by
 have up:∀ {K':KV},KI c n T m K'→KI c (n+1) T m K':=fun h=>h.more (Nat.le_succ n) (Nat.le_refl _) (Nat.le_refl _)
 unfold doK
 split
 ·exact up (h.ans _)
 split
 ·exact up (h.hear _ _)
 split
 ·exact up (h.gone _)
 split
 ·exact up (KI.ob h _)
 ·exact KI.gdo h o
end
section
variable {lo q:Nat} {p:Pt} {K:KV} {S:List Nat} {w:World} {c:CfgV} {n T m:Nat}
theorem hallW (h:KW lo q p K S w) (hl:K.G.waits.length≤10000) (a b:Int):Calls Tryz.prog 102 #[.pointer (some ⟨p.g,0,none⟩),.int .i64 a,.int .i64 b] w fun e w'=>∃ S',e=.returned (.int .i64 (hallR K.G a b).2)∧KW lo q p { K with G:=(doR K.G 1 a b (b == 1)).1 } S' w'∧Upd S w w'∧∀ g∈S',g∈S∨w.heap.size≤g :=
 KW.grp h (doR_w K.G 1 a b (b == 1) (by decide)).2.1 (fun S1 hq=>hallG hq hl a b)
theorem pressW (h:KW lo q p K S w) (a b:Int):Calls Tryz.prog 103 #[.pointer (some ⟨p.g,0,none⟩),.int .i64 a,.int .i64 b] w fun e w'=>∃ S',e=.returned (.int .i64 (pressR K.G a b).2)∧KW lo q p { K with G:=(doR K.G 2 a b (b == 1)).1 } S' w'∧Upd S w w'∧∀ g∈S',g∈S∨w.heap.size≤g :=
 KW.grp h (doR_w K.G 2 a b (b == 1) (by decide)).2.1 (fun S1 hq=>pressG hq a b)
theorem loadW2 (h:KW lo q p K S w) (a b:Int):Calls Tryz.prog 104 #[.pointer (some ⟨p.g,0,none⟩),.int .i64 a,.int .i64 b] w fun e w'=>∃ S',e=.returned (.int .i64 (loadR K.G a b).2)∧KW lo q p { K with G:=(doR K.G 3 a b (b == 1)).1 } S' w'∧Upd S w w'∧∀ g∈S',g∈S∨w.heap.size≤g :=
 KW.grp h (doR_w K.G 3 a b (b == 1) (by decide)).2.1 (fun S1 hq=>loadG hq a b)
theorem curtW (h:KW lo q p K S w) (a b:Int):Calls Tryz.prog 105 #[.pointer (some ⟨p.g,0,none⟩),.int .i64 a,.bool (b == 1)] w fun e w'=>∃ S',e=.returned (.int .i64 (curtR K.G a (b == 1)).2)∧KW lo q p { K with G:=(doR K.G 4 a b (b == 1)).1 } S' w'∧Upd S w w'∧∀ g∈S',g∈S∨w.heap.size≤g :=
 KW.grp h (doR_w K.G 4 a b (b == 1) (by decide)).2.1 (fun S1 hq=>curtG hq a (b == 1))
theorem faultW (h:KW lo q p K S w) (hl:K.G.waits.length≤1000000) (a b:Int):Calls Tryz.prog 106 #[.pointer (some ⟨p.g,0,none⟩),.int .i64 a,.bool (b == 1)] w fun e w'=>∃ S',e=.returned (.int .i64 (faultR K.G a (b == 1)).2)∧KW lo q p { K with G:=(doR K.G 5 a b (b == 1)).1 } S' w'∧Upd S w w'∧∀ g∈S',g∈S∨w.heap.size≤g :=
 KW.grp h (doR_w K.G 5 a b (b == 1) (by decide)).2.1 (fun S1 hq=>faultG hq hl a (b == 1))
theorem own_rebase {α:Type} {E:Ek α} {lo lo' n c:Nat} {A:Option Addr} {ls:List α} {w:World} (h:E.At lo A n c ls w) (hb:∀ g∈blkOf A,lo'≤g):E.At lo' A n c ls w:=by
 refine ⟨h.1, ?_⟩
 rcases h.2 with h2 | ⟨g,cap,cur,hv,hbg,rest⟩
 ·exact .inl h2
 ·have hv':=hv
  simp at hv'
  exact .inr ⟨g,cap,cur,hv,hb g (by rw [hv'.1]; simp [blkOf]),rest⟩
attribute [local irreducible] ansK ansM hearK hearM goneK obK doR Gr.hallR pressR loadR curtR faultR evs
end
end Lc
namespace Gw
open Go.RowKit Ba Mem En Go.Proofs.YtepfmfalebmcnaaGreatDoor.Ty Mp
open Ri (MsgV)
open Mg (PktV pktC)
open Co (KV Pt KW Nr evE EvV evs ansK ansM hearK hearM askK hearW inC Hold.ob)
set_option maxRecDepth 100000
attribute [local irreducible] Go.Calls
def sesN (c:CfgV):Int:=if 64 < (if 1 > c.se then 1 else c.se) then 64 else if 1 > c.se then 1 else c.se
theorem ses_bd (c:CfgV):1≤sesN c∧sesN c≤64:=by unfold sesN; (repeat' split) <;> omega
def helB (c:CfgV) (p:PktV):Bool:=p.has && (p.ki == 1 && (p.ep == 0 && (p.sq == 0 && decide (p.se < sesN c))))
section
variable {lo gq M:Nat} {c:CfgV} {x:Gp} {ep i:Int} {K:KV} {Sk:List Nat} {D:Fam} {w:World}
theorem helT (hb:Blk w gq 96 (gwA c x ep)) (p:PktV):Calls Tryz.prog 139 #[.pointer (some ⟨gq,0,none⟩),.agg (pktC p)] w fun e w'=>e=.returned (.bool (helB c p))∧Since w w':=by
 unfold helB
 cases hh:p.has with
 | false =>
  have hp:pktC p=#[.int .i64 p.se,.int .i64 p.ep,.int .i64 p.sq,.int .i64 p.ak,.bool false,.int .i64 p.ki,.int .i64 p.a,.int .i64 p.b,.int .i64 p.c]:=by unfold pktC; rw [hh]
  rw [hp]
  refine entH tab_ok (hold_q (S:=[]) (gwS c x ep) hb) [.p 0 0,.a [.i .i64 p.se,.i .i64 p.ep,.i .i64 p.sq,.i .i64 p.ak,.b false,.i .i64 p.ki,.i .i64 p.a,.i .i64 p.b,.i .i64 p.c]] Tryz.func139 Tryz.ntmps139 rfl rfl ?_
  repeat' (first | refine gs_ ?_|((conv=>whnf); first | intro b | refine fin_s ?_))
  all_goals rfl
 | true =>
  have hp:pktC p=#[.int .i64 p.se,.int .i64 p.ep,.int .i64 p.sq,.int .i64 p.ak,.bool true,.int .i64 p.ki,.int .i64 p.a,.int .i64 p.b,.int .i64 p.c]:=by unfold pktC; rw [hh]
  rw [hp]
  by_cases h1:p.ki=1
  case neg =>
   refine entH tab_ok (hold_q (S:=[]) (gwS c x ep) hb) [.p 0 0,.a [.i .i64 p.se,.i .i64 p.ep,.i .i64 p.sq,.i .i64 p.ak,.b true,.i .i64 p.ki,.i .i64 p.a,.i .i64 p.b,.i .i64 p.c]] Tryz.func139 Tryz.ntmps139 rfl rfl ?_
   repeat' (first | refine gs_ ?_|((conv=>whnf); first | intro b | refine fin_s ?_))
   all_goals (simp [den,h1])
  by_cases h2:p.ep=0
  case neg =>
   refine entH tab_ok (hold_q (S:=[]) (gwS c x ep) hb) [.p 0 0,.a [.i .i64 p.se,.i .i64 p.ep,.i .i64 p.sq,.i .i64 p.ak,.b true,.i .i64 p.ki,.i .i64 p.a,.i .i64 p.b,.i .i64 p.c]] Tryz.func139 Tryz.ntmps139 rfl rfl ?_
   repeat' (first | refine gs_ ?_|((conv=>whnf); first | intro b | refine fin_s ?_))
   all_goals (simp [den,h2])
  by_cases h3:p.sq=0
  case neg =>
   refine entH tab_ok (hold_q (S:=[]) (gwS c x ep) hb) [.p 0 0,.a [.i .i64 p.se,.i .i64 p.ep,.i .i64 p.sq,.i .i64 p.ak,.b true,.i .i64 p.ki,.i .i64 p.a,.i .i64 p.b,.i .i64 p.c]] Tryz.func139 Tryz.ntmps139 rfl rfl ?_
   repeat' (first | refine gs_ ?_|((conv=>whnf); first | intro b | refine fin_s ?_))
   all_goals (simp [den,h3])
  refine entH tab_ok (hold_q (S:=[]) (gwS c x ep) hb) [.p 0 0,.a [.i .i64 p.se,.i .i64 p.ep,.i .i64 p.sq,.i .i64 p.ak,.b true,.i .i64 p.ki,.i .i64 p.a,.i .i64 p.b,.i .i64 p.c]] Tryz.func139 Tryz.ntmps139 rfl rfl ?_
  repeat' (first | refine gs_ ?_|((conv=>whnf); first | intro b | refine fin_s ?_))
  all_goals (simp [den,h1,h2,h3]; try rfl)
def saidK (K:KV) (n f:Int) (m:MsgV):KV:=if m.ki=3 then ansK K ⟨n,f,m.a,m.b,m.c⟩ else if m.ki=9∨m.ki=13∨m.ki=15 then hearK K n m else K
def saidE (K:KV) (n f:Int) (m:MsgV):List EvV:=if m.ki=3 then evs n [ansM K ⟨n,f,m.a,m.b,m.c⟩] else if m.ki=9∨m.ki=13∨m.ki=15 then evs n (hearM K n m) else []
theorem evs_len (n:Int) (ms:List MsgV):(evs n ms).length=ms.length:=by simp [evs]
theorem saidT (hb:Blk w gq 96 (gwA c x ep)) (h:KG lo x.q x.p x.mb M K Sk D w) (hg:gq∉kgF x.mb Sk D) (hq:K.Q.length≤1000) (hl:K.L.length≤10000) (h0:K.G.cars.length≤10000) (n f:Int) (m:MsgV) (hin:Le.hasL K.L n=true→inC K (Le.ofL K.L n)) :
  Calls Tryz.prog 142 #[.pointer (some ⟨gq,0,none⟩),.int .i64 n,.int .i64 f,.agg #[.int .i64 m.ki,.int .i64 m.a,.int .i64 m.b,.int .i64 m.c]] w fun e w'=>∃ y:List Nat×Nr,e=.returned (.slice y.2.2.1 (saidE K n f m).length y.2.2.2)∧KG lo x.q x.p x.mb M (saidK K n f m) y.1 D w'∧(rwO evE y.2.1 y.2.2.1 (saidE K n f m).length y.2.2.2 (saidE K n f m) true).st w'∧Upd (kgF x.mb Sk D) w w'∧(∀ g∈kgF x.mb y.1 D,g∈kgF x.mb Sk D∨w.heap.size≤g)∧∀ g∈blkOf y.2.2.1,w.heap.size≤g∧g∉kgF x.mb y.1 D:=by
 by_cases k3:m.ki=3
 ·have e1:saidK K n f m=ansK K ⟨n,f,m.a,m.b,m.c⟩:=if_pos k3
  have e2:saidE K n f m=evs n [ansM K ⟨n,f,m.a,m.b,m.c⟩]:=if_pos k3
  rw [e1,e2]
  refine entH tab_ok (hold_g hb h hg) [.p 0 0,.i .i64 n,.i .i64 f,.a [.i .i64 m.ki,.i .i64 m.a,.i .i64 m.b,.i .i64 m.c]] Tryz.func142 Tryz.ntmps142 rfl rfl ?_
  repeat' (first | refine gs_ ?_|((conv=>whnf); first | intro b | refine callON (f:=44) (A:=kgO lo x.q x.p x.mb M K Sk D true) 0 (fun y:List Nat×Nr=>.v (.slice y.2.2.1 1 y.2.2.2)) (fun y=>kgO lo x.q x.p x.mb M (ansK K ⟨n,f,m.a,m.b,m.c⟩) y.1 D true) (fun y=>rwO evE w.heap.size y.2.2.1 1 y.2.2.2 (evs n [ansM K ⟨n,f,m.a,m.b,m.c⟩]) true) (fun w1 hH hA=>(KG.coreE hA (fun hk=>askK hk hq hl ⟨n,f,m.a,m.b,m.c⟩)).mono (by rintro e w' ⟨y,rfl,h1,h2,h3,h4,h5⟩; exact ⟨y,rfl,h1,Lc.own_rebase h2 (fun g hg=>Nat.le_trans hH.upd.size (h5 g hg).1),h3,h4,h5⟩)) (fun y=>?_)|refine fin fun w' hH=>⟨(y.1,w.heap.size,y.2.2),rfl,Hold.ob hH (A:=kgO lo x.q x.p x.mb M (ansK K ⟨n,f,m.a,m.b,m.c⟩) y.1 D true) 0 rfl,Hold.ob hH (A:=rwO evE w.heap.size y.2.2.1 1 y.2.2.2 (evs n [ansM K ⟨n,f,m.a,m.b,m.c⟩]) true) 1 rfl,hH.upd,fun g hg=>hH.own _ (List.mem_of_getElem? (i:=0) rfl) rfl g hg,fun g hg=>⟨Ek.lows (Hold.ob hH (A:=rwO evE w.heap.size y.2.2.1 1 y.2.2.2 (evs n [ansM K ⟨n,f,m.a,m.b,m.c⟩]) true) 1 rfl) g hg,fun hgk=>(pair_at (R:=DisR) (fun _ _ h=>h.symm) hH.dis (i:=0) (j:=1) rfl rfl (by decide) (.inl rfl)) g hgk hg⟩⟩|refine fin_s ?_))
 ·by_cases kh:m.ki=9∨m.ki=13∨m.ki=15
  ·have e1:saidK K n f m=hearK K n m:=(if_neg k3).trans (if_pos kh)
   have e2:saidE K n f m=evs n (hearM K n m):=(if_neg k3).trans (if_pos kh)
   rw [e1,e2,evs_len]
   by_cases k9:m.ki=9
   ·refine entH tab_ok (hold_g hb h hg) [.p 0 0,.i .i64 n,.i .i64 f,.a [.i .i64 m.ki,.i .i64 m.a,.i .i64 m.b,.i .i64 m.c]] Tryz.func142 Tryz.ntmps142 rfl rfl ?_
    repeat' (first | refine gs_ ?_|((conv=>whnf); first | intro b | refine callON (f:=201) (A:=kgO lo x.q x.p x.mb M K Sk D true) 0 (fun y:List Nat×Nr=>.v (.slice y.2.2.1 (hearM K n m).length y.2.2.2)) (fun y=>kgO lo x.q x.p x.mb M (hearK K n m) y.1 D true) (fun y=>rwO evE w.heap.size y.2.2.1 (hearM K n m).length y.2.2.2 (evs n (hearM K n m)) true) (fun w1 hH hA=>(KG.coreE hA (fun hk=>hearW hk h0 hl n m hin)).mono (by rintro e w' ⟨y,rfl,h1,h2,h3,h4,h5⟩; exact ⟨y,rfl,h1,Lc.own_rebase h2 (fun g hg=>Nat.le_trans hH.upd.size (h5 g hg).1),h3,h4,h5⟩)) (fun y=>?_)|refine fin fun w' hH=>⟨(y.1,w.heap.size,y.2.2),rfl,Hold.ob hH (A:=kgO lo x.q x.p x.mb M (hearK K n m) y.1 D true) 0 rfl,Hold.ob hH (A:=rwO evE w.heap.size y.2.2.1 (hearM K n m).length y.2.2.2 (evs n (hearM K n m)) true) 1 rfl,hH.upd,fun g hg=>hH.own _ (List.mem_of_getElem? (i:=0) rfl) rfl g hg,fun g hg=>⟨Ek.lows (Hold.ob hH (A:=rwO evE w.heap.size y.2.2.1 (hearM K n m).length y.2.2.2 (evs n (hearM K n m)) true) 1 rfl) g hg,fun hgk=>(pair_at (R:=DisR) (fun _ _ h=>h.symm) hH.dis (i:=0) (j:=1) rfl rfl (by decide) (.inl rfl)) g hgk hg⟩⟩|refine fin_s ?_))
   by_cases k13:m.ki=13
   ·refine entH tab_ok (hold_g hb h hg) [.p 0 0,.i .i64 n,.i .i64 f,.a [.i .i64 m.ki,.i .i64 m.a,.i .i64 m.b,.i .i64 m.c]] Tryz.func142 Tryz.ntmps142 rfl rfl ?_
    repeat' (first | refine gs_ ?_|((conv=>whnf); first | intro b | refine callON (f:=201) (A:=kgO lo x.q x.p x.mb M K Sk D true) 0 (fun y:List Nat×Nr=>.v (.slice y.2.2.1 (hearM K n m).length y.2.2.2)) (fun y=>kgO lo x.q x.p x.mb M (hearK K n m) y.1 D true) (fun y=>rwO evE w.heap.size y.2.2.1 (hearM K n m).length y.2.2.2 (evs n (hearM K n m)) true) (fun w1 hH hA=>(KG.coreE hA (fun hk=>hearW hk h0 hl n m hin)).mono (by rintro e w' ⟨y,rfl,h1,h2,h3,h4,h5⟩; exact ⟨y,rfl,h1,Lc.own_rebase h2 (fun g hg=>Nat.le_trans hH.upd.size (h5 g hg).1),h3,h4,h5⟩)) (fun y=>?_)|refine fin fun w' hH=>⟨(y.1,w.heap.size,y.2.2),rfl,Hold.ob hH (A:=kgO lo x.q x.p x.mb M (hearK K n m) y.1 D true) 0 rfl,Hold.ob hH (A:=rwO evE w.heap.size y.2.2.1 (hearM K n m).length y.2.2.2 (evs n (hearM K n m)) true) 1 rfl,hH.upd,fun g hg=>hH.own _ (List.mem_of_getElem? (i:=0) rfl) rfl g hg,fun g hg=>⟨Ek.lows (Hold.ob hH (A:=rwO evE w.heap.size y.2.2.1 (hearM K n m).length y.2.2.2 (evs n (hearM K n m)) true) 1 rfl) g hg,fun hgk=>(pair_at (R:=DisR) (fun _ _ h=>h.symm) hH.dis (i:=0) (j:=1) rfl rfl (by decide) (.inl rfl)) g hgk hg⟩⟩|refine fin_s ?_))
   have k15:m.ki=15:=by omega
   refine entH tab_ok (hold_g hb h hg) [.p 0 0,.i .i64 n,.i .i64 f,.a [.i .i64 m.ki,.i .i64 m.a,.i .i64 m.b,.i .i64 m.c]] Tryz.func142 Tryz.ntmps142 rfl rfl ?_
   repeat' (first | refine gs_ ?_|((conv=>whnf); first | intro b | refine callON (f:=201) (A:=kgO lo x.q x.p x.mb M K Sk D true) 0 (fun y:List Nat×Nr=>.v (.slice y.2.2.1 (hearM K n m).length y.2.2.2)) (fun y=>kgO lo x.q x.p x.mb M (hearK K n m) y.1 D true) (fun y=>rwO evE w.heap.size y.2.2.1 (hearM K n m).length y.2.2.2 (evs n (hearM K n m)) true) (fun w1 hH hA=>(KG.coreE hA (fun hk=>hearW hk h0 hl n m hin)).mono (by rintro e w' ⟨y,rfl,h1,h2,h3,h4,h5⟩; exact ⟨y,rfl,h1,Lc.own_rebase h2 (fun g hg=>Nat.le_trans hH.upd.size (h5 g hg).1),h3,h4,h5⟩)) (fun y=>?_)|refine fin fun w' hH=>⟨(y.1,w.heap.size,y.2.2),rfl,Hold.ob hH (A:=kgO lo x.q x.p x.mb M (hearK K n m) y.1 D true) 0 rfl,Hold.ob hH (A:=rwO evE w.heap.size y.2.2.1 (hearM K n m).length y.2.2.2 (evs n (hearM K n m)) true) 1 rfl,hH.upd,fun g hg=>hH.own _ (List.mem_of_getElem? (i:=0) rfl) rfl g hg,fun g hg=>⟨Ek.lows (Hold.ob hH (A:=rwO evE w.heap.size y.2.2.1 (hearM K n m).length y.2.2.2 (evs n (hearM K n m)) true) 1 rfl) g hg,fun hgk=>(pair_at (R:=DisR) (fun _ _ h=>h.symm) hH.dis (i:=0) (j:=1) rfl rfl (by decide) (.inl rfl)) g hgk hg⟩⟩|refine fin_s ?_))
  ·have e1:saidK K n f m=K:=(if_neg k3).trans (if_neg kh)
   have e2:saidE K n f m=[]:=(if_neg k3).trans (if_neg kh)
   rw [e1,e2]
   have k9:m.ki≠9:=by omega
   have k13:m.ki≠13:=by omega
   have k15:m.ki≠15:=by omega
   refine entH tab_ok (hold_g hb h hg) [.p 0 0,.i .i64 n,.i .i64 f,.a [.i .i64 m.ki,.i .i64 m.a,.i .i64 m.b,.i .i64 m.c]] Tryz.func142 Tryz.ntmps142 rfl rfl ?_
   repeat' (first | refine gs_ ?_|((conv=>whnf); first | intro b | refine fin fun w' hH=>⟨(Sk,w.heap.size,none,0),rfl,Hold.ob hH (A:=kgO lo x.q x.p x.mb M K Sk D true) 0 rfl,Ek.nil _ _ _,hH.upd,fun g hg=>.inl hg,fun g hg=>by cases hg⟩|refine fin_s ?_))
end
end Gw
namespace En
open Go.RowKit Ba Mem Mp
def nilO:Asr:=⟨[],true,fun _=>True,fun _ _ _=>trivial,fun _ g hg=>by cases hg⟩
def absO (A C:Asr) (g:Nat) (t:TypeId) (cells:Array Value):Asr:=⟨A.F++(C.F++[g]),true,fun w=>A.st w∧C.st w∧Blk w g t cells,fun u hd h =>
 ⟨A.up u (fun x hx=>hd x (List.mem_append.2 (.inl hx))) h.1,C.up u (fun x hx=>hd x (List.mem_append.2 (.inr (List.mem_append.2 (.inl hx))))) h.2.1,u.blk h.2.2 (hd g (List.mem_append.2 (.inr (List.mem_append.2 (.inr (List.mem_singleton.2 rfl))))))⟩,fun h x hx=>by
 rcases List.mem_append.1 hx with hx | hx
 ·exact A.lt h.1 x hx
 rcases List.mem_append.1 hx with hx | hx
 ·exact C.lt h.2.1 x hx
 ·rw [List.mem_singleton] at hx; subst hx; exact h.2.2.lt⟩
section
variable {X:Cx} {m:List Row} {ob:List Asr} {w w':World} {s:St}
theorem Ext.dead {k:Nat} {r:Row} (h:m[k]?=some r):Ext m (m.set k { r with live:=false }):=fun i q hq=>by
 by_cases e:k=i
 ·subst e; rw [h] at hq; cases hq
  exact ⟨{ r with live:=false },by rw [List.getElem?_set_self (List.getElem?_eq_some_iff.1 h).1],rfl,rfl⟩
 ·exact ⟨q,by rw [List.getElem?_set_ne e]; exact hq,rfl,rfl⟩
theorem Hold.absorb (hH:Hold X m ob w) {i j k:Nat} {A C:Asr} {r:Row} (hA:ob[i]?=some A) (hC:ob[j]?=some C) (hr:m[k]?=some r) (hij:i≠j) (hAw:A.rw=true) (hCw:C.rw=true) (hl:r.live=true) (hrw:r.rw=true) (h2:r.pre=[]) (h3:r.suf=[]) :
  Hold X (m.set k { r with live:=false }) ((ob.set i (absO A C r.g r.t (denL m r.cs).toArray)).set j nilO) w∧(∀ x∈C.F,x∉A.F)∧r.g∉A.F∧r.g∉C.F:=by
 have mA:=List.mem_of_getElem? hA
 have mC:=List.mem_of_getElem? hC
 have hE:=Ext.dead hr
 have fA:=hH.far A mA k r hr hl
 have fC:=hH.far C mC k r hr hl
 have dAC:∀ x∈C.F,x∉A.F:=pair_at (R:=DisR) (fun _ _ h=>h.symm) hH.dis hC hA (Ne.symm hij) (.inr hAw)
 have blk:Blk w r.g r.t (denL m r.cs).toArray:=by have:=hH.row k r hr hl; rwa [rowA_nil h2 h3] at this
 have live:∀ (j:Nat) (q:Row),(m.set k { r with live:=false })[j]?=some q→q.live=true→j≠k∧m[j]?=some q:=fun j q hq hql=>by
  rcases getElem?_set_or hq with ⟨rfl,rfl⟩ | ⟨hne,hq⟩
  ·cases hql
  ·exact ⟨Ne.symm hne,hq⟩
 have mem:∀ D,D∈(ob.set i (absO A C r.g r.t (denL m r.cs).toArray)).set j nilO→D=nilO∨D=absO A C r.g r.t (denL m r.cs).toArray∨∃ l,l≠i∧l≠j∧ob[l]?=some D:=fun D hD=>by
  rcases mem_set_or hD with rfl | ⟨l,hlj,hD⟩
  ·exact .inl rfl
  ·rcases getElem?_set_or hD with ⟨rfl,rfl⟩ | ⟨hli,hD⟩
   ·exact .inr (.inl rfl)
   ·exact .inr (.inr ⟨l,Ne.symm hli,hlj,hD⟩)
 refine ⟨⟨hH.upd,fun a q hq hql=>?_,fun a q hq hql=>?_,fun a b q q' ha hb hq hq' hne=>?_,fun D hD=>?_,fun D hD a q hq hql hg=>?_,fun D hD hDw g hg=>?_, ?_⟩,dAC,fA,fC⟩
 ·obtain ⟨_,hq⟩:=live a q hq hql
  rw [rowA_ext hE (hH.wf a q hq hql).1]; exact hH.row a q hq hql
 ·obtain ⟨_,hq⟩:=live a q hq hql
  rw [List.length_set]; exact hH.wf a q hq hql
 ·obtain ⟨_,ha⟩:=live a q ha hq
  obtain ⟨_,hb⟩:=live b q' hb hq'
  exact hH.ne a b q q' ha hb hq hq' hne
 ·rcases mem D hD with rfl | rfl | ⟨l,_,_,hD⟩
  ·trivial
  ·exact ⟨hH.obj A mA,hH.obj C mC,blk⟩
  ·exact hH.obj D (List.mem_of_getElem? hD)
 ·obtain ⟨hak,hq⟩:=live a q hq hql
  rcases mem D hD with rfl | rfl | ⟨l,_,_,hD⟩
  ·cases hg
  ·rcases List.mem_append.1 hg with hg | hg
   ·exact hH.far A mA a q hq hql hg
   rcases List.mem_append.1 hg with hg | hg
   ·exact hH.far C mC a q hq hql hg
   ·exact hH.ne a k q r hq hr hql hl hak (List.mem_singleton.1 hg)
  ·exact hH.far D (List.mem_of_getElem? hD) a q hq hql hg
 ·rcases mem D hD with rfl | rfl | ⟨l,_,_,hD⟩
  ·cases hg
  ·rcases List.mem_append.1 hg with hg | hg
   ·exact hH.own A mA hAw g hg
   rcases List.mem_append.1 hg with hg | hg
   ·exact hH.own C mC hCw g hg
   ·rw [List.mem_singleton.1 hg]; exact (hH.wf k r hr hl).2.2 hrw
  ·exact hH.own D (List.mem_of_getElem? hD) hDw g hg
 ·have nil:∀ D:Asr,DisR D nilO:=fun D _ g _ h=>by cases h
  have far:∀ (l:Nat) (D:Asr),l≠i→l≠j→ob[l]?=some D→DisR D (absO A C r.g r.t (denL m r.cs).toArray):=fun l D hli hlj hD _ g hg hgx=>by
   rcases List.mem_append.1 hgx with hx | hx
   ·exact pair_at (R:=DisR) (fun _ _ h=>h.symm) hH.dis hD hA hli (.inr hAw) g hg hx
   rcases List.mem_append.1 hx with hx | hx
   ·exact pair_at (R:=DisR) (fun _ _ h=>h.symm) hH.dis hD hC hlj (.inr hCw) g hg hx
   ·rw [List.mem_singleton] at hx; subst hx
    exact hH.far D (List.mem_of_getElem? hD) k r hr hl hg
  have at_:∀ (l:Nat) (D:Asr),((ob.set i (absO A C r.g r.t (denL m r.cs).toArray)).set j nilO)[l]?=some D→D=nilO∨(l=i∧D=absO A C r.g r.t (denL m r.cs).toArray)∨(l≠i∧l≠j∧ob[l]?=some D):=fun l D hD=>by
   rcases getElem?_set_or hD with ⟨rfl,rfl⟩ | ⟨hlj,hD⟩
   ·exact .inl rfl
   ·rcases getElem?_set_or hD with ⟨rfl,rfl⟩ | ⟨hli,hD⟩
    ·exact .inr (.inl ⟨rfl,rfl⟩)
    ·exact .inr (.inr ⟨Ne.symm hli,Ne.symm hlj,hD⟩)
  refine pair_of fun a b D E hne hD hE'=>?_
  rcases at_ a D hD with rfl | ⟨rfl,rfl⟩ | ⟨h1,h1',kD⟩ <;> rcases at_ b E hE' with rfl | ⟨rfl,rfl⟩ | ⟨h4,h4',kE⟩
  ·exact nil _
  ·exact (nil _).symm
  ·exact (nil _).symm
  ·exact nil _
  ·exact absurd rfl hne
  ·exact (far b E h4 h4' kE).symm
  ·exact nil _
  ·exact far a D h1 h1' kD
  ·exact pair_at (R:=DisR) (fun _ _ h=>h.symm) hH.dis kD kE hne
variable {o:Oper} {K:St→Prop} {ty kt e:TypeId} {mm x y:Operand} {b n:Nat} {mp:Int→Option Value} {I:Int}
theorem opupN (i j k:Nat) {A C:Asr} {r:Row} {u:Value} (vv:SV) (B:Asr) (ho:o.op=.mapUpdate ty mm x y) (hm:evO mm s.fr=some (.v (.map (some b)))) (hx:evO x s.fr=some (.i .i64 I)) (hy:evO y s.fr=some vv) (hA:s.ob[i]?=some A) (hC:s.ob[j]?=some C) (hr:s.m[k]?=some r) (hij:i≠j) (hAw:A.rw=true) (hCw:C.rw=true) (hl:(r.live && r.rw && r.pre.isEmpty && r.suf.isEmpty)=true)
  (hM:∀ w,A.st w→MapF X.P kt w b n mp) (hbF:b∈A.F) (hu:den s.m vv=u)
  (hB:∀ w w',A.st w→C.st w→Blk w r.g r.t (denL s.m r.cs).toArray→(∀ x∈C.F,x∉A.F)→r.g∉A.F→r.g∉C.F→MapF X.P kt w' b (n+1) (Mp.setK mp I (some u))→Upd [b] w w'→B.st w') (hF:∀ g∈B.F,g∈A.F∨g∈C.F∨g=r.g)
  (hk:X.P.underlying kt=some (.int .i64)) (ht:X.P.underlying ty=some (.map kt e)) (hw:(Lit.int .i64 I).wf=true) (hn:n < 1000000)
  (h:setR k (fun r K=>K { r with live:=false }) s.m fun m=>setO i B s.ob fun ob=>setO j nilO ob fun ob=>put X.n o.dst (.v undef) ⟨s.fr,m,ob⟩ K):OpVC X o s K:=⟨fun a w Q hR=>by
 simp only [Bool.and_eq_true,List.isEmpty_iff] at hl
 obtain ⟨⟨⟨l1,l2⟩,l3⟩,l4⟩:=hl
 have sA:=hR.h.obj A (List.mem_of_getElem? hA)
 have sC:=hR.h.obj C (List.mem_of_getElem? hC)
 obtain ⟨habs,d1,d2,d3⟩:=hR.h.absorb hA hC hr hij hAw hCw l1 l2 l3 l4
 have blk:Blk w r.g r.t (denL s.m r.cs).toArray:=by have:=hR.h.row k r hr l1; rwa [rowA_nil l3 l4] at this
 refine wp_mapput mm x y ty ho hk ht (hM w sA) hn (by rw [(evO_of hR.fr hm).2]; rfl) (by rw [(evO_of hR.fr hx).2]; rfl) hw (u:=u) (by rw [(evO_of hR.fr hy).2]; exact hu) (fun w' hmap hupd=>?_)
 have hij2:((s.ob.set i (absO A C r.g r.t (denL s.m r.cs).toArray)).set j nilO)[i]?=some (absO A C r.g r.t (denL s.m r.cs).toArray):=by
  rw [List.getElem?_set_ne (Ne.symm hij),List.getElem?_set_self (List.getElem?_eq_some_iff.1 hA).1]
 have hH:=habs.obj_set (B:=B) hij2 rfl (hB w w' sA sC blk d1 d2 d3 hmap hupd) (hupd.mono (fun g hg _=>by rw [List.mem_singleton] at hg; subst hg; exact List.mem_append.2 (.inl hbF))) (fun g hg=>by
  rcases hF g hg with hg | hg | rfl
  ·exact .inl (List.mem_append.2 (.inl hg))
  ·exact .inl (List.mem_append.2 (.inr (List.mem_append.2 (.inl hg))))
  ·exact .inl (List.mem_append.2 (.inr (List.mem_append.2 (.inr (List.mem_singleton.2 rfl))))))
 have hset:((s.ob.set i (absO A C r.g r.t (denL s.m r.cs).toArray)).set j nilO).set i B=(s.ob.set i B).set j nilO:=by
  rw [List.set_comm _ _ (Ne.symm hij),List.set_set]
 rw [hset] at hH
 obtain ⟨r',hr',hs⟩:=setR_of h
 rw [hr] at hr'; cases hr'
 obtain ⟨s',r1,r2,r3,r4⟩:=put_of (a:=a) (s:=⟨s.fr,s.m.set k { r with live:=false },(s.ob.set i B).set j nilO⟩) (v:=.v undef) hR.ds hR.sz (hR.fr.ext (Ext.dead hr)) hH rfl (setO_of (setO_of hs))
 exact ⟨s',r1,by rw [r2]; exact Ext.dead hr,r4⟩⟩
end
end En
namespace Gw
open Go.RowKit Ba Mem En Go.Proofs.YtepfmfalebmcnaaGreatDoor.Ty Mp Tm
open Ri (MsgV)
open Ln (LkV LO)
open Co (KV Pt KW Nr evE EvV goneK Hold.ob)
set_option maxRecDepth 100000
attribute [local irreducible] Go.Calls
def lkA (lo q:Nat) (k:LkV) (ls:List MsgV) (S:List Nat) (rw:Bool):Asr:=⟨S,rw,LO lo q k ls S,fun u hd h=>h.upd u hd,fun h=>h.lt⟩
theorem nx_bd (n:Int):0≤Se.nx n∧Se.nx n≤65535:=by unfold Se.nx; omega
def nxE (e:Int):Int:=if Se.nx e=0 then Se.nx (Se.nx e) else Se.nx e
def newV (c:CfgV) (i e now:Int) (h:MsgV):SeV:=⟨⟨c,i,e,0,0,0,0,false,cl now⟩,[],h,false⟩
def keepB (v:SeV) (h:MsgV):Bool:=!v.hd && (v.h.a == h.a && v.h.b == h.b)
def bornK (c:CfgV) (x:Kv) (e i:Int) (h:MsgV):Kv:=tell1 (x.1,setV x.2 i (some (newV c i e x.1.G.now h))) ⟨i,⟨2,e,0,0⟩⟩
def welK (c:CfgV) (x:Kv) (ep i:Int) (h:MsgV):Kv×Int:=match x.2 i with
 | some v=>if keepB v h=true then (x,ep) else (bornK c (endV x i) (nxE ep) i h,nxE ep)
 | none=>(bornK c x (nxE ep) i h,nxE ep)
section
variable {lo q mb M:Nat} {p:Pt} {K:KV} {Sk:List Nat} {D:Fam} {w w':World} {i:Int} {d:SeD}
theorem KG.more {M':Nat} (h:KG lo q p mb M K Sk D w) (hm:M≤M'):KG lo q p mb M' K Sk D w:=⟨h.k,⟨h.f.h0,h.f.mp.mono hm,h.f.at_,h.f.ne,h.f.far⟩,h.far⟩
theorem KG.add (h:KG lo q p mb M K Sk D w) (hi:0≤i∧i < 64) (hs:SeO lo d w) (hf:∀ g∈blS d,g∉kgF mb Sk D) (hm:MapF Tryz.prog 3 w' mb (M+1) (Mp.setK (ptrs D) i (some (.pointer (some ⟨d.b,0,none⟩))))) (u:Upd [mb] w w'):KG lo q p mb (M+1) K Sk (setD D i (some d)) w' :=
 ⟨h.k.upd u (fun g hg hgm=>h.far g hg (by rw [List.mem_singleton] at hgm; subst hgm; exact List.mem_cons_self ..)),h.f.add hi hs (fun g hg hgm=>hf g hg (List.mem_append.2 (.inr hgm))) hm u,fun g hg hgm=>by
  rcases fam_add g hgm with hgm | hgm
  ·exact h.far g hg hgm
  ·exact hf g hgm (List.mem_append.2 (.inl hg))⟩
theorem kg_add:∀ g∈kgF mb Sk (setD D i (some d)),g∈kgF mb Sk D∨g∈d.S∨g=d.b:=fun g hg=>by
 rcases List.mem_append.1 hg with hg | hg
 ·exact .inl (List.mem_append.2 (.inl hg))
 ·rcases fam_add g hg with hg | hg
  ·exact .inl (List.mem_append.2 (.inr hg))
  ·rcases List.mem_cons.1 hg with rfl | hg
   ·exact .inr (.inr rfl)
   ·exact .inr (.inl hg)
end
section
variable {gq M:Nat} {c:CfgV} {x:Gp} {ep i:Int} {K:KV} {Sk:List Nat} {D:Fam} {w:World}
theorem hold_gw {n:Nat} (hb:Blk w gq 96 (gwA c x ep)) (h:KG 0 x.q x.p x.mb M K Sk D w) (hg:gq∉kgF x.mb Sk D):Hold ⟨Tryz.prog,tab,gq::kgF x.mb Sk D,w,n,[]⟩ [⟨gq,96,true,0,[],gwS c x ep,[],true⟩] [kgO 0 x.q x.p x.mb M K Sk D true] w :=
 Hold.addObj (Hold.addRow (m:=[]) (Hold.nil _ tab _ _ w) ⟨gq,96,true,0,[],gwS c x ep,[],true⟩ hb (fun _=>.inl (List.mem_cons_self ..)) (by intro q hq; cases hq) (by intro A hA; cases hA)) (kgO 0 x.q x.p x.mb M K Sk D true) h (fun _ g hg=>.inl (List.mem_cons_of_mem _ hg)) (by intro r hr _; simp only [List.nil_append,List.mem_singleton] at hr; subst hr; exact hg) (by intro A hA; cases hA)
def WelQ (gq M:Nat) (c:CfgV) (x:Gp) (S:List Nat) (w:World) (r:Kv×Int) (e:Ending) (w':World):Prop :=
 ∃ y:List Nat×Fam,e=.returned (.tuple #[])∧Blk w' gq 96 (gwA c x r.2)∧KG 0 x.q x.p x.mb M r.1.1 y.1 y.2 w'∧vals y.2=r.1.2∧Upd (gq::S) w w'∧(∀ g∈kgF x.mb y.1 y.2,g∈gq::S∨w.heap.size≤g)∧gq∉kgF x.mb y.1 y.2
theorem bl_far {b q mb:Nat} {v:SeV} {Sk:List Nat} {D:Fam} (d1:∀ x∈[q],x∉kgF mb Sk D) (d2:b∉kgF mb Sk D):∀ g∈blS ⟨b,q,[q],v⟩,g∉kgF mb Sk D:=fun g hg=>by
 rcases List.mem_cons.1 hg with rfl | hg
 ·exact d2
 ·exact d1 g hg
theorem kg_add3 {b q mb:Nat} {v:SeV} {Sk:List Nat} {D:Fam} {g:Nat} (hg:g∈kgF mb Sk (setD D i (some ⟨b,q,[q],v⟩))):g∈kgF mb Sk D∨g∈[q]∨g=b:=kg_add g hg
set_option maxHeartbeats 4000000 in
theorem welNew {T:Int} (h:MsgV) (hd:D i=none) (hb:Blk w gq 96 (gwA c x ep)) (hk:KG 0 x.q x.p x.mb M K Sk D w) (hg:gq∉kgF x.mb Sk D) (hi:0≤i∧i < 64) (ht:TI T (K,vals D)) (hT:0≤T) (hM:M < 1000000) :
  Calls Tryz.prog 140 #[.pointer (some ⟨gq,0,none⟩),.int .i64 i,.agg #[.int .i64 h.ki,.int .i64 h.a,.int .i64 h.b,.int .i64 h.c]] w (WelQ gq (M+1) c x (kgF x.mb Sk D) w (bornK c (K,vals D) (nxE ep) i h,nxE ep)):=by
 have hp:ptrs D i=none:=by unfold ptrs; rw [hd]; rfl
 have hti:TI T (K,setV (vals D) i (some (newV c i (nxE ep) K.G.now h))):=ht.set i _ (by simp [newV]) (by simp [newV]; exact hT)
 have hbo:∀ b q,tellF (K,vals (setD D i (some ⟨b,q,[q],newV c i (nxE ep) K.G.now h⟩))) [(⟨i,⟨2,nxE ep,0,0⟩⟩:EvV)]=bornK c (K,vals D) (nxE ep) i h:=fun b q=>by rw [vals_set]; rfl
 obtain ⟨E,hE⟩:∃ E,nxE ep=E:=⟨_,rfl⟩
 have hEb:0≤E∧E≤65535:=by rw [← hE]; unfold nxE; split <;> exact nx_bd _
 rw [hE] at hti hbo ⊢
 by_cases h0:Se.nx ep=0
 rotate_left
 have he2:Se.nx ep=E:=(if_neg h0).symm.trans hE
 have h0:¬ E=0:=by rw [← he2]; exact h0
 rotate_left
 have he1:Se.nx (Se.nx ep)=E:=(if_pos h0).symm.trans hE
 all_goals refine entH tab_ok (hold_gw hb hk hg) [.p 0 0,.i .i64 i,.a [.i .i64 h.ki,.i .i64 h.a,.i .i64 h.b,.i .i64 h.c]] Tryz.func140 Tryz.ntmps140 rfl rfl ?_
 all_goals (repeat' (first | refine gs_ ?_|((conv=>whnf); first | intro b | refine bto ?_|refine bfo ?_|refine And.intro ?_ ?_|refine oplo (b:=x.mb) (n:=M) (m:=ptrs D) (k:=3) (e:=100) 0 (.pointer none) (.v (.pointer none)) false (by rfl) (by rfl) (by rfl) (by rfl) (fun w h=>kg_mp h) (by kernel_rfl) (by kernel_rfl) (fun w=>rfl) (wf_small hi) (by rw [hp]; rfl) (by rw [hp]; rfl) ?_|refine callS (f:=197) (.i .i64 E) (fun w=>by rw [← he2]; exact Se.nextT ep w) ?_|refine callS (f:=197) (.i .i64 E) (fun w=>by rw [← he1]; exact Se.nextT (Se.nx ep) w) ?_|refine callS (f:=197) (.i .i64 (Se.nx ep)) (Se.nextT ep) ?_|refine callH (f:=94) (.i .i64 K.G.now) (fun w hH=>nowG (hH.row 0 _ rfl rfl) (Hold.ob hH (A:=kgO 0 x.q x.p x.mb M K Sk D true) 0 rfl) (hH.far _ (List.mem_of_getElem? (i:=0) rfl) 0 _ rfl rfl)) ?_|refine callN (f:=198) (ι:=Nat) (fun q=>.v (.pointer (some ⟨q,0,none⟩))) (fun q=>lkA 0 q ⟨c,i,E,0,0,0,0,false,cl K.G.now⟩ [] [q] true) (fun w1 hH=>(Ln.newL c i (E) K.G.now hEb w1).mono (by rintro e w' ⟨q,rfl,h1,h2⟩; exact ⟨q,rfl,h1.base (Nat.zero_le _),h2,h1.low⟩)) (fun q=>?_)|(refine opupN (A:=kgO 0 x.q x.p x.mb M K Sk D true) (C:=lkA 0 q ⟨c,i,E,0,0,0,0,false,cl K.G.now⟩ [] [q] true) (r:=⟨b,103,true,0,[],[.v (.pointer (some ⟨q,0,none⟩)),.i .i64 h.ki,.i .i64 h.a,.i .i64 h.b,.i .i64 h.c,.b false],[],true⟩) (u:=.pointer (some ⟨b,0,none⟩)) (b:=x.mb) (n:=M) (mp:=ptrs D) (kt:=3) (e:=100) 0 1 2 (.p 2 0) (kgO 0 x.q x.p x.mb (M+1) K Sk (setD D i (some ⟨b,q,[q],newV c i (E) K.G.now h⟩)) true) (by rfl) (by rfl) (by rfl) (by rfl) (by rfl) (by rfl) (by rfl) (by decide) rfl rfl rfl (fun w h=>kg_mp h) (kg_mb ..) (by rfl) (fun w w' hA hC hB d1 d2 d3 hm hu=>KG.add (d:=⟨b,q,[q],newV c i (E) K.G.now h⟩) hA hi ⟨Nat.zero_le _,hB,hC,d3⟩ (bl_far d1 d2) hm hu) (fun g hg=>kg_add3 hg) (by kernel_rfl) (by kernel_rfl) (wf_small hi) hM ?_; obtain ⟨bs,rfl⟩:∃ bs,bs=b:=⟨b,rfl⟩)|refine opb1 (e:=82) ⟨tab_ok⟩ [.i .i64 i,.i .i64 2,.i .i64 (E),.i .i64 0,.i .i64 0] (by rfl) (by rfl) ?_|refine callO (f:=92) (A:=kgO 0 x.q x.p x.mb (M+1) K Sk (setD D i (some ⟨bs,q,[q],newV c i (E) K.G.now h⟩)) true) 0 (fun z:{z:List Nat×Fam // vals z.2=(tellF (K,vals (setD D i (some ⟨bs,q,[q],newV c i (E) K.G.now h⟩))) [(⟨i,⟨2,E,0,0⟩⟩:EvV)]).2}=>.t []) (fun z=>kgO 0 x.q x.p x.mb (M+1) (tellF (K,vals (setD D i (some ⟨bs,q,[q],newV c i (E) K.G.now h⟩))) [(⟨i,⟨2,E,0,0⟩⟩:EvV)]).1 z.1.1 z.1.2 true) (fun w hH hA=>(tellT (n:=1) (A:=some ⟨b,0,none⟩) (es:=[(⟨i,⟨2,E,0,0⟩⟩:EvV)]) (hH.row 0 _ rfl rfl) hA (hH.far _ (List.mem_of_getElem? (i:=0) rfl) 0 _ rfl rfl) (Co.Ek.of_blk (lo:=0) (hH.row 3 _ rfl rfl) (Nat.zero_le _) (by decide)) rfl (by intro g hg; rw [List.mem_singleton.1 hg]; exact hH.far _ (List.mem_of_getElem? (i:=0) rfl) 3 _ rfl rfl) (by intro hm; exact hH.ne 0 3 _ _ rfl rfl rfl rfl (by decide) (List.mem_singleton.1 hm)) (by intro e he; rw [List.mem_singleton.1 he]; exact hi) (by rw [vals_set]; exact hti) (by decide)).mono (by rintro e w' ⟨z,rfl,h1,h2,h3,h4⟩; exact ⟨⟨z,h2⟩,rfl,h1,h3,h4⟩)) (fun z=>?_)|refine fin fun w' hH=>⟨z.1,rfl,by have:=hH.row 0 _ rfl rfl; rw [rowA_nil rfl rfl] at this; exact this,by rw [← hbo bs q]; exact Hold.ob hH (A:=kgO 0 x.q x.p x.mb (M+1) (tellF (K,vals (setD D i (some ⟨bs,q,[q],newV c i (E) K.G.now h⟩))) [(⟨i,⟨2,E,0,0⟩⟩:EvV)]).1 z.1.1 z.1.2 true) 0 rfl,by rw [← hbo bs q]; exact z.2,hH.upd,fun g hg=>hH.own _ (List.mem_of_getElem? (i:=0) rfl) rfl g hg,hH.far _ (List.mem_of_getElem? (i:=0) rfl) 0 _ rfl rfl⟩|refine fin_s ?_)))
end
end Gw
end Go.Proofs.YtepfmfalebmcnaaGreatDoor
