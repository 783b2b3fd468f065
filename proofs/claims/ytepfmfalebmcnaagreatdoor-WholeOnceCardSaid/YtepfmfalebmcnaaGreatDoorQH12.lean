/-
  Wanted: part 12.
  No condition.
-/
import Derived.Defers
import Derived.Test.YtepfmfalebmcnaaGreatDoorProg
import Derived.Test.YtepfmfalebmcnaaGreatDoorQH0
import Derived.Test.YtepfmfalebmcnaaGreatDoorQH11
import Derived.Test.YtepfmfalebmcnaaGreatDoorQH6
import Derived.Test.YtepfmfalebmcnaaGreatDoorQH8
import Derived.Test.YtepfmfalebmcnaaGreatDoorQH10
import Derived.Test.YtepfmfalebmcnaaGreatDoorRows
import Derived.Test.YtepfmfalebmcnaaGreatDoorQH1
import Derived.Deep.Slices
set_option linter.all false
namespace Go.Proofs.YtepfmfalebmcnaaGreatDoor
namespace En
open Go.RowKit Ba Mem
section
variable {X:Cx} {s:St} {o:Oper} {t:TypeId}
theorem opsh (hX:X.Ok) {K:St→Prop} {y y2:Ty} {x a1:Operand} {A:Option Addr} {len cap:Nat} (h1:Nat) {k1:IntKind} {H:Int} (ho:o.op=.slice t x none (some a1) none) (hx:evO x s.fr=some (.v (.slice A len cap))) (h3:evO a1 s.fr=some (.i k1 H)) (hy:tyO t X.tab=some y) (hs:y.sl=true) (he:tyO y.el X.tab=some y2)
  (hb:H=h1∧h1≤cap) (h:put X.n o.dst (.v (.slice A h1 cap)) s K):OpVC X o s K :=
 opq (.v (.slice A h1 cap)) (fun a w hf _=>by
  obtain ⟨d,i,T⟩:=(hX.tab _ _ hy).out
  obtain ⟨d',i',T'⟩:=(hX.tab _ _ he).out
  refine exec_slice (s:=y2.size) t y.el x none (some a1) none ho (by rw [(evO_of hf hx).2]; rfl) (by rw [T.un,T.sl hs]) (by rw [T'.inf]; simp [T'.size]) (by
   have e2:=(evO_of hf h3).2
   simp only [Option.map,e2,den]
   exact sb_h w k1 hb.1 hb.2) ?_ (Nat.sub_zero _) (Nat.sub_zero _)
  split
  ·rfl
  ·cases A with
   | none=>rfl
   | some a=>simp [Addr.add]) h rfl
end
end En
namespace Fq
open Go.RowKit Ba Mem Cm Fm
open En (tab tab_ok SV St Asr Row Cx den denL Hold ent entH sgo br_not br_t br_f br_dec br_b fin_s fin_r fin_e kpt drA wr_i opiv opxc opsh callS callH callN hold_q)
open Go.Proofs.YtepfmfalebmcnaaGreatDoor.Byt (BV isB cells)
set_option maxRecDepth 100000
attribute [local irreducible] Go.wpList
def SO (lo s N:Nat) (xs:List Int) (S:List Nat) (w:World):Prop :=
 lo≤s∧∃ A n c tk zs,S=s::blkOf A∧Blk w s 93 #[.slice A n c,.int .i64 ((tk:Nat):Int)]∧w.ownsRow lo 5 1 (.slice A n c) n (cells zs)∧(∀ z∈zs,isB z)∧tk≤n∧zs.drop tk=xs∧n≤N
section
variable {w w':World} {lo s b N:Nat} {xs:List Int} {S T:List Nat}
theorem SO.upd (k:Upd T w w') (h:SO lo s N xs S w) (hT:∀ g∈S,g∉T):SO lo s N xs S w':=by
 obtain ⟨h0,A,n,c,tk,zs,rfl,B,O,r⟩:=h
 exact ⟨h0,A,n,c,tk,zs,rfl,k.blk B (hT _ (by simp)),k.own O (fun g hg=>hT g (by simp [hg])),r⟩
theorem SO.low (h:SO lo s N xs S w):∀ g∈S,lo≤g:=by
 obtain ⟨h0,A,n,c,tk,zs,rfl,B,O,r⟩:=h
 intro g hg
 rcases List.mem_cons.1 hg with rfl | hg
 ·exact h0
 ·exact own_low O g hg
theorem SO.lt (h:SO lo s N xs S w):∀ g∈S,g < w.heap.size:=by
 obtain ⟨h0,A,n,c,tk,zs,rfl,B,O,r⟩:=h
 intro g hg
 rcases List.mem_cons.1 hg with rfl | hg
 ·exact B.lt
 ·exact own_lt O g hg
theorem SO.far (h:SO lo s N xs S w) (hb:w.heap.size≤b):b∉S:=fun hm=>by have:=h.lt b hm; omega
theorem SO.more {N':Nat} (h:SO lo s N xs S w) (hb:N≤N'):SO lo s N' xs S w:=by
 obtain ⟨h0,A,n,c,tk,zs,rfl,B,O,r1,r2,r3,r4⟩:=h
 exact ⟨h0,A,n,c,tk,zs,rfl,B,O,r1,r2,r3,by omega⟩
theorem SO.new (h:Blk w s 93 #[.slice none 0 0,.int .i64 0]) (hs:lo≤s):SO lo s 0 [] [s] w :=
 ⟨hs,none,0,0,0,[],rfl,h,World.ownsRow_nil _ _ _ _,by simp,Nat.le_refl _,rfl,Nat.le_refl _⟩
end
theorem bv_drop {w:World} {A:Option Addr} {n k c:Nat} {zs:List Int} (h:BV w A n zs) (hk:k≤n) (hc:n≤c):BV w (cutA c k A 1) (n - k) (zs.drop k):=by
 obtain ⟨h1,h2,h3,h4⟩:=h
 refine ⟨by rw [List.length_drop]; omega,by omega,fun z hz=>h3 z (List.mem_of_mem_drop hz), ?_⟩
 rcases Nat.lt_or_ge k n with hlt | hge
 ·rcases h4 with h4 | ⟨b,off,rfl,hb,hcell⟩
  ·omega
  ·refine .inr ⟨b,off+k, ?_,hb,fun j hj=>?_⟩
   ·unfold cutA
    rw [if_neg (by omega)]
    simp [Go.WideShapes.add_plain]
   ·rw [Nat.add_assoc,hcell (k+j) (by omega)]
    simp [List.getD]
 ·exact .inl (by omega)
theorem cutA_some {c k off g:Nat} (h:k < c):cutA c k (some ⟨g,off,none⟩) 1=some ⟨g,off+k,none⟩:=by
 unfold cutA
 rw [if_neg (by omega)]
 simp [Go.WideShapes.add_plain]
theorem bv_at {w:World} {g off n:Nat} {zs:List Int} (h:BV w (some ⟨g,off,none⟩) n zs) (j:Nat) (hj:j < n) {v:Int} (hv:zs.getD j 0=v):w.cell? ⟨g,off+j,none⟩=some (.int .u8 v):=by
 obtain ⟨b,o,e,_,hc⟩:=h.addr (by omega)
 simp only [Option.some.injEq,Addr.mk.injEq,and_true] at e
 obtain ⟨rfl,rfl⟩:=e
 rw [hc j hj,hv]
theorem getD_isB {zs:List Int} (h:∀ z∈zs,isB z) (j:Nat):isB (zs.getD j 0):=by
 by_cases hj:j < zs.length
 ·rw [show zs.getD j 0=zs[j] by simp [List.getD,hj]]; exact h _ (List.getElem_mem hj)
 ·rw [show zs.getD j 0=0 by simp [List.getD,hj]]; unfold isB; omega
theorem seal_isB {zs:List Int} (h:∀ z∈zs,isB z):∀ z∈zs++be4 (crcN zs),isB z:=by
 intro z hz
 rcases List.mem_append.1 hz with h1 | h1
 ·exact h z h1
 ·exact be4_isB _ z h1
def byO (g off n:Nat) (zs:List Int):Asr:=⟨[g],false,fun w=>BV w (some ⟨g,off,none⟩) n zs∧0 < n,fun u hd h=>by
 obtain ⟨⟨h1,h2,h3,h4⟩,h5⟩:=h
 rcases h4 with h4 | ⟨b,o,e,hlt,hc⟩
 ·omega
 ·simp only [Option.some.injEq,Addr.mk.injEq,and_true] at e
  obtain ⟨rfl,rfl⟩:=e
  refine ⟨⟨h1,h2,h3,.inr ⟨_,_,rfl,Nat.lt_of_lt_of_le hlt u.size,fun j hj=>?_⟩⟩,h5⟩
  have hq:=u.block _ hlt (hd _ (List.mem_singleton.2 rfl))
  have hc:=hc j hj
  unfold World.cell? at hc ⊢
  rw [hq]; exact hc,fun h x hx=>by
 obtain ⟨⟨h1,h2,h3,h4⟩,h5⟩:=h
 rcases h4 with h4 | ⟨b,o,e,hlt,hc⟩
 ·omega
 ·simp only [Option.some.injEq,Addr.mk.injEq,and_true] at e
  obtain ⟨rfl,rfl⟩:=e
  rw [List.mem_singleton.1 hx]; exact hlt⟩
def owO (lo:Nat) (A:Option Addr) (n c:Nat) (zs:List Int):Asr:=⟨blkOf A,true,fun w=>w.ownsRow lo 5 1 (.slice A n c) n (cells zs),fun k hd hs=>k.own hs hd,fun h=>own_lt h⟩
theorem bv_rng {w:World} {g off n:Nat} {zs:List Int} (h:BV w (some ⟨g,off,none⟩) n zs) (j:Nat) (hj:j < n) {v:Int} (hv:zs.getD j 0=v):w.rangeAt g (off+j) [.int .u8 v]:=fun i u hi=>by
 cases i with
 | zero=>simp at hi; subst hi; simpa using bv_at h j hj hv
 | succ i=>simp at hi
section
variable {g off n c k:Nat} {x:Int} {r:List Int} {w:World}
theorem first_n (hb:BV w (some ⟨g,off,none⟩) n (x::r)):0 < n:=by have:=hb.1; simp at this; omega
theorem firstF1 (g off n c:Nat) (x:Int) (r:List Int) (w:World) (hb:BV w (some ⟨g,off,none⟩) n (x::r)) (hc:n≤c) (hn:n≤1000000) (h1:x≠165):Calls Tryz.prog 134 #[.slice (some ⟨g,off,none⟩) n c] w fun e w'=>e=.returned (.tuple #[.slice none 0 0,.bool true])∧Since w w':=by
 have hn0:=first_n hb
 refine entH tab_ok (Hold.addObj (Hold.nil _ tab [] _ w) (byO g off n (x::r)) ⟨hb,hn0⟩ (by intro k; cases k) (by intro r hr; cases hr) (by intro A hA; cases hA)) [.v (.slice (some ⟨g,off,none⟩) n c)] Tryz.func134 Tryz.ntmps134 rfl rfl ?_
 repeat' (first | refine gq_ ?_|((conv=>whnf); first | refine bto ?_|refine bfo ?_|refine br_t (bne_iff_ne.2 h1) ?_|refine opiv ⟨tab_ok⟩ (by rfl) (by rfl) (by rfl) (by rfl) (by rfl) (by rfl) ⟨by omega,by omega⟩ ?_|refine opxc (g:=g) (off:=off+0) (.i .u8 x) (fun w hH=>bv_rng (Co.Hold.ob hH (A:=byO g off n (x::r)) 0 rfl).1 0 hn0 rfl) ⟨tab_ok⟩ (by rfl) (by rfl) (by simp only [Go.WideShapes.add_plain]; rfl) ?_|refine fin_s ?_))
 all_goals rfl
theorem firstF2 (g off n c:Nat) (x:Int) (r:List Int) (w:World) (hb:BV w (some ⟨g,off,none⟩) n (x::r)) (hc:n≤c) (hn:n≤1000000) (h1:x=165) (h2:n < 2):Calls Tryz.prog 134 #[.slice (some ⟨g,off,none⟩) n c] w fun e w'=>e=.returned (.tuple #[.slice none 0 0,.bool false])∧Since w w':=by
 have hn0:=first_n hb
 refine entH tab_ok (Hold.addObj (Hold.nil _ tab [] _ w) (byO g off n (x::r)) ⟨hb,hn0⟩ (by intro k; cases k) (by intro r hr; cases hr) (by intro A hA; cases hA)) [.v (.slice (some ⟨g,off,none⟩) n c)] Tryz.func134 Tryz.ntmps134 rfl rfl ?_
 repeat' (first | refine gq_ ?_|((conv=>whnf); first | refine bto ?_|refine bfo ?_|refine br_f (bnf h1) ?_|refine opiv ⟨tab_ok⟩ (by rfl) (by rfl) (by rfl) (by rfl) (by rfl) (by rfl) ⟨by omega,by omega⟩ ?_|refine opxc (g:=g) (off:=off+0) (.i .u8 x) (fun w hH=>bv_rng (Co.Hold.ob hH (A:=byO g off n (x::r)) 0 rfl).1 0 hn0 rfl) ⟨tab_ok⟩ (by rfl) (by rfl) (by simp only [Go.WideShapes.add_plain]; rfl) ?_|refine fin_s ?_))
 all_goals rfl
theorem firstF3 (g off n c:Nat) (x:Int) (r:List Int) (w:World) (hb:BV w (some ⟨g,off,none⟩) n (x::r)) (hc:n≤c) (hn:n≤1000000) (h1:x=165) (h2:¬ n < 2) (h3:okN (r.getD 0 0)=false):Calls Tryz.prog 134 #[.slice (some ⟨g,off,none⟩) n c] w fun e w'=>e=.returned (.tuple #[.slice none 0 0,.bool true])∧Since w w':=by
 have hn0:=first_n hb
 have hz:0≤r.getD 0 0∧r.getD 0 0 < 256:=getD_isB (fun z hz=>hb.2.2.1 z (List.mem_cons_of_mem _ hz)) 0
 refine entH tab_ok (Hold.addObj (Hold.nil _ tab [] _ w) (byO g off n (x::r)) ⟨hb,hn0⟩ (by intro k; cases k) (by intro r hr; cases hr) (by intro A hA; cases hA)) [.v (.slice (some ⟨g,off,none⟩) n c)] Tryz.func134 Tryz.ntmps134 rfl rfl ?_
 repeat' (first | refine gq_ ?_|((conv=>whnf); first | refine bto ?_|refine bfo ?_|refine wr_i ?_|refine br_f (bnf h1) ?_|refine opiv ⟨tab_ok⟩ (by rfl) (by rfl) (by rfl) (by rfl) (by rfl) (by rfl) ⟨by omega,by omega⟩ ?_|refine opxc (g:=g) (off:=off+0) (.i .u8 x) (fun w hH=>bv_rng (Co.Hold.ob hH (A:=byO g off n (x::r)) 0 rfl).1 0 hn0 rfl) ⟨tab_ok⟩ (by rfl) (by rfl) (by simp only [Go.WideShapes.add_plain]; rfl) ?_|refine opxc (g:=g) (off:=off+1) (.i .u8 (r.getD 0 0)) (fun w hH=>bv_rng (Co.Hold.ob hH (A:=byO g off n (x::r)) 0 rfl).1 1 (by omega) (by simp [List.getD])) ⟨tab_ok⟩ (by rfl) (by rfl) (by simp only [Go.WideShapes.add_plain]; rfl) ?_|refine callS (f:=193) (.b false) (fun w=>countedV _ _ w h3) ?_|refine fin_s ?_))
 all_goals rfl
theorem firstF4 (g off n c k:Nat) (x:Int) (r:List Int) (w:World) (hb:BV w (some ⟨g,off,none⟩) n (x::r)) (hc:n≤c) (hn:n≤1000000) (h1:x=165) (h2:¬ n < 2) (h3:okN (k:Int)=true) (hk:r.getD 0 0=(k:Int)) (h4:n < k+6):Calls Tryz.prog 134 #[.slice (some ⟨g,off,none⟩) n c] w fun e w'=>e=.returned (.tuple #[.slice none 0 0,.bool false])∧Since w w':=by
 have hn0:=first_n hb
 have hk6:1≤k∧k≤64:=by have:=of_decide_eq_true h3; omega
 have hB:=hb.2.2.1
 refine entH tab_ok (Hold.addObj (Hold.nil _ tab [] _ w) (byO g off n (x::r)) ⟨hb,hn0⟩ (by intro k; cases k) (by intro r hr; cases hr) (by intro A hA; cases hA)) [.v (.slice (some ⟨g,off,none⟩) n c)] Tryz.func134 Tryz.ntmps134 rfl rfl ?_
 repeat' (first | refine gq_ ?_|((conv=>whnf); first | refine bto ?_|refine bfo ?_|refine wr_i ?_|refine br_f (bnf h1) ?_|refine opiv ⟨tab_ok⟩ (by rfl) (by rfl) (by rfl) (by rfl) (by rfl) (by rfl) ⟨by omega,by omega⟩ ?_|refine opxc (g:=g) (off:=off+0) (.i .u8 x) (fun w hH=>bv_rng (Co.Hold.ob hH (A:=byO g off n (x::r)) 0 rfl).1 0 hn0 rfl) ⟨tab_ok⟩ (by rfl) (by rfl) (by simp only [Go.WideShapes.add_plain]; rfl) ?_|refine opxc (g:=g) (off:=off+1) (.i .u8 (k:Int)) (fun w hH=>bv_rng (Co.Hold.ob hH (A:=byO g off n (x::r)) 0 rfl).1 1 (by omega) (by rw [← hk]; simp [List.getD])) ⟨tab_ok⟩ (by rfl) (by rfl) (by simp only [Go.WideShapes.add_plain]; rfl) ?_|refine callS (f:=193) (.b true) (fun w=>countedV _ _ w h3) ?_|refine fin_s ?_))
 all_goals rfl
theorem firstF5 (g off n c k:Nat) (x:Int) (r:List Int) (w:World) (hb:BV w (some ⟨g,off,none⟩) n (x::r)) (hc:n≤c) (hn:n≤1000000) (h1:x=165) (h2:¬ n < 2) (h3:okN (k:Int)=true) (hk:r.getD 0 0=(k:Int)) (h4:¬ n < k+6) (h5:(x::r).take (k+2)++be4 (crcN ((x::r).take (k+2)))≠(x::r).take (k+6)):Calls Tryz.prog 134 #[.slice (some ⟨g,off,none⟩) n c] w fun e w'=>e=.returned (.tuple #[.slice none 0 0,.bool true])∧Since w w':=by
 have hn0:=first_n hb
 have hk6:1≤k∧k≤64:=by have:=of_decide_eq_true h3; omega
 have hB:=hb.2.2.1
 refine entH tab_ok (Hold.addObj (Hold.nil _ tab [] _ w) (byO g off n (x::r)) ⟨hb,hn0⟩ (by intro k; cases k) (by intro r hr; cases hr) (by intro A hA; cases hA)) [.v (.slice (some ⟨g,off,none⟩) n c)] Tryz.func134 Tryz.ntmps134 rfl rfl ?_
 repeat' (first | refine gq_ ?_|((conv=>whnf); first | refine bto ?_|refine bfo ?_|refine wr_i ?_|refine br_f (bnf h1) ?_|refine opiv ⟨tab_ok⟩ (by rfl) (by rfl) (by rfl) (by rfl) (by rfl) (by rfl) ⟨by omega,by omega⟩ ?_|refine opxc (g:=g) (off:=off+0) (.i .u8 x) (fun w hH=>bv_rng (Co.Hold.ob hH (A:=byO g off n (x::r)) 0 rfl).1 0 hn0 rfl) ⟨tab_ok⟩ (by rfl) (by rfl) (by simp only [Go.WideShapes.add_plain]; rfl) ?_|refine opxc (g:=g) (off:=off+1) (.i .u8 (k:Int)) (fun w hH=>bv_rng (Co.Hold.ob hH (A:=byO g off n (x::r)) 0 rfl).1 1 (by omega) (by rw [← hk]; simp [List.getD])) ⟨tab_ok⟩ (by rfl) (by rfl) (by simp only [Go.WideShapes.add_plain]; rfl) ?_|refine callS (f:=193) (.b true) (fun w=>countedV _ _ w h3) ?_|refine drA (id:=11) ⟨tab_ok⟩ [6] ?_|refine And.intro ?_ ?_|refine opsh ⟨tab_ok⟩ (k+2) (by rfl) (by rfl) (by rfl) (by rfl) (by rfl) (by rfl) ⟨by omega,by omega⟩ ?_|refine opsh ⟨tab_ok⟩ (k+6) (by rfl) (by rfl) (by rfl) (by rfl) (by rfl) (by rfl) ⟨by omega,by omega⟩ ?_|refine callN (f:=194) (ι:=Option Addr×Nat) (fun y=>.v (.slice y.1 (k+2+4) y.2)) (fun y=>owO w.heap.size y.1 (k+2+4) y.2 ((x::r).take (k+2)++be4 (crcN ((x::r).take (k+2))))) (fun w1 hH=>(sealedT ⟨g,off,none⟩ (k+2) c ((x::r).take (k+2)) w1 ((Co.Hold.ob hH (A:=byO g off n (x::r)) 0 rfl).1.cut (by omega)) (by omega) (by omega) (by omega)).mono (by rintro e w' ⟨A',c',rfl,q1,q2⟩; exact ⟨(A',c'),rfl,own_base q1 hH.upd.size,q2,own_low q1⟩)) (fun y=>?_)|refine callH (f:=195) (.b false) (fun w1 hH=>equalNo y.1 (k+2+4) y.2 (some ⟨g,off,none⟩) (k+6) c _ _ w1 (Byt.BV.of_own (Co.Hold.ob hH (A:=owO w.heap.size y.1 (k+2+4) y.2 ((x::r).take (k+2)++be4 (crcN ((x::r).take (k+2))))) 1 rfl) (seal_isB (fun z hz=>hB z (List.mem_of_mem_take hz)))) ((Co.Hold.ob hH (A:=byO g off n (x::r)) 0 rfl).1.cut (by omega)) h5) ?_|refine fin_s ?_))
 all_goals rfl
theorem firstF6 (g off n c k:Nat) (x:Int) (r:List Int) (w:World) (hb:BV w (some ⟨g,off,none⟩) n (x::r)) (hc:n≤c) (hn:n≤1000000) (h1:x=165) (h2:¬ n < 2) (h3:okN (k:Int)=true) (hk:r.getD 0 0=(k:Int)) (h4:¬ n < k+6) (h5:(x::r).take (k+2)++be4 (crcN ((x::r).take (k+2)))=(x::r).take (k+6)):Calls Tryz.prog 134 #[.slice (some ⟨g,off,none⟩) n c] w fun e w'=>e=.returned (.tuple #[.slice (some ⟨g,off,none⟩) (k+2) c,.bool true])∧Since w w':=by
 have hn0:=first_n hb
 have hk6:1≤k∧k≤64:=by have:=of_decide_eq_true h3; omega
 have hB:=hb.2.2.1
 refine entH tab_ok (Hold.addObj (Hold.nil _ tab [] _ w) (byO g off n (x::r)) ⟨hb,hn0⟩ (by intro k; cases k) (by intro r hr; cases hr) (by intro A hA; cases hA)) [.v (.slice (some ⟨g,off,none⟩) n c)] Tryz.func134 Tryz.ntmps134 rfl rfl ?_
 repeat' (first | refine gq_ ?_|((conv=>whnf); first | refine bto ?_|refine bfo ?_|refine wr_i ?_|refine br_f (bnf h1) ?_|refine opiv ⟨tab_ok⟩ (by rfl) (by rfl) (by rfl) (by rfl) (by rfl) (by rfl) ⟨by omega,by omega⟩ ?_|refine opxc (g:=g) (off:=off+0) (.i .u8 x) (fun w hH=>bv_rng (Co.Hold.ob hH (A:=byO g off n (x::r)) 0 rfl).1 0 hn0 rfl) ⟨tab_ok⟩ (by rfl) (by rfl) (by simp only [Go.WideShapes.add_plain]; rfl) ?_|refine opxc (g:=g) (off:=off+1) (.i .u8 (k:Int)) (fun w hH=>bv_rng (Co.Hold.ob hH (A:=byO g off n (x::r)) 0 rfl).1 1 (by omega) (by rw [← hk]; simp [List.getD])) ⟨tab_ok⟩ (by rfl) (by rfl) (by simp only [Go.WideShapes.add_plain]; rfl) ?_|refine callS (f:=193) (.b true) (fun w=>countedV _ _ w h3) ?_|refine drA (id:=11) ⟨tab_ok⟩ [6] ?_|refine And.intro ?_ ?_|refine opsh ⟨tab_ok⟩ (k+2) (by rfl) (by rfl) (by rfl) (by rfl) (by rfl) (by rfl) ⟨by omega,by omega⟩ ?_|refine opsh ⟨tab_ok⟩ (k+6) (by rfl) (by rfl) (by rfl) (by rfl) (by rfl) (by rfl) ⟨by omega,by omega⟩ ?_|refine callN (f:=194) (ι:=Option Addr×Nat) (fun y=>.v (.slice y.1 (k+2+4) y.2)) (fun y=>owO w.heap.size y.1 (k+2+4) y.2 ((x::r).take (k+2)++be4 (crcN ((x::r).take (k+2))))) (fun w1 hH=>(sealedT ⟨g,off,none⟩ (k+2) c ((x::r).take (k+2)) w1 ((Co.Hold.ob hH (A:=byO g off n (x::r)) 0 rfl).1.cut (by omega)) (by omega) (by omega) (by omega)).mono (by rintro e w' ⟨A',c',rfl,q1,q2⟩; exact ⟨(A',c'),rfl,own_base q1 hH.upd.size,q2,own_low q1⟩)) (fun y=>?_)|refine callH (f:=195) (.b true) (fun w1 hH=>equalYes y.1 (k+2+4) y.2 (some ⟨g,off,none⟩) (k+6) c _ _ w1 (Byt.BV.of_own (Co.Hold.ob hH (A:=owO w.heap.size y.1 (k+2+4) y.2 ((x::r).take (k+2)++be4 (crcN ((x::r).take (k+2))))) 1 rfl) (seal_isB (fun z hz=>hB z (List.mem_of_mem_take hz)))) ((Co.Hold.ob hH (A:=byO g off n (x::r)) 0 rfl).1.cut (by omega)) h5) ?_|refine fin_s ?_))
 all_goals rfl
end
theorem heldA (s:Nat) (A:Option Addr) (n c tk:Nat) (w:World) (hb:Blk w s 93 #[.slice A n c,.int .i64 ((tk:Nat):Int)]) (ht:tk≤n) (hn:n≤1000000):Calls Tryz.prog 133 #[.pointer (some ⟨s,0,none⟩)] w fun e w'=>e=.returned (.int .i64 ((n:Int) - (tk:Int)))∧Since w w':=by
 refine entH tab_ok (hold_q (S:=[]) [.v (.slice A n c),.i .i64 ((tk:Nat):Int)] hb) [.p 0 0] Tryz.func133 Tryz.ntmps133 rfl rfl ?_
 repeat' (first | refine gs_ ?_|((conv=>whnf); first | refine wr_i ?_|refine fin_s ?_))
 all_goals rfl
set_option maxHeartbeats 4000000 in
theorem feedA (lo s:Nat) (A:Option Addr) (n c tk:Nat) (zs:List Int) (A2:Option Addr) (m c2:Nat) (ys:List Int) (w:World) (hq:Blk w s 93 #[.slice A n c,.int .i64 ((tk:Nat):Int)]) (ho:w.ownsRow lo 5 1 (.slice A n c) n (cells zs)) (hb:BV w A2 m ys) (hn:n+m≤1000000) (h0:lo≤s):Calls Tryz.prog 98 #[.pointer (some ⟨s,0,none⟩),.slice A2 m c2] w fun e w'=>e=.returned (.tuple #[])∧∃ A' c',Blk w' s 93 #[.slice A' (n+m) c',.int .i64 ((tk:Nat):Int)]∧w'.ownsRow lo 5 1 (.slice A' (n+m) c') (n+m) (cells (zs++ys))∧Upd (s::blkOf A) w w'∧∀ g∈blkOf A',g∈blkOf A∨w.heap.size≤g:=by
 have HBQ:=Lib.hid hq
 clear hq
 have HOW:=Lib.hid ho
 clear ho
 have HB:=Lib.hid hb
 clear hb
 have HN:=Lib.hid hn
 clear hn
 have H0:=Lib.hid h0
 clear h0
 go_enter Tryz.func98,Tryz.ntmps98
 have HS1:=Lib.hid (Upd.refl (s::blkOf A) w)
 have HIQ:=Lib.hid (own_ne_ty HOW.out HBQ.out (by decide))
 have HLO:=Lib.hid (show lo≤w.heap.size by have:=Blk.lt HBQ.out; have:=H0.out; omega)
 go_upto_region 0 with fail
 refine wp_region_lit ?_
 refine tkL (.pointer (some ⟨s,0,none⟩)) (h:=?_)
 try simp only[Act.put,sA,sB,sC]
 refine tkL (.bool false) (h:=?_)
 try simp only[Act.put,sA,sB,sC]
 refine wpList_nil ?_
 go_upto_region 1 with fail
 refine wp_region_lit ?_
 refine tkL (.pointer (some ⟨s,0,none⟩)) (h:=?_)
 try simp only[Act.put,sA,sB,sC]
 refine tkL (.pointer (some ⟨s,0,none⟩)) (h:=?_)
 try simp only[Act.put,sA,sB,sC]
 refine tkL (.pointer (some ⟨s,0,none⟩)) (h:=?_)
 try simp only[Act.put,sA,sB,sC]
 refine tkL (.pointer (some ⟨s,0,none⟩)) (h:=?_)
 try simp only[Act.put,sA,sB,sC]
 refine wpList_q (by rfl) (.slice A n c) ?he ?_
 case he=>exact exec_cell 29 _ _ HBQ.out rfl rfl rfl Tryz.underlying29 rfl
 try simp only[Act.put,sA,sB,sC]
 refine tkL (.slice A2 m c2) (h:=?_)
 try simp only[Act.put,sA,sB,sC]
 refine wpList_wp (by rfl) (fun K hK=>?_)
 refine wp_append_row (.tmp 10) (.tmp 11) 29 rfl lo 5 (Value.int .u8 0) 1 1 Tryz.underlying29 (by kernel_rfl) rfl (by decide) (by decide) A n c (cells zs) rfl HOW.out _ A2 m c2 (cells ys) rfl (bv_reads HB.out) (Byt.cells_one ys) HN.out HLO.out (n+m) (cells (zs++ys)) rfl (cells_app _ _) ?_
 intro A_1 c_1 w2 hown hupd hfar
 refine hK.out _ _ ?_
 clear hK K
 try simp only[Act.put,sA,sB,sC]
 have HFAR:=Lib.hid hfar
 have HS2:=Lib.hid (Upd.comp HS1.out hupd (fun x h=>.inl (List.mem_cons_of_mem _ h)))
 have HBQ2:=Lib.hid (Upd.blk hupd HBQ.out HIQ.out)
 have HIQ_r_2:=Lib.hid (nin_next hfar HIQ.out (Blk.lt HBQ.out))
 have HFr2:=Lib.hid hown
 clear hupd hown hfar HS1 HBQ HOW
 refine tkL (.pointer (some ⟨s,0,none⟩)) (h:=?_)
 try simp only[Act.put,sA,sB,sC]
 refine tkL (.pointer (some ⟨s,0,none⟩)) (h:=?_)
 try simp only[Act.put,sA,sB,sC]
 refine wpList_wp (by rfl) (fun K hK=>?_)
 refine wp_st_cell 29 _ _ rfl #[.slice A_1 (n+m) c_1,.int .i64 ((tk:Nat):Int)] (.slice A_1 (n+m) c_1) rfl rfl HBQ2.out (by show 0 < 2; decide) rfl (by first | rfl | simp [Value.oneCell']) (by kernel_rfl) ?_
 intro w3 hw
 refine hK.out _ _ ?_
 clear hK K
 try simp only[Act.put,sA,sB,sC]
 have HS3:=Lib.hid (show Upd (s::blkOf A) w w3 by rw [hw]; exact Upd.setRow HS2.out (.inl (by simp)) _)
 have HBQ3:=Lib.hid (show Blk w3 s 93 #[.slice A_1 (n+m) c_1,.int .i64 ((tk:Nat):Int)] by rw [hw]; exact Blk.row HBQ2.out _)
 have HFr_3:=Lib.hid (show (w3).ownsRow lo 5 1 (.slice A_1 (n+m) c_1) (n+m) (cells (zs++ys)) by rw [hw]; exact own_row_far HFr2.out HIQ_r_2.out _)
 clear hw HS2 HBQ2 HFr2
 refine wpList_nil ?_
 (try go_wp2_with fail)
 first | go_end0 | refine bodyPost_ret (results_none rfl _ _ _) rfl ?_
 exact ⟨rfl,A_1,c_1,HBQ3.out,HFr_3.out,HS3.out,HFAR.out⟩
theorem feedT (lo s N:Nat) (xs:List Int) (S:List Nat) (A2:Option Addr) (m c2:Nat) (ys:List Int) (w:World) (h:SO lo s N xs S w) (hb:BV w A2 m ys) (hN:N+m≤1000000) :
  Calls Tryz.prog 98 #[.pointer (some ⟨s,0,none⟩),.slice A2 m c2] w fun e w'=>∃ S',e=.returned (.tuple #[])∧SO lo s (N+m) (xs++ys) S' w'∧Upd S w w'∧∀ g∈S',g∈S∨w.heap.size≤g:=by
 obtain ⟨h0,A,n,c,tk,zs,rfl,B,O,r1,r2,r3,r4⟩:=h
 have hl:zs.length=n:=by have:=O.1; simpa [cells] using this
 refine (feedA lo s A n c tk zs A2 m c2 ys w B O hb (by omega) h0).mono ?_
 rintro e w1 ⟨rfl,A',c',B',O',hu,hfar⟩
 refine ⟨s::blkOf A',rfl,⟨h0,A',n+m,c',tk,zs++ys,rfl,B',O', ?_,by omega, ?_,by omega⟩,hu,fun g hg=>?_⟩
 ·intro z hz
  rcases List.mem_append.1 hz with h1 | h1
  ·exact r1 z h1
  ·exact hb.2.2.1 z h1
 ·rw [List.drop_append_of_le_length (by omega),r3]
 ·rcases List.mem_cons.1 hg with rfl | hg
  ·exact .inl (by simp)
  ·rcases hfar g hg with h1 | h1
   ·exact .inl (List.mem_cons_of_mem _ h1)
   ·exact .inr h1
end Fq
namespace En
open Go.RowKit Ba Mem
section
variable {X:Cx} {s:St} {o:Oper} {t:TypeId}
theorem opst_ (hX:X.Ok) {K:St→Prop} {y y2:Ty} {x a1:Operand} {A:Option Addr} {len cap:Nat} (l:Nat) {k1:IntKind} {L:Int} (ho:o.op=.slice t x (some a1) none none) (hx:evO x s.fr=some (.v (.slice A len cap))) (h3:evO a1 s.fr=some (.i k1 L)) (hy:tyO t X.tab=some y) (hs:y.sl=true) (he:tyO y.el X.tab=some y2)
  (hb:L=l∧l≤len) (h:put X.n o.dst (.v (.slice (cutA cap l A y2.size) (len - l) (cap - l))) s K):OpVC X o s K :=
 opq (.v (.slice (cutA cap l A y2.size) (len - l) (cap - l))) (fun a w hf _=>by
  obtain ⟨d,i,T⟩:=(hX.tab _ _ hy).out
  obtain ⟨d',i',T'⟩:=(hX.tab _ _ he).out
  exact exec_slice (s:=y2.size) t y.el x (some a1) none none ho (by rw [(evO_of hf hx).2]; rfl) (by rw [T.un,T.sl hs]) (by rw [T'.inf]; simp [T'.size]) (by
   have e2:=(evO_of hf h3).2
   simp only [Option.map,e2,den]
   exact sb_l w k1 hb.1 hb.2) rfl rfl rfl) h rfl
end
theorem entD {P:Program} {T:Tab} (hT:TabOk P T) {f:FuncId} {fn:Func} {c:Code} {n:Nat} {args:Array Value} {u:FrameMode} {w:World} {R:Ending→World→Prop} {S:List Nat} {m:List Row} {ob:List Asr} (hH:Hold ⟨P,T,S,w,n,[]⟩ m ob w) (vs:List SV)
  (hf:P.funcs[f]?=some fn) (hn:fn.ntmps=n) (hb:fn.body=some c) (hargs:(denL m vs).toArray=args)
  (h:numbK 0 vs fun fr=>run ⟨P,T,S,w,n,[]⟩ c ⟨fr,m,ob⟩ (finK ⟨P,T,S,w,n,[]⟩ fn R))
  (hok:(okL m.length vs && Nat.ble vs.length n)=true:=by rfl):CallsD P f args u w fun e u' w'=>u'=u∧R e w':=by
 have hX:(⟨P,T,S,w,n,[]⟩:Cx).Ok:=⟨hT⟩
 simp only [Bool.and_eq_true] at hok
 have hle:=Nat.le_of_ble_eq_true hok.2
 refine callsD_of_wp hf hb ?_
 have h1:=run_of hX (numbK_of h)
 replace h1:=h1.out
 refine Code.wp_mono (fin_of hX rfl) (h1 _ _ ⟨rfl, ?_,fun k v hv=>?_,hH⟩)
 ·subst hargs; simp [denL_len,hn]; omega
 ·obtain ⟨_,h2⟩:=numb_lk hv
  simp only [Nat.sub_zero] at h2
  refine ⟨okL_at hok.1 h2, ?_⟩
  subst hargs
  have hlt:k < (denL m vs).toArray.size:=by simp [denL_len]; exact (List.getElem?_eq_some_iff.1 h2).1
  rw [Array.getElem?_append_left hlt,List.getElem?_toArray,denL_get,h2]; rfl
end En
namespace Fq
open Go.RowKit Ba Mem Cm Fm
open En (tab tab_ok SV St Asr Row Cx den denL Hold sgo br_not br_t br_f br_dec br_b fin fin_s fin_r fin_e kpt drA wr_i opst_ callH callN entD rowA_nil)
open Go.Proofs.YtepfmfalebmcnaaGreatDoor.Byt (BV isB cells)
set_option maxRecDepth 100000
attribute [local irreducible] Go.wpList
theorem forgetNo (lo s:Nat) (A:Option Addr) (n c tk:Nat) (zs:List Int) (u:FrameMode) (w:World) (hq:Blk w s 93 #[.slice A n c,.int .i64 ((tk:Nat):Int)]) (ho:w.ownsRow lo 5 1 (.slice A n c) n (cells zs)) (hb:∀ z∈zs,isB z) (ht:tk≤n) (hn:n≤1000000) (h0:lo≤s) (hg:¬ n < tk+tk):CallsD Tryz.prog 132 #[.pointer (some ⟨s,0,none⟩)] u w fun e u' w'=>u'=u∧(e=.returned (.tuple #[])∧∃ S',SO lo s n (zs.drop tk) S' w'∧Upd (s::blkOf A) w w'∧∀ g∈S',g∈s::blkOf A∨w.heap.size≤g):=by
 refine entD tab_ok (Hold.addObj (Hold.addRow (m:=[]) (Hold.nil _ tab (s::blkOf A) _ w) ⟨s,93,true,0,[],[.v (.slice A n c),.i .i64 ((tk:Nat):Int)],[],true⟩ hq (fun _=>.inl (List.mem_cons_self ..)) (by intro q hq; cases hq) (by intro A hA; cases hA)) (owO lo A n c zs) ho (fun _ g hg=>.inl (List.mem_cons_of_mem _ hg)) (by intro r hr _ hm; simp only [List.nil_append,List.mem_singleton] at hr; subst hr; exact own_ne_ty ho hq (by decide) hm) (by intro A hA; cases hA)) [.p 0 0] Tryz.func132 Tryz.ntmps132 rfl rfl ?_
 repeat' (first | refine gs_ ?_|((conv=>whnf); first | refine bto ?_|refine bfo ?_|refine callH (f:=133) (.i .i64 ((n:Int) - (tk:Int))) (fun w1 hH=>(by have hr:=hH.row 0 _ rfl rfl; rw [rowA_nil rfl rfl] at hr; exact heldA s A n c tk w1 hr ht hn)) ?_|refine fin fun w' hH=>?_|refine fin_s ?_))
 have hr:=hH.row 0 _ rfl rfl
 rw [rowA_nil rfl rfl] at hr
 exact ⟨rfl,s::blkOf A,⟨h0,A,n,c,tk,zs,rfl,hr,Co.Hold.ob hH (A:=owO lo A n c zs) 0 rfl,hb,ht,rfl,Nat.le_refl _⟩,hH.upd,fun g hg=>.inl hg⟩
theorem forgetYes (lo s:Nat) (A:Option Addr) (n c tk:Nat) (zs:List Int) (u:FrameMode) (w:World) (hq:Blk w s 93 #[.slice A n c,.int .i64 ((tk:Nat):Int)]) (ho:w.ownsRow lo 5 1 (.slice A n c) n (cells zs)) (hb:∀ z∈zs,isB z) (ht:tk≤n) (hn:n≤1000000) (h0:lo≤s) (hg:n < tk+tk):CallsD Tryz.prog 132 #[.pointer (some ⟨s,0,none⟩)] u w fun e u' w'=>u'=u∧(e=.returned (.tuple #[])∧∃ S',SO lo s n (zs.drop tk) S' w'∧Upd (s::blkOf A) w w'∧∀ g∈S',g∈s::blkOf A∨w.heap.size≤g):=by
 have hslt:=Blk.lt hq
 refine entD tab_ok (Hold.addObj (Hold.addRow (m:=[]) (Hold.nil _ tab (s::blkOf A) _ w) ⟨s,93,true,0,[],[.v (.slice A n c),.i .i64 ((tk:Nat):Int)],[],true⟩ hq (fun _=>.inl (List.mem_cons_self ..)) (by intro q hq; cases hq) (by intro A hA; cases hA)) (owO lo A n c zs) ho (fun _ g hg=>.inl (List.mem_cons_of_mem _ hg)) (by intro r hr _ hm; simp only [List.nil_append,List.mem_singleton] at hr; subst hr; exact own_ne_ty ho hq (by decide) hm) (by intro A hA; cases hA)) [.p 0 0] Tryz.func132 Tryz.ntmps132 rfl rfl ?_
 repeat' (first | refine gq_ ?_|((conv=>whnf); first | refine drA (id:=1) ⟨tab_ok⟩ [9] ?_|refine drA ⟨tab_ok⟩ [] ?_|refine bto ?_|refine bfo ?_|refine callH (f:=133) (.i .i64 ((n:Int) - (tk:Int))) (fun w1 hH=>(by have hr:=hH.row 0 _ rfl rfl; rw [rowA_nil rfl rfl] at hr; exact heldA s A n c tk w1 hr ht hn)) ?_|refine opst_ ⟨tab_ok⟩ tk (by rfl) (by rfl) (by rfl) (by rfl) (by rfl) (by rfl) ⟨rfl,ht⟩ ?_|refine callN (f:=135) (ι:=Option Addr×Nat) (fun y=>.v (.slice y.1 (n - tk) y.2)) (fun y=>owO w.heap.size y.1 (n - tk) y.2 (zs.drop tk)) (fun w1 hH=>(cloneB (cutA c tk A 1) (n - tk) (c - tk) (zs.drop tk) w1 (bv_drop (Byt.BV.of_own (Co.Hold.ob hH (A:=owO lo A n c zs) 0 rfl) hb) ht (own_cap2 ho)) (by omega)).mono (by rintro e w' ⟨A',c',rfl,q1,q2⟩; exact ⟨(A',c'),rfl,own_base q1 hH.upd.size,q2,own_low q1⟩)) (fun y=>?_)|refine fin fun w' hH=>?_|refine fin_s ?_))
 have hr:=hH.row 0 _ rfl rfl
 rw [rowA_nil rfl rfl] at hr
 refine ⟨rfl,s::blkOf y.1,⟨h0,y.1,n - tk,y.2,0,zs.drop tk,rfl,hr,own_base (Co.Hold.ob hH (A:=owO w.heap.size y.1 (n - tk) y.2 (zs.drop tk)) 1 rfl) (by omega),fun z hz=>hb z (List.mem_of_mem_drop hz),Nat.zero_le _,rfl,Nat.sub_le _ _⟩,hH.upd,fun g hg=>?_⟩
 rcases List.mem_cons.1 hg with rfl | hg
 ·exact .inl (List.mem_cons_self ..)
 ·exact .inr (own_low (Co.Hold.ob hH (A:=owO w.heap.size y.1 (n - tk) y.2 (zs.drop tk)) 1 rfl) g hg)
theorem forgetD (lo s:Nat) (A:Option Addr) (n c tk:Nat) (zs:List Int) (u:FrameMode) (w:World) (hq:Blk w s 93 #[.slice A n c,.int .i64 ((tk:Nat):Int)]) (ho:w.ownsRow lo 5 1 (.slice A n c) n (cells zs)) (hb:∀ z∈zs,isB z) (ht:tk≤n) (hn:n≤1000000) (h0:lo≤s) :
  CallsD Tryz.prog 132 #[.pointer (some ⟨s,0,none⟩)] u w fun e u' w'=>u'=u∧(e=.returned (.tuple #[])∧∃ S',SO lo s n (zs.drop tk) S' w'∧Upd (s::blkOf A) w w'∧∀ g∈S',g∈s::blkOf A∨w.heap.size≤g):=by
 by_cases hg:n < tk+tk
 ·exact forgetYes lo s A n c tk zs u w hq ho hb ht hn h0 hg
 ·exact forgetNo lo s A n c tk zs u w hq ho hb ht hn h0 hg
theorem hd_take {r:List Int} {k:Nat} (hk:r.getD 0 0=(k:Int)) (h1:1≤k) (h64:k≤64) (hl:k+5≤r.length):(165::r).take (k+2)=hd (r.tail.take k):=by
 cases r with
 | nil=>simp at hl
 | cons y t =>
  have hy:y=(k:Int):=by simpa [List.getD] using hk
  subst hy
  have hlen:(t.take k).length=k:=by simp at hl; rw [List.length_take]; omega
  show 165::((k:Int)::t).take (k+1)=hd (t.take k)
  unfold hd
  rw [hlen,List.take_succ_cons]
  congr 2
  omega
theorem nx1 {x:Int} {r:List Int} (h:x≠165):nextF (x::r)=nextF r:=by rw [nextF,if_pos h]
theorem nx2 {r:List Int} (h:r=[]):nextF (165::r)=(none,165::r):=by rw [nextF,if_neg (by simp),if_pos h]
theorem nx3 {r:List Int} (h:r≠[]) (hk:okN (r.getD 0 0)=false):nextF (165::r)=nextF r:=by
 have hk2:=of_decide_eq_false hk
 rw [nextF,if_neg (by simp),if_neg h,if_pos (by omega)]
theorem nx4 {r:List Int} {k:Nat} (h:r≠[]) (hk:r.getD 0 0=(k:Int)) (hok:okN (k:Int)=true) (hl:r.length+1 < k+6):nextF (165::r)=(none,165::r):=by
 have hk2:=of_decide_eq_true hok
 rw [nextF,if_neg (by simp),if_neg h,if_neg (by rw [hk]; omega),if_pos (by rw [hk,Int.toNat_natCast]; omega)]
theorem nx5 {r:List Int} {k:Nat} (h:r≠[]) (hk:r.getD 0 0=(k:Int)) (hok:okN (k:Int)=true) (hl:¬ r.length+1 < k+6) (hne:(165::r).take (k+2)++be4 (crcN ((165::r).take (k+2)))≠(165::r).take (k+6)):nextF (165::r)=nextF r:=by
 have hk2:=of_decide_eq_true hok
 rw [hd_take hk (by omega) (by omega) (by omega)] at hne
 rw [nextF,if_neg (by simp),if_neg h,if_neg (by rw [hk]; omega),if_neg (by rw [hk,Int.toNat_natCast]; omega),if_neg (by rw [hk,Int.toNat_natCast]; exact fun e=>hne e.symm)]
theorem nx6 {r:List Int} {k:Nat} (h:r≠[]) (hk:r.getD 0 0=(k:Int)) (hok:okN (k:Int)=true) (hl:¬ r.length+1 < k+6) (he:(165::r).take (k+2)++be4 (crcN ((165::r).take (k+2)))=(165::r).take (k+6)):nextF (165::r)=(some (((165::r).take (k+2)).drop 2),(165::r).drop (k+6)):=by
 have hk2:=of_decide_eq_true hok
 have e0:=hd_take hk (by omega) (by omega) (by omega)
 have e2:((165::r).take (k+2)).drop 2=r.tail.take k:=by rw [e0]; rfl
 rw [e2]
 rw [e0] at he
 rw [nextF,if_neg (by simp),if_neg h,if_neg (by rw [hk]; omega),if_neg (by rw [hk,Int.toNat_natCast]; omega),if_pos (by rw [hk,Int.toNat_natCast]; exact he.symm),hk,Int.toNat_natCast]
def tkOf (w:World) (s:Nat):Nat:=match w.cell? ⟨s,1,none⟩ with | some (.int _ k)=>k.toNat | _=>0
theorem tkOf_blk {w:World} {s:Nat} {t:TypeId} {v:Value} {tk:Nat} (h:Blk w s t #[v,.int .i64 ((tk:Nat):Int)]):tkOf w s=tk:=by
 unfold tkOf
 rw [h.cell]
 rfl
def NX (lo s N:Nat) (S:List Nat) (w:World) (y:Option (List Int)×List Int) (e:Ending) (w':World):Prop :=
 ∃ S',SO lo s N y.2 S' w'∧Upd S w w'∧(∀ g∈S',g∈S∨w.heap.size≤g) ∧
  match y.1 with
  | none=>e=.returned (.tuple #[.slice none 0 0,.bool false])
  | some p=>∃ A c,e=.returned (.tuple #[.slice A p.length c,.bool true])∧w'.ownsRow w.heap.size 5 1 (.slice A p.length c) p.length (cells p)∧∀ g∈S',g∉blkOf A
end Fq
namespace Fq
open Go.RowKit Ba Mem Cm Fm
open Go.Proofs.YtepfmfalebmcnaaGreatDoor.Byt (BV isB cells)
set_option maxRecDepth 100000
attribute [local irreducible] Go.wpList
set_option maxHeartbeats 4000000 in
theorem nextA (lo s:Nat) (A:Option Addr) (n c tk0:Nat) (zs xs:List Int) (w:World) (hq:Blk w s 93 #[.slice A n c,.int .i64 ((tk0:Nat):Int)]) (ho:w.ownsRow lo 5 1 (.slice A n c) n (cells zs)) (hb:∀ z∈zs,isB z) (ht:tk0≤n) (hn:n≤1000000) (h0:lo≤s) (hx:zs.drop tk0=xs):Calls Tryz.prog 99 #[.pointer (some ⟨s,0,none⟩)] w (NX lo s n (s::blkOf A) w (nextF xs)):=by
 have HBQ:=Lib.hid hq
 clear hq
 have HOW:=Lib.hid ho
 clear ho
 have HB:=Lib.hid hb
 clear hb
 have HT:=Lib.hid ht
 clear ht
 have HN:=Lib.hid hn
 clear hn
 have H0:=Lib.hid h0
 clear h0
 have HX:=Lib.hid hx
 clear hx
 go_enter_defers Tryz.func99,Tryz.ntmps99
 go_upto_region 1 with fail
 have HS1:=Lib.hid (Upd.refl (s::blkOf A) w)
 have HLT0:=Lib.hid (show s < w.heap.size from Blk.lt HBQ.out)
 have HIQ:=Lib.hid (own_ne_ty HOW.out HBQ.out (by decide))
 have HCP:=Lib.hid (own_cap2 HOW.out)
 have HZL:=Lib.hid (show zs.length=n by have:=HOW.out.1; simpa [cells] using this)
 have HAL:=Lib.hid (own_lt HOW.out)
 refine wp_region_lit ?_
 refine tkL (.pointer (some ⟨s,0,none⟩)) (h:=?_)
 try simp only[Act.put,sA,sB,sC]
 refine tkL (.bool false) (h:=?_)
 try simp only[Act.put,sA,sB,sC]
 refine wpList_nil ?_
 go_upto_region 3 with fail
 go_wp2_with fail
 go_loopw [4] (fun s4 wr=>∃ (tk:Nat),tk≤n∧Hid (nextF (zs.drop tk)=nextF xs∧Upd (s::blkOf A) w wr∧Blk wr s 93 #[.slice A n c,.int .i64 ((tk:Nat):Int)]∧(wr).ownsRow lo 5 1 (.slice A n c) n (cells zs))) (fun s4 wq=>1000001 - tkOf wq s)
 case atStart=>exact ⟨tk0,HT.out,Lib.hid ⟨(by rw [HX.out]),HS1.out,HBQ.out,HOW.out⟩⟩
 case round =>
  obtain ⟨tk,htk,HO⟩:=hrel
  obtain ⟨e0,g0,g1,g2⟩:=HO.out
  clear HO HS1 HBQ HOW
  have HINV:=Lib.hid e0
  have HS51:=Lib.hid g0
  have HBQ51:=Lib.hid g1
  have HFr51:=Lib.hid g2
  clear e0 g0 g1 g2
  have HTK:=Lib.hid htk; clear htk
  have HM0:=Lib.hid HBQ51.out
  by_cases hcs:tk < n
  rotate_left
  ·have HGE:=Lib.hid hcs; clear hcs
   go_upto_region 4 with fail
   refine wp_region_lit ?_
   refine tkL (.pointer (some ⟨s,0,none⟩)) (h:=?_)
   try simp only[Act.put,sA,sB,sC]
   refine wpList_wp (by rfl) (fun K hK=>?_)
   (try go_simp)
   refine (heldA s A n c tk _ HBQ51.out HTK.out HN.out).mono ?_
   rintro e w52 ⟨rfl,hb⟩
   (try go_wp2_with fail)
   refine hK.out _ _ ?_
   clear hK K
   try simp only[Act.put,sA,sB,sC]
   have HS52:=Lib.hid (Upd.trans HS51.out hb)
   have HBQ52:=Lib.hid (keep_blk hb HBQ51.out)
   have HFr52:=Lib.hid (keep_own hb HFr51.out)
   clear HS51 HBQ51 HFr51
   clear hb
   refine wpList_q (by rfl) (.bool false) ?he ?_
   case he=>(have q0:=HGE.out; go_simp; (first | done | rfl | omega))
   try simp only[Act.put,sA,sB,sC]
   refine wpList_nil ?_
   go_upto_region 12 with fail
   refine wp_region_lit ?_
   refine tkL (.slice none 0 0) (h:=?_)
   try simp only[Act.put,sA,sB,sC]
   refine tkL (.bool false) (h:=?_)
   try simp only[Act.put,sA,sB,sC]
   refine wpList_nil ?_
   have HTK2:=Lib.hid HTK.out
   (try go_wp2_with fail)
   (try simp only [Exit.inBlock,Exit.then])
   refine leaves_cons (f:=132) (args:=#[.pointer (some ⟨s,0,none⟩)]) (by simp) (by simp [go_sem]) ?_
   refine (forgetD lo s A n c tk zs .returning _ HBQ52.out HFr52.out HB.out HTK2.out HN.out H0.out).mono ?_
   rintro e u' wz ⟨rfl,rfl,S',hSO,hU,hfar⟩
   have HU2:=Upd.comp HS52.out hU (fun g h=>.inl h)
   have HF2:∀ g∈S',g∈s::blkOf A∨w.heap.size≤g:=fun g hg=>by rcases hfar g hg with h | h; exact .inl h; exact .inr (Nat.le_trans (Upd.size HS52.out) h)
   have HNF:=(show nextF xs=(none,zs.drop tk) from by have e:zs.drop tk=[]:=List.drop_eq_nil_of_le (by have:=HZL.out; have:=HGE.out; omega); rw [← HINV.out,e]; rfl)
   exact ⟨_,results_tmp2 rfl _ _ _,by rw [HNF]; exact ⟨S',hSO,HU2,HF2,rfl⟩⟩
  ·have HLT:=Lib.hid hcs; clear hcs
   go_upto_region 4 with fail
   refine wp_region_lit ?_
   refine tkL (.pointer (some ⟨s,0,none⟩)) (h:=?_)
   try simp only[Act.put,sA,sB,sC]
   refine wpList_wp (by rfl) (fun K hK=>?_)
   (try go_simp)
   refine (heldA s A n c tk _ HBQ51.out HTK.out HN.out).mono ?_
   rintro e w52 ⟨rfl,hb⟩
   (try go_wp2_with fail)
   refine hK.out _ _ ?_
   clear hK K
   try simp only[Act.put,sA,sB,sC]
   have HS52:=Lib.hid (Upd.trans HS51.out hb)
   have HBQ52:=Lib.hid (keep_blk hb HBQ51.out)
   have HFr52:=Lib.hid (keep_own hb HFr51.out)
   clear HS51 HBQ51 HFr51
   clear hb
   refine wpList_q (by rfl) (.bool true) ?he ?_
   case he=>(have q0:=HLT.out; go_simp; (first | done | rfl | omega))
   try simp only[Act.put,sA,sB,sC]
   refine wpList_nil ?_
   obtain ⟨gb,hg⟩:=own_addr HFr52.out (by have:=HLT.out; omega)
   subst hg
   obtain ⟨x,r,hxr⟩:∃ x r,zs.drop tk=x::r:=⟨_,_,List.drop_eq_getElem_cons (by have:=HLT.out; have:=HZL.out; omega)⟩
   have HXR:=Lib.hid hxr; clear hxr
   have HBV:=Lib.hid (show BV w52 (some ⟨gb,tk,none⟩) (n - tk) (x::r) by have q:=bv_drop (BV.of_own HFr52.out HB.out) HTK.out HCP.out; rw [cutA_some (by have:=HLT.out; have:=HCP.out; omega),HXR.out,Nat.zero_add] at q; exact q)
   have HRL:=Lib.hid (show r.length+1=n - tk from HBV.out.1)
   have HCC:=Lib.hid (show n - tk≤c - tk by have:=HCP.out; omega)
   have HNN:=Lib.hid (show n - tk≤1000000 by have:=HN.out; omega)
   have HDR:=Lib.hid (show zs.drop (tk+1)=r by rw [← List.drop_drop,HXR.out]; rfl)
   by_cases hcs:x=165
   rotate_left
   ·have H1:=Lib.hid hcs; clear hcs
    go_upto_region 5 with fail
    have hrK:∀ W W':World,Since W W'→(Upd (s::blkOf (some ⟨gb,0,none⟩)) w W∧Blk W s 93 #[.slice (some ⟨gb,0,none⟩) n c,.int .i64 ((tk:Nat):Int)]∧(W).ownsRow lo 5 1 (.slice (some ⟨gb,0,none⟩) n c) n (cells zs)∧BV W (some ⟨gb,tk,none⟩) (n - tk) (x::r))→(Upd (s::blkOf (some ⟨gb,0,none⟩)) w W'∧Blk W' s 93 #[.slice (some ⟨gb,0,none⟩) n c,.int .i64 ((tk:Nat):Int)]∧(W').ownsRow lo 5 1 (.slice (some ⟨gb,0,none⟩) n c) n (cells zs)∧BV W' (some ⟨gb,tk,none⟩) (n - tk) (x::r)):=fun W W' k ⟨h,h0,h1,h2⟩=>⟨h.trans k,keep_blk k h0,keep_own k h1,keep_bv k h2⟩
    have hrS:(fun W:World=>Upd (s::blkOf (some ⟨gb,0,none⟩)) w W∧Blk W s 93 #[.slice (some ⟨gb,0,none⟩) n c,.int .i64 ((tk:Nat):Int)]∧(W).ownsRow lo 5 1 (.slice (some ⟨gb,0,none⟩) n c) n (cells zs)∧BV W (some ⟨gb,tk,none⟩) (n - tk) (x::r)) w52:=⟨HS52.out,HBQ52.out,HFr52.out,HBV.out⟩
    have HRK:=Lib.hid hrK
    have HRD:=Lib.hid (show (fun W:World=>Upd (s::blkOf (some ⟨gb,0,none⟩)) w W∧Blk W s 93 #[.slice (some ⟨gb,0,none⟩) n c,.int .i64 ((tk:Nat):Int)]∧(W).ownsRow lo 5 1 (.slice (some ⟨gb,0,none⟩) n c) n (cells zs)∧BV W (some ⟨gb,tk,none⟩) (n - tk) (x::r)) (World.drew w52) from ⟨Upd.drew hrS.1,hrS.2⟩)
    clear hrK hrS
    refine wp_region_noPanic ?_
    refine wp_region_held_drew (S:=fun W:World=>Upd (s::blkOf (some ⟨gb,0,none⟩)) w W∧Blk W s 93 #[.slice (some ⟨gb,0,none⟩) n c,.int .i64 ((tk:Nat):Int)]∧(W).ownsRow lo 5 1 (.slice (some ⟨gb,0,none⟩) n c) n (cells zs)∧BV W (some ⟨gb,tk,none⟩) (n - tk) (x::r)) (by kernel_rfl) HRD.out (fun hHeld=>?_)
    refine tkQ 0 (.pointer (some ⟨s,0,none⟩)) hHeld (h:=?_)
    try simp only[Act.put,sA,sB,sC]
    refine tkQ 1 (.pointer (some ⟨s,0,none⟩)) hHeld (h:=?_)
    try simp only[Act.put,sA,sB,sC]
    refine tkQ 2 (.pointer (some ⟨s,0,none⟩)) hHeld (h:=?_)
    try simp only[Act.put,sA,sB,sC]
    refine tkQ 3 (.slice (some ⟨gb,0,none⟩) n c) hHeld (he:=by intro w hSw; exact exec_cell 29 _ _ hSw.2.1 rfl rfl rfl Tryz.underlying29 rfl) (h:=?_)
    try simp only[Act.put,sA,sB,sC]
    refine tkQ 4 (.pointer (some ⟨s,0,none⟩)) hHeld (h:=?_)
    try simp only[Act.put,sA,sB,sC]
    refine tkQ 5 (.pointer (some ⟨s,0,none⟩)) hHeld (h:=?_)
    try simp only[Act.put,sA,sB,sC]
    refine tkQ 6 (.pointer (some ⟨s,1,none⟩)) hHeld (h:=?_)
    try simp only[Act.put,sA,sB,sC]
    refine tkQ 7 (.int .i64 ((tk:Nat):Int)) hHeld (he:=by intro w hSw; exact exec_cell 3 _ _ hSw.2.1 rfl rfl rfl Tryz.underlying3 rfl) (h:=?_)
    try simp only[Act.put,sA,sB,sC]
    refine tkQ 8 (.slice (some ⟨gb,tk,none⟩) (n - tk) (c - tk)) hHeld (he:=by intro w hSw; exact exec_slice (s:=1) 29 5 _ _ _ _ rfl rfl Tryz.underlying29 (by kernel_rfl) (sb_l _ _ (l:=tk) rfl HTK.out) (by have:=HLT.out; have:=HCP.out; rw [if_neg (by omega)]; simp [Go.WideShapes.add_plain]) rfl rfl) (h:=?_)
    try simp only[Act.put,sA,sB,sC]
    refine wpAnyH_ready (rs:=[9]) (by kernel_rfl) (by simp) ?_
    refine AllReadyH.cons (o:=?o5__9) ?h5__9 (fun K hK=>?_) AllReadyH.nil
    case h5__9=>(first | (simp only [gA,gB,gC]; done)|(simp only [gA,gB,gC]; exact rfl))
    (try go_simp)
    refine (firstF1 gb tk (n - tk) (c - tk) x r _ (hHeld.2.2.2) HCC.out HNN.out H1.out).mono ?_
    rintro e w53 ⟨rfl,hb⟩
    (try go_wp2_with fail)
    refine hK.out _ _ (by (apply HRK.out; exact hb; exact hHeld)) (fun hHeld2=>?_)
    clear hK K hHeld hb
    have hHeld:=hHeld2
    clear hHeld2
    try simp only[Act.put,sA,sB,sC]
    refine tkQ 10 (.tuple #[.slice none 0 0,.bool true]) hHeld (h:=?_)
    try simp only[Act.put,sA,sB,sC]
    refine tkQ 11 (.slice none 0 0) hHeld (h:=?_)
    try simp only[Act.put,sA,sB,sC]
    refine tkQ 12 (.bool true) hHeld (h:=?_)
    try simp only[Act.put,sA,sB,sC]
    refine tkQ 13 (.slice none 0 0) hHeld (h:=?_)
    try simp only[Act.put,sA,sB,sC]
    refine tkQ 14 (.bool true) hHeld (h:=?_)
    try simp only[Act.put,sA,sB,sC]
    refine wpAnyH_done (by kernel_rfl) ?_ _
    refine NoPanic.normal ?_
    have HSd5:=Lib.hid hHeld.1
    have HBQd5:=Lib.hid (hHeld.2.1)
    have HFrd5:=Lib.hid (hHeld.2.2.1)
    have HFbvd5:=Lib.hid (hHeld.2.2.2)
    clear hHeld HRK HRD HS52 HBQ52 HFr52 HBV
    go_upto_region 6 with fail
    refine wp_region_lit ?_
    refine tkL (.bool true) (h:=?_)
    try simp only[Act.put,sA,sB,sC]
    refine wpList_q (by rfl) (.bool false) ?he ?_
    case he=>(go_simp; (try with_reducible rfl))
    try simp only[Act.put,sA,sB,sC]
    refine wpList_nil ?_
    go_upto_region 8 with fail
    refine wp_region_lit ?_
    refine tkL (.slice none 0 0) (h:=?_)
    try simp only[Act.put,sA,sB,sC]
    refine tkL (.bool true) (h:=?_)
    try simp only[Act.put,sA,sB,sC]
    refine wpList_nil ?_
    go_upto_region 9 with fail
    refine wp_region_lit ?_
    refine tkL (.pointer (some ⟨s,0,none⟩)) (h:=?_)
    try simp only[Act.put,sA,sB,sC]
    refine tkL (.pointer (some ⟨s,0,none⟩)) (h:=?_)
    try simp only[Act.put,sA,sB,sC]
    refine tkL (.pointer (some ⟨s,1,none⟩)) (h:=?_)
    try simp only[Act.put,sA,sB,sC]
    refine wpList_q (by rfl) (.int .i64 ((tk:Nat):Int)) ?he ?_
    case he=>exact exec_cell 3 _ _ HBQd5.out rfl rfl rfl Tryz.underlying3 rfl
    try simp only[Act.put,sA,sB,sC]
    refine wpList_q (by rfl) (.int .i64 ((tk+1:Nat):Int)) ?he ?_
    case he=>(go_simp; (first | done | (have q:=HLT.out; have q1:=HN.out; rw [wr64 _ (by omega) (by omega)]; push_cast; rfl)|(have q:=HLT.out; have q1:=HN.out; exact wr64 _ (by omega) (by omega))))
    try simp only[Act.put,sA,sB,sC]
    refine tkL (.pointer (some ⟨s,0,none⟩)) (h:=?_)
    try simp only[Act.put,sA,sB,sC]
    refine tkL (.pointer (some ⟨s,1,none⟩)) (h:=?_)
    try simp only[Act.put,sA,sB,sC]
    refine wpList_wp (by rfl) (fun K hK=>?_)
    refine wp_st_cell 3 _ _ rfl #[.slice (some ⟨gb,0,none⟩) n c,.int .i64 ((tk+1:Nat):Int)] (.int .i64 ((tk+1:Nat):Int)) rfl rfl HBQd5.out (by show 1 < 2; decide) rfl (by first | rfl | simp [Value.oneCell']) (by kernel_rfl) ?_
    intro w54 hw
    refine hK.out _ _ ?_
    clear hK K
    try simp only[Act.put,sA,sB,sC]
    have HS54:=Lib.hid (show Upd (s::blkOf (some ⟨gb,0,none⟩)) w w54 by rw [hw]; exact Upd.setRow HSd5.out (.inl (by simp)) _)
    have HBQ54:=Lib.hid (show Blk w54 s 93 #[.slice (some ⟨gb,0,none⟩) n c,.int .i64 ((tk+1:Nat):Int)] by rw [hw]; exact Blk.row HBQd5.out _)
    have HFr_54:=Lib.hid (show (w54).ownsRow lo 5 1 (.slice (some ⟨gb,0,none⟩) n c) n (cells zs) by rw [hw]; exact own_row_far HFrd5.out HIQ.out _)
    clear hw HSd5 HBQd5 HFrd5
    refine wpList_nil ?_
    go_wp2_with fail
    go_roundw
    case rel=>exact ⟨tk+1,by have:=HLT.out; omega,Lib.hid ⟨by rw [HDR.out,← HINV.out,HXR.out]; exact (nx1 H1.out).symm,HS54.out,HBQ54.out,HFr_54.out⟩⟩
    case measure=>rw [tkOf_blk HBQ54.out,tkOf_blk HM0.out]; have:=HLT.out; have:=HN.out; omega
   ·subst hcs
    have H1:=Lib.hid (rfl:(165:Int)=165)
    by_cases hcs:n - tk < 2
    rotate_left
    ·have H2:=Lib.hid hcs; clear hcs
     have HRN:=Lib.hid (show r≠[] from fun e=>by have q1:=H2.out; have q2:=HRL.out; rw [e] at q2; simp at q2; omega)
     have HKB:=Lib.hid (show 0≤r.getD 0 0 by have q:=getD_isB (zs:=r) (fun y hy=>HBV.out.2.2.1 y (List.mem_cons_of_mem _ hy)) 0; unfold isB at q; omega)
     by_cases hcs:okN (r.getD 0 0)=false
     rotate_left
     ·have H3N:=Lib.hid hcs; clear hcs
      obtain ⟨k,hk⟩:∃ k:Nat,r.getD 0 0=(k:Int):=⟨(r.getD 0 0).toNat,by have q:=HKB.out; omega⟩
      have HK:=Lib.hid hk; clear hk
      have H3:=Lib.hid (show okN (k:Int)=true by have q:=H3N.out; rw [HK.out] at q; cases h:okN (k:Int); exact absurd h q; rfl)
      clear H3N
      by_cases hcs:n - tk < k+6
      rotate_left
      ·have H4:=Lib.hid hcs; clear hcs
       by_cases hcs:(165::r).take (k+2)++be4 (crcN ((165::r).take (k+2)))=(165::r).take (k+6)
       rotate_left
       ·have H5:=Lib.hid hcs; clear hcs
        go_upto_region 5 with fail
        have hrK:∀ W W':World,Since W W'→(Upd (s::blkOf (some ⟨gb,0,none⟩)) w W∧Blk W s 93 #[.slice (some ⟨gb,0,none⟩) n c,.int .i64 ((tk:Nat):Int)]∧(W).ownsRow lo 5 1 (.slice (some ⟨gb,0,none⟩) n c) n (cells zs)∧BV W (some ⟨gb,tk,none⟩) (n - tk) (165::r))→(Upd (s::blkOf (some ⟨gb,0,none⟩)) w W'∧Blk W' s 93 #[.slice (some ⟨gb,0,none⟩) n c,.int .i64 ((tk:Nat):Int)]∧(W').ownsRow lo 5 1 (.slice (some ⟨gb,0,none⟩) n c) n (cells zs)∧BV W' (some ⟨gb,tk,none⟩) (n - tk) (165::r)):=fun W W' k ⟨h,h0,h1,h2⟩=>⟨h.trans k,keep_blk k h0,keep_own k h1,keep_bv k h2⟩
        have hrS:(fun W:World=>Upd (s::blkOf (some ⟨gb,0,none⟩)) w W∧Blk W s 93 #[.slice (some ⟨gb,0,none⟩) n c,.int .i64 ((tk:Nat):Int)]∧(W).ownsRow lo 5 1 (.slice (some ⟨gb,0,none⟩) n c) n (cells zs)∧BV W (some ⟨gb,tk,none⟩) (n - tk) (165::r)) w52:=⟨HS52.out,HBQ52.out,HFr52.out,HBV.out⟩
        have HRK:=Lib.hid hrK
        have HRD:=Lib.hid (show (fun W:World=>Upd (s::blkOf (some ⟨gb,0,none⟩)) w W∧Blk W s 93 #[.slice (some ⟨gb,0,none⟩) n c,.int .i64 ((tk:Nat):Int)]∧(W).ownsRow lo 5 1 (.slice (some ⟨gb,0,none⟩) n c) n (cells zs)∧BV W (some ⟨gb,tk,none⟩) (n - tk) (165::r)) (World.drew w52) from ⟨Upd.drew hrS.1,hrS.2⟩)
        clear hrK hrS
        refine wp_region_noPanic ?_
        refine wp_region_held_drew (S:=fun W:World=>Upd (s::blkOf (some ⟨gb,0,none⟩)) w W∧Blk W s 93 #[.slice (some ⟨gb,0,none⟩) n c,.int .i64 ((tk:Nat):Int)]∧(W).ownsRow lo 5 1 (.slice (some ⟨gb,0,none⟩) n c) n (cells zs)∧BV W (some ⟨gb,tk,none⟩) (n - tk) (165::r)) (by kernel_rfl) HRD.out (fun hHeld=>?_)
        refine tkQ 0 (.pointer (some ⟨s,0,none⟩)) hHeld (h:=?_)
        try simp only[Act.put,sA,sB,sC]
        refine tkQ 1 (.pointer (some ⟨s,0,none⟩)) hHeld (h:=?_)
        try simp only[Act.put,sA,sB,sC]
        refine tkQ 2 (.pointer (some ⟨s,0,none⟩)) hHeld (h:=?_)
        try simp only[Act.put,sA,sB,sC]
        refine tkQ 3 (.slice (some ⟨gb,0,none⟩) n c) hHeld (he:=by intro w hSw; exact exec_cell 29 _ _ hSw.2.1 rfl rfl rfl Tryz.underlying29 rfl) (h:=?_)
        try simp only[Act.put,sA,sB,sC]
        refine tkQ 4 (.pointer (some ⟨s,0,none⟩)) hHeld (h:=?_)
        try simp only[Act.put,sA,sB,sC]
        refine tkQ 5 (.pointer (some ⟨s,0,none⟩)) hHeld (h:=?_)
        try simp only[Act.put,sA,sB,sC]
        refine tkQ 6 (.pointer (some ⟨s,1,none⟩)) hHeld (h:=?_)
        try simp only[Act.put,sA,sB,sC]
        refine tkQ 7 (.int .i64 ((tk:Nat):Int)) hHeld (he:=by intro w hSw; exact exec_cell 3 _ _ hSw.2.1 rfl rfl rfl Tryz.underlying3 rfl) (h:=?_)
        try simp only[Act.put,sA,sB,sC]
        refine tkQ 8 (.slice (some ⟨gb,tk,none⟩) (n - tk) (c - tk)) hHeld (he:=by intro w hSw; exact exec_slice (s:=1) 29 5 _ _ _ _ rfl rfl Tryz.underlying29 (by kernel_rfl) (sb_l _ _ (l:=tk) rfl HTK.out) (by have:=HLT.out; have:=HCP.out; rw [if_neg (by omega)]; simp [Go.WideShapes.add_plain]) rfl rfl) (h:=?_)
        try simp only[Act.put,sA,sB,sC]
        refine wpAnyH_ready (rs:=[9]) (by kernel_rfl) (by simp) ?_
        refine AllReadyH.cons (o:=?o5__9) ?h5__9 (fun K hK=>?_) AllReadyH.nil
        case h5__9=>(first | (simp only [gA,gB,gC]; done)|(simp only [gA,gB,gC]; exact rfl))
        (try go_simp)
        refine (firstF5 gb tk (n - tk) (c - tk) k 165 r _ (hHeld.2.2.2) HCC.out HNN.out H1.out H2.out H3.out HK.out H4.out H5.out).mono ?_
        rintro e w53 ⟨rfl,hb⟩
        (try go_wp2_with fail)
        refine hK.out _ _ (by (apply HRK.out; exact hb; exact hHeld)) (fun hHeld2=>?_)
        clear hK K hHeld hb
        have hHeld:=hHeld2
        clear hHeld2
        try simp only[Act.put,sA,sB,sC]
        refine tkQ 10 (.tuple #[.slice none 0 0,.bool true]) hHeld (h:=?_)
        try simp only[Act.put,sA,sB,sC]
        refine tkQ 11 (.slice none 0 0) hHeld (h:=?_)
        try simp only[Act.put,sA,sB,sC]
        refine tkQ 12 (.bool true) hHeld (h:=?_)
        try simp only[Act.put,sA,sB,sC]
        refine tkQ 13 (.slice none 0 0) hHeld (h:=?_)
        try simp only[Act.put,sA,sB,sC]
        refine tkQ 14 (.bool true) hHeld (h:=?_)
        try simp only[Act.put,sA,sB,sC]
        refine wpAnyH_done (by kernel_rfl) ?_ _
        refine NoPanic.normal ?_
        have HSd5v2:=Lib.hid hHeld.1
        have HBQd5v2:=Lib.hid (hHeld.2.1)
        have HFrd5v2:=Lib.hid (hHeld.2.2.1)
        have HFbvd5v2:=Lib.hid (hHeld.2.2.2)
        clear hHeld HRK HRD HS52 HBQ52 HFr52 HBV
        go_upto_region 6 with fail
        refine wp_region_lit ?_
        refine tkL (.bool true) (h:=?_)
        try simp only[Act.put,sA,sB,sC]
        refine wpList_q (by rfl) (.bool false) ?he ?_
        case he=>(go_simp; (try with_reducible rfl))
        try simp only[Act.put,sA,sB,sC]
        refine wpList_nil ?_
        go_upto_region 8 with fail
        refine wp_region_lit ?_
        refine tkL (.slice none 0 0) (h:=?_)
        try simp only[Act.put,sA,sB,sC]
        refine tkL (.bool true) (h:=?_)
        try simp only[Act.put,sA,sB,sC]
        refine wpList_nil ?_
        go_upto_region 9 with fail
        refine wp_region_lit ?_
        refine tkL (.pointer (some ⟨s,0,none⟩)) (h:=?_)
        try simp only[Act.put,sA,sB,sC]
        refine tkL (.pointer (some ⟨s,0,none⟩)) (h:=?_)
        try simp only[Act.put,sA,sB,sC]
        refine tkL (.pointer (some ⟨s,1,none⟩)) (h:=?_)
        try simp only[Act.put,sA,sB,sC]
        refine wpList_q (by rfl) (.int .i64 ((tk:Nat):Int)) ?he ?_
        case he=>exact exec_cell 3 _ _ HBQd5v2.out rfl rfl rfl Tryz.underlying3 rfl
        try simp only[Act.put,sA,sB,sC]
        refine wpList_q (by rfl) (.int .i64 ((tk+1:Nat):Int)) ?he ?_
        case he=>(go_simp; (first | done | (have q:=HLT.out; have q1:=HN.out; rw [wr64 _ (by omega) (by omega)]; push_cast; rfl)|(have q:=HLT.out; have q1:=HN.out; exact wr64 _ (by omega) (by omega))))
        try simp only[Act.put,sA,sB,sC]
        refine tkL (.pointer (some ⟨s,0,none⟩)) (h:=?_)
        try simp only[Act.put,sA,sB,sC]
        refine tkL (.pointer (some ⟨s,1,none⟩)) (h:=?_)
        try simp only[Act.put,sA,sB,sC]
        refine wpList_wp (by rfl) (fun K hK=>?_)
        refine wp_st_cell 3 _ _ rfl #[.slice (some ⟨gb,0,none⟩) n c,.int .i64 ((tk+1:Nat):Int)] (.int .i64 ((tk+1:Nat):Int)) rfl rfl HBQd5v2.out (by show 1 < 2; decide) rfl (by first | rfl | simp [Value.oneCell']) (by kernel_rfl) ?_
        intro w54 hw
        refine hK.out _ _ ?_
        clear hK K
        try simp only[Act.put,sA,sB,sC]
        have HS54:=Lib.hid (show Upd (s::blkOf (some ⟨gb,0,none⟩)) w w54 by rw [hw]; exact Upd.setRow HSd5v2.out (.inl (by simp)) _)
        have HBQ54:=Lib.hid (show Blk w54 s 93 #[.slice (some ⟨gb,0,none⟩) n c,.int .i64 ((tk+1:Nat):Int)] by rw [hw]; exact Blk.row HBQd5v2.out _)
        have HFr_54:=Lib.hid (show (w54).ownsRow lo 5 1 (.slice (some ⟨gb,0,none⟩) n c) n (cells zs) by rw [hw]; exact own_row_far HFrd5v2.out HIQ.out _)
        clear hw HSd5v2 HBQd5v2 HFrd5v2
        refine wpList_nil ?_
        go_wp2_with fail
        go_roundw
        case rel=>exact ⟨tk+1,by have:=HLT.out; omega,Lib.hid ⟨by rw [HDR.out,← HINV.out,HXR.out]; exact (nx5 HRN.out HK.out H3.out (by have:=H4.out; have:=HRL.out; omega) H5.out).symm,HS54.out,HBQ54.out,HFr_54.out⟩⟩
        case measure=>rw [tkOf_blk HBQ54.out,tkOf_blk HM0.out]; have:=HLT.out; have:=HN.out; omega
       ·have H5:=Lib.hid hcs; clear hcs
        go_upto_region 5 with fail
        have hrK:∀ W W':World,Since W W'→(Upd (s::blkOf (some ⟨gb,0,none⟩)) w W∧Blk W s 93 #[.slice (some ⟨gb,0,none⟩) n c,.int .i64 ((tk:Nat):Int)]∧(W).ownsRow lo 5 1 (.slice (some ⟨gb,0,none⟩) n c) n (cells zs)∧BV W (some ⟨gb,tk,none⟩) (n - tk) (165::r))→(Upd (s::blkOf (some ⟨gb,0,none⟩)) w W'∧Blk W' s 93 #[.slice (some ⟨gb,0,none⟩) n c,.int .i64 ((tk:Nat):Int)]∧(W').ownsRow lo 5 1 (.slice (some ⟨gb,0,none⟩) n c) n (cells zs)∧BV W' (some ⟨gb,tk,none⟩) (n - tk) (165::r)):=fun W W' k ⟨h,h0,h1,h2⟩=>⟨h.trans k,keep_blk k h0,keep_own k h1,keep_bv k h2⟩
        have hrS:(fun W:World=>Upd (s::blkOf (some ⟨gb,0,none⟩)) w W∧Blk W s 93 #[.slice (some ⟨gb,0,none⟩) n c,.int .i64 ((tk:Nat):Int)]∧(W).ownsRow lo 5 1 (.slice (some ⟨gb,0,none⟩) n c) n (cells zs)∧BV W (some ⟨gb,tk,none⟩) (n - tk) (165::r)) w52:=⟨HS52.out,HBQ52.out,HFr52.out,HBV.out⟩
        have HRK:=Lib.hid hrK
        have HRD:=Lib.hid (show (fun W:World=>Upd (s::blkOf (some ⟨gb,0,none⟩)) w W∧Blk W s 93 #[.slice (some ⟨gb,0,none⟩) n c,.int .i64 ((tk:Nat):Int)]∧(W).ownsRow lo 5 1 (.slice (some ⟨gb,0,none⟩) n c) n (cells zs)∧BV W (some ⟨gb,tk,none⟩) (n - tk) (165::r)) (World.drew w52) from ⟨Upd.drew hrS.1,hrS.2⟩)
        clear hrK hrS
        refine wp_region_noPanic ?_
        refine wp_region_held_drew (S:=fun W:World=>Upd (s::blkOf (some ⟨gb,0,none⟩)) w W∧Blk W s 93 #[.slice (some ⟨gb,0,none⟩) n c,.int .i64 ((tk:Nat):Int)]∧(W).ownsRow lo 5 1 (.slice (some ⟨gb,0,none⟩) n c) n (cells zs)∧BV W (some ⟨gb,tk,none⟩) (n - tk) (165::r)) (by kernel_rfl) HRD.out (fun hHeld=>?_)
        refine tkQ 0 (.pointer (some ⟨s,0,none⟩)) hHeld (h:=?_)
        try simp only[Act.put,sA,sB,sC]
        refine tkQ 1 (.pointer (some ⟨s,0,none⟩)) hHeld (h:=?_)
        try simp only[Act.put,sA,sB,sC]
        refine tkQ 2 (.pointer (some ⟨s,0,none⟩)) hHeld (h:=?_)
        try simp only[Act.put,sA,sB,sC]
        refine tkQ 3 (.slice (some ⟨gb,0,none⟩) n c) hHeld (he:=by intro w hSw; exact exec_cell 29 _ _ hSw.2.1 rfl rfl rfl Tryz.underlying29 rfl) (h:=?_)
        try simp only[Act.put,sA,sB,sC]
        refine tkQ 4 (.pointer (some ⟨s,0,none⟩)) hHeld (h:=?_)
        try simp only[Act.put,sA,sB,sC]
        refine tkQ 5 (.pointer (some ⟨s,0,none⟩)) hHeld (h:=?_)
        try simp only[Act.put,sA,sB,sC]
        refine tkQ 6 (.pointer (some ⟨s,1,none⟩)) hHeld (h:=?_)
        try simp only[Act.put,sA,sB,sC]
        refine tkQ 7 (.int .i64 ((tk:Nat):Int)) hHeld (he:=by intro w hSw; exact exec_cell 3 _ _ hSw.2.1 rfl rfl rfl Tryz.underlying3 rfl) (h:=?_)
        try simp only[Act.put,sA,sB,sC]
        refine tkQ 8 (.slice (some ⟨gb,tk,none⟩) (n - tk) (c - tk)) hHeld (he:=by intro w hSw; exact exec_slice (s:=1) 29 5 _ _ _ _ rfl rfl Tryz.underlying29 (by kernel_rfl) (sb_l _ _ (l:=tk) rfl HTK.out) (by have:=HLT.out; have:=HCP.out; rw [if_neg (by omega)]; simp [Go.WideShapes.add_plain]) rfl rfl) (h:=?_)
        try simp only[Act.put,sA,sB,sC]
        refine wpAnyH_ready (rs:=[9]) (by kernel_rfl) (by simp) ?_
        refine AllReadyH.cons (o:=?o5__9) ?h5__9 (fun K hK=>?_) AllReadyH.nil
        case h5__9=>(first | (simp only [gA,gB,gC]; done)|(simp only [gA,gB,gC]; exact rfl))
        (try go_simp)
        refine (firstF6 gb tk (n - tk) (c - tk) k 165 r _ (hHeld.2.2.2) HCC.out HNN.out H1.out H2.out H3.out HK.out H4.out H5.out).mono ?_
        rintro e w53 ⟨rfl,hb⟩
        (try go_wp2_with fail)
        refine hK.out _ _ (by (apply HRK.out; exact hb; exact hHeld)) (fun hHeld2=>?_)
        clear hK K hHeld hb
        have hHeld:=hHeld2
        clear hHeld2
        try simp only[Act.put,sA,sB,sC]
        refine tkQ 10 (.tuple #[.slice (some ⟨gb,tk,none⟩) (k+2) (c - tk),.bool true]) hHeld (h:=?_)
        try simp only[Act.put,sA,sB,sC]
        refine tkQ 11 (.slice (some ⟨gb,tk,none⟩) (k+2) (c - tk)) hHeld (h:=?_)
        try simp only[Act.put,sA,sB,sC]
        refine tkQ 12 (.bool true) hHeld (h:=?_)
        try simp only[Act.put,sA,sB,sC]
        refine tkQ 13 (.slice (some ⟨gb,tk,none⟩) (k+2) (c - tk)) hHeld (h:=?_)
        try simp only[Act.put,sA,sB,sC]
        refine tkQ 14 (.bool true) hHeld (h:=?_)
        try simp only[Act.put,sA,sB,sC]
        refine wpAnyH_done (by kernel_rfl) ?_ _
        refine NoPanic.normal ?_
        have HSd5v2:=Lib.hid hHeld.1
        have HBQd5v2:=Lib.hid (hHeld.2.1)
        have HFrd5v2:=Lib.hid (hHeld.2.2.1)
        have HFbvd5v2:=Lib.hid (hHeld.2.2.2)
        clear hHeld HRK HRD HS52 HBQ52 HFr52 HBV
        go_upto_region 6 with fail
        refine wp_region_lit ?_
        refine tkL (.bool true) (h:=?_)
        try simp only[Act.put,sA,sB,sC]
        refine wpList_q (by rfl) (.bool false) ?he ?_
        case he=>(go_simp; (try with_reducible rfl))
        try simp only[Act.put,sA,sB,sC]
        refine wpList_nil ?_
        go_upto_region 8 with fail
        refine wp_region_lit ?_
        refine tkL (.slice (some ⟨gb,tk,none⟩) (k+2) (c - tk)) (h:=?_)
        try simp only[Act.put,sA,sB,sC]
        refine tkL (.bool false) (h:=?_)
        try simp only[Act.put,sA,sB,sC]
        refine wpList_nil ?_
        have HTK2:=Lib.hid (show tk+(k+6)≤n by have:=H4.out; have:=HLT.out; omega)
        go_upto_region 10 with fail
        refine wp_region_lit ?_
        refine tkL (.pointer (some ⟨s,0,none⟩)) (h:=?_)
        try simp only[Act.put,sA,sB,sC]
        refine tkL (.pointer (some ⟨s,0,none⟩)) (h:=?_)
        try simp only[Act.put,sA,sB,sC]
        refine tkL (.pointer (some ⟨s,1,none⟩)) (h:=?_)
        try simp only[Act.put,sA,sB,sC]
        refine wpList_q (by rfl) (.int .i64 ((tk:Nat):Int)) ?he ?_
        case he=>exact exec_cell 3 _ _ HBQd5v2.out rfl rfl rfl Tryz.underlying3 rfl
        try simp only[Act.put,sA,sB,sC]
        refine tkL (.slice (some ⟨gb,tk,none⟩) (k+2) (c - tk)) (h:=?_)
        try simp only[Act.put,sA,sB,sC]
        refine tkL (.int .i64 ((k+2:Nat):Int)) (h:=?_)
        try simp only[Act.put,sA,sB,sC]
        refine wpList_q (by rfl) (.int .i64 ((k+6:Nat):Int)) ?he ?_
        case he=>(go_simp; (first | done | (have q:=HTK2.out; have q1:=HN.out; rw [wr64 _ (by omega) (by omega)]; push_cast; omega)|(have q:=HTK2.out; have q1:=HN.out; exact wr64 _ (by omega) (by omega))))
        try simp only[Act.put,sA,sB,sC]
        refine wpList_q (by rfl) (.int .i64 ((tk+(k+6):Nat):Int)) ?he ?_
        case he=>(go_simp; (first | done | (have q:=HTK2.out; have q1:=HN.out; rw [wr64 _ (by omega) (by omega)]; push_cast; omega)|(have q:=HTK2.out; have q1:=HN.out; exact wr64 _ (by omega) (by omega))))
        try simp only[Act.put,sA,sB,sC]
        refine tkL (.pointer (some ⟨s,0,none⟩)) (h:=?_)
        try simp only[Act.put,sA,sB,sC]
        refine tkL (.pointer (some ⟨s,1,none⟩)) (h:=?_)
        try simp only[Act.put,sA,sB,sC]
        refine wpList_wp (by rfl) (fun K hK=>?_)
        refine wp_st_cell 3 _ _ rfl #[.slice (some ⟨gb,0,none⟩) n c,.int .i64 ((tk+(k+6):Nat):Int)] (.int .i64 ((tk+(k+6):Nat):Int)) rfl rfl HBQd5v2.out (by show 1 < 2; decide) rfl (by first | rfl | simp [Value.oneCell']) (by kernel_rfl) ?_
        intro w54 hw
        refine hK.out _ _ ?_
        clear hK K
        try simp only[Act.put,sA,sB,sC]
        have HS54:=Lib.hid (show Upd (s::blkOf (some ⟨gb,0,none⟩)) w w54 by rw [hw]; exact Upd.setRow HSd5v2.out (.inl (by simp)) _)
        have HBQ54:=Lib.hid (show Blk w54 s 93 #[.slice (some ⟨gb,0,none⟩) n c,.int .i64 ((tk+(k+6):Nat):Int)] by rw [hw]; exact Blk.row HBQd5v2.out _)
        have HFr_54:=Lib.hid (show (w54).ownsRow lo 5 1 (.slice (some ⟨gb,0,none⟩) n c) n (cells zs) by rw [hw]; exact own_row_far HFrd5v2.out HIQ.out _)
        clear hw HSd5v2 HBQd5v2 HFrd5v2
        refine wpList_nil ?_
        have HBV2:=Lib.hid (show BV w54 (some ⟨gb,tk,none⟩) (n - tk) (165::r) by have q:=bv_drop (BV.of_own HFr_54.out HB.out) HTK.out HCP.out; rw [cutA_some (by have:=HLT.out; have:=HCP.out; omega),HXR.out,Nat.zero_add] at q; exact q)
        have HBP:=Lib.hid (bv_drop (BV.cut HBV2.out (show k+2≤n - tk by have:=H4.out; omega)) (show 2≤k+2 by omega) (show k+2≤c - tk by have:=H4.out; have:=HCC.out; omega))
        go_upto_region 11 with fail
        refine wp_region_lit ?_
        refine tkL (.slice (some ⟨gb,tk,none⟩) (k+2) (c - tk)) (h:=?_)
        try simp only[Act.put,sA,sB,sC]
        refine wpList_q (by rfl) (.slice (cutA (c - tk) 2 (some ⟨gb,tk,none⟩) 1) (k+2 - 2) (c - tk - 2)) ?he ?_
        case he=>exact exec_slice (s:=1) 29 5 _ _ _ _ rfl rfl Tryz.underlying29 (by kernel_rfl) (sb_l _ _ (l:=2) rfl (by omega)) (by rfl) rfl rfl
        try simp only[Act.put,sA,sB,sC]
        refine wpList_wp (by rfl) (fun K hK=>?_)
        (try go_simp)
        refine (cloneB _ _ _ _ _ HBP.out (by have:=HTK2.out; have:=HN.out; omega)).mono ?_
        rintro e w55 ⟨A2,c2,rfl,hown,hb⟩
        (try go_wp2_with fail)
        refine hK.out _ _ ?_
        clear hK K
        try simp only[Act.put,sA,sB,sC]
        have HDIS:=Lib.hid (show ∀ y∈blkOf A2,y∉s::blkOf (some ⟨gb,0,none⟩) from fun y hA hS=>by have q1:=own_low hown y hA; have q2:=Upd.size HS54.out; rcases List.mem_cons.1 hS with h | h; have q3:=HLT0.out; omega; have q4:=HAL.out y h; omega)
        have hown2:=own_base (lo':=w.heap.size) hown (Upd.size HS54.out)
        have HS55:=Lib.hid (Upd.trans HS54.out hb)
        have HBQ55:=Lib.hid (keep_blk hb HBQ54.out)
        have HFr55:=Lib.hid (keep_own hb HFr_54.out)
        clear HS54 HBQ54 HFr_54
        clear hb
        have HCL:=Lib.hid hown2
        clear hown hown2
        refine tkL (.slice A2 (k+2 - 2) c2) (h:=?_)
        try simp only[Act.put,sA,sB,sC]
        refine tkL (.bool true) (h:=?_)
        try simp only[Act.put,sA,sB,sC]
        refine wpList_nil ?_
        have HPL:=Lib.hid (show (((165::r).take (k+2)).drop 2).length=k+2 - 2 by have:=H4.out; have:=HRL.out; rw [List.length_drop,List.length_take]; simp; omega)
        (try go_wp2_with fail)
        (try simp only [Exit.inBlock,Exit.then])
        refine leaves_cons (f:=132) (args:=#[.pointer (some ⟨s,0,none⟩)]) (by simp) (by simp [go_sem]) ?_
        refine (forgetD lo s (some ⟨gb,0,none⟩) n c (tk+(k+6)) zs .returning _ HBQ55.out HFr55.out HB.out HTK2.out HN.out H0.out).mono ?_
        rintro e u' wz ⟨rfl,rfl,S',hSO,hU,hfar⟩
        have HU2:=Upd.comp HS55.out hU (fun g h=>.inl h)
        have HF2:∀ g∈S',g∈s::blkOf (some ⟨gb,0,none⟩)∨w.heap.size≤g:=fun g hg=>by rcases hfar g hg with h | h; exact .inl h; exact .inr (Nat.le_trans (Upd.size HS55.out) h)
        have HNF:=(show nextF xs=(some (((165::r).take (k+2)).drop 2),zs.drop (tk+(k+6))) from by rw [← HINV.out,← List.drop_drop,HXR.out]; exact nx6 HRN.out HK.out H3.out (by have:=H4.out; have:=HRL.out; omega) H5.out)
        have HD1:∀ g∈blkOf A2,g∉s::blkOf (some ⟨gb,0,none⟩):=HDIS.out
        have HO2:=Upd.own hU HCL.out HD1
        exact ⟨_,results_tmp2 rfl _ _ _,by rw [HNF]; exact ⟨S',hSO,HU2,HF2,A2,c2,by rw [HPL.out]; rfl,by rw [HPL.out]; exact own_base HO2 (Nat.le_refl _),fun g hg hA=>by rcases hfar g hg with h | h; exact HD1 g hA h; have q:=own_lt HCL.out g hA; omega⟩⟩
      ·have H4:=Lib.hid hcs; clear hcs
       go_upto_region 5 with fail
       have hrK:∀ W W':World,Since W W'→(Upd (s::blkOf (some ⟨gb,0,none⟩)) w W∧Blk W s 93 #[.slice (some ⟨gb,0,none⟩) n c,.int .i64 ((tk:Nat):Int)]∧(W).ownsRow lo 5 1 (.slice (some ⟨gb,0,none⟩) n c) n (cells zs)∧BV W (some ⟨gb,tk,none⟩) (n - tk) (165::r))→(Upd (s::blkOf (some ⟨gb,0,none⟩)) w W'∧Blk W' s 93 #[.slice (some ⟨gb,0,none⟩) n c,.int .i64 ((tk:Nat):Int)]∧(W').ownsRow lo 5 1 (.slice (some ⟨gb,0,none⟩) n c) n (cells zs)∧BV W' (some ⟨gb,tk,none⟩) (n - tk) (165::r)):=fun W W' k ⟨h,h0,h1,h2⟩=>⟨h.trans k,keep_blk k h0,keep_own k h1,keep_bv k h2⟩
       have hrS:(fun W:World=>Upd (s::blkOf (some ⟨gb,0,none⟩)) w W∧Blk W s 93 #[.slice (some ⟨gb,0,none⟩) n c,.int .i64 ((tk:Nat):Int)]∧(W).ownsRow lo 5 1 (.slice (some ⟨gb,0,none⟩) n c) n (cells zs)∧BV W (some ⟨gb,tk,none⟩) (n - tk) (165::r)) w52:=⟨HS52.out,HBQ52.out,HFr52.out,HBV.out⟩
       have HRK:=Lib.hid hrK
       have HRD:=Lib.hid (show (fun W:World=>Upd (s::blkOf (some ⟨gb,0,none⟩)) w W∧Blk W s 93 #[.slice (some ⟨gb,0,none⟩) n c,.int .i64 ((tk:Nat):Int)]∧(W).ownsRow lo 5 1 (.slice (some ⟨gb,0,none⟩) n c) n (cells zs)∧BV W (some ⟨gb,tk,none⟩) (n - tk) (165::r)) (World.drew w52) from ⟨Upd.drew hrS.1,hrS.2⟩)
       clear hrK hrS
       refine wp_region_noPanic ?_
       refine wp_region_held_drew (S:=fun W:World=>Upd (s::blkOf (some ⟨gb,0,none⟩)) w W∧Blk W s 93 #[.slice (some ⟨gb,0,none⟩) n c,.int .i64 ((tk:Nat):Int)]∧(W).ownsRow lo 5 1 (.slice (some ⟨gb,0,none⟩) n c) n (cells zs)∧BV W (some ⟨gb,tk,none⟩) (n - tk) (165::r)) (by kernel_rfl) HRD.out (fun hHeld=>?_)
       refine tkQ 0 (.pointer (some ⟨s,0,none⟩)) hHeld (h:=?_)
       try simp only[Act.put,sA,sB,sC]
       refine tkQ 1 (.pointer (some ⟨s,0,none⟩)) hHeld (h:=?_)
       try simp only[Act.put,sA,sB,sC]
       refine tkQ 2 (.pointer (some ⟨s,0,none⟩)) hHeld (h:=?_)
       try simp only[Act.put,sA,sB,sC]
       refine tkQ 3 (.slice (some ⟨gb,0,none⟩) n c) hHeld (he:=by intro w hSw; exact exec_cell 29 _ _ hSw.2.1 rfl rfl rfl Tryz.underlying29 rfl) (h:=?_)
       try simp only[Act.put,sA,sB,sC]
       refine tkQ 4 (.pointer (some ⟨s,0,none⟩)) hHeld (h:=?_)
       try simp only[Act.put,sA,sB,sC]
       refine tkQ 5 (.pointer (some ⟨s,0,none⟩)) hHeld (h:=?_)
       try simp only[Act.put,sA,sB,sC]
       refine tkQ 6 (.pointer (some ⟨s,1,none⟩)) hHeld (h:=?_)
       try simp only[Act.put,sA,sB,sC]
       refine tkQ 7 (.int .i64 ((tk:Nat):Int)) hHeld (he:=by intro w hSw; exact exec_cell 3 _ _ hSw.2.1 rfl rfl rfl Tryz.underlying3 rfl) (h:=?_)
       try simp only[Act.put,sA,sB,sC]
       refine tkQ 8 (.slice (some ⟨gb,tk,none⟩) (n - tk) (c - tk)) hHeld (he:=by intro w hSw; exact exec_slice (s:=1) 29 5 _ _ _ _ rfl rfl Tryz.underlying29 (by kernel_rfl) (sb_l _ _ (l:=tk) rfl HTK.out) (by have:=HLT.out; have:=HCP.out; rw [if_neg (by omega)]; simp [Go.WideShapes.add_plain]) rfl rfl) (h:=?_)
       try simp only[Act.put,sA,sB,sC]
       refine wpAnyH_ready (rs:=[9]) (by kernel_rfl) (by simp) ?_
       refine AllReadyH.cons (o:=?o5__9) ?h5__9 (fun K hK=>?_) AllReadyH.nil
       case h5__9=>(first | (simp only [gA,gB,gC]; done)|(simp only [gA,gB,gC]; exact rfl))
       (try go_simp)
       refine (firstF4 gb tk (n - tk) (c - tk) k 165 r _ (hHeld.2.2.2) HCC.out HNN.out H1.out H2.out H3.out HK.out H4.out).mono ?_
       rintro e w53 ⟨rfl,hb⟩
       (try go_wp2_with fail)
       refine hK.out _ _ (by (apply HRK.out; exact hb; exact hHeld)) (fun hHeld2=>?_)
       clear hK K hHeld hb
       have hHeld:=hHeld2
       clear hHeld2
       try simp only[Act.put,sA,sB,sC]
       refine tkQ 10 (.tuple #[.slice none 0 0,.bool false]) hHeld (h:=?_)
       try simp only[Act.put,sA,sB,sC]
       refine tkQ 11 (.slice none 0 0) hHeld (h:=?_)
       try simp only[Act.put,sA,sB,sC]
       refine tkQ 12 (.bool false) hHeld (h:=?_)
       try simp only[Act.put,sA,sB,sC]
       refine tkQ 13 (.slice none 0 0) hHeld (h:=?_)
       try simp only[Act.put,sA,sB,sC]
       refine tkQ 14 (.bool false) hHeld (h:=?_)
       try simp only[Act.put,sA,sB,sC]
       refine wpAnyH_done (by kernel_rfl) ?_ _
       refine NoPanic.normal ?_
       have HSd5v2:=Lib.hid hHeld.1
       have HBQd5v2:=Lib.hid (hHeld.2.1)
       have HFrd5v2:=Lib.hid (hHeld.2.2.1)
       have HFbvd5v2:=Lib.hid (hHeld.2.2.2)
       clear hHeld HRK HRD HS52 HBQ52 HFr52 HBV
       go_upto_region 6 with fail
       refine wp_region_lit ?_
       refine tkL (.bool false) (h:=?_)
       try simp only[Act.put,sA,sB,sC]
       refine wpList_q (by rfl) (.bool true) ?he ?_
       case he=>(go_simp; (try with_reducible rfl))
       try simp only[Act.put,sA,sB,sC]
       refine wpList_nil ?_
       go_upto_region 7 with fail
       refine wp_region_lit ?_
       refine tkL (.slice none 0 0) (h:=?_)
       try simp only[Act.put,sA,sB,sC]
       refine tkL (.bool false) (h:=?_)
       try simp only[Act.put,sA,sB,sC]
       refine wpList_nil ?_
       have HTK2:=Lib.hid HTK.out
       (try go_wp2_with fail)
       (try simp only [Exit.inBlock,Exit.then])
       refine leaves_cons (f:=132) (args:=#[.pointer (some ⟨s,0,none⟩)]) (by simp) (by simp [go_sem]) ?_
       refine (forgetD lo s (some ⟨gb,0,none⟩) n c tk zs .returning _ HBQd5v2.out HFrd5v2.out HB.out HTK2.out HN.out H0.out).mono ?_
       rintro e u' wz ⟨rfl,rfl,S',hSO,hU,hfar⟩
       have HU2:=Upd.comp HSd5v2.out hU (fun g h=>.inl h)
       have HF2:∀ g∈S',g∈s::blkOf (some ⟨gb,0,none⟩)∨w.heap.size≤g:=fun g hg=>by rcases hfar g hg with h | h; exact .inl h; exact .inr (Nat.le_trans (Upd.size HSd5v2.out) h)
       have HNF:=(show nextF xs=(none,zs.drop tk) from by rw [← HINV.out,HXR.out]; exact nx4 HRN.out HK.out H3.out (by have:=H4.out; have:=HRL.out; omega))
       exact ⟨_,results_tmp2 rfl _ _ _,by rw [HNF]; exact ⟨S',hSO,HU2,HF2,rfl⟩⟩
     ·have H3:=Lib.hid hcs; clear hcs
      go_upto_region 5 with fail
      have hrK:∀ W W':World,Since W W'→(Upd (s::blkOf (some ⟨gb,0,none⟩)) w W∧Blk W s 93 #[.slice (some ⟨gb,0,none⟩) n c,.int .i64 ((tk:Nat):Int)]∧(W).ownsRow lo 5 1 (.slice (some ⟨gb,0,none⟩) n c) n (cells zs)∧BV W (some ⟨gb,tk,none⟩) (n - tk) (165::r))→(Upd (s::blkOf (some ⟨gb,0,none⟩)) w W'∧Blk W' s 93 #[.slice (some ⟨gb,0,none⟩) n c,.int .i64 ((tk:Nat):Int)]∧(W').ownsRow lo 5 1 (.slice (some ⟨gb,0,none⟩) n c) n (cells zs)∧BV W' (some ⟨gb,tk,none⟩) (n - tk) (165::r)):=fun W W' k ⟨h,h0,h1,h2⟩=>⟨h.trans k,keep_blk k h0,keep_own k h1,keep_bv k h2⟩
      have hrS:(fun W:World=>Upd (s::blkOf (some ⟨gb,0,none⟩)) w W∧Blk W s 93 #[.slice (some ⟨gb,0,none⟩) n c,.int .i64 ((tk:Nat):Int)]∧(W).ownsRow lo 5 1 (.slice (some ⟨gb,0,none⟩) n c) n (cells zs)∧BV W (some ⟨gb,tk,none⟩) (n - tk) (165::r)) w52:=⟨HS52.out,HBQ52.out,HFr52.out,HBV.out⟩
      have HRK:=Lib.hid hrK
      have HRD:=Lib.hid (show (fun W:World=>Upd (s::blkOf (some ⟨gb,0,none⟩)) w W∧Blk W s 93 #[.slice (some ⟨gb,0,none⟩) n c,.int .i64 ((tk:Nat):Int)]∧(W).ownsRow lo 5 1 (.slice (some ⟨gb,0,none⟩) n c) n (cells zs)∧BV W (some ⟨gb,tk,none⟩) (n - tk) (165::r)) (World.drew w52) from ⟨Upd.drew hrS.1,hrS.2⟩)
      clear hrK hrS
      refine wp_region_noPanic ?_
      refine wp_region_held_drew (S:=fun W:World=>Upd (s::blkOf (some ⟨gb,0,none⟩)) w W∧Blk W s 93 #[.slice (some ⟨gb,0,none⟩) n c,.int .i64 ((tk:Nat):Int)]∧(W).ownsRow lo 5 1 (.slice (some ⟨gb,0,none⟩) n c) n (cells zs)∧BV W (some ⟨gb,tk,none⟩) (n - tk) (165::r)) (by kernel_rfl) HRD.out (fun hHeld=>?_)
      refine tkQ 0 (.pointer (some ⟨s,0,none⟩)) hHeld (h:=?_)
      try simp only[Act.put,sA,sB,sC]
      refine tkQ 1 (.pointer (some ⟨s,0,none⟩)) hHeld (h:=?_)
      try simp only[Act.put,sA,sB,sC]
      refine tkQ 2 (.pointer (some ⟨s,0,none⟩)) hHeld (h:=?_)
      try simp only[Act.put,sA,sB,sC]
      refine tkQ 3 (.slice (some ⟨gb,0,none⟩) n c) hHeld (he:=by intro w hSw; exact exec_cell 29 _ _ hSw.2.1 rfl rfl rfl Tryz.underlying29 rfl) (h:=?_)
      try simp only[Act.put,sA,sB,sC]
      refine tkQ 4 (.pointer (some ⟨s,0,none⟩)) hHeld (h:=?_)
      try simp only[Act.put,sA,sB,sC]
      refine tkQ 5 (.pointer (some ⟨s,0,none⟩)) hHeld (h:=?_)
      try simp only[Act.put,sA,sB,sC]
      refine tkQ 6 (.pointer (some ⟨s,1,none⟩)) hHeld (h:=?_)
      try simp only[Act.put,sA,sB,sC]
      refine tkQ 7 (.int .i64 ((tk:Nat):Int)) hHeld (he:=by intro w hSw; exact exec_cell 3 _ _ hSw.2.1 rfl rfl rfl Tryz.underlying3 rfl) (h:=?_)
      try simp only[Act.put,sA,sB,sC]
      refine tkQ 8 (.slice (some ⟨gb,tk,none⟩) (n - tk) (c - tk)) hHeld (he:=by intro w hSw; exact exec_slice (s:=1) 29 5 _ _ _ _ rfl rfl Tryz.underlying29 (by kernel_rfl) (sb_l _ _ (l:=tk) rfl HTK.out) (by have:=HLT.out; have:=HCP.out; rw [if_neg (by omega)]; simp [Go.WideShapes.add_plain]) rfl rfl) (h:=?_)
      try simp only[Act.put,sA,sB,sC]
      refine wpAnyH_ready (rs:=[9]) (by kernel_rfl) (by simp) ?_
      refine AllReadyH.cons (o:=?o5__9) ?h5__9 (fun K hK=>?_) AllReadyH.nil
      case h5__9=>(first | (simp only [gA,gB,gC]; done)|(simp only [gA,gB,gC]; exact rfl))
      (try go_simp)
      refine (firstF3 gb tk (n - tk) (c - tk) 165 r _ (hHeld.2.2.2) HCC.out HNN.out H1.out H2.out H3.out).mono ?_
      rintro e w53 ⟨rfl,hb⟩
      (try go_wp2_with fail)
      refine hK.out _ _ (by (apply HRK.out; exact hb; exact hHeld)) (fun hHeld2=>?_)
      clear hK K hHeld hb
      have hHeld:=hHeld2
      clear hHeld2
      try simp only[Act.put,sA,sB,sC]
      refine tkQ 10 (.tuple #[.slice none 0 0,.bool true]) hHeld (h:=?_)
      try simp only[Act.put,sA,sB,sC]
      refine tkQ 11 (.slice none 0 0) hHeld (h:=?_)
      try simp only[Act.put,sA,sB,sC]
      refine tkQ 12 (.bool true) hHeld (h:=?_)
      try simp only[Act.put,sA,sB,sC]
      refine tkQ 13 (.slice none 0 0) hHeld (h:=?_)
      try simp only[Act.put,sA,sB,sC]
      refine tkQ 14 (.bool true) hHeld (h:=?_)
      try simp only[Act.put,sA,sB,sC]
      refine wpAnyH_done (by kernel_rfl) ?_ _
      refine NoPanic.normal ?_
      have HSd5v2:=Lib.hid hHeld.1
      have HBQd5v2:=Lib.hid (hHeld.2.1)
      have HFrd5v2:=Lib.hid (hHeld.2.2.1)
      have HFbvd5v2:=Lib.hid (hHeld.2.2.2)
      clear hHeld HRK HRD HS52 HBQ52 HFr52 HBV
      go_upto_region 6 with fail
      refine wp_region_lit ?_
      refine tkL (.bool true) (h:=?_)
      try simp only[Act.put,sA,sB,sC]
      refine wpList_q (by rfl) (.bool false) ?he ?_
      case he=>(go_simp; (try with_reducible rfl))
      try simp only[Act.put,sA,sB,sC]
      refine wpList_nil ?_
      go_upto_region 8 with fail
      refine wp_region_lit ?_
      refine tkL (.slice none 0 0) (h:=?_)
      try simp only[Act.put,sA,sB,sC]
      refine tkL (.bool true) (h:=?_)
      try simp only[Act.put,sA,sB,sC]
      refine wpList_nil ?_
      go_upto_region 9 with fail
      refine wp_region_lit ?_
      refine tkL (.pointer (some ⟨s,0,none⟩)) (h:=?_)
      try simp only[Act.put,sA,sB,sC]
      refine tkL (.pointer (some ⟨s,0,none⟩)) (h:=?_)
      try simp only[Act.put,sA,sB,sC]
      refine tkL (.pointer (some ⟨s,1,none⟩)) (h:=?_)
      try simp only[Act.put,sA,sB,sC]
      refine wpList_q (by rfl) (.int .i64 ((tk:Nat):Int)) ?he ?_
      case he=>exact exec_cell 3 _ _ HBQd5v2.out rfl rfl rfl Tryz.underlying3 rfl
      try simp only[Act.put,sA,sB,sC]
      refine wpList_q (by rfl) (.int .i64 ((tk+1:Nat):Int)) ?he ?_
      case he=>(go_simp; (first | done | (have q:=HLT.out; have q1:=HN.out; rw [wr64 _ (by omega) (by omega)]; push_cast; rfl)|(have q:=HLT.out; have q1:=HN.out; exact wr64 _ (by omega) (by omega))))
      try simp only[Act.put,sA,sB,sC]
      refine tkL (.pointer (some ⟨s,0,none⟩)) (h:=?_)
      try simp only[Act.put,sA,sB,sC]
      refine tkL (.pointer (some ⟨s,1,none⟩)) (h:=?_)
      try simp only[Act.put,sA,sB,sC]
      refine wpList_wp (by rfl) (fun K hK=>?_)
      refine wp_st_cell 3 _ _ rfl #[.slice (some ⟨gb,0,none⟩) n c,.int .i64 ((tk+1:Nat):Int)] (.int .i64 ((tk+1:Nat):Int)) rfl rfl HBQd5v2.out (by show 1 < 2; decide) rfl (by first | rfl | simp [Value.oneCell']) (by kernel_rfl) ?_
      intro w54 hw
      refine hK.out _ _ ?_
      clear hK K
      try simp only[Act.put,sA,sB,sC]
      have HS54:=Lib.hid (show Upd (s::blkOf (some ⟨gb,0,none⟩)) w w54 by rw [hw]; exact Upd.setRow HSd5v2.out (.inl (by simp)) _)
      have HBQ54:=Lib.hid (show Blk w54 s 93 #[.slice (some ⟨gb,0,none⟩) n c,.int .i64 ((tk+1:Nat):Int)] by rw [hw]; exact Blk.row HBQd5v2.out _)
      have HFr_54:=Lib.hid (show (w54).ownsRow lo 5 1 (.slice (some ⟨gb,0,none⟩) n c) n (cells zs) by rw [hw]; exact own_row_far HFrd5v2.out HIQ.out _)
      clear hw HSd5v2 HBQd5v2 HFrd5v2
      refine wpList_nil ?_
      go_wp2_with fail
      go_roundw
      case rel=>exact ⟨tk+1,by have:=HLT.out; omega,Lib.hid ⟨by rw [HDR.out,← HINV.out,HXR.out]; exact (nx3 HRN.out H3.out).symm,HS54.out,HBQ54.out,HFr_54.out⟩⟩
      case measure=>rw [tkOf_blk HBQ54.out,tkOf_blk HM0.out]; have:=HLT.out; have:=HN.out; omega
    ·have H2:=Lib.hid hcs; clear hcs
     go_upto_region 5 with fail
     have hrK:∀ W W':World,Since W W'→(Upd (s::blkOf (some ⟨gb,0,none⟩)) w W∧Blk W s 93 #[.slice (some ⟨gb,0,none⟩) n c,.int .i64 ((tk:Nat):Int)]∧(W).ownsRow lo 5 1 (.slice (some ⟨gb,0,none⟩) n c) n (cells zs)∧BV W (some ⟨gb,tk,none⟩) (n - tk) (165::r))→(Upd (s::blkOf (some ⟨gb,0,none⟩)) w W'∧Blk W' s 93 #[.slice (some ⟨gb,0,none⟩) n c,.int .i64 ((tk:Nat):Int)]∧(W').ownsRow lo 5 1 (.slice (some ⟨gb,0,none⟩) n c) n (cells zs)∧BV W' (some ⟨gb,tk,none⟩) (n - tk) (165::r)):=fun W W' k ⟨h,h0,h1,h2⟩=>⟨h.trans k,keep_blk k h0,keep_own k h1,keep_bv k h2⟩
     have hrS:(fun W:World=>Upd (s::blkOf (some ⟨gb,0,none⟩)) w W∧Blk W s 93 #[.slice (some ⟨gb,0,none⟩) n c,.int .i64 ((tk:Nat):Int)]∧(W).ownsRow lo 5 1 (.slice (some ⟨gb,0,none⟩) n c) n (cells zs)∧BV W (some ⟨gb,tk,none⟩) (n - tk) (165::r)) w52:=⟨HS52.out,HBQ52.out,HFr52.out,HBV.out⟩
     have HRK:=Lib.hid hrK
     have HRD:=Lib.hid (show (fun W:World=>Upd (s::blkOf (some ⟨gb,0,none⟩)) w W∧Blk W s 93 #[.slice (some ⟨gb,0,none⟩) n c,.int .i64 ((tk:Nat):Int)]∧(W).ownsRow lo 5 1 (.slice (some ⟨gb,0,none⟩) n c) n (cells zs)∧BV W (some ⟨gb,tk,none⟩) (n - tk) (165::r)) (World.drew w52) from ⟨Upd.drew hrS.1,hrS.2⟩)
     clear hrK hrS
     refine wp_region_noPanic ?_
     refine wp_region_held_drew (S:=fun W:World=>Upd (s::blkOf (some ⟨gb,0,none⟩)) w W∧Blk W s 93 #[.slice (some ⟨gb,0,none⟩) n c,.int .i64 ((tk:Nat):Int)]∧(W).ownsRow lo 5 1 (.slice (some ⟨gb,0,none⟩) n c) n (cells zs)∧BV W (some ⟨gb,tk,none⟩) (n - tk) (165::r)) (by kernel_rfl) HRD.out (fun hHeld=>?_)
     refine tkQ 0 (.pointer (some ⟨s,0,none⟩)) hHeld (h:=?_)
     try simp only[Act.put,sA,sB,sC]
     refine tkQ 1 (.pointer (some ⟨s,0,none⟩)) hHeld (h:=?_)
     try simp only[Act.put,sA,sB,sC]
     refine tkQ 2 (.pointer (some ⟨s,0,none⟩)) hHeld (h:=?_)
     try simp only[Act.put,sA,sB,sC]
     refine tkQ 3 (.slice (some ⟨gb,0,none⟩) n c) hHeld (he:=by intro w hSw; exact exec_cell 29 _ _ hSw.2.1 rfl rfl rfl Tryz.underlying29 rfl) (h:=?_)
     try simp only[Act.put,sA,sB,sC]
     refine tkQ 4 (.pointer (some ⟨s,0,none⟩)) hHeld (h:=?_)
     try simp only[Act.put,sA,sB,sC]
     refine tkQ 5 (.pointer (some ⟨s,0,none⟩)) hHeld (h:=?_)
     try simp only[Act.put,sA,sB,sC]
     refine tkQ 6 (.pointer (some ⟨s,1,none⟩)) hHeld (h:=?_)
     try simp only[Act.put,sA,sB,sC]
     refine tkQ 7 (.int .i64 ((tk:Nat):Int)) hHeld (he:=by intro w hSw; exact exec_cell 3 _ _ hSw.2.1 rfl rfl rfl Tryz.underlying3 rfl) (h:=?_)
     try simp only[Act.put,sA,sB,sC]
     refine tkQ 8 (.slice (some ⟨gb,tk,none⟩) (n - tk) (c - tk)) hHeld (he:=by intro w hSw; exact exec_slice (s:=1) 29 5 _ _ _ _ rfl rfl Tryz.underlying29 (by kernel_rfl) (sb_l _ _ (l:=tk) rfl HTK.out) (by have:=HLT.out; have:=HCP.out; rw [if_neg (by omega)]; simp [Go.WideShapes.add_plain]) rfl rfl) (h:=?_)
     try simp only[Act.put,sA,sB,sC]
     refine wpAnyH_ready (rs:=[9]) (by kernel_rfl) (by simp) ?_
     refine AllReadyH.cons (o:=?o5__9) ?h5__9 (fun K hK=>?_) AllReadyH.nil
     case h5__9=>(first | (simp only [gA,gB,gC]; done)|(simp only [gA,gB,gC]; exact rfl))
     (try go_simp)
     refine (firstF2 gb tk (n - tk) (c - tk) 165 r _ (hHeld.2.2.2) HCC.out HNN.out H1.out H2.out).mono ?_
     rintro e w53 ⟨rfl,hb⟩
     (try go_wp2_with fail)
     refine hK.out _ _ (by (apply HRK.out; exact hb; exact hHeld)) (fun hHeld2=>?_)
     clear hK K hHeld hb
     have hHeld:=hHeld2
     clear hHeld2
     try simp only[Act.put,sA,sB,sC]
     refine tkQ 10 (.tuple #[.slice none 0 0,.bool false]) hHeld (h:=?_)
     try simp only[Act.put,sA,sB,sC]
     refine tkQ 11 (.slice none 0 0) hHeld (h:=?_)
     try simp only[Act.put,sA,sB,sC]
     refine tkQ 12 (.bool false) hHeld (h:=?_)
     try simp only[Act.put,sA,sB,sC]
     refine tkQ 13 (.slice none 0 0) hHeld (h:=?_)
     try simp only[Act.put,sA,sB,sC]
     refine tkQ 14 (.bool false) hHeld (h:=?_)
     try simp only[Act.put,sA,sB,sC]
     refine wpAnyH_done (by kernel_rfl) ?_ _
     refine NoPanic.normal ?_
     have HSd5v2:=Lib.hid hHeld.1
     have HBQd5v2:=Lib.hid (hHeld.2.1)
     have HFrd5v2:=Lib.hid (hHeld.2.2.1)
     have HFbvd5v2:=Lib.hid (hHeld.2.2.2)
     clear hHeld HRK HRD HS52 HBQ52 HFr52 HBV
     go_upto_region 6 with fail
     refine wp_region_lit ?_
     refine tkL (.bool false) (h:=?_)
     try simp only[Act.put,sA,sB,sC]
     refine wpList_q (by rfl) (.bool true) ?he ?_
     case he=>(go_simp; (try with_reducible rfl))
     try simp only[Act.put,sA,sB,sC]
     refine wpList_nil ?_
     go_upto_region 7 with fail
     refine wp_region_lit ?_
     refine tkL (.slice none 0 0) (h:=?_)
     try simp only[Act.put,sA,sB,sC]
     refine tkL (.bool false) (h:=?_)
     try simp only[Act.put,sA,sB,sC]
     refine wpList_nil ?_
     have HTK2:=Lib.hid HTK.out
     (try go_wp2_with fail)
     (try simp only [Exit.inBlock,Exit.then])
     refine leaves_cons (f:=132) (args:=#[.pointer (some ⟨s,0,none⟩)]) (by simp) (by simp [go_sem]) ?_
     refine (forgetD lo s (some ⟨gb,0,none⟩) n c tk zs .returning _ HBQd5v2.out HFrd5v2.out HB.out HTK2.out HN.out H0.out).mono ?_
     rintro e u' wz ⟨rfl,rfl,S',hSO,hU,hfar⟩
     have HU2:=Upd.comp HSd5v2.out hU (fun g h=>.inl h)
     have HF2:∀ g∈S',g∈s::blkOf (some ⟨gb,0,none⟩)∨w.heap.size≤g:=fun g hg=>by rcases hfar g hg with h | h; exact .inl h; exact .inr (Nat.le_trans (Upd.size HSd5v2.out) h)
     have HNF:=(show nextF xs=(none,zs.drop tk) from by rw [← HINV.out,HXR.out]; exact nx2 (List.eq_nil_of_length_eq_zero (by have:=H2.out; have:=HRL.out; omega)))
     exact ⟨_,results_tmp2 rfl _ _ _,by rw [HNF]; exact ⟨S',hSO,HU2,HF2,rfl⟩⟩
theorem nextT (lo s N:Nat) (xs:List Int) (S:List Nat) (w:World) (h:SO lo s N xs S w) (hN:N≤1000000):Calls Tryz.prog 99 #[.pointer (some ⟨s,0,none⟩)] w (NX lo s N S w (nextF xs)):=by
 obtain ⟨h0,A,n,c,tk,zs,rfl,B,O,r1,r2,r3,r4⟩:=h
 refine (nextA lo s A n c tk zs xs w B O r1 r2 (by omega) h0 r3).mono ?_
 rintro e w1 ⟨S',a,b⟩
 exact ⟨S',a.more r4,b⟩
end Fq
namespace Gw
open Go.RowKit Ba Mem En Go.Proofs.YtepfmfalebmcnaaGreatDoor.Ty
open Mg (PktV mayB bytesOf pktC)
open Fm (frm)
open Ln (PkV pkC)
open Co (Hold.ob)
set_option maxRecDepth 100000
attribute [local irreducible] Go.Calls
def frV (p:PktV):List Int:=if mayB p=true then frm (bytesOf p) else []
theorem bytes_len (p:PktV):(bytesOf p).length=8∨(bytesOf p).length=21:=by
 unfold bytesOf; split
 ·exact .inr rfl
 ·exact .inl rfl
theorem framedT (p:PktV) (w:World):Calls Tryz.prog 97 #[.agg (pktC p)] w fun e w'=>∃ x:Option Addr×Nat,e=.returned (.slice x.1 (frV p).length x.2)∧byteE.At w.heap.size x.1 (frV p).length x.2 (frV p) w'∧Since w w':=by
 cases hm:mayB p with
 | false =>
  have hf:frV p=[]:=by unfold frV; rw [hm]; rfl
  rw [hf]
  refine ent tab_ok [.a [.i .i64 p.se,.i .i64 p.ep,.i .i64 p.sq,.i .i64 p.ak,.b p.has,.i .i64 p.ki,.i .i64 p.a,.i .i64 p.b,.i .i64 p.c]] Tryz.func97 Tryz.ntmps97 rfl rfl ?_
  repeat' (first | refine gs_ ?_|((conv=>whnf); first | intro b | refine callH (f:=130) (.t [.v (.slice none 0 0),.b false]) (fun w hH=>Mg.putN p hm w) ?_|refine callH (f:=131) (.t [.v (.slice none 0 0),.b false]) (fun w hH=>Fq.putNo none 0 0 [] w (Byt.BV.nil _ _) rfl) ?_|refine fin fun w' hH=>⟨(none,0),rfl,Ek.nil _ _ _,hH.upd.since⟩|refine fin_s ?_))
 | true =>
  have hf:frV p=frm (bytesOf p):=by unfold frV; rw [if_pos hm]
  have hl:(frV p).length=(bytesOf p).length+6:=by rw [hf,Fm.frm_length]
  have hok:Fq.okN ((bytesOf p).length:Int)=true:=by rcases bytes_len p with h | h <;> rw [h] <;> rfl
  rw [hl,hf]
  refine ent tab_ok [.a [.i .i64 p.se,.i .i64 p.ep,.i .i64 p.sq,.i .i64 p.ak,.b p.has,.i .i64 p.ki,.i .i64 p.a,.i .i64 p.b,.i .i64 p.c]] Tryz.func97 Tryz.ntmps97 rfl rfl ?_
  repeat' (first | refine gs_ ?_|((conv=>whnf); first | intro b | refine callN (f:=130) (ι:=Option Addr×Nat) (fun x=>.t [.v (.slice x.1 (bytesOf p).length x.2),.b true]) (fun x=>rwO byteE w.heap.size x.1 (bytesOf p).length x.2 (bytesOf p) true) (fun w1 hH=>(Mg.putT p hm w1).mono (by rintro e w' ⟨A,c,rfl,h1,h2⟩; exact ⟨(A,c),rfl,Ek.base h1 hH.upd.size,h2,Ek.lows h1⟩)) (fun x=>?_)|refine callN (f:=131) (ι:=Option Addr×Nat) (fun y=>.t [.v (.slice y.1 ((bytesOf p).length+6) y.2),.b true]) (fun y=>rwO byteE w.heap.size y.1 ((bytesOf p).length+6) y.2 (frm (bytesOf p)) true) (fun w1 hH=>(Fq.putOk x.1 _ x.2 (bytesOf p) w1 (Byt.BV.of_own (byte_own.1 (Hold.ob hH (A:=rwO byteE w.heap.size x.1 (bytesOf p).length x.2 (bytesOf p) true) 0 rfl)) (Mg.bytes_isB p)) hok).mono (by rintro e w' ⟨A,c,rfl,h1,h2⟩; exact ⟨(A,c),rfl,Ek.base (byte_own.2 h1) hH.upd.size,h2,Ek.lows (byte_own.2 h1)⟩)) (fun y=>?_)|refine fin fun w' hH=>⟨y,rfl,Hold.ob hH (A:=rwO byteE w.heap.size y.1 ((bytesOf p).length+6) y.2 (frm (bytesOf p)) true) 1 rfl,hH.upd.since⟩|refine fin_s ?_))
structure OutD where
 s:Int
 A:Option Addr
 c:Nat
 zs:List Int
def outE:Ek OutD:=⟨64,2,fun o=>[.int .i64 o.s,.slice o.A o.zs.length o.c],fun _=>rfl,fun a u hu=>by
 simp only [List.mem_cons,List.mem_nil_iff,or_false] at hu
 rcases hu with rfl | rfl <;> rfl⟩
def datF (os:List OutD):List Nat:=os.flatMap fun o=>blkOf o.A
def DatAt (lo:Nat) (os:List OutD) (w:World):Prop:=∀ o∈os,byteE.At lo o.A o.zs.length o.c o.zs w
theorem dat_mem {os:List OutD} {g:Nat}:g∈datF os↔∃ o∈os,g∈blkOf o.A:=by simp [datF,List.mem_flatMap]
def daO (lo:Nat) (os:List OutD) (rw:Bool):Asr:=⟨datF os,rw,DatAt lo os,fun u hd h o ho=>u.own (h o ho) (fun g hg=>hd g (dat_mem.2 ⟨o,ho,hg⟩)),fun h g hg=>by
 obtain ⟨o,ho,hg⟩:=dat_mem.1 hg
 exact own_lt (h o ho) g hg⟩
theorem frameO {lo:Nat} {os:List OutD} {w:World} (h:DatAt lo os w) (hlo:lo≤w.heap.size) (i:Int) (p:PktV):Calls Tryz.prog 97 #[.agg (pktC p)] w fun e w'=>∃ x:Option Addr×Nat,e=.returned (.slice x.1 (frV p).length x.2)∧DatAt lo (os++[⟨i,x.1,x.2,frV p⟩]) w'∧Upd (datF os) w w'∧∀ g∈datF (os++[⟨i,x.1,x.2,frV p⟩]),g∈datF os∨w.heap.size≤g :=
 (framedT p w).mono (by
  rintro e w' ⟨x,rfl,h1,h2⟩
  refine ⟨x,rfl,fun o ho=>?_,Upd.of_since h2,fun g hg=>?_⟩
  ·rcases List.mem_append.1 ho with ho | ho
   ·exact keep_own h2 (h o ho)
   ·rw [List.mem_singleton] at ho; subst ho; exact Ek.base h1 hlo
  ·obtain ⟨o,ho,hg⟩:=dat_mem.1 hg
   rcases List.mem_append.1 ho with ho | ho
   ·exact .inl (dat_mem.2 ⟨o,ho,hg⟩)
   ·rw [List.mem_singleton] at ho; subst ho; exact .inr (Ek.lows h1 g hg))
end Gw
namespace Al
open Go.RowKit Ba Mem Go.Proofs.YtepfmfalebmcnaaGreatDoor.Ty
def askC (l:AskV):List Value:=[.int .i64 l.se,.int .i64 l.fl,.int .i64 l.fm,.int .i64 l.to,.int .i64 l.ma]
instance:Inhabited AskV:=⟨⟨0,0,0,0,0⟩⟩
set_option maxRecDepth 100000
section
variable {H:Type} {enc:TypeId×Value→H} {w:World} {base:Nat} {spare:Nat→Bool} {held:Bool}
end
end Al
namespace En
open Go.RowKit Ba Mem
def Ek.Rd {α:Type} (E:Ek α) (a:Option Addr) (n:Nat) (ls:Nat→α) (w:World):Prop :=
 n=0∨∃ b off,a=some ⟨b,off,none⟩∧b < w.heap.size∧∀ i,i < n→∀ j v,(E.c (ls i))[j]?=some v→w.cell? ⟨b,off+i*E.k+j,none⟩=some v
theorem upd_cell {T:List Nat} {w w':World} {b i:Nat} {v:Value} (k:Upd T w w') (hb:b < w.heap.size) (hT:b∉T) (h:w.cell? ⟨b,i,none⟩=some v):w'.cell? ⟨b,i,none⟩=some v:=by
 have:=k.block b hb hT
 unfold World.cell? at h ⊢
 rw [this]; exact h
def rdF (a:Option Addr) (n:Nat):List Nat:=match n with | 0=>[] | _+1=>blkOf a
def rdO {α:Type} (E:Ek α) (a:Option Addr) (n:Nat) (ls:Nat→α):Asr:=⟨rdF a n,false,E.Rd a n ls,fun k h hs=>by
 rcases hs with rfl | ⟨b,off,rfl,hb,hc⟩
 ·exact .inl rfl
 ·cases n with
  | zero=>exact .inl rfl
  | succ n=>exact .inr ⟨b,off,rfl,Nat.lt_of_lt_of_le hb k.size,fun i hi j v hj=>upd_cell k hb (h b (by simp [rdF,blkOf])) (hc i hi j v hj)⟩,fun h g hg=>by
 cases n with
 | zero=>cases hg
 | succ n =>
  rcases h with h | ⟨b,off,rfl,hb,hc⟩
  ·cases h
  ·have:g=b:=by simpa [rdF,blkOf] using hg
   omega⟩
theorem Ek.rd_addr {α:Type} {E:Ek α} {a:Option Addr} {n:Nat} {ls:Nat→α} {w:World} (h:E.Rd a n ls w):∃ b off,0 < n→a=some ⟨b,off,none⟩:=by
 rcases h with rfl | ⟨b,off,rfl,_⟩
 ·exact ⟨0,0,fun h=>by omega⟩
 ·exact ⟨b,off,fun _=>rfl⟩
theorem Ek.rd_rng {α:Type} {E:Ek α} {b off n k:Nat} {ls:Nat→α} {w:World} (h:E.Rd (some ⟨b,off,none⟩) n ls w) (hk:k < n):w.rangeAt b (off+k*E.k) (E.c (ls k)):=fun j v hj=>by
 rcases h with rfl | ⟨b',off',e,_,hc⟩
 ·omega
 ·cases e; exact hc k hk j v hj
end En
namespace Lc
open Go.RowKit Ba Mem En Go.Proofs.YtepfmfalebmcnaaGreatDoor.Ty
open Ri (MsgV)
structure KopV where
 k:Int
 a:Int
 b:Int
 q:AskV
 m:MsgV
instance:Inhabited KopV:=⟨⟨0,0,0,⟨0,0,0,0,0⟩,⟨0,0,0,0⟩⟩⟩
set_option maxRecDepth 100000
section
variable {H:Type} {enc:TypeId×Value→H} {w:World} {base:Nat} {spare:Nat→Bool} {held:Bool}
end
end Lc
namespace Lc
open Go.RowKit Ba Mem En Go.Proofs.YtepfmfalebmcnaaGreatDoor.Ty Mo Go.Proofs.YtepfmfalebmcnaaGreatDoor.St Co
open Ri (MsgV msgC)
open Gr (loadR loadG hallR hallG pressR pressG curtR curtG faultR faultG GI)
open Fl (leaE)
set_option maxRecDepth 100000
attribute [local irreducible] Go.Calls
def ldK (K:KV) (l:LeaseV) (v:Int):KV:={ K with G:=(loadR K.G l.ca v).1 }
def obStep (x:KV×List EvV) (l:LeaseV):KV×List EvV :=
 if l.ph=2 then (hearK (ldK x.1 l l.ma) l.se ⟨9,0,0,0⟩,x.2++evs l.se (hearM (ldK x.1 l l.ma) l.se ⟨9,0,0,0⟩))
 else if l.ph=4 then (hearK (ldK x.1 l 0) l.se ⟨13,0,0,0⟩,x.2++evs l.se (hearM (ldK x.1 l 0) l.se ⟨13,0,0,0⟩)) else x
def obF (K:KV) (k:Nat):KV×List EvV:=(K.L.take k).foldl obStep (K,[])
def obK (K:KV):KV:=(obF K K.L.length).1
theorem hearM_len (K:KV) (s:Int) (m:MsgV):(hearM K s m).length≤1:=by
 unfold hearM; split
 ·cases (hearR K (Le.ofL K.L s) m).2.1 <;> simp
 ·simp
theorem evs_len (s:Int) (ms:List MsgV):(evs s ms).length=ms.length:=by simp [evs]
section
variable {c:CfgV} {n T m:Nat} {K:KV}
theorem KI.ld (h:KI c n T m K) (l:LeaseV) (v:Int):KI c n T m (ldK K l v) :=
 ⟨h.g.load _ _,by show ∀ a∈(loadR K.G l.ca v).1.waits,_; rw [(Gr.load_w _ _).1]; exact h.s,by show 0≤(loadR K.G l.ca v).1.now∧(loadR K.G l.ca v).1.now≤_; rw [(Gr.load_w _ _).2]; exact h.now,h.lq,h.okq,h.ll,h.okl⟩
theorem KI.obS {x:KV×List EvV} (h:KI c n T m x.1) (l:LeaseV):KI c n T m (obStep x l).1:=by
 unfold obStep; split
 ·exact (KI.ld h l _).hear _ _
 ·split
  ·exact (KI.ld h l _).hear _ _
  ·exact h
theorem KI.ob (h:KI c n T m K) (k:Nat):KI c n T m (obF K k).1:=by
 have key:∀ (ls:List LeaseV) (x:KV×List EvV),KI c n T m x.1→KI c n T m (ls.foldl obStep x).1:=by
  intro ls
  induction ls with
  | nil=>intro x h; exact h
  | cons l r ih=>intro x h; rw [List.foldl_cons]; exact ih _ (KI.obS h l)
 exact key _ _ h
end
attribute [local irreducible] hearK hearM ldK evs
section
variable {lo q:Nat} {p:Pt} {K:KV} {S:List Nat} {w:World} {c:CfgV} {n T m:Nat}
attribute [local irreducible] loadR
end
end Lc
end Go.Proofs.YtepfmfalebmcnaaGreatDoor
