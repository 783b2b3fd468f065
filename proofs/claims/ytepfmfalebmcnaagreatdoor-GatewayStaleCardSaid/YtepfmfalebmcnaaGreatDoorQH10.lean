/-
  Wanted: part 10.
  No condition.
-/
import Derived.Test.YtepfmfalebmcnaaGreatDoorQH6
import Derived.Test.YtepfmfalebmcnaaGreatDoorQH8
import Derived.Test.YtepfmfalebmcnaaGreatDoorQH0
import Derived.Test.YtepfmfalebmcnaaGreatDoorQH9
import Derived.Test.YtepfmfalebmcnaaGreatDoorProg
import Derived.Laws.BitsAllLaws
set_option linter.all false
namespace Go.Proofs.YtepfmfalebmcnaaGreatDoor
namespace En
open Go.RowKit Ba Mem
theorem zip_map {α β:Type} (f:α→β) (xs:List α) (k:Nat):(((xs.zipIdx k).map fun x=>(x.2,x.1)).map fun (p:Nat×α)=>(p.1,f p.2))=((xs.map f).zipIdx k).map fun x=>(x.2,x.1):=by
 induction xs generalizing k with
 | nil=>rfl
 | cons x r ih=>simp only [List.zipIdx_cons,List.map_cons]; rw [ih]
theorem evs_of {m:List Row} {a:Act} {fr:List (Nat×SV)} (hf:FrOk m a.tmps fr):∀ {xs:List Operand} {vs:List SV},(xs.map fun x=>evO x fr)=vs.map some→xs.map a.eval=denL m vs
 | [],[],_=>rfl
 | [],_::_,h=>by cases h
 | _::_,[],h=>by cases h
 | x::xs,v::vs,h=>by
  simp only [List.map_cons,List.cons.injEq] at h
  rw [List.map_cons,(evO_of hf h.1).2,evs_of hf h.2]
  rfl
theorem one_flat {vs:List Value} (h:∀ v∈vs,v.cells=#[v]):vs.flatMap (fun v=>v.cells.toList)=vs:=by
 induction vs with
 | nil=>rfl
 | cons v r ih=>rw [List.flatMap_cons,h v (List.mem_cons_self ..),ih (fun u hu=>h u (List.mem_cons_of_mem _ hu))]; rfl
def bareS:SV→Bool
 | .i _ _=>true
 | .b _=>true
 | _=>false
theorem bare_den {m:List Row}:∀ {vs:List SV},vs.all bareS=true→∀ v∈denL m vs,v.cells=#[v]
 | [],_,v,h=>by cases h
 | x::r,h,v,hv=>by
  simp only [List.all_cons,Bool.and_eq_true] at h
  rcases List.mem_cons.1 hv with rfl | hv
  ·cases x <;> first | rfl | (exact absurd h.1 (by simp [bareS]))
  ·exact bare_den h.2 v hv
section
variable {X:Cx} {s:St} {o:Oper} {K:St→Prop} {t e:TypeId} {n:Nat} {parts:Array (Nat×Operand)}
theorem fill_n (hX:X.Ok) (xs:List Operand) (vs:List SV) (hp:parts.toList=(xs.zipIdx 0).map fun x=>(x.2,x.1)) (hx:(xs.map fun x=>evO x s.fr)=vs.map some) (hl:Nat.beq vs.length n=true) (h0:(Nat.ble 1 n && Nat.ble n 1000)=true) (hb:vs.all bareS=true)
  (ht:(match tyO t X.tab with | some y=>y.sl && Nat.beq y.el e | none=>false)=true) (hn:(match tyO e X.tab with | some y=>Nat.beq y.size 1 && !y.row | none=>false)=true) :
  ∃ (ie:TypeInfo) (z:Value),X.P.underlying t=some (.slice e)∧X.P.info? e=some ie∧ie.zero=some z∧¬ n*ie.size > 2 ^ 24∧¬ n*ie.size=0∧∀ a:Act,FrOk s.m a.tmps s.fr→Instr.fill (fun i=>some (i*ie.size,ie.size)) ((Array.range (n*ie.size)).map (z.cells[· % z.cells.size]!)) (parts.map fun (i,x)=>(i,a.eval x)).toList=some (denL s.m vs).toArray:=by
 have hl:=Nat.eq_of_beq_eq_true hl
 simp only [Bool.and_eq_true] at h0
 have h1:=Nat.le_of_ble_eq_true h0.1
 have h2:=Nat.le_of_ble_eq_true h0.2
 cases hy:tyO t X.tab with
 | none=>simp [hy] at ht
 | some y =>
  cases hz:tyO e X.tab with
  | none=>simp [hz] at hn
  | some z =>
   simp only [hy,hz,Bool.and_eq_true] at ht hn
   obtain ⟨d,i,T⟩:=(hX.tab _ _ hy).out
   obtain ⟨d',i',T'⟩:=(hX.tab _ _ hz).out
   have hel:=Nat.eq_of_beq_eq_true ht.2
   have hsz:=Nat.eq_of_beq_eq_true hn.1
   have h3:i'.size=1:=by rw [T'.size,hsz]
   refine ⟨i',_,by rw [T.un,T.sl ht.1,hel],T'.inf,T'.zero,by rw [h3]; omega,by rw [h3]; omega,fun a hf=>?_⟩
   have he:=evs_of hf hx
   have hbd:=bare_den (m:=s.m) hb
   have:=Go.Great.fill_whole (s:=i'.size) (by omega) (denL s.m vs) ((Array.range (n*i'.size)).map ((zeroV z).cells[· % (zeroV z).cells.size]!)) (by intro u hu; rw [hbd u hu,h3]; rfl) (by rw [denL_len,hl]; simp)
   rw [one_flat hbd,← he,← zip_map a.eval xs 0,← hp] at this
   rw [← he]
   simpa using this
theorem opbn (hX:X.Ok) (e:TypeId) (xs:List Operand) (vs:List SV) (ho:o.op=.buildSlice t n parts) (hp:parts.toList=(xs.zipIdx 0).map fun x=>(x.2,x.1)) (hx:(xs.map fun x=>evO x s.fr)=vs.map some)
  (h:nw s e vs fun j s'=>put X.n o.dst (.s j 0 n n) s' K) (hl:Nat.beq vs.length n=true:=by rfl) (h0:(Nat.ble 1 n && Nat.ble n 1000)=true:=by rfl) (hb:vs.all bareS=true:=by rfl)
  (ht:(match tyO t X.tab with | some y=>y.sl && Nat.beq y.el e | none=>false)=true:=by rfl) (hn:(match tyO e X.tab with | some y=>Nat.beq y.size 1 && !y.row | none=>false)=true:=by rfl) (hc:okL s.m.length vs=true:=by rfl):OpVC X o s K:=by
 obtain ⟨ie,z,a1,a2,a3,a4,a5,a6⟩:=fill_n hX xs vs hp hx hl h0 hb ht hn
 exact opbs vs ho a1 a2 a3 a4 a5 a6 h hc
theorem opbo (hX:X.Ok) {α:Type} (E:Ek α) (ls:List α) (xs:List Operand) (vs:List SV) (ho:o.op=.buildSlice t n parts) (hp:parts.toList=(xs.zipIdx 0).map fun x=>(x.2,x.1)) (hx:(xs.map fun x=>evO x s.fr)=vs.map some) (hd:denL s.m vs=rowsOf E.c ls) (hE:E.k=1)
  (h:∀ g:Nat,appO s.ob (rwO E X.w0.heap.size (some ⟨g,0,none⟩) n n ls true) fun ob=>put X.n o.dst (.v (.slice (some ⟨g,0,none⟩) n n)) ⟨s.fr,s.m,ob⟩ K) (hl:Nat.beq vs.length n=true:=by rfl) (h0:(Nat.ble 1 n && Nat.ble n 1000)=true:=by rfl) (hb:vs.all bareS=true:=by rfl)
  (ht:(match tyO t X.tab with | some y=>y.sl && Nat.beq y.el E.t | none=>false)=true:=by rfl) (hn:(match tyO E.t X.tab with | some y=>Nat.beq y.size 1 && !y.row | none=>false)=true:=by rfl) (hc:okL s.m.length vs=true:=by rfl):OpVC X o s K:=⟨fun a w Q hR=>by
 obtain ⟨ie,z,a1,a2,a3,a4,a5,a6⟩:=fill_n hX xs vs hp hx hl h0 hb ht hn
 have hl:=Nat.eq_of_beq_eq_true hl
 simp only [Bool.and_eq_true] at h0
 have h2:=Nat.le_of_ble_eq_true h0.2
 have hlen:(denL s.m vs).length=n:=by rw [denL_len]; exact hl
 have hst:(rwO E X.w0.heap.size (some ⟨w.heap.size,0,none⟩) n n ls true).st (w.alloc (.cells (denL s.m vs).toArray E.t)):=by
  refine ⟨by rw [← hd,hlen,hE]; omega,.inr ⟨w.heap.size,n,(denL s.m vs).toArray,rfl,hR.h.upd.size,Blk.new _ _ _,Nat.le_refl _,by unfold maxLen; omega,by rw [hE]; simp [hlen], ?_⟩⟩
  rw [← hd]
  exact List.take_of_length_le (by rw [hE]; simp [hlen])
 have hH:=hR.h.obj_new (B:=rwO E X.w0.heap.size (some ⟨w.heap.size,0,none⟩) n n ls true) hst ((Since.refl w).alloc _) (by intro g hg; simp only [rwO,blkOf,List.mem_singleton] at hg; omega)
 obtain ⟨s',r1,r2,r3,r4⟩:=put_of (a:=a) (s:=⟨s.fr,s.m,s.ob++[rwO E X.w0.heap.size (some ⟨w.heap.size,0,none⟩) n n ls true]⟩) (v:=.v (.slice (some ⟨w.heap.size,0,none⟩) n n)) hR.ds hR.sz hR.fr hH rfl (appO_of (h w.heap.size))
 refine wp_buildSlice t E.t n parts ho _ ie z a1 a2 a3 a4 a5 (a6 a hR.fr) ⟨s', ?_,by rw [r2]; exact Ext.refl _,r4⟩
 exact r1⟩
theorem ss_run (hX:X.Ok) {y y2:Ty} {x a1 a2:Operand} {j f len cap l h1:Nat} {k1 k2:IntKind} {L H:Int} {r:Row} {m:List Row} {fr:List (Nat×SV)} (ho:o.op=.slice t x (some a1) (some a2) none) (hx:evO x fr=some (.s j f len cap)) (h2:evO a1 fr=some (.i k1 L)) (h3:evO a2 fr=some (.i k2 H)) (hr:m[j]?=some r) (hy:tyO t X.tab=some y) (hs:y.sl=true) (he:tyO y.el X.tab=some y2)
  (hb:(L=l∧H=h1)∧l≤h1∧h1≤cap) (hc:l < cap) (a:Act) (hf:FrOk m a.tmps fr) (w:World):(execOp a.eval o).run X.P w=.ok (.value (den m (.s j (f+l*y2.size) (h1 - l) (cap - l)))) w:=by
 obtain ⟨d,i,T⟩:=(hX.tab _ _ hy).out
 obtain ⟨d',i',T'⟩:=(hX.tab _ _ he).out
 have ev:=(evO_of hf hx).2
 simp only [den,hr] at ev ⊢
 refine exec_slice (s:=y2.size) t y.el x (some a1) (some a2) none ho ev (by rw [T.un,T.sl hs]) (by rw [T'.inf]; simp [T'.size]) ?_ (by rw [if_neg (by omega)]; simp only [Option.map,Go.WideShapes.add_plain]; rw [Nat.add_assoc]) rfl rfl
 have e1:=(evO_of hf h2).2
 have e2:=(evO_of hf h3).2
 simp only [Option.map,e1,e2,den]
 exact sb_lh w k1 k2 hb.1.1 hb.1.2 hb.2.1 hb.2.2
theorem puss (hX:X.Ok) {K:SV→Prop} {y y2:Ty} {x a1 a2:Operand} {j f len cap:Nat} (l h1:Nat) {k1 k2:IntKind} {L H:Int} {r:Row} (ho:o.op=.slice t x (some a1) (some a2) none) (hx:evO x s.fr=some (.s j f len cap)) (h2:evO a1 s.fr=some (.i k1 L)) (h3:evO a2 s.fr=some (.i k2 H)) (hr:s.m[j]?=some r) (hy:tyO t X.tab=some y) (hs:y.sl=true) (he:tyO y.el X.tab=some y2)
  (hb:(L=l∧H=h1)∧l≤h1∧h1≤cap) (hc:l < cap) (h:K (.s j (f+l*y2.size) (h1 - l) (cap - l))):PuVC X o s K :=
 ⟨⟨_,by simp [okV,Nat.blt_eq,(List.getElem?_eq_some_iff.1 hr).1],fun a hf w=>ss_run hX ho hx h2 h3 hr hy hs he hb hc a hf w,h⟩⟩
end
def byteE:Ek Int:=⟨5,1,fun z=>[.int .u8 z],fun _=>rfl,fun a u hu=>by rw [List.mem_singleton] at hu; subst hu; rfl⟩
theorem rows_cells (zs:List Int):rowsOf byteE.c zs=Byt.cells zs:=by
 induction zs with
 | nil=>rfl
 | cons z r ih=>show (byteE.c z)++rowsOf byteE.c r=_; rw [ih]; rfl
theorem byte_own {w:World} {lo n c:Nat} {A:Option Addr} {zs:List Int}:byteE.At lo A n c zs w↔w.ownsRow lo 5 1 (.slice A n c) n (Byt.cells zs):=by unfold Ek.At; rw [rows_cells]; exact Iff.rfl
theorem u8_wrap (n:Int):IntKind.u8.wrap n=n % 256:=by simp [IntKind.wrap,IntKind.bits,IntKind.signed]
theorem u8_s8 (n:Int):IntKind.u8.wrap (n.fdiv (2 ^ min ((8:Int).toNat) IntKind.i64.bits))=n / 256 % 256:=by
 rw [u8_wrap,show (2:Int) ^ min ((8:Int).toNat) IntKind.i64.bits=256 from by decide,Int.fdiv_eq_ediv_of_nonneg _ (by decide)]
theorem u8_s16 (n:Int):IntKind.u8.wrap (n.fdiv (2 ^ min ((16:Int).toNat) IntKind.i64.bits))=n / 65536 % 256:=by
 rw [u8_wrap,show (2:Int) ^ min ((16:Int).toNat) IntKind.i64.bits=65536 from by decide,Int.fdiv_eq_ediv_of_nonneg _ (by decide)]
theorem u8_s24 (n:Int):IntKind.u8.wrap (n.fdiv (2 ^ min ((24:Int).toNat) IntKind.i64.bits))=n / 16777216 % 256:=by
 rw [u8_wrap,show (2:Int) ^ min ((24:Int).toNat) IntKind.i64.bits=16777216 from by decide,Int.fdiv_eq_ediv_of_nonneg _ (by decide)]
end En
namespace En
open Go.RowKit Ba Mem
section
variable {X:Cx} {s:St} {o:Oper}
theorem nv_run {m:List Row} {fr:List (Nat×SV)} {x:Operand} {ad:Addr} (ho:o.op=.nilCheck x) (hx:evO x fr=some (.v (.pointer (some ad)))) (a:Act) (hf:FrOk m a.tmps fr) (w:World):(execOp a.eval o).run X.P w=.ok (.value (.pointer (some ad))) w:=by
 have h2:=(evO_of hf hx).2
 unfold execOp
 simp only [ho,h2,den]
 first | rfl | simp [Sem.run_bind,Sem.run_pure]
theorem opnv {K:St→Prop} {x:Operand} {ad:Addr} (ho:o.op=.nilCheck x) (hx:evO x s.fr=some (.v (.pointer (some ad)))) (h:put X.n o.dst (.v (.pointer (some ad))) s K):OpVC X o s K :=
 opq (.v (.pointer (some ad))) (fun a w hf _=>nv_run ho hx a hf w) h rfl
theorem punv {K:SV→Prop} {x:Operand} {ad:Addr} (ho:o.op=.nilCheck x) (hx:evO x s.fr=some (.v (.pointer (some ad)))) (h:K (.v (.pointer (some ad)))):PuVC X o s K :=
 ⟨⟨.v (.pointer (some ad)),rfl,fun a hf w=>nv_run ho hx a hf w,h⟩⟩
theorem opsv (hX:X.Ok) (i:Nat) {A:Asr} (B:Asr) {K:St→Prop} {ty T:TypeId} {x y:Operand} {g off:Nat} {ad:Addr} {v:SV} {cs cs':Array Value} (ho:o.op=.store ty x y) (hx:evO x s.fr=some (.v (.pointer (some ad)))) (had:ad=⟨g,off,none⟩) (hy:evO y s.fr=some v) (hA:s.ob[i]?=some A) (hrw:A.rw=true) (hblk:∀ w,A.st w→Blk w g T cs) (hlt:off < cs.size) (hcs:cs.setIfInBounds off (den s.m v)=cs')
  (hst:∀ w w',A.st w→Blk w' g T cs'→Upd [g] w w'→B.st w') (hg:g∈A.F) (hF:∀ g∈B.F,g∈A.F) (h:setO i B s.ob fun ob=>put X.n o.dst (.v undef) ⟨s.fr,s.m,ob⟩ K) (hn:(match tyO ty X.tab with | some z=>Nat.beq z.size 1 | none=>false)=true:=by rfl) (h1:oneS v=true:=by rfl) (hv:okV s.m.length v=true:=by rfl):OpVC X o s K:=⟨fun a w Q hR=>by
 subst had
 cases hz:tyO ty X.tab with
 | none=>simp [hz] at hn
 | some z =>
  simp only [hz] at hn
  obtain ⟨d,inf,T⟩:=(hX.tab _ _ hz).out
  have hs:=hR.h.obj A (List.mem_of_getElem? hA)
  have hb:=hblk w hs
  refine wp_st_cell ty x y ho cs' (den s.m v) (by rw [(evO_of hR.fr hx).2]; rfl) (by rw [(evO_of hR.fr hy).2]) hb hlt hcs (oneS_den hv h1) (by rw [T.inf]; simp [T.size,Nat.eq_of_beq_eq_true hn]) (fun w' hw=>?_)
  subst hw
  have hu:Upd [g] w (w.setRow g cs'):=(Upd.refl _ w).setRow (.inl (by simp)) cs'
  have hb2:=Blk.row hb cs'
  have hH:=hR.h.obj_set (B:=B) hA hrw (hst w _ hs hb2 hu) (hu.mono (fun k hk _=>by rw [List.mem_singleton] at hk; subst hk; exact hg)) (fun k hk=>.inl (hF k hk))
  obtain ⟨s',r1,r2,r3,r4⟩:=put_of (a:=a) (s:=⟨s.fr,s.m,s.ob.set i B⟩) (v:=.v undef) hR.ds hR.sz hR.fr hH rfl (setO_of h)
  exact ⟨s',r1,by rw [r2]; exact Ext.refl _,r4⟩⟩
end
end En
namespace Gw
open Go.RowKit Ba Mem En Go.Proofs.YtepfmfalebmcnaaGreatDoor.Ty Mp
open Ri (MsgV)
open Ln (LkV LO)
set_option maxRecDepth 100000
structure SeV where
 k:LkV
 ls:List MsgV
 h:MsgV
 hd:Bool
structure SeD where
 b:Nat
 q:Nat
 S:List Nat
 v:SeV
abbrev Fam:=Int→Option SeD
def seC (d:SeD):Array Value:=#[.pointer (some ⟨d.q,0,none⟩),.int .i64 d.v.h.ki,.int .i64 d.v.h.a,.int .i64 d.v.h.b,.int .i64 d.v.h.c,.bool d.v.hd]
def SeO (lo:Nat) (d:SeD) (w:World):Prop:=lo≤d.b∧Blk w d.b 103 (seC d)∧LO lo d.q d.v.k d.v.ls d.S w∧d.b∉d.S
def blS (d:SeD):List Nat:=d.b::d.S
def famS (D:Fam):List Nat:=(List.range 64).flatMap fun (k:Nat)=>match D (k:Int) with | some d=>blS d | none=>[]
def ptrs (D:Fam):Int→Option Value:=fun i=>(D i).map fun d=>.pointer (some ⟨d.b,0,none⟩)
structure FO (lo mb M:Nat) (D:Fam) (w:World):Prop where
 h0:lo≤mb
 mp:MapF Tryz.prog 3 w mb M (ptrs D)
 at_:∀ i d,D i=some d→(0≤i∧i < 64)∧SeO lo d w
 ne:∀ i j d e,D i=some d→D j=some e→i≠j→∀ g∈blS d,g∉blS e
 far:∀ i d,D i=some d→mb∉blS d
theorem fam_mem {D:Fam} {g:Nat}:g∈famS D↔∃ k:Nat,k < 64∧∃ d,D k=some d∧g∈blS d:=by
 unfold famS
 rw [List.mem_flatMap]
 constructor
 ·rintro ⟨k,hk,hg⟩
  cases hd:D k with
  | none=>rw [hd] at hg; cases hg
  | some d=>rw [hd] at hg; exact ⟨k,List.mem_range.1 hk,d,hd,hg⟩
 ·rintro ⟨k,hk,d,hd,hg⟩
  exact ⟨k,List.mem_range.2 hk,by rw [hd]; exact hg⟩
theorem fam_at {D:Fam} {i:Int} {d:SeD} (hd:D i=some d) (hi:0≤i∧i < 64) {g:Nat} (hg:g∈blS d):g∈famS D :=
 fam_mem.2 ⟨i.toNat,by omega,d,by rw [Int.toNat_of_nonneg hi.1]; exact hd,hg⟩
section
variable {lo lo' mb M:Nat} {D:Fam} {w w':World} {T:List Nat} {d:SeD}
theorem SeO.upd (u:Upd T w w') (h:SeO lo d w) (hT:∀ g∈blS d,g∉T):SeO lo d w' :=
 ⟨h.1,u.blk h.2.1 (hT _ (List.mem_cons_self ..)),h.2.2.1.upd u (fun g hg=>hT g (List.mem_cons_of_mem _ hg)),h.2.2.2⟩
theorem SeO.lt (h:SeO lo d w):∀ g∈blS d,g < w.heap.size:=by
 intro g hg
 rcases List.mem_cons.1 hg with rfl | hg
 ·exact h.2.1.lt
 ·exact h.2.2.1.lt g hg
theorem SeO.low (h:SeO lo d w):∀ g∈blS d,lo≤g:=by
 intro g hg
 rcases List.mem_cons.1 hg with rfl | hg
 ·exact h.1
 ·exact h.2.2.1.low g hg
theorem FO.upd (u:Upd T w w') (h:FO lo mb M D w) (hT:∀ g∈mb::famS D,g∉T):FO lo mb M D w' :=
 ⟨h.h0,h.mp.upd u (hT _ (List.mem_cons_self ..)),fun i d hd=>⟨(h.at_ i d hd).1,(h.at_ i d hd).2.upd u (fun g hg=>hT g (List.mem_cons_of_mem _ (fam_at hd (h.at_ i d hd).1 hg)))⟩,h.ne,h.far⟩
theorem FO.lt (h:FO lo mb M D w):∀ g∈mb::famS D,g < w.heap.size:=by
 intro g hg
 rcases List.mem_cons.1 hg with rfl | hg
 ·exact h.mp.lt
 ·obtain ⟨k,_,d,hd,hg⟩:=fam_mem.1 hg
  exact (h.at_ _ d hd).2.lt g hg
theorem FO.low (h:FO lo mb M D w):∀ g∈mb::famS D,lo≤g:=by
 intro g hg
 rcases List.mem_cons.1 hg with rfl | hg
 ·exact h.h0
 ·obtain ⟨k,_,d,hd,hg⟩:=fam_mem.1 hg
  exact (h.at_ _ d hd).2.low g hg
end
def setD (D:Fam) (i:Int) (x:Option SeD):Fam:=fun j=>if j=i then x else D j
theorem setD_at (D:Fam) (i:Int) (x:Option SeD):setD D i x i=x:=by unfold setD; rw [if_pos rfl]
theorem setD_ne {D:Fam} {i j:Int} {x:Option SeD} (h:j≠i):setD D i x j=D j:=by unfold setD; rw [if_neg h]
section
variable {lo mb M:Nat} {D:Fam} {w w':World} {i:Int} {d d':SeD}
theorem FO.set (h:FO lo mb M D w) (hd:D i=some d) (hb:d'.b=d.b) (u:Upd (blS d) w w') (hs:SeO lo d' w') (hn:∀ g∈blS d',g∈blS d∨w.heap.size≤g):FO lo mb M (setD D i (some d')) w':=by
 have hi:=(h.at_ i d hd).1
 have far:∀ j e,D j=some e→j≠i→∀ g∈blS d',g∉blS e:=fun j e he hj g hg hge=>by
  rcases hn g hg with hg | hg
  ·exact h.ne i j d e hd he (Ne.symm hj) g hg hge
  ·have:=(h.at_ j e he).2.lt g hge; omega
 have hp:ptrs (setD D i (some d'))=ptrs D:=by
  funext j
  unfold ptrs
  by_cases hj:j=i
  ·subst hj; rw [setD_at,hd]; simp [hb]
  ·rw [setD_ne hj]
 refine ⟨h.h0,by rw [hp]; exact h.mp.upd u (h.far i d hd),fun j e he=>?_,fun j k e f he hf hne=>?_,fun j e he=>?_⟩
 ·by_cases hj:j=i
  ·subst hj; rw [setD_at] at he; cases he; exact ⟨hi,hs⟩
  ·rw [setD_ne hj] at he
   exact ⟨(h.at_ j e he).1,(h.at_ j e he).2.upd u (fun g hg hgd=>h.ne j i e d he hd hj g hg hgd)⟩
 ·by_cases hj:j=i
  ·subst hj
   rw [setD_at] at he; cases he
   rw [setD_ne (Ne.symm hne)] at hf
   exact far k f hf (Ne.symm hne)
  ·rw [setD_ne hj] at he
   by_cases hk:k=i
   ·subst hk
    rw [setD_at] at hf; cases hf
    exact fun g hg hgd=>far j e he hj g hgd hg
   ·rw [setD_ne hk] at hf
    exact h.ne j k e f he hf hne
 ·by_cases hj:j=i
  ·subst hj; rw [setD_at] at he; cases he
   intro hm
   rcases hn _ hm with hm | hm
   ·exact h.far j d hd hm
   ·have:=h.mp.lt; omega
  ·rw [setD_ne hj] at he; exact h.far j e he
theorem fam_set (hd:D i=some d) (hi:0≤i∧i < 64) (hn:∀ g∈blS d',g∈blS d∨w.heap.size≤g):∀ g∈mb::famS (setD D i (some d')),g∈mb::famS D∨w.heap.size≤g:=by
 intro g hg
 rcases List.mem_cons.1 hg with rfl | hg
 ·exact .inl (List.mem_cons_self ..)
 ·obtain ⟨k,hk,e,he,hg⟩:=fam_mem.1 hg
  by_cases hj:(k:Int)=i
  ·rw [hj,setD_at] at he; cases he
   exact (hn g hg).imp (fun hg=>List.mem_cons_of_mem _ (fam_at hd hi hg)) id
  ·rw [setD_ne hj] at he
   exact .inl (List.mem_cons_of_mem _ (fam_mem.2 ⟨k,hk,e,he,hg⟩))
theorem FO.del (h:FO lo mb M D w) (hm:MapF Tryz.prog 3 w' mb M (Mp.setK (ptrs D) i none)) (u:Upd [mb] w w'):FO lo mb M (setD D i none) w':=by
 have hp:ptrs (setD D i none)=Mp.setK (ptrs D) i none:=by
  funext j
  unfold ptrs setD Mp.setK
  by_cases hj:j=i
  ·rw [if_pos hj,if_pos hj]; rfl
  ·rw [if_neg hj,if_neg hj]
 have sub:∀ j e,setD D i none j=some e→D j=some e:=fun j e he=>by
  by_cases hj:j=i
  ·subst hj; rw [setD_at] at he; cases he
  ·rwa [setD_ne hj] at he
 exact ⟨h.h0,by rw [hp]; exact hm,fun j e he=>⟨(h.at_ j e (sub j e he)).1,(h.at_ j e (sub j e he)).2.upd u (fun g hg hgm=>by rw [List.mem_singleton] at hgm; subst hgm; exact h.far j e (sub j e he) hg)⟩,fun j k e f he hf=>h.ne j k e f (sub j e he) (sub k f hf),fun j e he=>h.far j e (sub j e he)⟩
theorem fam_del:∀ g∈mb::famS (setD D i none),g∈mb::famS D:=by
 intro g hg
 rcases List.mem_cons.1 hg with rfl | hg
 ·exact List.mem_cons_self ..
 ·obtain ⟨k,hk,e,he,hg⟩:=fam_mem.1 hg
  by_cases hj:(k:Int)=i
  ·rw [hj,setD_at] at he; cases he
  ·rw [setD_ne hj] at he
   exact List.mem_cons_of_mem _ (fam_mem.2 ⟨k,hk,e,he,hg⟩)
theorem FO.add (h:FO lo mb M D w) (hi:0≤i∧i < 64) (hs:SeO lo d' w) (hf:∀ g∈blS d',g∉mb::famS D) (hm:MapF Tryz.prog 3 w' mb (M+1) (Mp.setK (ptrs D) i (some (.pointer (some ⟨d'.b,0,none⟩))))) (u:Upd [mb] w w'):FO lo mb (M+1) (setD D i (some d')) w':=by
 have hp:ptrs (setD D i (some d'))=Mp.setK (ptrs D) i (some (.pointer (some ⟨d'.b,0,none⟩))):=by
  funext j
  unfold ptrs setD Mp.setK
  by_cases hj:j=i
  ·rw [if_pos hj,if_pos hj]; rfl
  ·rw [if_neg hj,if_neg hj]
 have up:∀ e,SeO lo e w→mb∉blS e→SeO lo e w':=fun e he hne=>he.upd u (fun g hg hgm=>by rw [List.mem_singleton] at hgm; subst hgm; exact hne hg)
 have hmb:mb∉blS d':=fun hm=>hf _ hm (List.mem_cons_self ..)
 refine ⟨h.h0,by rw [hp]; exact hm,fun j e he=>?_,fun j k e f he hf' hne=>?_,fun j e he=>?_⟩
 ·by_cases hj:j=i
  ·subst hj; rw [setD_at] at he; cases he; exact ⟨hi,up _ hs hmb⟩
  ·rw [setD_ne hj] at he; exact ⟨(h.at_ j e he).1,up _ (h.at_ j e he).2 (h.far j e he)⟩
 ·by_cases hj:j=i
  ·subst hj; rw [setD_at] at he; cases he
   rw [setD_ne (Ne.symm hne)] at hf'
   exact fun g hg hgf=>hf g hg (List.mem_cons_of_mem _ (fam_at hf' (h.at_ k f hf').1 hgf))
  ·rw [setD_ne hj] at he
   by_cases hk:k=i
   ·subst hk; rw [setD_at] at hf'; cases hf'
    exact fun g hg hgf=>hf g hgf (List.mem_cons_of_mem _ (fam_at he (h.at_ j e he).1 hg))
   ·rw [setD_ne hk] at hf'; exact h.ne j k e f he hf' hne
 ·by_cases hj:j=i
  ·subst hj; rw [setD_at] at he; cases he; exact hmb
  ·rw [setD_ne hj] at he; exact h.far j e he
theorem fam_add:∀ g∈mb::famS (setD D i (some d')),g∈mb::famS D∨g∈blS d':=by
 intro g hg
 rcases List.mem_cons.1 hg with rfl | hg
 ·exact .inl (List.mem_cons_self ..)
 ·obtain ⟨k,hk,e,he,hg⟩:=fam_mem.1 hg
  by_cases hj:(k:Int)=i
  ·rw [hj,setD_at] at he; cases he; exact .inr hg
  ·rw [setD_ne hj] at he
   exact .inl (List.mem_cons_of_mem _ (fam_mem.2 ⟨k,hk,e,he,hg⟩))
variable {F:FuncId} {args:Array Value} {V:Value} {k':LkV} {ls':List MsgV}
theorem FO.link (h:FO lo mb M D w) (hd:D i=some d) (hc:LO lo d.q d.v.k d.v.ls d.S w→Calls Tryz.prog F args w fun e w'=>e=.returned V∧∃ S',LO lo d.q k' ls' S' w'∧Upd d.S w w'∧∀ g∈S',g∈d.S∨w.heap.size≤g) :
  Calls Tryz.prog F args w fun e w'=>∃ S':List Nat,e=.returned V∧FO lo mb M (setD D i (some ⟨d.b,d.q,S',⟨k',ls',d.v.h,d.v.hd⟩⟩)) w'∧Upd (mb::famS D) w w'∧∀ g∈mb::famS (setD D i (some ⟨d.b,d.q,S',⟨k',ls',d.v.h,d.v.hd⟩⟩)),g∈mb::famS D∨w.heap.size≤g:=by
 obtain ⟨hi,hs⟩:=h.at_ i d hd
 refine (hc hs.2.2.1).mono ?_
 rintro e w' ⟨rfl,S',h1,h2,h3⟩
 have hn:∀ g∈d.b::S',g∈blS d∨w.heap.size≤g:=fun g hg=>by
  rcases List.mem_cons.1 hg with rfl | hg
  ·exact .inl (List.mem_cons_self ..)
  ·exact (h3 g hg).imp (List.mem_cons_of_mem _) id
 have hbS:d.b∉S':=fun hm=>by
  rcases h3 _ hm with hm | hm
  ·exact hs.2.2.2 hm
  ·have:=hs.2.1.lt; omega
 refine ⟨S',rfl,h.set (d':=⟨d.b,d.q,S',⟨k',ls',d.v.h,d.v.hd⟩⟩) hd rfl (h2.mono (fun g hg _=>List.mem_cons_of_mem _ hg)) ⟨hs.1,h2.blk hs.2.1 hs.2.2.2,h1,hbS⟩ hn,h2.mono (fun g hg _=>List.mem_cons_of_mem _ (fam_at hd hi (List.mem_cons_of_mem _ hg))),fam_set hd hi hn⟩
theorem FO.look (h:FO lo mb M D w) (hd:D i=some d):∃ A c,Blk w d.q 136 (Ln.lkC d.v.k (.slice A d.v.ls.length c)):=by
 obtain ⟨_,A,c,_,B,_⟩:=(h.at_ i d hd).2.2.2.1
 exact ⟨A,c,B⟩
theorem FO.cell (h:FO lo mb M D w) (hd:D i=some d):w.rangeAt d.b 0 [.pointer (some ⟨d.q,0,none⟩)]:=range_of (h.at_ i d hd).2.2.1 (n:=1) rfl rfl
theorem FO.hel (h:FO lo mb M D w) (hd:D i=some d):w.rangeAt d.b 1 [.int .i64 d.v.h.ki,.int .i64 d.v.h.a,.int .i64 d.v.h.b,.int .i64 d.v.h.c]:=range_of (h.at_ i d hd).2.2.1 (n:=4) rfl rfl
theorem FO.hrd (h:FO lo mb M D w) (hd:D i=some d):w.rangeAt d.b 5 [.bool d.v.hd]:=range_of (h.at_ i d hd).2.2.1 (n:=1) rfl rfl
end
end Gw
namespace Gw
open Go.RowKit Ba Mem En Go.Proofs.YtepfmfalebmcnaaGreatDoor.Ty Mp
open Ri (MsgV)
open Ln (LkV LO winV)
open Co (KV Pt KW goneK goneW groupK Nr NrA evE EvV evC Hold.ob)
set_option maxRecDepth 100000
attribute [local irreducible] Go.Calls
theorem wf_small {I:Int} (h:0≤I∧I < 64):(Lit.int .i64 I).wf=true:=by
 have h1:IntKind.i64.min = -9223372036854775808:=by decide
 have h2:IntKind.i64.max=9223372036854775807:=by decide
 simp [Lit.wf]; omega
structure KG (lo q:Nat) (p:Pt) (mb M:Nat) (K:KV) (Sk:List Nat) (D:Fam) (w:World):Prop where
 k:KW lo q p K Sk w
 f:FO lo mb M D w
 far:∀ g∈Sk,g∉mb::famS D
def kgF (mb:Nat) (Sk:List Nat) (D:Fam):List Nat:=Sk++mb::famS D
section
variable {lo q mb M:Nat} {p:Pt} {K K':KV} {Sk T:List Nat} {D:Fam} {w w':World} {i:Int} {d:SeD}
theorem KG.upd (u:Upd T w w') (h:KG lo q p mb M K Sk D w) (hT:∀ g∈kgF mb Sk D,g∉T):KG lo q p mb M K Sk D w' :=
 ⟨h.k.upd u (fun g hg=>hT g (List.mem_append.2 (.inl hg))),h.f.upd u (fun g hg=>hT g (List.mem_append.2 (.inr hg))),h.far⟩
theorem KG.lt (h:KG lo q p mb M K Sk D w):∀ g∈kgF mb Sk D,g < w.heap.size:=fun g hg=>by
 rcases List.mem_append.1 hg with hg | hg
 ·exact h.k.lt g hg
 ·exact h.f.lt g hg
end
def kgO (lo q:Nat) (p:Pt) (mb M:Nat) (K:KV) (Sk:List Nat) (D:Fam) (rw:Bool):Asr:=⟨kgF mb Sk D,rw,KG lo q p mb M K Sk D,fun u hd h=>h.upd u hd,fun h=>h.lt⟩
section
variable {lo q mb M:Nat} {p:Pt} {K K':KV} {Sk T:List Nat} {D:Fam} {w w':World} {i:Int} {d:SeD} {F:FuncId} {args:Array Value} {V:Value}
theorem KG.core (h:KG lo q p mb M K Sk D w) (hc:KW lo q p K Sk w→Calls Tryz.prog F args w fun e w'=>∃ S',e=.returned V∧KW lo q p K' S' w'∧Upd Sk w w'∧∀ g∈S',g∈Sk∨w.heap.size≤g) :
  Calls Tryz.prog F args w fun e w'=>∃ S',e=.returned V∧KG lo q p mb M K' S' D w'∧Upd (kgF mb Sk D) w w'∧∀ g∈kgF mb S' D,g∈kgF mb Sk D∨w.heap.size≤g:=by
 refine (hc h.k).mono ?_
 rintro e w' ⟨S',rfl,h1,h2,h3⟩
 refine ⟨S',rfl,⟨h1,h.f.upd h2 (fun g hg hgS=>h.far g hgS hg),fun g hg hgm=>?_⟩,h2.mono (fun g hg _=>List.mem_append.2 (.inl hg)),fun g hg=>?_⟩
 ·rcases h3 g hg with hg | hg
  ·exact h.far g hg hgm
  ·have:=h.f.lt g hgm; omega
 ·rcases List.mem_append.1 hg with hg | hg
  ·exact (h3 g hg).imp (fun hg=>List.mem_append.2 (.inl hg)) id
  ·exact .inl (List.mem_append.2 (.inr hg))
theorem KG.coreE {n:Nat} {es:List EvV} (h:KG lo q p mb M K Sk D w) (hc:KW lo q p K Sk w→Calls Tryz.prog F args w fun e w'=>∃ x:List Nat×Nr,e=.returned (.slice x.2.2.1 n x.2.2.2)∧KW lo q p K' x.1 w'∧(rwO evE x.2.1 x.2.2.1 n x.2.2.2 es true).st w'∧Upd Sk w w'∧(∀ g∈x.1,g∈Sk∨w.heap.size≤g)∧∀ g∈blkOf x.2.2.1,w.heap.size≤g∧g∉x.1) :
  Calls Tryz.prog F args w fun e w'=>∃ x:List Nat×Nr,e=.returned (.slice x.2.2.1 n x.2.2.2)∧KG lo q p mb M K' x.1 D w'∧(rwO evE x.2.1 x.2.2.1 n x.2.2.2 es true).st w'∧Upd (kgF mb Sk D) w w'∧(∀ g∈kgF mb x.1 D,g∈kgF mb Sk D∨w.heap.size≤g)∧∀ g∈blkOf x.2.2.1,w.heap.size≤g∧g∉kgF mb x.1 D:=by
 refine (hc h.k).mono ?_
 rintro e w' ⟨x,rfl,h1,ho,h2,h3,h4⟩
 refine ⟨x,rfl,⟨h1,h.f.upd h2 (fun g hg hgS=>h.far g hgS hg),fun g hg hgm=>?_⟩,ho,h2.mono (fun g hg _=>List.mem_append.2 (.inl hg)),fun g hg=>?_,fun g hg=>⟨(h4 g hg).1,fun hgm=>?_⟩⟩
 ·rcases h3 g hg with hg | hg
  ·exact h.far g hg hgm
  ·have:=h.f.lt g hgm; omega
 ·rcases List.mem_append.1 hg with hg | hg
  ·exact (h3 g hg).imp (fun hg=>List.mem_append.2 (.inl hg)) id
  ·exact .inl (List.mem_append.2 (.inr hg))
 ·rcases List.mem_append.1 hgm with hgm | hgm
  ·exact (h4 g hg).2 hgm
  ·have:=h.f.lt g hgm; have:=(h4 g hg).1; omega
theorem KG.link {k':LkV} {ls':List MsgV} (h:KG lo q p mb M K Sk D w) (hd:D i=some d) (hc:LO lo d.q d.v.k d.v.ls d.S w→Calls Tryz.prog F args w fun e w'=>e=.returned V∧∃ S',LO lo d.q k' ls' S' w'∧Upd d.S w w'∧∀ g∈S',g∈d.S∨w.heap.size≤g) :
  Calls Tryz.prog F args w fun e w'=>∃ S':List Nat,e=.returned V∧KG lo q p mb M K Sk (setD D i (some ⟨d.b,d.q,S',⟨k',ls',d.v.h,d.v.hd⟩⟩)) w'∧Upd (kgF mb Sk D) w w'∧∀ g∈kgF mb Sk (setD D i (some ⟨d.b,d.q,S',⟨k',ls',d.v.h,d.v.hd⟩⟩)),g∈kgF mb Sk D∨w.heap.size≤g:=by
 refine (h.f.link hd hc).mono ?_
 rintro e w' ⟨S',rfl,h1,h2,h3⟩
 refine ⟨S',rfl,⟨h.k.upd h2 h.far,h1,fun g hg hgm=>?_⟩,h2.mono (fun g hg _=>List.mem_append.2 (.inr hg)),fun g hg=>?_⟩
 ·rcases h3 g hgm with hgm | hgm
  ·exact h.far g hg hgm
  ·have:=h.k.lt g hg; omega
 ·rcases List.mem_append.1 hg with hg | hg
  ·exact .inl (List.mem_append.2 (.inl hg))
  ·exact (h3 g hg).imp (fun hg=>List.mem_append.2 (.inr hg)) id
theorem KG.del (h:KG lo q p mb M K Sk D w) (hm:MapF Tryz.prog 3 w' mb M (Mp.setK (ptrs D) i none)) (u:Upd [mb] w w'):KG lo q p mb M K Sk (setD D i none) w' :=
 ⟨h.k.upd u (fun g hg hgm=>h.far g hg (by rw [List.mem_singleton] at hgm; subst hgm; exact List.mem_cons_self ..)),h.f.del hm u,fun g hg hgm=>h.far g hg (fam_del g hgm)⟩
end
theorem kg_mp {lo q mb M:Nat} {p:Pt} {K:KV} {Sk:List Nat} {D:Fam} {rw:Bool} {w:World} (h:(kgO lo q p mb M K Sk D rw).st w):MapF Tryz.prog 3 w mb M (ptrs D):=by
 have h:KG lo q p mb M K Sk D w:=h
 exact h.f.mp
theorem kg_mb (lo q mb M:Nat) (p:Pt) (K:KV) (Sk:List Nat) (D:Fam) (rw:Bool):mb∈(kgO lo q p mb M K Sk D rw).F:=List.mem_append.2 (.inr (List.mem_cons_self ..))
structure Gp where
 q:Nat
 p:Pt
 s:Nat
 mb:Nat
def gwA (c:CfgV) (x:Gp) (ep:Int):Array Value:=#[.int .i64 c.ca,.int .i64 c.fl,.int .i64 c.ft,.int .i64 c.se,.int .i64 c.dr,.int .i64 c.dw,.int .i64 c.ho,.int .i64 c.re,.int .i64 c.yi,.int .i64 c.qu,.int .i64 c.qo,.int .i64 c.lo,.int .i64 c.sl,.int .i64 c.rt,.int .i64 c.cp,.int .i64 c.tr,.int .i64 c.de,.int .i64 c.wi,.pointer (some ⟨x.q,0,none⟩),.pointer (some ⟨x.s,0,none⟩),.map (some x.mb),.int .i64 ep]
abbrev gwS (c:CfgV) (x:Gp) (ep:Int):List SV:=[.i .i64 c.ca,.i .i64 c.fl,.i .i64 c.ft,.i .i64 c.se,.i .i64 c.dr,.i .i64 c.dw,.i .i64 c.ho,.i .i64 c.re,.i .i64 c.yi,.i .i64 c.qu,.i .i64 c.qo,.i .i64 c.lo,.i .i64 c.sl,.i .i64 c.rt,.i .i64 c.cp,.i .i64 c.tr,.i .i64 c.de,.i .i64 c.wi,.v (.pointer (some ⟨x.q,0,none⟩)),.v (.pointer (some ⟨x.s,0,none⟩)),.v (.map (some x.mb)),.i .i64 ep]
section
variable {lo gq M:Nat} {c:CfgV} {x:Gp} {ep i:Int} {K:KV} {Sk:List Nat} {D:Fam} {w:World}
theorem hold_g {n:Nat} (hb:Blk w gq 96 (gwA c x ep)) (h:KG lo x.q x.p x.mb M K Sk D w) (hg:gq∉kgF x.mb Sk D):Hold ⟨Tryz.prog,tab,kgF x.mb Sk D,w,n,[]⟩ [⟨gq,96,true,0,[],gwS c x ep,[],false⟩] [kgO lo x.q x.p x.mb M K Sk D true] w :=
 Hold.addObj (Hold.addRow (m:=[]) (Hold.nil _ tab _ _ w) ⟨gq,96,true,0,[],gwS c x ep,[],false⟩ hb (by intro h; cases h) (by intro q hq; cases hq) (by intro A hA; cases hA)) (kgO lo x.q x.p x.mb M K Sk D true) h (fun _ g hg=>.inl hg) (by intro r hr _; simp only [List.nil_append,List.mem_singleton] at hr; subst hr; exact hg) (by intro A hA; cases hA)
theorem hold_gr {n:Nat} (hb:Blk w gq 96 (gwA c x ep)) (h:KG lo x.q x.p x.mb M K Sk D w) (hg:gq∉kgF x.mb Sk D):Hold ⟨Tryz.prog,tab,[],w,n,[]⟩ [⟨gq,96,true,0,[],gwS c x ep,[],false⟩] [kgO lo x.q x.p x.mb M K Sk D false] w :=
 Hold.addObj (hold_q (S:=[]) (gwS c x ep) hb) (kgO lo x.q x.p x.mb M K Sk D false) h (by intro k; cases k) (by intro r hr _; rw [List.mem_singleton] at hr; subst hr; exact hg) (by intro A hA; cases hA)
theorem groupT (hb:Blk w gq 96 (gwA c x ep)) (h:KG lo x.q x.p x.mb M K Sk D w) (hg:gq∉kgF x.mb Sk D):Calls Tryz.prog 58 #[.pointer (some ⟨gq,0,none⟩)] w fun e w'=>e=.returned (.pointer (some ⟨x.p.g,0,none⟩))∧Since w w':=by
 refine entH tab_ok (hold_gr hb h hg) [.p 0 0] Tryz.func58 Tryz.ntmps58 rfl rfl ?_
 repeat' (first | refine gs_ ?_|((conv=>whnf); first | intro b | refine callH (f:=39) (.v (.pointer (some ⟨x.p.g,0,none⟩))) (fun w hH=>groupK (Hold.ob hH (A:=kgO lo x.q x.p x.mb M K Sk D false) 0 rfl).k) ?_|refine fin_s ?_))
 all_goals rfl
theorem nowG (hb:Blk w gq 96 (gwA c x ep)) (h:KG lo x.q x.p x.mb M K Sk D w) (hg:gq∉kgF x.mb Sk D):Calls Tryz.prog 94 #[.pointer (some ⟨gq,0,none⟩)] w fun e w'=>e=.returned (.int .i64 K.G.now)∧Since w w':=by
 refine entH tab_ok (hold_gr hb h hg) [.p 0 0] Tryz.func94 Tryz.ntmps94 rfl rfl ?_
 repeat' (first | refine gs_ ?_|((conv=>whnf); first | intro b | refine callH (f:=58) (.v (.pointer (some ⟨x.p.g,0,none⟩))) (fun w hH=>groupT (hH.row 0 _ rfl rfl) (Hold.ob hH (A:=kgO lo x.q x.p x.mb M K Sk D false) 0 rfl) hg) ?_|refine callH (f:=40) (.i .i64 K.G.now) (fun w hH=>by obtain ⟨S0,_,hbd⟩:=(Hold.ob hH (A:=kgO lo x.q x.p x.mb M K Sk D false) 0 rfl).k.rd; exact hbd.now) ?_|refine fin_s ?_))
 all_goals rfl
theorem kg_del {mb:Nat} (S':List Nat):∀ g∈kgF mb S' (setD D i none),g∈kgF mb S' D:=fun g hg=>by
 rcases List.mem_append.1 hg with hg | hg
 ·exact List.mem_append.2 (.inl hg)
 ·exact List.mem_append.2 (.inr (fam_del g hg))
theorem endT (hb:Blk w gq 96 (gwA c x ep)) (h:KG lo x.q x.p x.mb M K Sk D w) (hg:gq∉kgF x.mb Sk D) (hi:0≤i∧i < 64) (hq:K.Q.length≤1000) (hl:K.L.length≤10000) :
  Calls Tryz.prog 95 #[.pointer (some ⟨gq,0,none⟩),.int .i64 i] w fun e w'=>∃ S',e=.returned (.tuple #[])∧KG lo x.q x.p x.mb M (goneK K i) S' (setD D i none) w'∧Upd (kgF x.mb Sk D) w w'∧∀ g∈kgF x.mb S' (setD D i none),g∈kgF x.mb Sk D∨w.heap.size≤g:=by
 refine entH tab_ok (hold_g hb h hg) [.p 0 0,.i .i64 i] Tryz.func95 Tryz.ntmps95 rfl rfl ?_
 repeat' (first | refine gs_ ?_|((conv=>whnf); first | intro b | refine callO (f:=128) (A:=kgO lo x.q x.p x.mb M K Sk D true) 0 (fun _:List Nat=>.t []) (fun S'=>kgO lo x.q x.p x.mb M (goneK K i) S' D true) (fun w hH hA=>KG.core hA (fun hk=>goneW hk hq hl i)) (fun S'=>?_)|refine opdl (b:=x.mb) (n:=M) (m:=ptrs D) (k:=3) (e:=100) 0 (kgO lo x.q x.p x.mb M (goneK K i) S' (setD D i none) true) (by rfl) (by rfl) (by rfl) (by rfl) rfl (fun w h=>kg_mp h) (kg_mb ..) (fun w w' h hm u=>KG.del h hm u) (kg_del S') (by kernel_rfl) (by kernel_rfl) (wf_small hi) ?_|refine fin fun w' hH=>⟨S',rfl,Hold.ob hH (A:=kgO lo x.q x.p x.mb M (goneK K i) S' (setD D i none) true) 0 rfl,hH.upd,fun g hg=>hH.own _ (List.mem_of_getElem? (i:=0) rfl) rfl g hg⟩|refine fin_s ?_))
end
def vals (D:Fam):Int→Option SeV:=fun i=>(D i).map SeD.v
def setV (V:Int→Option SeV) (i:Int) (x:Option SeV):Int→Option SeV:=fun j=>if j=i then x else V j
theorem vals_set (D:Fam) (i:Int) (x:Option SeD):vals (setD D i x)=setV (vals D) i (x.map SeD.v):=by
 funext j
 unfold vals setD setV
 by_cases h:j=i
 ·rw [if_pos h,if_pos h]
 ·rw [if_neg h,if_neg h]
theorem setV_setV (V:Int→Option SeV) (i:Int) (x y:Option SeV):setV (setV V i x) i y=setV V i y:=by
 funext j
 unfold setV
 by_cases h:j=i
 ·rw [if_pos h,if_pos h]
 ·rw [if_neg h,if_neg h,if_neg h]
abbrev Kv:=KV×(Int→Option SeV)
def endV (x:Kv) (i:Int):Kv:=(goneK x.1 i,setV x.2 i none)
def tell1 (x:Kv) (e:EvV):Kv:=match x.2 e.s with
 | none=>x
 | some v=>if (v.ls.length:Int) < winV v.k.c then (x.1,setV x.2 e.s (some ⟨v.k,v.ls++[e.m],v.h,v.hd⟩)) else endV x e.s
def tellF (x:Kv) (es:List EvV):Kv:=es.foldl tell1 x
structure TI (T:Int) (x:Kv):Prop where
 q:x.1.Q.length≤1000
 l:x.1.L.length≤10000
 s:∀ i v,x.2 i=some v→v.ls.length≤16
 t:∀ i v,x.2 i=some v→0≤v.k.st∧v.k.st≤T
theorem gone_len (K:KV) (i:Int):(goneK K i).Q.length≤K.Q.length∧(goneK K i).L.length≤K.L.length:=by
 unfold goneK Co.endK
 refine ⟨(Co.drop_sub _ _).length_le, ?_⟩
 split
 ·exact (Co.end_sub _ _).length_le
 ·exact Nat.le_refl _
theorem end_sub {x:Kv} {i j:Int} {v:SeV} (hj:(endV x i).2 j=some v):x.2 j=some v:=by
 by_cases hi:j=i
 ·simp [endV,setV,hi] at hj
 ·simpa [endV,setV,hi] using hj
theorem TI.end_ {T:Int} {x:Kv} (h:TI T x) (i:Int):TI T (endV x i):=⟨Nat.le_trans (gone_len _ _).1 h.q,Nat.le_trans (gone_len _ _).2 h.l,fun j v hj=>h.s j v (end_sub hj),fun j v hj=>h.t j v (end_sub hj)⟩
theorem TI.set {T:Int} {x:Kv} (h:TI T x) (i:Int) (v:SeV) (h1:v.ls.length≤16) (h2:0≤v.k.st∧v.k.st≤T):TI T (x.1,setV x.2 i (some v)):=⟨h.q,h.l,fun j u hj=>by
 by_cases hi:j=i
 ·simp [setV,hi] at hj; subst hj; exact h1
 ·simp [setV,hi] at hj; exact h.s j u hj,fun j u hj=>by
 by_cases hi:j=i
 ·simp [setV,hi] at hj; subst hj; exact h2
 ·simp [setV,hi] at hj; exact h.t j u hj⟩
theorem TI.tell1 {T:Int} {x:Kv} (h:TI T x) (e:EvV):TI T (tell1 x e):=by
 unfold Gw.tell1
 cases hv:x.2 e.s with
 | none=>exact h
 | some v =>
  simp only []
  split
  ·rename_i hw
   have:=(Ln.win_lo v.k.c).2
   have ht:=h.t _ _ hv
   exact h.set _ _ (by simp; omega) ht
  ·exact h.end_ _
theorem TI.tell {T:Int} {x:Kv} (h:TI T x) (es:List EvV):TI T (tellF x es):=by
 unfold tellF
 induction es generalizing x with
 | nil=>exact h
 | cons e r ih=>exact ih (h.tell1 e)
theorem TI.more {T T':Int} {x:Kv} (h:TI T x) (ht:T≤T'):TI T' x:=⟨h.q,h.l,h.s,fun i v hv=>⟨(h.t i v hv).1,Int.le_trans (h.t i v hv).2 ht⟩⟩
theorem tell_next {x:Kv} {es:List EvV} {k:Nat} {e:EvV} (h:es[k]?=some e):tellF x (es.take (k+1))=tell1 (tellF x (es.take k)) e:=by
 obtain ⟨hk,rfl⟩:=List.getElem?_eq_some_iff.1 h
 unfold tellF
 rw [List.take_succ_eq_append_getElem hk,List.foldl_append]; rfl
section
variable {lo gq M:Nat} {c:CfgV} {x:Gp} {ep i:Int} {K:KV} {Sk:List Nat} {D:Fam} {w:World}
structure TJ (x0:Kv) (es:List EvV) (k:Nat) (K:KV) (D:Fam):Prop where
 e:tellF x0 (es.take k)=(K,vals D)
set_option maxHeartbeats 2000000 in
theorem tellT {T:Int} {lo2 n c2:Nat} {A:Option Addr} {es:List EvV} (hb:Blk w gq 96 (gwA c x ep)) (h:KG lo x.q x.p x.mb M K Sk D w) (hg:gq∉kgF x.mb Sk D) (ho:evE.At lo2 A n c2 es w) (hn:es.length=n) (hfar:∀ g∈blkOf A,g∉kgF x.mb Sk D) (hga:gq∉blkOf A) (hes:∀ e∈es,0≤e.s∧e.s < 64) (ht:TI T (K,vals D)) (hl:n≤100000) :
  Calls Tryz.prog 92 #[.pointer (some ⟨gq,0,none⟩),.slice A n c2] w fun e w'=>∃ y:List Nat×Fam,e=.returned (.tuple #[])∧KG lo x.q x.p x.mb M (tellF (K,vals D) es).1 y.1 y.2 w'∧vals y.2=(tellF (K,vals D) es).2∧Upd (kgF x.mb Sk D) w w'∧∀ g∈kgF x.mb y.1 y.2,g∈kgF x.mb Sk D∨w.heap.size≤g:=by
 obtain ⟨g0,hA⟩:=Ek.addr ho
 refine entH tab_ok (Hold.addObj (hold_g hb h hg) (rwO evE lo2 A n c2 es false) ho (by intro k; cases k) (by intro r hr _; rw [List.mem_singleton] at hr; subst hr; exact hga) (by intro B hB; rw [List.mem_singleton] at hB; subst hB; exact fun _ g hg hgA=>hfar g hgA hg)) [.p 0 0,.v (.slice A n c2)] Tryz.func92 Tryz.ntmps92 rfl rfl ?_
 repeat' (first | refine gs_ ?_|((conv=>whnf); first | intro b | refine b3_ (fun h=>?_) (fun h=>?_)|refine fin_s ?_))
 conv=>whnf
 refine lp ⟨tab_ok⟩ (ι:={y:Nat×KV×List Nat×Fam // y.1≤n∧TJ (K,vals D) es y.1 y.2.1 y.2.2.2}) (fun y=>match y with | ⟨(k,K1,S1,D1),_⟩=>⟨[(0,.p 0 0),(8,.v (.slice A n c2)),(9,.i .i64 n),(10,.i .i64 (k:Int))],[⟨gq,96,true,0,[],gwS c x ep,[],false⟩],[kgO lo x.q x.p x.mb M K1 S1 D1 true,rwO evE lo2 A n c2 es false]⟩) (fun y=>n - y.1.1) ⟨(0,K,Sk,D),Nat.zero_le _,⟨rfl⟩⟩ (wk ?_) ?_
 ·repeat' (first | exact trivial | rfl | ((conv=>whnf); refine And.intro ?_ ?_))
 rintro ⟨⟨k,K1,S1,D1⟩,hk,hj⟩
 have hk:k≤n:=hk
 have hj:tellF (K,vals D) (es.take k)=(K1,vals D1):=hj.e
 have hti:TI T (K1,vals D1):=hj ▸ ht.tell _
 by_cases hlt:k < n
 ·obtain ⟨e,he⟩:∃ e,es[k]?=some e:=⟨_,List.getElem?_eq_getElem (by omega)⟩
  obtain rfl:=hA (by omega)
  have hs:=hes e (List.mem_of_getElem? he)
  have hnx:tellF (K,vals D) (es.take (k+1))=tell1 (K1,vals D1) e:=by rw [tell_next he,hj]
  cases hd:D1 e.s with
  | none =>
   have hp:ptrs D1 e.s=none:=by unfold ptrs; rw [hd]; rfl
   have hv:tell1 (K1,vals D1) e=(K1,vals D1):=by unfold tell1 vals; simp [hd]
   repeat' (first | refine gq_ ?_|((conv=>whnf); first | intro b | refine drA ⟨tab_ok⟩ [5] ?_|refine bto ?_|refine bfo ?_|refine wr_i ?_|refine iv_ ?_|refine opix (g:=g0) (off:=0+k*5) [.i .i64 e.s,.i .i64 e.m.ki,.i .i64 e.m.a,.i .i64 e.m.b,.i .i64 e.m.c] (fun w hH=>Ek.rng (Hold.ob hH (A:=rwO evE lo2 (some ⟨g0,0,none⟩) n c2 es false) 1 rfl) he) ⟨tab_ok⟩ (by rfl) (by rfl) (by show Addr.add ⟨g0,0,none⟩ (k*5)=_; rw [Go.WideShapes.add_plain]) ?_|refine oplo (b:=x.mb) (n:=M) (m:=ptrs D1) (k:=3) (e:=100) 0 (.pointer none) (.v (.pointer none)) false (by rfl) (by rfl) (by rfl) (by rfl) (fun w h=>kg_mp h) (by kernel_rfl) (by kernel_rfl) (fun w=>rfl) (wf_small hs) (by rw [hp]; rfl) (by rw [hp]; rfl) ?_|refine En.back ⟨(k+1,K1,S1,D1),by show k+1≤n; omega,⟨hnx.trans hv⟩⟩ (wk ?_) ?_|refine fin_s ?_))
   all_goals first | (show n - (k+1) < n - k; omega)|skip
   all_goals (repeat' (first | exact trivial | rfl | ((conv=>whnf); refine And.intro ?_ ?_)))
  | some d =>
   have hp:ptrs D1 e.s=some (.pointer (some ⟨d.b,0,none⟩)):=by unfold ptrs; rw [hd]; rfl
   have hvd:vals D1 e.s=some d.v:=by unfold vals; rw [hd]; rfl
   have hls:=hti.s _ _ hvd
   have hsend0:=fun w S (hL:LO lo d.q d.v.k d.v.ls S w)=>Ln.sendT hL e.m (by omega)
   by_cases hw:(d.v.ls.length:Int) < winV d.v.k.c
   ·have hsend:∀ w S,LO lo d.q d.v.k d.v.ls S w→Calls Tryz.prog 124 #[.pointer (some ⟨d.q,0,none⟩),.agg #[.int .i64 e.m.ki,.int .i64 e.m.a,.int .i64 e.m.b,.int .i64 e.m.c]] w fun e_1 w'=>e_1=.returned (.bool true)∧∃ S',LO lo d.q d.v.k (d.v.ls++[e.m]) S' w'∧Upd S w w'∧∀ g∈S',g∈S∨w.heap.size≤g:=fun w S hL=>by
     have:=hsend0 w S hL
     rwa [if_pos hw,decide_eq_true hw] at this
    have hv:∀ S',tell1 (K1,vals D1) e=(K1,vals (setD D1 e.s (some ⟨d.b,d.q,S',⟨d.v.k,d.v.ls++[e.m],d.v.h,d.v.hd⟩⟩))):=fun S'=>by
     rw [vals_set]; unfold tell1; simp only [hvd,if_pos hw]; rfl
    repeat' (first | refine gq_ ?_|((conv=>whnf); first | intro b | refine drA ⟨tab_ok⟩ [5] ?_|refine bto ?_|refine bfo ?_|refine wr_i ?_|refine iv_ ?_|refine opix (g:=g0) (off:=0+k*5) [.i .i64 e.s,.i .i64 e.m.ki,.i .i64 e.m.a,.i .i64 e.m.b,.i .i64 e.m.c] (fun w hH=>Ek.rng (Hold.ob hH (A:=rwO evE lo2 (some ⟨g0,0,none⟩) n c2 es false) 1 rfl) he) ⟨tab_ok⟩ (by rfl) (by rfl) (by show Addr.add ⟨g0,0,none⟩ (k*5)=_; rw [Go.WideShapes.add_plain]) ?_|refine oplo (b:=x.mb) (n:=M) (m:=ptrs D1) (k:=3) (e:=100) 0 (.pointer none) (.v (.pointer (some ⟨d.b,0,none⟩))) true (by rfl) (by rfl) (by rfl) (by rfl) (fun w h=>kg_mp h) (by kernel_rfl) (by kernel_rfl) (fun w=>rfl) (wf_small hs) (by rw [hp]; rfl) (by rw [hp]; rfl) ?_|refine opnv (by rfl) (by rfl) ?_|refine punv (by rfl) (by rfl) ?_|refine fv_ ?_|refine uf_ ?_|refine opxc (g:=d.b) (off:=0+0) (.v (.pointer (some ⟨d.q,0,none⟩))) (fun w hH=>(Hold.ob hH (A:=kgO lo x.q x.p x.mb M K1 S1 D1 true) 0 rfl).f.cell hd) ⟨tab_ok⟩ (by rfl) (by rfl) (by show Addr.add ⟨d.b,0,none⟩ 0=_; rw [Go.WideShapes.add_plain]) ?_|refine callO (f:=124) (A:=kgO lo x.q x.p x.mb M K1 S1 D1 true) 0 (fun _:List Nat=>.b true) (fun S'=>kgO lo x.q x.p x.mb M K1 S1 (setD D1 e.s (some ⟨d.b,d.q,S',⟨d.v.k,d.v.ls++[e.m],d.v.h,d.v.hd⟩⟩)) true) (fun w hH hA=>KG.link hA hd (fun hL=>hsend w _ hL)) (fun S'=>?_)|refine En.back ⟨(k+1,K1,S1,setD D1 e.s (some ⟨d.b,d.q,S',⟨d.v.k,d.v.ls++[e.m],d.v.h,d.v.hd⟩⟩)),by show k+1≤n; omega,⟨hnx.trans (hv S')⟩⟩ (wk ?_) ?_|refine fin_s ?_))
    all_goals first | (show n - (k+1) < n - k; omega)|skip
    all_goals (repeat' (first | exact trivial | rfl | ((conv=>whnf); refine And.intro ?_ ?_)))
   ·have hsend:∀ w S,LO lo d.q d.v.k d.v.ls S w→Calls Tryz.prog 124 #[.pointer (some ⟨d.q,0,none⟩),.agg #[.int .i64 e.m.ki,.int .i64 e.m.a,.int .i64 e.m.b,.int .i64 e.m.c]] w fun e_1 w'=>e_1=.returned (.bool false)∧∃ S',LO lo d.q d.v.k d.v.ls S' w'∧Upd S w w'∧∀ g∈S',g∈S∨w.heap.size≤g:=fun w S hL=>by
     have:=hsend0 w S hL
     rwa [if_neg hw,decide_eq_false hw] at this
    have hv:∀ S',tell1 (K1,vals D1) e=(goneK K1 e.s,vals (setD (setD D1 e.s (some ⟨d.b,d.q,S',⟨d.v.k,d.v.ls,d.v.h,d.v.hd⟩⟩)) e.s none)):=fun S'=>by
     rw [vals_set,vals_set]; unfold tell1; simp only [hvd,if_neg hw]; unfold endV; rw [setV_setV]; rfl
    repeat' (first | refine gq_ ?_|((conv=>whnf); first | intro b | refine drA ⟨tab_ok⟩ [5] ?_|refine bto ?_|refine bfo ?_|refine wr_i ?_|refine iv_ ?_|refine opix (g:=g0) (off:=0+k*5) [.i .i64 e.s,.i .i64 e.m.ki,.i .i64 e.m.a,.i .i64 e.m.b,.i .i64 e.m.c] (fun w hH=>Ek.rng (Hold.ob hH (A:=rwO evE lo2 (some ⟨g0,0,none⟩) n c2 es false) 1 rfl) he) ⟨tab_ok⟩ (by rfl) (by rfl) (by show Addr.add ⟨g0,0,none⟩ (k*5)=_; rw [Go.WideShapes.add_plain]) ?_|refine oplo (b:=x.mb) (n:=M) (m:=ptrs D1) (k:=3) (e:=100) 0 (.pointer none) (.v (.pointer (some ⟨d.b,0,none⟩))) true (by rfl) (by rfl) (by rfl) (by rfl) (fun w h=>kg_mp h) (by kernel_rfl) (by kernel_rfl) (fun w=>rfl) (wf_small hs) (by rw [hp]; rfl) (by rw [hp]; rfl) ?_|refine opnv (by rfl) (by rfl) ?_|refine punv (by rfl) (by rfl) ?_|refine fv_ ?_|refine uf_ ?_|refine opxc (g:=d.b) (off:=0+0) (.v (.pointer (some ⟨d.q,0,none⟩))) (fun w hH=>(Hold.ob hH (A:=kgO lo x.q x.p x.mb M K1 S1 D1 true) 0 rfl).f.cell hd) ⟨tab_ok⟩ (by rfl) (by rfl) (by show Addr.add ⟨d.b,0,none⟩ 0=_; rw [Go.WideShapes.add_plain]) ?_|refine callO (f:=124) (A:=kgO lo x.q x.p x.mb M K1 S1 D1 true) 0 (fun _:List Nat=>.b false) (fun S'=>kgO lo x.q x.p x.mb M K1 S1 (setD D1 e.s (some ⟨d.b,d.q,S',⟨d.v.k,d.v.ls,d.v.h,d.v.hd⟩⟩)) true) (fun w hH hA=>KG.link hA hd (fun hL=>hsend w _ hL)) (fun S'=>?_)|refine callO (f:=95) (A:=kgO lo x.q x.p x.mb M K1 S1 (setD D1 e.s (some ⟨d.b,d.q,S',⟨d.v.k,d.v.ls,d.v.h,d.v.hd⟩⟩)) true) 0 (fun _:List Nat=>.t []) (fun S2=>kgO lo x.q x.p x.mb M (goneK K1 e.s) S2 (setD (setD D1 e.s (some ⟨d.b,d.q,S',⟨d.v.k,d.v.ls,d.v.h,d.v.hd⟩⟩)) e.s none) true) (fun w hH hA=>endT (hH.row 0 _ rfl rfl) hA (hH.far _ (List.mem_of_getElem? (i:=0) rfl) 0 _ rfl rfl) hs hti.q hti.l) (fun S2=>?_)|refine En.back ⟨(k+1,goneK K1 e.s,S2,setD (setD D1 e.s (some ⟨d.b,d.q,S',⟨d.v.k,d.v.ls,d.v.h,d.v.hd⟩⟩)) e.s none),by show k+1≤n; omega,⟨hnx.trans (hv S')⟩⟩ (wk ?_) ?_|refine fin_s ?_))
    all_goals first | (show n - (k+1) < n - k; omega)|skip
    all_goals (repeat' (first | exact trivial | rfl | ((conv=>whnf); refine And.intro ?_ ?_)))
 ·obtain rfl:k=n:=by omega
  repeat' (first | refine gs_ ?_|((conv=>whnf); first | intro b | refine bto ?_|refine bfo ?_|refine wr_i ?_|refine fin fun w' hH=>?_|refine fin_s ?_))
  have hO:=Hold.ob hH (A:=kgO lo x.q x.p x.mb M K1 S1 D1 true) 0 rfl
  have hfull:es.take k=es:=List.take_of_length_le (by rw [hn]; exact Nat.le_refl _)
  rw [hfull] at hj
  rw [hj]
  exact ⟨(S1,D1),rfl,hO,rfl,hH.upd,fun g hg=>hH.own _ (List.mem_of_getElem? (i:=0) rfl) rfl g hg⟩
end
end Gw
namespace Mg
open Byt (isB)
structure PktV where
 se:Int
 ep:Int
 sq:Int
 ak:Int
 has:Bool
 ki:Int
 a:Int
 b:Int
 c:Int
deriving DecidableEq
def zeroP:PktV:=⟨0,0,0,0,false,0,0,0,0⟩
def twoL (n:Int):List Int:=[n / 256 % 256,n % 256]
def fourL (n:Int):List Int:=[n / 16777216 % 256,n / 65536 % 256,n / 256 % 256,n % 256]
def headL (p:PktV):List Int:=[1,p.se % 256,p.ep / 256 % 256,p.ep % 256,p.sq / 256 % 256,p.sq % 256,p.ak / 256 % 256,p.ak % 256]
def bodyL (p:PktV):List Int:=[p.ki % 256,p.a / 16777216 % 256,p.a / 65536 % 256,p.a / 256 % 256,p.a % 256,p.b / 16777216 % 256,p.b / 65536 % 256,p.b / 256 % 256,p.b % 256,p.c / 16777216 % 256,p.c / 65536 % 256,p.c / 256 % 256,p.c % 256]
def bytesOf (p:PktV):List Int:=if p.has=true then headL p++bodyL p else headL p
def headB (p:PktV):Bool:=decide (0≤p.se∧p.se≤255∧(0≤p.ep∧p.ep≤65535)∧(0≤p.sq∧p.sq≤65535)∧0≤p.ak∧p.ak≤65535)
def msgB (p:PktV):Bool:=decide (1≤p.ki∧p.ki≤16∧(0≤p.a∧p.a≤2147483647)∧(0≤p.b∧p.b≤2147483647)∧0≤p.c∧p.c≤2147483647)
def noMsg (p:PktV):Bool:=decide (p.ki=0∧p.a=0∧p.b=0∧p.c=0)
def mayB (p:PktV):Bool:=headB p && (if p.has=true then msgB p else noMsg p)
def z (zs:List Int) (i:Nat):Int:=zs.getD i 0
def num2 (x y:Int):Int:=x*256+y
def num4 (x y u v:Int):Int:=((x*256+y)*256+u)*256+v
def headP (zs:List Int):PktV:=⟨z zs 1,num2 (z zs 2) (z zs 3),num2 (z zs 4) (z zs 5),num2 (z zs 6) (z zs 7),false,0,0,0,0⟩
def bodyP (zs:List Int):PktV:=⟨z zs 1,num2 (z zs 2) (z zs 3),num2 (z zs 4) (z zs 5),num2 (z zs 6) (z zs 7),true,z zs 8,num4 (z zs 9) (z zs 10) (z zs 11) (z zs 12),num4 (z zs 13) (z zs 14) (z zs 15) (z zs 16),num4 (z zs 17) (z zs 18) (z zs 19) (z zs 20)⟩
def getV (zs:List Int):PktV×Int :=
 if (zs.length≠8∧zs.length≠21)∨z zs 0≠1 then (zeroP,2)
 else if zs.length=8 then (headP zs,0)
 else if ¬ (1≤z zs 8∧z zs 8≤16) then (zeroP,4)
 else if mayB (bodyP zs)=true then (bodyP zs,0) else (zeroP,2)
theorem head_iff (p:PktV):headB p=true↔(0≤p.se∧p.se≤255∧(0≤p.ep∧p.ep≤65535)∧(0≤p.sq∧p.sq≤65535)∧0≤p.ak∧p.ak≤65535):=by
 unfold headB; exact decide_eq_true_iff
theorem msg_iff (p:PktV):msgB p=true↔(1≤p.ki∧p.ki≤16∧(0≤p.a∧p.a≤2147483647)∧(0≤p.b∧p.b≤2147483647)∧0≤p.c∧p.c≤2147483647):=by
 unfold msgB; exact decide_eq_true_iff
theorem may_has {p:PktV} (h:p.has=true):mayB p=(headB p && msgB p):=by unfold mayB; rw [if_pos h]
theorem may_not {p:PktV} (h:p.has=false):mayB p=(headB p && noMsg p):=by unfold mayB; rw [if_neg (by rw [h]; decide)]
theorem list_eta {zs:List Int} {n:Nat} (h:zs.length=n):zs=(List.range n).map (z zs):=by
 apply List.ext_getElem?
 intro i
 rcases Nat.lt_or_ge i n with hi | hi
 ·simp [hi,z,List.getD,h]
 ·rw [List.getElem?_eq_none (by omega),List.getElem?_eq_none (by simp; omega)]
theorem z_isB {zs:List Int} (h:∀ x∈zs,isB x) (i:Nat):0≤z zs i∧z zs i≤255:=by
 unfold z List.getD
 rcases Nat.lt_or_ge i zs.length with hi | hi
 ·rw [List.getElem?_eq_getElem hi]
  have:=h _ (List.getElem_mem hi)
  unfold isB at this
  simp only [Option.getD_some]; omega
 ·rw [List.getElem?_eq_none hi]; simp
theorem two_fwd (x y:Int) (hx:0≤x∧x≤255) (hy:0≤y∧y≤255):num2 x y / 256 % 256=x∧num2 x y % 256=y:=by unfold num2; omega
theorem four_fwd (x y u v:Int) (hx:0≤x∧x≤255) (hy:0≤y∧y≤255) (hu:0≤u∧u≤255) (hv:0≤v∧v≤255) :
  num4 x y u v / 16777216 % 256=x∧num4 x y u v / 65536 % 256=y∧num4 x y u v / 256 % 256=u∧num4 x y u v % 256=v:=by unfold num4; omega
theorem head_may (zs:List Int) (h:∀ x∈zs,isB x):headB (headP zs)=true:=by
 rw [head_iff]
 have h1:=z_isB h 1; have h2:=z_isB h 2; have h3:=z_isB h 3; have h4:=z_isB h 4; have h5:=z_isB h 5; have h6:=z_isB h 6; have h7:=z_isB h 7
 simp only [headP,num2]; omega
theorem get_may (zs:List Int) (h:∀ x∈zs,isB x) (p:PktV) (hg:getV zs=(p,0)):mayB p=true∧bytesOf p=zs:=by
 unfold getV at hg
 split at hg
 ·cases hg
 ·rename_i h0
  split at hg
  ·rename_i h8
   obtain rfl:headP zs=p:=congrArg Prod.fst hg
   refine ⟨?_, ?_⟩
   ·rw [may_not rfl,head_may zs h]; rfl
   ·have h1:=z_isB h 1; have h2:=z_isB h 2; have h3:=z_isB h 3; have h4:=z_isB h 4; have h5:=z_isB h 5; have h6:=z_isB h 6; have h7:=z_isB h 7
    have e0:z zs 0=1:=by omega
    rw [list_eta h8]
    have t2:=two_fwd _ _ h2 h3; have t4:=two_fwd _ _ h4 h5; have t6:=two_fwd _ _ h6 h7
    rw [← list_eta h8]
    conv=>rhs; rw [list_eta h8]
    simp only [bytesOf,headP,headL,Bool.false_eq_true,if_false,List.range_succ_eq_map,List.range_zero,List.map_cons,List.map_nil,t2.1,t2.2,t4.1,t4.2,t6.1,t6.2,e0]
    rw [show z zs 1 % 256=z zs 1 by omega]
  ·rename_i h8
   split at hg
   ·cases hg
   ·rename_i hk
    split at hg
    ·rename_i hm
     obtain rfl:bodyP zs=p:=congrArg Prod.fst hg
     refine ⟨hm, ?_⟩
     have h21:zs.length=21:=by omega
     have e0:z zs 0=1:=by omega
     have hz:=z_isB h
     have t2:=two_fwd _ _ (hz 2) (hz 3); have t4:=two_fwd _ _ (hz 4) (hz 5); have t6:=two_fwd _ _ (hz 6) (hz 7)
     have f9:=four_fwd _ _ _ _ (hz 9) (hz 10) (hz 11) (hz 12); have f13:=four_fwd _ _ _ _ (hz 13) (hz 14) (hz 15) (hz 16); have f17:=four_fwd _ _ _ _ (hz 17) (hz 18) (hz 19) (hz 20)
     have h1:=hz 1; have h8':=hz 8
     conv=>rhs; rw [list_eta h21]
     simp only [bytesOf,bodyP,headL,bodyL,if_true,List.cons_append,List.nil_append,List.range_succ_eq_map,List.range_zero,List.map_cons,List.map_nil,t2.1,t2.2,t4.1,t4.2,t6.1,t6.2,f9.1,f9.2.1,f9.2.2.1,f9.2.2.2,f13.1,f13.2.1,f13.2.2.1,f13.2.2.2,f17.1,f17.2.1,f17.2.2.1,f17.2.2.2,e0]
     rw [show z zs 1 % 256=z zs 1 by omega,show z zs 8 % 256=z zs 8 by omega]
    ·cases hg
theorem bytes_isB (p:PktV):∀ x∈bytesOf p,isB x:=by
 intro x hx
 unfold bytesOf headL bodyL at hx
 unfold isB
 split at hx <;> (simp only [List.cons_append,List.nil_append,List.mem_cons,List.not_mem_nil,or_false] at hx; omega)
end Mg
namespace Mg
open Go.RowKit Ba Mem
open Byt (BV isB cells)
set_option maxRecDepth 100000
def inB (most:Int) (ns:List Int):Bool:=ns.all fun n=>decide (0≤n∧n≤most)
theorem inB_take_succ (most:Int) (ns:List Int) (k:Nat) (h:k < ns.length):inB most (ns.take (k+1))=(inB most (ns.take k) && decide (0≤ns.getD k 0∧ns.getD k 0≤most)):=by
 unfold inB
 rw [List.take_succ_eq_append_getElem h,List.all_append]
 simp [List.getD,h]
theorem inB_false (most:Int) (ns:List Int) (k:Nat) (h:k < ns.length) (hb:¬ (0≤ns.getD k 0∧ns.getD k 0≤most)):inB most ns=false:=by
 unfold inB
 rw [Bool.eq_false_iff]
 intro ha
 rw [List.all_eq_true] at ha
 have:=ha _ (List.getElem_mem h)
 simp only [decide_eq_true_eq] at this
 apply hb
 simpa [List.getD,h] using this
theorem knownT (n:Int) (w:World):Calls Tryz.prog 137 #[.int .i64 n] w fun e w'=>e=.returned (.bool (decide (1≤n∧n≤16)))∧w=w':=by
 by_cases h1:1≤n
 ·by_cases h2:n≤16
  ·go_enter Tryz.func137,Tryz.ntmps137
   go_wp2
   go_ret
   exact ⟨ret_bool (by simp [h1,h2]),rfl⟩
  ·go_enter Tryz.func137,Tryz.ntmps137
   go_wp2
   go_ret
   exact ⟨ret_bool (by simp [h1,h2]),rfl⟩
 ·go_enter Tryz.func137,Tryz.ntmps137
  go_wp2
  go_ret
  exact ⟨ret_bool (by simp; omega),rfl⟩
theorem withinT (most:Int) (g n:Nat) (ns:List Int) (w:World) (hB:Blk w g 3 (ns.map (Value.int .i64)).toArray) (hl:ns.length=n) (hn:n≤1000) :
  Calls Tryz.prog 196 #[.int .i64 most,.slice (some ⟨g,0,none⟩) n n] w fun e w'=>e=.returned (.bool (inB most ns))∧w=w':=by
 have HB:=Lib.hid hB
 have HL:=Lib.hid hl
 have hni:(n:Int)≤1000:=by omega
 clear hB hl
 go_enter Tryz.func196,Tryz.ntmps196
 go_wp2
 go_loop [9] (fun i=>∃ k:Nat,k≤n∧i=.int .i64 k∧Hid (inB most (ns.take k)=true)) (fun i=>n - (intOf i).toNat)
 case atStart=>exact ⟨0,by omega,rfl,Lib.hid rfl⟩
 case round =>
  obtain ⟨k,hk,rfl,HO⟩:=hrel
  by_cases hlt:k < n
  ·have hc:w.cell? ⟨g,k,none⟩=some (.int .i64 (ns.getD k 0)):=by
    rw [HB.out.cell]
    have hk':k < ns.length:=by have:=HL.out; omega
    simp [List.getD,hk']
   have HT:=Lib.hid (inB_take_succ most ns k (by have:=HL.out; omega))
   have HF:=Lib.hid (inB_false most ns k (by have:=HL.out; omega))
   generalize ns.getD k 0=x at hc HT HF
   by_cases x0:x < 0
   ·go_wp2
    go_ret
    exact ⟨ret_bool (HF.out (by omega)).symm,rfl⟩
   ·by_cases x1:most < x
    ·go_wp2
     go_ret
     exact ⟨ret_bool (HF.out (by omega)).symm,rfl⟩
    ·go_wp2
     go_round
     case rel=>exact ⟨k+1,by omega,by go_num,Lib.hid (by rw [HT.out,HO.out]; simp; omega)⟩
     case measure=>simp [intOf]; omega
  ·obtain rfl:k=n:=by omega
   have HF:=Lib.hid (show inB most ns=true by have:=HO.out; rwa [List.take_of_length_le (by have:=HL.out; omega)] at this)
   go_wp2
   go_ret
   exact ⟨ret_bool HF.out.symm,rfl⟩
end Mg
namespace Mg
open Go.RowKit Ba Mem
open Byt (BV isB cells)
set_option maxRecDepth 100000
def numL (zs:List Int):Int:=zs.foldl (fun n z=>n*256+z) 0
theorem numL_snoc (zs:List Int) (x:Int):numL (zs++[x])=numL zs*256+x:=by unfold numL; rw [List.foldl_append]; rfl
theorem numL_bd:∀ (n:Nat) (zs:List Int),zs.length=n→(∀ z∈zs,isB z)→0≤numL zs∧numL zs < 256 ^ n:=by
 intro n
 induction n with
 | zero=>intro zs h _; obtain rfl:=List.eq_nil_of_length_eq_zero h; simp [numL]
 | succ n ih =>
  intro zs h hB
  have hne:zs≠[]:=by intro e; subst e; simp at h
  obtain ⟨ys,x,rfl⟩:∃ ys x,zs=ys++[x]:=⟨zs.dropLast,zs.getLast hne,(List.dropLast_concat_getLast hne).symm⟩
  have hl:ys.length=n:=by simp at h; exact h
  have:=ih ys hl (fun z hz=>hB z (by simp [hz]))
  have hx:=hB x (by simp)
  unfold isB at hx
  rw [numL_snoc,Int.pow_succ]
  omega
theorem or_low (x z:Int) (h0:0≤x) (h1:x≤4294967296) (h2:0≤z) (h3:z < 256):bits .or .i64 (x*256) z=x*256+z:=by
 obtain ⟨X,rfl⟩:=Int.eq_ofNat_of_zero_le h0
 obtain ⟨Z,rfl⟩:=Int.eq_ofNat_of_zero_le h2
 have e0:((X:Int)*256)=((X*256:Nat):Int):=by simp
 have e:X*256 ||| Z=X*256+Z:=by
  have:=Nat.shiftLeft_add_eq_or_of_lt (i:=8) (b:=Z) (by omega) X
  rw [Nat.shiftLeft_eq,show 2 ^ 8=256 from rfl] at this
  exact this.symm
 rw [e0]
 show IntKind.i64.wrap ((BitVec.ofInt 64 ((X*256:Nat):Int) ||| BitVec.ofInt 64 (Z:Int)).toNat:Int)=_
 rw [BitVec.toNat_or,ofInt_u64 _ (by omega),ofInt_u64 _ (by omega),e]
 rw [wr64 _ (by omega) (by omega)]
 simp
theorem numberT (A:Option Addr) (n c:Nat) (zs:List Int) (w:World) (h:BV w A n zs) (hn:n≤4):Calls Tryz.prog 136 #[.slice A n c] w fun e w'=>e=.returned (.int .i64 (numL zs))∧w=w':=by
 have hni:(n:Int)≤4:=by omega
 have HV:=Lib.hid h
 obtain ⟨hl,hb,hB,hA⟩:=h
 have HL:=Lib.hid hl
 have HZ:=Lib.hid hB
 have HA:=Lib.hid hA
 clear hl hb hB hA
 go_enter Tryz.func136,Tryz.ntmps136
 go_wp2
 go_loop [3,8] (fun x i=>∃ k:Nat,k≤n∧i=.int .i64 k∧x=.int .i64 (numL (zs.take k))) (fun _ i=>n - (intOf i).toNat)
 case atStart=>exact ⟨0,by omega,rfl,rfl⟩
 case round =>
  obtain ⟨k,hk,rfl,rfl⟩:=hrel
  by_cases hlt:k < n
  ·have hkl:k < zs.length:=by have:=HL.out; omega
   have hg:zs.getD k 0=zs[k]:=by simp [List.getD,hkl]
   have HN:=Lib.hid (show numL (zs.take (k+1))=numL (zs.take k)*256+zs.getD k 0 by rw [List.take_succ_eq_append_getElem hkl,numL_snoc,hg])
   have hz:isB (zs.getD k 0):=by rw [hg]; exact HZ.out _ (List.getElem_mem _)
   have hbd:=numL_bd k (zs.take k) (by rw [List.length_take]; omega) (fun z hz=>HZ.out z (List.mem_of_mem_take hz))
   have hb2:(256:Int) ^ k≤16777216:=by
    rcases (show k=0∨k=1∨k=2∨k=3 by omega) with rfl | rfl | rfl | rfl <;> decide
   rcases HA.out with h0 | ⟨b,off,ha,hlb,hc⟩
   ·omega
   have hcell:=hc k hlt
   subst ha
   clear hc hlb hg hkl
   generalize zs.getD k 0=z at hz hcell HN
   generalize numL (zs.take k)=x at hbd HN ⊢
   unfold isB at hz
   obtain ⟨z0,z1⟩:=hz
   have x0:0≤x:=hbd.1
   have x1:x≤16777216:=by omega
   clear hbd hb2
   have hor:=or_low x z x0 (by omega) z0 z1
   have hw:IntKind.i64.wrap (x*256)=x*256:=wr64 _ (by omega) (by omega)
   go_wp2
   go_round
   case rel=>exact ⟨k+1,by omega,by go_num,congrArg (Value.int .i64) (by rw [HN.out]; first | (rw [hw,hor])|(rw [hor])|skip)⟩
   case measure=>simp [intOf]; omega
  ·obtain rfl:k=n:=by omega
   have HF:=Lib.hid (show zs.take k=zs from List.take_of_length_le (by have:=HL.out; omega))
   go_wp2
   go_ret
   exact ⟨ret_int (by rw [HF.out]),rfl⟩
theorem number2T (A:Option Addr) (c:Nat) (x y:Int) (w:World) (h:BV w A 2 [x,y]):Calls Tryz.prog 136 #[.slice A 2 c] w fun e w'=>e=.returned (.int .i64 (num2 x y))∧w=w':=by
 refine (numberT A 2 c [x,y] w h (by omega)).mono ?_
 rintro e w' ⟨rfl,rfl⟩
 exact ⟨ret_int (by unfold numL num2; simp),rfl⟩
theorem number4T (A:Option Addr) (c:Nat) (x y u v:Int) (w:World) (h:BV w A 4 [x,y,u,v]):Calls Tryz.prog 136 #[.slice A 4 c] w fun e w'=>e=.returned (.int .i64 (num4 x y u v))∧w=w':=by
 refine (numberT A 4 c [x,y,u,v] w h (by omega)).mono ?_
 rintro e w' ⟨rfl,rfl⟩
 exact ⟨ret_int (by unfold numL num4; simp),rfl⟩
theorem bv_part {w:World} {b off n:Nat} {zs ys:List Int} {i m:Nat} (h:BV w (some ⟨b,off,none⟩) n zs) (hi:i+m≤n) (hy:(zs.drop i).take m=ys):BV w (some ⟨b,off+i,none⟩) m ys:=by
 rw [← hy]
 exact (Byt.BV.drop (k:=i) h (by omega)).cut (by omega)
end Mg
end Go.Proofs.YtepfmfalebmcnaaGreatDoor
