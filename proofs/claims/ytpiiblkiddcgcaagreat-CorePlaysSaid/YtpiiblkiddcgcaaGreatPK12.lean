/-
  Wanted: part 12.
  No condition.
-/
import Derived.Test.YtpiiblkiddcgcaaGreatPK8
import Derived.Test.YtpiiblkiddcgcaaGreatPK11
import Derived.Test.YtpiiblkiddcgcaaGreatPK10
set_option linter.all false
namespace Go.Proofs.YtpiiblkiddcgcaaGreat
namespace En
open Go.RowKit Ba Mem
section
variable {X:Cx} {s:St} {a:Act} {w:World} {o:Oper} {m0:List Row}
def rowsAt (sts:List (Nat×Nat)) (i:Nat):List Nat:=match sts with
 | []=>[]
 | (k,j)::r=>match Nat.beq k i with
  | true=>j::rowsAt r i
  | false=>rowsAt r i
theorem rowsAt_mem {i j:Nat}:∀ {sts:List (Nat×Nat)},j∈rowsAt sts i→(i,j)∈sts
 | [],h=>by cases h
 | (k,l)::r,h=>by
  unfold rowsAt at h
  cases hb:Nat.beq k i with
  | true =>
   rw [hb] at h
   have e:=Nat.eq_of_beq_eq_true hb
   subst e
   rcases List.mem_cons.1 h with rfl | h
   ·exact List.mem_cons_self ..
   ·exact List.mem_cons_of_mem _ (rowsAt_mem h)
  | false=>rw [hb] at h; exact List.mem_cons_of_mem _ (rowsAt_mem h)
def exE2 (X:Cx) (all:List Nat) (m0:List Row) (sts:List (Nat×Nat)) (don:List Nat) (i:Nat) (o:Oper) (s:St) (K:List Nat→St→Prop):Prop :=
 match o.op with
 | .store _ _ _=>match stoJ sts i with
  | none=>subK don all fun keep=>exW X keep m0 o s (K don)
  | some j=>subK (j::don) all fun keep=>me X.tab X.n keep o s (K (j::don)) False
 | _=>match rowsAt sts i with
  | []=>subK don all fun keep=>exW X keep m0 o s (K don)
  | j::r=>subK (j::r++don) all fun keep=>exW X keep m0 o s (K (j::r++don))
def exD2 (X:Cx) (ops:List Oper) (all:List Nat) (m0:List Row) (sts:List (Nat×Nat)):Pl→List Nat→St→(St→Prop)→Prop
 | .done,_,s,K=>K s
 | .tk i r,don,s,K=>match ops[i]? with
  | none=>False
  | some o=>match sts.any (fun q=>Nat.beq q.1 i) with
   | true=>False
   | false=>wantK ops o.guard s.fr
    (pe X.tab o.op s.fr (fun v=>put X.n o.dst v s fun s=>exD2 X ops all m0 sts r don s K) (match o.op with
     | .load t x=>ld X.tab t x s (fun j v=>match Nat.blt j m0.length && mayLd ops sts don i j with
      | true=>put X.n o.dst v s fun s=>exD2 X ops all m0 sts r don s K
      | false=>False) False
     | _=>PuVC X o s fun v=>put X.n o.dst v s fun s=>exD2 X ops all m0 sts r don s K))
    (put X.n o.dst (.v undef) s fun s=>exD2 X ops all m0 sts r don s K)
 | .ef i r,don,s,K=>match ops[i]? with
  | none=>False
  | some o=>wantK ops o.guard s.fr (exE2 X all m0 sts don i o s fun don s=>exD2 X ops all m0 sts r don s K) (put X.n o.dst (.v undef) s fun s=>exD2 X ops all m0 sts r don s K)
 | .fk i j r q,don,s,K=>(match ops[i]? with
  | none=>False
  | some o=>wantK ops o.guard s.fr (exE2 X all m0 sts don i o s fun don s=>exD2 X ops all m0 sts r don s K) (put X.n o.dst (.v undef) s fun s=>exD2 X ops all m0 sts r don s K)) ∧
  (match ops[j]? with
  | none=>False
  | some o=>wantK ops o.guard s.fr (exE2 X all m0 sts don j o s fun don s=>exD2 X ops all m0 sts q don s K) (put X.n o.dst (.v undef) s fun s=>exD2 X ops all m0 sts q don s K))
 | .f3 i j k r q t,don,s,K=>(match ops[i]? with
  | none=>False
  | some o=>wantK ops o.guard s.fr (exE2 X all m0 sts don i o s fun don s=>exD2 X ops all m0 sts r don s K) (put X.n o.dst (.v undef) s fun s=>exD2 X ops all m0 sts r don s K)) ∧
  (match ops[j]? with
  | none=>False
  | some o=>wantK ops o.guard s.fr (exE2 X all m0 sts don j o s fun don s=>exD2 X ops all m0 sts q don s K) (put X.n o.dst (.v undef) s fun s=>exD2 X ops all m0 sts q don s K)) ∧
  (match ops[k]? with
  | none=>False
  | some o=>wantK ops o.guard s.fr (exE2 X all m0 sts don k o s fun don s=>exD2 X ops all m0 sts t don s K) (put X.n o.dst (.v undef) s fun s=>exD2 X ops all m0 sts t don s K))
theorem exE2_of (hX:X.Ok) {all:List Nat} (ha:All all m0) {sts:List (Nat×Nat)} {don:List Nat} {i:Nat} {L:Array Bool} {K:List Nat→St→Prop} (hR:Rel X s a w) (hk:KJ don m0 s.m) (hd:Dno sts don L) (hL:L.getD i true=false)
  (h:exE2 X all m0 sts don i o s K):∀ Q,o.wp X.P a w (fun a' w'=>∃ s' don',Rel X s' a' w'∧KJ don' m0 s'.m∧Dno sts don' (L.setIfInBounds i true)∧K don' s') Q:=by
 intro Q
 have more:Dno sts don (L.setIfInBounds i true):=fun j hj=>by
  obtain ⟨q,h1,h2,h3⟩:=hd j hj
  exact ⟨q,h1,h2,getD_set_true h3⟩
 unfold exE2 at h
 split at h
 ·rename_i t x y hop
  split at h
  ·obtain ⟨keep,h,hkp⟩:=subK_of h
   exact Oper.wp_mono (fun a' w' ⟨s',r1,r2,r3⟩=>⟨s',don,r1,r2.kj ha hkp,more,r3⟩) (exW_of hX hR (hk.ki ha hkp) h Q)
  ·rename_i j hj
   obtain ⟨keep,h,hkp⟩:=subK_of h
   have hk':KJ (j::don) m0 s.m:=⟨hk.ext,fun i r hr hd=>hk.at_ i r hr (by simp only [List.elem_cons] at hd; split at hd <;> first | cases hd | exact hd)⟩
   rcases me_of hX hR (hk'.ki ha hkp) h with h | h
   ·exact h.elim
   ·refine Oper.wp_mono (fun a' w' ⟨s',r1,r2,r3⟩=>⟨s',j::don,r1,r2.kj ha hkp,fun l hl=>?_,r3⟩) (h Q)
    by_cases e:l=j
    ·subst e
     exact ⟨(i,l),stoJ_mem hj,rfl,getD_set_self hL⟩
    ·obtain ⟨q,h1,h2,h3⟩:=more l (by simp only [List.elem_cons] at hl; split at hl <;> first | (rename_i hb; exact absurd (by simpa using hb) e)|exact hl)
     exact ⟨q,h1,h2,h3⟩
 ·split at h
  ·obtain ⟨keep,h,hkp⟩:=subK_of h
   exact Oper.wp_mono (fun a' w' ⟨s',r1,r2,r3⟩=>⟨s',don,r1,r2.kj ha hkp,more,r3⟩) (exW_of hX hR (hk.ki ha hkp) h Q)
  ·rename_i j r hj
   obtain ⟨keep,h,hkp⟩:=subK_of h
   have hk':KJ (j::r++don) m0 s.m:=⟨hk.ext,fun i q hq hd=>hk.at_ i q hq (by
    cases hc:don.elem i with
    | false=>rfl
    | true=>rw [List.elem_eq_mem,decide_eq_false_iff_not] at hd; exact absurd (List.mem_append_right _ (by simpa using hc)) hd)⟩
   refine Oper.wp_mono (fun a' w' ⟨s',r1,r2,r3⟩=>⟨s',j::r++don,r1,r2.kj ha hkp,fun l hl=>?_,r3⟩) (exW_of hX hR (hk'.ki ha hkp) h Q)
   rw [List.elem_eq_mem,decide_eq_true_iff] at hl
   rcases List.mem_append.1 hl with hl | hl
   ·rw [← hj] at hl
    exact ⟨(i,l),rowsAt_mem hl,rfl,getD_set_self hL⟩
   ·exact more l (by simpa using hl)
theorem effD2 (hX:X.Ok) (hW:W0 m0) {all:List Nat} (ha:All all m0) {sts:List (Nat×Nat)} {don:List Nat} {ops:Array Oper} {Q:Exit→Act→World→Prop} {i n:Nat} {L:Array Bool} {K2:List Nat→St→Prop} (hL:L.getD i true=false)
  (hR:Rel X s a w) (hk:KJ don m0 s.m) (hd:Dno sts don L) (k:∀ {s':St} {a':Act} {w':World} {don':List Nat},Rel X s' a' w'→KJ don' m0 s'.m→Dno sts don' (L.setIfInBounds i true)→K2 don' s'→AnyL X.P ops Q (SKeep sts m0) n (L.setIfInBounds i true) a' w')
  (h:match ops.toList[i]? with
   | none=>False
   | some o=>wantK ops.toList o.guard s.fr (exE2 X all m0 sts don i o s K2) (put X.n o.dst (.v undef) s (K2 don))) :
  wpOp X.P ops Q i (fun a' w'=>SKeep sts m0 (L.setIfInBounds i true) w'∧AnyL X.P ops Q (SKeep sts m0) n (L.setIfInBounds i true) a' w') a w:=by
 have hidx:ops.toList[i]?=ops[i]?:=by simp
 rw [hidx] at h
 unfold wpOp
 cases ho:ops[i]? with
 | none=>rw [ho] at h; exact h.elim
 | some o =>
  simp only [ho] at h ⊢
  rcases want_of hR.fr h with ⟨hw,h⟩ | ⟨hw,h⟩
  ·rw [if_pos hw]
   exact .inl (Oper.wp_mono (fun a' w' ⟨s',don',r1,r2,r3,r4⟩=>⟨skeep_of hW r1.h r2 r3,k r1 r2 r3 r4⟩) (exE2_of hX ha hR hk hd hL h Q))
  ·rw [if_neg (by rw [hw]; decide)]
   obtain ⟨s',r1,r2,r3,r4⟩:=put_of (v:=.v undef) hR.ds hR.sz hR.fr hR.h rfl h
   have more:Dno sts don (L.setIfInBounds i true):=fun j hj=>by
    obtain ⟨q,h1,h2,h3⟩:=hd j hj
    exact ⟨q,h1,h2,getD_set_true h3⟩
   have hk':KJ don m0 s'.m:=by rw [r2]; exact hk
   exact ⟨skeep_of hW r1.h hk' more,k r1 hk' more r4⟩
theorem exD2_of {K:St→Prop} (hX:X.Ok) (hW:W0 m0) {all:List Nat} (ha:All all m0) {sts:List (Nat×Nat)} {ops:Array Oper} {Q:Exit→Act→World→Prop} (hs:Region.noSelect ops=true) (hQ:∀ a w s,Rel X s a w→K s→Q .normal a w) (hP:∀ c a w,¬ Q (.panic c) a w) :
  ∀ {pl:Pl} {n:Nat} {L:Array Bool} {don:List Nat} {s:St} {a:Act} {w:World},chk ops n L pl=true→Clo ops L→Rel X s a w→KJ don m0 s.m→Dno sts don L→exD2 X ops.toList all m0 sts pl don s K→AnyL X.P ops Q (SKeep sts m0) n L a w
 | .done,n,L,don,s,a,w,hc,hcl,hR,hk,hd,h=>by
  cases n with
  | zero=>simp only [chk] at hc; exact ⟨eq_of_beq hc,hQ a w s hR h⟩
  | succ n=>simp only [chk] at hc; exact ⟨fun _=>hQ a w s hR h,by rw [eq_of_beq hc]; simp⟩
 | .tk i r,0,L,don,s,a,w,hc,_,_,_,_,h=>by simp [chk] at hc
 | .ef i r,0,L,don,s,a,w,hc,_,_,_,_,h=>by simp [chk] at hc
 | .fk i j r q,0,L,don,s,a,w,hc,_,_,_,_,h=>by simp [chk] at hc
 | .f3 i j k r q t,0,L,don,s,a,w,hc,_,_,_,_,h=>by simp [chk] at hc
 | .tk i r,n+1,L,don,s,a,w,hc,hcl,hR,hk,hd,h=>by
  simp only [chk,Bool.and_eq_true] at hc
  obtain ⟨⟨c1,c2⟩,c3⟩:=hc
  have c2:i∈Region.ready .any ops L:=by simpa using c2
  unfold exD2 at h
  have hidx:ops.toList[i]?=ops[i]?:=by simp
  rw [hidx] at h
  cases ho:ops[i]? with
  | none=>rw [ho] at h; exact h.elim
  | some o =>
   simp only [ho] at h
   cases hso:sts.any (fun q=>Nat.beq q.1 i) with
   | true=>simp only [hso] at h
   | false =>
    simp only [hso] at h
    have hS:=skeep_of hW hR.h hk hd
    have more:Dno sts don (L.setIfInBounds i true):=fun j hj=>by
     obtain ⟨q,h1,h2,h3⟩:=hd j hj
     exact ⟨q,h1,h2,getD_set_true h3⟩
    have hns:∀ q∈sts,i≠q.1:=fun q hq e=>by
     have:=List.any_eq_false.1 hso q hq
     rw [← e] at this
     exact this (Nat.beq_refl i)
    have hS1:∀ (L:Array Bool) (w:World),SKeep sts m0 (L.setIfInBounds i true) w→SKeep sts m0 L w:=fun L w h j r hr hl hq=>h j r hr hl fun q h1 h2=>by rw [getD_set_ne false (hns q h1)]; exact hq q h1 h2
    have fin:∀ (T:World→Prop) (v:SV),(∀ (L:Array Bool) (w:World),Clo ops L→L.getD i true=false→SKeep sts m0 L w→T w)→okV s.m.length v=true→YieldsIf X.P ops T o (den s.m v) a→(put X.n o.dst v s fun s=>exD2 X ops.toList all m0 sts r don s K)→AnyL X.P ops Q (SKeep sts m0) (n+1) L a w:=fun T v hT hv hy h=>by
     obtain ⟨s',r1,r2,r3,r4⟩:=put_of hR.ds hR.sz hR.fr hR.h hv h
     exact AnyL.first ho hs hP hT hS1 (fun L w h=>skeep_set h) hcl c1 c2 hy hS (exD2_of hX hW ha hs hQ hP c3 (hcl.set c2) r1 (by rw [r2]; exact hk) more r4)
    rcases want_of hR.fr h with ⟨hw,h⟩ | ⟨hw,h⟩
    ·rcases pe_of (o:=o) (a:=a) (m:=s.m) hX.tab hR.fr rfl h with h | ⟨v,h1,h2,h3⟩
     ·split at h
      ·rename_i t x hop
       rcases ld_of (o:=o) (a:=a) hX.tab hR.fr hop h with h | ⟨j,q,v,h1,h2,h3,h4,h5⟩
       ·exact h.elim
       ·split at h5
        ·rename_i hb
         simp only [Bool.and_eq_true] at hb
         obtain ⟨hb1,hb2⟩:=hb
         unfold mayLd at hb2
         simp only [Bool.and_eq_true,Bool.not_eq_true',List.all_eq_true,Bool.or_eq_true] at hb2
         have hjl:j < m0.length:=by simpa [Nat.blt_eq] using hb1
         have hq0:=hk.at_ j _ (List.getElem?_eq_getElem hjl) hb2.1
         rw [h1] at hq0; cases hq0
         obtain ⟨w1,w2,w3⟩:=hR.h.wf j _ h1 h2
         refine fin (fun w=>Blk w m0[j].g m0[j].t (rowA m0 m0[j])) v (fun L' w' hcl' hi' hS'=>hS' j _ (List.getElem?_eq_getElem hjl) h2 fun q hq1 hq2=>?_) (h3 w1) (.inl ⟨hw,fun w' hB=>h4 w' w2 (by rwa [rowA_ext hk.ext (hW j _ (List.getElem?_eq_getElem hjl) h2).1])⟩) h5
         cases hlq:L'.getD q.1 false with
         | false=>rfl
         | true =>
          rcases hb2.2 q hq1 with hx | hx
          ·rw [hq2] at hx; simp at hx
          ·obtain ⟨oq,e1,e,e2,e3,e4⟩:=hasE_of hx
           have:=hcl' q.1 oq e1 hlq e e2 e3
           rw [e4] at this
           rcases Nat.lt_or_ge i L'.size with z | z
           ·simp [z] at this hi'; rw [this] at hi'; cases hi'
           ·simp [Array.getElem?_eq_none z] at this
        ·exact h5.elim
      ·replace h:=h.out
       obtain ⟨v,h1,h2,h3⟩:=h
       exact fin (fun _=>True) v (fun _ _ _ _ _=>trivial) h1 (.inl ⟨hw,fun w' _=>h2 a hR.fr w'⟩) h3
     ·exact fin (fun _=>True) v (fun _ _ _ _ _=>trivial) h1 (.inl ⟨hw,fun w' _=>h2 w'⟩) h3
    ·exact fin (fun _=>True) (.v undef) (fun _ _ _ _ _=>trivial) rfl (.inr ⟨hw,rfl⟩) h
 | .ef i r,n+1,L,don,s,a,w,hc,hcl,hR,hk,hd,h=>by
  simp only [chk,Bool.and_eq_true] at hc
  obtain ⟨c1,c3⟩:=hc
  have c1:=eq_of_beq c1
  unfold exD2 at h
  refine ⟨fun e=>(by rw [c1] at e; cases e),fun k hk2=>?_⟩
  have hr:=hk2
  rw [c1,List.mem_singleton] at hk2; subst hk2
  exact effD2 hX hW ha (mem_ready.1 hr).1 hR hk hd (fun r1 r2 r3 r4=>exD2_of hX hW ha hs hQ hP c3 (hcl.set hr) r1 r2 r3 r4) h
 | .fk i j r q,n+1,L,don,s,a,w,hc,hcl,hR,hk,hd,h=>by
  simp only [chk,Bool.and_eq_true] at hc
  obtain ⟨⟨c1,c3⟩,c4⟩:=hc
  have c1:=eq_of_beq c1
  unfold exD2 at h
  refine ⟨fun e=>(by rw [c1] at e; cases e),fun k hk2=>?_⟩
  have hr:=hk2
  rw [c1] at hk2
  rcases List.mem_cons.1 hk2 with rfl | hk2
  ·exact effD2 hX hW ha (mem_ready.1 hr).1 hR hk hd (fun r1 r2 r3 r4=>exD2_of hX hW ha hs hQ hP c3 (hcl.set hr) r1 r2 r3 r4) h.1
  ·rw [List.mem_singleton] at hk2; subst hk2
   exact effD2 hX hW ha (mem_ready.1 hr).1 hR hk hd (fun r1 r2 r3 r4=>exD2_of hX hW ha hs hQ hP c4 (hcl.set hr) r1 r2 r3 r4) h.2
 | .f3 i j l r q t,n+1,L,don,s,a,w,hc,hcl,hR,hk,hd,h=>by
  simp only [chk,Bool.and_eq_true] at hc
  obtain ⟨⟨⟨c1,c3⟩,c4⟩,c5⟩:=hc
  have c1:=eq_of_beq c1
  unfold exD2 at h
  refine ⟨fun e=>(by rw [c1] at e; cases e),fun k hk2=>?_⟩
  have hr:=hk2
  rw [c1] at hk2
  rcases List.mem_cons.1 hk2 with rfl | hk2
  ·exact effD2 hX hW ha (mem_ready.1 hr).1 hR hk hd (fun r1 r2 r3 r4=>exD2_of hX hW ha hs hQ hP c3 (hcl.set hr) r1 r2 r3 r4) h.1
  rcases List.mem_cons.1 hk2 with rfl | hk2
  ·exact effD2 hX hW ha (mem_ready.1 hr).1 hR hk hd (fun r1 r2 r3 r4=>exD2_of hX hW ha hs hQ hP c4 (hcl.set hr) r1 r2 r3 r4) h.2.1
  ·rw [List.mem_singleton] at hk2; subst hk2
   exact effD2 hX hW ha (mem_ready.1 hr).1 hR hk hd (fun r1 r2 r3 r4=>exD2_of hX hW ha hs hQ hP c5 (hcl.set hr) r1 r2 r3 r4) h.2.2
theorem drW (hX:X.Ok) (ef:List Nat) (chg:List (Nat×Nat)) {id:Nat} {ops:Array Oper} {K:Exit→St→Prop}
  (h:stoK ef ops.toList s.fr 0 ops.toList fun sts=>allK s.m 0 fun all=>exD2 X ops.toList all s.m (chg++sts) (planOf ef ops.toList) [] s (K .normal)) (hm:X.P.follows .mixedOrders=true:=by kernel_rfl)
  (hc:(Region.noSelect ops && chk ops ops.size (Array.replicate ops.size false) (planOf ef ops.toList))=true:=by kernel_rfl):Sm X (.region id ops true) s K:=by
 refine ⟨?_⟩
 intro a w hR
 simp only [Bool.and_eq_true] at hc
 obtain ⟨sts,h,hsts⟩:=stoK_of h
 obtain ⟨all,h,hall⟩:=allK_of h
 have hR':Rel X s a w.drew:=⟨hR.ds,hR.sz,hR.fr,hR.h.drew⟩
 have hW:W0 s.m:=fun j r hj hl=>⟨(hR.h.wf j r hj hl).1,(hR.h.wf j r hj hl).2.1⟩
 have hcl:Clo ops (Array.replicate ops.size false):=fun k o ho hk=>by
  have hlt:=(Array.getElem?_eq_some_iff.1 ho).1
  simp [hlt] at hk
 have hA:=exD2_of (K:=K .normal) (Q:=Qof X K) hX hW (fun j=>by rw [hall]; omega) hc.1 (fun a w s hR h=>(⟨s,hR,h⟩:Qof X K .normal a w)) (fun c a w h=>h) hc.2 hcl hR' ⟨Ext.refl _,fun j r hr _=>hr⟩ (fun j hj=>by cases hj) h
 exact wp_region_any hm hA.out
end
end En
namespace Rk
open Go.RowKit Ba Mem En Go.Proofs.YtpiiblkiddcgcaaGreat.Ty Mo Go.Proofs.YtpiiblkiddcgcaaGreat.St Co
open Gr (GrV CarsAt WaitsAt carL waitL waitsO pairO grpA giveR)
open Et (carsO car_at)
open Rg (RO RP FP giveGR)
open Ri (MsgV msgC)
open Qu (askE atS oQ)
open Le (isS atP oI)
open Fl (leaE)
set_option maxRecDepth 100000
attribute [local irreducible] Go.Calls
set_option maxHeartbeats 2000000
theorem one_cc (G:GrV) (i:Int):(giveR G i).1.c=G.c:=by unfold giveR; exact one_c _ _ _
theorem endKR {lo:Nat} {p:XP} {K:KV} {E:List EvV} {w:World} (hg:CO lo p K E w) (hl:K.L.length≤10000) {i:Nat} {l:LeaseV} (hx:K.L[i]?=some l):Calls Tryz.prog 134 #[.pointer (some ⟨p.q,0,none⟩),.int .i64 (i:Int)] w (CX lo p w (.tuple #[]) ⟨(giveR K.G l.ca).1,K.Q,K.L.eraseIdx i⟩ E):=by
 have h0:=hg.1
 have h1:=hg.2.2.1.1
 have hlo:lo≤w.heap.size:=Nat.le_of_lt (Nat.lt_of_le_of_lt h0 hg.2.1.lt)
 obtain ⟨hi,hxe⟩:=List.getElem?_eq_some_iff.1 hx
 obtain ⟨q,g0,P,AQ,cQ,AL,cL,AE,cE⟩:=p
 obtain ⟨g,hA⟩:=Ek.addr hg.2.2.2.2.1
 obtain rfl:AL=some ⟨g,0,none⟩:=hA (by omega)
 have hcap:K.L.length≤cL:=Le.lea_cap hg.2.2.2.2.1
 have hle:(K.L.eraseIdx i).length=K.L.length - 1:=List.length_eraseIdx_of_lt hi
 have hcc:=one_cc K.G l.ca
 have hG:∀ w1:World,Blk w1 g0 72 (grpA K.G (.slice P.A1 K.G.cars.length P.c1) (.slice P.A2 K.G.waits.length P.c2))→(xo0 lo K ⟨q,g0,P,AQ,cQ,some ⟨g,0,none⟩,cL,AE,cE⟩ true).st w1→Calls Tryz.prog 49 #[.pointer (some ⟨g0,0,none⟩),.int .i64 l.ca] w1 (Rg.RX lo g0 P w1 (.int .i64 (giveR K.G l.ca).2) (giveR K.G l.ca).1):=fun w1 hB hA=>giveGR ⟨h1,hB,hA.1,hA.2⟩ l.ca
 obtain ⟨G',hG'⟩:∃ G',G'=(giveR K.G l.ca).1:=⟨_,rfl⟩
 rw [← hG'] at hG hcc ⊢
 refine entH tab_ok (hold_cx true (fun _ g h=>h) hg) [.p 0 0,.i .i64 (i:Int)] Tryz.func134 Tryz.ntmps134 rfl rfl ?_
 repeat' ((conv=>whnf); first | refine sgo ⟨tab_ok⟩ ?_|refine br_not ?_|refine br_t rfl ?_|refine br_f rfl ?_|refine br_t (by assumption) ?_|refine br_f (by assumption) ?_|refine br_t (decide_eq_true (by assumption)) ?_|refine br_f (decide_eq_false (by assumption)) ?_|refine br_t (beq_iff_eq.2 (by assumption)) ?_|refine br_f (beq_eq_false_iff_ne.2 (by assumption)) ?_|refine drW (id:=0) ⟨tab_ok⟩ [11] [(12,1)] ?_|refine drA ⟨tab_ok⟩ [] ?_|refine kpt ?_|refine br_t (decide_eq_true (by omega)) ?_|refine br_f (decide_eq_false (by omega)) ?_|refine wr_i ?_|refine opiv ⟨tab_ok⟩ (by rfl) (by rfl) (by rfl) (by rfl) (by rfl) (by rfl) ⟨by omega,by omega⟩ ?_|refine puiv ⟨tab_ok⟩ (by rfl) (by rfl) (by rfl) (by rfl) (by rfl) (by rfl) ⟨by omega,by omega⟩ ?_|refine opfv ⟨tab_ok⟩ (by rfl) (by rfl) (by rfl) (by rfl) ?_|refine pufv ⟨tab_ok⟩ (by rfl) (by rfl) (by rfl) (by rfl) ?_|refine pus_h ⟨tab_ok⟩ (h1:=i) (by rfl) (by rfl) (by rfl) (by rfl) (by rfl) (by rfl) ⟨rfl,(by show i≤cL; omega)⟩ ?_|refine pus_l ⟨tab_ok⟩ (l:=i+1) (by rfl) (by rfl) (by rfl) (by rfl) (by rfl) (by rfl) ⟨by omega,(by show i+1≤K.L.length; omega)⟩ ?_|refine opxc (g:=g) (off:=0+i*10+5) (.i .i64 l.ca) (fun w1 hH=>cell_k (k:=5) (Ek.rng (hob hH (A:=rwO leaE lo (some ⟨g,0,none⟩) K.L.length cL K.L true) 2 rfl) hx) rfl) ⟨tab_ok⟩ (by rfl) (by rfl) (by first | (simp only [Go.WideShapes.add_plain]; done)|(simp only [Go.WideShapes.add_plain]; rfl)) ?_|refine callRO (f:=49) 1 0 (A:=xo0 lo K ⟨q,g0,P,AQ,cQ,some ⟨g,0,none⟩,cL,AE,cE⟩ true) (ι:=RP) (fun _=>.i .i64 (giveR K.G l.ca).2) (fun P'=>[.i .i64 G'.c.ca,.i .i64 G'.c.fl,.i .i64 G'.c.ft,.i .i64 G'.c.se,.i .i64 G'.c.dr,.i .i64 G'.c.dw,.i .i64 G'.c.ho,.i .i64 G'.c.re,.i .i64 G'.c.yi,.i .i64 G'.c.qu,.i .i64 G'.c.qo,.i .i64 G'.c.lo,.i .i64 G'.c.sl,.i .i64 G'.c.rt,.i .i64 G'.c.cp,.i .i64 G'.c.tr,.i .i64 G'.c.de,.i .i64 G'.c.wi,.v (.slice P'.A1 G'.cars.length P'.c1),.v (.slice P'.A2 G'.waits.length P'.c2),.i .i64 G'.now]) (fun P'=>pairO (carsO lo P'.A1 G'.cars.length P'.c1 G'.cars true) (waitsO lo P'.A2 G'.waits.length P'.c2 G'.waits true)) ?_ (fun P'=>?_)|refine opb0 leaE (by rfl) Tryz.underlying96 (by kernel_rfl) (fun g4=>?_)|refine opao 4 2 (e:=101) (lo:=w.heap.size) (size:=10) (bytes:=80) (z:=.agg #[.int .i64 0,.int .i64 0,.int .i64 0,.int .i64 0,.int .i64 0,.int .i64 0,.int .i64 0,.int .i64 0,.int .i64 0,.int .i64 0]) (A:=rwO leaE w.heap.size (some ⟨g4,0,none⟩) 0 0 [] true) (E:=rwO leaE lo (some ⟨g,0,none⟩) K.L.length cL K.L true) (vals:=[]) (cells:=rowsOf leaE.c (K.L.take i)) (zs:=rowsOf leaE.c (K.L.take i)) (n2:=i) (fun A1 c1=>rwO leaE w.heap.size A1 i c1 (K.L.take i) true) (by rfl) (by rfl) (by rfl) (by rfl) (by rfl) rfl rfl (fun w h=>h) (fun A' c' w h=>h) (fun _ _=>rfl) (fun w1 h=>Ek.rd_take h rfl (by omega)) Tryz.underlying96 (by kernel_rfl) rfl (by decide) (by decide) (Ek.ones _ _) (by omega) (fun w hH=>hH.upd.size) (by omega) rfl (fun A1 c1=>?_)|refine opao 4 2 (e:=101) (lo:=w.heap.size) (size:=10) (bytes:=80) (z:=.agg #[.int .i64 0,.int .i64 0,.int .i64 0,.int .i64 0,.int .i64 0,.int .i64 0,.int .i64 0,.int .i64 0,.int .i64 0,.int .i64 0]) (A:=rwO leaE w.heap.size A1 i c1 (K.L.take i) true) (E:=rwO leaE lo (some ⟨g,0,none⟩) K.L.length cL K.L true) (vals:=rowsOf leaE.c (K.L.take i)) (cells:=rowsOf leaE.c (K.L.drop (i+1))) (zs:=rowsOf leaE.c (K.L.eraseIdx i)) (n2:=(K.L.eraseIdx i).length) (fun A1 c1=>rwO leaE w.heap.size A1 (K.L.eraseIdx i).length c1 (K.L.eraseIdx i) true) (by rfl) (by rfl) (by rfl) (by rfl) (by rfl) rfl rfl (fun w h=>h) (fun A' c' w h=>h) (fun _ _=>rfl) (fun w1 h=>Ek.rd_drop h rfl (by omega)) Tryz.underlying96 (by kernel_rfl) rfl (by decide) (by decide) (Ek.ones _ _) (by omega) (fun w hH=>hH.upd.size) (by omega) (by rw [List.eraseIdx_eq_take_drop_succ,rowsOf_append]) (fun A2 c2=>?_)|refine fin_cx 1 4 3 (p:=⟨q,g0,P,AQ,cQ,some ⟨g,0,none⟩,cL,AE,cE⟩) (p':=⟨q,g0,P',AQ,cQ,A2,c2,AE,cE⟩) (by rfl) (by rfl) (by rfl) (by rfl) (by rfl) (by rfl) rfl rfl (by rfl) h0 h1 (Nat.le_refl _) (Nat.le_refl _) hlo (Nat.le_refl _) (by simp only [xcA,hcc]; rfl) (by rfl)|refine fin_s ?_|refine fin_r ?_ ?_|refine fin_e ?_ ?_)
 intro w1 hH hB hA hne
 refine (hG w1 hB hA).mono (fun e w' h=>?_)
 exact h.parts
end Rk
namespace En
open Go.RowKit Ba Mem
section
variable {X:Cx} {m:List Row} {ob:List Asr} {w:World} {s:St}
def Pk (ob:List Asr) (j:Nat) (B:Asr):Prop:=∃ A,ob[j]?=some A∧(∀ w,A.st w→B.st w)∧(∀ g∈B.F,g∈A.F)∧B.rw=A.rw
theorem Pk.same {j:Nat} {B:Asr} (h:ob[j]?=some B):Pk ob j B:=⟨B,h,fun _ h=>h,fun _ h=>h,rfl⟩
theorem Pk.low {α:Type} {E:Ek α} {lo lo' n c:Nat} {A:Option Addr} {ls:List α} {rw:Bool} {j:Nat} (h:ob[j]?=some (rwO E lo A n c ls rw)) (hl:lo'≤lo):Pk ob j (rwO E lo' A n c ls rw):=⟨_,h,fun _ h=>Ek.base h hl,fun _ h=>h,rfl⟩
theorem Pk.none {α:Type} {E:Ek α} {lo lo' n c:Nat} {A:Option Addr} {ls:List α} {rw:Bool} {j:Nat} (h:ob[j]?=some (rwO E lo A n c ls rw)):Pk ob j (rwO E lo' none 0 0 [] rw):=⟨_,h,fun w _=>Ek.nil E lo' w,(fun g hg=>by cases hg),rfl⟩
inductive Pks (ob:List Asr):List Nat→List Asr→Prop where
 | nil:Pks ob [] []
 | cons {j:Nat} {js:List Nat} {B:Asr} {r:List Asr}:Pk ob j B→Pks ob js r→Pks ob (j::js) (B::r)
theorem Pks.mem:∀ {js:List Nat} {r:List Asr},Pks ob js r→∀ B∈r,∃ j∈js,Pk ob j B
 | _,_,.nil,B,h=>by cases h
 | _,_,.cons h t,B,hB=>by
  rcases List.mem_cons.1 hB with rfl | hB
  ·exact ⟨_,List.mem_cons_self ..,h⟩
  ·obtain ⟨j,hj,q⟩:=t.mem B hB
   exact ⟨j,List.mem_cons_of_mem _ hj,q⟩
theorem Pks.dis (hd:ob.Pairwise DisR):∀ {js:List Nat} {r:List Asr},Pks ob js r→js.Nodup→r.Pairwise DisR
 | _,_,.nil,_=>List.Pairwise.nil
 | _,_,.cons h t,hn=>by
  obtain ⟨h1,h2⟩:=List.nodup_cons.1 hn
  refine List.pairwise_cons.2 ⟨fun C hC=>?_,t.dis hd h2⟩
  obtain ⟨k,hk,B,q1,_,q3,q4⟩:=t.mem C hC
  obtain ⟨A,p1,_,p3,p4⟩:=h
  have:=pair_at (R:=DisR) (fun _ _ h=>h.symm) hd p1 q1 (fun e=>h1 (by rw [e]; exact hk))
  unfold DisR at this ⊢
  rw [p4,q4]
  exact fun hr g hg hg2=>this hr g (p3 g hg) (q3 g hg2)
theorem Hold.pick {ob':List Asr} (h:Hold X m ob w) (js:List Nat) (hp:Pks ob js ob') (hn:js.Nodup:=by decide):Hold X m ob' w:=by
 refine ⟨h.upd,h.row,h.wf,h.ne,fun B hB=>?_,fun B hB=>?_,fun B hB=>?_,hp.dis h.dis hn⟩
 ·obtain ⟨j,_,A,h1,h2,_,_⟩:=hp.mem B hB
  exact h2 w (h.obj A (List.mem_of_getElem? h1))
 ·obtain ⟨j,_,A,h1,_,h3,_⟩:=hp.mem B hB
  exact fun k r hk hl hg=>h.far A (List.mem_of_getElem? h1) k r hk hl (h3 _ hg)
 ·obtain ⟨j,_,A,h1,_,h3,h4⟩:=hp.mem B hB
  rw [h4]; exact fun hr g hg=>h.own A (List.mem_of_getElem? h1) hr g (h3 g hg)
end
end En
namespace Rk
open Go.RowKit Ba Mem En Go.Proofs.YtpiiblkiddcgcaaGreat.Ty Mo Go.Proofs.YtpiiblkiddcgcaaGreat.St Co
open Gr (GrV CarsAt WaitsAt carL waitL waitsO pairO grpA giveR aimR)
open Et (carsO car_at)
open Rg (RO RP FP giveGR aimGR)
open Ri (MsgV msgC aimF)
open Qu (askE atS oQ)
open Le (isS atP oI)
open Fl (leaE)
set_option maxRecDepth 100000
attribute [local irreducible] Go.Calls
set_option maxHeartbeats 2000000
theorem co_of {X:Cx} {lo q g0:Nat} {x:XP} {K:KV} {E:List EvV} {w:World} {mr:List Row} {obr:List Asr} {rw:Bool}
  (h:Hold X (⟨q,98,true,0,[],xcL K E.length x,[],rw⟩::⟨g0,72,true,0,[],grS K x,[],rw⟩::mr) (xo0 lo K x rw::rwO askE lo x.AQ K.Q.length x.cQ K.Q rw::rwO leaE lo x.AL K.L.length x.cL K.L rw::rwO evE lo x.AE E.length x.cE E rw::obr) w) (hq:lo≤q) (hg:lo≤g0) :
  CO lo { x with q:=q,g:=g0 } K E w:=by
 have r0:=h.row 0 _ rfl rfl
 have r1:=h.row 1 _ rfl rfl
 rw [rowA_nil rfl rfl] at r0 r1
 have o0:=hob h 0 rfl
 exact ⟨hq,r0,⟨hg,r1,o0.1,o0.2⟩,hob h (A:=rwO askE lo x.AQ K.Q.length x.cQ K.Q rw) 1 rfl,hob h (A:=rwO leaE lo x.AL K.L.length x.cL K.L rw) 2 rfl,hob h (A:=rwO evE lo x.AE E.length x.cE E rw) 3 rfl⟩
theorem callC {X:Cx} {s:St} {f:FuncId} {vs:List SV} {Kc:SV→St→Prop} {mr:List Row} {obr:List Asr} {lo q g0:Nat} (x:XP) (K:KV) (E:List EvV) (K':KV) (E':List EvV) (v:SV) (V:Value)
  (hs:∀ w,Hold X s.m s.ob w→CO lo { x with q:=q,g:=g0 } K E w→Calls X.P f (denL s.m vs).toArray w (CX lo { x with q:=q,g:=g0 } w V K' E'))
  (h:∀ x':XP,Kc v ⟨s.fr,⟨q,98,true,0,[],xcL K' E'.length x',[],true⟩::⟨g0,72,true,0,[],grS K' x',[],true⟩::mr,xo0 lo K' x' true::rwO askE lo x'.AQ K'.Q.length x'.cQ K'.Q true::rwO leaE lo x'.AL K'.L.length x'.cL K'.L true::rwO evE lo x'.AE E'.length x'.cE E' true::obr⟩)
  (hq:lo≤q) (hg:lo≤g0) (hm:s.m=⟨q,98,true,0,[],xcL K E.length x,[],true⟩::⟨g0,72,true,0,[],grS K x,[],true⟩::mr:=by rfl) (hob:s.ob=xo0 lo K x true::rwO askE lo x.AQ K.Q.length x.cQ K.Q true::rwO leaE lo x.AL K.L.length x.cL K.L true::rwO evE lo x.AE E.length x.cE E true::obr:=by rfl)
  (hV:den s.m v=V:=by rfl) (he:entChk X.P f=true:=by kernel_rfl) (hv:okV s.m.length v=true:=by rfl):CallVC X f vs s Kc:=by
 have hlen:2≤s.m.length:=by rw [hm]; simp
 refine callG (ι:=XP) (fun _=>v) (fun x'=>xcL K' E'.length x') (fun x'=>grS K' x') (fun x'=>xo0 lo K' x' true) (fun x'=>rwO askE lo x'.AQ K'.Q.length x'.cQ K'.Q true) (fun x'=>rwO leaE lo x'.AL K'.L.length x'.cL K'.L true) (fun x'=>rwO evE lo x'.AE E'.length x'.cE E' true) ?_ h hm hob (by rfl) (by rfl) he (fun x'=>?_)
 ·intro w hH
  have hH2:=hH
  rw [hm,hob] at hH2
  have hc:=co_of (X:=X) hH2 hq hg
  refine (hs w hH hc).mono (fun e w' h=>?_)
  obtain ⟨x',h1,h2,h3,h4,h5,h6,h7⟩:=h.parts (xo0 lo K x true) (rwO askE lo x.AQ K.Q.length x.cQ K.Q true) (rwO leaE lo x.AL K.L.length x.cL K.L true) (rwO evE lo x.AE E.length x.cE E true) rfl
  refine ⟨x',by rw [h1,hV], ?_, ?_,h4,h5,h6,h7⟩
  ·rw [hm]; exact h2
  ·rw [hm]; exact h3
 ·rw [Bool.and_eq_true,Bool.and_eq_true]
  refine ⟨⟨hv, ?_⟩, ?_⟩
  ·rw [hm]; rfl
  ·rw [hm]; rfl
theorem evs_next (s:Int) {ms:List MsgV} {j:Nat} {m:MsgV} (h:ms[j]?=some m):evs s (ms.take (j+1))=evs s (ms.take j)++[EvV.mk s m]:=by
 obtain ⟨hj,rfl⟩:=List.getElem?_eq_some_iff.1 h
 unfold evs
 rw [List.take_succ_eq_append_getElem hj,List.map_append]; rfl
end Rk
namespace Rk
open Go.RowKit Ba Mem En Go.Proofs.YtpiiblkiddcgcaaGreat.Ty Mo Go.Proofs.YtpiiblkiddcgcaaGreat.St Co
open Gr (GrV CarsAt WaitsAt carL waitL waitsO pairO grpA giveR aimR)
open Et (carsO car_at)
open Rg (RO RP FP giveGR aimGR)
open Ri (MsgV msgC aimF)
open Qu (askE atS oQ)
open Le (isS atP oI)
open Fl (leaE)
set_option maxRecDepth 100000
attribute [local irreducible] Go.Calls
set_option maxHeartbeats 1000000
theorem putAt_all {cs:Array Value} {vs:List Value} (h:cs.size=vs.length):putAt cs 0 vs=vs.toArray:=by
 apply Array.ext'
 rw [putAt_list vs cs 0 (by omega),List.take_zero,List.nil_append,List.drop_eq_nil_of_le (by rw [Array.length_toList]; omega),List.append_nil]
def aftK (K:KV) (i:Nat) (l0 l:LeaseV) (o:Bool):KV:=if o=true then ⟨(giveR K.G l0.ca).1,K.Q,K.L.eraseIdx i⟩ else ⟨(aimR K.G l.ca (aimF l) true).1,K.Q,K.L.set i l⟩
theorem aft_t (K:KV) (i:Nat) (l0 l:LeaseV):aftK K i l0 l true=⟨(giveR K.G l0.ca).1,K.Q,K.L.eraseIdx i⟩:=rfl
theorem aft_f (K:KV) (i:Nat) (l0 l:LeaseV):aftK K i l0 l false=⟨(aimR K.G l.ca (aimF l) true).1,K.Q,K.L.set i l⟩:=rfl
theorem aim_cc (G:GrV) (i f:Int) (u:Bool):(aimR G i f u).1.c=G.c:=aim_c _ _ _ _
theorem cx_far {lo:Nat} {p:XP} {K:KV} {E:List EvV} {w:World} (hg:CO lo p K E w) {lm nm cm:Nat} {Am:Option Addr} {ms:List MsgV} (ho:msgE.At lm Am nm cm ms w) (hn:ms.length=nm):(∀ r∈xoM K E.length p true,r.live=true→r.g∉blkOf Am)∧∀ A∈xoO lo K E p true,DisR A (rwO msgE lm Am nm cm ms false):=by
 obtain ⟨h0,hB,⟨hg0,hGB,hC,hW⟩,hQ,hL,hE⟩:=hg
 constructor
 ·intro r hr _
  simp only [List.mem_cons,List.not_mem_nil,or_false] at hr
  rcases hr with rfl | rfl
  ·exact own_ne_ty ho hB (by decide)
  ·exact own_ne_ty ho hGB (by decide)
 ·intro A hA
  simp only [List.mem_cons,List.not_mem_nil,or_false] at hA
  rcases hA with rfl | rfl | rfl | rfl
  ·exact fun _ g hg=>(List.mem_append.1 hg).elim (own_dis hC ho rfl rfl (by decide) g) (own_dis hW ho rfl rfl (by decide) g)
  ·exact fun _=>own_dis hQ ho rfl rfl (by decide)
  ·exact fun _=>own_dis hL ho rfl rfl (by decide)
  ·exact fun _=>own_dis hE ho rfl rfl (by decide)
theorem afterKR {lo:Nat} {p:XP} {K:KV} {E:List EvV} {w:World} (hg:CO lo p K E w) (hl:K.L.length≤10000) {lm nm cm:Nat} {Am:Option Addr} {ms:List MsgV} (ho:msgE.At lm Am nm cm ms w) (hn:ms.length=nm) (hE:E.length+nm≤10000) {i:Nat} {l0:LeaseV} (hx:K.L[i]?=some l0) (l:LeaseV) (o:Bool) :
  Calls Tryz.prog 59 #[.pointer (some ⟨p.q,0,none⟩),.int .i64 (i:Int),.agg #[.int .i64 l.se,.int .i64 l.fl,.int .i64 l.fm,.int .i64 l.to,.int .i64 l.ma,.int .i64 l.ca,.int .i64 l.ph,.int .i64 l.un,.int .i64 l.re,.int .i64 l.gr],.slice Am nm cm,.bool o] w (CX lo p w (.tuple #[]) (aftK K i l0 l o) (E++evs l.se ms)):=by
 have h0:=hg.1
 have h1:=hg.2.2.1.1
 have hlo:lo≤w.heap.size:=Nat.le_of_lt (Nat.lt_of_le_of_lt h0 hg.2.1.lt)
 obtain ⟨hi,hxe⟩:=List.getElem?_eq_some_iff.1 hx
 obtain ⟨hfar,hdis⟩:=cx_far hg ho hn
 obtain ⟨gm,hAm⟩:=Ek.addr ho
 have hls:(K.L.set i l).length=K.L.length:=List.length_set
 obtain ⟨q,g0,P,AQ,cQ,AL,cL,AE,cE⟩:=p
 refine entH tab_ok (Hold.addObj (hold_cx true (fun _ g h=>h) hg) (rwO msgE lm Am nm cm ms false) ho (by intro k; cases k) hfar hdis) [.p 0 0,.i .i64 (i:Int),.a [.i .i64 l.se,.i .i64 l.fl,.i .i64 l.fm,.i .i64 l.to,.i .i64 l.ma,.i .i64 l.ca,.i .i64 l.ph,.i .i64 l.un,.i .i64 l.re,.i .i64 l.gr],.v (.slice Am nm cm),.b o] Tryz.func59 Tryz.ntmps59 rfl rfl ?_
 repeat' ((conv=>whnf); first | refine sgo ⟨tab_ok⟩ ?_|refine br_not ?_|refine br_t rfl ?_|refine br_f rfl ?_|refine br_t (by assumption) ?_|refine br_f (by assumption) ?_|refine br_t (decide_eq_true (by assumption)) ?_|refine br_f (decide_eq_false (by assumption)) ?_|refine br_t (beq_iff_eq.2 (by assumption)) ?_|refine br_f (beq_eq_false_iff_ne.2 (by assumption)) ?_|refine drA ⟨tab_ok⟩ [] ?_|refine kpt ?_|refine fin_s ?_|refine fin_r ?_ ?_|refine fin_e ?_ ?_)
 conv=>whnf
 intro b
 repeat' ((conv=>whnf); first | refine sgo ⟨tab_ok⟩ ?_|refine br_not ?_|refine br_t rfl ?_|refine br_f rfl ?_|refine br_t (by assumption) ?_|refine br_f (by assumption) ?_|refine br_t (decide_eq_true (by assumption)) ?_|refine br_f (decide_eq_false (by assumption)) ?_|refine br_t (beq_iff_eq.2 (by assumption)) ?_|refine br_f (beq_eq_false_iff_ne.2 (by assumption)) ?_|refine drA ⟨tab_ok⟩ [] ?_|refine kpt ?_|refine fin_s ?_|refine fin_r ?_ ?_|refine fin_e ?_ ?_)
 conv=>whnf
 refine lp ⟨tab_ok⟩ (ι:={y:Nat×XP×List EvV // y.1≤nm∧y.2.2=E++evs l.se (ms.take y.1)}) (fun y=>match y with | ⟨(j,x,Ex),_⟩=>⟨[(0,.p 0 0),(1,.i .i64 (i:Int)),(3,.v (.slice Am nm cm)),(4,.b o),(7,.p 2 0),(10,.i .i64 (j:Int))],[⟨q,98,true,0,[],xcL K Ex.length x,[],true⟩,⟨g0,72,true,0,[],grS K x,[],true⟩,⟨b,101,true,0,[],[.i .i64 l.se,.i .i64 l.fl,.i .i64 l.fm,.i .i64 l.to,.i .i64 l.ma,.i .i64 l.ca,.i .i64 l.ph,.i .i64 l.un,.i .i64 l.re,.i .i64 l.gr],[],true⟩],[xo0 lo K x true,rwO askE lo x.AQ K.Q.length x.cQ K.Q true,rwO leaE lo x.AL K.L.length x.cL K.L true,rwO evE lo x.AE Ex.length x.cE Ex true,rwO msgE lm Am nm cm ms false]⟩) (fun y=>nm - y.1.1) ⟨(0,⟨q,g0,P,AQ,cQ,AL,cL,AE,cE⟩,E),Nat.zero_le _,by simp [evs]⟩ (wk ?_) ?_
 ·repeat' (first | exact trivial | rfl | ((conv=>whnf); refine And.intro ?_ ?_))
 rintro ⟨⟨j,x,Ex⟩,hj,hEx⟩
 have hj:j≤nm:=hj
 have hEx:Ex=E++evs l.se (ms.take j):=hEx
 have hEl:Ex.length=E.length+j:=by rw [hEx,List.length_append]; simp [evs,List.length_take]; omega
 by_cases hlt:j < nm
 ·obtain ⟨m,hm⟩:∃ m,ms[j]?=some m:=⟨_,List.getElem?_eq_getElem (by omega)⟩
  obtain rfl:=hAm (by omega)
  have hnx:Ex++[EvV.mk l.se m]=E++evs l.se (ms.take (j+1)):=by rw [evs_next l.se hm,hEx,List.append_assoc]
  repeat' ((conv=>whnf); first | refine sgo ⟨tab_ok⟩ ?_|refine br_not ?_|refine br_t rfl ?_|refine br_f rfl ?_|refine br_t (by assumption) ?_|refine br_f (by assumption) ?_|refine br_t (decide_eq_true (by assumption)) ?_|refine br_f (decide_eq_false (by assumption)) ?_|refine br_t (beq_iff_eq.2 (by assumption)) ?_|refine br_f (beq_eq_false_iff_ne.2 (by assumption)) ?_|refine drW (id:=4) ⟨tab_ok⟩ [7] [(8,0),(8,1)] ?_|refine drA ⟨tab_ok⟩ [] ?_|refine kpt ?_|refine br_t (decide_eq_true (by omega)) ?_|refine br_f (decide_eq_false (by omega)) ?_|refine wr_i ?_|refine puiv ⟨tab_ok⟩ (by rfl) (by rfl) (by rfl) (by rfl) (by rfl) (by rfl) ⟨by omega,by omega⟩ ?_|refine opix (g:=gm) (off:=0+j*4) [.i .i64 m.ki,.i .i64 m.a,.i .i64 m.b,.i .i64 m.c] (fun w1 hH=>Ek.rng (hob hH (A:=rwO msgE lm (some ⟨gm,0,none⟩) nm cm ms false) 4 rfl) hm) ⟨tab_ok⟩ (by rfl) (by rfl) (by first | (simp only [Go.WideShapes.add_plain]; done)|(simp only [Go.WideShapes.add_plain]; rfl)) ?_|refine callC (f:=133) x K Ex K (Ex++[EvV.mk l.se m]) (.t []) (.tuple #[]) ?_ (fun x'=>?_) h0 h1 | refine back ⟨(j+1,x',Ex++[EvV.mk l.se m]),by show j+1≤nm; omega,hnx⟩ (wk ?_) ?_|refine fin_s ?_|refine fin_r ?_ ?_|refine fin_e ?_ ?_)
  ·exact fun w1 _ hc=>sayR hc (by omega) l.se m
  all_goals first | (show nm - (j+1) < nm - j; omega)|skip
  all_goals (repeat' (first | exact trivial | rfl | ((conv=>whnf); refine And.intro ?_ ?_)))
 ·obtain rfl:j=nm:=by omega
  have hEx:Ex=E++evs l.se ms:=by rw [hEx,List.take_of_length_le (by omega)]
  rw [← hEx]
  cases o with
  | true =>
   rw [aft_t]
   repeat' ((conv=>whnf); first | refine sgo ⟨tab_ok⟩ ?_|refine br_not ?_|refine br_t rfl ?_|refine br_f rfl ?_|refine br_t (by assumption) ?_|refine br_f (by assumption) ?_|refine br_t (decide_eq_true (by assumption)) ?_|refine br_f (decide_eq_false (by assumption)) ?_|refine br_t (beq_iff_eq.2 (by assumption)) ?_|refine br_f (beq_eq_false_iff_ne.2 (by assumption)) ?_|refine drA ⟨tab_ok⟩ [] ?_|refine kpt ?_|refine br_t (decide_eq_true (by omega)) ?_|refine br_f (decide_eq_false (by omega)) ?_|refine wr_i ?_|refine callC (f:=134) x K Ex ⟨(giveR K.G l0.ca).1,K.Q,K.L.eraseIdx i⟩ Ex (.t []) (.tuple #[]) ?_ (fun x'=>?_) h0 h1 | refine fin_cx 1 2 3 (p:=⟨q,g0,P,AQ,cQ,AL,cL,AE,cE⟩) (p':={ x' with q:=q,g:=g0 }) (by rfl) (by rfl) (by rfl) (by rfl) (by rfl) (by rfl) rfl rfl (by rfl) h0 h1 (Nat.le_refl _) (Nat.le_refl _) (Nat.le_refl _) (Nat.le_refl _) (by rfl) (by rfl)|refine fin_s ?_|refine fin_r ?_ ?_|refine fin_e ?_ ?_)
   exact fun w1 _ hc=>endKR hc hl hx
  | false =>
   have hcc:=aim_cc K.G l.ca (aimF l) true
   have hG:∀ (G':GrV),G'=(aimR K.G l.ca (aimF l) true).1→∀ w1:World,Blk w1 g0 72 (grpA K.G (.slice x.P.A1 K.G.cars.length x.P.c1) (.slice x.P.A2 K.G.waits.length x.P.c2))→(xo0 lo K x true).st w1→Calls Tryz.prog 48 #[.pointer (some ⟨g0,0,none⟩),.int .i64 l.ca,.int .i64 (aimF l),.bool true] w1 (Rg.RX lo g0 x.P w1 (.int .i64 (aimR K.G l.ca (aimF l) true).2) G'):=fun G' hG' w1 hB hA=>by
    rw [hG']; exact aimGR ⟨h1,hB,hA.1,hA.2⟩ l.ca (aimF l) true
   rw [aft_f]
   obtain ⟨G',hG'⟩:∃ G',G'=(aimR K.G l.ca (aimF l) true).1:=⟨_,rfl⟩
   have hG:=hG G' hG'
   rw [← hG'] at hcc ⊢
   repeat' ((conv=>whnf); first | refine sgo ⟨tab_ok⟩ ?_|refine br_not ?_|refine br_t rfl ?_|refine br_f rfl ?_|refine br_t (by assumption) ?_|refine br_f (by assumption) ?_|refine br_t (decide_eq_true (by assumption)) ?_|refine br_f (decide_eq_false (by assumption)) ?_|refine br_t (beq_iff_eq.2 (by assumption)) ?_|refine br_f (beq_eq_false_iff_ne.2 (by assumption)) ?_|refine kpt ?_|refine br_t (decide_eq_true (by omega)) ?_|refine br_f (decide_eq_false (by omega)) ?_|refine wr_i ?_|refine opb0 leaE (by rfl) Tryz.underlying96 (by kernel_rfl) (fun g4=>?_)|refine opao 5 2 (e:=101) (lo:=w.heap.size) (size:=10) (bytes:=80) (z:=.agg #[.int .i64 0,.int .i64 0,.int .i64 0,.int .i64 0,.int .i64 0,.int .i64 0,.int .i64 0,.int .i64 0,.int .i64 0,.int .i64 0]) (A:=rwO leaE w.heap.size (some ⟨g4,0,none⟩) 0 0 [] true) (E:=rwO leaE lo x.AL K.L.length x.cL K.L true) (vals:=[]) (cells:=rowsOf leaE.c K.L) (zs:=rowsOf leaE.c K.L) (n2:=(K.L.set i l).length) (fun A1 c1=>rwO leaE w.heap.size A1 (K.L.set i l).length c1 K.L true) (by rfl) (by rfl) (by rfl) (by rfl) (by rfl) rfl rfl (fun w h=>h) (fun A' c' w h=>h) (fun _ _=>rfl) (fun w1 h=>own_reads h) Tryz.underlying96 (by kernel_rfl) rfl (by decide) (by decide) (Ek.ones _ _) (by omega) (fun w hH=>hH.upd.size) (by omega) rfl (fun A5 c5=>?_)|refine fin_s ?_|refine fin_r ?_ ?_|refine fin_e ?_ ?_)
   conv=>whnf
   refine sm_know (p:=∃ g5,A5=some ⟨g5,0,none⟩) (fun w1 hH=>own_addr (hob hH (A:=rwO leaE w.heap.size A5 (K.L.set i l).length c5 K.L true) 5 rfl) (by omega)) (fun hA5=>?_)
   obtain ⟨g5,rfl⟩:=hA5
   repeat' ((conv=>whnf); first | refine sgo ⟨tab_ok⟩ ?_|refine br_not ?_|refine br_t rfl ?_|refine br_f rfl ?_|refine br_t (by assumption) ?_|refine br_f (by assumption) ?_|refine br_t (decide_eq_true (by assumption)) ?_|refine br_f (decide_eq_false (by assumption)) ?_|refine br_t (beq_iff_eq.2 (by assumption)) ?_|refine br_f (beq_eq_false_iff_ne.2 (by assumption)) ?_|refine drA (id:=8) ⟨tab_ok⟩ [7] ?_|refine drW (id:=10) ⟨tab_ok⟩ [] [(8,1)] ?_|refine kpt ?_|refine br_t (decide_eq_true (by omega)) ?_|refine br_f (decide_eq_false (by omega)) ?_|refine wr_i ?_|refine puiv ⟨tab_ok⟩ (by rfl) (by rfl) (by rfl) (by rfl) (by rfl) (by rfl) ⟨by omega,by omega⟩ ?_|refine opsp ⟨tab_ok⟩ 5 i 0 leaE (A:=rwO leaE w.heap.size (some ⟨g5,0,none⟩) (K.L.set i l).length c5 K.L true) (rwO leaE w.heap.size (some ⟨g5,0,none⟩) (K.L.set i l).length c5 (K.L.set i l) true) l0 l (by rfl) (by rfl) (by first | (simp only [Go.WideShapes.add_plain]; done)|(simp only [Go.WideShapes.add_plain]; rfl)) (by rfl) (by rfl) rfl (fun w h=>h) hx (by exact Nat.le_refl _) (by exact putAt_all (cs:=(leaE.c l0).toArray) (vs:=leaE.c l) rfl) (fun w w' _ h _=>h) (List.mem_singleton.2 rfl) (fun g h=>h) ?_|refine callS (f:=135) (.t [.i .i64 (aimF l),.b true]) (aimKR l) ?_|refine callRO (f:=48) 1 0 (A:=xo0 lo K x true) (ι:=RP) (fun _=>.i .i64 (aimR K.G l.ca (aimF l) true).2) (fun P'=>[.i .i64 G'.c.ca,.i .i64 G'.c.fl,.i .i64 G'.c.ft,.i .i64 G'.c.se,.i .i64 G'.c.dr,.i .i64 G'.c.dw,.i .i64 G'.c.ho,.i .i64 G'.c.re,.i .i64 G'.c.yi,.i .i64 G'.c.qu,.i .i64 G'.c.qo,.i .i64 G'.c.lo,.i .i64 G'.c.sl,.i .i64 G'.c.rt,.i .i64 G'.c.cp,.i .i64 G'.c.tr,.i .i64 G'.c.de,.i .i64 G'.c.wi,.v (.slice P'.A1 G'.cars.length P'.c1),.v (.slice P'.A2 G'.waits.length P'.c2),.i .i64 G'.now]) (fun P'=>pairO (carsO lo P'.A1 G'.cars.length P'.c1 G'.cars true) (waitsO lo P'.A2 G'.waits.length P'.c2 G'.waits true)) ?_ (fun P'=>?_)|refine fin_cx 1 5 3 (p:=⟨q,g0,P,AQ,cQ,AL,cL,AE,cE⟩) (p':=⟨q,g0,P',x.AQ,x.cQ,some ⟨g5,0,none⟩,c5,x.AE,x.cE⟩) (by rfl) (by rfl) (by rfl) (by rfl) (by rfl) (by rfl) rfl rfl (by rfl) h0 h1 (Nat.le_refl _) (Nat.le_refl _) hlo (Nat.le_refl _) (by simp only [xcA,hcc]; rfl) (by rfl)|refine fin_s ?_|refine fin_r ?_ ?_|refine fin_e ?_ ?_)
   intro w1 hH hB hA hne
   refine (hG w1 hB hA).mono (fun e w' h=>?_)
   exact h.parts
end Rk
namespace Rk
open Go.RowKit Ba Mem En Go.Proofs.YtpiiblkiddcgcaaGreat.Ty Mo Go.Proofs.YtpiiblkiddcgcaaGreat.St Co
open Gr (GrV CarsAt WaitsAt carL waitL waitsO pairO grpA giveR aimR)
open Et (carsO car_at)
open Rg (RO RP FP giveGR aimGR)
open Ri (MsgV msgC aimF)
open Qu (askE askC askC_one atS oQ btw)
open Le (isS atP oI)
open Fl (leaE mayB)
set_option maxRecDepth 100000
attribute [local irreducible] Go.Calls
set_option maxHeartbeats 1000000
def CZ (lo:Nat) (p:XP) (w:World) (F:XP→Value) (K:KV) (E:List EvV) (e:Ending) (w':World):Prop:=∃ p':XP,(p'.q=p.q∧p'.g=p.g)∧e=.returned (F p')∧CO lo p' K E w'∧Upd (FX p) w w'∧∀ g∈FX p',g∈FX p∨w.heap.size≤g
theorem fin_cz {lo n l0 l1 l2 l3:Nat} (i j k:Nat) {p p':XP} {K:KV} {E:List EvV} {w:World} {F:XP→Value} {v:SV} {cs0 cs1:List SV} {st:St}
  (hr0:st.m[0]?=some ⟨p.q,98,true,0,[],cs0,[],true⟩) (hr1:st.m[1]?=some ⟨p.g,72,true,0,[],cs1,[],true⟩)
  (h0:st.ob[0]?=some (xo0 l0 K p' true)) (h1:st.ob[i]?=some (rwO askE l1 p'.AQ K.Q.length p'.cQ K.Q true)) (h2:st.ob[j]?=some (rwO leaE l2 p'.AL K.L.length p'.cL K.L true)) (h3:st.ob[k]?=some (rwO evE l3 p'.AE E.length p'.cE E true))
  (hq:p'.q=p.q) (hg:p'.g=p.g) (hv:den st.m v=F p') (hlq:lo≤p.q) (hlg:lo≤p.g) (b0:lo≤l0) (b1:lo≤l1) (b2:lo≤l2) (b3:lo≤l3) (hc0:(denL st.m cs0).toArray=xcA K E.length p') (hc1:(denL st.m cs1).toArray=grpA K.G (.slice p'.P.A1 K.G.cars.length p'.P.c1) (.slice p'.P.A2 K.G.waits.length p'.P.c2)) :
  Fin ⟨Tryz.prog,tab,FX p,w,n,[]⟩ (CZ lo p w F K E) v st:=by
 refine fin fun w' hH=>?_
 have o0:=hob hH 0 h0; have o1:=hob hH i h1; have o2:=hob hH j h2; have o3:=hob hH k h3
 have r0:=hH.row 0 _ hr0 rfl
 have r1:=hH.row 1 _ hr1 rfl
 rw [rowA_nil rfl rfl,hc0] at r0
 rw [rowA_nil rfl rfl,hc1] at r1
 refine ⟨p',⟨hq,hg⟩,by rw [hv],⟨by rw [hq]; exact hlq,by rw [hq]; exact r0,⟨by rw [hg]; exact hlg,by rw [hg]; exact r1,own_base o0.1 b0,own_base o0.2 b0⟩,Ek.base o1 b1,Ek.base o2 b2,Ek.base o3 b3⟩,hH.upd,fun b hb=>?_⟩
 rcases List.mem_cons.1 hb with rfl | hb
 ·rw [hq]; exact (hH.wf 0 _ hr0 rfl).2.2 rfl
 rcases List.mem_cons.1 hb with rfl | hb
 ·rw [hg]; exact (hH.wf 1 _ hr1 rfl).2.2 rfl
 rcases List.mem_append.1 hb with hb | hb
 ·exact hH.own _ (List.mem_of_getElem? h0) rfl b hb
 rcases List.mem_append.1 hb with hb | hb
 ·exact hH.own _ (List.mem_of_getElem? h1) rfl b hb
 rcases List.mem_append.1 hb with hb | hb
 ·exact hH.own _ (List.mem_of_getElem? h2) rfl b hb
 rcases List.mem_append.1 hb with hb | hb
 ·exact hH.own _ (List.mem_of_getElem? h3) rfl b hb
 ·cases hb
def outF (n:Nat) (p:XP):Value:=.slice p.AE n p.cE
def askMR (K:KV) (a:AskV):MsgV:=if mayB K.G.c a=true then (if 0≤oI (atP K.L (isS a.se))∨0≤oQ (atS K.Q a.se) then ⟨7,5,0,0⟩ else if room K≤(K.Q.length:Int) then ⟨6,0,0,0⟩ else ⟨5,(K.Q.length:Int),0,0⟩) else ⟨7,0,0,0⟩
def askQR (K:KV) (a:AskV):List AskV:=if mayB K.G.c a=true then (if 0≤oI (atP K.L (isS a.se))∨0≤oQ (atS K.Q a.se) then K.Q else if room K≤(K.Q.length:Int) then K.Q else K.Q++[a]) else K.Q
theorem askKR {lo:Nat} {p:XP} {K:KV} {E:List EvV} {w:World} (hg:CO lo p K E w) (hl:K.L.length≤10000) (hq:K.Q.length≤1000) (a:AskV) :
  Calls Tryz.prog 70 #[.pointer (some ⟨p.q,0,none⟩),.agg #[.int .i64 a.se,.int .i64 a.fl,.int .i64 a.fm,.int .i64 a.to,.int .i64 a.ma]] w (CZ lo p w (outF 1) { K with Q:=askQR K a } [⟨a.se,askMR K a⟩]):=by
 have h0:=hg.1
 have h1:=hg.2.2.1.1
 have hlo:lo≤w.heap.size:=Nat.le_of_lt (Nat.lt_of_le_of_lt h0 hg.2.1.lt)
 obtain ⟨q,g0,P,AQ,cQ,AL,cL,AE,cE⟩:=p
 refine entH tab_ok (hold_cx true (fun _ g h=>h) hg) [.p 0 0,.a [.i .i64 a.se,.i .i64 a.fl,.i .i64 a.fm,.i .i64 a.to,.i .i64 a.ma]] Tryz.func70 Tryz.ntmps70 rfl rfl ?_
 repeat' ((conv=>whnf); first | refine sgo ⟨tab_ok⟩ ?_|refine br_not ?_|refine br_t rfl ?_|refine br_f rfl ?_|refine br_t (by assumption) ?_|refine br_f (by assumption) ?_|refine br_t (decide_eq_true (by assumption)) ?_|refine br_f (decide_eq_false (by assumption)) ?_|refine br_t (beq_iff_eq.2 (by assumption)) ?_|refine br_f (beq_eq_false_iff_ne.2 (by assumption)) ?_|refine kpt ?_|refine fin_s ?_|refine fin_r ?_ ?_|refine fin_e ?_ ?_)
 conv=>whnf
 intro b
 repeat' ((conv=>whnf); first | refine sgo ⟨tab_ok⟩ ?_|refine br_not ?_|refine br_t rfl ?_|refine br_f rfl ?_|refine br_t (by assumption) ?_|refine br_f (by assumption) ?_|refine br_t (decide_eq_true (by assumption)) ?_|refine br_f (decide_eq_false (by assumption)) ?_|refine br_t (beq_iff_eq.2 (by assumption)) ?_|refine br_f (beq_eq_false_iff_ne.2 (by assumption)) ?_|refine kpt ?_|refine fin_s ?_|refine fin_r ?_ ?_|refine fin_e ?_ ?_)
 conv=>whnf
 refine sm_hold _ (xoO lo K [] ⟨q,g0,P,AQ,cQ,AL,cL,none,0⟩ true) (by rfl) (fun w1 hH=>hH.pick [0,1,2,3] (.cons (.same rfl) (.cons (.same rfl) (.cons (.same rfl) (.cons (.none (by rfl)) .nil))))) ?_
 refine sm_run ⟨tab_ok⟩ ?_
 by_cases hm:mayB K.G.c a=true
 ·obtain ⟨iL,hiL⟩:∃ iL,oI (atP K.L (isS a.se))=iL:=⟨_,rfl⟩
  obtain ⟨iQ,hiQ⟩:∃ iQ,oQ (atS K.Q a.se)=iQ:=⟨_,rfl⟩
  unfold askMR askQR
  rw [if_pos hm,if_pos hm,hiL,hiQ]
  obtain ⟨rm,hrm⟩:∃ rm,room K=rm:=⟨_,rfl⟩
  rw [hrm]
  have hrm:btw K.G.c.qu 0 64=rm:=hrm
  by_cases hL:0≤iL
  ·rw [if_pos (.inl hL),if_pos (.inl hL)]
   repeat' ((conv=>whnf); first | refine sgo ⟨tab_ok⟩ ?_|refine br_not ?_|refine br_t rfl ?_|refine br_f rfl ?_|refine br_t (by assumption) ?_|refine br_f (by assumption) ?_|refine br_t (decide_eq_true (by assumption)) ?_|refine br_f (decide_eq_false (by assumption)) ?_|refine br_t (beq_iff_eq.2 (by assumption)) ?_|refine br_f (beq_eq_false_iff_ne.2 (by assumption)) ?_|refine drA ⟨tab_ok⟩ [] ?_|refine kpt ?_|refine br_t (decide_eq_true (by omega)) ?_|refine br_f (decide_eq_false (by omega)) ?_|refine wr_i ?_|refine callS (f:=145) (.b true) ((by have:=mayR K.G.c a; rw [hm] at this; exact this)) ?_|refine callH (f:=146) (.i .i64 iL) (fun w1 hH=>by have:=ofR (co_of (x:=⟨q,g0,P,AQ,cQ,AL,cL,none,0⟩) (K:=K) (E:=[]) hH h0 h1) hl a.se; rw [hiL] at this; exact this) ?_|refine callH (f:=147) (.i .i64 iQ) (fun w1 hH=>by have:=placeR (co_of (x:=⟨q,g0,P,AQ,cQ,AL,cL,none,0⟩) (K:=K) (E:=[]) hH h0 h1) (by omega) a.se; rw [hiQ] at this; exact this) ?_|refine callS (f:=148) (.i .i64 rm) ((by have:=roomR K.G.c.qu; rw [hrm] at this; exact this)) ?_|refine callC (f:=133) ⟨q,g0,P,AQ,cQ,AL,cL,none,0⟩ K [] K [EvV.mk a.se ⟨7,5,0,0⟩] (.t []) (.tuple #[]) ?_ (fun x'=>?_) h0 h1 | refine fin_cz 1 2 3 (p:=⟨q,g0,P,AQ,cQ,AL,cL,AE,cE⟩) (p':={ x' with q:=q,g:=g0 }) (by rfl) (by rfl) (by rfl) (by rfl) (by rfl) (by rfl) rfl rfl (by rfl) h0 h1 (Nat.le_refl _) (Nat.le_refl _) (Nat.le_refl _) (Nat.le_refl _) (by rfl) (by rfl)|refine fin_s ?_|refine fin_r ?_ ?_|refine fin_e ?_ ?_)
   exact fun w1 _ hc=>sayR hc (Nat.zero_le _) a.se ⟨7,5,0,0⟩
  by_cases hQ:0≤iQ
  ·rw [if_pos (.inr hQ),if_pos (.inr hQ)]
   repeat' ((conv=>whnf); first | refine sgo ⟨tab_ok⟩ ?_|refine br_not ?_|refine br_t rfl ?_|refine br_f rfl ?_|refine br_t (by assumption) ?_|refine br_f (by assumption) ?_|refine br_t (decide_eq_true (by assumption)) ?_|refine br_f (decide_eq_false (by assumption)) ?_|refine br_t (beq_iff_eq.2 (by assumption)) ?_|refine br_f (beq_eq_false_iff_ne.2 (by assumption)) ?_|refine drA ⟨tab_ok⟩ [] ?_|refine kpt ?_|refine br_t (decide_eq_true (by omega)) ?_|refine br_f (decide_eq_false (by omega)) ?_|refine wr_i ?_|refine callS (f:=145) (.b true) ((by have:=mayR K.G.c a; rw [hm] at this; exact this)) ?_|refine callH (f:=146) (.i .i64 iL) (fun w1 hH=>by have:=ofR (co_of (x:=⟨q,g0,P,AQ,cQ,AL,cL,none,0⟩) (K:=K) (E:=[]) hH h0 h1) hl a.se; rw [hiL] at this; exact this) ?_|refine callH (f:=147) (.i .i64 iQ) (fun w1 hH=>by have:=placeR (co_of (x:=⟨q,g0,P,AQ,cQ,AL,cL,none,0⟩) (K:=K) (E:=[]) hH h0 h1) (by omega) a.se; rw [hiQ] at this; exact this) ?_|refine callS (f:=148) (.i .i64 rm) ((by have:=roomR K.G.c.qu; rw [hrm] at this; exact this)) ?_|refine callC (f:=133) ⟨q,g0,P,AQ,cQ,AL,cL,none,0⟩ K [] K [EvV.mk a.se ⟨7,5,0,0⟩] (.t []) (.tuple #[]) ?_ (fun x'=>?_) h0 h1 | refine fin_cz 1 2 3 (p:=⟨q,g0,P,AQ,cQ,AL,cL,AE,cE⟩) (p':={ x' with q:=q,g:=g0 }) (by rfl) (by rfl) (by rfl) (by rfl) (by rfl) (by rfl) rfl rfl (by rfl) h0 h1 (Nat.le_refl _) (Nat.le_refl _) (Nat.le_refl _) (Nat.le_refl _) (by rfl) (by rfl)|refine fin_s ?_|refine fin_r ?_ ?_|refine fin_e ?_ ?_)
   exact fun w1 _ hc=>sayR hc (Nat.zero_le _) a.se ⟨7,5,0,0⟩
  have hno:¬ (0≤iL∨0≤iQ):=by omega
  rw [if_neg hno,if_neg hno]
  by_cases hR:rm≤(K.Q.length:Int)
  ·rw [if_pos hR,if_pos hR]
   repeat' ((conv=>whnf); first | refine sgo ⟨tab_ok⟩ ?_|refine br_not ?_|refine br_t rfl ?_|refine br_f rfl ?_|refine br_t (by assumption) ?_|refine br_f (by assumption) ?_|refine br_t (decide_eq_true (by assumption)) ?_|refine br_f (decide_eq_false (by assumption)) ?_|refine br_t (beq_iff_eq.2 (by assumption)) ?_|refine br_f (beq_eq_false_iff_ne.2 (by assumption)) ?_|refine drA ⟨tab_ok⟩ [] ?_|refine kpt ?_|refine br_t (decide_eq_true (by omega)) ?_|refine br_f (decide_eq_false (by omega)) ?_|refine wr_i ?_|refine callS (f:=145) (.b true) ((by have:=mayR K.G.c a; rw [hm] at this; exact this)) ?_|refine callH (f:=146) (.i .i64 iL) (fun w1 hH=>by have:=ofR (co_of (x:=⟨q,g0,P,AQ,cQ,AL,cL,none,0⟩) (K:=K) (E:=[]) hH h0 h1) hl a.se; rw [hiL] at this; exact this) ?_|refine callH (f:=147) (.i .i64 iQ) (fun w1 hH=>by have:=placeR (co_of (x:=⟨q,g0,P,AQ,cQ,AL,cL,none,0⟩) (K:=K) (E:=[]) hH h0 h1) (by omega) a.se; rw [hiQ] at this; exact this) ?_|refine callS (f:=148) (.i .i64 rm) ((by have:=roomR K.G.c.qu; rw [hrm] at this; exact this)) ?_|refine callC (f:=133) ⟨q,g0,P,AQ,cQ,AL,cL,none,0⟩ K [] K [EvV.mk a.se ⟨6,0,0,0⟩] (.t []) (.tuple #[]) ?_ (fun x'=>?_) h0 h1 | refine fin_cz 1 2 3 (p:=⟨q,g0,P,AQ,cQ,AL,cL,AE,cE⟩) (p':={ x' with q:=q,g:=g0 }) (by rfl) (by rfl) (by rfl) (by rfl) (by rfl) (by rfl) rfl rfl (by rfl) h0 h1 (Nat.le_refl _) (Nat.le_refl _) (Nat.le_refl _) (Nat.le_refl _) (by rfl) (by rfl)|refine fin_s ?_|refine fin_r ?_ ?_|refine fin_e ?_ ?_)
   exact fun w1 _ hc=>sayR hc (Nat.zero_le _) a.se ⟨6,0,0,0⟩
  ·rw [if_neg hR,if_neg hR]
   have hQl:(K.Q++[a]).length=K.Q.length+1:=by simp
   rw [show (K.Q.length:Int)=((K.Q++[a]).length:Int) - 1 by omega]
   repeat' ((conv=>whnf); first | refine sgo ⟨tab_ok⟩ ?_|refine br_not ?_|refine br_t rfl ?_|refine br_f rfl ?_|refine br_t (by assumption) ?_|refine br_f (by assumption) ?_|refine br_t (decide_eq_true (by assumption)) ?_|refine br_f (decide_eq_false (by assumption)) ?_|refine br_t (beq_iff_eq.2 (by assumption)) ?_|refine br_f (beq_eq_false_iff_ne.2 (by assumption)) ?_|refine drA (id:=4) ⟨tab_ok⟩ [] ?_|refine drA (id:=8) ⟨tab_ok⟩ [] ?_|refine drA (id:=2) ⟨tab_ok⟩ [] ?_|refine kpt ?_|refine br_t (decide_eq_true (by omega)) ?_|refine br_f (decide_eq_false (by omega)) ?_|refine wr_i ?_|refine callS (f:=145) (.b true) ((by have:=mayR K.G.c a; rw [hm] at this; exact this)) ?_|refine callH (f:=146) (.i .i64 iL) (fun w1 hH=>by have:=ofR (co_of (x:=⟨q,g0,P,AQ,cQ,AL,cL,none,0⟩) (K:=K) (E:=[]) hH h0 h1) hl a.se; rw [hiL] at this; exact this) ?_|refine callH (f:=147) (.i .i64 iQ) (fun w1 hH=>by have:=placeR (co_of (x:=⟨q,g0,P,AQ,cQ,AL,cL,none,0⟩) (K:=K) (E:=[]) hH h0 h1) (by omega) a.se; rw [hiQ] at this; exact this) ?_|refine callS (f:=148) (.i .i64 rm) ((by have:=roomR K.G.c.qu; rw [hrm] at this; exact this)) ?_|refine And.intro ?_ ?_|refine opb0 askE (by rfl) Tryz.underlying95 (by kernel_rfl) (fun g4=>?_)|refine opao 4 1 (e:=46) (lo:=w.heap.size) (size:=5) (bytes:=40) (z:=.agg #[.int .i64 0,.int .i64 0,.int .i64 0,.int .i64 0,.int .i64 0]) (A:=rwO askE w.heap.size (some ⟨g4,0,none⟩) 0 0 [] true) (E:=rwO askE lo AQ K.Q.length cQ K.Q true) (vals:=[]) (cells:=rowsOf askE.c K.Q) (zs:=rowsOf askE.c K.Q) (n2:=K.Q.length) (fun A1 c1=>rwO askE w.heap.size A1 K.Q.length c1 K.Q true) (by rfl) (by rfl) (by rfl) (by rfl) (by rfl) rfl rfl (fun w h=>h) (fun A' c' w h=>h) (fun _ _=>rfl) (fun w1 h=>own_reads h) Tryz.underlying95 (by kernel_rfl) rfl (by decide) (by decide) (Ek.ones _ _) (by omega) (fun w hH=>hH.upd.size) (by omega) rfl (fun A1 c1=>?_)|refine opb1 (e:=46) ⟨tab_ok⟩ [.i .i64 a.se,.i .i64 a.fl,.i .i64 a.fm,.i .i64 a.to,.i .i64 a.ma] (by rfl) (by rfl) ?_|intro b3 | refine opap 4 3 (e:=46) (lo:=w.heap.size) (size:=5) (bytes:=40) (z:=.agg #[.int .i64 0,.int .i64 0,.int .i64 0,.int .i64 0,.int .i64 0]) (A:=rwO askE w.heap.size A1 K.Q.length c1 K.Q true) (vals:=rowsOf askE.c K.Q) (cells:=askE.c a) (zs:=rowsOf askE.c (K.Q++[a])) (n2:=(K.Q++[a]).length) (fun A2 c2=>rwO askE w.heap.size A2 (K.Q++[a]).length c2 (K.Q++[a]) true) (by rfl) (by rfl) (by rfl) (by rfl) rfl rfl (fun w h=>h) (fun A' c' w h=>h) (fun _ _=>rfl) (by rfl) (by rfl) (by rfl) (by rfl) Tryz.underlying95 (by kernel_rfl) rfl (by decide) (by decide) (askC_one _) (by omega) (fun w hH=>hH.upd.size) (by omega) (by rw [rowsOf_append,rowsOf_one]) (fun A2 c2=>?_)|refine fin_s ?_|refine fin_r ?_ ?_|refine fin_e ?_ ?_)
   all_goals (conv=>whnf)
   all_goals refine sm_hold _ [xo0 lo K ⟨q,g0,P,AQ,cQ,AL,cL,none,0⟩ true,rwO askE lo A2 (K.Q++[a]).length c2 (K.Q++[a]) true,rwO leaE lo AL K.L.length cL K.L true,rwO evE lo none 0 0 [] true] (by rfl) (fun w1 hH=>hH.pick [0,4,2,3] (.cons (.same rfl) (.cons (.low rfl hlo) (.cons (.same rfl) (.cons (.same rfl) .nil))))) ?_
   all_goals refine sm_run ⟨tab_ok⟩ ?_
   all_goals (repeat' ((conv=>whnf); first | refine sgo ⟨tab_ok⟩ ?_|refine br_not ?_|refine br_t rfl ?_|refine br_f rfl ?_|refine br_t (by assumption) ?_|refine br_f (by assumption) ?_|refine br_t (decide_eq_true (by assumption)) ?_|refine br_f (decide_eq_false (by assumption)) ?_|refine br_t (beq_iff_eq.2 (by assumption)) ?_|refine br_f (beq_eq_false_iff_ne.2 (by assumption)) ?_|refine drW (id:=3) ⟨tab_ok⟩ [6] [(10,0),(10,1)] ?_|refine kpt ?_|refine br_t (decide_eq_true (by omega)) ?_|refine br_f (decide_eq_false (by omega)) ?_|refine wr_i ?_|refine callC (f:=133) ⟨q,g0,P,A2,c2,AL,cL,none,0⟩ { K with Q:=K.Q++[a] } [] { K with Q:=K.Q++[a] } [EvV.mk a.se ⟨5,((K.Q++[a]).length:Int) - 1,0,0⟩] (.t []) (.tuple #[]) ?_ (fun x'=>?_) h0 h1 | refine fin_cz 1 2 3 (p:=⟨q,g0,P,AQ,cQ,AL,cL,AE,cE⟩) (p':={ x' with q:=q,g:=g0 }) (by rfl) (by rfl) (by rfl) (by rfl) (by rfl) (by rfl) rfl rfl (by rfl) h0 h1 (Nat.le_refl _) (Nat.le_refl _) (Nat.le_refl _) (Nat.le_refl _) (by rfl) (by rfl)|refine fin_s ?_|refine fin_r ?_ ?_|refine fin_e ?_ ?_))
   all_goals exact fun w1 _ hc=>sayR hc (Nat.zero_le _) a.se ⟨5,((K.Q++[a]).length:Int) - 1,0,0⟩
 ·unfold askMR askQR
  rw [if_neg hm,if_neg hm]
  have hm:mayB K.G.c a=false:=by simpa using hm
  repeat' ((conv=>whnf); first | refine sgo ⟨tab_ok⟩ ?_|refine br_not ?_|refine br_t rfl ?_|refine br_f rfl ?_|refine br_t (by assumption) ?_|refine br_f (by assumption) ?_|refine br_t (decide_eq_true (by assumption)) ?_|refine br_f (decide_eq_false (by assumption)) ?_|refine br_t (beq_iff_eq.2 (by assumption)) ?_|refine br_f (beq_eq_false_iff_ne.2 (by assumption)) ?_|refine drA ⟨tab_ok⟩ [] ?_|refine kpt ?_|refine br_t (decide_eq_true (by omega)) ?_|refine br_f (decide_eq_false (by omega)) ?_|refine wr_i ?_|refine callS (f:=145) (.b false) ((by have:=mayR K.G.c a; rw [hm] at this; exact this)) ?_|refine callC (f:=133) ⟨q,g0,P,AQ,cQ,AL,cL,none,0⟩ K [] K [EvV.mk a.se ⟨7,0,0,0⟩] (.t []) (.tuple #[]) ?_ (fun x'=>?_) h0 h1 | refine fin_cz 1 2 3 (p:=⟨q,g0,P,AQ,cQ,AL,cL,AE,cE⟩) (p':={ x' with q:=q,g:=g0 }) (by rfl) (by rfl) (by rfl) (by rfl) (by rfl) (by rfl) rfl rfl (by rfl) h0 h1 (Nat.le_refl _) (Nat.le_refl _) (Nat.le_refl _) (Nat.le_refl _) (by rfl) (by rfl)|refine fin_s ?_|refine fin_r ?_ ?_|refine fin_e ?_ ?_)
  exact fun w1 _ hc=>sayR hc (Nat.zero_le _) a.se ⟨7,0,0,0⟩
end Rk
namespace Rk
open Go.RowKit Ba Mem En Go.Proofs.YtpiiblkiddcgcaaGreat.Ty Mo Go.Proofs.YtpiiblkiddcgcaaGreat.St Co
open Gr (GrV CarsAt WaitsAt carL waitL waitsO pairO grpA giveR aimR)
open Et (carsO car_at)
open Rg (RO RP FP giveGR aimGR)
open Qu (askE askC askC_one atS oQ dropL)
open Le (isS atP oI hasL ofL endL)
open Fl (leaE)
set_option maxRecDepth 100000
attribute [local irreducible] Go.Calls
set_option maxHeartbeats 1000000
theorem end_at {K:KV} {s:Int} {i:Nat} {l:LeaseV} (h:atP K.L (isS s)=some i) (hx:K.L[i]?=some l):Co.endK K s=⟨(giveR K.G l.ca).1,K.Q,K.L.eraseIdx i⟩:=by
 unfold Co.endK hasL ofL endL Le.atV
 simp only [h,Option.isSome,if_true,List.getD,hx,Option.getD]
theorem end_no {K:KV} {s:Int} (h:atP K.L (isS s)=none):Co.endK K s=K:=by
 unfold Co.endK hasL
 rw [h]; rfl
theorem ask_cap {lo n c:Nat} {A:Option Addr} {ls:List AskV} {w:World} (h:askE.At lo A n c ls w):n≤c:=by
 rcases own_at h with ⟨_,h2,_⟩ | ⟨_,_,_,_,_,h5,_⟩
 ·omega
 ·exact h5
theorem goneKR {lo:Nat} {p:XP} {K:KV} {E:List EvV} {w:World} (hg:CO lo p K E w) (hl:K.L.length≤10000) (hq:K.Q.length≤1000) (s:Int) :
  Calls Tryz.prog 72 #[.pointer (some ⟨p.q,0,none⟩),.int .i64 s] w (CX lo p w (.tuple #[]) (Co.goneK K s) E):=by
 have h0:=hg.1
 have h1:=hg.2.2.1.1
 have hlo:lo≤w.heap.size:=Nat.le_of_lt (Nat.lt_of_le_of_lt h0 hg.2.1.lt)
 obtain ⟨q,g0,P,AQ,cQ,AL,cL,AE,cE⟩:=p
 obtain ⟨iL,hiL⟩:∃ iL,oI (atP K.L (isS s))=iL:=⟨_,rfl⟩
 obtain ⟨iQ,hiQ⟩:∃ iQ,oQ (atS K.Q s)=iQ:=⟨_,rfl⟩
 cases hS:atS K.Q s with
 | none =>
  have hd:dropL K.Q s=K.Q:=by unfold dropL; rw [hS]
  have hQ:iQ = -1:=by rw [← hiQ,hS]; rfl
  cases hP:atP K.L (isS s) with
  | none =>
   have hL:iL = -1:=by rw [← hiL,hP]; rfl
   unfold Co.goneK
   rw [end_no hP,hd]
   refine entH tab_ok (hold_cx true (fun _ g h=>h) hg) [.p 0 0,.i .i64 s] Tryz.func72 Tryz.ntmps72 rfl rfl ?_
   repeat' ((conv=>whnf); first | refine sgo ⟨tab_ok⟩ ?_|refine br_not ?_|refine br_t rfl ?_|refine br_f rfl ?_|refine br_t (by assumption) ?_|refine br_f (by assumption) ?_|refine br_t (decide_eq_true (by assumption)) ?_|refine br_f (decide_eq_false (by assumption)) ?_|refine br_t (beq_iff_eq.2 (by assumption)) ?_|refine br_f (beq_eq_false_iff_ne.2 (by assumption)) ?_|refine drA ⟨tab_ok⟩ [] ?_|refine kpt ?_|refine br_t (decide_eq_true (by omega)) ?_|refine br_f (decide_eq_false (by omega)) ?_|refine wr_i ?_|refine callH (f:=146) (.i .i64 iL) (fun w1 hH=>by have:=ofR (co_of (x:=⟨q,g0,P,AQ,cQ,AL,cL,AE,cE⟩) (K:=K) (E:=E) hH h0 h1) hl s; rw [hiL] at this; exact this) ?_|refine callH (f:=147) (.i .i64 iQ) (fun w1 hH=>by have:=placeR (co_of (x:=⟨q,g0,P,AQ,cQ,AL,cL,AE,cE⟩) (K:=K) (E:=E) hH h0 h1) (by show K.Q.length≤10000; omega) s; have this:Calls _ _ _ _ fun e w'=>e=.returned (.int .i64 (oQ (atS K.Q s)))∧Since w1 w':=this; rw [hiQ] at this; exact this) ?_|refine fin_cx 1 2 3 (p:=⟨q,g0,P,AQ,cQ,AL,cL,AE,cE⟩) (p':=⟨q,g0,P,AQ,cQ,AL,cL,AE,cE⟩) (by rfl) (by rfl) (by rfl) (by rfl) (by rfl) (by rfl) rfl rfl (by rfl) h0 h1 (Nat.le_refl _) (Nat.le_refl _) (Nat.le_refl _) (Nat.le_refl _) (by rfl) (by rfl)|refine fin_s ?_|refine fin_r ?_ ?_|refine fin_e ?_ ?_)
  | some i =>
   have hL:iL=(i:Int):=by rw [← hiL,hP]; rfl
   obtain ⟨hi,_,_⟩:=Le.atP_some hP
   obtain ⟨l,hx⟩:∃ l,K.L[i]?=some l:=⟨_,List.getElem?_eq_getElem hi⟩
   unfold Co.goneK
   rw [end_at hP hx,hd]
   subst hL
   refine entH tab_ok (hold_cx true (fun _ g h=>h) hg) [.p 0 0,.i .i64 s] Tryz.func72 Tryz.ntmps72 rfl rfl ?_
   repeat' ((conv=>whnf); first | refine sgo ⟨tab_ok⟩ ?_|refine br_not ?_|refine br_t rfl ?_|refine br_f rfl ?_|refine br_t (by assumption) ?_|refine br_f (by assumption) ?_|refine br_t (decide_eq_true (by assumption)) ?_|refine br_f (decide_eq_false (by assumption)) ?_|refine br_t (beq_iff_eq.2 (by assumption)) ?_|refine br_f (beq_eq_false_iff_ne.2 (by assumption)) ?_|refine drA ⟨tab_ok⟩ [] ?_|refine kpt ?_|refine br_t (decide_eq_true (by omega)) ?_|refine br_f (decide_eq_false (by omega)) ?_|refine wr_i ?_|refine callH (f:=146) (.i .i64 (i:Int)) (fun w1 hH=>by have:=ofR (co_of (x:=⟨q,g0,P,AQ,cQ,AL,cL,AE,cE⟩) (K:=K) (E:=E) hH h0 h1) hl s; rw [hiL] at this; exact this) ?_|refine callC (f:=134) ⟨q,g0,P,AQ,cQ,AL,cL,AE,cE⟩ K E ⟨(giveR K.G l.ca).1,K.Q,K.L.eraseIdx i⟩ E (.t []) (.tuple #[]) ?_ (fun x'=>?_) h0 h1 | refine callH (f:=147) (.i .i64 iQ) (fun w1 hH=>by have:=placeR (co_of (x:=x') (K:=⟨(giveR K.G l.ca).1,K.Q,K.L.eraseIdx i⟩) (E:=E) hH h0 h1) (by show K.Q.length≤10000; omega) s; have this:Calls _ _ _ _ fun e w'=>e=.returned (.int .i64 (oQ (atS K.Q s)))∧Since w1 w':=this; rw [hiQ] at this; exact this) ?_|refine fin_cx 1 2 3 (p:=⟨q,g0,P,AQ,cQ,AL,cL,AE,cE⟩) (p':={ x' with q:=q,g:=g0 }) (by rfl) (by rfl) (by rfl) (by rfl) (by rfl) (by rfl) rfl rfl (by rfl) h0 h1 (Nat.le_refl _) (Nat.le_refl _) (Nat.le_refl _) (Nat.le_refl _) (by rfl) (by rfl)|refine fin_s ?_|refine fin_r ?_ ?_|refine fin_e ?_ ?_)
   exact fun w1 _ hc=>endKR hc hl hx
 | some j =>
  have hd:dropL K.Q s=K.Q.eraseIdx j:=by unfold dropL; rw [hS]
  have hQ:iQ=(j:Int):=by rw [← hiQ,hS]; rfl
  obtain ⟨hj,_,_⟩:=Qu.atS_some hS
  have hle:(K.Q.eraseIdx j).length=K.Q.length - 1:=List.length_eraseIdx_of_lt hj
  subst hQ
  cases hP:atP K.L (isS s) with
  | none =>
   have hL:iL = -1:=by rw [← hiL,hP]; rfl
   unfold Co.goneK
   rw [end_no hP,hd]
   refine entH tab_ok (hold_cx true (fun _ g h=>h) hg) [.p 0 0,.i .i64 s] Tryz.func72 Tryz.ntmps72 rfl rfl ?_
   repeat' ((conv=>whnf); first | refine sgo ⟨tab_ok⟩ ?_|refine br_not ?_|refine br_t rfl ?_|refine br_f rfl ?_|refine br_t (by assumption) ?_|refine br_f (by assumption) ?_|refine br_t (decide_eq_true (by assumption)) ?_|refine br_f (decide_eq_false (by assumption)) ?_|refine br_t (beq_iff_eq.2 (by assumption)) ?_|refine br_f (beq_eq_false_iff_ne.2 (by assumption)) ?_|refine kpt ?_|refine br_t (decide_eq_true (by omega)) ?_|refine br_f (decide_eq_false (by omega)) ?_|refine wr_i ?_|refine callH (f:=146) (.i .i64 iL) (fun w1 hH=>by have:=ofR (co_of (x:=⟨q,g0,P,AQ,cQ,AL,cL,AE,cE⟩) (K:=K) (E:=E) hH h0 h1) hl s; rw [hiL] at this; exact this) ?_|refine callH (f:=147) (.i .i64 (j:Int)) (fun w1 hH=>by have:=placeR (co_of (x:=⟨q,g0,P,AQ,cQ,AL,cL,AE,cE⟩) (K:=K) (E:=E) hH h0 h1) (by show K.Q.length≤10000; omega) s; have this:Calls _ _ _ _ fun e w'=>e=.returned (.int .i64 (oQ (atS K.Q s)))∧Since w1 w':=this; rw [hiQ] at this; exact this) ?_|refine fin_s ?_|refine fin_r ?_ ?_|refine fin_e ?_ ?_)
   conv=>whnf
   refine sm_know (p:=K.Q.length≤cQ) (fun w1 hH=>ask_cap (hob hH (A:=rwO askE lo AQ K.Q.length cQ K.Q true) 1 rfl)) (fun hcap=>?_)
   repeat' ((conv=>whnf); first | refine sgo ⟨tab_ok⟩ ?_|refine br_not ?_|refine br_t rfl ?_|refine br_f rfl ?_|refine br_t (by assumption) ?_|refine br_f (by assumption) ?_|refine br_t (decide_eq_true (by assumption)) ?_|refine br_f (decide_eq_false (by assumption)) ?_|refine br_t (beq_iff_eq.2 (by assumption)) ?_|refine br_f (beq_eq_false_iff_ne.2 (by assumption)) ?_|refine drA ⟨tab_ok⟩ [] ?_|refine kpt ?_|refine br_t (decide_eq_true (by omega)) ?_|refine br_f (decide_eq_false (by omega)) ?_|refine wr_i ?_|refine puiv ⟨tab_ok⟩ (by rfl) (by rfl) (by rfl) (by rfl) (by rfl) (by rfl) ⟨by omega,by omega⟩ ?_|refine pus_h ⟨tab_ok⟩ (h1:=j) (by rfl) (by rfl) (by rfl) (by rfl) (by rfl) (by rfl) ⟨rfl,(by show j≤cQ; omega)⟩ ?_|refine pus_l ⟨tab_ok⟩ (l:=j+1) (by rfl) (by rfl) (by rfl) (by rfl) (by rfl) (by rfl) ⟨by omega,(by show j+1≤K.Q.length; omega)⟩ ?_|refine opb0 askE (by rfl) Tryz.underlying95 (by kernel_rfl) (fun g4=>?_)|refine opao 4 1 (e:=46) (lo:=w.heap.size) (size:=5) (bytes:=40) (z:=.agg #[.int .i64 0,.int .i64 0,.int .i64 0,.int .i64 0,.int .i64 0]) (A:=rwO askE w.heap.size (some ⟨g4,0,none⟩) 0 0 [] true) (E:=rwO askE lo AQ K.Q.length cQ K.Q true) (vals:=[]) (cells:=rowsOf askE.c (K.Q.take j)) (zs:=rowsOf askE.c (K.Q.take j)) (n2:=j) (fun A1 c1=>rwO askE w.heap.size A1 j c1 (K.Q.take j) true) (by rfl) (by rfl) (by rfl) (by rfl) (by rfl) rfl rfl (fun w h=>h) (fun A' c' w h=>h) (fun _ _=>rfl) (fun w1 h=>Ek.rd_take h rfl (by omega)) Tryz.underlying95 (by kernel_rfl) rfl (by decide) (by decide) (Ek.ones _ _) (by omega) (fun w hH=>hH.upd.size) (by omega) rfl (fun A1 c1=>?_)|refine opao 4 1 (e:=46) (lo:=w.heap.size) (size:=5) (bytes:=40) (z:=.agg #[.int .i64 0,.int .i64 0,.int .i64 0,.int .i64 0,.int .i64 0]) (A:=rwO askE w.heap.size A1 j c1 (K.Q.take j) true) (E:=rwO askE lo AQ K.Q.length cQ K.Q true) (vals:=rowsOf askE.c (K.Q.take j)) (cells:=rowsOf askE.c (K.Q.drop (j+1))) (zs:=rowsOf askE.c (K.Q.eraseIdx j)) (n2:=(K.Q.eraseIdx j).length) (fun A1 c1=>rwO askE w.heap.size A1 (K.Q.eraseIdx j).length c1 (K.Q.eraseIdx j) true) (by rfl) (by rfl) (by rfl) (by rfl) (by rfl) rfl rfl (fun w h=>h) (fun A' c' w h=>h) (fun _ _=>rfl) (fun w1 h=>Ek.rd_drop h rfl (by omega)) Tryz.underlying95 (by kernel_rfl) rfl (by decide) (by decide) (Ek.ones _ _) (by omega) (fun w hH=>hH.upd.size) (by omega) (by rw [List.eraseIdx_eq_take_drop_succ,rowsOf_append]) (fun A2 c2=>?_)|refine fin_cx 4 2 3 (p:=⟨q,g0,P,AQ,cQ,AL,cL,AE,cE⟩) (p':=⟨q,g0,P,A2,c2,AL,cL,AE,cE⟩) (by rfl) (by rfl) (by rfl) (by rfl) (by rfl) (by rfl) rfl rfl (by rfl) h0 h1 (Nat.le_refl _) hlo (Nat.le_refl _) (Nat.le_refl _) (by rfl) (by rfl)|refine fin_s ?_|refine fin_r ?_ ?_|refine fin_e ?_ ?_)
  | some i =>
   have hL:iL=(i:Int):=by rw [← hiL,hP]; rfl
   obtain ⟨hi,_,_⟩:=Le.atP_some hP
   obtain ⟨l,hx⟩:∃ l,K.L[i]?=some l:=⟨_,List.getElem?_eq_getElem hi⟩
   unfold Co.goneK
   rw [end_at hP hx,hd]
   subst hL
   refine entH tab_ok (hold_cx true (fun _ g h=>h) hg) [.p 0 0,.i .i64 s] Tryz.func72 Tryz.ntmps72 rfl rfl ?_
   repeat' ((conv=>whnf); first | refine sgo ⟨tab_ok⟩ ?_|refine br_not ?_|refine br_t rfl ?_|refine br_f rfl ?_|refine br_t (by assumption) ?_|refine br_f (by assumption) ?_|refine br_t (decide_eq_true (by assumption)) ?_|refine br_f (decide_eq_false (by assumption)) ?_|refine br_t (beq_iff_eq.2 (by assumption)) ?_|refine br_f (beq_eq_false_iff_ne.2 (by assumption)) ?_|refine kpt ?_|refine br_t (decide_eq_true (by omega)) ?_|refine br_f (decide_eq_false (by omega)) ?_|refine wr_i ?_|refine callH (f:=146) (.i .i64 (i:Int)) (fun w1 hH=>by have:=ofR (co_of (x:=⟨q,g0,P,AQ,cQ,AL,cL,AE,cE⟩) (K:=K) (E:=E) hH h0 h1) hl s; rw [hiL] at this; exact this) ?_|refine callC (f:=134) ⟨q,g0,P,AQ,cQ,AL,cL,AE,cE⟩ K E ⟨(giveR K.G l.ca).1,K.Q,K.L.eraseIdx i⟩ E (.t []) (.tuple #[]) ?_ (fun x'=>?_) h0 h1 | refine callH (f:=147) (.i .i64 (j:Int)) (fun w1 hH=>by have:=placeR (co_of (x:=x') (K:=⟨(giveR K.G l.ca).1,K.Q,K.L.eraseIdx i⟩) (E:=E) hH h0 h1) (by show K.Q.length≤10000; omega) s; have this:Calls _ _ _ _ fun e w'=>e=.returned (.int .i64 (oQ (atS K.Q s)))∧Since w1 w':=this; rw [hiQ] at this; exact this) ?_|refine fin_s ?_|refine fin_r ?_ ?_|refine fin_e ?_ ?_)
   rotate_left
   conv=>whnf
   refine sm_know (p:=K.Q.length≤x'.cQ) (fun w1 hH=>ask_cap (hob hH (A:=rwO askE lo x'.AQ K.Q.length x'.cQ K.Q true) 1 rfl)) (fun hcap=>?_)
   repeat' ((conv=>whnf); first | refine sgo ⟨tab_ok⟩ ?_|refine br_not ?_|refine br_t rfl ?_|refine br_f rfl ?_|refine br_t (by assumption) ?_|refine br_f (by assumption) ?_|refine br_t (decide_eq_true (by assumption)) ?_|refine br_f (decide_eq_false (by assumption)) ?_|refine br_t (beq_iff_eq.2 (by assumption)) ?_|refine br_f (beq_eq_false_iff_ne.2 (by assumption)) ?_|refine drA ⟨tab_ok⟩ [] ?_|refine kpt ?_|refine br_t (decide_eq_true (by omega)) ?_|refine br_f (decide_eq_false (by omega)) ?_|refine wr_i ?_|refine puiv ⟨tab_ok⟩ (by rfl) (by rfl) (by rfl) (by rfl) (by rfl) (by rfl) ⟨by omega,by omega⟩ ?_|refine pus_h ⟨tab_ok⟩ (h1:=j) (by rfl) (by rfl) (by rfl) (by rfl) (by rfl) (by rfl) ⟨rfl,(by show j≤x'.cQ; omega)⟩ ?_|refine pus_l ⟨tab_ok⟩ (l:=j+1) (by rfl) (by rfl) (by rfl) (by rfl) (by rfl) (by rfl) ⟨by omega,(by show j+1≤K.Q.length; omega)⟩ ?_|refine opb0 askE (by rfl) Tryz.underlying95 (by kernel_rfl) (fun g4=>?_)|refine opao 4 1 (e:=46) (lo:=w.heap.size) (size:=5) (bytes:=40) (z:=.agg #[.int .i64 0,.int .i64 0,.int .i64 0,.int .i64 0,.int .i64 0]) (A:=rwO askE w.heap.size (some ⟨g4,0,none⟩) 0 0 [] true) (E:=rwO askE lo x'.AQ K.Q.length x'.cQ K.Q true) (vals:=[]) (cells:=rowsOf askE.c (K.Q.take j)) (zs:=rowsOf askE.c (K.Q.take j)) (n2:=j) (fun A1 c1=>rwO askE w.heap.size A1 j c1 (K.Q.take j) true) (by rfl) (by rfl) (by rfl) (by rfl) (by rfl) rfl rfl (fun w h=>h) (fun A' c' w h=>h) (fun _ _=>rfl) (fun w1 h=>Ek.rd_take h rfl (by omega)) Tryz.underlying95 (by kernel_rfl) rfl (by decide) (by decide) (Ek.ones _ _) (by omega) (fun w hH=>hH.upd.size) (by omega) rfl (fun A1 c1=>?_)|refine opao 4 1 (e:=46) (lo:=w.heap.size) (size:=5) (bytes:=40) (z:=.agg #[.int .i64 0,.int .i64 0,.int .i64 0,.int .i64 0,.int .i64 0]) (A:=rwO askE w.heap.size A1 j c1 (K.Q.take j) true) (E:=rwO askE lo x'.AQ K.Q.length x'.cQ K.Q true) (vals:=rowsOf askE.c (K.Q.take j)) (cells:=rowsOf askE.c (K.Q.drop (j+1))) (zs:=rowsOf askE.c (K.Q.eraseIdx j)) (n2:=(K.Q.eraseIdx j).length) (fun A1 c1=>rwO askE w.heap.size A1 (K.Q.eraseIdx j).length c1 (K.Q.eraseIdx j) true) (by rfl) (by rfl) (by rfl) (by rfl) (by rfl) rfl rfl (fun w h=>h) (fun A' c' w h=>h) (fun _ _=>rfl) (fun w1 h=>Ek.rd_drop h rfl (by omega)) Tryz.underlying95 (by kernel_rfl) rfl (by decide) (by decide) (Ek.ones _ _) (by omega) (fun w hH=>hH.upd.size) (by omega) (by rw [List.eraseIdx_eq_take_drop_succ,rowsOf_append]) (fun A2 c2=>?_)|refine fin_cx 4 2 3 (p:=⟨q,g0,P,AQ,cQ,AL,cL,AE,cE⟩) (p':=⟨q,g0,x'.P,A2,c2,x'.AL,x'.cL,x'.AE,x'.cE⟩) (by rfl) (by rfl) (by rfl) (by rfl) (by rfl) (by rfl) rfl rfl (by rfl) h0 h1 (Nat.le_refl _) hlo (Nat.le_refl _) (Nat.le_refl _) (by rfl) (by rfl)|refine fin_s ?_|refine fin_r ?_ ?_|refine fin_e ?_ ?_)
   exact fun w1 _ hc=>endKR hc hl hx
end Rk
namespace Rk
open Go.RowKit Ba Mem En Go.Proofs.YtpiiblkiddcgcaaGreat.Ty Mo Go.Proofs.YtpiiblkiddcgcaaGreat.St Co
open Gr (GrV CarsAt WaitsAt carL waitL waitsO pairO grpA giveR aimR newG)
open Et (carsO car_at)
open Rg (RO RP FP rgO newGR)
open Ri (sp)
open Qu (askE atS)
open Le (isS atP oI)
open Fl (leaE)
open Lc (spanT)
set_option maxRecDepth 100000
attribute [local irreducible] Go.Calls
set_option maxHeartbeats 1000000
theorem newCR (c:CfgV) (w:World):Calls Tryz.prog 15 #[(aCfg c)] w fun e w'=>∃ p:XP,e=.returned (.pointer (some ⟨p.q,0,none⟩))∧CO w.heap.size p (newK c) [] w'∧Since w w':=by
 refine ent tab_ok [.a (sCfg c)] Tryz.func15 Tryz.ntmps15 rfl rfl ?_
 repeat' ((conv=>whnf); first | refine sgo ⟨tab_ok⟩ ?_|refine br_not ?_|refine br_t rfl ?_|refine br_f rfl ?_|refine br_t (by assumption) ?_|refine br_f (by assumption) ?_|refine br_t (decide_eq_true (by assumption)) ?_|refine br_f (decide_eq_false (by assumption)) ?_|refine br_t (beq_iff_eq.2 (by assumption)) ?_|refine br_f (beq_eq_false_iff_ne.2 (by assumption)) ?_|intro b | refine drA ⟨tab_ok⟩ [] ?_|refine kpt ?_|refine callN (f:=6) (ι:={x:Nat×Nat×RP // w.heap.size≤x.1}) (fun x=>.v (.pointer (some ⟨x.1.2.1,0,none⟩))) (fun x=>rgO x.1.1 x.1.2.1 (newG c) x.1.2.2 true) (fun w1 hH=>(newGR c w1).mono (by rintro e w' ⟨⟨q,P'⟩,rfl,h1,h2⟩; exact ⟨⟨(w1.heap.size,q,P'),hH.upd.size⟩,rfl,h1,h2,h1.low⟩)) (fun y=>?_)|refine fin_s ?_|refine fin_r ?_ ?_|refine fin_e ?_ ?_)
 refine fin fun w' hH=>⟨⟨b,y.1.2.1,y.1.2.2,none,0,none,0,none,0⟩,rfl,⟨?_, ?_,(hob hH (A:=rgO y.1.1 y.1.2.1 (newG c) y.1.2.2 true) 0 rfl).base y.2,Ek.nil _ _ _,Ek.nil _ _ _,Ek.nil _ _ _⟩,hH.upd.since⟩
 ·rcases (hH.wf 1 _ rfl rfl).2.2 rfl with h | h
  ·cases h
  ·exact h
 ·have q:=hH.row 1 _ rfl rfl
  rw [rowA_nil rfl rfl] at q
  exact q
attribute [local irreducible] sp
def calmB (K:KV):Bool:=K.G.waits.all fun a=>!oldW K a
theorem calmR {lo:Nat} {p:XP} {K:KV} {E:List EvV} {w:World} (hg:CO lo p K E w) (hl:K.G.waits.length≤10000) (hn:okN K) (hs:∀ a∈K.G.waits,okS K a):Calls Tryz.prog 136 #[.pointer (some ⟨p.q,0,none⟩)] w fun e w'=>e=.returned (.bool (calmB K))∧Since w w':=by
 obtain ⟨q,g0,⟨A1,c1,A2,c2⟩,AQ,cQ,AL,cL,AE,cE⟩:=p
 obtain ⟨g,hA⟩:∃ g,0 < K.G.waits.length→A2=some ⟨g,0,none⟩:=by
  rcases own_at hg.2.2.1.2.2.2 with ⟨_,h0,_⟩ | ⟨g,_,h1,_⟩
  ·exact ⟨0,fun k=>by omega⟩
  ·exact ⟨g,fun _=>h1⟩
 obtain ⟨hn1,hn2⟩:=hn
 refine entH tab_ok (hold_cx (S:=[]) false (by simp) hg) [.p 0 0] Tryz.func136 Tryz.ntmps136 rfl rfl ?_
 repeat' ((conv=>whnf); first | refine sgo ⟨tab_ok⟩ ?_|refine br_not ?_|refine br_t rfl ?_|refine br_f rfl ?_|refine br_t (by assumption) ?_|refine br_f (by assumption) ?_|refine br_t (decide_eq_true (by assumption)) ?_|refine br_f (decide_eq_false (by assumption)) ?_|refine br_t (beq_iff_eq.2 (by assumption)) ?_|refine br_f (beq_eq_false_iff_ne.2 (by assumption)) ?_|refine drA ⟨tab_ok⟩ [] ?_|refine kpt ?_|refine fin_s ?_|refine fin_r ?_ ?_|refine fin_e ?_ ?_)
 conv=>whnf
 refine lp ⟨tab_ok⟩ (ι:={k:Nat // k≤K.G.waits.length∧∀ j,j < k→∀ hj:j < K.G.waits.length,oldW K K.G.waits[j]=false}) (fun x=>match x with | ⟨k,_⟩=>⟨[(0,.p 0 0),(2,.b false),(3,.i .i64 (k:Int))],xoM K E.length ⟨q,g0,⟨A1,c1,A2,c2⟩,AQ,cQ,AL,cL,AE,cE⟩ false,xoO lo K E ⟨q,g0,⟨A1,c1,A2,c2⟩,AQ,cQ,AL,cL,AE,cE⟩ false⟩) (fun x=>K.G.waits.length - x.1) ⟨0,Nat.zero_le _,fun j hj=>by omega⟩ (wk ?_) ?_
 ·repeat' (first | exact trivial | rfl | ((conv=>whnf); refine And.intro ?_ ?_))
 rintro ⟨k,hk,hno⟩
 by_cases hlt:k < K.G.waits.length
 ·obtain ⟨x,hx⟩:∃ x,K.G.waits[k]?=some x:=⟨_,List.getElem?_eq_getElem hlt⟩
  obtain ⟨hkl,hxe⟩:=List.getElem?_eq_some_iff.1 hx
  obtain ⟨hs1,hs2⟩:=hs x (List.mem_of_getElem? hx)
  obtain rfl:=hA (by omega)
  by_cases hpx:K.G.now - x.si > sp K.G.c.yi
  ·have hpt:oldW K x=true:=by unfold oldW; exact decide_eq_true hpx
   have e:calmB K=false:=by
    unfold calmB
    rw [List.all_eq_false]
    exact ⟨x,List.mem_of_getElem? hx,by rw [hpt]; decide⟩
   rw [e]
   repeat' ((conv=>whnf); first | refine sgo ⟨tab_ok⟩ ?_|refine br_not ?_|refine br_t rfl ?_|refine br_f rfl ?_|refine br_t (by assumption) ?_|refine br_f (by assumption) ?_|refine br_t (decide_eq_true (by assumption)) ?_|refine br_f (decide_eq_false (by assumption)) ?_|refine br_t (beq_iff_eq.2 (by assumption)) ?_|refine br_f (beq_eq_false_iff_ne.2 (by assumption)) ?_|refine drA (id:=4) ⟨tab_ok⟩ [17] ?_|refine drA ⟨tab_ok⟩ [] ?_|refine kpt ?_|refine br_t (decide_eq_true (by omega)) ?_|refine br_f (decide_eq_false (by omega)) ?_|refine wr_i ?_|refine puiv ⟨tab_ok⟩ (by rfl) (by rfl) (by rfl) (by rfl) (by rfl) (by rfl) ⟨by omega,by omega⟩ ?_|refine pufv ⟨tab_ok⟩ (by rfl) (by rfl) (by rfl) (by rfl) ?_|refine And.intro ?_ ?_|refine opxc (g:=g) (off:=0+k*4+3) (.i .i64 x.si) (fun w1 hH=>cell_k (k:=3) (Gr.wait_at (hob hH (A:=xo0 lo K ⟨q,g0,⟨A1,c1,some ⟨g,0,none⟩,c2⟩,AQ,cQ,AL,cL,AE,cE⟩ false) 0 rfl).2 hx) rfl) ⟨tab_ok⟩ (by rfl) (by rfl) (by simp only [Go.WideShapes.add_plain]; rfl) ?_|refine callS (f:=132) (.i .i64 (sp _)) (spanT _) ?_|refine fin_s ?_|refine fin_r ?_ ?_|refine fin_e ?_ ?_)
   all_goals rfl
  ·have hpf:oldW K x=false:=by unfold oldW; exact decide_eq_false hpx
   repeat' ((conv=>whnf); first | refine sgo ⟨tab_ok⟩ ?_|refine br_not ?_|refine br_t rfl ?_|refine br_f rfl ?_|refine br_t (by assumption) ?_|refine br_f (by assumption) ?_|refine br_t (decide_eq_true (by assumption)) ?_|refine br_f (decide_eq_false (by assumption)) ?_|refine br_t (beq_iff_eq.2 (by assumption)) ?_|refine br_f (beq_eq_false_iff_ne.2 (by assumption)) ?_|refine drA (id:=4) ⟨tab_ok⟩ [17] ?_|refine drA ⟨tab_ok⟩ [] ?_|refine kpt ?_|refine br_t (decide_eq_true (by omega)) ?_|refine br_f (decide_eq_false (by omega)) ?_|refine wr_i ?_|refine puiv ⟨tab_ok⟩ (by rfl) (by rfl) (by rfl) (by rfl) (by rfl) (by rfl) ⟨by omega,by omega⟩ ?_|refine pufv ⟨tab_ok⟩ (by rfl) (by rfl) (by rfl) (by rfl) ?_|refine And.intro ?_ ?_|refine opxc (g:=g) (off:=0+k*4+3) (.i .i64 x.si) (fun w1 hH=>cell_k (k:=3) (Gr.wait_at (hob hH (A:=xo0 lo K ⟨q,g0,⟨A1,c1,some ⟨g,0,none⟩,c2⟩,AQ,cQ,AL,cL,AE,cE⟩ false) 0 rfl).2 hx) rfl) ⟨tab_ok⟩ (by rfl) (by rfl) (by simp only [Go.WideShapes.add_plain]; rfl) ?_|refine callS (f:=132) (.i .i64 (sp _)) (spanT _) ?_|refine back ⟨k+1,by omega,fun j hj hjl=>(Nat.lt_succ_iff_lt_or_eq.1 hj).elim (fun h=>hno j h hjl) (fun h=>by subst h; rw [hxe]; exact hpf)⟩ (wk ?_) ?_|refine fin_s ?_|refine fin_r ?_ ?_|refine fin_e ?_ ?_)
   all_goals first | (show K.G.waits.length - (k+1) < K.G.waits.length - k; omega)|skip
   all_goals (repeat' (first | exact trivial | rfl | ((conv=>whnf); refine And.intro ?_ ?_)))
 ·obtain rfl:k=K.G.waits.length:=by omega
  have e:calmB K=true:=by
   unfold calmB
   rw [List.all_eq_true]
   intro x hx
   obtain ⟨j,hj,rfl⟩:=List.mem_iff_getElem.1 hx
   rw [hno j (by omega) hj]; rfl
  rw [e]
  repeat' ((conv=>whnf); first | refine sgo ⟨tab_ok⟩ ?_|refine br_not ?_|refine br_t rfl ?_|refine br_f rfl ?_|refine br_t (by assumption) ?_|refine br_f (by assumption) ?_|refine br_t (decide_eq_true (by assumption)) ?_|refine br_f (decide_eq_false (by assumption)) ?_|refine br_t (beq_iff_eq.2 (by assumption)) ?_|refine br_f (beq_eq_false_iff_ne.2 (by assumption)) ?_|refine drA ⟨tab_ok⟩ [] ?_|refine kpt ?_|refine br_t (decide_eq_true (by omega)) ?_|refine br_f (decide_eq_false (by omega)) ?_|refine wr_i ?_|refine fin_s ?_|refine fin_r ?_ ?_|refine fin_e ?_ ?_)
  all_goals rfl
end Rk
end Go.Proofs.YtpiiblkiddcgcaaGreat
