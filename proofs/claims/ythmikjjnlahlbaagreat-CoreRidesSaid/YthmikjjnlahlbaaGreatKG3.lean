/-
  What is wanted by the last of these texts, part 3.
  No condition.
-/
import Derived.Test.YthmikjjnlahlbaaGreatKG2
namespace Go.Proofs.YthmikjjnlahlbaaGreat.En
set_option linter.unusedSectionVars false
set_option linter.unusedVariables false
set_option linter.unusedSimpArgs false
open Go.RowKit Go.Proofs.YthmikjjnlahlbaaGreat.Ba Go.Proofs.YthmikjjnlahlbaaGreat.Mem
def fldChk (P : Program) : List Field → List (Nat × Nat × Bool) → Bool
  | [], [] => true
  | f :: fs, q :: qs => Nat.beq f.offset q.1 && (match P.info? f.type, P.underlying f.type with
    | some i, some d => Nat.beq i.size q.2.1 && !(Nat.beq q.2.1 0) && (d.isRow == q.2.2) && (q.2.2 || Nat.beq q.2.1 1)
    | _, _ => false) && fldChk P fs qs
  | _, _ => false
def flatF (P : Program) (g : TypeId → Option (List Bool)) : List Field → Nat → Option (List Bool)
  | [], _ => some []
  | f :: fs, off => match f.name == "_" || !(Nat.beq f.offset off) with
    | true => none
    | false => match P.info? f.type, P.underlying f.type, g f.type with
      | some i, some d, some l => match Nat.beq i.size l.length && (d.isRow || Nat.beq l.length 1) with
        | true => match flatF P g fs (off + l.length) with
          | some r => some (l ++ r)
          | none => none
        | false => none
      | _, _, _ => none
/-- A type of plain cells: numbers (true) and truths (false). -/
def flatT (P : Program) : Nat → TypeId → Option (List Bool)
  | 0, _ => none
  | n + 1, t => match P.underlying t with
    | some (.int _) => some [true]
    | some .bool => some [false]
    | some (.struct fs) => match P.stoodInHeld t with
      | true => none
      | false => flatF P (flatT P n) fs.toList 0
    | _ => none
def undChk (P : Program) (t : TypeId) (y : Ty) : Bool :=
  match P.underlying t, P.info? t with
  | some d, some i => (d.isRow == y.row) && Nat.beq i.size y.size && Nat.beq y.zero.length y.size && okL 0 y.zero && (y.row || (Nat.beq y.size 1 && y.zero.all oneS)) &&
    (match d with | .struct fs => fldChk P fs.toList y.flds | _ => y.flds.isEmpty) &&
    (match d with | .slice e => y.sl && Nat.beq e y.el | _ => !y.sl) &&
    (match d with | .int k => y.ik == some k | _ => y.ik == none) &&
    (match d with | .pointer _ => true | _ => !y.pt) &&
    (match y.eqk with | [] => true | l => flatT P 10 t == some l && !(P.eqGuardType P.depth t))
  | _, _ => false
def zeroV (y : Ty) : Value :=
  match y.row with
  | true => .agg (denL [] y.zero).toArray
  | false => match y.zero with
    | [v] => den [] v
    | _ => undef
structure TyOk (P : Program) (t : TypeId) (y : Ty) : Prop where
  und : undChk P t y = true
  zero : (P.info? t).bind (·.zero) = some (zeroV y)
def TabOk (P : Program) (tab : Tab) : Prop := ∀ t y, tyO t tab = some y → TyOk P t y
theorem TabOk.nil {P : Program} : TabOk P [] := fun _ _ h => by cases h
theorem TabOk.cons {P : Program} {t : TypeId} {y : Ty} {r : Tab} (h : TyOk P t y) (k : TabOk P r) : TabOk P ((t, y) :: r) := fun u z hz => by
  unfold tyO at hz
  cases hb : Nat.beq t u with
  | true => rw [hb] at hz; have := Nat.eq_of_beq_eq_true hb; subst this; cases hz; exact h
  | false => rw [hb] at hz; exact k u z hz
theorem fld_of {P : Program} : ∀ {fs : List Field} {qs : List (Nat × Nat × Bool)}, fldChk P fs qs = true → fs.length = qs.length ∧ ∀ (k : Nat) (q : Nat × Nat × Bool), qs[k]? = some q → ∃ (f : Field) (i : TypeInfo) (d : TypeDesc), fs[k]? = some f ∧ f.offset = q.1 ∧ P.info? f.type = some i ∧ P.underlying f.type = some d ∧ i.size = q.2.1 ∧ q.2.1 ≠ 0 ∧ d.isRow = q.2.2 ∧ (q.2.2 = false → q.2.1 = 1)
  | [], [], _ => ⟨rfl, fun k q h => by simp at h⟩
  | [], _ :: _, h => by simp [fldChk] at h
  | _ :: _, [], h => by simp [fldChk] at h
  | f :: fs, q :: qs, h => by
    unfold fldChk at h
    simp only [Bool.and_eq_true] at h
    obtain ⟨⟨h1, h2⟩, h3⟩ := h
    obtain ⟨k1, k2⟩ := fld_of h3
    refine ⟨by simp [k1], fun k q' hq => ?_⟩
    cases k with
    | zero =>
      simp at hq; subst hq
      cases hi : P.info? f.type with
      | none => simp [hi] at h2
      | some i =>
        cases hu : P.underlying f.type with
        | none => simp [hi, hu] at h2
        | some d =>
          simp [hi, hu] at h2
          exact ⟨f, i, d, rfl, Nat.eq_of_beq_eq_true h1, hi, hu, h2.1.1.1, (by intro h0; rw [h0] at h2; exact absurd h2.1.1.2 (by decide)), h2.1.2, fun hf => by rcases h2.2 with h | h; rw [hf] at h; cases h; exact h⟩
    | succ k => simpa using k2 k q' (by simpa using hq)
structure TyOut (P : Program) (t : TypeId) (y : Ty) (d : TypeDesc) (i : TypeInfo) : Prop where
  un : P.underlying t = some d
  inf : P.info? t = some i
  row : d.isRow = y.row
  size : i.size = y.size
  zlen : y.zero.length = y.size
  zok : okL 0 y.zero = true
  one : y.row = false → y.size = 1
  zone : y.row = false → ∀ v, y.zero[0]? = some v → oneS v = true
  st : ∀ (k : Nat) (q : Nat × Nat × Bool), y.flds[k]? = some q → ∃ fs, d = .struct fs ∧ fldChk P fs.toList y.flds = true
  sl : y.sl = true → d = .slice y.el
  ik : ∀ k, y.ik = some k → d = .int k
  pt : y.pt = true → ∃ e, d = .pointer e
  eqk : y.eqk ≠ [] → flatT P 10 t = some y.eqk ∧ P.eqGuardType P.depth t = false
  zero : i.zero = some (zeroV y)
theorem TyOk.out {P : Program} {t : TypeId} {y : Ty} (h : TyOk P t y) : ∃ d i, TyOut P t y d i := by
  have hu := h.und
  unfold undChk at hu
  split at hu
  · rename_i d i h1 h2
    simp only [Bool.and_eq_true, beq_iff_eq] at hu
    obtain ⟨⟨⟨⟨⟨⟨⟨⟨⟨a1, a2⟩, a3⟩, a4⟩, a8⟩, a5⟩, a6⟩, a7⟩, a9⟩, a10⟩ := hu
    refine ⟨d, i, h1, h2, a1, Nat.eq_of_beq_eq_true a2, Nat.eq_of_beq_eq_true a3, a4, fun hf => by rw [hf] at a8; simp only [Bool.false_or, Bool.and_eq_true] at a8; exact Nat.eq_of_beq_eq_true a8.1, fun hf v hv => by rw [hf] at a8; simp only [Bool.false_or, Bool.and_eq_true, List.all_eq_true] at a8; exact a8.2 v (List.mem_of_getElem? hv), fun k q hq => ?_, fun hs => ?_, fun k hk => ?_, fun hp => ?_, fun he => ?_, ?_⟩
    · cases d <;> simp_all
    · cases d <;> simp_all
    · cases d <;> simp_all
    · cases d <;> simp_all
    · split at a10
      · rename_i e; exact absurd e he
      · simpa using a10
    · have := h.zero; rw [h2] at this; simpa using this
  · cases hu
theorem ikeq_of {a b : IntKind} (h : ikeq a b = true) : a = b := by cases a <;> cases b <;> first | rfl | cases h
section
variable {P : Program} {tab : Tab} {m : List Row} {a : Act} {fr : List (Nat × SV)} {o : Oper} {K : SV → Prop} {F : Prop}
/-- What a yielding operation is asked. -/
def Yl (P : Program) (m : List Row) (a : Act) (o : Oper) (K : SV → Prop) (F : Prop) : Prop :=
  F ∨ ∃ v, okV m.length v = true ∧ (∀ w, (execOp a.eval o).run P w = .ok (.value (den m v)) w) ∧ K v
theorem run_part_row {t : TypeId} {d : TypeDesc} {i : TypeInfo} {off n : Nat} {l : List SV} (hu : P.underlying t = some d) (hi : P.info? t = some i) (hr : d.isRow = true) (hn : i.size = n) (w : World) :
    (part t (denL m l).toArray off).run P w = .ok (.agg (denL m ((l.drop off).take n)).toArray) w := by
  have ha : (isAgg t).run P w = .ok true w := by cases d <;> simp_all [isAgg, underlying, TypeDesc.isRow]
  simp only [part, Sem.run_bind, ha, Result.andThen_ok, if_true, sizeOf, typeInfo]
  simp [hi, hn, ← denL_take, ← denL_drop, List.take_drop]
theorem run_part_cell {t : TypeId} {d : TypeDesc} {off : Nat} {l : List SV} {v : SV} (hu : P.underlying t = some d) (hr : d.isRow = false) (hv : l[off]? = some v) (w : World) :
    (part t (denL m l).toArray off).run P w = .ok (den m v) w := by
  have ha : (isAgg t).run P w = .ok false w := by cases d <;> simp_all [isAgg, underlying, TypeDesc.isRow]
  have hg : (denL m l)[off]? = some (den m v) := by rw [denL_get, hv]; rfl
  simp only [part, Sem.run_bind, ha, Result.andThen_ok]
  simp [hg]
theorem binI_of {op : BinOp} {t u : TypeId} {x y : Operand} {k : IntKind} {p q : Int} (ho : o.op = .binOp op t x y u) (hx : a.eval x = .int k p) (hy : a.eval y = .int k q) (h : binI op k p q K F) : Yl P m a o K F := by
  unfold binI at h
  split at h
  all_goals first
    | exact .inl h
    | (refine .inr ⟨_, rfl, fun w => ?_, (by first | exact h | (replace h := h.out; exact h))⟩
       unfold execOp
       simp [ho, hx, hy, den, eqGuard, binOp, Op.intArith, Op.intCmp, Op.intBits, bitI])
    | (replace h := h.out
       refine .inr ⟨_, rfl, fun w => ?_, (by first | exact h.2 | (have h2 := h.2; replace h2 := h2.out; exact h2))⟩
       have h1 := h.1
       unfold execOp
       simp [ho, hx, hy, den, eqGuard, binOp, Op.intDiv, h1])
theorem eqK_len : ∀ {ks : List Bool} {xs ys : List SV} {K : Bool → Prop}, eqK ks xs ys K → xs.length = ks.length ∧ ys.length = ks.length
  | [], [], [], _, _ => ⟨rfl, rfl⟩
  | true :: ks, .i k x :: r, .i k' y :: q, K, h => by
    unfold eqK at h
    split at h
    · obtain ⟨h1, h2⟩ := eqK_len h; exact ⟨by simp [h1], by simp [h2]⟩
    · exact h.elim
  | false :: ks, .b x :: r, .b y :: q, K, h => by
    unfold eqK at h
    obtain ⟨h1, h2⟩ := eqK_len h; exact ⟨by simp [h1], by simp [h2]⟩
def eqA : List SV → List SV → Bool
  | .i _ x :: r, .i _ y :: q => (x == y) && eqA r q
  | .b x :: r, .b y :: q => (x == y) && eqA r q
  | _, _ => true
theorem eqK_mono : ∀ {ks : List Bool} {xs ys : List SV} {K K' : Bool → Prop}, (∀ b, K b → K' b) → eqK ks xs ys K → eqK ks xs ys K'
  | [], [], [], _, _, hm, h => hm _ h
  | true :: ks, .i k x :: r, .i k' y :: q, K, K', hm, h => by
    unfold eqK at h ⊢
    cases hk : ikeq k k' with
    | true => rw [hk] at h; exact eqK_mono (fun b hb => hm _ hb) h
    | false => rw [hk] at h; exact h.elim
  | false :: ks, .b x :: r, .b y :: q, K, K', hm, h => by
    unfold eqK at h ⊢
    exact eqK_mono (fun b hb => hm _ hb) h
theorem eqK_val : ∀ {ks : List Bool} {xs ys : List SV} {K : Bool → Prop}, eqK ks xs ys K → eqK ks xs ys (fun b => b = eqA xs ys) ∧ K (eqA xs ys)
  | [], [], [], _, h => ⟨rfl, h⟩
  | true :: ks, .i k x :: r, .i k' y :: q, K, h => by
    unfold eqK at h ⊢
    cases hk : ikeq k k' with
    | true => rw [hk] at h; obtain ⟨h1, h2⟩ := eqK_val h; exact ⟨eqK_mono (fun b hb => by rw [hb]; rfl) h1, h2⟩
    | false => rw [hk] at h; exact h.elim
  | false :: ks, .b x :: r, .b y :: q, K, h => by
    unfold eqK at h ⊢
    obtain ⟨h1, h2⟩ := eqK_val h
    exact ⟨eqK_mono (fun b hb => by rw [hb]; rfl) h1, h2⟩
/-- The value of so many cells. -/
def cellsV (d : TypeDesc) (m : List Row) (xs : List SV) : Value := match d.isRow with
  | true => .agg (denL m xs).toArray
  | false => match xs with
    | [v] => den m v
    | _ => undef
theorem part_cellsV {t : TypeId} {d : TypeDesc} {i : TypeInfo} {off n : Nat} {l : List SV} (hu : P.underlying t = some d) (hi : P.info? t = some i) (hn : i.size = n) (h1 : d.isRow = false → n = 1) (hle : off + n ≤ l.length) (w : World) :
    (part t (denL m l).toArray off).run P w = .ok (cellsV d m ((l.drop off).take n)) w := by
  cases hr : d.isRow with
  | true => rw [run_part_row hu hi hr hn]; simp only [cellsV, hr]
  | false =>
    have := h1 hr
    subst this
    have hv : l[off]? = some (l[off]'(by omega)) := List.getElem?_eq_getElem _
    rw [run_part_cell hu hr hv]
    have : (l.drop off).take 1 = [l[off]'(by omega)] := by
      rw [List.drop_eq_getElem_cons (by omega)]; rfl
    simp only [cellsV, hr, this]
theorem eqK_split {k2 : List Bool} : ∀ {k1 : List Bool} {xs ys : List SV} {K : Bool → Prop}, eqK (k1 ++ k2) xs ys K → eqK k1 (xs.take k1.length) (ys.take k1.length) fun b => eqK k2 (xs.drop k1.length) (ys.drop k1.length) fun c => K (b && c)
  | [], xs, ys, K, h => by simpa [eqK] using h
  | true :: ks, .i k x :: r, .i k' y :: q, K, h => by
    simp only [List.cons_append, eqK] at h
    simp only [List.length_cons, List.take_succ_cons, List.drop_succ_cons, eqK]
    cases hk : ikeq k k' with
    | true => rw [hk] at h; have := eqK_split h; simpa [Bool.and_assoc] using this
    | false => rw [hk] at h; exact h.elim
  | false :: ks, .b x :: r, .b y :: q, K, h => by
    simp only [List.cons_append, eqK] at h
    simp only [List.length_cons, List.take_succ_cons, List.drop_succ_cons, eqK]
    have := eqK_split h; simpa [Bool.and_assoc] using this
theorem flat_of {w : World} : ∀ {n : Nat} {t : TypeId} {d : TypeDesc} {ks : List Bool} {xs ys : List SV} {K : Bool → Prop} (e : Nat), P.underlying t = some d → flatT P n t = some ks → (d.isRow = false → ks.length = 1) → eqK ks xs ys K →
    ∃ b, (Op.equalIn (e + n) t (cellsV d m xs) (cellsV d m ys)).run P w = .ok b w ∧ K b
  | 0, _, _, _, _, _, _, _, _, h, _, _ => by simp [flatT] at h
  | n + 1, t, d, ks, xs, ys, K, e, hu, hf, h1, h => by
    unfold flatT at hf
    rw [hu] at hf
    cases d with
    | int k =>
      simp at hf; subst hf
      obtain ⟨l1, l2⟩ := eqK_len h
      obtain ⟨x, rfl⟩ := List.length_eq_one_iff.1 l1
      obtain ⟨y, rfl⟩ := List.length_eq_one_iff.1 l2
      cases x <;> cases y <;> simp only [eqK] at h
      split at h
      · rename_i hk
        have := ikeq_of hk
        subst this
        simp only [Bool.and_true] at h
        exact ⟨_, run_equalIn_int w (e + n) t _ _ _ _ hu, h⟩
      · exact h.elim
    | bool =>
      simp at hf; subst hf
      obtain ⟨l1, l2⟩ := eqK_len h
      obtain ⟨x, rfl⟩ := List.length_eq_one_iff.1 l1
      obtain ⟨y, rfl⟩ := List.length_eq_one_iff.1 l2
      cases x <;> cases y <;> simp only [eqK] at h
      simp only [Bool.and_true] at h
      exact ⟨_, run_equalIn_bool' w (e + n) t _ _ hu, h⟩
    | struct fs =>
      simp only at hf
      cases hs : P.stoodInHeld t with
      | true => simp [hs] at hf
      | false =>
        simp only [hs] at hf
        have hfs : P.fieldsOf t = fs := by simp [Program.fieldsOf, hu]
        have hrun := run_equalIn_agg w (e + n) t (denL m xs).toArray (denL m ys).toArray (by rw [hfs]; exact hu) hs
        rw [hfs] at hrun
        have key : ∀ (l : List Field) (off : Nat) (ks : List Bool) (K : Bool → Prop), off + ks.length = xs.length → ys.length = xs.length → flatF P (flatT P n) l off = some ks → eqK ks (xs.drop off) (ys.drop off) K → ∃ b, (Op.eqFields (e + n) (denL m xs).toArray (denL m ys).toArray l).run P w = .ok b w ∧ K b := by
          intro l
          induction l with
          | nil =>
            intro off ks K hl hl2 hf h
            simp [flatF] at hf; subst hf
            have e1 : xs.drop off = [] := List.drop_eq_nil_of_le (by simp at hl; omega)
            have e2 : ys.drop off = [] := List.drop_eq_nil_of_le (by simp at hl; omega)
            rw [e1, e2] at h
            exact ⟨true, by simp [Op.eqFields], h⟩
          | cons f l ih =>
            intro off ks K hl hl2 hf h
            unfold flatF at hf
            split at hf
            · cases hf
            · rename_i hnm
              simp only [Bool.or_eq_false_iff, Bool.not_eq_false'] at hnm
              have hoff := Nat.eq_of_beq_eq_true hnm.2
              have hname : f.name ≠ "_" := by simpa using hnm.1
              split at hf
              · rename_i i d kl hi hd hg
                split at hf
                · rename_i hc
                  simp only [Bool.and_eq_true, Bool.or_eq_true] at hc
                  have hsz := Nat.eq_of_beq_eq_true hc.1
                  have hone : d.isRow = false → kl.length = 1 := fun hr => by
                    rcases hc.2 with h | h
                    · rw [hr] at h; cases h
                    · exact Nat.eq_of_beq_eq_true h
                  split at hf
                  · rename_i r hr
                    simp only [Option.some.injEq] at hf
                    subst hf
                    simp only [List.length_append] at hl
                    have h2 := eqK_split h
                    obtain ⟨b, hb1, hb2⟩ := flat_of (w := w) e hd hg hone h2
                    have p1 := part_cellsV (m := m) (l := xs) hd hi hsz hone (off := off) (by omega) w
                    have p2 := part_cellsV (m := m) (l := ys) hd hi hsz hone (off := off) (by omega) w
                    rw [List.drop_drop, List.drop_drop] at hb2
                    obtain ⟨c, hc1, hc2⟩ := ih (off + kl.length) r _ (by omega) hl2 hr hb2
                    refine ⟨b && c, ?_, hc2⟩
                    simp only [Op.eqFields, if_pos hname, Sem.run_bind, hoff, p1, p2, Result.andThen_ok, hb1]
                    cases b
                    · simp
                    · simpa using hc1
                  · cases hf
                · cases hf
              · cases hf
        obtain ⟨l1, l2⟩ := eqK_len h
        obtain ⟨b, hb1, hb2⟩ := key fs.toList 0 ks K (by omega) (by omega) hf (by simpa using h)
        exact ⟨b, by simp only [cellsV, TypeDesc.isRow]; rw [show e + (n + 1) = e + n + 1 from rfl, hrun]; exact hb1, hb2⟩
    | _ => simp at hf
theorem bin_of {op : BinOp} {t u : TypeId} {x y : Operand} {p q : SV} (ht : TabOk P tab) (kp : okV m.length p = true) (ho : o.op = .binOp op t x y u) (hx : a.eval x = den m p) (hy : a.eval y = den m q) (h : bin tab t op p q K F) : Yl P m a o K F := by
  unfold bin at h
  split at h
  · rename_i k x k' y
    split at h
    · replace h := And.intro h.out.1 h.out.2.out
      refine .inr ⟨_, rfl, fun w => ?_, h.2⟩
      have h1 : ¬ y < 0 := by have := h.1; omega
      unfold execOp
      simp [ho, hx, hy, den, eqGuard, binOp, Op.shift, h1]
    · replace h := h.out
      refine .inr ⟨_, rfl, fun w => ?_, h.2⟩
      have h1 : ¬ y < 0 := by have := h.1; omega
      unfold execOp
      simp [ho, hx, hy, den, eqGuard, binOp, Op.shift, h1]
    · split at h
      · exact .inl h
      · rename_i hk
        have := ikeq_of hk
        subst this
        exact binI_of ho hx hy h
  · obtain ⟨ty, hty, h⟩ := tyK_of h
    obtain ⟨d, i, T⟩ := (ht _ _ hty).out
    split at h
    · exact .inl h
    · rename_i hrow
      split at h
      · rename_i he
        obtain ⟨hfl, _⟩ := T.eqk (by rw [he]; simp)
        have hd : d = .bool := by
          have hr := T.row
          rw [hrow] at hr
          rw [he] at hfl
          unfold flatT at hfl
          rw [T.un] at hfl
          cases d <;> simp_all [TypeDesc.isRow]
        subst hd
        split at h
        · refine .inr ⟨_, rfl, fun w => ?_, h⟩
          unfold execOp
          simp [ho, hx, hy, den, eqGuard, binOp, Op.equal, Op.maxDepth, run_equalIn_bool' w 9999 t _ _ T.un]
        · refine .inr ⟨_, rfl, fun w => ?_, h⟩
          unfold execOp
          simp [ho, hx, hy, den, eqGuard, binOp, Op.equal, Op.maxDepth, run_equalIn_bool' w 9999 t _ _ T.un]
        · exact .inl h
      · exact .inl h
  · rename_i xs ys
    obtain ⟨ty, hty, h⟩ := tyK_of h
    obtain ⟨d, i, T⟩ := (ht _ _ hty).out
    split at h
    · rename_i hrow
      split at h
      · exact .inl h
      · rename_i k ks he
        obtain ⟨hfl, hg⟩ := T.eqk (by rw [he]; simp)
        rw [he] at hfl
        have hrow2 : d.isRow = true := by rw [T.row, hrow]
        have hcell : ∀ l : List SV, cellsV d m l = .agg (denL m l).toArray := fun l => by simp only [cellsV, hrow2]
        split at h
        · obtain ⟨h1, h2⟩ := eqK_val h
          refine .inr ⟨.b (eqA xs ys), rfl, fun w => ?_, h2⟩
          obtain ⟨b, hb1, rfl⟩ := flat_of (m := m) (w := w) 9990 T.un hfl (by rw [hrow2]; simp) h1
          rw [hcell, hcell] at hb1
          unfold execOp
          simp only [ho, hx, hy, den, Sem.run_bind, run_eqGuard_agg w _ t _ _ _ _ hg, Result.andThen_ok, run_eql_struct, hb1, Sem.run_pure]
        · obtain ⟨h1, h2⟩ := eqK_val h
          refine .inr ⟨.b (!eqA xs ys), rfl, fun w => ?_, h2⟩
          obtain ⟨b, hb1, rfl⟩ := flat_of (m := m) (w := w) 9990 T.un hfl (by rw [hrow2]; simp) h1
          rw [hcell, hcell] at hb1
          unfold execOp
          simp only [ho, hx, hy, den, Sem.run_bind, run_eqGuard_agg w _ t _ _ _ _ hg, Result.andThen_ok, run_neq_struct, hb1, Sem.run_pure]
        · exact .inl h
    · exact .inl h
  · rename_i j q
    obtain ⟨ty, hty, h⟩ := tyK_of h
    obtain ⟨d, i, T⟩ := (ht _ _ hty).out
    split at h
    · rename_i hpt
      obtain ⟨e, rfl⟩ := T.pt hpt
      have heq : ∀ (A : Option Addr) (w : World), (Op.equal t (.pointer A) (.pointer none)).run P w = .ok A.isNone w := fun A w => run_equal_pointer_nil w t A (by rw [T.un]; simp [Program.pointee, T.un])
      have hj : j < m.length := by simpa [okV] using kp
      split at h
      · refine .inr ⟨_, rfl, fun w => ?_, h⟩
        unfold execOp
        simp [ho, hx, hy, den, List.getElem?_eq_getElem hj, eqGuard, binOp, heq]
      · refine .inr ⟨_, rfl, fun w => ?_, h⟩
        unfold execOp
        simp [ho, hx, hy, den, List.getElem?_eq_getElem hj, eqGuard, binOp, heq]
      · exact .inl h
    · exact .inl h
  · rename_i A
    obtain ⟨ty, hty, h⟩ := tyK_of h
    obtain ⟨d, i, T⟩ := (ht _ _ hty).out
    split at h
    · rename_i hpt
      obtain ⟨e, rfl⟩ := T.pt hpt
      have heq : ∀ (A : Option Addr) (w : World), (Op.equal t (.pointer A) (.pointer none)).run P w = .ok A.isNone w := fun A w => run_equal_pointer_nil w t A (by rw [T.un]; simp [Program.pointee, T.un])
      split at h
      · refine .inr ⟨_, rfl, fun w => ?_, h⟩
        unfold execOp
        cases A <;> simp [ho, hx, hy, den, eqGuard, binOp, heq]
      · refine .inr ⟨_, rfl, fun w => ?_, h⟩
        unfold execOp
        cases A <;> simp [ho, hx, hy, den, eqGuard, binOp, heq]
      · exact .inl h
    · exact .inl h
  · split at h
    · refine .inr ⟨_, rfl, fun w => ?_, h⟩
      unfold execOp
      simp [ho, hx, hy, den, eqGuard, binOp, Op.stringOp]
    · refine .inr ⟨_, rfl, fun w => ?_, h⟩
      unfold execOp
      simp [ho, hx, hy, den, eqGuard, binOp, Op.stringOp]
    · exact .inl h
  · exact .inl h
theorem bld_of (hf : FrOk m a.tmps fr) {fs : List Field} {fl : List (Nat × Nat × Bool)} (hfl : fldChk P fs fl = true) {places : Nat → Option (Nat × Nat)} (hp : ∀ k q, fl[k]? = some q → places k = some (q.1, q.2.1)) :
    ∀ {ps : List (Nat × Operand)} {cs : List SV} {K : List SV → Prop}, okL m.length cs = true → bld tab fl fr ps cs K →
      ∃ l, okL m.length l = true ∧ Instr.fill places (denL m cs).toArray (ps.map fun q => (q.1, a.eval q.2)) = some (denL m l).toArray ∧ K l
  | [], cs, K, hok, h => ⟨cs, hok, rfl, h⟩
  | (k, x) :: r, cs, K, hok, h => by
    unfold bld at h
    cases hq : fl[k]? with
    | none => rw [hq] at h; exact h.elim
    | some q =>
      rw [hq] at h
      obtain ⟨v, hv1, hv2, h⟩ := ev_of hf h
      have key : ∀ l : List SV, okL m.length l = true → (den m v).cells = (denL m l).toArray → l.length = q.2.1 → setN q.1 l cs (fun cs => bld tab fl fr r cs K) → ∃ l, okL m.length l = true ∧ Instr.fill places (denL m cs).toArray (((k, x) :: r).map fun q => (q.1, a.eval q.2)) = some (denL m l).toArray ∧ K l := by
        intro l hl1 hl2 hl3 hs
        obtain ⟨hlen, hs⟩ := setN_of hs
        have hok' : okL m.length (lay q.1 l cs) = true := okL_app (okL_app (okL_sub hok fun v hv => List.mem_of_mem_take hv) hl1) (okL_sub hok fun v hv => List.mem_of_mem_drop hv)
        obtain ⟨l', e1, e2, e3⟩ := bld_of hf hfl hp hok' hs
        refine ⟨l', e1, ?_, e3⟩
        rw [← e2]
        simp only [List.map_cons, Instr.fill, hp k q hq, hv2, hl2]
        have hsz : (denL m l).toArray.size = q.2.1 := by simp [denL_len, hl3]
        have hfold : ∀ (n : Nat) (l cs : List SV) (off : Nat), off + n + l.length ≤ cs.length → ((denL m l).zipIdx n).foldl (fun cs (p : Value × Nat) => cs.setIfInBounds (off + p.2) p.1) (denL m cs).toArray = (denL m (lay (off + n) l cs)).toArray := by
          intro n l
          induction l generalizing n with
          | nil => intro cs off _; simp [denL, lay]
          | cons u l ih =>
            intro cs off hle
            simp only [List.length_cons] at hle
            simp only [denL, List.zipIdx_cons, List.foldl_cons]
            have hset : (denL m cs).toArray.setIfInBounds (off + n) (den m u) = (denL m (cs.set (off + n) u)).toArray := by
              rw [List.setIfInBounds_toArray]
              congr 1
              apply List.ext_getElem?
              intro i
              rw [denL_get, List.getElem?_set, List.getElem?_set, denL_get]
              by_cases hi : off + n = i
              · subst hi; simp [denL_len]
              · simp [hi]
            rw [hset, ih (n + 1) (cs.set (off + n) u) off (by simp; omega)]
            congr 2
            unfold lay
            rw [List.length_cons, show off + (n + 1) = off + n + 1 from by omega, List.take_succ_eq_append_getElem (by simp; omega), List.take_set_of_le (Nat.le_refl _)]
            simp only [List.getElem_set_self, List.append_assoc, List.cons_append, List.nil_append]
            rw [List.drop_set_of_lt (by omega)]
            rw [show off + n + 1 + l.length = off + n + (l.length + 1) from by omega]
        have := hfold 0 l cs q.1 (by omega)
        simp only [Nat.add_zero] at this
        rw [if_neg]
        · congr 1
          rw [← this, ← Array.foldl_toList, Array.toList_zipIdx]
        · simp [denL_len, hl3]; omega
      split at h
      · rename_i l
        split at h
        · split at h
          · rename_i hb
            exact key l hv1 rfl (Nat.eq_of_beq_eq_true hb) h
          · exact h.elim
        · exact h.elim
      · split at h
        · exact h.elim
        · split at h
          · rename_i _ hrow _ hone
            have hcell : (den m v).cells = #[den m v] := by
              cases v with
              | v x => cases x <;> first | rfl | cases hone
              | p j o => simp only [den]; split <;> rfl
              | s j o n c => simp only [den]; split <;> rfl
              | a _ => cases hone
              | t _ => cases hone
              | _ => rfl
            obtain ⟨_, hfo⟩ := fld_of hfl
            obtain ⟨f, i, d, f1, f2, f3, f4, f5, f6, f7, f8⟩ := hfo k q hq
            exact key [v] (by simp [okL, hv1]) (by rw [hcell]; rfl) (by rw [f8 hrow]; rfl) h
          · exact h.elim
theorem den0 : ∀ {v : SV}, okV 0 v = true → den m v = den [] v := fun h => den_ext (m := []) (fun _ _ h => by simp at h) _ h
theorem denL0 : ∀ {l : List SV}, okL 0 l = true → denL m l = denL [] l := fun h => denL_ext (m := []) (fun _ _ h => by simp at h) _ h
theorem mapM_run {α β : Type} {g : α → Go.Sem β} {w : World} : ∀ {l : List α} {r : List β}, l.length = r.length → (∀ (k : Nat) (x : α) (y : β), l[k]? = some x → r[k]? = some y → (g x).run P w = .ok y w) → (l.mapM g).run P w = .ok r w
  | [], [], _, _ => by simp
  | [], _ :: _, h, _ => by simp at h
  | _ :: _, [], h, _ => by simp at h
  | x :: l, y :: r, h, hg => by
    have h0 := hg 0 x y rfl rfl
    have ih := mapM_run (l := l) (r := r) (by simpa using h) (fun k x y hx hy => hg (k + 1) x y (by simpa using hx) (by simpa using hy))
    rw [List.mapM_cons, Sem.run_bind, h0, Result.andThen_ok, Sem.run_bind, ih, Result.andThen_ok, Sem.run_pure]
theorem places_run (w : World) {fs : List Field} {qs : List (Nat × Nat × Bool)} (h : fldChk P fs qs = true) : (fs.mapM (m := Go.Sem) fun f => do pure (f.offset, ← sizeOf f.type)).run P w = .ok (qs.map fun q => (q.1, q.2.1)) w := by
  obtain ⟨hl, hf⟩ := fld_of h
  refine mapM_run (by simpa using hl) fun k f y hk hy => ?_
  rw [List.getElem?_map] at hy
  cases hq : qs[k]? with
  | none => rw [hq] at hy; cases hy
  | some q =>
    rw [hq] at hy
    obtain ⟨f', i, d, f1, f2, f3, f4, f5, f6, f7, f8⟩ := hf k q hq
    rw [hk] at f1; cases f1
    simp only [Option.map_some, Option.some.injEq] at hy
    subst hy
    simp only [sizeOf, typeInfo, Sem.run_bind, run_program, Result.andThen_ok, f3, Sem.run_pure, f2, f5]
theorem pe_of {op : Op} (ht : TabOk P tab) (hf : FrOk m a.tmps fr) (ho : o.op = op) (h : pe tab op fr K F) : Yl P m a o K F := by
  cases op
  all_goals try exact .inl h
  case move x =>
    obtain ⟨v, h1, h2, h3⟩ := ev_of hf h
    exact .inr ⟨v, h1, fun w => by unfold execOp; simp [ho, h2], h3⟩
  case assign x =>
    obtain ⟨v, h1, h2, h3⟩ := ev_of hf h
    exact .inr ⟨v, h1, fun w => by unfold execOp; simp [ho, h2], h3⟩
  case pick c x y =>
    obtain ⟨v, h1, h2, h3⟩ := ev_of hf h
    cases v with
    | b t =>
      replace h3 := h3.out
      cases t with
      | true =>
        obtain ⟨v, k1, k2, k3⟩ := ev_of hf (h3.1 rfl)
        exact .inr ⟨v, k1, fun w => by unfold execOp; simp [ho, h2, k2, den, asBool], k3⟩
      | false =>
        obtain ⟨v, k1, k2, k3⟩ := ev_of hf (h3.2 rfl)
        exact .inr ⟨v, k1, fun w => by unfold execOp; simp [ho, h2, k2, den, asBool], k3⟩
    | _ => exact .inl h3
  case nilCheck x =>
    obtain ⟨v, h1, h2, h3⟩ := ev_of hf h
    cases v with
    | p j q =>
      refine .inr ⟨_, h1, fun w => ?_, h3⟩
      unfold execOp
      have hj : j < m.length := by simpa [okV] using h1
      simp [ho, h2, den, List.getElem?_eq_getElem hj]
    | f g cs =>
      refine .inr ⟨_, h1, fun w => ?_, h3⟩
      unfold execOp
      simp [ho, h2, den]
    | _ => exact .inl h3
  case fieldAddr s x k =>
    obtain ⟨v, h1, h2, h3⟩ := ev_of hf h
    cases v with
    | p j off =>
      obtain ⟨y, hy, h3⟩ := tyK_of h3
      cases hq : y.flds[k]? with
      | none => simp only [hq] at h3; exact .inl h3
      | some q =>
        simp only [hq] at h3
        obtain ⟨d, i, T⟩ := (ht _ _ hy).out
        obtain ⟨fs, rfl, hfc⟩ := T.st k q hq
        obtain ⟨f, i2, d2, f1, f2, f3, f4, f5, f6, f7, f8⟩ := (fld_of hfc).2 k q hq
        have hj : j < m.length := by simpa [okV] using h1
        refine .inr ⟨.p j (off + q.1), h1, fun w => ?_, h3⟩
        have f1' : fs[k]? = some f := by simpa using f1
        unfold execOp
        simp only [ho, h2, den, List.getElem?_eq_getElem hj, Instr.fieldAt, Instr.sureAddr, Sem.run_bind, run_underlying T.un, Result.andThen_ok, Sem.run_pure, f1', fieldPlace, sizeOf, typeInfo]
        simp only [run_program, f3, Result.andThen_ok, Sem.run_pure, f5, if_neg f6, f2, Go.WideShapes.add_plain, Nat.add_assoc]
    | _ => exact .inl h3
  case field s x k =>
    obtain ⟨v, h1, h2, h3⟩ := ev_of hf h
    cases v with
    | a cs =>
      obtain ⟨y, hy, h3⟩ := tyK_of h3
      cases hq : y.flds[k]? with
      | none => simp only [hq] at h3; exact .inl h3
      | some q =>
        simp only [hq] at h3
        obtain ⟨d, i, T⟩ := (ht _ _ hy).out
        obtain ⟨fs, rfl, hfc⟩ := T.st k q hq
        obtain ⟨f, i2, d2, f1, f2, f3, f4, f5, f6, f7, f8⟩ := (fld_of hfc).2 k q hq
        have f1' : fs[k]? = some f := by simpa using f1
        cases hb : q.2.2 with
        | true =>
          rw [hb] at h3 f7
          obtain ⟨hl, h3⟩ := tkN_of h3
          refine .inr ⟨.a ((cs.drop q.1).take q.2.1), okL_sub h1 (fun v hv => List.mem_of_mem_drop (List.mem_of_mem_take hv)), fun w => ?_, h3⟩
          unfold execOp
          simp only [ho, h2, den, Instr.field, Sem.run_bind, run_underlying T.un, Result.andThen_ok, f1', asAgg, Sem.run_pure, f2, run_part_row f4 f3 f7 f5]
        | false =>
          rw [hb] at h3 f7
          obtain ⟨v, hv, h3⟩ := nth_of h3
          refine .inr ⟨v, okL_at h1 hv, fun w => ?_, h3⟩
          unfold execOp
          simp only [ho, h2, den, Instr.field, Sem.run_bind, run_underlying T.un, Result.andThen_ok, f1', asAgg, Sem.run_pure, f2, run_part_cell f4 f7 hv]
    | _ => exact .inl h3
  case indexAddr t x ix =>
    obtain ⟨v, h1, h2, h3⟩ := ev_of hf h
    obtain ⟨i, k1, k2, h3⟩ := ev_of hf h3
    cases i with
    | i k I =>
      obtain ⟨y, hy, h3⟩ := tyK_of h3
      cases hsl : y.sl with
      | false => simp only [hsl] at h3; exact .inl h3
      | true =>
        simp only [hsl] at h3
        obtain ⟨d, inf, T⟩ := (ht _ _ hy).out
        have hd := T.sl hsl
        subst hd
        obtain ⟨e, he, h3⟩ := tyK_of h3
        obtain ⟨d2, inf2, T2⟩ := (ht _ _ he).out
        have hsz : (sizeOf y.el).run P = fun w => .ok e.size w := by funext w; simp [sizeOf, typeInfo, T2.inf, T2.size]
        cases v with
        | s j o n c =>
          simp only at h3
          replace h3 := h3.out
          obtain ⟨⟨i0, i1⟩, h3⟩ := h3
          have hj : j < m.length := by simpa [okV] using h1
          refine .inr ⟨.p j (o + I.toNat * e.size), h1, fun w => ?_, h3⟩
          unfold execOp
          simp only [ho, h2, k2, den, List.getElem?_eq_getElem hj, Instr.indexAt, asIntOf, Sem.run_bind, Sem.run_pure, Result.andThen_ok, run_underlying T.un, hsz, if_pos (show 0 ≤ I ∧ I < (n : Int) from ⟨i0, i1⟩), Go.WideShapes.add_plain, Nat.add_assoc]
        | _ => exact .inl h3
    | _ => exact .inl h3
  case extract x k =>
    obtain ⟨v, h1, h2, h3⟩ := ev_of hf h
    cases v with
    | t vs =>
      obtain ⟨v, hv, h3⟩ := nth_of h3
      refine .inr ⟨v, okL_at h1 hv, fun w => ?_, h3⟩
      have hg : (denL m vs)[k]? = some (den m v) := by rw [denL_get, hv]; rfl
      unfold execOp
      simp [ho, h2, den, Instr.extract, hg]
    | _ => exact .inl h3
  case binOp op t x y u =>
    obtain ⟨p, h1, h2, h3⟩ := ev_of hf h
    obtain ⟨q, k1, k2, k3⟩ := ev_of hf h3
    exact bin_of ht h1 ho h2 k2 k3
  case unOp op t x =>
    obtain ⟨v, h1, h2, h3⟩ := ev_of hf h
    cases op <;> cases v <;> first
      | exact .inl h3
      | (refine .inr ⟨_, rfl, fun w => ?_, (by first | exact h3 | (replace h3 := h3.out; exact h3))⟩
         unfold execOp
         simp [ho, h2, den, Op.unary, Op.intArith])
  case build t parts =>
    obtain ⟨y, hy, h3⟩ := tyK_of h
    cases hr : y.row with
    | false => simp only [hr] at h3; exact .inl h3
    | true =>
      simp only [hr] at h3
      cases hfl : y.flds with
      | nil => simp only [hfl] at h3; exact .inl h3
      | cons q0 qs =>
        rw [hfl] at h3
        obtain ⟨d, i, T⟩ := (ht _ _ hy).out
        obtain ⟨fs, rfl, hfc⟩ := T.st 0 q0 (by rw [hfl]; rfl)
        have hz : okL m.length y.zero = true := okL_mono (Nat.zero_le _) _ T.zok
        have hall := (fld_of hfc).2
        have hplaces : ∀ (k : Nat) (q : Nat × Nat × Bool), y.flds[k]? = some q → (fun i : Nat => (y.flds.map fun q => (q.1, q.2.1)).toArray[i]?) k = some (q.1, q.2.1) := fun k q hq => by simp [hq]
        obtain ⟨l, e1, e2, e3⟩ := bld_of hf hfc hplaces hz (by rw [hfl]; exact h3)
        refine .inr ⟨.a l, e1, fun w => ?_, e3⟩
        have hzv : (zeroV y) = .agg (denL m y.zero).toArray := by simp only [zeroV, hr]; rw [denL0 (m := m) T.zok]
        have hparts : (parts.map fun q => (q.1, a.eval q.2)).toList = parts.toList.map fun q => (q.1, a.eval q.2) := by simp
        unfold execOp
        simp only [ho, Instr.build, Sem.run_bind, zeroValue, typeInfo, run_program, Result.andThen_ok, T.inf, Sem.run_pure, T.zero, hzv, run_underlying T.un, Array.mapM_eq_mapM_toList]
        simp only [Sem.run_map, places_run w hfc, Value.cells]
        simp at e2
        simp [e2, den]
  case makeFunc fn first captured =>
    cases fn with
    | func f =>
      simp only [pe] at h
      split at h
      · rename_i he
        obtain ⟨l, h1, h2, h3⟩ := evL_of hf h
        refine .inr ⟨.f f l, h1, fun w => ?_, h3⟩
        unfold execOp
        have e1 : first = #[] := by cases first; simp at he; rw [he]
        simp [ho, Instr.makeFunc, den, e1, ← h2, ← Array.toList_map]
      · exact .inl h
    | _ => exact .inl h
  case convert s d x =>
    obtain ⟨v, h1, h2, h3⟩ := ev_of hf h
    cases v with
    | i k n =>
      obtain ⟨ys, hys, h3⟩ := tyK_of h3
      obtain ⟨ds, is, Ts⟩ := (ht _ _ hys).out
      obtain ⟨y, hy, h3⟩ := tyK_of h3
      cases hk : y.ik with
      | none => simp only [hk] at h3; exact .inl h3
      | some k =>
        simp only [hk] at h3
        obtain ⟨d, i, T⟩ := (ht _ _ hy).out
        have := T.ik k hk
        subst this
        replace h3 := h3.out
        refine .inr ⟨_, rfl, fun w => ?_, h3⟩
        unfold execOp
        simp only [ho, h2, den]
        simp only [convert, Sem.run_bind, run_underlying Ts.un, run_underlying T.un, Result.andThen_ok, Conv.intToInt, Sem.run_pure]
    | _ => exact .inl h3
  case call c =>
    obtain ⟨callee, args, ats⟩ := c
    have hrun : ∀ b, callee = .builtin b → ∀ w, (execOp a.eval o).run P w = (builtin b ats o.type (args.map fun | .const _ => true | _ => false) (args.map a.eval)).run P w := fun b hb w => by
      subst hb
      unfold execOp
      simp only [ho, resolve, Sem.run_bind, Sem.run_pure, Result.andThen_ok, invoke]
      rfl
    cases callee with
    | builtin b =>
      cases b
      all_goals try exact .inl h
      case len =>
        simp only [pe] at h
        split at h
        · rename_i x t hx hats
          have e1 : args = #[x] := by cases args; simp at hx; rw [hx]
          have e2 : ats = #[t] := by cases ats; simp at hats; rw [hats]
          obtain ⟨y, hy, h3⟩ := tyK_of h
          cases hs : y.sl with
          | false => simp only [hs] at h3; exact .inl h3
          | true =>
            simp only [hs] at h3
            obtain ⟨d, i, T⟩ := (ht _ _ hy).out
            have hd := T.sl hs
            subst hd
            obtain ⟨v, h1, h2, h3⟩ := ev_of hf h3
            cases v with
            | s j q n c =>
              have hj : j < m.length := by simpa [okV] using h1
              refine .inr ⟨_, rfl, fun w => ?_, h3⟩
              rw [hrun _ rfl w]
              simp [e1, e2, builtin, Builtin.len_, h2, den, run_underlying T.un, List.getElem?_eq_getElem hj, goInt]
            | v x =>
              cases x with
              | slice A n c =>
                refine .inr ⟨_, rfl, fun w => ?_, h3⟩
                rw [hrun _ rfl w]
                simp [e1, e2, builtin, Builtin.len_, h2, den, run_underlying T.un, goInt]
              | _ => exact .inl h3
            | _ => exact .inl h3
        · exact .inl h
      case min =>
        simp only [pe] at h
        split at h
        · rename_i x y hx
          have e1 : args = #[x, y] := by cases args; simp at hx; rw [hx]
          obtain ⟨p, h1, h2, h3⟩ := ev_of hf h
          obtain ⟨q, k1, k2, h3⟩ := ev_of hf h3
          cases p <;> cases q <;> first
            | exact .inl h3
            | (refine .inr ⟨_, rfl, fun w => ?_, h3⟩
               rw [hrun _ rfl w]
               simp [e1, builtin, Builtin.min_, Builtin.min2, h2, k2, den])
        · exact .inl h
      case max =>
        simp only [pe] at h
        split at h
        · rename_i x y hx
          have e1 : args = #[x, y] := by cases args; simp at hx; rw [hx]
          obtain ⟨p, h1, h2, h3⟩ := ev_of hf h
          obtain ⟨q, k1, k2, h3⟩ := ev_of hf h3
          cases p <;> cases q <;> first
            | exact .inl h3
            | (refine .inr ⟨_, rfl, fun w => ?_, h3⟩
               rw [hrun _ rfl w]
               simp [e1, builtin, Builtin.max_, Builtin.max2, h2, k2, den])
        · exact .inl h
    | _ => exact .inl h
/-- A load of a block that is known. -/
theorem ld_of {s : St} {t : TypeId} {x : Operand} {K : Nat → SV → Prop} (ht : TabOk P tab) (hf : FrOk s.m a.tmps s.fr) (ho : o.op = .load t x) (h : ld tab t x s K F) :
    F ∨ ∃ j r v, s.m[j]? = some r ∧ r.live = true ∧ (okL s.m.length r.cs = true → okV s.m.length v = true) ∧ (∀ w, r.pre.length = r.off → Blk w r.g r.t (rowA s.m r) → (execOp a.eval o).run P w = .ok (.value (den s.m v)) w) ∧ K j v := by
  obtain ⟨v, h1, h2, h3⟩ := ev_of hf h
  cases v with
  | p j q =>
    obtain ⟨r, hr, h3⟩ := nthR_of h3
    cases hl : r.live with
    | false => simp only [hl] at h3; exact .inl h3
    | true =>
      simp only [hl] at h3
      obtain ⟨y, hy, h3⟩ := tyK_of h3
      obtain ⟨d, i, T⟩ := (ht _ _ hy).out
      have hx : a.eval x = .pointer (some ⟨r.g, r.off + q, none⟩) := by rw [h2]; simp only [den, hr]
      cases hrow : y.row with
      | true =>
        simp only [hrow] at h3
        obtain ⟨hlen, h3⟩ := tkN_of h3
        refine .inr ⟨j, r, .a ((r.cs.drop q).take y.size), hr, hl, fun hok => okL_sub hok (fun v hv => List.mem_of_mem_drop (List.mem_of_mem_take hv)), fun w hp hB => ?_, h3⟩
        have hl2 : ((denL s.m r.cs).toArray.toList.drop q).take y.size = denL s.m ((r.cs.drop q).take y.size) := by rw [denL_drop, denL_take]
        have hn : (denL s.m ((r.cs.drop q).take y.size)).length = y.size := by rw [denL_len, List.length_take, List.length_drop]; omega
        exact exec_part (n := y.size) t x d hB (el_part hp hl2 (by simp [denL_len]; omega)) hn ho hx T.un (by rw [T.row, hrow]) (by rw [T.inf, hn]; simp [T.size])
      | false =>
        simp only [hrow] at h3
        obtain ⟨v, hv, h3⟩ := nth_of h3
        refine .inr ⟨j, r, v, hr, hl, fun hok => okL_at hok hv, fun w hp hB => ?_, h3⟩
        have hg : (denL s.m r.cs).toArray[q]? = some (den s.m v) := by rw [List.getElem?_toArray, denL_get, hv]; rfl
        refine exec_cell t x d hB (el_at hp hg) ho hx T.un ?_
        have := T.row
        rw [hrow] at this
        cases d <;> simp_all [TypeDesc.isRow]
  | _ => exact .inl h3
end
end Go.Proofs.YthmikjjnlahlbaaGreat.En
namespace Go.Proofs.YthmikjjnlahlbaaGreat.En
set_option linter.unusedSectionVars false
set_option linter.unusedVariables false
set_option linter.unusedSimpArgs false
open Go.RowKit Go.Proofs.YthmikjjnlahlbaaGreat.Ba Go.Proofs.YthmikjjnlahlbaaGreat.Mem
section
variable {X : Cx} {m m' : List Row} {ob : List Asr} {w w' : World} {s : St} {a : Act} {o : Oper} {K : St → Prop} {F : Prop}
theorem rowA_ext (h : Ext m m') {r : Row} (hk : okL m.length r.cs = true) : rowA m' r = rowA m r := by unfold rowA; rw [denL_ext h _ hk]
/-- What holds stays over new memory. -/
theorem Hold.since (h : Hold X m ob w) (k : Since w w') : Hold X m ob w' :=
  ⟨h.upd.trans k, fun j r hj hl => keep_blk k (h.row j r hj hl), h.wf, h.ne, fun A hA => A.up (T := []) (Upd.of_since k) (fun _ _ h => by cases h) (h.obj A hA), h.far, h.own, h.dis⟩
theorem Hold.drew (h : Hold X m ob w) : Hold X m ob w.drew := h.since ((Since.refl w).drew)
theorem getElem?_snoc {α : Type} {l : List α} {x y : α} {j : Nat} (h : (l ++ [x])[j]? = some y) : l[j]? = some y ∨ (j = l.length ∧ y = x) := by
  rcases Nat.lt_or_ge j l.length with hl | hl
  · rw [List.getElem?_append_left hl] at h; exact .inl h
  · rw [List.getElem?_append_right hl] at h
    have : j - l.length = 0 := by
      have := (List.getElem?_eq_some_iff.1 h).1
      simp at this; omega
    rw [this] at h; simp at h
    exact .inr ⟨by omega, h.symm⟩
/-- A new block. -/
theorem Hold.new (h : Hold X m ob w) {t : TypeId} {cs : List SV} (hc : okL m.length cs = true) : Hold X (m ++ [⟨w.heap.size, t, true, 0, [], cs, [], true⟩]) ob (w.alloc (.cells (denL m cs).toArray t)) := by
  have k : Since w (w.alloc (.cells (denL m cs).toArray t)) := (Since.refl w).alloc _
  have h2 := h.since k
  have hE := Ext.app m [⟨w.heap.size, t, true, 0, [], cs, [], true⟩]
  have hlen : (m ++ [(⟨w.heap.size, t, true, 0, [], cs, [], true⟩ : Row)]).length = m.length + 1 := by simp
  have hrow : rowA (m ++ [⟨w.heap.size, t, true, 0, [], cs, [], true⟩]) ⟨w.heap.size, t, true, 0, [], cs, [], true⟩ = (denL m cs).toArray := by
    rw [rowA_ext hE hc]; simp [rowA, el]
  refine ⟨h2.upd, fun j r hj hl => ?_, fun j r hj hl => ?_, fun i j r q hi hj hr hq hne => ?_, h2.obj, fun A hA j r hj hl => ?_, h2.own, h2.dis⟩
  · rcases getElem?_snoc hj with hj | ⟨_, rfl⟩
    · rw [rowA_ext hE (h.wf j r hj hl).1]; exact h2.row j r hj hl
    · rw [hrow]; exact Blk.new w t _
  · rcases getElem?_snoc hj with hj | ⟨_, rfl⟩
    · obtain ⟨h3, h4, h5⟩ := h.wf j r hj hl
      exact ⟨okL_mono (by rw [hlen]; omega) _ h3, h4, h5⟩
    · exact ⟨okL_mono (by rw [hlen]; omega) _ hc, rfl, fun _ => .inr h.upd.size⟩
  · have lt : ∀ (j : Nat) (r : Row), m[j]? = some r → r.live = true → r.g < w.heap.size := fun j r hj hl => (h.row j r hj hl).lt
    rcases getElem?_snoc hi with hi | ⟨rfl, rfl⟩ <;> rcases getElem?_snoc hj with hj | ⟨rfl, rfl⟩
    · exact h.ne i j r q hi hj hr hq hne
    · have := lt i r hi hr; exact Nat.ne_of_lt this
    · have := lt j q hj hq; exact Nat.ne_of_gt this
    · exact absurd rfl hne
  · rcases getElem?_snoc hj with hj | ⟨_, rfl⟩
    · exact h.far A hA j r hj hl
    · intro hm; have := A.lt (h.obj A hA) _ hm; simp at this
theorem getElem?_set_or {α : Type} {l : List α} {x y : α} {i j : Nat} (h : (l.set i x)[j]? = some y) : (i = j ∧ y = x) ∨ (i ≠ j ∧ l[j]? = some y) := by
  by_cases e : i = j
  · subst e
    rw [List.getElem?_set] at h
    simp at h
    exact .inl ⟨rfl, h.2.symm⟩
  · rw [List.getElem?_set_ne e] at h; exact .inr ⟨e, h⟩
/-- A known block is written. -/
theorem Hold.set (h : Hold X m ob w) {j : Nat} {r : Row} (hj : m[j]? = some r) (hl : r.live = true) (hrw : r.rw = true) {cs : List SV} (hc : okL m.length cs = true) :
    Hold X (m.set j { r with cs := cs }) ob (w.setRow r.g (rowA m { r with cs := cs })) := by
  have hE := Ext.set hj cs
  have hB := h.row j r hj hl
  have hr : ∀ (q : Row), okL m.length q.cs = true → rowA (m.set j { r with cs := cs }) q = rowA m q := fun q hq => rowA_ext hE hq
  obtain ⟨w1, w2, w3⟩ := h.wf j r hj hl
  have hup : Upd [r.g] w (w.setRow r.g (rowA m { r with cs := cs })) := (Upd.refl _ w).setRow (.inl (by simp)) _
  refine ⟨h.upd.setRow (w3 hrw) _, fun i q hi hq => ?_, fun i q hi hq => ?_, fun i k q q' hi hk hq hq' hne => ?_, fun A hA => A.up hup (fun g hg hgr => h.far A hA j r hj hl (by rw [List.mem_singleton] at hgr; exact hgr ▸ hg)) (h.obj A hA), fun A hA i q hi hq => ?_, h.own, h.dis⟩
  · rcases getElem?_set_or hi with ⟨rfl, rfl⟩ | ⟨hne, hi⟩
    · rw [hr _ hc]; exact Blk.row hB _
    · rw [hr _ (h.wf i q hi hq).1]; exact Blk.row_far (h.row i q hi hq) (h.ne i j q r hi hj hq hl (Ne.symm hne)) _
  · rw [List.length_set]
    rcases getElem?_set_or hi with ⟨rfl, rfl⟩ | ⟨hne, hi⟩
    · exact ⟨hc, w2, w3⟩
    · exact h.wf i q hi hq
  · rcases getElem?_set_or hi with ⟨rfl, rfl⟩ | ⟨hn1, hi⟩ <;> rcases getElem?_set_or hk with ⟨rfl, rfl⟩ | ⟨hn2, hk⟩
    · exact absurd rfl hne
    · exact h.ne j k r q' hj hk hl hq' hne
    · exact h.ne i j q r hi hj hq hl hne
    · exact h.ne i k q q' hi hk hq hq' hne
  · rcases getElem?_set_or hi with ⟨rfl, rfl⟩ | ⟨hne, hi⟩
    · exact h.far A hA j r hj hl
    · exact h.far A hA i q hi hq
theorem FrOk.ext {tm : Array Value} {fr : List (Nat × SV)} (h : FrOk m tm fr) (hE : Ext m m') : FrOk m' tm fr := fun k v hv => by
  obtain ⟨h1, h2⟩ := h k v hv
  exact ⟨okV_mono hE.len _ h1, by rw [den_ext hE _ h1]; exact h2⟩
/-- A value is put into a slot. -/
theorem put_of {d : Option Tmp} {v : SV} (hd : a.defers = X.ds) (hz : a.tmps.size = X.n) (hf : FrOk s.m a.tmps s.fr) (hH : Hold X s.m s.ob w) (hv : okV s.m.length v = true) (h : put X.n d v s K) :
    ∃ s', Rel X s' (a.put d (den s.m v)) w ∧ s'.m = s.m ∧ s'.ob = s.ob ∧ K s' := by
  unfold put at h
  cases d with
  | none => exact ⟨s, ⟨hd, hz, hf, hH⟩, rfl, rfl, h⟩
  | some d =>
    simp only at h
    cases hb : Nat.blt d X.n with
    | false => rw [hb] at h; exact h.elim
    | true =>
      rw [hb] at h
      have hlt : d < X.n := by simpa [Nat.blt_eq] using hb
      refine ⟨{ s with fr := (d, v) :: s.fr }, ⟨hd, by simp [Act.put, hz], fun k u hu => ?_, hH⟩, rfl, rfl, h⟩
      simp only [lkO] at hu
      cases hk : Nat.beq d k with
      | true =>
        rw [hk] at hu
        have := Nat.eq_of_beq_eq_true hk
        subst this
        cases hu
        exact ⟨hv, by simp [Act.put, hz, hlt]⟩
      | false =>
        rw [hk] at hu
        obtain ⟨h1, h2⟩ := hf k u hu
        refine ⟨h1, ?_⟩
        have hne : d ≠ k := fun e => by subst e; simp at hk
        simpa [Act.put, Array.getElem?_setIfInBounds_ne hne] using h2
/-- Stored over a part of a block. -/
theorem putAt_lay : ∀ (vs : List SV) (l : List SV) (q : Nat), q + vs.length ≤ l.length → putAt (denL m l).toArray q (denL m vs) = (denL m (lay q vs l)).toArray
  | [], l, q, _ => by simp [denL, putAt, lay]
  | v :: vs, l, q, h => by
    simp only [List.length_cons] at h
    have hset : (denL m l).toArray.setIfInBounds q (den m v) = (denL m (l.set q v)).toArray := by
      rw [List.setIfInBounds_toArray]
      congr 1
      apply List.ext_getElem?
      intro i
      rw [denL_get, List.getElem?_set, List.getElem?_set, denL_get]
      by_cases hi : q = i
      · subst hi; simp [denL_len]
      · simp [hi]
    show putAt ((denL m l).toArray.setIfInBounds q (den m v)) (q + 1) (denL m vs) = _
    rw [hset, putAt_lay vs (l.set q v) (q + 1) (by simp; omega)]
    congr 2
    unfold lay
    rw [List.length_cons, List.take_succ_eq_append_getElem (by simp; omega), List.take_set_of_le (Nat.le_refl _)]
    simp only [List.getElem_set_self, List.append_assoc, List.cons_append, List.nil_append]
    rw [List.drop_set_of_lt (by omega), show q + 1 + vs.length = q + (vs.length + 1) from by omega]
theorem oneS_den {v : SV} (hk : okV m.length v = true) (h : oneS v = true) : (den m v).oneCell' = true := by
  cases v with
  | v x => exact h
  | p j o =>
    have hj : j < m.length := by simpa [okV] using hk
    simp only [den, List.getElem?_eq_getElem hj]; rfl
  | s j o n c =>
    have hj : j < m.length := by simpa [okV] using hk
    simp only [den, List.getElem?_eq_getElem hj]; rfl
  | a _ => cases h
  | t _ => cases h
  | _ => rfl
theorem lay_ok {n q : Nat} {vs l : List SV} (h : okL n l = true) (k : okL n vs = true) : okL n (lay q vs l) = true :=
  okL_app (okL_app (okL_sub h fun v hv => List.mem_of_mem_take hv) k) (okL_sub h fun v hv => List.mem_of_mem_drop hv)
/-- What a region keeps. -/
structure KI (keep : List Nat) (m0 m : List Row) : Prop where
  ext : Ext m0 m
  at_ : ∀ j ∈ keep, ∃ r, m0[j]? = some r ∧ m[j]? = some r
structure Cx.Ok (X : Cx) : Prop where
  tab : TabOk X.P X.tab
theorem cellsS_ok {n : Nat} {v : SV} (h : okV n v = true) : okL n (cellsS v) = true := by
  cases v <;> first | exact h | (simp only [cellsS, okL, Bool.and_true]; exact h)
theorem cellsS_den {v : SV} (hk : okV m.length v = true) (hv : ∀ x, v = .v x → x.oneCell' = true) : (den m v).cells = (denL m (cellsS v)).toArray := by
  cases v with
  | v x => have := hv x rfl; cases x <;> first | rfl | cases this
  | p j o =>
    have hj : j < m.length := by simpa [okV] using hk
    simp only [den, cellsS, denL, List.getElem?_eq_getElem hj]; rfl
  | s j o n c =>
    have hj : j < m.length := by simpa [okV] using hk
    simp only [den, cellsS, denL, List.getElem?_eq_getElem hj]; rfl
  | _ => rfl
variable {keep : List Nat} {m0 : List Row}
theorem nw_of {t : TypeId} {cs : List SV} {K : Nat → St → Prop} (h : nw s t cs K) (g : Nat) : K s.m.length { s with m := s.m ++ [⟨g, t, true, 0, [], cs, [], true⟩] } := by
  have h1 := lenR_of (h g)
  have h2 := appR_of h1
  simpa using h2
theorem KI.app (h : KI keep m0 m) (l : List Row) : KI keep m0 (m ++ l) := ⟨h.ext.trans (Ext.app _ _), fun j hj => by
  obtain ⟨r, h1, h2⟩ := h.at_ j hj
  exact ⟨r, h1, by rw [List.getElem?_append_left (List.getElem?_eq_some_iff.1 h2).1]; exact h2⟩⟩
theorem KI.set (h : KI keep m0 m) {j : Nat} {r : Row} (hj : m[j]? = some r) (hk : keep.elem j = false) (cs : List SV) : KI keep m0 (m.set j { r with cs := cs }) := ⟨h.ext.trans (Ext.set hj cs), fun i hi => by
  obtain ⟨q, h1, h2⟩ := h.at_ i hi
  have hne : j ≠ i := fun e => by subst e; simp at hk; exact hk hi
  exact ⟨q, h1, by rw [List.getElem?_set_ne hne]; exact h2⟩⟩
/-- How an act on memory ends. -/
def Ac (X : Cx) (keep : List Nat) (m0 : List Row) (o : Oper) (a : Act) (w : World) (K : St → Prop) : Prop := ∀ Q, o.wp X.P a w (fun a' w' => ∃ s', Rel X s' a' w' ∧ KI keep m0 s'.m ∧ K s') Q
theorem new_act (hR : Rel X s a w) (hki : KI keep m0 s.m) {t : TypeId} {cs : List SV} (hc : okL s.m.length cs = true)
    (he : (execOp a.eval o).run X.P w = .ok (.value (.pointer (some ⟨w.heap.size, 0, none⟩))) (w.alloc (.cells (denL s.m cs).toArray t)))
    (h : nw s t cs fun j s => put X.n o.dst (.p j 0) s K) : Ac X keep m0 o a w K := fun Q => by
  have h1 := nw_of h w.heap.size
  have hH := hR.h.new (t := t) hc
  have hE := Ext.app s.m [⟨w.heap.size, t, true, 0, [], cs, [], true⟩]
  have hg : (s.m ++ [(⟨w.heap.size, t, true, 0, [], cs, [], true⟩ : Row)])[s.m.length]? = some ⟨w.heap.size, t, true, 0, [], cs, [], true⟩ := by simp
  obtain ⟨s', r1, r2, r3, r4⟩ := put_of (a := a) (s := { s with m := s.m ++ [⟨w.heap.size, t, true, 0, [], cs, [], true⟩] }) (v := .p s.m.length 0) hR.ds hR.sz (hR.fr.ext hE) hH (by simp [okV]) h1
  unfold Oper.wp
  rw [he]
  refine ⟨s', ?_, by rw [r2]; exact hki.app _, r4⟩
  have : den (s.m ++ [⟨w.heap.size, t, true, 0, [], cs, [], true⟩]) (.p s.m.length 0) = .pointer (some ⟨w.heap.size, 0, none⟩) := by simp only [den, hg]
  rw [← this]; exact r1
theorem q_act (hR : Rel X s a w) (hki : KI keep m0 s.m) {v : SV} (hv : okV s.m.length v = true) (he : (execOp a.eval o).run X.P w = .ok (.value (den s.m v)) w) (h : put X.n o.dst v s K) : Ac X keep m0 o a w K := fun Q => by
  obtain ⟨s', r1, r2, r3, r4⟩ := put_of hR.ds hR.sz hR.fr hR.h hv h
  exact wp_q _ he ⟨s', r1, by rw [r2]; exact hki, r4⟩
theorem stv_of {tab : Tab} {t : TypeId} {v : SV} {K : List SV → Prop} (h : stv tab t v K F) : F ∨ ∃ y vs, tyO t tab = some y ∧ ((v = .a vs ∧ y.row = true ∧ vs.length = y.size ∧ ∀ u ∈ vs, oneS u = true) ∨ (vs = [v] ∧ y.row = false ∧ oneS v = true)) ∧ K vs := by
  obtain ⟨y, hy, h⟩ := tyK_of h
  have other : (match y.row with | true => F | false => match oneS v with | true => K [v] | false => F) → F ∨ ∃ y vs, tyO t tab = some y ∧ ((v = .a vs ∧ y.row = true ∧ vs.length = y.size ∧ ∀ u ∈ vs, oneS u = true) ∨ (vs = [v] ∧ y.row = false ∧ oneS v = true)) ∧ K vs := fun h => by
    cases hr : y.row with
    | true => rw [hr] at h; exact .inl h
    | false =>
      rw [hr] at h
      cases ho : oneS v with
      | false => simp only [ho] at h; exact .inl h
      | true => simp only [ho] at h; exact .inr ⟨y, [v], hy, .inr ⟨rfl, hr, by first | rfl | exact ho⟩, h⟩
  cases v with
  | a l =>
    simp only at h
    cases hr : y.row with
    | false => simp only [hr] at h; exact .inl h
    | true =>
      simp only [hr] at h
      cases hb : Nat.beq l.length y.size && l.all oneS with
      | false => simp only [hb] at h; exact .inl h
      | true =>
        simp only [hb] at h
        simp only [Bool.and_eq_true, List.all_eq_true] at hb
        exact .inr ⟨y, l, hy, .inl ⟨rfl, hr, Nat.eq_of_beq_eq_true hb.1, hb.2⟩, h⟩
  | _ => exact other h
theorem me_of (hX : X.Ok) (hR : Rel X s a w) (hki : KI keep m0 s.m) (h : me X.tab X.n keep o s K F) : F ∨ Ac X keep m0 o a w K := by
  unfold me at h
  split at h
  · rename_i t x ho
    rcases ld_of (o := o) (a := a) hX.tab hR.fr ho h with h | ⟨j, r, v, h1, h2, h3, h4, h5⟩
    · exact .inl h
    · obtain ⟨w1, w2, w3⟩ := hR.h.wf j r h1 h2
      exact .inr (q_act hR hki (h3 w1) (h4 w w2 (hR.h.row j r h1 h2)) h5)
  · rename_i t x y ho
    obtain ⟨p, h1, h2, h⟩ := ev_of hR.fr h
    obtain ⟨v, k1, k2, h⟩ := ev_of hR.fr h
    cases p with
    | p j q =>
      simp only at h
      cases hk : keep.elem j with
      | true => rw [hk] at h; exact h.elim
      | false =>
        rw [hk] at h
        rcases stv_of h with h | ⟨ty, vs0, hy, hwhat, hs9⟩
        · exact .inl h
        clear h
        obtain ⟨d, i, T⟩ := (hX.tab _ _ hy).out
        have key : ∀ vs : List SV, okL s.m.length vs = true → (∀ (r : Row) (cs : List SV), s.m[j]? = some r → r.live = true → q + vs.length ≤ r.cs.length → okL s.m.length cs = true → cs = lay q vs r.cs → (∀ K : Act → World → Prop, (∀ w', w' = w.setRow r.g (rowA s.m { r with cs := cs }) → K (a.put o.dst undef) w') → ∀ Q, o.wp X.P a w K Q)) →
            setR j (fun r K => match r.live with | true => (match r.rw with | true => setN q vs r.cs fun cs => K { r with cs := cs } | false => False) | false => False) s.m (fun m => put X.n o.dst (.v undef) { s with m := m } K) → Ac X keep m0 o a w K := by
          intro vs hvs hst hs
          obtain ⟨r, hr, hs⟩ := setR_of hs
          cases hl : r.live with
          | false => simp only [hl] at hs
          | true =>
            simp only [hl] at hs
            cases hrw : r.rw with
            | false => simp only [hrw] at hs
            | true =>
            simp only [hrw] at hs
            obtain ⟨hlen, hs⟩ := setN_of hs
            obtain ⟨w1, w2, w3⟩ := hR.h.wf j r hr hl
            have hok : okL s.m.length (lay q vs r.cs) = true := lay_ok w1 hvs
            have hH := hR.h.set hr hl hrw hok
            have hE := Ext.set hr (lay q vs r.cs)
            intro Q
            refine hst r _ hr hl hlen hok rfl _ (fun w' hw' => ?_) Q
            have hs2 : put X.n o.dst (.v undef) { s with m := s.m.set j { r with cs := lay q vs r.cs } } K := by simpa [hl, hrw] using hs
            obtain ⟨s', r1, r2, r3, r4⟩ := put_of (a := a) (s := { s with m := s.m.set j { r with cs := lay q vs r.cs } }) hR.ds hR.sz (hR.fr.ext hE) hH (v := .v undef) rfl hs2
            subst hw'
            exact ⟨s', r1, by rw [r2]; exact hki.set hr hk _, r4⟩
        have hpart : ∀ (r : Row) (vs : List SV), s.m[j]? = some r → r.live = true → q + vs.length ≤ r.cs.length → putAt (rowA s.m r) (r.off + q) (denL s.m vs) = rowA s.m { r with cs := lay q vs r.cs } := fun r vs hr hl hlen => by
          obtain ⟨w1, w2, w3⟩ := hR.h.wf j r hr hl
          exact el_put w2 (by simp [denL_len]; exact hlen) (putAt_lay vs r.cs q hlen)
        have haddr : ∀ r : Row, s.m[j]? = some r → a.eval x = .pointer (some ⟨r.g, r.off + q, none⟩) := fun r hr => by rw [h2]; simp only [den, hr]
        rcases hwhat with ⟨rfl, hrow, hll, hb⟩ | ⟨rfl, hrow, hone⟩
        · refine .inr (key vs0 k1 (fun r cs hr hl hlen hok hcs K hK Q => ?_) hs9)
          subst hcs
          obtain ⟨w1, w2, w3⟩ := hR.h.wf j r hr hl
          refine wp_st_part t x y ho (rowA s.m { r with cs := lay q vs0 r.cs }) (denL s.m vs0).toArray (haddr r hr) k2 (hR.h.row j r hr hl) ?_ (hpart r vs0 hr hl hlen) ?_ (by rw [T.inf]; simp [T.size, denL_len, hll]) (fun w' hw' => hK w' hw')
          · rw [List.size_toArray]; exact el_le w2 (by simp [denL_len]; exact hlen)
          · simp only [List.all_toArray, List.all_eq_true]
            intro u hu
            obtain ⟨k, hk⟩ := List.mem_iff_getElem?.1 hu
            rw [denL_get] at hk
            cases hq : vs0[k]? with
            | none => rw [hq] at hk; cases hk
            | some v =>
              rw [hq] at hk; cases hk
              exact oneS_den (okL_at k1 hq) (hb v (List.mem_of_getElem? hq))
        · refine .inr (key [v] (by simp [okL, k1]) (fun r cs hr hl hlen hok hcs K hK Q => ?_) hs9)
          subst hcs
          obtain ⟨w1, w2, w3⟩ := hR.h.wf j r hr hl
          refine wp_st_cell t x y ho (rowA s.m { r with cs := lay q [v] r.cs }) (den s.m v) (haddr r hr) k2 (hR.h.row j r hr hl) ?_ ?_ (oneS_den k1 hone) (by rw [T.inf]; simp [T.size, T.one hrow]) (fun w' hw' => hK w' hw')
          · exact el_lt w2 (by simp [denL_len]; simp at hlen; omega)
          · simpa [denL, putAt] using hpart r [v] hr hl hlen
    | _ => exact .inl h
  · rename_i t ho
    obtain ⟨y, hy, h⟩ := tyK_of h
    obtain ⟨d, i, T⟩ := (hX.tab _ _ hy).out
    have hz : okL s.m.length y.zero = true := okL_mono (Nat.zero_le _) _ T.zok
    refine .inr (new_act hR hki hz ?_ h)
    have hzc : (zeroV y).cells = (denL s.m y.zero).toArray := by
      rw [denL0 T.zok]
      unfold zeroV
      cases hr : y.row with
      | true => rfl
      | false =>
        have h1 := T.one hr
        have h2 := T.zlen
        match hyz : y.zero with
        | [] => rw [hyz] at h2; simp at h2; omega
        | [v] =>
          have h3 := T.zone hr v (by rw [hyz]; rfl)
          rw [cellsS_den (m := []) (okL_at T.zok (k := 0) (by rw [hyz]; rfl)) (fun x hx => by subst hx; exact h3)]
          cases v <;> first | rfl | cases h3
        | _ :: _ :: _ => rw [hyz] at h2; simp at h2; omega
    unfold execOp
    simp [ho, Instr.alloc, zeroValue, typeInfo, T.inf, T.zero, newVar, newRow, hzc]
  · rename_i t x ho
    obtain ⟨v, k1, k2, h⟩ := ev_of hR.fr h
    split at h
    · rename_i x1
      cases hone : x1.oneCell' with
      | false => simp only [hone] at h; exact .inl h
      | true =>
        simp only [hone] at h
        refine .inr (new_act hR hki (cellsS_ok k1) ?_ h)
        unfold execOp
        simp [ho, Instr.box, newVar, newRow, k2, cellsS_den k1 (fun x hx => by cases hx; exact hone)]
    · rename_i hnv
      refine .inr (new_act hR hki (cellsS_ok k1) ?_ h)
      unfold execOp
      simp [ho, Instr.box, newVar, newRow, k2, cellsS_den k1 (fun x hx => absurd hx (hnv x))]
  · exact .inl h
end
end Go.Proofs.YthmikjjnlahlbaaGreat.En
namespace Go.Proofs.YthmikjjnlahlbaaGreat.En
set_option linter.unusedSectionVars false
set_option linter.unusedVariables false
set_option linter.unusedSimpArgs false
open Go.RowKit Go.Proofs.YthmikjjnlahlbaaGreat.Ba Go.Proofs.YthmikjjnlahlbaaGreat.Mem
section
variable {X : Cx} {m m' : List Row} {ob : List Asr} {w w' : World} {s : St} {a : Act} {o : Oper} {K : St → Prop} {F : Prop} {keep : List Nat} {m0 : List Row}
theorem KI.nil (h : Ext m0 m) : KI [] m0 m := ⟨h, fun _ h => by cases h⟩
theorem KI.kpt (h : KI keep m0 m) (hE : Ext m m') {A : Prop} (k : Kpt keep m0 m' A) : KI keep m0 m' ∧ A := by
  replace k := k.out
  refine ⟨⟨h.ext.trans hE, fun j hj => ?_⟩, k.2⟩
  obtain ⟨r, h1, h2⟩ := h.at_ j hj
  have := (List.map_inj_left.1 k.1) j hj
  exact ⟨r, h1, by rw [← this, h1]⟩
/-- The end of an act that the walk doesn't know: with what is kept. -/
def endK (keep : List Nat) (m0 : List Row) (K : St → Prop) : St → Prop := fun s => match keep with
  | [] => K s
  | _ :: _ => Kpt keep m0 s.m (K s)
theorem endK_of (h : KI keep m0 m) (hE : Ext m s.m) (k : endK keep m0 K s) : KI keep m0 s.m ∧ K s := by
  unfold endK at k
  cases keep with
  | nil => exact ⟨⟨h.ext.trans hE, fun _ h => by cases h⟩, k⟩
  | cons j r => exact h.kpt hE k
theorem opvc_of (hR : Rel X s a w) (hki : KI keep m0 s.m) (h : OpVC X o s (endK keep m0 K)) : Ac X keep m0 o a w K := fun Q => by
  replace h := h.out
  refine Oper.wp_mono (fun a' w' ⟨s', r1, r2, r3⟩ => ?_) (h a w Q hR)
  obtain ⟨h1, h2⟩ := endK_of hki r2 r3
  exact ⟨s', r1, h1, h2⟩
theorem hd_of (hR : Rel X s a w) (hki : KI keep m0 s.m) (h : hd X o s (endK keep m0 K)) : Ac X keep m0 o a w K := by
  unfold hd at h
  split at h
  · rename_i c ho
    obtain ⟨callee, args, ats⟩ := c
    cases callee with
    | value f =>
      simp only at h
      obtain ⟨v, h1, h2, h⟩ := ev_of hR.fr h
      cases v with
      | f fid cs =>
        obtain ⟨vs, k1, k2, h⟩ := evL_of hR.fr h
        have h := appS_of h
        intro Q
        replace h := h.out
        obtain ⟨he, hc⟩ := h
        unfold Oper.wp execOp
        have hargs : (args.map a.eval ++ (denL s.m cs).toArray) = (denL s.m (vs ++ cs)).toArray := by
          rw [denL_app, ← k2]; simp
        simp only [ho, resolve, h2, den, Deferred.ofValue, Sem.run_bind, Sem.run_pure, Result.andThen_ok, invoke, he]
        rw [show (#[] ++ args.map a.eval) ++ (denL s.m cs).toArray = (denL s.m (vs ++ cs)).toArray by simpa using hargs]
        refine Calls.mono (hc w hR.h) ?_
        rintro e w' ⟨v, m', ob', rfl, hv, hE, hH, hp⟩
        obtain ⟨s', r1, r2, r3, r4⟩ := put_of (a := a) (s := { fr := s.fr, m := m', ob := ob' }) hR.ds hR.sz (hR.fr.ext hE) hH hv hp
        obtain ⟨q1, q2⟩ := endK_of hki (by rw [r2]; exact hE) r4
        exact ⟨s', r1, q1, q2⟩
      | _ => exact opvc_of hR hki h
    | _ => exact opvc_of hR hki h
  · exact opvc_of hR hki h
theorem exW_of (hX : X.Ok) (hR : Rel X s a w) (hki : KI keep m0 s.m) (h : exW X keep m0 o s K) : Ac X keep m0 o a w K := by
  unfold exW at h
  rcases pe_of (o := o) (a := a) (m := s.m) hX.tab hR.fr rfl h with h | ⟨v, h1, h2, h3⟩
  · rcases me_of hX hR hki h with h | h
    · exact hd_of hR hki h
    · exact h
  · exact q_act hR hki h1 (h2 w) h3
theorem want_of {ops : Array Oper} {Y N : Prop} (hf : FrOk s.m a.tmps s.fr) (h : wantK ops.toList o.guard s.fr Y N) : (Region.wanted o (yielded ops a.tmps) = true ∧ Y) ∨ (Region.wanted o (yielded ops a.tmps) = false ∧ N) := by
  unfold wantK at h
  cases hg : o.guard with
  | none => simp only [hg] at h; exact .inl ⟨by simp [Region.wanted, hg], h⟩
  | some q =>
    obtain ⟨j, b⟩ := q
    simp only [hg] at h
    have hidx : ops.toList[j]? = ops[j]? := by simp
    rw [hidx] at h
    have hno : yielded ops a.tmps j = none → Region.wanted o (yielded ops a.tmps) = false := fun hy => by simp [Region.wanted, hg, hy]
    cases ho : ops[j]? with
    | none => rw [ho] at h; exact .inr ⟨hno (by simp [yielded, ho]), h⟩
    | some oj =>
      simp only [ho] at h
      cases hd : oj.dst with
      | none => simp only [hd] at h; exact .inr ⟨hno (by simp [yielded, ho, hd]), h⟩
      | some d =>
        simp only [hd] at h
        obtain ⟨v, hv, h⟩ := lk_of h
        obtain ⟨k1, k2⟩ := hf d v hv
        cases v with
        | b t =>
          have hy : yielded ops a.tmps j = some t := by simp [yielded, ho, hd, k2, den]
          cases b <;> cases t <;> replace h := h.out
          · exact .inl ⟨by simp [Region.wanted, hg, hy], h.2 rfl⟩
          · exact .inr ⟨by simp [Region.wanted, hg, hy], h.1 rfl⟩
          · exact .inr ⟨by simp [Region.wanted, hg, hy], h.2 rfl⟩
          · exact .inl ⟨by simp [Region.wanted, hg, hy], h.1 rfl⟩
        | v x =>
          cases x with
          | tuple vs => exact .inr ⟨hno (by simp [yielded, ho, hd, k2, den]), h⟩
          | _ => exact h.elim
        | _ => exact h.elim
theorem steps_of (hX : X.Ok) {ops : Array Oper} {Q : Exit → Act → World → Prop} (hQ : ∀ a w s, Rel X s a w → K s → Q .normal a w) : ∀ {l : List Oper} {s : St} {a : Act} {w : World}, Rel X s a w → steps X ops.toList l s K → wpList X.P ops Q l a w
  | [], s, a, w, hR, h => hQ a w s hR h
  | o :: r, s, a, w, hR, h => by
    unfold steps at h
    refine wpList_step fun K' hK' => ?_
    rcases want_of hR.fr h with ⟨hw, h⟩ | ⟨hw, h⟩
    · rw [if_pos hw]
      refine Oper.wp_mono (fun a' w' ⟨s', r1, r2, r3⟩ => hK' _ _ (steps_of hX hQ r1 r3)) (exW_of (keep := []) (m0 := s.m) hX hR (KI.nil (Ext.refl _)) (show exW X [] s.m o s _ from h) Q)
    · rw [if_neg (by rw [hw]; decide)]
      obtain ⟨s', r1, r2, r3, r4⟩ := put_of (v := .v undef) hR.ds hR.sz hR.fr hR.h rfl h
      exact hK' _ _ (steps_of hX hQ r1 r4)
/-- What a region keeps, of the world: blocks into which nothing that is listed has stored. -/
def SKeep (sts : List (Nat × Nat)) (m0 : List Row) (L : Array Bool) (w : World) : Prop :=
  ∀ (j : Nat) (r : Row), m0[j]? = some r → r.live = true → (∀ q ∈ sts, q.2 = j → L.getD q.1 false = false) → Blk w r.g r.t (rowA m0 r)
def W0 (m0 : List Row) : Prop := ∀ (j : Nat) (r : Row), m0[j]? = some r → r.live = true → okL m0.length r.cs = true ∧ r.pre.length = r.off
/-- Whatever order is picked from here on; S, of what has come up and of the world, holds behind each. -/
def AnyL (P : Program) (ops : Array Oper) (Q : Exit → Act → World → Prop) (S : Array Bool → World → Prop) : Nat → Array Bool → Act → World → Prop
  | 0, L, a, w => Region.ready .any ops L = [] ∧ Q .normal a w
  | n + 1, L, a, w => (Region.ready .any ops L = [] → Q .normal a w) ∧ ∀ i ∈ Region.ready .any ops L, wpOp P ops Q i (fun a' w' => S (L.setIfInBounds i true) w' ∧ AnyL P ops Q S n (L.setIfInBounds i true) a' w') a w
theorem AnyL.out {P : Program} {ops : Array Oper} {Q : Exit → Act → World → Prop} {S : Array Bool → World → Prop} : ∀ {n : Nat} {L : Array Bool} {a : Act} {w : World}, AnyL P ops Q S n L a w → wpAny P .any ops Q n L a w
  | 0, _, _, _, h => h
  | n + 1, _, _, _, h => ⟨h.1, fun i hi => wpOp_mono (fun a' w' k => k.2.out) (h.2 i hi)⟩
/-- What has come up has all that it waits for behind it. -/
def Clo (ops : Array Oper) (L : Array Bool) : Prop := ∀ (k : Nat) (o : Oper), ops[k]? = some o → L.getD k false = true → ∀ e ∈ o.after, Region.binds .any e = true → L.getD e.on false = true
theorem getD_set_self {L : Array Bool} {i : Nat} (h : L.getD i true = false) : (L.setIfInBounds i true).getD i false = true := by
  have hlt : i < L.size := by
    rcases Nat.lt_or_ge i L.size with q | q
    · exact q
    · simp [Array.getElem?_eq_none q] at h
  simp [hlt]
theorem Clo.set {ops : Array Oper} {L : Array Bool} (h : Clo ops L) {i : Nat} (hi : i ∈ Region.ready .any ops L) : Clo ops (L.setIfInBounds i true) := fun k o ho hk e he hb => by
  obtain ⟨h0, oi, hoi, hall⟩ := mem_ready.1 hi
  by_cases hik : i = k
  · subst hik
    rw [ho] at hoi; cases hoi
    exact getD_set_true (hall e he hb)
  · rw [getD_set_ne false hik] at hk
    exact getD_set_true (h k o ho hk e he hb)
theorem AnyL.first {P : Program} {ops : Array Oper} {Q : Exit → Act → World → Prop} {S : Array Bool → World → Prop} {T : World → Prop} {i : Nat} {oi : Oper} {v : Value} (hi : ops[i]? = some oi) (hs : Region.noSelect ops = true)
    (hP : ∀ c a w, ¬ Q (.panic c) a w) (hST : ∀ L w, Clo ops L → L.getD i true = false → S L w → T w) (hS1 : ∀ L w, S (L.setIfInBounds i true) w → S L w) (hS0 : ∀ L w, S L w → S (L.setIfInBounds i true) w) :
    ∀ {n : Nat} {L : Array Bool} {a : Act} {w : World}, Clo ops L → Region.free .any ops L i = true → i ∈ Region.ready .any ops L → YieldsIf P ops T oi v a → S L w → AnyL P ops Q S n (L.setIfInBounds i true) (a.put oi.dst v) w → AnyL P ops Q S (n + 1) L a w := by
  have hsel := Region.noSelect_spec hs
  have hq : ∀ c a w, Q (.panic c) (a.put oi.dst v) w → Q (.panic c) a w := fun c a w h => (hP _ _ _ h).elim
  have fr : ∀ (L : Array Bool) (j : Nat), Region.free .any ops L i = true → Region.free .any ops (L.setIfInBounds j true) i = true := fun L j hf => by
    simp only [Region.free, hi, List.all_eq_true, List.mem_range] at hf ⊢
    intro k hk
    have h1 := hf k hk
    simp only [Bool.or_eq_true] at h1 ⊢
    rcases h1 with (h1 | h1) | h1
    · exact .inl (.inl h1)
    · refine .inl (.inr ?_)
      by_cases hjk : j = k
      · subst hjk
        rcases Nat.lt_or_ge j L.size with q | q
        · simp [q]
        · simp [Array.getElem?_eq_none q]
      · rw [getD_set_ne true hjk]; exact h1
    · exact .inr h1
  intro n
  induction n with
  | zero =>
    intro L a w hc hf hr hy hSw H
    have hT := hST L w hc (mem_ready.1 hr).1 hSw
    refine ⟨fun h => (by rw [h] at hr; cases hr), fun j hj => ?_⟩
    by_cases hji : j = i
    · subst hji
      exact hy.wpOp hi hT (K := fun a' w' => S (L.setIfInBounds j true) w' ∧ AnyL P ops Q S 0 (L.setIfInBounds j true) a' w') ⟨hS0 _ _ hSw, H⟩
    · have := ready_mono hj hji
      rw [H.1] at this; cases this
  | succ n ih =>
    intro L a w hc hf hr hy hSw H
    have hT := hST L w hc (mem_ready.1 hr).1 hSw
    refine ⟨fun h => (by rw [h] at hr; cases hr), fun j hj => ?_⟩
    by_cases hji : j = i
    · subst hji
      exact hy.wpOp hi hT (K := fun a' w' => S (L.setIfInBounds j true) w' ∧ AnyL P ops Q S (n + 1) (L.setIfInBounds j true) a' w') ⟨hS0 _ _ hSw, H⟩
    · have h1 := H.2 j (ready_mono hj hji)
      obtain ⟨hjun, oj, hoj, hall⟩ := mem_ready.1 hj
      have hnot : ∀ e ∈ oj.after, Region.binds .any e = true → e.on ≠ i := fun e he hb heq => by
        have k1 := hall e he hb
        have k0 := (mem_ready.1 hr).1
        rw [heq] at k1
        rcases Nat.lt_or_ge i L.size with q | q
        · simp [q] at k0 k1; rw [k0] at k1; cases k1
        · simp [Array.getElem?_eq_none q] at k1
      have h2 := wpOp_putIf hoj (Region.free_spec hi hf j oj hoj hji hjun hnot) (fun cs b => hsel i oi cs b hi) (fun cs b => hsel j oj cs b hoj) hq hy h1
      refine wpOp_mono (fun a' w' h3 => ?_) h2
      obtain ⟨y1, y2, y3⟩ := h3
      rw [Array.setIfInBounds_comm _ _ (Ne.symm hji)] at y2 y3
      have y2' := hS1 _ _ y2
      exact ⟨y2', ih (hc.set hj) (fr L j hf) (ready_mono hr (Ne.symm hji)) y1 y2' y3⟩
theorem skeep_set {sts : List (Nat × Nat)} {L : Array Bool} {i : Nat} (h : SKeep sts m0 L w) : SKeep sts m0 (L.setIfInBounds i true) w := fun j r hr hl hq => h j r hr hl fun q hq1 hq2 => by
  have := hq q hq1 hq2
  cases hb : L.getD q.1 false with
  | false => rfl
  | true => rw [getD_set_true hb] at this; cases this
/-- What is known behind a part of a region: blocks that nothing was stored into are as they were. -/
structure KJ (don : List Nat) (m0 m : List Row) : Prop where
  ext : Ext m0 m
  at_ : ∀ (j : Nat) (r : Row), m0[j]? = some r → don.elem j = false → m[j]? = some r
theorem subK_of {don : List Nat} : ∀ {l : List Nat} {K : List Nat → Prop}, subK don l K → ∃ k, K k ∧ (∀ j, j ∈ k ↔ (j ∈ l ∧ don.elem j = false))
  | [], K, h => ⟨[], h, by simp⟩
  | j :: r, K, h => by
    unfold subK at h
    cases hd : don.elem j with
    | true =>
      rw [hd] at h
      obtain ⟨k, h1, h2⟩ := subK_of (l := r) h
      refine ⟨k, h1, fun i => ?_⟩
      rw [h2]
      constructor
      · exact fun ⟨a, b⟩ => ⟨List.mem_cons_of_mem _ a, b⟩
      · rintro ⟨a, b⟩
        rcases List.mem_cons.1 a with rfl | a
        · rw [hd] at b; cases b
        · exact ⟨a, b⟩
    | false =>
      rw [hd] at h
      obtain ⟨k, h1, h2⟩ := subK_of (l := r) h
      refine ⟨j :: k, h1, fun i => ?_⟩
      rw [List.mem_cons, List.mem_cons, h2]
      constructor
      · rintro (rfl | ⟨a, b⟩)
        · exact ⟨.inl rfl, hd⟩
        · exact ⟨.inr a, b⟩
      · rintro ⟨rfl | a, b⟩
        · exact .inl rfl
        · exact .inr ⟨a, b⟩
/-- The numbers of all blocks. -/
def All (all : List Nat) (m0 : List Row) : Prop := ∀ j, j ∈ all ↔ j < m0.length
theorem KJ.ki {don keep all : List Nat} {m0 m : List Row} (h : KJ don m0 m) (ha : All all m0) (hk : ∀ j, j ∈ keep ↔ (j ∈ all ∧ don.elem j = false)) : KI keep m0 m := ⟨h.ext, fun j hj => by
  obtain ⟨h1, h2⟩ := (hk j).1 hj
  have hlt := (ha j).1 h1
  exact ⟨m0[j], List.getElem?_eq_getElem hlt, h.at_ j _ (List.getElem?_eq_getElem hlt) h2⟩⟩
theorem KI.kj {don keep all : List Nat} {m0 m : List Row} (h : KI keep m0 m) (ha : All all m0) (hk : ∀ j, j ∈ keep ↔ (j ∈ all ∧ don.elem j = false)) : KJ don m0 m := ⟨h.ext, fun j r hr hd => by
  have hlt := (List.getElem?_eq_some_iff.1 hr).1
  obtain ⟨r', h1, h2⟩ := h.at_ j ((hk j).2 ⟨(ha j).2 hlt, hd⟩)
  rw [hr] at h1; cases h1; exact h2⟩
/-- In don is only what has come up. -/
def Dno (sts : List (Nat × Nat)) (don : List Nat) (L : Array Bool) : Prop := ∀ j, don.elem j = true → ∃ q ∈ sts, q.2 = j ∧ L.getD q.1 false = true
theorem skeep_of {sts : List (Nat × Nat)} {don : List Nat} {L : Array Bool} (hW : W0 m0) (hH : Hold X s.m s.ob w) (hk : KJ don m0 s.m) (hd : Dno sts don L) : SKeep sts m0 L w := fun j r hr hl hq => by
  have hdj : don.elem j = false := by
    cases hb : don.elem j with
    | false => rfl
    | true => obtain ⟨q, h1, h2, h3⟩ := hd j hb; rw [hq q h1 h2] at h3; cases h3
  have := hH.row j r (hk.at_ j r hr hdj) hl
  rwa [rowA_ext hk.ext (hW j r hr hl).1] at this
theorem stoJ_mem {sts : List (Nat × Nat)} {i j : Nat} (h : stoJ sts i = some j) : (i, j) ∈ sts := by
  induction sts with
  | nil => cases h
  | cons q r ih =>
    obtain ⟨k, l⟩ := q
    unfold stoJ at h
    cases hb : Nat.beq k i with
    | true => rw [hb] at h; cases h; rw [Nat.eq_of_beq_eq_true hb]; simp
    | false => rw [hb] at h; exact List.mem_cons_of_mem _ (ih h)
theorem Qof.mono {K K' : Exit → St → Prop} (h : ∀ e s, K e s → K' e s) (e : Exit) (a : Act) (w : World) (k : Qof X K e a w) : Qof X K' e a w := by
  cases e with
  | normal => obtain ⟨s, r, k⟩ := k; exact ⟨s, r, h _ _ k⟩
  | exit id => obtain ⟨s, r, k⟩ := k; exact ⟨s, r, h _ _ k⟩
  | ret => obtain ⟨s, r, k⟩ := k; exact ⟨s, r, h _ _ k⟩
  | _ => exact k
theorem Qof.block {K : Exit → St → Prop} {id : Nat} (e : Exit) (a : Act) (w : World) (k : Qof X (inB id K) e a w) : Exit.inBlock id (Qof X K) e a w := by
  cases e with
  | exit j =>
    obtain ⟨s, r, k⟩ := k
    simp only [inB] at k
    simp only [Exit.inBlock]
    cases hb : Nat.beq j id with
    | true => rw [hb] at k; rw [if_pos (Nat.eq_of_beq_eq_true hb)]; exact ⟨s, r, k⟩
    | false => rw [hb] at k; rw [if_neg (fun e => by subst e; simp at hb)]; exact ⟨s, r, k⟩
  | normal => exact k
  | ret => exact k
  | _ => exact k.elim
theorem Qof.seq {K : Exit → St → Prop} {N : St → Prop} {J : Act → World → Prop} (hJ : ∀ s a w, Rel X s a w → N s → J a w) (e : Exit) (a : Act) (w : World) (k : Qof X (sq K N) e a w) : Exit.then J (Qof X K) e a w := by
  cases e with
  | normal => obtain ⟨s, r, k⟩ := k; exact hJ s a w r k
  | exit id => exact k
  | ret => exact k
  | _ => exact k.elim
theorem run_of (hX : X.Ok) : ∀ {c : Code} {s : St} {K : Exit → St → Prop}, run X c s K → Sm X c s K
  | .skip, s, K, h => by refine ⟨?_⟩; exact fun a w hR => wp_skip ⟨s, hR, h⟩
  | .exit id, s, K, h => by refine ⟨?_⟩; exact fun a w hR => wp_exit ⟨s, hR, h⟩
  | .ret, s, K, h => by refine ⟨?_⟩; exact fun a w hR => wp_ret ⟨s, hR, h⟩
  | .region id ops d, s, K, h => by
    unfold run at h
    cases d with
    | true => exact h
    | false =>
      refine ⟨?_⟩
      exact fun a w hR => wp_region_list (steps_of hX (K := K .normal) (fun a w s hR h => ⟨s, hR, h⟩) hR h)
  | .seq x y, s, K, h => by
    unfold run at h
    split at h
    · refine ⟨?_⟩
      intro a w hR
      have h1 := run_of hX h
      replace h1 := h1.out
      refine wp_seq (Code.wp_mono (Qof.seq fun s a w hR hN => ?_) (h1 a w hR))
      have h2 := run_of hX hN
      replace h2 := h2.out
      exact h2 a w hR
    · exact h
  | .cond c x y, s, K, h => by
    unfold run at h
    refine ⟨?_⟩
    intro a w hR
    obtain ⟨v, h1, h2, h⟩ := ev_of hR.fr h
    cases v with
    | b t =>
      replace h := h.out
      refine wp_cond_split (t := t) (by rw [h2]; rfl) (fun ht => ?_) (fun ht => ?_)
      · have h3 := run_of hX (h.1 ht); replace h3 := h3.out; exact h3 a w hR
      · have h3 := run_of hX (h.2 ht); replace h3 := h3.out; exact h3 a w hR
    | _ => exact h.elim
  | .block id c, s, K, h => by
    unfold run at h
    have h1 := run_of hX h
    replace h1 := h1.out; refine ⟨?_⟩
    exact fun a w hR => wp_block (Code.wp_mono Qof.block (h1 a w hR))
  | .loop c, s, K, h => h
  | .rangeFunc f p x y, s, K, h => h
  | .scope c, s, K, h => h
  | .label l, s, K, h => h
  | .goto l, s, K, h => h
  | .refuse r, s, K, h => h
/-- On: a stop in the code is passed. -/
theorem sgo (hX : X.Ok) {x y : Code} {K : Exit → St → Prop} (h : run X x s (sq K fun s => run X y s K)) : Sm X (.seq x y) s K := by
  refine ⟨?_⟩
  intro a w hR
  have h1 := run_of hX h
  replace h1 := h1.out
  refine wp_seq (Code.wp_mono (Qof.seq fun s a w hR hN => ?_) (h1 a w hR))
  have h2 := run_of hX hN
  replace h2 := h2.out
  exact h2 a w hR
theorem allK_of : ∀ {m : List Row} {i : Nat} {K : List Nat → Prop}, allK m i K → ∃ l, K l ∧ ∀ j, j ∈ l ↔ (i ≤ j ∧ j < i + m.length)
  | [], i, K, h => ⟨[], h, fun j => by simp⟩
  | r :: m, i, K, h => by
    obtain ⟨l, h1, h2⟩ := allK_of (m := m) h
    refine ⟨i :: l, h1, fun j => ?_⟩
    rw [List.mem_cons, h2, List.length_cons]
    omega
theorem stoK_of {ef : List Nat} {ops : List Oper} {fr : List (Nat × SV)} : ∀ {l : List Oper} {i : Nat} {K : List (Nat × Nat) → Prop}, stoK ef ops fr i l K → ∃ sts, K sts ∧ ∀ q ∈ sts, ∃ k o, q.1 = i + k ∧ l[k]? = some o ∧ isSt o.op = true
  | [], i, K, h => ⟨[], h, by simp⟩
  | o :: r, i, K, h => by
    have step : ∀ {K : List (Nat × Nat) → Prop}, stoK ef ops fr (i + 1) r K → ∃ sts, K sts ∧ ∀ q ∈ sts, ∃ k o', q.1 = i + k ∧ (o :: r)[k]? = some o' ∧ isSt o'.op = true := fun h => by
      obtain ⟨sts, h1, h2⟩ := stoK_of (l := r) h
      refine ⟨sts, h1, fun q hq => ?_⟩
      obtain ⟨k, o', e1, e2, e3⟩ := h2 q hq
      exact ⟨k + 1, o', by omega, by simpa using e2, e3⟩
    unfold stoK at h
    split at h
    · rename_i t k x hop
      split at h
      · rename_i j hj
        split at h
        · exact step h
        obtain ⟨sts, h1, h2⟩ := step h
        refine ⟨(i, j) :: sts, h1, fun q hq => ?_⟩
        rcases List.mem_cons.1 hq with rfl | hq
        · exact ⟨0, o, rfl, rfl, by rw [hop]; rfl⟩
        · exact h2 q hq
      · exact step h
    · exact step h
def Sts (ops : Array Oper) (sts : List (Nat × Nat)) : Prop := ∀ q ∈ sts, ∃ o, ops[q.1]? = some o ∧ isSt o.op = true
theorem hasE_of {ops : Array Oper} {k i : Nat} (h : hasE ops.toList k i = true) : ∃ o, ops[k]? = some o ∧ ∃ e ∈ o.after, Region.binds .any e = true ∧ e.on = i := by
  unfold hasE at h
  rw [show ops.toList[k]? = ops[k]? by simp] at h
  cases ho : ops[k]? with
  | none => simp [ho] at h
  | some o =>
    simp only [ho, List.any_eq_true, Bool.and_eq_true] at h
    obtain ⟨e, he, hb, hi⟩ := h
    exact ⟨o, rfl, e, by simpa using he, hb, Nat.eq_of_beq_eq_true hi⟩
theorem exE_of (hX : X.Ok) {all : List Nat} (ha : All all m0) {sts : List (Nat × Nat)} {don : List Nat} {i : Nat} {L : Array Bool} {K : List Nat → St → Prop} (hR : Rel X s a w) (hk : KJ don m0 s.m) (hd : Dno sts don L) (hL : L.getD i true = false)
    (h : exE X all m0 sts don i o s K) : ∀ Q, o.wp X.P a w (fun a' w' => ∃ s' don', Rel X s' a' w' ∧ KJ don' m0 s'.m ∧ Dno sts don' (L.setIfInBounds i true) ∧ K don' s') Q := by
  intro Q
  have more : Dno sts don (L.setIfInBounds i true) := fun j hj => by
    obtain ⟨q, h1, h2, h3⟩ := hd j hj
    exact ⟨q, h1, h2, getD_set_true h3⟩
  unfold exE at h
  split at h
  · rename_i t x y hop
    split at h
    · obtain ⟨keep, h, hkp⟩ := subK_of h
      exact Oper.wp_mono (fun a' w' ⟨s', r1, r2, r3⟩ => ⟨s', don, r1, r2.kj ha hkp, more, r3⟩) (exW_of hX hR (hk.ki ha hkp) h Q)
    · rename_i j hj
      obtain ⟨keep, h, hkp⟩ := subK_of h
      have hk' : KJ (j :: don) m0 s.m := ⟨hk.ext, fun i r hr hd => hk.at_ i r hr (by simp only [List.elem_cons] at hd; split at hd <;> first | cases hd | exact hd)⟩
      rcases me_of hX hR (hk'.ki ha hkp) h with h | h
      · exact h.elim
      · refine Oper.wp_mono (fun a' w' ⟨s', r1, r2, r3⟩ => ⟨s', j :: don, r1, r2.kj ha hkp, fun l hl => ?_, r3⟩) (h Q)
        by_cases e : l = j
        · subst e
          exact ⟨(i, l), stoJ_mem hj, rfl, getD_set_self hL⟩
        · obtain ⟨q, h1, h2, h3⟩ := more l (by simp only [List.elem_cons] at hl; split at hl <;> first | (rename_i hb; exact absurd (by simpa using hb) e) | exact hl)
          exact ⟨q, h1, h2, h3⟩
  · obtain ⟨keep, h, hkp⟩ := subK_of h
    exact Oper.wp_mono (fun a' w' ⟨s', r1, r2, r3⟩ => ⟨s', don, r1, r2.kj ha hkp, more, r3⟩) (exW_of hX hR (hk.ki ha hkp) h Q)
theorem effD (hX : X.Ok) (hW : W0 m0) {all : List Nat} (ha : All all m0) {sts : List (Nat × Nat)} {don : List Nat} {ops : Array Oper} {Q : Exit → Act → World → Prop} {i n : Nat} {L : Array Bool} {K2 : List Nat → St → Prop} (hL : L.getD i true = false)
    (hR : Rel X s a w) (hk : KJ don m0 s.m) (hd : Dno sts don L) (k : ∀ {s' : St} {a' : Act} {w' : World} {don' : List Nat}, Rel X s' a' w' → KJ don' m0 s'.m → Dno sts don' (L.setIfInBounds i true) → K2 don' s' → AnyL X.P ops Q (SKeep sts m0) n (L.setIfInBounds i true) a' w')
    (h : match ops.toList[i]? with
      | none => False
      | some o => wantK ops.toList o.guard s.fr (exE X all m0 sts don i o s K2) (put X.n o.dst (.v undef) s (K2 don))) :
    wpOp X.P ops Q i (fun a' w' => SKeep sts m0 (L.setIfInBounds i true) w' ∧ AnyL X.P ops Q (SKeep sts m0) n (L.setIfInBounds i true) a' w') a w := by
  have hidx : ops.toList[i]? = ops[i]? := by simp
  rw [hidx] at h
  unfold wpOp
  cases ho : ops[i]? with
  | none => rw [ho] at h; exact h.elim
  | some o =>
    simp only [ho] at h ⊢
    rcases want_of hR.fr h with ⟨hw, h⟩ | ⟨hw, h⟩
    · rw [if_pos hw]
      exact .inl (Oper.wp_mono (fun a' w' ⟨s', don', r1, r2, r3, r4⟩ => ⟨skeep_of hW r1.h r2 r3, k r1 r2 r3 r4⟩) (exE_of hX ha hR hk hd hL h Q))
    · rw [if_neg (by rw [hw]; decide)]
      obtain ⟨s', r1, r2, r3, r4⟩ := put_of (v := .v undef) hR.ds hR.sz hR.fr hR.h rfl h
      have more : Dno sts don (L.setIfInBounds i true) := fun j hj => by
        obtain ⟨q, h1, h2, h3⟩ := hd j hj
        exact ⟨q, h1, h2, getD_set_true h3⟩
      have hk' : KJ don m0 s'.m := by rw [r2]; exact hk
      exact ⟨skeep_of hW r1.h hk' more, k r1 hk' more r4⟩
theorem exD_of (hX : X.Ok) (hW : W0 m0) {all : List Nat} (ha : All all m0) {sts : List (Nat × Nat)} {ops : Array Oper} (hst : Sts ops sts) {Q : Exit → Act → World → Prop} (hs : Region.noSelect ops = true) (hQ : ∀ a w s, Rel X s a w → K s → Q .normal a w) (hP : ∀ c a w, ¬ Q (.panic c) a w) :
    ∀ {pl : Pl} {n : Nat} {L : Array Bool} {don : List Nat} {s : St} {a : Act} {w : World}, chk ops n L pl = true → Clo ops L → Rel X s a w → KJ don m0 s.m → Dno sts don L → exD X ops.toList all m0 sts pl don s K → AnyL X.P ops Q (SKeep sts m0) n L a w
  | .done, n, L, don, s, a, w, hc, hcl, hR, hk, hd, h => by
    cases n with
    | zero => simp only [chk] at hc; exact ⟨eq_of_beq hc, hQ a w s hR h⟩
    | succ n => simp only [chk] at hc; exact ⟨fun _ => hQ a w s hR h, by rw [eq_of_beq hc]; simp⟩
  | .tk i r, 0, L, don, s, a, w, hc, _, _, _, _, h => by simp [chk] at hc
  | .ef i r, 0, L, don, s, a, w, hc, _, _, _, _, h => by simp [chk] at hc
  | .fk i j r q, 0, L, don, s, a, w, hc, _, _, _, _, h => by simp [chk] at hc
  | .f3 i j k r q t, 0, L, don, s, a, w, hc, _, _, _, _, h => by simp [chk] at hc
  | .tk i r, n + 1, L, don, s, a, w, hc, hcl, hR, hk, hd, h => by
    simp only [chk, Bool.and_eq_true] at hc
    obtain ⟨⟨c1, c2⟩, c3⟩ := hc
    have c2 : i ∈ Region.ready .any ops L := by simpa using c2
    unfold exD at h
    have hidx : ops.toList[i]? = ops[i]? := by simp
    rw [hidx] at h
    cases ho : ops[i]? with
    | none => rw [ho] at h; exact h.elim
    | some o =>
      simp only [ho] at h
      cases hso : isSt o.op with
      | true => simp only [hso] at h
      | false =>
        simp only [hso] at h
        have hS := skeep_of hW hR.h hk hd
        have more : Dno sts don (L.setIfInBounds i true) := fun j hj => by
          obtain ⟨q, h1, h2, h3⟩ := hd j hj
          exact ⟨q, h1, h2, getD_set_true h3⟩
        have hns : ∀ q ∈ sts, i ≠ q.1 := fun q hq e => by
          obtain ⟨o', h1, h2⟩ := hst q hq
          rw [← e, ho] at h1; cases h1
          rw [hso] at h2; cases h2
        have hS1 : ∀ (L : Array Bool) (w : World), SKeep sts m0 (L.setIfInBounds i true) w → SKeep sts m0 L w := fun L w h j r hr hl hq => h j r hr hl fun q h1 h2 => by rw [getD_set_ne false (hns q h1)]; exact hq q h1 h2
        have fin : ∀ (T : World → Prop) (v : SV), (∀ (L : Array Bool) (w : World), Clo ops L → L.getD i true = false → SKeep sts m0 L w → T w) → okV s.m.length v = true → YieldsIf X.P ops T o (den s.m v) a → (put X.n o.dst v s fun s => exD X ops.toList all m0 sts r don s K) → AnyL X.P ops Q (SKeep sts m0) (n + 1) L a w := fun T v hT hv hy h => by
          obtain ⟨s', r1, r2, r3, r4⟩ := put_of hR.ds hR.sz hR.fr hR.h hv h
          exact AnyL.first ho hs hP hT hS1 (fun L w h => skeep_set h) hcl c1 c2 hy hS (exD_of hX hW ha hst hs hQ hP c3 (hcl.set c2) r1 (by rw [r2]; exact hk) more r4)
        rcases want_of hR.fr h with ⟨hw, h⟩ | ⟨hw, h⟩
        · rcases pe_of (o := o) (a := a) (m := s.m) hX.tab hR.fr rfl h with h | ⟨v, h1, h2, h3⟩
          · split at h
            · rename_i t x hop
              rcases ld_of (o := o) (a := a) hX.tab hR.fr hop h with h | ⟨j, q, v, h1, h2, h3, h4, h5⟩
              · exact h.elim
              · split at h5
                · rename_i hb
                  simp only [Bool.and_eq_true] at hb
                  obtain ⟨hb1, hb2⟩ := hb
                  unfold mayLd at hb2
                  simp only [Bool.and_eq_true, Bool.not_eq_true', List.all_eq_true, Bool.or_eq_true] at hb2
                  have hjl : j < m0.length := by simpa [Nat.blt_eq] using hb1
                  have hq0 := hk.at_ j _ (List.getElem?_eq_getElem hjl) hb2.1
                  rw [h1] at hq0; cases hq0
                  obtain ⟨w1, w2, w3⟩ := hR.h.wf j _ h1 h2
                  refine fin (fun w => Blk w m0[j].g m0[j].t (rowA m0 m0[j])) v (fun L' w' hcl' hi' hS' => hS' j _ (List.getElem?_eq_getElem hjl) h2 fun q hq1 hq2 => ?_) (h3 w1) (.inl ⟨hw, fun w' hB => h4 w' w2 (by rwa [rowA_ext hk.ext (hW j _ (List.getElem?_eq_getElem hjl) h2).1])⟩) h5
                  cases hlq : L'.getD q.1 false with
                  | false => rfl
                  | true =>
                    rcases hb2.2 q hq1 with hx | hx
                    · rw [hq2] at hx; simp at hx
                    · obtain ⟨oq, e1, e, e2, e3, e4⟩ := hasE_of hx
                      have := hcl' q.1 oq e1 hlq e e2 e3
                      rw [e4] at this
                      rcases Nat.lt_or_ge i L'.size with z | z
                      · simp [z] at this hi'; rw [this] at hi'; cases hi'
                      · simp [Array.getElem?_eq_none z] at this
                · exact h5.elim
            · replace h := h.out
              obtain ⟨v, h1, h2, h3⟩ := h
              exact fin (fun _ => True) v (fun _ _ _ _ _ => trivial) h1 (.inl ⟨hw, fun w' _ => h2 a hR.fr w'⟩) h3
          · exact fin (fun _ => True) v (fun _ _ _ _ _ => trivial) h1 (.inl ⟨hw, fun w' _ => h2 w'⟩) h3
        · exact fin (fun _ => True) (.v undef) (fun _ _ _ _ _ => trivial) rfl (.inr ⟨hw, rfl⟩) h
  | .ef i r, n + 1, L, don, s, a, w, hc, hcl, hR, hk, hd, h => by
    simp only [chk, Bool.and_eq_true] at hc
    obtain ⟨c1, c3⟩ := hc
    have c1 := eq_of_beq c1
    unfold exD at h
    refine ⟨fun e => (by rw [c1] at e; cases e), fun k hk2 => ?_⟩
    have hr := hk2
    rw [c1, List.mem_singleton] at hk2; subst hk2
    exact effD hX hW ha (mem_ready.1 hr).1 hR hk hd (fun r1 r2 r3 r4 => exD_of hX hW ha hst hs hQ hP c3 (hcl.set hr) r1 r2 r3 r4) h
  | .fk i j r q, n + 1, L, don, s, a, w, hc, hcl, hR, hk, hd, h => by
    simp only [chk, Bool.and_eq_true] at hc
    obtain ⟨⟨c1, c3⟩, c4⟩ := hc
    have c1 := eq_of_beq c1
    unfold exD at h
    refine ⟨fun e => (by rw [c1] at e; cases e), fun k hk2 => ?_⟩
    have hr := hk2
    rw [c1] at hk2
    rcases List.mem_cons.1 hk2 with rfl | hk2
    · exact effD hX hW ha (mem_ready.1 hr).1 hR hk hd (fun r1 r2 r3 r4 => exD_of hX hW ha hst hs hQ hP c3 (hcl.set hr) r1 r2 r3 r4) h.1
    · rw [List.mem_singleton] at hk2; subst hk2
      exact effD hX hW ha (mem_ready.1 hr).1 hR hk hd (fun r1 r2 r3 r4 => exD_of hX hW ha hst hs hQ hP c4 (hcl.set hr) r1 r2 r3 r4) h.2
  | .f3 i j l r q t, n + 1, L, don, s, a, w, hc, hcl, hR, hk, hd, h => by
    simp only [chk, Bool.and_eq_true] at hc
    obtain ⟨⟨⟨c1, c3⟩, c4⟩, c5⟩ := hc
    have c1 := eq_of_beq c1
    unfold exD at h
    refine ⟨fun e => (by rw [c1] at e; cases e), fun k hk2 => ?_⟩
    have hr := hk2
    rw [c1] at hk2
    rcases List.mem_cons.1 hk2 with rfl | hk2
    · exact effD hX hW ha (mem_ready.1 hr).1 hR hk hd (fun r1 r2 r3 r4 => exD_of hX hW ha hst hs hQ hP c3 (hcl.set hr) r1 r2 r3 r4) h.1
    rcases List.mem_cons.1 hk2 with rfl | hk2
    · exact effD hX hW ha (mem_ready.1 hr).1 hR hk hd (fun r1 r2 r3 r4 => exD_of hX hW ha hst hs hQ hP c4 (hcl.set hr) r1 r2 r3 r4) h.2.1
    · rw [List.mem_singleton] at hk2; subst hk2
      exact effD hX hW ha (mem_ready.1 hr).1 hR hk hd (fun r1 r2 r3 r4 => exD_of hX hW ha hst hs hQ hP c5 (hcl.set hr) r1 r2 r3 r4) h.2.2
/-- A region that draws its order. -/
theorem drA (hX : X.Ok) (ef : List Nat) {id : Nat} {ops : Array Oper} {K : Exit → St → Prop}
    (h : stoK ef ops.toList s.fr 0 ops.toList fun sts => allK s.m 0 fun all => exD X ops.toList all s.m sts (planOf ef ops.toList) [] s (K .normal)) (hm : X.P.follows .mixedOrders = true := by kernel_rfl)
    (hc : (Region.noSelect ops && chk ops ops.size (Array.replicate ops.size false) (planOf ef ops.toList)) = true := by kernel_rfl) : Sm X (.region id ops true) s K := by
  refine ⟨?_⟩
  intro a w hR
  simp only [Bool.and_eq_true] at hc
  obtain ⟨sts, h, hsts⟩ := stoK_of h
  obtain ⟨all, h, hall⟩ := allK_of h
  have hR' : Rel X s a w.drew := ⟨hR.ds, hR.sz, hR.fr, hR.h.drew⟩
  have hW : W0 s.m := fun j r hj hl => ⟨(hR.h.wf j r hj hl).1, (hR.h.wf j r hj hl).2.1⟩
  have hst : Sts ops sts := fun q hq => by
    obtain ⟨k, o, e1, e2, e3⟩ := hsts q hq
    rw [Nat.zero_add] at e1
    exact ⟨o, by rw [e1]; simpa using e2, e3⟩
  have hcl : Clo ops (Array.replicate ops.size false) := fun k o ho hk => by
    have hlt := (Array.getElem?_eq_some_iff.1 ho).1
    simp [hlt] at hk
  have hA := exD_of (K := K .normal) (Q := Qof X K) hX hW (fun j => by rw [hall]; omega) hst hc.1 (fun a w s hR h => (⟨s, hR, h⟩ : Qof X K .normal a w)) (fun c a w h => h) hc.2 hcl hR' ⟨Ext.refl _, fun j r hr _ => hr⟩ (fun j hj => by cases hj) h
  exact wp_region_any hm hA.out
/-- The results of a function, off its frame. -/
def res1 (tab : Tab) (s : St) (r : ResultVar) (K : SV → Prop) : Prop :=
  match r with
  | .tmp t => lk t s.fr K
  | .cell p t => lk p s.fr fun v => match v with
    | .p j o => nthR j s.m fun r => match r.live with
      | true => tyK t tab fun y => match y.row with
        | true => tkN o y.size r.cs fun l => K (.a l)
        | false => nth o r.cs K
      | false => False
    | _ => False
def resL (tab : Tab) (s : St) : List ResultVar → (List SV → Prop) → Prop
  | [], K => K []
  | r :: l, K => res1 tab s r fun v => resL tab s l fun vs => K (v :: vs)
/-- What a function answers. -/
structure Fin (X : Cx) (R : Ending → World → Prop) (v : SV) (s : St) : Prop where
  out : ∀ w, Hold X s.m s.ob w → R (.returned (den s.m v)) w
def finK (X : Cx) (fn : Func) (R : Ending → World → Prop) (e : Exit) (s : St) : Prop :=
  match e with
  | .normal => resL X.tab s fn.results.toList fun vs => match vs with
    | [v] => Fin X R v s
    | vs => Fin X R (.t vs) s
  | .ret => resL X.tab s fn.results.toList fun vs => match vs with
    | [v] => Fin X R v s
    | vs => Fin X R (.t vs) s
  | _ => False
def numbK (k : Nat) : List SV → (List (Nat × SV) → Prop) → Prop
  | [], K => K []
  | v :: r, K => numbK (k + 1) r fun l => K ((k, v) :: l)
def numb (k : Nat) : List SV → List (Nat × SV)
  | [] => []
  | v :: r => (k, v) :: numb (k + 1) r
end
end Go.Proofs.YthmikjjnlahlbaaGreat.En
