/-
  Each operation does in the model what the calculus says of it: addresses, texts, conversions, interfaces, tuples.
-/
import Derived.Test.YtocliihimbggjaaLxOps3
namespace Go.LX
open Go

section
variable {P : Program} {T : TT} {o : Oper} {s : LS} {K : LS → Prop} {c : Ctx} {a : Act} {w w' : World} {Q : Exit → Act → World → Prop}

theorem iadd_sound {x y : I} {L : I → Prop} (h : iadd x y L) : ∃ z, z.val = x.val + y.val ∧ L z := by
  unfold iadd at h
  split at h
  · exact ⟨_, rfl, h⟩
  · split at h
    · rename_i e
      have e := of_decide_eq_true e
      exact ⟨_, by simp [I.val, e], h⟩
    · obtain ⟨z, h1, h2⟩ := sum h; exact ⟨z, h1, h2⟩
  · split at h
    · rename_i e
      have e := of_decide_eq_true e
      exact ⟨_, by simp [I.val, e], h⟩
    · obtain ⟨z, h1, h2⟩ := sum h; exact ⟨z, h1, h2⟩
  · obtain ⟨z, h1, h2⟩ := sum h; exact ⟨z, h1, h2⟩
theorem imul_sound {x : I} {k : Nat} {L : I → Prop} (h : imul x k L) : ∃ z, z.val = x.val * k ∧ L z := by
  unfold imul at h
  split at h
  · rename_i e
    have e := Nat.eq_of_beq_eq_true e
    exact ⟨x, by simp [e], h⟩
  · split at h
    · exact ⟨_, rfl, h⟩
    · obtain ⟨z, h1, h2⟩ := sum h; exact ⟨z, h1, h2⟩

theorem live_ptr {b : Nat} {o' : I} {B : LB} {x : Value} (hs : St c s a w) (hx : LR c w (.ptr b o') x) (hB : hget s.h b = some B) : ∃ r k : Nat, c.m b = some (some r) ∧ o'.val = (k : Int) ∧ x = .pointer (some ⟨r, k, none⟩) := by
  obtain ⟨m, hm, _⟩ := hs.hr.live b B hB
  cases hx with
  | goneP _ _ _ hm' _ => rw [hm] at hm'; cases hm'
  | ptr _ _ r k hm' hk => exact ⟨r, k, hm', hk, rfl⟩

theorem lop_nilCheck {x : Operand} (ho : o.op = .nilCheck x) (hs : St c s a w)
    (h : match ev s x with
      | .ptr b o' => match hget s.h b with
        | some _ => K (s.put o.dst (.ptr b o'))
        | none => False
      | .p (.vp sy l o') => K (s.put o.dst (.p (.vp sy l o')))
      | _ => False) : o.wp P a w (Post K c w) Q := by
  have hx := hs.ev x
  split at h
  · rename_i b o' hev
    rw [hev] at hx
    cases hB : hget s.h b with
    | none => rw [hB] at h; exact h.elim
    | some B =>
      rw [hB] at h
      obtain ⟨r, k, hm, hk, hv⟩ := live_ptr hs hx hB
      exact op_val hs (v := .pointer (some ⟨r, k, none⟩)) (by simp [execOp, ho, hv]) (.ptr _ _ _ _ hm hk) h
  · rename_i sy l o' hev
    rw [hev] at hx
    generalize hvx : a.eval x = vx at hx
    cases hx with
    | p _ _ hp =>
      cases hp with
      | vp _ _ _ ad k f hk hsp hM hlt hcell hrel => exact op_val hs (v := .pointer (some (ad.add k))) (by simp [execOp, ho, hvx]) (.p _ _ (.vp _ _ _ ad k f hk hsp hM hlt hcell hrel)) h
  · exact h.elim

theorem place_off {t : Nat} {ti : TI} {fs : List (Nat × Nat)} {f off ft : Nat} (hT : TIok P t ti) (hk : ti.kind = .struct fs) (hf : fs[f]? = some (off, ft)) : ∃ fields fd, P.underlying t = some (.struct fields) ∧ fields[f]? = some fd ∧ fd.offset = off ∧ fd.type = ft := by
  obtain ⟨⟨i, z, d, hi, hsz, _, hz, hzc, hu, hkd, _⟩, hzs⟩ := hT
  rw [hk] at hkd
  cases d <;> try exact hkd.elim
  rename_i fields
  obtain ⟨hfs, _⟩ := hkd
  rw [hfs, List.getElem?_map] at hf
  cases e : fields.toList[f]? with
  | none => rw [e] at hf; cases hf
  | some fd => rw [e] at hf; cases hf; exact ⟨fields, fd, hu, by simpa using e, rfl, rfl⟩

theorem lop_fieldAddr (hT : TOK P T) {t : TypeId} {x : Operand} {f off ft : Nat} {ti tf : TI} {fs : List (Nat × Nat)} (ht : lget T t = some ti) (hk : ti.kind = .struct fs) (hf : fs[f]? = some (off, ft)) (htf : lget T ft = some tf) (h1 : 1 ≤ tf.size)
    (ho : o.op = .fieldAddr t x f) (hs : St c s a w)
    (h : match ev s x with
      | .ptr b o' => match hget s.h b with
        | some _ => iadd o' (.lit off) fun z => K (s.put o.dst (.ptr b z))
        | none => False
      | .p (.vp sy l o') => iadd o' (.lit off) fun z => K (s.put o.dst (.p (.vp sy l z)))
      | _ => False) : o.wp P a w (Post K c w) Q := by
  have hx := hs.ev x
  obtain ⟨fields, fd, hu, hfd, hoff, hft⟩ := place_off (hT t ti ht) hk hf
  have hsz : (sizeOf fd.type).run P w = .ok tf.size w := by rw [hft]; exact tok_size (hT ft tf htf)
  have hrun : ∀ {ad}, a.eval x = .pointer (some ad) → (execOp a.eval o).run P w = .ok (.value (.pointer (some (ad.add off)))) w := by
    intro ad h2
    unfold execOp; rw [ho]
    refine runv ?_
    have hz : ¬ tf.size = 0 := by omega
    simp [Instr.fieldAt, run_underlying hu, hfd, h2, Instr.sureAddr, fieldPlace, hsz, hz, hoff]
  split at h
  · rename_i b o' hev
    rw [hev] at hx
    cases hB : hget s.h b with
    | none => rw [hB] at h; exact h.elim
    | some B =>
      rw [hB] at h
      obtain ⟨z, hz, hK⟩ := iadd_sound h
      obtain ⟨r, k, hm, hk', hvx⟩ := live_ptr hs hx hB
      refine op_val hs (hrun hvx) ?_ hK
      rw [add_lit]
      exact .ptr _ _ _ _ hm (by rw [hz, hk']; simp [I.val])
  · rename_i sy l o' hev
    rw [hev] at hx
    obtain ⟨z, hz, hK⟩ := iadd_sound h
    generalize hvx : a.eval x = vx at hx
    cases hx with
    | p _ _ hp =>
      cases hp with
      | vp _ _ _ ad k g hk' hsp hM hlt hcell hrel =>
        refine op_val hs (hrun hvx) ?_ hK
        rw [Addr.add_add]
        exact .p _ _ (.vp _ _ _ ad (k + off) g (by rw [hz, hk']; simp [I.val]) hsp hM hlt hcell hrel)
  · exact h.elim

theorem getM_part {t : Nat} {ti : TI} (hT : TIok P t ti) {l vs : List LV} {x : Array Value} {off : Nat} {L : LV → Prop} (hrel : Rel2 c w l x.toList) (hg : getM l off ti.size = some vs) (h : ofCells ti.kind vs L) :
    ∃ u v, (part t x off).run P w = .ok v w ∧ LR c w u v ∧ L u := by
  obtain ⟨h1, h2⟩ := getM_sound _ _ hg
  have hr : Rel2 c w vs ((x.toList.drop off).take ti.size) := by
    have hb : off + ti.size ≤ x.size ∨ ti.size = 0 := by
      rcases Nat.eq_zero_or_pos ti.size with e | e
      · exact .inr e
      · left
        have h4 := h2 (ti.size - 1) (by omega)
        rw [List.getElem?_eq_getElem (show ti.size - 1 < vs.length by omega)] at h4
        have := (List.getElem?_eq_some_iff.1 h4).1
        have hl := hrel.1
        simp at hl
        omega
    refine ⟨?_, fun j u hu => ?_⟩
    · rw [h1, List.length_take, List.length_drop, Array.length_toList]
      rcases hb with hb | hb <;> omega
    · have hj : j < ti.size := by rw [← h1]; exact (List.getElem?_eq_some_iff.1 hu).1
      have hlj := h2 j hj
      rw [hu] at hlj
      obtain ⟨y, h5, h6⟩ := hrel.2 _ u hlj
      exact ⟨y, by rw [List.getElem?_take, if_pos hj, List.getElem?_drop]; exact h5, h6⟩
  unfold ofCells at h
  unfold part
  rw [Sem.run_bind, tok_agg hT]
  cases hk : ti.kind.agg with
  | true =>
    rw [hk] at h
    refine ⟨_, .agg (x.extract off (off + ti.size)), by simp [tok_size hT], .agg vs _ ?_ ?_, h⟩
    · have := hr.1
      simp only [List.length_take, List.length_drop, Array.length_toList] at this
      rw [this]; simp only [Array.size_extract]; omega
    · have e : (x.extract off (off + ti.size)).toList = (x.toList.drop off).take ti.size := by
        simp [Array.toList_extract, List.extract_eq_take_drop]
      exact (Rel2.getD (by rw [e]; exact hr)).2
  | false =>
    rw [hk] at h
    dsimp only at h
    split at h
    · obtain ⟨y, ys, he, h3, _⟩ := hr.head
      have h5 : x[off]? = some y := by
        have : ((x.toList.drop off).take ti.size)[0]? = some y := by rw [he]; rfl
        rw [List.getElem?_take] at this
        split at this
        · rw [List.getElem?_drop] at this; simpa using this
        · cases this
      exact ⟨_, y, by simp [h5], h3, h⟩
    · exact h.elim
theorem lop_field (hT : TOK P T) {t : TypeId} {x : Operand} {f off ft : Nat} {ti tf : TI} {fs : List (Nat × Nat)} {l vs : List LV} (ht : lget T t = some ti) (hk : ti.kind = .struct fs) (hf : fs[f]? = some (off, ft)) (htf : lget T ft = some tf)
    (ho : o.op = .field t x f) (hs : St c s a w) (hx0 : ev s x = .agg l) (hg : getM l off tf.size = some vs) (h : ofCells tf.kind vs fun v => K (s.put o.dst v)) : o.wp P a w (Post K c w) Q := by
  have hx := hs.ev x
  rw [hx0] at hx
  obtain ⟨fields, fd, hu, hfd, hoff, hft⟩ := place_off (hT t ti ht) hk hf
  generalize hvx : a.eval x = vx at hx
  cases hx with
  | agg _ xs hl hr =>
    obtain ⟨u, v, h1, h2, h3⟩ := getM_part (hT ft tf htf) (Rel2.ofD hl hr) hg h
    refine op_val hs ?_ h2 h3
    unfold execOp; rw [ho]
    refine runv ?_
    simp [Instr.field, run_underlying hu, hfd, hvx, asAgg, hft, hoff, h1]

theorem lop_indexAddr (hT : TOK P T) {t : TypeId} {x y : Operand} {e : Nat} {k : IntKind} {i : I} {ti te : TI} (ht : lget T t = some ti) (hk : ti.kind = .slice e) (hte : lget T e = some te) (hi : ev s y = .p (.int k i)) (ho : o.op = .indexAddr t x y) (hs : St c s a w)
    (h : match ev s x with
      | .p (.vsl n sy l) => Need (fun _ => 0 ≤ i.val ∧ i.val < n.val) fun _ => imul i te.size fun z => K (s.put o.dst (.p (.vp sy l z)))
      | .sl b _ _ o' n => match hget s.h b with
        | some _ => Need (fun _ => 0 ≤ i.val ∧ i.val < n.val) fun _ => imul i te.size fun z => iadd o' z fun y => K (s.put o.dst (.ptr b y))
        | none => False
      | _ => False) : o.wp P a w (Post K c w) Q := by
  have hx := hs.ev x
  have hy : a.eval y = .int k i.val := LR.inv_int (hi ▸ hs.ev y)
  obtain ⟨⟨_, _, d, _, _, _, _, _, hu, hkd, _⟩, _⟩ := hT t ti ht
  rw [hk] at hkd
  cases d <;> try exact hkd.elim
  rename_i e'
  have hkd : e = e' := hkd
  subst hkd
  have hse := tok_size (w := w) (hT e te hte)
  have hrun : ∀ {ad n cp}, a.eval x = .slice (some ad) n cp → 0 ≤ i.val → i.val < (n : Int) → (execOp a.eval o).run P w = .ok (.value (.pointer (some (ad.add (i.val.toNat * te.size))))) w := by
    intro ad n cp h2 h3 h4
    unfold execOp; rw [ho]
    refine runv ?_
    simp [Instr.indexAt, asIntOf, hy, run_underlying hu, h2, hse, h3, h4]
  split at h
  · rename_i n sy l hev
    rw [hev] at hx
    obtain ⟨⟨h1, h2⟩, h3⟩ := need h
    obtain ⟨z, hz, hK⟩ := imul_sound h3
    generalize hvx : a.eval x = vx at hx
    cases hx with
    | p _ _ hp =>
      cases hp with
      | vsl0 _ _ _ ad cp h0 _ => omega
      | vsl _ _ _ ad n' cp g hn hsp hM hlt hle hcp hcell hrel =>
        obtain ⟨j, hj⟩ : ∃ j : Nat, i.val = j := ⟨i.val.toNat, by omega⟩
        refine op_val hs (hrun hvx h1 (by omega)) ?_ hK
        refine .p _ _ (.vp _ _ _ ad (i.val.toNat * te.size) g ?_ hsp hM hlt hcell hrel)
        rw [hz, hj]; simp
  · rename_i b e1 sz o' n hev
    rw [hev] at hx
    cases hB : hget s.h b with
    | none => rw [hB] at h; exact h.elim
    | some B =>
      rw [hB] at h
      obtain ⟨⟨h1, h2⟩, h3⟩ := need h
      obtain ⟨z, hz, h4⟩ := imul_sound h3
      obtain ⟨z2, hz2, hK⟩ := iadd_sound h4
      obtain ⟨m, hm, _⟩ := hs.hr.live b B hB
      generalize hvx : a.eval x = vx at hx
      obtain ⟨j, hj⟩ : ∃ j : Nat, i.val = j := ⟨i.val.toNat, by omega⟩
      cases hx with
      | goneS _ _ _ _ _ _ _ _ hm' _ => rw [hm] at hm'; cases hm'
      | slv _ _ _ _ _ hm' ho' hn' => omega
      | sl _ _ _ _ _ r j' k' cp tot hm' ho' hn' hk' hc hs' ht' =>
        refine op_val hs (hrun hvx h1 (by omega)) ?_ hK
        rw [add_lit]
        exact .ptr _ _ _ _ hm' (by rw [hz2, ho', hz, hj]; simp)
  · exact h.elim
theorem lop_indexArr (hT : TOK P T) {t : TypeId} {x y : Operand} {e n b : Nat} {k : IntKind} {i o' : I} {ti te : TI} (ht : lget T t = some ti) (hk : ti.kind = .arr n e) (hte : lget T e = some te) (hi : ev s y = .p (.int k i)) (ho : o.op = .indexAddr t x y) (hs : St c s a w)
    (hx0 : ev s x = .ptr b o') (hB : ∃ B, hget s.h b = some B)
    (h : Need (fun _ => 0 ≤ i.val ∧ i.val < n) fun _ => imul i te.size fun z => iadd o' z fun y => K (s.put o.dst (.ptr b y))) : o.wp P a w (Post K c w) Q := by
  have hx := hs.ev x
  rw [hx0] at hx
  obtain ⟨B, hB⟩ := hB
  obtain ⟨r, j0, hm, hj0, hvx⟩ := live_ptr hs hx hB
  have hy : a.eval y = .int k i.val := LR.inv_int (hi ▸ hs.ev y)
  obtain ⟨⟨_, _, d, _, _, _, _, _, hu, hkd, _⟩, _⟩ := hT t ti ht
  rw [hk] at hkd
  cases d <;> try exact hkd.elim
  rename_i n' e'
  obtain ⟨rfl, rfl, _⟩ := hkd
  have hse := tok_size (w := w) (hT e te hte)
  obtain ⟨⟨h1, h2⟩, h3⟩ := need h
  obtain ⟨z, hz, h4⟩ := imul_sound h3
  obtain ⟨z2, hz2, hK⟩ := iadd_sound h4
  obtain ⟨j, hj⟩ : ∃ j : Nat, i.val = j := ⟨i.val.toNat, by omega⟩
  refine op_val hs (v := .pointer (some ⟨r, j0 + i.val.toNat * te.size, none⟩)) ?_ (.ptr _ _ _ _ hm (by rw [hz2, hj0, hz, hj]; simp)) hK
  unfold execOp; rw [ho]
  refine runv ?_
  simp [Instr.indexAt, asIntOf, hy, run_underlying hu, hvx, Instr.sureAddr, hse, h1, h2, add_lit]
end
end Go.LX
