/-
  Append, to a slice that has no other name.
-/
import Derived.Test.YtllafhhnciobhaaGreatDoorLxOps2
import Derived.Laws.MakeOwn
import Derived.Lib.AppendStr
import Derived.Orders
import Derived.Deep.LoopGhost
namespace Go.LX
open Go
set_option linter.unusedVariables false

section
variable {P : Program} {T : TT} {o : Oper} {s : LS} {K : LS → Prop} {c : Ctx} {a : Act} {w w' : World} {Q : Exit → Act → World → Prop}

/-- What is appended: so many elements, whose cells are known. -/
def Src (w : World) (y : Value) (m : Nat) (news : List Value) : Prop := (∃ cp, y = .slice none 0 cp ∧ m = 0 ∧ news = []) ∨ ∃ ad cp, y = .slice (some ad) m cp ∧ ∀ (j : Nat) (v : Value), news[j]? = some v → w.cell? (ad.add j) = some v
theorem PR.one {M : Nat → Prop} {u : PV} {x : Value} (h : PR M w u x) : x.oneCell' = true := by
  cases h <;> first | rfl | assumption
theorem newCells_sound {te : TI} {y : LV} {yv : Value} {L : Bool → List PV → I → Prop} (hs : St c s a w) (hy : LR c w y yv) (hsz : 1 ≤ te.size) (h : newCells s te y L) :
    ∃ sb b m m' news, L sb b m ∧ m.val = ((m' : Nat) : Int) ∧ Src w yv m' news ∧ Rel2 c w (pvs b) news ∧ news.length = m' * te.size ∧ m' ≤ maxLen := by
  unfold newCells at h
  split at h
  · cases hy with
    | p _ _ hp => cases hp; exact ⟨_, _, _, 0, [], h, rfl, .inl ⟨0, rfl, rfl, rfl⟩, Rel2.nil, by simp, Nat.zero_le _⟩
  · rename_i n sy l
    obtain ⟨hl, h⟩ := need h
    cases hy with
    | p _ _ hp =>
      cases hp with
      | vsl0 _ _ _ ad cp h0 _ =>
        have hl0 : l = [] := by
          apply List.eq_nil_of_length_eq_zero
          have : (l.length : Int) = n.val * te.size := hl
          rw [h0] at this; omega
        subst hl0
        cases ad with
        | none => exact ⟨_, _, _, 0, [], h, h0, .inl ⟨cp, rfl, rfl, rfl⟩, Rel2.nil, by simp, Nat.zero_le _⟩
        | some ad => exact ⟨_, _, _, 0, [], h, h0, .inr ⟨ad, cp, rfl, fun j v hj => by simp at hj⟩, Rel2.nil, by simp, Nat.zero_le _⟩
      | vsl _ _ _ ad n' cp g hn hsp hM hlt hle hcp hcell hrel =>
        refine ⟨_, _, _, n', (List.range l.length).map g, h, hn, .inr ⟨ad, cp, rfl, fun j v hj => ?_⟩, ?_, ?_, Nat.le_trans hle hcp⟩
        · simp only [List.getElem?_map] at hj
          by_cases hjl : j < l.length
          · rw [List.getElem?_range hjl] at hj; cases hj
            exact hcell j _ (List.getElem?_eq_getElem hjl)
          · rw [List.getElem?_eq_none (by simp; omega)] at hj; cases hj
        · refine ⟨by simp [pvs_length], fun j u hu => ?_⟩
          rw [pvs_get] at hu
          cases e : l[j]? with
          | none => rw [e] at hu; cases hu
          | some v =>
            rw [e] at hu; cases hu
            have hjl : j < l.length := (List.getElem?_eq_some_iff.1 e).1
            exact ⟨g j, by simp [hjl], .p _ _ (hrel j v e)⟩
        · have : (l.length : Int) = n.val * te.size := hl
          rw [hn] at this
          simp
          exact_mod_cast this
  · rename_i b e1 sz o' n
    cases hB : hget s.h b with
    | none => rw [hB] at h; exact h.elim
    | some B =>
      rw [hB] at h
      cases B with
      | mix l => exact h.elim
      | iter z p => exact h.elim
      | fix g o => exact h.elim
      | bld t l => exact h.elim
      | pure sy l =>
        obtain ⟨m0, hm0, hBR⟩ := hs.hr.live b _ hB
        have part : ∀ (sy' : Bool) (l' : List PV), l' = (l.drop o'.val.toNat).take (n.val.toNat * te.size) → 0 ≤ o'.val → 0 ≤ n.val → o'.val + n.val * te.size ≤ l.length → L sy' l' n →
            ∃ sb b m m' news, L sb b m ∧ m.val = ((m' : Nat) : Int) ∧ Src w yv m' news ∧ Rel2 c w (pvs b) news ∧ news.length = m' * te.size ∧ m' ≤ maxLen := by
          intro sy' l' hl' h0 hn0 hle h
          cases hy with
          | goneS _ _ _ _ _ _ _ _ hm' _ => rw [hm0] at hm'; cases hm'
          | slv _ _ _ _ _ hm' ho' hn' =>
            have hl0 : l' = [] := by rw [hl', hn']; simp
            subst hl0
            exact ⟨_, _, _, 0, [], h, hn', .inl ⟨0, rfl, rfl, rfl⟩, Rel2.nil, by simp, Nat.zero_le _⟩
          | sl _ _ _ _ _ r j' k' cp tot hm' ho' hn' hk' hc hs' ht' =>
            rw [hm'] at hm0; cases hm0
            obtain ⟨cur, ty, hg, hle2, hrel⟩ := hBR
            rw [ho', hn'] at hl' hle
            rw [Int.toNat_natCast, Int.toNat_natCast] at hl'
            have hle : j' + k' * te.size ≤ l.length := by exact_mod_cast hle
            have hget : ∀ j, j < k' * te.size → l'[j]? = l[j' + j]? := fun j hj => by rw [hl', List.getElem?_take, if_pos hj, List.getElem?_drop]
            have hll : l'.length = k' * te.size := by rw [hl', List.length_take, List.length_drop]; omega
            have hcl : ((cur.toList.drop j').take (k' * te.size)).length = k' * te.size := by rw [List.length_take, List.length_drop, Array.length_toList]; omega
            refine ⟨_, _, _, k', (cur.toList.drop j').take (k' * te.size), h, hn', .inr ⟨_, cp, rfl, cells_at hg _ (by omega)⟩, ?_, hcl, Nat.le_trans hk' hc⟩
            refine ⟨by rw [pvs_length, hll, hcl], fun j u hu => ?_⟩
            rw [pvs_get] at hu
            cases e : l'[j]? with
            | none => rw [e] at hu; cases hu
            | some v =>
              rw [e] at hu; cases hu
              have hjl : j < l'.length := (List.getElem?_eq_some_iff.1 e).1
              rw [hget j (by omega)] at e
              have hc' : cur[j' + j]? = some (cur[j' + j]'(by omega)) := Array.getElem?_eq_getElem (by omega)
              refine ⟨cur[j' + j]'(by omega), by rw [List.getElem?_take, if_pos (by omega), List.getElem?_drop]; simp, .p _ _ ?_⟩
              have := hrel (j' + j) v e
              rwa [Array.getD_eq_getD_getElem?, hc'] at this
        have nonneg : (0 : Int) ≤ n.val ∨ ∀ P : Prop, P := by
          cases hy with
          | goneS _ _ _ _ _ _ _ _ hm' _ => rw [hm0] at hm'; cases hm'
          | slv _ _ _ _ _ hm' ho' hn' => exact .inl (by omega)
          | sl _ _ _ _ _ r j' k' cp tot hm' ho' hn' hk' hc hs' ht' => exact .inl (by omega)
        have gen : partC l o' n te.size L → ∃ sb b m m' news, L sb b m ∧ m.val = ((m' : Nat) : Int) ∧ Src w yv m' news ∧ Rel2 c w (pvs b) news ∧ news.length = m' * te.size ∧ m' ≤ maxLen := by
          intro h
          obtain ⟨⟨h1, h2, h3⟩, h⟩ := need h
          exact part _ _ rfl h1 h2 h3 (upd h)
        cases o' with
        | sym j => exact gen h
        | lit j =>
          dsimp only at h
          cases hj0 : decide (j = 0) with
          | false => rw [hj0] at h; exact gen h
          | true =>
            rw [hj0] at h
            have hj0 := of_decide_eq_true hj0
            subst hj0
            have hv0 : (I.lit 0).val = 0 := rfl
            cases h with
            | new hl h =>
              have hl : (l.length : Int) = n.val * te.size := hl
              rcases nonneg with hn0 | hP
              · refine part _ _ ?_ (Int.le_refl _) hn0 (by rw [hv0]; omega) h
                obtain ⟨q, hq⟩ := Int.eq_ofNat_of_zero_le hn0
                rw [hq] at hl ⊢
                have : l.length = q * te.size := by exact_mod_cast hl
                rw [hv0]; simp only [Int.toNat_zero, List.drop_zero, Int.toNat_natCast]
                rw [← this, List.take_length]
              · exact hP _
            | within hl h =>
              have hl : 0 ≤ n.val ∧ n.val * te.size ≤ l.length := hl
              exact part _ _ (by rw [hv0]; rfl) (Int.le_refl _) hl.1 (by rw [hv0]; omega) (upd h)
  · exact h.elim

theorem append_none (t ty e : TypeId) (i : TypeInfo) (ht : P.underlying t = some (.slice e)) (hi : P.info? e = some i) (b : Option Addr) (n cap cp : Nat) (h : n ≤ cap) :
    (Builtin.append_ #[t, t] ty #[.slice b n cap, .slice none 0 cp]).run P w = .ok (.slice b n cap) w := by
  cases b <;> simp [Builtin.append_, run_underlying ht, sizeOf, typeInfo, hi, Builtin.lenOf, Builtin.firstCells, h, storeCells]

theorem append_zero (t ty e : TypeId) (i : TypeInfo) (ht : P.underlying t = some (.slice e)) (hi : P.info? e = some i) (b : Option Addr) (n cap cp : Nat) (ad : Addr) (h : n ≤ cap) :
    (Builtin.append_ #[t, t] ty #[.slice b n cap, .slice (some ad) 0 cp]).run P w = .ok (.slice b n cap) w := by
  cases b <;> simp [Builtin.append_, run_underlying ht, sizeOf, typeInfo, hi, Builtin.lenOf, Builtin.firstCells, h, storeCells, loadCells, loadCellsFrom]

theorem pvs_append : ∀ (a b : List PV), pvs (a ++ b) = pvs a ++ pvs b
  | [], _ => rfl
  | x :: a, b => by simp [pvs, pvs_append a b]
theorem allOk_pvs : ∀ (a : List PV), allOk (pvs a) = true
  | [] => rfl
  | x :: a => by simp [pvs, allOk, okc, allOk_pvs a]
theorem newRow_res {h : LH} (hr : HR c w h) {e sz k cap : Nat} {kk : I} {sy : Bool} {l : List PV} {xs rest : List Value} (hrel : Rel2 c w (pvs l) xs) (hk : kk.val = (k : Int)) (hkc : k ≤ cap) (hcm : cap ≤ maxLen) (hsz : cap * sz = (xs ++ rest).length) :
    Ext c w (c.grow (some w.heap.size)) (w.drew.alloc (.cells (xs ++ rest).toArray e)) ∧ HR (c.grow (some w.heap.size)) (w.drew.alloc (.cells (xs ++ rest).toArray e)) ((c.N, .pure sy l) :: h) ∧
      LR (c.grow (some w.heap.size)) (w.drew.alloc (.cells (xs ++ rest).toArray e)) (.sl c.N e sz (.lit 0) kk) (.slice (some ⟨w.heap.size, 0, none⟩) k cap) := by
  obtain ⟨e1, r1⟩ := hr.same (w' := w.drew) rfl rfl rfl rfl
  have ea := Ext.alloc r1 (.cells (xs ++ rest).toArray e)
  have hsz2 : w.drew.heap.size = w.heap.size := rfl
  rw [hsz2] at ea
  have hnew : (w.drew.alloc (.cells (xs ++ rest).toArray e)).heap[w.heap.size]? = some (.cells (xs ++ rest).toArray e) := heap_alloc_new w.drew _
  refine ⟨e1.trans ea, ?_, ?_⟩
  · have := r1.alloc (.cells (xs ++ rest).toArray e) (.pure sy l) ?_
    · exact this
    · refine ⟨_, e, hnew, ?_, fun j u hu => ?_⟩
      · have := hrel.1
        rw [pvs_length] at this
        simp; omega
      · obtain ⟨x, h1, h2⟩ := hrel.2 j (.p u) (by rw [pvs_get, hu]; rfl)
        have hj := (List.getElem?_eq_some_iff.1 h1).1
        rw [Array.getD_eq_getD_getElem?, List.getElem?_toArray, List.getElem?_append_left hj, h1]
        have h3 := (h2.ext hr.fresh (e1.trans ea))
        cases h3 with | p _ _ h => exact h
  · refine .sl _ _ _ _ _ w.heap.size 0 k cap (cap * sz) (grow_new c _) rfl hk hkc hcm ?_ (by omega)
    rw [World.shape?, hnew]
    simp only [hsz, List.size_toArray]

theorem room {p q : Unit → Prop} {L L' : Unit → Prop} (h : Room p q L L') : (q () ∧ L' ()) ∨ (p () ∧ L ()) := by
  cases h with
  | new h k => exact .inr ⟨h, k⟩
  | within h k => exact .inl ⟨h, k⟩
theorem updL_length : ∀ (us l : List PV) (o : Nat), (updL l o us).length = l.length
  | [], l, o => rfl
  | u :: us, l, o => by rw [updL, updL_length us]; simp
theorem updL_get : ∀ (us l : List PV) (o : Nat), o + us.length ≤ l.length → ∀ (j : Nat), (updL l o us)[j]? = if j < o then l[j]? else if j < o + us.length then us[j - o]? else l[j]?
  | [], l, o, h, j => by
    rw [updL]
    by_cases h1 : j < o
    · rw [if_pos h1]
    · rw [if_neg h1, if_neg (by simp; omega)]
  | u :: us, l, o, h, j => by
    have h : o + (us.length + 1) ≤ l.length := h
    rw [updL, updL_get us (l.set o u) (o + 1) (by simp; omega) j]
    simp only [List.length_cons]
    by_cases h1 : j < o
    · rw [if_pos (by omega), if_pos h1, List.getElem?_set_ne (by omega)]
    · rw [if_neg h1]
      by_cases h2 : j = o
      · subst h2
        rw [if_pos (by omega), if_pos (by omega), List.getElem?_set_self (by omega)]; simp
      · rw [if_neg (by omega)]
        by_cases h3 : j < o + 1 + us.length
        · rw [if_pos h3, if_pos (by omega), show j - o = (j - (o + 1)) + 1 by omega, List.getElem?_cons_succ]
        · rw [if_neg h3, if_neg (by omega), List.getElem?_set_ne (by omega)]
theorem HR.reset {h : LH} (hr : HR c w h) {b : Nat} {B B' : LB} {m : Option Nat} (hb : hget h b = some B) (hm : c.m b = some m) (hB : BR c w B' m) : HR c w (hset h b B') := by
  refine hr.step (Ext.refl hr) (.inl rfl) hr.fresh (fun b => .inl rfl) (fun d C hd => ?_)
  rw [hget_set hb] at hd
  by_cases e : d = b
  · rw [if_pos e] at hd; cases hd
    exact .inr ⟨m, by rw [e]; exact hm, hB⟩
  · rw [if_neg e] at hd
    exact .inl ⟨hd, rfl, fun _ _ => rfl⟩

theorem append_str0 (t u ty e : TypeId) (i : TypeInfo) (ht : P.underlying t = some (.slice e)) (hu : P.underlying u = some .string) (hi : P.info? e = some i) (b : Option Addr) (n cap : Nat) (s : ByteArray) (h0 : s.size = 0) (h : n ≤ cap) :
    (Builtin.append_ #[t, u] ty #[.slice b n cap, .string s]).run P w = .ok (.slice b n cap) w := by
  cases b <;> simp [Builtin.append_, run_underlying ht, run_underlying hu, sizeOf, typeInfo, hi, Builtin.lenOf, Builtin.firstCells, h, h0, storeCells]
/-- What is appended: cells of a slice, or the bytes of a text. -/
def SrcT (P : Program) (w : World) (t t' sz : Nat) (y : Value) (m : Nat) (news : List Value) : Prop :=
  (t = t' ∧ Src w y m news) ∨ (P.underlying t' = some .string ∧ sz = 1 ∧ ∃ s, y = .string s ∧ s.size = m ∧ Lib.strCells s = news)

theorem appendC_sound (hT : TOK P T) {cl : Call} {x : LV} {t t' e m' : Nat} {ti te : TI} {sb : Bool} {b : List PV} {m : I} {news : List Value} {v u : Value} (ho : o.op = .call cl) (hcl : cl.callee = .builtin .append) (hv : cl.args.map a.eval = #[v, u]) (hx : LR c w x v) (hty : cl.argTypes = #[t, t']) (ht : lget T t = some ti) (hk : ti.kind = .slice e) (hte : lget T e = some te)
    (hs : St c s a w) (hlen : te.zero.length = te.size) (hpos : 1 ≤ te.size) (hm : m.val = ((m' : Nat) : Int)) (hsrc : SrcT P w t t' te.size u m' news) (hrelb : Rel2 c w (pvs b) news) (hnl : news.length = m' * te.size) (hmm : m' ≤ maxLen) (h : appendC s e te sb b m x fun r s' => K (s'.put o.dst r)) : o.wp P a w (Post K c w) Q := by
  obtain ⟨d, hu, hkd⟩ := tok_under (hT t ti ht)
  rw [hk] at hkd
  cases d <;> try exact hkd.elim
  rename_i e'
  have hkd : e = e' := hkd
  subst hkd
  obtain ⟨⟨i, z, _, hi, hsz, hby, hz, hzc, _⟩, _⟩ := hT e te hte
  have hrun : ∀ {r w'}, (Builtin.append_ #[t, t'] o.type #[v, u]).run P w = .ok r w' → (execOp a.eval o).run P w = .ok (.value r) w' := by
    intro r w' h
    refine built_run ho hcl fun cs => ?_
    rw [hv, hty]
    unfold builtin
    exact runv h
  unfold appendC at h
  have hzsz : z.cells.size = te.size := by
    have : z.cells.toList.length = te.zero.length := by rw [hzc, List.length_map]
    rw [Array.length_toList] at this; omega
  have hbl : b.length = m' * te.size := by rw [← hnl, ← hrelb.1, pvs_length]
  rw [← hsz] at hnl
  have hzl : ∀ n, (Builtin.zeroCells z.cells n).toList.length = n * te.size := fun n => by rw [Array.length_toList, size_zeroCells, hzsz]
  have bound : ∀ {k : Nat}, (k : Int) * te.bytes ≤ 140737488355328 → k * te.bytes ≤ 140737488355328 := fun {k} h => by
    have h2 : ((k * te.bytes : Nat) : Int) ≤ 140737488355328 := by rw [Int.natCast_mul]; exact h
    omega
  split at h
  · -- append to nil
    obtain ⟨⟨hb1, hb2⟩, h⟩ := need h
    cases hx with
    | p _ _ hp =>
      cases hp
      rw [hm] at hb1 hb2
      have hb1 := bound hb1
      rcases Nat.eq_zero_or_pos m' with h0 | h0
      · subst h0
        have hb0 : b = [] := List.eq_nil_of_length_eq_zero (by omega)
        subst hb0
        have hr : (Builtin.append_ #[t, t'] o.type #[.slice none 0 0, u]).run P w = .ok (.slice none 0 0) w := by
          rcases hsrc with ⟨rfl, ⟨cp, rfl, _⟩ | ⟨ad, cp, rfl, _⟩⟩ | ⟨hu', _, st, rfl, hst, _⟩
          · exact append_none t _ e i hu hi none 0 0 cp (Nat.le_refl _)
          · exact append_zero t _ e i hu hi none 0 0 cp ad (Nat.le_refl _)
          · exact append_str0 t t' _ e i hu hu' hi none 0 0 st hst (Nat.le_refl _)
        refine op_world hs (hrun hr) (Ext.void hs.hr) (hs.hr.void sb) (show c.N + 1 = s.n + 1 by rw [hs.nn]) (u := .sl s.n e te.size (.lit 0) m) ?_ (by rw [hs.nn]; exact h)
        rw [← hs.nn]; exact .slv _ _ _ _ _ (grow_new c _) rfl (by rw [hm]; rfl)
      · have hr : (Builtin.append_ #[t, t'] o.type #[.slice none 0 0, u]).run P w = .ok (.slice (some ⟨w.heap.size, 0, none⟩) m' (grownCap w m' 0 e)) (w.drew.alloc (.cells (news.toArray ++ Builtin.zeroCells z.cells (grownCap w m' 0 e - m')) e)) := by
          rcases hsrc with ⟨rfl, ⟨cp, rfl, h1, _⟩ | ⟨ad, cp, rfl, hcell⟩⟩ | ⟨hu', hs1, st, rfl, hst, hnw⟩
          · omega
          · exact run_append_nil (P := P) w t o.type e i z hu hi hz ad m' cp news hnl hcell h0 hb2 (by rw [hby]; omega)
          · subst hst hnw
            have := run_append_nil_string (P := P) w t t' o.type e i z hu hu' hi hz st h0 hb2 (by rw [hby]; omega)
            rw [this, show st.data.map (fun b => Value.int .u8 b.toNat) = (Lib.strCells st).toArray by apply Array.ext'; simp [Lib.strCells]]
        · have hge := grownCap_ge w m' 0 e
          have hcm := grownCap_le_maxLen w m' 0 e hmm
          have harr : news.toArray ++ Builtin.zeroCells z.cells (grownCap w m' 0 e - m') = (news ++ (Builtin.zeroCells z.cells (grownCap w m' 0 e - m')).toList).toArray := by simp
          rw [harr] at hr
          have res := newRow_res hs.hr (e := e) (sz := te.size) (k := m') (cap := grownCap w m' 0 e) (kk := m) (sy := sb) (l := b) (xs := news) (rest := (Builtin.zeroCells z.cells (grownCap w m' 0 e - m')).toList) hrelb hm hge hcm (by
            rw [List.length_append, hzl, hnl, hsz, ← Nat.add_mul]; congr 1; omega)
          refine op_world hs (hrun hr) res.1 res.2.1 (show c.N + 1 = s.n + 1 by rw [hs.nn]) (u := .sl s.n e te.size (.lit 0) m) ?_ (by rw [hs.nn]; exact h)
          rw [← hs.nn]; exact res.2.2
  · -- append to a slice with a name
    rename_i i' e'' sz' j n
    cases hB : hget s.h i' with
    | none => rw [hB] at h; exact h.elim
    | some B =>
      rw [hB] at h
      cases B with
      | mix l => exact h.elim
      | iter z p => exact h.elim
      | fix g o => exact h.elim
      | bld t l => exact h.elim
      | pure sa al =>
        dsimp only at h
        split at h
        · rename_i hj hsz' he'
          have hj := of_decide_eq_true hj
          have hsz' := Nat.eq_of_beq_eq_true hsz'
          have he' := Nat.eq_of_beq_eq_true he'
          subst hsz' he'
          have hrm := room h
          clear h
          rcases hrm with ⟨hfitq, h⟩ | ⟨⟨hal, hb1, hb2⟩, h⟩
          · have h := upd h
            have hia := iadd_sound h
            clear h
            obtain ⟨kk, hkk, h⟩ := hia
            obtain ⟨mo, hmo, hBR⟩ := hs.hr.live i' _ hB
            cases hx with
            | goneS _ _ _ _ _ _ _ _ hm' _ => rw [hmo] at hm'; cases hm'
            | slv _ _ _ _ _ hm' ho' hn' =>
              rw [hmo] at hm'; cases hm'
              have hal0 : al = [] := hBR
              subst hal0
              have h0 : m' = 0 := by
                rw [hn', hm] at hfitq
                have h3 : m' * te.size ≤ 0 := by simpa using (by exact_mod_cast hfitq : (0 + m') * te.size ≤ 0)
                have : m' ≤ m' * te.size := Nat.le_mul_of_pos_right m' hpos
                omega
              subst h0
              have hb0 : b = [] := List.eq_nil_of_length_eq_zero (by omega)
              subst hb0
              have hr : (Builtin.append_ #[t, t'] o.type #[.slice none 0 0, u]).run P w = .ok (.slice none 0 0) w := by
                rcases hsrc with ⟨rfl, ⟨cp, rfl, _⟩ | ⟨ad, cp, rfl, _⟩⟩ | ⟨hu', _, st, rfl, hst, _⟩
                · exact append_none t _ e'' i hu hi none 0 0 cp (Nat.le_refl _)
                · exact append_zero t _ e'' i hu hi none 0 0 cp ad (Nat.le_refl _)
                · exact append_str0 t t' _ e'' i hu hu' hi none 0 0 st hst (Nat.le_refl _)
              have hupd0 : updL ([] : List PV) (n.val.toNat * te.size) [] = [] := rfl
              rw [hupd0] at h
              have hset0 := hs.hr.reset (B' := .pure true []) hB hmo rfl
              refine op_world hs (hrun hr) (Ext.refl hs.hr) hset0 (show c.N = s.n from hs.nn) (u := .sl i' e'' te.size (.lit 0) kk) ?_ h
              exact .slv _ _ _ _ _ hmo rfl (by rw [hkk, hn', hm]; rfl)
            | sl _ _ _ _ _ r j' n' cp tot hm' ho' hn' hk' hc hs' ht' =>
              rw [hmo] at hm'; cases hm'
              obtain ⟨cur, ty, hg, hle, hrel⟩ := hBR
              have hj0 : j' = 0 := by rw [hj] at ho'; simp only [I.val] at ho'; omega
              subst hj0
              have hsh : ty = e'' ∧ cur.size = tot := by
                rw [World.shape?, hg] at hs'
                cases hs'; exact ⟨rfl, rfl⟩
              obtain ⟨rfl, rfl⟩ := hsh
              have hq : (n' + m') * te.size ≤ al.length := by rw [hn', hm] at hfitq; exact_mod_cast hfitq
              have hroom : n' + m' ≤ cp := Nat.le_of_mul_le_mul_right (by omega : (n' + m') * te.size ≤ cp * te.size) hpos
              have hfit : n' * i.size + news.length ≤ cur.size := by rw [hnl, hsz, ← Nat.add_mul]; omega
              have hrun2 : (Builtin.append_ #[t, t'] o.type #[.slice (some ⟨r, 0, none⟩) n' cp, u]).run P w = .ok (.slice (some ⟨r, 0, none⟩) (n' + m') cp) (w.setRow r (over cur.toList (n' * te.size) news).toArray) := by
                rcases hsrc with ⟨rfl, ⟨cp', rfl, rfl, rfl⟩ | ⟨ad, cp', rfl, hcell⟩⟩ | ⟨hu', hs1, st, rfl, hst, hnw⟩
                · rw [append_none t _ ty i hu hi _ n' cp cp' hk']
                  have : (over cur.toList (n' * te.size) []).toArray = cur := by simp [over]
                  rw [this, setRow_self w r cur ty (0, 0) hg, Nat.add_zero]
                · have := run_append_room (P := P) w t o.type ty i hu hi r n' cp cur hg ad m' cp' news hnl hcell (hrelb.ones (allOk_pvs b)) hroom hfit
                  rw [hsz] at this
                  exact this
                · subst hst hnw
                  have := Lib.run_append_room_string (P := P) w t t' o.type _ i hu hu' hi (by rw [hsz]; exact hs1) r n' cp cur hg st hroom (by rw [hsz, hs1, Lib.strCells_length] at hfit; omega)
                  rw [this]
                  simp only [over, Lib.strCells_length, hs1, Nat.mul_one]
              have hsz3 : (over cur.toList (n' * te.size) news).toArray.size = cur.size := by
                rw [List.size_toArray, over_length _ _ _ (by rw [Array.length_toList]; rw [hsz] at hfit; exact hfit), Array.length_toList]
              have ht := turn_row (w := w) (cs := (over cur.toList (n' * te.size) news).toArray) hg hsz3
              have et := Ext.turn hs.hr hmo ht
              have hn2 : n.val.toNat * te.size = n' * te.size := by rw [hn']; rfl
              rw [hn2] at h
              have hB' : BR c (w.setRow r (over cur.toList (n' * te.size) news).toArray) (.pure true (updL al (n' * te.size) b)) (some r) := by
                refine ⟨_, ty, setRow_heap w r cur _ ty (0, 0) hg, ?_, fun j u hu => ?_⟩
                · rw [hsz3, updL_length]; exact hle
                · refine PR.ext hs.hr.fresh et ?_
                  rw [Array.getD_eq_getD_getElem?, List.getElem?_toArray, over_get _ _ _ (by rw [Array.length_toList]; rw [hsz] at hfit; exact hfit)]
                  rw [updL_get _ _ _ (by rw [hbl, ← Nat.add_mul]; exact hq)] at hu
                  by_cases h1 : j < n' * te.size
                  · rw [if_pos h1] at hu ⊢
                    have := hrel j u hu
                    rwa [Array.getD_eq_getD_getElem?, ← Array.getElem?_toList] at this
                  · rw [if_neg h1] at hu ⊢
                    by_cases h2 : j < n' * te.size + b.length
                    · rw [if_pos h2] at hu
                      rw [if_pos (by rw [hnl, hsz, ← hbl]; exact h2)]
                      obtain ⟨x, h3, h4⟩ := hrelb.2 _ (.p u) (by rw [pvs_get, hu]; rfl)
                      rw [h3]
                      cases h4 with | p _ _ h => exact h
                    · rw [if_neg h2] at hu
                      rw [if_neg (by rw [hnl, hsz, ← hbl]; exact h2)]
                      have := hrel j u hu
                      rwa [Array.getD_eq_getD_getElem?, ← Array.getElem?_toList] at this
              have hfin := hs.hr.turn hB hmo ht hB'
              refine op_world hs (hrun hrun2) et hfin (show c.N = s.n from hs.nn) (u := .sl i' ty te.size (.lit 0) kk) ?_ h
              refine .sl _ _ _ _ _ r 0 (n' + m') cp cur.size hmo rfl (by rw [hkk, hn', hm]; simp) hroom hc ?_ (by omega)
              rw [ht.shape]; exact hs'
          have hcat : ∃ sc, iadd n m fun k => K (LS.put { s with h := (s.n, .pure sc (al ++ b)) :: hdel s.h i', n := s.n + 1 } o.dst (.sl s.n e'' te.size (.lit 0) k)) := by
            unfold catL at h
            split at h
            · exact ⟨_, h⟩
            · exact ⟨_, upd h⟩
          clear h
          obtain ⟨sc, h⟩ := hcat
          have hia := iadd_sound h
          clear h
          obtain ⟨kk, hkk, h⟩ := hia
          obtain ⟨mo, hmo, hBR⟩ := hs.hr.live i' _ hB
          have hil := live_lt hs.hr.fresh hmo
          -- a new block
          have fresh : ∀ {n' old : Nat} {olds : List Value} {cap : Nat}, n.val = (n' : Int) → Rel2 c w (pvs al) olds → olds.length = n' * te.size → cap = grownCap w (n' + m') old e'' → n' + m' ≤ maxLen →
              (Builtin.append_ #[t, t'] o.type #[v, u]).run P w = .ok (.slice (some ⟨w.heap.size, 0, none⟩) (n' + m') cap) (w.drew.alloc (.cells (olds.toArray ++ news.toArray ++ Builtin.zeroCells z.cells (cap - (n' + m'))) e'')) → o.wp P a w (Post K c w) Q := by
            intro n' old olds cap hn' hro hol hcap hmx hr
            have hge := grownCap_ge w (n' + m') old e''
            have hcm := grownCap_le_maxLen w (n' + m') old e'' hmx
            rw [← hcap] at hge hcm
            have harr : olds.toArray ++ news.toArray ++ Builtin.zeroCells z.cells (cap - (n' + m')) = ((olds ++ news) ++ (Builtin.zeroCells z.cells (cap - (n' + m'))).toList).toArray := by simp
            rw [harr] at hr
            have hd := hs.hr.drop i'
            have ed := Ext.drop hs.hr i'
            have hpv := pvs_append al b
            have res := newRow_res hd (e := e'') (sz := te.size) (k := n' + m') (cap := cap) (kk := kk) (sy := sc) (l := al ++ b) (xs := olds ++ news) (rest := (Builtin.zeroCells z.cells (cap - (n' + m'))).toList) (by
              rw [hpv]; exact (hro.append hrelb).ext hs.hr ed) (by rw [hkk, hn', hm]; simp) hge hcm (by
              rw [List.length_append, List.length_append, hzl, hol, hnl, hsz, ← Nat.add_mul, ← Nat.add_mul]; congr 1; omega)
            refine op_world hs (hrun hr) (ed.trans res.1) res.2.1 (show c.N + 1 = s.n + 1 by rw [hs.nn]) (u := .sl s.n e'' te.size (.lit 0) kk) ?_ (by
              have e0 : (c.drop i').N = s.n := hs.nn
              rw [e0]; exact h)
            rw [← hs.nn]; exact res.2.2
          cases hx with
          | goneS _ _ _ _ _ _ _ _ hm' _ => rw [hmo] at hm'; cases hm'
          | slv _ _ _ _ _ hm' ho' hn' =>
            rw [hmo] at hm'; cases hm'
            have hal0 : al = [] := hBR
            subst hal0
            rw [hn', hm] at hb1 hb2
            rcases Nat.eq_zero_or_pos m' with h0 | h0
            · subst h0
              have hb0 : b = [] := List.eq_nil_of_length_eq_zero (by omega)
              subst hb0
              have hr : (Builtin.append_ #[t, t'] o.type #[.slice none 0 0, u]).run P w = .ok (.slice none 0 0) w := by
                rcases hsrc with ⟨rfl, ⟨cp, rfl, _⟩ | ⟨ad, cp, rfl, _⟩⟩ | ⟨hu', _, st, rfl, hst, _⟩
                · exact append_none t _ e'' i hu hi none 0 0 cp (Nat.le_refl _)
                · exact append_zero t _ e'' i hu hi none 0 0 cp ad (Nat.le_refl _)
                · exact append_str0 t t' _ e'' i hu hu' hi none 0 0 st hst (Nat.le_refl _)
              refine op_world hs (hrun hr) (Ext.move hs.hr hil) (hs.hr.move hmo (B := .pure sc ([] ++ [])) (by simp [BR])) (show c.N + 1 = s.n + 1 by rw [hs.nn]) (u := .sl s.n e'' te.size (.lit 0) kk) ?_ (by rw [hs.nn]; exact h)
              rw [← hs.nn]; exact .slv _ _ _ _ _ ((move_new hil).trans hmo) rfl (by rw [hkk, hn', hm]; rfl)
            · have hb1 := bound (k := m') (by simpa using hb1)
              have hr : (Builtin.append_ #[t, t'] o.type #[.slice none 0 0, u]).run P w = .ok (.slice (some ⟨w.heap.size, 0, none⟩) m' (grownCap w m' 0 e'')) (w.drew.alloc (.cells (news.toArray ++ Builtin.zeroCells z.cells (grownCap w m' 0 e'' - m')) e'')) := by
                rcases hsrc with ⟨rfl, ⟨cp, rfl, h1, _⟩ | ⟨ad, cp, rfl, hcell⟩⟩ | ⟨hu', hs1, st, rfl, hst, hnw⟩
                · omega
                · exact run_append_nil (P := P) w t o.type e'' i z hu hi hz ad m' cp news hnl hcell h0 (by omega) (by rw [hby]; omega)
                · subst hst hnw
                  have := run_append_nil_string (P := P) w t t' o.type e'' i z hu hu' hi hz st h0 (by omega) (by rw [hby]; omega)
                  rw [this, show st.data.map (fun b => Value.int .u8 b.toNat) = (Lib.strCells st).toArray by apply Array.ext'; simp [Lib.strCells]]
              refine fresh (n' := 0) (old := 0) (olds := []) (cap := grownCap w m' 0 e'') hn' Rel2.nil (by simp) (by simp) (by omega) ?_
              simpa using hr
          | sl _ _ _ _ _ r j' n' cp tot hm' ho' hn' hk' hc hs' ht' =>
            rw [hmo] at hm'; cases hm'
            obtain ⟨cur, ty, hg, hle, hrel⟩ := hBR
            have hj0 : j' = 0 := by rw [hj] at ho'; simp only [I.val] at ho'; omega
            subst hj0
            have hsh : ty = e'' ∧ cur.size = tot := by
              rw [World.shape?, hg] at hs'
              cases hs'; exact ⟨rfl, rfl⟩
            obtain ⟨rfl, rfl⟩ := hsh
            rw [hn', hm] at hb1 hb2
            have hb1 := bound (k := n' + m') (by push_cast; exact hb1)
            have hmx : n' + m' ≤ maxLen := by unfold maxLen; omega
            have hal' : al.length = n' * te.size := by rw [hn'] at hal; exact_mod_cast hal
            have hro : Rel2 c w (pvs al) (cur.toList.take (n' * te.size)) := by
              refine ⟨by rw [pvs_length]; simp; omega, fun j u hu => ?_⟩
              rw [pvs_get] at hu
              cases e : al[j]? with
              | none => rw [e] at hu; cases hu
              | some v =>
                rw [e] at hu; cases hu
                have hjl : j < al.length := (List.getElem?_eq_some_iff.1 e).1
                have hc' : cur[j]? = some (cur[j]'(by omega)) := Array.getElem?_eq_getElem (by omega)
                refine ⟨cur[j]'(by omega), by rw [List.getElem?_take, if_pos (by omega)]; simp, .p _ _ ?_⟩
                have := hrel j v e
                rwa [Array.getD_eq_getD_getElem?, hc'] at this
            by_cases hroom : n' + m' ≤ cp
            · -- there is room
              have hfit : n' * i.size + news.length ≤ cur.size := by rw [hnl, hsz, ← Nat.add_mul]; have := Nat.mul_le_mul_right te.size hroom; omega
              have hrun2 : ∃ rr, (Builtin.append_ #[t, t'] o.type #[.slice (some ⟨r, 0, none⟩) n' cp, u]).run P w = .ok (.slice (some ⟨r, 0, none⟩) (n' + m') cp) (w.setRow r (over cur.toList (n' * te.size) news).toArray) ∧ rr = 0 := by
                refine ⟨0, ?_, rfl⟩
                rcases hsrc with ⟨rfl, ⟨cp', rfl, rfl, rfl⟩ | ⟨ad, cp', rfl, hcell⟩⟩ | ⟨hu', hs1, st, rfl, hst, hnw⟩
                · rw [append_none t _ ty i hu hi _ n' cp cp' hk']
                  have : (over cur.toList (n' * te.size) []).toArray = cur := by simp [over]
                  rw [this, setRow_self w r cur ty (0, 0) hg, Nat.add_zero]
                · have := run_append_room (P := P) w t o.type ty i hu hi r n' cp cur hg ad m' cp' news hnl hcell (hrelb.ones (allOk_pvs b)) hroom hfit
                  rw [hsz] at this
                  exact this
                · subst hst hnw
                  have := Lib.run_append_room_string (P := P) w t t' o.type _ i hu hu' hi (by rw [hsz]; exact hs1) r n' cp cur hg st hroom (by rw [hsz, hs1, Lib.strCells_length] at hfit; omega)
                  rw [this]
                  simp only [over, Lib.strCells_length, hs1, Nat.mul_one]
              obtain ⟨_, hr, _⟩ := hrun2
              have hsz3 : (over cur.toList (n' * te.size) news).toArray.size = cur.size := by
                rw [List.size_toArray, over_length _ _ _ (by rw [Array.length_toList]; rw [hsz] at hfit; exact hfit), Array.length_toList]
              have ht := turn_row (w := w) (cs := (over cur.toList (n' * te.size) news).toArray) hg hsz3
              have hmv := hs.hr.move hmo (B := .pure sa al) ⟨cur, ty, hg, hle, hrel⟩
              have emv := Ext.move hs.hr hil
              have hmN : (c.move i').m c.N = some (some r) := (move_new hil).trans hmo
              have hgetN : hget ((c.N, LB.pure sa al) :: hdel s.h i') c.N = some (.pure sa al) := by rw [hget_cons, if_pos rfl]
              have et := Ext.turn hmv hmN ht
              have hB' : BR (c.move i') (w.setRow r (over cur.toList (n' * te.size) news).toArray) (.pure sc (al ++ b)) (some r) := by
                refine ⟨_, ty, setRow_heap w r cur _ ty (0, 0) hg, ?_, fun j u hu => ?_⟩
                · rw [hsz3, List.length_append, hal', hbl]; rw [hnl, hsz] at hfit; exact hfit
                · refine PR.ext hs.hr.fresh (emv.trans et) ?_
                  rw [Array.getD_eq_getD_getElem?, List.getElem?_toArray, over_get _ _ _ (by rw [Array.length_toList]; rw [hsz] at hfit; exact hfit)]
                  by_cases h1 : j < n' * te.size
                  · rw [if_pos h1]
                    rw [List.getElem?_append_left (by omega)] at hu
                    have := hrel j u hu
                    rwa [Array.getD_eq_getD_getElem?, ← Array.getElem?_toList] at this
                  · rw [if_neg h1]
                    rw [List.getElem?_append_right (by omega), hal'] at hu
                    have hjb := (List.getElem?_eq_some_iff.1 hu).1
                    rw [if_pos (by rw [hnl, hsz]; omega)]
                    obtain ⟨x, h3, h4⟩ := hrelb.2 _ (.p u) (by rw [pvs_get, hu]; rfl)
                    rw [h3]
                    cases h4 with | p _ _ h => exact h
              have hfin := hmv.turn hgetN hmN ht hB'
              have hset : hset ((c.N, LB.pure sa al) :: hdel s.h i') c.N (.pure sc (al ++ b)) = (c.N, .pure sc (al ++ b)) :: hdel s.h i' := by
                simp [hset, Nat.beq_refl]
              rw [hset] at hfin
              refine op_world hs (hrun hr) (emv.trans et) hfin (show c.N + 1 = s.n + 1 by rw [hs.nn]) (u := .sl s.n ty te.size (.lit 0) kk) ?_ (by rw [hs.nn]; exact h)
              rw [← hs.nn]
              refine .sl _ _ _ _ _ r 0 (n' + m') cp cur.size hmN rfl (by rw [hkk, hn', hm]; simp) hroom hc ?_ (by omega)
              rw [ht.shape]; exact hs'
            · -- there is none
              have hol : (cur.toList.take (n' * te.size)).length = n' * i.size := by rw [hsz, ← hro.1, pvs_length, hal']
              have hcut : ∀ j v, (cur.toList.take (n' * te.size))[j]? = some v → w.cell? ((⟨r, 0, none⟩ : Addr).add j) = some v := fun j v hj => cells_at (w := w) (n := 0) hg (n' * te.size) (by omega) j v (by simpa using hj)
              rcases hsrc with ⟨rfl, ⟨cp', rfl, rfl, rfl⟩ | ⟨ad, cp', rfl, hcell⟩⟩ | ⟨hu', hs1, st, rfl, hst, hnw⟩
              · omega
              · have hr := run_append_grow (P := P) w t o.type ty i z hu hi hz ⟨r, 0, none⟩ n' cp (cur.toList.take (n' * te.size)) hol hcut ad m' cp' news hnl hcell (by omega) (by rw [Int.natCast_add]; exact hb2) (growslice_fits (by omega) (by rw [hby]; exact hb1))
                exact fresh (n' := n') (old := cp) hn' hro (by rw [hol, hsz]) rfl hmx hr
              · subst hst hnw
                have hr := Lib.run_append_grow_string (P := P) w t t' o.type ty i z hu hu' hi hz ⟨r, 0, none⟩ n' cp (cur.toList.take (n' * te.size)) hol hcut st (by omega) (by rw [Int.natCast_add]; exact hb2) (growslice_fits (by omega) (by rw [hby]; exact hb1))
                exact fresh (n' := n') (old := cp) hn' hro (by rw [hol, hsz]) rfl hmx hr
        · exact h.elim
  · exact h.elim

theorem lop_append (hT : TOK P T) {cl : Call} {x y : LV} {t e : Nat} {ti te : TI} (ho : o.op = .call cl) (hcl : cl.callee = .builtin .append) (hargs : eva s cl.args.toList = [x, y]) (hty : cl.argTypes = #[t, t]) (ht : lget T t = some ti) (hk : ti.kind = .slice e) (hte : lget T e = some te)
    (hs : St c s a w) (h : appendL s e te x y fun r s' => K (s'.put o.dst r)) : o.wp P a w (Post K c w) Q := by
  obtain ⟨v, u, hv, hx, hy⟩ := args2 hs hargs
  unfold appendL at h
  split at h
  · rename_i hok hlen hpos
    have hpos := Nat.le_of_ble_eq_true hpos
    have hlen := Nat.eq_of_beq_eq_true hlen
    rw [llen_eq, pvs_length] at hlen
    obtain ⟨sb, b, m, m', news, h, hm, hsrc, hrelb, hnl, hmm⟩ := newCells_sound hs hy hpos h
    exact appendC_sound hT ho hcl hv hx hty ht hk hte hs hlen hpos hm (.inl ⟨rfl, hsrc⟩) hrelb hnl hmm h
  · exact h.elim
theorem bytesPV_rel (s : ByteArray) : Rel2 c w (pvs (bytesPV s)) (Lib.strCells s) := by
  refine ⟨by rw [pvs_length, bytesPV, List.length_map, Lib.strCells, List.length_map], fun j u hu => ?_⟩
  rw [pvs_get, bytesPV, List.getElem?_map] at hu
  rw [Lib.strCells, List.getElem?_map]
  cases e : s.data.toList[j]? with
  | none => rw [e] at hu; cases hu
  | some d => rw [e] at hu; cases hu; exact ⟨_, rfl, .p _ _ (.int _ _ _ rfl)⟩
theorem lop_appendS (hT : TOK P T) {cl : Call} {x y : LV} {t t' e : Nat} {ti te : TI} (ho : o.op = .call cl) (hcl : cl.callee = .builtin .append) (hargs : eva s cl.args.toList = [x, y]) (hty : cl.argTypes = #[t, t']) (ht : lget T t = some ti) (hk : ti.kind = .slice e) (hk' : tkOf T t' = .str) (hte : lget T e = some te)
    (hs : St c s a w) (h : appendS s e te x y fun r s' => K (s'.put o.dst r)) : o.wp P a w (Post K c w) Q := by
  obtain ⟨v, u, hv, hx, hy⟩ := args2 hs hargs
  have hu' : P.underlying t' = some .string := by
    unfold tkOf at hk'
    split at hk'
    · rename_i tu htu
      obtain ⟨d, h1, h2⟩ := tok_under (hT t' tu htu)
      rw [hk'] at h2
      cases d <;> first | exact h2.elim | exact h1
    · cases hk'
  unfold appendS at h
  split at h
  · rename_i hu8
    have hsz : te.size = 1 ∧ te.zero.length = 1 := by
      unfold isU8 at hu8
      split at hu8
      · split at hu8
        · split at hu8
          · rename_i h1 h2; exact ⟨Nat.eq_of_beq_eq_true h1, by rw [h2]; rfl⟩
          · cases hu8
        · cases hu8
      · cases hu8
    split at h
    · rename_i z
      obtain ⟨hmx, h⟩ := need h
      have hmx : (z ()).size ≤ maxLen := by unfold maxLen; omega
      have h := upd h
      obtain ⟨m, hm, h⟩ := sum h
      cases hy with
      | p _ _ hp =>
        cases hp
        have hl : (Lib.strCells (z ())).length = (z ()).size := Lib.strCells_length _
        exact appendC_sound hT ho hcl hv hx hty ht hk hte hs (by omega) (by omega) hm (.inr ⟨hu', hsz.1, _, rfl, rfl, rfl⟩) (bytesPV_rel _) (by rw [hl, hsz.1, Nat.mul_one]) hmx h
    · exact h.elim
  · exact h.elim

/-! ### New rows, and how much room there is -/
theorem repsP_get {z : List PV} (hz : 1 ≤ z.length) : ∀ (n j : Nat) (u : PV), (repsP z n)[j]? = some u → j < n * z.length ∧ z[j % z.length]? = some u
  | 0, j, u, h => by simp [repsP] at h
  | n + 1, j, u, h => by
    rw [repsP] at h
    by_cases h1 : j < z.length
    · rw [List.getElem?_append_left h1] at h
      rw [Nat.mod_eq_of_lt h1]
      exact ⟨by rw [Nat.add_mul]; omega, h⟩
    · rw [List.getElem?_append_right (by omega)] at h
      obtain ⟨h2, h3⟩ := repsP_get hz n _ u h
      refine ⟨by rw [Nat.add_mul]; omega, ?_⟩
      rw [← h3, show j = (j - z.length) + z.length by omega]
      simp
theorem repsP_length (z : List PV) : ∀ n, (repsP z n).length = n * z.length
  | 0 => by simp [repsP]
  | n + 1 => by rw [repsP, List.length_append, repsP_length z n, Nat.add_mul]; omega
theorem made {z : List PV} {m : I} {L : Bool → List PV → Prop} (h : madeL z m L) : ∃ sy, L sy (repsP z m.val.toNat) := by
  unfold madeL at h
  split at h
  · split at h
    · exact ⟨_, h⟩
    · exact ⟨_, upd h⟩
  · exact ⟨_, upd h⟩
theorem lop_makeSlice (hT : TOK P T) {t e : TypeId} {len cap : Operand} {ti te : TI} {kn km : IntKind} {n m : I} (ht : lget T t = some ti) (hk : ti.kind = .slice e) (hte : lget T e = some te) (hzl : Nat.beq (llen (pvs te.zero)) te.size = true) (hpos : Nat.ble 1 te.size = true)
    (hn : ev s len = .p (.int kn n)) (hm : ev s cap = .p (.int km m)) (ho : o.op = .makeSlice t len cap) (hs : St c s a w)
    (h : Need (fun _ => 0 ≤ n.val ∧ n.val ≤ m.val ∧ m.val * te.bytes ≤ 140737488355328 ∧ m.val ≤ 9223372036854775807) fun _ => madeL te.zero m fun sy l => K ((s.new (.pure sy l)).put o.dst (.sl s.n e te.size (.lit 0) n))) : o.wp P a w (Post K c w) Q := by
  obtain ⟨⟨h1, h2, h3, h4⟩, h⟩ := need h
  obtain ⟨sy, h⟩ := made h
  obtain ⟨d, hu, hkd⟩ := tok_under (hT t ti ht)
  rw [hk] at hkd
  cases d <;> try exact hkd.elim
  rename_i e'
  have hkd : e = e' := hkd
  subst hkd
  have hpos := Nat.le_of_ble_eq_true hpos
  have hzl := Nat.eq_of_beq_eq_true hzl
  rw [llen_eq, pvs_length] at hzl
  obtain ⟨⟨i, z, _, hi, hsz, hby, hz, hzc, _⟩, hzs⟩ := hT e te hte
  have hzrel : Rel2 c w (pvs te.zero) z.cells.toList := by rw [hzc]; exact zero_rel c w _ hzs
  have hln : a.eval len = .int kn n.val := LR.inv_int (hn ▸ hs.ev len)
  have hlm : a.eval cap = .int km m.val := LR.inv_int (hm ▸ hs.ev cap)
  have hr := run_make (P := P) w t e i z hu hi hz kn km n.val m.val h1 h2 (by rw [hby, Int.mul_comm]; omega) h4
  rw [hsz] at hr
  have hcs : z.cells.size = te.size := by
    have := hzrel.1
    rw [pvs_length, Array.length_toList] at this; omega
  have hnew : (w.alloc (.cells (madeCells z.cells (m.val.toNat * te.size)) e)).heap[w.heap.size]? = some (.cells (madeCells z.cells (m.val.toNat * te.size)) e) := heap_alloc_new w _
  have ea := Ext.alloc hs.hr (.cells (madeCells z.cells (m.val.toNat * te.size)) e)
  have hBR : BR (c.grow (some w.heap.size)) (w.alloc (.cells (madeCells z.cells (m.val.toNat * te.size)) e)) (.pure sy (repsP te.zero m.val.toNat)) (some w.heap.size) := by
    refine ⟨_, e, hnew, by rw [repsP_length, size_madeCells, hzl]; exact Nat.le_refl _, fun j u hj => ?_⟩
    obtain ⟨g1, g2⟩ := repsP_get (by omega) _ j u hj
    rw [hzl] at g1 g2
    obtain ⟨x, g3, g4⟩ := hzrel.2 _ (.p u) (by rw [pvs_get, g2]; rfl)
    have g5 : (madeCells z.cells (m.val.toNat * te.size)).getD j Go.undef = x := by
      have hlt : j % te.size < z.cells.size := by rw [hcs]; exact Nat.mod_lt _ hpos
      rw [Array.getD_eq_getD_getElem?]
      simp only [madeCells]
      rw [Array.getElem?_map, Array.getElem?_range]
      simp only [g1, if_true, Option.map_some, Option.getD_some]
      rw [hcs, getElem!_pos z.cells _ hlt]
      rw [Array.getElem?_toList, Array.getElem?_eq_getElem hlt] at g3
      exact Option.some.inj g3
    rw [g5]
    have g6 := g4.ext hs.hr.fresh ea
    cases g6 with | p _ _ h => exact h
  have hrr : (execOp a.eval o).run P w = .ok (.value (.slice (some ⟨w.heap.size, 0, none⟩) n.val.toNat m.val.toNat)) (w.alloc (.cells (madeCells z.cells (m.val.toNat * te.size)) e)) := by
    unfold execOp; rw [ho]
    refine runv ?_
    rw [hln, hlm]; exact hr
  refine op_world hs hrr ea (hs.hr.alloc _ _ hBR) (show c.N + 1 = s.n + 1 by rw [hs.nn]) (u := .sl s.n e te.size (.lit 0) n) ?_ (by rw [hs.nn]; exact h)
  rw [← hs.nn]
  have hml : m.val.toNat ≤ maxLen := by unfold maxLen; omega
  refine .sl _ _ _ _ _ w.heap.size 0 n.val.toNat m.val.toNat (m.val.toNat * te.size) (grow_new c _) rfl (by omega) (by omega) hml ?_ (by omega)
  rw [World.shape?, hnew]
  simp only [size_madeCells]
theorem capL {l : Unit → Int} {sz : Nat} {L : I → Prop} (h : Cap l sz L) : ∀ z : Int, l () ≤ z * sz → 0 ≤ z → L (.sym z) := by
  cases h with | mk h => exact h
theorem lop_cap (hT : TOK P T) {cl : Call} {x : LV} {t : Nat} {ti : TI} (ho : o.op = .call cl) (hcl : cl.callee = .builtin .cap) (hargs : eva s cl.args.toList = [x]) (hty : cl.argTypes.toList[0]? = some t) (ht : lget T t = some ti) (hs : St c s a w)
    (h : match ti.kind, x with
            | .slice _, .sl b _ sz o' _ => match hget s.h b with
              | some B => match o' with
                | .lit j => match decide (j = 0) with
                  | true => Cap (fun _ => lenB B) sz fun z => K (s.put o.dst (.p (.int .i64 z)))
                  | false => False
                | _ => False
              | none => False
            | _, _ => False) : o.wp P a w (Post K c w) Q := by
  obtain ⟨v, hv, hx⟩ := args1 hs hargs
  obtain ⟨d, hu, hkd⟩ := tok_under (hT t ti ht)
  have hty' : cl.argTypes[0]? = some t := by simpa using hty
  split at h
  · rename_i e b e' sz o' n hk
    rw [hk] at hkd
    cases d <;> try exact hkd.elim
    cases hB : hget s.h b with
    | none => rw [hB] at h; exact h.elim
    | some B =>
      rw [hB] at h
      cases o' with
      | sym j => exact h.elim
      | lit j =>
        dsimp only at h
        cases hj0 : decide (j = 0) with
        | false => rw [hj0] at h; exact h.elim
        | true =>
          rw [hj0] at h
          have hj0 := of_decide_eq_true hj0
          have h := capL h
          obtain ⟨m, hm, hBR⟩ := hs.hr.live b B hB
          have hrun : ∀ {ad len cp}, v = .slice ad len cp → (execOp a.eval o).run P w = .ok (.value (.int .i64 cp)) w := by
            intro ad len cp h
            subst h
            refine built_run ho hcl fun cs => ?_
            rw [hv]
            simp [builtin, Builtin.cap_, hty', run_underlying hu, goInt]
          cases hx with
          | goneS _ _ _ _ _ _ _ _ hm' _ => rw [hm] at hm'; cases hm'
          | slv _ _ _ _ _ hm' ho' hn' =>
            rw [hm] at hm'; cases hm'
            exact op_val hs (hrun rfl) (LR.of_int .i64 (.sym 0)) (h 0 (by rw [BR.lenB_none hBR]; simp) (by omega))
          | sl _ _ _ _ _ r j' k' cp tot hm' ho' hn' hk' hc hs' ht' =>
            rw [hm] at hm'; cases hm'
            have hj' : j' = 0 := by rw [hj0] at ho'; simp only [I.val] at ho'; omega
            subst hj'
            have hle := BR.lenB_le hBR hs'
            refine op_val hs (hrun rfl) (LR.of_int .i64 (.sym (cp : Int))) (h cp ?_ (by omega))
            have : lenB B ≤ cp * sz := by omega
            exact_mod_cast this
  · exact h.elim
/-! ### What is cleared -/
theorem zeroCells_rel {z : Value} {zs : List PV} {sz : Nat} (n : Nat) (hr : Rel2 c w (pvs zs) z.cells.toList) (hl : zs.length = sz) (hp : 1 ≤ sz) : Rel2 c w (pvs (repsP zs n)) (Builtin.zeroCells z.cells n).toList := by
  have hcs : z.cells.size = sz := by
    have := hr.1
    rw [pvs_length] at this; simp at this; omega
  refine ⟨by rw [pvs_length, repsP_length, hl]; simp [Builtin.zeroCells, hcs], fun j u hj => ?_⟩
  rw [pvs_get] at hj
  cases e : (repsP zs n)[j]? with
  | none => rw [e] at hj; cases hj
  | some v =>
    rw [e] at hj; cases hj
    obtain ⟨g1, g2⟩ := repsP_get (by omega) _ j v e
    rw [hl] at g1 g2
    obtain ⟨x, g3, g4⟩ := hr.2 _ (.p v) (by rw [pvs_get, g2]; rfl)
    refine ⟨x, ?_, g4⟩
    have hlt : j % sz < z.cells.size := by rw [hcs]; exact Nat.mod_lt _ hp
    rw [Array.getElem?_toList]
    simp only [Builtin.zeroCells]
    rw [Array.getElem?_map, Array.getElem?_range]
    rw [hcs]
    simp only [g1, if_true, Option.map_some]
    rw [getElem!_pos z.cells _ hlt]
    rw [Array.getElem?_toList, Array.getElem?_eq_getElem hlt] at g3
    exact g3
theorem lop_clear (hT : TOK P T) {cl : Call} {x : LV} {t e : Nat} {ti te : TI} (ho : o.op = .call cl) (hcl : cl.callee = .builtin .clear) (hargs : eva s cl.args.toList = [x]) (hty : cl.argTypes.toList[0]? = some t) (ht : lget T t = some ti) (hk : ti.kind = .slice e) (hte : lget T e = some te) (hs : St c s a w)
    (h : clearL s te x fun s' => K (s'.put o.dst (.tup []))) : o.wp P a w (Post K c w) Q := by
  obtain ⟨v, hv, hx⟩ := args1 hs hargs
  obtain ⟨d, hu, hkd⟩ := tok_under (hT t ti ht)
  rw [hk] at hkd
  cases d <;> try exact hkd.elim
  rename_i e'
  have hkd : e = e' := hkd
  subst hkd
  have hty' : cl.argTypes[0]? = some t := by simpa using hty
  obtain ⟨⟨i, z, _, hi, hsz, hby, hz, hzc, _⟩, hzs⟩ := hT e te hte
  have hzrel : Rel2 c w (pvs te.zero) z.cells.toList := by rw [hzc]; exact zero_rel c w _ hzs
  have hrun : ∀ {w'}, (Builtin.clear_ cl.argTypes o.type #[v]).run P w = .ok (.tuple #[]) w' → (execOp a.eval o).run P w = .ok (.value (.tuple #[])) w' := by
    intro w' h
    refine built_run ho hcl fun cs => ?_
    rw [hv]
    simp [builtin, h]
  have hT0 : ∀ c' w', LR c' w' (.tup []) (.tuple #[]) := fun _ _ => .tup _ _ rfl (fun j u h => by simp at h)
  have hno : ∀ (ad : Option Addr) (cp : Nat), v = .slice ad 0 cp → (execOp a.eval o).run P w = .ok (.value (.tuple #[])) w := by
    intro ad cp h
    subst h
    refine hrun ?_
    cases ad <;> simp [Builtin.clear_, hty', run_underlying hu]
  unfold clearL at h
  split at h
  · rename_i hzl hpos
    have hpos := Nat.le_of_ble_eq_true hpos
    have hzl := Nat.eq_of_beq_eq_true hzl
    rw [llen_eq, pvs_length] at hzl
    split at h
    · cases hx with
      | p _ _ h' => cases h' with | nils => exact op_val hs (hno _ _ rfl) (hT0 _ _) h
    · obtain ⟨h0, h⟩ := need h
      cases hx with
      | p _ _ h' =>
        cases h' with
        | vsl0 _ _ _ _ _ _ _ => exact op_val hs (hno _ _ rfl) (hT0 _ _) h
        | vsl _ _ _ _ k _ _ hk0 _ _ _ _ _ _ _ =>
          obtain rfl : k = 0 := by omega
          exact op_val hs (hno _ _ rfl) (hT0 _ _) h
    · rename_i b e2 sz o' n
      split at h
      · rename_i sy l hbq hB
        have hbq := Nat.eq_of_beq_eq_true hbq
        subst hbq
        obtain ⟨⟨h1, h2, h3⟩, h⟩ := need h
        have h := upd h
        obtain ⟨m, hm, hBR⟩ := hs.hr.live b _ hB
        have hzero : n.val.toNat = 0 → BR c w (.pure true (updL l o'.val.toNat (repsP te.zero n.val.toNat))) m := by
          intro e0
          rw [e0, show updL l o'.val.toNat (repsP te.zero 0) = l from rfl]
          cases m <;> exact hBR
        cases hx with
        | goneS _ _ _ _ _ _ _ _ hm' _ => rw [hm] at hm'; cases hm'
        | slv _ _ _ _ _ hm' ho' hn' => exact op_world hs (hno _ _ rfl) (Ext.refl hs.hr) (hs.hr.reset hB hm (hzero (by omega))) hs.nn (hT0 _ _) h
        | sl _ _ _ _ _ r j k cp tot hm' ho' hn' hk' hc hs' ht' =>
          rw [hm] at hm'; cases hm'
          by_cases hk0 : k = 0
          · subst hk0
            exact op_world hs (hno _ _ rfl) (Ext.refl hs.hr) (hs.hr.reset hB hm (hzero (by omega))) hs.nn (hT0 _ _) h
          · have hkn : n.val.toNat = k := by omega
            have hjn : o'.val.toNat = j := by omega
            rw [hkn, hjn] at h
            have hlen : (repsP te.zero k).length = k * te.size := by rw [repsP_length, hzl]
            have hfit : j + (repsP te.zero k).length ≤ l.length := by
              rw [hlen]; rw [ho', hn'] at h3; exact_mod_cast h3
            have hkt : 0 < k * te.size := Nat.mul_pos (by omega) hpos
            have hst : storeB (.pure sy l) (.sym (j : Int)) (pvs (repsP te.zero k)) (fun B => B = .pure true (updL l j (repsP te.zero k))) := by
              unfold storeB
              rw [allOk_pvs, allP_pvs]
              cases sy with
              | false => exact .mk (by show (j : Int) + ((repsP te.zero k).length : Int) ≤ l.length; exact_mod_cast hfit) (.mk fun l' hl => by rw [hl, Int.toNat_natCast])
              | true => exact .mk (by show (j : Int) + ((repsP te.zero k).length : Int) ≤ l.length; exact_mod_cast hfit) (.mk fun l' hl => by rw [hl]; rfl)
            have hrel := zeroCells_rel k hzrel hzl hpos
            obtain ⟨B', cur, ty, g1, hg, g3, _, g5, g6⟩ := storeB_sound hs.hr hB hm hBR (o := .sym (j : Int)) (n := j) rfl hrel (by rw [pvs_length, hlen]; exact hkt) hst
            subst g1
            refine op_world hs (hrun (w' := w.setRow r (over cur.toList j (Builtin.zeroCells z.cells k).toList).toArray) ?_) (Ext.turn hs.hr hm g5) (hs.hr.turn hB hm g5 g6) hs.nn (hT0 _ _) h
            have hst := run_storeCells_at P r j ty (Builtin.zeroCells z.cells k).toList 0 cur w hg (by simpa using g3) (hrel.ones (allOk_pvs _))
            simp only [Nat.add_zero] at hst
            obtain ⟨k', rfl⟩ : ∃ k', k = k' + 1 := ⟨k - 1, by omega⟩
            simp [Builtin.clear_, hty', run_underlying hu, zeroValue, typeInfo, hi, hz, hst, over]
      · exact h.elim
    · exact h.elim
  · exact h.elim
end
end Go.LX
/-
  All operations in one sentence.
-/
namespace Go.LX
open Go

section
variable {P : Program} {T : TT} {o : Oper} {s : LS} {K : LS → Prop} {c : Ctx} {a : Act} {w w' : World} {Q : Exit → Act → World → Prop}

set_option maxHeartbeats 1000000 in
theorem lop_sound (hT : TOK P T) (hs : St c s a w) (h : lop (fun _ => P) (fun _ => T) o s K) : o.wp P a w (Post K c w) Q := by
  unfold lop at h
  split at h
  · rename_i x ho; exact lop_move (.inl ho) hs h
  · rename_i x ho; exact lop_move (.inr ho) hs h
  · rename_i c0 x y ho
    split at h
    · rename_i b hb
      refine lop_pick ho hs hb ?_
      cases b <;> exact h
    · exact h.elim
  · rename_i op t x y t2 ho; exact lop_bin hT ho hs h
  · rename_i op t x ho
    split at h
    · split at h
      · rename_i b hb
        refine lop_not ho hs hb ?_
        cases b <;> exact h
      · exact h.elim
    · split at h
      · rename_i k e hb; exact lop_neg ho hs hb h
      · exact h.elim
    · exact h.elim
  · rename_i x ho; exact lop_nilCheck ho hs h
  · rename_i t ho
    split at h
    · rename_i ti ht
      split at h
      · split at h
        · rename_i l hz; exact lop_allocB hT ht hz ho hs h
        · exact h.elim
      · exact lop_alloc hT ht ho hs h
    · exact h.elim
  · rename_i t x ho
    split at h
    · rename_i hok; exact lop_box ho hs hok h
    · exact h.elim
  · rename_i t parts ho
    split at h
    · rename_i ti ht
      split at h
      · rename_i hk
        split at h
        · rename_i cs hf; exact lop_build hT ht hk ho hs hf h
        · exact h.elim
      · exact h.elim
    · exact h.elim
  · rename_i t len parts ho
    split at h
    · rename_i ti ht
      split at h
      · rename_i e hk
        split at h
        · rename_i te hte
          split at h
          · rename_i h1 h2 h3
            split at h
            · rename_i cs hf
              have h2 := Nat.eq_of_beq_eq_true h2
              rw [llen_eq, pvs_length] at h2
              exact lop_buildSlice hT ht hk hte (Nat.le_of_ble_eq_true h1) ho hs hf h2 (Nat.le_of_ble_eq_true h3) h
            · exact h.elim
          · exact h.elim
        · exact h.elim
      · exact h.elim
    · exact h.elim
  · rename_i t x ho
    split at h
    · rename_i ti ht; exact lop_load hT ht ho hs h
    · exact h.elim
  · rename_i t x y ho
    split at h
    · rename_i ti ht; exact lop_store hT ht ho hs h
    · exact h.elim
  · rename_i t x f ho
    split at h
    · rename_i ti ht
      split at h
      · rename_i fs hk
        split at h
        · rename_i off ft hf
          split at h
          · rename_i tf htf
            split at h
            · rename_i h1; exact lop_fieldAddr hT ht hk hf htf (Nat.le_of_ble_eq_true h1) ho hs h
            · exact h.elim
          · exact h.elim
        · exact h.elim
      · exact h.elim
    · exact h.elim
  · rename_i t x f ho
    split at h
    · rename_i ti ht
      split at h
      · rename_i fs hk
        split at h
        · rename_i off ft hf
          split at h
          · rename_i tf htf
            split at h
            · rename_i l hl
              split at h
              · rename_i vs hg; exact lop_field hT ht hk hf htf ho hs hl hg h
              · exact h.elim
            · exact h.elim
          · exact h.elim
        · exact h.elim
      · exact h.elim
    · exact h.elim
  · rename_i t x y ho
    split at h
    · rename_i ti ht
      split at h
      · rename_i k i hi
        split at h
        · rename_i e hk
          split at h
          · rename_i te hte; exact lop_indexAddr hT ht hk hte hi ho hs h
          · exact h.elim
        · rename_i n e hk
          split at h
          · rename_i te hte
            split at h
            · rename_i b o' hx
              split at h
              · rename_i B hB; exact lop_indexArr hT ht hk hte hi ho hs hx ⟨B, hB⟩ h
              · exact h.elim
            · exact h.elim
          · exact h.elim
        · exact h.elim
      · exact h.elim
    · exact h.elim
  · rename_i t x y ho
    split at h
    · rename_i ti ht
      split at h
      · rename_i hk
        split at h
        · rename_i z k i hx hi; exact lop_index hT ht hk hx hi ho hs h
        · exact h.elim
      · exact h.elim
    · exact h.elim
  · rename_i t x lo hi ho
    split at h
    · rename_i ti ht
      split at h
      · rename_i hk
        split at h
        · rename_i z hx; exact lop_sliceStr hT ht hk hx ho hs h
        · exact h.elim
      · rename_i e hk
        split at h
        · rename_i te hte; exact lop_sliceSl hT ht hk hte ho hs h
        · exact h.elim
      · exact h.elim
    · exact h.elim
  · rename_i src dst x ho
    split at h
    · rename_i ts ti hts ht
      split at h
      · rename_i k hk
        split at h
        · rename_i k' e hev; exact lop_convInt hT hts ht ho hs hk h hev
        · exact h.elim
      · rename_i hk
        split at h
        · rename_i k' e hev; exact lop_convRune hT hts ht ho hs hk hev h
        · rename_i z hev; exact lop_convStr hT hts ht ho hs hk hev h
        · exact lop_convBytes hT hts ht ho hs hk h
      · exact h.elim
    · exact h.elim
  · rename_i t len cap ho
    split at h
    · rename_i ti ht
      split at h
      · rename_i e hk
        split at h
        · rename_i te hte
          split at h
          · rename_i h1 h2
            split at h
            · rename_i kn n km m hn hm; exact lop_makeSlice hT ht hk hte h1 h2 hn hm ho hs h
            · exact h.elim
          · exact h.elim
        · exact h.elim
      · exact h.elim
    · exact h.elim
  · rename_i t x ho
    split at h
    · rename_i ti ht
      split at h
      · exact h.elim
      · rename_i hk; exact lop_makeInterface hT ht hk ho hs h
    · exact h.elim
  · rename_i x xt t ok ho
    split at h
    · split at h
      · rename_i ti ht
        split at h
        · exact h.elim
        · rename_i hk; exact lop_typeAssert hT ht hk ho hs h
      · exact h.elim
    · exact h.elim
  · rename_i x i ho
    split at h
    · rename_i l hl
      split at h
      · rename_i v hv; exact lop_extract ho hs hl hv h
      · exact h.elim
    · exact h.elim
  · rename_i t x ho
    split at h
    · rename_i ti ht
      split at h
      · rename_i z hk hx; exact lop_range hT ht hk hx ho hs h
      · exact h.elim
    · exact h.elim
  · rename_i x isS ho
    split at h
    · split at h
      · rename_i b m hx
        split at h
        · rename_i z pos hB
          split at h
          · rename_i h0; exact lop_next ho hs (of_decide_eq_true h0) hx hB h
          · exact h.elim
        · exact h.elim
      · exact h.elim
    · exact h.elim
  · rename_i fn first cap ho
    split at h
    · rename_i f hf; exact lop_makeFunc ho hf hs h
    · exact h.elim
  · rename_i cl ho
    split at h
    · rename_i f hcl; exact lop_call ho hcl hs h
    · rename_i b hcl
      split at h
      · rename_i x hargs
        split at h
        · rename_i t hty
          split at h
          · rename_i ti ht; exact lop_len hT ho hcl hargs hty ht hs h
          · exact h.elim
        · exact h.elim
      · rename_i x y hargs
        split at h
        · rename_i t u hty
          split at h
          · rename_i ti ht htu
            have htu := Nat.eq_of_beq_eq_true htu
            subst htu
            split at h
            · rename_i e hk
              split at h
              · rename_i te hte
                exact lop_append hT ho hcl hargs (by cases h0 : cl.argTypes; rw [h0] at hty; simp at hty; rw [hty]) ht hk hte hs h
              · exact h.elim
            · exact h.elim
          · rename_i ti ht htu
            split at h
            · rename_i e hk hk'
              split at h
              · rename_i te hte
                exact lop_appendS hT ho hcl hargs (by cases h0 : cl.argTypes; rw [h0] at hty; simp at hty; rw [hty]) ht hk hk' hte hs h
              · exact h.elim
            · exact h.elim
          · exact h.elim
        · exact h.elim
      · rename_i x hargs
        split at h
        · rename_i t hty
          split at h
          · rename_i ti ht; exact lop_cap hT ho hcl hargs hty ht hs h
          · exact h.elim
        · exact h.elim
      · rename_i k x k' y hargs; exact lop_min ho hcl hargs hs h
      · rename_i k x k' y hargs; exact lop_max ho hcl hargs hs h
      · rename_i x hargs
        split at h
        · rename_i t hty
          split at h
          · rename_i ti ht
            split at h
            · rename_i e hk
              split at h
              · rename_i te hte; exact lop_clear hT ho hcl hargs hty ht hk hte hs h
              · exact h.elim
            · exact h.elim
          · exact h.elim
        · exact h.elim
      · exact h.elim
    · exact h.elim
  · exact h.elim
end
end Go.LX
/-
  Code does in the model what the calculus says of it; and so do calls.
-/
namespace Go.LX
open Go

section
variable {P : Program} {T : TT} {c : Ctx} {a : Act} {w w' : World}

theorem onth_eq : ∀ (l : List Oper) (i : Nat), onth l i = l[i]?
  | [], i => by cases i <;> rfl
  | x :: l, 0 => rfl
  | x :: l, i + 1 => by rw [onth, onth_eq l i]; rfl
theorem wanted_bool {ops : Array Oper} {o : Oper} {j : Nat} {want b : Bool} {t : Array Value} (hg : o.guard = some (j, want)) (h : ((ops[j]?).bind (·.dst)).bind (t[·]?) = some (.bool b)) :
    Region.wanted o (yielded ops t) = (b == want) := by
  unfold Region.wanted yielded
  rw [hg]
  simp [h]
theorem wanted_no {ops : Array Oper} {o : Oper} {j : Nat} {want : Bool} {t : Array Value} (hg : o.guard = some (j, want)) (h : ∀ b, ((ops[j]?).bind (·.dst)).bind (t[·]?) ≠ some (.bool b)) :
    Region.wanted o (yielded ops t) = false := by
  unfold Region.wanted yielded
  rw [hg]
  dsimp only
  split
  · rename_i b hb; exact absurd hb (h b)
  · rfl
theorem yes_sound {s : LS} {ops : Array Oper} {o : Oper} {b : Bool} (hs : St c s a w) (h : yes s ops.toList o.guard = some b) : Region.wanted o (yielded ops a.tmps) = b := by
  cases hg : o.guard with
  | none => rw [hg] at h; simp [yes] at h; subst h; simp [Region.wanted, hg]
  | some p =>
    obtain ⟨j, want⟩ := p
    rw [hg] at h
    simp only [yes, onth_eq] at h
    have hj : ops.toList[j]? = ops[j]? := by simp
    rw [hj] at h
    cases e : ops[j]? with
    | none => rw [e] at h; simp at h; subst h; exact wanted_no hg (by intro b; rw [e]; simp)
    | some q =>
      rw [e] at h
      dsimp only at h
      cases e2 : q.dst with
      | none => rw [e2] at h; simp at h; subst h; exact wanted_no hg (by intro b; rw [e]; simp [e2])
      | some d =>
        rw [e2] at h
        dsimp only at h
        have hv := hs.slot d
        have hin : ∀ {u}, tget s.t d = u → u ≠ .undef → ((ops[j]?).bind (·.dst)).bind (a.tmps[·]?) = some (a.tmps.getD d undef) := by
          intro u hu hne
          rw [tget_eq, List.getD_eq_getElem?_getD] at hu
          have : d < s.t.length := by
            rcases Nat.lt_or_ge d s.t.length with h1 | h1
            · exact h1
            · rw [List.getElem?_eq_none h1] at hu; exact absurd hu.symm hne
          rw [hs.tl] at this
          rw [e, Array.getD_eq_getD_getElem?]
          simp [e2, this]
        split at h
        · rename_i cb hcb
          have h1 := hin hcb (by intro h; cases h)
          rw [hcb] at hv
          rw [hv.inv_bool] at h1
          rw [wanted_bool hg h1]
          cases want <;> cases cb <;> simp at h <;> subst h <;> rfl
        · rename_i hcb
          have h1 := hin hcb (by intro h; cases h)
          rw [hcb] at hv
          have hu : a.tmps.getD d undef = undef := by
            generalize a.tmps.getD d undef = v at hv
            cases hv; rfl
          rw [hu] at h1
          simp at h; subst h
          exact wanted_no hg (by intro b; rw [h1]; intro h; cases h)
        · cases h

theorem lops_sound (hT : TOK P T) {ops : Array Oper} {K : LS → Prop} {c0 : Ctx} {w0 : World} {Q : Exit → Act → World → Prop} (hQ : ∀ a' w', Post K c0 w0 a' w' → Q .normal a' w') : ∀ (m k : Nat) {s : LS} {c : Ctx} {a : Act} {w : World}, k + m = ops.size → Ext c0 w0 c w → St c s a w → lops (fun _ => P) (fun _ => T) ops.toList (ops.toList.drop k) s K →
    wpOps P ops Q (List.range' k m) a w
  | 0, k, s, c, a, w, hk, he, hs, h => by
    have : ops.toList.drop k = [] := List.drop_eq_nil_of_le (by simp; omega)
    rw [this] at h
    exact hQ _ _ ⟨c, s, h, hs, he⟩
  | m + 1, k, s, c, a, w, hk, he, hs, h => by
    have hlt : k < ops.toList.length := by simp; omega
    rw [List.drop_eq_getElem_cons hlt] at h
    rw [List.range'_succ, wpOps]
    have ho : ops[k]? = some ops.toList[k] := by simp at hlt; simp [hlt]
    rw [ho]
    dsimp only
    rw [lops] at h
    split at h
    · rename_i cb hy
      have hw := yes_sound hs hy
      cases cb with
      | true =>
        rw [if_pos hw]
        left
        have h1 := lop_sound (Q := Q) hT hs h
        refine Oper.wp_mono (fun a' w' hp => ?_) h1
        obtain ⟨c', s', hK, hs', he'⟩ := hp
        exact lops_sound hT hQ m (k + 1) (by omega) (he.trans he') hs' hK
      | false =>
        rw [if_neg (by rw [hw]; simp)]
        exact lops_sound hT hQ m (k + 1) (by omega) he (hs.put .nul _) h
    · exact h.elim

def PostE (K : Exit → LS → Prop) (c : Ctx) (w : World) (e : Exit) (a' : Act) (w' : World) : Prop := ∃ c' s', K e s' ∧ St c' s' a' w' ∧ Ext c w c' w'

theorem lcode_sound (hT : TOK P T) {c0 : Ctx} {w0 : World} (n0 : Nat) (hn0 : c0.N = n0) : ∀ (cd : Code) {s : LS} {K : Exit → LS → Prop} {c : Ctx} {a : Act} {w : World}, Ext c0 w0 c w → St c s a w → lcode (fun _ => P) (fun _ => T) n0 cd s K → cd.wp P (PostE K c0 w0) a w
  | .skip, s, K, c, a, w, he, hs, h => wp_skip ⟨c, s, h, hs, he⟩
  | .label _, s, K, c, a, w, he, hs, h => wp_label ⟨c, s, h, hs, he⟩
  | .exit _, s, K, c, a, w, he, hs, h => wp_exit ⟨c, s, h, hs, he⟩
  | .ret, s, K, c, a, w, he, hs, h => wp_ret ⟨c, s, h, hs, he⟩
  | .region _ ops d, s, K, c, a, w, he, hs, h => by
    cases d with
    | false =>
      refine wp_region ?_
      rw [List.range_eq_range']
      refine lops_sound hT (c0 := c0) (w0 := w0) (K := fun s' => K .normal s') (fun a' w' hp => ?_) ops.size 0 (by omega) he hs (by rw [List.drop_zero]; exact h)
      obtain ⟨c', s', hK, hs', he'⟩ := hp
      exact ⟨c', s', hK, hs', he'⟩
    | true =>
      refine wp_region_draw fun t => ?_
      obtain ⟨e1, r1⟩ := hs.hr.same (w' := { w with drawn := w.drawn + 1 }) rfl rfl rfl rfl
      have hs1 : St c s a { w with drawn := w.drawn + 1 } := ⟨hs.tl, fun i u hu => (hs.tr i u hu).ext hs.hr.fresh e1, hs.df, r1, hs.nn⟩
      cases h with
      | mk h =>
        refine h c a _ t _ hs1 (fun a' w' hp => ?_)
        obtain ⟨c', s', hK, hs', he'⟩ := hp
        exact ⟨c', s', hK, hs', he.trans (e1.trans he')⟩
  | .seq x y, s, K, c, a, w, he, hs, h => by
    refine wp_seq (wp_mono (lcode_sound hT n0 hn0 x he hs h) fun e a' w' hp => ?_)
    obtain ⟨c', s', hK, hs', he'⟩ := hp
    cases e with
    | normal => exact lcode_sound hT n0 hn0 y he' hs' hK
    | exit j => exact ⟨c', s', hK, hs', he'⟩
    | ret => exact ⟨c', s', hK, hs', he'⟩
    | goto l => exact hK.elim
    | panic ch => exact hK.elim
    | outgrown => exact hK.elim
  | .cond co x y, s, K, c, a, w, he, hs, h => by
    rw [lcode] at h
    split at h
    · rename_i b hb
      have hv : a.eval co = .bool b := LR.inv_bool (hb ▸ hs.ev co)
      cases b with
      | true => exact wp_cond_true hv (lcode_sound hT n0 hn0 x he hs h)
      | false => exact wp_cond_false hv (lcode_sound hT n0 hn0 y he hs h)
    · exact h.elim
  | .block id x, s, K, c, a, w, he, hs, h => by
    refine wp_block (wp_mono (lcode_sound hT n0 hn0 x he hs h) fun e a' w' hp => ?_)
    obtain ⟨c', s', hK, hs', he'⟩ := hp
    cases e with
    | normal => exact ⟨c', s', hK, hs', he'⟩
    | exit j =>
      show if j = id then _ else _
      dsimp only at hK
      by_cases hj : j = id
      · rw [if_pos hj]
        subst hj
        rw [Nat.beq_refl] at hK
        exact ⟨c', s', hK, hs', he'⟩
      · rw [if_neg hj]
        rw [nbeq hj] at hK
        exact ⟨c', s', hK, hs', he'⟩
    | ret => exact ⟨c', s', hK, hs', he'⟩
    | goto l => exact hK.elim
    | panic ch => exact hK.elim
    | outgrown => exact hK.elim
  | .loop x, s, K, c, a, w, he, hs, h => by
    cases h with
    | mk V k0 s0 h0 hv hr =>
      obtain ⟨h0⟩ := h0
      obtain ⟨c', he', hs'⟩ := h0 c0 w0 c a w hn0 he hs
      refine wp_loop_ghost (fun n a w => ∃ s c, V n s ∧ Ext c0 w0 c w ∧ St c s a w) k0 ⟨s0, c', hv, he', hs'⟩ fun n a w hI => ?_
      obtain ⟨s1, c1, hv1, he1, hs1⟩ := hI
      refine wp_mono (lcode_sound hT n0 hn0 x he1 hs1 (hr n s1 hv1)) fun e a' w' hp => ?_
      obtain ⟨c2, s2, hK, hs2, he2⟩ := hp
      cases e with
      | normal =>
        obtain ⟨k3, s3, hm3, hre, hv3⟩ := hK
        obtain ⟨hre⟩ := hre
        obtain ⟨c3, he3, hs3⟩ := hre c0 w0 c2 a' w' hn0 he2 hs2
        exact ⟨k3, hm3, s3, c3, hv3, he3, hs3⟩
      | exit j => exact ⟨c2, s2, hK, hs2, he2⟩
      | ret => exact ⟨c2, s2, hK, hs2, he2⟩
      | goto l => exact ⟨c2, s2, hK, hs2, he2⟩
      | panic ch => exact ⟨c2, s2, hK, hs2, he2⟩
      | outgrown => exact ⟨c2, s2, hK, hs2, he2⟩
  | .rangeFunc _ _ _ _, s, K, c, a, w, he, hs, h => h.elim
  | .scope _, s, K, c, a, w, he, hs, h => h.elim
  | .goto _, s, K, c, a, w, he, hs, h => h.elim
  | .refuse _, s, K, c, a, w, he, hs, h => h.elim

theorem undefs_length : ∀ n, (undefs n).length = n
  | 0 => rfl
  | n + 1 => by simp [undefs, undefs_length n]
theorem undefs_get : ∀ (n i : Nat) (u : LV), (undefs n)[i]? = some u → u = .undef
  | 0, i, u, h => by simp [undefs] at h
  | n + 1, 0, u, h => by simp [undefs] at h; exact h.symm
  | n + 1, i + 1, u, h => by simp [undefs] at h; exact undefs_get n i u h

def resF (t : Array Value) : ResultVar → Sem Value
  | .tmp x => pure (t.getD x undef)
  | .cell x ty => do loadVar ty (← asAddr (t.getD x undef))
theorem results_eq (fn : Func) (t : Array Value) : results fn t = (do let vs ← fn.results.mapM (resF t); pure (if h : vs.size = 1 then vs[0] else .tuple vs)) := by
  unfold results
  congr 2
theorem lres_sound (hT : TOK P T) {s : LS} (hs : St c s a w) : ∀ (l : List ResultVar) {L : List LV → Prop}, lres (fun _ => T) s l L → ∃ us vs, (l.mapM (resF a.tmps)).run P w = .ok vs w ∧ Rel2 c w us vs ∧ L us
  | [], L, h => ⟨[], [], by simp, Rel2.nil, h⟩
  | .tmp t :: l, L, h => by
    obtain ⟨us, vs, h1, h2, h3⟩ := lres_sound hT hs l h
    exact ⟨_, a.tmps.getD t undef :: vs, by simp [List.mapM_cons, resF, h1], Rel2.cons (hs.slot t) h2, h3⟩
  | .cell x t :: l, L, h => by
    have hx := hs.slot x
    rw [lres] at h
    split at h
    · rename_i b o' hev
      rw [hev] at hx
      split at h
      · rename_i B ti hB ht
        obtain ⟨r, k, hm, hk, hv⟩ := live_ptr hs hx hB
        obtain ⟨m, hm', hBR⟩ := hs.hr.live b B hB
        rw [hm] at hm'; cases hm'
        obtain ⟨u, y, h1, h2, h3⟩ := loadB_sound (hT t ti ht) hBR hk h
        obtain ⟨us, vs, h4, h5, h6⟩ := lres_sound hT hs l h3
        exact ⟨_, y :: vs, by simp [List.mapM_cons, resF, hv, asAddr, h1, h4], Rel2.cons h2 h5, h6⟩
      · exact h.elim
    · exact h.elim

theorem callF_of_body (hT : TOK P T) {f : Nat} {fn : Func} {cd : Code} {args : List LV} {h : LH} {n : Nat} {K : LV → LH → Nat → Prop} (hf : P.funcs[f]? = some fn) (hname : (fn.name == "runtime.NumGoroutine") = false) (hb : fn.body = some cd)
    {rs : List ResultVar} {nt : Nat} (hrs : fn.results.toList = rs) (hnt : fn.ntmps = nt) (hbody : lbody (fun _ => P) (fun _ => T) cd rs nt args h n K) : CallF (fun _ => P) f args h n K := by
  refine .mk ⟨fn, cd, hf, hname, hb⟩ fun c w xs hr hN hl hrel => ?_
  refine calls_of_wp hf hb ?_
  subst hrs hnt
  unfold lbody at hbody
  have hs : St c ⟨args ++ undefs (fn.ntmps - llen args), h, n⟩ { tmps := xs ++ Array.replicate (fn.ntmps - xs.size) undef, defers := [] } w := by
    refine ⟨by simp [undefs_length, llen_eq, hl], fun i u hu => ?_, rfl, hr, hN⟩
    dsimp only at hu ⊢
    by_cases hi : i < args.length
    · rw [List.getElem?_append_left hi] at hu
      have := hrel i u hu
      rw [Array.getD_eq_getD_getElem?] at this ⊢
      rw [Array.getElem?_append_left (by omega)]
      exact this
    · rw [List.getElem?_append_right (by omega)] at hu
      rw [undefs_get _ _ _ hu]; exact .undef _
  refine wp_mono (lcode_sound hT n hN cd (Ext.refl hr) hs hbody) fun e a' w' hp => ?_
  obtain ⟨c', s', hK, hs', he'⟩ := hp
  have fin : lres (fun _ => T) s' fn.results.toList (fun rs => RetF n rs s'.h s'.n K) → a'.defers = [] ∧ ∃ v, (results fn a'.tmps).run P w' = .ok v w' ∧
      (fun (e : Ending) w' => ∃ (c' : Ctx) (r : LV) (v : Value) (h' : LH) (n' : Nat), e = .returned v ∧ K r h' n' ∧ HR c' w' h' ∧ c'.N = n' ∧ LR c' w' r v ∧ Ext c w c' w') (.returned v) w' := by
    intro hres
    refine ⟨hs'.df, ?_⟩
    obtain ⟨us, vs, h1, h2, h3⟩ := lres_sound hT hs' _ hres
    obtain ⟨rs', h', n', ⟨hre⟩, hlr, hk⟩ := h3
    have hs2 : St c' ⟨us, s'.h, s'.n⟩ { tmps := vs.toArray, defers := [] } w' := ⟨by simpa using h2.1, fun i u hu => (Rel2.getD (x := vs.toArray) (by simpa using h2)).2 i u hu, rfl, hs'.hr, hs'.nn⟩
    obtain ⟨c2, he2, hs3⟩ := hre c w c' _ w' hN he' hs2
    refine ⟨if h : vs.toArray.size = 1 then vs.toArray[0] else .tuple vs.toArray, ?_, c2, one rs', _, h', n', rfl, hk, hs3.hr, hs3.nn, ?_, he2⟩
    · rw [results_eq, Sem.run_bind, Array.mapM_eq_mapM_toList, Sem.run_map, h1]
      rfl
    · have hr3 : Rel2 c2 w' rs' vs := by
        have := Rel2.ofD hs3.tl hs3.tr
        simpa using this
      cases rs' with
      | nil =>
        have : vs = [] := List.eq_nil_of_length_eq_zero hr3.1.symm
        subst this
        exact .tup [] #[] rfl (fun j u hu => by simp at hu)
      | cons u rs =>
        obtain ⟨y, ys, rfl, h5, h6⟩ := hr3.head
        cases rs with
        | nil =>
          have : ys = [] := List.eq_nil_of_length_eq_zero h6.1.symm
          subst this
          simpa [one] using h5
        | cons u2 rs =>
          have hne : ¬ (y :: ys).toArray.size = 1 := by
            have := h6.1
            simp at this ⊢
            intro h; rw [h] at this; simp at this
          rw [dif_neg hne]
          exact .tup _ _ (by simpa using hr3.1) (Rel2.getD (x := (y :: ys).toArray) (by simpa using hr3)).2
  cases e with
  | normal => exact fin hK
  | ret => exact fin hK
  | exit j => exact hK.elim
  | goto l => exact hK.elim
  | panic ch => exact hK.elim
  | outgrown => exact hK.elim
end
end Go.LX
