/-
  Layer 7: what objects there are, behind each thing that is done.
-/
import Derived.Test.YtlakoemonbadiaaAa
namespace Go.Proofs.Ytlakoemonbadiaa
open Go Go.LX
set_option maxRecDepth 100000
set_option linter.unusedVariables false
set_option linter.unusedSimpArgs false

theorem set_get {α : Type} {l : List α} {i j : Nat} {x y : α} (hi : i < l.length) (h : (l.set i x)[j]? = some y) : (j = i ∧ y = x) ∨ (j ≠ i ∧ l[j]? = some y) := by
  by_cases e : i = j
  · subst e
    rw [List.getElem?_set_self hi] at h
    exact .inl ⟨rfl, (Option.some.inj h).symm⟩
  · rw [List.getElem?_set_ne e] at h
    exact .inr ⟨fun h => e h.symm, h⟩
/-- How many objects there are. -/
def objCount (R : List Rw) : Nat := (R.map fun e => e.2.count true).sum
theorem sum_set : ∀ (l : List Nat) (i y x : Nat), l[i]? = some x → (l.set i y).sum + x = l.sum + y
  | [], i, y, x, h => by simp at h
  | z :: l, 0, y, x, h => by
    have h : z = x := Option.some.inj h
    subst h
    simp only [List.set_cons_zero, List.sum_cons]; omega
  | z :: l, i + 1, y, x, h => by
    have := sum_set l i y x h
    simp only [List.set_cons_succ, List.sum_cons]; omega
theorem objCount_set {R : List Rw} {i : Nat} {e e' : Rw} (h : R[i]? = some e) : objCount (R.set i e') + e.2.count true = objCount R + e'.2.count true := by
  unfold objCount
  rw [List.map_set]
  exact sum_set _ _ _ _ (by rw [List.getElem?_map, h]; rfl)
theorem count_set {l : List Bool} : ∀ {s : Nat}, l[s]? = some false → (l.set s true).count true = l.count true + 1 := by
  induction l with
  | nil => intro s h; simp at h
  | cons b l ih =>
    intro s h
    cases s with
    | zero =>
      have h : b = false := Option.some.inj h
      subst h
      simp
    | succ s =>
      have := ih (s := s) h
      rw [List.set_cons_succ, List.count_cons, List.count_cons, this]; omega
theorem count_unset {l : List Bool} : ∀ {s : Nat}, l[s]? = some true → (l.set s false).count true + 1 = l.count true := by
  induction l with
  | nil => intro s h; simp at h
  | cons b l ih =>
    intro s h
    cases s with
    | zero =>
      have h : b = true := Option.some.inj h
      subst h
      simp
    | succ s =>
      have := ih (s := s) h
      rw [List.set_cons_succ, List.count_cons, List.count_cons, ← this]; omega
theorem words_of_slots {c : Int} (h : slotsOf c ≠ 0) : wordsOf c ≠ 0 := by
  have := (slots_iff c).1 h
  have : c = 0 ∨ c = 1 ∨ c = 2 ∨ c = 3 := by omega
  rcases this with e | e | e | e <;> (subst e; decide)
theorem slots_le (c : Int) : slotsOf c ≤ 8 := by
  unfold slotsOf; split
  · omega
  · split
    · omega
    · split
      · omega
      · split <;> omega
/-- What an allotted slot changes. -/
theorem alloc_objs {R R' : List Rw} {c i s : Int} (hR : RowsOk R) (h : Alloced R c i s true R') (at_ w : Int) (hat : at_ = 32 * i + s * wordsOf c) (hw : w = wordsOf c) :
    RowsOk R' ∧ R'.length = R.length ∧ objCount R' = objCount R + 1 ∧ ¬ IsObj R at_ ∧ ∀ a v, ObjAt R' a v ↔ ObjAt R a v ∨ (a = at_ ∧ v = w) := by
  have hRn : ∀ {q : Nat} {e : Rw} {s : Nat}, R[q]? = some e → e.2[s]? = some true → wordsOf e.1 ≠ 0 ∧ s < slotsOf e.1 := by
    intro q e s he hs
    have hne : e.2 ≠ [] := by intro e0; rw [e0] at hs; simp at hs
    obtain ⟨h1, h2, _⟩ := (hR e (List.mem_of_getElem? he)).2 hne
    exact ⟨h1, by have := (List.getElem?_eq_some_iff.1 hs).1; omega⟩
  have hnot : ∀ {e0 : Rw} {i s : Nat}, wordsOf c ≠ 0 → s < slotsOf c → R[i]? = some e0 → (e0.2 = [] ∨ e0.1 = c ∧ e0.2[s]? = some false) → ¬ IsObj R (32 * i + s * wordsOf c) := by
    rintro e0 i s hw hsl hi hcase ⟨q, s', e, he, hs', hat'⟩
    obtain ⟨h1, h2⟩ := hRn he hs'
    have h3 := slots_words h1 h2
    have h3' := slots_words hw hsl
    have h4 : 0 ≤ (s' : Int) * wordsOf e.1 := Int.mul_nonneg (by omega) (wordsOf_bd _).1
    have h4' : 0 ≤ (s : Int) * wordsOf c := Int.mul_nonneg (by omega) (wordsOf_bd _).1
    have h5 : q = i := by have := (wordsOf_bd e.1).1; have := (wordsOf_bd c).1; omega
    subst h5
    rw [hi] at he
    cases he
    rcases hcase with h | ⟨h6, h7⟩
    · rw [h] at hs'; simp at hs'
    · rw [h6] at hat'
      have h8 : (s : Int) * wordsOf c = s' * wordsOf c := by omega
      have h9 := Int.eq_of_mul_eq_mul_right hw h8
      rw [show s' = s by omega, h7] at hs'
      cases hs'
  cases h with
  | old i s l h0 hi hs h1 h2 =>
    have hil := (List.getElem?_eq_some_iff.1 hi).1
    have hsl := (List.getElem?_eq_some_iff.1 hs).1
    have hne : l ≠ [] := by intro e; subst e; simp at hs
    obtain ⟨g1, g2, g3⟩ := (hR _ (List.mem_of_getElem? hi)).2 hne
    have g4 := (hR _ (List.mem_of_getElem? hi)).1
    dsimp only at g1 g2 g3 g4
    refine ⟨?_, List.length_set, ?_, ?_, fun a v => ⟨?_, ?_⟩⟩
    · intro e he
      rcases List.mem_or_eq_of_mem_set he with he | rfl
      · exact hR e he
      · refine ⟨by rw [List.length_set]; exact g4, fun _ => ⟨g1, by rw [List.length_set]; exact g2, ?_⟩⟩
        exact List.mem_of_getElem? (i := s) (List.getElem?_set_self hsl)
    · have := objCount_set (e' := (c, l.set s true)) hi
      have h5 := count_set hs
      dsimp only at this
      omega
    · rw [hat]; exact hnot g1 (by omega) hi (.inr ⟨rfl, hs⟩)
    · rintro ⟨q, s', e, he, hs', ha, hv⟩
      rcases set_get hil he with ⟨rfl, rfl⟩ | ⟨_, he⟩
      · rcases set_get hsl hs' with ⟨rfl, _⟩ | ⟨_, hs'⟩
        · exact .inr ⟨by rw [ha, hat], by rw [hv, hw]⟩
        · exact .inl ⟨q, s', (c, l), hi, hs', ha, hv⟩
      · exact .inl ⟨q, s', e, he, hs', ha, hv⟩
    · rintro (⟨q, s', e, he, hs', ha, hv⟩ | ⟨rfl, rfl⟩)
      · by_cases hq : q = i
        · subst hq
          rw [hi] at he
          cases he
          have hss : s ≠ s' := by rintro rfl; rw [hs] at hs'; cases hs'
          exact ⟨q, s', _, List.getElem?_set_self hil, by rw [List.getElem?_set_ne hss]; exact hs', ha, hv⟩
        · exact ⟨q, s', e, by rw [List.getElem?_set_ne (fun h => hq h.symm)]; exact he, hs', ha, hv⟩
      · exact ⟨i, s, _, List.getElem?_set_self hil, List.getElem?_set_self hsl, hat, hw⟩
  | fresh i d h0 h2 hi h3 =>
    have hil := (List.getElem?_eq_some_iff.1 hi).1
    have g1 := words_of_slots h0
    have hk : 0 < slotsOf c := Nat.pos_of_ne_zero h0
    have hrl : (List.replicate (slotsOf c) false).length = slotsOf c := List.length_replicate
    have h00 : (List.replicate (slotsOf c) false)[0]? = some false := by rw [List.getElem?_replicate, if_pos hk]
    refine ⟨?_, List.length_set, ?_, ?_, fun a v => ⟨?_, ?_⟩⟩
    · intro e he
      rcases List.mem_or_eq_of_mem_set he with he | rfl
      · exact hR e he
      · refine ⟨by rw [List.length_set, hrl]; exact slots_le c, fun _ => ⟨g1, by rw [List.length_set, hrl], ?_⟩⟩
        exact List.mem_of_getElem? (i := 0) (List.getElem?_set_self (by rw [hrl]; exact hk))
    · have := objCount_set (e' := (c, (List.replicate (slotsOf c) false).set 0 true)) hi
      have h5 := count_set h00
      have h6 : (List.replicate (slotsOf c) false).count true = 0 := by rw [List.count_eq_zero]; intro h; rw [List.mem_replicate] at h; cases h.2
      dsimp only [List.count_nil] at this
      omega
    · have := hnot (i := i) (s := 0) g1 hk hi (.inl rfl)
      rw [hat]; exact this
    · rintro ⟨q, s', e, he, hs', ha, hv⟩
      rcases set_get hil he with ⟨rfl, rfl⟩ | ⟨_, he⟩
      · rcases set_get (by rw [hrl]; exact hk) hs' with ⟨rfl, _⟩ | ⟨_, hs'⟩
        · exact .inr ⟨by rw [ha, hat]; rfl, by rw [hv, hw]⟩
        · rw [List.getElem?_replicate] at hs'
          split at hs' <;> cases hs'
      · exact .inl ⟨q, s', e, he, hs', ha, hv⟩
    · rintro (⟨q, s', e, he, hs', ha, hv⟩ | ⟨rfl, rfl⟩)
      · by_cases hq : q = i
        · subst hq
          rw [hi] at he
          cases he
          simp at hs'
        · exact ⟨q, s', e, by rw [List.getElem?_set_ne (fun h => hq h.symm)]; exact he, hs', ha, hv⟩
      · exact ⟨i, 0, _, List.getElem?_set_self hil, List.getElem?_set_self (by rw [hrl]; exact hk), by rw [hat]; rfl, hw⟩
/-- Where there is no room, each row has an object. -/
theorem full_count {R R' : List Rw} {c i s : Int} (hR : RowsOk R) (hc : slotsOf c ≠ 0) (h : Alloced R c i s false R') : R' = R ∧ R.length ≤ objCount R := by
  cases h with
  | no h => exact absurd h hc
  | full h0 h2 h3 =>
    refine ⟨rfl, ?_⟩
    clear h2
    induction R with
    | nil => simp
    | cons e R ih =>
      have h5 : e.2 ≠ [] := by
        intro h
        exact h3 0 e.1 (by rw [← h]; rfl)
      have h6 := ((hR e List.mem_cons_self).2 h5).2.2
      have h7 : 0 < e.2.count true := List.count_pos_iff.2 h6
      have h8 := ih (fun x hx => hR x (List.mem_cons_of_mem _ hx)) (fun j d => h3 (j + 1) d)
      unfold objCount at h8 ⊢
      simp only [List.length_cons, List.map_cons, List.sum_cons]; omega
theorem free_objs {R : List Rw} (hR : RowsOk R) {q s : Nat} {e : Rw} (he : R[q]? = some e) (hs : e.2[s]? = some true) (at_ : Int) (hat : at_ = 32 * q + s * wordsOf e.1) :
    RowsOk (freed R q e.1 (e.2.set s false)) ∧ (freed R q e.1 (e.2.set s false)).length = R.length ∧ objCount (freed R q e.1 (e.2.set s false)) + 1 = objCount R ∧ ∀ a v, ObjAt (freed R q e.1 (e.2.set s false)) a v ↔ ObjAt R a v ∧ a ≠ at_ := by
  have hql := (List.getElem?_eq_some_iff.1 he).1
  have hsl := (List.getElem?_eq_some_iff.1 hs).1
  have hne : e.2 ≠ [] := by intro e0; rw [e0] at hs; simp at hs
  obtain ⟨g1, g2, g3⟩ := (hR _ (List.mem_of_getElem? he)).2 hne
  have g4 := (hR _ (List.mem_of_getElem? he)).1
  have hcu := count_unset hs
  have hkey : ∀ a v, ObjAt R a v → a = at_ → ∀ (q' s' : Nat) (e' : Rw), R[q']? = some e' → e'.2[s']? = some true → a = 32 * q' + s' * wordsOf e'.1 → q' = q ∧ s' = s := by
    intro a v _ ha q' s' e' he' hs' ha'
    have hne' : e'.2 ≠ [] := by intro e0; rw [e0] at hs'; simp at hs'
    obtain ⟨k1, k2, _⟩ := (hR _ (List.mem_of_getElem? he')).2 hne'
    have hsl' := (List.getElem?_eq_some_iff.1 hs').1
    have h3 := slots_words g1 (show s < slotsOf e.1 by omega)
    have h3' := slots_words k1 (show s' < slotsOf e'.1 by omega)
    have h4 : 0 ≤ (s' : Int) * wordsOf e'.1 := Int.mul_nonneg (by omega) (wordsOf_bd _).1
    have h4' : 0 ≤ (s : Int) * wordsOf e.1 := Int.mul_nonneg (by omega) (wordsOf_bd _).1
    have h5 : q' = q := by have := (wordsOf_bd e.1).1; have := (wordsOf_bd e'.1).1; omega
    subst h5
    rw [he] at he'
    cases he'
    have h8 : (s : Int) * wordsOf e.1 = s' * wordsOf e.1 := by omega
    have h9 := Int.eq_of_mul_eq_mul_right g1 h8
    exact ⟨rfl, by omega⟩
  obtain ⟨e2, he2⟩ : ∃ e2 : Rw, e2 = if (e.2.set s false).count true = 0 then (0, []) else (e.1, e.2.set s false) := ⟨_, rfl⟩
  have hfr : freed R q e.1 (e.2.set s false) = R.set q e2 := by rw [freed, he2]
  have h2cnt : e2.2.count true = (e.2.set s false).count true := by
    rw [he2]; split
    · rename_i h; rw [h]; rfl
    · rfl
  have h2mark : ∀ s', e2.2[s']? = some true ↔ (e.2[s']? = some true ∧ s' ≠ s) := by
    intro s'
    have hset : (e.2.set s false)[s']? = some true ↔ (e.2[s']? = some true ∧ s' ≠ s) := by
      constructor
      · intro h
        rcases set_get hsl h with ⟨_, h⟩ | ⟨h1, h2⟩
        · cases h
        · exact ⟨h2, h1⟩
      · rintro ⟨h1, h2⟩
        rw [List.getElem?_set_ne (fun h => h2 h.symm)]; exact h1
    rw [he2]
    split
    · rename_i h0
      rw [List.count_eq_zero] at h0
      constructor
      · intro h; simp at h
      · intro h; exact absurd (List.mem_of_getElem? (hset.2 h)) h0
    · exact hset
  have h2cls : e2.2 ≠ [] → e2.1 = e.1 := by
    rw [he2]; split
    · intro h; exact absurd rfl h
    · intro _; rfl
  rw [hfr]
  refine ⟨?_, List.length_set, ?_, fun a v => ⟨?_, ?_⟩⟩
  · intro x hx
    rcases List.mem_or_eq_of_mem_set hx with hx | rfl
    · exact hR x hx
    · rw [he2]
      split
      · exact ⟨by simp, fun h => absurd rfl h⟩
      · rename_i h0
        refine ⟨by rw [List.length_set]; exact g4, fun _ => ⟨g1, by rw [List.length_set]; exact g2, ?_⟩⟩
        exact List.count_pos_iff.1 (Nat.pos_of_ne_zero h0)
  · have := objCount_set (e' := e2) he
    omega
  · rintro ⟨q', s', e', he', hs', ha, hv⟩
    rcases set_get hql he' with ⟨rfl, rfl⟩ | ⟨hqq, he'⟩
    · obtain ⟨k1, k2⟩ := (h2mark s').1 hs'
      have hcl := h2cls (by intro e0; rw [e0] at hs'; simp at hs')
      rw [hcl] at ha hv
      have hob : ObjAt R a v := ⟨q', s', e, he, k1, ha, hv⟩
      exact ⟨hob, fun h => k2 (hkey a v hob h q' s' e he k1 ha).2⟩
    · have hob : ObjAt R a v := ⟨q', s', e', he', hs', ha, hv⟩
      exact ⟨hob, fun h => hqq (hkey a v hob h q' s' e' he' hs' ha).1⟩
  · rintro ⟨⟨q', s', e', he', hs', ha, hv⟩, hne2⟩
    by_cases hqq : q' = q
    · subst hqq
      rw [he] at he'
      cases he'
      have hss : s' ≠ s := by rintro rfl; exact hne2 (by rw [ha, hat])
      have hm := (h2mark s').2 ⟨hs', hss⟩
      have hcl := h2cls (by intro e0; rw [e0] at hm; simp at hm)
      exact ⟨q', s', e2, List.getElem?_set_self hql, hm, by rw [hcl]; exact ha, by rw [hcl]; exact hv⟩
    · exact ⟨q', s', e', by rw [List.getElem?_set_ne (fun h => hqq h.symm)]; exact he', hs', ha, hv⟩
/-- A place that is one word of no header but of an object's own words. -/
theorem within_not {R : List Rw} (hR : RowsOk R) {a w b v : Int} (h : ObjAt R a w) (k : ObjAt R b v) {j : Int} (h1 : a < j) (h2 : j < a + w) : b ≠ j := by
  intro e
  subst e
  have := (k.facts hR).2.2.1
  rcases h.apart hR k with ⟨h3, _⟩ | h3 | h3 <;> omega
theorem AOk.alloct {R R' : List Rw} {ws ws' : List Int} {kind n at_ e : Int} (hA : AOk R ws) (h : Alloct R ws kind n at_ e R' ws') : AOk R' ws' ∧ R'.length = R.length := by
  cases h with
  | arg h => exact ⟨hA, rfl⟩
  | room i s R' h ha =>
    obtain ⟨rfl, _⟩ := full_count hA.rows (ofN_slots n) ha
    exact ⟨hA, rfl⟩
  | ok i s _ R' h ha hi hat =>
    obtain ⟨w, hw⟩ : ∃ w, w = wordsOf (ofN n) := ⟨_, rfl⟩
    obtain ⟨h1, h2, h3, h4, h5⟩ := alloc_objs hA.rows ha at_ w (by rw [hat]) hw
    have hobj : ObjAt R' at_ w := (h5 _ _).2 (.inr ⟨rfl, rfl⟩)
    obtain ⟨f1, f2, f3, _⟩ := hobj.facts h1
    have hnw : n < w := by rw [hw]; exact (ofN_words ⟨h.1, h.2.1⟩).1
    have hlen := hA.len
    refine ⟨⟨h1, by rw [zer_length, List.length_set, h2]; exact hlen, ?_, ?_⟩, h2⟩
    · intro x hx
      obtain ⟨j, hj⟩ := List.getElem?_of_mem hx
      have hjl : j < ws.length := by have := (List.getElem?_eq_some_iff.1 hj).1; rw [zer_length, List.length_set] at this; exact this
      rw [zer_get _ _ _ _ (by rw [List.length_set]; exact hjl)] at hj
      split at hj
      · cases hj; omega
      · rcases set_get (by omega) hj with ⟨_, rfl⟩ | ⟨_, hj⟩
        · omega
        · exact hA.bd x (List.mem_of_getElem? hj)
    · intro a v hav
      obtain ⟨k1, k2, k3, _⟩ := hav.facts h1
      have hal : a.toNat < ws.length := by omega
      rw [zer_get _ _ _ _ (by rw [List.length_set]; exact hal)]
      rcases (h5 _ _).1 hav with hold | ⟨rfl, rfl⟩
      · have hne : a ≠ at_ := fun e => h4 (isObj_iff.2 ⟨v, e ▸ hold⟩)
        have hap := hobj.apart h1 hav
        rw [if_neg (by rcases hap with ⟨h, _⟩ | h | h <;> omega), List.getElem?_set_ne (by omega)]
        exact hA.hdr a v hold
      · rw [if_neg (by omega), List.getElem?_set_self hal]
        exact ⟨kind, n, rfl, by omega, by omega, by omega, hnw⟩
theorem AOk.set {R : List Rw} {ws : List Int} {at_ i x k l : Int} (hA : AOk R ws) (hk : Kept R ws at_ k l) (hi : 0 ≤ i ∧ i < l) (hx : -9223372036854775808 ≤ x ∧ x ≤ 9223372036854775807) : AOk R (ws.set (at_ + 1 + i).toNat x) := by
  have hb := hk.bounds hA
  obtain ⟨w, h1, h2, h3, h4, h5, h6⟩ := hk
  have hlen := hA.len
  refine ⟨hA.rows, by rw [List.length_set]; exact hlen, ?_, ?_⟩
  · intro y hy
    rcases List.mem_or_eq_of_mem_set hy with hy | rfl
    · exact hA.bd y hy
    · exact hx
  · intro a v hav
    obtain ⟨k1, _⟩ := hav.facts hA.rows
    have := within_not hA.rows h1 hav (j := at_ + 1 + i) (by omega) (by omega)
    rw [List.getElem?_set_ne (by omega)]
    exact hA.hdr a v hav
theorem AOk.stored {R : List Rw} {ws ws' : List Int} {at_ i x e : Int} (hA : AOk R ws) (hx : -9223372036854775808 ≤ x ∧ x ≤ 9223372036854775807) (h : Stored R ws at_ i x e ws') : AOk R ws' := by
  cases h with
  | none h => exact hA
  | arg k l h hi => exact hA
  | ok k l h hi => exact hA.set h hi hx
theorem AOk.freet {R R' : List Rw} {ws : List Int} {at_ e : Int} (hA : AOk R ws) (h : Freet R at_ e R') : AOk R' ws ∧ R'.length = R.length := by
  cases h with
  | none h => exact ⟨hA, rfl⟩
  | ok q s e he hs hat =>
    obtain ⟨h1, h2, h3, h4⟩ := free_objs hA.rows he hs at_ hat
    exact ⟨⟨h1, by rw [h2]; exact hA.len, hA.bd, fun a v hav => hA.hdr a v ((h4 a v).1 hav).1⟩, h2⟩
theorem AOk.new (n : Nat) : AOk (List.replicate n (0, [])) (List.replicate (32 * n) 0) := by
  refine ⟨?_, by simp, ?_, ?_⟩
  · intro e he
    obtain ⟨_, rfl⟩ := List.mem_replicate.1 he
    exact ⟨by simp, fun h => absurd rfl h⟩
  · intro x hx
    obtain ⟨_, rfl⟩ := List.mem_replicate.1 hx
    omega
  · rintro a w ⟨q, s, e, he, hs, _⟩
    obtain ⟨_, rfl⟩ := List.mem_replicate.1 (List.mem_of_getElem? he)
    simp at hs
theorem new_none (n : Nat) (a : Int) : ¬ IsObj (List.replicate n (0, [])) a := by
  rintro ⟨q, s, e, he, hs, _⟩
  obtain ⟨_, rfl⟩ := List.mem_replicate.1 (List.mem_of_getElem? he)
  simp at hs
theorem new_count (n : Nat) : objCount (List.replicate n (0, [])) = 0 := by
  unfold objCount
  induction n with
  | zero => rfl
  | succ n ih => rw [List.replicate_succ, List.map_cons, List.sum_cons, ih]; rfl
end Go.Proofs.Ytlakoemonbadiaa
