/-
  Layer 7: the list of all objects: it ascends, and has each.
-/
import Derived.Test.YtllafhhnciobhaaGreatDoorAf

namespace Go.Proofs.YtllafhhnciobhaaGreatDoor

open Go Go.LX
set_option maxRecDepth 100000
set_option linter.unusedVariables false
set_option linter.unusedSimpArgs false

theorem asc_eq : ∀ {a b : List Int}, a.Pairwise (· < ·) → b.Pairwise (· < ·) → (∀ x, x ∈ a ↔ x ∈ b) → a = b
  | [], [], _, _, _ => rfl
  | [], y :: b, _, _, h => by have := (h y).2 List.mem_cons_self; cases this
  | x :: a, [], _, _, h => by have := (h x).1 List.mem_cons_self; cases this
  | x :: a, y :: b, ha, hb, h => by
    obtain ⟨ha1, ha2⟩ := List.pairwise_cons.1 ha
    obtain ⟨hb1, hb2⟩ := List.pairwise_cons.1 hb
    have hxy : x = y := by
      rcases List.mem_cons.1 ((h x).1 List.mem_cons_self) with e | hx
      · exact e
      · rcases List.mem_cons.1 ((h y).2 List.mem_cons_self) with e | hy
        · exact e.symm
        · have h1 := hb1 x hx
          have h2 := ha1 y hy
          omega
    subst hxy
    rw [asc_eq ha2 hb2 fun z => ⟨fun hz => ?_, fun hz => ?_⟩]
    · rcases List.mem_cons.1 ((h z).1 (List.mem_cons_of_mem _ hz)) with e | hz'
      · have := ha1 z hz; omega
      · exact hz'
    · rcases List.mem_cons.1 ((h z).2 (List.mem_cons_of_mem _ hz)) with e | hz'
      · have := hb1 z hz; omega
      · exact hz'
theorem rowPart_mem (q : Nat) (e : Rw) : ∀ (s : Nat) (x : Int), x ∈ rowPart q e s ↔ ∃ t : Nat, t < s ∧ e.2[t]? = some true ∧ x = 32 * (q : Int) + t * wordsOf e.1
  | 0, x => by simp [rowPart]
  | s + 1, x => by
    rw [rowPart, List.mem_append, rowPart_mem q e s x]
    constructor
    · rintro (⟨t, h1, h2, h3⟩ | h)
      · exact ⟨t, by omega, h2, h3⟩
      · split at h
        · rename_i hs
          exact ⟨s, by omega, hs, List.mem_singleton.1 h⟩
        · cases h
    · rintro ⟨t, h1, h2, h3⟩
      by_cases e1 : t = s
      · subst e1
        right
        rw [if_pos h2]; exact List.mem_singleton.2 h3
      · exact .inl ⟨t, by omega, h2, h3⟩
theorem rowPart_asc (q : Nat) (e : Rw) (hw : e.2 ≠ [] → wordsOf e.1 ≠ 0) : ∀ s : Nat, (rowPart q e s).Pairwise (· < ·)
  | 0 => .nil
  | s + 1 => by
    rw [rowPart]
    refine List.pairwise_append.2 ⟨rowPart_asc q e hw s, ?_, ?_⟩
    · split
      · exact List.pairwise_singleton _ _
      · exact .nil
    · intro x hx y hy
      split at hy
      · rename_i hs
        obtain ⟨t, h1, _, h3⟩ := (rowPart_mem q e s x).1 hx
        have hy := List.mem_singleton.1 hy
        have hne : e.2 ≠ [] := by intro e0; rw [e0] at hs; simp at hs
        have hw0 := hw hne
        have := wordsOf_cases e.1
        have h4 : ((t : Int) + 1) * wordsOf e.1 ≤ (s : Int) * wordsOf e.1 := Int.mul_le_mul_of_nonneg_right (by omega) (by omega)
        rw [Int.add_mul, Int.one_mul] at h4
        omega
      · cases hy
theorem objsTo_mem {R : List Rw} (hR : RowsOk R) : ∀ (q : Nat) (x : Int), x ∈ objsTo R q ↔ ∃ (q' t : Nat) (e : Rw), q' < q ∧ R[q']? = some e ∧ e.2[t]? = some true ∧ x = 32 * (q' : Int) + t * wordsOf e.1
  | 0, x => by simp [objsTo]
  | q + 1, x => by
    rw [objsTo, List.mem_append, objsTo_mem hR q x]
    constructor
    · rintro (⟨q', t, e, h1, h2, h3, h4⟩ | h)
      · exact ⟨q', t, e, by omega, h2, h3, h4⟩
      · split at h
        · rename_i e he
          obtain ⟨t, _, h2, h3⟩ := (rowPart_mem q e _ x).1 h
          exact ⟨q, t, e, by omega, he, h2, h3⟩
        · cases h
    · rintro ⟨q', t, e, h1, h2, h3, h4⟩
      by_cases e1 : q' = q
      · subst e1
        right
        rw [h2]
        have hne : e.2 ≠ [] := by intro e0; rw [e0] at h3; simp at h3
        refine (rowPart_mem q' e _ x).2 ⟨t, ?_, h3, h4⟩
        have hcl : clsOf e = e.1 := if_neg hne
        rw [hcl, ← ((hR e (List.mem_of_getElem? h2)).2 hne).2.1]
        exact (List.getElem?_eq_some_iff.1 h3).1
      · exact .inl ⟨q', t, e, by omega, h2, h3, h4⟩
theorem objsTo_asc {R : List Rw} (hR : RowsOk R) : ∀ q : Nat, (objsTo R q).Pairwise (· < ·)
  | 0 => .nil
  | q + 1 => by
    rw [objsTo]
    refine List.pairwise_append.2 ⟨objsTo_asc hR q, ?_, ?_⟩
    · split
      · rename_i e he
        exact rowPart_asc q e (fun hne => ((hR e (List.mem_of_getElem? he)).2 hne).1) _
      · exact .nil
    · intro x hx y hy
      obtain ⟨q', t, e, h1, h2, h3, h4⟩ := (objsTo_mem hR q x).1 hx
      have hne : e.2 ≠ [] := by intro e0; rw [e0] at h3; simp at h3
      obtain ⟨g1, g2, _⟩ := (hR e (List.mem_of_getElem? h2)).2 hne
      have g3 := slots_words g1 (show t < slotsOf e.1 by have := (List.getElem?_eq_some_iff.1 h3).1; omega)
      have g4 := (wordsOf_bd e.1).1
      split at hy
      · rename_i e' he'
        obtain ⟨t', _, h2', h3'⟩ := (rowPart_mem q e' _ y).1 hy
        have g5 : 0 ≤ (t' : Int) * wordsOf e'.1 := Int.mul_nonneg (by omega) (wordsOf_bd _).1
        have hne0 : wordsOf e.1 ≠ 0 := g1
        omega
      · cases hy
theorem objs_mem {R : List Rw} (hR : RowsOk R) (x : Int) : x ∈ objsTo R R.length ↔ IsObj R x := by
  rw [objsTo_mem hR]
  constructor
  · rintro ⟨q, t, e, _, h2, h3, h4⟩; exact ⟨q, t, e, h2, h3, h4⟩
  · rintro ⟨q, t, e, h2, h3, h4⟩; exact ⟨q, t, e, (List.getElem?_eq_some_iff.1 h2).1, h2, h3, h4⟩
theorem objs_is {R : List Rw} (hR : RowsOk R) {l : List Int} (h1 : l.Pairwise (· < ·)) (h2 : ∀ x, x ∈ l ↔ IsObj R x) : l = objsTo R R.length :=
  asc_eq h1 (objsTo_asc hR _) fun x => by rw [h2, objs_mem hR]
theorem Kept.det6 {R : List Rw} {ws : List Int} {a k l k' l' : Int} (h : Kept R ws a k l) (h' : Kept R ws a k' l') : k' = k ∧ l' = l := by
  obtain ⟨w, _, h1, h2, h3, h4, _⟩ := h
  obtain ⟨w', _, h1', h2', h3', h4', _⟩ := h'
  rw [h1] at h1'
  have h1' : k + 16 * l = k' + 16 * l' := Option.some.inj h1'
  omega
theorem Kept.obj6 {R : List Rw} {ws : List Int} {a k l : Int} (h : Kept R ws a k l) : IsObj R a := by
  obtain ⟨w, h, _⟩ := h
  exact isObj_iff.2 ⟨w, h⟩
theorem kindR_of6 {R : List Rw} {ws : List Int} {a k l v : Int} (h : Kept R ws a k l) (hv : KindR R ws a v) : v = k := by
  cases hv with
  | no hn => exact absurd h.obj6 hn
  | is k' l' h' => exact (h.det6 h').1
theorem lenR_of6 {R : List Rw} {ws : List Int} {a k l v : Int} (h : Kept R ws a k l) (hv : LenR R ws a v) : v = l := by
  cases hv with
  | no hn => exact absurd h.obj6 hn
  | is k' l' h' => exact (h.det6 h').2
/-- Two arenas' words, alike where there is an object. -/
structure Sim (R : List Rw) (ws vs : List Int) : Prop where
  a : AOk R ws
  b : AOk R vs
  hdr : ∀ x k l, Kept R ws x k l → Kept R vs x k l
  in_ : ∀ x k l i, Kept R ws x k l → 0 ≤ i → i < l → vs[(x + 1 + i).toNat]? = ws[(x + 1 + i).toNat]?
theorem Sim.kind {R : List Rw} {ws vs : List Int} (h : Sim R ws vs) {x v u : Int} (hv : KindR R ws x v) (hu : KindR R vs x u) : v = u := by
  cases hv with
  | no hn => cases hu with
    | no _ => rfl
    | is k l hk => exact absurd hk.obj6 hn
  | is k l hk => exact (kindR_of6 (h.hdr x v l hk) hu).symm
theorem Sim.len {R : List Rw} {ws vs : List Int} (h : Sim R ws vs) {x v u : Int} (hv : LenR R ws x v) (hu : LenR R vs x u) : v = u := by
  cases hv with
  | no hn => cases hu with
    | no _ => rfl
    | is k l hk => exact absurd hk.obj6 hn
  | is k l hk => exact (lenR_of6 (h.hdr x k v hk) hu).symm
theorem Sim.load {R : List Rw} {ws vs : List Int} (h : Sim R ws vs) {a i x e y f : Int} (hv : Loaded R ws a i x e) (hu : Loaded R vs a i y f) : x = y ∧ e = f := by
  cases hv with
  | none hn => cases hu with
    | none _ => exact ⟨rfl, rfl⟩
    | arg k l hk _ => exact absurd hk.obj6 hn
    | ok k l _ hk _ _ => exact absurd hk.obj6 hn
  | arg k l hk hi => cases hu with
    | none hn => exact absurd hk.obj6 hn
    | arg _ _ _ _ => exact ⟨rfl, rfl⟩
    | ok k' l' _ hk' hi' _ => exact absurd (by rw [(h.hdr _ _ _ hk).det6 hk' |>.2] at hi'; exact hi') hi
  | ok k l _ hk hi hx => cases hu with
    | none hn => exact absurd hk.obj6 hn
    | arg k' l' hk' hi' => exact absurd hi (by rw [(h.hdr _ _ _ hk).det6 hk' |>.2] at hi'; exact hi')
    | ok k' l' _ hk' hi' hy =>
      rw [h.in_ a k l i hk hi.1 hi.2, hx] at hy
      exact ⟨Option.some.inj hy, rfl⟩
end Go.Proofs.YtllafhhnciobhaaGreatDoor
