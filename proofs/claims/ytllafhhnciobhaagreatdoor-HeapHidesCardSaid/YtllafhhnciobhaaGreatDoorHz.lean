/-
  Layer 9: both step alike.
-/
import Derived.Test.YtllafhhnciobhaaGreatDoorHy
namespace Go.Proofs.YtllafhhnciobhaaGreatDoor

open Go Go.LX
set_option maxRecDepth 100000
set_option linter.unusedVariables false
set_option linter.unusedSimpArgs false

theorem Sim.wrds {R : List Rw} {ws vs X Y : List Int} {a : Int} (h : Sim R ws vs) (h1 : Wrds R ws a X) (h2 : Wrds R vs a Y) : X = Y := by
  have hl := h.len h1.1 h2.1
  apply List.ext_getElem?
  intro i
  by_cases hi : i < X.length
  · obtain ⟨x, hx⟩ : ∃ x, X[i]? = some x := ⟨_, List.getElem?_eq_getElem hi⟩
    obtain ⟨y, hy⟩ : ∃ y, Y[i]? = some y := ⟨_, List.getElem?_eq_getElem (by omega)⟩
    obtain ⟨rfl, _⟩ := h.load (h1.2 i x hx) (h2.2 i y hy)
    rw [hx, hy]
  · rw [List.getElem?_eq_none (by omega), List.getElem?_eq_none (by omega)]
theorem Sim.due {R : List Rw} {ws vs C : List Int} {a : Int} (h : Sim R ws vs) (hd : Due R ws C a) : Due R vs C a := by
  obtain ⟨⟨l, hK⟩, hc, x, hx, hx0⟩ := hd
  obtain ⟨k', l', hK'⟩ := Kept.of h.b hK.obj6
  obtain rfl := h.kind (.is 5 l hK) (.is k' l' hK')
  obtain ⟨y, f, hy⟩ : ∃ y f, Loaded R vs a 1 y f := by
    by_cases hi : (0 : Int) ≤ 1 ∧ 1 < l'
    · have hb := hK'.bounds h.b
      have hlen := h.b.len
      obtain ⟨y, hy⟩ : ∃ y, vs[(a + 1 + 1).toNat]? = some y := ⟨_, List.getElem?_eq_getElem (by omega)⟩
      exact ⟨y, 0, .ok 5 l' y hK' hi hy⟩
    · exact ⟨0, 1, .arg 5 l' hK' hi⟩
  obtain ⟨rfl, rfl⟩ := h.load hx hy
  exact ⟨⟨l', hK'⟩, hc, x, hy, hx0⟩
theorem Sim.symm_due {R : List Rw} {ws vs C : List Int} {a : Int} (h : Sim R ws vs) (hd : Due R vs C a) : Due R ws C a := by
  obtain ⟨⟨l, hK⟩, hc, x, hx, hx0⟩ := hd
  obtain ⟨k', l', hK'⟩ := Kept.of h.a hK.obj6
  obtain rfl := h.kind (.is k' l' hK') (.is 5 l hK)
  obtain ⟨y, f, hy⟩ : ∃ y f, Loaded R ws a 1 y f := by
    by_cases hi : (0 : Int) ≤ 1 ∧ 1 < l'
    · have hb := hK'.bounds h.a
      have hlen := h.a.len
      obtain ⟨y, hy⟩ : ∃ y, ws[(a + 1 + 1).toNat]? = some y := ⟨_, List.getElem?_eq_getElem (by omega)⟩
      exact ⟨y, 0, .ok _ l' y hK' hi hy⟩
    · exact ⟨0, 1, .arg _ l' hK' hi⟩
  obtain ⟨rfl, rfl⟩ := h.load hy hx
  exact ⟨⟨l', hK'⟩, hc, y, hy, hx0⟩
theorem Sim.nextF {R : List Rw} {ws vs C : List Int} {a : Int} {b : Bool} (h : Sim R ws vs) (hd : NextF R ws C a b) : NextF R vs C a b := by
  cases hd with
  | found i _ ha hd hn => exact .found i a ha (h.due hd) (fun j c hj hc hk => hn j c hj hc (h.symm_due hk))
  | none hn => exact .none (fun j c hc hk => hn j c hc (h.symm_due hk))
theorem marked_sim {R : List Rw} {ws vs C G ws' C1 G1 vs' C2 G2 : List Int} {ov o1 o2 : Bool} {sp p1 s1 p2 s2 : Int} {out1 out2 : List Gn} (h : Sim R ws vs) (h1 : Marked R ws C G ov sp out1 p1 s1 ws' C1 G1 o1) (h2 : Marked R vs C G ov sp out2 p2 s2 vs' C2 G2 o2) :
    out1 = out2 ∧ p1 = p2 ∧ s1 = s2 ∧ C1 = C2 ∧ G1 = G2 ∧ o1 = o2 ∧ Sim R ws' vs' := by
  cases h1 with
  | scan v A X _ _ q _ hg hX hs => cases h2 with
    | scan v' A' X' _ _ q' _ hg' hX' hs' =>
      obtain ⟨rfl, _, rfl, rfl⟩ := hg.det hg'
      obtain rfl := h.wrds hX hX'
      rw [← hs] at hs'
      cases hs'
      exact ⟨rfl, rfl, rfl, rfl, rfl, rfl, h⟩
    | keep _ _ _ _ _ _ _ _ hg' _ _ _ _ => obtain ⟨_, e, _⟩ := hg.det hg'; cases e
    | sweep _ _ hg' _ => obtain ⟨_, e, _⟩ := hg.det hg'; cases e
  | keep a A X _ _ _ q _ hg hf hX hst hs => cases h2 with
    | scan _ _ _ _ _ _ _ hg' _ _ => obtain ⟨_, e, _⟩ := hg.det hg'; cases e
    | keep a' A' X' _ _ _ q' _ hg' hf' hX' hst' hs' =>
      obtain ⟨_, _, rfl, rfl⟩ := hg.det hg'
      obtain ⟨rfl, _⟩ := (h.nextF hf).det hf'
      obtain rfl := h.wrds hX hX'
      rw [← hs] at hs'
      cases hs'
      obtain ⟨_, h3⟩ := h.store (by decide) hst hst'
      exact ⟨rfl, rfl, rfl, rfl, rfl, rfl, h3⟩
    | sweep _ _ hg' hf' => obtain ⟨_, e⟩ := (h.nextF hf).det hf'; cases e
  | sweep A q hg hf => cases h2 with
    | scan _ _ _ _ _ _ _ hg' _ _ => obtain ⟨_, e, _⟩ := hg.det hg'; cases e
    | keep _ _ _ _ _ _ _ _ hg' hf' _ _ _ => obtain ⟨_, e⟩ := (h.nextF hf).det hf'; cases e
    | sweep A' q' hg' hf' =>
      obtain ⟨_, _, rfl, rfl⟩ := hg.det hg'
      exact ⟨rfl, rfl, rfl, rfl, rfl, rfl, h⟩
theorem freet_objs {R R' : List Rw} {ws : List Int} {a e : Int} (hA : AOk R ws) (ha : a ∈ objs R) (h : Freet R a e R') : AOk R' ws ∧ ∀ b, b ∈ objs R' ↔ b ∈ objs R ∧ b ≠ a := by
  have hA' := (hA.freet h).1
  refine ⟨hA', fun b => ?_⟩
  rw [obj_iff hA', obj_iff hA]
  cases h with
  | none hn => exact absurd ((obj_iff hA a).1 ha) hn
  | ok q s e he hs hat =>
    obtain ⟨_, _, _, g4⟩ := free_objs hA.rows he hs a hat
    rw [isObj_iff, isObj_iff]
    constructor
    · rintro ⟨w, hw⟩; exact ⟨⟨w, ((g4 b w).1 hw).1⟩, ((g4 b w).1 hw).2⟩
    · rintro ⟨⟨w, hw⟩, hne⟩; exact ⟨w, (g4 b w).2 ⟨hw, hne⟩⟩
theorem kept_back {R R' : List Rw} {ws : List Int} {a e b k l : Int} (hA : AOk R ws) (h : Freet R a e R') (hk : Kept R ws b k l) (ho : b ∈ objs R') : Kept R' ws b k l := by
  obtain ⟨k', l', hK⟩ := Kept.of (hA.freet h).1 ((obj_iff (hA.freet h).1 b).1 ho)
  obtain ⟨rfl, rfl⟩ := (kept_freet hA h b k' l' hK).det9 hk
  exact hK
/-- Of what is swept: each was an object, and as it is told. -/
structure SwF (R R1 : List Rw) (ws C : List Int) (p : Int) (i : Nat) (out : List Gn) : Prop where
  each : ∀ g ∈ out, KindR R ws g.2.1 g.1 ∧ Wrds R ws g.2.1 g.2.2.1 ∧ g.2.2.2 = false
  asc : (out.map fun g => g.2.1).Pairwise (· < ·)
  mem : ∀ x, x ∈ (out.map fun g => g.2.1) ↔ p ≤ x ∧ x < p + i ∧ Wh R C x
  frees : Frees R (out.map fun g => g.2.1) R1
  ok : AOk R1 ws
  left : ∀ b, b ∈ objs R1 ↔ b ∈ objs R ∧ b ∉ (out.map fun g => g.2.1)
  kept : ∀ b k l, Kept R1 ws b k l → Kept R ws b k l
end Go.Proofs.YtllafhhnciobhaaGreatDoor
/-
  Layer 9: both sweep alike.
-/
namespace Go.Proofs.YtllafhhnciobhaaGreatDoor

open Go Go.LX
set_option maxRecDepth 100000
set_option linter.unusedVariables false
set_option linter.unusedSimpArgs false

theorem gmap_app (out : List Gn) (g : Gn) : (out ++ [g]).map (fun g => g.2.1) = out.map (fun g => g.2.1) ++ [g.2.1] := by
  rw [List.map_append]; rfl
theorem SweptTo.facts {ws C : List Int} {R R1 : List Rw} {p : Int} {i : Nat} {out : List Gn} (hA : AOk R ws) (h : SweptTo ws C R p i out R1) : SwF R R1 ws C p i out := by
  induction h with
  | zero =>
    refine ⟨fun g hg => (by cases hg), List.Pairwise.nil, fun x => ⟨fun hx => (by cases hx), fun hx => (by have := hx.1; have := hx.2.1; omega)⟩, .nil R, hA, fun b => ⟨fun hb => ⟨hb, fun hk => (by cases hk)⟩, fun hb => hb.1⟩, fun _ _ _ hk => hk⟩
  | skip i out R1 h hn ih =>
    refine ⟨ih.each, ih.asc, fun x => ?_, ih.frees, ih.ok, ih.left, ih.kept⟩
    rw [ih.mem x]
    constructor
    · rintro ⟨h1, h2, h3⟩; exact ⟨h1, by omega, h3⟩
    · rintro ⟨h1, h2, h3⟩
      refine ⟨h1, ?_, h3⟩
      by_cases e : x = p + i
      · subst e
        exfalso
        refine hn ⟨(ih.left _).2 ⟨h3.1, fun hk => ?_⟩, h3.2⟩
        have := ((ih.mem _).1 hk).2.1
        omega
      · omega
  | free i out R1 R2 k X h hw hk hX hf ih =>
    obtain ⟨hA2, hob⟩ := freet_objs ih.ok hw.1 hf
    have hnew := (ih.left (p + i)).1 hw.1
    have hK1 : ∃ l, Kept R1 ws (p + i) k l := by
      cases hk with
      | no hn => exact absurd ((obj_iff ih.ok _).1 hw.1) hn
      | is _ l hK => exact ⟨l, hK⟩
    obtain ⟨l, hK⟩ := hK1
    have hKR := ih.kept _ _ _ hK
    refine ⟨fun g hg => ?_, ?_, fun x => ?_, ?_, hA2, fun b => ?_, fun b k l hb => ih.kept b k l (kept_freet ih.ok hf b k l hb)⟩
    · rcases List.mem_append.1 hg with hg | hg
      · exact ih.each g hg
      · rw [List.mem_singleton.1 hg]
        refine ⟨.is k l hKR, ⟨?_, fun j x hx => ?_⟩, rfl⟩
        · have hl := hX.1
          generalize hxl : (X.length : Int) = xl at hl
          cases hl with
          | no hn => exact absurd hK.obj6 hn
          | is k2 l2 hK2 => exact .is k2 _ (ih.kept _ _ _ hK2)
        · cases hX.2 j x hx with
          | ok k2 l2 _ hK2 hi hx => exact .ok k2 l2 x (ih.kept _ _ _ hK2) hi hx
    · rw [gmap_app, List.pairwise_append]
      refine ⟨ih.asc, List.pairwise_singleton _ _, fun x hx y hy => ?_⟩
      rw [List.mem_singleton.1 hy]
      exact ((ih.mem x).1 hx).2.1
    · rw [gmap_app, List.mem_append, List.mem_singleton, ih.mem x]
      constructor
      · rintro (⟨h1, h2, h3⟩ | h1)
        · exact ⟨h1, by omega, h3⟩
        · have h1 : x = p + i := h1
          subst h1
          exact ⟨by omega, by omega, hnew.1, hw.2⟩
      · rintro ⟨h1, h2, h3⟩
        by_cases e : x = p + i
        · exact .inr e
        · exact .inl ⟨h1, by omega, h3⟩
    · rw [gmap_app]; exact .snoc R R1 R2 _ _ 0 ih.frees hf
    · rw [hob b, ih.left b, gmap_app, List.mem_append, List.mem_singleton]
      constructor
      · rintro ⟨⟨h1, h2⟩, h3⟩; exact ⟨h1, fun hk => hk.elim h2 h3⟩
      · rintro ⟨h1, h2⟩; exact ⟨⟨h1, fun hk => h2 (.inl hk)⟩, fun hk => h2 (.inr hk)⟩
structure RgF (R : List Rw) (vs C : List Int) (sp : Int) (i : Nat) (out : List Gn) : Prop where
  each : ∀ g ∈ out, KindR R vs g.2.1 g.1 ∧ Wrds R vs g.2.1 g.2.2.1 ∧ g.2.2.2 = false
  asc : (out.map fun g => g.2.1).Pairwise (· < ·)
  mem : ∀ x, x ∈ (out.map fun g => g.2.1) ↔ (∃ j : Nat, j < i ∧ (objs R)[j]? = some x) ∧ x / 32 = sp ∧ C[x.toNat]? = some 0
theorem objs_lt {R : List Rw} (hR : RowsOk R) {i j : Nat} {a b : Int} (hij : i < j) (ha : (objs R)[i]? = some a) (hb : (objs R)[j]? = some b) : a < b := by
  obtain ⟨h1, h2⟩ := List.getElem?_eq_some_iff.1 ha
  obtain ⟨h3, h4⟩ := List.getElem?_eq_some_iff.1 hb
  have := (List.pairwise_iff_getElem.1 (objsTo_asc hR R.length)) i j h1 h3 hij
  rw [← h2, ← h4]; exact this
theorem RG.facts {R : List Rw} {vs C : List Int} {sp : Int} {i : Nat} {out : List Gn} (hR : RowsOk R) (h : RG R vs C sp i out) : RgF R vs C sp i out := by
  induction h with
  | zero => exact ⟨fun g hg => (by cases hg), List.Pairwise.nil, fun x => ⟨fun hx => (by cases hx), fun ⟨⟨j, hj, _⟩, _⟩ => (by omega)⟩⟩
  | skip i a out h ha hn ih =>
    refine ⟨ih.each, ih.asc, fun x => ?_⟩
    rw [ih.mem x]
    constructor
    · rintro ⟨⟨j, h1, h2⟩, h3⟩; exact ⟨⟨j, by omega, h2⟩, h3⟩
    · rintro ⟨⟨j, h1, h2⟩, h3⟩
      refine ⟨⟨j, ?_, h2⟩, h3⟩
      by_cases e : j = i
      · subst e
        rw [ha] at h2
        obtain rfl := Option.some.inj h2
        exact absurd h3 hn
      · omega
  | add i a k X out h ha hw hk hX ih =>
    refine ⟨fun g hg => ?_, ?_, fun x => ?_⟩
    · rcases List.mem_append.1 hg with hg | hg
      · exact ih.each g hg
      · rw [List.mem_singleton.1 hg]; exact ⟨hk, hX, rfl⟩
    · rw [gmap_app, List.pairwise_append]
      refine ⟨ih.asc, List.pairwise_singleton _ _, fun x hx y hy => ?_⟩
      rw [List.mem_singleton.1 hy]
      obtain ⟨⟨j, h1, h2⟩, _⟩ := (ih.mem x).1 hx
      exact objs_lt hR h1 h2 ha
    · rw [gmap_app, List.mem_append, List.mem_singleton, ih.mem x]
      constructor
      · rintro (⟨⟨j, h1, h2⟩, h3⟩ | h1)
        · exact ⟨⟨j, by omega, h2⟩, h3⟩
        · have h1 : x = a := h1
          subst h1
          exact ⟨⟨i, by omega, ha⟩, hw⟩
      · rintro ⟨⟨j, h1, h2⟩, h3⟩
        by_cases e : j = i
        · subst e
          rw [ha] at h2
          obtain rfl := Option.some.inj h2
          exact .inr rfl
        · exact .inl ⟨⟨j, by omega, h2⟩, h3⟩
theorem Frees.det {R R1 : List Rw} {l : List Int} {ws : List Int} (hA : AOk R ws) (h1 : Frees R l R1) : ∀ {R2}, Frees R l R2 → R1 = R2 ∧ AOk R1 ws := by
  induction h1 with
  | nil =>
    intro R2 h2
    generalize hl : ([] : List Int) = l at h2
    cases h2 with
    | nil => exact ⟨rfl, hA⟩
    | snoc _ _ l a _ _ _ => exact absurd hl (by simp)
  | snoc Ra Rb l a e h hf ih =>
    intro R2 h2
    generalize hl : l ++ [a] = l' at h2
    cases h2 with
    | nil => exact absurd hl (by simp)
    | snoc Rc _ l2 a2 e2 h' hf' =>
      obtain ⟨rfl, e3⟩ := List.append_inj' hl rfl
      obtain rfl : a = a2 := by simpa using e3
      obtain ⟨rfl, hB⟩ := ih h'
      exact ⟨(hf.det hB.rows hf').2, (hB.freet hf).1⟩
theorem frees_sim {R R1 : List Rw} {ws vs : List Int} {l : List Int} (h : Sim R ws vs) (h1 : Frees R l R1) : Sim R1 ws vs := by
  induction h1 with
  | nil => exact h
  | snoc Ra Rb l a e h hf ih => exact (ih.free hf).1
theorem gns_eq {out1 out2 : List Gn} (hp : (out1.map fun g => g.2.1) = out2.map fun g => g.2.1) (he : ∀ g1 ∈ out1, ∀ g2 ∈ out2, g1.2.1 = g2.2.1 → g1 = g2) : out1 = out2 := by
  have hl : out1.length = out2.length := by simpa using congrArg List.length hp
  apply List.ext_getElem?
  intro i
  by_cases hi : i < out1.length
  · have h1 := List.getElem?_eq_getElem hi
    have h2 := List.getElem?_eq_getElem (l := out2) (i := i) (by omega)
    rw [h1, h2]
    refine congrArg some (he _ (List.getElem_mem hi) _ (List.getElem_mem (by omega)) ?_)
    have := congrArg (fun l => l[i]?) hp
    simp only [List.getElem?_map, h1, h2, Option.map_some] at this
    exact Option.some.inj this
  · rw [List.getElem?_eq_none (by omega), List.getElem?_eq_none (by omega)]
theorem swept_sim {R R1 R2 : List Rw} {ws vs C : List Int} {sp : Int} {out1 out2 : List Gn} (h : Sim R ws vs) (hsp : 0 ≤ sp) (h1 : SweptTo ws C R (32 * sp) 32 out1 R1) (h2 : RG R vs C sp (objs R).length out2) (h3 : Frees R (out2.map fun g => g.2.1) R2) : out1 = out2 ∧ R1 = R2 ∧ Sim R1 ws vs := by
  have f1 := h1.facts h.a
  have f2 := h2.facts h.a.rows
  have hp : (out1.map fun g => g.2.1) = out2.map fun g => g.2.1 := by
    refine asc_eq f1.asc f2.asc fun x => ?_
    rw [f1.mem x, f2.mem x]
    constructor
    · rintro ⟨q1, q2, q3, q4⟩
      obtain ⟨j, hj⟩ := List.getElem?_of_mem q3
      exact ⟨⟨j, (List.getElem?_eq_some_iff.1 hj).1, hj⟩, by omega, q4⟩
    · rintro ⟨⟨j, _, hj⟩, q2, q3⟩
      exact ⟨by omega, by omega, List.mem_of_getElem? hj, q3⟩
  have ho : out1 = out2 := by
    refine gns_eq hp fun g1 m1 g2 m2 e => ?_
    obtain ⟨a1, b1, c1⟩ := f1.each g1 m1
    obtain ⟨a2, b2, c2⟩ := f2.each g2 m2
    obtain ⟨k1, p1, X1, y1⟩ := g1
    obtain ⟨k2, p2, X2, y2⟩ := g2
    dsimp only at *
    subst e
    rw [h.kind a1 a2, h.wrds b1 b2, c1, c2]
  rw [← hp] at h3
  obtain ⟨rfl, _⟩ := f1.frees.det h.a h3
  exact ⟨ho, rfl, frees_sim h f1.frees⟩
theorem step_sim {R R1 R2 : List Rw} {ws vs C G ws' C1 G1 vs' C2 G2 : List Int} {ov o1 o2 : Bool} {ph sp cy W p1 s1 y1 p2 s2 y2 : Int} {out1 out2 : List Gn} (h : Sim R ws vs) (hsp : 0 ≤ sp) (h1 : Stepd R ws C G ov ph sp cy W out1 R1 ws' C1 G1 o1 p1 s1 y1) (h2 : RStepd R vs C G ov ph sp cy W out2 R2 vs' C2 G2 o2 p2 s2 y2) :
    out1 = out2 ∧ R1 = R2 ∧ C1 = C2 ∧ G1 = G2 ∧ o1 = o2 ∧ p1 = p2 ∧ s1 = s2 ∧ y1 = y2 ∧ Sim R1 ws' vs' := by
  cases h1 with
  | mark _ _ _ _ _ _ _ hp hm => cases h2 with
    | mark _ _ _ _ _ _ _ _ hm' =>
      obtain ⟨rfl, rfl, rfl, rfl, rfl, rfl, h3⟩ := marked_sim h hm hm'
      exact ⟨rfl, rfl, rfl, rfl, rfl, rfl, rfl, rfl, h3⟩
    | sweep _ _ hp' _ _ => rw [hp] at hp'; exact absurd hp' (by decide)
    | idle hp' _ => exact absurd hp hp'
  | sweep _ _ hp hs => cases h2 with
    | mark _ _ _ _ _ _ _ hp' _ => rw [hp] at hp'; exact absurd hp' (by decide)
    | sweep _ _ _ hg hf =>
      obtain ⟨rfl, rfl, h3⟩ := swept_sim h hsp hs hg hf
      exact ⟨rfl, rfl, rfl, rfl, rfl, rfl, rfl, rfl, h3⟩
    | idle _ hp' => exact absurd hp hp'
  | idle hp hp2 => cases h2 with
    | mark _ _ _ _ _ _ _ hp' _ => exact absurd hp' hp
    | sweep _ _ hp' _ _ => exact absurd hp' hp2
    | idle _ _ => exact ⟨rfl, rfl, rfl, rfl, rfl, rfl, rfl, rfl, h⟩
end Go.Proofs.YtllafhhnciobhaaGreatDoor
