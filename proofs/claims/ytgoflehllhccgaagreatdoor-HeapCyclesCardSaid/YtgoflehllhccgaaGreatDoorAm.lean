/-
  Layer 9: a cycle comes to its end: what is still to be done grows less.
-/
import Derived.Test.YtgoflehllhccgaaGreatDoorBg


namespace Go.Proofs.YtgoflehllhccgaaGreatDoor

open Go Go.LX
set_option maxRecDepth 100000
set_option linter.unusedVariables false
set_option linter.unusedSimpArgs false

def wt (c : Option Int) : Nat := if c = some 0 then 2 else if c = some 1 then 1 else 0
/-- Twice the white objects, and the grey ones. -/
def mu (R : List Rw) (C : List Int) : Nat := ((objs R).map fun a => wt C[a.toNat]?).sum
theorem sum_le {l : List Int} {f g : Int → Nat} (h : ∀ a ∈ l, f a ≤ g a) : (l.map f).sum ≤ (l.map g).sum := by
  induction l with
  | nil => exact Nat.le_refl _
  | cons x l ih =>
    have h1 := h x (List.mem_cons_self ..)
    have h2 := ih fun a ha => h a (List.mem_cons_of_mem _ ha)
    simp only [List.map_cons, List.sum_cons]
    omega
theorem sum_lt {l : List Int} {f g : Int → Nat} (h : ∀ a ∈ l, f a ≤ g a) {b : Int} (hb : b ∈ l) (hlt : f b < g b) : (l.map f).sum < (l.map g).sum := by
  induction l with
  | nil => cases hb
  | cons x l ih =>
    have h1 := h x (List.mem_cons_self ..)
    have h2 := sum_le (l := l) (f := f) (g := g) fun a ha => h a (List.mem_cons_of_mem _ ha)
    simp only [List.map_cons, List.sum_cons]
    rcases List.mem_cons.1 hb with rfl | hb
    · omega
    · have := ih (fun a ha => h a (List.mem_cons_of_mem _ ha)) hb
      omega
theorem mu_le_len (R : List Rw) (C : List Int) : mu R C ≤ 2 * (objs R).length := by
  unfold mu
  generalize objs R = l
  induction l with
  | nil => exact Nat.le_refl _
  | cons x l ih =>
    simp only [List.map_cons, List.sum_cons, List.length_cons]
    have : wt C[x.toNat]? ≤ 2 := by unfold wt; split; · omega
                                    · split <;> omega
    omega
/-- Colours that went on: white may become grey, or black, grey black. -/
def COn (C C' : List Int) : Prop := ∀ p : Nat, wt C'[p]? ≤ wt C[p]?
theorem COn.refl (C : List Int) : COn C C := fun _ => Nat.le_refl _
theorem COn.trans {A B C : List Int} (h : COn A B) (k : COn B C) : COn A C := fun p => Nat.le_trans (k p) (h p)
theorem COn.mu {C C' : List Int} (h : COn C C') (R : List Rw) : mu R C' ≤ mu R C := sum_le fun a _ => h a.toNat
theorem set_on {C : List Int} {q : Nat} {c : Int} (h : wt (some c) ≤ wt C[q]?) : COn C (C.set q c) := by
  intro p
  by_cases e : q = p
  · subst e
    by_cases hl : q < C.length
    · rw [List.getElem?_set_self hl]; exact h
    · rw [List.getElem?_eq_none (by rw [List.length_set]; omega)]; unfold wt; simp
  · rw [List.getElem?_set_ne e]; exact Nat.le_refl _
theorem shade_on (R : List Rw) (ph a : Int) (s : List Int × List Int × Bool) : COn s.1 (shade R ph a s).1 := by
  unfold shade
  split
  · rename_i hc
    refine set_on (C := s.1) (q := a.toNat) (c := 1) ?_
    rw [hc.2.2]; decide
  · exact COn.refl _
theorem shadeW_on (R : List Rw) (ph w : Int) (s : List Int × List Int × Bool) : COn s.1 (shadeW R ph w s).1 := by
  unfold shadeW
  split
  · exact shade_on _ _ _ _
  · exact COn.refl _
/-- What is grey stays so where something is shaded. -/
theorem shade_grey (R : List Rw) (ph a : Int) (s : List Int × List Int × Bool) (p : Nat) (h : s.1[p]? = some 1) : (shade R ph a s).1[p]? = some 1 := by
  unfold shade
  split
  · rename_i hc
    show (s.1.set a.toNat 1)[p]? = some 1
    rw [List.getElem?_set_ne ?_]
    · exact h
    · intro e; rw [← e, hc.2.2] at h; exact absurd (Option.some.inj h) (by decide)
  · exact h
theorem shadeW_grey (R : List Rw) (ph w : Int) (s : List Int × List Int × Bool) (p : Nat) (h : s.1[p]? = some 1) : (shadeW R ph w s).1[p]? = some 1 := by
  unfold shadeW
  split
  · exact shade_grey _ _ _ _ _ h
  · exact h
theorem fold_on (R : List Rw) (ph : Int) : ∀ (X : List Int) (s : List Int × List Int × Bool), COn s.1 (X.foldl (fun s w => shadeW R ph w s) s).1
  | [], s => COn.refl _
  | w :: X, s => (shadeW_on R ph w s).trans (fold_on R ph X _)
theorem fold_grey (R : List Rw) (ph : Int) : ∀ (X : List Int) (s : List Int × List Int × Bool) (p : Nat), s.1[p]? = some 1 → (X.foldl (fun s w => shadeW R ph w s) s).1[p]? = some 1
  | [], s, p, h => h
  | w :: X, s, p, h => fold_grey R ph X _ p (shadeW_grey R ph w s p h)
/-- The list of the grey ones: objects, grey, each once. -/
structure GOk (R : List Rw) (C G : List Int) : Prop where
  obj : ∀ x ∈ G, x ∈ objs R
  grey : ∀ x ∈ G, C[x.toNat]? = some 1
  once : G.Nodup
theorem shade_gok {R : List Rw} {ph a : Int} {s : List Int × List Int × Bool} (h : GOk R s.1 s.2.1) : GOk R (shade R ph a s).1 (shade R ph a s).2.1 := by
  have hg := fun x hx => shade_grey R ph a s _ (h.grey x hx)
  unfold shade at hg ⊢
  split
  · rename_i hc
    rw [if_pos hc] at hg
    have hl := (List.getElem?_eq_some_iff.1 hc.2.2).1
    dsimp only at hg ⊢
    split
    · dsimp only
      refine ⟨fun x hx => ?_, fun x hx => ?_, ?_⟩
      · rcases List.mem_append.1 hx with hx | hx
        · exact h.obj x hx
        · rw [List.mem_singleton.1 hx]; exact hc.2.1
      · rcases List.mem_append.1 hx with hx | hx
        · exact hg x hx
        · rw [List.mem_singleton.1 hx]; exact List.getElem?_set_self hl
      · rw [List.nodup_append]
        refine ⟨h.once, by simp, fun x hx y hy e => ?_⟩
        rw [List.mem_singleton.1 hy] at e
        subst e
        have := h.grey x hx
        rw [hc.2.2] at this
        exact absurd (Option.some.inj this) (by decide)
    · exact ⟨h.obj, hg, h.once⟩
  · rename_i hc
    rw [if_neg hc] at hg
    exact h
theorem shadeW_gok {R : List Rw} {ph w : Int} {s : List Int × List Int × Bool} (h : GOk R s.1 s.2.1) : GOk R (shadeW R ph w s).1 (shadeW R ph w s).2.1 := by
  unfold shadeW
  split
  · exact shade_gok h
  · exact h
theorem fold_gok {R : List Rw} {ph : Int} : ∀ (X : List Int) (s : List Int × List Int × Bool), GOk R s.1 s.2.1 → GOk R (X.foldl (fun s w => shadeW R ph w s) s).1 (X.foldl (fun s w => shadeW R ph w s) s).2.1
  | [], s, h => h
  | w :: X, s, h => fold_gok X _ (shadeW_gok h)
theorem shade_black (R : List Rw) (ph a : Int) (s : List Int × List Int × Bool) (p : Nat) (h : s.1[p]? = some 2) : (shade R ph a s).1[p]? = some 2 := by
  unfold shade
  split
  · rename_i hc
    show (s.1.set a.toNat 1)[p]? = some 2
    rw [List.getElem?_set_ne ?_]
    · exact h
    · intro e; rw [← e, hc.2.2] at h; exact absurd (Option.some.inj h) (by decide)
  · exact h
theorem shadeW_black (R : List Rw) (ph w : Int) (s : List Int × List Int × Bool) (p : Nat) (h : s.1[p]? = some 2) : (shadeW R ph w s).1[p]? = some 2 := by
  unfold shadeW
  split
  · exact shade_black _ _ _ _ _ h
  · exact h
theorem fold_black (R : List Rw) (ph : Int) : ∀ (X : List Int) (s : List Int × List Int × Bool) (p : Nat), s.1[p]? = some 2 → (X.foldl (fun s w => shadeW R ph w s) s).1[p]? = some 2
  | [], s, p, h => h
  | w :: X, s, p, h => fold_black R ph X _ p (shadeW_black R ph w s p h)
theorem shade_new {R : List Rw} {ph a : Int} {s : List Int × List Int × Bool} {x : Int} (h : x ∈ (shade R ph a s).2.1) : x ∈ s.2.1 ∨ s.1[x.toNat]? = some 0 := by
  unfold shade at h
  split at h
  · rename_i hc
    dsimp only at h
    split at h
    · rcases List.mem_append.1 h with h | h
      · exact .inl h
      · rw [List.mem_singleton.1 h]; exact .inr hc.2.2
    · exact .inl h
  · exact .inl h
theorem shadeW_new {R : List Rw} {ph w : Int} {s : List Int × List Int × Bool} {x : Int} (h : x ∈ (shadeW R ph w s).2.1) : x ∈ s.2.1 ∨ s.1[x.toNat]? = some 0 := by
  unfold shadeW at h
  split at h
  · exact shade_new h
  · exact .inl h
theorem fold_new {R : List Rw} {ph : Int} : ∀ (X : List Int) (s : List Int × List Int × Bool) (x : Int), x ∈ (X.foldl (fun s w => shadeW R ph w s) s).2.1 → x ∈ s.2.1 ∨ s.1[x.toNat]? = some 0
  | [], s, x, h => .inl h
  | w :: X, s, x, h => by
    rcases fold_new X _ x h with h | h
    · exact shadeW_new h
    · exact .inr ((shadeW_le R ph w s).1 _ h)
/-- How a heap stands while its first cycle goes on, and behind it. -/
def CyI (R : List Rw) (C G : List Int) (ph sp cy N : Int) : Prop := (ph = 1 ∧ GOk R C G ∧ cy = 0) ∨ (ph = 2 ∧ cy = 0 ∧ 0 ≤ sp ∧ sp < N) ∨ (ph = 0 ∧ cy = 1)
/-- So many steps are left, at most. -/
def left_ (R : List Rw) (C : List Int) (ph sp N : Int) : Int := if ph = 1 then (mu R C : Int) + 1 + N else if ph = 2 then N - sp else 0
theorem marked_cy {R : List Rw} {ws ws' C C' G G' : List Int} {ov ov' : Bool} {sp p s N : Int} {out : List Gn} (hA : AOk R ws) (hCl : (C.length : Int) = 32 * R.length) (hN : 1 ≤ N) (h : GOk R C G) (hm : Marked R ws C G ov sp out p s ws' C' G' ov') :
    CyI R C' G' p s 0 N ∧ left_ R C' p s N < left_ R C 1 sp N ∧ ∀ q : Nat, C[q]? = some 2 → C'[q]? = some 2 := by
  cases hm with
  | scan v A X _ _ o1 _ hg hX hs =>
    have hC : C' = (X.foldl (fun s w => shadeW R 1 w s) (C, A, o1)).1.set v.toNat 2 := congrArg Prod.fst hs
    have hG : G' = (X.foldl (fun s w => shadeW R 1 w s) (C, A, o1)).2.1 := congrArg (fun x => x.2.1) hs
    obtain ⟨hv, hv1, hA', hvA⟩ : v ∈ objs R ∧ C[v.toNat]? = some 1 ∧ GOk R C A ∧ v ∉ A := by
      cases hg with
      | pop _ _ hGA =>
        have hn := h.once
        rw [hGA, List.nodup_append] at hn
        exact ⟨h.obj v (by rw [hGA]; simp), h.grey v (by rw [hGA]; simp), ⟨fun x hx => h.obj x (by rw [hGA]; exact List.mem_append_left _ hx), fun x hx => h.grey x (by rw [hGA]; exact List.mem_append_left _ hx), hn.1⟩, fun hk => hn.2.2 v hk v (by simp) rfl⟩
      | found _ _ _ _ ha hc _ => exact ⟨List.mem_of_getElem? ha, hc, ⟨fun x hx => (by cases hx), fun x hx => (by cases hx), List.nodup_nil⟩, fun hk => by cases hk⟩
    have hon := fold_on R 1 X (C, A, o1)
    have hgr := fold_grey R 1 X (C, A, o1)
    have hbl := fold_black R 1 X (C, A, o1)
    have hok := fold_gok (R := R) (ph := 1) X (C, A, o1) hA'
    have hnew := fold_new (R := R) (ph := 1) X (C, A, o1)
    generalize (X.foldl (fun s w => shadeW R 1 w s) (C, A, o1)) = F at hC hG hon hgr hbl hok hnew
    have hFv := hgr _ hv1
    have hFl := (List.getElem?_eq_some_iff.1 hFv).1
    have hself : C'[v.toNat]? = some 2 := by rw [hC]; exact List.getElem?_set_self hFl
    have hset : COn F.1 C' := by rw [hC]; exact set_on (by rw [show wt (some (2 : Int)) = 0 by decide]; exact Nat.zero_le _)
    have hlt : mu R C' < mu R C := by
      refine sum_lt (fun a _ => (hon.trans hset) a.toNat) hv ?_
      rw [hself, hv1]; decide
    refine ⟨.inl ⟨rfl, ⟨fun x hx => hok.obj x (hG ▸ hx), fun x hx => ?_, by rw [hG]; exact hok.once⟩, rfl⟩, ?_, fun q hq => ?_⟩
    · have hx : x ∈ F.2.1 := hG ▸ hx
      have hxv : x ≠ v := by
        rintro rfl
        rcases hnew x hx with q | q
        · exact hvA q
        · have q : C[x.toNat]? = some 0 := q
          rw [hv1] at q; exact absurd (Option.some.inj q) (by decide)
      have b1 := obj_bd hA (hok.obj x hx)
      have b2 := obj_bd hA hv
      rw [hC, List.getElem?_set_ne (by omega)]
      exact hok.grey x hx
    · unfold left_
      rw [if_pos rfl, if_pos rfl]
      omega
    · by_cases e : v.toNat = q
      · rw [← e]; exact hself
      · rw [hC, List.getElem?_set_ne e]; exact hbl q hq
  | keep a A X _ _ _ o1 _ hg hf hX hst hs =>
    have hC : C' = (shade R 1 a (C, A, o1)).1 := congrArg Prod.fst hs
    have hG : G' = (shade R 1 a (C, A, o1)).2.1 := congrArg (fun x => x.2.1) hs
    have hA0 : A = [] := by cases hg <;> rfl
    obtain ⟨hao, ha0⟩ : a ∈ objs R ∧ C[a.toNat]? = some 0 := by
      cases hf with
      | found _ _ ha hd _ => exact ⟨List.mem_of_getElem? ha, hd.2.1⟩
    have hA' : GOk R C A := by rw [hA0]; exact ⟨fun x hx => (by cases hx), fun x hx => (by cases hx), List.nodup_nil⟩
    have hok := shade_gok (R := R) (ph := 1) (a := a) (s := (C, A, o1)) hA'
    have hl := (List.getElem?_eq_some_iff.1 ha0).1
    have hself : C'[a.toNat]? = some 1 := by
      rw [hC]; unfold shade
      rw [if_pos ⟨rfl, hao, ha0⟩]
      exact List.getElem?_set_self hl
    have hlt : mu R C' < mu R C := by
      refine sum_lt (fun b _ => by rw [hC]; exact shade_on R 1 a (C, A, o1) b.toNat) hao ?_
      rw [hself, ha0]; decide
    refine ⟨.inl ⟨rfl, by rw [hC, hG]; exact hok, rfl⟩, ?_, fun q hq => by rw [hC]; exact shade_black R 1 a (C, A, o1) q hq⟩
    unfold left_
    rw [if_pos rfl, if_pos rfl]
    omega
  | sweep A o1 hg hf =>
    refine ⟨.inr (.inl ⟨rfl, rfl, Int.le_refl _, by omega⟩), ?_, fun q hq => hq⟩
    unfold left_
    rw [if_neg (by decide), if_pos rfl, if_pos rfl]
    omega
theorem stepd_cy {R R' : List Rw} {ws ws' C C' G G' at_ : List Int} {ov ov' : Bool} {ph sp cy W N p s y : Int} {out : List Gn} (hA : AOk R ws) (hCl : (C.length : Int) = 32 * R.length) (hN : 1 ≤ N) (hW : W = 32 * N) (h : CyI R C G ph sp cy N) (hat : ∀ x ∈ at_, x ∈ objs R ∧ (ph ≠ 0 → C[x.toNat]? = some 2)) (hs : Stepd R ws C G ov ph sp cy W out R' ws' C' G' ov' p s y) :
    CyI R' C' G' p s y N ∧ (ph ≠ 0 → left_ R' C' p s N < left_ R C ph sp N) ∧ (∀ x ∈ at_, x ∈ objs R' ∧ (p ≠ 0 → C'[x.toNat]? = some 2)) := by
  cases hs with
  | mark _ _ _ _ _ _ _ hp hm =>
    subst hp
    rcases h with ⟨_, hg, rfl⟩ | ⟨q, _⟩ | ⟨q, _⟩
    · obtain ⟨h1, h2, h3⟩ := marked_cy hA hCl hN hg hm
      exact ⟨h1, fun _ => h2, fun x hx => ⟨(hat x hx).1, fun _ => h3 _ ((hat x hx).2 (by decide))⟩⟩
    · exact absurd q (by decide)
    · exact absurd q (by decide)
  | sweep _ _ hp hs =>
    subst hp
    rcases h with ⟨q, _⟩ | ⟨_, rfl, h0, h1⟩ | ⟨q, _⟩
    · exact absurd q (by decide)
    · have f := hs.facts hA
      refine ⟨?_, fun _ => ?_, fun x hx => ⟨(f.left x).2 ⟨(hat x hx).1, fun hk => ?_⟩, fun _ => (hat x hx).2 (by decide)⟩⟩
      · unfold swPh swCy
        split
        · exact .inr (.inr ⟨rfl, by omega⟩)
        · exact .inr (.inl ⟨rfl, rfl, by omega, by omega⟩)
      · unfold left_ swPh
        split
        · (repeat (first | rw [if_neg (by decide)] | rw [if_pos rfl])); omega
        · (repeat (first | rw [if_neg (by decide)] | rw [if_pos rfl])); omega
      · have := ((f.mem x).1 hk).2.2.2
        rw [(hat x hx).2 (by decide)] at this
        exact absurd (Option.some.inj this) (by decide)
    · exact absurd q (by decide)
  | idle h1 h2 =>
    rcases h with ⟨q, _⟩ | ⟨q, _⟩ | ⟨q, hc⟩
    · exact absurd q h1
    · exact absurd q h2
    · exact ⟨.inr (.inr ⟨q, hc⟩), fun k => absurd q k, fun x hx => ⟨(hat x hx).1, fun k => absurd q k⟩⟩
theorem left_le {R : List Rw} {C : List Int} {ph sp N : Int} (hsp : 0 ≤ sp) (hN : 0 ≤ N) : left_ R C ph sp N ≤ 2 * (objs R).length + 1 + N := by
  have := mu_le_len R C
  unfold left_
  split
  · omega
  · split <;> omega
end Go.Proofs.YtgoflehllhccgaaGreatDoor
