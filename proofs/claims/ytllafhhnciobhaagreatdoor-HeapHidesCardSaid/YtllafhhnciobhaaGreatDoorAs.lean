/-
  Layer 7: two arenas alike, behind each thing that is done.
-/
import Derived.Test.YtllafhhnciobhaaGreatDoorAq

import Derived.Test.YtllafhhnciobhaaGreatDoorRe

namespace Go.Proofs.YtllafhhnciobhaaGreatDoor

open Go Go.LX
set_option maxRecDepth 100000
set_option linter.unusedVariables false
set_option linter.unusedSimpArgs false

theorem alloc_gen {R R' : List Rw} {xs xs' : List Int} {kind n i s a w : Int} (hA : AOk R xs) (h : 0 ≤ n ∧ n ≤ 31 ∧ 1 ≤ kind ∧ kind ≤ 6) (ha : Alloced R (ofN n) i s true R') (hat : a = 32 * i + s * wordsOf (ofN n)) (hw : w = wordsOf (ofN n)) (hl : xs'.length = xs.length)
    (hh : xs'[a.toNat]? = some (kind + 16 * n)) (hf : ∀ j : Nat, (j : Int) < a ∨ a + w ≤ j → xs'[j]? = xs[j]?) (hbd : ∀ x ∈ xs', -9223372036854775808 ≤ x ∧ x ≤ 9223372036854775807) :
    AOk R' xs' ∧ Kept R' xs' a kind n ∧ (∀ b k l, Kept R xs b k l → Kept R' xs' b k l ∧ b ≠ a ∧ ∀ i, 0 ≤ i → i < l → xs'[(b + 1 + i).toNat]? = xs[(b + 1 + i).toNat]?) ∧ (∀ b, IsObj R' b → b = a ∨ IsObj R b) := by
  obtain ⟨h1, h2, h3, h4, h5⟩ := alloc_objs hA.rows ha a w hat hw
  have hobj : ObjAt R' a w := (h5 _ _).2 (.inr ⟨rfl, rfl⟩)
  obtain ⟨f1, f2, f3, _⟩ := hobj.facts h1
  have hnw : n < w := by rw [hw]; exact (ofN_words ⟨h.1, h.2.1⟩).1
  have hlen := hA.len
  have hold : ∀ b k l, Kept R xs b k l → Kept R' xs' b k l ∧ b ≠ a ∧ ∀ i, 0 ≤ i → i < l → xs'[(b + 1 + i).toNat]? = xs[(b + 1 + i).toNat]? := by
    rintro b k l ⟨v, hb, hx, g1, g2, g3, g4⟩
    have hb' := (h5 b v).2 (.inl hb)
    have hne : b ≠ a := fun e => h4 (isObj_iff.2 ⟨v, e ▸ hb⟩)
    obtain ⟨q1, q2, q3, _⟩ := hb'.facts h1
    have hap := hobj.apart h1 hb'
    refine ⟨.mk k l v hb' ?_ g1 g2 g3 g4, hne, fun j hj0 hj1 => ?_⟩
    · rw [hf _ (by rcases hap with ⟨h, _⟩ | h | h <;> omega)]; exact hx
    · exact hf _ (by rcases hap with ⟨h, _⟩ | h | h <;> omega)
  have hnew : Kept R' xs' a kind n := .mk kind n w hobj hh (by omega) (by omega) h.1 hnw
  refine ⟨⟨h1, by rw [hl, h2]; exact hlen, hbd, ?_⟩, hnew, hold, ?_⟩
  · intro b v hb
    rcases (h5 b v).1 hb with hb1 | ⟨rfl, rfl⟩
    · obtain ⟨k, l, g1, g2, g3, g4, g5⟩ := hA.hdr b v hb1
      obtain ⟨⟨v', g6, g7, _⟩, _⟩ := hold b k l (.mk k l v hb1 g1 g2 g3 g4 g5)
      exact ⟨k, l, g7, g2, g3, g4, g5⟩
    · exact ⟨kind, n, hh, by omega, by omega, h.1, hnw⟩
  · intro b hb
    obtain ⟨v, hb⟩ := isObj_iff.1 hb
    rcases (h5 b v).1 hb with hb | ⟨hb, _⟩
    · exact .inr (isObj_iff.2 ⟨v, hb⟩)
    · exact .inl hb
/-- What becomes of the reference's arena in which an object is asked for: it clears the whole slot. -/
inductive AlloctV (R : List Rw) (vs : List Int) (kind n : Int) : Int → Int → List Rw → List Int → Prop
  | arg (h : ¬ (0 ≤ n ∧ n ≤ 31 ∧ 1 ≤ kind ∧ kind ≤ 6)) : AlloctV R vs kind n 0 1 R vs
  | room (i s : Int) (R' : List Rw) (h : 0 ≤ n ∧ n ≤ 31 ∧ 1 ≤ kind ∧ kind ≤ 6) (ha : Alloced R (ofN n) i s false R') : AlloctV R vs kind n 0 9 R' vs
  | ok (i s at_ : Int) (R' : List Rw) (h : 0 ≤ n ∧ n ≤ 31 ∧ 1 ≤ kind ∧ kind ≤ 6) (ha : Alloced R (ofN n) i s true R') (hat : at_ = 32 * i + s * wordsOf (ofN n)) :
      AlloctV R vs kind n at_ 0 R' ((zer vs at_.toNat (wordsOf (ofN n)).toNat).set at_.toNat (kind + 16 * n))
theorem Sim.alloc {R R1 R2 : List Rw} {ws vs ws' vs' : List Int} {kind n a1 e1 a2 e2 : Int} (h : Sim R ws vs) (h1 : Alloct R ws kind n a1 e1 R1 ws') (h2 : AlloctV R vs kind n a2 e2 R2 vs') : a1 = a2 ∧ e1 = e2 ∧ R1 = R2 ∧ Sim R1 ws' vs' ∧ R1.length = R.length := by
  cases h1 with
  | arg h1 => cases h2 with
    | arg _ => exact ⟨rfl, rfl, rfl, h, rfl⟩
    | room _ _ _ k _ => exact absurd k h1
    | ok _ _ _ _ k _ _ => exact absurd k h1
  | room i s R' hc ha => cases h2 with
    | arg k => exact absurd hc k
    | room i2 s2 R2 k ha2 =>
      obtain ⟨_, _, _, eR⟩ := ha.det ha2
      subst eR
      obtain ⟨rfl, _⟩ := full_count h.a.rows (ofN_slots n) ha
      exact ⟨rfl, rfl, rfl, h, rfl⟩
    | ok i2 s2 _ R2 k ha2 hat2 => obtain ⟨_, _, hb, _⟩ := ha.det ha2; cases hb
  | ok i s _ R' hc ha hi hat => cases h2 with
    | arg k => exact absurd hc k
    | room i2 s2 R2 k ha2 => obtain ⟨_, _, hb, _⟩ := ha.det ha2; cases hb
    | ok i2 s2 _ R2 k ha2 hat2 =>
      obtain ⟨ei, es, _, eR⟩ := ha.det ha2
      subst ei es eR
      obtain rfl : a2 = a1 := by rw [hat, hat2]
      obtain ⟨w, hw⟩ : ∃ w, w = wordsOf (ofN n) := ⟨_, rfl⟩
      obtain ⟨q1, q2, q3, q4, q5⟩ := alloc_objs h.a.rows ha a2 w hat hw
      have hobj : ObjAt R1 a2 w := (q5 _ _).2 (.inr ⟨rfl, rfl⟩)
      obtain ⟨f1, f2, f3, _⟩ := hobj.facts q1
      have hnw : n < w := by rw [hw]; exact (ofN_words ⟨hc.1, hc.2.1⟩).1
      have hlw := h.a.len
      have hlv := h.b.len
      have hA1 := (h.a.alloct (Alloct.ok i s a2 R1 hc ha hi hat)).1
      have gw : ∀ j : Nat, j < ws.length → (zer (ws.set a2.toNat (kind + 16 * n)) (a2.toNat + 1) n.toNat)[j]? = if a2.toNat + 1 ≤ j ∧ j < a2.toNat + 1 + n.toNat then some 0 else (ws.set a2.toNat (kind + 16 * n))[j]? := fun j hj => zer_get _ _ _ _ (by rw [List.length_set]; exact hj)
      have gv : ∀ j : Nat, j < vs.length → j ≠ a2.toNat → ((zer vs a2.toNat (wordsOf (ofN n)).toNat).set a2.toNat (kind + 16 * n))[j]? = if a2.toNat ≤ j ∧ j < a2.toNat + (wordsOf (ofN n)).toNat then some 0 else vs[j]? := fun j hj hne => by
        rw [List.getElem?_set_ne (fun e => hne e.symm), zer_get _ _ _ _ hj]
      rw [← hw] at gv ⊢
      have farw : ∀ j : Nat, (j : Int) < a2 ∨ a2 + w ≤ j → (zer (ws.set a2.toNat (kind + 16 * n)) (a2.toNat + 1) n.toNat)[j]? = ws[j]? := fun j hj => by
        by_cases hjl : j < ws.length
        · rw [gw j hjl, if_neg (by omega), List.getElem?_set_ne (by omega)]
        · rw [List.getElem?_eq_none (by rw [zer_length, List.length_set]; omega), List.getElem?_eq_none (by omega)]
      have farv : ∀ j : Nat, (j : Int) < a2 ∨ a2 + w ≤ j → ((zer vs a2.toNat w.toNat).set a2.toNat (kind + 16 * n))[j]? = vs[j]? := fun j hj => by
        by_cases hjl : j < vs.length
        · rw [gv j hjl (by omega), if_neg (by omega)]
        · rw [List.getElem?_eq_none (by rw [List.length_set, zer_length]; omega), List.getElem?_eq_none (by omega)]
      obtain ⟨p1, p2, p3, p4⟩ := alloc_gen h.a hc ha hat hw (by rw [zer_length, List.length_set]) (by rw [gw _ (by omega), if_neg (by omega), List.getElem?_set_self (by omega)]) farw hA1.bd
      have hbdv : ∀ x ∈ (zer vs a2.toNat w.toNat).set a2.toNat (kind + 16 * n), -9223372036854775808 ≤ x ∧ x ≤ 9223372036854775807 := by
        intro x hx
        rcases List.mem_or_eq_of_mem_set hx with hx | rfl
        · obtain ⟨j, hj⟩ := List.getElem?_of_mem hx
          have hjl : j < vs.length := by have := (List.getElem?_eq_some_iff.1 hj).1; rw [zer_length] at this; exact this
          rw [zer_get _ _ _ _ hjl] at hj
          split at hj
          · cases hj; omega
          · exact h.b.bd x (List.mem_of_getElem? hj)
        · omega
      obtain ⟨r1, r2, r3, r4⟩ := alloc_gen h.b hc ha hat hw (by rw [List.length_set, zer_length]) (by rw [List.getElem?_set_self (by rw [zer_length]; omega)]) farv hbdv
      refine ⟨rfl, rfl, rfl, ⟨p1, r1, ?_, ?_⟩, q2⟩
      · intro x k' l hk
        rcases p4 x hk.obj6 with rfl | hx
        · obtain ⟨e1, e2⟩ := p2.det6 hk
          rw [e1, e2]; exact r2
        · obtain ⟨k0, l0, hk0⟩ := Kept.of h.a hx
          obtain ⟨e1, e2⟩ := (p3 x k0 l0 hk0).1.det6 hk
          rw [e1, e2]; exact (r3 x k0 l0 (h.hdr x k0 l0 hk0)).1
      · intro x k' l j hk hj0 hj1
        rcases p4 x hk.obj6 with rfl | hx
        · obtain ⟨e1, e2⟩ := p2.det6 hk
          rw [e2] at hj1
          rw [gv _ (by omega) (by omega), if_pos (by omega), gw _ (by omega), if_pos (by omega)]
        · obtain ⟨k0, l0, hk0⟩ := Kept.of h.a hx
          obtain ⟨e1, e2⟩ := (p3 x k0 l0 hk0).1.det6 hk
          rw [e2] at hj1
          rw [(p3 x k0 l0 hk0).2.2 j hj0 hj1, (r3 x k0 l0 (h.hdr x k0 l0 hk0)).2.2 j hj0 hj1]
          exact h.in_ x k0 l0 j hk0 hj0 hj1
theorem Freet.det {R R1 R2 : List Rw} {a e1 e2 : Int} (hR : RowsOk R) (h1 : Freet R a e1 R1) (h2 : Freet R a e2 R2) : e1 = e2 ∧ R1 = R2 := by
  cases h1 with
  | none h => cases h2 with
    | none _ => exact ⟨rfl, rfl⟩
    | ok q s e he hs hat => exact absurd ⟨q, s, e, he, hs, hat⟩ h
  | ok q s e he hs hat => cases h2 with
    | none h => exact absurd ⟨q, s, e, he, hs, hat⟩ h
    | ok q' s' e' he' hs' hat' =>
      have key : ∀ {q s : Nat} {e : Rw}, R[q]? = some e → e.2[s]? = some true → wordsOf e.1 ≠ 0 ∧ (s : Int) * wordsOf e.1 + wordsOf e.1 ≤ 32 ∧ 0 ≤ (s : Int) * wordsOf e.1 := fun {q s e} he hs => by
        have hne : e.2 ≠ [] := by intro e0; rw [e0] at hs; simp at hs
        obtain ⟨g1, g2, _⟩ := (hR _ (List.mem_of_getElem? he)).2 hne
        exact ⟨g1, slots_words g1 (by have := (List.getElem?_eq_some_iff.1 hs).1; omega), Int.mul_nonneg (by omega) (wordsOf_bd _).1⟩
      obtain ⟨k1, k2, k3⟩ := key he hs
      obtain ⟨k1', k2', k3'⟩ := key he' hs'
      have w1 := wordsOf_cases e.1
      have w2 := wordsOf_cases e'.1
      obtain rfl : q = q' := by omega
      rw [he] at he'
      cases he'
      have h8 : (s : Int) * wordsOf e.1 = s' * wordsOf e.1 := by omega
      have h9 := Int.eq_of_mul_eq_mul_right k1 h8
      obtain rfl : s = s' := by omega
      exact ⟨rfl, rfl⟩
theorem Sim.free {R R' : List Rw} {ws vs : List Int} {a e : Int} (h : Sim R ws vs) (hF : Freet R a e R') : Sim R' ws vs ∧ R'.length = R.length := by
  obtain ⟨h1, h2⟩ := h.a.freet hF
  obtain ⟨h3, _⟩ := h.b.freet hF
  have key : (∀ xs x k l, Kept R' xs x k l → Kept R xs x k l) ∧ (∀ xs ys x k l, Kept R' xs x k l → Kept R ys x k l → Kept R' ys x k l) := by
    cases hF with
    | none _ => exact ⟨fun _ _ _ _ hk => hk, fun _ _ _ _ _ _ hk => hk⟩
    | ok q s e he hs hat =>
      obtain ⟨_, _, _, g4⟩ := free_objs h.a.rows he hs a hat
      constructor
      · rintro xs x k l ⟨w, q1, q2, q3, q4, q5, q6⟩
        exact .mk k l w ((g4 x w).1 q1).1 q2 q3 q4 q5 q6
      rintro xs ys x k l ⟨w, q1, q2, q3, q4, q5, q6⟩ ⟨w', r1, r2, r3, r4, r5, r6⟩
      exact .mk k l w' ((g4 x w').2 ⟨r1, ((g4 x w).1 q1).2⟩) r2 r3 r4 r5 r6
  exact ⟨⟨h1, h3, fun x k l hk => key.2 ws vs x k l hk (h.hdr x k l (key.1 ws x k l hk)), fun x k l i hk => h.in_ x k l i (key.1 ws x k l hk)⟩, h2⟩
theorem kept_apart6 {R : List Rw} {ws : List Int} (hA : AOk R ws) {x d k a d' k' m q : Int} (h : Kept R ws x d k) (h' : Kept R ws a d' k') (hne : x ≠ a) (hm : 0 ≤ m ∧ m < k) (hq : 0 ≤ q ∧ q < k') : (a + 1 + q).toNat ≠ (x + 1 + m).toNat := by
  obtain ⟨w, q1, q2, q3, q4, q5, q6⟩ := h
  obtain ⟨w', r1, r2, r3, r4, r5, r6⟩ := h'
  have f1 := q1.facts hA.rows
  have f2 := r1.facts hA.rows
  rcases q1.apart hA.rows r1 with ⟨h, _⟩ | h | h
  · exact absurd h hne
  · omega
  · omega
theorem kept_set6 {R : List Rw} {ws : List Int} (hA : AOk R ws) {x d k a d' k' q y : Int} (h : Kept R ws x d k) (h' : Kept R ws a d' k') (hq : 0 ≤ q ∧ q < k') : Kept R (ws.set (a + 1 + q).toNat y) x d k := by
  obtain ⟨w, q1, q2, q3, q4, q5, q6⟩ := h
  obtain ⟨w', r1, r2, r3, r4, r5, r6⟩ := h'
  have f1 := q1.facts hA.rows
  have f2 := r1.facts hA.rows
  have := within_not hA.rows r1 q1 (j := a + 1 + q) (by omega) (by omega)
  refine .mk d k w q1 ?_ q3 q4 q5 q6
  rw [List.getElem?_set_ne (by omega)]; exact q2
theorem Sim.store {R : List Rw} {ws vs ws' vs' : List Int} {a i x e f : Int} (h : Sim R ws vs) (hx : -9223372036854775808 ≤ x ∧ x ≤ 9223372036854775807) (h1 : Stored R ws a i x e ws') (h2 : Stored R vs a i x f vs') : e = f ∧ Sim R ws' vs' := by
  cases h1 with
  | none hn => cases h2 with
    | none _ => exact ⟨rfl, h⟩
    | arg k l hk _ => exact absurd hk.obj6 hn
    | ok k l hk _ => exact absurd hk.obj6 hn
  | arg k l hk hi => cases h2 with
    | none hn => exact absurd hk.obj6 hn
    | arg _ _ _ _ => exact ⟨rfl, h⟩
    | ok k' l' hk' hi' => exact absurd (by rw [(h.hdr _ _ _ hk).det6 hk' |>.2] at hi'; exact hi') hi
  | ok k l hk hi => cases h2 with
    | none hn => exact absurd hk.obj6 hn
    | arg k' l' hk' hi' => exact absurd hi (by rw [(h.hdr _ _ _ hk).det6 hk' |>.2] at hi'; exact hi')
    | ok k' l' hk' hi' =>
      have hkv := h.hdr _ _ _ hk
      have hA1 := h.a.set hk hi hx
      have hb := hk.bounds h.a
      have hlw := h.a.len
      have hlv := h.b.len
      have back : ∀ y k2 l2, Kept R (ws.set (a + 1 + i).toNat x) y k2 l2 → Kept R ws y k2 l2 := fun y k2 l2 hy => by
        obtain ⟨k0, l0, h0⟩ := Kept.of h.a hy.obj6
        obtain ⟨e1, e2⟩ := (kept_set6 h.a h0 hk hi).det6 hy
        rw [e1, e2]; exact h0
      refine ⟨rfl, ⟨hA1, h.b.set hkv hi hx, fun y k2 l2 hy => kept_set6 h.b (h.hdr y k2 l2 (back y k2 l2 hy)) hkv hi, fun y k2 l2 j hy hj0 hj1 => ?_⟩⟩
      have hy0 := back y k2 l2 hy
      by_cases e : (a + 1 + i).toNat = (y + 1 + j).toNat
      · rw [← e, List.getElem?_set_self (by omega), List.getElem?_set_self (by omega)]
      · rw [List.getElem?_set_ne e, List.getElem?_set_ne e]
        exact h.in_ y k2 l2 j hy0 hj0 hj1
end Go.Proofs.YtllafhhnciobhaaGreatDoor
