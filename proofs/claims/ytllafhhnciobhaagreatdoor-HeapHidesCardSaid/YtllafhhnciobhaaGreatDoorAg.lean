/-
  Layer 7: awake, ArenaRefuses.
-/
import Derived.Test.YtllafhhnciobhaaGreatDoorAf

namespace Go.Proofs.YtllafhhnciobhaaGreatDoor

open Go Go.LX
set_option maxRecDepth 100000
set_option linter.unusedVariables false
set_option linter.unusedSimpArgs false

theorem spanNew_arg (n : Int) (hn : n < 2) : CallF (fun _ => Tryz.prog) 73 [.p (.int .i64 (.sym n))] [] 0 (fun r h m => r = .tup [.p .nilp, .p (.int .i64 (.sym 1))] ∧ h = [] ∧ m = 0) := by
  refine callF_of_body tok Tryz.func73 (by kernel_rfl) rfl rfl rfl ?_; conv => cbv
  refine Br.mk (fun g => ?_) (fun g => ?_)
  · conv => cbv
    refine RetF.mk [.p .nilp, .p (.int .i64 (.sym 1))] [] 0 (Re.at [] []) rfl ⟨rfl, rfl, rfl⟩
  · have gf : False := g hn
    cases gf
theorem newA_arg (n : Int) (hn : n < 2) : CallF (fun _ => Tryz.prog) 40 [.p (.int .i64 (.sym n))] [] 0 (fun r h m => r = .tup [.p .nilp, .p (.int .i64 (.sym 1))] ∧ h = [] ∧ m = 0) := by
  refine callF_of_body tok Tryz.func40 (by kernel_rfl) rfl rfl rfl ?_; conv => cbv
  refine callF_frame (spanNew_arg n hn) [] rfl trivial rfl rfl (fun r h' n' ⟨e1, e2, e3⟩ => ?_)
  subst e1 e2 e3
  conv => cbv
  refine Br.mk (fun g => ?_) (fun g => ?_)
  case refine_2 =>
    have gf : False := g (by decide)
    cases gf
  conv => cbv
  refine RetF.mk [.p .nilp, .p (.int .i64 (.sym 1))] [] 0 (Re.at [] []) rfl ⟨rfl, rfl, rfl⟩
theorem Kept.det {R : List Rw} {ws : List Int} {a k l k' l' : Int} (h : Kept R ws a k l) (h' : Kept R ws a k' l') : k' = k ∧ l' = l := by
  obtain ⟨w, _, h1, h2, h3, h4, _⟩ := h
  obtain ⟨w', _, h1', h2', h3', h4', _⟩ := h'
  rw [h1] at h1'
  have h1' : k + 16 * l = k' + 16 * l' := Option.some.inj h1'
  omega
theorem Kept.obj {R : List Rw} {ws : List Int} {a k l : Int} (h : Kept R ws a k l) : IsObj R a := by
  obtain ⟨w, h, _⟩ := h
  exact isObj_iff.2 ⟨w, h⟩
theorem kindR_of {R : List Rw} {ws : List Int} {a k l v : Int} (h : Kept R ws a k l) (hv : KindR R ws a v) : v = k := by
  cases hv with
  | no hn => exact absurd h.obj hn
  | is k' l' h' => exact (h.det h').1
theorem lenR_of {R : List Rw} {ws : List Int} {a k l v : Int} (h : Kept R ws a k l) (hv : LenR R ws a v) : v = l := by
  cases hv with
  | no hn => exact absurd h.obj hn
  | is k' l' h' => exact (h.det h').2
theorem stored_of {R : List Rw} {ws ws' : List Int} {a k l i x e : Int} (h : Kept R ws a k l) (hi : 0 ≤ i ∧ i < l) (hv : Stored R ws a i x e ws') : e = 0 ∧ ws' = ws.set (a + 1 + i).toNat x := by
  cases hv with
  | none hn => exact absurd h.obj hn
  | arg k' l' h' hi' => rw [(h.det h').2] at hi'; exact absurd hi hi'
  | ok k' l' h' hi' => exact ⟨rfl, rfl⟩
theorem loaded_of {R : List Rw} {ws : List Int} {a k l i x e : Int} (h : Kept R ws a k l) (hi : 0 ≤ i ∧ i < l) (hv : Loaded R ws a i x e) : e = 0 ∧ ws[(a + 1 + i).toNat]? = some x := by
  cases hv with
  | none hn => exact absurd h.obj hn
  | arg k' l' h' hi' => rw [(h.det h').2] at hi'; exact absurd hi hi'
  | ok k' l' x' h' hi' hx => exact ⟨rfl, hx⟩
/-- What was allotted: an object, all noughts, where there was none. -/
theorem alloct_ok {R R' : List Rw} {ws ws' : List Int} {kind n a e : Int} (hA : AOk R ws) (h : Alloct R ws kind n a e R' ws') (he : e = 0) :
    Kept R' ws' a kind n ∧ ¬ IsObj R a ∧ objCount R' = objCount R + 1 ∧ (∀ i, 0 ≤ i → i < n → ws'[(a + 1 + i).toNat]? = some 0) ∧ (∀ b k l, Kept R ws b k l → Kept R' ws' b k l) ∧ (∀ b, IsObj R' b → b = a ∨ IsObj R b) ∧ (∀ b k l i, Kept R ws b k l → 0 ≤ i → i < l → ws'[(b + 1 + i).toNat]? = ws[(b + 1 + i).toNat]?) := by
  cases h with
  | arg h => exact absurd he (by decide)
  | room i s R' h ha => exact absurd he (by decide)
  | ok i s _ R' h ha hi hat =>
    have hA' := (AOk.alloct hA (Alloct.ok i s a R' h ha hi hat)).1
    obtain ⟨w, hw⟩ : ∃ w, w = wordsOf (ofN n) := ⟨_, rfl⟩
    obtain ⟨h1, h2, h3, h4, h5⟩ := alloc_objs hA.rows ha a w (by rw [hat]) hw
    have hobj : ObjAt R' a w := (h5 _ _).2 (.inr ⟨rfl, rfl⟩)
    obtain ⟨f1, f2, f3, _⟩ := hobj.facts h1
    have hnw : n < w := by rw [hw]; exact (ofN_words ⟨h.1, h.2.1⟩).1
    have hlen := hA.len
    have hget : ∀ j, j < ws.length → (zer (ws.set a.toNat (kind + 16 * n)) (a.toNat + 1) n.toNat)[j]? = if a.toNat + 1 ≤ j ∧ j < a.toNat + 1 + n.toNat then some 0 else (ws.set a.toNat (kind + 16 * n))[j]? := fun j hj => zer_get _ _ _ _ (by rw [List.length_set]; exact hj)
    have hfar : ∀ j, j < ws.length → (j : Int) < a ∨ a + w ≤ j → (zer (ws.set a.toNat (kind + 16 * n)) (a.toNat + 1) n.toNat)[j]? = ws[j]? := by
      intro j hj hfar
      rw [hget j hj, if_neg (by omega), List.getElem?_set_ne (by omega)]
    refine ⟨?_, h4, h3, ?_, ?_, ?_, ?_⟩
    · refine .mk kind n w hobj ?_ (by omega) (by omega) h.1 hnw
      rw [hget _ (by omega), if_neg (by omega), List.getElem?_set_self (by omega)]
    · intro j hj0 hj1
      rw [hget _ (by omega), if_pos (by omega)]
    · rintro b k l ⟨v, hb, hx, g1, g2, g3, g4⟩
      have hb' := (h5 b v).2 (.inl hb)
      have hne : b ≠ a := fun e => h4 (isObj_iff.2 ⟨v, e ▸ hb⟩)
      obtain ⟨q1, q2, q3, _⟩ := hb'.facts h1
      refine .mk k l v hb' ?_ g1 g2 g3 g4
      rw [hfar _ (by omega) (by rcases hobj.apart h1 hb' with ⟨h, _⟩ | h | h <;> omega)]
      exact hx
    · intro b hb
      obtain ⟨v, hb⟩ := isObj_iff.1 hb
      rcases (h5 b v).1 hb with hb | ⟨hb, _⟩
      · exact .inr (isObj_iff.2 ⟨v, hb⟩)
      · exact .inl hb
    · rintro b k l j ⟨v, hb, hx, g1, g2, g3, g4⟩ hj0 hj1
      have hb' := (h5 b v).2 (.inl hb)
      have hne : b ≠ a := fun e => h4 (isObj_iff.2 ⟨v, e ▸ hb⟩)
      obtain ⟨q1, q2, q3, _⟩ := hb'.facts h1
      exact hfar _ (by omega) (by rcases hobj.apart h1 hb' with ⟨h, _⟩ | h | h <;> omega)
theorem alloct_err {R R' : List Rw} {ws ws' : List Int} {kind n a e : Int} (hA : AOk R ws) (h : Alloct R ws kind n a e R' ws') (hroom : objCount R < R.length) : e = if 0 ≤ n ∧ n ≤ 31 ∧ 1 ≤ kind ∧ kind ≤ 6 then 0 else 1 := by
  cases h with
  | arg h => rw [if_neg h]
  | room i s R' h ha => obtain ⟨_, h2⟩ := full_count hA.rows (ofN_slots n) ha; omega
  | ok i s _ R' h ha hi hat => rw [if_pos h]
theorem freet_none {R R' : List Rw} {a e : Int} (h : Freet R a e R') (hn : ¬ IsObj R a) : e = 8 ∧ R = R' := by
  cases h with
  | none h => exact ⟨rfl, rfl⟩
  | ok q s e he hs hat => exact absurd ⟨q, s, e, he, hs, hat⟩ hn
theorem stored_none {R : List Rw} {ws ws' : List Int} {a i x e : Int} (h : Stored R ws a i x e ws') (hn : ¬ IsObj R a) : e = 8 := by
  cases h with
  | none h => rfl
  | arg k l h hi => exact absurd h.obj hn
  | ok k l h hi => exact absurd h.obj hn
theorem rep2 : (List.replicate (2 : Int).toNat ((0, []) : Rw)) = List.replicate 2 (0, []) := rfl
end Go.Proofs.YtllafhhnciobhaaGreatDoor
