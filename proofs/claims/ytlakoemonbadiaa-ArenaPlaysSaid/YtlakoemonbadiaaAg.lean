/-
  Layer 7: awake, ArenaRefuses.
-/
import Derived.Test.YtlakoemonbadiaaAf
namespace Go.Proofs.Ytlakoemonbadiaa
open Go Go.LX
set_option maxRecDepth 100000
set_option linter.unusedVariables false
set_option linter.unusedSimpArgs false

theorem spanNew_arg (n : Int) (hn : n < 2) : CallF (fun _ => Try.prog) 29 [.p (.int .i64 (.sym n))] [] 0 (fun r h m => r = .tup [.p .nilp, .p (.int .i64 (.sym 1))] ∧ h = [] ∧ m = 0) := by
  refine callF_of_body tok Try.func29 (by kernel_rfl) rfl rfl rfl ?_; conv => cbv
  refine Br.mk (fun g => ?_) (fun g => ?_)
  · conv => cbv
    refine RetF.mk [.p .nilp, .p (.int .i64 (.sym 1))] [] 0 (Re.of [] [] (by first | exact Nat.zero_le _ | exact Nat.le_refl _ | decide | (dsimp only; decide)) rfl rfl (by (try (conv => cbv)); (repeat' (first | exact trivial | rfl | exact SEq.mk rfl | (exact SEq.mk (by first | assumption | (symm; assumption))) | (simp only [I.val]; done) | (simp only [I.val]; omega) | omega | assumption | (refine And.intro ?_ ?_) | exact Or.inl rfl | exact Or.inr (by assumption) | exact List.Mem.head _ | exact List.Mem.tail _ (List.Mem.head _) | exact ⟨_, rfl⟩ | exact ⟨_, rfl, Or.inl rfl⟩ | (refine ⟨_, rfl, Or.inr ?_⟩; (try (conv => cbv))) | (simp only [I.val] at *; first | omega | (subst_vars; rfl) | simp_all) | (refine Or.inr ?_; (try (conv => cbv)))))) (by (try (conv => cbv)); (repeat' (first | exact trivial | rfl | exact SEq.mk rfl | (exact SEq.mk (by first | assumption | (symm; assumption))) | (simp only [I.val]; done) | (simp only [I.val]; omega) | omega | assumption | (refine And.intro ?_ ?_) | exact Or.inl rfl | exact Or.inr (by assumption) | exact List.Mem.head _ | exact List.Mem.tail _ (List.Mem.head _) | exact ⟨_, rfl⟩ | exact ⟨_, rfl, Or.inl rfl⟩ | (refine ⟨_, rfl, Or.inr ?_⟩; (try (conv => cbv))) | (simp only [I.val] at *; first | omega | (subst_vars; rfl) | simp_all) | (refine Or.inr ?_; (try (conv => cbv))))))) rfl ⟨rfl, rfl, rfl⟩
  · have gf : False := g hn
    cases gf
theorem newA_arg (n : Int) (hn : n < 2) : CallF (fun _ => Try.prog) 7 [.p (.int .i64 (.sym n))] [] 0 (fun r h m => r = .tup [.p .nilp, .p (.int .i64 (.sym 1))] ∧ h = [] ∧ m = 0) := by
  refine callF_of_body tok Try.func7 (by kernel_rfl) rfl rfl rfl ?_; conv => cbv
  refine callF_frame (spanNew_arg n hn) [] rfl trivial rfl rfl (fun r h' n' ⟨e1, e2, e3⟩ => ?_)
  subst e1 e2 e3
  conv => cbv
  refine Br.mk (fun g => ?_) (fun g => ?_)
  case refine_2 =>
    have gf : False := g (by decide)
    cases gf
  conv => cbv
  refine RetF.mk [.p .nilp, .p (.int .i64 (.sym 1))] [] 0 (Re.of [] [] (by first | exact Nat.zero_le _ | exact Nat.le_refl _ | decide | (dsimp only; decide)) rfl rfl (by (try (conv => cbv)); (repeat' (first | exact trivial | rfl | exact SEq.mk rfl | (exact SEq.mk (by first | assumption | (symm; assumption))) | (simp only [I.val]; done) | (simp only [I.val]; omega) | omega | assumption | (refine And.intro ?_ ?_) | exact Or.inl rfl | exact Or.inr (by assumption) | exact List.Mem.head _ | exact List.Mem.tail _ (List.Mem.head _) | exact ⟨_, rfl⟩ | exact ⟨_, rfl, Or.inl rfl⟩ | (refine ⟨_, rfl, Or.inr ?_⟩; (try (conv => cbv))) | (simp only [I.val] at *; first | omega | (subst_vars; rfl) | simp_all) | (refine Or.inr ?_; (try (conv => cbv)))))) (by (try (conv => cbv)); (repeat' (first | exact trivial | rfl | exact SEq.mk rfl | (exact SEq.mk (by first | assumption | (symm; assumption))) | (simp only [I.val]; done) | (simp only [I.val]; omega) | omega | assumption | (refine And.intro ?_ ?_) | exact Or.inl rfl | exact Or.inr (by assumption) | exact List.Mem.head _ | exact List.Mem.tail _ (List.Mem.head _) | exact ⟨_, rfl⟩ | exact ⟨_, rfl, Or.inl rfl⟩ | (refine ⟨_, rfl, Or.inr ?_⟩; (try (conv => cbv))) | (simp only [I.val] at *; first | omega | (subst_vars; rfl) | simp_all) | (refine Or.inr ?_; (try (conv => cbv))))))) rfl ⟨rfl, rfl, rfl⟩
theorem Kept.det {R : List Rw} {ws : List Int} {a k l k' l' : Int} (h : Kept R ws a k l) (h' : Kept R ws a k' l') : k' = k ∧ l' = l := by
  obtain ⟨w, _, h1, h2, h3, h4, _⟩ := h
  obtain ⟨w', _, h1', h2', h3', h4', _⟩ := h'
  rw [h1] at h1'
  have h1' : k + 16 * l = k' + 16 * l' := Option.some.inj h1'
  omega
theorem Kept.obj {R : List Rw} {ws : List Int} {a k l : Int} (h : Kept R ws a k l) : IsObj R a := by
  obtain ⟨w, h, _⟩ := h
  exact isObj_iff.2 ⟨w, h⟩
theorem kindR_of {R : List Rw} {ws : List Int} {a k l v : Int} (h : Kept R ws a k l) (hv : KindR R ws a v) : v = k := by
  cases hv with
  | no hn => exact absurd h.obj hn
  | is k' l' h' => exact (h.det h').1
theorem lenR_of {R : List Rw} {ws : List Int} {a k l v : Int} (h : Kept R ws a k l) (hv : LenR R ws a v) : v = l := by
  cases hv with
  | no hn => exact absurd h.obj hn
  | is k' l' h' => exact (h.det h').2
theorem stored_of {R : List Rw} {ws ws' : List Int} {a k l i x e : Int} (h : Kept R ws a k l) (hi : 0 ≤ i ∧ i < l) (hv : Stored R ws a i x e ws') : e = 0 ∧ ws' = ws.set (a + 1 + i).toNat x := by
  cases hv with
  | none hn => exact absurd h.obj hn
  | arg k' l' h' hi' => rw [(h.det h').2] at hi'; exact absurd hi hi'
  | ok k' l' h' hi' => exact ⟨rfl, rfl⟩
theorem loaded_of {R : List Rw} {ws : List Int} {a k l i x e : Int} (h : Kept R ws a k l) (hi : 0 ≤ i ∧ i < l) (hv : Loaded R ws a i x e) : e = 0 ∧ ws[(a + 1 + i).toNat]? = some x := by
  cases hv with
  | none hn => exact absurd h.obj hn
  | arg k' l' h' hi' => rw [(h.det h').2] at hi'; exact absurd hi hi'
  | ok k' l' x' h' hi' hx => exact ⟨rfl, hx⟩
/-- What was allotted: an object, all noughts, where there was none. -/
theorem alloct_ok {R R' : List Rw} {ws ws' : List Int} {kind n a e : Int} (hA : AOk R ws) (h : Alloct R ws kind n a e R' ws') (he : e = 0) :
    Kept R' ws' a kind n ∧ ¬ IsObj R a ∧ objCount R' = objCount R + 1 ∧ (∀ i, 0 ≤ i → i < n → ws'[(a + 1 + i).toNat]? = some 0) ∧ (∀ b k l, Kept R ws b k l → Kept R' ws' b k l) ∧ (∀ b, IsObj R' b → b = a ∨ IsObj R b) ∧ (∀ b k l i, Kept R ws b k l → 0 ≤ i → i < l → ws'[(b + 1 + i).toNat]? = ws[(b + 1 + i).toNat]?) := by
  cases h with
  | arg h => exact absurd he (by decide)
  | room i s R' h ha => exact absurd he (by decide)
  | ok i s _ R' h ha hi hat =>
    have hA' := (AOk.alloct hA (Alloct.ok i s a R' h ha hi hat)).1
    obtain ⟨w, hw⟩ : ∃ w, w = wordsOf (ofN n) := ⟨_, rfl⟩
    obtain ⟨h1, h2, h3, h4, h5⟩ := alloc_objs hA.rows ha a w (by rw [hat]) hw
    have hobj : ObjAt R' a w := (h5 _ _).2 (.inr ⟨rfl, rfl⟩)
    obtain ⟨f1, f2, f3, _⟩ := hobj.facts h1
    have hnw : n < w := by rw [hw]; exact (ofN_words ⟨h.1, h.2.1⟩).1
    have hlen := hA.len
    have hget : ∀ j, j < ws.length → (zer (ws.set a.toNat (kind + 16 * n)) (a.toNat + 1) n.toNat)[j]? = if a.toNat + 1 ≤ j ∧ j < a.toNat + 1 + n.toNat then some 0 else (ws.set a.toNat (kind + 16 * n))[j]? := fun j hj => zer_get _ _ _ _ (by rw [List.length_set]; exact hj)
    have hfar : ∀ j, j < ws.length → (j : Int) < a ∨ a + w ≤ j → (zer (ws.set a.toNat (kind + 16 * n)) (a.toNat + 1) n.toNat)[j]? = ws[j]? := by
      intro j hj hfar
      rw [hget j hj, if_neg (by omega), List.getElem?_set_ne (by omega)]
    refine ⟨?_, h4, h3, ?_, ?_, ?_, ?_⟩
    · refine .mk kind n w hobj ?_ (by omega) (by omega) h.1 hnw
      rw [hget _ (by omega), if_neg (by omega), List.getElem?_set_self (by omega)]
    · intro j hj0 hj1
      rw [hget _ (by omega), if_pos (by omega)]
    · rintro b k l ⟨v, hb, hx, g1, g2, g3, g4⟩
      have hb' := (h5 b v).2 (.inl hb)
      have hne : b ≠ a := fun e => h4 (isObj_iff.2 ⟨v, e ▸ hb⟩)
      obtain ⟨q1, q2, q3, _⟩ := hb'.facts h1
      refine .mk k l v hb' ?_ g1 g2 g3 g4
      rw [hfar _ (by omega) (by rcases hobj.apart h1 hb' with ⟨h, _⟩ | h | h <;> omega)]
      exact hx
    · intro b hb
      obtain ⟨v, hb⟩ := isObj_iff.1 hb
      rcases (h5 b v).1 hb with hb | ⟨hb, _⟩
      · exact .inr (isObj_iff.2 ⟨v, hb⟩)
      · exact .inl hb
    · rintro b k l j ⟨v, hb, hx, g1, g2, g3, g4⟩ hj0 hj1
      have hb' := (h5 b v).2 (.inl hb)
      have hne : b ≠ a := fun e => h4 (isObj_iff.2 ⟨v, e ▸ hb⟩)
      obtain ⟨q1, q2, q3, _⟩ := hb'.facts h1
      exact hfar _ (by omega) (by rcases hobj.apart h1 hb' with ⟨h, _⟩ | h | h <;> omega)
theorem alloct_err {R R' : List Rw} {ws ws' : List Int} {kind n a e : Int} (hA : AOk R ws) (h : Alloct R ws kind n a e R' ws') (hroom : objCount R < R.length) : e = if 0 ≤ n ∧ n ≤ 31 ∧ 1 ≤ kind ∧ kind ≤ 6 then 0 else 1 := by
  cases h with
  | arg h => rw [if_neg h]
  | room i s R' h ha => obtain ⟨_, h2⟩ := full_count hA.rows (ofN_slots n) ha; omega
  | ok i s _ R' h ha hi hat => rw [if_pos h]
theorem freet_none {R R' : List Rw} {a e : Int} (h : Freet R a e R') (hn : ¬ IsObj R a) : e = 8 ∧ R = R' := by
  cases h with
  | none h => exact ⟨rfl, rfl⟩
  | ok q s e he hs hat => exact absurd ⟨q, s, e, he, hs, hat⟩ hn
theorem stored_none {R : List Rw} {ws ws' : List Int} {a i x e : Int} (h : Stored R ws a i x e ws') (hn : ¬ IsObj R a) : e = 8 := by
  cases h with
  | none h => rfl
  | arg k l h hi => exact absurd h.obj hn
  | ok k l h hi => exact absurd h.obj hn
theorem rep2 : (List.replicate (2 : Int).toNat ((0, []) : Rw)) = List.replicate 2 (0, []) := rfl
set_option maxHeartbeats 4000000 in
theorem awake07_lx : CallF (fun _ => Try.prog) 9 [] [] 0 (fun r h n => r = .p (.bool true) ∧ h = [] ∧ n = 0) := by
  obtain ⟨Rz, hRz⟩ : ∃ Rz, Rz = List.replicate (2 : Int).toNat ((0, []) : Rw) := ⟨_, rfl⟩
  obtain ⟨wz, hwz⟩ : ∃ wz, wz = List.replicate (64 : Int).toNat (0 : Int) := ⟨_, rfl⟩
  have hA : AOk Rz wz := by rw [hRz, hwz]; exact AOk.new 2
  have hlz : Rz.length = 2 := by rw [hRz]; rfl
  have hcz : objCount Rz = 0 := by rw [hRz]; exact new_count 2
  have hRz0 : Rz = R0 := hRz
  obtain ⟨L0, hL0⟩ : ∃ L0, L0 = rpv Rz := ⟨_, rfl⟩
  obtain ⟨D0, hD0⟩ : ∃ D0, D0 = ipv wz := ⟨_, rfl⟩
  refine callF_of_body tok Try.func9 (by kernel_rfl) rfl rfl rfl ?_; conv => cbv
  refine CallF.le (args0 := [.p (.int .i64 (.sym 2))]) (callF_frame (newA_lx 2 64 (by decide) (by decide) rfl L0 D0 (by rw [hL0, hRz]) (by rw [hD0, hwz])) [] rfl trivial rfl rfl (fun r h' n' ⟨e1, e2, e3⟩ => ?_)) (by simp [ales, ale, pvle, I.val])
  subst e1 e2 e3
  conv => cbv
  refine CallF.le (args0 := [.ptr 0 (.lit 0), .p (.int .i64 (.sym 5)), .p (.int .i64 (.sym 2))]) (callF_frame (allocA_lx 5 2 Rz wz 2 64 L0 D0 hL0 hD0 (by rw [hlz]; rfl) (by omega) hA rfl) [(0, 0), (1, 1), (2, 2), (3, 3)] rfl (by simp [hmapOk, nget, hget, renB, okB, renV, renVs, rn, okVs, okV]) rfl rfl (fun r h' n' hrr => ?_)) (by simp [ales, ale, pvle, I.val])
  obtain ⟨a, e, R1, w1, L1, D1, e1, e2, e3, hL1, hD1, hAl⟩ := hrr
  subst e1 e2 e3
  conv => cbv
  have he : e = 0 := by have := alloct_err hA hAl (by omega); rw [if_pos (by decide)] at this; exact this
  obtain ⟨hA1, hl1⟩ := hA.alloct hAl
  obtain ⟨hk1, _⟩ := alloct_ok hA hAl he
  have ha0 : a = 0 ∧ R1 = [(0, (List.replicate 8 false).set 0 true), (0, [])] := by
    cases hAl with
    | arg h => exact absurd he (by decide)
    | room i s R' h ha => exact absurd he (by decide)
    | ok i s _ R' h ha hi hat =>
      rw [hRz0] at ha
      rcases alloced_new ha with ⟨_, h2⟩ | ⟨_, h2, h3, _, h4⟩
      · cases h2
      · exact ⟨by rw [hat, h2, h3]; rfl, h4⟩
  obtain ⟨ha0, hR1⟩ := ha0
  have hn2 : (2 : Int) = R1.length := by rw [hl1, hlz]; rfl
  have hr2 : R1.length ≤ 1000 := by omega
  refine CallF.le (args0 := [.ptr 0 (.lit 0), .p (.int .i64 (.sym a)), .p (.int .i64 (.sym 1)), .p (.int .i64 (.sym 7))]) (callF_frame (store_lx 1 7 R1 w1 2 a 64 L1 D1 hL1 hD1 hn2 hr2 hA1 rfl) [(0, 0), (1, 1), (2, 2), (3, 3)] rfl (by simp [hmapOk, nget, hget, renB, okB, renV, renVs, rn, okVs, okV]) rfl rfl (fun r h' n' hrr => ?_)) (by simp [ales, ale, pvle, I.val])
  obtain ⟨eg, w2, D2, e1, e2, e3, hD2, hSt⟩ := hrr
  subst e1 e2 e3
  conv => cbv
  obtain ⟨heg, hw2⟩ := stored_of hk1 ⟨by decide, by decide⟩ hSt
  have hA2 := hA1.stored (by omega) hSt
  have hk2 : Kept R1 w2 a 5 2 := by
    obtain ⟨w, q1, q2, q3, q4, q5, q6⟩ := hk1
    have := q1.facts hA1.rows
    refine .mk 5 2 w q1 ?_ q3 q4 q5 q6
    rw [hw2, List.getElem?_set_ne (by omega)]; exact q2
  refine CallF.le (args0 := [.ptr 0 (.lit 0), .p (.int .i64 (.sym a)), .p (.int .i64 (.sym 1))]) (callF_frame (load_lx 1 R1 w2 2 a 64 L1 D2 hL1 hD2 hn2 hr2 hA2 rfl) [(0, 0), (1, 1), (2, 2), (3, 3)] rfl (by simp [hmapOk, nget, hget, renB, okB, renV, renVs, rn, okVs, okV]) rfl rfl (fun r h' n' hrr => ?_)) (by simp [ales, ale, pvle, I.val])
  obtain ⟨x, eh, e1, e2, e3, hLd⟩ := hrr
  subst e1 e2 e3
  conv => cbv
  obtain ⟨heh, hx⟩ := loaded_of hk2 ⟨by decide, by decide⟩ hLd
  have hx7 : x = 7 := by
    have := hA1.len
    rw [hw2, ha0, List.getElem?_set_self (by rw [hl1, hlz] at this; show 2 < w1.length; omega)] at hx
    exact (Option.some.inj hx).symm
  refine Br.mk (fun g => ?_) (fun g => ?_)
  case refine_2 =>
    have gf : False := g he
    cases gf
  conv => cbv
  refine Br.mk (fun g => ?_) (fun g => ?_)
  case refine_2 =>
    have gf : False := g ha0
    cases gf
  conv => cbv
  refine Br.mk (fun g => ?_) (fun g => ?_)
  case refine_2 =>
    have gf : False := g heg
    cases gf
  conv => cbv
  refine Br.mk (fun g => ?_) (fun g => ?_)
  case refine_2 =>
    have gf : False := g heh
    cases gf
  conv => cbv
  refine Br.mk (fun g => ?_) (fun g => ?_)
  case refine_2 =>
    have gf : False := g hx7
    cases gf
  conv => cbv
  refine CallF.le (args0 := [.ptr 0 (.lit 0), .p (.int .i64 (.sym 0))]) (callF_frame (kind_lx R1 w2 2 0 64 L1 D2 hL1 hD2 hn2 hr2 hA2 rfl) [(0, 0), (1, 1), (2, 2), (3, 3)] rfl (by simp [hmapOk, nget, hget, renB, okB, renV, renVs, rn, okVs, okV]) rfl rfl (fun r h' n' hrr => ?_)) (by simp [ales, ale, pvle, I.val])
  obtain ⟨kv, e1, e2, e3, hKv⟩ := hrr
  subst e1 e2 e3
  conv => cbv
  have hkv : kv = 5 := kindR_of (ha0 ▸ hk2) hKv
  refine Br.mk (fun g => ?_) (fun g => ?_)
  case refine_2 =>
    have gf : False := g hkv
    cases gf
  conv => cbv
  refine CallF.le (args0 := [.ptr 0 (.lit 0), .p (.int .i64 (.sym 0))]) (callF_frame (len_lx R1 w2 2 0 64 L1 D2 hL1 hD2 hn2 hr2 hA2 rfl) [(0, 0), (1, 1), (2, 2), (3, 3)] rfl (by simp [hmapOk, nget, hget, renB, okB, renV, renVs, rn, okVs, okV]) rfl rfl (fun r h' n' hrr => ?_)) (by simp [ales, ale, pvle, I.val])
  obtain ⟨lv, e1, e2, e3, hLv⟩ := hrr
  subst e1 e2 e3
  conv => cbv
  have hlv : lv = 2 := lenR_of (ha0 ▸ hk2) hLv
  refine Br.mk (fun g => ?_) (fun g => ?_)
  case refine_2 =>
    have gf : False := g hlv
    cases gf
  conv => cbv
  refine callF_frame (usedA_lx R1 w2 2 64 L1 D2 hL1 hD2 hn2 hr2 hA2 rfl 4 (by rw [hR1]; decide)) [(0, 0), (1, 1), (2, 2), (3, 3)] rfl (by simp [hmapOk, nget, hget, renB, okB, renV, renVs, rn, okVs, okV]) rfl rfl (fun r h' n' ⟨e1, e2, e3⟩ => ?_)
  subst e1 e2 e3
  conv => cbv
  refine Br.mk (fun g => ?_) (fun g => ?_)
  case refine_2 =>
    have gf : False := g rfl
    cases gf
  conv => cbv
  refine callF_frame (wordsA_lx R1 w2 2 64 L1 D2 hL1 hD2 hn2 hr2 hA2 rfl) [(0, 0), (1, 1), (2, 2), (3, 3)] rfl (by simp [hmapOk, nget, hget, renB, okB, renV, renVs, rn, okVs, okV]) rfl rfl (fun r h' n' ⟨e1, e2, e3⟩ => ?_)
  subst e1 e2 e3
  conv => cbv
  refine Br.mk (fun g => ?_) (fun g => ?_)
  case refine_2 =>
    have gf : False := g rfl
    cases gf
  conv => cbv
  refine RetF.mk [.p (.bool true)] [] 0 (Re.of [] [] (by first | exact Nat.zero_le _ | exact Nat.le_refl _ | decide | (dsimp only; decide)) rfl rfl (by (try (conv => cbv)); (repeat' (first | exact trivial | rfl | exact SEq.mk rfl | (exact SEq.mk (by first | assumption | (symm; assumption))) | (simp only [I.val]; done) | (simp only [I.val]; omega) | omega | assumption | (refine And.intro ?_ ?_) | exact Or.inl rfl | exact Or.inr (by assumption) | exact List.Mem.head _ | exact List.Mem.tail _ (List.Mem.head _) | exact ⟨_, rfl⟩ | exact ⟨_, rfl, Or.inl rfl⟩ | (refine ⟨_, rfl, Or.inr ?_⟩; (try (conv => cbv))) | (simp only [I.val] at *; first | omega | (subst_vars; rfl) | simp_all) | (refine Or.inr ?_; (try (conv => cbv)))))) (by (try (conv => cbv)); (repeat' (first | exact trivial | rfl | exact SEq.mk rfl | (exact SEq.mk (by first | assumption | (symm; assumption))) | (simp only [I.val]; done) | (simp only [I.val]; omega) | omega | assumption | (refine And.intro ?_ ?_) | exact Or.inl rfl | exact Or.inr (by assumption) | exact List.Mem.head _ | exact List.Mem.tail _ (List.Mem.head _) | exact ⟨_, rfl⟩ | exact ⟨_, rfl, Or.inl rfl⟩ | (refine ⟨_, rfl, Or.inr ?_⟩; (try (conv => cbv))) | (simp only [I.val] at *; first | omega | (subst_vars; rfl) | simp_all) | (refine Or.inr ?_; (try (conv => cbv))))))) rfl ⟨rfl, rfl, rfl⟩
set_option maxHeartbeats 4000000 in
theorem arenaRefuses_law (kind n at_ : Int) (hk0 : -9223372036854775808 ≤ kind ∧ kind ≤ 9223372036854775807) (hn0 : -9223372036854775808 ≤ n ∧ n ≤ 9223372036854775807) (ha0 : -9223372036854775808 ≤ at_ ∧ at_ ≤ 9223372036854775807) :
    CallF (fun _ => Try.prog) 5 [.p (.int .i64 (.sym kind)), .p (.int .i64 (.sym n)), .p (.int .i64 (.sym at_))] [] 0 (fun r _ _ => r = .p (.bool true)) := by
  obtain ⟨Rz, hRz⟩ : ∃ Rz, Rz = List.replicate (2 : Int).toNat ((0, []) : Rw) := ⟨_, rfl⟩
  obtain ⟨wz, hwz⟩ : ∃ wz, wz = List.replicate (64 : Int).toNat (0 : Int) := ⟨_, rfl⟩
  have hA : AOk Rz wz := by rw [hRz, hwz]; exact AOk.new 2
  have hno : ∀ a, ¬ IsObj Rz a := by rw [hRz]; exact new_none 2
  have hlz : Rz.length = 2 := by rw [hRz]; rfl
  have hn2 : (2 : Int) = Rz.length := by rw [hlz]; rfl
  have hcz : objCount Rz = 0 := by rw [hRz]; exact new_count 2
  obtain ⟨L0, hL0⟩ : ∃ L0, L0 = rpv Rz := ⟨_, rfl⟩
  obtain ⟨D0, hD0⟩ : ∃ D0, D0 = ipv wz := ⟨_, rfl⟩
  refine callF_of_body tok Try.func5 (by kernel_rfl) rfl rfl rfl ?_; conv => cbv
  refine CallF.le (args0 := [.p (.int .i64 (.sym 2))]) (callF_frame (newA_lx 2 64 (by decide) (by decide) rfl L0 D0 (by rw [hL0, hRz]) (by rw [hD0, hwz])) [] rfl trivial rfl rfl (fun r h' n' ⟨e1, e2, e3⟩ => ?_)) (by simp [ales, ale, pvle, I.val])
  subst e1 e2 e3
  conv => cbv
  refine callF_frame awake07_lx [] rfl trivial rfl rfl (fun r h' n' ⟨e1, e2, e3⟩ => ?_)
  subst e1 e2 e3
  conv => cbv
  refine callF_frame (allocA_lx kind n Rz wz 2 64 L0 D0 hL0 hD0 hn2 (by omega) hA rfl) [(0, 0), (1, 1), (2, 2), (3, 3)] rfl (by simp [hmapOk, nget, hget, renB, okB, renV, renVs, rn, okVs, okV]) rfl rfl (fun r h' n' hrr => ?_)
  obtain ⟨a, e, R1, w1, L1, D1, e1, e2, e3, hL1, hD1, hAl⟩ := hrr
  subst e1 e2 e3
  conv => cbv
  have he := alloct_err hA hAl (by omega)
  refine Br.mk (fun g0 => ?_) (fun g0 => ?_)
  · have g0 : 1 ≤ kind := g0
    conv => cbv
    refine Br.mk (fun g1 => ?_) (fun g1 => ?_)
    · have g1 : kind ≤ 6 := g1
      conv => cbv
      refine Br.mk (fun g2 => ?_) (fun g2 => ?_)
      · have g2 : 0 ≤ n := g2
        conv => cbv
        refine Br.mk (fun g3 => ?_) (fun g3 => ?_)
        · have g3 : n ≤ 31 := g3
          conv => cbv
          have he1 : e = 0 := by rw [if_pos (by omega)] at he; exact he
          refine CallF.le (args0 := [.p (.int .i64 (.sym 1))]) (callF_frame (newA_arg 1 (by decide)) [] rfl trivial rfl rfl (fun r h' n' ⟨e1, e2, e3⟩ => ?_)) (by simp [ales, ale, pvle, I.val])
          subst e1 e2 e3
          conv => cbv
          refine callF_frame (allocA_nil (.lit 1) (.lit 1)) [] rfl trivial rfl rfl (fun r h' n' ⟨e1, e2, e3⟩ => ?_)
          subst e1 e2 e3
          conv => cbv
          refine callF_frame (loadA_nil (.lit 0) (.lit 0)) [] rfl trivial rfl rfl (fun r h' n' ⟨e1, e2, e3⟩ => ?_)
          subst e1 e2 e3
          conv => cbv
          refine CallF.le (args0 := [.p (.int .i64 (.sym 2))]) (callF_frame (newA_lx 2 64 (by decide) (by decide) rfl L0 D0 (by rw [hL0, hRz]) (by rw [hD0, hwz])) [] rfl trivial rfl rfl (fun r h' n' ⟨e1, e2, e3⟩ => ?_)) (by simp [ales, ale, pvle, I.val])
          subst e1 e2 e3
          conv => cbv
          refine Br.mk (fun g => ?_) (fun g => ?_)
          case refine_2 =>
            have gf : False := g he1
            cases gf
          conv => cbv
          refine Br.mk (fun g => ?_) (fun g => ?_)
          case refine_2 =>
            have gf : False := g he1
            cases gf
          conv => cbv
          refine Br.mk (fun g => ?_) (fun g => ?_)
          case refine_2 =>
            have gf : False := g rfl
            cases gf
          conv => cbv
          refine Br.mk (fun g => ?_) (fun g => ?_)
          case refine_2 =>
            have gf : False := g rfl
            cases gf
          conv => cbv
          refine Br.mk (fun g => ?_) (fun g => ?_)
          case refine_2 =>
            have gf : False := g rfl
            cases gf
          conv => cbv
          refine callF_frame (freeA_nil (.lit 0)) [] rfl trivial rfl rfl (fun r h' n' ⟨e1, e2, e3⟩ => ?_)
          subst e1 e2 e3
          conv => cbv
          refine Br.mk (fun g => ?_) (fun g => ?_)
          case refine_2 =>
            have gf : False := g rfl
            cases gf
          conv => cbv
          refine callF_frame (storeA_nil (.lit 0) (.lit 0) (.lit 0)) [] rfl trivial rfl rfl (fun r h' n' ⟨e1, e2, e3⟩ => ?_)
          subst e1 e2 e3
          conv => cbv
          refine Br.mk (fun g => ?_) (fun g => ?_)
          case refine_2 =>
            have gf : False := g rfl
            cases gf
          conv => cbv
          refine callF_frame (kind_nil (.lit 0)) [] rfl trivial rfl rfl (fun r h' n' ⟨e1, e2, e3⟩ => ?_)
          subst e1 e2 e3
          conv => cbv
          refine Br.mk (fun g => ?_) (fun g => ?_)
          case refine_2 =>
            have gf : False := g rfl
            cases gf
          conv => cbv
          refine callF_frame (lenA_nil (.lit 0)) [] rfl trivial rfl rfl (fun r h' n' ⟨e1, e2, e3⟩ => ?_)
          subst e1 e2 e3
          conv => cbv
          refine Br.mk (fun g => ?_) (fun g => ?_)
          case refine_2 =>
            have gf : False := g rfl
            cases gf
          conv => cbv
          refine callF_frame (objects_nil) [] rfl trivial rfl rfl (fun r h' n' ⟨e1, e2, e3⟩ => ?_)
          subst e1 e2 e3
          conv => cbv
          refine callF_frame (usedA_nil) [] rfl trivial rfl rfl (fun r h' n' ⟨e1, e2, e3⟩ => ?_)
          subst e1 e2 e3
          conv => cbv
          refine Br.mk (fun g => ?_) (fun g => ?_)
          case refine_2 =>
            have gf : False := g rfl
            cases gf
          conv => cbv
          refine callF_frame (wordsA_nil) [] rfl trivial rfl rfl (fun r h' n' ⟨e1, e2, e3⟩ => ?_)
          subst e1 e2 e3
          conv => cbv
          refine Br.mk (fun g => ?_) (fun g => ?_)
          case refine_2 =>
            have gf : False := g rfl
            cases gf
          conv => cbv
          refine callF_frame (freeA_lx at_ Rz wz 2 64 L0 D0 hL0 hD0 hn2 (by omega) hA rfl) [(0, 4), (1, 5), (2, 6), (3, 7)] rfl (by simp [hmapOk, nget, hget, renB, okB, renV, renVs, rn, okVs, okV]) rfl rfl (fun r h' n' hrr => ?_)
          obtain ⟨eb, R3, L3, e1, e2, e3, hL3, hFr⟩ := hrr
          subst e1 e2 e3
          conv => cbv
          obtain ⟨heb, hR3⟩ := freet_none hFr (hno at_)
          subst hR3
          refine Br.mk (fun g => ?_) (fun g => ?_)
          case refine_2 =>
            have gf : False := g heb
            cases gf
          conv => cbv
          refine CallF.le (args0 := [.ptr 4 (.lit 0), .p (.int .i64 (.sym at_)), .p (.int .i64 (.sym 0)), .p (.int .i64 (.sym 1))]) (callF_frame (store_lx 0 1 Rz wz 2 at_ 64 L3 D0 hL3 hD0 hn2 (by omega) hA rfl) [(0, 4), (1, 5), (2, 6), (3, 7)] rfl (by simp [hmapOk, nget, hget, renB, okB, renV, renVs, rn, okVs, okV]) rfl rfl (fun r h' n' hrr => ?_)) (by simp [ales, ale, pvle, I.val])
          obtain ⟨ec, w3, D3, e1, e2, e3, hD3, hSt⟩ := hrr
          subst e1 e2 e3
          conv => cbv
          have hec := stored_none hSt (hno at_)
          refine Br.mk (fun g => ?_) (fun g => ?_)
          case refine_2 =>
            have gf : False := g hec
            cases gf
          conv => cbv
          refine RetF.mk [.p (.bool true)] [] 0 (Re.of [] [] (by first | exact Nat.zero_le _ | exact Nat.le_refl _ | decide | (dsimp only; decide)) rfl rfl (by (try (conv => cbv)); (repeat' (first | exact trivial | rfl | exact SEq.mk rfl | (exact SEq.mk (by first | assumption | (symm; assumption))) | (simp only [I.val]; done) | (simp only [I.val]; omega) | omega | assumption | (refine And.intro ?_ ?_) | exact Or.inl rfl | exact Or.inr (by assumption) | exact List.Mem.head _ | exact List.Mem.tail _ (List.Mem.head _) | exact ⟨_, rfl⟩ | exact ⟨_, rfl, Or.inl rfl⟩ | (refine ⟨_, rfl, Or.inr ?_⟩; (try (conv => cbv))) | (simp only [I.val] at *; first | omega | (subst_vars; rfl) | simp_all) | (refine Or.inr ?_; (try (conv => cbv)))))) (by (try (conv => cbv)); (repeat' (first | exact trivial | rfl | exact SEq.mk rfl | (exact SEq.mk (by first | assumption | (symm; assumption))) | (simp only [I.val]; done) | (simp only [I.val]; omega) | omega | assumption | (refine And.intro ?_ ?_) | exact Or.inl rfl | exact Or.inr (by assumption) | exact List.Mem.head _ | exact List.Mem.tail _ (List.Mem.head _) | exact ⟨_, rfl⟩ | exact ⟨_, rfl, Or.inl rfl⟩ | (refine ⟨_, rfl, Or.inr ?_⟩; (try (conv => cbv))) | (simp only [I.val] at *; first | omega | (subst_vars; rfl) | simp_all) | (refine Or.inr ?_; (try (conv => cbv))))))) rfl rfl
        · have g3 : ¬ n ≤ 31 := g3
          conv => cbv
          have he1 : e = 1 := by rw [if_neg (by omega)] at he; exact he
          refine CallF.le (args0 := [.p (.int .i64 (.sym 1))]) (callF_frame (newA_arg 1 (by decide)) [] rfl trivial rfl rfl (fun r h' n' ⟨e1, e2, e3⟩ => ?_)) (by simp [ales, ale, pvle, I.val])
          subst e1 e2 e3
          conv => cbv
          refine callF_frame (allocA_nil (.lit 1) (.lit 1)) [] rfl trivial rfl rfl (fun r h' n' ⟨e1, e2, e3⟩ => ?_)
          subst e1 e2 e3
          conv => cbv
          refine callF_frame (loadA_nil (.lit 0) (.lit 0)) [] rfl trivial rfl rfl (fun r h' n' ⟨e1, e2, e3⟩ => ?_)
          subst e1 e2 e3
          conv => cbv
          refine CallF.le (args0 := [.p (.int .i64 (.sym 2))]) (callF_frame (newA_lx 2 64 (by decide) (by decide) rfl L0 D0 (by rw [hL0, hRz]) (by rw [hD0, hwz])) [] rfl trivial rfl rfl (fun r h' n' ⟨e1, e2, e3⟩ => ?_)) (by simp [ales, ale, pvle, I.val])
          subst e1 e2 e3
          conv => cbv
          refine Br.mk (fun g => ?_) (fun g => ?_)
          case refine_1 =>
            have gf : False := by have g : e = 0 := g; omega
            cases gf
          conv => cbv
          refine Br.mk (fun g => ?_) (fun g => ?_)
          case refine_1 =>
            have gf : False := by have g : e = 0 := g; omega
            cases gf
          conv => cbv
          refine Br.mk (fun g => ?_) (fun g => ?_)
          case refine_2 =>
            have gf : False := g he1
            cases gf
          conv => cbv
          refine Br.mk (fun g => ?_) (fun g => ?_)
          case refine_2 =>
            have gf : False := g rfl
            cases gf
          conv => cbv
          refine Br.mk (fun g => ?_) (fun g => ?_)
          case refine_2 =>
            have gf : False := g rfl
            cases gf
          conv => cbv
          refine Br.mk (fun g => ?_) (fun g => ?_)
          case refine_2 =>
            have gf : False := g rfl
            cases gf
          conv => cbv
          refine callF_frame (freeA_nil (.lit 0)) [] rfl trivial rfl rfl (fun r h' n' ⟨e1, e2, e3⟩ => ?_)
          subst e1 e2 e3
          conv => cbv
          refine Br.mk (fun g => ?_) (fun g => ?_)
          case refine_2 =>
            have gf : False := g rfl
            cases gf
          conv => cbv
          refine callF_frame (storeA_nil (.lit 0) (.lit 0) (.lit 0)) [] rfl trivial rfl rfl (fun r h' n' ⟨e1, e2, e3⟩ => ?_)
          subst e1 e2 e3
          conv => cbv
          refine Br.mk (fun g => ?_) (fun g => ?_)
          case refine_2 =>
            have gf : False := g rfl
            cases gf
          conv => cbv
          refine callF_frame (kind_nil (.lit 0)) [] rfl trivial rfl rfl (fun r h' n' ⟨e1, e2, e3⟩ => ?_)
          subst e1 e2 e3
          conv => cbv
          refine Br.mk (fun g => ?_) (fun g => ?_)
          case refine_2 =>
            have gf : False := g rfl
            cases gf
          conv => cbv
          refine callF_frame (lenA_nil (.lit 0)) [] rfl trivial rfl rfl (fun r h' n' ⟨e1, e2, e3⟩ => ?_)
          subst e1 e2 e3
          conv => cbv
          refine Br.mk (fun g => ?_) (fun g => ?_)
          case refine_2 =>
            have gf : False := g rfl
            cases gf
          conv => cbv
          refine callF_frame (objects_nil) [] rfl trivial rfl rfl (fun r h' n' ⟨e1, e2, e3⟩ => ?_)
          subst e1 e2 e3
          conv => cbv
          refine callF_frame (usedA_nil) [] rfl trivial rfl rfl (fun r h' n' ⟨e1, e2, e3⟩ => ?_)
          subst e1 e2 e3
          conv => cbv
          refine Br.mk (fun g => ?_) (fun g => ?_)
          case refine_2 =>
            have gf : False := g rfl
            cases gf
          conv => cbv
          refine callF_frame (wordsA_nil) [] rfl trivial rfl rfl (fun r h' n' ⟨e1, e2, e3⟩ => ?_)
          subst e1 e2 e3
          conv => cbv
          refine Br.mk (fun g => ?_) (fun g => ?_)
          case refine_2 =>
            have gf : False := g rfl
            cases gf
          conv => cbv
          refine callF_frame (freeA_lx at_ Rz wz 2 64 L0 D0 hL0 hD0 hn2 (by omega) hA rfl) [(0, 4), (1, 5), (2, 6), (3, 7)] rfl (by simp [hmapOk, nget, hget, renB, okB, renV, renVs, rn, okVs, okV]) rfl rfl (fun r h' n' hrr => ?_)
          obtain ⟨eb, R3, L3, e1, e2, e3, hL3, hFr⟩ := hrr
          subst e1 e2 e3
          conv => cbv
          obtain ⟨heb, hR3⟩ := freet_none hFr (hno at_)
          subst hR3
          refine Br.mk (fun g => ?_) (fun g => ?_)
          case refine_2 =>
            have gf : False := g heb
            cases gf
          conv => cbv
          refine CallF.le (args0 := [.ptr 4 (.lit 0), .p (.int .i64 (.sym at_)), .p (.int .i64 (.sym 0)), .p (.int .i64 (.sym 1))]) (callF_frame (store_lx 0 1 Rz wz 2 at_ 64 L3 D0 hL3 hD0 hn2 (by omega) hA rfl) [(0, 4), (1, 5), (2, 6), (3, 7)] rfl (by simp [hmapOk, nget, hget, renB, okB, renV, renVs, rn, okVs, okV]) rfl rfl (fun r h' n' hrr => ?_)) (by simp [ales, ale, pvle, I.val])
          obtain ⟨ec, w3, D3, e1, e2, e3, hD3, hSt⟩ := hrr
          subst e1 e2 e3
          conv => cbv
          have hec := stored_none hSt (hno at_)
          refine Br.mk (fun g => ?_) (fun g => ?_)
          case refine_2 =>
            have gf : False := g hec
            cases gf
          conv => cbv
          refine RetF.mk [.p (.bool true)] [] 0 (Re.of [] [] (by first | exact Nat.zero_le _ | exact Nat.le_refl _ | decide | (dsimp only; decide)) rfl rfl (by (try (conv => cbv)); (repeat' (first | exact trivial | rfl | exact SEq.mk rfl | (exact SEq.mk (by first | assumption | (symm; assumption))) | (simp only [I.val]; done) | (simp only [I.val]; omega) | omega | assumption | (refine And.intro ?_ ?_) | exact Or.inl rfl | exact Or.inr (by assumption) | exact List.Mem.head _ | exact List.Mem.tail _ (List.Mem.head _) | exact ⟨_, rfl⟩ | exact ⟨_, rfl, Or.inl rfl⟩ | (refine ⟨_, rfl, Or.inr ?_⟩; (try (conv => cbv))) | (simp only [I.val] at *; first | omega | (subst_vars; rfl) | simp_all) | (refine Or.inr ?_; (try (conv => cbv)))))) (by (try (conv => cbv)); (repeat' (first | exact trivial | rfl | exact SEq.mk rfl | (exact SEq.mk (by first | assumption | (symm; assumption))) | (simp only [I.val]; done) | (simp only [I.val]; omega) | omega | assumption | (refine And.intro ?_ ?_) | exact Or.inl rfl | exact Or.inr (by assumption) | exact List.Mem.head _ | exact List.Mem.tail _ (List.Mem.head _) | exact ⟨_, rfl⟩ | exact ⟨_, rfl, Or.inl rfl⟩ | (refine ⟨_, rfl, Or.inr ?_⟩; (try (conv => cbv))) | (simp only [I.val] at *; first | omega | (subst_vars; rfl) | simp_all) | (refine Or.inr ?_; (try (conv => cbv))))))) rfl rfl
      · have g2 : ¬ 0 ≤ n := g2
        conv => cbv
        have he1 : e = 1 := by rw [if_neg (by omega)] at he; exact he
        refine CallF.le (args0 := [.p (.int .i64 (.sym 1))]) (callF_frame (newA_arg 1 (by decide)) [] rfl trivial rfl rfl (fun r h' n' ⟨e1, e2, e3⟩ => ?_)) (by simp [ales, ale, pvle, I.val])
        subst e1 e2 e3
        conv => cbv
        refine callF_frame (allocA_nil (.lit 1) (.lit 1)) [] rfl trivial rfl rfl (fun r h' n' ⟨e1, e2, e3⟩ => ?_)
        subst e1 e2 e3
        conv => cbv
        refine callF_frame (loadA_nil (.lit 0) (.lit 0)) [] rfl trivial rfl rfl (fun r h' n' ⟨e1, e2, e3⟩ => ?_)
        subst e1 e2 e3
        conv => cbv
        refine CallF.le (args0 := [.p (.int .i64 (.sym 2))]) (callF_frame (newA_lx 2 64 (by decide) (by decide) rfl L0 D0 (by rw [hL0, hRz]) (by rw [hD0, hwz])) [] rfl trivial rfl rfl (fun r h' n' ⟨e1, e2, e3⟩ => ?_)) (by simp [ales, ale, pvle, I.val])
        subst e1 e2 e3
        conv => cbv
        refine Br.mk (fun g => ?_) (fun g => ?_)
        case refine_1 =>
          have gf : False := by have g : e = 0 := g; omega
          cases gf
        conv => cbv
        refine Br.mk (fun g => ?_) (fun g => ?_)
        case refine_1 =>
          have gf : False := by have g : e = 0 := g; omega
          cases gf
        conv => cbv
        refine Br.mk (fun g => ?_) (fun g => ?_)
        case refine_2 =>
          have gf : False := g he1
          cases gf
        conv => cbv
        refine Br.mk (fun g => ?_) (fun g => ?_)
        case refine_2 =>
          have gf : False := g rfl
          cases gf
        conv => cbv
        refine Br.mk (fun g => ?_) (fun g => ?_)
        case refine_2 =>
          have gf : False := g rfl
          cases gf
        conv => cbv
        refine Br.mk (fun g => ?_) (fun g => ?_)
        case refine_2 =>
          have gf : False := g rfl
          cases gf
        conv => cbv
        refine callF_frame (freeA_nil (.lit 0)) [] rfl trivial rfl rfl (fun r h' n' ⟨e1, e2, e3⟩ => ?_)
        subst e1 e2 e3
        conv => cbv
        refine Br.mk (fun g => ?_) (fun g => ?_)
        case refine_2 =>
          have gf : False := g rfl
          cases gf
        conv => cbv
        refine callF_frame (storeA_nil (.lit 0) (.lit 0) (.lit 0)) [] rfl trivial rfl rfl (fun r h' n' ⟨e1, e2, e3⟩ => ?_)
        subst e1 e2 e3
        conv => cbv
        refine Br.mk (fun g => ?_) (fun g => ?_)
        case refine_2 =>
          have gf : False := g rfl
          cases gf
        conv => cbv
        refine callF_frame (kind_nil (.lit 0)) [] rfl trivial rfl rfl (fun r h' n' ⟨e1, e2, e3⟩ => ?_)
        subst e1 e2 e3
        conv => cbv
        refine Br.mk (fun g => ?_) (fun g => ?_)
        case refine_2 =>
          have gf : False := g rfl
          cases gf
        conv => cbv
        refine callF_frame (lenA_nil (.lit 0)) [] rfl trivial rfl rfl (fun r h' n' ⟨e1, e2, e3⟩ => ?_)
        subst e1 e2 e3
        conv => cbv
        refine Br.mk (fun g => ?_) (fun g => ?_)
        case refine_2 =>
          have gf : False := g rfl
          cases gf
        conv => cbv
        refine callF_frame (objects_nil) [] rfl trivial rfl rfl (fun r h' n' ⟨e1, e2, e3⟩ => ?_)
        subst e1 e2 e3
        conv => cbv
        refine callF_frame (usedA_nil) [] rfl trivial rfl rfl (fun r h' n' ⟨e1, e2, e3⟩ => ?_)
        subst e1 e2 e3
        conv => cbv
        refine Br.mk (fun g => ?_) (fun g => ?_)
        case refine_2 =>
          have gf : False := g rfl
          cases gf
        conv => cbv
        refine callF_frame (wordsA_nil) [] rfl trivial rfl rfl (fun r h' n' ⟨e1, e2, e3⟩ => ?_)
        subst e1 e2 e3
        conv => cbv
        refine Br.mk (fun g => ?_) (fun g => ?_)
        case refine_2 =>
          have gf : False := g rfl
          cases gf
        conv => cbv
        refine callF_frame (freeA_lx at_ Rz wz 2 64 L0 D0 hL0 hD0 hn2 (by omega) hA rfl) [(0, 4), (1, 5), (2, 6), (3, 7)] rfl (by simp [hmapOk, nget, hget, renB, okB, renV, renVs, rn, okVs, okV]) rfl rfl (fun r h' n' hrr => ?_)
        obtain ⟨eb, R3, L3, e1, e2, e3, hL3, hFr⟩ := hrr
        subst e1 e2 e3
        conv => cbv
        obtain ⟨heb, hR3⟩ := freet_none hFr (hno at_)
        subst hR3
        refine Br.mk (fun g => ?_) (fun g => ?_)
        case refine_2 =>
          have gf : False := g heb
          cases gf
        conv => cbv
        refine CallF.le (args0 := [.ptr 4 (.lit 0), .p (.int .i64 (.sym at_)), .p (.int .i64 (.sym 0)), .p (.int .i64 (.sym 1))]) (callF_frame (store_lx 0 1 Rz wz 2 at_ 64 L3 D0 hL3 hD0 hn2 (by omega) hA rfl) [(0, 4), (1, 5), (2, 6), (3, 7)] rfl (by simp [hmapOk, nget, hget, renB, okB, renV, renVs, rn, okVs, okV]) rfl rfl (fun r h' n' hrr => ?_)) (by simp [ales, ale, pvle, I.val])
        obtain ⟨ec, w3, D3, e1, e2, e3, hD3, hSt⟩ := hrr
        subst e1 e2 e3
        conv => cbv
        have hec := stored_none hSt (hno at_)
        refine Br.mk (fun g => ?_) (fun g => ?_)
        case refine_2 =>
          have gf : False := g hec
          cases gf
        conv => cbv
        refine RetF.mk [.p (.bool true)] [] 0 (Re.of [] [] (by first | exact Nat.zero_le _ | exact Nat.le_refl _ | decide | (dsimp only; decide)) rfl rfl (by (try (conv => cbv)); (repeat' (first | exact trivial | rfl | exact SEq.mk rfl | (exact SEq.mk (by first | assumption | (symm; assumption))) | (simp only [I.val]; done) | (simp only [I.val]; omega) | omega | assumption | (refine And.intro ?_ ?_) | exact Or.inl rfl | exact Or.inr (by assumption) | exact List.Mem.head _ | exact List.Mem.tail _ (List.Mem.head _) | exact ⟨_, rfl⟩ | exact ⟨_, rfl, Or.inl rfl⟩ | (refine ⟨_, rfl, Or.inr ?_⟩; (try (conv => cbv))) | (simp only [I.val] at *; first | omega | (subst_vars; rfl) | simp_all) | (refine Or.inr ?_; (try (conv => cbv)))))) (by (try (conv => cbv)); (repeat' (first | exact trivial | rfl | exact SEq.mk rfl | (exact SEq.mk (by first | assumption | (symm; assumption))) | (simp only [I.val]; done) | (simp only [I.val]; omega) | omega | assumption | (refine And.intro ?_ ?_) | exact Or.inl rfl | exact Or.inr (by assumption) | exact List.Mem.head _ | exact List.Mem.tail _ (List.Mem.head _) | exact ⟨_, rfl⟩ | exact ⟨_, rfl, Or.inl rfl⟩ | (refine ⟨_, rfl, Or.inr ?_⟩; (try (conv => cbv))) | (simp only [I.val] at *; first | omega | (subst_vars; rfl) | simp_all) | (refine Or.inr ?_; (try (conv => cbv))))))) rfl rfl
    · have g1 : ¬ kind ≤ 6 := g1
      conv => cbv
      have he1 : e = 1 := by rw [if_neg (by omega)] at he; exact he
      refine CallF.le (args0 := [.p (.int .i64 (.sym 1))]) (callF_frame (newA_arg 1 (by decide)) [] rfl trivial rfl rfl (fun r h' n' ⟨e1, e2, e3⟩ => ?_)) (by simp [ales, ale, pvle, I.val])
      subst e1 e2 e3
      conv => cbv
      refine callF_frame (allocA_nil (.lit 1) (.lit 1)) [] rfl trivial rfl rfl (fun r h' n' ⟨e1, e2, e3⟩ => ?_)
      subst e1 e2 e3
      conv => cbv
      refine callF_frame (loadA_nil (.lit 0) (.lit 0)) [] rfl trivial rfl rfl (fun r h' n' ⟨e1, e2, e3⟩ => ?_)
      subst e1 e2 e3
      conv => cbv
      refine CallF.le (args0 := [.p (.int .i64 (.sym 2))]) (callF_frame (newA_lx 2 64 (by decide) (by decide) rfl L0 D0 (by rw [hL0, hRz]) (by rw [hD0, hwz])) [] rfl trivial rfl rfl (fun r h' n' ⟨e1, e2, e3⟩ => ?_)) (by simp [ales, ale, pvle, I.val])
      subst e1 e2 e3
      conv => cbv
      refine Br.mk (fun g => ?_) (fun g => ?_)
      case refine_1 =>
        have gf : False := by have g : e = 0 := g; omega
        cases gf
      conv => cbv
      refine Br.mk (fun g => ?_) (fun g => ?_)
      case refine_1 =>
        have gf : False := by have g : e = 0 := g; omega
        cases gf
      conv => cbv
      refine Br.mk (fun g => ?_) (fun g => ?_)
      case refine_2 =>
        have gf : False := g he1
        cases gf
      conv => cbv
      refine Br.mk (fun g => ?_) (fun g => ?_)
      case refine_2 =>
        have gf : False := g rfl
        cases gf
      conv => cbv
      refine Br.mk (fun g => ?_) (fun g => ?_)
      case refine_2 =>
        have gf : False := g rfl
        cases gf
      conv => cbv
      refine Br.mk (fun g => ?_) (fun g => ?_)
      case refine_2 =>
        have gf : False := g rfl
        cases gf
      conv => cbv
      refine callF_frame (freeA_nil (.lit 0)) [] rfl trivial rfl rfl (fun r h' n' ⟨e1, e2, e3⟩ => ?_)
      subst e1 e2 e3
      conv => cbv
      refine Br.mk (fun g => ?_) (fun g => ?_)
      case refine_2 =>
        have gf : False := g rfl
        cases gf
      conv => cbv
      refine callF_frame (storeA_nil (.lit 0) (.lit 0) (.lit 0)) [] rfl trivial rfl rfl (fun r h' n' ⟨e1, e2, e3⟩ => ?_)
      subst e1 e2 e3
      conv => cbv
      refine Br.mk (fun g => ?_) (fun g => ?_)
      case refine_2 =>
        have gf : False := g rfl
        cases gf
      conv => cbv
      refine callF_frame (kind_nil (.lit 0)) [] rfl trivial rfl rfl (fun r h' n' ⟨e1, e2, e3⟩ => ?_)
      subst e1 e2 e3
      conv => cbv
      refine Br.mk (fun g => ?_) (fun g => ?_)
      case refine_2 =>
        have gf : False := g rfl
        cases gf
      conv => cbv
      refine callF_frame (lenA_nil (.lit 0)) [] rfl trivial rfl rfl (fun r h' n' ⟨e1, e2, e3⟩ => ?_)
      subst e1 e2 e3
      conv => cbv
      refine Br.mk (fun g => ?_) (fun g => ?_)
      case refine_2 =>
        have gf : False := g rfl
        cases gf
      conv => cbv
      refine callF_frame (objects_nil) [] rfl trivial rfl rfl (fun r h' n' ⟨e1, e2, e3⟩ => ?_)
      subst e1 e2 e3
      conv => cbv
      refine callF_frame (usedA_nil) [] rfl trivial rfl rfl (fun r h' n' ⟨e1, e2, e3⟩ => ?_)
      subst e1 e2 e3
      conv => cbv
      refine Br.mk (fun g => ?_) (fun g => ?_)
      case refine_2 =>
        have gf : False := g rfl
        cases gf
      conv => cbv
      refine callF_frame (wordsA_nil) [] rfl trivial rfl rfl (fun r h' n' ⟨e1, e2, e3⟩ => ?_)
      subst e1 e2 e3
      conv => cbv
      refine Br.mk (fun g => ?_) (fun g => ?_)
      case refine_2 =>
        have gf : False := g rfl
        cases gf
      conv => cbv
      refine callF_frame (freeA_lx at_ Rz wz 2 64 L0 D0 hL0 hD0 hn2 (by omega) hA rfl) [(0, 4), (1, 5), (2, 6), (3, 7)] rfl (by simp [hmapOk, nget, hget, renB, okB, renV, renVs, rn, okVs, okV]) rfl rfl (fun r h' n' hrr => ?_)
      obtain ⟨eb, R3, L3, e1, e2, e3, hL3, hFr⟩ := hrr
      subst e1 e2 e3
      conv => cbv
      obtain ⟨heb, hR3⟩ := freet_none hFr (hno at_)
      subst hR3
      refine Br.mk (fun g => ?_) (fun g => ?_)
      case refine_2 =>
        have gf : False := g heb
        cases gf
      conv => cbv
      refine CallF.le (args0 := [.ptr 4 (.lit 0), .p (.int .i64 (.sym at_)), .p (.int .i64 (.sym 0)), .p (.int .i64 (.sym 1))]) (callF_frame (store_lx 0 1 Rz wz 2 at_ 64 L3 D0 hL3 hD0 hn2 (by omega) hA rfl) [(0, 4), (1, 5), (2, 6), (3, 7)] rfl (by simp [hmapOk, nget, hget, renB, okB, renV, renVs, rn, okVs, okV]) rfl rfl (fun r h' n' hrr => ?_)) (by simp [ales, ale, pvle, I.val])
      obtain ⟨ec, w3, D3, e1, e2, e3, hD3, hSt⟩ := hrr
      subst e1 e2 e3
      conv => cbv
      have hec := stored_none hSt (hno at_)
      refine Br.mk (fun g => ?_) (fun g => ?_)
      case refine_2 =>
        have gf : False := g hec
        cases gf
      conv => cbv
      refine RetF.mk [.p (.bool true)] [] 0 (Re.of [] [] (by first | exact Nat.zero_le _ | exact Nat.le_refl _ | decide | (dsimp only; decide)) rfl rfl (by (try (conv => cbv)); (repeat' (first | exact trivial | rfl | exact SEq.mk rfl | (exact SEq.mk (by first | assumption | (symm; assumption))) | (simp only [I.val]; done) | (simp only [I.val]; omega) | omega | assumption | (refine And.intro ?_ ?_) | exact Or.inl rfl | exact Or.inr (by assumption) | exact List.Mem.head _ | exact List.Mem.tail _ (List.Mem.head _) | exact ⟨_, rfl⟩ | exact ⟨_, rfl, Or.inl rfl⟩ | (refine ⟨_, rfl, Or.inr ?_⟩; (try (conv => cbv))) | (simp only [I.val] at *; first | omega | (subst_vars; rfl) | simp_all) | (refine Or.inr ?_; (try (conv => cbv)))))) (by (try (conv => cbv)); (repeat' (first | exact trivial | rfl | exact SEq.mk rfl | (exact SEq.mk (by first | assumption | (symm; assumption))) | (simp only [I.val]; done) | (simp only [I.val]; omega) | omega | assumption | (refine And.intro ?_ ?_) | exact Or.inl rfl | exact Or.inr (by assumption) | exact List.Mem.head _ | exact List.Mem.tail _ (List.Mem.head _) | exact ⟨_, rfl⟩ | exact ⟨_, rfl, Or.inl rfl⟩ | (refine ⟨_, rfl, Or.inr ?_⟩; (try (conv => cbv))) | (simp only [I.val] at *; first | omega | (subst_vars; rfl) | simp_all) | (refine Or.inr ?_; (try (conv => cbv))))))) rfl rfl
  · have g0 : ¬ 1 ≤ kind := g0
    conv => cbv
    have he1 : e = 1 := by rw [if_neg (by omega)] at he; exact he
    refine CallF.le (args0 := [.p (.int .i64 (.sym 1))]) (callF_frame (newA_arg 1 (by decide)) [] rfl trivial rfl rfl (fun r h' n' ⟨e1, e2, e3⟩ => ?_)) (by simp [ales, ale, pvle, I.val])
    subst e1 e2 e3
    conv => cbv
    refine callF_frame (allocA_nil (.lit 1) (.lit 1)) [] rfl trivial rfl rfl (fun r h' n' ⟨e1, e2, e3⟩ => ?_)
    subst e1 e2 e3
    conv => cbv
    refine callF_frame (loadA_nil (.lit 0) (.lit 0)) [] rfl trivial rfl rfl (fun r h' n' ⟨e1, e2, e3⟩ => ?_)
    subst e1 e2 e3
    conv => cbv
    refine CallF.le (args0 := [.p (.int .i64 (.sym 2))]) (callF_frame (newA_lx 2 64 (by decide) (by decide) rfl L0 D0 (by rw [hL0, hRz]) (by rw [hD0, hwz])) [] rfl trivial rfl rfl (fun r h' n' ⟨e1, e2, e3⟩ => ?_)) (by simp [ales, ale, pvle, I.val])
    subst e1 e2 e3
    conv => cbv
    refine Br.mk (fun g => ?_) (fun g => ?_)
    case refine_1 =>
      have gf : False := by have g : e = 0 := g; omega
      cases gf
    conv => cbv
    refine Br.mk (fun g => ?_) (fun g => ?_)
    case refine_1 =>
      have gf : False := by have g : e = 0 := g; omega
      cases gf
    conv => cbv
    refine Br.mk (fun g => ?_) (fun g => ?_)
    case refine_2 =>
      have gf : False := g he1
      cases gf
    conv => cbv
    refine Br.mk (fun g => ?_) (fun g => ?_)
    case refine_2 =>
      have gf : False := g rfl
      cases gf
    conv => cbv
    refine Br.mk (fun g => ?_) (fun g => ?_)
    case refine_2 =>
      have gf : False := g rfl
      cases gf
    conv => cbv
    refine Br.mk (fun g => ?_) (fun g => ?_)
    case refine_2 =>
      have gf : False := g rfl
      cases gf
    conv => cbv
    refine callF_frame (freeA_nil (.lit 0)) [] rfl trivial rfl rfl (fun r h' n' ⟨e1, e2, e3⟩ => ?_)
    subst e1 e2 e3
    conv => cbv
    refine Br.mk (fun g => ?_) (fun g => ?_)
    case refine_2 =>
      have gf : False := g rfl
      cases gf
    conv => cbv
    refine callF_frame (storeA_nil (.lit 0) (.lit 0) (.lit 0)) [] rfl trivial rfl rfl (fun r h' n' ⟨e1, e2, e3⟩ => ?_)
    subst e1 e2 e3
    conv => cbv
    refine Br.mk (fun g => ?_) (fun g => ?_)
    case refine_2 =>
      have gf : False := g rfl
      cases gf
    conv => cbv
    refine callF_frame (kind_nil (.lit 0)) [] rfl trivial rfl rfl (fun r h' n' ⟨e1, e2, e3⟩ => ?_)
    subst e1 e2 e3
    conv => cbv
    refine Br.mk (fun g => ?_) (fun g => ?_)
    case refine_2 =>
      have gf : False := g rfl
      cases gf
    conv => cbv
    refine callF_frame (lenA_nil (.lit 0)) [] rfl trivial rfl rfl (fun r h' n' ⟨e1, e2, e3⟩ => ?_)
    subst e1 e2 e3
    conv => cbv
    refine Br.mk (fun g => ?_) (fun g => ?_)
    case refine_2 =>
      have gf : False := g rfl
      cases gf
    conv => cbv
    refine callF_frame (objects_nil) [] rfl trivial rfl rfl (fun r h' n' ⟨e1, e2, e3⟩ => ?_)
    subst e1 e2 e3
    conv => cbv
    refine callF_frame (usedA_nil) [] rfl trivial rfl rfl (fun r h' n' ⟨e1, e2, e3⟩ => ?_)
    subst e1 e2 e3
    conv => cbv
    refine Br.mk (fun g => ?_) (fun g => ?_)
    case refine_2 =>
      have gf : False := g rfl
      cases gf
    conv => cbv
    refine callF_frame (wordsA_nil) [] rfl trivial rfl rfl (fun r h' n' ⟨e1, e2, e3⟩ => ?_)
    subst e1 e2 e3
    conv => cbv
    refine Br.mk (fun g => ?_) (fun g => ?_)
    case refine_2 =>
      have gf : False := g rfl
      cases gf
    conv => cbv
    refine callF_frame (freeA_lx at_ Rz wz 2 64 L0 D0 hL0 hD0 hn2 (by omega) hA rfl) [(0, 4), (1, 5), (2, 6), (3, 7)] rfl (by simp [hmapOk, nget, hget, renB, okB, renV, renVs, rn, okVs, okV]) rfl rfl (fun r h' n' hrr => ?_)
    obtain ⟨eb, R3, L3, e1, e2, e3, hL3, hFr⟩ := hrr
    subst e1 e2 e3
    conv => cbv
    obtain ⟨heb, hR3⟩ := freet_none hFr (hno at_)
    subst hR3
    refine Br.mk (fun g => ?_) (fun g => ?_)
    case refine_2 =>
      have gf : False := g heb
      cases gf
    conv => cbv
    refine CallF.le (args0 := [.ptr 4 (.lit 0), .p (.int .i64 (.sym at_)), .p (.int .i64 (.sym 0)), .p (.int .i64 (.sym 1))]) (callF_frame (store_lx 0 1 Rz wz 2 at_ 64 L3 D0 hL3 hD0 hn2 (by omega) hA rfl) [(0, 4), (1, 5), (2, 6), (3, 7)] rfl (by simp [hmapOk, nget, hget, renB, okB, renV, renVs, rn, okVs, okV]) rfl rfl (fun r h' n' hrr => ?_)) (by simp [ales, ale, pvle, I.val])
    obtain ⟨ec, w3, D3, e1, e2, e3, hD3, hSt⟩ := hrr
    subst e1 e2 e3
    conv => cbv
    have hec := stored_none hSt (hno at_)
    refine Br.mk (fun g => ?_) (fun g => ?_)
    case refine_2 =>
      have gf : False := g hec
      cases gf
    conv => cbv
    refine RetF.mk [.p (.bool true)] [] 0 (Re.of [] [] (by first | exact Nat.zero_le _ | exact Nat.le_refl _ | decide | (dsimp only; decide)) rfl rfl (by (try (conv => cbv)); (repeat' (first | exact trivial | rfl | exact SEq.mk rfl | (exact SEq.mk (by first | assumption | (symm; assumption))) | (simp only [I.val]; done) | (simp only [I.val]; omega) | omega | assumption | (refine And.intro ?_ ?_) | exact Or.inl rfl | exact Or.inr (by assumption) | exact List.Mem.head _ | exact List.Mem.tail _ (List.Mem.head _) | exact ⟨_, rfl⟩ | exact ⟨_, rfl, Or.inl rfl⟩ | (refine ⟨_, rfl, Or.inr ?_⟩; (try (conv => cbv))) | (simp only [I.val] at *; first | omega | (subst_vars; rfl) | simp_all) | (refine Or.inr ?_; (try (conv => cbv)))))) (by (try (conv => cbv)); (repeat' (first | exact trivial | rfl | exact SEq.mk rfl | (exact SEq.mk (by first | assumption | (symm; assumption))) | (simp only [I.val]; done) | (simp only [I.val]; omega) | omega | assumption | (refine And.intro ?_ ?_) | exact Or.inl rfl | exact Or.inr (by assumption) | exact List.Mem.head _ | exact List.Mem.tail _ (List.Mem.head _) | exact ⟨_, rfl⟩ | exact ⟨_, rfl, Or.inl rfl⟩ | (refine ⟨_, rfl, Or.inr ?_⟩; (try (conv => cbv))) | (simp only [I.val] at *; first | omega | (subst_vars; rfl) | simp_all) | (refine Or.inr ?_; (try (conv => cbv))))))) rfl rfl
end Go.Proofs.Ytlakoemonbadiaa
